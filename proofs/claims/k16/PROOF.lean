import PyProof.Rows.All
import Wide.All
import OpenK.AllK
import Wide.FinOn
import KE.RegKCallOwn
import PyProof.InstNe
import HandS.ForMost
import HandS.OwnEq
import HandS.Evl
import HandS.IsInst
import HandS.FStr
import HandS.StrMore
import HandS.Defaults
import KE.KRevSl
import HandS.Strs
import HandS.Wide
import HandS.Style
import PySem.Challenge.RW_overtaken_k16_whole_rules_that_do_nothin
import HandS.Zip
import HandS.ClsMeth
import HandS.Exc
import KE.KUnpackStar
import HandS.ExcValue
import HandS.Walk
import KE.GoesEnumKw
import KE.GoesMore
import HandS.TupAny
import HandS.Star
import HandS.MakeKwOnly
import HandS.MakeKw
import HandS.Flow
import HandS.More
import KE.GoesEnum
import HandS.Dict
import HandS.Small
import HandS.Finally
import PyProof.DictUpdate
import HandS.RaiseMore
import PyProof.ReprRoads
import HandS.Ends
import HandS.Words
import HandS.ForExc
import KE.KOpsOwn
import KE.KStateDown
import Lean
import HandS.Head0
import HandS.Head1
import HandS.Head2
import HandS.HeadEnd
import HandS.HeadHook1
import HandS.HeadHook2
import HandS.HeadHook3
import HandS.HeadHook4
import HandS.HeadNt
set_option Elab.async false
set_option linter.all false
set_option maxRecDepth 100000
set_option maxHeartbeats 0
namespace Ov
open PySem PySem.Spec PyProof.Rows L2
/-! ### object's __ne__ over an own __eq__ -/
section
variable {M : Model} {prog : Program} {w : World} {A : Around} {E : Value → Shared → Prop} {s : Shared} {K : PySem.W.Frag} {x C f : Addr} {ox : Obj} {od : Option Obj}
theorem bound_ne {rest : List Value} {Q : Option Value → Shared → Prop} (kin : K.In s.heap) (J : PySem.W.InstAt s.heap x ox C od) (hn : PySem.W.findIn K (.ref C) "__ne__" = some (some (.builtin "object.__ne__")))
    (run : wpAny M A (call (.builtin "object.__ne__") (.ref x :: rest)) (fun r => Q (some r)) E s) : wpAny M A (callSpecialIfBound? (.ref x) "__ne__" rest) Q E s := by
  simp only [callSpecialIfBound?, bindSpecialIfBound?]
  refine wpAny_holding (wpAny_bind (wpAny_bind (wpAny_bind (J.type.here ((PySem.W.looks_findIn kin hn).here ?_)))))
  refine wpAny_bind (wpAny_askSetting (wpAny_ite ?_))
  have last : wpAny M A (call (.builtin "object.__ne__") ([.ref x] ++ rest) >>= fun r => pure (some r)) Q E s := wpAny_bind (wpAny_mono run (fun r s1 h1 => wpAny_pure h1) fun _ _ h1 => h1)
  split
  · exact wpAny_bind (wpAny_of_eq (F.cmp_object.ne.bind _) (wpAny_pure (by exact last)))
  · exact wpAny_tryCatch (wpAny_bind (wpAny_of_eq (F.cmp_object.ne.bind _) (wpAny_pure (by exact last))))
theorem objNe_run {y : Addr} {Q : Fin → Shared → Prop} (hu : A.units < cLine) (kin : K.In s.heap) (J : PySem.W.InstAt s.heap x ox C od) (hs : PySem.W.findIn K (.ref C) "__eq__" = some (some (.ref f))) (hf : PySem.W.isFn K (.ref f) = true)
    (run : wpAny (model prog w) A (call (.ref f) [.ref x, .ref y]) (fun v s1 => ∃ b, v = .bool b ∧ Q (.done (.ret (.bool (!b)))) s1) E s) : wpAny (model prog w) A (Builtin.«object.__ne__» ⟨[.ref x, .ref y], []⟩) Q E s := by
  unfold Builtin.«object.__ne__»
  refine wpAny_bind (m := slotArgs "__ne__" 1 _) (wpAny_pure ?_)
  refine wpAny_bind (m := cRoomFor _ _) (wpAny_cRoomFor hu ?_)
  refine wpAny_bind (m := callSpecialIfBound? (.ref x) (Str.ofString "__eq__") _) (PySem.W.ifBound_K kin J hs hf (wpAny_mono run (fun r s1 h1 => ?_) fun _ _ z => z))
  obtain ⟨b, rfl, q⟩ := h1
  exact wpAny_bind (wpAny_truthy_bool (wpAny_pure q))
end
section
variable {X : Cx} {CX : CXT} {k : Nat} {f C : Addr} {fd : FuncData} {ps : List Str} {sp : Sp} {E : XK}
/-- a def run somewhere below the body -/
theorem run_sub {A : Around} (F : FnOk X.prog X.w X.K X.mg X.base CX k f fd ps sp) (sb : Sub X k A) (hb : Binds X.K fd ps []) (hx : Passes CX X E) {pins : List (Addr × Obj)} {σ : L2.St} {H : Hp} {s : Shared} {vs : List V} {us : List Value} {Q : VK}
    (I : Inv X pins σ H s) (r : Vals vs us) (h : sp vs H Q E) : wpAny (model X.prog X.w) A (call (.ref f) us) (EP X pins σ Q) X.xe s := by
  have e0 : Env0 X.prog X.w X.K X.mg X.base A X.stack s H := by
    have e := I.env0
    exact ⟨by rw [sb.fr]; exact e.frames, e.mod, e.bs, e.bsz, e.funs, e.frf, e.hok, e.bare⟩
  have hl : (us ++ []).length = ps.length := by rw [List.append_nil, ← r.length]; exact F.len _ _ _ _ h
  refine wpAny_call (codeAny_mono (F.run A X.stack s H ⟨us, []⟩ us vs Q E sb.room e0 (by
    have := hb s us I.kIn hl
    simpa using this) r h) fun r s' hq => ?_)
  cases r with
  | error e => exact hx pins σ H s e s' I hq
  | ok fl =>
    cases fl with
    | ret u => exact I.after hq
    | next => exact False.elim hq
    | brk => exact False.elim hq
    | cont => exact False.elim hq
theorem sub0 (hr : Room k X.A) : Sub X k X.A := ⟨hr, rfl⟩
theorem sub1 (hr : Room (k + 1) X.A) : Sub X k X.A.in1 := Sub.in1 ⟨hr, rfl⟩
theorem sub2 (hr : Room (k + 2) X.A) : Sub X k X.A.in1.in1 := Sub.in1 (Sub.in1 (n := k + 1) ⟨hr, rfl⟩)

/-- x == y of two instances of the class at C by its own __eq__ -/
def rEqI (C : Addr) (sp : Sp) (E : XK) : R2 := fun x y H Q => ∃ a b dx dy fs gs, x = .ref a ∧ y = .ref b ∧ H a = some (.ins C dx fs) ∧ H b = some (.ins C dy gs) ∧ sp [x, y] H (fun v H' => ∃ b, v = .bl b ∧ Q (.bl b) H') E
theorem op_eqI (F : FnOk X.prog X.w X.K X.mg X.base CX k f fd ps sp) (hr : Room k X.A) (hs : PySem.W.findIn X.K (.ref C) "__eq__" = some (some (.ref f))) (hf : PySem.W.isFn X.K (.ref f) = true) (hb : Binds X.K fd ps []) (hx : Passes CX X E) :
    OpR X (compareOp .Eq) (rEqI C sp E) := by
  intro pins s σ H x y v u Q I rx ry h
  obtain ⟨a, b, dx, dy, fs, gs, rfl, rfl, ha, hb', hq⟩ := h
  cases rx
  cases ry
  obtain ⟨mA, J, _⟩ := ins_get I.hok ha
  obtain ⟨mB, J', _⟩ := ins_get I.hok hb'
  obtain ⟨od, J, _⟩ := J.look
  obtain ⟨od', J', _⟩ := J'.look
  obtain ⟨m, hF⟩ := I.fr
  show wpAny (model X.prog X.w) X.A (richCompare .Eq (.ref a) (.ref b)) _ _ s
  refine PySem.W.cmp_K (op := .Eq) (tb := .ref C) hr.units0 hF I.ok.mod.kin J J'.type (by simp [PySem.W.notFirst]) hs hf ?_
  refine wpAny_mono (run_sub F (sub0 hr) hb hx I (vs := [.ref a, .ref b]) (us := [.ref a, .ref b]) (.cons rfl (.cons rfl .nil)) hq) (fun v s' hv => ?_) fun _ _ z => z
  obtain ⟨z, H', I', rz, c, rfl, q⟩ := hv
  cases rz
  exact ⟨.bl c, H', I', rfl, q⟩

/-- str(x) by the class's own __str__ -/
def rStrI (C : Addr) (sp : Sp) (E : XK) : List V → Hp → VK → Prop := fun xs H Q => ∃ a dx fs, xs = [.ref a] ∧ H a = some (.ins C dx fs) ∧ sp [.ref a] H (fun v H' => ∃ z, v = .str z ∧ Q (.str z) H') E
theorem call_strI (F : FnOk X.prog X.w X.K X.mg X.base CX k f fd ps sp) (hr : Room (k + 2) X.A) (hs : PySem.W.findIn X.K (.ref C) "__str__" = some (some (.ref f))) (hf : PySem.W.isFn X.K (.ref f) = true) (hb : Binds X.K fd ps []) (hx : Passes CX X E) :
    CallR X (.type "str") (rStrI C sp E) := by
  intro pins s σ H xs us Q I r h
  obtain ⟨a, dx, fs, rfl, ha, hq⟩ := h
  obtain ⟨u, rfl, rx⟩ := vals1 r
  cases rx
  obtain ⟨mA, J, _⟩ := ins_get I.hok ha
  obtain ⟨od, J, _⟩ := J.look
  refine PySem.W.kso_call (sub2 hr).room.units0 I.kIn J hs hf ?_
  refine wpAny_mono (run_sub F (sub2 hr) hb hx I (vs := [.ref a]) (us := [.ref a]) (.cons rfl .nil) hq) (fun v s' hv => ?_) fun _ _ z => z
  obtain ⟨z, H', I', rz, c, rfl, q⟩ := hv
  obtain ⟨t, rfl⟩ := rz
  exact ⟨.str c, H', I', ⟨t, rfl⟩, q⟩
/-- x != y of two instances of the class at C, by its own __eq__ and object's __ne__ -/
def rNeI (C : Addr) (sp : Sp) (E : XK) : R2 := fun x y H Q => ∃ a b dx dy fs gs, x = .ref a ∧ y = .ref b ∧ H a = some (.ins C dx fs) ∧ H b = some (.ins C dy gs) ∧ sp [x, y] H (fun v H' => ∃ b, v = .bl b ∧ Q (.bl (!b)) H') E
theorem op_neI (F0 : FnOk X.prog X.w X.K X.mg X.base CX k f fd ps sp) (hr : Room (k + 1) X.A) (hs : PySem.W.findIn X.K (.ref C) "__eq__" = some (some (.ref f))) (hn : PySem.W.findIn X.K (.ref C) "__ne__" = some (some (.builtin "object.__ne__")))
    (hm : PySem.W.mroIn X.K C (.type "object") = some true) (hf : PySem.W.isFn X.K (.ref f) = true) (hb : Binds X.K fd ps []) (hx : Passes CX X E) :
    OpR X (compareOp .NotEq) (rNeI C sp E) := by
  intro pins s σ H x y v u Q I rx ry h
  obtain ⟨a, b, dx, dy, fs, gs, rfl, rfl, ha, hb', hq⟩ := h
  cases rx
  cases ry
  obtain ⟨mA, J, _⟩ := ins_get I.hok ha
  obtain ⟨mB, J', _⟩ := ins_get I.hok hb'
  obtain ⟨od, J, _⟩ := J.look
  obtain ⟨od', J', _⟩ := J'.look
  obtain ⟨m, hF⟩ := I.fr
  have hu := hr.units
  show wpAny (model X.prog X.w) X.A (richCompare .NotEq (.ref a) (.ref b)) _ _ s
  unfold richCompare
  simp only [oneThing_ref]
  refine wpAny_holding (wpAny_bind (wpAny_cRoomFor hr.units0 ?_))
  rw [cmpInfo_NotEq]
  dsimp only
  refine wpAny_bind (J.type.here (wpAny_bind (J'.type.here ?_)))
  rw [show (Value.ref C != Value.ref C) = false from by simp]
  simp only [Bool.false_eq_true, if_false]
  refine wpAny_bind (wpAny_pure ?_)
  simp only [Bool.false_eq_true, if_false]
  simp only [tryCompare]
  refine wpAny_bind (wpAny_bind (bound_ne I.kIn J hn (wpAny_call (codeAny_call_builtin F.cmp_object.ne.plain F.cmpEntry_ne (PySem.W.check_slot F.cmpKind_ne F.cmpSplit_ne (J.type.andThen (PySem.W.looks_mroIn I.kIn hm)) (F.cmpArgs_ne _ _) ?_)))))
  refine objNe_run (by show X.A.units + 1 < cLine; omega) I.kIn J hs hf (wpAny_mono (run_sub F0 (sub1 hr) hb hx I (vs := [.ref a, .ref b]) (us := [.ref a, .ref b]) (.cons rfl (.cons rfl .nil)) hq) (fun v s' hv => ?_) fun _ _ z => z)
  obtain ⟨z, H', I', rz, c, rfl, q⟩ := hv
  cases rz
  exact ⟨c, rfl, wpAny_pure (wpAny_pure ⟨.bl (!c), H', I', rfl, q⟩)⟩
/-- x[i] of an instance of the class at C, by its own __getitem__ -/
def rIxI (C : Addr) (sp : Sp) (E : XK) : R2 := fun x y H Q => ∃ a dx fs, x = .ref a ∧ H a = some (.ins C dx fs) ∧ sp [x, y] H Q E
theorem pe_ixI {e i : Expr} {pos : Pos} {ta tb : TE} (F0 : FnOk X.prog X.w X.K X.mg X.base CX k f fd ps sp) (hr : Room (k + 1) X.A) (hs : PySem.W.findIn X.K (.ref C) "__getitem__" = some (some (.ref f))) (hfn : PySem.W.fnIn X.K f = true) (hf : PySem.W.isFn X.K (.ref f) = true)
    (hb : Binds X.K fd ps []) (hx : Passes CX X E) (he : PE X e ta) (hi : PE X i tb) (hsl : ∀ (a : Addr) (v : Value), subscripted i true (.ref a) v = runValue (.builtin "lifetime.subscript" ⟨[.ref a, v], []⟩) := by intro _ _; with_unfolding_all rfl) :
    PE X (.Subscript e i pos) (tOp (rIxI C sp E) ta tb) := by
  refine ⟨fun pins s σ H Q I h => ?_⟩
  refine Subscript_ (binT he hi I h fun v u s2 x y H2 I2 rx ry q => ?_)
  obtain ⟨a, dx, fs, rfl, ha, hq⟩ := q
  cases rx
  obtain ⟨mA, J, _⟩ := ins_get I2.hok ha
  obtain ⟨od, J, _⟩ := J.look
  obtain ⟨m, hF⟩ := I2.fr
  exact PySem.W.sub_K hF I2.ok.mod.kin J hs hfn hf (run_sub F0 (sub1 hr) hb hx I2 (vs := [.ref a, y]) (us := [.ref a, u]) (.cons rfl (.cons ry .nil)) hq) (hsl a u)
end
/-! ### what is walked is a list or a tuple -/
section
variable {X : Cx}
theorem pi_alt {tg it : Expr} {w1 w2 : TI} (h1 : PI X tg it w1) (h2 : PI X tg it w2) : PI X tg it (fun σ H R => w1 σ H R ∨ w2 σ H R) :=
  ⟨fun pins s σ H R I h => h.elim (h1.run pins s σ H R I) (h2.run pins s σ H R I)⟩
def iBoth (K : PySem.W.Frag) (te : TE) : TI := fun σ H R => iList K te σ H R ∨ iTup K te σ H R
theorem pi_both {tg e : Expr} {te : TE} (he : PE X e te) : PI X tg e (iBoth X.K te) := pi_alt (pi_list he) (pi_tup he)
end
section
open Evl
variable {K : PySem.W.Frag} {σ : L2.St} {H : Hp} {te tl : TE} {D : Ends}
theorem given_all (n : Nat) (v : Nat → V) : given n (fun _ => true) v = (List.range n).map v := by
  unfold given
  rw [List.filter_eq_self.mpr fun _ _ => rfl]
theorem et_yes : EvT tYes σ H true := fun H1 _ _ q => q H1 (Ex.refl H1)
theorem el_lcT {a : Addr} {xs : List V} {j : Nat} {vs : List Nat} (v : Nat → V) (h : Ev tl σ H (.ref a)) (hx : SqT K H a xs) (hz : xs.length ≤ 40000) (hw : ∀ x, wipe ((wipe σ vs).set j (some x)) vs = wipe σ vs)
    (he : ∀ (i : Nat) (x : V) H1, Ex H H1 → xs[i]? = some x → Ev te ((wipe σ vs).set j (some x)) H1 (v i)) : EvL (tLc (iTup K tl) (gName j) tYes te vs) σ H ((List.range xs.length).map v) := fun H0 e Q q => h H0 e _ fun H1 e1 => ⟨a, rfl, ⟨xs, ex_t (e.trans e1) hx⟩, fun L hL =>
  lc_tup (xs := xs) (Cw H1 (fun _ => true) v L) ⟨hL, Ex.new hL, upd_same⟩ (fun i H' _ p => ex_t ((e.trans e1).trans p.2.1) hx)
    (fun i x H' hi p => ⟨hw x, cw_turn p (by have := (List.getElem?_eq_some_iff.mp hi).1; omega) et_yes (fun _ => he i x H1 (e.trans e1) hi)⟩)
    (fun H' p => q L H' (fresh_back e1 p.1) (e1.trans p.2.1) (by rw [← given_all]; exact p.2.2))⟩
theorem el_lcB {a : Addr} {xs : List V} {j : Nat} {vs : List Nat} (v : Nat → V) (h : Ev tl σ H (.ref a)) (hx : SqL K H a xs ∨ SqT K H a xs) (hz : xs.length ≤ 40000) (hw : ∀ x, wipe ((wipe σ vs).set j (some x)) vs = wipe σ vs)
    (he : ∀ (i : Nat) (x : V) H1, Ex H H1 → xs[i]? = some x → Ev te ((wipe σ vs).set j (some x)) H1 (v i)) : EvL (tLc (iBoth K tl) (gName j) tYes te vs) σ H ((List.range xs.length).map v) := fun H0 e Q q => by
  rcases hx with hx | hx
  · refine .inl (el_lcL (f := fun _ => true) (v := v) h hx hz hw (fun _ _ _ _ _ => et_yes) (fun i x H1 e1 hi _ => he i x H1 e1 hi) H0 e Q fun p H2 h1 h2 h3 => q p H2 h1 h2 ?_)
    rw [given_all] at h3
    exact h3
  · exact .inr (el_lcT v h hx hz hw he H0 e Q q)
theorem range_map {α : Type} (xs : List V) (g : V → α) (v : Nat → α) (h : ∀ i x, xs[i]? = some x → v i = g x) : (List.range xs.length).map v = xs.map g := by
  refine List.ext_getElem? fun i => ?_
  rw [List.getElem?_map, List.getElem?_map]
  by_cases hi : i < xs.length
  · rw [List.getElem?_range hi, List.getElem?_eq_getElem hi]
    exact congrArg some (h i _ (List.getElem?_eq_getElem hi))
  · rw [List.getElem?_eq_none (by rw [List.length_range]; omega), List.getElem?_eq_none (by omega)]
    rfl
end
section
open Evl
variable {P : Program} {w : World} {K : PySem.W.Frag} {mg : Str → Option Value} {base : Heap} {σ : L2.St} {H : Hp} {te : TE}
/-- a def with defaults that raises nothing -/
theorem FunD_ok0 {x qual : Str} {params : Arguments} {body : List Stmt} {scope : Scope} {dvs : List V} {kws : List (Str × V)} {f : Addr} {fd : FuncData} {N ps : List Str} {k : Nat} {sp : Sp} (F : FunD K x qual params body scope dvs kws f fd) (S : FnScope N ps scope)
    (len : ∀ vs H Q E, sp vs H Q E → vs.length = ps.length)
    (hbody : ∀ (cdv : Value) (A : Around) (outer : List Env) (s : Shared) (H : Hp) (vs : List V) (Q : VK) (E : XK), Room k (A.deeper (envOfC qual scope s.heap.objs.size f cdv)) → sp vs H Q E →
      ∃ t, PSs (cxOf CX0 P w K mg base N qual scope f cdv A outer s H E).nox body t ∧ t { nx := fun _ H' => Q .non H', rt := Q } (start N vs) H) : FnOk P w K mg base CX0 (k + 1) f fd ps sp :=
  F.ok S len fun cdv A outer s H vs Q E hr hsp => by
    obtain ⟨t, h, q⟩ := hbody cdv A outer s H vs Q E hr hsp
    exact ⟨t, h.nox, q⟩
theorem ev_all {bs : List Bool} (h : EvL te σ H (bs.map V.bl)) : Ev (tCB (rAll K) (tCons te tNil)) σ H (.bl (bs.all id)) := fun H1 e _ q =>
  h H1 e _ fun p H2 _ e2 hp => ⟨p, bs, rfl, sq_of hp, q H2 e2⟩
/-- a promise of one value, as an evaluation -/
theorem ev_call {sp : Sp} {ta : TA} {vs : List V} {v : V} (ha : EvA ta σ H vs) (h : ∀ H1, Ex H H1 → ∀ Q : VK, (∀ H2, Ex H1 H2 → Q v H2) → sp vs H1 Q E0) : Ev (tCall sp [] E0 ta) σ H v := fun H1 e Q q =>
  ha H1 e _ fun H2 e2 => by
    rw [List.append_nil]
    exact h H2 (e.trans e2) Q fun H3 e3 => q H3 (e2.trans e3)
theorem all_true (n : Nat) : (List.replicate n true).all id = true := by
  rw [List.all_eq_true]
  intro x hx
  exact (List.mem_replicate.mp hx).2
theorem range_true (n : Nat) : (List.range n).map (fun _ => V.bl true) = (List.replicate n true).map V.bl := by
  rw [List.map_const', List.length_range, List.map_replicate]
end
/-- tuple(x) of a list or a tuple: some tuple of the same items -/
def rTupAny (K : PySem.W.Frag) : List V → Hp → VK → Prop := fun xs H Q => ∃ p ys, xs = [.ref p] ∧ (SqL K H p ys ∨ SqT K H p ys) ∧ ∀ a H', Evl.Ex H H' → SqT K H' a ys → Q (.ref a) H'
theorem call_tuple_any {X : Cx} : CallR X (.type "tuple") (rTupAny X.K) := fun pins s σ H xs us Q I r h => by
  obtain ⟨p, ys, e, h1, h2⟩ := h
  refine call_tuple_of pins s σ H xs us Q I r ⟨p, ys, e, ?_⟩
  rcases h1 with h1 | h1
  · exact .inl ⟨h1, fun l hl => h2 l _ (Evl.Ex.new hl) (Evl.st_of upd_same)⟩
  · exact .inr ⟨h1, h2 p H (Evl.Ex.refl H) h1⟩
/-! ### tuples of texts compared -/
section
open Evl
theorem dp_strs {K : PySem.W.Frag} {H : Hp} : ∀ l : List Str, DpAll K H (l.map V.str) (l.map PyData.str)
  | [] => .nil
  | n :: r => .cons (.str n) (dp_strs r)
/-- texts of plain signs -/
def Plain (l : List Str) : Prop := ∀ x ∈ l, PyData.canLay0 (.str x) = true
theorem canLay_strs : ∀ l : List Str, Plain l → PyData.canLayAll0 (l.map PyData.str) = true
  | [], _ => rfl
  | n :: r, h => by
    show (PyData.canLay0 (.str n) && PyData.canLayAll0 (r.map PyData.str)) = true
    rw [canLay_strs r fun x hx => h x (List.mem_cons_of_mem _ hx), h n (List.mem_cons_self ..)]
    rfl
theorem depth_strs : ∀ l : List Str, PyData.depthAll (l.map PyData.str) = 0
  | [] => rfl
  | n :: r => by
    show max (PyData.depth (.str n)) (PyData.depthAll (r.map PyData.str)) = 0
    rw [depth_strs r]
    rfl
theorem shaped_strsT (l : List Str) (ok : Plain l) : SeqAt.shaped (.tuple (l.map PyData.str)) = true := by
  show (PyData.canLay0 (.tuple (l.map PyData.str)) && decide ((PyData.tuple (l.map PyData.str)).depth ≤ 64)) = true
  have h1 : PyData.canLay0 (.tuple (l.map PyData.str)) = true := canLay_strs l ok
  have h2 : (PyData.tuple (l.map PyData.str)).depth = 0 + 1 := by
    show PyData.depthAll (l.map PyData.str) + 1 = 0 + 1
    rw [depth_strs]
  rw [h1, h2]
  rfl
theorem shaped_strsL (l : List Str) (ok : Plain l) : SeqAt.shaped (.list (l.map PyData.str)) = true := by
  show (PyData.canLay0 (.list (l.map PyData.str)) && decide ((PyData.list (l.map PyData.str)).depth ≤ 64)) = true
  have h1 : PyData.canLay0 (.list (l.map PyData.str)) = true := canLay_strs l ok
  have h2 : (PyData.list (l.map PyData.str)).depth = 0 + 1 := by
    show PyData.depthAll (l.map PyData.str) + 1 = 0 + 1
    rw [depth_strs]
  rw [h1, h2]
  rfl
theorem eqvAll_strs : ∀ l m : List Str, PyData.eqvAll (l.map PyData.str) (m.map PyData.str) = decide (l = m)
  | [], [] => rfl
  | [], _ :: _ => rfl
  | _ :: _, [] => rfl
  | x :: l, y :: m => by
    show (x == y && PyData.eqvAll (l.map PyData.str) (m.map PyData.str)) = decide (x :: l = y :: m)
    rw [eqvAll_strs l m]
    by_cases h : x = y
    · subst h
      by_cases h2 : l = m
      · subst h2
        simp
      · simp [h2]
    · simp [h]
theorem eqv_strsT (l m : List Str) : PyData.eqv (.tuple (l.map PyData.str)) (.tuple (m.map PyData.str)) = decide (l = m) := eqvAll_strs l m
theorem eqv_strsL (l m : List Str) : PyData.eqv (.list (l.map PyData.str)) (.list (m.map PyData.str)) = decide (l = m) := eqvAll_strs l m
theorem rv_eqT {K : PySem.W.Frag} {H : Hp} {a b : Addr} {l m : List Str} (ol : Plain l) (om : Plain m) (ha : SqT K H a (l.map V.str)) (hb : SqT K H b (m.map V.str)) : RV (rEqD K) (.ref a) (.ref b) H (.bl (decide (l = m))) := fun H1 e _ q =>
  ⟨_, _, .tup (ex_t e ha) (dp_strs l), .tup (ex_t e hb) (dp_strs m), shaped_strsT l ol, shaped_strsT m om, by rw [eqv_strsT]; exact q H1 (Ex.refl H1)⟩
theorem rv_neT {K : PySem.W.Frag} {H : Hp} {a b : Addr} {l m : List Str} (ol : Plain l) (om : Plain m) (ha : SqT K H a (l.map V.str)) (hb : SqT K H b (m.map V.str)) : RV (rNeD K) (.ref a) (.ref b) H (.bl (!decide (l = m))) := fun H1 e _ q =>
  ⟨_, _, .tup (ex_t e ha) (dp_strs l), .tup (ex_t e hb) (dp_strs m), shaped_strsT l ol, shaped_strsT m om, by rw [eqv_strsT]; exact q H1 (Ex.refl H1)⟩
theorem ev_fld {K : PySem.W.Frag} {σ : L2.St} {H : Hp} {ta : TE} {a C dx : Addr} {fs : List (Str × V)} {f : Str} {v : V} (ha : Ev ta σ H (.ref a)) (ho : H a = some (.ins C dx fs)) (hc : Cls K C) (hn : NoAttr K C f) (hl : fs.lookup f = some v) :
    Ev (tFld K ta f) σ H v := fun H1 e _ q => ha H1 e _ fun H2 e2 => ⟨a, C, dx, fs, v, rfl, e2 _ _ (e _ _ ho), hc, hn, hl, q H2 e2⟩
theorem ev_isi {K : PySem.W.Frag} {σ : L2.St} {H : Hp} {ta : TA} {x c : V} {t u : Value} {b : Bool} (h : EvA ta σ H [x, c]) (k : ClsV c u) (ty : ∀ H1, Ex H H1 → TyX K H1 x t) (e : PySem.W.kitOne K t u = some b) : Ev (tCB (rIsi K) ta) σ H (.bl b) := fun H1 e1 _ q =>
  h H1 e1 _ fun H2 e2 => ⟨x, c, t, u, b, rfl, k, ty H2 (e1.trans e2), e, q H2 e2⟩
end
section
open Evl
variable {K : PySem.W.Frag} {σ : L2.St} {H : Hp} {ta tb to te : TE}
theorem ev_adds {x y : Str} (ha : Ev ta σ H (.str x)) (hb : Ev tb σ H (.str y)) (hz : x.length + y.length ≤ sizeLine) : Ev (tOp (fun x y H Q => ∃ i j, x = V.str i ∧ y = V.str j ∧ i.length + j.length ≤ sizeLine ∧ Q (V.str (i ++ j)) H) ta tb) σ H (.str (x ++ y)) :=
  ev_op ha hb fun H1 _ _ q => ⟨x, y, rfl, rfl, hz, q H1 (Ex.refl H1)⟩
theorem ev_join {x : Str} {a : Addr} {l : List Str} (ho : Ev to σ H (.str x)) (he : Ev te σ H (.ref a)) (hl : SqL K H a (l.map V.str) ∨ SqT K H a (l.map V.str)) (hz : (l.map (·.length)).sum + l.length * x.length ≤ 16777216) :
    Ev (tM1 (fun x xs H Q => ∃ a p, ∃ ys : List Str, x = .str a ∧ xs = [.ref p] ∧ (SqL K H p (ys.map V.str) ∨ SqT K H p (ys.map V.str)) ∧ (ys.map (·.length)).sum + ys.length * a.length ≤ 16777216 ∧ Q (.str (Txt.join a ys)) H) to te) σ H (.str (Str.join x l)) := fun H1 e Q q => by
  refine ho H1 e _ fun H2 e2 => ⟨⟨x, rfl⟩, he H2 (e.trans e2) _ fun H3 e3 => ⟨x, a, l, rfl, rfl, hl.imp (ex_l ((e.trans e2).trans e3)) (ex_t ((e.trans e2).trans e3)), hz, ?_⟩⟩
  rw [TL.join_eq]
  exact q H3 (e2.trans e3)
theorem ev_ixT {p : Addr} {xs : List V} {j : Nat} {v : V} (ha : Ev ta σ H (.ref p)) (hb : Ev tb σ H (.int (j : Int))) (hx : SqT K H p xs) (hj : xs[j]? = some v) : Ev (tOp (rIxT K) ta tb) σ H v := ev_op ha hb (rv_ixT hx (atI_nat hj))
end
/-! ### sorted of a list or a tuple of texts -/
section
variable {X : Cx}
def rSortedB (K : PySem.W.Frag) : List V → Hp → VK → Prop := fun vs H Q => ∃ (a : Addr) (xs : List Str), vs = [V.ref a] ∧ (SqL K H a (xs.map V.str) ∨ SqT K H a (xs.map V.str)) ∧ xs.length < 64 ∧ ∀ (ys : List Str) (p : Addr), ys.Perm xs → sortedS ys = true → H p = none → Q (.ref p) (upd H p (.lst (ys.map V.str)))
theorem cr_sortedB : CallR X (.builtin "sorted") (rSortedB X.K) := by
  intro pins s σ H vs us Q I r h
  obtain ⟨a, xs, rfl, hs, h64, q⟩ := h
  rw [Vals.ref1 r]
  obtain ⟨its, T, o, n, rv, hT, ho, hc, hd⟩ : ∃ (its : List Value) (T : String) (o : Obj) (n : Nat), Vals (xs.map V.str) its ∧ (T = "list" ∨ T = "tuple") ∧ s.heap.get? a = some o ∧ o.cls = .type T ∧ o.data = .seq its.toArray n := by
    rcases hs with hs | hs
    · obtain ⟨its, r', pl, _⟩ := I.list hs
      obtain ⟨o, ho, hc, n, hd⟩ := pl.isList
      exact ⟨its, "list", o, n, r', .inl rfl, ho, hc, hd⟩
    · obtain ⟨its, r', ⟨o, ho, hc, n, hd⟩, _⟩ := I.tuple hs
      exact ⟨its, "tuple", o, n, r', .inr rfl, ho, hc, hd⟩
  have hl : its.length = xs.length := by
    have := rv.length
    rw [List.length_map] at this
    exact this.symm
  have hS := rv.strs
  refine Calls.call_function_entry PyProof.Rows.kind_sorted PyProof.Rows.plain_sorted PyProof.Rows.entry_sorted (PyProof.Rows.args_sorted1 _) ?_
  unfold Builtin.«sorted»
  refine wpAny_bind (m := checkCount "sorted" 1 1 _) (wpAny_pure ?_)
  refine wpAny_bind (wpAny_collect_seq a hT ho hc hd (fun h' hk => ?_) (by rw [List.size_toArray, hl, sizeLine_eq]; omega))
  have I1 : Inv X pins σ H { s with heap := h' } := I.kept (t' := s.toks) hk
  show wpAny _ _ _ _ _ { s with heap := h' }
  have eT : its.toArray.toList = its := by simp
  rw [eT]
  refine wpAny_bind (wpAny_newList ?_ (by rw [hl, sizeLine_eq]; omega))
  have hoL : (h'.push (seqObj "list" its.toArray 0)).get? h'.objs.size = some (seqObj "list" its.toArray 0) := Heap.get?_push_size _ rfl
  show wpAny _ _ _ _ _ { s with heap := h'.push (seqObj "list" its.toArray 0) }
  refine wpAny_bind (wpAny_holding (wpAny_call_entry PyProof.Rows.slot_list_sort ⟨_, hoL, rfl⟩ PyProof.Rows.entry_list_sort
    (list_sort_treeK strKind_oneLt (s := { s with heap := h'.push (seqObj "list" its.toArray 0) }) hoL hS.keysOf (fun v₁ v₂ rest e => keyKind_strs (by rw [← e]; exact hS)) (by rw [hl]; exact h64) fun st' hp hs => ⟨_, rfl, ?_⟩)
    (PyProof.Rows.args_list_sort _)))
  obtain ⟨ys, g1, g2, g3⟩ := sorted_out_str hS hp hs
  obtain ⟨e', he'⟩ := PyProof.Rows.sortedHeap_at (vs := its) (out := (arrOf st').map (·.2)) hoL
  have hlen : (ys.map V.str).length ≤ sizeLine := by
    rw [List.length_map, g2.length_eq]
    exact Nat.le_trans (Nat.le_of_lt h64) (by decide)
  refine wpAny_pure ⟨_, rfl, .ref h'.objs.size, upd H h'.objs.size (.lst (ys.map V.str)), I1.laid (t' := s.toks) (fun b u e => ?_) (Nat.le_refl _)
    (show ObjOk X.prog X.w _ _ _ (.lst (ys.map V.str)) from ⟨hlen, ((arrOf st').map (·.2)).toList, e', vals_of_strs g1, by rw [Array.toArray_toList]; exact he'⟩), rfl, q ys _ g2 g3 (I1.hok.fresh (Nat.le_refl _))⟩
  have hb : b < h'.objs.size := Heap.lt_size e
  rw [PyProof.Rows.sortedHeap_old (Nat.ne_of_lt hb) (by rw [size_push']; exact Nat.lt_succ_of_lt hb)]
  exact Heap.get?_push_of_some _ e
end
end Ov


namespace Ov
open PySem PySem.Spec PyProof.Rows L2
/-! ### t[::-1] of a tuple, the step told by an expression -/
section
variable {prog : Program} {w : World} {A : Around} {E : Value → Shared → Prop} {s : Shared}
theorem cut_back {sl : Addr} {vl vu vs : Value} {n : Nat} {Q : Int × Int × Nat → Shared → Prop} (hs : s.heap.IsSliceOf sl vl vu vs) (pl : IsPart vl none) (pu : IsPart vu none) (ps : IsPart vs (some (-1))) (h : Q ((n : Int) - 1, -1, n) s) :
    wpAny (model prog w) A (Builtin.Slice.sliceApplied (.ref sl) (pure (n : Int))) Q E s := by
  obtain ⟨os, hos, hcs, hds⟩ := id hs
  unfold Builtin.Slice.sliceApplied Builtin.Slice.sliceFields
  refine wpAny_bind (wpAny_bind (wpAny_field hos hds (x := vl) rfl (wpAny_bind (wpAny_field hos hds (x := vu) rfl (wpAny_bind (wpAny_field hos hds (x := vs) rfl (wpAny_pure ?_)))))))
  refine wpAny_bind (HT.slicePart_ ps ?_)
  show wpAny _ _ (if ((-1 : Int) == 0) = true then _ else _) _ _ s
  rw [if_neg (by decide)]
  refine wpAny_bind (HT.slicePart_ pl (wpAny_bind (HT.slicePart_ pu (wpAny_bind (wpAny_pure ?_)))))
  have e1 : Builtin.Slice.sliceAdjust none none (-1) (n : Int) = ((n : Int) - 1, -1) := rfl
  have e2 : Builtin.Slice.slicePlaces ((n : Int) - 1) (-1) (-1) = n := by
    unfold Builtin.Slice.slicePlaces
    rw [if_neg (by decide)]
    by_cases h0 : n = 0
    · subst h0
      decide
    · rw [if_pos (by omega)]
      have e3 : (-(-1) : Int) = 1 := by decide
      rw [e3, Int.ediv_one]
      omega
  show wpAny _ _ (match Builtin.Slice.sliceAdjust none none (-1) (n : Int) with | (lo, hi) => pure (lo, (-1 : Int), Builtin.Slice.slicePlaces lo hi (-1))) _ _ s
  rw [e1]
  show wpAny _ _ (pure ((n : Int) - 1, (-1 : Int), Builtin.Slice.slicePlaces ((n : Int) - 1) (-1) (-1))) _ _ s
  rw [e2]
  exact wpAny_pure h
theorem fm_range {α : Type} {f : Nat → Option α} {g : Nat → α} : ∀ {n : Nat}, (∀ m, m < n → f m = some (g m)) → (List.range n).filterMap f = (List.range n).map g
  | 0, _ => rfl
  | n + 1, h => by
    rw [List.range_succ, List.filterMap_append, List.map_append, fm_range fun m hm => h m (by omega)]
    congr 1
    show List.filterMap f [n] = [g n]
    rw [List.filterMap_cons, h n (by omega)]
    rfl
theorem pick_back (xs : Array Value) : ((List.range xs.size).filterMap fun (m : Nat) => xs[((xs.size : Int) - 1 + (m : Int) * -1).toNat]?).toArray = xs.toList.reverse.toArray := by
  have e : (List.range xs.size).filterMap (fun (m : Nat) => xs[((xs.size : Int) - 1 + (m : Int) * -1).toNat]?) = (List.range xs.size).map fun m => (xs.toList.reverse)[m]?.getD .none := by
    refine fm_range fun m hlt => ?_
    have e1 : ((xs.size : Int) - 1 + (m : Int) * -1).toNat = xs.size - 1 - m := by omega
    rw [e1]
    have h1 : xs.size - 1 - m < xs.size := by omega
    have h2 : m < xs.toList.reverse.length := by rw [List.length_reverse, Array.length_toList]; exact hlt
    rw [Array.getElem?_eq_getElem h1]
    show some xs[xs.size - 1 - m] = some (xs.toList.reverse[m]?.getD .none)
    rw [List.getElem?_eq_getElem h2, Option.getD_some, List.getElem_reverse]
    simp
  rw [e]
  congr 1
  refine List.ext_getElem? fun i => ?_
  rw [List.getElem?_map]
  by_cases hi : i < xs.size
  · have h2 : i < xs.toList.reverse.length := by rw [List.length_reverse, Array.length_toList]; exact hi
    rw [List.getElem?_range hi]
    show some (xs.toList.reverse[i]?.getD .none) = _
    rw [List.getElem?_eq_getElem h2, Option.getD_some]
  · rw [List.getElem?_eq_none (by rw [List.length_range]; omega), List.getElem?_eq_none (by rw [List.length_reverse, Array.length_toList]; omega)]
    rfl
theorem getItem_back {t sl : Addr} {items : Array Value} {vl vu vs : Value} {Q : Value → Shared → Prop} (ht : IsTup s.heap t items) (hs : s.heap.IsSliceOf sl vl vu vs) (pl : IsPart vl none) (pu : IsPart vu none) (ps : IsPart vs (some (-1)))
    (h : Q (.ref s.heap.objs.size) { s with heap := s.heap.push { cls := .type "tuple", data := .seq items.toList.reverse.toArray } }) (hsz : items.size ≤ sizeLine) : wpAny (model prog w) A (getItem (.ref t) (.ref sl)) Q E s := by
  obtain ⟨os, hos, hcs, hds⟩ := id hs
  have hTs : s.TypeIs (.ref sl) "slice" := ⟨os, hos, hcs⟩
  have hok : sizeOk (.seq items.toList.reverse.toArray) := by
    show items.toList.reverse.toArray.size ≤ sizeLine
    rw [List.size_toArray, List.length_reverse, Array.length_toList]
    exact hsz
  unfold getItem
  try with_reducible refine wpAny_holding ?_
  first | refine wpAny_bind (wpAny_pure ?_) | skip
  refine wpAny_bind (wpAny_sequenceKey ht.typeIs (by decide) ?_)
  refine wpAny_bind (wpAny_callSpecial?_slot (name := Str.ofString "__getitem__") ht.typeIs PyProof.Rows.slot_tuple_getitem
    (wpAny_call_entry PyProof.Rows.slot_tuple_getitem ht.typeIs PyProof.Rows.entry_tuple_getitem ?_ (PyProof.Rows.args_tuple_getitem _ _)))
  show wpAny _ _ (Builtin.Tuple.tupleItemsOf (.ref t) >>= _) _ _ s
  refine wpAny_bind (tupleItemsOf_ ht (wpAny_bind (wpAny_typeOf hTs ?_)))
  rw [if_pos (by decide)]
  refine wpAny_bind (cut_back hs pl pu ps ?_)
  have hno : ¬ ((((items.size : Int) - 1) == 0 && (-1 : Int) == 1 && items.size == items.size) = true) := by
    intro q
    rw [Bool.and_eq_true, Bool.and_eq_true] at q
    exact absurd q.1.2 (by decide)
  show wpAny _ _ (if (((items.size : Int) - 1) == 0 && (-1 : Int) == 1 && items.size == items.size) = true then _ else _) _ _ s
  rw [if_neg hno, pick_back]
  first
    | exact wpAny_bind (m := Builtin.Tuple.tupleExact _) (wpAny_newObj_type (wpAny_pure ⟨_, rfl, wpAny_pure h⟩) hok)
    | exact wpAny_bind (m := Builtin.Tuple.tupleExact _) (wpAny_newObj_type (wpAny_bind (wpAny_pure (wpAny_pure ⟨_, rfl, wpAny_pure h⟩))) hok)
    | exact wpAny_bind (wpAny_bind (m := Builtin.Tuple.tupleExact _) (wpAny_newObj_type (wpAny_pure (wpAny_pure ⟨_, rfl, wpAny_pure h⟩)) hok))
    | exact wpAny_bind (wpAny_bind (m := Builtin.Tuple.tupleExact _) (wpAny_newObj_type (wpAny_pure ⟨_, rfl, wpAny_pure h⟩) hok))
end
section
variable {X : Cx}
def tBackT (K : PySem.W.Frag) (te ts : TE) : TE := fun σ H Q => te σ H fun x H1 => ts σ H1 fun y H2 => ∃ i, y = .int i ∧ some i = some (-1 : Int) ∧ ∃ a xs, x = .ref a ∧ SqT K H2 a xs ∧ ∀ p, H2 p = none → Q (.ref p) (upd H2 p (.tup xs.reverse))
theorem pe_backT {e st : Expr} {te ts : TE} {p3 pos : Pos} (he : PE X e te) (hs : PE X st ts) (hty : ∀ v i, subscripted (.Slice none none (some st) p3) false v i = operate [v, i] (getItem v i) := by intro _ _; rfl) :
    PE X (.Subscript e (.Slice none none (some st) p3) pos) (tBackT X.K te ts) := by
  refine ⟨fun pins s σ H Q I h => ?_⟩
  refine Subscript_ (thn (he.run pins s σ H _ I h) fun v s1 ⟨x, H1, I1, r1, q1⟩ => ?_)
  refine wpAny_Slice (thn (po_none.run pins s1 σ H1 (fun o H2 => o = none ∧ H2 = H1) I1 ⟨rfl, rfl⟩) fun vl s2 ⟨l, H2, I2, pl, el, e2⟩ => ?_)
  subst el e2
  refine thn (po_none.run pins s2 σ H2 (fun o H3 => o = none ∧ H3 = H2) I2 ⟨rfl, rfl⟩) fun vu s3 ⟨u, H3, I3, pu, eu, e3⟩ => ?_
  subst eu e3
  refine thn ((po_some hs).run pins s3 σ H3 (fun o H4 => o = some (-1) ∧ ∃ a xs, x = .ref a ∧ SqT X.K H4 a xs ∧ ∀ p, H4 p = none → Q (.ref p) (upd H4 p (.tup xs.reverse))) I3 q1) fun vs s4 ⟨o, H4, I4, ps, eo, a, xs, ex, hx, q⟩ => ?_
  subst eo ex
  cases r1
  have I5 : Inv X pins σ H4 { s4 with heap := s4.heap.push { cls := .type "slice", data := .fields #[vl, vu, vs] } } := I4.kept (t' := s4.toks) fun b ob q => Heap.get?_push_of_some _ q
  obtain ⟨its, r, ht, hz⟩ := I5.tuple hx
  have hlen := r.length
  refine tail_any (ops := [.ref a, .ref s4.heap.objs.size]) ht.typeIs (PyProof.Rows.slot_tuple_getitem.lookup) ?_ (hty _ _)
  refine getItem_back ht (Heap.IsSliceOf.new _ vl vu vs) pl pu ps ?_ (by rw [List.size_toArray]; omega)
  refine ⟨.ref _, _, I5.laid (t' := s4.toks) (o := .tup xs.reverse) (fun b ob q => Heap.get?_push_of_some _ q) (Nat.le_refl _) ?_, rfl, q _ (I5.hok.fresh (Nat.le_refl _))⟩
  exact ⟨by rw [List.length_reverse]; exact hz, _, r.reverse, IsTup.new _ _⟩
end
end Ov



namespace Ov
open PySem PySem.Spec PyProof.Rows L2
/-! ### len(set(xs)) of any texts without twins -/
section
variable {prog : Program} {w : World} {A : Around}
/-- the set at a holds just these texts -/
abbrev HasTexts (prog : Program) (w : World) (h : Heap) (a : Addr) (ts : List Str) : Prop := h.SetOf (strKind prog w) a (fun t => decide (t ∈ ts)) ts.length
theorem has_moved {h h' : Heap} {a : Addr} {ts : List Str} (S : HasTexts prog w h a ts) (k : ∀ o, h.get? a = some o → h'.get? a = some o) : HasTexts prog w h' a ts := by
  obtain ⟨o, es, ep, tb, ho, r⟩ := S
  exact ⟨o, es, ep, tb, k o ho, r⟩
theorem has_more {h : Heap} {a : Addr} {ts : List Str} {t : Str} (no : t ∉ ts) (S : h.SetOf (strKind prog w) a (fun k => decide (k ∈ ts) || decide (k = t)) (if decide (t ∈ ts) = true then ts.length else ts.length + 1)) : HasTexts prog w h a (ts ++ [t]) := by
  refine SetOf_congr S (fun k => ?_) ?_
  · by_cases h1 : k ∈ ts <;> by_cases h2 : k = t <;> simp [h1, h2]
  · simp [no]
theorem take_new {ts : List Str} (nd : ts.Nodup) {i : Nat} {t : Str} (h : ts[i]? = some t) : t ∉ ts.take i ∧ ts.take (i + 1) = ts.take i ++ [t] := by
  have e : ts.take (i + 1) = ts.take i ++ [t] := by rw [List.take_add_one, h]; rfl
  refine ⟨fun z => ?_, e⟩
  have q : (ts.take (i + 1)).Nodup := nd.sublist (List.take_sublist _ _)
  rw [e] at q
  exact (List.nodup_append.mp q).2.2 t z t (List.mem_singleton.mpr rfl) rfl
/-- the loop of set.update over what yields these texts -/
theorem texts_in {I D : Addr} {fp wr : List Addr} {G : Array GenState → Array GenState → Prop} {ts : List Str} {Pv : Nat → Value → Prop} {St : Nat → Shared → Prop} {R : Result → Shared → Prop} (W : WalksS prog w A.in1 I fp wr G ts.length Pv St) (far : D ∉ fp) (nd : ts.Nodup) (few : ts.length < 4000)
    (val : ∀ i v, Pv i v → ∃ x t, ts[i]? = some x ∧ v = .str x t) (m : Nat) : ∀ (i : Nat) (s : Shared), m + i = ts.length → St i s → HasTexts prog w s.heap D (ts.take i) → (∀ s', Moved (D :: wr) G s s' → HasTexts prog w s'.heap D ts → R (.ok (.ret .none)) s') →
      codeAny (model prog w) A (.builtin "set.update.loop" ⟨[.ref D, .ref I], []⟩) R s := by
  have nw : D ∉ wr := fun z => far (W.sub _ z)
  induction m with
  | zero =>
    intro i s e st S k
    obtain rfl : i = ts.length := by omega
    rw [List.take_length] at S
    refine codeAny_builtin F.entry_set_update_loop ?_
    rw [Around.under_plainId F.plain_set_update_loop]
    refine wpAny_bind (m := pyNext (.ref I)) (W.done s _ _ st fun s1 mv => wpAny_pure ?_)
    exact k s1 (mv.mono fun b z => List.mem_cons_of_mem _ z) (has_moved S fun o => mv.heap D o nw)
  | succ m ih =>
    intro i s e st S k
    have lt : i < ts.length := by omega
    refine codeAny_builtin F.entry_set_update_loop ?_
    rw [Around.under_plainId F.plain_set_update_loop]
    refine wpAny_bind (m := pyNext (.ref I)) (W.item i s _ _ lt st fun v s1 pv st1 mv => ?_)
    obtain ⟨x, t, hx, rfl⟩ := val i v pv
    obtain ⟨no, grow⟩ := take_new nd hx
    have S1 : HasTexts prog w s1.heap D (ts.take i) := has_moved S fun o => mv.heap D o nw
    have room : (ts.take i).length + 1 < scanBound := by rw [List.length_take]; unfold scanBound; omega
    refine wpAny_bind (m := holding [Value.str x t] (setAdd D (.str x t))) (wpAny_holding ?_)
    unfold setAdd
    refine wpAny_holding (wpAny_bind ((strKind prog w).pyHash (k := x) (strKind_is _ _ _ _) ?_))
    refine wpAny_setAddHashed_of (s := { s1 with toks := s1.toks + 1 }) (strKind_is _ _ _ _) rfl S1 room fun h2 same S2 => ?_
    have S3 : HasTexts prog w h2 D (ts.take (i + 1)) := by rw [grow]; exact has_more no S2
    have st2 : St (i + 1) { s1 with heap := h2, toks := s1.toks + 1 } := W.frame _ s1 _ _ st1 (Nat.le_succ _) fun b hb o z => by rw [same.2 b fun y : b = D => far (y ▸ hb)]; exact z
    refine wpAny_pure ⟨plainId_quiet F.plain_set_update_loop _, ih (i + 1) _ (by omega) st2 S3 fun s4 mv4 S4 => k s4 ?_ S4⟩
    refine Moved.trans W.gtrans ((mv.mono fun b z => List.mem_cons_of_mem _ z).then_heap (Nat.le_succ _) fun b o nb z => ?_) mv4
    rw [same.2 b fun y : b = D => nb (y ▸ List.mem_cons_self)]
    exact z
theorem text_of {its : List Value} {ts : List Str} (r : StrsAre its ts) {i : Nat} {v : Value} (h : its.toArray[i]? = some v) : ∃ x t, ts[i]? = some x ∧ v = .str x t := by
  rw [List.getElem?_toArray] at h
  have lt : i < ts.length := by
    have := (List.getElem?_eq_some_iff.mp h).1
    rw [r.len_eq] at this
    exact this
  obtain ⟨t, e⟩ := r.at (List.getElem?_eq_getElem lt)
  rw [h] at e
  exact ⟨_, t, List.getElem?_eq_getElem lt, Option.some.inj e⟩
abbrev freshSet (led : Bool) : Obj := { cls := .type "set", dict := none, data := .set #[] 0 (.fresh 0 0 led) }
variable {E : Value → Shared → Prop} {s : Shared}
/-- what set(l) leaves -/
abbrev SetMade (prog : Program) (w : World) (s : Shared) (ts : List Str) (s2 : Shared) : Prop := ∃ h2 tk, s2 = { s with heap := h2, toks := tk } ∧ HasTexts prog w h2 s.heap.objs.size ts ∧ ∀ b o, b < s.heap.objs.size → s.heap.get? b = some o → h2.get? b = some o
theorem set_init {l : Addr} {its : List Value} {ts : List Str} {led : Bool} (hh : A.handled = none) (hl : s.heap.IsList l its.toArray ∨ s.heap.IsTuple l its.toArray) (r : StrsAre its ts) (nd : ts.Nodup) (few : ts.length < 4000) {Q : Fin → Shared → Prop}
    (k : ∀ s2, SetMade prog w s ts s2 → Q (.done (.ret .none)) s2) : wpAny (model prog w) A (Builtin.«set.__init__» ⟨[.ref s.heap.objs.size, .ref l], []⟩) Q E { s with heap := s.heap.push (freshSet led) } := by
  have hn : its.toArray.size = ts.length := by rw [List.size_toArray, r.len_eq]
  have new : (s.heap.push (freshSet led)).get? s.heap.objs.size = some (freshSet led) := Heap.get?_push_size _ rfl
  rcases hl with hl | hl
  all_goals
    have hlS : l < s.heap.objs.size := by obtain ⟨o, ho, _⟩ := hl; exact Heap.lt_size ho
    obtain ⟨⟨cl, dd, dt, sl⟩, hol, hcl, n, hdl⟩ := id hl
    simp only at hcl hdl
    subst hcl hdl
    have hol2 := Heap.get?_push_of_some (freshSet led) hol
    have hl1 := hl.push (freshSet led)
    have f1 := PySem.F.sub_list_set
    have f2 := PySem.F.sub_list_frozenset
    have f3 := PySem.F.sub_tuple_set
    have f4 := PySem.F.sub_tuple_frozenset
    have f5 : (Value.type "list" == Value.type "dict") = false := by decide
    have f6 : (Value.type "tuple" == Value.type "dict") = false := by decide
    unfold Builtin.«set.__init__» noKeywords Builtin.Frozenset.updateFrom
    generalize hPI : pyIter = PI
    wp_walk
    subst hPI
    have hq : A.in1.handled = none := by simp [hh]
    have sz : (s.heap.push (freshSet led)).objs.size = s.heap.objs.size + 1 := Heap.size_push _ _
    have ne : l ≠ (s.heap.push (freshSet led)).objs.size := by
      rw [sz]
      exact Nat.ne_of_lt (Nat.lt_succ_of_lt hlS)
    have far : s.heap.objs.size ∉ [(s.heap.push (freshSet led)).objs.size, l] := by
      rw [sz]
      intro z
      rcases List.mem_cons.mp z with z | z
      · exact Nat.ne_of_lt (Nat.lt_succ_self _) z
      · exact Nat.ne_of_gt hlS (List.mem_singleton.mp z)
    have empty : ∀ {o : Obj}, HasTexts prog w ((s.heap.push (freshSet led)).push o) s.heap.objs.size (ts.take 0) := fun {o} =>
      SetOf_congr ((setObjOf_fresh (knd := strKind prog w) led).setOf (Heap.get?_push_of_some o new) (by decide)) (fun _ => by simp) rfl
    have done : ∀ {o : Obj} (s2 : Shared), Moved (s.heap.objs.size :: [(s.heap.push (freshSet led)).objs.size]) (fun a b => b = a) { s with heap := (s.heap.push (freshSet led)).push o } s2 → HasTexts prog w s2.heap s.heap.objs.size ts → SetMade prog w s ts s2 := fun {o} s2 mv S => by
      obtain ⟨h2, g2, d2, tk, os2⟩ := s2
      obtain rfl : g2 = s.gens := mv.gens
      obtain rfl : d2 = s.drawn := mv.drawn
      obtain rfl : os2 = s.os := mv.os
      refine ⟨h2, tk, rfl, S, fun b u hb e => mv.heap b u (fun z => ?_) (Heap.get?_push_of_some _ (Heap.get?_push_of_some _ e))⟩
      rw [sz] at z
      rcases List.mem_cons.mp z with z | z
      · exact Nat.ne_of_lt hb z
      · exact Nat.ne_of_lt (Nat.lt_succ_of_lt hb) (List.mem_singleton.mp z)
    first
      | (refine wpAny_pyIter_list hl1 (wpAny_bind (wpAny_runValue ?_))
         have W := (Walks.list (prog := prog) (w := w) hq _ l ne its.toArray).toS
         rw [hn] at W
         refine texts_in W far nd few (fun i v pv => text_of r pv) ts.length 0 _ (by omega) ⟨⟨_, Heap.get?_push_size _ rfl, rfl, rfl⟩, hl1.push _⟩ empty fun s2 mv S => ?_)
      | (refine wpAny_pyIter_tuple hl1 (wpAny_bind (wpAny_runValue ?_))
         have W := (Walks.tuple (prog := prog) (w := w) hq _ l ne its.toArray).toS
         rw [hn] at W
         refine texts_in W far nd few (fun i v pv => text_of r pv) ts.length 0 _ (by omega) ⟨⟨_, Heap.get?_push_size _ rfl, rfl, rfl⟩, hl1.push _⟩ empty fun s2 mv S => ?_)
    exact wpAny_pure (wpAny_pure (k s2 (done s2 mv S)))
/-- set(l), l a list or a tuple of texts without twins -/
theorem set_of_texts {l : Addr} {its : List Value} {ts : List Str} {Q : Value → Shared → Prop} (hh : A.handled = none) (hl : s.heap.IsList l its.toArray ∨ s.heap.IsTuple l its.toArray) (r : StrsAre its ts) (nd : ts.Nodup) (few : ts.length < 4000)
    (k : ∀ s2, SetMade prog w s ts s2 → Q (.ref s.heap.objs.size) s2) : wpAny (model prog w) A (call (.type "set") [.ref l]) Q E s := by
  obtain ⟨top, tail, c4⟩ := PySem.F.called_set.mro
  have c := PySem.F.called_set
  have c1 := c.notType
  have c2 := c.canCreate
  have c5 := c.made
  have c6 := c.sub
  have c3 := PySem.F.typeCall_set_1 (.ref l)
  have c7 := c.init.lookup
  have c8 := c.init.bind (.ref s.heap.objs.size)
  refine wpAny_call (codeAny_of_tree (id (wpAny_pure ⟨Code.quiet_builtin _ (by decide +kernel), codeAny_builtin PySem.F.entry_type_call ?_⟩ : wpAny (model prog w) _ (callAny (.type "set") ⟨[.ref l], []⟩) _ _ s)))
  rw [Around.under_plain (c := Code.builtin "type.__call__" ⟨[.type "set", .ref l], []⟩) (weight_type_call_type _ _ _) rfl]
  repeat any_goals first | assumption | wp_step
  have fresh : ∀ led : Bool, (s.heap.push (freshSet led)).get? s.heap.objs.size = some (freshSet led) := fun led => Heap.get?_push_size _ rfl
  refine codeAny_mono (code_set_new_1 (E := E) (.ref l) (Q₁ := fun D s1 => ∃ led, D = .ref s.heap.objs.size ∧ s1 = { s with heap := s.heap.push (freshSet led) }) fun led => ⟨led, rfl, rfl⟩) ?_
  intro a s1 h1
  match a, h1 with
  | .error e, h1 => exact h1
  | .ok (.ret D), h1 =>
    obtain ⟨led, rfl, rfl⟩ := h1
    have isSet : Shared.TypeIs { s with heap := s.heap.push (freshSet led) } (.ref s.heap.objs.size) "set" := ⟨_, fresh led, rfl⟩
    repeat any_goals first | assumption | wp_step
    refine codeAny_mono (codeAny_call_builtin (R := wants (fun v s2 => v = .none ∧ SetMade prog w s ts s2) E) c.init.plain PySem.F.entry_set_init (check_set_init_1 isSet (set_init (by simp [hh]) hl r nd few fun s2 m => ⟨rfl, m⟩))) ?_
    intro a2 s2 h2
    match a2, h2 with
    | .error e, h2 => exact h2
    | .ok (.ret v), h2 =>
      obtain ⟨rfl, m⟩ := h2
      repeat any_goals first | assumption | wp_step
      exact k s2 m
end
def tLenSetG (K : PySem.W.Frag) (ta : TE) : TE := fun σ H Q => ta σ H fun x H1 => ∃ (l : Addr) (ts : List Str), x = .ref l ∧ (SqL K H1 l (ts.map V.str) ∨ SqT K H1 l (ts.map V.str)) ∧ ts.Nodup ∧ ts.length < 4000 ∧ Q (.int ts.length) H1
theorem texts_vals : ∀ {ts : List Str} {us : List Value}, Vals (ts.map V.str) us → StrsAre us ts
  | [], _, .nil => .nil
  | t :: ts, _, .cons ⟨k, h⟩ r => h ▸ .cons t k (texts_vals r)
theorem pe_lenSetG {X : Cx} {a : Expr} {ta : TE} {p p2 q pos : Pos} (calm : X.calm = true) (gl : Gl X "len") (ml : X.mg "len" = none) (gs : Gl X "set") (ms : X.mg "set" = none) (h : PE X a ta)
    (one : starEach [a] X.env = (false, eval a X.env) :: starEach [] X.env := by rfl) : PE X (.Call (.Name "len" p) [.Call (.Name "set" p2) [a] [] q] [] pos) (tLenSetG X.K ta) := by
  refine ⟨fun pins s σ H Q I hw => ?_⟩
  refine Call_ (ld_blt I gl ml boot_len (callWith_builtin1 (args_cons ?_ rfl) rfl rfl))
  refine Call_ (ld_blt I gs ms boot_set (callWith_type1 (args_cons (thn (h.run pins s σ H _ I hw) fun v s1 ⟨x, H1, I1, r1, q1⟩ => args_nil ?_) one) one rfl))
  obtain ⟨l, ts, rfl, sq, nd, few, q1⟩ := q1
  cases r1
  obtain ⟨its, r, at1⟩ : ∃ its : List Value, Vals (ts.map V.str) its ∧ (s1.heap.IsList l its.toArray ∨ s1.heap.IsTuple l its.toArray) := by
    rcases sq with sq | sq
    · obtain ⟨its, r, pl, _⟩ := I1.list sq
      exact ⟨its, r, .inl pl.isList⟩
    · obtain ⟨its, r, pl, _⟩ := I1.tuple sq
      exact ⟨its, r, .inr pl⟩
  refine set_of_texts (I1.ok.hd calm) at1 (texts_vals r) nd few fun s2 ⟨h2, tk, e, ⟨o, es, ep, tb, ho, ex, hd, _, _, _, fit, n⟩, keep⟩ => ?_
  subst e
  have I2 : Inv X pins σ H1 { s1 with heap := h2, toks := tk } := I1.kept fun b u z => keep b u (Heap.lt_size z) z
  exact args_nil (call_len_set ho ex hd fit (by rw [n]; omega) ⟨.int ts.length, H1, I2.tok _, ⟨_, by rw [n]⟩, q1⟩)
end Ov


namespace Ov
open PySem PySem.Spec PyProof.Rows L2
open Evl (pss_cut tCut)

/-! ### the text by places -/
def topS (i : Nat) : Stmt := PySem.Challenge.pw_overtaken_k16_whole_rules_that_do_nothin.main.body.getD i (.Pass ⟨0, 0, 0, 0⟩)
abbrev sDeal : Stmt := topS 53
theorem scDeal : FnScope ["_law_script", "_law_base", "_law_cell", "_law_cells", "_law_mixed"] ["_law_script", "_law_base"] (defScope sDeal) := ⟨rfl, rfl, rfl, by decide +kernel, rfl, by decide +kernel, by decide +kernel⟩
abbrev sDraw : Stmt := topS 54
theorem scDraw : FnScope ["_law_deal_here", "_law_many", "_law_left"] ["_law_deal_here", "_law_many"] (defScope sDraw) := ⟨rfl, rfl, rfl, by decide +kernel, rfl, by decide +kernel, by decide +kernel⟩

/-! ### heaps: all but two places stays -/
def Kp (a b : Addr) (H H' : Hp) : Prop := ∀ x o, x ≠ a → x ≠ b → H x = some o → H' x = some o
theorem Kp.refl (a b : Addr) (H : Hp) : Kp a b H H := fun _ _ _ _ h => h
theorem Kp.trans {a b : Addr} {H H1 H2 : Hp} (x : Kp a b H H1) (y : Kp a b H1 H2) : Kp a b H H2 := fun c o h1 h2 h => y c o h1 h2 (x c o h1 h2 h)
theorem Kp.at_a {a b : Addr} {H : Hp} {o : HO} : Kp a b H (upd H a o) := fun c u h1 _ h => by rw [upd_ne h1]; exact h
theorem Kp.at_b {a b : Addr} {H : Hp} {o : HO} : Kp a b H (upd H b o) := fun c u _ h2 h => by rw [upd_ne h2]; exact h
theorem Kp.new {a b : Addr} {H : Hp} {p : Addr} {o : HO} (h : H p = none) : Kp a b H (upd H p o) := fun c u _ _ e => by rw [upd_ne (ne_of_none e h)]; exact e
theorem Kp.same {a b : Addr} {H H' : Hp} (h : Same H H') : Kp a b H H' := fun c u _ _ e => h c u e

/-! ### a deal: its great cells, its mixed number -/
structure Deal (H : Hp) (a b : Addr) : Prop where
  ex : ∃ (ns : List Int) (m : Int), H a = some (.lst [.ref b, .int m]) ∧ H b = some (.lst (ns.map V.int)) ∧ ns.length ≤ 63 ∧ 0 ≤ m ∧ m < 2147483647
theorem Deal.ne {H : Hp} {a b : Addr} (D : Deal H a b) : a ≠ b := by
  obtain ⟨ns, m, h1, h2, _⟩ := D.ex
  refine ne_of h1 h2 fun z => ?_
  cases ns with
  | nil => cases z
  | cons n r => cases z
theorem Deal.is {H : Hp} {a b : Addr} (D : Deal H a b) : (H a ≠ none) ∧ (H b ≠ none) := by
  obtain ⟨ns, m, h1, h2, _⟩ := D.ex
  exact ⟨by rw [h1]; exact fun z => (by cases z), by rw [h2]; exact fun z => (by cases z)⟩
theorem Deal.nea {H : Hp} {a b p : Addr} (D : Deal H a b) (h : H p = none) : p ≠ a := fun z => D.is.1 (by rw [← z]; exact h)
theorem Deal.neb {H : Hp} {a b p : Addr} (D : Deal H a b) (h : H p = none) : p ≠ b := fun z => D.is.2 (by rw [← z]; exact h)
theorem Deal.new {H : Hp} {a b p : Addr} {o : HO} (D : Deal H a b) (h : H p = none) : Deal (upd H p o) a b := by
  have na := D.nea h
  have nb := D.neb h
  obtain ⟨ns, m, h1, h2, r⟩ := D.ex
  exact ⟨ns, m, by rw [upd_ne na.symm]; exact h1, by rw [upd_ne nb.symm]; exact h2, r⟩
theorem Deal.keep {H H' : Hp} {a b : Addr} (D : Deal H a b) (s : Same H H') : Deal H' a b := by
  obtain ⟨ns, m, h1, h2, r⟩ := D.ex
  exact ⟨ns, m, s _ _ h1, s _ _ h2, r⟩
/-- a new object behind a drawing is new before it -/
theorem Kp.none {H H' : Hp} {a b p : Addr} (k : Kp a b H H') (D : Deal H' a b) (h : H' p = none) : H p = none := by
  cases e : H p with
  | none => rfl
  | some o =>
    have q := k p o (D.nea h) (D.neb h) e
    rw [h] at q
    cases q

theorem same_upd {H : Hp} {p : Addr} {o : HO} (h : H p = none) : Same H (upd H p o) := fun b x e => by
  rw [upd_ne (ne_of_none e h)]
  exact e
/-- a place that wasn't tracked may be written again -/
theorem _root_.L2.Same.put {H H' : Hp} {p : Addr} {o : HO} (s : Same H H') (h : H p = none) : Same H (upd H' p o) := fun b x e => by
  rw [upd_ne (ne_of_none e h)]
  exact s b x e
theorem get_ints {ns : List Int} {i : Nat} {x : V} (h : (ns.map V.int)[i]? = some x) : ∃ n, x = .int n := by
  rw [List.getElem?_map] at h
  cases e : ns[i]? with
  | none =>
    rw [e] at h
    cases h
  | some n =>
    rw [e] at h
    exact ⟨n, (Option.some.inj h).symm⟩
theorem cut_ints (ns : List Int) (lo hi : Option Int) : ∃ cs : List Int, cutV (ns.map V.int) lo hi = cs.map V.int ∧ cs.length ≤ ns.length := by
  refine ⟨(ns.drop (HT.sIx ns.length 0 lo)).take (HT.sIx ns.length ns.length hi - HT.sIx ns.length 0 lo), ?_, ?_⟩
  · unfold cutV
    rw [List.length_map, ← List.map_drop, ← List.map_take]
  · rw [List.length_take, List.length_drop]
    omega
theorem fmod_lt {x k : Int} (h : 0 < k) : 0 ≤ x.fmod k ∧ x.fmod k < k := by
  rw [Int.fmod_eq_emod_of_nonneg x (Int.le_of_lt h)]
  exact ⟨Int.emod_nonneg x (by omega), Int.emod_lt_of_pos x h⟩

def spDraw : Sp := fun vs H Q _ => ∃ (a b : Addr) (k : Int), vs = [.ref a, .int k] ∧ Deal H a b ∧ 0 < k ∧ k < 1000000 ∧
  ∀ r H', 0 ≤ r → r < k → Kp a b H H' → Deal H' a b → Q (.int r) H'

section
variable {P : Program} {w : World} {K : PySem.W.Frag} {mg : Str → Option Value} {base : Heap}
theorem dp_ints {K : PySem.W.Frag} {H : Hp} : ∀ ns : List Int, DpAll K H (ns.map V.int) (ns.map PyData.int)
  | [] => .nil
  | n :: r => .cons (.int n) (dp_ints r)
theorem canLay_ints : ∀ ns : List Int, PyData.canLayAll0 (ns.map PyData.int) = true
  | [] => rfl
  | n :: r => by
    show (PyData.canLay0 (.int n) && PyData.canLayAll0 (r.map PyData.int)) = true
    rw [canLay_ints r]
    rfl
theorem depth_ints : ∀ ns : List Int, PyData.depthAll (ns.map PyData.int) = 0
  | [] => rfl
  | n :: r => by
    show max (PyData.depth (.int n)) (PyData.depthAll (r.map PyData.int)) = 0
    rw [depth_ints r]
    rfl
theorem shaped_ints (ns : List Int) : SeqAt.shaped (.list (ns.map PyData.int)) = true := by
  show (PyData.canLay0 (.list (ns.map PyData.int)) && decide ((PyData.list (ns.map PyData.int)).depth ≤ 64)) = true
  have h1 : PyData.canLay0 (.list (ns.map PyData.int)) = true := canLay_ints ns
  have h2 : (PyData.list (ns.map PyData.int)).depth = 0 + 1 := by
    show PyData.depthAll (ns.map PyData.int) + 1 = 0 + 1
    rw [depth_ints]
  rw [h1, h2]
  rfl
theorem eqv_nil (ns : List Int) : PyData.eqv (.list (ns.map PyData.int)) (.list []) = ns.isEmpty := by
  cases ns with
  | nil => rfl
  | cons n r => rfl
theorem atI_lastInt (ns : List Int) (n : Int) : atI ((ns ++ [n]).map V.int) (-1) = some (.int n) := by
  rw [List.map_append]
  exact atI_last _ _
theorem ok_draw {f : Addr} {fd : FuncData} (F : Fun K "_law_draw" "_law_draw" sDraw f fd) (nInt : mg "int" = none) : FnOk P w K mg base CX0 1 f fd ["_law_deal_here", "_law_many"] spDraw := by
  refine F.ok scDraw (fun vs H Q E h => ?_) (fun cdv A outer s H vs Q E hr h => ?_)
  · obtain ⟨a, b, k, rfl, _⟩ := h
    rfl
  · obtain ⟨a, b, k, rfl, D, k0, k1, q⟩ := h
    refine ⟨_, pss_cut (ps_while PassesOwn.never (PW.pt (pw_and (pt_cmpR (op_neD hr.units) (pe_ix ix_list (pv 0) pe_int (fun _ _ => rfl)) (pe_lst pa_nil) (nomark _)) (pw_and1 (pt_cmpR op_eq (pe_ix ix_list (pe_ix ix_list (pv 0) pe_int (fun _ _ => rfl)) (pe_un un_neg pe_int) (fun _ _ => rfl)) pe_int (nomark _))))) (pss_one (ps_expr (pe_bm0 PySem.F.plainAttrs_list PySem.F.slot_list_pop PySem.F.type_list_pop mt_pop (pe_ix ix_list (pv 0) pe_int (fun _ _ => rfl))))))
      (pss_cons (ps_if (pt_cmpR (op_neD hr.units) (pe_ix ix_list (pv 0) pe_int (fun _ _ => rfl)) (pe_lst pa_nil) (nomark _)) (pss_cons (ps_set (i := 2) scDraw.nd rfl (.inl rfl) (pe_bm0 PySem.F.plainAttrs_list PySem.F.slot_list_pop PySem.F.type_list_pop mt_pop (pe_ix ix_list (pv 0) pe_int (fun _ _ => rfl))))
      (pss_cons (ps_expr (pe_bm PySem.F.plainAttrs_list PySem.F.slot_list_append PySem.F.type_list_append mt_append (pe_ix ix_list (pv 0) pe_int (fun _ _ => rfl)) (pa_cons (pe_op op_fdivN (pv 2) (pv 1)) pa_nil)))
      (pss_one (ps_ret (pe_op op_modN (pe_callTy call_int1 (by rfl) nInt (by decide +kernel) (pa_cons (pv 2) pa_nil)) (pv 1)))))) pss_nil)
      (pss_cons (ps_asg (pe_op op_modN (pe_callTy call_int1 (by rfl) nInt (by decide +kernel) (pa_cons (pe_op op_add (pe_op op_mul (pe_ix ix_list (pv 0) pe_int (fun _ _ => rfl)) pe_int) pe_int) pa_nil)) pe_int) (pg_sub (pv 0) pe_int set_list))
      (pss_one (ps_ret (pe_op op_modN (pe_callTy call_int1 (by rfl) nInt (by decide +kernel) (pa_cons (pe_op op_fdivN (pe_ix ix_list (pv 0) pe_int (fun _ _ => rfl)) pe_int) pa_nil)) (pv 1)))))), ?_⟩
    refine ⟨fun σ H' => σ = [some (.ref a), some (.int k), none] ∧ Kp a b H H' ∧ Deal H' a b, ?_, ?_⟩
    -- the while: zeros at the end are dropped
    · refine ⟨fun m σ H' => ∃ (ns : List Int) (mm : Int), σ = [some (.ref a), some (.int k), none] ∧ m = ns.length ∧ Kp a b H H' ∧ H' a = some (.lst [.ref b, .int mm]) ∧ H' b = some (.lst (ns.map V.int)) ∧ ns.length ≤ 63 ∧ 0 ≤ mm ∧ mm < 2147483647,
        ?_, ?_⟩
      · obtain ⟨ns, mm, h1, h2, h3, h4, h5⟩ := D.ex
        exact ⟨ns.length, ns, mm, rfl, rfl, Kp.refl _ _ _, h1, h2, h3, h4, h5⟩
      · rintro m σ H1 ⟨ns, mm, rfl, rfl, kp, h1, h2, h3, h4, h5⟩
        refine ⟨_, rfl, _, _, _, _, rfl, rfl, SqL.of h1, rfl, Nat.zero_le _, fun p np => ?_⟩
        have nb : b ≠ p := ne_of_none h2 np
        have na : a ≠ p := ne_of_none h1 np
        refine ⟨_, .list [], .lst (SqL.of (by rw [upd_ne nb]; exact h2)) (dp_ints ns), .lst (SqL.of upd_same) .nil, shaped_ints ns, shaped_ints [], _, rfl, ?_⟩
        rw [eqv_nil]
        have kp2 : Kp a b H (upd H1 p (.lst [])) := kp.trans (Kp.new np)
        have a2 : (upd H1 p (.lst [])) a = some (.lst [.ref b, .int mm]) := by rw [upd_ne na]; exact h1
        have b2 : (upd H1 p (.lst [])) b = some (.lst (ns.map V.int)) := by rw [upd_ne nb]; exact h2
        rcases List.eq_nil_or_concat ns with rfl | ⟨ns', n, rfl⟩
        · exact iteF (iteF ⟨rfl, kp2, ⟨[], mm, a2, b2, h3, h4, h5⟩⟩)
        · rw [List.concat_eq_append] at b2 h3 ⊢
          rw [show (ns' ++ [n]).isEmpty = false by simp]
          refine iteT ?_
          refine ⟨_, rfl, _, _, _, _, rfl, rfl, SqL.of a2, rfl, 1, rfl, _, _, _, _, rfl, rfl, SqL.of b2, atI_lastInt ns' n, rfl, _, rfl, ?_⟩
          refine ite2 (fun _ => ?_) (fun _ => ?_)
          · refine ⟨fun σ H' => ∃ (mm : Int), σ = [some (.ref a), some (.int k), none] ∧ Kp a b H H' ∧ H' a = some (.lst [.ref b, .int mm]) ∧ H' b = some (.lst (ns'.map V.int)) ∧ ns'.length ≤ 63 ∧ 0 ≤ mm ∧ mm < 2147483647,
              fun σ' H' ⟨mm, e1, e2, e3, e4, e5, e6⟩ => ⟨ns'.length, by simp, ns', mm, e1, rfl, e2, e3, e4, e5, e6⟩, ?_⟩
            refine ⟨_, rfl, _, _, _, _, rfl, rfl, SqL.of a2, rfl, .inl ⟨rfl, _, SqL.of b2⟩, b, _, .int n, rfl, rfl, b2, ?_, ?_⟩
            · rw [List.map_append, List.length_append]
              show (List.map V.int ns' ++ [V.int n])[(List.map V.int ns').length + 1 - 1]? = some (V.int n)
              simp
            · refine ⟨mm, rfl, kp2.trans Kp.at_b, ?_, ?_, ?_, h4, h5⟩
              · rw [upd_ne D.ne]
                exact a2
              · rw [upd_same, List.map_append]
                show some (HO.lst (List.map V.int ns' ++ [V.int n]).dropLast) = _
                rw [List.dropLast_concat]
              · rw [List.length_append, List.length_singleton] at h3
                omega
          · exact ⟨rfl, kp2, ⟨ns' ++ [n], mm, a2, b2, h3, h4, h5⟩⟩
    · rintro σ H1 ⟨rfl, kp, D1⟩
      obtain ⟨ns, mm, h1, h2, h3, h4, h5⟩ := D1.ex
      -- if deal[0] != []
      refine ⟨_, rfl, _, _, _, _, rfl, rfl, SqL.of h1, rfl, Nat.zero_le _, fun p np => ?_⟩
      have nb : b ≠ p := ne_of_none h2 np
      have na : a ≠ p := ne_of_none h1 np
      refine ⟨_, .list [], .lst (SqL.of (by rw [upd_ne nb]; exact h2)) (dp_ints ns), .lst (SqL.of upd_same) .nil, shaped_ints ns, shaped_ints [], _, rfl, ?_⟩
      rw [eqv_nil]
      have kp2 : Kp a b H (upd H1 p (.lst [])) := kp.trans (Kp.new np)
      have a2 : (upd H1 p (.lst [])) a = some (.lst [.ref b, .int mm]) := by rw [upd_ne na]; exact h1
      have b2 : (upd H1 p (.lst [])) b = some (.lst (ns.map V.int)) := by rw [upd_ne nb]; exact h2
      rcases List.eq_nil_or_concat ns with rfl | ⟨ns', n, rfl⟩
      · refine iteF ?_
        -- deal[1] = int(deal[1] * 69621 + 40961) % 2147483647
        refine ⟨_, rfl, _, _, _, _, rfl, rfl, SqL.of a2, rfl, _, _, rfl, rfl, .inl (by omega), _, _, rfl, rfl, .inl ⟨_, rfl, _, _, rfl, rfl, (by show (2147483647 : Int) ≠ 0; decide), ?_⟩⟩
        refine ⟨_, rfl, a, _, 1, 1, rfl, rfl, a2, rfl, ?_⟩
        -- return int(deal[1] // 16) % many
        obtain ⟨m0, m1⟩ := fmod_lt (x := mm * 48271 + 12820163) (k := 2147483647) (by decide)
        refine ⟨_, rfl, _, _, _, _, rfl, rfl, SqL.of upd_same, rfl, _, _, rfl, rfl, ⟨by show (8 : Int) ≠ 0; decide, by show (8 : Int).natAbs < 1073741824; decide⟩, .inl ⟨_, rfl, _, rfl, _, _, rfl, rfl, by omega, ?_⟩⟩
        obtain ⟨r0, r1⟩ := fmod_lt (x := ((mm * 48271 + 12820163).fmod 2147483647).fdiv 8) k0
        exact q _ _ r0 r1 (kp2.trans Kp.at_a) ⟨[], _, upd_same, by rw [upd_ne D.ne.symm]; exact b2, h3, m0, m1⟩
      · rw [List.concat_eq_append] at b2 h3 ⊢
        rw [show (ns' ++ [n]).isEmpty = false by simp]
        refine iteT ?_
        refine ⟨_, rfl, _, _, _, _, rfl, rfl, SqL.of a2, rfl, .inl ⟨rfl, _, SqL.of b2⟩, b, _, .int n, rfl, rfl, b2, ?_, ?_⟩
        · rw [List.map_append, List.length_append]
          show (List.map V.int ns' ++ [V.int n])[(List.map V.int ns').length + 1 - 1]? = some (V.int n)
          simp
        · have b3 : upd (upd H1 p (.lst [])) b (.lst (List.map V.int (ns' ++ [n])).dropLast) = upd (upd H1 p (.lst [])) b (.lst (ns'.map V.int)) := by
            rw [List.map_append]
            show upd _ b (.lst (List.map V.int ns' ++ [V.int n]).dropLast) = _
            rw [List.dropLast_concat]
          rw [b3]
          have a3 : (upd (upd H1 p (.lst [])) b (.lst (ns'.map V.int))) a = some (.lst [.ref b, .int mm]) := by rw [upd_ne D.ne]; exact a2
          refine ⟨_, rfl, _, _, _, _, rfl, rfl, SqL.of a3, rfl, .inl ⟨rfl, _, SqL.of upd_same⟩, _, rfl, _, rfl, _, _, rfl, rfl, ⟨by omega, by omega⟩, b, _, _, rfl, rfl, upd_same, ?_, ?_⟩
          · rw [List.length_map]
            rw [List.length_append, List.length_singleton] at h3
            exact small1000 (by omega)
          · refine ⟨_, rfl, .inl ⟨_, rfl, _, rfl, _, _, rfl, rfl, by omega, ?_⟩⟩
            obtain ⟨r0, r1⟩ := fmod_lt (x := n) k0
            refine q _ _ r0 r1 ((kp2.trans Kp.at_b).trans Kp.at_b) ⟨ns' ++ [n.fdiv k], mm, ?_, ?_, ?_, h4, h5⟩
            · rw [upd_ne D.ne]
              exact a3
            · rw [upd_same, List.map_append]
              rfl
            · rw [List.length_append] at h3 ⊢
              exact h3

/-! ### _law_deal -/
structure TxB (mg : Str → Option Value) : Prop where
  n_int : mg "int" = none
  n_abs : mg "abs" = none
  n_len : mg "len" = none
  n_range : mg "range" = none
  n_max : mg "max" = none
  n_min : mg "min" = none
  n_list : mg "list" = none
  n_tuple : mg "tuple" = none
def spDeal (K : PySem.W.Frag) : Sp := fun vs H Q _ => ∃ (s : Addr) (ns : List Int) (k : Nat), vs = [.ref s, .int (k : Int)] ∧ SqL K H s (ns.map V.int) ∧ ns.length ≤ 63 ∧ k ≤ 60 ∧
  ∀ (a b : Addr) (H' : Hp), Same H H' → H a = none → H b = none → Deal H' a b → Q (.ref a) H'
theorem ok_deal {f : Addr} {fd : FuncData} (F : Fun K "_law_deal" "_law_deal" sDeal f fd) (T : TxB mg) : FnOk P w K mg base CX0 1 f fd ["_law_script", "_law_base"] (spDeal K) := by
  refine F.ok scDeal (fun vs H Q E h => ?_) (fun cdv A outer s H vs Q E hr h => ?_)
  · obtain ⟨a, ns, k, rfl, _⟩ := h
    rfl
  · obtain ⟨sa, ns, k, rfl, hS, hlen, hk, q⟩ := h
    refine ⟨_, pss_cons (ps_setLc (i := 3) (own := [("_law_cell", 2)]) (g := gName 2) (tt := tYes) rfl scDeal.nd rfl rfl (sw_true rfl rfl rfl (by decide +kernel)) (pi_list (pe_slice sl_list (pv 0) (po_some (pv 1)) (po_some pe_int))) (blkOk_by (own := [("_law_cell", 2)]) (N := ["_law_script", "_law_base", "_law_cell", "_law_cells", "_law_mixed"]) (sc := defScope sDeal) (by decide +kernel)) (fun _ _ _ _ _ => (pg_name (i := 2) scDeal.nd rfl (Or.inl rfl))) (fun _ _ _ _ _ => pts_nil) (fun _ _ _ _ _ => (pe_callB call_abs (by rfl) T.n_abs (by decide +kernel) (pa_cons (pv 2) pa_nil))))
      (pss_cons (ps_set (i := 4) scDeal.nd rfl (.inl rfl) (pe_op op_add pe_int (pe_op op_mul pe_int (pv 1))))
      (pss_cut (ps_for PassesOwn.never rfl (pi_list (pv 3)) (pg_name (i := 2) scDeal.nd rfl (Or.inl rfl)) (pss_one (ps_set (i := 4) scDeal.nd rfl (.inl rfl) (pe_op op_modN (pe_callTy call_int1 (by rfl) T.n_int (by decide +kernel) (pa_cons (pe_op op_add (pe_op op_mul (pv 4) pe_int) (pe_op op_modN (pe_callTy call_int1 (by rfl) T.n_int (by decide +kernel) (pa_cons (pv 2) pa_nil)) pe_int)) pa_nil)) pe_int))))
      (pss_one (ps_ret (pe_lst (pa_cons (pe_revL (pe_lc (own := [("_law_cell", 2)]) (g := gName 2) rfl scDeal.nd (pi_list (pv 3)) (blkOk_by (own := [("_law_cell", 2)]) (N := ["_law_script", "_law_base", "_law_cell", "_law_cells", "_law_mixed"]) (sc := defScope sDeal) (by decide +kernel)) (fun _ _ _ _ _ => (pg_name (i := 2) scDeal.nd rfl (Or.inl rfl))) (fun _ _ _ _ _ => (pts_one (pt_cmpR op_ge (pv 2) (pe_op op_pow pe_int pe_int) (nomark _)))) (fun _ _ _ _ _ => (pv 2)))) (pa_cons (pv 4) pa_nil))))))), ?_⟩
    obtain ⟨cs, ec, lc⟩ := cut_ints ns (some (k : Int)) (some 63)
    refine ⟨_, rfl, _, rfl, _, rfl, _, rfl, sa, _, rfl, hS, fun p np => ⟨p, rfl, ⟨_, SqL.of upd_same⟩, fun L nL => ?_⟩⟩
    rw [ec] at nL ⊢
    have sp : Same H (upd H p (.lst (cs.map V.int))) := same_upd np
    refine lc_list (xs := cs.map V.int) (fun i H' => Same (upd H p (.lst (cs.map V.int))) H' ∧ ∃ ds : List Int, ds.length = i ∧ H' L = some (.lst (ds.map V.int)))
      ⟨same_upd nL, [], rfl, upd_same⟩ (fun i H' _ h => SqL.of (h.1 _ _ upd_same)) (fun i x H' hx h => ?_) (fun H1 h1 => ?_)
    · obtain ⟨n, rfl⟩ := get_ints hx
      obtain ⟨sm, ds, dl, hd⟩ := h
      refine ⟨rfl, _, rfl, n, rfl, _, hd, ?_, ?_, ds ++ [if n < 0 then -n else n], ?_, ?_⟩
      · have := (List.getElem?_eq_some_iff.mp hx).1
        rw [List.length_map] at this ⊢
        exact small1000 (by omega)
      · exact sm.put nL
      · rw [List.length_append, dl]
        rfl
      · rw [upd_same, List.map_append]
        rfl
    · obtain ⟨sm, ds, dl, hd⟩ := h1
      rw [List.length_map] at dl
      have sH : Same H H1 := sp.trans sm
      -- 16127 + 7919 * base
      refine ⟨_, rfl, _, _, rfl, rfl, .inl (by omega), _, _, rfl, rfl, ?_⟩
      refine ⟨fun σ H2 => ∃ (v : Option V) (m : Int), σ = [some (.ref sa), some (.int (k : Int)), v, some (.ref L), some (.int m)] ∧ 0 ≤ m ∧ m < 2147483647 ∧ H2 = H1, ?_, ?_⟩
      · refine ⟨.ref L, rfl, L, rfl, ⟨_, SqL.of hd⟩, for_list (K := K) (a := L) (xs := ds.map V.int) (fun i σ H2 => ∃ (v : Option V) (m : Int), σ = [some (.ref sa), some (.int (k : Int)), v, some (.ref L), some (.int m)] ∧ 0 ≤ m ∧ m < 2147483647 ∧ H2 = H1)
          ⟨_, _, rfl, by omega, by omega, rfl⟩ (fun i σ H2 _ ⟨_, _, _, _, _, e⟩ => by rw [e]; exact SqL.of hd) ?_ ?_⟩
        · rintro i x σ H2 hx ⟨v, m, rfl, m0, m1, rfl⟩
          obtain ⟨n, rfl⟩ := get_ints hx
          obtain ⟨r0, r1⟩ := fmod_lt (x := n) (k := 2147483629) (by decide)
          refine ⟨_, rfl, _, _, rfl, rfl, .inl (by omega), _, rfl, .inl ⟨_, rfl, _, _, rfl, rfl, (by show (2147483629 : Int) ≠ 0; decide), _, _, rfl, rfl, .inl ⟨_, rfl, _, _, rfl, rfl, (by show (2147483647 : Int) ≠ 0; decide), ?_⟩⟩⟩
          obtain ⟨t0, t1⟩ := fmod_lt (x := m * 16807 + n.fmod 2147483629) (k := 2147483647) (by decide)
          exact ⟨_, _, rfl, t0, t1, rfl⟩
        · rintro σ H2 ⟨v, m, rfl, m0, m1, rfl⟩
          exact ⟨_, _, rfl, m0, m1, rfl⟩
      · rintro σ H2 ⟨v, m, rfl, m0, m1, rfl⟩
        refine ⟨.ref L, rfl, L, rfl, ⟨_, SqL.of hd⟩, fun D nD => ?_⟩
        refine lc_list (xs := ds.map V.int) (fun i H' => Same H2 H' ∧ ∃ es : List Int, es.length ≤ i ∧ H' D = some (.lst (es.map V.int)))
          ⟨same_upd nD, [], Nat.le_refl _, upd_same⟩ (fun i H' _ h => SqL.of (h.1 _ _ hd)) (fun i x H' hx h => ?_) (fun H3 h3 => ?_)
        · obtain ⟨n, rfl⟩ := get_ints hx
          obtain ⟨sm3, es, el, he⟩ := h
          have hi := (List.getElem?_eq_some_iff.mp hx).1
          rw [List.length_map] at hi
          refine ⟨rfl, _, rfl, _, _, rfl, rfl, ⟨by decide, by decide, by decide⟩, _, _, rfl, rfl, _, rfl, ite2 (fun _ => ?_) (fun _ => ?_)⟩
          · refine ⟨_, rfl, _, he, ?_, sm3.put nD, es ++ [n], ?_, ?_⟩
            · rw [List.length_map]
              exact small1000 (by omega)
            · rw [List.length_append]
              exact Nat.succ_le_succ el
            · rw [upd_same, List.map_append]
              rfl
          · exact ⟨sm3, es, by omega, he⟩
        · obtain ⟨sm3, es, el, he⟩ := h3
          rw [List.length_map] at el
          have s3 : Same H H3 := sH.trans sm3
          refine ⟨D, _, rfl, SqL.of he, fun b nb => ⟨_, rfl, (by show 2 ≤ sizeLine; decide), fun a na => ?_⟩⟩
          have sb : Same H (upd H3 b (.lst (es.map V.int).reverse)) := s3.trans (same_upd nb)
          have nab : b ≠ a := fun z => by
            rw [← z, upd_same] at na
            cases na
          refine q a b _ (sb.trans (same_upd na)) (sb.free na) (s3.free nb) ⟨es.reverse, m, upd_same, ?_, ?_, m0, m1⟩
          · rw [upd_ne nab, upd_same, List.map_reverse]
          · rw [List.length_reverse]
            omega
end
end Ov


namespace Ov
open PySem PySem.Spec PyProof.Rows L2
open Evl (pss_cut tCut)

/-- a def of the text: where it stands, its name, how its arguments bind -/
structure Df (K : PySem.W.Frag) (mg : Str → Option Value) (x : Str) (st : Stmt) (ps : List Str) (f : Addr) (fd : FuncData) : Prop where
  F : Fun K x x st f fd
  g : mg x = some (.ref f)
  b : Binds K fd ps []

/-! ### what stands apart from a deal -/
theorem Kp.put {a b : Addr} {H H' : Hp} {p : Addr} {o : HO} (k : Kp a b H H') (h : H p = Option.none) : Kp a b H (upd H' p o) := fun c u h1 h2 e => by
  rw [upd_ne (ne_of_none e h)]
  exact k c u h1 h2 e
theorem Kp.sqL {K : PySem.W.Frag} {a b : Addr} {H H' : Hp} {l : Addr} {xs : List V} (k : Kp a b H H') (h1 : l ≠ a) (h2 : l ≠ b) (h : SqL K H l xs) : SqL K H' l xs := by
  rcases h with (h | ⟨o, h⟩) | h
  · exact .inl (.inl (k _ _ h1 h2 h))
  · exact .inl (.inr ⟨o, k _ _ h1 h2 h⟩)
  · exact .inr h
theorem Kp.sqT {K : PySem.W.Frag} {a b : Addr} {H H' : Hp} {l : Addr} {xs : List V} (k : Kp a b H H') (h1 : l ≠ a) (h2 : l ≠ b) (h : SqT K H l xs) : SqT K H' l xs := by
  rcases h with (h | ⟨o, h⟩) | h
  · exact .inl (.inl (k _ _ h1 h2 h))
  · exact .inl (.inr ⟨o, k _ _ h1 h2 h⟩)
  · exact .inr h
theorem Deal.netup {H : Hp} {a b p : Addr} {xs : List V} (D : Deal H a b) (h : H p = some (.tup xs)) : p ≠ a ∧ p ≠ b := by
  obtain ⟨ns, m, h1, h2, _⟩ := D.ex
  exact ⟨ne_of h h1 (fun z => nomatch z), ne_of h h2 (fun z => nomatch z)⟩
theorem Deal.put {H : Hp} {a b p : Addr} {o : HO} (D : Deal H a b) (na : p ≠ a) (nb : p ≠ b) : Deal (upd H p o) a b := by
  obtain ⟨ns, m, h1, h2, r⟩ := D.ex
  exact ⟨ns, m, by rw [upd_ne na.symm]; exact h1, by rw [upd_ne nb.symm]; exact h2, r⟩

/-! ### rules as data -/
def kindsAll : List Str := ["ask", "day", "off", "stop", "answer"]
def testsL : List Str := ["whole", "own", "above whole", "above own", "level whole", "level own", "later whole", "later own"]
def testsOf (k : Str) : List Str := if k = "answer" then ["level"] else testsL
def deedsOf (k : Str) : List Str := if k = "answer" then ["count", "count", "drop"] else ["take", "take", "wipe"]
def testsNot (k : Str) : List Str := testsOf k ++ (testsOf k).map (("not " : Str) ++ ·)
structure RuleD where
  k : Str
  ts : List Str
  ds : List Str
structure RuleD.Ok (r : RuleD) : Prop where
  k : r.k ∈ kindsAll
  ts : ∀ t ∈ r.ts, t ∈ testsNot r.k
  ds : ∀ d ∈ r.ds, d ∈ deedsOf r.k
  nt : r.ts.length ≤ 4
  nd : r.ds.length ≤ 4
/-- a drawn rule: a tuple of its kind, tests, deeds -/
def RuleAt (H : Hp) (p : Addr) (r : RuleD) : Prop := ∃ t d : Addr, H p = some (.tup [.str r.k, .ref t, .ref d]) ∧ H t = some (.tup (r.ts.map V.str)) ∧ H d = some (.tup (r.ds.map V.str))
theorem RuleAt.same {H H' : Hp} {p : Addr} {r : RuleD} (h : RuleAt H p r) (s : Same H H') : RuleAt H' p r := by
  obtain ⟨t, d, h1, h2, h3⟩ := h
  exact ⟨t, d, s _ _ h1, s _ _ h2, s _ _ h3⟩
theorem RuleAt.kp {H H' : Hp} {a b p : Addr} {r : RuleD} (h : RuleAt H p r) (k : Kp a b H H') (D : Deal H a b) : RuleAt H' p r := by
  obtain ⟨t, d, h1, h2, h3⟩ := h
  have n1 := D.netup h1
  have n2 := D.netup h2
  have n3 := D.netup h3
  exact ⟨t, d, k _ _ n1.1 n1.2 h1, k _ _ n2.1 n2.2 h2, k _ _ n3.1 n3.2 h3⟩
theorem str_nil_app (y : Str) : (("" : Str) ++ y) = y := by
  have e : ("" : Str) = Str.empty := by decide +kernel
  rw [e]
  exact Str.empty_append y
theorem mem_len {l : List Str} (n : Nat) (h : ∀ x ∈ l, x.length ≤ n) {x : Str} (hx : x ∈ l) : x.length ≤ n := h x hx
theorem testsNot_len {k t : Str} (h : t ∈ testsNot k) : t.length ≤ 16 := by
  have h1 : ∀ t ∈ testsL ++ testsL.map (("not " : Str) ++ ·), t.length ≤ 16 := by decide +kernel
  have h2 : ∀ t ∈ (["level"] : List Str) ++ (["level"] : List Str).map (("not " : Str) ++ ·), t.length ≤ 16 := by decide +kernel
  unfold testsNot testsOf at h
  split at h
  · exact h2 t h
  · exact h1 t h
theorem deedsOf_len {k t : Str} (h : t ∈ deedsOf k) : t.length ≤ 16 := by
  have h1 : ∀ t ∈ (["count", "count", "drop"] : List Str), t.length ≤ 16 := by decide +kernel
  have h2 : ∀ t ∈ (["take", "take", "wipe"] : List Str), t.length ≤ 16 := by decide +kernel
  unfold deedsOf at h
  split at h
  · exact h1 t h
  · exact h2 t h
theorem testsOf_len {k t : Str} (h : t ∈ testsOf k) : t.length ≤ 16 := testsNot_len (List.mem_append_left _ h)
theorem kinds_len {k : Str} (h : k ∈ kindsAll) : k.length ≤ 16 := by
  have h1 : ∀ t ∈ kindsAll, t.length ≤ 16 := by decide +kernel
  exact h1 k h
theorem size_of {n : Nat} (h : n ≤ 100000) : n ≤ sizeLine := Nat.le_trans h (by decide)

def spPick (K : PySem.W.Frag) : Sp := fun vs H Q _ => ∃ (a b l : Addr) (xs : List V), vs = [.ref a, .ref l] ∧ Deal H a b ∧ l ≠ a ∧ l ≠ b ∧ (SqL K H l xs ∨ SqT K H l xs) ∧ 0 < xs.length ∧ xs.length < 1000000 ∧
  ∀ x H', x ∈ xs → Kp a b H H' → Deal H' a b → Q x H'
def spTestsOf : Sp := fun vs H Q _ => ∃ k : Str, vs = [.str k] ∧ ∀ l H', Same H H' → H l = none → H' l = some (.lst ((testsOf k).map V.str)) → Q (.ref l) H'
def spDeedsOf : Sp := fun vs H Q _ => ∃ k : Str, vs = [.str k] ∧ ∀ l H', Same H H' → H l = none → H' l = some (.lst ((deedsOf k).map V.str)) → Q (.ref l) H'
def spWideRule : Sp := fun vs H Q _ => ∃ (a b : Addr), vs = [.ref a] ∧ Deal H a b ∧ ∀ p (r : RuleD) H', r.Ok → Kp a b H H' → Deal H' a b → RuleAt H' p r → Q (.ref p) H'

section
variable {P : Program} {w : World} {K : PySem.W.Frag} {mg : Str → Option Value} {base : Heap}
abbrev sPick : Stmt := topS 55
theorem scPick : FnScope ["_law_deal_here", "_law_some"] ["_law_deal_here", "_law_some"] (defScope sPick) := ⟨rfl, rfl, rfl, by decide +kernel, rfl, by decide +kernel, by decide +kernel⟩
theorem ok_pick {f fDraw : Addr} {fd fdDraw : FuncData} (F : Fun K "_law_pick" "_law_pick" sPick f fd) (T : TxB mg) (D_draw : Df K mg "_law_draw" sDraw ["_law_deal_here", "_law_many"] fDraw fdDraw) :
    FnOk P w K mg base CX0 2 f fd ["_law_deal_here", "_law_some"] (spPick K) := by
  have G_draw : FnOk P w K mg base CX0 1 fDraw fdDraw ["_law_deal_here", "_law_many"] spDraw := ok_draw D_draw.F T.n_int
  refine F.ok scPick (fun vs H Q E h => ?_) (fun cdv A outer s H vs Q E hr h => ?_)
  · obtain ⟨a, b, l, xs, rfl, _⟩ := h
    rfl
  · obtain ⟨a, b, l, xs, rfl, D, na, nb, hS, h0, h1, q⟩ := h
    refine ⟨_, pss_one (ps_ret (pe_ix ix_seq (pv 1) (pe_call G_draw (hr.mono (by decide)) rfl D_draw.g D_draw.F.kp D_draw.b .nil pass0 (pa_cons (pv 0) (pa_cons (pe_callB call_len_seq (by rfl) T.n_len (by decide +kernel) (pa_cons (pv 1) pa_nil)) pa_nil))) (fun _ _ => rfl))), ?_⟩
    refine ⟨_, rfl, _, rfl, _, rfl, l, xs, rfl, hS, a, b, _, rfl, D, by omega, by omega, fun r H1 r0 r1 kp D1 => ?_⟩
    obtain ⟨i, rfl⟩ := Int.eq_ofNat_of_zero_le r0
    have hi : i < xs.length := by omega
    have e := List.getElem?_eq_getElem hi
    have m := List.getElem_mem hi
    rcases hS with hS | hS
    · exact .inl ⟨l, xs, _, _, rfl, rfl, kp.sqL na nb hS, atI_nat e, q _ _ m kp D1⟩
    · exact .inr (.inl ⟨l, xs, _, _, rfl, rfl, kp.sqT na nb hS, atI_nat e, q _ _ m kp D1⟩)
end
end Ov


namespace Ov
open PySem PySem.Spec PyProof.Rows L2
open Evl (pss_cut tCut Ex Ev EvT EvL EvA EvU)

/-! ### what the text has at its top -/
structure TxR (K : PySem.W.Frag) (mg : Str → Option Value) (a_LETTERS a_LETTER_TESTS a_LETTER_DEEDS a_ANSWER_TESTS a_ANSWER_DEEDS CR : Addr) (tA tN : Tok) : Prop extends TxB mg where
  g_LETTERS : mg "LETTERS" = some (.ref a_LETTERS)
  s_LETTERS : ∀ H, SqT K H a_LETTERS ((["ask", "day", "off", "stop"] : List Str).map V.str)
  g_ANSWER : mg "ANSWER" = some (.str "answer" tA)
  g_NOT : mg "NOT" = some (.str "not " tN)
  g_LETTER_TESTS : mg "LETTER_TESTS" = some (.ref a_LETTER_TESTS)
  s_LETTER_TESTS : ∀ H, SqT K H a_LETTER_TESTS (testsL.map V.str)
  g_LETTER_DEEDS : mg "LETTER_DEEDS" = some (.ref a_LETTER_DEEDS)
  s_LETTER_DEEDS : ∀ H, SqT K H a_LETTER_DEEDS ((["take", "wipe"] : List Str).map V.str)
  g_ANSWER_TESTS : mg "ANSWER_TESTS" = some (.ref a_ANSWER_TESTS)
  s_ANSWER_TESTS : ∀ H, SqT K H a_ANSWER_TESTS ((["level"] : List Str).map V.str)
  g_ANSWER_DEEDS : mg "ANSWER_DEEDS" = some (.ref a_ANSWER_DEEDS)
  s_ANSWER_DEEDS : ∀ H, SqT K H a_ANSWER_DEEDS ((["count", "drop"] : List Str).map V.str)
  g_Rule : mg "Rule" = some (.ref CR)
  n_isinstance : mg "isinstance" = none
  n_str : mg "str" = none
  n_all : mg "all" = none
  cl : Cls K CR
  nK : NoAttr K CR "kind"
  nT : NoAttr K CR "tests"
  nD : NoAttr K CR "deeds"
  ci : PySem.W.findIn K (.ref CR) "__class__" = some (some (.builtin "object.__class__"))
  cs : PySem.W.specialIn K (.builtin "object.__class__") "__get__" = some (some (.builtin "getset_descriptor.__get__"))
  ct : PySem.W.takesIn K (.builtin "object.__class__") = some true
  co : PySem.W.mroIn K CR (.type "object") = some true

/-! ### a value's membership among texts -/
theorem inV_strs (k : Str) : ∀ l : List Str, inV (.str k) (l.map V.str) = decide (k ∈ l)
  | [] => rfl
  | x :: r => by
    have ih := inV_strs k r
    unfold inV at ih ⊢
    rw [List.map_cons, List.any_cons, ih]
    show (x == k || decide (k ∈ r)) = decide (k ∈ x :: r)
    by_cases h : x = k
    · rw [h]
      simp
    · have h2 : ¬ k = x := fun z => h z.symm
      simp [h, h2]
theorem flat_strs (l : List Str) : (l.map V.str).all flatV = true := by
  rw [List.all_eq_true]
  intro x hx
  obtain ⟨y, _, rfl⟩ := List.mem_map.mp hx
  rfl
theorem strs_at {l : List Str} {i : Nat} {x : V} (h : (l.map V.str)[i]? = some x) : ∃ y, x = .str y ∧ l[i]? = some y := by
  rw [List.getElem?_map] at h
  cases e : l[i]? with
  | none =>
    rw [e] at h
    cases h
  | some y =>
    rw [e] at h
    exact ⟨y, (Option.some.inj h).symm, rfl⟩
theorem ex_same {H H' : Hp} (h : Ex H H') : Same H H' := fun b o e => h b o e
theorem tyx_list {K : PySem.W.Frag} {H : Hp} {a : Addr} {xs : List V} (h : SqL K H a xs) : TyX K H (.ref a) (.type "list") := by
  rcases h with (h | ⟨o, h⟩) | ⟨o, its, n, h, c, _⟩
  · exact .base (.lst h)
  · exact .base (.frz h)
  · exact .kList h c
theorem tyx_tuple {K : PySem.W.Frag} {H : Hp} {a : Addr} {xs : List V} (h : SqT K H a xs) : TyX K H (.ref a) (.type "tuple") := by
  rcases h with (h | ⟨o, h⟩) | ⟨o, its, n, h, c, _⟩
  · exact .base (.tup h)
  · exact .fTuple h
  · exact .kTuple h c

/-! ### promises -/
def spIsSeq (K : PySem.W.Frag) : Sp := fun vs H Q _ => ∃ (a : Addr) (xs : List V), vs = [.ref a] ∧ (SqL K H a xs ∨ SqT K H a xs) ∧ ∀ H', Ex H H' → Q (.bl true) H'
def spIsKind : Sp := fun vs H Q _ => ∃ k : Str, vs = [.str k] ∧ Q (.bl (decide (k ∈ kindsAll))) H
def spIsTest : Sp := fun vs H Q _ => ∃ k t : Str, vs = [.str k, .str t] ∧ k ∈ kindsAll ∧ t ∈ testsNot k ∧ Q (.bl true) H
def spIsDeed : Sp := fun vs H Q _ => ∃ k t : Str, vs = [.str k, .str t] ∧ k ∈ kindsAll ∧ t ∈ deedsOf k ∧ Q (.bl true) H
/-- a rule's fields -/
def rf (k : Str) (t d : Addr) : List (Str × V) := putF "deeds" (.ref d) (putF "tests" (.ref t) (putF "kind" (.str k) []))
/-- at p a Rule of the class at C -/
def RuleObj (K : PySem.W.Frag) (C : Addr) (H : Hp) (p : Addr) (r : RuleD) : Prop := ∃ (dx t d : Addr), H p = some (.ins C dx (rf r.k t d)) ∧ SqT K H t (r.ts.map V.str) ∧ SqT K H d (r.ds.map V.str)
theorem RuleObj.ex {K : PySem.W.Frag} {C : Addr} {H H' : Hp} {p : Addr} {r : RuleD} (h : RuleObj K C H p r) (e : Ex H H') : RuleObj K C H' p r := by
  obtain ⟨dx, t, d, h1, h2, h3⟩ := h
  exact ⟨dx, t, d, e _ _ h1, Evl.ex_t e h2, Evl.ex_t e h3⟩
/-- its parts are good (the lengths are bounded far above what is drawn) -/
structure RuleD.Good (r : RuleD) : Prop where
  k : r.k ∈ kindsAll
  ts : ∀ t ∈ r.ts, t ∈ testsNot r.k
  ds : ∀ d ∈ r.ds, d ∈ deedsOf r.k
  nt : r.ts.length ≤ 1000
  nd : r.ds.length ≤ 1000
theorem RuleD.Good.pt {r : RuleD} (g : r.Good) : Plain r.ts := fun t ht => by
  have h1 : ∀ t ∈ testsL ++ testsL.map (("not " : Str) ++ ·), PyData.canLay0 (.str t) = true := by decide +kernel
  have h2 : ∀ t ∈ (["level"] : List Str) ++ (["level"] : List Str).map (("not " : Str) ++ ·), PyData.canLay0 (.str t) = true := by decide +kernel
  have h := g.ts t ht
  unfold testsNot testsOf at h
  split at h
  · exact h2 t h
  · exact h1 t h
theorem RuleD.Good.pd {r : RuleD} (g : r.Good) : Plain r.ds := fun t ht => by
  have h1 : ∀ t ∈ (["count", "count", "drop"] : List Str), PyData.canLay0 (.str t) = true := by decide +kernel
  have h2 : ∀ t ∈ (["take", "take", "wipe"] : List Str), PyData.canLay0 (.str t) = true := by decide +kernel
  have h := g.ds t ht
  unfold deedsOf at h
  split at h
  · exact h1 t h
  · exact h2 t h
theorem RuleD.Ok.good {r : RuleD} (h : r.Ok) : r.Good := ⟨h.k, h.ts, h.ds, Nat.le_trans h.nt (by decide), Nat.le_trans h.nd (by decide)⟩
def spRuleInit (K : PySem.W.Frag) (C : Addr) : Sp := fun vs H Q _ => ∃ (p t d dx : Addr) (r : RuleD), vs = [.ref p, .str r.k, .ref t, .ref d] ∧ H p = some (.ins C dx []) ∧ (SqL K H t (r.ts.map V.str) ∨ SqT K H t (r.ts.map V.str)) ∧ (SqL K H d (r.ds.map V.str) ∨ SqT K H d (r.ds.map V.str)) ∧ r.Good ∧
  ∀ H', (∀ b o, b ≠ p → H b = some o → H' b = some o) → RuleObj K C H' p r → Q .non H'

section
variable {P : Program} {w : World} {K : PySem.W.Frag} {mg : Str → Option Value} {base : Heap} {a_LETTERS a_LETTER_TESTS a_LETTER_DEEDS a_ANSWER_TESTS a_ANSWER_DEEDS CR : Addr} {tA tN : Tok}
abbrev sIsSequence : Stmt := topS 9
theorem scIsSequence : FnScope ["value"] ["value"] (defScope sIsSequence) := ⟨rfl, rfl, rfl, by decide +kernel, rfl, by decide +kernel, by decide +kernel⟩
abbrev sIsKind : Stmt := topS 21
theorem scIsKind : FnScope ["value"] ["value"] (defScope sIsKind) := ⟨rfl, rfl, rfl, by decide +kernel, rfl, by decide +kernel, by decide +kernel⟩
abbrev sIsTest : Stmt := topS 22
theorem scIsTest : FnScope ["kind", "value", "known"] ["kind", "value"] (defScope sIsTest) := ⟨rfl, rfl, rfl, by decide +kernel, rfl, by decide +kernel, by decide +kernel⟩
abbrev sIsDeed : Stmt := topS 23
theorem scIsDeed : FnScope ["kind", "value", "known"] ["kind", "value"] (defScope sIsDeed) := ⟨rfl, rfl, rfl, by decide +kernel, rfl, by decide +kernel, by decide +kernel⟩
abbrev sRuleInit : Stmt := inClass (topS 25) 0
theorem scRuleInit : FnScope ["self", "kind", "tests", "deeds", "deed", "test"] ["self", "kind", "tests", "deeds"] (defScope sRuleInit) := ⟨rfl, rfl, rfl, by decide +kernel, rfl, by decide +kernel, by decide +kernel⟩
theorem ok_is_sequence {f : Addr} {fd : FuncData} (F : Fun K "is_sequence" "is_sequence" sIsSequence f fd) (T : TxR K mg a_LETTERS a_LETTER_TESTS a_LETTER_DEEDS a_ANSWER_TESTS a_ANSWER_DEEDS CR tA tN) : FnOk P w K mg base CX0 1 f fd ["value"] (spIsSeq K) := by
  refine F.ok scIsSequence (fun vs H Q E h => ?_) (fun cdv A outer s H vs Q E hr h => ?_)
  · obtain ⟨a, xs, rfl, _⟩ := h
    rfl
  · obtain ⟨a, xs, rfl, hS, q⟩ := h
    refine ⟨_, pss_one (ps_ret (pe_callB call_isiT (by rfl) T.n_isinstance (by decide +kernel) (pa_cons (pv 0) (pa_cons (pe_tup (pa_cons (pe_bltn (v := .ty "list") (by rfl) T.n_list (by decide +kernel) rfl) (pa_cons (pe_bltn (v := .ty "tuple") (by rfl) T.n_tuple (by decide +kernel) rfl) pa_nil))) pa_nil)))), ?_⟩
    refine ⟨_, rfl, by show 2 ≤ sizeLine; decide, fun p np => ?_⟩
    have e1 : Ex H (upd H p (.tup [.ty "list", .ty "tuple"])) := Ex.new np
    rcases hS with hS | hS
    · exact ⟨_, p, _, _, [.type "list", .type "tuple"], true, rfl, upd_same, .cons (.ty _) (.cons (.ty _) .nil), tyx_list (Evl.ex_l e1 hS), kitAny_cons (kit_ty (r := true) (by decide +kernel)) (fun z => nomatch z) (fun _ => rfl), q _ e1⟩
    · exact ⟨_, p, _, _, [.type "list", .type "tuple"], true, rfl, upd_same, .cons (.ty _) (.cons (.ty _) .nil), tyx_tuple (Evl.ex_t e1 hS), kitAny_cons (kit_ty (r := false) (by decide +kernel)) (fun _ => kitAny_cons (kit_ty (r := true) (by decide +kernel)) (fun z => nomatch z) (fun _ => rfl)) (fun z => nomatch z), q _ e1⟩
theorem ok_is_kind {f : Addr} {fd : FuncData} (F : Fun K "is_kind" "is_kind" sIsKind f fd) (T : TxR K mg a_LETTERS a_LETTER_TESTS a_LETTER_DEEDS a_ANSWER_TESTS a_ANSWER_DEEDS CR tA tN) : FnOk P w K mg base CX0 1 f fd ["value"] spIsKind := by
  refine F.ok scIsKind (fun vs H Q E h => ?_) (fun cdv A outer s H vs Q E hr h => ?_)
  · obtain ⟨k, rfl, _⟩ := h
    rfl
  · obtain ⟨k, rfl, q⟩ := h
    refine ⟨_, pss_one (ps_ret (pe_or (pe_cmpR op_in_seq (pv 0) (pe_glob (v := .ref a_LETTERS) rfl T.g_LETTERS rfl) (by rfl)) (pe_one (pe_cmpR op_eq (pv 0) (pe_glob (v := .str "answer") rfl T.g_ANSWER ⟨_, rfl⟩) (nomark _))))), ?_⟩
    refine ⟨_, rfl, _, _, rfl, .inr (T.s_LETTERS _), rfl, flat_strs _, _, rfl, ?_⟩
    rw [inV_strs]
    refine ite2 (fun e => ?_) (fun e => ?_)
    · have h1 : k ∈ (["ask", "day", "off", "stop"] : List Str) := of_decide_eq_true e
      have h2 : k ∈ kindsAll := List.mem_append_left (["answer"] : List Str) h1
      rw [decide_eq_true h2] at q
      exact q
    · refine ⟨_, rfl, rfl, ?_⟩
      have h1 : ¬ k ∈ (["ask", "day", "off", "stop"] : List Str) := fun z => e (decide_eq_true z)
      have h2 : decide (V.str k = V.str "answer") = decide (k ∈ kindsAll) := by
        by_cases hk : k = "answer"
        · rw [hk]
          decide +kernel
        · rw [decide_eq_false (fun z => hk (V.str.inj z)), decide_eq_false]
          intro z
          rcases List.mem_append.mp (show k ∈ (["ask", "day", "off", "stop"] : List Str) ++ (["answer"] : List Str) from z) with z | z
          · exact h1 z
          · exact hk (List.mem_singleton.mp z)
      rw [h2]
      exact q
theorem ok_is_test {f : Addr} {fd : FuncData} (F : Fun K "is_test" "is_test" sIsTest f fd) (T : TxR K mg a_LETTERS a_LETTER_TESTS a_LETTER_DEEDS a_ANSWER_TESTS a_ANSWER_DEEDS CR tA tN) : FnOk P w K mg base CX0 1 f fd ["kind", "value"] spIsTest := by
  refine F.ok scIsTest (fun vs H Q E h => ?_) (fun cdv A outer s H vs Q E hr h => ?_)
  · obtain ⟨k, t, rfl, _⟩ := h
    rfl
  · obtain ⟨k, t, rfl, hk, ht, q⟩ := h
    refine ⟨_, pss_cons (ps_set (i := 2) scIsTest.nd rfl (.inl rfl) (pe_ifExp (pt_cmpR op_eq (pv 0) (pe_glob (v := .str "answer") rfl T.g_ANSWER ⟨_, rfl⟩) (nomark _)) (pe_glob (v := .ref a_ANSWER_TESTS) rfl T.g_ANSWER_TESTS rfl) (pe_glob (v := .ref a_LETTER_TESTS) rfl T.g_LETTER_TESTS rfl)))
      (pss_one (ps_ret (pe_and (pe_callB call_isi (by rfl) T.n_isinstance (by decide +kernel) (pa_cons (pv 1) (pa_cons (pe_bltn (v := .ty "str") (by rfl) T.n_str (by decide +kernel) rfl) pa_nil))) (pe_one (pe_cmpR op_in_seq (pe_bm PySem.F.plainAttrs_str PySem.F.slot_str_removeprefix PySem.F.type_str_removeprefix mt_removeprefix (pv 1) (pa_cons (pe_glob (v := .str "not ") rfl T.g_NOT ⟨_, rfl⟩) pa_nil)) (pv 2) (by rfl)))))), ?_⟩
    have lt := testsNot_len ht
    have h1 : ∀ t ∈ testsL ++ testsL.map (("not " : Str) ++ ·), Txt.removeprefix t "not " ∈ testsL := by decide +kernel
    have h2 : ∀ t ∈ (["level"] : List Str) ++ (["level"] : List Str).map (("not " : Str) ++ ·), Txt.removeprefix t "not " ∈ (["level"] : List Str) := by decide +kernel
    refine ⟨_, rfl, rfl, _, rfl, ite2 (fun e => ?_) (fun e => ?_)⟩
    · have ek : k = "answer" := V.str.inj (of_decide_eq_true e)
      have ht2 : Txt.removeprefix t "not " ∈ (["level"] : List Str) := h2 t (by
        unfold testsNot testsOf at ht
        rw [if_pos ek] at ht
        exact ht)
      refine ⟨_, rfl, _, _, _, _, true, rfl, .ty _, .base (.str _), kit_ty (by decide +kernel), _, rfl, iteT ?_⟩
      refine ⟨_, rfl, rfl, _, _, rfl, rfl, size_of (by omega), _, rfl, _, _, rfl, .inr (T.s_ANSWER_TESTS _), rfl, flat_strs _, ?_⟩
      rw [inV_strs, decide_eq_true ht2]
      exact q
    · have ek : ¬ k = "answer" := fun z => e (decide_eq_true (by rw [z]))
      have ht2 : Txt.removeprefix t "not " ∈ testsL := h1 t (by
        unfold testsNot testsOf at ht
        rw [if_neg ek] at ht
        exact ht)
      refine ⟨_, rfl, _, _, _, _, true, rfl, .ty _, .base (.str _), kit_ty (by decide +kernel), _, rfl, iteT ?_⟩
      refine ⟨_, rfl, rfl, _, _, rfl, rfl, size_of (by omega), _, rfl, _, _, rfl, .inr (T.s_LETTER_TESTS _), rfl, flat_strs _, ?_⟩
      rw [inV_strs, decide_eq_true ht2]
      exact q
theorem ok_is_deed {f : Addr} {fd : FuncData} (F : Fun K "is_deed" "is_deed" sIsDeed f fd) (T : TxR K mg a_LETTERS a_LETTER_TESTS a_LETTER_DEEDS a_ANSWER_TESTS a_ANSWER_DEEDS CR tA tN) : FnOk P w K mg base CX0 1 f fd ["kind", "value"] spIsDeed := by
  refine F.ok scIsDeed (fun vs H Q E h => ?_) (fun cdv A outer s H vs Q E hr h => ?_)
  · obtain ⟨k, t, rfl, _⟩ := h
    rfl
  · obtain ⟨k, t, rfl, hk, ht, q⟩ := h
    refine ⟨_, pss_cons (ps_set (i := 2) scIsDeed.nd rfl (.inl rfl) (pe_ifExp (pt_cmpR op_eq (pv 0) (pe_glob (v := .str "answer") rfl T.g_ANSWER ⟨_, rfl⟩) (nomark _)) (pe_glob (v := .ref a_ANSWER_DEEDS) rfl T.g_ANSWER_DEEDS rfl) (pe_glob (v := .ref a_LETTER_DEEDS) rfl T.g_LETTER_DEEDS rfl)))
      (pss_one (ps_ret (pe_cmpR op_in_seq (pv 1) (pv 2) (by rfl)))), ?_⟩
    have h1 : ∀ t ∈ (["take", "take", "wipe"] : List Str), t ∈ (["take", "wipe"] : List Str) := by decide +kernel
    have h2 : ∀ t ∈ (["count", "count", "drop"] : List Str), t ∈ (["count", "drop"] : List Str) := by decide +kernel
    refine ⟨_, rfl, rfl, _, rfl, ite2 (fun e => ?_) (fun e => ?_)⟩
    · have ek : k = "answer" := V.str.inj (of_decide_eq_true e)
      have ht2 : t ∈ (["count", "drop"] : List Str) := h2 t (by
        unfold deedsOf at ht
        rw [if_pos ek] at ht
        exact ht)
      refine ⟨_, rfl, _, rfl, _, _, rfl, .inr (T.s_ANSWER_DEEDS _), rfl, flat_strs _, ?_⟩
      rw [inV_strs, decide_eq_true ht2]
      exact q
    · have ek : ¬ k = "answer" := fun z => e (decide_eq_true (by rw [z]))
      have ht2 : t ∈ (["take", "wipe"] : List Str) := h1 t (by
        unfold deedsOf at ht
        rw [if_neg ek] at ht
        exact ht)
      refine ⟨_, rfl, _, rfl, _, _, rfl, .inr (T.s_LETTER_DEEDS _), rfl, flat_strs _, ?_⟩
      rw [inV_strs, decide_eq_true ht2]
      exact q
theorem ok_rule_init {f fSeq fKind fTest fDeed : Addr} {fd fdSeq fdKind fdTest fdDeed : FuncData} {dvs : List V} {kws : List (Str × V)} (F : FunD K "__init__" "Rule.__init__" (defArgs sRuleInit) (defBody sRuleInit) (defScope sRuleInit) dvs kws f fd) (T : TxR K mg a_LETTERS a_LETTER_TESTS a_LETTER_DEEDS a_ANSWER_TESTS a_ANSWER_DEEDS CR tA tN)
    (D_is_sequence : Df K mg "is_sequence" sIsSequence ["value"] fSeq fdSeq) (D_is_kind : Df K mg "is_kind" sIsKind ["value"] fKind fdKind) (D_is_test : Df K mg "is_test" sIsTest ["kind", "value"] fTest fdTest) (D_is_deed : Df K mg "is_deed" sIsDeed ["kind", "value"] fDeed fdDeed) :
    FnOk P w K mg base CX0 2 f fd ["self", "kind", "tests", "deeds"] (spRuleInit K CR) := by
  have G_is_sequence : FnOk P w K mg base CX0 1 fSeq fdSeq ["value"] (spIsSeq K) := ok_is_sequence D_is_sequence.F T
  have G_is_kind : FnOk P w K mg base CX0 1 fKind fdKind ["value"] spIsKind := ok_is_kind D_is_kind.F T
  have G_is_test : FnOk P w K mg base CX0 1 fTest fdTest ["kind", "value"] spIsTest := ok_is_test D_is_test.F T
  have G_is_deed : FnOk P w K mg base CX0 1 fDeed fdDeed ["kind", "value"] spIsDeed := ok_is_deed D_is_deed.F T
  refine FunD_ok0 F scRuleInit (fun vs H Q E h => ?_) (fun cdv A outer s H vs Q E hr h => ?_)
  · obtain ⟨p, t, d, dx, r, rfl, _⟩ := h
    rfl
  · obtain ⟨p, t, d, dx, r, rfl, hp, hT, hD, G, q⟩ := h
    refine ⟨_, pss_cons (ps_if (pt_not (pt_val (pe_call G_is_kind (hr.mono (by decide)) rfl D_is_kind.g D_is_kind.F.kp D_is_kind.b .nil pass0 (pa_cons (pv 1) pa_nil)))) (pss_one ps_never) pss_nil)
      (pss_cons (ps_if (PW.pt (pw_or (pt_not (pt_val (pe_call G_is_sequence (hr.mono (by decide)) rfl D_is_sequence.g D_is_sequence.F.kp D_is_sequence.b .nil pass0 (pa_cons (pv 2) pa_nil)))) (pw_or1 (pt_not (pt_val (pe_callB (cr_all rfl) (by rfl) T.n_all (by decide +kernel) (pa_cons (pe_lc (own := [("test", 5)]) (g := gName 5) (tt := tYes) rfl scRuleInit.nd (pi_both (pv 2)) (blkOk_by (own := [("test", 5)]) (N := ["self", "kind", "tests", "deeds", "deed", "test"]) (sc := defScope sRuleInit) (by decide +kernel)) (fun _ _ _ _ _ => (pg_name (i := 5) scRuleInit.nd rfl (Or.inl rfl))) (fun _ _ _ _ _ => pts_nil) (fun _ _ _ _ _ => (pe_call G_is_test (hr.mono (by decide)) rfl D_is_test.g D_is_test.F.kp D_is_test.b .nil pass0 (pa_cons (pv 1) (pa_cons (pv 5) pa_nil))))) pa_nil))))))) (pss_one ps_never) pss_nil)
      (pss_cons (ps_if (PW.pt (pw_or (pt_not (pt_val (pe_call G_is_sequence (hr.mono (by decide)) rfl D_is_sequence.g D_is_sequence.F.kp D_is_sequence.b .nil pass0 (pa_cons (pv 3) pa_nil)))) (pw_or1 (pt_not (pt_val (pe_callB (cr_all rfl) (by rfl) T.n_all (by decide +kernel) (pa_cons (pe_lc (own := [("deed", 4)]) (g := gName 4) (tt := tYes) rfl scRuleInit.nd (pi_both (pv 3)) (blkOk_by (own := [("deed", 4)]) (N := ["self", "kind", "tests", "deeds", "deed", "test"]) (sc := defScope sRuleInit) (by decide +kernel)) (fun _ _ _ _ _ => (pg_name (i := 4) scRuleInit.nd rfl (Or.inl rfl))) (fun _ _ _ _ _ => pts_nil) (fun _ _ _ _ _ => (pe_call G_is_deed (hr.mono (by decide)) rfl D_is_deed.g D_is_deed.F.kp D_is_deed.b .nil pass0 (pa_cons (pv 1) (pa_cons (pv 4) pa_nil))))) pa_nil))))))) (pss_one ps_never) pss_nil)
      (pss_cons (ps_fld (pv 0) (pv 1) rfl)
      (pss_cons (ps_fld (pv 0) (pe_callTy call_tuple_any (by rfl) T.n_tuple (by decide +kernel) (pa_cons (pv 2) pa_nil)) rfl)
      (pss_one (ps_fld (pv 0) (pe_callTy call_tuple_any (by rfl) T.n_tuple (by decide +kernel) (pa_cons (pv 3) pa_nil)) rfl)))))), ?_⟩
    refine ⟨_, rfl, _, rfl, _, rfl, ?_⟩
    rw [decide_eq_true G.k]
    refine iteF ?_
    have lT : (r.ts.map V.str).length ≤ 40000 := by rw [List.length_map]; exact Nat.le_trans G.nt (by decide)
    have lD : (r.ds.map V.str).length ≤ 40000 := by rw [List.length_map]; exact Nat.le_trans G.nd (by decide)
    have exB : ∀ {H H' : Hp} {a : Addr} {xs : List V}, Ex H H' → (SqL K H a xs ∨ SqT K H a xs) → (SqL K H' a xs ∨ SqT K H' a xs) := fun e h => h.imp (Evl.ex_l e) (Evl.ex_t e)
    refine Evl.q_when (b := false) (Evl.et_is (Evl.et_or (Evl.et_not (Evl.et_B (ev_call (v := .bl true) (Evl.ea_cons (Evl.ev_var rfl) Evl.ea_nil) fun H1 e1 Q1 q1 => ⟨t, _, rfl, exB e1 hT, fun H2 e2 => q1 H2 e2⟩)))
      (fun _ => Evl.et_not (Evl.et_B (ev_all (bs := List.replicate (r.ts.map V.str).length true) ?_)))) (by rw [all_true]; rfl)) (fun z => nomatch z) (fun _ H1 e1 => ?_)
    · rw [← range_true]
      refine el_lcB (fun _ => .bl true) (Evl.ev_var rfl) hT lT (fun x => rfl) (fun i x H2 e2 hi => ?_)
      obtain ⟨y, rfl, hy⟩ := strs_at hi
      exact ev_call (Evl.ea_cons (Evl.ev_var rfl) (Evl.ea_cons (Evl.ev_var rfl) Evl.ea_nil)) fun H3 e3 Q3 q3 => ⟨r.k, y, rfl, G.k, G.ts y (List.mem_of_getElem? hy), q3 H3 (Ex.refl _)⟩
    refine Evl.q_when (b := false) (Evl.et_is (Evl.et_or (Evl.et_not (Evl.et_B (ev_call (v := .bl true) (Evl.ea_cons (Evl.ev_var rfl) Evl.ea_nil) fun H2 e2 Q1 q1 => ⟨d, _, rfl, exB (e1.trans e2) hD, fun H3 e3 => q1 H3 e3⟩)))
      (fun _ => Evl.et_not (Evl.et_B (ev_all (bs := List.replicate (r.ds.map V.str).length true) ?_)))) (by rw [all_true]; rfl)) (fun z => nomatch z) (fun _ H2 e2 => ?_)
    · rw [← range_true]
      refine el_lcB (fun _ => .bl true) (Evl.ev_var rfl) (exB e1 hD) lD (fun x => rfl) (fun i x H2 e2 hi => ?_)
      obtain ⟨y, rfl, hy⟩ := strs_at hi
      exact ev_call (Evl.ea_cons (Evl.ev_var rfl) (Evl.ea_cons (Evl.ev_var rfl) Evl.ea_nil)) fun H3 e3 Q3 q3 => ⟨r.k, y, rfl, G.k, G.ds y (List.mem_of_getElem? hy), q3 H3 (Ex.refl _)⟩
    -- the fields
    have e12 := e1.trans e2
    have ntp : ∀ {H' : Hp} {a : Addr} {xs : List V} {fs : List (Str × V)}, H' p = some (.ins CR dx fs) → SqT K H' a xs → ∀ o, SqT K (upd H' p o) a xs := by
      intro H' a xs fs hp' h o
      rcases h with (h | ⟨u, h⟩) | h
      · exact .inl (.inl (by rw [upd_ne (ne_of h hp' (fun z => nomatch z))]; exact h))
      · exact .inl (.inr ⟨u, by rw [upd_ne (ne_of h hp' (fun z => nomatch z))]; exact h⟩)
      · exact .inr h
    have ntl : ∀ {H' : Hp} {a : Addr} {xs : List V} {fs : List (Str × V)}, H' p = some (.ins CR dx fs) → SqL K H' a xs → ∀ o, SqL K (upd H' p o) a xs := by
      intro H' a xs fs hp' h o
      rcases h with (h | ⟨u, h⟩) | h
      · exact .inl (.inl (by rw [upd_ne (ne_of h hp' (fun z => nomatch z))]; exact h))
      · exact .inl (.inr ⟨u, by rw [upd_ne (ne_of h hp' (fun z => nomatch z))]; exact h⟩)
      · exact .inr h
    have hp2 := e12 _ _ hp
    refine ⟨_, rfl, _, rfl, p, CR, dx, _, rfl, hp2, T.cl, T.nK, (by show 0 < 1000; decide), ?_⟩
    have hT2 := (exB e12 hT).imp (fun h => ntl hp2 h (.ins CR dx (putF "kind" (.str r.k) []))) (fun h => ntp hp2 h (.ins CR dx (putF "kind" (.str r.k) [])))
    have hD2 := (exB e12 hD).imp (fun h => ntl hp2 h (.ins CR dx (putF "kind" (.str r.k) []))) (fun h => ntp hp2 h (.ins CR dx (putF "kind" (.str r.k) [])))
    refine ⟨_, rfl, t, _, rfl, hT2, fun t2 H3 e3 s3 => ?_⟩
    have hp3 := e3 _ _ upd_same
    refine ⟨_, rfl, p, CR, dx, _, rfl, hp3, T.cl, T.nT, (by show 1 < 1000; decide), ?_⟩
    have hD3 := (exB e3 hD2).imp (fun h => ntl hp3 h (.ins CR dx (putF "tests" (.ref t2) (putF "kind" (.str r.k) [])))) (fun h => ntp hp3 h (.ins CR dx (putF "tests" (.ref t2) (putF "kind" (.str r.k) []))))
    have s3' := ntp hp3 s3 (.ins CR dx (putF "tests" (.ref t2) (putF "kind" (.str r.k) [])))
    refine ⟨_, rfl, d, _, rfl, hD3, fun d2 H4 e4 s4 => ?_⟩
    have hp4 := e4 _ _ upd_same
    refine ⟨_, rfl, p, CR, dx, _, rfl, hp4, T.cl, T.nD, (by show 2 < 1000; decide), ?_⟩
    refine q _ (fun b o hb hh => ?_) ⟨dx, t2, d2, upd_same, ntp hp4 (Evl.ex_t e4 s3') _, ntp hp4 s4 _⟩
    rw [upd_ne hb]
    refine e4 _ _ ?_
    rw [upd_ne hb]
    refine e3 _ _ ?_
    rw [upd_ne hb]
    exact e12 _ _ hh
/-! ### rules as texts, rules compared -/
theorem rf_k (k : Str) (t d : Addr) : (rf k t d).lookup ("kind" : Str) = some (.str k) := by
  unfold rf
  rw [lookup_putF, if_neg (by decide +kernel), lookup_putF, if_neg (by decide +kernel), lookup_putF, if_pos rfl]
theorem rf_t (k : Str) (t d : Addr) : (rf k t d).lookup ("tests" : Str) = some (.ref t) := by
  unfold rf
  rw [lookup_putF, if_neg (by decide +kernel), lookup_putF, if_pos rfl]
theorem rf_d (k : Str) (t d : Addr) : (rf k t d).lookup ("deeds" : Str) = some (.ref d) := by
  unfold rf
  rw [lookup_putF, if_pos rfl]
theorem sum_small : ∀ (l : List Str) (n : Nat), (∀ x ∈ l, x.length ≤ n) → (l.map (·.length)).sum ≤ l.length * n
  | [], _, _ => Nat.zero_le _
  | x :: r, n, h => by
    have ih := sum_small r n fun y hy => h y (List.mem_cons_of_mem _ hy)
    have hx := h x (List.mem_cons_self ..)
    rw [List.map_cons, List.sum_cons, List.length_cons, Nat.succ_mul]
    omega
theorem join_len (sep : Str) : ∀ l : List Str, (Str.join sep l).length ≤ (l.map (·.length)).sum + l.length * sep.length
  | [] => Nat.zero_le _
  | [x] => by
    show x.length ≤ ([x].map (·.length)).sum + 1 * sep.length
    rw [List.map_cons, List.sum_cons]
    omega
  | x :: y :: r => by
    have ih := join_len sep (y :: r)
    show (x ++ sep ++ Str.join sep (y :: r)).length ≤ _
    rw [Str.length_append, Str.length_append, List.map_cons, List.sum_cons, List.length_cons, Nat.succ_mul]
    omega
theorem join_small {sep : Str} {l : List Str} (h : ∀ x ∈ l, x.length ≤ 16) (hs : sep.length ≤ 6) (hl : l.length ≤ 1000) : (l.map (·.length)).sum + l.length * sep.length ≤ 16777216 ∧ (Str.join sep l).length ≤ 30000 := by
  have h1 := sum_small l 16 h
  have h2 := join_len sep l
  have h3 : l.length * 16 ≤ 1000 * 16 := Nat.mul_le_mul_right _ hl
  have h4 : l.length * sep.length ≤ 1000 * 6 := Nat.mul_le_mul hl hs
  omega
def tText (ts : List Str) : Str := if ts = [] then "" else (" if " : Str) ++ Str.join " and " ts
def dText (ds : List Str) : Str := if ds = [] then "" else (" do " : Str) ++ Str.join " then " ds
def ruleText (r : RuleD) : Str := ("on " : Str) ++ r.k ++ tText r.ts ++ dText r.ds
theorem rule_text_eq (r : RuleD) : Str.join " " ((("on " : Str) ++ r.k) :: ((if r.ts = [] then [] else [("if " : Str) ++ Str.join " and " r.ts]) ++ (if r.ds = [] then [] else [("do " : Str) ++ Str.join " then " r.ds]))) = ruleText r := by
  have e1 : ∀ z : Str, (" " : Str) ++ (("if " : Str) ++ z) = (" if " : Str) ++ z := fun z => by
    rw [← Str.append_assoc]
    have : (" " : Str) ++ ("if " : Str) = (" if " : Str) := by decide +kernel
    rw [this]
  have e2 : ∀ z : Str, (" " : Str) ++ (("do " : Str) ++ z) = (" do " : Str) ++ z := fun z => by
    rw [← Str.append_assoc]
    have : (" " : Str) ++ ("do " : Str) = (" do " : Str) := by decide +kernel
    rw [this]
  have e0 : ("" : Str) = Str.empty := by decide +kernel
  unfold ruleText tText dText
  by_cases ht : r.ts = []
  · by_cases hd : r.ds = []
    · rw [if_pos ht, if_pos hd, if_pos ht, if_pos hd, e0, Str.append_empty, Str.append_empty]
      rfl
    · rw [if_pos ht, if_neg hd, if_pos ht, if_neg hd, e0, Str.append_empty]
      show ("on " : Str) ++ r.k ++ " " ++ (("do " : Str) ++ Str.join " then " r.ds) = _
      rw [Str.append_assoc, e2]
  · by_cases hd : r.ds = []
    · rw [if_neg ht, if_pos hd, if_neg ht, if_pos hd, e0, Str.append_empty]
      show ("on " : Str) ++ r.k ++ " " ++ (("if " : Str) ++ Str.join " and " r.ts) = _
      rw [Str.append_assoc, e1]
    · rw [if_neg ht, if_neg hd, if_neg ht, if_neg hd]
      show ("on " : Str) ++ r.k ++ " " ++ (("if " : Str) ++ Str.join " and " r.ts ++ " " ++ (("do " : Str) ++ Str.join " then " r.ds)) = _
      simp only [Str.append_assoc, e1, e2]
def spRuleEq (K : PySem.W.Frag) (C : Addr) : Sp := fun vs H Q _ => ∃ (p q : Addr) (r u : RuleD), vs = [.ref p, .ref q] ∧ RuleObj K C H p r ∧ RuleObj K C H q u ∧ r.Good ∧ u.Good ∧ ∀ H', Ex H H' → Q (.bl (decide (r.k = u.k) && (decide (r.ts = u.ts) && decide (r.ds = u.ds)))) H'
def spRuleStr (K : PySem.W.Frag) (C : Addr) : Sp := fun vs H Q _ => ∃ (p : Addr) (r : RuleD), vs = [.ref p] ∧ RuleObj K C H p r ∧ r.Good ∧ ∀ H', Ex H H' → Q (.str (ruleText r)) H'
abbrev sRuleEq : Stmt := inClass (topS 25) 2
theorem scRuleEq : FnScope ["self", "other"] ["self", "other"] (defScope sRuleEq) := ⟨rfl, rfl, rfl, by decide +kernel, rfl, by decide +kernel, by decide +kernel⟩
abbrev sRuleStr : Stmt := inClass (topS 25) 3
theorem scRuleStr : FnScope ["self", "parts"] ["self"] (defScope sRuleStr) := ⟨rfl, rfl, rfl, by decide +kernel, rfl, by decide +kernel, by decide +kernel⟩
theorem ok_rule_eq {f : Addr} {fd : FuncData} (F : Fun K "__eq__" "Rule.__eq__" sRuleEq f fd) (T : TxR K mg a_LETTERS a_LETTER_TESTS a_LETTER_DEEDS a_ANSWER_TESTS a_ANSWER_DEEDS CR tA tN) : FnOk P w K mg base CX0 1 f fd ["self", "other"] (spRuleEq K CR) := by
  refine F.ok scRuleEq (fun vs H Q E h => ?_) (fun cdv A outer s H vs Q E hr h => ?_)
  · obtain ⟨p, q, r, u, rfl, _⟩ := h
    rfl
  · obtain ⟨p, q, r, u, rfl, ⟨dx, t, d, hp, ht, hd⟩, ⟨dx2, t2, d2, hp2, ht2, hd2⟩, G, G2, k⟩ := h
    refine ⟨_, pss_one (ps_ret (pe_and (pe_callB call_isi (by rfl) T.n_isinstance (by decide +kernel) (pa_cons (pv 1) (pa_cons (pe_glob (v := .ref CR) rfl T.g_Rule rfl) pa_nil))) (pe_and (pe_cmpR op_eq (pe_fld (pv 0) rfl) (pe_fld (pv 1) rfl) (nomark _)) (pe_and (pe_cmpR (op_eqD hr.units) (pe_fld (pv 0) rfl) (pe_fld (pv 1) rfl) (nomark _)) (pe_one (pe_cmpR (op_eqD hr.units) (pe_fld (pv 0) rfl) (pe_fld (pv 1) rfl) (nomark _))))))), ?_⟩
    refine Evl.s_ret (v := .bl (true && (decide (r.k = u.k) && (decide (r.ts = u.ts) && decide (r.ds = u.ds))))) ?_ fun H2 e2 => k H2 e2
    refine Evl.ev_andV (ev_isi (Evl.ea_cons (Evl.ev_var rfl) (Evl.ea_cons Evl.ev_c Evl.ea_nil)) (.own CR) (fun H1 e1 => .base (.ins (e1 _ _ hp2) T.cl T.ci T.cs T.ct T.co)) (by simp [PySem.W.kitOne])) (fun _ => ?_)
    refine Evl.ev_andV (Evl.ev_is (Evl.ev_op (ev_fld (Evl.ev_var rfl) hp T.cl T.nK (rf_k _ _ _)) (ev_fld (Evl.ev_var rfl) hp2 T.cl T.nK (rf_k _ _ _)) (Evl.rv_eq (x := .str r.k) (y := .str u.k) rfl)) (by simp)) (fun _ => ?_)
    refine Evl.ev_andV (Evl.ev_op (ev_fld (Evl.ev_var rfl) hp T.cl T.nT (rf_t _ _ _)) (ev_fld (Evl.ev_var rfl) hp2 T.cl T.nT (rf_t _ _ _)) (rv_eqT G.pt G2.pt ht ht2)) (fun _ => ?_)
    exact Evl.ev_op (ev_fld (Evl.ev_var rfl) hp T.cl T.nD (rf_d _ _ _)) (ev_fld (Evl.ev_var rfl) hp2 T.cl T.nD (rf_d _ _ _)) (rv_eqT G.pd G2.pd hd hd2)
theorem ok_rule_str {f : Addr} {fd : FuncData} (F : Fun K "__str__" "Rule.__str__" sRuleStr f fd) (T : TxR K mg a_LETTERS a_LETTER_TESTS a_LETTER_DEEDS a_ANSWER_TESTS a_ANSWER_DEEDS CR tA tN) : FnOk P w K mg base CX0 1 f fd ["self"] (spRuleStr K CR) := by
  refine F.ok scRuleStr (fun vs H Q E h => ?_) (fun cdv A outer s H vs Q E hr h => ?_)
  · obtain ⟨p, r, rfl, _⟩ := h
    rfl
  · obtain ⟨p, r, rfl, ⟨dx, t, d, hp, ht, hd⟩, G, k⟩ := h
    refine ⟨_, pss_cons (ps_set (i := 1) scRuleStr.nd rfl (.inl rfl) (pe_lst (pa_cons (pe_joined (.cons pe_str (.cons (pe_fmt (pe_fld (pv 0) rfl)) .nil))) pa_nil)))
      (pss_cut (ps_if (pt_truth (pe_fld (pv 0) rfl) (by intro _; rfl)) (pss_one (ps_expr (pe_bm PySem.F.plainAttrs_list PySem.F.slot_list_append PySem.F.type_list_append mt_append (pv 1) (pa_cons (pe_op op_add_str pe_str (pe_join pe_str (pe_fld (pv 0) rfl))) pa_nil)))) pss_nil)
      (pss_cut (ps_if (pt_truth (pe_fld (pv 0) rfl) (by intro _; rfl)) (pss_one (ps_expr (pe_bm PySem.F.plainAttrs_list PySem.F.slot_list_append PySem.F.type_list_append mt_append (pv 1) (pa_cons (pe_op op_add_str pe_str (pe_join pe_str (pe_fld (pv 0) rfl))) pa_nil)))) pss_nil)
      (pss_one (ps_ret (pe_join pe_str (pv 1)))))), ?_⟩
    have lk := kinds_len G.k
    refine ⟨_, rfl, by decide, ?_⟩
    refine ⟨_, rfl, p, CR, dx, _, _, rfl, hp, T.cl, T.nK, rf_k _ _ _, .inl ⟨r.k, rfl, size_of (by omega), r.k, rfl, ?_, ?_⟩⟩
    · show (Str.empty ++ Str.ofString "on " ++ r.k).length ≤ sizeLine
      rw [Str.length_append]
      have e3 : (Str.empty ++ Str.ofString "on ").length = 3 := by decide +kernel
      exact size_of (by omega)
    refine ⟨by show 1 ≤ sizeLine; decide, fun l nl => ?_⟩
    have eo : Str.empty ++ Str.ofString "on " ++ r.k = ("on " : Str) ++ r.k := by rw [Str.empty_append]
    rw [eo]
    -- the tests
    have e2 : Ex H (upd H l (.lst [.str (("on " : Str) ++ r.k)])) := Ex.new nl
    let pT : List Str := if r.ts = [] then [] else [("if " : Str) ++ Str.join " and " r.ts]
    let pD : List Str := if r.ds = [] then [] else [("do " : Str) ++ Str.join " then " r.ds]
    refine ⟨fun σ H2 => σ = [some (.ref p), some (.ref l)] ∧ Ex H H2 ∧ H2 l = some (.lst (((("on " : Str) ++ r.k) :: pT).map V.str)), ?_, ?_⟩
    · refine ⟨_, rfl, p, CR, dx, _, _, rfl, e2 _ _ hp, T.cl, T.nT, rf_t _ _ _, !(r.ts.map V.str).isEmpty, .inr (.inl ⟨_, Evl.ex_t e2 ht, rfl⟩), ?_⟩
      by_cases h0 : r.ts = []
      · have hpT : pT = [] := if_pos h0
        rw [h0, hpT]
        exact iteF ⟨rfl, e2, upd_same⟩
      · have hpT : pT = [("if " : Str) ++ Str.join " and " r.ts] := if_neg h0
        rw [show (!(r.ts.map V.str).isEmpty) = true by simp [h0], hpT]
        refine iteT ?_
        have lj := join_small (sep := " and ") (l := r.ts) (fun x hx => testsNot_len (G.ts x hx)) (by decide) G.nt
        refine ⟨_, rfl, .inl ⟨rfl, _, SqL.of upd_same⟩, ⟨_, rfl⟩, _, rfl, p, CR, dx, _, _, rfl, e2 _ _ hp, T.cl, T.nT, rf_t _ _ _, _, t, r.ts, rfl, rfl, .inr (Evl.ex_t e2 ht), lj.1, _, _, rfl, rfl, ?_, l, _, _, rfl, rfl, upd_same, by show 1 < sizeLine; decide, ?_⟩
        · rw [TL.join_eq]
          have e3 : (Str.ofString "if ").length = 3 := by decide +kernel
          exact size_of (by omega)
        · rw [TL.join_eq]
          exact ⟨rfl, e2.mut nl, upd_same⟩
    · rintro σ H2 ⟨rfl, e3, hl⟩
      refine ⟨fun σ H3 => σ = [some (.ref p), some (.ref l)] ∧ Ex H H3 ∧ H3 l = some (.lst (((("on " : Str) ++ r.k) :: (pT ++ pD)).map V.str)), ?_, ?_⟩
      · refine ⟨_, rfl, p, CR, dx, _, _, rfl, e3 _ _ hp, T.cl, T.nD, rf_d _ _ _, !(r.ds.map V.str).isEmpty, .inr (.inl ⟨_, Evl.ex_t e3 hd, rfl⟩), ?_⟩
        by_cases h0 : r.ds = []
        · have hpD : pD = [] := if_pos h0
          rw [h0, hpD, List.append_nil]
          exact iteF ⟨rfl, e3, hl⟩
        · have hpD : pD = [("do " : Str) ++ Str.join " then " r.ds] := if_neg h0
          rw [show (!(r.ds.map V.str).isEmpty) = true by simp [h0], hpD]
          refine iteT ?_
          have lj := join_small (sep := " then ") (l := r.ds) (fun x hx => deedsOf_len (G.ds x hx)) (by decide) G.nd
          have lpT : pT.length ≤ 1 := by
            show (if r.ts = [] then [] else [("if " : Str) ++ Str.join " and " r.ts]).length ≤ 1
            split
            · decide
            · exact Nat.le_refl _
          refine ⟨_, rfl, .inl ⟨rfl, _, SqL.of hl⟩, ⟨_, rfl⟩, _, rfl, p, CR, dx, _, _, rfl, e3 _ _ hp, T.cl, T.nD, rf_d _ _ _, _, d, r.ds, rfl, rfl, .inr (Evl.ex_t e3 hd), lj.1, _, _, rfl, rfl, ?_, l, _, _, rfl, rfl, hl, ?_, ?_⟩
          · rw [TL.join_eq]
            have e3 : (Str.ofString "do ").length = 3 := by decide +kernel
            exact size_of (by omega)
          · rw [List.length_map, List.length_cons]
            exact small1000 (by omega)
          · rw [TL.join_eq]
            refine ⟨rfl, e3.mut nl, ?_⟩
            rw [upd_same, List.map_cons, List.map_cons, List.map_append]
            rfl
      · rintro σ H3 ⟨rfl, e4, hl⟩
        refine ⟨⟨_, rfl⟩, _, rfl, _, l, _, rfl, rfl, .inl (SqL.of hl), ?_, ?_⟩
        · show ((((("on " : Str) ++ r.k) :: (pT ++ pD))).map (·.length)).sum + (((("on " : Str) ++ r.k) :: (pT ++ pD))).length * (Str.ofString " ").length ≤ 16777216
          have h1 : ∀ x ∈ ((("on " : Str) ++ r.k) :: (pT ++ pD)), x.length ≤ 40000 := by
            intro x hx
            rcases List.mem_cons.mp hx with rfl | hx
            · rw [Str.length_append]
              have e3 : (Str.ofString "on ").length = 3 := by decide +kernel
              omega
            · rcases List.mem_append.mp hx with hx | hx
              · have hx' : x ∈ (if r.ts = [] then [] else [("if " : Str) ++ Str.join " and " r.ts] : List Str) := hx
                split at hx'
                · cases hx'
                · rw [List.mem_singleton.mp hx', Str.length_append]
                  have lj := join_small (sep := " and ") (l := r.ts) (fun x hx => testsNot_len (G.ts x hx)) (by decide) G.nt
                  have e3 : (Str.ofString "if ").length = 3 := by decide +kernel
                  omega
              · have hx' : x ∈ (if r.ds = [] then [] else [("do " : Str) ++ Str.join " then " r.ds] : List Str) := hx
                split at hx'
                · cases hx'
                · rw [List.mem_singleton.mp hx', Str.length_append]
                  have lj := join_small (sep := " then ") (l := r.ds) (fun x hx => deedsOf_len (G.ds x hx)) (by decide) G.nd
                  have e3 : (Str.ofString "do ").length = 3 := by decide +kernel
                  omega
          have h2 := sum_small _ 40000 h1
          have h3 : (((("on " : Str) ++ r.k) :: (pT ++ pD))).length ≤ 3 := by
            have a1 : pT.length ≤ 1 := by
              show (if r.ts = [] then [] else [("if " : Str) ++ Str.join " and " r.ts] : List Str).length ≤ 1
              split
              · decide
              · exact Nat.le_refl _
            have a2 : pD.length ≤ 1 := by
              show (if r.ds = [] then [] else [("do " : Str) ++ Str.join " then " r.ds] : List Str).length ≤ 1
              split
              · decide
              · exact Nat.le_refl _
            rw [List.length_cons, List.length_append]
            omega
          have e1 : (Str.ofString " ").length = 1 := by decide +kernel
          rw [e1]
          omega
        · rw [TL.join_eq]
          have e : Str.join " " ((("on " : Str) ++ r.k) :: (pT ++ pD)) = ruleText r := rule_text_eq r
          rw [e]
          exact k H3 e4
/-! ### a drawn rule's text, by the law's own words -/
def spRuleText (K : PySem.W.Frag) : Sp := fun vs H Q _ => ∃ (p t d : Addr) (r : RuleD), vs = [.ref p] ∧ SqT K H p [.str r.k, .ref t, .ref d] ∧ SqT K H t (r.ts.map V.str) ∧ SqT K H d (r.ds.map V.str) ∧ r.Good ∧ ∀ H', Ex H H' → Q (.str (ruleText r)) H'
theorem tText_len {ts : List Str} (h : ∀ x ∈ ts, x.length ≤ 16) (hl : ts.length ≤ 1000) : (tText ts).length ≤ 30010 := by
  unfold tText
  split
  · decide
  · have lj := join_small (sep := " and ") h (by decide) hl
    rw [Str.length_append]
    have e3 : (Str.ofString " if ").length = 4 := by decide +kernel
    omega
theorem dText_len {ds : List Str} (h : ∀ x ∈ ds, x.length ≤ 16) (hl : ds.length ≤ 1000) : (dText ds).length ≤ 30010 := by
  unfold dText
  split
  · decide
  · have lj := join_small (sep := " then ") h (by decide) hl
    rw [Str.length_append]
    have e3 : (Str.ofString " do ").length = 4 := by decide +kernel
    omega
end
end Ov


namespace Ov
open PySem L2 TL
/-! ### texts are read back: no separator begins within what stands ahead of it -/
/-- nowhere in l do these three signs stand -/
def clean3 (s a b : Nat) : List Nat → Bool
  | [] => true
  | x :: r => !(pre [s, a, b] (x :: r)) && clean3 s a b r
theorem clean3_at {s a b : Nat} : ∀ {l : List Nat}, clean3 s a b l = true → ∀ i, pre [s, a, b] (l.drop i) = false
  | [], _, i => by
    rw [List.drop_nil]
    rfl
  | x :: r, h, 0 => by
    have h1 := (Bool.and_eq_true_iff.mp h).1
    simpa using h1
  | x :: r, h, i + 1 => clean3_at (l := r) (Bool.and_eq_true_iff.mp h).2 i
theorem pre3 {s a b : Nat} {l : List Nat} : pre [s, a, b] l = true ↔ ∃ r, l = s :: a :: b :: r := by
  unfold pre
  constructor
  · intro h
    have e : l.take 3 = [s, a, b] := eq_of_beq h
    exact ⟨l.drop 3, by rw [← List.take_append_drop 3 l, e]; simp⟩
  · rintro ⟨r, rfl⟩
    simp
/-- what begins with the separator's first sign may stand behind -/
theorem clean3_app {s a b : Nat} (ha : a ≠ s) (hb : b ≠ s) : ∀ {x y : List Nat}, clean3 s a b x = true → clean3 s a b y = true → (y = [] ∨ ∃ z, y = s :: z) → clean3 s a b (x ++ y) = true
  | [], y, _, hy, _ => hy
  | c :: x, y, hx, hy, h => by
    obtain ⟨h1, h2⟩ := Bool.and_eq_true_iff.mp hx
    have ih := clean3_app ha hb h2 hy h
    show (!(pre [s, a, b] (c :: (x ++ y))) && clean3 s a b (x ++ y)) = true
    rw [ih, Bool.and_true, Bool.not_eq_true']
    cases hp : pre [s, a, b] (c :: (x ++ y)) with
    | false => rfl
    | true =>
      exfalso
      obtain ⟨r, e⟩ := pre3.mp hp
      have h1' : pre [s, a, b] (c :: x) = false := by simpa using h1
      rcases h with rfl | ⟨z, rfl⟩
      · rw [List.append_nil] at hp
        rw [hp] at h1'
        cases h1'
      · match x, e with
        | [], e =>
          injection e with _ e
          injection e with e _
          exact ha e.symm
        | [d], e =>
          injection e with _ e
          injection e with _ e
          injection e with e _
          exact hb e.symm
        | d :: g :: x, e =>
          injection e with e1 e
          injection e with e2 e
          injection e with e3 e
          have : pre [s, a, b] (c :: d :: g :: x) = true := pre3.mpr ⟨x, by rw [e1, e2, e3]⟩
          rw [this] at h1'
          cases h1'
theorem pre_of3 {s a b : Nat} {S l : List Nat} (h : pre (s :: a :: b :: S) l = true) : pre [s, a, b] l = true := by
  unfold pre at h
  have e := eq_of_beq h
  have e2 : l = (s :: a :: b :: S) ++ l.drop (s :: a :: b :: S).length := by
    have q := (List.take_append_drop (s :: a :: b :: S).length l).symm
    rw [e] at q
    exact q
  exact pre3.mpr ⟨_, by rw [e2]; rfl⟩
/-- no separator begins within p, whatever stands behind it -/
theorem free3 {s a b : Nat} {S p rest : List Nat} (ha : a ≠ s) (hb : b ≠ s) (h : clean3 s a b p = true) : ∀ i, i < p.length → pre (s :: a :: b :: S) ((p ++ ((s :: a :: b :: S) ++ rest)).drop i) = false := by
  intro i hi
  cases hp : pre (s :: a :: b :: S) ((p ++ ((s :: a :: b :: S) ++ rest)).drop i) with
  | false => rfl
  | true =>
    exfalso
    obtain ⟨r, e⟩ := pre3.mp (pre_of3 hp)
    rw [List.drop_append_of_le_length (by omega)] at e
    have hc := clean3_at h i
    match hd : p.drop i, e with
    | [], _ =>
      have := congrArg List.length hd
      rw [List.length_drop, List.length_nil] at this
      omega
    | [c], e =>
      injection e with _ e
      injection e with e _
      exact ha e.symm
    | [c, d], e =>
      injection e with _ e
      injection e with _ e
      injection e with e _
      exact hb e.symm
    | c :: d :: g :: x, e =>
      injection e with e1 e
      injection e with e2 e
      injection e with e3 e
      rw [hd, pre3.mpr ⟨x, by rw [e1, e2, e3]⟩] at hc
      cases hc
theorem free3_end {s a b : Nat} {S p : List Nat} (h : clean3 s a b p = true) : ∀ i, i < p.length → pre (s :: a :: b :: S) (p.drop i) = false := by
  intro i _
  cases hp : pre (s :: a :: b :: S) (p.drop i) with
  | false => rfl
  | true =>
    have h1 := pre_of3 hp
    rw [clean3_at h i] at h1
    cases h1
theorem partition3 {y : Str} {s a b : Nat} {S : List Nat} (ey : tl y = s :: a :: b :: S) (ha : a ≠ s) (hb : b ≠ s) {x z : Str} (h : clean3 s a b (tl x) = true) : Txt.partition (x ++ y ++ z) y = (x, y, z) := by
  rw [partition_par _ y (by rw [ey]; simp), tl_append, tl_append, List.append_assoc, ey, par_part (by simp) (free3 ha hb h)]
  show ((⟨([] ++ tl x).toArray⟩ : Str), y, (⟨(tl z).toArray⟩ : Str)) = _
  rw [List.nil_append, mk_tl, mk_tl]
theorem partition3_none {y : Str} {s a b : Nat} {S : List Nat} (ey : tl y = s :: a :: b :: S) {x : Str} (h : clean3 s a b (tl x) = true) : Txt.partition x y = (x, Str.empty, Str.empty) := by
  rw [partition_par _ y (by rw [ey]; simp), ey, par_none (free3_end h)]
theorem spl_join3 {s a b : Nat} {S : List Nat} (ha : a ≠ s) (hb : b ≠ s) : ∀ {parts : List (List Nat)}, parts ≠ [] → (∀ p ∈ parts, clean3 s a b p = true) → spl (s :: a :: b :: S) 0 [] (joinL (s :: a :: b :: S) parts) = parts
  | [], h, _ => absurd rfl h
  | [p], _, hp => by
    show spl (s :: a :: b :: S) 0 [] p = [p]
    rw [spl_last (free3_end (hp p (List.mem_singleton.mpr rfl))), List.nil_append]
  | p :: q :: r, _, hp => by
    show spl (s :: a :: b :: S) 0 [] (p ++ (s :: a :: b :: S ++ joinL (s :: a :: b :: S) (q :: r))) = p :: q :: r
    rw [spl_part (by simp) (free3 ha hb (hp p (List.mem_cons_self ..))), List.nil_append, spl_join3 ha hb (by simp) fun z hz => hp z (List.mem_cons_of_mem _ hz)]
theorem split_join3 {y : Str} {s a b : Nat} {S : List Nat} (ey : tl y = s :: a :: b :: S) (ha : a ≠ s) (hb : b ≠ s) (hk : y.cps.all (· < 256) = true) {parts : List Str} (hne : parts ≠ []) (hp : ∀ p ∈ parts, clean3 s a b (tl p) = true) :
    Txt.split (Str.join y parts) y = parts := by
  refine map_tl_inj ?_
  rw [split_spl _ y (by rw [ey]; simp) (kind_ok hk), tl_join, ey]
  refine spl_join3 ha hb (fun e => hne (List.map_eq_nil_iff.mp e)) fun p h => ?_
  obtain ⟨z, hz, rfl⟩ := List.mem_map.mp h
  exact hp z hz
/-- a joined text behind a word, part by part -/
theorem join_clean {s a b : Nat} (ha : a ≠ s) (hb : b ≠ s) (hd sep : Str) {S1 S2 : List Nat} (e1 : tl hd = s :: S1) (e2 : tl sep = s :: S2) : ∀ (l : List Str), (∀ x ∈ l, clean3 s a b (tl (hd ++ x)) = true) → (∀ x ∈ l, clean3 s a b (tl (sep ++ x)) = true) → l ≠ [] →
    clean3 s a b (tl (hd ++ Str.join sep l)) = true
  | [], _, _, h => absurd rfl h
  | [x], h1, _, _ => h1 x (List.mem_singleton.mpr rfl)
  | x :: y :: r, h1, h2, _ => by
    show clean3 s a b (tl (hd ++ (x ++ sep ++ Str.join sep (y :: r)))) = true
    have e : hd ++ (x ++ sep ++ Str.join sep (y :: r)) = (hd ++ x) ++ (sep ++ Str.join sep (y :: r)) := by simp only [Str.append_assoc]
    rw [e, tl_append]
    refine clean3_app ha hb (h1 x (List.mem_cons_self ..)) (join_clean ha hb sep sep e2 e2 (y :: r) (fun z hz => h2 z (List.mem_cons_of_mem _ hz)) (fun z hz => h2 z (List.mem_cons_of_mem _ hz)) (by simp)) (.inr ⟨S2 ++ tl (Str.join sep (y :: r)), ?_⟩)
    rw [tl_append, e2]
    rfl

/-! ### a good rule's text -/
def allTests : List Str := testsL ++ testsL.map (("not " : Str) ++ ·) ++ (["level", "not level"] : List Str)
theorem tests_all {k t : Str} (h : t ∈ testsNot k) : t ∈ allTests := by
  have h2 : ∀ t ∈ (["level"] : List Str) ++ (["level"] : List Str).map (("not " : Str) ++ ·), t ∈ allTests := by decide +kernel
  unfold testsNot testsOf at h
  split at h
  · exact h2 t h
  · exact List.mem_append_left _ h
def allDeeds : List Str := ["count", "drop", "take", "wipe"]
theorem deeds_all {k t : Str} (h : t ∈ deedsOf k) : t ∈ allDeeds := by
  have h1 : ∀ t ∈ (["count", "count", "drop"] : List Str), t ∈ allDeeds := by decide +kernel
  have h2 : ∀ t ∈ (["take", "take", "wipe"] : List Str), t ∈ allDeeds := by decide +kernel
  unfold deedsOf at h
  split at h
  · exact h1 t h
  · exact h2 t h
theorem tl_do : tl " do " = [32, 100, 111, 32] := by decide +kernel
theorem tl_if : tl " if " = [32, 105, 102, 32] := by decide +kernel
theorem tl_and : tl " and " = [32, 97, 110, 100, 32] := by decide +kernel
theorem tl_then : tl " then " = [32, 116, 104, 101, 110, 32] := by decide +kernel
theorem tText_clean {ts : List Str} (h : ∀ t ∈ ts, t ∈ allTests) : clean3 32 100 111 (tl (tText ts)) = true ∧ (tl (tText ts) = [] ∨ ∃ z, tl (tText ts) = 32 :: z) := by
  unfold tText
  split
  · exact ⟨by decide +kernel, .inl (by decide +kernel)⟩
  · rename_i h0
    have a1 : ∀ t ∈ allTests, clean3 32 100 111 (tl ((" if " : Str) ++ t)) = true := by decide +kernel
    have a2 : ∀ t ∈ allTests, clean3 32 100 111 (tl ((" and " : Str) ++ t)) = true := by decide +kernel
    refine ⟨join_clean (by decide) (by decide) " if " " and " tl_if tl_and ts (fun x hx => a1 x (h x hx)) (fun x hx => a2 x (h x hx)) h0, .inr ⟨105 :: 102 :: 32 :: tl (Str.join " and " ts), ?_⟩⟩
    rw [tl_append, tl_if]
    rfl
theorem read1 {r : RuleD} (g : r.Good) : Txt.partition (ruleText r) " do " = ((("on " : Str) ++ r.k ++ tText r.ts, (if r.ds = [] then "" else " do " : Str), (if r.ds = [] then ("" : Str) else Str.join " then " r.ds)) : Str × Str × Str) := by
  have k1 : ∀ k ∈ kindsAll, clean3 32 100 111 (tl (("on " : Str) ++ k)) = true := by decide +kernel
  have ht := tText_clean (ts := r.ts) fun t h => tests_all (g.ts t h)
  have hc : clean3 32 100 111 (tl (("on " : Str) ++ r.k ++ tText r.ts)) = true := by
    rw [tl_append]
    exact clean3_app (by decide) (by decide) (k1 _ g.k) ht.1 ht.2
  have e0 : ("" : Str) = Str.empty := by decide +kernel
  unfold ruleText dText
  by_cases hd : r.ds = []
  · rw [if_pos hd, if_pos hd, if_pos hd, e0, Str.append_empty]
    exact partition3_none tl_do hc
  · rw [if_neg hd, if_neg hd, if_neg hd, ← Str.append_assoc]
    exact partition3 tl_do (by decide) (by decide) hc
theorem read2 {r : RuleD} (g : r.Good) : Txt.partition (("on " : Str) ++ r.k ++ tText r.ts) " if " = ((("on " : Str) ++ r.k, (if r.ts = [] then "" else " if " : Str), (if r.ts = [] then ("" : Str) else Str.join " and " r.ts)) : Str × Str × Str) := by
  have k1 : ∀ k ∈ kindsAll, clean3 32 105 102 (tl (("on " : Str) ++ k)) = true := by decide +kernel
  have e0 : ("" : Str) = Str.empty := by decide +kernel
  unfold tText
  by_cases ht : r.ts = []
  · rw [if_pos ht, if_pos ht, if_pos ht, e0, Str.append_empty]
    exact partition3_none tl_if (k1 _ g.k)
  · rw [if_neg ht, if_neg ht, if_neg ht, ← Str.append_assoc]
    exact partition3 tl_if (by decide) (by decide) (k1 _ g.k)
theorem read3 (k : Str) : Txt.partition (("on " : Str) ++ k) " " = ((("on" : Str), (" " : Str), k) : Str × Str × Str) := by
  have e : ("on " : Str) = ("on" : Str) ++ " " := by decide +kernel
  rw [e]
  exact partition_app (s := 32) (S := []) (by decide +kernel) (by decide +kernel)
theorem read4 {r : RuleD} (g : r.Good) (h : r.ts ≠ []) : Txt.split (Str.join " and " r.ts) " and " = r.ts := by
  have a1 : ∀ t ∈ allTests, clean3 32 97 110 (tl t) = true := by decide +kernel
  exact split_join3 tl_and (by decide) (by decide) (by decide +kernel) h fun p hp => a1 p (tests_all (g.ts p hp))
theorem read5 {r : RuleD} (g : r.Good) (h : r.ds ≠ []) : Txt.split (Str.join " then " r.ds) " then " = r.ds := by
  have a1 : ∀ t ∈ allDeeds, clean3 32 116 104 (tl t) = true := by decide +kernel
  exact split_join3 tl_then (by decide) (by decide) (by decide +kernel) h fun p hp => a1 p (deeds_all (g.ds p hp))
/-- texts of two good rules are alike only if the rules are -/
theorem ruleText_inj {r u : RuleD} (g : r.Good) (g2 : u.Good) (e : ruleText r = ruleText u) : r.k = u.k ∧ r.ts = u.ts ∧ r.ds = u.ds := by
  have p1 := read1 g
  rw [e, read1 g2] at p1
  injection p1 with a1 p1
  injection p1 with b1 c1
  have p2 := read2 g
  rw [← a1, read2 g2] at p2
  injection p2 with a2 p2
  injection p2 with b2 c2
  have p3 := read3 r.k
  rw [← a2, read3] at p3
  injection p3 with _ p3
  injection p3 with _ a3
  have n1 : ¬ (("" : Str) = " do ") := by decide +kernel
  have n2 : ¬ (("" : Str) = " if ") := by decide +kernel
  refine ⟨a3.symm, ?_, ?_⟩
  · by_cases h1 : r.ts = []
    · by_cases h2 : u.ts = []
      · rw [h1, h2]
      · rw [if_pos h1, if_neg h2] at b2
        exact absurd b2.symm n2
    · by_cases h2 : u.ts = []
      · rw [if_neg h1, if_pos h2] at b2
        exact absurd b2 n2
      · rw [if_neg h1, if_neg h2] at c2
        rw [← read4 g h1, ← c2, read4 g2 h2]
  · by_cases h1 : r.ds = []
    · by_cases h2 : u.ds = []
      · rw [h1, h2]
      · rw [if_pos h1, if_neg h2] at b1
        exact absurd b1.symm n1
    · by_cases h2 : u.ds = []
      · rw [if_neg h1, if_pos h2] at b1
        exact absurd b1 n1
      · rw [if_neg h1, if_neg h2] at c1
        rw [← read5 g h1, ← c1, read5 g2 h2]
end Ov


namespace Ov
open PySem PySem.Spec PyProof.Rows L2
open Evl (pss_cut tCut Ex Ev EvT EvL EvA EvU)
def lettersL : List Str := ["ask", "day", "off", "stop"]
/-- the items are Rules, one for each of rs -/
def RulesAt (K : PySem.W.Frag) (C : Addr) (H : Hp) (xs : List V) (rs : List RuleD) : Prop := Paired (fun x r => ∃ p, x = V.ref p ∧ RuleObj K C H p r) xs rs
theorem RulesAt.ex {K : PySem.W.Frag} {C : Addr} {H H' : Hp} (e : Ex H H') : ∀ {xs : List V} {rs : List RuleD}, RulesAt K C H xs rs → RulesAt K C H' xs rs
  | _, _, .nil => .nil
  | _, _, .cons ⟨p, h1, h2⟩ t => .cons ⟨p, h1, h2.ex e⟩ (RulesAt.ex e t)
theorem RulesAt.at_ {K : PySem.W.Frag} {C : Addr} {H : Hp} : ∀ {xs : List V} {rs : List RuleD} {i : Nat} {x : V}, RulesAt K C H xs rs → xs[i]? = some x → ∃ p r, x = .ref p ∧ rs[i]? = some r ∧ RuleObj K C H p r
  | _, _, _, _, .nil, h => by simp at h
  | _, _, 0, _, .cons ⟨p, h1, h2⟩ _, h => by
    have e := Option.some.inj h
    exact ⟨p, _, by rw [← e, h1], rfl, h2⟩
  | _, _, i + 1, _, .cons _ t, h => RulesAt.at_ (i := i) t h
structure TxP (K : PySem.W.Frag) (mg : Str → Option Value) (CP : Addr) : Prop where
  g_Plan : mg "Plan" = some (.ref CP)
  n_sorted : mg "sorted" = none
  n_set : mg "set" = none
  n_bool : mg "bool" = none
  n_isinstance : mg "isinstance" = none
  n_int : mg "int" = none
  n_len : mg "len" = none
  n_tuple : mg "tuple" = none
  cl : Cls K CP
  nR : NoAttr K CP "raises"
  nU : NoAttr K CP "rules"
def pf (a b : Addr) : List (Str × V) := putF "rules" (.ref b) (putF "raises" (.ref a) [])
theorem pf_raises (a b : Addr) : (pf a b).lookup ("raises" : Str) = some (.ref a) := by
  unfold pf
  rw [lookup_putF, if_neg (by decide +kernel), lookup_putF, if_pos rfl]
theorem pf_rules (a b : Addr) : (pf a b).lookup ("rules" : Str) = some (.ref b) := by
  unfold pf
  rw [lookup_putF, if_pos rfl]
/-- at p a Plan of the class at CP, of these kinds and Rules -/
def PlanObj (K : PySem.W.Frag) (CP : Addr) (H : Hp) (p : Addr) (ks : List Str) (xs : List V) : Prop := ∃ dx a b : Addr, H p = some (.ins CP dx (pf a b)) ∧ SqT K H a (ks.map V.str) ∧ SqT K H b xs
def spAreRaises1 (K : PySem.W.Frag) : Sp := fun vs H Q _ => ∃ (a : Addr) (ks : List Str), vs = [.ref a] ∧ (SqL K H a (ks.map V.str) ∨ SqT K H a (ks.map V.str)) ∧ ks.length ≤ 1 ∧ (∀ k ∈ ks, k ∈ lettersL) ∧ ∀ H', Ex H H' → Q (.bl true) H'
def spAreRules (K : PySem.W.Frag) (CR : Addr) : Sp := fun vs H Q _ => ∃ (a : Addr) (xs : List V) (rs : List RuleD), vs = [.ref a] ∧ (SqL K H a xs ∨ SqT K H a xs) ∧ RulesAt K CR H xs rs ∧ xs.length ≤ 1000 ∧ ∀ H', Ex H H' → Q (.bl true) H'
def spPlanInit1 (K : PySem.W.Frag) (CR CP : Addr) : Sp := fun vs H Q _ => ∃ (p a b dx : Addr) (ks : List Str) (xs : List V) (rs : List RuleD), vs = [.ref p, .ref a, .ref b] ∧ H p = some (.ins CP dx []) ∧ (SqL K H a (ks.map V.str) ∨ SqT K H a (ks.map V.str)) ∧ ks.length ≤ 1 ∧ (∀ k ∈ ks, k ∈ lettersL) ∧
  (SqL K H b xs ∨ SqT K H b xs) ∧ RulesAt K CR H xs rs ∧ xs.length ≤ 1000 ∧ ∀ H', (∀ c o, c ≠ p → H c = some o → H' c = some o) → PlanObj K CP H' p ks xs → Q .non H'
def spIsInteger : Sp := fun vs H Q _ => ∃ i : Int, vs = [.int i] ∧ Q (.bl true) H
def spIsPlace : Sp := fun vs H Q _ => ∃ i n : Int, vs = [.int i, .int n] ∧ Q (.bl (decide (0 ≤ i) && decide (i < n))) H
def spPlanItem (K : PySem.W.Frag) (CP : Addr) : Sp := fun vs H Q _ => ∃ (p : Addr) (ks : List Str) (xs : List V) (i : Nat) (x : V), vs = [.ref p, .int (i : Int)] ∧ PlanObj K CP H p ks xs ∧ xs[i]? = some x ∧ Q x H
theorem perm_le1 : ∀ {ks ys : List Str}, ks.length ≤ 1 → ys.Perm ks → ys = ks
  | [], _, _, h => List.perm_nil.mp h
  | [_], _, _, h => List.perm_singleton.mp h
  | _ :: _ :: _, _, h, _ => absurd h (by simp)
section
variable {P : Program} {w : World} {K : PySem.W.Frag} {mg : Str → Option Value} {base : Heap} {a_LETTERS a_LETTER_TESTS a_LETTER_DEEDS a_ANSWER_TESTS a_ANSWER_DEEDS CR CP : Addr} {tA tN : Tok}
abbrev sAreRaises : Stmt := topS 48
theorem scAreRaises : FnScope ["value", "kind"] ["value"] (defScope sAreRaises) := ⟨rfl, rfl, rfl, by decide +kernel, rfl, by decide +kernel, by decide +kernel⟩
abbrev sAreRules : Stmt := topS 49
theorem scAreRules : FnScope ["value", "rule"] ["value"] (defScope sAreRules) := ⟨rfl, rfl, rfl, by decide +kernel, rfl, by decide +kernel, by decide +kernel⟩
abbrev sPlanInit : Stmt := inClass (topS 51) 0
theorem scPlanInit : FnScope ["self", "raises", "rules"] ["self", "raises", "rules"] (defScope sPlanInit) := ⟨rfl, rfl, rfl, by decide +kernel, rfl, by decide +kernel, by decide +kernel⟩
abbrev sIsInteger : Stmt := topS 10
theorem scIsInteger : FnScope ["value"] ["value"] (defScope sIsInteger) := ⟨rfl, rfl, rfl, by decide +kernel, rfl, by decide +kernel, by decide +kernel⟩
abbrev sIsPlace : Stmt := topS 11
theorem scIsPlace : FnScope ["value", "many"] ["value", "many"] (defScope sIsPlace) := ⟨rfl, rfl, rfl, by decide +kernel, rfl, by decide +kernel, by decide +kernel⟩
abbrev sPlanGetitem : Stmt := inClass (topS 51) 5
theorem scPlanGetitem : FnScope ["self", "at"] ["self", "at"] (defScope sPlanGetitem) := ⟨rfl, rfl, rfl, by decide +kernel, rfl, by decide +kernel, by decide +kernel⟩
theorem exB {H H' : Hp} {a : Addr} {xs : List V} (e : Ex H H') (h : SqL K H a xs ∨ SqT K H a xs) : SqL K H' a xs ∨ SqT K H' a xs := h.imp (Evl.ex_l e) (Evl.ex_t e)
theorem ok_are_raises1 {f fSeq : Addr} {fd fdSeq : FuncData} (F : Fun K "are_raises" "are_raises" sAreRaises f fd) (T : TxR K mg a_LETTERS a_LETTER_TESTS a_LETTER_DEEDS a_ANSWER_TESTS a_ANSWER_DEEDS CR tA tN) (n_set : mg "set" = none) (D_is_sequence : Df K mg "is_sequence" sIsSequence ["value"] fSeq fdSeq) :
    FnOk P w K mg base CX0 2 f fd ["value"] (spAreRaises1 K) := by
  have G_is_sequence : FnOk P w K mg base CX0 1 fSeq fdSeq ["value"] (spIsSeq K) := ok_is_sequence D_is_sequence.F T
  refine F.ok scAreRaises (fun vs H Q E h => ?_) (fun cdv A outer s H vs Q E hr h => ?_)
  · obtain ⟨a, ks, rfl, _⟩ := h
    rfl
  · obtain ⟨a, ks, rfl, hS, hl, hk, q⟩ := h
    refine ⟨_, pss_cons (ps_if (PW.pt (pw_or (pt_not (pt_val (pe_call G_is_sequence (hr.mono (by decide)) rfl D_is_sequence.g D_is_sequence.F.kp D_is_sequence.b .nil pass0 (pa_cons (pv 0) pa_nil)))) (pw_or1 (pt_not (pt_val (pe_callB (cr_all rfl) (by rfl) T.n_all (by decide +kernel) (pa_cons (pe_lc (own := [("kind", 1)]) (g := gName 1) (tt := tYes) rfl scAreRaises.nd (pi_both (pv 0)) (blkOk_by (own := [("kind", 1)]) (N := ["value", "kind"]) (sc := defScope sAreRaises) (by decide +kernel)) (fun _ _ _ _ _ => (pg_name (i := 1) scAreRaises.nd rfl (Or.inl rfl))) (fun _ _ _ _ _ => pts_nil) (fun _ _ _ _ _ => (pe_cmpR (r := rIn K false) op_in_seq (pv 1) (pe_glob (v := .ref a_LETTERS) rfl T.g_LETTERS rfl) (by rfl)))) pa_nil))))))) (pss_one (ps_ret pe_bl)) pss_nil)
      (pss_one (ps_ret (pe_cmpR op_eq (pe_lenSet rfl rfl T.n_len rfl n_set (pv 0)) (pe_callB call_len_seq (by rfl) T.n_len (by decide +kernel) (pa_cons (pv 0) pa_nil)) (nomark _)))), ?_⟩
    have lT : (ks.map V.str).length ≤ 40000 := by rw [List.length_map]; omega
    refine Evl.q_when (b := false) (Evl.et_is (Evl.et_or (Evl.et_not (Evl.et_B (ev_call (v := .bl true) (Evl.ea_cons (Evl.ev_var rfl) Evl.ea_nil) fun H1 e1 Q1 q1 => ⟨a, _, rfl, exB e1 hS, fun H2 e2 => q1 H2 e2⟩)))
      (fun _ => Evl.et_not (Evl.et_B (ev_all (bs := List.replicate (ks.map V.str).length true) ?_)))) (by rw [all_true]; rfl)) (fun z => nomatch z) (fun _ H1 e1 => ?_)
    · rw [← range_true]
      refine el_lcB (fun _ => .bl true) (Evl.ev_var rfl) hS lT (fun x => rfl) (fun i x H2 e2 hi => ?_)
      obtain ⟨y, rfl, hy⟩ := strs_at hi
      have hy2 : y ∈ lettersL := hk y (List.mem_of_getElem? hy)
      refine Evl.ev_is (Evl.ev_op (Evl.ev_var rfl) Evl.ev_c (Evl.rv_isT (T.s_LETTERS _) rfl (flat_strs _))) ?_
      rw [inV_strs]
      exact congrArg V.bl (decide_eq_true hy2)
    · refine ⟨_, rfl, a, ks, rfl, exB e1 hS, hl, _, rfl, a, _, rfl, exB e1 hS, rfl, ?_⟩
      rw [List.length_map]
      exact (decide_eq_true (rfl : V.int (ks.length : Int) = V.int (ks.length : Int))) ▸ q H1 e1
theorem ok_are_rules {f fSeq : Addr} {fd fdSeq : FuncData} (F : Fun K "are_rules" "are_rules" sAreRules f fd) (T : TxR K mg a_LETTERS a_LETTER_TESTS a_LETTER_DEEDS a_ANSWER_TESTS a_ANSWER_DEEDS CR tA tN) (D_is_sequence : Df K mg "is_sequence" sIsSequence ["value"] fSeq fdSeq) :
    FnOk P w K mg base CX0 2 f fd ["value"] (spAreRules K CR) := by
  have G_is_sequence : FnOk P w K mg base CX0 1 fSeq fdSeq ["value"] (spIsSeq K) := ok_is_sequence D_is_sequence.F T
  refine F.ok scAreRules (fun vs H Q E h => ?_) (fun cdv A outer s H vs Q E hr h => ?_)
  · obtain ⟨a, xs, rs, rfl, _⟩ := h
    rfl
  · obtain ⟨a, xs, rs, rfl, hS, hR, hl, q⟩ := h
    refine ⟨_, pss_one (ps_ret (pe_and (pe_call G_is_sequence (hr.mono (by decide)) rfl D_is_sequence.g D_is_sequence.F.kp D_is_sequence.b .nil pass0 (pa_cons (pv 0) pa_nil)) (pe_one (pe_callB (cr_all rfl) (by rfl) T.n_all (by decide +kernel) (pa_cons (pe_lc (own := [("rule", 1)]) (g := gName 1) (tt := tYes) rfl scAreRules.nd (pi_both (pv 0)) (blkOk_by (own := [("rule", 1)]) (N := ["value", "rule"]) (sc := defScope sAreRules) (by decide +kernel)) (fun _ _ _ _ _ => (pg_name (i := 1) scAreRules.nd rfl (Or.inl rfl))) (fun _ _ _ _ _ => pts_nil) (fun _ _ _ _ _ => (pe_callB (r := rIsi K) call_isi (by rfl) T.n_isinstance (by decide +kernel) (pa_cons (pv 1) (pa_cons (pe_glob (v := .ref CR) rfl T.g_Rule rfl) pa_nil))))) pa_nil))))), ?_⟩
    refine Evl.s_ret (v := .bl (true && (List.replicate xs.length true).all id)) ?_ fun H1 e1 => by
      rw [all_true]
      exact q H1 e1
    refine Evl.ev_andV (ev_call (v := .bl true) (Evl.ea_cons (Evl.ev_var rfl) Evl.ea_nil) fun H1 e1 Q1 q1 => ⟨a, _, rfl, exB e1 hS, fun H2 e2 => q1 H2 e2⟩) (fun _ => ev_all ?_)
    rw [← range_true]
    refine el_lcB (fun _ => .bl true) (Evl.ev_var rfl) hS (Nat.le_trans hl (by decide)) (fun x => rfl) (fun i x H2 e2 hi => ?_)
    obtain ⟨p, r, rfl, hr2, dx, t, d, h1, _⟩ := hR.at_ hi
    exact ev_isi (Evl.ea_cons (Evl.ev_var rfl) (Evl.ea_cons Evl.ev_c Evl.ea_nil)) (.own CR) (fun H3 e3 => .base (.ins (e3 _ _ (e2 _ _ h1)) T.cl T.ci T.cs T.ct T.co)) (by simp [PySem.W.kitOne])
theorem ok_is_integer {f : Addr} {fd : FuncData} (F : Fun K "is_integer" "is_integer" sIsInteger f fd) (T : TxP K mg CP) : FnOk P w K mg base CX0 1 f fd ["value"] spIsInteger := by
  refine F.ok scIsInteger (fun vs H Q E h => ?_) (fun cdv A outer s H vs Q E hr h => ?_)
  · obtain ⟨i, rfl, _⟩ := h
    rfl
  · obtain ⟨i, rfl, q⟩ := h
    refine ⟨_, pss_one (ps_ret (pe_and (pe_callB call_isi (by rfl) T.n_isinstance (by decide +kernel) (pa_cons (pv 0) (pa_cons (pe_bltn (v := .ty "int") (by rfl) T.n_int (by decide +kernel) rfl) pa_nil))) (pe_one (pe_not (pe_callB call_isi (by rfl) T.n_isinstance (by decide +kernel) (pa_cons (pv 0) (pa_cons (pe_bltn (v := .ty "bool") (by rfl) T.n_bool (by decide +kernel) rfl) pa_nil))))))), ?_⟩
    exact ⟨_, rfl, _, _, _, _, true, rfl, .ty _, .base (.int _), kit_ty (by decide +kernel), _, rfl, iteT ⟨_, rfl, _, _, _, _, false, rfl, .ty _, .base (.int _), kit_ty (by decide +kernel), _, rfl, q⟩⟩
theorem ok_is_place {f fI : Addr} {fd fdI : FuncData} (F : Fun K "is_place" "is_place" sIsPlace f fd) (T : TxP K mg CP) (D_is_integer : Df K mg "is_integer" sIsInteger ["value"] fI fdI) : FnOk P w K mg base CX0 2 f fd ["value", "many"] spIsPlace := by
  have G_is_integer : FnOk P w K mg base CX0 1 fI fdI ["value"] spIsInteger := ok_is_integer D_is_integer.F T
  refine F.ok scIsPlace (fun vs H Q E h => ?_) (fun cdv A outer s H vs Q E hr h => ?_)
  · obtain ⟨i, n, rfl, _⟩ := h
    rfl
  · obtain ⟨i, n, rfl, q⟩ := h
    refine ⟨_, pss_one (ps_ret (pe_and (pe_call G_is_integer (hr.mono (by decide)) rfl D_is_integer.g D_is_integer.F.kp D_is_integer.b .nil pass0 (pa_cons (pv 0) pa_nil)) (pe_one (pe_chain op_le op_lt pe_int (pv 0) (pv 1))))), ?_⟩
    refine ⟨_, rfl, i, rfl, true, rfl, iteT ?_⟩
    refine ⟨_, rfl, _, _, rfl, rfl, _, rfl, ?_⟩
    refine ite2 (fun h1 => ⟨_, rfl, _, _, rfl, rfl, ?_⟩) (fun h1 => ?_)
    · rw [h1, Bool.true_and] at q
      exact q
    · rw [show decide (0 ≤ i) = false by simpa using h1, Bool.false_and] at q
      exact q
theorem ok_plan_init1 {f fSeq fAR fAU : Addr} {fd fdSeq fdAR fdAU : FuncData} {dvs : List V} {kws : List (Str × V)} (F : FunD K "__init__" "Plan.__init__" (defArgs sPlanInit) (defBody sPlanInit) (defScope sPlanInit) dvs kws f fd) (T : TxR K mg a_LETTERS a_LETTER_TESTS a_LETTER_DEEDS a_ANSWER_TESTS a_ANSWER_DEEDS CR tA tN) (TP : TxP K mg CP)
    (D_is_sequence : Df K mg "is_sequence" sIsSequence ["value"] fSeq fdSeq) (D_are_raises : Df K mg "are_raises" sAreRaises ["value"] fAR fdAR) (D_are_rules : Df K mg "are_rules" sAreRules ["value"] fAU fdAU) :
    FnOk P w K mg base CX0 3 f fd ["self", "raises", "rules"] (spPlanInit1 K CR CP) := by
  have G_are_raises : FnOk P w K mg base CX0 2 fAR fdAR ["value"] (spAreRaises1 K) := ok_are_raises1 D_are_raises.F T TP.n_set D_is_sequence
  have G_are_rules : FnOk P w K mg base CX0 2 fAU fdAU ["value"] (spAreRules K CR) := ok_are_rules D_are_rules.F T D_is_sequence
  refine FunD_ok0 F scPlanInit (fun vs H Q E h => ?_) (fun cdv A outer s H vs Q E hr h => ?_)
  · obtain ⟨p, a, b, dx, ks, xs, rs, rfl, _⟩ := h
    rfl
  · obtain ⟨p, a, b, dx, ks, xs, rs, rfl, hp, hA, hl, hk, hB, hR, hx, q⟩ := h
    refine ⟨_, pss_cons (ps_if (pt_not (pt_val (pe_call G_are_raises (hr.mono (by decide)) rfl D_are_raises.g D_are_raises.F.kp D_are_raises.b .nil pass0 (pa_cons (pv 1) pa_nil)))) (pss_one ps_never) pss_nil)
      (pss_cons (ps_if (pt_not (pt_val (pe_call G_are_rules (hr.mono (by decide)) rfl D_are_rules.g D_are_rules.F.kp D_are_rules.b .nil pass0 (pa_cons (pv 2) pa_nil)))) (pss_one ps_never) pss_nil)
      (pss_cons (ps_fld (pv 0) (pe_callTy call_tuple_any (by rfl) T.n_tuple (by decide +kernel) (pa_cons (pe_callB cr_sortedB (by rfl) TP.n_sorted (by decide +kernel) (pa_cons (pv 1) pa_nil)) pa_nil)) rfl)
      (pss_one (ps_fld (pv 0) (pe_callTy call_tuple_any (by rfl) T.n_tuple (by decide +kernel) (pa_cons (pv 2) pa_nil)) rfl)))), ?_⟩
    refine Evl.q_when (b := false) (Evl.et_is (Evl.et_not (Evl.et_B (ev_call (v := .bl true) (Evl.ea_cons (Evl.ev_var rfl) Evl.ea_nil) fun H1 e1 Q1 q1 => ⟨a, ks, rfl, exB e1 hA, hl, hk, fun H2 e2 => q1 H2 e2⟩))) rfl) (fun z => nomatch z) (fun _ H1 e1 => ?_)
    refine Evl.q_when (b := false) (Evl.et_is (Evl.et_not (Evl.et_B (ev_call (v := .bl true) (Evl.ea_cons (Evl.ev_var rfl) Evl.ea_nil) fun H2 e2 Q1 q1 => ⟨b, xs, rs, rfl, exB (e1.trans e2) hB, RulesAt.ex (e1.trans e2) hR, hx, fun H3 e3 => q1 H3 e3⟩))) rfl) (fun z => nomatch z) (fun _ H2 e2 => ?_)
    have e12 := e1.trans e2
    have ntp : ∀ {H' : Hp} {a : Addr} {xs : List V} {fs : List (Str × V)}, H' p = some (.ins CP dx fs) → SqT K H' a xs → ∀ o, SqT K (upd H' p o) a xs := by
      intro H' a xs fs hp' h o
      rcases h with (h | ⟨u, h⟩) | h
      · exact .inl (.inl (by rw [upd_ne (ne_of h hp' (fun z => nomatch z))]; exact h))
      · exact .inl (.inr ⟨u, by rw [upd_ne (ne_of h hp' (fun z => nomatch z))]; exact h⟩)
      · exact .inr h
    have ntl : ∀ {H' : Hp} {a : Addr} {xs : List V} {fs : List (Str × V)}, H' p = some (.ins CP dx fs) → SqL K H' a xs → ∀ o, SqL K (upd H' p o) a xs := by
      intro H' a xs fs hp' h o
      rcases h with (h | ⟨u, h⟩) | h
      · exact .inl (.inl (by rw [upd_ne (ne_of h hp' (fun z => nomatch z))]; exact h))
      · exact .inl (.inr ⟨u, by rw [upd_ne (ne_of h hp' (fun z => nomatch z))]; exact h⟩)
      · exact .inr h
    refine ⟨_, rfl, a, ks, rfl, exB e12 hA, by omega, fun ys l hperm hsort nl => ?_⟩
    have eys : ys = ks := perm_le1 hl hperm
    subst eys
    refine ⟨l, _, rfl, .inl (SqL.of upd_same), fun t2 H3 e3 s3 => ?_⟩
    have e13 : Ex H H3 := (e12.trans (Ex.new nl)).trans e3
    have hp3 := e13 _ _ hp
    refine ⟨_, rfl, p, CP, dx, _, rfl, hp3, TP.cl, TP.nR, (by show 0 < 1000; decide), ?_⟩
    have hB3 := (exB e13 hB).imp (fun h => ntl hp3 h (.ins CP dx (putF "raises" (.ref t2) []))) (fun h => ntp hp3 h (.ins CP dx (putF "raises" (.ref t2) [])))
    have s3' := ntp hp3 s3 (.ins CP dx (putF "raises" (.ref t2) []))
    refine ⟨_, rfl, b, _, rfl, hB3, fun d2 H4 e4 s4 => ?_⟩
    have hp4 := e4 _ _ upd_same
    refine ⟨_, rfl, p, CP, dx, _, rfl, hp4, TP.cl, TP.nU, (by show 1 < 1000; decide), ?_⟩
    refine q _ (fun c o hc hh => ?_) ⟨dx, t2, d2, upd_same, ntp hp4 (Evl.ex_t e4 s3') _, ntp hp4 s4 _⟩
    rw [upd_ne hc]
    refine e4 _ _ ?_
    rw [upd_ne hc]
    exact e13 _ _ hh
theorem ok_plan_item {f fI fPl : Addr} {fd fdI fdPl : FuncData} (F : Fun K "__getitem__" "Plan.__getitem__" sPlanGetitem f fd) (TP : TxP K mg CP) (D_is_integer : Df K mg "is_integer" sIsInteger ["value"] fI fdI) (D_is_place : Df K mg "is_place" sIsPlace ["value", "many"] fPl fdPl) :
    FnOk P w K mg base CX0 3 f fd ["self", "at"] (spPlanItem K CP) := by
  have G_is_place : FnOk P w K mg base CX0 2 fPl fdPl ["value", "many"] spIsPlace := ok_is_place D_is_place.F TP D_is_integer
  refine F.ok scPlanGetitem (fun vs H Q E h => ?_) (fun cdv A outer s H vs Q E hr h => ?_)
  · obtain ⟨p, ks, xs, i, x, rfl, _⟩ := h
    rfl
  · obtain ⟨p, ks, xs, i, x, rfl, ⟨dx, a, b, hp, ha, hb⟩, hx, q⟩ := h
    refine ⟨_, pss_cons (ps_if (pt_not (pt_val (pe_call G_is_place (hr.mono (by decide)) rfl D_is_place.g D_is_place.F.kp D_is_place.b .nil pass0 (pa_cons (pv 1) (pa_cons (pe_callB call_len_seq (by rfl) TP.n_len (by decide +kernel) (pa_cons (pe_fld (pv 0) rfl) pa_nil)) pa_nil))))) (pss_one ps_never) pss_nil)
      (pss_one (ps_ret (pe_ix ix_tup (pe_fld (pv 0) rfl) (pv 1) (fun _ _ => rfl)))), ?_⟩
    refine ⟨_, rfl, _, rfl, p, CP, dx, _, _, rfl, hp, TP.cl, TP.nU, pf_rules _ _, b, xs, rfl, .inr hb, _, _, rfl, _, rfl, ?_⟩
    have hi := (List.getElem?_eq_some_iff.mp hx).1
    have e : (decide ((0 : Int) ≤ (i : Int)) && decide ((i : Int) < (xs.length : Int))) = true := by
      rw [decide_eq_true (by omega), decide_eq_true (by omega)]
      rfl
    rw [e]
    refine iteF ⟨_, rfl, p, CP, dx, _, _, rfl, hp, TP.cl, TP.nU, pf_rules _ _, _, rfl, b, xs, _, _, rfl, rfl, hb, atI_nat hx, q⟩
end
end Ov


namespace Ov
open PySem PySem.Spec PyProof.Rows L2
open Evl (pss_cut tCut Ex Ev EvT EvL EvA EvU)
/-- evaluates to some object of which Pp holds; what stood stays -/
def EvP (te : TE) (σ : L2.St) (H : Hp) (Pp : Addr → Hp → Prop) : Prop := ∀ H1, Ex H H1 → ∀ Q : VK, (∀ p H2, Ex H1 H2 → Pp p H2 → Q (.ref p) H2) → te σ H1 Q
def EvAs (ta : TA) (σ : L2.St) (H : Hp) (Pa : List V → Hp → Prop) : Prop := ∀ H1, Ex H H1 → ∀ Q : List V → Hp → Prop, (∀ vs H2, Ex H1 H2 → Pa vs H2 → Q vs H2) → ta σ H1 Q
def sameR (r u : RuleD) : Bool := decide (r.k = u.k) && (decide (r.ts = u.ts) && decide (r.ds = u.ds))
theorem sameR_self (r : RuleD) : sameR r r = true := by
  unfold sameR
  rw [decide_eq_true rfl, decide_eq_true rfl, decide_eq_true rfl]
  rfl
theorem sameR_text {r u : RuleD} (g : r.Good) (g2 : u.Good) : decide (ruleText r = ruleText u) = sameR r u := by
  by_cases h : ruleText r = ruleText u
  · obtain ⟨h1, h2, h3⟩ := ruleText_inj g g2 h
    unfold sameR
    rw [h1, h2, h3, decide_eq_true h, decide_eq_true rfl, decide_eq_true rfl, decide_eq_true rfl]
    rfl
  · rw [decide_eq_false h]
    symm
    by_cases hs : sameR r u = true
    · exfalso
      unfold sameR at hs
      obtain ⟨h1, h2⟩ := Bool.and_eq_true_iff.mp hs
      obtain ⟨h2, h3⟩ := Bool.and_eq_true_iff.mp h2
      refine h ?_
      unfold ruleText
      rw [of_decide_eq_true h1, of_decide_eq_true h2, of_decide_eq_true h3]
    · simpa using hs
section
variable {K : PySem.W.Frag} {CR : Addr} {σ : L2.St} {H : Hp} {ta tb te : TE} {r u : RuleD}
theorem EvP.of {p : Addr} {Pp : Addr → Hp → Prop} (h : Ev te σ H (.ref p)) (hp : ∀ H1, Ex H H1 → Pp p H1) : EvP te σ H Pp := fun H1 e Q q => h H1 e Q fun H2 e2 => q p H2 e2 (hp H2 (e.trans e2))
theorem EvP.tup {vs : List V} {Pp : Addr → Hp → Prop} (h : EvU te σ H vs) (hp : ∀ p H1, Ex H H1 → H1 p = some (.tup vs) → Pp p H1) : EvP te σ H Pp := fun H1 e Q q => h H1 e Q fun p H2 _ e2 h2 => q p H2 e2 (hp p H2 (e.trans e2) h2)
theorem EvP.lst {vs : List V} {Pp : Addr → Hp → Prop} (h : EvL te σ H vs) (hp : ∀ p H1, Ex H H1 → H1 p = some (.lst vs) → Pp p H1) : EvP te σ H Pp := fun H1 e Q q => h H1 e Q fun p H2 _ e2 h2 => q p H2 e2 (hp p H2 (e.trans e2) h2)
/-- Rule(k, tests, deeds) -/
theorem ev_rule {t3 t4 : TE} (hk : Ev ta σ H (.str r.k)) (ht : EvP t3 σ H (fun t H2 => SqL K H2 t (r.ts.map V.str) ∨ SqT K H2 t (r.ts.map V.str))) (hd : EvP t4 σ H (fun d H2 => SqL K H2 d (r.ds.map V.str) ∨ SqT K H2 d (r.ds.map V.str))) (g : r.Good) :
    EvP (tMake CR (spRuleInit K CR) [] E0 (tCons ta (tCons t3 (tCons t4 tNil)))) σ H (fun p H2 => RuleObj K CR H2 p r) := fun H1 e1 Q q => by
  refine hk H1 e1 _ fun H2 e2 => ht H2 (e1.trans e2) _ fun t H3 e3 st => hd H3 ((e1.trans e2).trans e3) _ fun d H4 e4 sd x dx nx ndx ne => ?_
  have e5 : Ex H4 (upd (upd H4 dx (.own x)) x (.ins CR dx [])) := (Ex.new ndx).trans (Ex.new (by rw [upd_ne ne.symm]; exact nx))
  refine ⟨x, t, d, dx, r, rfl, upd_same, exB e5 (exB e4 st), exB e5 sd, g, fun H5 k5 ro => ⟨rfl, q x H5 (((e2.trans e3).trans e4).trans fun b o hb => k5 b o (ne_of_none hb nx) (e5 _ _ hb)) ro⟩⟩
theorem ev_eqR (ha : EvP ta σ H (fun p H => RuleObj K CR H p r)) (hb : EvP tb σ H (fun p H => RuleObj K CR H p u)) (g : r.Good) (g2 : u.Good) : Ev (tOp (rEqI CR (spRuleEq K CR) E0) ta tb) σ H (.bl (sameR r u)) := fun H1 e1 Q q => by
  refine ha H1 e1 _ fun p H2 e2 rp => hb H2 (e1.trans e2) _ fun p2 H3 e3 rp2 => ?_
  have rp3 := rp.ex e3
  obtain ⟨dx, t, d, hp, _⟩ := id rp3
  obtain ⟨dx2, t2, d2, hp2, _⟩ := id rp2
  exact ⟨p, p2, dx, dx2, _, _, rfl, rfl, hp, hp2, p, p2, r, u, rfl, rp3, rp2, g, g2, fun H4 e4 => ⟨_, rfl, q H4 ((e2.trans e3).trans e4)⟩⟩
theorem ev_neR (ha : EvP ta σ H (fun p H => RuleObj K CR H p r)) (hb : EvP tb σ H (fun p H => RuleObj K CR H p u)) (g : r.Good) (g2 : u.Good) : Ev (tOp (rNeI CR (spRuleEq K CR) E0) ta tb) σ H (.bl (!sameR r u)) := fun H1 e1 Q q => by
  refine ha H1 e1 _ fun p H2 e2 rp => hb H2 (e1.trans e2) _ fun p2 H3 e3 rp2 => ?_
  have rp3 := rp.ex e3
  obtain ⟨dx, t, d, hp, _⟩ := id rp3
  obtain ⟨dx2, t2, d2, hp2, _⟩ := id rp2
  exact ⟨p, p2, dx, dx2, _, _, rfl, rfl, hp, hp2, p, p2, r, u, rfl, rp3, rp2, g, g2, fun H4 e4 => ⟨_, rfl, q H4 ((e2.trans e3).trans e4)⟩⟩
theorem ev_strR (ha : EvP ta σ H (fun p H => RuleObj K CR H p r)) (g : r.Good) : Ev (tCB (rStrI CR (spRuleStr K CR) E0) (tCons ta tNil)) σ H (.str (ruleText r)) := fun H1 e1 Q q => by
  refine ha H1 e1 _ fun p H2 e2 rp => ?_
  obtain ⟨dx, t, d, hp, _⟩ := id rp
  exact ⟨p, dx, _, rfl, hp, p, r, rfl, rp, g, fun H3 e3 => ⟨_, rfl, q H3 (e2.trans e3)⟩⟩
/-- the fields of a Rule -/
theorem ev_fk {T : Cls K CR} (nK : NoAttr K CR "kind") {p : Addr} (ha : Ev ta σ H (.ref p)) (rp : RuleObj K CR H p r) : Ev (tFld K ta "kind") σ H (.str r.k) := by
  obtain ⟨dx, t, d, hp, _⟩ := rp
  exact ev_fld ha hp T nK (rf_k _ _ _)
theorem ev_ft {T : Cls K CR} (nT : NoAttr K CR "tests") {p : Addr} (ha : Ev ta σ H (.ref p)) (rp : RuleObj K CR H p r) : EvP (tFld K ta "tests") σ H (fun t H2 => SqT K H2 t (r.ts.map V.str)) := by
  obtain ⟨dx, t, d, hp, ht, _⟩ := rp
  exact .of (ev_fld ha hp T nT (rf_t _ _ _)) fun H1 e1 => Evl.ex_t e1 ht
theorem ev_fd {T : Cls K CR} (nD : NoAttr K CR "deeds") {p : Addr} (ha : Ev ta σ H (.ref p)) (rp : RuleObj K CR H p r) : EvP (tFld K ta "deeds") σ H (fun t H2 => SqT K H2 t (r.ds.map V.str)) := by
  obtain ⟨dx, t, d, hp, _, hd⟩ := rp
  exact .of (ev_fld ha hp T nD (rf_d _ _ _)) fun H1 e1 => Evl.ex_t e1 hd
theorem EvP.imp {Pp Pq : Addr → Hp → Prop} (h : EvP te σ H Pp) (i : ∀ p H1, Pp p H1 → Pq p H1) : EvP te σ H Pq := fun H1 e Q q => h H1 e Q fun p H2 e2 h2 => q p H2 e2 (i p H2 h2)
theorem EvP.mono {Pp : Addr → Hp → Prop} {H' : Hp} (e : Ex H H') (h : EvP te σ H Pp) : EvP te σ H' Pp := fun H1 e1 Q q => h H1 (e.trans e1) Q q
/-- t[::-1] -/
theorem ev_back {xs : List V} (ha : EvP ta σ H (fun t H2 => SqT K H2 t xs)) (hs : Ev tb σ H (.int (-1))) : EvP (tBackT K ta tb) σ H (fun t H2 => SqT K H2 t xs.reverse) := fun H1 e1 Q q =>
  ha H1 e1 _ fun t H2 e2 st => hs H2 (e1.trans e2) _ fun H3 e3 => ⟨-1, rfl, rfl, t, xs, rfl, Evl.ex_t e3 st, fun p np => q p _ ((e2.trans e3).trans (Ex.new np)) (Evl.st_of upd_same)⟩
/-- == and != of tuples of texts, either made on the way -/
theorem ev_eqTs {l m : List Str} (ol : Plain l) (om : Plain m) (ha : EvP ta σ H (fun t H2 => SqT K H2 t (l.map V.str))) (hb : EvP tb σ H (fun t H2 => SqT K H2 t (m.map V.str))) : Ev (tOp (rEqD K) ta tb) σ H (.bl (decide (l = m))) := fun H1 e1 Q q =>
  ha H1 e1 _ fun t H2 e2 st => hb H2 (e1.trans e2) _ fun t2 H3 e3 st2 => rv_eqT ol om (Evl.ex_t e3 st) st2 H3 (Ex.refl _) Q fun H4 e4 => q H4 ((e2.trans e3).trans e4)
/-- lists of texts, of truth values, compared -/
theorem dp_bls {H : Hp} : ∀ l : List Bool, DpAll K H (l.map V.bl) (l.map PyData.bool)
  | [] => .nil
  | n :: r => .cons (.bl n) (dp_bls r)
theorem canLay_bls : ∀ l : List Bool, PyData.canLayAll0 (l.map PyData.bool) = true
  | [] => rfl
  | n :: r => by
    show (PyData.canLay0 (.bool n) && PyData.canLayAll0 (r.map PyData.bool)) = true
    rw [canLay_bls r]
    rfl
theorem depth_bls : ∀ l : List Bool, PyData.depthAll (l.map PyData.bool) = 0
  | [] => rfl
  | n :: r => by
    show max (PyData.depth (.bool n)) (PyData.depthAll (r.map PyData.bool)) = 0
    rw [depth_bls r]
    rfl
theorem shaped_bls (l : List Bool) : SeqAt.shaped (.list (l.map PyData.bool)) = true := by
  have h2 : (PyData.list (l.map PyData.bool)).depth = 0 + 1 := by
    show PyData.depthAll (l.map PyData.bool) + 1 = 0 + 1
    rw [depth_bls]
  show (PyData.canLayAll0 (l.map PyData.bool) && decide ((PyData.list (l.map PyData.bool)).depth ≤ 64)) = true
  rw [canLay_bls l, h2]
  rfl
theorem eqvAll_bls : ∀ l : List Bool, PyData.eqvAll (l.map PyData.bool) (l.map PyData.bool) = true
  | [] => rfl
  | x :: l => by
    show (x == x && PyData.eqvAll (l.map PyData.bool) (l.map PyData.bool)) = true
    rw [eqvAll_bls l, beq_self_eq_true]
    rfl
/-- two lists of the same truth values are not unequal -/
theorem ev_neBs {l : List Bool} (ha : EvL ta σ H (l.map V.bl)) (hb : EvL tb σ H (l.map V.bl)) : Ev (tOp (rNeD K) ta tb) σ H (.bl false) := Evl.ev_opLL ha hb fun p q H1 hp hq _ => fun H2 e2 Q k =>
  ⟨_, _, .lst (Evl.sq_of (e2 _ _ hp)) (dp_bls l), .lst (Evl.sq_of (e2 _ _ hq)) (dp_bls l), shaped_bls l, shaped_bls l, by
    have e : PyData.eqv (.list (l.map PyData.bool)) (.list (l.map PyData.bool)) = true := eqvAll_bls l
    rw [e]
    exact k H2 (Ex.refl _)⟩
/-- a new list of texts against a list of the same ones -/
theorem ev_neSs {l : List Str} {a : Addr} (ol : Plain l) (ha : EvL ta σ H (l.map V.str)) (hb : ∀ H1, Ex H H1 → Ev tb σ H1 (.ref a)) (hl : SqL K H a (l.map V.str)) : Ev (tOp (rNeD K) ta tb) σ H (.bl false) := Evl.ev_opL1 ha hb fun p H1 hp e1 => fun H2 e2 Q k =>
  ⟨_, _, .lst (Evl.sq_of (e2 _ _ hp)) (dp_strs l), .lst (Evl.ex_l (e1.trans e2) hl) (dp_strs l), shaped_strsL l ol, shaped_strsL l ol, by
    rw [eqv_strsL, decide_eq_true rfl]
    exact k H2 (Ex.refl _)⟩
end
/-! ### texts of rules are of plain signs -/
theorem plain_app {x y : Str} (hx : PyData.canLay0 (.str x) = true) (hy : PyData.canLay0 (.str y) = true) : PyData.canLay0 (.str (x ++ y)) = true := by
  have hx' : x.cps.all (· < 0x110000) = true := hx
  have hy' : y.cps.all (· < 0x110000) = true := hy
  show (x ++ y).cps.all (· < 0x110000) = true
  rw [Str.cps_append, Array.all_append, hx', hy']
  rfl
theorem plain_join {sep : Str} (hs : PyData.canLay0 (.str sep) = true) : ∀ {l : List Str}, Plain l → PyData.canLay0 (.str (Str.join sep l)) = true
  | [], _ => by
    show PyData.canLay0 (.str Str.empty) = true
    decide +kernel
  | [x], h => h x (List.mem_singleton.mpr rfl)
  | x :: y :: r, h => plain_app (plain_app (h x (List.mem_cons_self ..)) hs) (plain_join hs fun z hz => h z (List.mem_cons_of_mem _ hz))
theorem plain_text {r : RuleD} (g : r.Good) : PyData.canLay0 (.str (ruleText r)) = true := by
  have hk : ∀ k ∈ kindsAll, PyData.canLay0 (.str k) = true := by decide +kernel
  unfold ruleText tText dText
  refine plain_app (plain_app (plain_app (by decide +kernel) (hk _ g.k)) ?_) ?_
  · split
    · decide +kernel
    · exact plain_app (by decide +kernel) (plain_join (by decide +kernel) g.pt)
  · split
    · decide +kernel
    · exact plain_app (by decide +kernel) (plain_join (by decide +kernel) g.pd)
end Ov


namespace Ov
open PySem PySem.Spec PyProof.Rows L2
open Evl (pss_cut tCut Ex Ev EvT EvL EvA EvU)
/-! ### readings of the law's parts -/
abbrev sK : Str := Str.ofString "kind"
abbrev sT : Str := Str.ofString "tests"
abbrev sD : Str := Str.ofString "deeds"
section
variable (K : PySem.W.Frag) (CR CP : Addr)
abbrev tR (ta : TA) : TE := tMake CR (spRuleInit K CR) [] E0 ta
abbrev tBk : TE := tOp (rI0 fun i j => V.int (i - j)) (tC (V.int 0)) (tC (V.int 1))
abbrev fK : TE := tFld K (tVar 6) sK
abbrev fT : TE := tFld K (tVar 6) sT
abbrev fD : TE := tFld K (tVar 6) sD
abbrev ix5 (i : Int) : TE := tOp (rIxT K) (tVar 5) (tC (V.int i))
abbrev tStr (te : TE) : TE := tCB (rStrI CR (spRuleStr K CR) E0) (tCons te tNil)
abbrev tNo : TS := tRet (tC (V.bl false))
def rdZip : TS :=
  tSeq (tIfS (tOr (tTest (tOp (rNeI CR (spRuleEq K CR) E0) (tR K CR (tCons (fK K) (tCons (fT K) (tCons (fD K) tNil)))) (tVar 6))) (tTest (tOp (rNeD K) (fK K) (ix5 K 0)))) tNo tNext)
  (tSeq (tAsg (tR K CR (tCons (fK K) (tCons (tBackT K (fT K) tBk) (tCons (fD K) tNil)))) (gName 7))
  (tSeq (tIfS (tTest (tOp (rNeD K) (tOp (rEqI CR (spRuleEq K CR) E0) (tVar 7) (tVar 6)) (tOp (rEqD K) (tBackT K (ix5 K 1) tBk) (ix5 K 1)))) tNo tNext)
  (tSeq (tAsg (tR K CR (tCons (fK K) (tCons (tTup tNil) (tCons (fD K) tNil)))) (gName 8))
  (tIfS (tOr (tTest (tOp (rNeD K) (tOp (rEqI CR (spRuleEq K CR) E0) (tVar 8) (tVar 6)) (tOp (rEqD K) (ix5 K 1) (tTup tNil))))
    (tTest (tOp (rNeD K) (tStr K CR (tVar 8)) (tCall (spRuleText K) [] E0 (tCons (tTup (tCons (ix5 K 0) (tCons (tTup tNil) (tCons (ix5 K 2) tNil)))) tNil))))) tNo tNext))))
end
theorem q_asgP {te : TE} {σ : L2.St} {H : Hp} {D : Ends} {tz : TS} {i : Nat} {Pp : Addr → Hp → Prop} (h : EvP te σ H Pp) (k : ∀ p H1, Ex H H1 → Pp p H1 → tz D (σ.set i (some (.ref p))) H1) : tSeq (tAsg te (gName i)) tz D σ H :=
  h H (Ex.refl H) _ fun p H1 e hp => k p H1 e hp
section
variable {K : PySem.W.Frag} {σ : L2.St} {H : Hp} {ta tb : TE}
theorem ev_neB1 {a b : Bool} (ha : Ev ta σ H (.bl a)) (hb : Ev tb σ H (.bl b)) (e : a = b) : Ev (tOp (rNeD K) ta tb) σ H (.bl false) := by
  subst e
  refine Evl.ev_op ha hb fun H1 e _ q => ⟨_, _, .bl a, .bl a, rfl, rfl, ?_⟩
  rw [show PyData.eqv (.bool a) (.bool a) = (a == a) from rfl, beq_self_eq_true]
  exact q H1 (Ex.refl H1)
theorem ev_neS1 {x : Str} (ha : Ev ta σ H (.str x)) (hb : Ev tb σ H (.str x)) (hx : PyData.canLay0 (.str x) = true) : Ev (tOp (rNeD K) ta tb) σ H (.bl false) := by
  have sh : SeqAt.shaped (.str x) = true := by
    show (PyData.canLay0 (.str x) && decide ((PyData.str x).depth ≤ 64)) = true
    rw [hx]
    rfl
  refine Evl.ev_op ha hb fun H1 e _ q => ⟨_, _, .str x, .str x, sh, sh, ?_⟩
  rw [show PyData.eqv (.str x) (.str x) = (x == x) from rfl, beq_self_eq_true]
  exact q H1 (Ex.refl H1)
end
theorem RuleD.Good.rev {r : RuleD} (g : r.Good) : RuleD.Good ⟨r.k, r.ts.reverse, r.ds⟩ := ⟨g.k, fun t ht => g.ts t (List.mem_reverse.mp ht), g.ds, (by rw [List.length_reverse]; exact g.nt), g.nd⟩
theorem RuleD.Good.bare {r : RuleD} (g : r.Good) : RuleD.Good ⟨r.k, [], r.ds⟩ := ⟨g.k, (fun t ht => nomatch ht), g.ds, Nat.zero_le _, g.nd⟩
theorem same_ts {r : RuleD} {ts : List Str} : sameR ⟨r.k, ts, r.ds⟩ r = decide (ts = r.ts) := by
  unfold sameR
  simp
theorem plain_kind {k : Str} (h : k ∈ kindsAll) : PyData.canLay0 (.str k) = true := by
  have hk : ∀ k ∈ kindsAll, PyData.canLay0 (.str k) = true := by decide +kernel
  exact hk _ h
section
variable {K : PySem.W.Frag} {mg : Str → Option Value} {a_LETTERS a_LETTER_TESTS a_LETTER_DEEDS a_ANSWER_TESTS a_ANSWER_DEEDS CR CP : Addr} {tA tN : Tok}
theorem rd_zip (T : TxR K mg a_LETTERS a_LETTER_TESTS a_LETTER_DEEDS a_ANSWER_TESTS a_ANSWER_DEEDS CR tA tN) {D : Ends} {H : Hp} {r : RuleD} {p q : Addr} {a0 a1 a2 a3 a4 a7 a8 a9 a10 a11 a12 a13 a14 a15 a16 a17 : Option V} (g : r.Good) (hp : RuleAt H p r) (hq : RuleObj K CR H q r)
    (k : ∀ b7 b8 H1, Ex H H1 → D.nx [a0, a1, a2, a3, a4, some (.ref p), some (.ref q), b7, b8, a9, a10, a11, a12, a13, a14, a15, a16, a17] H1) :
    rdZip K CR D [a0, a1, a2, a3, a4, some (.ref p), some (.ref q), a7, a8, a9, a10, a11, a12, a13, a14, a15, a16, a17] H := by
  obtain ⟨t, d, h1, h2, h3⟩ := hp
  refine Evl.q_when (b := false) (Evl.et_is (Evl.et_or (Evl.et_test (ev_neR (ev_rule (r := r) (ev_fk (r := r) (T := T.cl) T.nK (Evl.ev_var rfl) hq) ((ev_ft (r := r) (T := T.cl) T.nT (Evl.ev_var rfl) hq).imp fun _ _ h => .inr h) ((ev_fd (r := r) (T := T.cl) T.nD (Evl.ev_var rfl) hq).imp fun _ _ h => .inr h) g) (EvP.of (p := q) (Evl.ev_var rfl) fun H1 e => hq.ex e) g g))
    (fun _ => Evl.et_test (ev_neS1 (ev_fk (r := r) (T := T.cl) T.nK (Evl.ev_var rfl) hq) (ev_ixT (j := 0) (Evl.ev_var rfl) Evl.ev_c (Evl.st_of h1) rfl) (plain_kind g.k)))) (by rw [sameR_self]; rfl)) (fun z => nomatch z) (fun _ H1 e1 => ?_)
  replace hq := hq.ex e1
  replace h1 := e1 _ _ h1
  replace h2 := e1 _ _ h2
  replace h3 := e1 _ _ h3
  refine q_asgP (ev_rule (r := ⟨r.k, r.ts.reverse, r.ds⟩) (ev_fk (r := r) (T := T.cl) T.nK (Evl.ev_var rfl) hq) ((ev_back (ev_ft (r := r) (T := T.cl) T.nT (Evl.ev_var rfl) hq) (Evl.ev_op Evl.ev_c Evl.ev_c Evl.rv_I0)).imp fun _ _ h => .inr (by rw [List.map_reverse]; exact h)) ((ev_fd (r := r) (T := T.cl) T.nD (Evl.ev_var rfl) hq).imp fun _ _ h => .inr h) g.rev) fun q7 H2 e2 hq7 => ?_
  replace hq := hq.ex e2
  replace h1 := e2 _ _ h1
  replace h2 := e2 _ _ h2
  replace h3 := e2 _ _ h3
  have e02 := e1.trans e2
  refine Evl.q_when (b := false) (Evl.et_test (ev_neB1 (ev_eqR (r := ⟨r.k, r.ts.reverse, r.ds⟩) (u := r) (EvP.of (p := q7) (Evl.ev_var rfl) fun H1 e => hq7.ex e) (EvP.of (p := q) (Evl.ev_var rfl) fun H1 e => hq.ex e) g.rev g)
    (ev_eqTs (l := r.ts.reverse) (m := r.ts) g.rev.pt g.pt ((ev_back (EvP.of (p := t) (ev_ixT (j := 1) (Evl.ev_var rfl) Evl.ev_c (Evl.st_of h1) rfl) fun H1 e => Evl.st_of (e _ _ h2)) (Evl.ev_op Evl.ev_c Evl.ev_c Evl.rv_I0)).imp fun _ _ h => by rw [List.map_reverse]; exact h) (EvP.of (p := t) (ev_ixT (j := 1) (Evl.ev_var rfl) Evl.ev_c (Evl.st_of h1) rfl) fun H1 e => Evl.st_of (e _ _ h2))) same_ts)) (fun z => nomatch z) (fun _ H3 e3 => ?_)
  replace hq := hq.ex e3
  replace h1 := e3 _ _ h1
  replace h2 := e3 _ _ h2
  replace h3 := e3 _ _ h3
  have e03 := e02.trans e3
  refine q_asgP (ev_rule (r := ⟨r.k, [], r.ds⟩) (ev_fk (r := r) (T := T.cl) T.nK (Evl.ev_var rfl) hq) (EvP.tup (Evl.eu_tup Evl.ea_nil (Nat.zero_le _)) fun _ _ _ h => .inr (Evl.st_of h)) ((ev_fd (r := r) (T := T.cl) T.nD (Evl.ev_var rfl) hq).imp fun _ _ h => .inr h) g.bare) fun q8 H4 e4 hq8 => ?_
  replace hq := hq.ex e4
  replace h1 := e4 _ _ h1
  replace h2 := e4 _ _ h2
  replace h3 := e4 _ _ h3
  have e04 := e03.trans e4
  refine Evl.s_when (b := false) (Evl.et_is (Evl.et_or (Evl.et_test (ev_neB1 (ev_eqR (r := ⟨r.k, [], r.ds⟩) (u := r) (EvP.of (p := q8) (Evl.ev_var rfl) fun H1 e => hq8.ex e) (EvP.of (p := q) (Evl.ev_var rfl) fun H1 e => hq.ex e) g.bare g)
    (ev_eqTs (l := r.ts) (m := []) g.pt (fun _ h => nomatch h) (EvP.of (p := t) (ev_ixT (j := 1) (Evl.ev_var rfl) Evl.ev_c (Evl.st_of h1) rfl) fun H1 e => Evl.st_of (e _ _ h2)) (EvP.tup (Evl.eu_tup Evl.ea_nil (Nat.zero_le _)) fun _ _ _ h => Evl.st_of h)) (by rw [same_ts]; exact decide_eq_decide.mpr ⟨Eq.symm, Eq.symm⟩)))
    (fun _ => Evl.et_test (ev_neS1 (x := ruleText ⟨r.k, [], r.ds⟩) (ev_strR (EvP.of (p := q8) (Evl.ev_var rfl) fun H1 e => hq8.ex e) g.bare) ?_ (plain_text g.bare)))) rfl) (fun z => nomatch z) (fun _ H5 e5 => k _ _ H5 (e04.trans e5))
  intro H5 e5 Q qq
  refine (ev_ixT (K := K) (j := 0) (v := .str r.k) (Evl.ev_var rfl) Evl.ev_c (Evl.st_of (e5 _ _ h1)) rfl) H5 (Ex.refl _) _ fun H6 e6 => ?_
  refine ⟨Nat.zero_le _, fun t0 n0 => ?_⟩
  have e7 : Ex H6 (upd H6 t0 (.tup [])) := Ex.new n0
  refine (ev_ixT (K := K) (j := 2) (v := .ref d) (Evl.ev_var rfl) Evl.ev_c (Evl.st_of (((e5.trans e6).trans e7) _ _ h1)) rfl) _ (Ex.refl _) _ fun H8 e8 => ?_
  refine ⟨by show 3 ≤ sizeLine; decide, fun p1 n1 => ?_⟩
  have e9 : Ex H8 (upd H8 p1 (.tup [.str r.k, .ref t0, .ref d])) := Ex.new n1
  exact ⟨p1, t0, d, ⟨r.k, [], r.ds⟩, rfl, Evl.st_of upd_same, Evl.st_of (e9 _ _ (e8 _ _ upd_same)), Evl.st_of (e9 _ _ (e8 _ _ (e7 _ _ (e6 _ _ (e5 _ _ h3))))), g.bare, fun H10 e10 => qq H10 ((((e6.trans e7).trans e8).trans e9).trans e10)⟩
end
end Ov


namespace Ov
open PySem PySem.Spec PyProof.Rows L2
open Evl (pss_cut tCut Ex Ev EvT EvL EvA EvU)
def DrawnAt (H : Hp) (xs : List V) (rs : List RuleD) : Prop := Paired (fun x r => ∃ p, x = V.ref p ∧ RuleAt H p r ∧ r.Ok) xs rs
theorem DrawnAt.kp {a b : Addr} {H H' : Hp} (k : Kp a b H H') (D : Deal H a b) : ∀ {xs : List V} {rs : List RuleD}, DrawnAt H xs rs → DrawnAt H' xs rs
  | _, _, .nil => .nil
  | _, _, .cons ⟨p, h1, h2, h3⟩ t => .cons ⟨p, h1, h2.kp k D, h3⟩ (DrawnAt.kp k D t)
theorem DrawnAt.ex {H H' : Hp} (e : Ex H H') : ∀ {xs : List V} {rs : List RuleD}, DrawnAt H xs rs → DrawnAt H' xs rs
  | _, _, .nil => .nil
  | _, _, .cons ⟨p, h1, h2, h3⟩ t => .cons ⟨p, h1, h2.same (ex_same e), h3⟩ (DrawnAt.ex e t)
theorem DrawnAt.at_ {H : Hp} : ∀ {xs : List V} {rs : List RuleD} {i : Nat} {x : V}, DrawnAt H xs rs → xs[i]? = some x → ∃ p r, x = .ref p ∧ rs[i]? = some r ∧ RuleAt H p r ∧ r.Ok
  | _, _, _, _, .nil, h => by simp at h
  | _, _, 0, _, .cons ⟨p, h1, h2, h3⟩ _, h => by
    have e := Option.some.inj h
    exact ⟨p, _, by rw [← e, h1], rfl, h2, h3⟩
  | _, _, i + 1, _, .cons _ t, h => DrawnAt.at_ (i := i) t h
theorem paired_snoc {α β : Type} {R : α → β → Prop} : ∀ {xs : List α} {ys : List β} {x : α} {y : β}, Paired R xs ys → R x y → Paired R (xs ++ [x]) (ys ++ [y])
  | _, _, _, _, .nil, h => .cons h .nil
  | _, _, _, _, .cons h t, h2 => .cons h (paired_snoc t h2)
/-- list(x) of a list or a tuple -/
abbrev rListOf (K : PySem.W.Frag) : List V → Hp → VK → Prop := fun xs H Q => ∃ p ys, xs = [.ref p] ∧ (SqL K H p ys ∨ SqT K H p ys) ∧ ∀ l, H l = none → Q (.ref l) (upd H l (.lst ys))
theorem paired_len {α β : Type} {R : α → β → Prop} : ∀ {xs : List α} {ys : List β}, Paired R xs ys → xs.length = ys.length
  | _, _, .nil => rfl
  | _, _, .cons _ t => congrArg (· + 1) (paired_len t)
theorem range_at {α β : Type} (rs : List α) {n : Nat} (hn : n = rs.length) (v : Nat → β) (g : α → β) (h : ∀ i r, rs[i]? = some r → v i = g r) : (List.range n).map v = rs.map g := by
  subst hn
  refine List.ext_getElem? fun i => ?_
  rw [List.getElem?_map, List.getElem?_map]
  by_cases hi : i < rs.length
  · rw [List.getElem?_range hi, List.getElem?_eq_getElem hi]
    exact congrArg some (h i _ (List.getElem?_eq_getElem hi))
  · rw [List.getElem?_eq_none (by rw [List.length_range]; omega), List.getElem?_eq_none (by omega)]
    rfl
theorem RuleAt.updL {H : Hp} {D p : Addr} {zs : List V} {r : RuleD} {o : HO} (hD : H D = some (.lst zs)) (h : RuleAt H p r) : RuleAt (upd H D o) p r := by
  obtain ⟨t, d, h1, h2, h3⟩ := h
  refine ⟨t, d, ?_, ?_, ?_⟩
  · rw [upd_ne (ne_of h1 hD (fun z => nomatch z))]
    exact h1
  · rw [upd_ne (ne_of h2 hD (fun z => nomatch z))]
    exact h2
  · rw [upd_ne (ne_of h3 hD (fun z => nomatch z))]
    exact h3
theorem DrawnAt.updL {H : Hp} {D : Addr} {zs : List V} {o : HO} (hD : H D = some (.lst zs)) : ∀ {xs : List V} {rs : List RuleD}, DrawnAt H xs rs → DrawnAt (upd H D o) xs rs
  | _, _, .nil => .nil
  | _, _, .cons ⟨p, h1, h2, h3⟩ t => .cons ⟨p, h1, h2.updL hD, h3⟩ (DrawnAt.updL hD t)
theorem sqt_updL {K : PySem.W.Frag} {H : Hp} {D a : Addr} {zs xs : List V} {o : HO} (hD : H D = some (.lst zs)) (h : SqT K H a xs) : SqT K (upd H D o) a xs := by
  rcases h with (h | ⟨u, h⟩) | h
  · exact .inl (.inl (by rw [upd_ne (ne_of h hD (fun z => nomatch z))]; exact h))
  · exact .inl (.inr ⟨u, by rw [upd_ne (ne_of h hD (fun z => nomatch z))]; exact h⟩)
  · exact .inr h
theorem RuleObj.updL {K : PySem.W.Frag} {C : Addr} {H : Hp} {D p : Addr} {zs : List V} {r : RuleD} {o : HO} (hD : H D = some (.lst zs)) (h : RuleObj K C H p r) : RuleObj K C (upd H D o) p r := by
  obtain ⟨dx, t, d, h1, h2, h3⟩ := h
  refine ⟨dx, t, d, ?_, sqt_updL hD h2, sqt_updL hD h3⟩
  rw [upd_ne (ne_of h1 hD (fun z => nomatch z))]
  exact h1
theorem RulesAt.updL {K : PySem.W.Frag} {C : Addr} {H : Hp} {D : Addr} {zs : List V} {o : HO} (hD : H D = some (.lst zs)) : ∀ {xs : List V} {rs : List RuleD}, RulesAt K C H xs rs → RulesAt K C (upd H D o) xs rs
  | _, _, .nil => .nil
  | _, _, .cons ⟨p, h1, h2⟩ t => .cons ⟨p, h1, h2.updL hD⟩ (RulesAt.updL hD t)
section
variable {K : PySem.W.Frag} {CR CP : Addr} {σ : L2.St} {H : Hp} {tl te : TE}
theorem el_rulesL {a : Addr} {xs : List V} {rs : List RuleD} {j : Nat} {vs : List Nat} (g : RuleD → V) (h : Ev tl σ H (.ref a)) (hx : SqL K H a xs) (hR : RulesAt K CR H xs rs) (hz : xs.length ≤ 40000) (hw : ∀ x, wipe ((wipe σ vs).set j (some x)) vs = wipe σ vs)
    (he : ∀ p r H1, Ex H H1 → r ∈ rs → RuleObj K CR H1 p r → Ev te ((wipe σ vs).set j (some (.ref p))) H1 (g r)) : EvL (tLc (iList K tl) (gName j) tYes te vs) σ H (rs.map g) := by
  have e : (List.range xs.length).map (fun i => ((rs[i]?).map g).getD .non) = rs.map g := range_at rs (paired_len hR) _ g fun i r hi => by rw [hi]; rfl
  rw [← e, ← given_all]
  refine Evl.el_lcL (fun _ => true) _ h hx hz hw (fun _ _ _ _ _ => et_yes) (fun i x H1 e1 hi _ => ?_)
  obtain ⟨p, r, rfl, hr, ho⟩ := hR.at_ hi
  show Ev te _ H1 (((rs[i]?).map g).getD .non)
  rw [hr]
  exact he p r H1 e1 (List.mem_of_getElem? hr) (ho.ex e1)
theorem el_rulesT {a : Addr} {xs : List V} {rs : List RuleD} {j : Nat} {vs : List Nat} (g : RuleD → V) (h : Ev tl σ H (.ref a)) (hx : SqT K H a xs) (hR : RulesAt K CR H xs rs) (hz : xs.length ≤ 40000) (hw : ∀ x, wipe ((wipe σ vs).set j (some x)) vs = wipe σ vs)
    (he : ∀ p r H1, Ex H H1 → r ∈ rs → RuleObj K CR H1 p r → Ev te ((wipe σ vs).set j (some (.ref p))) H1 (g r)) : EvL (tLc (iTup K tl) (gName j) tYes te vs) σ H (rs.map g) := by
  have e : (List.range xs.length).map (fun i => ((rs[i]?).map g).getD .non) = rs.map g := range_at rs (paired_len hR) _ g fun i r hi => by rw [hi]; rfl
  rw [← e]
  refine el_lcT _ h hx hz hw (fun i x H1 e1 hi => ?_)
  obtain ⟨p, r, rfl, hr, ho⟩ := hR.at_ hi
  show Ev te _ H1 (((rs[i]?).map g).getD .non)
  rw [hr]
  exact he p r H1 e1 (List.mem_of_getElem? hr) (ho.ex e1)
theorem rd_some {a b : Addr} {Q : VK} (h2 : ∀ x, ((wipe σ [17]).set 17 (some x))[2]? = some (some (.ref a))) (hw : ∀ x, wipe ((wipe σ [17]).set 17 (some x)) [17] = wipe σ [17]) (hd : Deal H a b)
    (q : ∀ L H' xs rs, Kp a b H H' → H' L = some (.lst xs) → xs.length = 6 → DrawnAt H' xs rs → Q (.ref L) H') : tLc (iRng1 (tCons (tC (V.int 6)) tNil)) (gName 17) tYes (tCall spWideRule [] E0 (tCons (tVar 2) tNil)) [17] σ H Q := by
  refine ⟨6, rfl, by decide, by decide, fun L hL => ?_⟩
  obtain ⟨ns, m, ha, hb, hd3⟩ := id hd.ex
  have na : L ≠ a := fun z => by rw [z, ha] at hL; cases hL
  have nb : L ≠ b := fun z => by rw [z, hb] at hL; cases hL
  have up : ∀ {H' : Hp} {o : HO}, Deal H' a b → Deal (upd H' L o) a b := fun {H' o} ⟨ns, m, ha, hb, hd3⟩ => ⟨ns, m, by rw [upd_ne na.symm]; exact ha, by rw [upd_ne nb.symm]; exact hb, hd3⟩
  have kp : ∀ {H' : Hp} {o : HO}, Kp a b H H' → Kp a b H (upd H' L o) := fun {H' o} k x u h1 h2 h3 => by
    rw [upd_ne (ne_of_none h3 hL)]
    exact k x u h1 h2 h3
  refine lc_range (lo := 0) (n := 6) (fun i H' => Kp a b H H' ∧ Deal H' a b ∧ ∃ xs rs, H' L = some (.lst xs) ∧ xs.length = i ∧ DrawnAt H' xs rs) ⟨kp (Kp.refl _ _ _), up hd, [], [], upd_same, rfl, .nil⟩ ?_ ?_
  · rintro i H' hi ⟨k, d, xs, rs, h3, h4, h5⟩
    refine ⟨hw _, ?_⟩
    simp only [tYes, eq_self, if_true]
    refine ⟨_, h2 _, a, b, rfl, d, fun p r H4 ok k4 d4 at4 => ?_⟩
    have h3' := k4 _ _ na nb h3
    exact ⟨xs, h3', by rw [h4]; exact Nat.lt_of_lt_of_le hi (by decide), kp (k.trans k4), up d4, _, rs ++ [r], upd_same, by rw [List.length_append, h4]; rfl, paired_snoc ((h5.kp k4 d).updL h3') ⟨p, rfl, at4.updL h3', ok⟩⟩
  · rintro H' ⟨k, d, xs, rs, h3, h4, h5⟩
    exact q L H' xs rs k h3 h4 h5
theorem rd_made {a : Addr} {xs : List V} {rs : List RuleD} {Q : VK} {a0 a1 a2 a4 a5 a6 a7 a8 a9 a10 a11 a12 a13 a14 a15 a16 a17 : Option V} (hx : SqL K H a xs) (hz : xs.length ≤ 1000) (hR : DrawnAt H xs rs)
    (q : ∀ L H' ys, Ex H H' → H' L = some (.lst ys) → RulesAt K CR H' ys rs → Q (.ref L) H') :
    tLc (iList K (tVar 3)) (gTup K 3 (gCons (gName 14) (gCons (gName 15) (gCons (gName 16) gNil)))) tYes (tR K CR (tCons (tVar 14) (tCons (tCB (rListOf K) (tCons (tVar 15) tNil)) (tCons (tVar 16) tNil)))) [14, 15, 16]
      [a0, a1, a2, some (.ref a), a4, a5, a6, a7, a8, a9, a10, a11, a12, a13, a14, a15, a16, a17] H Q := by
  refine ⟨_, rfl, a, rfl, ⟨xs, hx⟩, fun L hL => ?_⟩
  refine lc_list (xs := xs) (fun i H' => Ex H H' ∧ ∃ ys, H' L = some (.lst ys) ∧ RulesAt K CR H' ys (rs.take i)) ⟨Ex.new hL, [], upd_same, by rw [List.take_zero]; exact .nil⟩ (fun i H' _ p => Evl.ex_l p.1 hx) ?_ ?_
  · rintro i x H' hi ⟨e, ys, h3, h4⟩
    obtain ⟨p, r, rfl, hr, ⟨t, d, h5, h6, h7⟩, ok⟩ := hR.at_ hi
    refine ⟨p, _, rfl, Evl.st_of (e _ _ h5), rfl, _, _, rfl, _, _, rfl, _, _, rfl, rfl, rfl, ?_⟩
    simp only [tYes, eq_self, if_true]
    refine (ev_rule (K := K) (CR := CR) (H := H') (r := r) (Evl.ev_var rfl) (fun H1 e1 Q q => ⟨.ref t, rfl, t, _, rfl, .inr (Evl.st_of (e1 _ _ (e _ _ h6))), fun l hl => q l _ (Ex.new hl) (.inl (Evl.sq_of upd_same))⟩) (EvP.of (p := d) (Evl.ev_var rfl) fun H1 e1 => .inr (Evl.st_of (e1 _ _ (e _ _ h7)))) ok.good) H' (Ex.refl _) _ fun q2 H4 e4 ro => ?_
    have h3' := e4 _ _ h3
    have hn : ys.length < sizeLine := by
      rw [paired_len h4, List.length_take]
      have := (List.getElem?_eq_some_iff.mp hi).1
      exact Nat.lt_of_le_of_lt (Nat.min_le_left _ _) (Nat.lt_of_lt_of_le this (Nat.le_trans hz (by decide)))
    refine ⟨ys, h3', hn, Ex.mut (e.trans e4) hL, _, upd_same, ?_⟩
    rw [List.take_add_one, hr]
    exact paired_snoc ((h4.ex e4).updL h3') ⟨q2, rfl, ro.updL h3'⟩
  · rintro H' ⟨e, ys, h3, h4⟩
    rw [paired_len hR, List.take_length] at h4
    exact q L H' ys e h3 h4
theorem PlanObj.ex {H' : Hp} {p : Addr} {ks : List Str} {xs : List V} (h : PlanObj K CP H p ks xs) (e : Ex H H') : PlanObj K CP H' p ks xs := by
  obtain ⟨dx, a, b, h1, h2, h3⟩ := h
  exact ⟨dx, a, b, e _ _ h1, Evl.ex_t e h2, Evl.ex_t e h3⟩
theorem ev_plan {ta tb : TE} {b : Addr} {ks : List Str} {xs : List V} {rs : List RuleD} (ha : EvP ta σ H (fun a H2 => SqL K H2 a (ks.map V.str) ∨ SqT K H2 a (ks.map V.str))) (hl : ks.length ≤ 1) (hk : ∀ k ∈ ks, k ∈ lettersL) (hb : Ev tb σ H (.ref b)) (hx : SqL K H b xs) (hR : RulesAt K CR H xs rs) (hz : xs.length ≤ 1000) :
    EvP (tMake CP (spPlanInit1 K CR CP) [] E0 (tCons ta (tCons tb tNil))) σ H (fun p H2 => PlanObj K CP H2 p ks xs) := fun H1 e1 Q q => by
  refine ha H1 e1 _ fun a H2 e2 sa => hb H2 (e1.trans e2) _ fun H3 e3 x dx nx ndx ne => ?_
  have e4 : Ex H3 (upd (upd H3 dx (.own x)) x (.ins CP dx [])) := (Ex.new ndx).trans (Ex.new (by rw [upd_ne ne.symm]; exact nx))
  have e14 := ((e1.trans e2).trans e3).trans e4
  exact ⟨x, a, b, dx, ks, xs, rs, rfl, upd_same, exB (e3.trans e4) sa, hl, hk, .inl (Evl.ex_l e14 hx), hR.ex e14, hz, fun H5 k5 ro => ⟨rfl, q x H5 ((e2.trans e3).trans fun c o hc => k5 c o (ne_of_none hc nx) (e4 _ _ hc)) ro⟩⟩
theorem ev_eqS {ta tb : TE} {x y : Str} (ha : Ev ta σ H (.str x)) (hb : Ev tb σ H (.str y)) (hx : PyData.canLay0 (.str x) = true) (hy : PyData.canLay0 (.str y) = true) : Ev (tOp (rEqD K) ta tb) σ H (.bl (decide (x = y))) := by
  have sh : ∀ x : Str, PyData.canLay0 (.str x) = true → SeqAt.shaped (.str x) = true := fun x hx => by
    show (PyData.canLay0 (.str x) && decide ((PyData.str x).depth ≤ 64)) = true
    rw [hx]
    rfl
  refine Evl.ev_op ha hb fun H1 e _ q => ⟨_, _, .str x, .str y, sh x hx, sh y hy, ?_⟩
  rw [show PyData.eqv (.str x) (.str y) = (x == y) from rfl, show (x == y) = decide (x = y) by by_cases h : x = y <;> simp [h]]
  exact q H1 (Ex.refl H1)
end
end Ov


namespace Ov
open PySem PySem.Spec PyProof.Rows L2
open Evl (pss_cut tCut Ex Ev EvT EvL EvA EvU)
/-! ### a class that stands in a local is called -/
section
variable {X : Cx} {CX : CXT} {k i : Nat} {f C : Addr} {fd : FuncData} {ps : List Str} {sp : Sp} {E : XK} {x : Str} {p pos : Pos} {e : Expr} {es : List Expr} {t : TA}
def tMakeV (i : Nat) (C : Addr) (sp : Sp) (E : XK) (t : TA) : TE := fun σ H Q => σ[i]? = some (some (.ref C)) ∧ tMake C sp [] E t σ H Q
theorem pe_makeV (i : Nat) (M : Mk X.K C f) (F : FnOk X.prog X.w X.K X.mg X.base CX k f fd ps sp) (hr : Room (k + 1) X.A) (hb : Binds X.K fd ps []) (hx : Passes CX X E) (ha : PA X (e :: es) t) (hN : X.N[i]? = some x := by rfl)
    (hv : Vis X.env.scope x := by first | exact Or.inl rfl | exact Or.inr (Or.inl rfl) | exact Or.inr (Or.inr rfl)) (hd : (x == ("__debug__" : Str)) = false := by decide) (hcd : (x == ("__classdict__" : Str)) = false := by decide)
    (he : starEach (e :: es) X.env = (false, eval e X.env) :: starEach es X.env := by rfl) (hpl : (backTo pos (starEach es X.env)).any (·.1) = false := by rfl) :
    PE X (.Call (.Name x p) (e :: es) [] pos) (tMakeV i C sp E t) := by
  refine ⟨fun pins s σ H Q I h => ?_⟩
  obtain ⟨h1, h2⟩ := h
  have hp : PE X (.Name x p) (tVar i) := pv i hN hv hd hcd
  refine wpAny_Call_Name_kw (thn (hp.run pins s σ H (fun v H1 => v = .ref C ∧ tMake C sp [] E t σ H1 Q) I ⟨_, h1, rfl, h2⟩) fun v s1 hh => ?_)
  obtain ⟨y, H1, I1, r1, e1, q1⟩ := hh
  subst e1
  obtain rfl : v = Value.ref C := r1
  refine PySem.W.callWith_K (h₀ := X.base) I1.ok.mod.kin M.kp (thn (ha.run pos pins s1 σ H1 _ I1 q1) fun us s2 h3 => ?_) he hpl
  obtain ⟨vs, H2, I2, r, q⟩ := h3
  exact ⟨I2.kIn, run_make M F hr hb .nil hx I2 r q⟩
end
/-! ### a rule read from its text -/
def spSplit (K : PySem.W.Frag) : Sp := fun vs H Q _ => ∃ (g x y : Str), vs = [.str g, .str x, .str y] ∧ (y.length == 0) = false ∧ g.length ≤ 100000 ∧ x.length ≤ 99990 ∧ ∀ p H', Ex H H' → (SqL K H' p ((if g = Str.empty then [] else Txt.split x y).map V.str) ∨ SqT K H' p ((if g = Str.empty then [] else Txt.split x y).map V.str)) → Q (.ref p) H'
theorem truth_str (g : Str) : decide (g ≠ Str.empty) = ((g.length : Int) != 0) := by
  by_cases h : g = Str.empty
  · rw [h]
    rfl
  · have h2 : g.length ≠ 0 := fun z => h (TL.ext_tl (by rw [(TL.len0_tl g).mp z]; rfl))
    rw [decide_eq_true h]
    symm
    simpa using h2
abbrev rPart : V → List V → Hp → VK → Prop := fun x xs H Q => ∃ a b, x = V.str a ∧ xs = [V.str b] ∧ (b.length == 0) = false ∧ a.length ≤ sizeLine ∧ ∀ (p : Addr), H p = none → Q (V.ref p) (upd H p (HO.tup [V.str (Txt.partition a b).fst, V.str (Txt.partition a b).snd.fst, V.str (Txt.partition a b).snd.snd]))
theorem q_part {K : PySem.W.Frag} {σ : L2.St} {H : Hp} {D : Ends} {tz : TS} {n i j k : Nat} {a b x y z : Str} (e : Txt.partition a b = (x, y, z)) (h : σ[n]? = some (some (.str a))) (hb : (b.length == 0) = false) (hz : a.length ≤ sizeLine)
    (c : ∀ H1, Ex H H1 → tz D (((σ.set i (some (.str x))).set j (some (.str y))).set k (some (.str z))) H1) : tSeq (tAsg (tM1 rPart (tVar n) (tC (.str b))) (gTup K 3 (gCons (gName i) (gCons (gName j) (gCons (gName k) gNil))))) tz D σ H := by
  refine ⟨_, h, ⟨_, rfl⟩, a, b, rfl, rfl, hb, hz, fun p np => ⟨p, _, rfl, Evl.st_of upd_same, rfl, _, _, rfl, _, _, rfl, _, _, rfl, rfl, ?_⟩⟩
  rw [e]
  exact c _ (Ex.new np)
section
variable {P : Program} {w : World} {K : PySem.W.Frag} {mg : Str → Option Value} {base : Heap}
abbrev sSplitPart : Stmt := topS 24
theorem scSplitPart : FnScope ["sign", "text", "between"] ["sign", "text", "between"] (defScope sSplitPart) := ⟨rfl, rfl, rfl, by decide +kernel, rfl, by decide +kernel, by decide +kernel⟩
abbrev sRuleRead : Stmt := inClass (topS 25) 1
theorem scRuleRead : FnScope ["cls", "text", "condition", "does", "deeds", "start", "asks", "tests", "on", "_", "kind"] ["cls", "text"] (defScope sRuleRead) := ⟨rfl, rfl, rfl, by decide +kernel, rfl, by decide +kernel, by decide +kernel⟩
theorem ok_split_part {f : Addr} {fd : FuncData} (F : Fun K "split_part" "split_part" sSplitPart f fd) : FnOk P w K mg base CX0 1 f fd ["sign", "text", "between"] (spSplit K) := by
  refine F.ok scSplitPart (fun vs H Q E h => ?_) (fun cdv A outer s H vs Q E hr h => ?_)
  · obtain ⟨g, x, y, rfl, _⟩ := h
    rfl
  · obtain ⟨g, x, y, rfl, hy, hg, hx, q⟩ := h
    refine ⟨_, pss_one (ps_ret (pe_ifExp (pt_truth (pv 0) (by intro _; rfl)) (pe_split (pv 1) (pv 2)) (pe_tup pa_nil))), ?_⟩
    refine ⟨_, rfl, decide (g ≠ Str.empty), ⟨size_of hg, truth_str g⟩, ?_⟩
    by_cases h : g = Str.empty
    · rw [decide_eq_false (fun z => z h)]
      rw [if_pos h] at q
      exact iteF ⟨Nat.zero_le _, fun p np => q p _ (Ex.new np) (.inr (Evl.st_of upd_same))⟩
    · rw [decide_eq_true h]
      rw [if_neg h] at q
      exact iteT ⟨_, rfl, ⟨_, rfl⟩, _, rfl, x, y, rfl, rfl, hy, size_of (by omega), fun p np => q p _ (Ex.new np) (.inl (Evl.sq_of upd_same))⟩
end
end Ov


namespace Ov
open PySem PySem.Spec PyProof.Rows L2
open Evl (pss_cut tCut Ex Ev EvT EvL EvA EvU)
def spRuleReadG (K : PySem.W.Frag) (C : Addr) : Sp := fun vs H Q _ => ∃ (r : RuleD), vs = [.ref C, .str (ruleText r)] ∧ r.Good ∧ ∀ p H', Ex H H' → RuleObj K C H' p r → Q (.ref p) H'
theorem ev_split {K : PySem.W.Frag} {σ : L2.St} {H : Hp} {ta : TA} {g x y : Str} {l : List Str} (h : EvA ta σ H [.str g, .str x, .str y]) (hy : (y.length == 0) = false) (hg : g.length ≤ 100000) (hx : x.length ≤ 99990) (e : (if g = Str.empty then [] else Txt.split x y) = l) :
    EvP (tCall (spSplit K) [] E0 ta) σ H (fun p H2 => SqL K H2 p (l.map V.str) ∨ SqT K H2 p (l.map V.str)) := fun H1 e1 Q q => h H1 e1 _ fun H2 e2 => ⟨g, x, y, rfl, hy, hg, hx, fun p H3 e3 st => q p H3 (e2.trans e3) (by rw [← e]; exact st)⟩
section
variable {P : Program} {w : World} {K : PySem.W.Frag} {mg : Str → Option Value} {base : Heap} {a_LETTERS a_LETTER_TESTS a_LETTER_DEEDS a_ANSWER_TESTS a_ANSWER_DEEDS CR CP : Addr} {tA tN : Tok}
theorem ok_rule_read {f fSp fI : Addr} {fd fdSp fdI : FuncData} (F : Fun K "read" "Rule.read" sRuleRead f fd) (T : TxR K mg a_LETTERS a_LETTER_TESTS a_LETTER_DEEDS a_ANSWER_TESTS a_ANSWER_DEEDS CR tA tN) (D_split_part : Df K mg "split_part" sSplitPart ["sign", "text", "between"] fSp fdSp)
    (mkR : Mk K CR fI) (G_init : FnOk P w K mg base CX0 2 fI fdI ["self", "kind", "tests", "deeds"] (spRuleInit K CR)) (b_init : Binds K fdI ["self", "kind", "tests", "deeds"] []) :
    FnOk P w K mg base CX0 4 f fd ["cls", "text"] (spRuleReadG K CR) := by
  have G_split_part : FnOk P w K mg base CX0 1 fSp fdSp ["sign", "text", "between"] (spSplit K) := ok_split_part D_split_part.F
  refine F.ok scRuleRead (fun vs H Q E h => ?_) (fun cdv A outer s H vs Q E hr h => ?_)
  · obtain ⟨r, rfl, _⟩ := h
    rfl
  · obtain ⟨r, rfl, g, q⟩ := h
    refine ⟨_, pss_cons (ps_asg (pe_partition (pv 1) pe_str) (pg_tup (by rfl) (pgs_cons (pg_name (i := 2) scRuleRead.nd rfl (Or.inl rfl)) (pgs_cons (pg_name (i := 3) scRuleRead.nd rfl (Or.inl rfl)) (pgs_cons (pg_name (i := 4) scRuleRead.nd rfl (Or.inl rfl)) pgs_nil)))))
      (pss_cons (ps_asg (pe_partition (pv 2) pe_str) (pg_tup (by rfl) (pgs_cons (pg_name (i := 5) scRuleRead.nd rfl (Or.inl rfl)) (pgs_cons (pg_name (i := 6) scRuleRead.nd rfl (Or.inl rfl)) (pgs_cons (pg_name (i := 7) scRuleRead.nd rfl (Or.inl rfl)) pgs_nil)))))
      (pss_cons (ps_asg (pe_partition (pv 5) pe_str) (pg_tup (by rfl) (pgs_cons (pg_name (i := 8) scRuleRead.nd rfl (Or.inl rfl)) (pgs_cons (pg_name (i := 9) scRuleRead.nd rfl (Or.inl rfl)) (pgs_cons (pg_name (i := 10) scRuleRead.nd rfl (Or.inl rfl)) pgs_nil)))))
      (pss_cons (ps_if (pt_cmpR op_ne (pv 8) pe_str (nomark _)) (pss_one ps_never) pss_nil)
      (pss_one (ps_try_thru0 (pss_one (ps_ret (pe_makeV (sp := spRuleInit K CR) (E := E0) 0 mkR G_init (hr.mono (by decide)) b_init pass0 (pa_cons (pv 10) (pa_cons (pe_call G_split_part (hr.mono (by decide)) rfl D_split_part.g D_split_part.F.kp D_split_part.b .nil pass0 (pa_cons (pv 6) (pa_cons (pv 7) (pa_cons pe_str pa_nil)))) (pa_cons (pe_call G_split_part (hr.mono (by decide)) rfl D_split_part.g D_split_part.F.kp D_split_part.b .nil pass0 (pa_cons (pv 3) (pa_cons (pv 4) (pa_cons pe_str pa_nil)))) pa_nil))))))))))), ?_⟩
    have lk := kinds_len g.k
    have lt := tText_len (fun x hx => testsNot_len (g.ts x hx)) g.nt
    have ld := dText_len (fun x hx => deedsOf_len (g.ds x hx)) g.nd
    have jt := join_small (sep := " and ") (fun x hx => testsNot_len (g.ts x hx)) (by decide) g.nt
    have jd := join_small (sep := " then ") (fun x hx => deedsOf_len (g.ds x hx)) (by decide) g.nd
    have n3 : (Str.ofString "on ").length = 3 := by decide +kernel
    have la : (("on " : Str) ++ r.k ++ tText r.ts).length ≤ 40000 := by rw [Str.length_append, Str.length_append]; omega
    have lb : (("on " : Str) ++ r.k).length ≤ 40000 := by rw [Str.length_append]; omega
    have lr : (ruleText r).length ≤ 100000 := by
      unfold ruleText
      rw [Str.length_append]
      omega
    refine q_part (read1 g) rfl (by decide +kernel) (size_of (by omega)) fun H1 e1 => ?_
    refine q_part (read2 g) rfl (by decide +kernel) (size_of (by omega)) fun H2 e2 => ?_
    refine q_part (read3 r.k) rfl (by decide +kernel) (size_of (by omega)) fun H3 e3 => ?_
    refine Evl.q_when (b := false) (Evl.et_is (Evl.et_test (Evl.ev_op (Evl.ev_var rfl) Evl.ev_c (Evl.rv_ne rfl))) (by decide +kernel)) (fun z => nomatch z) (fun _ H4 e4 => ?_)
    have e14 := ((e1.trans e2).trans e3).trans e4
    have et : (if (if r.ts = [] then ("" : Str) else " if ") = Str.empty then [] else Txt.split (if r.ts = [] then ("" : Str) else Str.join " and " r.ts) " and ") = r.ts := by
      by_cases h : r.ts = []
      · rw [if_pos h, if_pos (by decide +kernel)]
        exact h.symm
      · rw [if_neg h, if_neg (by decide +kernel), if_neg h, read4 g h]
    have ed : (if (if r.ds = [] then ("" : Str) else " do ") = Str.empty then [] else Txt.split (if r.ds = [] then ("" : Str) else Str.join " then " r.ds) " then ") = r.ds := by
      by_cases h : r.ds = []
      · rw [if_pos h, if_pos (by decide +kernel)]
        exact h.symm
      · rw [if_neg h, if_neg (by decide +kernel), if_neg h, read5 g h]
    have z1 : (if r.ts = [] then ("" : Str) else " if ").length ≤ 100000 := by split <;> decide +kernel
    have z2 : (if r.ds = [] then ("" : Str) else " do ").length ≤ 100000 := by split <;> decide +kernel
    have z3 : (if r.ts = [] then ("" : Str) else Str.join " and " r.ts).length ≤ 99990 := by
      split
      · decide +kernel
      · have := jt.2
        omega
    have z4 : (if r.ds = [] then ("" : Str) else Str.join " then " r.ds).length ≤ 99990 := by
      split
      · decide +kernel
      · have := jd.2
        omega
    refine ⟨rfl, ev_rule (r := r) (Evl.ev_var rfl) (ev_split (Evl.ea_cons (Evl.ev_var rfl) (Evl.ea_cons (Evl.ev_var rfl) (Evl.ea_cons Evl.ev_c Evl.ea_nil))) (by decide +kernel) z1 z3 et) (ev_split (Evl.ea_cons (Evl.ev_var rfl) (Evl.ea_cons (Evl.ev_var rfl) (Evl.ea_cons Evl.ev_c Evl.ea_nil))) (by decide +kernel) z2 z4 ed) g H4 (Ex.refl _) _ fun p H5 e5 ro => q p H5 (e14.trans e5) ro⟩
end
end Ov


namespace Ov
open PySem PySem.Spec PyProof.Rows L2
/-! ### a, *b = a list -/
section
open PySem.W PySem.Calls
variable {prog : Program} {w : World} {A : Around} {E : Value → Shared → Prop} {s : Shared}
theorem unpack_first {l : Addr} {y : Value} {ys : List Value} {Q : List Value → Shared → Prop} (hl : s.heap.IsList l (y :: ys).toArray) (hh : A.handled = none) (hz : ys.length ≤ 16000)
    (h : ∀ (h2 : Heap) (tk : Nat), (∀ b u, s.heap.get? b = some u → h2.get? b = some u) → Q [y, .ref h2.objs.size] { s with heap := h2.push { cls := .type "list", data := .seq ys.toArray }, toks := tk }) : wpAny (model prog w) A (unpackItems (.ref l) 2 (some 1)) Q E s := by
  have hlt : l ≠ s.heap.objs.size := by
    obtain ⟨o, ho, _⟩ := hl
    exact Nat.ne_of_lt (Heap.lt_size ho)
  have sz : (y :: ys).toArray.size = ys.length + 1 := by simp
  unfold unpackItems notIterableAtAll
  refine wpAny_bind (wpAny_bind (wpAny_specialOf hl.typeIs slot_list_iter.lookup (wpAny_pure ?_)))
  simp only [Bool.false_eq_true, if_false]
  refine wpAny_bind (wpAny_holding (wpAny_pyIter_list hl ?_))
  refine wpAny_bind (wpAny_holding (kun_draw hlt 1 0 _ _ ⟨_, Heap.get?_push_size _ rfl, rfl, rfl⟩ (hl.push _) (by omega) fun h₁ hit₁ hs₁ => ?_))
  have hl₁ : h₁.IsList l (y :: ys).toArray := (hl.push _).extBut hs₁.extBut hlt
  rw [Nat.zero_add] at hit₁
  obtain ⟨oi, hoi, _⟩ := id hit₁
  obtain ⟨ol, hol, _⟩ := id hl₁
  show wpAny _ _ (if [y].length < 1 then _ else _) _ _ _
  rw [if_neg (by simp)]
  refine wpAny_bind (wpAny_holding (kun_collect (s := { s with heap := h₁ }) (T := "list_iterator") (.inr (.inr (.inl rfl))) (Walks.list (A := A.in1) hh s.heap.objs.size l hlt (y :: ys).toArray) (fun j u st => st.1.typeIs) (k := 1) (by omega) ⟨hit₁, hl₁⟩ (Heap.lt_size hoi) (Heap.lt_size hol) (fun h₂ tk hk => ?_) (by rw [sizeLine_eq]; omega)))
  have he : ∀ b o, b ≠ s.heap.objs.size → s.heap.get? b = some o → h₂.get? b = some o := fun b o hb e => hk b o hb (hs₁.extBut b o hb (Heap.get?_push_of_some _ e))
  have ke : ∀ b o, s.heap.get? b = some o → h₂.get? b = some o := fun b o e => he b o (Nat.ne_of_lt (Heap.lt_size e)) e
  show wpAny _ _ (if ys.length < 0 then _ else _) _ _ _
  rw [if_neg (by omega)]
  show wpAny _ _ (newList (ys.take (ys.length - 0)) >>= fun d => pure ([y] ++ [d] ++ ys.drop (ys.length - 0))) _ _ _
  rw [Nat.sub_zero, List.take_length, List.drop_length]
  exact wpAny_bind (wpAny_newList (wpAny_pure (h _ tk ke)) (by rw [sizeLine_eq]; omega))
end
open Evl (Ex)
/-- first, *rest = a list -/
def gFirst (K : PySem.W.Frag) (t : TGs) : TG := fun v σ H Q => ∃ a x xs, v = .ref a ∧ SqL K H a (x :: xs) ∧ xs.length ≤ 16000 ∧ ∀ p, H p = none → t [x, .ref p] σ (upd H p (.lst xs)) Q
theorem pg_first {X : Cx} {pos : Pos} {es : List Expr} {k : Nat} {t : TGs} (hc : X.calm = true) (h : PGs X es t)
    (hn : (assignEach es X.env).length = 2 := by rfl) (hst : (assignEach es X.env).findIdx? (·.1) = some 1 := by rfl) : PG X (.Tuple es k pos) (gFirst X.K t) := by
  refine ⟨fun pins s σ H v u Q I r hw => ?_⟩
  obtain ⟨a, x, xs, e1, hq, hl, hw⟩ := hw
  subst e1
  cases r
  obtain ⟨its, rv, ⟨o, m, e, c, d, q⟩, hz⟩ := I.list hq
  cases rv with
  | @cons _ y _ ys rx rs =>
    rw [PyProof.Rows.assign_Tuple]
    refine wpAny_bind (wpAny_standAt ?_)
    unfold unpack
    rw [hn, hst]
    refine wpAny_bind (wpAny_holding (unpack_first ⟨o, e, c, m, q⟩ (I.ok.hd hc) (by rw [← rs.length]; exact hl) fun h2 tk ke => ?_))
    have nH : H h2.objs.size = none := (I.hok.kept ke).fresh (Nat.le_refl _)
    have nh : s.heap.get? h2.objs.size = none := by
      cases g : s.heap.get? h2.objs.size with
      | none => rfl
      | some u => exact absurd (Heap.lt_size (ke _ _ g)) (Nat.lt_irrefl _)
    have I1 : Inv X pins σ (upd H h2.objs.size (.lst xs)) { s with heap := h2.push { cls := .type "list", data := .seq ys.toArray }, toks := tk } :=
      I.laidN (fun b u g => Heap.get?_push_of_some _ (ke b u g)) nh nH ⟨by simp only [List.length_cons] at hz; omega, ys, 0, rs, Heap.get?_push_size _ rfl⟩
    exact h.run pins _ σ _ _ _ Q I1 (.cons rx (.cons (a := V.ref h2.objs.size) rfl .nil)) (hw _ nH)
/-- .. its last target, starred -/
theorem pgs_star {X : Cx} {e : Expr} {pos : Pos} {t : TG} (h : PG X e t) : PGs X [.Starred e pos] (gCons t gNil) := by
  refine ⟨fun pins s σ H vs us Q I r hw => ?_⟩
  obtain ⟨v, vr, e1, hw⟩ := hw
  subst e1
  cases r with
  | cons r rr =>
    refine assignInOrder_cons (thn (h.run pins s σ H _ _ _ I r hw) fun _ s1 ⟨σ1, H1, I1, q1⟩ => ?_)
    obtain ⟨rfl, q1⟩ := q1
    cases rr
    exact assignInOrder_nil ⟨σ1, H1, I1, q1⟩
end Ov


namespace Ov
open PySem PySem.Spec PyProof.Rows L2
open Evl (Ex)
/-! ### read_rule of a good rule's text -/
abbrev sReadRule : Stmt := topS 50
theorem scReadRule : FnScope ["line", "at"] ["line", "at"] (defScope sReadRule) := ⟨rfl, rfl, rfl, by decide +kernel, rfl, by decide +kernel, by decide +kernel⟩
def spReadRuleG (K : PySem.W.Frag) (C : Addr) : Sp := fun vs H Q _ => ∃ (r : RuleD) (n : Int), vs = [.str (ruleText r), .int n] ∧ r.Good ∧ ∀ p H', Ex H H' → RuleObj K C H' p r → Q (.ref p) H'
section
variable {P : Program} {w : World} {K : PySem.W.Frag} {mg : Str → Option Value} {base : Heap} {CR pR gR : Addr} {mc : Value}
theorem ok_read_rule {f : Addr} {fd : FuncData} (F : Fun K "read_rule" "read_rule" sReadRule f fd) (g_Rule : mg "Rule" = some (.ref CR)) (rd : ClX.CRead K CR mc) (cm : ClX.CMet K CR mc "read" pR gR)
    (G_rd : FnR P w K mg base CX0 4 gR (spRuleReadG K CR)) :
    FnOk P w K mg base CX0 5 f fd ["line", "at"] (spReadRuleG K CR) := by
  refine F.ok scReadRule (fun vs H Q E h => ?_) (fun cdv A outer s H vs Q E hr h => ?_)
  · obtain ⟨r, n, rfl, _⟩ := h
    rfl
  · obtain ⟨r, n, rfl, g, q⟩ := h
    refine ⟨_, pss_one (ps_try_thru0 (pss_one (ps_ret (ClX.pe_cmeth (E := E0) (pe_glob (v := .ref CR) rfl g_Rule rfl) rd cm G_rd (hr.mono (by decide)) pass0 (pa_cons (pv 0) pa_nil))))), ?_⟩
    exact ⟨rfl, _, rfl, r, rfl, g, fun p H' e ro => q p H' e ro⟩
end
end Ov


namespace Ov
open PySem PySem.Spec PyProof.Rows L2
/-! ### enumerate(list, start=n): the library's walk from a count, as a turn of the layer -/
/-- a list's items at each turn, counted from c -/
def Itn (K : PySem.W.Frag) (a : Addr) (c : Int) : It where
  go i H := ∃ xs x, SqL K H a xs ∧ xs[i]? = some x
  yld i H v H' := ∃ p x, v = .ref p ∧ H p = none ∧ H' = upd H p (.tup [.int (c + (i : Int)), x]) ∧ ∀ xs, SqL K H a xs → xs[i]? = some x
  stop i H := ∃ xs, SqL K H a xs ∧ xs.length = i
/-- how the counting iterator stands -/
def CntAt (a e it : Addr) (c : Int) (i : Nat) (h : Heap) : Prop := ((∃ old, IsEnum h e it (c + (i : Int)) old) ∧ h.IsListIter it a i) ∧ e ≠ it ∧ a ≠ it ∧ a ≠ e
theorem CntAt.stands {a e it : Addr} {c : Int} {i : Nat} {h : Heap} {its : List Value} (st : CntAt a e it c i h) (l : h.IsList a its.toArray) : (∃ old, IsEnum h e it (c + (i : Int)) old) ∧ h.IsListIter it a i ∧ h.IsList a its.toArray :=
  ⟨st.1.1, st.1.2, l⟩
theorem turn_count {P : Program} {w : World} {K : PySem.W.Frag} {elts : List Expr} {kk : Nat} {tpos : Pos} (a e it : Addr) (c : Int) : Turn P w K (.Tuple elts kk tpos) (Itn K a c) [e, it] e (CntAt a e it c) where
  mem := List.mem_cons_self
  obj := by
    rintro i h ⟨⟨⟨old, he⟩, o, ho, _, hd⟩, _⟩ b hb
    rcases List.mem_cons.mp hb with rfl | hb
    · exact ⟨_, he, fun v q => nomatch q⟩
    · obtain rfl := List.mem_singleton.mp hb
      exact ⟨o, ho, fun v q => by rw [hd] at q; cases q⟩
  keep := by
    rintro i h h' ⟨⟨⟨old, he⟩, hi⟩, r⟩ k
    exact ⟨⟨⟨old, k e (by simp) _ he⟩, hi.at fun o q => k it (by simp) o q⟩, r⟩
  item := by
    rintro X rfl rfl rfl hc i pins s σ H E I hf st ⟨xs, x, hq, hx⟩
    obtain ⟨its, rv, p, hz⟩ := I.list hq
    obtain ⟨u, hu, ru⟩ := rv.get hx
    have hl : s.heap.IsList a its.toArray := p.isList
    obtain ⟨n1, n2, n3⟩ := st.2
    have W := WalksT.enumFrom (A := X.A) c (Draws.list (prog := X.prog) (w := X.w) (A := X.A.in1) (I.ok.hd hc) it a n2 its.toArray) e n1 (by simp [n1, n3.symm]) (by simp)
    refine W.item i s _ _ (by simpa using (List.getElem?_eq_some_iff.mp hu).1) (st.stands hl) fun T vals h1 tk hv hT tup mid k1 => ?_
    obtain ⟨t, u', hu', rfl⟩ := hv
    obtain rfl : u = u' := by
      rw [List.getElem?_toArray, hu] at hu'
      exact Option.some.inj hu'
    have hw := W.apart i T h1 mid
    refine ⟨_, rfl, W.go elts kk tpos i T { s with heap := h1, toks := tk } _ _ mid fun h2 st2 k2 => ?_⟩
    have new : ObjOk X.prog X.w (upd H T (.tup [.int (c + (i : Int)), x])) h2 T (.tup [.int (c + (i : Int)), x]) := by
      obtain ⟨o, g, cl, n, d⟩ := tup
      exact ⟨by show 2 ≤ sizeLine; decide, [.int (c + (i : Int)) t, u], .cons ⟨_, rfl⟩ (.cons ru .nil), ⟨o, k2 T o hw g, cl, n, d⟩⟩
    refine ⟨.ref T, _, I.turnedNew (t' := tk) (fun b o hb q => k2 b o hb (k1 b o hb q)) hf hT new, rfl, ⟨T, x, rfl, I.hok.fresh hT, rfl, fun ys hy => by rw [I.list_inj hy hq]; exact hx⟩, ⟨⟨st2.1, st2.2.1⟩, n1, n2, n3⟩, fun b hb => ?_⟩
    have hb1 : b ≠ T := fun z => hw (by rw [← z]; exact hb)
    rw [upd_ne hb1]
    exact (hf b hb).1
  done := by
    rintro X rfl rfl rfl hc i pins s σ H E I hf st ⟨xs, hq, hx⟩
    obtain ⟨its, rv, p, hz⟩ := I.list hq
    obtain ⟨n1, n2, n3⟩ := st.2
    have W := WalksT.enumFrom (A := X.A) c (Draws.list (prog := X.prog) (w := X.w) (A := X.A.in1) (I.ok.hd hc) it a n2 its.toArray) e n1 (by simp [n1, n3.symm]) (by simp)
    have e : its.toArray.size = i := by simp [← hx, rv.length]
    refine W.done s _ _ (by rw [e]; exact st.stands p.isList) fun h1 tk k1 => ⟨rfl, I.turnedL (ch := [_, _]) k1 hf⟩
  self := by
    rintro A i s Q E ⟨⟨⟨old, he⟩, _⟩, _⟩ h
    exact wpAny_pyIter_enum he h
/-- enumerate(a list, start=c) -/
def iCount (K : PySem.W.Frag) (ta tk : TA) : TI := fun σ H R => ta σ H fun vs H1 => tk σ H1 fun ks H2 => ∃ (a : Addr) (xs : List V) (c : Int), vs = [.ref a] ∧ ks = [.int c] ∧ (-1000 ≤ c ∧ c ≤ 1000) ∧ SqL K H2 a xs ∧ R (Itn K a c) H2
theorem pi_count {X : Cx} {e : Expr} {kws : List Keyword} {ta tk : TA} {p pos tpos : Pos} {elts : List Expr} {kk : Nat} (hg : Gl X "enumerate") (hm : X.mg "enumerate" = none) (ha : PA X [e] ta) (hk : PK X kws tk)
    (hks : (backToKw pos (keywordEach kws X.env)).filterMap (·.1) = [Str.ofString "start"] := by rfl) (hall : (backToKw pos (keywordEach kws X.env)).all (·.1.isSome) = true := by rfl) (hs : starEach [e] X.env = (false, eval e X.env) :: starEach [] X.env := by rfl)
    (hpl : ((backTo pos (starEach [e] X.env)).any (·.1) || (backToKw pos (keywordEach kws X.env)).any (·.1.isNone)) = false := by rfl) : PI X (.Tuple elts kk tpos) (.Call (.Name "enumerate" p) [e] kws pos) (iCount X.K ta tk) := by
  refine ⟨fun pins s σ H R I h => ?_⟩
  refine wpAny_Call_Name_kw (ld_blt I hg hm boot_enumerate ?_)
  refine PySem.W.callWith_of (P := fun _ => True) hpl (fun h _ => ⟨.machine, .inr (.inl rfl), PySem.W.Looks.of_pure rfl⟩) (PyProof.Rows.evalArgs_kw2 hall (thn (ha.run pos pins s σ H _ I h) fun us s1 ⟨vs, H1, I1, r1, q1⟩ => ?_) hs)
  refine thn (hk.run pos pins s1 σ H1 _ I1 q1) fun ws s2 ⟨zs, H2, I2, rz, q2⟩ => ⟨trivial, ?_⟩
  obtain ⟨a, xs, c, ev, ez, ⟨c0, c1⟩, hq, q⟩ := q2
  subst ev ez
  cases r1 with
  | cons r rr =>
    cases rr
    cases r
    cases rz with
    | cons z zz =>
      cases zz
      obtain ⟨t, rfl⟩ := z
      obtain ⟨its, rv, pl, hz⟩ := I2.list hq
      have hlt : a < s2.heap.objs.size := by
        obtain ⟨o, e, _⟩ := pl.isList
        exact Heap.lt_size e
      rw [hks]
      refine enum_begins_start (begins_list a its.toArray) pl.isList (by omega) (by omega) fun h1 he hit hsz k => wpAny_pyIter_enum he ?_
      have I3 : Inv X pins σ H2 { s2 with heap := h1 } := I2.kept (t' := s2.toks) k
      refine ⟨s2.heap.objs.size + 1, [s2.heap.objs.size + 1, s2.heap.objs.size], _, _, H2, rfl, I3, turn_count a (s2.heap.objs.size + 1) s2.heap.objs.size c, ⟨⟨⟨.none, by simpa using he⟩, ⟨_, hit, rfl, rfl⟩⟩, Nat.succ_ne_self _, Nat.ne_of_lt hlt, Nat.ne_of_lt (Nat.lt_succ_of_lt hlt)⟩, fun b hb => ?_, q⟩
      have hle : s2.heap.objs.size ≤ b := by
        rcases List.mem_cons.mp hb with z | z
        · rw [z]; exact Nat.le_add_right _ _
        · rw [List.mem_singleton.mp z]; exact Nat.le_refl _
      exact I2.fpOk hle (I2.hok.fresh hle)
/-- .. a walk: pairs of the count and the item -/
theorem walk_count {K : PySem.W.Frag} {a : Addr} {xs : List V} {c : Int} : Walk (Itn K a c) xs.length (fun H => SqL K H a xs) (YPair (fun i => some (.int (c + (i : Int)))) (fun i => xs[i]?)) where
  goes _ _ hi h := ⟨xs, _, h, List.getElem?_eq_getElem hi⟩
  stops _ h := ⟨xs, h, rfl⟩
  yields := by
    rintro i H v H' _ h ⟨p, x, rfl, hp, rfl, f⟩
    exact ⟨p, _, x, rfl, hp, rfl, rfl, f xs h⟩
end Ov


namespace Ov
open PySem PySem.Spec PyProof.Rows L2
open Evl (pss_cut tCut Ex Ev EvT EvL EvA EvU)
/-! ### the lines of a plan's text read -/
section
variable {K : PySem.W.Frag} {CR : Addr} {H : Hp}
/-- [read_rule(line, at) for at, line in enumerate(lines, start=1)] over good rules' texts -/
theorem rd_lines {a : Addr} {rs : List RuleD} {Q : VK} {a0 a1 a2 a4 a5 a6 a7 a8 : Option V} (hx : SqL K H a (rs.map fun r => V.str (ruleText r))) (hz : rs.length ≤ 1000) (g : ∀ r ∈ rs, r.Good)
    (q : ∀ L H' ys, Ex H H' → H' L = some (.lst ys) → RulesAt K CR H' ys rs → Q (.ref L) H') :
    tLc (iCount K (tCons (tVar 3) tNil) (tCons (tC (.int 1)) tNil)) (gTup K 2 (gCons (gName 7) (gCons (gName 8) gNil))) tYes (tCall (spReadRuleG K CR) [] E0 (tCons (tVar 8) (tCons (tVar 7) tNil))) [7, 8]
      [a0, a1, a2, some (.ref a), a4, a5, a6, a7, a8] H Q := by
  refine ⟨_, rfl, a, _, 1, rfl, rfl, by decide, hx, fun L hL => ?_⟩
  refine lc_it (walk_count (c := 1)) (fun i H' => Ex H H' ∧ ∃ ys, H' L = some (.lst ys) ∧ RulesAt K CR H' ys (rs.take i)) ⟨Ex.new hL, [], upd_same, by rw [List.take_zero]; exact .nil⟩ (fun i H' _ p => Evl.ex_l p.1 hx) ?_ ?_
  · rintro i x H1 H2 hi ⟨e, ys, h3, h4⟩ ⟨p, n, v, rfl, hp, rfl, en, ev⟩
    obtain rfl := Option.some.inj en
    replace ev : (rs.map fun r => V.str (ruleText r))[i]? = some v := ev
    rw [List.getElem?_map] at ev
    obtain ⟨r, hr, rfl⟩ := Option.map_eq_some_iff.mp ev
    refine ⟨p, _, rfl, Evl.st_of upd_same, rfl, _, _, rfl, _, _, rfl, rfl, rfl, ?_⟩
    simp only [tYes, eq_self, if_true]
    refine ⟨_, rfl, _, rfl, r, _, rfl, g r (List.mem_of_getElem? hr), fun o H4 e4 ro => ?_⟩
    have e14 := (Ex.new hp).trans e4
    have h3' := e14 _ _ h3
    have hn : ys.length < sizeLine := by
      rw [paired_len h4, List.length_take]
      have := (List.getElem?_eq_some_iff.mp hr).1
      exact Nat.lt_of_le_of_lt (Nat.min_le_left _ _) (Nat.lt_of_lt_of_le this (Nat.le_trans hz (by decide)))
    refine ⟨ys, h3', hn, Ex.mut (e.trans e14) hL, _, upd_same, ?_⟩
    rw [List.take_add_one, hr]
    exact paired_snoc ((h4.ex e14).updL h3') ⟨o, rfl, ro.updL h3'⟩
  · rintro H' ⟨e, ys, h3, h4⟩
    rw [List.length_map, List.take_length] at h4
    exact q L H' ys e h3 h4
end
end Ov


namespace Ov
open PySem PySem.Spec PyProof.Rows L2
open Evl (pss_cut tCut Ex Ev EvT EvL EvA EvU)
/-! ### Plan.read of a plan's text -/
abbrev sPlanRead : Stmt := inClass (topS 51) 1
theorem scPlanRead : FnScope ["cls", "text", "first", "lines", "word", "raises", "rules", "at", "line"] ["cls", "text"] (defScope sPlanRead) := ⟨rfl, rfl, rfl, by decide +kernel, rfl, by decide +kernel, by decide +kernel⟩
def spAreRaisesG (K : PySem.W.Frag) : Sp := fun vs H Q _ => ∃ (a : Addr) (ks : List Str), vs = [.ref a] ∧ (SqL K H a (ks.map V.str) ∨ SqT K H a (ks.map V.str)) ∧ ks.length ≤ 4 ∧ ks.Nodup ∧ (∀ k ∈ ks, k ∈ lettersL) ∧ ∀ H', Ex H H' → Q (.bl true) H'
/-- so ks ys: ys is ks sorted -/
def spPlanInitG (K : PySem.W.Frag) (CR CP : Addr) (so : List Str → List Str → Prop) : Sp := fun vs H Q _ => ∃ (p a b dx : Addr) (ks : List Str) (xs : List V) (rs : List RuleD), vs = [.ref p, .ref a, .ref b] ∧ H p = some (.ins CP dx []) ∧ (SqL K H a (ks.map V.str) ∨ SqT K H a (ks.map V.str)) ∧ ks.length ≤ 4 ∧ ks.Nodup ∧ (∀ k ∈ ks, k ∈ lettersL) ∧
  (SqL K H b xs ∨ SqT K H b xs) ∧ RulesAt K CR H xs rs ∧ xs.length ≤ 1000 ∧ ∀ H' ys, so ks ys → (∀ c o, c ≠ p → H c = some o → H' c = some o) → PlanObj K CP H' p ys xs → Q .non H'
def spPlanReadG (K : PySem.W.Frag) (CR CP : Addr) (so : List Str → List Str → Prop) : Sp := fun vs H Q _ => ∃ (text first : Str) (ks : List Str) (rs : List RuleD), vs = [.ref CP, .str text] ∧ Txt.split text "\n" = first :: rs.map ruleText ∧ Txt.split first " " = ("raise" : Str) :: ks ∧ text.length ≤ 900000 ∧ first.length ≤ 900000 ∧ rs.length ≤ 1000 ∧ (∀ r ∈ rs, r.Good) ∧ ks.length ≤ 4 ∧ ks.Nodup ∧ (∀ k ∈ ks, k ∈ lettersL) ∧
  ∀ p H' ys xs, so ks ys → Ex H H' → PlanObj K CP H' p ys xs → RulesAt K CR H' xs rs → Q (.ref p) H'
theorem q_put {te : TE} {g : TG} {tz : TS} {D : Ends} {σ : L2.St} {H : Hp} (h : te σ H fun x H1 => g x σ H1 (tz D)) : tSeq (tAsg te g) tz D σ H := h
/-- first, *rest = text.split(sep) -/
theorem q_first {K : PySem.W.Frag} {σ : L2.St} {H : Hp} {D : Ends} {tz : TS} {n i j : Nat} {a b y : Str} {ys : List Str} (e : Txt.split a b = y :: ys) (h : σ[n]? = some (some (.str a))) (hb : (b.length == 0) = false) (hz : a.length ≤ 900000) (hy : ys.length ≤ 16000)
    (c : ∀ p H1, Ex H H1 → H1 p = some (.lst (ys.map V.str)) → tz D ((σ.set i (some (.str y))).set j (some (.ref p))) H1) :
    tSeq (tAsg (tM1 (fun x xs H Q => ∃ a b, x = .str a ∧ xs = [.str b] ∧ (b.length == 0) = false ∧ a.length + 2 ≤ sizeLine ∧ rNewStrs (Txt.split a b) H Q) (tVar n) (tC (.str b))) (gFirst K (gCons (gName i) (gCons (gName j) gNil)))) tz D σ H := by
  refine ⟨_, h, ⟨_, rfl⟩, a, b, rfl, rfl, hb, by rw [sizeLine_eq]; omega, fun p np => ⟨p, .str y, ys.map V.str, rfl, .inl (.inl ?_), by rw [List.length_map]; exact hy, fun p2 np2 => ⟨_, _, rfl, _, _, rfl, rfl, ?_⟩⟩⟩
  · rw [e]
    exact upd_same
  · exact c p2 _ ((Ex.new np).trans (Ex.new np2)) upd_same
section
variable {P : Program} {w : World} {K : PySem.W.Frag} {mg : Str → Option Value} {base : Heap} {CR CP : Addr} {so : List Str → List Str → Prop}
theorem ok_plan_read {f fI fAR fRR : Addr} {fd fdI fdAR fdRR : FuncData} (F : Fun K "read" "Plan.read" sPlanRead f fd) (n_enumerate : mg "enumerate" = none) (D_are_raises : Df K mg "are_raises" sAreRaises ["value"] fAR fdAR) (D_read_rule : Df K mg "read_rule" sReadRule ["line", "at"] fRR fdRR)
    (G_are_raises : FnOk P w K mg base CX0 2 fAR fdAR ["value"] (spAreRaisesG K)) (G_read_rule : FnOk P w K mg base CX0 5 fRR fdRR ["line", "at"] (spReadRuleG K CR)) (mkP : Mk K CP fI) (G_init : FnOk P w K mg base CX0 3 fI fdI ["self", "raises", "rules"] (spPlanInitG K CR CP so)) (b_init : Binds K fdI ["self", "raises", "rules"] []) :
    FnOk P w K mg base CX0 6 f fd ["cls", "text"] (spPlanReadG K CR CP so) := by
  refine F.ok scPlanRead (fun vs H Q E h => ?_) (fun cdv A outer s H vs Q E hr h => ?_)
  · obtain ⟨text, first, ks, rs, rfl, _⟩ := h
    rfl
  · obtain ⟨text, first, ks, rs, rfl, h1, h2, l1, l2, l3, g, k1, k2, k3, q⟩ := h
    refine ⟨_, pss_cons (ps_asg (pe_split (pv 1) pe_str) (pg_first (by rfl) (pgs_cons (pg_name (i := 2) scPlanRead.nd rfl (Or.inl rfl)) (pgs_star (pg_name (i := 3) scPlanRead.nd rfl (Or.inl rfl))))))
      (pss_cons (ps_asg (pe_split (pv 2) pe_str) (pg_first (by rfl) (pgs_cons (pg_name (i := 4) scPlanRead.nd rfl (Or.inl rfl)) (pgs_star (pg_name (i := 5) scPlanRead.nd rfl (Or.inl rfl))))))
      (pss_cons (ps_if (PW.pt (pw_or (pt_cmpR op_ne (pv 4) pe_str (nomark _)) (pw_or1 (pt_not (pt_val (pe_call G_are_raises (hr.mono (by decide)) rfl D_are_raises.g D_are_raises.F.kp D_are_raises.b .nil pass0 (pa_cons (pv 5) pa_nil))))))) (pss_one ps_never) pss_nil)
      (pss_cons (ps_setLc (i := 6) (own := [("at", 7), ("line", 8)]) (tt := tYes) rfl scPlanRead.nd rfl rfl (sw_true rfl rfl rfl (by decide +kernel)) (pi_count (by rfl) n_enumerate (pa_cons (pv 3) pa_nil) (pk_cons pe_int pk_nil)) (blkOk_by (own := [("at", 7), ("line", 8)]) (N := ["cls", "text", "first", "lines", "word", "raises", "rules", "at", "line"]) (sc := defScope sPlanRead) (by decide +kernel)) (g := gTup K 2 (gCons (gName 7) (gCons (gName 8) gNil))) (fun _ _ _ _ _ => (pg_tup (by rfl) (pgs_cons (pg_name (i := 7) scPlanRead.nd rfl (Or.inl rfl)) (pgs_cons (pg_name (i := 8) scPlanRead.nd rfl (Or.inl rfl)) pgs_nil)))) (fun _ _ _ _ _ => pts_nil) (fun _ _ _ _ _ => (pe_call (E := E0) G_read_rule (hr.mono (by decide)) rfl D_read_rule.g D_read_rule.F.kp D_read_rule.b .nil pass0 (pa_cons (pv 8) (pa_cons (pv 7) pa_nil)))))
      (pss_one (ps_ret (pe_makeV (sp := spPlanInitG K CR CP so) (E := E0) 0 mkP G_init (hr.mono (by decide)) b_init pass0 (pa_cons (pv 5) (pa_cons (pv 6) pa_nil)))))))), ?_⟩
    refine q_first h1 rfl (by decide +kernel) l1 (by rw [List.length_map]; omega) fun pL H1 e1 s1 => ?_
    refine q_first h2 rfl (by decide +kernel) l2 (by omega) fun pR H2 e2 s2 => ?_
    refine Evl.q_when (b := false) (Evl.et_is (Evl.et_or (Evl.et_test (Evl.ev_op (Evl.ev_var rfl) Evl.ev_c (Evl.rv_ne rfl))) (fun _ => Evl.et_not (Evl.et_B (ev_call (v := .bl true) (Evl.ea_cons (Evl.ev_var rfl) Evl.ea_nil) fun H3 e3 Q1 q1 => ⟨pR, ks, rfl, .inl (Evl.sq_of (e3 _ _ s2)), k1, k2, k3, fun H4 e4 => q1 H4 e4⟩)))) (by decide +kernel)) (fun z => nomatch z) (fun _ H3 e3 => ?_)
    rw [List.map_map] at s1
    refine q_put (rd_lines (Evl.sq_of (e3 _ _ (e2 _ _ s1))) l3 g fun pX H4 xs e4 s4 R4 => ?_)
    refine ⟨rfl, _, rfl, _, rfl, fun x dx nx nd ne => ?_⟩
    have e5 : Ex H4 (upd (upd H4 dx (.own x)) x (.ins CP dx [])) := (Ex.new nd).trans (Ex.new (by rw [upd_ne ne.symm]; exact nx))
    have e45 := e4.trans e5
    refine ⟨x, pR, pX, dx, ks, xs, rs, rfl, upd_same, .inl (Evl.sq_of (e45 _ _ (e3 _ _ s2))), k1, k2, k3, .inl (Evl.sq_of (e5 _ _ s4)), R4.ex e5, by rw [paired_len R4]; exact l3, fun H5 ys sy k5 po => ⟨rfl, ?_⟩⟩
    have e6 : Ex H4 H5 := fun c o hc => k5 c o (ne_of_none hc nx) (e5 _ _ hc)
    have R5 : RulesAt K CR H5 xs rs := R4.ex e6
    exact q x H5 ys xs sy (((e1.trans e2).trans e3).trans (e4.trans e6)) po R5
end
end Ov


namespace Ov
open PySem L2 TL
/-! ### a plan's text is read back -/
theorem joined_no {c : Nat} {sep : Str} (hs : c ∉ tl sep) : ∀ {l : List Str}, (∀ x ∈ l, c ∉ tl x) → c ∉ tl (Str.join sep l)
  | [], _ => List.not_mem_nil
  | [x], h => h x List.mem_cons_self
  | x :: y :: r, h => by
    show c ∉ tl (x ++ sep ++ Str.join sep (y :: r))
    rw [tl_append, tl_append, List.mem_append, List.mem_append]
    rintro ((z | z) | z)
    · exact h x List.mem_cons_self z
    · exact hs z
    · exact joined_no hs (fun w hw => h w (List.mem_cons_of_mem _ hw)) z
theorem line_rule {r : RuleD} (g : r.Good) : 10 ∉ tl (ruleText r) := by
  have k : ∀ k ∈ kindsAll, 10 ∉ tl (("on " : Str) ++ k) := by decide +kernel
  have t : ∀ t ∈ allTests, 10 ∉ tl t := by decide +kernel
  have d : ∀ t ∈ allDeeds, 10 ∉ tl t := by decide +kernel
  unfold ruleText
  rw [tl_append, tl_append, List.mem_append, List.mem_append]
  rintro ((z | z) | z)
  · exact k _ g.k z
  · unfold tText at z
    split at z
    · exact absurd z (by decide +kernel)
    · rw [tl_append, tl_if] at z
      rcases List.mem_append.mp z with z | z
      · exact absurd z (by decide)
      · exact joined_no (by rw [tl_and]; decide) (fun x hx => t x (tests_all (g.ts x hx))) z
  · unfold dText at z
    split at z
    · exact absurd z (by decide +kernel)
    · rw [tl_append, tl_do] at z
      rcases List.mem_append.mp z with z | z
      · exact absurd z (by decide)
      · exact joined_no (by rw [tl_then]; decide) (fun x hx => d x (deeds_all (g.ds x hx))) z
def firstLine (ks : List Str) : Str := Str.join " " (("raise" : Str) :: ks)
def planText (ks : List Str) (rs : List RuleD) : Str := Str.join "\n" (firstLine ks :: rs.map ruleText)
theorem word_no {c : Nat} (hc : c = 10 ∨ c = 32) {ks : List Str} (h : ∀ k ∈ ks, k ∈ lettersL) : ∀ k ∈ ("raise" : Str) :: ks, c ∉ tl k := by
  have a : ∀ k ∈ ("raise" : Str) :: lettersL, 10 ∉ tl k ∧ 32 ∉ tl k := by decide +kernel
  intro k hk
  have hk2 : k ∈ ("raise" : Str) :: lettersL := by
    rcases List.mem_cons.mp hk with z | z
    · exact List.mem_cons.mpr (.inl z)
    · exact List.mem_cons_of_mem _ (h k z)
  rcases hc with rfl | rfl
  · exact (a k hk2).1
  · exact (a k hk2).2
theorem first_read {ks : List Str} (h : ∀ k ∈ ks, k ∈ lettersL) : Txt.split (firstLine ks) " " = ("raise" : Str) :: ks := by
  have e : tl " " = 32 :: [] := by decide +kernel
  unfold firstLine
  rw [← join_eq]
  exact split_join e (by decide +kernel) (by simp) (word_no (.inr rfl) h)
theorem lines_read {ks : List Str} {rs : List RuleD} (h : ∀ k ∈ ks, k ∈ lettersL) (g : ∀ r ∈ rs, r.Good) : Txt.split (planText ks rs) "\n" = firstLine ks :: rs.map ruleText := by
  have e : tl "\n" = 10 :: [] := by decide +kernel
  have e1 : tl " " = 32 :: [] := by decide +kernel
  unfold planText
  rw [← join_eq]
  refine split_join e (by decide +kernel) (by simp) fun p hp => ?_
  rcases List.mem_cons.mp hp with rfl | hp
  · exact joined_no (by rw [e1]; decide) (word_no (.inl rfl) h)
  · obtain ⟨r, hr, rfl⟩ := List.mem_map.mp hp
    exact line_rule (g r hr)
end Ov


namespace Ov
open PySem PySem.Spec PyProof.Rows L2
open Evl (pss_cut tCut Ex Ev EvT EvL EvA EvU)
/-! ### Plan's __init__, of any kinds without twins -/
def sortedOf (ks ys : List Str) : Prop := ys.Perm ks ∧ sortedS ys = true
section
variable {P : Program} {w : World} {K : PySem.W.Frag} {mg : Str → Option Value} {base : Heap} {a_LETTERS a_LETTER_TESTS a_LETTER_DEEDS a_ANSWER_TESTS a_ANSWER_DEEDS CR CP : Addr} {tA tN : Tok}
theorem ok_plan_initG {f fSeq fAR fAU : Addr} {fd fdSeq fdAR fdAU : FuncData} {dvs : List V} {kws : List (Str × V)} (F : FunD K "__init__" "Plan.__init__" (defArgs sPlanInit) (defBody sPlanInit) (defScope sPlanInit) dvs kws f fd) (T : TxR K mg a_LETTERS a_LETTER_TESTS a_LETTER_DEEDS a_ANSWER_TESTS a_ANSWER_DEEDS CR tA tN) (TP : TxP K mg CP)
    (D_is_sequence : Df K mg "is_sequence" sIsSequence ["value"] fSeq fdSeq) (D_are_raises : Df K mg "are_raises" sAreRaises ["value"] fAR fdAR) (G_are_raises : FnOk P w K mg base CX0 2 fAR fdAR ["value"] (spAreRaisesG K)) (D_are_rules : Df K mg "are_rules" sAreRules ["value"] fAU fdAU) :
    FnOk P w K mg base CX0 3 f fd ["self", "raises", "rules"] (spPlanInitG K CR CP sortedOf) := by
  have G_are_rules : FnOk P w K mg base CX0 2 fAU fdAU ["value"] (spAreRules K CR) := ok_are_rules D_are_rules.F T D_is_sequence
  refine FunD_ok0 F scPlanInit (fun vs H Q E h => ?_) (fun cdv A outer s H vs Q E hr h => ?_)
  · obtain ⟨p, a, b, dx, ks, xs, rs, rfl, _⟩ := h
    rfl
  · obtain ⟨p, a, b, dx, ks, xs, rs, rfl, hp, hA, hl, hd, hk, hB, hR, hx, q⟩ := h
    refine ⟨_, pss_cons (ps_if (pt_not (pt_val (pe_call G_are_raises (hr.mono (by decide)) rfl D_are_raises.g D_are_raises.F.kp D_are_raises.b .nil pass0 (pa_cons (pv 1) pa_nil)))) (pss_one ps_never) pss_nil)
      (pss_cons (ps_if (pt_not (pt_val (pe_call G_are_rules (hr.mono (by decide)) rfl D_are_rules.g D_are_rules.F.kp D_are_rules.b .nil pass0 (pa_cons (pv 2) pa_nil)))) (pss_one ps_never) pss_nil)
      (pss_cons (ps_fld (pv 0) (pe_callTy call_tuple_any (by rfl) T.n_tuple (by decide +kernel) (pa_cons (pe_callB cr_sortedB (by rfl) TP.n_sorted (by decide +kernel) (pa_cons (pv 1) pa_nil)) pa_nil)) rfl)
      (pss_one (ps_fld (pv 0) (pe_callTy call_tuple_any (by rfl) T.n_tuple (by decide +kernel) (pa_cons (pv 2) pa_nil)) rfl)))), ?_⟩
    refine Evl.q_when (b := false) (Evl.et_is (Evl.et_not (Evl.et_B (ev_call (v := .bl true) (Evl.ea_cons (Evl.ev_var rfl) Evl.ea_nil) fun H1 e1 Q1 q1 => ⟨a, ks, rfl, exB e1 hA, hl, hd, hk, fun H2 e2 => q1 H2 e2⟩))) rfl) (fun z => nomatch z) (fun _ H1 e1 => ?_)
    refine Evl.q_when (b := false) (Evl.et_is (Evl.et_not (Evl.et_B (ev_call (v := .bl true) (Evl.ea_cons (Evl.ev_var rfl) Evl.ea_nil) fun H2 e2 Q1 q1 => ⟨b, xs, rs, rfl, exB (e1.trans e2) hB, RulesAt.ex (e1.trans e2) hR, hx, fun H3 e3 => q1 H3 e3⟩))) rfl) (fun z => nomatch z) (fun _ H2 e2 => ?_)
    have e12 := e1.trans e2
    have ntp : ∀ {H' : Hp} {a : Addr} {xs : List V} {fs : List (Str × V)}, H' p = some (.ins CP dx fs) → SqT K H' a xs → ∀ o, SqT K (upd H' p o) a xs := by
      intro H' a xs fs hp' h o
      rcases h with (h | ⟨u, h⟩) | h
      · exact .inl (.inl (by rw [upd_ne (ne_of h hp' (fun z => nomatch z))]; exact h))
      · exact .inl (.inr ⟨u, by rw [upd_ne (ne_of h hp' (fun z => nomatch z))]; exact h⟩)
      · exact .inr h
    have ntl : ∀ {H' : Hp} {a : Addr} {xs : List V} {fs : List (Str × V)}, H' p = some (.ins CP dx fs) → SqL K H' a xs → ∀ o, SqL K (upd H' p o) a xs := by
      intro H' a xs fs hp' h o
      rcases h with (h | ⟨u, h⟩) | h
      · exact .inl (.inl (by rw [upd_ne (ne_of h hp' (fun z => nomatch z))]; exact h))
      · exact .inl (.inr ⟨u, by rw [upd_ne (ne_of h hp' (fun z => nomatch z))]; exact h⟩)
      · exact .inr h
    refine ⟨_, rfl, a, ks, rfl, exB e12 hA, by omega, fun ys l hperm hsort nl => ?_⟩
    refine ⟨l, _, rfl, .inl (SqL.of upd_same), fun t2 H3 e3 s3 => ?_⟩
    have e13 : Ex H H3 := (e12.trans (Ex.new nl)).trans e3
    have hp3 := e13 _ _ hp
    refine ⟨_, rfl, p, CP, dx, _, rfl, hp3, TP.cl, TP.nR, (by show 0 < 1000; decide), ?_⟩
    have hB3 := (exB e13 hB).imp (fun h => ntl hp3 h (.ins CP dx (putF "raises" (.ref t2) []))) (fun h => ntp hp3 h (.ins CP dx (putF "raises" (.ref t2) [])))
    have s3' := ntp hp3 s3 (.ins CP dx (putF "raises" (.ref t2) []))
    refine ⟨_, rfl, b, _, rfl, hB3, fun d2 H4 e4 s4 => ?_⟩
    have hp4 := e4 _ _ upd_same
    refine ⟨_, rfl, p, CP, dx, _, rfl, hp4, TP.cl, TP.nU, (by show 1 < 1000; decide), ?_⟩
    refine q _ ys ⟨hperm, hsort⟩ (fun c o hc hh => ?_) ⟨dx, t2, d2, upd_same, ntp hp4 (Evl.ex_t e4 s3') _, ntp hp4 s4 _⟩
    rw [upd_ne hc]
    refine e4 _ _ ?_
    rw [upd_ne hc]
    exact e13 _ _ hh
end
end Ov


namespace Ov
open PySem PySem.Spec PyProof.Rows L2
open Evl (pss_cut tCut Ex Ev EvT EvL EvA EvU)
/-! ### kinds that raise, up to four of them; own + and len; plans compared -/
section
variable {X : Cx} {CX : CXT} {k : Nat} {f C : Addr} {fd : FuncData} {ps : List Str} {sp : Sp} {E : XK}
/-- x + y of two instances of the class at C, by its own __add__ -/
def rAddI (C : Addr) (sp : Sp) (E : XK) : R2 := fun x y H Q => ∃ a b dx dy fs gs, x = .ref a ∧ y = .ref b ∧ H a = some (.ins C dx fs) ∧ H b = some (.ins C dy gs) ∧ sp [x, y] H (fun v H' => ∃ p, v = .ref p ∧ Q (.ref p) H') E
theorem op_addI (F : FnOk X.prog X.w X.K X.mg X.base CX k f fd ps sp) (hr : Room k X.A) (first : PySem.W.selfFirst X.K C = true) (hs : PySem.W.findIn X.K (.ref C) (PySem.dunder "add") = some (some (.ref f))) (hf : PySem.W.isFn X.K (.ref f) = true) (hb : Binds X.K fd ps []) (hx : Passes CX X E) :
    OpR X (binaryOp .Add) (rAddI C sp E) := by
  rintro pins s σ H _ _ v u Q I rx ry ⟨a, b, dx, dy, fs, gs, rfl, rfl, ha, hb2, hq⟩
  cases rx
  cases ry
  obtain ⟨_, J1, _⟩ := ins_get I.hok ha
  obtain ⟨_, J2, _⟩ := ins_get I.hok hb2
  obtain ⟨_, J1, _⟩ := J1.look
  obtain ⟨_, J2, _⟩ := J2.look
  obtain ⟨m, hF⟩ := I.fr
  refine PySem.W.binop_K (op := .Add) hF I.ok.mod.kin J1 J2.type first hs hf (wpAny_mono (run_sub F (sub0 hr) hb hx I (vs := [.ref a, .ref b]) (us := [.ref a, .ref b]) (.cons rfl (.cons rfl .nil)) hq) (fun v s2 hv => ?_) fun _ _ z => z)
  obtain ⟨z, H2, I2, rz, p, rfl, q⟩ := hv
  cases rz
  exact ⟨.ref p, H2, I2, rfl, q⟩
/-- len(x) by the class's own __len__ -/
def rLenI (C : Addr) (sp : Sp) (E : XK) : List V → Hp → VK → Prop := fun xs H Q => ∃ a dx fs, xs = [.ref a] ∧ H a = some (.ins C dx fs) ∧ sp [.ref a] H (fun v H' => ∃ n : Nat, v = .int (n : Int) ∧ n < 1000000 ∧ Q (.int (n : Int)) H') E
theorem call_lenI (F : FnOk X.prog X.w X.K X.mg X.base CX k f fd ps sp) (hr : Room (k + 1) X.A) (hs : PySem.W.findIn X.K (.ref C) "__len__" = some (some (.ref f))) (hf : PySem.W.isFn X.K (.ref f) = true) (hb : Binds X.K fd ps []) (hx : Passes CX X E) :
    CallR X (.builtin "len") (rLenI C sp E) := by
  rintro pins s σ H _ us Q I r ⟨a, dx, fs, rfl, ha, hq⟩
  obtain ⟨u, rfl, rx⟩ := vals1 r
  cases rx
  obtain ⟨_, J, _⟩ := ins_get I.hok ha
  obtain ⟨_, J, _⟩ := J.look
  obtain ⟨m, hF⟩ := I.fr
  refine PySem.W.len_K hF I.ok.mod.kin J hs hf (wpAny_mono (run_sub F (sub1 hr) hb hx I (vs := [.ref a]) (us := [.ref a]) (.cons rfl .nil) hq) (fun v s2 hv => ?_) fun _ _ z => z)
  obtain ⟨z, H2, I2, rz, n, rfl, hn, q⟩ := hv
  obtain ⟨t, rfl⟩ := rz
  exact ⟨⟨by omega, by omega⟩, .int n, H2, I2.tok _, ⟨_, rfl⟩, q⟩
end
section
variable {P : Program} {w : World} {K : PySem.W.Frag} {mg : Str → Option Value} {base : Heap} {a_LETTERS a_LETTER_TESTS a_LETTER_DEEDS a_ANSWER_TESTS a_ANSWER_DEEDS CR CP : Addr} {tA tN : Tok}
theorem ok_are_raisesG {f fSeq : Addr} {fd fdSeq : FuncData} (F : Fun K "are_raises" "are_raises" sAreRaises f fd) (T : TxR K mg a_LETTERS a_LETTER_TESTS a_LETTER_DEEDS a_ANSWER_TESTS a_ANSWER_DEEDS CR tA tN) (n_set : mg "set" = none) (D_is_sequence : Df K mg "is_sequence" sIsSequence ["value"] fSeq fdSeq) :
    FnOk P w K mg base CX0 2 f fd ["value"] (spAreRaisesG K) := by
  have G_is_sequence : FnOk P w K mg base CX0 1 fSeq fdSeq ["value"] (spIsSeq K) := ok_is_sequence D_is_sequence.F T
  refine F.ok scAreRaises (fun vs H Q E h => ?_) (fun cdv A outer s H vs Q E hr h => ?_)
  · obtain ⟨a, ks, rfl, _⟩ := h
    rfl
  · obtain ⟨a, ks, rfl, hS, hl, hd, hk, q⟩ := h
    refine ⟨_, pss_cons (ps_if (PW.pt (pw_or (pt_not (pt_val (pe_call G_is_sequence (hr.mono (by decide)) rfl D_is_sequence.g D_is_sequence.F.kp D_is_sequence.b .nil pass0 (pa_cons (pv 0) pa_nil)))) (pw_or1 (pt_not (pt_val (pe_callB (cr_all rfl) (by rfl) T.n_all (by decide +kernel) (pa_cons (pe_lc (own := [("kind", 1)]) (g := gName 1) (tt := tYes) rfl scAreRaises.nd (pi_both (pv 0)) (blkOk_by (own := [("kind", 1)]) (N := ["value", "kind"]) (sc := defScope sAreRaises) (by decide +kernel)) (fun _ _ _ _ _ => (pg_name (i := 1) scAreRaises.nd rfl (Or.inl rfl))) (fun _ _ _ _ _ => pts_nil) (fun _ _ _ _ _ => (pe_cmpR (r := rIn K false) op_in_seq (pv 1) (pe_glob (v := .ref a_LETTERS) rfl T.g_LETTERS rfl) (by rfl)))) pa_nil))))))) (pss_one (ps_ret pe_bl)) pss_nil)
      (pss_one (ps_ret (pe_cmpR op_eq (pe_lenSetG rfl rfl T.n_len rfl n_set (pv 0)) (pe_callB call_len_seq (by rfl) T.n_len (by decide +kernel) (pa_cons (pv 0) pa_nil)) (nomark _)))), ?_⟩
    have lT : (ks.map V.str).length ≤ 40000 := by rw [List.length_map]; omega
    refine Evl.q_when (b := false) (Evl.et_is (Evl.et_or (Evl.et_not (Evl.et_B (ev_call (v := .bl true) (Evl.ea_cons (Evl.ev_var rfl) Evl.ea_nil) fun H1 e1 Q1 q1 => ⟨a, _, rfl, exB e1 hS, fun H2 e2 => q1 H2 e2⟩)))
      (fun _ => Evl.et_not (Evl.et_B (ev_all (bs := List.replicate (ks.map V.str).length true) ?_)))) (by rw [all_true]; rfl)) (fun z => nomatch z) (fun _ H1 e1 => ?_)
    · rw [← range_true]
      refine el_lcB (fun _ => .bl true) (Evl.ev_var rfl) hS lT (fun x => rfl) (fun i x H2 e2 hi => ?_)
      obtain ⟨y, rfl, hy⟩ := strs_at hi
      have hy2 : y ∈ lettersL := hk y (List.mem_of_getElem? hy)
      refine Evl.ev_is (Evl.ev_op (Evl.ev_var rfl) Evl.ev_c (Evl.rv_isT (T.s_LETTERS _) rfl (flat_strs _))) ?_
      rw [inV_strs]
      exact congrArg V.bl (decide_eq_true hy2)
    · refine ⟨_, rfl, a, ks, rfl, exB e1 hS, hd, by omega, _, rfl, a, _, rfl, exB e1 hS, rfl, ?_⟩
      rw [List.length_map]
      exact (decide_eq_true (rfl : V.int (ks.length : Int) = V.int (ks.length : Int))) ▸ q H1 e1
/-! #### == of plans that are alike -/
def sameAt (K : PySem.W.Frag) (CR : Addr) : Addr → Addr → Hp → Prop := fun a b H => ∃ r : RuleD, r.Good ∧ RuleObj K CR H a r ∧ RuleObj K CR H b r
theorem same_rules {H : Hp} : ∀ {xs ys : List V} {rs : List RuleD}, RulesAt K CR H xs rs → RulesAt K CR H ys rs → (∀ r ∈ rs, r.Good) → Prs (DIns CR (sameAt K CR)) xs ys H
  | _, _, _, .nil, .nil, _ => Prs.nil
  | _, _, _, .cons ⟨p, e1, h1⟩ t1, .cons ⟨q, e2, h2⟩ t2, g => by
    obtain ⟨dx, _, _, i1, _⟩ := id h1
    obtain ⟨dy, _, _, i2, _⟩ := id h2
    exact Prs.cons ⟨p, q, dx, dy, _, _, e1, e2, i1, i2, _, g _ List.mem_cons_self, h1, h2⟩ (same_rules t1 t2 fun r hr => g r (List.mem_cons_of_mem _ hr))
theorem same_mon {a b : Addr} {H H' : Hp} (e : Ext H H') (h : sameAt K CR a b H) : sameAt K CR a b H' := by
  obtain ⟨r, g, h1, h2⟩ := h
  exact ⟨r, g, h1.ex e, h2.ex e⟩
abbrev sPlanEq : Stmt := inClass (topS 51) 8
theorem scPlanEq : FnScope ["self", "other"] ["self", "other"] (defScope sPlanEq) := ⟨rfl, rfl, rfl, by decide +kernel, rfl, by decide +kernel, by decide +kernel⟩
def spPlanEq (K : PySem.W.Frag) (CR CP : Addr) : Sp := fun vs H Q _ => ∃ (p q : Addr) (ks : List Str) (xs ys : List V) (rs : List RuleD), vs = [.ref p, .ref q] ∧ PlanObj K CP H p ks xs ∧ PlanObj K CP H q ks ys ∧ Plain ks ∧ RulesAt K CR H xs rs ∧ RulesAt K CR H ys rs ∧ (∀ r ∈ rs, r.Good) ∧ ∀ H', Ex H H' → Q (.bl true) H'
theorem ok_plan_eq {f fE : Addr} {fd fdE : FuncData} (F : Fun K "__eq__" "Plan.__eq__" sPlanEq f fd) (TP : TxP K mg CP) (tyP : ∀ {H : Hp} {p dx : Addr} {fs : List (Str × V)}, H p = some (.ins CP dx fs) → TyX K H (.ref p) (.ref CP)) (eqR : PySem.W.findIn K (.ref CR) "__eq__" = some (some (.ref fE))) (isE : PySem.W.isFn K (.ref fE) = true)
    (G_eq : FnOk P w K mg base CX0 1 fE fdE ["self", "other"] (spRuleEq K CR)) (b_eq : Binds K fdE ["self", "other"] []) : FnOk P w K mg base CX0 3 f fd ["self", "other"] (spPlanEq K CR CP) := by
  have G2 : FnOk P w K mg base CX0 1 fE fdE ["self", "other"] (spEq (sameAt K CR)) := G_eq.imp fun vs H Q E ⟨a, b, e, ⟨r, g, h1, h2⟩, q⟩ => ⟨a, b, r, r, e, h1, h2, g, g, fun H' e' => by
    have e2 : sameR r r = true := sameR_self r
    unfold sameR at e2
    exact e2 ▸ q H' e'⟩
  refine F.ok scPlanEq (fun vs H Q E h => ?_) (fun cdv A outer s H vs Q E hr h => ?_)
  · obtain ⟨p, q, ks, xs, ys, rs, rfl, _⟩ := h
    rfl
  · obtain ⟨p, q, ks, xs, ys, rs, rfl, hp, hq, pl, hx, hy, g, k⟩ := h
    obtain ⟨dx, a, b, h1, h2, h3⟩ := id hp
    obtain ⟨dy, c, d, h4, h5, h6⟩ := id hq
    refine ⟨_, pss_one (ps_ret (pe_and (pe_callB call_isi (by rfl) TP.n_isinstance (by decide +kernel) (pa_cons (pv 1) (pa_cons (pe_glob (v := .ref CP) rfl TP.g_Plan rfl) pa_nil))) (pe_and (pe_cmpR (op_eqD hr.units) (pe_fld (pv 0) rfl) (pe_fld (pv 1) rfl) (nomark _)) (pe_one (pe_cmpR (op_eqG (n := 2) (D := DTup K (DIns CR (sameAt K CR))) (rcG_tup (mon_ins (R := sameAt K CR) fun a b H H' e h => same_mon e h) (eqG_ins (R := sameAt K CR) (n := 1) (E := E0) G2 eqR isE b_eq pass0)) hr) (pe_fld (pv 0) rfl) (pe_fld (pv 1) rfl) (nomark _)))))), ?_⟩
    refine Evl.s_ret (v := .bl (true && (decide (ks = ks) && true))) ?_ fun H1 e1 => by
      rw [decide_eq_true rfl]
      exact k H1 e1
    refine Evl.ev_andV (ev_isi (Evl.ea_cons (Evl.ev_var rfl) (Evl.ea_cons Evl.ev_c Evl.ea_nil)) (.own CP) (fun H3 e3 => tyP (e3 _ _ h4)) (by simp [PySem.W.kitOne])) (fun _ => ?_)
    refine Evl.ev_andV (Evl.ev_op (ev_fld (Evl.ev_var rfl) h1 TP.cl TP.nR (pf_raises _ _)) (ev_fld (Evl.ev_var rfl) h4 TP.cl TP.nR (pf_raises _ _)) (rv_eqT pl pl h2 h5)) (fun _ => ?_)
    refine Evl.ev_op (ev_fld (Evl.ev_var rfl) h1 TP.cl TP.nU (pf_rules _ _)) (ev_fld (Evl.ev_var rfl) h4 TP.cl TP.nU (pf_rules _ _)) fun H1 e1 Q1 q1 => ?_
    exact ⟨⟨b, d, xs, ys, rfl, rfl, Evl.ex_t e1 h3, Evl.ex_t e1 h6, same_rules (hx.ex e1) (hy.ex e1) g⟩, fun H2 e2 => q1 H2 e2⟩
/-! #### len, raising, without, + -/
abbrev sPlanLen : Stmt := inClass (topS 51) 4
theorem scPlanLen : FnScope ["self"] ["self"] (defScope sPlanLen) := ⟨rfl, rfl, rfl, by decide +kernel, rfl, by decide +kernel, by decide +kernel⟩
def spPlanLen (K : PySem.W.Frag) (CP : Addr) : Sp := fun vs H Q _ => ∃ (p : Addr) (ks : List Str) (xs : List V), vs = [.ref p] ∧ PlanObj K CP H p ks xs ∧ Q (.int (xs.length : Int)) H
theorem ok_plan_len {f : Addr} {fd : FuncData} (F : Fun K "__len__" "Plan.__len__" sPlanLen f fd) (TP : TxP K mg CP) : FnOk P w K mg base CX0 1 f fd ["self"] (spPlanLen K CP) := by
  refine F.ok scPlanLen (fun vs H Q E h => ?_) (fun cdv A outer s H vs Q E hr h => ?_)
  · obtain ⟨p, ks, xs, rfl, _⟩ := h
    rfl
  · obtain ⟨p, ks, xs, rfl, ⟨dx, a, b, h1, h2, h3⟩, q⟩ := h
    refine ⟨_, pss_one (ps_ret (pe_callB call_len_seq (by rfl) TP.n_len (by decide +kernel) (pa_cons (pe_fld (pv 0) rfl) pa_nil))), ?_⟩
    exact ⟨_, rfl, p, CP, dx, _, _, rfl, h1, TP.cl, TP.nU, pf_rules _ _, b, xs, rfl, .inr h3, q⟩
/-- Plan(..) of kinds and rules as they are -/
abbrev MakesPlan (K : PySem.W.Frag) (CR CP : Addr) (H : Hp) (ks : List Str) (xs : List V) (rs : List RuleD) (Q : VK) : Prop := ∀ p H' ys, sortedOf ks ys → Ex H H' → PlanObj K CP H' p ys xs → RulesAt K CR H' xs rs → Q (.ref p) H'
def GoodKs (ks : List Str) : Prop := ks.length ≤ 4 ∧ ks.Nodup ∧ ∀ k ∈ ks, k ∈ lettersL
theorem run_mkP {H H0 : Hp} {a b : Addr} {ks : List Str} {xs : List V} {rs : List RuleD} {Q : VK} (hA : SqL K H a (ks.map V.str) ∨ SqT K H a (ks.map V.str)) (gk : GoodKs ks) (hB : SqL K H b xs ∨ SqT K H b xs) (hR : RulesAt K CR H xs rs) (hz : xs.length ≤ 1000) (e0 : Ex H0 H) (q : MakesPlan K CR CP H0 ks xs rs Q) :
    ∀ x dx : Addr, H x = none → H dx = none → dx ≠ x → spPlanInitG K CR CP sortedOf [.ref x, .ref a, .ref b] (upd (upd H dx (.own x)) x (.ins CP dx [])) (fun v H2 => v = .non ∧ Q (.ref x) H2) E0 := fun x dx nx nd ne => by
  have e1 : Ex H (upd (upd H dx (.own x)) x (.ins CP dx [])) := (Ex.new nd).trans (Ex.new (by rw [upd_ne ne.symm]; exact nx))
  refine ⟨x, a, b, dx, ks, xs, rs, rfl, upd_same, exB e1 hA, gk.1, gk.2.1, gk.2.2, exB e1 hB, hR.ex e1, hz, fun H5 ys so k5 po => ⟨rfl, ?_⟩⟩
  have e2 : Ex H H5 := fun c o hc => k5 c o (ne_of_none hc nx) (e1 _ _ hc)
  exact q x H5 ys so (e0.trans e2) po (hR.ex e2)
end
end Ov


namespace Ov
open PySem PySem.Spec PyProof.Rows L2
open Evl (pss_cut tCut Ex Ev EvT EvL EvA EvU)
/-! ### Plan: without, +, str -/
section
variable {K : PySem.W.Frag} {σ : L2.St} {H : Hp} {te tl tw : TE} {tt : TT}
theorem el_lcTf {a : Addr} {xs : List V} {j : Nat} {vs : List Nat} (f : Nat → Bool) (v : Nat → V) (h : Ev tl σ H (.ref a)) (hx : SqT K H a xs) (hz : xs.length ≤ 40000) (hw : ∀ x, wipe ((wipe σ vs).set j (some x)) vs = wipe σ vs)
    (ht : ∀ (i : Nat) (x : V) H1, Ex H H1 → xs[i]? = some x → EvT tt ((wipe σ vs).set j (some x)) H1 (f i)) (he : ∀ (i : Nat) (x : V) H1, Ex H H1 → xs[i]? = some x → Ev te ((wipe σ vs).set j (some x)) H1 (v i)) : EvL (tLc (iTup K tl) (gName j) tt te vs) σ H (Evl.given xs.length f v) := fun H0 e Q q => h H0 e _ fun H1 e1 => ⟨a, rfl, ⟨xs, Evl.ex_t (e.trans e1) hx⟩, fun L hL =>
  lc_tup (xs := xs) (Evl.Cw H1 f v L) ⟨hL, Ex.new hL, upd_same⟩ (fun i H' _ p => Evl.ex_t ((e.trans e1).trans p.2.1) hx)
    (fun i x H' hi p => ⟨hw x, Evl.cw_turn p (by have := (List.getElem?_eq_some_iff.mp hi).1; omega) (ht i x H1 (e.trans e1) hi) (fun _ => he i x H1 (e.trans e1) hi)⟩)
    (fun H' p => q L H' (Evl.fresh_back e1 p.1) (e1.trans p.2.1) p.2.2)⟩
theorem given_texts (L : List Str) (g : Str → Bool) (f : Nat → Bool) (v : Nat → V) (h : ∀ i x, L[i]? = some x → f i = g x ∧ v i = V.str x) : Evl.given L.length f v = (L.filter g).map V.str := by
  have e : L = (List.range L.length).map fun i => L[i]?.getD Str.empty := by
    refine List.ext_getElem? fun i => ?_
    rw [List.getElem?_map]
    by_cases hi : i < L.length
    · rw [List.getElem?_range hi, List.getElem?_eq_getElem hi]
      show _ = some (L[i]?.getD Str.empty)
      rw [List.getElem?_eq_getElem hi]
      rfl
    · rw [List.getElem?_eq_none (by omega), List.getElem?_eq_none (by rw [List.length_range]; omega)]
      rfl
  have e2 : L.filter g = ((List.range L.length).filter fun i => g (L[i]?.getD Str.empty)).map fun i => L[i]?.getD Str.empty := by
    have q := congrArg (List.filter g) e
    rw [List.filter_map] at q
    exact q
  rw [e2, List.map_map]
  unfold Evl.given
  have at_ : ∀ i ∈ List.range L.length, L[i]? = some (L[i]?.getD Str.empty) := fun i hi => by
    rw [List.getElem?_eq_getElem (List.mem_range.mp hi)]
    rfl
  rw [List.filter_congr fun i hi => (h i _ (at_ i hi)).1]
  exact List.map_congr_left fun i hi => (h i _ (at_ i (List.mem_filter.mp hi).1)).2
/-- t[lo:hi] of a tuple, the whole of it too -/
theorem ev_slA {to th : TO} {a : Addr} {xs : List V} {lo hi : Option Int} (h : Ev te σ H (.ref a)) (h1 : Evl.EvO to σ H lo) (h2 : Evl.EvO th σ H hi) (hs : SqT K H a xs) : EvP (tSl (rSlA K) te to th) σ H (fun t H2 => SqT K H2 t (cutV xs lo hi)) := fun H1 e1 Q q =>
  h H1 e1 _ fun H2 e2 => h1 H2 (e1.trans e2) _ fun H3 e3 => h2 H3 ((e1.trans e2).trans e3) _ fun H4 e4 => by
    have s4 := Evl.ex_t (((e1.trans e2).trans e3).trans e4) hs
    refine ⟨a, xs, rfl, s4, fun w => q a H4 ((e2.trans e3).trans e4) ?_, fun _ p np => q p _ (((e2.trans e3).trans e4).trans (Ex.new np)) (Evl.st_of upd_same)⟩
    unfold cutV
    rw [w.1, w.2, List.drop_zero, Nat.sub_zero, List.take_length]
    exact s4
/-- t + u of tuples -/
theorem ev_catA {ta tb : TE} {xs ys : List V} (ha : EvP ta σ H (fun t H2 => SqT K H2 t xs)) (hb : EvP tb σ H (fun t H2 => SqT K H2 t ys)) (hz : xs.length + ys.length ≤ sizeLine) : EvP (tOp (rCatA K) ta tb) σ H (fun t H2 => SqT K H2 t (xs ++ ys)) := fun H1 e1 Q q =>
  ha H1 e1 _ fun t H2 e2 st => hb H2 (e1.trans e2) _ fun u H3 e3 su => by
    have st3 := Evl.ex_t e3 st
    refine ⟨t, u, xs, ys, rfl, rfl, st3, su, hz, fun h0 => q u H3 (e2.trans e3) ?_, fun _ h0 => q t H3 (e2.trans e3) ?_, fun _ _ p np => q p _ ((e2.trans e3).trans (Ex.new np)) (Evl.st_of upd_same)⟩
    · rw [h0]
      exact su
    · rw [h0, List.append_nil]
      exact st3
end
theorem cut_head (xs : List V) (i : Nat) : cutV xs none (some (i : Int)) = xs.take i := by
  unfold cutV
  rw [HT.sIx_none, HT.sIx_nat, List.drop_zero, Nat.sub_zero]
  by_cases h : i ≤ xs.length
  · rw [Nat.min_eq_left h]
  · rw [Nat.min_eq_right (by omega), List.take_length, List.take_of_length_le (by omega)]
theorem cut_rest (xs : List V) (i : Nat) (hi : i ≤ xs.length) : cutV xs (some (i : Int)) none = xs.drop i := by
  unfold cutV
  rw [HT.sIx_none, HT.sIx_nat, Nat.min_eq_left hi, List.take_of_length_le (by rw [List.length_drop]; omega)]
theorem RulesAt.take {K : PySem.W.Frag} {C : Addr} {H : Hp} : ∀ {xs : List V} {rs : List RuleD} (i : Nat), RulesAt K C H xs rs → RulesAt K C H (xs.take i) (rs.take i)
  | _, _, 0, _ => .nil
  | _, _, _ + 1, .nil => .nil
  | _, _, i + 1, .cons h t => .cons h (RulesAt.take i t)
theorem RulesAt.drop {K : PySem.W.Frag} {C : Addr} {H : Hp} : ∀ {xs : List V} {rs : List RuleD} (i : Nat), RulesAt K C H xs rs → RulesAt K C H (xs.drop i) (rs.drop i)
  | _, _, 0, h => h
  | _, _, _ + 1, .nil => .nil
  | _, _, i + 1, .cons _ t => RulesAt.drop i t
theorem RulesAt.app {K : PySem.W.Frag} {C : Addr} {H : Hp} : ∀ {xs ys : List V} {rs us : List RuleD}, RulesAt K C H xs rs → RulesAt K C H ys us → RulesAt K C H (xs ++ ys) (rs ++ us)
  | _, _, _, _, .nil, h => h
  | _, _, _, _, .cons h t, h2 => .cons h (RulesAt.app t h2)
section
variable {P : Program} {w : World} {K : PySem.W.Frag} {mg : Str → Option Value} {base : Heap} {a_LETTERS a_LETTER_TESTS a_LETTER_DEEDS a_ANSWER_TESTS a_ANSWER_DEEDS CR CP : Addr} {tA tN : Tok}
abbrev sPlanAdd : Stmt := inClass (topS 51) 7
theorem scPlanAdd : FnScope ["self", "other", "raises", "kind"] ["self", "other"] (defScope sPlanAdd) := ⟨rfl, rfl, rfl, by decide +kernel, rfl, by decide +kernel, by decide +kernel⟩
def bothKs (ks ms : List Str) : List Str := lettersL.filter fun k => decide (k ∈ ks) || decide (k ∈ ms)
theorem both_good (ks ms : List Str) : GoodKs (bothKs ks ms) := ⟨List.length_filter_le _ lettersL, List.Pairwise.filter _ (by decide +kernel), fun k hk => (List.mem_filter.mp hk).1⟩
def spPlanAdd (K : PySem.W.Frag) (CR CP : Addr) : Sp := fun vs H Q _ => ∃ (p q : Addr) (ks ms : List Str) (xs ys : List V) (rs us : List RuleD), vs = [.ref p, .ref q] ∧ PlanObj K CP H p ks xs ∧ PlanObj K CP H q ms ys ∧ RulesAt K CR H xs rs ∧ RulesAt K CR H ys us ∧ xs.length + ys.length ≤ 900 ∧ MakesPlan K CR CP H (bothKs ks ms) (xs ++ ys) (rs ++ us) Q
theorem ok_plan_add {f fI : Addr} {fd fdI : FuncData} (F : Fun K "__add__" "Plan.__add__" sPlanAdd f fd) (T : TxR K mg a_LETTERS a_LETTER_TESTS a_LETTER_DEEDS a_ANSWER_TESTS a_ANSWER_DEEDS CR tA tN) (TP : TxP K mg CP) (tyP : ∀ {H : Hp} {p dx : Addr} {fs : List (Str × V)}, H p = some (.ins CP dx fs) → TyX K H (.ref p) (.ref CP))
    (mkP : Mk K CP fI) (G_init : FnOk P w K mg base CX0 3 fI fdI ["self", "raises", "rules"] (spPlanInitG K CR CP sortedOf)) (b_init : Binds K fdI ["self", "raises", "rules"] []) :
    FnOk P w K mg base CX0 5 f fd ["self", "other"] (spPlanAdd K CR CP) := by
  refine F.ok scPlanAdd (fun vs H Q E h => ?_) (fun cdv A outer s H vs Q E hr h => ?_)
  · obtain ⟨p, q, ks, ms, xs, ys, rs, us, rfl, _⟩ := h
    rfl
  · obtain ⟨p, q, ks, ms, xs, ys, rs, us, rfl, hp, hq, hR, hU, hz, k⟩ := h
    obtain ⟨dx, a, b, h1, h2, h3⟩ := id hp
    obtain ⟨dy, c, d, h4, h5, h6⟩ := id hq
    refine ⟨_, pss_cons (ps_if (pt_not (pt_val (pe_callB call_isi (by rfl) TP.n_isinstance (by decide +kernel) (pa_cons (pv 1) (pa_cons (pe_glob (v := .ref CP) rfl TP.g_Plan rfl) pa_nil))))) (pss_one ps_never) pss_nil)
      (pss_cons (ps_setLc (i := 2) (own := [("kind", 3)]) (g := gName 3) (tt := tOr (tTest (tOp (rIn K false) (tVar 3) (tFld K (tVar 0) "raises"))) (tTest (tOp (rIn K false) (tVar 3) (tFld K (tVar 1) "raises")))) rfl scPlanAdd.nd rfl rfl (sw_true rfl rfl rfl (by decide +kernel)) (pi_tup (pe_glob (v := .ref a_LETTERS) rfl T.g_LETTERS rfl)) (blkOk_by (own := [("kind", 3)]) (N := ["self", "other", "raises", "kind"]) (sc := defScope sPlanAdd) (by decide +kernel)) (fun _ _ _ _ _ => (pg_name (i := 3) scPlanAdd.nd rfl (Or.inl rfl))) (fun _ _ _ _ _ => (pts_one (PW.pt (pw_or (pt_cmpR (r := rIn K false) op_in_seq (pv 3) (pe_fld (pv 0) rfl) (by rfl)) (pw_or1 (pt_cmpR (r := rIn K false) op_in_seq (pv 3) (pe_fld (pv 1) rfl) (by rfl))))))) (fun _ _ _ _ _ => (pv 3)))
      (pss_one (ps_ret (pe_make (sp := spPlanInitG K CR CP sortedOf) (E := E0) mkP G_init hr rfl TP.g_Plan b_init .nil pass0 (pa_cons (pv 2) (pa_cons (pe_op op_catA (pe_fld (pv 0) rfl) (pe_fld (pv 1) rfl)) pa_nil)))))), ?_⟩
    refine Evl.q_when (b := false) (Evl.et_is (Evl.et_not (Evl.et_B (ev_isi (Evl.ea_cons (Evl.ev_var rfl) (Evl.ea_cons Evl.ev_c Evl.ea_nil)) (.own CP) (fun H3 e3 => tyP (e3 _ _ h4)) (by simp [PySem.W.kitOne]; rfl)))) rfl) (fun z => nomatch z) (fun _ H1 e1 => ?_)
    have ek : Evl.given (lettersL.map V.str).length (fun i => decide ((lettersL[i]?.getD Str.empty) ∈ ks) || decide ((lettersL[i]?.getD Str.empty) ∈ ms)) (fun i => V.str (lettersL[i]?.getD Str.empty)) = (bothKs ks ms).map V.str := by
      rw [List.length_map]
      exact given_texts lettersL _ _ _ fun i x hx => by
        rw [hx]
        exact ⟨rfl, rfl⟩
    refine Evl.q_asgL (xs := (bothKs ks ms).map V.str) ?_ fun L H2 nL e2 hL => ?_
    · rw [← ek]
      refine el_lcTf _ _ Evl.ev_c (T.s_LETTERS _) (by decide) (fun _ => rfl) (fun i x H2 e2 hi => ?_) (fun i x H2 e2 hi => ?_)
      · obtain ⟨y, rfl, hy⟩ := strs_at hi
        rw [hy]
        refine Evl.et_or (Evl.et_test (Evl.ev_is (Evl.ev_op (Evl.ev_var rfl) (ev_fld (Evl.ev_var rfl) ((e1.trans e2) _ _ h1) TP.cl TP.nR (pf_raises _ _)) (Evl.rv_isT (Evl.ex_t (e1.trans e2) h2) rfl (flat_strs _))) ?_)) (fun _ => Evl.et_test (Evl.ev_is (Evl.ev_op (Evl.ev_var rfl) (ev_fld (Evl.ev_var rfl) ((e1.trans e2) _ _ h4) TP.cl TP.nR (pf_raises _ _)) (Evl.rv_isT (Evl.ex_t (e1.trans e2) h5) rfl (flat_strs _))) ?_))
        · rw [inV_strs]
          rfl
        · rw [inV_strs]
          rfl
      · obtain ⟨y, rfl, hy⟩ := strs_at hi
        rw [hy]
        exact Evl.ev_var rfl
    · have e12 := e1.trans e2
      refine ⟨_, rfl, ?_⟩
      refine ev_catA (K := K) (xs := xs) (ys := ys) (EvP.of (ev_fld (Evl.ev_var rfl) (e12 _ _ h1) TP.cl TP.nU (pf_rules _ _)) fun H3 e3 => Evl.ex_t (e12.trans e3) h3) (EvP.of (ev_fld (Evl.ev_var rfl) (e12 _ _ h4) TP.cl TP.nU (pf_rules _ _)) fun H3 e3 => Evl.ex_t (e12.trans e3) h6) (size_of (by omega)) H2 (Ex.refl _) _ fun t H3 e3 st => ?_
      refine run_mkP (.inl (Evl.sq_of (e3 _ _ hL))) (both_good ks ms) (.inr st) ((hR.ex (e12.trans e3)).app (hU.ex (e12.trans e3))) ?_ (e12.trans e3) k
      rw [List.length_append]
      omega
end
end Ov


namespace Ov
open PySem PySem.Spec PyProof.Rows L2
open Evl (pss_cut tCut Ex Ev EvT EvL EvA EvU)
/-! ### str(plan) -/
section
variable {K : PySem.W.Frag} {σ : L2.St} {H : Hp} {te to : TE} {tr : TA}
theorem ea_star {p : Addr} {xs ys : List V} (h : Ev te σ H (.ref p)) (hs : SqT K H p xs) (hr : EvA tr σ H ys) : EvA (StX.tStar K te tr) σ H (xs ++ ys) := fun H1 e1 Q q =>
  h H1 e1 _ fun H2 e2 => ⟨p, xs, rfl, .inl (Evl.ex_t (e1.trans e2) hs), hr H2 (e1.trans e2) _ fun H3 e3 => q H3 (e2.trans e3)⟩
theorem ev_joinP {x : Str} {l : List Str} (ho : Ev to σ H (.str x)) (he : EvP te σ H (fun p H2 => SqL K H2 p (l.map V.str) ∨ SqT K H2 p (l.map V.str))) (hz : (l.map (·.length)).sum + l.length * x.length ≤ 16777216) :
    Ev (tM1 (fun x xs H Q => ∃ a p, ∃ ys : List Str, x = .str a ∧ xs = [.ref p] ∧ (SqL K H p (ys.map V.str) ∨ SqT K H p (ys.map V.str)) ∧ (ys.map (·.length)).sum + ys.length * a.length ≤ 16777216 ∧ Q (.str (Txt.join a ys)) H) to te) σ H (.str (Str.join x l)) := fun H1 e Q q => by
  refine ho H1 e _ fun H2 e2 => ⟨⟨x, rfl⟩, he H2 (e.trans e2) _ fun p H3 e3 hp => ⟨x, p, l, rfl, rfl, hp, hz, ?_⟩⟩
  rw [TL.join_eq]
  exact q H3 (e2.trans e3)
end
theorem raises_len {ks : List Str} (hl : ks.length ≤ 4) (hk : ∀ k ∈ ks, k ∈ lettersL) : (((("raise" : Str) :: ks).map (·.length)).sum + (("raise" : Str) :: ks).length * (" " : Str).length ≤ 16777216) ∧ (firstLine ks).length ≤ 30000 := by
  have a : ∀ k ∈ ("raise" : Str) :: lettersL, k.length ≤ 16 := by decide +kernel
  refine join_small (fun x hx => a x ?_) (by decide) (by rw [List.length_cons]; omega)
  rcases List.mem_cons.mp hx with z | z
  · rw [z]
    exact List.mem_cons_self
  · exact List.mem_cons_of_mem _ (hk x z)
theorem rule_len {r : RuleD} (g : r.Good) : (ruleText r).length ≤ 60100 := by
  have lk := kinds_len g.k
  have lt := tText_len (fun x hx => testsNot_len (g.ts x hx)) g.nt
  have ld := dText_len (fun x hx => deedsOf_len (g.ds x hx)) g.nd
  have n3 : (Str.ofString "on ").length = 3 := by decide +kernel
  unfold ruleText
  rw [Str.length_append, Str.length_append, Str.length_append]
  omega
theorem lines_len {ks : List Str} {rs : List RuleD} (hl : ks.length ≤ 4) (hk : ∀ k ∈ ks, k ∈ lettersL) (g : ∀ r ∈ rs, r.Good) (hz : rs.length ≤ 10) : ((firstLine ks :: rs.map ruleText).map (·.length)).sum + (firstLine ks :: rs.map ruleText).length * ("\n" : Str).length ≤ 700000 := by
  have h1 := (raises_len hl hk).2
  have h2 := sum_small (rs.map ruleText) 60100 fun x hx => by
    obtain ⟨r, hr, rfl⟩ := List.mem_map.mp hx
    exact rule_len (g r hr)
  have n1 : ("\n" : Str).length = 1 := by decide +kernel
  rw [List.length_map] at h2
  have h3 : rs.length * 60100 ≤ 10 * 60100 := Nat.mul_le_mul_right _ hz
  rw [List.map_cons, List.sum_cons, List.length_cons, List.length_map, n1]
  omega
theorem plan_len {ks : List Str} {rs : List RuleD} (hl : ks.length ≤ 4) (hk : ∀ k ∈ ks, k ∈ lettersL) (g : ∀ r ∈ rs, r.Good) (hz : rs.length ≤ 10) : (planText ks rs).length ≤ 700000 :=
  Nat.le_trans (join_len "\n" _) (lines_len hl hk g hz)
section
variable {P : Program} {w : World} {K : PySem.W.Frag} {mg : Str → Option Value} {base : Heap} {a_LETTERS a_LETTER_TESTS a_LETTER_DEEDS a_ANSWER_TESTS a_ANSWER_DEEDS CR CP : Addr} {tA tN : Tok}
abbrev sPlanStr : Stmt := inClass (topS 51) 9
theorem scPlanStr : FnScope ["self", "lines", "rule"] ["self"] (defScope sPlanStr) := ⟨rfl, rfl, rfl, by decide +kernel, rfl, by decide +kernel, by decide +kernel⟩
def spPlanStr (K : PySem.W.Frag) (CR CP : Addr) : Sp := fun vs H Q _ => ∃ (p : Addr) (ks : List Str) (xs : List V) (rs : List RuleD), vs = [.ref p] ∧ PlanObj K CP H p ks xs ∧ RulesAt K CR H xs rs ∧ ks.length ≤ 4 ∧ (∀ k ∈ ks, k ∈ lettersL) ∧ (∀ r ∈ rs, r.Good) ∧ rs.length ≤ 10 ∧ ∀ H', Ex H H' → Q (.str (planText ks rs)) H'
theorem ok_plan_str {f fS : Addr} {fd fdS : FuncData} (F : Fun K "__str__" "Plan.__str__" sPlanStr f fd) (TP : TxP K mg CP) (n_str : mg "str" = none) (stR : PySem.W.findIn K (.ref CR) "__str__" = some (some (.ref fS))) (isS : PySem.W.isFn K (.ref fS) = true)
    (G_str : FnOk P w K mg base CX0 1 fS fdS ["self"] (spRuleStr K CR)) (b_str : Binds K fdS ["self"] []) : FnOk P w K mg base CX0 4 f fd ["self"] (spPlanStr K CR CP) := by
  refine F.ok scPlanStr (fun vs H Q E h => ?_) (fun cdv A outer s H vs Q E hr h => ?_)
  · obtain ⟨p, ks, xs, rs, rfl, _⟩ := h
    rfl
  · obtain ⟨p, ks, xs, rs, rfl, hp, hR, hl, hk, g, hz, q⟩ := h
    obtain ⟨dx, a, b, h1, h2, h3⟩ := id hp
    have hr3 : Room 3 (A.deeper (envOfC "Plan.__str__" (defScope sPlanStr) s.heap.objs.size f cdv)) := hr
    refine ⟨_, pss_cons (ps_set (i := 1) scPlanStr.nd rfl (.inl rfl) (pe_lst (pa_cons (pe_join pe_str (pe_lst (pa_cons pe_str (StX.pa_star (pe_fld (pv 0) rfl) pa_nil)))) pa_nil)))
      (pss_cons (ps_expr (pe_bm PySem.F.plainAttrs_list PySem.F.slot_list_extend PySem.F.type_list_extend mt_extend (pv 1) (pa_cons (pe_lc (own := [("rule", 2)]) (g := gName 2) (tt := tYes) rfl scPlanStr.nd (pi_tup (pe_fld (pv 0) rfl)) (blkOk_by (own := [("rule", 2)]) (N := ["self", "lines", "rule"]) (sc := defScope sPlanStr) (by decide +kernel)) (fun _ _ _ _ _ => (pg_name (i := 2) scPlanStr.nd rfl (Or.inl rfl))) (fun _ _ _ _ _ => pts_nil) (fun _ _ _ _ _ => (pe_callTy (T := "str") (r := rStrI CR (spRuleStr K CR) E0) (call_strI G_str hr3 stR isS b_str pass0) (by rfl) n_str (by decide +kernel) (pa_cons (pv 2) pa_nil)))) pa_nil)))
      (pss_one (ps_ret (pe_join pe_str (pv 1))))), ?_⟩
    have zl := lines_len hl hk g hz
    refine Evl.q_asgL (xs := [V.str (firstLine ks)]) (Evl.el_lst (Evl.ea_cons (ev_joinP (l := ("raise" : Str) :: ks) Evl.ev_c (EvP.lst (vs := (("raise" : Str) :: ks).map V.str) (Evl.el_lst (vs := (("raise" : Str) :: ks).map V.str) (Evl.ea_cons Evl.ev_c ?_) ?_) fun _ _ _ h => .inl (Evl.sq_of h)) (raises_len hl hk).1) Evl.ea_nil) (by show 1 ≤ 100000; decide)) fun L H1 nL e1 hL => ?_
    · have q0 := ea_star (K := K) (xs := ks.map V.str) (ys := []) (tr := tNil) (ev_fld (σ := L2.start ["self", "lines", "rule"] [V.ref p]) (Evl.ev_var (i := 0) rfl) h1 TP.cl TP.nR (pf_raises _ _)) h2 Evl.ea_nil
      rw [List.append_nil] at q0
      exact q0
    · rw [List.length_map, List.length_cons]
      omega
    · refine ⟨_, rfl, .inl ⟨rfl, _, Evl.sq_of hL⟩, ?_⟩
      refine (el_rulesT (fun r => V.str (ruleText r)) (ev_fld (Evl.ev_var rfl) (e1 _ _ h1) TP.cl TP.nU (pf_rules _ _)) (Evl.ex_t e1 h3) (hR.ex e1) (by rw [paired_len hR]; omega) (fun _ => rfl) (fun u r H2 e2 hr ho => ev_strR (EvP.of (p := u) (Evl.ev_var rfl) fun H3 e => ho.ex e) (g r hr))) H1 (Ex.refl _) _ fun Z H2 nZ e2 hZ => ?_
      have e12 := e1.trans e2
      refine ⟨L, Z, _, _, rfl, rfl, e2 _ _ hL, hZ, ?_, ?_⟩
      · rw [List.length_map]
        exact size_of (by simp only [List.length_cons, List.length_nil]; omega)
      · have el : [V.str (firstLine ks)] ++ rs.map (fun r => V.str (ruleText r)) = (firstLine ks :: rs.map ruleText).map V.str := by
          rw [List.map_cons, List.map_map]
          rfl
        rw [el]
        dsimp only
        refine Evl.s_ret (v := .str (planText ks rs)) ?_ ?_
        rotate_left
        · exact fun H4 e4 => q H4 ((Ex.mut e12 nL).trans e4)
        exact ev_joinP (K := K) (l := firstLine ks :: rs.map ruleText) Evl.ev_c (EvP.of (p := L) (Evl.ev_var rfl) fun H3 e3 => .inl (Evl.sq_of (e3 _ _ upd_same))) (Nat.le_trans zl (by decide))
end
end Ov


namespace Ov
open PySem PySem.Spec PyProof.Rows L2
open Evl (pss_cut tCut Ex Ev EvT EvL EvA EvU)
/-! ### the law's drawn plans, their texts -/
def allKs : Nat → List (List Str)
  | 0 => [[]]
  | n + 1 => [] :: lettersL.flatMap fun k => (allKs n).map (k :: ·)
theorem in_allKs : ∀ {n : Nat} {ks : List Str}, ks.length ≤ n → (∀ k ∈ ks, k ∈ lettersL) → ks ∈ allKs n
  | 0, [], _, _ => List.mem_singleton.mpr rfl
  | _ + 1, [], _, _ => List.mem_cons_self
  | n + 1, k :: ks, h, g => List.mem_cons_of_mem _ (List.mem_flatMap.mpr ⟨k, g k List.mem_cons_self, List.mem_map.mpr ⟨ks, in_allKs (by simpa using h) fun x hx => g x (List.mem_cons_of_mem _ hx), rfl⟩⟩)
/-- in the order of their texts -/
def Asc (ks : List Str) : Prop := ks = lettersL.filter fun k => decide (k ∈ ks)
theorem sub_asc {ks : List Str} (h : ks.Sublist lettersL) : Asc ks := by
  have a : ∀ ks ∈ allKs 4, ks.isSublist lettersL = true → ks = lettersL.filter fun k => decide (k ∈ ks) := by decide +kernel
  exact a ks (in_allKs h.length_le fun k hk => h.subset hk) (List.isSublist_iff_sublist.mpr h)
theorem sub_good {ks : List Str} (h : ks.Sublist lettersL) : GoodKs ks := ⟨h.length_le, h.nodup (by decide +kernel), fun k hk => h.subset hk⟩
theorem sorted_asc {ks : List Str} (g : GoodKs ks) (h : sortedS ks = true) : Asc ks := by
  have a : ∀ ks ∈ allKs 4, sortedS ks = true → ks.Nodup → ks = lettersL.filter fun k => decide (k ∈ ks) := by decide +kernel
  exact a ks (in_allKs g.1 g.2.2) h g.2.1
theorem GoodKs.perm {ks ys : List Str} (g : GoodKs ks) (p : ys.Perm ks) : GoodKs ys := ⟨by rw [p.length_eq]; exact g.1, p.nodup_iff.mpr g.2.1, fun k hk => g.2.2 k (p.mem_iff.mp hk)⟩
/-- the kinds that a plan keeps are just these -/
theorem sorted_one {ks ys : List Str} (g : GoodKs ks) (h : Asc ks) (s : sortedOf ks ys) : ys = ks := by
  have e := sorted_asc (g.perm s.1) s.2
  unfold Asc at h e
  rw [h, e]
  exact List.filter_congr fun k _ => decide_eq_decide.mpr s.1.mem_iff
theorem sorted_same {ks ms ys : List Str} (g : GoodKs ks) (h : Asc ms) (p : ks.Perm ms) (s : sortedOf ks ys) : ys = ms := sorted_one ((g.perm p.symm)) h ⟨s.1.trans p, s.2⟩
theorem asc_filter (g : Str → Bool) : Asc (lettersL.filter g) := by
  unfold Asc
  refine List.filter_congr fun k hk => ?_
  by_cases h : g k = true
  · rw [h, decide_eq_true (List.mem_filter.mpr ⟨hk, h⟩)]
  · rw [decide_eq_false fun z => h (List.mem_filter.mp z).2]
    simpa using h
/-- at p a drawn plan: kinds, rules -/
def PlanAt (H : Hp) (p : Addr) (ks : List Str) (rs : List RuleD) : Prop := ∃ (t L : Addr) (xs : List V), H p = some (.tup [.ref t, .ref L]) ∧ H t = some (.tup (ks.map V.str)) ∧ H L = some (.lst xs) ∧ DrawnAt H xs rs
theorem PlanAt.ex {H H' : Hp} {p : Addr} {ks : List Str} {rs : List RuleD} (e : Ex H H') (h : PlanAt H p ks rs) : PlanAt H' p ks rs := by
  obtain ⟨t, L, xs, h1, h2, h3, h4⟩ := h
  exact ⟨t, L, xs, e _ _ h1, e _ _ h2, e _ _ h3, h4.ex e⟩
theorem kp_of {H H' : Hp} {a b x : Addr} (k : Kp a b H H') (D : Deal H a b) {zs : List V} (h : H x = some (.tup zs)) : H' x = some (.tup zs) := by
  obtain ⟨ns, m, h1, h2, _⟩ := D.ex
  exact k x _ (fun z => by rw [z, h1] at h; cases h) (fun z => by rw [z, h2] at h; cases h) h
/-- .. of whose list S holds -/
def PlanFar (S : Addr → Prop) (H : Hp) (p : Addr) (ks : List Str) (rs : List RuleD) : Prop := ∃ (t L : Addr) (xs : List V), H p = some (.tup [.ref t, .ref L]) ∧ H t = some (.tup (ks.map V.str)) ∧ H L = some (.lst xs) ∧ DrawnAt H xs rs ∧ S L
abbrev Far (a b : Addr) : Addr → Prop := fun L => L ≠ a ∧ L ≠ b
section
variable {S : Addr → Prop} {H H' : Hp} {a b p : Addr} {ks : List Str} {rs : List RuleD}
theorem PlanFar.at_ (h : PlanFar S H p ks rs) : PlanAt H p ks rs := by
  obtain ⟨t, L, xs, h1, h2, h3, h4, _⟩ := h
  exact ⟨t, L, xs, h1, h2, h3, h4⟩
theorem PlanFar.imp {S2 : Addr → Prop} (h : PlanFar S H p ks rs) (i : ∀ L, S L → S2 L) : PlanFar S2 H p ks rs := by
  obtain ⟨t, L, xs, h1, h2, h3, h4, h5⟩ := h
  exact ⟨t, L, xs, h1, h2, h3, h4, i L h5⟩
theorem PlanFar.ex (e : Ex H H') (h : PlanFar S H p ks rs) : PlanFar S H' p ks rs := by
  obtain ⟨t, L, xs, h1, h2, h3, h4, h5⟩ := h
  exact ⟨t, L, xs, e _ _ h1, e _ _ h2, e _ _ h3, h4.ex e, h5⟩
theorem PlanFar.kpS (hS : ∀ L, S L → L ≠ a ∧ L ≠ b) (k : Kp a b H H') (D : Deal H a b) (h : PlanFar S H p ks rs) : PlanFar S H' p ks rs := by
  obtain ⟨t, L, xs, h1, h2, h3, h4, h5⟩ := h
  exact ⟨t, L, xs, kp_of k D h1, kp_of k D h2, k _ _ (hS L h5).1 (hS L h5).2 h3, h4.kp k D, h5⟩
theorem PlanFar.kp (k : Kp a b H H') (D : Deal H a b) (h : PlanFar (Far a b) H p ks rs) : PlanFar (Far a b) H' p ks rs := h.kpS (fun _ z => z) k D
theorem PlanFar.new (D : Deal H a b) (h : PlanFar (fun L => H L = none) H' p ks rs) : PlanFar (Far a b) H' p ks rs := h.imp fun L z => ⟨D.nea z, D.neb z⟩
theorem PlanFar.updL {D : Addr} {zs : List V} {o : HO} (hD : H D = some (.lst zs)) (hS : ∀ L, S L → L ≠ D) (h : PlanFar S H p ks rs) : PlanFar S (upd H D o) p ks rs := by
  obtain ⟨t, L, xs, h1, h2, h3, h4, h5⟩ := h
  refine ⟨t, L, xs, ?_, ?_, ?_, h4.updL hD, h5⟩
  · rw [upd_ne (ne_of h1 hD (fun z => nomatch z))]
    exact h1
  · rw [upd_ne (ne_of h2 hD (fun z => nomatch z))]
    exact h2
  · rw [upd_ne (hS L h5)]
    exact h3
end
def spWidePlan : Sp := fun vs H Q _ => ∃ (a b : Addr) (m : Nat), vs = [.ref a, .int (m : Int)] ∧ m ≤ 10 ∧ Deal H a b ∧ ∀ p ks rs H', ks.Sublist lettersL → rs.length ≤ m → Kp a b H H' → Deal H' a b → PlanFar (fun L => H L = none) H' p ks rs → Q (.ref p) H'
section
variable {P : Program} {w : World} {K : PySem.W.Frag} {mg : Str → Option Value} {base : Heap} {a_LETTERS a_LETTER_TESTS a_LETTER_DEEDS a_ANSWER_TESTS a_ANSWER_DEEDS CR CP : Addr} {tA tN : Tok}
def spText (K : PySem.W.Frag) : Sp := fun vs H Q _ => ∃ (p : Addr) (ks : List Str) (rs : List RuleD), vs = [.ref p] ∧ PlanAt H p ks rs ∧ ks.length ≤ 4 ∧ (∀ k ∈ ks, k ∈ lettersL) ∧ rs.length ≤ 10 ∧ ∀ H', Ex H H' → Q (.str (planText ks rs)) H'
theorem el_drawnL {σ : L2.St} {H : Hp} {tl te : TE} {a : Addr} {xs : List V} {rs : List RuleD} {j : Nat} {vs : List Nat} (g : RuleD → V) (h : Ev tl σ H (.ref a)) (hx : SqL K H a xs) (hR : DrawnAt H xs rs) (hz : xs.length ≤ 40000) (hw : ∀ x, wipe ((wipe σ vs).set j (some x)) vs = wipe σ vs)
    (he : ∀ p r H1, Ex H H1 → r ∈ rs → r.Ok → RuleAt H1 p r → Ev te ((wipe σ vs).set j (some (.ref p))) H1 (g r)) : EvL (tLc (iList K tl) (gName j) tYes te vs) σ H (rs.map g) := by
  have e : (List.range xs.length).map (fun i => ((rs[i]?).map g).getD .non) = rs.map g := range_at rs (paired_len hR) _ g fun i r hi => by rw [hi]; rfl
  rw [← e, ← given_all]
  refine Evl.el_lcL (fun _ => true) _ h hx hz hw (fun _ _ _ _ _ => et_yes) (fun i x H1 e1 hi _ => ?_)
  obtain ⟨p, r, rfl, hr, ho, ok⟩ := hR.at_ hi
  show Ev te _ H1 (((rs[i]?).map g).getD .non)
  rw [hr]
  exact he p r H1 e1 (List.mem_of_getElem? hr) ok (ho.same (ex_same e1))
theorem ev_ruleText {σ : L2.St} {H : Hp} {ta : TE} {p : Addr} {r : RuleD} (h : Ev ta σ H (.ref p)) (hp : RuleAt H p r) (g : r.Good) : Ev (tCall (spRuleText K) [] E0 (tCons ta tNil)) σ H (.str (ruleText r)) := fun H1 e1 Q q =>
  h H1 e1 _ fun H2 e2 => by
    obtain ⟨t, d, h1, h2, h3⟩ := hp.same (ex_same (e1.trans e2))
    exact ⟨p, t, d, r, rfl, Evl.st_of h1, Evl.st_of h2, Evl.st_of h3, g, fun H3 e3 => q H3 (e2.trans e3)⟩
theorem DrawnAt.good {H : Hp} {r : RuleD} : ∀ {xs : List V} {rs : List RuleD}, DrawnAt H xs rs → r ∈ rs → r.Good
  | _, _, .nil, h => nomatch h
  | _, _, .cons ⟨_, _, _, ok⟩ t, h => by
    rcases List.mem_cons.mp h with rfl | h
    · exact ok.good
    · exact DrawnAt.good t h
/-- a list and a list put together -/
theorem ev_catL {σ : L2.St} {H : Hp} {ta tb : TE} {xs ys : List V} (ha : EvL ta σ H xs) (hb : ∀ H1, Ex H H1 → EvL tb σ H1 ys) (hz : xs.length + ys.length ≤ sizeLine) : EvP (tOp rCat ta tb) σ H (fun p H2 => H2 p = some (.lst (xs ++ ys))) := fun H1 e1 Q q =>
  ha H1 e1 _ fun p H2 np e2 hp => hb H2 (e1.trans e2) H2 (Ex.refl _) _ fun u H3 nu e3 hu => ⟨p, u, xs, ys, rfl, rfl, e3 _ _ hp, hu, hz, fun l nl => q l _ ((e2.trans e3).trans (Ex.new nl)) upd_same⟩
end
end Ov


namespace Ov
open PySem PySem.Spec PyProof.Rows L2
open Evl (pss_cut tCut Ex Ev EvT EvL EvA EvU)
/-! ### expressions over plans -/
/-- at p a Plan of these kinds and rules -/
def PlanIs (K : PySem.W.Frag) (CR CP : Addr) (ks : List Str) (rs : List RuleD) (p : Addr) (H : Hp) : Prop := ∃ xs, PlanObj K CP H p ks xs ∧ RulesAt K CR H xs rs
structure PlanOk (ks : List Str) (rs : List RuleD) : Prop where
  sl : ks.Sublist lettersL
  g : ∀ r ∈ rs, r.Good
  hz : rs.length ≤ 10
theorem letters_plain : Plain lettersL := by
  have a : ∀ x ∈ lettersL, PyData.canLay0 (.str x) = true := by decide +kernel
  exact a
theorem sub_plain {ks : List Str} (h : ks.Sublist lettersL) : Plain ks := fun x hx => letters_plain x (h.subset hx)
theorem pf_other {a b : Addr} {m : Str} (h : m ≠ "rules" ∧ m ≠ "raises") : (pf a b).lookup m = none := by
  unfold pf
  rw [lookup_putF, if_neg h.1, lookup_putF, if_neg h.2]
  rfl
section
variable {K : PySem.W.Frag} {CR CP df1 : Addr} {σ : L2.St} {H : Hp} {ta tb : TE} {ks ms : List Str} {rs us : List RuleD}
theorem PlanIs.ex {p : Addr} {H' : Hp} (h : PlanIs K CR CP ks rs p H) (e : Ex H H') : PlanIs K CR CP ks rs p H' := by
  obtain ⟨xs, h1, h2⟩ := h
  exact ⟨xs, h1.ex e, h2.ex e⟩
theorem sqt_kp {a b t : Addr} {H' : Hp} {xs : List V} (k : Kp a b H H') (D : Deal H a b) (h : SqT K H t xs) : SqT K H' t xs := by
  obtain ⟨ns, m, h1, h2, _⟩ := D.ex
  rcases h with (h | ⟨u, h⟩) | h
  · exact .inl (.inl (k _ _ (ne_of h h1 fun z => nomatch z) (ne_of h h2 fun z => nomatch z) h))
  · exact .inl (.inr ⟨u, k _ _ (ne_of h h1 fun z => nomatch z) (ne_of h h2 fun z => nomatch z) h⟩)
  · exact .inr h
theorem RuleObj.kp {a b p : Addr} {H' : Hp} {r : RuleD} (k : Kp a b H H') (D : Deal H a b) (h : RuleObj K CR H p r) : RuleObj K CR H' p r := by
  obtain ⟨dx, t, d, h3, h4, h5⟩ := h
  obtain ⟨ns, m, h1, h2, _⟩ := id D.ex
  exact ⟨dx, t, d, k _ _ (ne_of h3 h1 fun z => nomatch z) (ne_of h3 h2 fun z => nomatch z) h3, sqt_kp k D h4, sqt_kp k D h5⟩
theorem RulesAt.kp {a b : Addr} {H' : Hp} (k : Kp a b H H') (D : Deal H a b) : ∀ {xs : List V} {rs : List RuleD}, RulesAt K CR H xs rs → RulesAt K CR H' xs rs
  | _, _, .nil => .nil
  | _, _, .cons ⟨p, h1, h2⟩ t => .cons ⟨p, h1, h2.kp k D⟩ (RulesAt.kp k D t)
theorem PlanIs.kp {a b p : Addr} {H' : Hp} (k : Kp a b H H') (D : Deal H a b) (h : PlanIs K CR CP ks rs p H) : PlanIs K CR CP ks rs p H' := by
  obtain ⟨xs, ⟨dx, t, d, h3, h4, h5⟩, h6⟩ := h
  obtain ⟨ns, m, h1, h2, _⟩ := id D.ex
  exact ⟨xs, ⟨dx, t, d, k _ _ (ne_of h3 h1 fun z => nomatch z) (ne_of h3 h2 fun z => nomatch z) h3, sqt_kp k D h4, sqt_kp k D h5⟩, h6.kp k D⟩
/-- != of two plans that are alike -/
theorem ev_neP (ha : EvP ta σ H (PlanIs K CR CP ks rs)) (hb : EvP tb σ H (PlanIs K CR CP ks rs)) (o : PlanOk ks rs) : Ev (tOp (rNeI CP (spPlanEq K CR CP) E0) ta tb) σ H (.bl false) := fun H1 e1 Q q =>
  ha H1 e1 _ fun p H2 e2 hp => hb H2 (e1.trans e2) _ fun p2 H3 e3 hp2 => by
    obtain ⟨xs, h1, h2⟩ := hp.ex e3
    obtain ⟨ys, h3, h4⟩ := id hp2
    obtain ⟨dx, a, b, h5, _⟩ := id h1
    obtain ⟨dy, c, d, h6, _⟩ := id h3
    exact ⟨p, p2, dx, dy, _, _, rfl, rfl, h5, h6, p, p2, ks, xs, ys, rs, rfl, h1, h3, sub_plain o.sl, h2, h4, o.g, fun H4 e4 => ⟨_, rfl, q H4 ((e2.trans e3).trans e4)⟩⟩
theorem ev_strP (ha : EvP ta σ H (PlanIs K CR CP ks rs)) (o : PlanOk ks rs) : Ev (tCB (rStrI CP (spPlanStr K CR CP) E0) (tCons ta tNil)) σ H (.str (planText ks rs)) := fun H1 e1 Q q =>
  ha H1 e1 _ fun p H2 e2 hp => by
    obtain ⟨xs, h1, h2⟩ := hp
    obtain ⟨dx, a, b, h5, _⟩ := id h1
    have gk := sub_good o.sl
    exact ⟨p, dx, _, rfl, h5, p, ks, xs, rs, rfl, h1, h2, gk.1, gk.2.2, o.g, o.hz, fun H4 e4 => ⟨_, rfl, q H4 (e2.trans e4)⟩⟩
theorem ev_lenP (ha : EvP ta σ H (PlanIs K CR CP ks rs)) (hz : rs.length ≤ 10) : Ev (tCB (rLenI CP (spPlanLen K CP) E0) (tCons ta tNil)) σ H (.int (rs.length : Int)) := fun H1 e1 Q q =>
  ha H1 e1 _ fun p H2 e2 hp => by
    obtain ⟨xs, h1, h2⟩ := hp
    obtain ⟨dx, a, b, h5, _⟩ := id h1
    have l := paired_len h2
    refine ⟨p, dx, _, rfl, h5, p, ks, xs, rfl, h1, xs.length, rfl, by omega, ?_⟩
    rw [l]
    exact q H2 e2
/-- Plan.read(text) -/
theorem evP_read (ha : Ev ta σ H (.str (planText ks rs))) (o : PlanOk ks rs) : EvP (ClX.tCMeth CP (spPlanReadG K CR CP sortedOf) E0 (tC (V.ref CP)) (tCons ta tNil)) σ H (PlanIs K CR CP ks rs) := fun H1 e1 Q q =>
  ⟨rfl, ha H1 e1 _ fun H2 e2 => by
    have gk := sub_good o.sl
    have hz := o.hz
    refine ⟨planText ks rs, firstLine ks, ks, rs, rfl, lines_read gk.2.2 o.g, first_read gk.2.2, Nat.le_trans (plan_len gk.1 gk.2.2 o.g o.hz) (by decide), Nat.le_trans (raises_len gk.1 gk.2.2).2 (by decide), by omega, o.g, gk.1, gk.2.1, gk.2.2, fun p H3 ys xs so e3 po ro => ?_⟩
    rw [sorted_one gk (sub_asc o.sl) so] at po
    exact q p H3 (e2.trans e3) ⟨xs, po, ro⟩⟩
/-- the kinds that raise, the rules of a plan -/
theorem evP_raises (TP : Cls K CP) (nR : NoAttr K CP "raises") {p : Addr} (ha : Ev ta σ H (.ref p)) (hp : PlanIs K CR CP ks rs p H) : EvP (tFld K ta "raises") σ H (fun t H2 => SqT K H2 t (ks.map V.str)) := by
  obtain ⟨xs, ⟨dx, a, b, h1, h2, h3⟩, h4⟩ := hp
  exact EvP.of (ev_fld ha h1 TP nR (pf_raises _ _)) fun H1 e1 => Evl.ex_t e1 h2
def RulesIn (K : PySem.W.Frag) (CR : Addr) (rs : List RuleD) (b : Addr) (H : Hp) : Prop := ∃ xs, (SqL K H b xs ∨ SqT K H b xs) ∧ RulesAt K CR H xs rs
theorem evP_rules (TP : Cls K CP) (nU : NoAttr K CP "rules") {p : Addr} (ha : Ev ta σ H (.ref p)) (hp : PlanIs K CR CP ks rs p H) : EvP (tFld K ta "rules") σ H (fun t H2 => ∃ xs, SqT K H2 t xs ∧ RulesAt K CR H2 xs rs) := by
  obtain ⟨xs, ⟨dx, a, b, h1, h2, h3⟩, h4⟩ := hp
  exact EvP.of (ev_fld ha h1 TP nU (pf_rules _ _)) fun H1 e1 => ⟨xs, Evl.ex_t e1 h3, h4.ex e1⟩
theorem evP_list {tl : TE} (h : EvP tl σ H (fun t H2 => ∃ xs, SqT K H2 t xs ∧ RulesAt K CR H2 xs rs)) : EvP (tCB (rListOf K) (tCons tl tNil)) σ H (RulesIn K CR rs) := fun H1 e1 Q q =>
  h H1 e1 _ fun t H2 e2 ⟨xs, h1, h2⟩ => ⟨t, xs, rfl, .inr h1, fun l nl => q l _ (e2.trans (Ex.new nl)) ⟨xs, .inl (Evl.sq_of upd_same), h2.ex (Ex.new nl)⟩⟩
/-- Plan(kinds, rules), the kinds in any order -/
theorem evP_make (sl : ks.Sublist lettersL) (pm : ms.Perm ks) (hz : rs.length ≤ 1000) (ha : EvP ta σ H (fun a H2 => SqL K H2 a (ms.map V.str) ∨ SqT K H2 a (ms.map V.str))) (hb : EvP tb σ H (RulesIn K CR rs)) : EvP (tMake CP (spPlanInitG K CR CP sortedOf) [] E0 (tCons ta (tCons tb tNil))) σ H (PlanIs K CR CP ks rs) := fun H1 e1 Q q =>
  ha H1 e1 _ fun a H2 e2 sa => hb H2 (e1.trans e2) _ fun b H3 e3 ⟨xs, sb, R⟩ => by
    refine run_mkP (exB e3 sa) ((sub_good sl).perm pm) sb R (by rw [paired_len R]; exact hz) (Ex.refl H3) fun p H4 ys so e4 po ro => ?_
    rw [sorted_same ((sub_good sl).perm pm) (sub_asc sl) pm so] at po
    exact q p H4 ((e2.trans e3).trans e4) ⟨xs, po, ro⟩
/-- Plan(kinds) -/
theorem evP_bare (sl : ks.Sublist lettersL) (dfT : ∀ H, SqT K H df1 []) (ha : EvP ta σ H (fun a H2 => SqT K H2 a (ks.map V.str))) : EvP (tMake CP (spPlanInitG K CR CP sortedOf) [V.ref df1] E0 (tCons ta tNil)) σ H (PlanIs K CR CP ks []) := fun H1 e1 Q q =>
  ha H1 e1 _ fun a H2 e2 sa => by
    refine run_mkP (.inr sa) (sub_good sl) (.inr (dfT _)) .nil (Nat.zero_le _) (Ex.refl H2) fun p H4 ys so e4 po ro => ?_
    rw [sorted_one (sub_good sl) (sub_asc sl) so] at po
    exact q p H4 (e2.trans e4) ⟨[], po, ro⟩
/-- Plan(rules=[one rule]) -/
theorem evP_kw {te : TE} {r : RuleD} (dfT : ∀ H, SqT K H df1 []) (h : EvP te σ H (fun p H2 => RuleObj K CR H2 p r)) : EvP (tMakeK CP 0 (["rules"] : List Str).length (spPlanInitG K CR CP sortedOf) (fun vs zs => vs ++ V.ref df1 :: zs) E0 tNil (tCons (tLst (tCons te tNil)) tNil)) σ H (PlanIs K CR CP [] [r]) := fun H1 e1 Q q =>
  h H1 e1 _ fun u H2 e2 hu => ⟨by show 1 ≤ sizeLine; decide, fun L nL => ⟨rfl, rfl, by
    have e3 : Ex H2 (upd H2 L (.lst [V.ref u])) := Ex.new nL
    refine run_mkP (ks := []) (rs := [r]) (.inr (dfT _)) ⟨Nat.zero_le _, List.Pairwise.nil, fun k hk => nomatch hk⟩ (.inl (Evl.sq_of upd_same)) (.cons ⟨u, rfl, hu.ex e3⟩ .nil) (by show 1 ≤ 1000; decide) (Ex.refl _) fun p H4 ys so e4 po ro => ?_
    have ey : ys = [] := List.perm_nil.mp so.1
    rw [ey] at po
    exact q p H4 ((e2.trans e3).trans e4) ⟨_, po, ro⟩⟩⟩
/-- p + q -/
theorem evP_add (sl : ks.Sublist lettersL) (ha : EvP ta σ H (PlanIs K CR CP ks rs)) (hb : EvP tb σ H (PlanIs K CR CP [] us)) (hz : rs.length + us.length ≤ 900) : EvP (tOp (rAddI CP (spPlanAdd K CR CP) E0) ta tb) σ H (PlanIs K CR CP ks (rs ++ us)) := fun H1 e1 Q q =>
  ha H1 e1 _ fun p H2 e2 hp => hb H2 (e1.trans e2) _ fun p2 H3 e3 hp2 => by
    obtain ⟨xs, h1, h2⟩ := hp.ex e3
    obtain ⟨ys, h3, h4⟩ := id hp2
    obtain ⟨dx, a, b, h5, _⟩ := id h1
    obtain ⟨dy, c, d, h6, _⟩ := id h3
    refine ⟨p, p2, dx, dy, _, _, rfl, rfl, h5, h6, p, p2, ks, [], xs, ys, rs, us, rfl, h1, h3, h2, h4, by rw [paired_len h2, paired_len h4]; exact hz, fun o H4 zs so e4 po ro => ⟨o, rfl, ?_⟩⟩
    have eb : bothKs ks [] = ks := by
      have e := sub_asc sl
      unfold Asc at e
      rw [e]
      unfold bothKs
      refine List.filter_congr fun k _ => ?_
      rw [← e]
      simp
    rw [eb] at so
    rw [sorted_one (sub_good sl) (sub_asc sl) so] at po
    exact q o H4 ((e2.trans e3).trans e4) ⟨_, po, ro⟩
/-- one rule of a plan -/
theorem evP_item {ti : TE} {p : Addr} {i : Nat} {r : RuleD} (ha : Ev ta σ H (.ref p)) (hp : PlanIs K CR CP ks rs p H) (hi : Ev ti σ H (.int (i : Int))) (hr : rs[i]? = some r) : EvP (tOp (rIxI CP (spPlanItem K CP) E0) ta ti) σ H (fun p H2 => RuleObj K CR H2 p r) := fun H1 e1 Q q =>
  ha H1 e1 _ fun H2 e2 => hi H2 (e1.trans e2) _ fun H3 e3 => by
    obtain ⟨xs, h1, h2⟩ := hp.ex ((e1.trans e2).trans e3)
    obtain ⟨dx, a, b, h5, _⟩ := id h1
    have hl : i < xs.length := by rw [paired_len h2]; exact (List.getElem?_eq_some_iff.mp hr).1
    obtain ⟨u, r2, hu, hr2, ho⟩ := h2.at_ (List.getElem?_eq_getElem hl)
    rw [hr] at hr2
    obtain rfl := Option.some.inj hr2
    refine ⟨p, dx, _, rfl, h5, p, ks, xs, i, _, rfl, h1, List.getElem?_eq_getElem hl, ?_⟩
    rw [hu]
    exact q u H3 (e2.trans e3) ho
/-- two new lists of the same texts are not unequal -/
theorem ev_neSL {l : List Str} (ol : Plain l) (ha : EvL ta σ H (l.map V.str)) (hb : EvL tb σ H (l.map V.str)) : Ev (tOp (rNeD K) ta tb) σ H (.bl false) := Evl.ev_opLL ha hb fun p q H1 hp hq _ => fun H2 e2 Q k =>
  ⟨_, _, .lst (Evl.sq_of (e2 _ _ hp)) (dp_strs l), .lst (Evl.sq_of (e2 _ _ hq)) (dp_strs l), shaped_strsL l ol, shaped_strsL l ol, by
    rw [eqv_strsL, decide_eq_true rfl]
    exact k H2 (Ex.refl _)⟩
/-- Rule.read(str(rule)) -/
theorem evP_ruleRead {r : RuleD} (ha : Ev ta σ H (.str (ruleText r))) (g : r.Good) : EvP (ClX.tCMeth CR (spRuleReadG K CR) E0 (tC (V.ref CR)) (tCons ta tNil)) σ H (fun p H2 => RuleObj K CR H2 p r) := fun H1 e1 Q q =>
  ⟨rfl, ha H1 e1 _ fun H2 e2 => ⟨r, rfl, g, fun p H3 e3 ro => q p H3 (e2.trans e3) ro⟩⟩
end
end Ov


namespace Ov
open PySem PySem.Spec PyProof.Rows L2
open Evl (pss_cut tCut Ex Ev EvT EvL EvA EvU)
/-! ### own rules: x.rpartition(sep) -/
section
variable {X : Cx}
theorem mt_rpartition : MtR X "str.rpartition" (fun x xs H Q => ∃ a b, x = .str a ∧ xs = [.str b] ∧ (b.length == 0) = false ∧ a.length ≤ sizeLine ∧
    ∀ p, H p = none → Q (.ref p) (upd H p (.tup [.str (Txt.rpartition a b).1, .str (Txt.rpartition a b).2.1, .str (Txt.rpartition a b).2.2]))) := by
  intro pins s σ H x xs v us Q I rx rs h
  obtain ⟨a, b, rfl, rfl, hb, hz, h⟩ := h
  obtain ⟨t, rfl⟩ := rx
  cases rs with
  | cons r1 rs =>
    cases rs
    obtain ⟨u, rfl⟩ := r1
    refine call_meets F.slot_str_rpartition (typeIs_str _ _ _) F.entry_str_rpartition (F.args_str_rpartition_2 _ _) (meets_str_rpartition a b t u hb hz) ?_
    unfold Txt.rpartition at h
    revert h
    cases Builtin.Str.lastOccurrence a b 0 a.length with
    | none => intro h; exact laid_parts I h
    | some i => intro h; exact laid_parts I h
theorem pe_rpartition {o e : Expr} {to te : TE} {apos pos : Pos} (ho : PE X o to) (he : PE X e te) (hs : starEach [e] X.env = [(false, eval e X.env)] := by rfl) (hbase : attributeBase o "rpartition" X.env (eval o X.env) = eval o X.env := by rfl) (hline : (apos.endLine == pos.line) = true := by rfl) :
    PE X (.Call (.Attribute o "rpartition" apos) [e] [] pos) (tM1 (fun x xs H Q => ∃ a b, x = .str a ∧ xs = [.str b] ∧ (b.length == 0) = false ∧ a.length ≤ sizeLine ∧
      ∀ p, H p = none → Q (.ref p) (upd H p (.tup [.str (Txt.rpartition a b).1, .str (Txt.rpartition a b).2.1, .str (Txt.rpartition a b).2.2]))) to te) :=
  pe_m1 F.slot_str_rpartition F.type_str_rpartition mt_rpartition ho he hs hbase hline
end
/-! ### what a plan does, as functions -/
def letterKinds : List Str := ["ask", "day", "off", "stop"]
def relsL : List Str := ["nothing", "above", "later", "level", "below"]
def holdsAll : List Str := ["above", "later", "level", "below"]
def holdsD : List (Str × List Str) := [("", holdsAll), ("above", ["above"]), ("level", ["later", "level"]), ("later", ["above", "later"])]
def lastWord (t : Str) : Str × Str × Str := Txt.rpartition (Txt.removeprefix t "not ") " "
def holdsM (t tw to : Str) : Bool := decide ((if (lastWord t).2.2 = "whole" then tw else to) ∈ (holdsD.lookup (lastWord t).1).getD []) != Txt.startswith t "not "
def relationM (n i : Int) : Option (Int × Int) → Str
  | none => "nothing"
  | some (m, j) => if n = m then (if i > j then "later" else "level") else if n > m then "above" else "below"
def letterRuleM (rs : List RuleD) (k tw to : Str) : Option Nat := rs.findIdx? fun r => decide (r.k = k) && r.ts.all fun t => holdsM t tw to
def answerRuleM (rs : List RuleD) (lv : Bool) : Option Nat := rs.findIdx? fun r => decide (r.k = ("answer" : Str)) && r.ts.all fun t => lv != Txt.startswith t "not "
def deedsM (rs : List RuleD) : Option Nat → List Str
  | none => []
  | some i => ((rs[i]?).map RuleD.ds).getD []
def wholeKind (k : Str) : Bool := decide (k ∈ (["ask", "stop"] : List Str))
def last1 (l : List Str) : List Str := l.drop (l.length - 1)
def effectM (k : Str) (ds : List Str) : Bool × Bool :=
  if wholeKind k then (decide (("take" : Str) ∈ ds), decide (("wipe" : Str) ∈ ds)) else (decide (last1 ds = ([("take" : Str)])), decide (last1 ds = ([("wipe" : Str)])))
/-- a number, or nothing, as a value -/
def ov : Option Nat → V
  | none => .non
  | some i => .int (i : Int)
theorem relation_in (n i : Int) (p : Option (Int × Int)) : relationM n i p ∈ relsL := by
  rcases p with _ | ⟨m, j⟩
  · show ("nothing" : Str) ∈ relsL
    decide +kernel
  · show (if n = m then (if i > j then ("later" : Str) else "level") else if n > m then "above" else "below") ∈ relsL
    split <;> split <;> decide +kernel
theorem letter_test {k t : Str} (hk : k ∈ letterKinds) (h : t ∈ testsNot k) : t ∈ testsL ++ testsL.map (("not " : Str) ++ ·) := by
  have a : ∀ k ∈ letterKinds, testsNot k = testsL ++ testsL.map (("not " : Str) ++ ·) := by decide +kernel
  rw [← a k hk]
  exact h
theorem held_word {t : Str} (h : t ∈ testsL ++ testsL.map (("not " : Str) ++ ·)) : ∃ l, holdsD.lookup (lastWord t).1 = some l := by
  have a : ∀ t ∈ testsL ++ testsL.map (("not " : Str) ++ ·), (holdsD.lookup (lastWord t).1).isSome = true := by decide +kernel
  exact Option.isSome_iff_exists.mp (a t h)
theorem evP_ite {σ : L2.St} {H : Hp} {t : TT} {ta tb : TE} {b : Bool} {Pp : Addr → Hp → Prop} (h : EvT t σ H b) (h1 : b = true → EvP ta σ H Pp) (h2 : b = false → EvP tb σ H Pp) : EvP (tIf t ta tb) σ H Pp := fun H1 e Q q => h H1 e _ fun H2 e2 => by
  cases b with
  | true => exact h1 rfl H2 (e.trans e2) Q fun p H3 e3 => q p H3 (e2.trans e3)
  | false => exact h2 rfl H2 (e.trans e2) Q fun p H3 e3 => q p H3 (e2.trans e3)
end Ov


namespace Ov
open PySem PySem.Spec PyProof.Rows L2
/-! ### enumerate(a tuple): the library's walk, as a turn of the layer -/
theorem meets_enumerate_newB1 {v : Value} {o : Obj} {H : Heap → Prop} (B : Begins v o H) :
    Meets (Builtin.«enumerate.__new__» ⟨[.type "enumerate", v], []⟩) (fun _ R s => H s.heap ∧
      R (.ok (.ret (.ref (s.heap.push o).objs.size))) { s with heap := (s.heap.push o).push { cls := .type "enumerate", data := .fields #[.none, .bool false, .ref s.heap.objs.size, rawInt 0, .none, .none] } }) :=
  .of_wp fun prog w A R s h => by
    obtain ⟨hp, g, d, tk, os⟩ := s; obtain ⟨h1, h⟩ := h
    have hsub := sub_enumerate
    have q1 : ∀ {A' : Around} {E : Value → Shared → Prop} {Q : Value → Shared → Prop}, Q (.ref hp.objs.size) ⟨hp.push o, g, d, tk, os⟩ → wpAny (model prog w) A' (pyIter v) Q E ⟨hp, g, d, tk, os⟩ :=
      fun q => B.iter prog w _ _ ⟨hp, g, d, tk, os⟩ _ h1 q
    wp_walk using q1
    refine wpAny_stack_any fun st => wpAny_pure ?_
    split
    · rename_i c _ _ _ _ _
      cases (c == Value.type "enumerate")
      · wp_walk using q1
        exact ⟨_, rfl, h⟩
      · wp_walk using q1
        exact ⟨_, rfl, h⟩
    · wp_walk using q1
      exact ⟨_, rfl, h⟩
section
variable {prog : Program} {w : World} {A : Around} {E : Value → Shared → Prop} {s : Shared}
theorem enum_begins1 {v : Value} {o : Obj} {H : Heap → Prop} {Q : Value → Shared → Prop} (B : Begins v o H) (h1 : H s.heap)
    (h : ∀ h', IsEnum h' (s.heap.objs.size + 1) s.heap.objs.size 0 .none → h'.get? s.heap.objs.size = some o → h'.objs.size = s.heap.objs.size + 2 →
      (∀ b o, s.heap.get? b = some o → h'.get? b = some o) → Q (.ref (s.heap.objs.size + 1)) { s with heap := h' }) :
    wpAny (model prog w) A (call (.type "enumerate") [v]) Q E s := by
  refine callType_new F.called_enumerate (by decide) (F.typeCall_enumerate_1 _) (F.newCall_enumerate_1 _) (fun obj => F.args_object_init_2 obj _) F.entry_enumerate_new
    (meets_enumerate_newB1 B) ⟨h1, ?_⟩
  have hz : (s.heap.push o).objs.size = s.heap.objs.size + 1 := Heap.size_push ..
  show _ ∧ _
  rw [hz]
  have he : IsEnum ((s.heap.push o).push { cls := .type "enumerate", data := .fields #[.none, .bool false, .ref s.heap.objs.size, rawInt 0, .none, .none] }) (s.heap.objs.size + 1) s.heap.objs.size 0 .none := by
    have := Heap.get?_push_size (s.heap.push o) (o := { cls := .type "enumerate", data := .fields #[.none, .bool false, .ref s.heap.objs.size, rawInt 0, .none, .none] }) rfl
    rw [hz] at this; exact this
  refine ⟨⟨_, he, rfl⟩, h _ he (Heap.get?_push_of_some _ (Heap.get?_push_size _ B.free)) (by rw [Heap.size_push, hz]) fun b o x => Heap.get?_push_of_some _ (Heap.get?_push_of_some _ x)⟩
end
/-- a tuple's items at each turn, counted -/
def Itu (K : PySem.W.Frag) (a : Addr) : It where
  go i H := ∃ xs x, SqT K H a xs ∧ xs[i]? = some x
  yld i H v H' := ∃ p x, v = .ref p ∧ H p = none ∧ H' = upd H p (.tup [.int (i : Int), x]) ∧ ∀ xs, SqT K H a xs → xs[i]? = some x
  stop i H := ∃ xs, SqT K H a xs ∧ xs.length = i
def CntAtT (a e it : Addr) (i : Nat) (h : Heap) : Prop := ((∃ old, IsEnum h e it (i : Int) old) ∧ h.IsTupleIter it a i) ∧ e ≠ it ∧ a ≠ it ∧ a ≠ e
theorem CntAtT.stands {a e it : Addr} {i : Nat} {h : Heap} {its : List Value} (st : CntAtT a e it i h) (l : h.IsTuple a its.toArray) : (∃ old, IsEnum h e it (i : Int) old) ∧ h.IsTupleIter it a i ∧ h.IsTuple a its.toArray :=
  ⟨st.1.1, st.1.2, l⟩
theorem turn_enumT {P : Program} {w : World} {K : PySem.W.Frag} {elts : List Expr} {kk : Nat} {tpos : Pos} (a e it : Addr) : Turn P w K (.Tuple elts kk tpos) (Itu K a) [e, it] e (CntAtT a e it) where
  mem := List.mem_cons_self
  obj := by
    rintro i h ⟨⟨⟨old, he⟩, o, ho, _, hd⟩, _⟩ b hb
    rcases List.mem_cons.mp hb with rfl | hb
    · exact ⟨_, he, fun v q => nomatch q⟩
    · obtain rfl := List.mem_singleton.mp hb
      exact ⟨o, ho, fun v q => by rw [hd] at q; cases q⟩
  keep := by
    rintro i h h' ⟨⟨⟨old, he⟩, hi⟩, r⟩ k
    exact ⟨⟨⟨old, k e (by simp) _ he⟩, hi.at fun o q => k it (by simp) o q⟩, r⟩
  item := by
    rintro X rfl rfl rfl hc i pins s σ H E I hf st ⟨xs, x, hq, hx⟩
    obtain ⟨its, rv, p, hz⟩ := I.tuple hq
    obtain ⟨u, hu, ru⟩ := rv.get hx
    have hl : s.heap.IsTuple a its.toArray := p
    obtain ⟨n1, n2, n3⟩ := st.2
    have W := WalksT.enumerateD (A := X.A) (Draws.tuple (prog := X.prog) (w := X.w) (A := X.A.in1) (I.ok.hd hc) it a n2 its.toArray) e n1 (by simp [n1, n3.symm]) (by simp)
    refine W.item i s _ _ (by simpa using (List.getElem?_eq_some_iff.mp hu).1) (st.stands hl) fun T vals h1 tk hv hT tup mid k1 => ?_
    obtain ⟨t, u', hu', rfl⟩ := hv
    obtain rfl : u = u' := by
      rw [List.getElem?_toArray, hu] at hu'
      exact Option.some.inj hu'
    have hw := W.apart i T h1 mid
    refine ⟨_, rfl, W.go elts kk tpos i T { s with heap := h1, toks := tk } _ _ mid fun h2 st2 k2 => ?_⟩
    have new : ObjOk X.prog X.w (upd H T (.tup [.int (i : Int), x])) h2 T (.tup [.int (i : Int), x]) := by
      obtain ⟨o, g, cl, n, d⟩ := tup
      exact ⟨by show 2 ≤ sizeLine; decide, [.int (i : Int) t, u], .cons ⟨_, rfl⟩ (.cons ru .nil), ⟨o, k2 T o hw g, cl, n, d⟩⟩
    refine ⟨.ref T, _, I.turnedNew (t' := tk) (fun b o hb q => k2 b o hb (k1 b o hb q)) hf hT new, rfl, ⟨T, x, rfl, I.hok.fresh hT, rfl, fun ys hy => by rw [I.tuple_inj hy hq]; exact hx⟩, ⟨⟨st2.1, st2.2.1⟩, n1, n2, n3⟩, fun b hb => ?_⟩
    have hb1 : b ≠ T := fun z => hw (by rw [← z]; exact hb)
    rw [upd_ne hb1]
    exact (hf b hb).1
  done := by
    rintro X rfl rfl rfl hc i pins s σ H E I hf st ⟨xs, hq, hx⟩
    obtain ⟨its, rv, p, hz⟩ := I.tuple hq
    obtain ⟨n1, n2, n3⟩ := st.2
    have W := WalksT.enumerateD (A := X.A) (Draws.tuple (prog := X.prog) (w := X.w) (A := X.A.in1) (I.ok.hd hc) it a n2 its.toArray) e n1 (by simp [n1, n3.symm]) (by simp)
    have e : its.toArray.size = i := by simp [← hx, rv.length]
    refine W.done s _ _ (by rw [e]; exact st.stands p) fun h1 tk k1 => ⟨rfl, I.turnedL (ch := [_, _]) k1 hf⟩
  self := by
    rintro A i s Q E ⟨⟨⟨old, he⟩, _⟩, _⟩ h
    exact wpAny_pyIter_enum he h
/-- enumerate(a tuple) -/
def iEnumT (K : PySem.W.Frag) (ta : TA) : TI := fun σ H R => ta σ H fun vs H1 => ∃ (a : Addr) (xs : List V), vs = [.ref a] ∧ SqT K H1 a xs ∧ R (Itu K a) H1
theorem pi_enumT {X : Cx} {e : Expr} {ta : TA} {p pos tpos : Pos} {elts : List Expr} {kk : Nat} (hg : Gl X "enumerate") (hm : X.mg "enumerate" = none) (ha : PA X [e] ta) (hs : starEach [e] X.env = [(false, eval e X.env)] := by rfl) :
    PI X (.Tuple elts kk tpos) (.Call (.Name "enumerate" p) [e] [] pos) (iEnumT X.K ta) := by
  refine ⟨fun pins s σ H R I h => ?_⟩
  refine Call_ (ld_blt I hg hm boot_enumerate (PyProof.Rows.callWith_type1 (thn (ha.run pos pins s σ H _ I h) fun us s2 ⟨vs, H2, I2, r1, q1⟩ => ?_) hs rfl))
  obtain ⟨a, xs, ev, hq, q⟩ := q1
  subst ev
  cases r1 with
  | cons r rr =>
    cases rr
    cases r
    obtain ⟨its, rv, pl, hz⟩ := I2.tuple hq
    have hlt : a < s2.heap.objs.size := by
      obtain ⟨o, e, _⟩ := pl
      exact Heap.lt_size e
    refine enum_begins1 (begins_tuple a its.toArray) pl fun h1 he hit hsz k => wpAny_pyIter_enum he ?_
    have I3 : Inv X pins σ H2 { s2 with heap := h1 } := I2.kept (t' := s2.toks) k
    refine ⟨s2.heap.objs.size + 1, [s2.heap.objs.size + 1, s2.heap.objs.size], _, _, H2, rfl, I3, turn_enumT a (s2.heap.objs.size + 1) s2.heap.objs.size, ⟨⟨⟨.none, by simpa using he⟩, ⟨_, hit, rfl, rfl⟩⟩, Nat.succ_ne_self _, Nat.ne_of_lt hlt, Nat.ne_of_lt (Nat.lt_succ_of_lt hlt)⟩, fun b hb => ?_, q⟩
    have hle : s2.heap.objs.size ≤ b := by
      rcases List.mem_cons.mp hb with z | z
      · rw [z]; exact Nat.le_add_right _ _
      · rw [List.mem_singleton.mp z]; exact Nat.le_refl _
    exact I2.fpOk hle (I2.hok.fresh hle)
theorem walk_enumT {K : PySem.W.Frag} {a : Addr} {xs : List V} : Walk (Itu K a) xs.length (fun H => SqT K H a xs) (YPair (fun i => some (.int (i : Int))) (fun i => xs[i]?)) where
  goes _ _ hi h := ⟨xs, _, h, List.getElem?_eq_getElem hi⟩
  stops _ h := ⟨xs, h, rfl⟩
  yields := by
    rintro i H v H' _ h ⟨p, x, rfl, hp, rfl, f⟩
    exact ⟨p, _, x, rfl, hp, rfl, rfl, f xs h⟩
/-- enumerate(a list or a tuple) -/
def iEnumB (K : PySem.W.Frag) (ta : TA) : TI := fun σ H R => iEnum K ta σ H R ∨ iEnumT K ta σ H R
theorem pi_enumB {X : Cx} {e : Expr} {ta : TA} {p pos tpos : Pos} {elts : List Expr} {kk : Nat} (hg : Gl X "enumerate") (hm : X.mg "enumerate" = none) (ha : PA X [e] ta) (hs : starEach [e] X.env = [(false, eval e X.env)] := by rfl) :
    PI X (.Tuple elts kk tpos) (.Call (.Name "enumerate" p) [e] [] pos) (iEnumB X.K ta) :=
  ⟨fun pins s σ H R I h => h.elim (fun h => (pi_enum hg hm ha hs).run pins s σ H R I h) (fun h => (pi_enumT hg hm ha hs).run pins s σ H R I h)⟩
end Ov


namespace Ov
open PySem PySem.Spec PyProof.Rows L2
open Evl (pss_cut tCut Ex Ev EvT EvL EvA EvU)
/-! ### acting: what a plan does with what comes -/
structure TxW (K : PySem.W.Frag) (w : World) (mg : Str → Option Value) (a_HOLDS : Addr) : Prop where
  g_HOLDS : mg "HOLDS" = some (.ref a_HOLDS)
  s_HOLDS : ∀ z l, holdsD.lookup z = some l → ∃ q, KDct K w a_HOLDS z (.ref q) ∧ ∀ H, SqT K H q (l.map V.str)
  n_enumerate : mg "enumerate" = none
  n_all : mg "all" = none
theorem rv_isN {x : V} {H : Hp} : Evl.RV (fun x y H Q => y = .non ∧ Q (.bl (decide (x = .non))) H) x .non H (.bl (decide (x = .non))) := fun H1 _ _ q => ⟨rfl, q H1 (Ex.refl H1)⟩
theorem rv_notN {x : V} {H : Hp} : Evl.RV (fun x y H Q => y = .non ∧ Q (.bl (!decide (x = .non))) H) x .non H (.bl (!decide (x = .non))) := fun H1 _ _ q => ⟨rfl, q H1 (Ex.refl H1)⟩
def PartAt (K : PySem.W.Frag) (H : Hp) (v : V) : Option (Int × Int) → Prop
  | none => v = .non
  | some (m, j) => ∃ b, v = .ref b ∧ SqT K H b [.int m, .int j]
theorem relation_some (n i m j : Int) : relationM n i (some (m, j)) = if n = m then (if i > j then ("later" : Str) else ("level" : Str)) else if n > m then ("above" : Str) else ("below" : Str) := rfl
theorem PartAt.ex {K : PySem.W.Frag} {H H' : Hp} {v : V} (e : Ex H H') : ∀ {p : Option (Int × Int)}, PartAt K H v p → PartAt K H' v p
  | none, h => h
  | some (m, j), ⟨b, h1, h2⟩ => ⟨b, h1, Evl.ex_t e h2⟩
def spRelation (K : PySem.W.Frag) : Sp := fun vs H Q _ => ∃ (a : Addr) (v : V) (n i : Int) (p : Option (Int × Int)), vs = [.ref a, v] ∧ SqT K H a [.int n, .int i] ∧ PartAt K H v p ∧ ∀ H', Ex H H' → Q (.str (relationM n i p)) H'
def spWholeKind : Sp := fun vs H Q _ => ∃ k : Str, vs = [.str k] ∧ ∀ H', Ex H H' → Q (.bl (wholeKind k)) H'
def spDeedsM (K : PySem.W.Frag) (CR CP : Addr) : Sp := fun vs H Q _ => ∃ (p : Addr) (ks : List Str) (rs : List RuleD) (r : Option Nat), vs = [.ref p, ov r] ∧ PlanIs K CR CP ks rs p H ∧ (∀ i, r = some i → i < rs.length) ∧ ∀ t H', Ex H H' → SqT K H' t ((deedsM rs r).map V.str) → Q (.ref t) H'
def spEffect (K : PySem.W.Frag) : Sp := fun vs H Q _ => ∃ (k : Str) (t : Addr) (ds : List Str), vs = [.str k, .ref t] ∧ SqT K H t (ds.map V.str) ∧ Plain ds ∧ ds.length ≤ 1000 ∧ ∀ p H', Ex H H' → H' p = some (.tup [.bl (effectM k ds).1, .bl (effectM k ds).2]) → Q (.ref p) H'
section
variable {P : Program} {w : World} {K : PySem.W.Frag} {mg : Str → Option Value} {base : Heap} {CR CP : Addr}
abbrev sRelation : Stmt := topS 28
theorem scRelation : FnScope ["letter", "part"] ["letter", "part"] (defScope sRelation) := ⟨rfl, rfl, rfl, by decide +kernel, rfl, by decide +kernel, by decide +kernel⟩
abbrev sIsWholeKind : Stmt := topS 33
theorem scIsWholeKind : FnScope ["kind"] ["kind"] (defScope sIsWholeKind) := ⟨rfl, rfl, rfl, by decide +kernel, rfl, by decide +kernel, by decide +kernel⟩
abbrev sDeedsOf : Stmt := topS 32
theorem scDeedsOf : FnScope ["plan", "at"] ["plan", "at"] (defScope sDeedsOf) := ⟨rfl, rfl, rfl, by decide +kernel, rfl, by decide +kernel, by decide +kernel⟩
abbrev sEffect : Stmt := topS 34
theorem scEffect : FnScope ["kind", "deeds"] ["kind", "deeds"] (defScope sEffect) := ⟨rfl, rfl, rfl, by decide +kernel, rfl, by decide +kernel, by decide +kernel⟩
theorem ok_relation {f : Addr} {fd : FuncData} (F : Fun K "relation" "relation" sRelation f fd) : FnOk P w K mg base CX0 1 f fd ["letter", "part"] (spRelation K) := by
  refine F.ok scRelation (fun vs H Q E h => ?_) (fun cdv A outer s H vs Q E hr h => ?_)
  · obtain ⟨a, v, n, i, p, rfl, _⟩ := h
    rfl
  · obtain ⟨a, v, n, i, p, rfl, ha, hp, q⟩ := h
    refine ⟨_, pss_cons (ps_if (pt_cmpR op_isN (pv 1) pe_non (nomark _)) (pss_one (ps_ret pe_str)) pss_nil)
      (pss_cons (ps_if (pt_cmpR op_ne (pe_ix ix_tup (pv 0) pe_int (fun _ _ => rfl)) (pe_ix ix_tup (pv 1) pe_int (fun _ _ => rfl)) (nomark _)) (pss_one (ps_ret (pe_ifExp (pt_cmpR op_gt (pe_ix ix_tup (pv 0) pe_int (fun _ _ => rfl)) (pe_ix ix_tup (pv 1) pe_int (fun _ _ => rfl)) (nomark _)) pe_str pe_str))) pss_nil)
      (pss_one (ps_ret (pe_ifExp (pt_cmpR op_gt (pe_ix ix_tup (pv 0) pe_int (fun _ _ => rfl)) (pe_ix ix_tup (pv 1) pe_int (fun _ _ => rfl)) (nomark _)) pe_str pe_str)))), ?_⟩
    rcases p with _ | ⟨m, j⟩
    · obtain rfl : v = .non := hp
      exact Evl.q_when (b := true) (Evl.et_test (Evl.ev_op (Evl.ev_var rfl) Evl.ev_c rv_isN)) (fun _ H1 e1 => Evl.s_ret (v := .str "nothing") Evl.ev_c fun H2 e2 => q H2 (e1.trans e2)) (fun z => nomatch z)
    · obtain ⟨b, rfl, hb⟩ := hp
      refine Evl.q_when (b := false) (Evl.et_test (Evl.ev_op (Evl.ev_var rfl) Evl.ev_c rv_isN)) (fun z => nomatch z) (fun _ H1 e1 => ?_)
      have hn : ∀ H', Ex H H' → Ev (tOp (rIxT K) (tVar 0) (tC (V.int 0))) [some (.ref a), some (.ref b)] H' (.int n) := fun H' e => ev_ixT (j := 0) (Evl.ev_var rfl) Evl.ev_c (Evl.ex_t e ha) rfl
      have hi : ∀ H', Ex H H' → Ev (tOp (rIxT K) (tVar 0) (tC (V.int 1))) [some (.ref a), some (.ref b)] H' (.int i) := fun H' e => ev_ixT (j := 1) (Evl.ev_var rfl) Evl.ev_c (Evl.ex_t e ha) rfl
      have hm : ∀ H', Ex H H' → Ev (tOp (rIxT K) (tVar 1) (tC (V.int 0))) [some (.ref a), some (.ref b)] H' (.int m) := fun H' e => ev_ixT (j := 0) (Evl.ev_var rfl) Evl.ev_c (Evl.ex_t e hb) rfl
      have hj : ∀ H', Ex H H' → Ev (tOp (rIxT K) (tVar 1) (tC (V.int 1))) [some (.ref a), some (.ref b)] H' (.int j) := fun H' e => ev_ixT (j := 1) (Evl.ev_var rfl) Evl.ev_c (Evl.ex_t e hb) rfl
      refine Evl.q_when (b := !decide (n = m)) (Evl.et_is (Evl.et_test (Evl.ev_op (hn H1 e1) (hm H1 e1) (Evl.rv_ne rfl))) (by simp)) (fun hb H2 e2 => ?_) (fun hb H2 e2 => ?_)
      · have e12 := e1.trans e2
        have hne : ¬ n = m := by simpa using hb
        refine Evl.s_ret (v := .str (relationM n i (some (m, j)))) (Evl.ev_if (b := decide (n > m)) (Evl.et_test (Evl.ev_op (hn H2 e12) (hm H2 e12) Evl.rv_I0)) (fun h => ?_) (fun h => ?_)) fun H3 e3 => q H3 (e12.trans e3)
        · have h2 : n > m := of_decide_eq_true h
          rw [relation_some, if_neg hne, if_pos h2]
          exact Evl.ev_c
        · have h2 : ¬ n > m := of_decide_eq_false h
          rw [relation_some, if_neg hne, if_neg h2]
          exact Evl.ev_c
      · have e12 := e1.trans e2
        have hne : n = m := by simpa using hb
        refine Evl.s_ret (v := .str (relationM n i (some (m, j)))) (Evl.ev_if (b := decide (i > j)) (Evl.et_test (Evl.ev_op (hi H2 e12) (hj H2 e12) Evl.rv_I0)) (fun h => ?_) (fun h => ?_)) fun H3 e3 => q H3 (e12.trans e3)
        · have h2 : i > j := of_decide_eq_true h
          rw [relation_some, if_pos hne, if_pos h2]
          exact Evl.ev_c
        · have h2 : ¬ i > j := of_decide_eq_false h
          rw [relation_some, if_pos hne, if_neg h2]
          exact Evl.ev_c
theorem ok_whole_kind {f : Addr} {fd : FuncData} (F : Fun K "is_whole_kind" "is_whole_kind" sIsWholeKind f fd) : FnOk P w K mg base CX0 1 f fd ["kind"] spWholeKind := by
  refine F.ok scIsWholeKind (fun vs H Q E h => ?_) (fun cdv A outer s H vs Q E hr h => ?_)
  · obtain ⟨k, rfl, _⟩ := h
    rfl
  · obtain ⟨k, rfl, q⟩ := h
    refine ⟨_, pss_one (ps_ret (pe_cmpR op_in_seq (pv 0) (pe_tup (pa_cons pe_str (pa_cons pe_str pa_nil))) (by rfl))), ?_⟩
    refine Evl.s_ret (v := .bl (wholeKind k)) (Evl.ev_is (Evl.ev_inU (xs := (["ask", "stop"] : List Str).map V.str) (Evl.ev_var rfl) (Evl.eu_tup (Evl.ea_cons Evl.ev_c (Evl.ea_cons Evl.ev_c Evl.ea_nil)) (by show 2 ≤ 100000; decide)) rfl (flat_strs _)) ?_) fun H1 e1 => q H1 e1
    rw [inV_strs]
    rfl
theorem rule_deeds {H : Hp} {xs : List V} {rs : List RuleD} {i : Nat} (h : RulesAt K CR H xs rs) (hi : i < rs.length) : ∃ p r, xs[i]? = some (.ref p) ∧ rs[i]? = some r ∧ RuleObj K CR H p r := by
  have hl : i < xs.length := by rw [paired_len h]; exact hi
  obtain ⟨p, r, h1, h2, h3⟩ := h.at_ (List.getElem?_eq_getElem hl)
  exact ⟨p, r, by rw [List.getElem?_eq_getElem hl, h1], h2, h3⟩
theorem ok_deedsM {f : Addr} {fd : FuncData} (F : Fun K "deeds_of" "deeds_of" sDeedsOf f fd) (TR : Cls K CR) (nD : NoAttr K CR "deeds") (TP : Cls K CP) (nU : NoAttr K CP "rules") : FnOk P w K mg base CX0 1 f fd ["plan", "at"] (spDeedsM K CR CP) := by
  refine F.ok scDeedsOf (fun vs H Q E h => ?_) (fun cdv A outer s H vs Q E hr h => ?_)
  · obtain ⟨p, ks, rs, r, rfl, _⟩ := h
    rfl
  · obtain ⟨p, ks, rs, r, rfl, hp, hi, q⟩ := h
    refine ⟨_, pss_one (ps_ret (pe_ifExp (pt_cmpR op_isN (pv 1) pe_non (nomark _)) (pe_tup pa_nil) (pe_fld (pe_ix ix_tup (pe_fld (pv 0) rfl) (pv 1) (fun _ _ => rfl)) rfl))), ?_⟩
    rcases r with _ | i
    · refine (evP_ite (b := true) (Pp := fun t H2 => SqT K H2 t ((deedsM rs none).map V.str)) (Evl.et_test (Evl.ev_op (Evl.ev_var rfl) Evl.ev_c rv_isN)) (fun _ => EvP.tup (Evl.eu_tup Evl.ea_nil (Nat.zero_le _)) fun _ _ _ h => Evl.st_of h) (fun z => nomatch z)) H (Ex.refl _) _ fun t H1 e1 st => q t H1 e1 st
    · obtain ⟨xs, ⟨dx, a, b, h1, h2, h3⟩, h4⟩ := hp
      obtain ⟨u, r, hu, hr2, ho⟩ := rule_deeds h4 (hi i rfl)
      refine (evP_ite (b := false) (Pp := fun t H2 => SqT K H2 t ((deedsM rs (some i)).map V.str)) (Evl.et_test (Evl.ev_op (Evl.ev_var rfl) Evl.ev_c rv_isN)) (fun z => nomatch z) (fun _ => ?_)) H (Ex.refl _) _ fun t H1 e1 st => q t H1 e1 st
      have e : deedsM rs (some i) = r.ds := by
        show ((rs[i]?).map RuleD.ds).getD [] = r.ds
        rw [hr2]
        rfl
      rw [e]
      exact ev_fd (T := TR) (r := r) nD (ev_ixT (j := i) (ev_fld (Evl.ev_var rfl) h1 TP nU (pf_rules _ _)) (Evl.ev_var rfl) h3 hu) ho
theorem cut_last1 (xs : List V) : cutV xs (some (-1)) none = xs.drop (xs.length - 1) := by
  unfold cutV
  rw [HT.sIx_none]
  rcases Nat.eq_zero_or_pos xs.length with h | h
  · rw [List.eq_nil_of_length_eq_zero h]
    simp
  · have e : HT.sIx xs.length 0 (some (-1)) = xs.length - 1 := by
      unfold HT.sIx
      simp
      omega
    rw [e, List.take_of_length_le (by rw [List.length_drop]; omega)]
theorem ok_effect {f fW : Addr} {fd fdW : FuncData} (F : Fun K "effect" "effect" sEffect f fd) (D_is_whole_kind : Df K mg "is_whole_kind" sIsWholeKind ["kind"] fW fdW) : FnOk P w K mg base CX0 2 f fd ["kind", "deeds"] (spEffect K) := by
  have G_is_whole_kind : FnOk P w K mg base CX0 1 fW fdW ["kind"] spWholeKind := ok_whole_kind D_is_whole_kind.F
  refine F.ok scEffect (fun vs H Q E h => ?_) (fun cdv A outer s H vs Q E hr h => ?_)
  · obtain ⟨k, t, ds, rfl, _⟩ := h
    rfl
  · obtain ⟨k, t, ds, rfl, ht, pd, hl, q⟩ := h
    refine ⟨_, pss_cons (ps_if (pt_val (pe_call G_is_whole_kind (hr.mono (by decide)) rfl D_is_whole_kind.g D_is_whole_kind.F.kp D_is_whole_kind.b .nil pass0 (pa_cons (pv 0) pa_nil))) (pss_one (ps_ret (pe_tup (pa_cons (pe_cmpR op_in_seq pe_str (pv 1) (by rfl)) (pa_cons (pe_cmpR op_in_seq pe_str (pv 1) (by rfl)) pa_nil))))) pss_nil)
      (pss_one (ps_ret (pe_tup (pa_cons (pe_cmpR (op_eqD hr.units) (pe_slice sl_tupA (pv 1) (po_some (pe_un un_neg pe_int)) po_none) (pe_tup (pa_cons pe_str pa_nil)) (nomark _)) (pa_cons (pe_cmpR (op_eqD hr.units) (pe_slice sl_tupA (pv 1) (po_some (pe_un un_neg pe_int)) po_none) (pe_tup (pa_cons pe_str pa_nil)) (nomark _)) pa_nil))))), ?_⟩
    have hin : ∀ (z : Str) H', Ex H H' → Ev (tOp (rIn K false) (tC (V.str z)) (tVar 1)) [some (.str k), some (.ref t)] H' (.bl (decide (z ∈ ds))) := fun z H' e => by
      refine Evl.ev_is (Evl.ev_op Evl.ev_c (Evl.ev_var rfl) (Evl.rv_isT (Evl.ex_t e ht) rfl (flat_strs _))) ?_
      rw [inV_strs]
    have hq : ∀ (z : Str) H', Ex H H' → PyData.canLay0 (.str z) = true → Ev (tOp (rEqD K) (tSl (rSlA K) (tVar 1) (tPart (tUn (rU fun i => V.int (-i)) (tC (V.int 1)))) tNoPart) (tTup (tCons (tC (V.str z)) tNil))) [some (.str k), some (.ref t)] H' (.bl (decide (last1 ds = [z]))) := fun z H' e hz => by
      refine ev_eqTs (l := last1 ds) (m := [z]) (fun x hx => pd x (List.mem_of_mem_drop hx)) (fun x hx => by rw [List.mem_singleton.mp hx]; exact hz) ?_ (EvP.tup (Evl.eu_tup (Evl.ea_cons Evl.ev_c Evl.ea_nil) (by show 1 ≤ 100000; decide)) fun _ _ _ h => Evl.st_of h)
      have e1 := ev_slA (K := K) (xs := ds.map V.str) (lo := some (-1)) (hi := none) (te := tVar 1) (to := tPart (tUn (rU fun i => V.int (-i)) (tC (V.int 1)))) (th := tNoPart) (σ := [some (.str k), some (.ref t)]) (H := H') (Evl.ev_var rfl) (Evl.eo_some (Evl.ev_un Evl.ev_c Evl.ru_neg)) Evl.eo_none (Evl.ex_t e ht)
      rw [cut_last1, List.length_map, ← List.map_drop] at e1
      exact e1
    refine Evl.q_when (b := wholeKind k) (Evl.et_B (ev_call (Evl.ea_cons (Evl.ev_var rfl) Evl.ea_nil) fun H1 e1 Q1 q1 => ⟨k, rfl, fun H2 e2 => q1 H2 e2⟩)) (fun hb H1 e1 => ?_) (fun hb H1 e1 => ?_)
    · refine Evl.s_retU (Evl.eu_tup (Evl.ea_cons (hin "take" H1 e1) (Evl.ea_cons (hin "wipe" H1 e1) Evl.ea_nil)) (by show 2 ≤ 100000; decide)) fun p H2 _ e2 h2 => q p H2 (e1.trans e2) ?_
      unfold effectM
      rw [if_pos hb]
      exact h2
    · refine Evl.s_retU (Evl.eu_tup (Evl.ea_cons (hq "take" H1 e1 (by decide +kernel)) (Evl.ea_cons (hq "wipe" H1 e1 (by decide +kernel)) Evl.ea_nil)) (by show 2 ≤ 100000; decide)) fun p H2 _ e2 h2 => q p H2 (e1.trans e2) ?_
      unfold effectM
      rw [if_neg (by rw [hb]; decide)]
      exact h2
end
end Ov


namespace Ov
open PySem PySem.Spec PyProof.Rows L2
open Evl (pss_cut tCut Ex Ev EvT EvL EvA EvU)
/-! ### acting: the rule that is done -/
theorem rv_kd {K : PySem.W.Frag} {w : World} {H : Hp} {a : Addr} {z : Str} {v : V} (h : KDct K w a z v) : Evl.RV (rIxD K w) (.ref a) (.str z) H v := fun H1 _ _ q => ⟨a, z, v, rfl, rfl, h, q H1 (Ex.refl H1)⟩
theorem ev_starts {K : PySem.W.Frag} {σ : L2.St} {H : Hp} {ta tb : TE} {x y : Str} (ha : Ev ta σ H (.str x)) (hb : Ev tb σ H (.str y)) : Ev (tBM K "str" (fun x xs H Q => ∃ a b, x = .str a ∧ xs = [.str b] ∧ Q (.bl (Txt.startswith a b)) H) ta (tCons tb tNil)) σ H (.bl (Txt.startswith x y)) := fun H1 e Q q =>
  ha H1 e _ fun H2 e2 => ⟨rfl, hb H2 (e.trans e2) _ fun H3 e3 => ⟨_, _, rfl, rfl, q H3 (e2.trans e3)⟩⟩
theorem ne_bl (a b : Bool) : (!decide (V.bl a = V.bl b)) = (a != b) := by cases a <;> cases b <;> rfl
theorem eq_str (a b : Str) : decide (V.str a = V.str b) = decide (a = b) := by
  by_cases h : a = b
  · rw [h, decide_eq_true rfl, decide_eq_true rfl]
  · rw [decide_eq_false h, decide_eq_false fun z => h (V.str.inj z)]
theorem fi_some {α : Type} {p : α → Bool} : ∀ {l : List α} {i : Nat} {x : α}, (∀ (j : Nat) (y : α), j < i → l[j]? = some y → p y = false) → l[i]? = some x → p x = true → l.findIdx? p = some i
  | [], _, _, _, h, _ => by cases h
  | y :: l, 0, x, _, h, hp => by
    obtain rfl := Option.some.inj h
    rw [List.findIdx?_cons, hp]
    rfl
  | y :: l, i + 1, x, hn, h, hp => by
    have h0 := hn 0 y (Nat.succ_pos _) rfl
    rw [List.findIdx?_cons, h0, fi_some (fun j z hj hz => hn (j + 1) z (Nat.succ_lt_succ hj) hz) h hp]
    rfl
theorem fi_none {α : Type} {p : α → Bool} : ∀ {l : List α}, (∀ (j : Nat) (y : α), l[j]? = some y → p y = false) → l.findIdx? p = none
  | [], _ => rfl
  | y :: l, hn => by
    rw [List.findIdx?_cons, hn 0 y rfl, fi_none fun j z hz => hn (j + 1) z hz]
    rfl
theorem fi_lt {α : Type} {p : α → Bool} {l : List α} {i : Nat} (h : l.findIdx? p = some i) : i < l.length := (List.findIdx?_eq_some_iff_getElem.mp h).1
def spHolds : Sp := fun vs H Q _ => ∃ t tw to : Str, vs = [.str t, .str tw, .str to] ∧ t ∈ testsL ++ testsL.map (("not " : Str) ++ ·) ∧ ∀ H', Ex H H' → Q (.bl (holdsM t tw to)) H'
def spLetterRule (K : PySem.W.Frag) (CR CP : Addr) : Sp := fun vs H Q _ => ∃ (p : Addr) (k tw to : Str) (ks : List Str) (rs : List RuleD), vs = [.ref p, .str k, .str tw, .str to] ∧ PlanIs K CR CP ks rs p H ∧ k ∈ letterKinds ∧ (∀ r ∈ rs, r.Good) ∧ rs.length ≤ 1000 ∧ ∀ H', Ex H H' → Q (ov (letterRuleM rs k tw to)) H'
def spAnswerRule (K : PySem.W.Frag) (CR CP : Addr) : Sp := fun vs H Q _ => ∃ (p : Addr) (lv : Bool) (ks : List Str) (rs : List RuleD), vs = [.ref p, .bl lv] ∧ PlanIs K CR CP ks rs p H ∧ (∀ r ∈ rs, r.Good) ∧ rs.length ≤ 1000 ∧ ∀ H', Ex H H' → Q (ov (answerRuleM rs lv)) H'
section
variable {P : Program} {w : World} {K : PySem.W.Frag} {mg : Str → Option Value} {base : Heap} {a_LETTERS a_LETTER_TESTS a_LETTER_DEEDS a_ANSWER_TESTS a_ANSWER_DEEDS CR CP a_HOLDS : Addr} {tA tN : Tok}
abbrev sHolds : Stmt := topS 29
theorem scHolds : FnScope ["test", "to_whole", "to_own", "word", "_", "part", "plainly"] ["test", "to_whole", "to_own"] (defScope sHolds) := ⟨rfl, rfl, rfl, by decide +kernel, rfl, by decide +kernel, by decide +kernel⟩
abbrev sLetterRule : Stmt := topS 30
theorem scLetterRule : FnScope ["plan", "kind", "to_whole", "to_own", "at", "rule", "test"] ["plan", "kind", "to_whole", "to_own"] (defScope sLetterRule) := ⟨rfl, rfl, rfl, by decide +kernel, rfl, by decide +kernel, by decide +kernel⟩
abbrev sAnswerRule : Stmt := topS 31
theorem scAnswerRule : FnScope ["plan", "level", "at", "rule", "test"] ["plan", "level"] (defScope sAnswerRule) := ⟨rfl, rfl, rfl, by decide +kernel, rfl, by decide +kernel, by decide +kernel⟩
theorem ok_holds {f : Addr} {fd : FuncData} (F : Fun K "holds" "holds" sHolds f fd) (T : TxR K mg a_LETTERS a_LETTER_TESTS a_LETTER_DEEDS a_ANSWER_TESTS a_ANSWER_DEEDS CR tA tN) (TW : TxW K w mg a_HOLDS) : FnOk P w K mg base CX0 1 f fd ["test", "to_whole", "to_own"] spHolds := by
  refine F.ok scHolds (fun vs H Q E h => ?_) (fun cdv A outer s H vs Q E hr h => ?_)
  · obtain ⟨t, tw, to, rfl, _⟩ := h
    rfl
  · obtain ⟨t, tw, to, rfl, ht, q⟩ := h
    refine ⟨_, pss_cons (ps_asg (pe_rpartition (pe_bm PySem.F.plainAttrs_str PySem.F.slot_str_removeprefix PySem.F.type_str_removeprefix mt_removeprefix (pv 0) (pa_cons (pe_glob (v := .str "not ") rfl T.g_NOT ⟨_, rfl⟩) pa_nil)) pe_str) (pg_tup (by rfl) (pgs_cons (pg_name (i := 3) scHolds.nd rfl (Or.inl rfl)) (pgs_cons (pg_name (i := 4) scHolds.nd rfl (Or.inl rfl)) (pgs_cons (pg_name (i := 5) scHolds.nd rfl (Or.inl rfl)) pgs_nil)))))
      (pss_cons (ps_set (i := 6) scHolds.nd rfl (.inl rfl) (pe_cmpR op_in_seq (pe_ifExp (pt_cmpR op_eq (pv 5) pe_str (nomark _)) (pv 1) (pv 2)) (pe_ix ix_kdict (pe_glob (v := .ref a_HOLDS) rfl TW.g_HOLDS rfl) (pv 3) (fun _ _ => rfl)) (by rfl)))
      (pss_one (ps_ret (pe_cmpR op_ne (pv 6) (pe_bm PySem.F.plainAttrs_str PySem.F.slot_str_startswith PySem.F.type_str_startswith mt_startswith (pv 0) (pa_cons (pe_glob (v := .str "not ") rfl T.g_NOT ⟨_, rfl⟩) pa_nil)) (nomark _))))), ?_⟩
    have l1 : ∀ t ∈ testsL ++ testsL.map (("not " : Str) ++ ·), t.length ≤ 16 ∧ (Txt.removeprefix t "not ").length ≤ 16 := by decide +kernel
    obtain ⟨l, hl⟩ := held_word ht
    obtain ⟨q0, hk, hs⟩ := TW.s_HOLDS _ _ hl
    refine ⟨_, rfl, rfl, _, _, rfl, rfl, size_of (by have := (l1 t ht).1; omega), ⟨_, rfl⟩, _, _, rfl, rfl, by decide +kernel, size_of (by have := (l1 t ht).2; omega), fun p np => ⟨p, _, rfl, Evl.st_of upd_same, rfl, _, _, rfl, _, _, rfl, _, _, rfl, rfl, ?_⟩⟩
    have e1 : Ex H (upd H p (.tup [.str (lastWord t).1, .str (lastWord t).2.1, .str (lastWord t).2.2])) := Ex.new np
    refine Evl.q_asg (v := .bl (decide ((if (lastWord t).2.2 = ("whole" : Str) then tw else to) ∈ l))) (Evl.ev_is (Evl.ev_op (x := .str (if (lastWord t).2.2 = ("whole" : Str) then tw else to)) (Evl.ev_if (b := decide ((lastWord t).2.2 = ("whole" : Str))) (Evl.et_is (Evl.et_test (Evl.ev_op (Evl.ev_var rfl) Evl.ev_c (Evl.rv_eq rfl))) (eq_str _ _)) (fun h => ?_) (fun h => ?_)) (Evl.ev_op Evl.ev_c (Evl.ev_var rfl) (rv_kd hk)) (Evl.rv_isT (hs _) rfl (flat_strs _))) (by rw [inV_strs])) fun H2 e2 => ?_
    · rw [if_pos (of_decide_eq_true h)]
      exact Evl.ev_var rfl
    · rw [if_neg (of_decide_eq_false h)]
      exact Evl.ev_var rfl
    · refine Evl.s_ret (v := .bl (holdsM t tw to)) (Evl.ev_is (Evl.ev_op (Evl.ev_var rfl) (ev_starts (Evl.ev_var rfl) Evl.ev_c) (Evl.rv_ne rfl)) ?_) fun H3 e3 => q H3 ((e1.trans e2).trans e3)
      rw [ne_bl]
      unfold holdsM
      rw [hl]
      rfl
theorem ok_letter_rule {f fH : Addr} {fd fdH : FuncData} (F : Fun K "letter_rule" "letter_rule" sLetterRule f fd) (T : TxR K mg a_LETTERS a_LETTER_TESTS a_LETTER_DEEDS a_ANSWER_TESTS a_ANSWER_DEEDS CR tA tN) (TW : TxW K w mg a_HOLDS) (TP : TxP K mg CP) (D_holds : Df K mg "holds" sHolds ["test", "to_whole", "to_own"] fH fdH) :
    FnOk P w K mg base CX0 2 f fd ["plan", "kind", "to_whole", "to_own"] (spLetterRule K CR CP) := by
  have G_holds : FnOk P w K mg base CX0 1 fH fdH ["test", "to_whole", "to_own"] spHolds := ok_holds D_holds.F T TW
  refine F.ok scLetterRule (fun vs H Q E h => ?_) (fun cdv A outer s H vs Q E hr h => ?_)
  · obtain ⟨p, k, tw, to, ks, rs, rfl, _⟩ := h
    rfl
  · obtain ⟨p, k, tw, to, ks, rs, rfl, ⟨xs, ⟨dx, a, b, h1, h2, h3⟩, hR⟩, hk, hg, hz, q⟩ := h
    refine ⟨_, pss_cut (ps_for PassesOwn.never rfl (pi_enumT (by rfl) TW.n_enumerate (pa_cons (pe_fld (pv 0) rfl) pa_nil)) (pg_tup (by rfl) (pgs_cons (pg_name (i := 4) scLetterRule.nd rfl (Or.inl rfl)) (pgs_cons (pg_name (i := 5) scLetterRule.nd rfl (Or.inl rfl)) pgs_nil))) (pss_one (ps_if (PW.pt (pw_and (pt_cmpR op_eq (pe_fld (pv 5) rfl) (pv 1) (nomark _)) (pw_and1 (pt_val (pe_callB (cr_all rfl) (by rfl) T.n_all (by decide +kernel) (pa_cons (pe_lc (own := [("test", 6)]) (g := gName 6) (tt := tYes) rfl scLetterRule.nd (pi_tup (pe_fld (pv 5) rfl)) (blkOk_by (own := [("test", 6)]) (N := ["plan", "kind", "to_whole", "to_own", "at", "rule", "test"]) (sc := defScope sLetterRule) (by decide +kernel)) (fun _ _ _ _ _ => (pg_name (i := 6) scLetterRule.nd rfl (Or.inl rfl))) (fun _ _ _ _ _ => pts_nil) (fun _ _ _ _ _ => (pe_call G_holds (hr.mono (by decide)) rfl D_holds.g D_holds.F.kp D_holds.b .nil pass0 (pa_cons (pv 6) (pa_cons (pv 2) (pa_cons (pv 3) pa_nil)))))) pa_nil)))))) (pss_one (ps_ret (pv 4))) pss_nil)))
      (pss_one (ps_ret pe_non)), ?_⟩
    let ok : RuleD → Bool := fun r => decide (r.k = k) && r.ts.all fun t => holdsM t tw to
    refine Evl.q_cut (M := fun _ H' => Ex H H' ∧ ∀ (j : Nat) (y : RuleD), rs[j]? = some y → ok y = false) ?_ (fun σ' H' ⟨e1, hn⟩ => ?_)
    · refine ⟨_, rfl, p, CP, dx, _, _, rfl, h1, TP.cl, TP.nU, pf_rules _ _, b, xs, rfl, h3, for_it (walk_enumT (xs := xs)) (fun i σ H' => ∃ x4 x5 x6 : Option V, σ = [some (.ref p), some (.str k), some (.str tw), some (.str to), x4, x5, x6] ∧ Ex H H' ∧ ∀ (j : Nat) (y : RuleD), j < i → rs[j]? = some y → ok y = false) ⟨_, _, _, rfl, Ex.refl H, fun j y hj => absurd hj (Nat.not_lt_zero _)⟩ ?_ ?_ ?_⟩
      · rintro i σ H' _ ⟨_, _, _, _, e, _⟩
        exact Evl.ex_t e h3
      · rintro i x σ H1 H2 hi ⟨x4, x5, x6, rfl, e1, hn⟩ ⟨T0, _, y, rfl, nT, rfl, hc, hy⟩
        obtain rfl := Option.some.inj hc
        have hi2 : i < rs.length := by rw [← paired_len hR]; exact hi
        obtain ⟨u, r, hu, hr2, ho⟩ := rule_deeds hR hi2
        replace hy : xs[i]? = some y := hy
        rw [hu] at hy
        obtain rfl := Option.some.inj hy
        have e2 := e1.trans (Ex.new (o := .tup [.int (i : Int), .ref u]) nT)
        have gr := hg r (List.mem_of_getElem? hr2)
        refine ⟨T0, _, rfl, Evl.st_of upd_same, rfl, _, _, rfl, _, _, rfl, rfl, ?_⟩
        have ho2 := ho.ex e2
        refine Evl.s_when (b := ok r) (Evl.et_and (a := decide (r.k = k)) (Evl.et_is (Evl.et_test (Evl.ev_op (ev_fk (T := T.cl) (r := r) T.nK (Evl.ev_var rfl) ho2) (Evl.ev_var rfl) (Evl.rv_eq rfl))) (eq_str _ _)) fun hb => Evl.et_B (Evl.ev_is (ev_all (bs := r.ts.map fun t => holdsM t tw to) ?_) ?_)) (fun hb H3 e3 => ?_) (fun hb H3 e3 => ?_)
        · obtain ⟨dr, t, d, o1, o2, o3⟩ := id ho2
          have hts : ∀ t ∈ r.ts, t ∈ testsL ++ testsL.map (("not " : Str) ++ ·) := fun t ht => letter_test (k := r.k) (by rw [of_decide_eq_true hb]; exact hk) (gr.ts t ht)
          have e0 : (r.ts.map fun t => holdsM t tw to).map V.bl = (List.range (r.ts.map V.str).length).map fun i => V.bl (holdsM ((r.ts[i]?).getD "") tw to) := by
            rw [List.map_map]
            symm
            rw [range_map (r.ts.map V.str) (fun x => match x with | .str z => V.bl (holdsM z tw to) | _ => .non) _ fun i x hx => ?_, List.map_map]
            · rfl
            · obtain ⟨z, rfl, hz⟩ := strs_at hx
              rw [hz]
              rfl
          rw [e0]
          refine el_lcT _ (ev_fld (Evl.ev_var rfl) o1 T.cl T.nT (rf_t _ _ _)) o2 (by rw [List.length_map]; have := gr.nt; omega) (fun _ => rfl) (fun i x H4 e4 hi => ?_)
          obtain ⟨z, rfl, hz⟩ := strs_at hi
          rw [hz]
          exact ev_call (Evl.ea_cons (Evl.ev_var rfl) (Evl.ea_cons (Evl.ev_var rfl) (Evl.ea_cons (Evl.ev_var rfl) Evl.ea_nil))) fun H5 e5 Q5 q5 => ⟨z, tw, to, rfl, hts z (List.mem_of_getElem? hz), fun H6 e6 => q5 H6 e6⟩
        · rw [List.all_map]
          rfl
        · refine Evl.s_ret (v := .int (i : Int)) (Evl.ev_var rfl) fun H4 e4 => ?_
          have e : letterRuleM rs k tw to = some i := fi_some hn hr2 hb
          have q2 := q H4 ((e2.trans e3).trans e4)
          rw [e] at q2
          exact q2
        · refine ⟨_, _, _, rfl, e2.trans e3, fun j y hj hy => ?_⟩
          rcases Nat.lt_succ_iff_lt_or_eq.mp hj with h | h
          · exact hn j y h hy
          · rw [h, hr2] at hy
            rw [← Option.some.inj hy]
            exact hb
      · rintro σ H' ⟨_, _, _, rfl, e, hn⟩
        refine ⟨e, fun j y hy => hn j y ?_ hy⟩
        rw [paired_len hR]
        exact (List.getElem?_eq_some_iff.mp hy).1
    · refine Evl.s_ret (v := .non) Evl.ev_c fun H2 e2 => ?_
      have e : letterRuleM rs k tw to = none := fi_none hn
      have q2 := q H2 (e1.trans e2)
      rw [e] at q2
      exact q2
theorem ok_answer_rule {f : Addr} {fd : FuncData} (F : Fun K "answer_rule" "answer_rule" sAnswerRule f fd) (T : TxR K mg a_LETTERS a_LETTER_TESTS a_LETTER_DEEDS a_ANSWER_TESTS a_ANSWER_DEEDS CR tA tN) (TW : TxW K w mg a_HOLDS) (TP : TxP K mg CP) :
    FnOk P w K mg base CX0 1 f fd ["plan", "level"] (spAnswerRule K CR CP) := by
  refine F.ok scAnswerRule (fun vs H Q E h => ?_) (fun cdv A outer s H vs Q E hr h => ?_)
  · obtain ⟨p, lv, ks, rs, rfl, _⟩ := h
    rfl
  · obtain ⟨p, lv, ks, rs, rfl, ⟨xs, ⟨dx, a, b, h1, h2, h3⟩, hR⟩, hg, hz, q⟩ := h
    refine ⟨_, pss_cut (ps_for PassesOwn.never rfl (pi_enumT (by rfl) TW.n_enumerate (pa_cons (pe_fld (pv 0) rfl) pa_nil)) (pg_tup (by rfl) (pgs_cons (pg_name (i := 2) scAnswerRule.nd rfl (Or.inl rfl)) (pgs_cons (pg_name (i := 3) scAnswerRule.nd rfl (Or.inl rfl)) pgs_nil))) (pss_one (ps_if (PW.pt (pw_and (pt_cmpR op_eq (pe_fld (pv 3) rfl) (pe_glob (v := .str "answer") rfl T.g_ANSWER ⟨_, rfl⟩) (nomark _)) (pw_and1 (pt_val (pe_callB (cr_all rfl) (by rfl) T.n_all (by decide +kernel) (pa_cons (pe_lc (own := [("test", 4)]) (g := gName 4) (tt := tYes) (te := tOp rNe (tVar 1) (tBM K "str" (fun x xs H Q => ∃ a b, x = .str a ∧ xs = [.str b] ∧ Q (.bl (Txt.startswith a b)) H) (tVar 4) (tCons (tC (.str "not ")) tNil))) rfl scAnswerRule.nd (pi_tup (pe_fld (pv 3) rfl)) (blkOk_by (own := [("test", 4)]) (N := ["plan", "level", "at", "rule", "test"]) (sc := defScope sAnswerRule) (by decide +kernel)) (fun _ _ _ _ _ => (pg_name (i := 4) scAnswerRule.nd rfl (Or.inl rfl))) (fun _ _ _ _ _ => pts_nil) (fun _ _ _ _ _ => (pe_cmpR op_ne (pv 1) (pe_bm PySem.F.plainAttrs_str PySem.F.slot_str_startswith PySem.F.type_str_startswith mt_startswith (pv 4) (pa_cons (pe_glob (v := .str "not ") rfl T.g_NOT ⟨_, rfl⟩) pa_nil)) (nomark _)))) pa_nil)))))) (pss_one (ps_ret (pv 2))) pss_nil)))
      (pss_one (ps_ret pe_non)), ?_⟩
    let ok : RuleD → Bool := fun r => decide (r.k = ("answer" : Str)) && r.ts.all fun t => lv != Txt.startswith t "not "
    refine Evl.q_cut (M := fun _ H' => Ex H H' ∧ ∀ (j : Nat) (y : RuleD), rs[j]? = some y → ok y = false) ?_ (fun σ' H' ⟨e1, hn⟩ => ?_)
    · refine ⟨_, rfl, p, CP, dx, _, _, rfl, h1, TP.cl, TP.nU, pf_rules _ _, b, xs, rfl, h3, for_it (walk_enumT (xs := xs)) (fun i σ H' => ∃ x2 x3 x4 : Option V, σ = [some (.ref p), some (.bl lv), x2, x3, x4] ∧ Ex H H' ∧ ∀ (j : Nat) (y : RuleD), j < i → rs[j]? = some y → ok y = false) ⟨_, _, _, rfl, Ex.refl H, fun j y hj => absurd hj (Nat.not_lt_zero _)⟩ ?_ ?_ ?_⟩
      · rintro i σ H' _ ⟨_, _, _, _, e, _⟩
        exact Evl.ex_t e h3
      · rintro i x σ H1 H2 hi ⟨x4, x5, x6, rfl, e1, hn⟩ ⟨T0, _, y, rfl, nT, rfl, hc, hy⟩
        obtain rfl := Option.some.inj hc
        have hi2 : i < rs.length := by rw [← paired_len hR]; exact hi
        obtain ⟨u, r, hu, hr2, ho⟩ := rule_deeds hR hi2
        replace hy : xs[i]? = some y := hy
        rw [hu] at hy
        obtain rfl := Option.some.inj hy
        have e2 := e1.trans (Ex.new (o := .tup [.int (i : Int), .ref u]) nT)
        have gr := hg r (List.mem_of_getElem? hr2)
        refine ⟨T0, _, rfl, Evl.st_of upd_same, rfl, _, _, rfl, _, _, rfl, rfl, ?_⟩
        have ho2 := ho.ex e2
        refine Evl.s_when (b := ok r) (Evl.et_and (a := decide (r.k = ("answer" : Str))) (Evl.et_is (Evl.et_test (Evl.ev_op (ev_fk (T := T.cl) (r := r) T.nK (Evl.ev_var rfl) ho2) Evl.ev_c (Evl.rv_eq rfl))) (eq_str _ _)) fun hb => Evl.et_B (Evl.ev_is (ev_all (bs := r.ts.map fun t => lv != Txt.startswith t "not ") ?_) ?_)) (fun hb H3 e3 => ?_) (fun hb H3 e3 => ?_)
        · obtain ⟨dr, t, d, o1, o2, o3⟩ := id ho2
          have e0 : (r.ts.map fun t => lv != Txt.startswith t "not ").map V.bl = (List.range (r.ts.map V.str).length).map fun i => V.bl (lv != Txt.startswith ((r.ts[i]?).getD "") "not ") := by
            rw [List.map_map]
            symm
            rw [range_map (r.ts.map V.str) (fun x => match x with | .str z => V.bl (lv != Txt.startswith z "not ") | _ => .non) _ fun i x hx => ?_, List.map_map]
            · rfl
            · obtain ⟨z, rfl, hz⟩ := strs_at hx
              rw [hz]
              rfl
          rw [e0]
          refine el_lcT _ (ev_fld (Evl.ev_var rfl) o1 T.cl T.nT (rf_t _ _ _)) o2 (by rw [List.length_map]; have := gr.nt; omega) (fun _ => rfl) (fun i x H4 e4 hi => ?_)
          obtain ⟨z, rfl, hz⟩ := strs_at hi
          rw [hz]
          exact Evl.ev_is (Evl.ev_op (Evl.ev_var rfl) (ev_starts (Evl.ev_var rfl) Evl.ev_c) (Evl.rv_ne rfl)) (congrArg V.bl (ne_bl _ _))
        · rw [List.all_map]
          rfl
        · refine Evl.s_ret (v := .int (i : Int)) (Evl.ev_var rfl) fun H4 e4 => ?_
          have e : answerRuleM rs lv = some i := fi_some hn hr2 hb
          have q2 := q H4 ((e2.trans e3).trans e4)
          rw [e] at q2
          exact q2
        · refine ⟨_, _, _, rfl, e2.trans e3, fun j y hj hy => ?_⟩
          rcases Nat.lt_succ_iff_lt_or_eq.mp hj with h | h
          · exact hn j y h hy
          · rw [h, hr2] at hy
            rw [← Option.some.inj hy]
            exact hb
      · rintro σ H' ⟨_, _, _, rfl, e, hn⟩
        refine ⟨e, fun j y hy => hn j y ?_ hy⟩
        rw [paired_len hR]
        exact (List.getElem?_eq_some_iff.mp hy).1
    · refine Evl.s_ret (v := .non) Evl.ev_c fun H2 e2 => ?_
      have e : answerRuleM rs lv = none := fi_none hn
      have q2 := q H2 (e1.trans e2)
      rw [e] at q2
      exact q2
end
end Ov


namespace Ov
open PySem PySem.Spec PyProof.Rows L2
open Evl (pss_cut tCut Ex Ev EvT EvL EvA EvU)
/-! ### a place told by a text -/
def strI (n : Nat) : Str := toString (n : Int)
def readPlaceM (z word : Str) (many : Nat) : Option Nat :=
  if Txt.startswith z word = true then
    (if decide ((Txt.removeprefix z word).length > (strI many).length) || !Txt.isdecimal (Txt.removeprefix z word) then none
     else match PySem.intText? (Txt.removeprefix z word) with
      | some n => if decide (n < (many : Int)) && decide ((toString n : Str) = Txt.removeprefix z word) then some n.toNat else none
      | none => none)
  else none
/-- what is behind the word can be read, if it is of digits -/
def WordOk (z word : Str) : Prop := Txt.isdecimal (Txt.removeprefix z word) = true → ∃ n : Nat, PySem.intText? (Txt.removeprefix z word) = some (n : Int) ∧ n < 2 ^ 1000
structure EvOk (z : Str) : Prop where
  len : z.length ≤ 600
  lc : (Txt.removeprefix z "come ").length ≤ 600
  lh : (Txt.removeprefix z "heard ").length ≤ 600
  c : WordOk z "come "
  h : WordOk z "heard "
theorem readPlace_lt {z word : Str} {many i : Nat} (h : readPlaceM z word many = some i) (o : WordOk z word) : i < many := by
  unfold readPlaceM at h
  split at h
  · split at h
    · cases h
    · rename_i hd
      have hdec : Txt.isdecimal (Txt.removeprefix z word) = true := by
        simp only [Bool.or_eq_true, not_or, Bool.not_eq_true', Bool.not_eq_false'] at hd
        simpa using hd.2
      obtain ⟨n, hn, _⟩ := o hdec
      rw [hn] at h
      simp only [Bool.and_eq_true, decide_eq_true_eq] at h
      split at h
      · rename_i hc
        have := Option.some.inj h
        omega
      · cases h
  · cases h
def spReadPlace : Sp := fun vs H Q _ => ∃ (z word : Str) (many : Nat), vs = [.str z, .str word, .int (many : Int)] ∧ z.length ≤ 600 ∧ (Txt.removeprefix z word).length ≤ 600 ∧ WordOk z word ∧ many ≤ 1000 ∧ ∀ H', Ex H H' → Q (ov (readPlaceM z word many)) H'
theorem ev_lenS {σ : L2.St} {H : Hp} {ta : TE} {z : Str} (h : Ev ta σ H (.str z)) (hz : z.length ≤ 100000) : Ev (tCB (fun xs H Q => ∃ z, xs = [V.str z] ∧ z.length ≤ sizeLine ∧ Q (V.int z.length) H) (tCons ta tNil)) σ H (.int (z.length : Int)) := fun H1 e1 Q q =>
  h H1 e1 _ fun H2 e2 => ⟨z, rfl, size_of hz, q H2 e2⟩
theorem ev_strInt {σ : L2.St} {H : Hp} {ta : TE} {n : Int} (h : Ev ta σ H (.int n)) (hn : n.natAbs.log2 < 1920) : Ev (tCB (fun xs H Q => ∃ i, xs = [V.int i] ∧ i.natAbs.log2 < 1920 ∧ Q (V.str (toString i)) H) (tCons ta tNil)) σ H (.str (toString n)) := fun H1 e1 Q q =>
  h H1 e1 _ fun H2 e2 => ⟨n, rfl, hn, q H2 e2⟩
theorem strI_len {n : Nat} (h : n ≤ 1000) : (strI n).length ≤ 10 := by
  have a : ∀ n < 1001, (strI n).length ≤ 10 := by decide +kernel
  exact a n (Nat.lt_succ_of_le h)
theorem log_small {n k : Nat} (h : n < 2 ^ k) (hk : 0 < k) : n.log2 < k := by
  by_cases h0 : n = 0
  · rw [h0]
    simpa using hk
  · exact (Nat.log2_lt h0).mpr h
section
variable {P : Program} {w : World} {K : PySem.W.Frag} {mg : Str → Option Value} {base : Heap} {a_LETTERS a_LETTER_TESTS a_LETTER_DEEDS a_ANSWER_TESTS a_ANSWER_DEEDS CR : Addr} {tA tN : Tok}
abbrev sReadPlace : Stmt := topS 12
theorem scReadPlace : FnScope ["value", "word", "many", "digits", "place"] ["value", "word", "many"] (defScope sReadPlace) := ⟨rfl, rfl, rfl, by decide +kernel, rfl, by decide +kernel, by decide +kernel⟩
theorem ok_read_place {f : Addr} {fd : FuncData} (F : Fun K "read_place" "read_place" sReadPlace f fd) (T : TxR K mg a_LETTERS a_LETTER_TESTS a_LETTER_DEEDS a_ANSWER_TESTS a_ANSWER_DEEDS CR tA tN) : FnOk P w K mg base CX0 1 f fd ["value", "word", "many"] spReadPlace := by
  refine F.ok scReadPlace (fun vs H Q E h => ?_) (fun cdv A outer s H vs Q E hr h => ?_)
  · obtain ⟨z, word, many, rfl, _⟩ := h
    rfl
  · obtain ⟨z, word, many, rfl, hz, hl, ho, hm, q⟩ := h
    refine ⟨_, pss_cons (ps_if (PW.pt (pw_or (pt_not (pt_val (pe_callB call_isi (by rfl) T.n_isinstance (by decide +kernel) (pa_cons (pv 0) (pa_cons (pe_bltn (v := .ty "str") (by rfl) T.n_str (by decide +kernel) rfl) pa_nil))))) (pw_or1 (pt_not (pt_val (pe_bm PySem.F.plainAttrs_str PySem.F.slot_str_startswith PySem.F.type_str_startswith mt_startswith (pv 0) (pa_cons (pv 1) pa_nil))))))) (pss_one (ps_ret pe_non)) pss_nil)
      (pss_cons (ps_set (i := 3) scReadPlace.nd rfl (.inl rfl) (pe_bm PySem.F.plainAttrs_str PySem.F.slot_str_removeprefix PySem.F.type_str_removeprefix mt_removeprefix (pv 0) (pa_cons (pv 1) pa_nil)))
      (pss_cons (ps_if (PW.pt (pw_or (pt_cmpR op_gt (pe_callB call_len_str (by rfl) T.n_len (by decide +kernel) (pa_cons (pv 3) pa_nil)) (pe_callB call_len_str (by rfl) T.n_len (by decide +kernel) (pa_cons (pe_callTy call_str_int (by rfl) T.n_str (by decide +kernel) (pa_cons (pv 2) pa_nil)) pa_nil)) (nomark _)) (pw_or1 (pt_not (pt_val (pe_bm0 PySem.F.plainAttrs_str PySem.F.slot_str_isdecimal PySem.F.type_str_isdecimal mt_isdecimal (pv 3))))))) (pss_one (ps_ret pe_non)) pss_nil)
      (pss_cons (ps_set (i := 4) scReadPlace.nd rfl (.inl rfl) (pe_callTy call_int_str (by rfl) T.n_int (by decide +kernel) (pa_cons (pv 3) pa_nil)))
      (pss_one (ps_ret (pe_ifExp (PW.pt (pw_and (pt_cmpR op_lt (pv 4) (pv 2) (nomark _)) (pw_and1 (pt_cmpR op_eq (pe_callTy call_str_int (by rfl) T.n_str (by decide +kernel) (pa_cons (pv 4) pa_nil)) (pv 3) (nomark _))))) (pv 4) pe_non)))))), ?_⟩
    refine Evl.q_when (b := !Txt.startswith z word) (Evl.et_is (Evl.et_or (a := false) (Evl.et_not (a := true) (Evl.et_B (ev_isi (Evl.ea_cons (Evl.ev_var rfl) (Evl.ea_cons Evl.ev_c Evl.ea_nil)) (.ty _) (fun _ _ => .base (.str _)) (kit_ty (by decide +kernel))))) (fun _ => Evl.et_not (Evl.et_B (ev_starts (Evl.ev_var rfl) (Evl.ev_var rfl))))) rfl) (fun hb H1 e1 => ?_) (fun hb H1 e1 => ?_)
    · refine Evl.s_ret (v := .non) Evl.ev_c fun H2 e2 => ?_
      have e : readPlaceM z word many = none := by
        unfold readPlaceM
        rw [if_neg (by simpa using hb)]
      have q2 := q H2 (e1.trans e2)
      rw [e] at q2
      exact q2
    · have hs : Txt.startswith z word = true := by simpa using hb
      refine Evl.q_asg (v := .str (Txt.removeprefix z word)) (fun H2 e2 Q2 q2 => ⟨_, rfl, rfl, _, rfl, _, _, rfl, rfl, size_of (by omega), q2 H2 (Ex.refl _)⟩) fun H2 e2 => ?_
      have lm : ((many : Int)).natAbs.log2 < 1920 := Nat.lt_of_lt_of_le (log_small (k := 20) (by simp; omega) (by decide)) (by decide)
      have ls := strI_len hm
      refine Evl.q_when (b := decide ((Txt.removeprefix z word).length > (strI many).length) || !Txt.isdecimal (Txt.removeprefix z word)) (Evl.et_or (Evl.et_is (Evl.et_test (Evl.ev_op (ev_lenS (Evl.ev_var rfl) (by omega)) (ev_lenS (z := strI many) (ev_strInt (Evl.ev_var rfl) lm) (by omega)) Evl.rv_I0)) (decide_eq_decide.mpr ⟨fun h => by omega, fun h => by omega⟩)) (fun _ => Evl.et_not (Evl.et_B (b := Txt.isdecimal (Txt.removeprefix z word)) (fun H3 e3 Q3 q3 => ⟨_, rfl, rfl, _, rfl, rfl, trivial, q3 H3 (Ex.refl _)⟩)))) (fun hb H3 e3 => ?_) (fun hb H3 e3 => ?_)
      · refine Evl.s_ret (v := .non) Evl.ev_c fun H4 e4 => ?_
        have e : readPlaceM z word many = none := by
          unfold readPlaceM
          rw [if_pos hs, if_pos hb]
        have q2 := q H4 (((e1.trans e2).trans e3).trans e4)
        rw [e] at q2
        exact q2
      · have hdec : Txt.isdecimal (Txt.removeprefix z word) = true := by
          simp only [Bool.or_eq_false_iff, Bool.not_eq_false'] at hb
          exact hb.2
        obtain ⟨n, hn, hn2⟩ := ho hdec
        refine Evl.q_asg (v := .int (n : Int)) (fun H4 e4 Q4 q4 => ⟨_, rfl, _, (n : Int), rfl, hn, by omega, q4 H4 (Ex.refl _)⟩) fun H4 e4 => ?_
        have ln : ((n : Int)).natAbs.log2 < 1920 := Nat.lt_of_lt_of_le (log_small (k := 1000) (by simpa using hn2) (by decide)) (by decide)
        have er : readPlaceM z word many = if decide ((n : Int) < (many : Int)) && decide ((toString (n : Int) : Str) = Txt.removeprefix z word) then some n else none := by
          unfold readPlaceM
          rw [if_pos hs, if_neg (by rw [hb]; decide), hn]
          rfl
        refine Evl.s_ret (v := ov (readPlaceM z word many)) (Evl.ev_if (b := decide ((n : Int) < (many : Int)) && decide ((toString (n : Int) : Str) = Txt.removeprefix z word)) (Evl.et_and (Evl.et_test (Evl.ev_op (Evl.ev_var rfl) (Evl.ev_var rfl) Evl.rv_I0)) (fun _ => Evl.et_is (Evl.et_test (Evl.ev_op (ev_strInt (Evl.ev_var rfl) ln) (Evl.ev_var rfl) (Evl.rv_eq rfl))) (eq_str _ _))) (fun h => ?_) (fun h => ?_)) fun H5 e5 => q H5 ((((e1.trans e2).trans e3).trans e4).trans e5)
        · rw [er, if_pos h]
          exact Evl.ev_var rfl
        · rw [er, if_neg (by rw [h]; decide)]
          exact Evl.ev_c
end
end Ov


namespace Ov
open PySem PySem.Spec PyProof.Rows L2
open Evl (pss_cut tCut Ex Ev EvT EvL EvA EvU)
/-! ### how far a weaving has gone, as data -/
structure CM where
  ks : List Str
  rs : List RuleD
  letters : List (Str × Int)
  newest : Nat
  whole : Option Nat
  own : Option Nat
  came : List Nat
  shown : List Nat
  off : Option Nat
  answers : List Nat
  counted : Option Nat
  shows : List (Option Nat)
  rules : List (Option Nat)
  goals : List Str
namespace CM
def start (ks : List Str) (rs : List RuleD) : CM := ⟨ks, rs, [("ask", 0)], 0, none, none, [], [], none, [], none, [none], [], []⟩
def kindAt (m : CM) (i : Nat) : Str := ((m.letters[i]?).map Prod.fst).getD ""
def numAt (m : CM) (i : Nat) : Int := ((m.letters[i]?).map Prod.snd).getD 0
def lastNum (m : CM) : Int := m.numAt (m.letters.length - 1)
def showing (m : CM) : Option Nat := match m.own with
  | none => m.whole
  | some i => some i
def sentKind (d : Str) : Str := Txt.removeprefix d "other "
def sentNum (m : CM) (d : Str) : Int := m.lastNum + (if sentKind d ∈ m.ks then 1 else 0)
def send (m : CM) (d : Str) : CM :=
  if d = sentKind d then { m with newest := m.letters.length, counted := none, letters := m.letters ++ [(sentKind d, m.sentNum d)] }
  else { m with letters := m.letters ++ [(("other" : Str), m.sentNum d)] }
def rel (m : CM) (i : Nat) (p : Option Nat) : Str := relationM (m.numAt i) (i : Int) (p.map fun j => (m.numAt j, (j : Int)))
def ruleFor (m : CM) (i : Nat) : Option Nat := letterRuleM m.rs (m.kindAt i) (m.rel i m.whole) (m.rel i m.own)
def effFor (m : CM) (i : Nat) : Bool × Bool := effectM (m.kindAt i) (deedsM m.rs (m.ruleFor i))
def wiped (m : CM) (b : Bool) : CM := if b then { m with own := none } else m
def taken (m : CM) (i : Nat) (t w : Bool) : CM := if t && w then { m with whole := some i } else if t then { m with own := some i } else m
def come (m : CM) (i : Nat) : CM :=
  let e := m.effFor i
  let m2 := (m.wiped e.2).taken i e.1 (wholeKind (m.kindAt i))
  { m2 with came := m2.came ++ [i] }
def ansAt (m : CM) (a : Nat) : Nat := (m.answers[a]?).getD 0
def levelFor (m : CM) (a : Nat) : Bool := decide (m.numAt (m.ansAt a) = m.lastNum)
def ruleHear (m : CM) (a : Nat) : Option Nat := answerRuleM m.rs (m.levelFor a)
def heardCount (m : CM) (a : Nat) : Option Nat := if (deedsM m.rs (m.ruleHear a)).getLastD "" = ("count" : Str) then some a else none
def hear (m : CM) (a : Nat) : CM := if deedsM m.rs (m.ruleHear a) = [] then m else { m with counted := m.heardCount a }
def isStop (m : CM) (i : Nat) : Bool := decide (m.kindAt i ∈ (["stop", "off"] : List Str))
def isAsk (m : CM) (i : Nat) : Bool := decide (m.kindAt i ∈ (["ask", "day"] : List Str))
def overOff (m : CM) (i : Nat) : Bool := match m.off with
  | none => true
  | some o => decide (i > o)
def looked (m : CM) : CM := { m with shows := m.shows ++ [m.showing] }
def seen (m : CM) (i : Nat) : CM := { m with shown := m.shown ++ [i] }
def offed (m : CM) (i : Nat) : CM := if m.isStop i && m.overOff i then { m with off := some i } else m
def look (m : CM) : CM := match m.showing with
  | none => m.looked
  | some i => (m.looked.seen i).offed i
def isBack (m : CM) : Option Nat → Bool
  | none => false
  | some i => match m.off with
    | none => false
    | some o => m.isAsk i && decide (i < o)
def addG (m : CM) (b : Bool) (g : Str) : CM := if b then (if g ∈ m.goals then m else { m with goals := m.goals ++ [g] }) else m
def view (m : CM) : Option Nat := m.shows.getLastD none
def gElder (m : CM) : Bool := decide (m.newest ∈ m.came) && !decide (m.view = some m.newest)
def gLost (m : CM) : Bool := decide (m.kindAt m.newest = ("day" : Str)) && (decide (m.newest ∈ m.shown) && !decide (m.view = some m.newest))
def gWrong (m : CM) : Bool := match m.counted with
  | none => false
  | some a => !decide (m.ansAt a = m.newest)
def gDeaf (m : CM) (heard : Option Nat) : Bool := decide (heard = some m.newest) && decide (m.counted = none)
def judge (m : CM) (heard : Option Nat) : CM :=
  ((((m.addG m.gElder "elder").addG m.gLost "lost").addG (m.isBack m.view) "back").addG m.gWrong "wrong").addG (m.gDeaf heard) "deaf"
def toCome (m : CM) (z : Str) : Option Nat := match readPlaceM z "come " m.letters.length with
  | none => none
  | some i => if m.kindAt i = ("other" : Str) then none else some i
def canAnswer (m : CM) : Bool := match m.showing with
  | none => false
  | some i => m.isAsk i
def deedsAll : List Str := ["ask", "day", "stop", "off", "other day", "other off"]
def toHear (m : CM) (z : Str) : Option Nat := readPlaceM z "heard " m.answers.length
/-- what an event does, the rule that is done, the letter that was answered -/
def act (m : CM) (z : Str) : Option (CM × Option Nat × Option Nat) :=
  if z ∈ deedsAll then some (m.send z, none, none)
  else match m.toCome z with
    | some i => some (m.come i, m.ruleFor i, none)
    | none => match m.toHear z with
      | some a => some (m.hear a, m.ruleHear a, some (m.ansAt a))
      | none => if decide (z = ("answer" : Str)) && m.canAnswer then some ({ m with answers := m.answers ++ [m.showing.getD 0] }, none, none) else none
def ruled (m : CM) (r : Option Nat) : CM := { m with rules := m.rules ++ [r] }
def goOn (m : CM) (z : Str) : Option CM := (m.act z).map fun x => (((x.1).ruled x.2.1).look).judge x.2.2
def goAll : CM → List Str → Option CM
  | m, [] => some m
  | m, z :: r => (m.goOn z).bind fun m2 => m2.goAll r
end CM
def goalWords : List Str := ["back", "deaf", "elder", "lost", "wrong"]
/-- the numbers that it bears are places -/
structure CM.WF (m : CM) : Prop where
  ne : 0 < m.letters.length
  newest : m.newest < m.letters.length
  whole : ∀ i, m.whole = some i → i < m.letters.length
  own : ∀ i, m.own = some i → i < m.letters.length
  off : ∀ i, m.off = some i → i < m.letters.length
  ans : ∀ i ∈ m.answers, i < m.letters.length
  counted : ∀ i, m.counted = some i → i < m.answers.length
  shows : ∀ i, some i ∈ m.shows → i < m.letters.length
  sne : 0 < m.shows.length
  kinds : ∀ l ∈ m.letters, l.1 ∈ letterKinds ∨ l.1 = ("other" : Str)
  g : ∀ r ∈ m.rs, r.Good
  hz : m.rs.length ≤ 1000
  gw : ∀ x ∈ m.goals, x ∈ goalWords
  gn : m.goals.Nodup
structure CM.Small (m : CM) (b : Nat) : Prop where
  l : m.letters.length ≤ b + 1
  a : m.answers.length ≤ b
  s : m.shows.length ≤ b + 1
  r : m.rules.length ≤ b
  c : m.came.length ≤ b
  h : m.shown.length ≤ b
namespace CM
variable {m : CM}
theorem WF.start {ks : List Str} {rs : List RuleD} (g : ∀ r ∈ rs, r.Good) (hz : rs.length ≤ 1000) : (CM.start ks rs).WF where
  ne := Nat.succ_pos _
  newest := Nat.succ_pos _
  whole := fun i h => nomatch h
  own := fun i h => nomatch h
  off := fun i h => nomatch h
  ans := fun i h => nomatch h
  counted := fun i h => nomatch h
  shows := fun i h => by
    have := List.mem_singleton.mp h
    cases this
  sne := Nat.succ_pos _
  kinds := fun l h => by
    rw [List.mem_singleton.mp h]
    exact .inl (by decide +kernel)
  g := g
  hz := hz
  gw := fun x h => nomatch h
  gn := List.nodup_nil
theorem Small.start {ks : List Str} {rs : List RuleD} : (CM.start ks rs).Small 0 := ⟨Nat.le_refl _, Nat.le_refl _, Nat.le_refl _, Nat.le_refl _, Nat.le_refl _, Nat.le_refl _⟩
theorem sentKind_in {d : Str} (h : d ∈ deedsAll) : sentKind d ∈ letterKinds := by
  have a : ∀ d ∈ deedsAll, sentKind d ∈ letterKinds := by decide +kernel
  exact a d h
theorem WF.send (h : m.WF) {d : Str} (hd : d ∈ deedsAll) : (m.send d).WF := by
  have lt : ∀ {i : Nat} {x : Str × Int}, i < m.letters.length → i < (m.letters ++ [x]).length := fun h => by
    rw [List.length_append]
    exact Nat.lt_of_lt_of_le h (Nat.le_add_right _ _)
  have pos : ∀ {x : Str × Int}, m.letters.length < (m.letters ++ [x]).length := by
    intro x
    rw [List.length_append]
    exact Nat.lt_succ_self _
  unfold CM.send
  split
  · exact ⟨lt h.ne, pos, fun i e => lt (h.whole i e), fun i e => lt (h.own i e), fun i e => lt (h.off i e), fun i e => lt (h.ans i e), fun i e => (nomatch e), fun i e => lt (h.shows i e), h.sne, fun l hl => by
      rcases List.mem_append.mp hl with z | z
      · exact h.kinds l z
      · rw [List.mem_singleton.mp z]
        exact .inl (sentKind_in hd), h.g, h.hz, h.gw, h.gn⟩
  · exact ⟨lt h.ne, lt h.newest, fun i e => lt (h.whole i e), fun i e => lt (h.own i e), fun i e => lt (h.off i e), fun i e => lt (h.ans i e), h.counted, fun i e => lt (h.shows i e), h.sne, fun l hl => by
      rcases List.mem_append.mp hl with z | z
      · exact h.kinds l z
      · rw [List.mem_singleton.mp z]
        exact .inr rfl, h.g, h.hz, h.gw, h.gn⟩
theorem WF.wiped (h : m.WF) (b : Bool) : (m.wiped b).WF := by
  unfold CM.wiped
  split
  · exact { h with own := fun i e => nomatch e }
  · exact h
theorem WF.taken (h : m.WF) {i : Nat} (hi : i < m.letters.length) (t w : Bool) : (m.taken i t w).WF := by
  unfold CM.taken
  split
  · exact { h with whole := fun j e => by cases e; exact hi }
  · split
    · exact { h with own := fun j e => by cases e; exact hi }
    · exact h
theorem wiped_letters (b : Bool) : (m.wiped b).letters = m.letters := by
  unfold CM.wiped
  split <;> rfl
theorem WF.come (h : m.WF) {i : Nat} (hi : i < m.letters.length) : (m.come i).WF := by
  have h2 := (h.wiped (m.effFor i).2).taken (i := i) (by rw [wiped_letters]; exact hi) (m.effFor i).1 (wholeKind (m.kindAt i))
  exact { h2 with }
theorem WF.hear (h : m.WF) {a : Nat} (ha : a < m.answers.length) : (m.hear a).WF := by
  unfold CM.hear
  split
  · exact h
  · refine { h with counted := fun j e => ?_ }
    have e : m.heardCount a = some j := e
    unfold CM.heardCount at e
    split at e
    · cases e
      exact ha
    · cases e
theorem showing_lt (h : m.WF) {i : Nat} (e : m.showing = some i) : i < m.letters.length := by
  unfold CM.showing at e
  split at e
  · exact h.whole i e
  · rename_i j q
    cases e
    exact h.own _ q
theorem WF.answer (h : m.WF) (ha : m.canAnswer = true) : CM.WF { m with answers := m.answers ++ [m.showing.getD 0] } := by
  refine { h with ans := fun i hi => ?_, counted := fun i e => ?_ }
  · rcases List.mem_append.mp hi with z | z
    · exact h.ans i z
    · rw [List.mem_singleton.mp z]
      unfold CM.canAnswer at ha
      cases e : m.showing with
      | none =>
        rw [e] at ha
        cases ha
      | some j => exact showing_lt h e
  · show i < (m.answers ++ [m.showing.getD 0]).length
    rw [List.length_append]
    exact Nat.lt_of_lt_of_le (h.counted i e) (Nat.le_add_right _ _)
theorem WF.ruled (h : m.WF) (r : Option Nat) : (m.ruled r).WF := { h with }
theorem WF.looked (h : m.WF) : m.looked.WF := by
  refine { h with shows := fun i hi => ?_, sne := ?_ }
  · rcases List.mem_append.mp hi with z | z
    · exact h.shows i z
    · exact showing_lt h (List.mem_singleton.mp z).symm
  · show 0 < (m.shows ++ [m.showing]).length
    rw [List.length_append]
    exact Nat.succ_pos _
theorem WF.seen (h : m.WF) (i : Nat) : (m.seen i).WF := { h with }
theorem WF.offed (h : m.WF) {i : Nat} (hi : i < m.letters.length) : (m.offed i).WF := by
  unfold CM.offed
  split
  · exact { h with off := fun j e => by cases e; exact hi }
  · exact h
theorem WF.look (h : m.WF) : m.look.WF := by
  unfold CM.look
  cases e : m.showing with
  | none => exact h.looked
  | some i => exact (h.looked.seen i).offed (showing_lt h e)
theorem WF.addG (h : m.WF) (b : Bool) {g : Str} (hg : g ∈ goalWords) : (m.addG b g).WF := by
  unfold CM.addG
  split
  · split
    · exact h
    · rename_i hn
      refine { h with gw := fun x hx => ?_, gn := ?_ }
      · rcases List.mem_append.mp hx with z | z
        · exact h.gw x z
        · rw [List.mem_singleton.mp z]
          exact hg
      · show (m.goals ++ [g]).Nodup
        rw [List.nodup_append]
        exact ⟨h.gn, List.nodup_cons.mpr ⟨List.not_mem_nil, List.nodup_nil⟩, fun a ha b hb e => hn (by rw [← List.mem_singleton.mp hb, ← e]; exact ha)⟩
  · exact h
theorem WF.judge (h : m.WF) (hd : Option Nat) : (m.judge hd).WF :=
  ((((h.addG _ (by decide +kernel)).addG _ (by decide +kernel)).addG _ (by decide +kernel)).addG _ (by decide +kernel)).addG _ (by decide +kernel)
theorem toCome_lt {z : Str} {i : Nat} (h : m.toCome z = some i) (o : EvOk z) : i < m.letters.length ∧ m.kindAt i ≠ ("other" : Str) := by
  unfold CM.toCome at h
  split at h
  · cases h
  · rename_i j e
    split at h
    · cases h
    · rename_i hk
      cases h
      exact ⟨readPlace_lt e o.c, hk⟩
theorem WF.act (h : m.WF) {z : Str} (o : EvOk z) {x : CM × Option Nat × Option Nat} (e : m.act z = some x) : x.1.WF := by
  unfold CM.act at e
  split at e
  · rename_i hz
    cases e
    exact h.send hz
  · split at e
    · rename_i i hi
      cases e
      exact h.come (toCome_lt hi o).1
    · split at e
      · rename_i a ha
        cases e
        exact h.hear (readPlace_lt ha o.h)
      · split at e
        · rename_i hc
          cases e
          exact h.answer (Bool.and_eq_true_iff.mp hc).2
        · cases e
theorem WF.goOn (h : m.WF) {z : Str} (o : EvOk z) {m2 : CM} (e : m.goOn z = some m2) : m2.WF := by
  unfold CM.goOn at e
  obtain ⟨x, h1, rfl⟩ := Option.map_eq_some_iff.mp e
  exact ((h.act o h1).ruled _).look.judge _
end CM
end Ov


namespace Ov
open PySem PySem.Spec PyProof.Rows L2
open Evl (pss_cut tCut Ex Ev EvT EvL EvA EvU)
/-! ### a Course, as it stands -/
structure CA where
  c : Addr
  dx : Addr
  p : Addr
  L : Addr
  cm : Addr
  sh : Addr
  an : Addr
  sw : Addr
  rl : Addr
  gl : Addr
def CA.muts (A : CA) : List Addr := [A.c, A.L, A.cm, A.sh, A.an, A.sw, A.rl, A.gl]
def cf (A : CA) (m : CM) : List (Str × V) := [("plan", .ref A.p), ("letters", .ref A.L), ("newest", .int (m.newest : Int)), ("whole", ov m.whole), ("own", ov m.own), ("came", .ref A.cm), ("shown", .ref A.sh), ("called_off", ov m.off), ("answers", .ref A.an), ("counted", ov m.counted), ("shows", .ref A.sw), ("rules", .ref A.rl), ("goals", .ref A.gl)]
section
variable {A : CA} {m : CM}
theorem cf_plan : (cf A m).lookup ("plan" : Str) = some (.ref A.p) := by kernel_rfl
theorem cf_letters : (cf A m).lookup ("letters" : Str) = some (.ref A.L) := by kernel_rfl
theorem cf_newest : (cf A m).lookup ("newest" : Str) = some (.int (m.newest : Int)) := by kernel_rfl
theorem cf_whole : (cf A m).lookup ("whole" : Str) = some (ov m.whole) := by kernel_rfl
theorem cf_own : (cf A m).lookup ("own" : Str) = some (ov m.own) := by kernel_rfl
theorem cf_came : (cf A m).lookup ("came" : Str) = some (.ref A.cm) := by kernel_rfl
theorem cf_shown : (cf A m).lookup ("shown" : Str) = some (.ref A.sh) := by kernel_rfl
theorem cf_off : (cf A m).lookup ("called_off" : Str) = some (ov m.off) := by kernel_rfl
theorem cf_answers : (cf A m).lookup ("answers" : Str) = some (.ref A.an) := by kernel_rfl
theorem cf_counted : (cf A m).lookup ("counted" : Str) = some (ov m.counted) := by kernel_rfl
theorem cf_shows : (cf A m).lookup ("shows" : Str) = some (.ref A.sw) := by kernel_rfl
theorem cf_rules : (cf A m).lookup ("rules" : Str) = some (.ref A.rl) := by kernel_rfl
theorem cf_goals : (cf A m).lookup ("goals" : Str) = some (.ref A.gl) := by kernel_rfl
theorem pcf_newest (n : Nat) : putF ("newest" : Str) (.int (n : Int)) (cf A m) = cf A { m with newest := n } := by kernel_rfl
theorem pcf_whole (n : Option Nat) : putF ("whole" : Str) (ov n) (cf A m) = cf A { m with whole := n } := by kernel_rfl
theorem pcf_own (n : Option Nat) : putF ("own" : Str) (ov n) (cf A m) = cf A { m with own := n } := by kernel_rfl
theorem pcf_off (n : Option Nat) : putF ("called_off" : Str) (ov n) (cf A m) = cf A { m with off := n } := by kernel_rfl
theorem pcf_counted (n : Option Nat) : putF ("counted" : Str) (ov n) (cf A m) = cf A { m with counted := n } := by kernel_rfl
end
/-- the letters: tuples of kind and number -/
def LettersAt (H : Hp) (xs : List V) (ls : List (Str × Int)) : Prop := Paired (fun x l => ∃ t, x = V.ref t ∧ H t = some (.tup [.str l.1, .int l.2])) xs ls
def DictI (H : Hp) (a : Addr) (l : List Nat) : Prop := ∃ kvs : List (Key × V), H a = some (.dK kvs) ∧ kvs.length ≤ l.length ∧ ∀ i : Nat, (valV kvs (Sum.inl (i : Int))).isSome = decide (i ∈ l)
def DictG (H : Hp) (a : Addr) (gs : List Str) : Prop := ∃ kvs : List (Key × V), H a = some (.dK kvs) ∧ kvs.map (·.1) = gs.map Sum.inr
structure CourseAt (K : PySem.W.Frag) (CR CP CC : Addr) (B : Hp) (A : CA) (m : CM) (H : Hp) : Prop where
  ex : Ex B H
  fresh : ∀ a ∈ A.muts, B a = none
  nd : A.muts.Nodup
  obj : H A.c = some (.ins CC A.dx (cf A m))
  plan : PlanIs K CR CP m.ks m.rs A.p B
  lts : ∃ xs, H A.L = some (.lst xs) ∧ LettersAt H xs m.letters
  cm : DictI H A.cm m.came
  sh : DictI H A.sh m.shown
  an : H A.an = some (.lst (m.answers.map fun (i : Nat) => V.int (i : Int)))
  sw : H A.sw = some (.lst (m.shows.map ov))
  rl : H A.rl = some (.lst (m.rules.map ov))
  gl : DictG H A.gl m.goals
theorem LettersAt.ex {H H' : Hp} (e : Ex H H') : ∀ {xs : List V} {ls : List (Str × Int)}, LettersAt H xs ls → LettersAt H' xs ls
  | _, _, .nil => .nil
  | _, _, .cons ⟨t, h1, h2⟩ r => .cons ⟨t, h1, e _ _ h2⟩ (LettersAt.ex e r)
theorem LettersAt.upd {H : Hp} {a : Addr} {o u : HO} (ha : H a = some o) (ho : ∀ zs, o ≠ .tup zs) : ∀ {xs : List V} {ls : List (Str × Int)}, LettersAt H xs ls → LettersAt (upd H a u) xs ls
  | _, _, .nil => .nil
  | _, _, .cons ⟨t, h1, h2⟩ r => .cons ⟨t, h1, by
      rw [upd_ne (fun z => by rw [z, ha] at h2; exact ho _ (Option.some.inj h2))]
      exact h2⟩ (LettersAt.upd ha ho r)
theorem LettersAt.at_ {H : Hp} : ∀ {xs : List V} {ls : List (Str × Int)} {i : Nat}, LettersAt H xs ls → i < ls.length → ∃ t l, xs[i]? = some (.ref t) ∧ ls[i]? = some l ∧ H t = some (.tup [.str l.1, .int l.2])
  | _, _, _, .nil, h => absurd h (Nat.not_lt_zero _)
  | _, _, 0, .cons ⟨t, h1, h2⟩ _, _ => ⟨t, _, by rw [h1]; rfl, rfl, h2⟩
  | _, _, i + 1, .cons _ r, h => LettersAt.at_ (i := i) r (Nat.lt_of_succ_lt_succ h)
theorem LettersAt.snoc {H : Hp} {t : Addr} {k : Str} {n : Int} (ht : H t = some (.tup [.str k, .int n])) : ∀ {xs : List V} {ls : List (Str × Int)}, LettersAt H xs ls → LettersAt H (xs ++ [.ref t]) (ls ++ [(k, n)])
  | _, _, .nil => .cons ⟨t, rfl, ht⟩ .nil
  | _, _, .cons h r => .cons h (LettersAt.snoc ht r)
theorem DictI.keep {H H' : Hp} {a : Addr} {l : List Nat} (e : H' a = H a) (h : DictI H a l) : DictI H' a l := by
  obtain ⟨kvs, h1, h2⟩ := h
  exact ⟨kvs, by rw [e]; exact h1, h2⟩
theorem DictG.keep {H H' : Hp} {a : Addr} {l : List Str} (e : H' a = H a) (h : DictG H a l) : DictG H' a l := by
  obtain ⟨kvs, h1, h2⟩ := h
  exact ⟨kvs, by rw [e]; exact h1, h2⟩
theorem DictI.put {H : Hp} {a : Addr} {l : List Nat} {kvs : List (Key × V)} (h2 : kvs.length ≤ l.length) (h3 : ∀ i : Nat, (valV kvs (Sum.inl (i : Int))).isSome = decide (i ∈ l)) (i : Nat) (v : V) : DictI (upd H a (.dK (putK kvs (Sum.inl (i : Int)) v))) a (l ++ [i]) := by
  refine ⟨_, upd_same, ?_, fun j => ?_⟩
  · have := length_putK kvs (Sum.inl (i : Int)) v
    rw [List.length_append, List.length_singleton]
    omega
  · rw [valV_put]
    by_cases e : j = i
    · rw [e, if_pos rfl]
      simp
    · rw [if_neg (fun z => e (Int.ofNat_inj.mp (Sum.inl.inj z))), h3 j]
      simp [e]
theorem keys_put {κ : Type} [DecidableEq κ] {kvs : List (κ × V)} {k : κ} {v : V} : (putK kvs k v).map (·.1) = if k ∈ kvs.map (·.1) then kvs.map (·.1) else kvs.map (·.1) ++ [k] := by
  unfold putK
  have e : (kvs.any fun kv => decide (kv.1 = k)) = decide (k ∈ kvs.map (·.1)) := by
    rw [Bool.eq_iff_iff]
    simp only [List.any_eq_true, decide_eq_true_eq, List.mem_map]
  rw [e]
  by_cases h : k ∈ kvs.map (·.1)
  · rw [if_pos (decide_eq_true h), if_pos h, List.map_map]
    refine List.map_congr_left fun x _ => ?_
    show (if x.1 = k then (x.1, v) else x).1 = x.1
    split <;> rfl
  · rw [if_neg (by simpa using h), if_neg h, List.map_append]
    rfl
theorem DictG.put {H : Hp} {a : Addr} {gs : List Str} {kvs : List (Key × V)} (h : kvs.map (·.1) = gs.map Sum.inr) (g : Str) (v : V) : DictG (upd H a (.dK (putK kvs (Sum.inr g) v))) a (if g ∈ gs then gs else gs ++ [g]) := by
  refine ⟨_, upd_same, ?_⟩
  rw [keys_put, h]
  have e : ((Sum.inr g : Key) ∈ gs.map Sum.inr) = (g ∈ gs) := by simp
  by_cases hg : g ∈ gs
  · rw [if_pos (by rw [e]; exact hg), if_pos hg]
  · rw [if_neg (by rw [e]; exact hg), if_neg hg, List.map_append]
    rfl
section
variable {K : PySem.W.Frag} {CR CP CC : Addr} {B : Hp} {A : CA} {m : CM} {H : Hp}
theorem CourseAt.ne (h : CourseAt K CR CP CC B A m H) (i j : Fin 8) (hij : i ≠ j) : A.muts.get i ≠ A.muts.get j := by
  have p := List.pairwise_iff_getElem.mp h.nd
  rcases Nat.lt_or_gt_of_ne (fun z => hij (Fin.ext z)) with l | l
  · exact p i.1 j.1 i.2 j.2 l
  · exact (p j.1 i.1 j.2 i.2 l).symm
theorem CourseAt.ext (h : CourseAt K CR CP CC B A m H) {H' : Hp} (e : Ex H H') : CourseAt K CR CP CC B A m H' where
  ex := h.ex.trans e
  fresh := h.fresh
  nd := h.nd
  obj := e _ _ h.obj
  plan := h.plan
  lts := by
    obtain ⟨xs, h1, h2⟩ := h.lts
    exact ⟨xs, e _ _ h1, h2.ex e⟩
  cm := by
    obtain ⟨kvs, h1, h2⟩ := h.cm
    exact ⟨kvs, e _ _ h1, h2⟩
  sh := by
    obtain ⟨kvs, h1, h2⟩ := h.sh
    exact ⟨kvs, e _ _ h1, h2⟩
  an := e _ _ h.an
  sw := e _ _ h.sw
  rl := e _ _ h.rl
  gl := by
    obtain ⟨kvs, h1, h2⟩ := h.gl
    exact ⟨kvs, e _ _ h1, h2⟩
/-- what only its object bears -/
structure CM.Alike (m m2 : CM) : Prop where
  ks : m2.ks = m.ks
  rs : m2.rs = m.rs
  l : m2.letters = m.letters
  c : m2.came = m.came
  h : m2.shown = m.shown
  a : m2.answers = m.answers
  s : m2.shows = m.shows
  r : m2.rules = m.rules
  g : m2.goals = m.goals
theorem CourseAt.putc (h : CourseAt K CR CP CC B A m H) {m2 : CM} {fs : List (Str × V)} (e : fs = cf A m2) (s : m.Alike m2) : CourseAt K CR CP CC B A m2 (upd H A.c (.ins CC A.dx fs)) where
  ex := h.ex.mut (h.fresh _ (by simp [CA.muts]))
  fresh := h.fresh
  nd := h.nd
  obj := by rw [upd_same, e]
  plan := by rw [s.ks, s.rs]; exact h.plan
  lts := by
    obtain ⟨xs, h1, h2⟩ := h.lts
    exact ⟨xs, (upd_ne (h.ne 1 0 (by decide))).trans h1, by rw [s.l]; exact h2.upd h.obj (fun zs z => nomatch z)⟩
  cm := by rw [s.c]; exact h.cm.keep (upd_ne (h.ne 2 0 (by decide)))
  sh := by rw [s.h]; exact h.sh.keep (upd_ne (h.ne 3 0 (by decide)))
  an := by rw [s.a]; exact (upd_ne (h.ne 4 0 (by decide))).trans h.an
  sw := by rw [s.s]; exact (upd_ne (h.ne 5 0 (by decide))).trans h.sw
  rl := by rw [s.r]; exact (upd_ne (h.ne 6 0 (by decide))).trans h.rl
  gl := by rw [s.g]; exact h.gl.keep (upd_ne (h.ne 7 0 (by decide)))
theorem CourseAt.putL (h : CourseAt K CR CP CC B A m H) {xs : List V} (hx : H A.L = some (.lst xs)) {t : Addr} {k : Str} {n : Int} (ht : H t = some (.tup [.str k, .int n])) : CourseAt K CR CP CC B A { m with letters := m.letters ++ [(k, n)] } (upd H A.L (.lst (xs ++ [.ref t]))) where
  ex := h.ex.mut (h.fresh _ (by simp [CA.muts]))
  fresh := h.fresh
  nd := h.nd
  obj := (upd_ne (h.ne 0 1 (by decide))).trans h.obj
  plan := h.plan
  lts := by
    obtain ⟨ys, h1, h2⟩ := h.lts
    rw [hx] at h1
    cases h1
    exact ⟨_, upd_same, (h2.snoc ht).upd hx (fun zs z => nomatch z)⟩
  cm := h.cm.keep (upd_ne (h.ne 2 1 (by decide)))
  sh := h.sh.keep (upd_ne (h.ne 3 1 (by decide)))
  an := (upd_ne (h.ne 4 1 (by decide))).trans h.an
  sw := (upd_ne (h.ne 5 1 (by decide))).trans h.sw
  rl := (upd_ne (h.ne 6 1 (by decide))).trans h.rl
  gl := h.gl.keep (upd_ne (h.ne 7 1 (by decide)))
theorem CourseAt.putcm (h : CourseAt K CR CP CC B A m H) {kvs : List (Key × V)} (hx : H A.cm = some (.dK kvs)) (i : Nat) (v : V) : CourseAt K CR CP CC B A { m with came := m.came ++ [i] } (upd H A.cm (.dK (putK kvs (Sum.inl (i : Int)) v))) where
  ex := h.ex.mut (h.fresh _ (by simp [CA.muts]))
  fresh := h.fresh
  nd := h.nd
  obj := (upd_ne (h.ne 0 2 (by decide))).trans h.obj
  plan := h.plan
  lts := by
    obtain ⟨ys, h1, h2⟩ := h.lts
    exact ⟨ys, (upd_ne (h.ne 1 2 (by decide))).trans h1, h2.upd hx (fun zs z => nomatch z)⟩
  cm := by
    obtain ⟨kvs2, h1, h2, h3⟩ := h.cm
    rw [hx] at h1
    cases h1
    exact DictI.put h2 h3 i v
  sh := h.sh.keep (upd_ne (h.ne 3 2 (by decide)))
  an := (upd_ne (h.ne 4 2 (by decide))).trans h.an
  sw := (upd_ne (h.ne 5 2 (by decide))).trans h.sw
  rl := (upd_ne (h.ne 6 2 (by decide))).trans h.rl
  gl := h.gl.keep (upd_ne (h.ne 7 2 (by decide)))
theorem CourseAt.putsh (h : CourseAt K CR CP CC B A m H) {kvs : List (Key × V)} (hx : H A.sh = some (.dK kvs)) (i : Nat) (v : V) : CourseAt K CR CP CC B A { m with shown := m.shown ++ [i] } (upd H A.sh (.dK (putK kvs (Sum.inl (i : Int)) v))) where
  ex := h.ex.mut (h.fresh _ (by simp [CA.muts]))
  fresh := h.fresh
  nd := h.nd
  obj := (upd_ne (h.ne 0 3 (by decide))).trans h.obj
  plan := h.plan
  lts := by
    obtain ⟨ys, h1, h2⟩ := h.lts
    exact ⟨ys, (upd_ne (h.ne 1 3 (by decide))).trans h1, h2.upd hx (fun zs z => nomatch z)⟩
  cm := h.cm.keep (upd_ne (h.ne 2 3 (by decide)))
  sh := by
    obtain ⟨kvs2, h1, h2, h3⟩ := h.sh
    rw [hx] at h1
    cases h1
    exact DictI.put h2 h3 i v
  an := (upd_ne (h.ne 4 3 (by decide))).trans h.an
  sw := (upd_ne (h.ne 5 3 (by decide))).trans h.sw
  rl := (upd_ne (h.ne 6 3 (by decide))).trans h.rl
  gl := h.gl.keep (upd_ne (h.ne 7 3 (by decide)))
theorem CourseAt.putan (h : CourseAt K CR CP CC B A m H) (i : Nat) : CourseAt K CR CP CC B A { m with answers := m.answers ++ [i] } (upd H A.an (.lst ((m.answers.map fun (i : Nat) => V.int (i : Int)) ++ [.int (i : Int)]))) where
  ex := h.ex.mut (h.fresh _ (by simp [CA.muts]))
  fresh := h.fresh
  nd := h.nd
  obj := (upd_ne (h.ne 0 4 (by decide))).trans h.obj
  plan := h.plan
  lts := by
    obtain ⟨ys, h1, h2⟩ := h.lts
    exact ⟨ys, (upd_ne (h.ne 1 4 (by decide))).trans h1, h2.upd h.an (fun zs z => nomatch z)⟩
  cm := h.cm.keep (upd_ne (h.ne 2 4 (by decide)))
  sh := h.sh.keep (upd_ne (h.ne 3 4 (by decide)))
  an := by rw [upd_same, List.map_append]; rfl
  sw := (upd_ne (h.ne 5 4 (by decide))).trans h.sw
  rl := (upd_ne (h.ne 6 4 (by decide))).trans h.rl
  gl := h.gl.keep (upd_ne (h.ne 7 4 (by decide)))
theorem CourseAt.putsw (h : CourseAt K CR CP CC B A m H) (i : Option Nat) : CourseAt K CR CP CC B A { m with shows := m.shows ++ [i] } (upd H A.sw (.lst (m.shows.map ov ++ [ov i]))) where
  ex := h.ex.mut (h.fresh _ (by simp [CA.muts]))
  fresh := h.fresh
  nd := h.nd
  obj := (upd_ne (h.ne 0 5 (by decide))).trans h.obj
  plan := h.plan
  lts := by
    obtain ⟨ys, h1, h2⟩ := h.lts
    exact ⟨ys, (upd_ne (h.ne 1 5 (by decide))).trans h1, h2.upd h.sw (fun zs z => nomatch z)⟩
  cm := h.cm.keep (upd_ne (h.ne 2 5 (by decide)))
  sh := h.sh.keep (upd_ne (h.ne 3 5 (by decide)))
  an := (upd_ne (h.ne 4 5 (by decide))).trans h.an
  sw := by rw [upd_same, List.map_append]; rfl
  rl := (upd_ne (h.ne 6 5 (by decide))).trans h.rl
  gl := h.gl.keep (upd_ne (h.ne 7 5 (by decide)))
theorem CourseAt.putrl (h : CourseAt K CR CP CC B A m H) (i : Option Nat) : CourseAt K CR CP CC B A (m.ruled i) (upd H A.rl (.lst (m.rules.map ov ++ [ov i]))) where
  ex := h.ex.mut (h.fresh _ (by simp [CA.muts]))
  fresh := h.fresh
  nd := h.nd
  obj := (upd_ne (h.ne 0 6 (by decide))).trans h.obj
  plan := h.plan
  lts := by
    obtain ⟨ys, h1, h2⟩ := h.lts
    exact ⟨ys, (upd_ne (h.ne 1 6 (by decide))).trans h1, h2.upd h.rl (fun zs z => nomatch z)⟩
  cm := h.cm.keep (upd_ne (h.ne 2 6 (by decide)))
  sh := h.sh.keep (upd_ne (h.ne 3 6 (by decide)))
  an := (upd_ne (h.ne 4 6 (by decide))).trans h.an
  sw := (upd_ne (h.ne 5 6 (by decide))).trans h.sw
  rl := by rw [upd_same]; unfold CM.ruled; rw [List.map_append]; rfl
  gl := h.gl.keep (upd_ne (h.ne 7 6 (by decide)))
theorem CourseAt.putgl (h : CourseAt K CR CP CC B A m H) {kvs : List (Key × V)} (hx : H A.gl = some (.dK kvs)) (g : Str) (v : V) : CourseAt K CR CP CC B A (m.addG true g) (upd H A.gl (.dK (putK kvs (Sum.inr g) v))) := by
  have e : m.addG true g = { m with goals := if g ∈ m.goals then m.goals else m.goals ++ [g] } := by
    unfold CM.addG
    rw [if_pos rfl]
    split <;> rfl
  rw [e]
  exact {
    ex := h.ex.mut (h.fresh _ (by simp [CA.muts]))
    fresh := h.fresh
    nd := h.nd
    obj := (upd_ne (h.ne 0 7 (by decide))).trans h.obj
    plan := h.plan
    lts := by
      obtain ⟨ys, h1, h2⟩ := h.lts
      exact ⟨ys, (upd_ne (h.ne 1 7 (by decide))).trans h1, h2.upd hx (fun zs z => nomatch z)⟩
    cm := h.cm.keep (upd_ne (h.ne 2 7 (by decide)))
    sh := h.sh.keep (upd_ne (h.ne 3 7 (by decide)))
    an := (upd_ne (h.ne 4 7 (by decide))).trans h.an
    sw := (upd_ne (h.ne 5 7 (by decide))).trans h.sw
    rl := (upd_ne (h.ne 6 7 (by decide))).trans h.rl
    gl := by
      obtain ⟨kvs2, h1, h2⟩ := h.gl
      rw [hx] at h1
      cases h1
      exact DictG.put h2 g v }
end
end Ov


namespace Ov
open PySem PySem.Spec PyProof.Rows L2
open Evl (pss_cut tCut Ex Ev EvT EvL EvA EvU)
/-! ### Course: showing, send, standing_to -/
structure TxC (K : PySem.W.Frag) (mg : Str → Option Value) (CC : Addr) (tO : Tok) : Prop where
  g_Course : mg "Course" = some (.ref CC)
  g_OTHER : mg "OTHER" = some (.str "other" tO)
  cl : Cls K CC
  plan : NoAttr K CC "plan"
  letters : NoAttr K CC "letters"
  newest : NoAttr K CC "newest"
  whole : NoAttr K CC "whole"
  own : NoAttr K CC "own"
  came : NoAttr K CC "came"
  shown : NoAttr K CC "shown"
  off : NoAttr K CC "called_off"
  answers : NoAttr K CC "answers"
  counted : NoAttr K CC "counted"
  shows : NoAttr K CC "shows"
  rules : NoAttr K CC "rules"
  goals : NoAttr K CC "goals"
theorem ov_non (o : Option Nat) : decide (ov o = .non) = decide (o = none) := by cases o <;> rfl
theorem ov_some {o : Option Nat} {i : Nat} (h : o = some i) : ov o = .int (i : Int) := by rw [h]; rfl
section
variable {K : PySem.W.Frag} {CR CP CC : Addr} {B : Hp} {A : CA} {m : CM} {H : Hp} {σ : L2.St} {ta tb te to : TE} {D : Ends} {tz : TS}
theorem CourseAt.f (h : CourseAt K CR CP CC B A m H) {x : Str} {v : V} (cl : Cls K CC) (hn : NoAttr K CC x) (hl : (cf A m).lookup x = some v) (ha : Ev ta σ H (.ref A.c)) : Ev (tFld K ta x) σ H v := ev_fld ha h.obj cl hn hl
theorem s_cfld (h : CourseAt K CR CP CC B A m H) {m2 : CM} {x : Str} {v : V} (cl : Cls K CC) (nf : NoAttr K CC x) (e : putF x v (cf A m) = cf A m2) (al : m.Alike m2) (hv : Ev te σ H v) (ho : Ev to σ H (.ref A.c)) (k : ∀ H1, CourseAt K CR CP CC B A m2 H1 → D.nx σ H1) : sFld K to te x D σ H :=
  hv H (Ex.refl _) _ fun H1 e1 => ho H1 e1 _ fun H2 e2 => ⟨A.c, CC, A.dx, cf A m, rfl, (h.ext (e1.trans e2)).obj, cl, nf, by show 13 < 1000; decide, k _ ((h.ext (e1.trans e2)).putc e al)⟩
theorem q_cfld (h : CourseAt K CR CP CC B A m H) {m2 : CM} {x : Str} {v : V} (cl : Cls K CC) (nf : NoAttr K CC x) (e : putF x v (cf A m) = cf A m2) (al : m.Alike m2) (hv : Ev te σ H v) (ho : Ev to σ H (.ref A.c)) (k : ∀ H1, CourseAt K CR CP CC B A m2 H1 → tz D σ H1) : tSeq (sFld K to te x) tz D σ H :=
  s_cfld (D := { D with nx := tz D }) h cl nf e al hv ho k
theorem ev_callU {sp : Sp} {tr : TA} {xs vs : List V} {z : V} (hu : EvU ta σ H xs) (hr : EvA tr σ H vs) (hs : ∀ t H1, Ex H H1 → H1 t = some (.tup xs) → ∀ Q : VK, (∀ H2, Ex H1 H2 → Q z H2) → sp (.ref t :: vs) H1 Q E0) : Ev (tCall sp [] E0 (tCons ta tr)) σ H z := fun H1 e Q q =>
  hu H1 e _ fun t H2 _ e2 ht => hr H2 (e.trans e2) _ fun H3 e3 => by
    show sp ((.ref t :: vs) ++ []) H3 Q E0
    rw [List.append_nil]
    exact hs t H3 ((e.trans e2).trans e3) (e3 _ _ ht) Q fun H4 e4 => q H4 ((e2.trans e3).trans e4)
theorem letter_at {i : Nat} {l : Str × Int} (e : m.letters[i]? = some l) : m.kindAt i = l.1 ∧ m.numAt i = l.2 := by
  unfold CM.kindAt CM.numAt
  rw [e]
  exact ⟨rfl, rfl⟩
theorem atI_neg1 {xs : List V} {x : V} (h : xs[xs.length - 1]? = some x) (hl : 0 < xs.length) : atI xs (-1) = some x := by
  rcases List.eq_nil_or_concat xs with rfl | ⟨ys, y, rfl⟩
  · exact absurd hl (Nat.lt_irrefl _)
  · rw [List.concat_eq_append] at h ⊢
    rw [atI_last]
    simpa using h
theorem CourseAt.kind (h : CourseAt K CR CP CC B A m H) {i : Nat} (hi : i < m.letters.length) (ha : Ev ta σ H (.ref A.L)) (hb : Ev tb σ H (.int (i : Int))) : Ev (tOp (rIxT K) (tOp (rIxL K) ta tb) (tC (V.int 0))) σ H (.str (m.kindAt i)) := by
  obtain ⟨xs, h1, h2⟩ := h.lts
  obtain ⟨t, l, e1, e2, e3⟩ := h2.at_ hi
  rw [(letter_at e2).1]
  exact ev_ixT (j := 0) (Evl.ev_op ha hb (Evl.rv_ixL (Evl.sq_of h1) (atI_nat e1))) Evl.ev_c (Evl.st_of e3) rfl
theorem CourseAt.num (h : CourseAt K CR CP CC B A m H) {i : Nat} (hi : i < m.letters.length) (ha : Ev ta σ H (.ref A.L)) (hb : Ev tb σ H (.int (i : Int))) : Ev (tOp (rIxT K) (tOp (rIxL K) ta tb) (tC (V.int 1))) σ H (.int (m.numAt i)) := by
  obtain ⟨xs, h1, h2⟩ := h.lts
  obtain ⟨t, l, e1, e2, e3⟩ := h2.at_ hi
  rw [(letter_at e2).2]
  exact ev_ixT (j := 1) (Evl.ev_op ha hb (Evl.rv_ixL (Evl.sq_of h1) (atI_nat e1))) Evl.ev_c (Evl.st_of e3) rfl
theorem CourseAt.last (h : CourseAt K CR CP CC B A m H) (hw : m.WF) (ha : Ev ta σ H (.ref A.L)) (hb : Ev tb σ H (.int (-1))) : Ev (tOp (rIxT K) (tOp (rIxL K) ta tb) (tC (V.int 1))) σ H (.int m.lastNum) := by
  obtain ⟨xs, h1, h2⟩ := h.lts
  have hne := hw.ne
  have hl := paired_len h2
  obtain ⟨t, l, e1, e2, e3⟩ := h2.at_ (i := m.letters.length - 1) (by omega)
  have e := (letter_at e2).2
  unfold CM.lastNum
  rw [e]
  rw [← hl] at e1
  exact ev_ixT (j := 1) (Evl.ev_op ha hb (Evl.rv_ixL (Evl.sq_of h1) (atI_neg1 e1 (by omega)))) Evl.ev_c (Evl.st_of e3) rfl
theorem CourseAt.lenL (h : CourseAt K CR CP CC B A m H) (ha : Ev ta σ H (.ref A.L)) : Ev (tCB (Evl.rLenS K) (tCons ta tNil)) σ H (.int (m.letters.length : Int)) := by
  obtain ⟨xs, h1, h2⟩ := h.lts
  rw [← paired_len h2]
  exact Evl.ev_len ha (Evl.sq_of h1)
end
def spShowing (K : PySem.W.Frag) (CR CP CC : Addr) : Sp := fun vs H Q _ => ∃ (B : Hp) (A : CA) (m : CM), vs = [.ref A.c] ∧ CourseAt K CR CP CC B A m H ∧ ∀ H', Ex H H' → Q (ov m.showing) H'
def spSend (K : PySem.W.Frag) (CR CP CC : Addr) : Sp := fun vs H Q _ => ∃ (B : Hp) (A : CA) (m : CM) (d : Str), vs = [.ref A.c, .str d] ∧ CourseAt K CR CP CC B A m H ∧ m.WF ∧ m.letters.length ≤ 5000 ∧ d ∈ CM.deedsAll ∧ ∀ H', CourseAt K CR CP CC B A (m.send d) H' → Q .non H'
def spStandingTo (K : PySem.W.Frag) (CR CP CC : Addr) : Sp := fun vs H Q _ => ∃ (B : Hp) (A : CA) (m : CM) (i : Nat) (p : Option Nat), vs = [.ref A.c, .int (i : Int), ov p] ∧ CourseAt K CR CP CC B A m H ∧ i < m.letters.length ∧ (∀ j, p = some j → j < m.letters.length) ∧ ∀ H', Ex H H' → Q (.str (m.rel i p)) H'
section
variable {P : Program} {w : World} {K : PySem.W.Frag} {mg : Str → Option Value} {base : Heap} {a_LETTERS a_LETTER_TESTS a_LETTER_DEEDS a_ANSWER_TESTS a_ANSWER_DEEDS CR CP CC a_HOLDS : Addr} {tA tN tO : Tok}
abbrev sCourseShowing : Stmt := inClass (topS 41) 1
theorem scCourseShowing : FnScope ["self"] ["self"] (defScope sCourseShowing) := ⟨rfl, rfl, rfl, by decide +kernel, rfl, by decide +kernel, by decide +kernel⟩
abbrev sCourseSend : Stmt := inClass (topS 41) 2
theorem scCourseSend : FnScope ["self", "deed", "kind", "number"] ["self", "deed"] (defScope sCourseSend) := ⟨rfl, rfl, rfl, by decide +kernel, rfl, by decide +kernel, by decide +kernel⟩
abbrev sCourseStandingTo : Stmt := inClass (topS 41) 3
theorem scCourseStandingTo : FnScope ["self", "place", "part", "other"] ["self", "place", "part"] (defScope sCourseStandingTo) := ⟨rfl, rfl, rfl, by decide +kernel, rfl, by decide +kernel, by decide +kernel⟩
theorem ok_showing {f : Addr} {fd : FuncData} (F : Fun K "showing" "Course.showing" sCourseShowing f fd) (TC : TxC K mg CC tO) : FnOk P w K mg base CX0 1 f fd ["self"] (spShowing K CR CP CC) := by
  refine F.ok scCourseShowing (fun vs H Q E h => ?_) (fun cdv A outer s H vs Q E hr h => ?_)
  · obtain ⟨B, A, m, rfl, _⟩ := h
    rfl
  · obtain ⟨B, A, m, rfl, h, q⟩ := h
    refine ⟨_, pss_one (ps_ret (pe_ifExp (pt_cmpR op_isN (pe_fld (pv 0) rfl) pe_non (nomark _)) (pe_fld (pv 0) rfl) (pe_fld (pv 0) rfl))), ?_⟩
    refine Evl.s_ret (v := ov m.showing) (Evl.ev_if (b := decide (m.own = none)) (Evl.et_is (Evl.et_test (Evl.ev_op (h.f TC.cl TC.own cf_own (Evl.ev_var rfl)) Evl.ev_c rv_isN)) (ov_non _)) (fun e => ?_) (fun e => ?_)) q
    · have e2 : m.showing = m.whole := by
        unfold CM.showing
        rw [of_decide_eq_true e]
      rw [e2]
      exact h.f TC.cl TC.whole cf_whole (Evl.ev_var rfl)
    · have e2 : m.showing = m.own := by
        unfold CM.showing
        cases e3 : m.own with
        | none =>
          rw [e3] at e
          cases e
        | some i => rfl
      rw [e2]
      exact h.f TC.cl TC.own cf_own (Evl.ev_var rfl)
theorem ok_send {f : Addr} {fd : FuncData} (F : Fun K "send" "Course.send" sCourseSend f fd) (T : TxR K mg a_LETTERS a_LETTER_TESTS a_LETTER_DEEDS a_ANSWER_TESTS a_ANSWER_DEEDS CR tA tN) (TP : TxP K mg CP) (TC : TxC K mg CC tO) : FnOk P w K mg base CX0 1 f fd ["self", "deed"] (spSend K CR CP CC) := by
  refine F.ok scCourseSend (fun vs H Q E h => ?_) (fun cdv A outer s H vs Q E hr h => ?_)
  · obtain ⟨B, A, m, d, rfl, _⟩ := h
    rfl
  · obtain ⟨B, A, m, d, rfl, h, hw, hz, hd, q⟩ := h
    refine ⟨_, pss_cons (ps_set (i := 2) scCourseSend.nd rfl (.inl rfl) (pe_bm PySem.F.plainAttrs_str PySem.F.slot_str_removeprefix PySem.F.type_str_removeprefix mt_removeprefix (pv 1) (pa_cons pe_str pa_nil)))
      (pss_cons (ps_set (i := 3) scCourseSend.nd rfl (.inl rfl) (pe_op op_add (pe_ix ix_tup (pe_ix ix_list (pe_fld (pv 0) rfl) (pe_un un_neg pe_int) (fun _ _ => rfl)) pe_int (fun _ _ => rfl)) (pe_ifExp (pt_cmpR op_in_seq (pv 2) (pe_fld (pe_fld (pv 0) rfl) rfl) (by rfl)) pe_int pe_int)))
      (pss_cut (ps_if (pt_cmpR op_eq (pv 1) (pv 2) (nomark _)) (pss_cons (ps_fld (pv 0) (pe_callB call_len_seq (by rfl) T.n_len (by decide +kernel) (pa_cons (pe_fld (pv 0) rfl) pa_nil)) rfl)
      (pss_one (ps_fld (pv 0) pe_non rfl))) pss_nil)
      (pss_one (ps_expr (pe_bm PySem.F.plainAttrs_list PySem.F.slot_list_append PySem.F.type_list_append mt_append (pe_fld (pv 0) rfl) (pa_cons (pe_tup (pa_cons (pe_ifExp (pt_cmpR op_eq (pv 1) (pv 2) (nomark _)) (pv 2) (pe_glob (v := .str "other") rfl TC.g_OTHER ⟨_, rfl⟩)) (pa_cons (pv 3) pa_nil))) pa_nil)))))), ?_⟩
    have ld : d.length ≤ 16 := by
      have a : ∀ d ∈ CM.deedsAll, d.length ≤ 16 := by decide +kernel
      exact a d hd
    obtain ⟨xs, ⟨dp, a, b, h1, h2, h3⟩, hR⟩ := h.plan
    refine Evl.q_asg (v := .str (CM.sentKind d)) (fun H2 e2 Q2 q2 => ⟨_, rfl, rfl, _, _, rfl, rfl, size_of (by omega), q2 H2 (Ex.refl _)⟩) fun H1 e1 => ?_
    have c1 := h.ext e1
    refine Evl.q_asg (v := .int (m.sentNum d)) (Evl.ev_op (c1.last hw (c1.f TC.cl TC.letters cf_letters (Evl.ev_var rfl)) (Evl.ev_un Evl.ev_c Evl.ru_neg)) (Evl.ev_if (b := decide (CM.sentKind d ∈ m.ks)) (v := .int (if CM.sentKind d ∈ m.ks then 1 else 0)) (Evl.et_test (Evl.ev_is (Evl.ev_op (Evl.ev_var rfl) (ev_fld (c1.f TC.cl TC.plan cf_plan (Evl.ev_var rfl)) (c1.ex _ _ h1) TP.cl TP.nR (pf_raises _ _)) (Evl.rv_isT (Evl.ex_t c1.ex h2) rfl (flat_strs _))) (by rw [inV_strs]))) (fun e => ?_) (fun e => ?_)) Evl.rv_I0) fun H2 e2 => ?_
    · rw [if_pos (of_decide_eq_true e)]
      exact Evl.ev_c
    · rw [if_neg (of_decide_eq_false e)]
      exact Evl.ev_c
    have c2 := c1.ext e2
    let m1 : CM := if d = CM.sentKind d then { m with newest := m.letters.length, counted := none } else m
    refine Evl.q_cut (M := fun σ' H' => σ' = [some (.ref A.c), some (.str d), some (.str (CM.sentKind d)), some (.int (m.sentNum d))] ∧ CourseAt K CR CP CC B A m1 H') ?_ (fun σ' H' hh => ?_)
    · refine Evl.s_when (b := decide (d = CM.sentKind d)) (Evl.et_is (Evl.et_test (Evl.ev_op (Evl.ev_var rfl) (Evl.ev_var rfl) (Evl.rv_eq rfl))) (eq_str _ _)) (fun e H3 e3 => ?_) (fun e H3 e3 => ⟨rfl, ?_⟩)
      · have c3 := c2.ext e3
        refine q_cfld c3 TC.cl TC.newest (pcf_newest m.letters.length) ⟨rfl, rfl, rfl, rfl, rfl, rfl, rfl, rfl, rfl⟩ (c3.lenL (c3.f TC.cl TC.letters cf_letters (Evl.ev_var rfl))) (Evl.ev_var rfl) fun H4 c4 => ?_
        refine s_cfld c4 TC.cl TC.counted (pcf_counted none) ⟨rfl, rfl, rfl, rfl, rfl, rfl, rfl, rfl, rfl⟩ Evl.ev_c (Evl.ev_var rfl) fun H5 c5 => ⟨rfl, ?_⟩
        have em : m1 = { m with newest := m.letters.length, counted := none } := if_pos (of_decide_eq_true e)
        rw [em]
        exact c5
      · have em : m1 = m := if_neg (of_decide_eq_false e)
        rw [em]
        exact c2.ext e3
    · obtain ⟨rfl, c3⟩ := hh
      have ml : m1.letters = m.letters := by
        show (if d = CM.sentKind d then { m with newest := m.letters.length, counted := none } else m : CM).letters = m.letters
        split <;> rfl
      have es : m.send d = { m1 with letters := m1.letters ++ [(if d = CM.sentKind d then CM.sentKind d else ("other" : Str), m.sentNum d)] } := by
        rw [ml]
        show m.send d = { (if d = CM.sentKind d then { m with newest := m.letters.length, counted := none } else m : CM) with letters := m.letters ++ [(if d = CM.sentKind d then CM.sentKind d else ("other" : Str), m.sentNum d)] }
        unfold CM.send
        by_cases e : d = CM.sentKind d
        · rw [if_pos e, if_pos e, if_pos e]
        · rw [if_neg e, if_neg e, if_neg e]
      obtain ⟨ys, y1, y2⟩ := c3.lts
      have yl := paired_len y2
      refine Evl.s_appU y1 (c3.f TC.cl TC.letters cf_letters (Evl.ev_var rfl)) (Evl.eu_tup (Evl.ea_cons (x := .str (if d = CM.sentKind d then CM.sentKind d else ("other" : Str))) (Evl.ev_if (b := decide (d = CM.sentKind d)) (Evl.et_is (Evl.et_test (Evl.ev_op (Evl.ev_var rfl) (Evl.ev_var rfl) (Evl.rv_eq rfl))) (eq_str _ _)) (fun e => ?_) (fun e => ?_)) (Evl.ea_cons (Evl.ev_var rfl) Evl.ea_nil)) (by show 2 ≤ 100000; decide)) (by rw [yl, ml]; omega) fun p H4 np e4 hp => ?_
      · rw [if_pos (of_decide_eq_true e)]
        exact Evl.ev_var rfl
      · rw [if_neg (of_decide_eq_false e)]
        exact Evl.ev_c
      · have c5 := (c3.ext e4).putL (e4 _ _ y1) hp
        refine q _ ?_
        rw [es]
        exact c5
theorem ok_standing_to {f fR : Addr} {fd fdR : FuncData} (F : Fun K "standing_to" "Course.standing_to" sCourseStandingTo f fd) (TC : TxC K mg CC tO) (D_relation : Df K mg "relation" sRelation ["letter", "part"] fR fdR) : FnOk P w K mg base CX0 2 f fd ["self", "place", "part"] (spStandingTo K CR CP CC) := by
  have G_relation : FnOk P w K mg base CX0 1 fR fdR ["letter", "part"] (spRelation K) := ok_relation D_relation.F
  refine F.ok scCourseStandingTo (fun vs H Q E h => ?_) (fun cdv A outer s H vs Q E hr h => ?_)
  · obtain ⟨B, A, m, i, p, rfl, _⟩ := h
    rfl
  · obtain ⟨B, A, m, i, p, rfl, h, hi, hp, q⟩ := h
    refine ⟨_, pss_cons (ps_set (i := 3) scCourseStandingTo.nd rfl (.inl rfl) (pe_ifExp (pt_cmpR op_isN (pv 2) pe_non (nomark _)) pe_non (pe_tup (pa_cons (pe_ix ix_tup (pe_ix ix_list (pe_fld (pv 0) rfl) (pv 2) (fun _ _ => rfl)) pe_int (fun _ _ => rfl)) (pa_cons (pv 2) pa_nil)))))
      (pss_one (ps_ret (pe_call G_relation (hr.mono (by decide)) rfl D_relation.g D_relation.F.kp D_relation.b .nil pass0 (pa_cons (pe_tup (pa_cons (pe_ix ix_tup (pe_ix ix_list (pe_fld (pv 0) rfl) (pv 1) (fun _ _ => rfl)) pe_int (fun _ _ => rfl)) (pa_cons (pv 1) pa_nil))) (pa_cons (pv 3) pa_nil))))), ?_⟩
    have fin : ∀ (v : V) (H1 : Hp), Ex H H1 → PartAt K H1 v (p.map fun j => (m.numAt j, (j : Int))) → (tRet (tCall (spRelation K) [] E0 (tCons (tTup (tCons (tOp (rIxT K) (tOp (rIxL K) (tFld K (tVar 0) "letters") (tVar 1)) (tC (V.int 1))) (tCons (tVar 1) tNil))) (tCons (tVar 3) tNil)))) { nx := fun _ H' => Q .non H', rt := Q } [some (.ref A.c), some (.int (i : Int)), some (ov p), some v] H1 := fun v H1 e1 hv => by
      have c1 := h.ext e1
      have eu : EvU (tTup (tCons (tOp (rIxT K) (tOp (rIxL K) (tFld K (tVar 0) "letters") (tVar 1)) (tC (V.int 1))) (tCons (tVar 1) tNil))) [some (.ref A.c), some (.int (i : Int)), some (ov p), some v] H1 [.int (m.numAt i), .int (i : Int)] := Evl.eu_tup (Evl.ea_cons (c1.num hi (c1.f TC.cl TC.letters cf_letters (Evl.ev_var rfl)) (Evl.ev_var rfl)) (Evl.ea_cons (Evl.ev_var rfl) Evl.ea_nil)) (by show 2 ≤ 100000; decide)
      exact Evl.s_ret (v := .str (m.rel i p)) (ev_callU eu (Evl.ea_cons (Evl.ev_var rfl) Evl.ea_nil) fun t H2 e2 ht Q2 q2 => ⟨t, v, m.numAt i, (i : Int), _, rfl, Evl.st_of ht, hv.ex e2, fun H3 e3 => q2 H3 e3⟩) fun H3 e3 => q H3 (e1.trans e3)
    rcases p with _ | j
    · refine Evl.q_asg (v := .non) (Evl.ev_if (b := true) (Evl.et_test (Evl.ev_op (Evl.ev_var rfl) Evl.ev_c rv_isN)) (fun _ => Evl.ev_c) (fun z => nomatch z)) fun H1 e1 => ?_
      exact fin .non H1 e1 rfl
    · refine q_asgP (Pp := fun t H2 => H2 t = some (.tup [.int (m.numAt j), .int (j : Int)])) (evP_ite (b := false) (Evl.et_test (Evl.ev_op (Evl.ev_var rfl) Evl.ev_c rv_isN)) (fun z => nomatch z) (fun _ => EvP.tup (Evl.eu_tup (Evl.ea_cons (h.num (hp j rfl) (h.f TC.cl TC.letters cf_letters (Evl.ev_var rfl)) (Evl.ev_var rfl)) (Evl.ea_cons (Evl.ev_var rfl) Evl.ea_nil)) (by show 2 ≤ 100000; decide)) fun _ _ _ h => h)) fun t H1 e1 ht => ?_
      exact fin (.ref t) H1 e1 ⟨t, rfl, Evl.st_of ht⟩
end
end Ov


namespace Ov
open PySem PySem.Spec PyProof.Rows L2
open Evl (pss_cut tCut Ex Ev EvT EvL EvA EvU)
/-! ### Course: come, hear -/
def spCome (K : PySem.W.Frag) (CR CP CC : Addr) : Sp := fun vs H Q _ => ∃ (B : Hp) (A : CA) (m : CM) (i : Nat), vs = [.ref A.c, .int (i : Int)] ∧ CourseAt K CR CP CC B A m H ∧ m.WF ∧ m.came.length ≤ 5000 ∧ i < m.letters.length ∧ m.kindAt i ≠ ("other" : Str) ∧ ∀ H', CourseAt K CR CP CC B A (m.come i) H' → Q (ov (m.ruleFor i)) H'
def spHear (K : PySem.W.Frag) (CR CP CC : Addr) : Sp := fun vs H Q _ => ∃ (B : Hp) (A : CA) (m : CM) (i : Nat), vs = [.ref A.c, .int (i : Int)] ∧ CourseAt K CR CP CC B A m H ∧ m.WF ∧ i < m.answers.length ∧ ∀ H', CourseAt K CR CP CC B A (m.hear i) H' → Q (ov (m.ruleHear i)) H'
section
variable {K : PySem.W.Frag} {CR CP CC : Addr} {B : Hp} {A : CA} {m : CM} {H : Hp} {σ : L2.St} {ta tb te to : TE} {D : Ends} {tz : TS}
theorem WF_kind (hw : m.WF) {i : Nat} (hi : i < m.letters.length) (ho : m.kindAt i ≠ ("other" : Str)) : m.kindAt i ∈ letterKinds := by
  have e := List.getElem?_eq_getElem hi
  have h1 := (letter_at e).1
  rcases hw.kinds _ (List.getElem_mem hi) with z | z
  · rw [h1]
    exact z
  · exact absurd (h1.trans z) ho
theorem rule_deedsM_good {rs : List RuleD} (g : ∀ r ∈ rs, r.Good) (r : Option Nat) : Plain (deedsM rs r) ∧ (deedsM rs r).length ≤ 1000 := by
  cases r with
  | none => exact ⟨(fun x hx => nomatch hx), Nat.zero_le _⟩
  | some i =>
    show Plain (((rs[i]?).map RuleD.ds).getD []) ∧ (((rs[i]?).map RuleD.ds).getD []).length ≤ 1000
    cases e : rs[i]? with
    | none => exact ⟨(fun x hx => nomatch hx), Nat.zero_le _⟩
    | some r => exact ⟨(g r (List.mem_of_getElem? e)).pd, (g r (List.mem_of_getElem? e)).nd⟩
theorem s_dput {td ty tv : TE} {a : Addr} {k : Key} {v : V} {kvs : List (Key × V)} (hv : Ev tv σ H v) (hd : Ev td σ H (.ref a)) (hy : Ev ty σ H (kV k)) (ha : H a = some (.dK kvs)) (hl : kvs.length < sizeLine) (c : ∀ H1, Ex H H1 → D.nx σ (upd H1 a (.dK (putK kvs k v)))) : sDPut td ty tv D σ H :=
  hv H (Ex.refl _) _ fun H1 e1 => hd H1 e1 _ fun H2 e2 => hy H2 (e1.trans e2) _ fun H3 e3 => ⟨a, _, rfl, DPut.k ((e1.trans (e2.trans e3)) _ _ ha) hl, c H3 (e1.trans (e2.trans e3))⟩
theorem q_dput {td ty tv : TE} {a : Addr} {k : Key} {v : V} {kvs : List (Key × V)} (hv : Ev tv σ H v) (hd : Ev td σ H (.ref a)) (hy : Ev ty σ H (kV k)) (ha : H a = some (.dK kvs)) (hl : kvs.length < sizeLine) (c : ∀ H1, Ex H H1 → tz D σ (upd H1 a (.dK (putK kvs k v)))) : tSeq (sDPut td ty tv) tz D σ H :=
  s_dput (D := { D with nx := tz D }) hv hd hy ha hl c
theorem q_par {i j : Nat} {ta : TA} {x y : V} (h : EvA ta σ H [x, y]) (k : ∀ H1, Ex H H1 → tz D ((σ.set i (some x)).set j (some y)) H1) : tSeq (tPar i j ta) tz D σ H := h H (Ex.refl _) _ fun H1 e => ⟨x, y, rfl, k H1 e⟩
theorem CourseAt.standing (h : CourseAt K CR CP CC B A m H) {i : Nat} {p : Option Nat} (hi : i < m.letters.length) (hp : ∀ j, p = some j → j < m.letters.length) (ha : Ev ta σ H (.ref A.c)) (hb : Ev tb σ H (.int (i : Int))) (hc : Ev te σ H (ov p)) (no : (cf A m).lookup ("standing_to" : Str) = none) :
    Ev (tMeth CC "standing_to" (spStandingTo K CR CP CC) [] E0 ta (tCons tb (tCons te tNil))) σ H (.str (m.rel i p)) := fun H1 e1 Q q =>
  ha H1 e1 _ fun H2 e2 => ⟨A.c, A.dx, _, rfl, (h.ext (e1.trans e2)).obj, no, hb H2 (e1.trans e2) _ fun H3 e3 => hc H3 ((e1.trans e2).trans e3) _ fun H4 e4 =>
    ⟨B, A, m, i, p, rfl, h.ext (((e1.trans e2).trans e3).trans e4), hi, hp, fun H5 e5 => q H5 (((e2.trans e3).trans e4).trans e5)⟩⟩
theorem CourseAt.deeds (h : CourseAt K CR CP CC B A m H) {r : Option Nat} (hr : ∀ i, r = some i → i < m.rs.length) (ha : Ev ta σ H (.ref A.p)) (hb : Ev tb σ H (ov r)) : EvP (tCall (spDeedsM K CR CP) [] E0 (tCons ta (tCons tb tNil))) σ H (fun t H2 => SqT K H2 t ((deedsM m.rs r).map V.str)) := fun H1 e1 Q q =>
  ha H1 e1 _ fun H2 e2 => hb H2 (e1.trans e2) _ fun H3 e3 => ⟨A.p, m.ks, m.rs, r, rfl, h.plan.ex (h.ex.trans ((e1.trans e2).trans e3)), hr, fun t H4 e4 st => q t H4 ((e2.trans e3).trans e4) st⟩
end
theorem cf_nostanding {A : CA} {m : CM} : (cf A m).lookup ("standing_to" : Str) = none := by kernel_rfl
theorem cf_noshowing {A : CA} {m : CM} : (cf A m).lookup ("showing" : Str) = none := by kernel_rfl
section
variable {P : Program} {w : World} {K : PySem.W.Frag} {mg : Str → Option Value} {base : Heap} {a_LETTERS a_LETTER_TESTS a_LETTER_DEEDS a_ANSWER_TESTS a_ANSWER_DEEDS CR CP CC a_HOLDS : Addr} {tA tN tO : Tok}
abbrev sCourseCome : Stmt := inClass (topS 41) 4
theorem scCourseCome : FnScope ["self", "place", "kind", "to_whole", "to_own", "rule", "takes", "wipes"] ["self", "place"] (defScope sCourseCome) := ⟨rfl, rfl, rfl, by decide +kernel, rfl, by decide +kernel, by decide +kernel⟩
abbrev sCourseHear : Stmt := inClass (topS 41) 5
theorem scCourseHear : FnScope ["self", "answer", "level", "rule", "deeds"] ["self", "answer"] (defScope sCourseHear) := ⟨rfl, rfl, rfl, by decide +kernel, rfl, by decide +kernel, by decide +kernel⟩
theorem ok_come {f fSt fLR fE fD fW : Addr} {fd fdSt fdLR fdE fdD fdW : FuncData} (F : Fun K "come" "Course.come" sCourseCome f fd) (TC : TxC K mg CC tO)
    (M_standing_to : Meth K CC "standing_to" fSt) (G_standing_to : FnOk P w K mg base CX0 2 fSt fdSt ["self", "place", "part"] (spStandingTo K CR CP CC)) (b_standing_to : Binds K fdSt ["self", "place", "part"] [])
    (D_letter_rule : Df K mg "letter_rule" sLetterRule ["plan", "kind", "to_whole", "to_own"] fLR fdLR) (G_letter_rule : FnOk P w K mg base CX0 2 fLR fdLR ["plan", "kind", "to_whole", "to_own"] (spLetterRule K CR CP))
    (D_effect : Df K mg "effect" sEffect ["kind", "deeds"] fE fdE) (G_effect : FnOk P w K mg base CX0 2 fE fdE ["kind", "deeds"] (spEffect K))
    (D_deeds_of : Df K mg "deeds_of" sDeedsOf ["plan", "at"] fD fdD) (G_deeds_of : FnOk P w K mg base CX0 1 fD fdD ["plan", "at"] (spDeedsM K CR CP))
    (D_is_whole_kind : Df K mg "is_whole_kind" sIsWholeKind ["kind"] fW fdW) : FnOk P w K mg base CX0 4 f fd ["self", "place"] (spCome K CR CP CC) := by
  have G_is_whole_kind : FnOk P w K mg base CX0 1 fW fdW ["kind"] spWholeKind := ok_whole_kind D_is_whole_kind.F
  refine F.ok scCourseCome (fun vs H Q E h => ?_) (fun cdv A outer s H vs Q E hr h => ?_)
  · obtain ⟨B, A, m, i, rfl, _⟩ := h
    rfl
  · obtain ⟨B, A, m, i, rfl, h, hw, hz, hi, ho, q⟩ := h
    have hu := hu_of hr
    refine ⟨_, pss_cons (ps_set (i := 2) scCourseCome.nd rfl (.inl rfl) (pe_ix ix_tup (pe_ix ix_list (pe_fld (pv 0) rfl) (pv 1) (fun _ _ => rfl)) pe_int (fun _ _ => rfl)))
      (pss_cons (ps_par (i := 3) (j := 4) (by rfl) scCourseCome.nd rfl rfl (by decide) rfl rfl (pa_cons (pe_meth (pv 0) TC.cl M_standing_to G_standing_to (hr.mono (by decide)) b_standing_to .nil pass0 (pa_cons (pv 1) (pa_cons (pe_fld (pv 0) rfl) pa_nil))) (pa_cons (pe_meth (pv 0) TC.cl M_standing_to G_standing_to (hr.mono (by decide)) b_standing_to .nil pass0 (pa_cons (pv 1) (pa_cons (pe_fld (pv 0) rfl) pa_nil))) pa_nil)) (by rfl))
      (pss_cons (ps_set (i := 5) scCourseCome.nd rfl (.inl rfl) (pe_call G_letter_rule (hr.mono (by decide)) rfl D_letter_rule.g D_letter_rule.F.kp D_letter_rule.b .nil pass0 (pa_cons (pe_fld (pv 0) rfl) (pa_cons (pv 2) (pa_cons (pv 3) (pa_cons (pv 4) pa_nil))))))
      (pss_cons (ps_asg (pe_call G_effect (hr.mono (by decide)) rfl D_effect.g D_effect.F.kp D_effect.b .nil pass0 (pa_cons (pv 2) (pa_cons (pe_call G_deeds_of (hr.mono (by decide)) rfl D_deeds_of.g D_deeds_of.F.kp D_deeds_of.b .nil pass0 (pa_cons (pe_fld (pv 0) rfl) (pa_cons (pv 5) pa_nil))) pa_nil))) (pg_tup (by rfl) (pgs_cons (pg_name (i := 6) scCourseCome.nd rfl (Or.inl rfl)) (pgs_cons (pg_name (i := 7) scCourseCome.nd rfl (Or.inl rfl)) pgs_nil))))
      (pss_cut (ps_if (pt_truth (pv 7) (by intro _; rfl)) (pss_one (ps_fld (pv 0) pe_non rfl)) pss_nil)
      (pss_cut (ps_if (PW.pt (pw_and (pt_truth (pv 6) (by intro _; rfl)) (pw_and1 (pt_val (pe_call G_is_whole_kind (hr.mono (by decide)) rfl D_is_whole_kind.g D_is_whole_kind.F.kp D_is_whole_kind.b .nil pass0 (pa_cons (pv 2) pa_nil)))))) (pss_one (ps_fld (pv 0) (pv 1) rfl)) (pss_one (ps_if (pt_truth (pv 6) (by intro _; rfl)) (pss_one (ps_fld (pv 0) (pv 1) rfl)) pss_nil)))
      (pss_cons (ps_dput hu (pe_fld (pv 0) rfl) (pv 1) pe_bl rfl)
      (pss_one (ps_ret (pv 5))))))))), ?_⟩
    refine Evl.q_asg (v := .str (m.kindAt i)) (h.kind hi (h.f TC.cl TC.letters cf_letters (Evl.ev_var rfl)) (Evl.ev_var rfl)) fun H1 e1 => ?_
    have c1 := h.ext e1
    refine q_par (x := .str (m.rel i m.whole)) (y := .str (m.rel i m.own)) (Evl.ea_cons (c1.standing hi hw.whole (Evl.ev_var rfl) (Evl.ev_var rfl) (c1.f TC.cl TC.whole cf_whole (Evl.ev_var rfl)) cf_nostanding) (Evl.ea_cons (c1.standing hi hw.own (Evl.ev_var rfl) (Evl.ev_var rfl) (c1.f TC.cl TC.own cf_own (Evl.ev_var rfl)) cf_nostanding) Evl.ea_nil)) fun H2 e2 => ?_
    have c2 := c1.ext e2
    refine Evl.q_asg (v := ov (m.ruleFor i)) (ev_call (Evl.ea_cons (c2.f TC.cl TC.plan cf_plan (Evl.ev_var rfl)) (Evl.ea_cons (Evl.ev_var rfl) (Evl.ea_cons (Evl.ev_var rfl) (Evl.ea_cons (Evl.ev_var rfl) Evl.ea_nil)))) fun H3 e3 Q3 q3 => ⟨A.p, m.kindAt i, m.rel i m.whole, m.rel i m.own, m.ks, m.rs, rfl, h.plan.ex ((c2.ext e3).ex), WF_kind hw hi ho, hw.g, hw.hz, fun H4 e4 => q3 H4 e4⟩) fun H3 e3 => ?_
    have c3 := c2.ext e3
    obtain ⟨gd, ld⟩ := rule_deedsM_good hw.g (m.ruleFor i)
    refine q_put ⟨_, rfl, (c3.deeds (r := m.ruleFor i) (fun j e => fi_lt e) (c3.f TC.cl TC.plan cf_plan (Evl.ev_var rfl)) (Evl.ev_var rfl)) H3 (Ex.refl _) _ fun t H4 e4 st => ⟨m.kindAt i, t, _, rfl, st, gd, ld, fun p H5 e5 hp => ⟨p, _, rfl, Evl.st_of hp, rfl, _, _, rfl, _, _, rfl, rfl, ?_⟩⟩⟩
    have c5 := c3.ext (e4.trans e5)
    -- if wipes: own = None
    refine Evl.q_cut (M := fun σ' H' => σ' = [some (.ref A.c), some (.int (i : Int)), some (.str (m.kindAt i)), some (.str (m.rel i m.whole)), some (.str (m.rel i m.own)), some (ov (m.ruleFor i)), some (.bl (m.effFor i).1), some (.bl (m.effFor i).2)] ∧ CourseAt K CR CP CC B A (m.wiped (m.effFor i).2) H') ?_ (fun σ' H' hh => ?_)
    · refine Evl.s_when (b := (m.effFor i).2) (fun H6 e6 Q6 q6 => ⟨_, rfl, _, rfl, q6 H6 (Ex.refl _)⟩) (fun e H6 e6 => ?_) (fun e H6 e6 => ⟨rfl, ?_⟩)
      · refine s_cfld (c5.ext e6) TC.cl TC.own (pcf_own none) ⟨rfl, rfl, rfl, rfl, rfl, rfl, rfl, rfl, rfl⟩ Evl.ev_c (Evl.ev_var rfl) fun H7 c7 => ⟨rfl, ?_⟩
        rw [e]
        exact c7
      · rw [e]
        exact c5.ext e6
    · obtain ⟨rfl, c6⟩ := hh
      refine Evl.q_cut (M := fun σ' H' => σ' = [some (.ref A.c), some (.int (i : Int)), some (.str (m.kindAt i)), some (.str (m.rel i m.whole)), some (.str (m.rel i m.own)), some (ov (m.ruleFor i)), some (.bl (m.effFor i).1), some (.bl (m.effFor i).2)] ∧ CourseAt K CR CP CC B A ((m.wiped (m.effFor i).2).taken i (m.effFor i).1 (wholeKind (m.kindAt i))) H') ?_ (fun σ' H' hh => ?_)
      · have tk : ∀ (H6 : Hp), EvT (fun σ H Q => tVar 6 σ H fun x H' => ∃ k, TruV K x H' k ∧ Q k H') [some (.ref A.c), some (.int (i : Int)), some (.str (m.kindAt i)), some (.str (m.rel i m.whole)), some (.str (m.rel i m.own)), some (ov (m.ruleFor i)), some (.bl (m.effFor i).1), some (.bl (m.effFor i).2)] H6 (m.effFor i).1 := fun H6 H7 e7 Q7 q7 => ⟨_, rfl, _, rfl, q7 H7 (Ex.refl _)⟩
        refine Evl.s_if (b := (m.effFor i).1 && wholeKind (m.kindAt i)) (Evl.et_and (tk _) (fun _ => Evl.et_B (ev_call (Evl.ea_cons (Evl.ev_var rfl) Evl.ea_nil) fun H7 e7 Q7 q7 => ⟨_, rfl, fun H8 e8 => q7 H8 e8⟩))) (fun e H7 e7 => ?_) (fun e H7 e7 => ?_)
        · refine s_cfld (c6.ext e7) TC.cl TC.whole (pcf_whole (some i)) ⟨rfl, rfl, rfl, rfl, rfl, rfl, rfl, rfl, rfl⟩ (Evl.ev_var rfl) (Evl.ev_var rfl) fun H8 c8 => ⟨rfl, ?_⟩
          unfold CM.taken
          rw [if_pos e]
          exact c8
        · refine Evl.s_when (b := (m.effFor i).1) (tk _) (fun e2 H8 e8 => ?_) (fun e2 H8 e8 => ⟨rfl, ?_⟩)
          · refine s_cfld ((c6.ext e7).ext e8) TC.cl TC.own (pcf_own (some i)) ⟨rfl, rfl, rfl, rfl, rfl, rfl, rfl, rfl, rfl⟩ (Evl.ev_var rfl) (Evl.ev_var rfl) fun H9 c9 => ⟨rfl, ?_⟩
            unfold CM.taken
            rw [if_neg (by rw [e]; decide), if_pos e2]
            exact c9
          · unfold CM.taken
            rw [if_neg (by rw [e]; decide), if_neg (by rw [e2]; decide)]
            exact (c6.ext e7).ext e8
      · obtain ⟨rfl, c7⟩ := hh
        have ec : ((m.wiped (m.effFor i).2).taken i (m.effFor i).1 (wholeKind (m.kindAt i))).came = m.came := by
          unfold CM.taken CM.wiped
          split <;> split <;> (try split) <;> rfl
        obtain ⟨kvs, k1, k2, k3⟩ := c7.cm
        rw [ec] at k2
        refine q_dput (k := Sum.inl (i : Int)) (v := .bl true) Evl.ev_c (c7.f TC.cl TC.came cf_came (Evl.ev_var rfl)) (Evl.ev_var rfl) k1 (Evl.sz_lt (by omega)) fun H8 e8 => ?_
        refine Evl.s_ret (v := ov (m.ruleFor i)) (Evl.ev_var rfl) fun H9 e9 => q H9 ?_
        exact ((c7.ext e8).putcm (e8 _ _ k1) i (.bl true)).ext e9
theorem ok_hear {f fAR fD : Addr} {fd fdAR fdD : FuncData} (F : Fun K "hear" "Course.hear" sCourseHear f fd) (TC : TxC K mg CC tO)
    (D_answer_rule : Df K mg "answer_rule" sAnswerRule ["plan", "level"] fAR fdAR) (G_answer_rule : FnOk P w K mg base CX0 1 fAR fdAR ["plan", "level"] (spAnswerRule K CR CP))
    (D_deeds_of : Df K mg "deeds_of" sDeedsOf ["plan", "at"] fD fdD) (G_deeds_of : FnOk P w K mg base CX0 1 fD fdD ["plan", "at"] (spDeedsM K CR CP)) : FnOk P w K mg base CX0 2 f fd ["self", "answer"] (spHear K CR CP CC) := by
  refine F.ok scCourseHear (fun vs H Q E h => ?_) (fun cdv A outer s H vs Q E hr h => ?_)
  · obtain ⟨B, A, m, i, rfl, _⟩ := h
    rfl
  · obtain ⟨B, A, m, i, rfl, h, hw, hi, q⟩ := h
    refine ⟨_, pss_cons (ps_set (i := 2) scCourseHear.nd rfl (.inl rfl) (pe_cmpR op_eq (pe_ix ix_tup (pe_ix ix_list (pe_fld (pv 0) rfl) (pe_ix ix_list (pe_fld (pv 0) rfl) (pv 1) (fun _ _ => rfl)) (fun _ _ => rfl)) pe_int (fun _ _ => rfl)) (pe_ix ix_tup (pe_ix ix_list (pe_fld (pv 0) rfl) (pe_un un_neg pe_int) (fun _ _ => rfl)) pe_int (fun _ _ => rfl)) (nomark _)))
      (pss_cons (ps_set (i := 3) scCourseHear.nd rfl (.inl rfl) (pe_call G_answer_rule (hr.mono (by decide)) rfl D_answer_rule.g D_answer_rule.F.kp D_answer_rule.b .nil pass0 (pa_cons (pe_fld (pv 0) rfl) (pa_cons (pv 2) pa_nil))))
      (pss_cons (ps_set (i := 4) scCourseHear.nd rfl (.inl rfl) (pe_call G_deeds_of (hr.mono (by decide)) rfl D_deeds_of.g D_deeds_of.F.kp D_deeds_of.b .nil pass0 (pa_cons (pe_fld (pv 0) rfl) (pa_cons (pv 3) pa_nil))))
      (pss_cut (ps_if (pt_truth (pv 4) (by intro _; rfl)) (pss_one (ps_fld (pv 0) (pe_ifExp (pt_cmpR op_eq (pe_ix ix_tup (pv 4) (pe_un un_neg pe_int) (fun _ _ => rfl)) pe_str (nomark _)) (pv 1) pe_non) rfl)) pss_nil)
      (pss_one (ps_ret (pv 3)))))), ?_⟩
    have ha : m.ansAt i < m.letters.length := by
      unfold CM.ansAt
      rw [List.getElem?_eq_getElem hi]
      exact hw.ans _ (List.getElem_mem hi)
    have la : Ev (tOp (rIxL K) (tFld K (tVar 0) "answers") (tVar 1)) (L2.start ["self", "answer", "level", "rule", "deeds"] [.ref A.c, .int (i : Int)]) H (.int (m.ansAt i : Int)) := by
      refine Evl.ev_op (h.f TC.cl TC.answers cf_answers (Evl.ev_var rfl)) (Evl.ev_var rfl) (Evl.rv_ixL (Evl.sq_of h.an) (atI_nat ?_))
      rw [List.getElem?_map, List.getElem?_eq_getElem hi]
      unfold CM.ansAt
      rw [List.getElem?_eq_getElem hi]
      rfl
    refine Evl.q_asg (v := .bl (m.levelFor i)) (Evl.ev_is (Evl.ev_op (h.num ha (h.f TC.cl TC.letters cf_letters (Evl.ev_var rfl)) la) (h.last hw (h.f TC.cl TC.letters cf_letters (Evl.ev_var rfl)) (Evl.ev_un Evl.ev_c Evl.ru_neg)) (Evl.rv_eq rfl)) ?_) fun H1 e1 => ?_
    · exact congrArg V.bl (decide_eq_decide.mpr ⟨fun z => V.int.inj z, fun z => congrArg V.int z⟩)
    have c1 := h.ext e1
    refine Evl.q_asg (v := ov (m.ruleHear i)) (ev_call (Evl.ea_cons (c1.f TC.cl TC.plan cf_plan (Evl.ev_var rfl)) (Evl.ea_cons (Evl.ev_var rfl) Evl.ea_nil)) fun H3 e3 Q3 q3 => ⟨A.p, m.levelFor i, m.ks, m.rs, rfl, h.plan.ex ((c1.ext e3).ex), hw.g, hw.hz, fun H4 e4 => q3 H4 e4⟩) fun H3 e3 => ?_
    have c3 := c1.ext e3
    refine q_asgP (c3.deeds (r := m.ruleHear i) (fun j e => fi_lt e) (c3.f TC.cl TC.plan cf_plan (Evl.ev_var rfl)) (Evl.ev_var rfl)) fun t H4 e4 st => ?_
    have c4 := c3.ext e4
    refine Evl.q_cut (M := fun σ' H' => σ' = [some (.ref A.c), some (.int (i : Int)), some (.bl (m.levelFor i)), some (ov (m.ruleHear i)), some (.ref t)] ∧ CourseAt K CR CP CC B A (m.hear i) H') ?_ (fun σ' H' hh => ?_)
    · refine Evl.s_when (b := !(deedsM m.rs (m.ruleHear i)).isEmpty) (fun H5 e5 Q5 q5 => ⟨_, rfl, _, .inr (.inl ⟨_, Evl.ex_t e5 st, rfl⟩), ?_⟩) (fun e H6 e6 => ?_) (fun e H6 e6 => ⟨rfl, ?_⟩)
      · rw [List.isEmpty_map]
        exact q5 H5 (Ex.refl _)
      · have hne : deedsM m.rs (m.ruleHear i) ≠ [] := by simpa using e
        obtain ⟨ds, d, ed⟩ : ∃ ds d, deedsM m.rs (m.ruleHear i) = ds ++ [d] := by
          rcases List.eq_nil_or_concat (deedsM m.rs (m.ruleHear i)) with z | ⟨ds, d, z⟩
          · exact absurd z hne
          · exact ⟨ds, d, by rw [z, List.concat_eq_append]⟩
        have eh : m.heardCount i = if d = ("count" : Str) then some i else none := by
          unfold CM.heardCount
          rw [ed, List.getLastD_concat]
        have st6 := Evl.ex_t e6 st
        refine s_cfld (c4.ext e6) TC.cl TC.counted (pcf_counted (m.heardCount i)) ⟨rfl, rfl, rfl, rfl, rfl, rfl, rfl, rfl, rfl⟩ (Evl.ev_if (b := decide (d = ("count" : Str))) (Evl.et_is (Evl.et_test (Evl.ev_op (Evl.ev_op (Evl.ev_var rfl) (Evl.ev_un Evl.ev_c Evl.ru_neg) (Evl.rv_ixT (v := .str d) st6 ?_)) Evl.ev_c (Evl.rv_eq rfl))) (eq_str _ _)) (fun e2 => ?_) (fun e2 => ?_)) (Evl.ev_var rfl) fun H7 c7 => ⟨rfl, ?_⟩
        · rw [ed, List.map_append]
          exact atI_last _ _
        · rw [eh, if_pos (of_decide_eq_true e2)]
          exact Evl.ev_var rfl
        · rw [eh, if_neg (of_decide_eq_false e2)]
          exact Evl.ev_c
        · unfold CM.hear
          rw [if_neg hne]
          exact c7
      · have he : deedsM m.rs (m.ruleHear i) = [] := by simpa using e
        unfold CM.hear
        rw [if_pos he]
        exact c4.ext e6
    · obtain ⟨rfl, c5⟩ := hh
      exact Evl.s_ret (v := ov (m.ruleHear i)) (Evl.ev_var rfl) fun H9 e9 => q H9 (c5.ext e9)
end
end Ov


namespace Ov
open PySem PySem.Spec PyProof.Rows L2
open Evl (pss_cut tCut Ex Ev EvT EvL EvA EvU)
/-! ### Course: look, is_back, judge -/
def spLook (K : PySem.W.Frag) (CR CP CC : Addr) : Sp := fun vs H Q _ => ∃ (B : Hp) (A : CA) (m : CM), vs = [.ref A.c] ∧ CourseAt K CR CP CC B A m H ∧ m.WF ∧ m.shows.length ≤ 5000 ∧ m.shown.length ≤ 5000 ∧ ∀ H', CourseAt K CR CP CC B A m.look H' → Q .non H'
def spIsBack (K : PySem.W.Frag) (CR CP CC : Addr) : Sp := fun vs H Q _ => ∃ (B : Hp) (A : CA) (m : CM) (p : Option Nat), vs = [.ref A.c, ov p] ∧ CourseAt K CR CP CC B A m H ∧ (∀ i, p = some i → i < m.letters.length) ∧ ∀ H', Ex H H' → Q (.bl (m.isBack p)) H'
def spJudge (K : PySem.W.Frag) (CR CP CC : Addr) : Sp := fun vs H Q _ => ∃ (B : Hp) (A : CA) (m : CM) (hd : Option Nat), vs = [.ref A.c, ov hd] ∧ CourseAt K CR CP CC B A m H ∧ m.WF ∧ m.goals.length ≤ 5000 ∧ ∀ H', CourseAt K CR CP CC B A (m.judge hd) H' → Q .non H'
theorem cf_noback {A : CA} {m : CM} : (cf A m).lookup ("is_back" : Str) = none := by kernel_rfl
theorem lt_int (i o : Nat) : decide ((i : Int) > (o : Int)) = decide (i > o) := decide_eq_decide.mpr ⟨fun h => by omega, fun h => by omega⟩
theorem lt_int2 (i o : Nat) : decide ((i : Int) < (o : Int)) = decide (i < o) := decide_eq_decide.mpr ⟨fun h => by omega, fun h => by omega⟩
theorem scal_ov (p : Option Nat) (n : Int) : scal (ov p) (.int n) = true := by cases p <;> rfl
theorem ov_eq (p : Option Nat) (n : Nat) : decide (ov p = .int (n : Int)) = decide (p = some n) := by
  cases p with
  | none => rfl
  | some i => exact decide_eq_decide.mpr ⟨fun z => by have := V.int.inj z; rw [Int.ofNat_inj.mp this], fun z => by cases z; rfl⟩
section
variable {K : PySem.W.Frag} {CR CP CC : Addr} {B : Hp} {A : CA} {m : CM} {H : Hp} {σ : L2.St} {ta tb te to : TE} {tt : TT} {D : Ends} {tz : TS}
theorem last_ov {l : List (Option Nat)} (h : 0 < l.length) : atI (l.map ov) (-1) = some (ov (l.getLastD none)) := by
  rcases List.eq_nil_or_concat l with rfl | ⟨ys, y, rfl⟩
  · exact absurd h (Nat.lt_irrefl _)
  · rw [List.concat_eq_append, List.map_append, List.getLastD_concat]
    exact atI_last _ _
theorem goals_len {kvs : List (Key × V)} {gs : List Str} (h : kvs.map (·.1) = gs.map Sum.inr) : kvs.length = gs.length := by
  have := congrArg List.length h
  rw [List.length_map, List.length_map] at this
  exact this
theorem s_goal (h : CourseAt K CR CP CC B A m H) (cl : Cls K CC) (ng : NoAttr K CC "goals") {b : Bool} {g : Str} (hz : m.goals.length ≤ 6000) (hd : Ev (tFld K (tVar 0) "goals") σ H (.ref A.gl)) (ht : EvT tt σ H b) (k : ∀ H1, CourseAt K CR CP CC B A (m.addG b g) H1 → D.nx σ H1) :
    tIfS tt (sDPut (tFld K (tVar 0) "goals") (tC (V.str g)) (tC (V.bl true))) tNext D σ H := by
  refine Evl.s_when (b := b) ht (fun e H1 e1 => ?_) (fun e H1 e1 => k H1 ?_)
  · have c1 := h.ext e1
    obtain ⟨kvs, k1, k2⟩ := c1.gl
    refine s_dput (k := Sum.inr g) (v := .bl true) Evl.ev_c (hd.mono e1) Evl.ev_c k1 (Evl.sz_lt (by rw [goals_len k2]; omega)) fun H2 e2 => k _ ?_
    rw [e]
    exact (c1.ext e2).putgl (e2 _ _ k1) g (.bl true)
  · rw [e]
    exact h.ext e1
theorem addG_len (b : Bool) (g : Str) : (m.addG b g).goals.length ≤ m.goals.length + 1 := by
  unfold CM.addG
  split
  · split
    · omega
    · show (m.goals ++ [g]).length ≤ _
      rw [List.length_append]
      exact Nat.le_refl _
  · omega
structure CM.SameG (m n : CM) : Prop where
  l : n.letters = m.letters
  s : n.shown = m.shown
  o : n.off = m.off
  c : n.counted = m.counted
  a : n.answers = m.answers
  w : n.newest = m.newest
  z : n.goals.length ≤ m.goals.length + 1
theorem addG_same (b : Bool) (g : Str) : m.SameG (m.addG b g) := by
  have z := addG_len (m := m) b g
  unfold CM.addG at z ⊢
  split at z
  · rename_i hb
    rw [if_pos hb] at *
    split at z
    · rename_i h2
      rw [if_pos h2]
      exact ⟨rfl, rfl, rfl, rfl, rfl, rfl, z⟩
    · rename_i h2
      rw [if_neg h2]
      exact ⟨rfl, rfl, rfl, rfl, rfl, rfl, z⟩
  · rename_i hb
    rw [if_neg hb]
    exact ⟨rfl, rfl, rfl, rfl, rfl, rfl, z⟩
theorem et_din {l : List Nat} {i : Nat} {a : Addr} {b : Bool} (hd : Ev te σ H (.ref a)) (hy : Ev ta σ H (.int (i : Int))) (h : ∀ H1, Ex H H1 → ∃ kvs, H1 a = some (.dK kvs) ∧ (valV kvs (Sum.inl (i : Int))).isSome = b) : EvT (tB (tDIn ta te)) σ H b := fun H1 e1 Q q =>
  hy H1 e1 _ fun H2 e2 => hd H2 (e1.trans e2) _ fun H3 e3 => by
    obtain ⟨kvs, k1, k2⟩ := h H3 ((e1.trans e2).trans e3)
    exact ⟨a, _, rfl, DGet.k (k := Sum.inl (i : Int)) k1, _, rfl, by rw [k2]; exact q H3 (e2.trans e3)⟩
end
section
variable {P : Program} {w : World} {K : PySem.W.Frag} {mg : Str → Option Value} {base : Heap} {a_LETTERS a_LETTER_TESTS a_LETTER_DEEDS a_ANSWER_TESTS a_ANSWER_DEEDS CR CP CC a_HOLDS : Addr} {tA tN tO : Tok}
abbrev sCourseLook : Stmt := inClass (topS 41) 6
theorem scCourseLook : FnScope ["self", "place"] ["self"] (defScope sCourseLook) := ⟨rfl, rfl, rfl, by decide +kernel, rfl, by decide +kernel, by decide +kernel⟩
abbrev sCourseIsBack : Stmt := inClass (topS 41) 8
theorem scCourseIsBack : FnScope ["self", "place"] ["self", "place"] (defScope sCourseIsBack) := ⟨rfl, rfl, rfl, by decide +kernel, rfl, by decide +kernel, by decide +kernel⟩
abbrev sCourseJudge : Stmt := inClass (topS 41) 7
theorem scCourseJudge : FnScope ["self", "heard", "place", "newest"] ["self", "heard"] (defScope sCourseJudge) := ⟨rfl, rfl, rfl, by decide +kernel, rfl, by decide +kernel, by decide +kernel⟩
theorem ok_look {f fS : Addr} {fd fdS : FuncData} (F : Fun K "look" "Course.look" sCourseLook f fd) (TC : TxC K mg CC tO) (M_showing : Meth K CC "showing" fS) (G_showing : FnOk P w K mg base CX0 1 fS fdS ["self"] (spShowing K CR CP CC)) (b_showing : Binds K fdS ["self"] []) :
    FnOk P w K mg base CX0 2 f fd ["self"] (spLook K CR CP CC) := by
  refine F.ok scCourseLook (fun vs H Q E h => ?_) (fun cdv A outer s H vs Q E hr h => ?_)
  · obtain ⟨B, A, m, rfl, _⟩ := h
    rfl
  · obtain ⟨B, A, m, rfl, h, hw, hz, hz2, q⟩ := h
    have hu := hu_of hr
    refine ⟨_, pss_cons (ps_set (i := 1) scCourseLook.nd rfl (.inl rfl) (pe_meth0 (pv 0) TC.cl M_showing G_showing (hr.mono (by decide)) b_showing .nil pass0))
      (pss_cons (ps_expr (pe_bm PySem.F.plainAttrs_list PySem.F.slot_list_append PySem.F.type_list_append mt_append (pe_fld (pv 0) rfl) (pa_cons (pv 1) pa_nil)))
      (pss_cons (ps_if (pt_cmpR op_isN (pv 1) pe_non (nomark _)) (pss_one ps_retN) pss_nil)
      (pss_cons (ps_dput hu (pe_fld (pv 0) rfl) (pv 1) pe_bl rfl)
      (pss_one (ps_if (PW.pt (pw_and (pt_cmpR op_in_seq (pe_ix ix_tup (pe_ix ix_list (pe_fld (pv 0) rfl) (pv 1) (fun _ _ => rfl)) pe_int (fun _ _ => rfl)) (pe_tup (pa_cons pe_str (pa_cons pe_str pa_nil))) (by rfl)) (pw_and1 (PW.pt (pw_or (pt_cmpR op_isN (pe_fld (pv 0) rfl) pe_non (nomark _)) (pw_or1 (pt_cmpR op_gt (pv 1) (pe_fld (pv 0) rfl) (nomark _)))))))) (pss_one (ps_fld (pv 0) (pv 1) rfl)) pss_nil))))), ?_⟩
    refine Evl.q_asg (v := ov m.showing) (fun H1 e1 Q1 q1 => ⟨_, rfl, A.c, A.dx, _, rfl, (h.ext e1).obj, cf_noshowing, B, A, m, rfl, h.ext e1, fun H2 e2 => q1 H2 e2⟩) fun H1 e1 => ?_
    have c1 := h.ext e1
    refine Evl.q_app c1.sw (c1.f TC.cl TC.shows cf_shows (Evl.ev_var rfl)) (Evl.ev_var rfl) (by rw [List.length_map]; omega) fun H2 e2 => ?_
    have c2 : CourseAt K CR CP CC B A m.looked _ := (c1.ext e2).putsw m.showing
    cases es : m.showing with
    | none =>
      refine Evl.q_when (b := true) (Evl.et_test (Evl.ev_op (Evl.ev_var rfl) Evl.ev_c rv_isN)) (fun _ H3 e3 => ?_) (fun z => nomatch z)
      have el : m.look = m.looked := by
        unfold CM.look
        rw [es]
      refine q H3 ?_
      rw [el]
      rw [es] at c2
      exact c2.ext e3
    | some i =>
      rw [es] at c2
      have hi := CM.showing_lt hw es
      have el : m.look = (m.looked.seen i).offed i := by
        unfold CM.look
        rw [es]
      refine Evl.q_when (b := false) (Evl.et_test (Evl.ev_op (Evl.ev_var rfl) Evl.ev_c rv_isN)) (fun z => nomatch z) (fun _ H3 e3 => ?_)
      have c3 := c2.ext e3
      obtain ⟨kvs, k1, k2, k3⟩ := c3.sh
      refine q_dput (k := Sum.inl (i : Int)) (v := .bl true) Evl.ev_c (c3.f TC.cl TC.shown cf_shown (Evl.ev_var rfl)) (Evl.ev_var rfl) k1 (Evl.sz_lt (Nat.lt_of_le_of_lt k2 (by show m.shown.length < 100000; omega))) fun H4 e4 => ?_
      have c4 : CourseAt K CR CP CC B A (m.looked.seen i) _ := (c3.ext e4).putsh (e4 _ _ k1) i (.bl true)
      refine Evl.s_when (b := (m.looked.seen i).isStop i && (m.looked.seen i).overOff i) (Evl.et_and (Evl.et_test (Evl.ev_is (Evl.ev_inU (xs := (["stop", "off"] : List Str).map V.str) (c4.kind hi (c4.f TC.cl TC.letters cf_letters (Evl.ev_var rfl)) (Evl.ev_var rfl)) (Evl.eu_tup (Evl.ea_cons Evl.ev_c (Evl.ea_cons Evl.ev_c Evl.ea_nil)) (by show 2 ≤ 100000; decide)) rfl (flat_strs _)) (by rw [inV_strs]; rfl))) (fun _ => ?_)) (fun e H5 e5 => ?_) (fun e H5 e5 => q H5 ?_)
      · refine Evl.et_is (Evl.et_or (a := decide ((m.looked.seen i).off = none)) (Evl.et_is (Evl.et_test (Evl.ev_op (c4.f TC.cl TC.off cf_off (Evl.ev_var rfl)) Evl.ev_c rv_isN)) (ov_non _)) (b := (m.looked.seen i).overOff i) (fun ho => ?_)) ?_
        · cases eo : (m.looked.seen i).off with
          | none =>
            rw [eo] at ho
            cases ho
          | some o =>
            refine Evl.et_is (Evl.et_test (Evl.ev_op (Evl.ev_var rfl) (Evl.ev_is (c4.f TC.cl TC.off cf_off (Evl.ev_var rfl)) (ov_some eo)) Evl.rv_I0)) ?_
            unfold CM.overOff
            rw [eo]
            exact lt_int _ _
        · unfold CM.overOff
          cases (m.looked.seen i).off <;> rfl
      · refine s_cfld (c4.ext e5) TC.cl TC.off (pcf_off (some i)) ⟨rfl, rfl, rfl, rfl, rfl, rfl, rfl, rfl, rfl⟩ (Evl.ev_var rfl) (Evl.ev_var rfl) fun H6 c6 => q H6 ?_
        rw [el]
        unfold CM.offed
        rw [if_pos e]
        exact c6
      · rw [el]
        unfold CM.offed
        rw [if_neg (by rw [e]; decide)]
        exact c4.ext e5
theorem ok_is_back {f : Addr} {fd : FuncData} (F : Fun K "is_back" "Course.is_back" sCourseIsBack f fd) (TC : TxC K mg CC tO) : FnOk P w K mg base CX0 1 f fd ["self", "place"] (spIsBack K CR CP CC) := by
  refine F.ok scCourseIsBack (fun vs H Q E h => ?_) (fun cdv A outer s H vs Q E hr h => ?_)
  · obtain ⟨B, A, m, p, rfl, _⟩ := h
    rfl
  · obtain ⟨B, A, m, p, rfl, h, hp, q⟩ := h
    refine ⟨_, pss_cons (ps_if (PW.pt (pw_or (pt_cmpR op_isN (pv 1) pe_non (nomark _)) (pw_or1 (pt_cmpR op_isN (pe_fld (pv 0) rfl) pe_non (nomark _))))) (pss_one (ps_ret pe_bl)) pss_nil)
      (pss_one (ps_ret (pe_and (pe_cmpR op_in_seq (pe_ix ix_tup (pe_ix ix_list (pe_fld (pv 0) rfl) (pv 1) (fun _ _ => rfl)) pe_int (fun _ _ => rfl)) (pe_tup (pa_cons pe_str (pa_cons pe_str pa_nil))) (by rfl)) (pe_one (pe_cmpR op_lt (pv 1) (pe_fld (pv 0) rfl) (nomark _)))))), ?_⟩
    cases p with
    | none => exact Evl.q_when (b := true) (Evl.et_or (a := true) (b := true) (Evl.et_test (Evl.ev_op (Evl.ev_var rfl) Evl.ev_c rv_isN)) (fun z => nomatch z)) (fun _ H1 e1 => Evl.s_ret (v := .bl false) Evl.ev_c fun H2 e2 => q H2 (e1.trans e2)) (fun z => nomatch z)
    | some i =>
      have t1 : EvT (tTest (tOp (fun x y H Q => y = .non ∧ Q (.bl (decide (x = .non))) H) (tVar 1) (tC .non))) (L2.start ["self", "place"] [.ref A.c, ov (some i)]) H false := Evl.et_test (Evl.ev_op (Evl.ev_var rfl) Evl.ev_c rv_isN)
      have t2 : EvT (tTest (tOp (fun x y H Q => y = .non ∧ Q (.bl (decide (x = .non))) H) (tFld K (tVar 0) "called_off") (tC .non))) (L2.start ["self", "place"] [.ref A.c, ov (some i)]) H (decide (m.off = none)) := Evl.et_is (Evl.et_test (Evl.ev_op (h.f TC.cl TC.off cf_off (Evl.ev_var rfl)) Evl.ev_c rv_isN)) (ov_non _)
      cases eo : m.off with
      | none =>
        rw [eo] at t2
        refine Evl.q_when (b := true) (Evl.et_or t1 (fun _ => t2)) (fun _ H1 e1 => Evl.s_ret (v := .bl false) Evl.ev_c fun H2 e2 => ?_) (fun z => nomatch z)
        have q2 := q H2 (e1.trans e2)
        unfold CM.isBack at q2
        rw [eo] at q2
        exact q2
      | some o =>
        rw [eo] at t2
        refine Evl.q_when (b := false) (Evl.et_or t1 (fun _ => t2)) (fun z => nomatch z) (fun _ H1 e1 => ?_)
        have c1 := h.ext e1
        refine Evl.s_ret (v := .bl (m.isBack (some i))) (Evl.ev_is (Evl.ev_andV (a := m.isAsk i) (b := decide (i < o)) (Evl.ev_is (Evl.ev_inU (xs := (["ask", "day"] : List Str).map V.str) (c1.kind (hp i rfl) (c1.f TC.cl TC.letters cf_letters (Evl.ev_var rfl)) (Evl.ev_var rfl)) (Evl.eu_tup (Evl.ea_cons Evl.ev_c (Evl.ea_cons Evl.ev_c Evl.ea_nil)) (by show 2 ≤ 100000; decide)) rfl (flat_strs _)) (by rw [inV_strs]; rfl)) (fun _ => Evl.ev_is (Evl.ev_op (Evl.ev_var rfl) (Evl.ev_is (c1.f TC.cl TC.off cf_off (Evl.ev_var rfl)) (ov_some eo)) Evl.rv_I0) (congrArg V.bl (lt_int2 _ _)))) ?_) fun H2 e2 => q H2 (e1.trans e2)
        unfold CM.isBack
        rw [eo]
theorem ok_judge {f fB : Addr} {fd fdB : FuncData} (F : Fun K "judge" "Course.judge" sCourseJudge f fd) (TC : TxC K mg CC tO) (M_is_back : Meth K CC "is_back" fB) (G_is_back : FnOk P w K mg base CX0 1 fB fdB ["self", "place"] (spIsBack K CR CP CC)) (b_is_back : Binds K fdB ["self", "place"] []) :
    FnOk P w K mg base CX0 2 f fd ["self", "heard"] (spJudge K CR CP CC) := by
  refine F.ok scCourseJudge (fun vs H Q E h => ?_) (fun cdv A outer s H vs Q E hr h => ?_)
  · obtain ⟨B, A, m, hd, rfl, _⟩ := h
    rfl
  · obtain ⟨B, A, m, hd, rfl, h, hw, hz, q⟩ := h
    have hu := hu_of hr
    refine ⟨_, pss_cons (ps_par (i := 2) (j := 3) (by rfl) scCourseJudge.nd rfl rfl (by decide) rfl rfl (pa_cons (pe_ix ix_list (pe_fld (pv 0) rfl) (pe_un un_neg pe_int) (fun _ _ => rfl)) (pa_cons (pe_fld (pv 0) rfl) pa_nil)) (by rfl))
      (pss_cut (ps_if (PW.pt (pw_and (pt_cmp (pc_din hu (pv 3) (pe_fld (pv 0) rfl))) (pw_and1 (pt_cmpR op_ne (pv 2) (pv 3) (nomark _))))) (pss_one (ps_dput hu (pe_fld (pv 0) rfl) pe_str pe_bl rfl)) pss_nil)
      (pss_cut (ps_if (PW.pt (pw_and (pt_cmpR op_eq (pe_ix ix_tup (pe_ix ix_list (pe_fld (pv 0) rfl) (pv 3) (fun _ _ => rfl)) pe_int (fun _ _ => rfl)) pe_str (nomark _)) (pw_and (pt_cmp (pc_din hu (pv 3) (pe_fld (pv 0) rfl))) (pw_and1 (pt_cmpR op_ne (pv 2) (pv 3) (nomark _)))))) (pss_one (ps_dput hu (pe_fld (pv 0) rfl) pe_str pe_bl rfl)) pss_nil)
      (pss_cut (ps_if (pt_val (pe_meth (pv 0) TC.cl M_is_back G_is_back (hr.mono (by decide)) b_is_back .nil pass0 (pa_cons (pv 2) pa_nil))) (pss_one (ps_dput hu (pe_fld (pv 0) rfl) pe_str pe_bl rfl)) pss_nil)
      (pss_cut (ps_if (PW.pt (pw_and (pt_cmpR op_notN (pe_fld (pv 0) rfl) pe_non (nomark _)) (pw_and1 (pt_cmpR op_ne (pe_ix ix_list (pe_fld (pv 0) rfl) (pe_fld (pv 0) rfl) (fun _ _ => rfl)) (pv 3) (nomark _))))) (pss_one (ps_dput hu (pe_fld (pv 0) rfl) pe_str pe_bl rfl)) pss_nil)
      (pss_one (ps_if (PW.pt (pw_and (pt_cmpR op_eq (pv 1) (pv 3) (nomark _)) (pw_and1 (pt_cmpR op_isN (pe_fld (pv 0) rfl) pe_non (nomark _))))) (pss_one (ps_dput hu (pe_fld (pv 0) rfl) pe_str pe_bl rfl)) pss_nil)))))), ?_⟩
    refine q_par (x := ov m.view) (y := .int (m.newest : Int)) (Evl.ea_cons (Evl.ev_op (h.f TC.cl TC.shows cf_shows (Evl.ev_var rfl)) (Evl.ev_un Evl.ev_c Evl.ru_neg) (Evl.rv_ixL (Evl.sq_of h.sw) (last_ov hw.sne))) (Evl.ea_cons (h.f TC.cl TC.newest cf_newest (Evl.ev_var rfl)) Evl.ea_nil)) fun H1 e1 => ?_
    have c1 := h.ext e1
    let σ0 : L2.St := [some (.ref A.c), some (ov hd), some (ov m.view), some (.int (m.newest : Int))]
    have gl : ∀ {n : CM} {H1 : Hp}, CourseAt K CR CP CC B A n H1 → Ev (tFld K (tVar 0) "goals") σ0 H1 (.ref A.gl) := fun c => c.f TC.cl TC.goals cf_goals (Evl.ev_var rfl)
    have vn : ∀ (H1 : Hp), EvT (tTest (tOp rNe (tVar 2) (tVar 3))) σ0 H1 (!decide (m.view = some m.newest)) := fun H1 => Evl.et_is (Evl.et_test (Evl.ev_op (Evl.ev_var rfl) (Evl.ev_var rfl) (Evl.rv_ne (scal_ov _ _)))) (by rw [ov_eq])
    have vw : ∀ i, m.view = some i → i < m.letters.length := fun i e => by
      refine hw.shows i ?_
      rw [← e]
      rcases List.eq_nil_or_concat m.shows with z | ⟨ys, y, z⟩
      · have := hw.sne
        rw [z] at this
        exact absurd this (Nat.lt_irrefl _)
      · unfold CM.view
        rw [z, List.concat_eq_append, List.getLastD_concat]
        exact List.mem_append_right _ (List.mem_singleton.mpr rfl)
    -- elder
    refine Evl.q_cut (M := fun σ' H' => σ' = σ0 ∧ CourseAt K CR CP CC B A (m.addG m.gElder "elder") H') (s_goal c1 TC.cl TC.goals (by omega) (gl c1) (Evl.et_and (et_din (l := m.came) (c1.f TC.cl TC.came cf_came (Evl.ev_var rfl)) (Evl.ev_var rfl) fun H2 e2 => ?_) (fun _ => vn _)) fun H2 c2 => ⟨rfl, c2⟩) (fun σ' H' hh => ?_)
    · obtain ⟨kvs, k1, k2, k3⟩ := (c1.ext e2).cm
      exact ⟨kvs, k1, k3 _⟩
    obtain ⟨rfl, c2⟩ := hh
    -- lost
    have l2 := addG_len (m := m) m.gElder "elder"
    have s2 : (m.addG m.gElder "elder").shown = m.shown ∧ (m.addG m.gElder "elder").letters = m.letters := by
      unfold CM.addG
      split <;> (try split) <;> exact ⟨rfl, rfl⟩
    refine Evl.q_cut (M := fun σ' H' => σ' = σ0 ∧ CourseAt K CR CP CC B A ((m.addG m.gElder "elder").addG m.gLost "lost") H') (s_goal c2 TC.cl TC.goals (by omega) (gl c2) (Evl.et_and (a := decide (m.kindAt m.newest = ("day" : Str))) (Evl.et_is (Evl.et_test (Evl.ev_op (c2.kind (by rw [s2.2]; exact hw.newest) (c2.f TC.cl TC.letters cf_letters (Evl.ev_var rfl)) (Evl.ev_var rfl)) Evl.ev_c (Evl.rv_eq rfl))) ?_) (fun _ => Evl.et_and (et_din (l := m.shown) (c2.f TC.cl TC.shown cf_shown (Evl.ev_var rfl)) (Evl.ev_var rfl) fun H3 e3 => ?_) (fun _ => vn _))) fun H3 c3 => ⟨rfl, c3⟩) (fun σ' H' hh => ?_)
    · rw [eq_str]
      unfold CM.kindAt
      rw [s2.2]
    · obtain ⟨kvs, k1, k2, k3⟩ := (c2.ext e3).sh
      rw [s2.1] at k3
      exact ⟨kvs, k1, k3 _⟩
    obtain ⟨rfl, c3⟩ := hh
    have g1 := addG_same (m := m) m.gElder "elder"
    have g2 := addG_same (m := m.addG m.gElder "elder") m.gLost "lost"
    have z1 := g1.z
    have z2 := g2.z
    generalize e3 : (m.addG m.gElder "elder").addG m.gLost "lost" = m3 at c3 g2 z2
    have l3 : m3.letters = m.letters := g2.l.trans g1.l
    have o3 : m3.off = m.off := g2.o.trans g1.o
    have ib : m3.isBack m.view = m.isBack m.view := by
      unfold CM.isBack CM.isAsk CM.kindAt
      rw [l3, o3]
    -- back
    refine Evl.q_cut (M := fun σ' H' => σ' = σ0 ∧ CourseAt K CR CP CC B A (m3.addG (m.isBack m.view) "back") H') (s_goal c3 TC.cl TC.goals (by omega) (gl c3) (Evl.et_B (fun H4 e4 Q4 q4 => ⟨_, rfl, A.c, A.dx, _, rfl, (c3.ext e4).obj, cf_noback, _, rfl, B, A, m3, m.view, rfl, c3.ext e4, fun i e => by rw [l3]; exact vw i e, fun H5 e5 => by rw [ib]; exact q4 H5 e5⟩)) fun H4 c4 => ⟨rfl, c4⟩) (fun σ' H' hh => ?_)
    obtain ⟨rfl, c4⟩ := hh
    have g3 := addG_same (m := m3) (m.isBack m.view) "back"
    have z3 := g3.z
    generalize e4 : m3.addG (m.isBack m.view) "back" = m4 at c4 g3 z3
    have a4 : m4.answers = m.answers := g3.a.trans (g2.a.trans g1.a)
    have k4 : m4.counted = m.counted := g3.c.trans (g2.c.trans g1.c)
    -- wrong
    refine Evl.q_cut (M := fun σ' H' => σ' = σ0 ∧ CourseAt K CR CP CC B A (m4.addG m.gWrong "wrong") H') (s_goal c4 TC.cl TC.goals (by omega) (gl c4) (Evl.et_is (Evl.et_and (a := !decide (m.counted = none)) (b := m.gWrong) (Evl.et_is (Evl.et_test (Evl.ev_op (c4.f TC.cl TC.counted cf_counted (Evl.ev_var rfl)) Evl.ev_c rv_notN)) (by rw [ov_non, k4])) (fun hc => ?_)) ?_) fun H5 c5 => ⟨rfl, c5⟩) (fun σ' H' hh => ?_)
    · cases ec : m.counted with
      | none =>
        rw [ec] at hc
        cases hc
      | some a =>
        have ha := hw.counted a ec
        have gw : m.gWrong = !decide (m.ansAt a = m.newest) := by
          unfold CM.gWrong
          rw [ec]
        rw [gw]
        refine Evl.et_is (Evl.et_test (Evl.ev_op (x := .int (m.ansAt a : Int)) (Evl.ev_op (c4.f TC.cl TC.answers cf_answers (Evl.ev_var rfl)) (Evl.ev_is (c4.f TC.cl TC.counted cf_counted (Evl.ev_var rfl)) (ov_some (k4.trans ec))) (Evl.rv_ixL (Evl.sq_of c4.an) (atI_nat ?_))) (Evl.ev_var rfl) (Evl.rv_ne rfl))) ?_
        · rw [a4, List.getElem?_map, List.getElem?_eq_getElem ha]
          unfold CM.ansAt
          rw [List.getElem?_eq_getElem ha]
          rfl
        · exact congrArg (fun b => !b) (decide_eq_decide.mpr ⟨fun z => Int.ofNat_inj.mp (V.int.inj z), fun z => by rw [z]⟩)
    · unfold CM.gWrong
      cases m.counted <;> rfl
    obtain ⟨rfl, c5⟩ := hh
    have g4 := addG_same (m := m4) m.gWrong "wrong"
    have z4 := g4.z
    generalize e5 : m4.addG m.gWrong "wrong" = m5 at c5 g4 z4
    -- deaf
    refine s_goal c5 TC.cl TC.goals (by omega) (gl c5) (b := m.gDeaf hd) (Evl.et_and (Evl.et_is (Evl.et_test (Evl.ev_op (Evl.ev_var rfl) (Evl.ev_var rfl) (Evl.rv_eq (scal_ov _ _)))) (ov_eq _ _)) (fun _ => Evl.et_is (Evl.et_test (Evl.ev_op (c5.f TC.cl TC.counted cf_counted (Evl.ev_var rfl)) Evl.ev_c rv_isN)) (by rw [ov_non, g4.c.trans k4]))) fun H6 c6 => q H6 ?_
    unfold CM.judge
    rw [e3, e4, e5]
    exact c6
end
end Ov


namespace Ov
open PySem PySem.Spec PyProof.Rows L2
open Evl (pss_cut tCut Ex Ev EvT EvL EvA EvU)
/-! ### an event -/
structure TxG (K : PySem.W.Frag) (mg : Str → Option Value) (a_DEEDS : Addr) (tCm tHd tAn : Tok) : Prop where
  g_DEEDS : mg "DEEDS" = some (.ref a_DEEDS)
  s_DEEDS : ∀ H, SqT K H a_DEEDS (CM.deedsAll.map V.str)
  g_COME : mg "COME" = some (.str "come " tCm)
  g_HEARD : mg "HEARD" = some (.str "heard " tHd)
  g_ANSWERING : mg "ANSWERING" = some (.str "answer" tAn)
structure CM.Le (m : CM) (n : Nat) : Prop where
  l : m.letters.length ≤ n
  a : m.answers.length ≤ n
  s : m.shows.length ≤ n
  r : m.rules.length ≤ n
  c : m.came.length ≤ n
  h : m.shown.length ≤ n
  g : m.goals.length ≤ n
namespace CM
variable {m : CM} {n : Nat}
theorem Le.mono (h : m.Le n) {k : Nat} (hk : n ≤ k) : m.Le k := ⟨Nat.le_trans h.l hk, Nat.le_trans h.a hk, Nat.le_trans h.s hk, Nat.le_trans h.r hk, Nat.le_trans h.c hk, Nat.le_trans h.h hk, Nat.le_trans h.g hk⟩
theorem len1 {α : Type} {l : List α} {x : α} (h : l.length ≤ n) : (l ++ [x]).length ≤ n + 1 := by
  rw [List.length_append]
  exact Nat.succ_le_succ h
theorem Le.send (h : m.Le n) (d : Str) : (m.send d).Le (n + 1) := by
  have h1 := h.mono (Nat.le_succ n)
  unfold CM.send
  split
  · exact ⟨len1 h.l, h1.a, h1.s, h1.r, h1.c, h1.h, h1.g⟩
  · exact ⟨len1 h.l, h1.a, h1.s, h1.r, h1.c, h1.h, h1.g⟩
theorem Le.wiped (h : m.Le n) (b : Bool) : (m.wiped b).Le n := by
  unfold CM.wiped
  split
  · exact ⟨h.l, h.a, h.s, h.r, h.c, h.h, h.g⟩
  · exact h
theorem Le.taken (h : m.Le n) (i : Nat) (t w : Bool) : (m.taken i t w).Le n := by
  unfold CM.taken
  split
  · exact ⟨h.l, h.a, h.s, h.r, h.c, h.h, h.g⟩
  · split
    · exact ⟨h.l, h.a, h.s, h.r, h.c, h.h, h.g⟩
    · exact h
theorem Le.come (h : m.Le n) (i : Nat) : (m.come i).Le (n + 1) := by
  have h2 := (h.wiped (m.effFor i).2).taken i (m.effFor i).1 (wholeKind (m.kindAt i))
  have h3 := h2.mono (Nat.le_succ n)
  exact ⟨h3.l, h3.a, h3.s, h3.r, len1 h2.c, h3.h, h3.g⟩
theorem Le.hear (h : m.Le n) (a : Nat) : (m.hear a).Le n := by
  unfold CM.hear
  split
  · exact h
  · exact ⟨h.l, h.a, h.s, h.r, h.c, h.h, h.g⟩
theorem Le.answer (h : m.Le n) (i : Nat) : CM.Le { m with answers := m.answers ++ [i] } (n + 1) := by
  have h1 := h.mono (Nat.le_succ n)
  exact ⟨h1.l, len1 h.a, h1.s, h1.r, h1.c, h1.h, h1.g⟩
theorem Le.ruled (h : m.Le n) (r : Option Nat) : (m.ruled r).Le (n + 1) := by
  have h1 := h.mono (Nat.le_succ n)
  exact ⟨h1.l, h1.a, h1.s, len1 h.r, h1.c, h1.h, h1.g⟩
theorem Le.offed (h : m.Le n) (i : Nat) : (m.offed i).Le n := by
  unfold CM.offed
  split
  · exact ⟨h.l, h.a, h.s, h.r, h.c, h.h, h.g⟩
  · exact h
theorem Le.look (h : m.Le n) : m.look.Le (n + 1) := by
  have h1 := h.mono (Nat.le_succ n)
  have hs : m.looked.Le (n + 1) := ⟨h1.l, h1.a, len1 h.s, h1.r, h1.c, h1.h, h1.g⟩
  unfold CM.look
  split
  · exact hs
  · rename_i i _
    have hd : (m.looked.seen i).Le (n + 1) := ⟨h1.l, h1.a, len1 h.s, h1.r, h1.c, len1 h.h, h1.g⟩
    exact hd.offed i
theorem Le.addG (h : m.Le n) (b : Bool) (g : Str) : (m.addG b g).Le (n + 1) := by
  have h1 := h.mono (Nat.le_succ n)
  unfold CM.addG
  split
  · split
    · exact h1
    · exact ⟨h1.l, h1.a, h1.s, h1.r, h1.c, h1.h, len1 h.g⟩
  · exact h1
theorem Le.judge (h : m.Le n) (hd : Option Nat) : (m.judge hd).Le (n + 5) := ((((h.addG _ _).addG _ _).addG _ _).addG _ _).addG _ _
theorem Le.act (h : m.Le n) {z : Str} {x : CM × Option Nat × Option Nat} (e : m.act z = some x) : x.1.Le (n + 1) := by
  unfold CM.act at e
  split at e
  · cases e
    exact h.send z
  · split at e
    · rename_i i hi
      cases e
      exact h.come i
    · split at e
      · rename_i a ha
        cases e
        exact (h.hear a).mono (Nat.le_succ n)
      · split at e
        · cases e
          exact h.answer _
        · cases e
theorem Le.goOn (h : m.Le n) {z : Str} {m2 : CM} (e : m.goOn z = some m2) : m2.Le (n + 8) := by
  unfold CM.goOn at e
  obtain ⟨x, h1, rfl⟩ := Option.map_eq_some_iff.mp e
  exact (((h.act h1).ruled _).look).judge _
end CM
theorem q_asg2 {v : V} {i j : Nat} {D : Ends} {tz : TS} {σ : L2.St} {H : Hp} (h : tz D ((σ.set i (some v)).set j (some v)) H) : tSeq (tAsg2 (tC v) (gName i) (gName j)) tz D σ H := h
def spToCome (K : PySem.W.Frag) (CR CP CC : Addr) : Sp := fun vs H Q _ => ∃ (B : Hp) (A : CA) (m : CM) (z : Str), vs = [.ref A.c, .str z] ∧ CourseAt K CR CP CC B A m H ∧ m.letters.length ≤ 1000 ∧ EvOk z ∧ ∀ H', Ex H H' → Q (ov (m.toCome z)) H'
def spCanAnswer (K : PySem.W.Frag) (CR CP CC : Addr) : Sp := fun vs H Q _ => ∃ (B : Hp) (A : CA) (m : CM), vs = [.ref A.c] ∧ CourseAt K CR CP CC B A m H ∧ m.WF ∧ ∀ H', Ex H H' → Q (.bl m.canAnswer) H'
def spGoOn (K : PySem.W.Frag) (CR CP CC : Addr) : Sp := fun vs H Q _ => ∃ (B : Hp) (A : CA) (m m2 : CM) (z : Str) (i : Int), vs = [.ref A.c, .str z, .int i] ∧ CourseAt K CR CP CC B A m H ∧ m.WF ∧ m.Le 990 ∧ EvOk z ∧ m.goOn z = some m2 ∧ ∀ H', CourseAt K CR CP CC B A m2 H' → Q .non H'
section
variable {P : Program} {w : World} {K : PySem.W.Frag} {mg : Str → Option Value} {base : Heap} {a_LETTERS a_LETTER_TESTS a_LETTER_DEEDS a_ANSWER_TESTS a_ANSWER_DEEDS CR CP CC a_HOLDS a_DEEDS : Addr} {tA tN tO tCm tHd tAn : Tok}
abbrev sLetterToCome : Stmt := topS 42
theorem scLetterToCome : FnScope ["course", "event", "place"] ["course", "event"] (defScope sLetterToCome) := ⟨rfl, rfl, rfl, by decide +kernel, rfl, by decide +kernel, by decide +kernel⟩
abbrev sCanAnswer : Stmt := topS 43
theorem scCanAnswer : FnScope ["course", "place"] ["course"] (defScope sCanAnswer) := ⟨rfl, rfl, rfl, by decide +kernel, rfl, by decide +kernel, by decide +kernel⟩
abbrev sGoOn : Stmt := topS 44
theorem scGoOn : FnScope ["course", "event", "at", "rule", "heard", "place", "answer"] ["course", "event", "at"] (defScope sGoOn) := ⟨rfl, rfl, rfl, by decide +kernel, rfl, by decide +kernel, by decide +kernel⟩
theorem ok_to_come {f fR : Addr} {fd fdR : FuncData} (F : Fun K "letter_to_come" "letter_to_come" sLetterToCome f fd) (T : TxR K mg a_LETTERS a_LETTER_TESTS a_LETTER_DEEDS a_ANSWER_TESTS a_ANSWER_DEEDS CR tA tN) (TC : TxC K mg CC tO) (TG : TxG K mg a_DEEDS tCm tHd tAn)
    (D_read_place : Df K mg "read_place" sReadPlace ["value", "word", "many"] fR fdR) (G_read_place : FnOk P w K mg base CX0 1 fR fdR ["value", "word", "many"] spReadPlace) : FnOk P w K mg base CX0 2 f fd ["course", "event"] (spToCome K CR CP CC) := by
  refine F.ok scLetterToCome (fun vs H Q E h => ?_) (fun cdv A outer s H vs Q E hr h => ?_)
  · obtain ⟨B, A, m, z, rfl, _⟩ := h
    rfl
  · obtain ⟨B, A, m, z, rfl, h, hz, ho, q⟩ := h
    refine ⟨_, pss_cons (ps_set (i := 2) scLetterToCome.nd rfl (.inl rfl) (pe_call G_read_place (hr.mono (by decide)) rfl D_read_place.g D_read_place.F.kp D_read_place.b .nil pass0 (pa_cons (pv 1) (pa_cons (pe_glob (v := .str "come ") rfl TG.g_COME ⟨_, rfl⟩) (pa_cons (pe_callB call_len_seq (by rfl) T.n_len (by decide +kernel) (pa_cons (pe_fld (pv 0) rfl) pa_nil)) pa_nil)))))
      (pss_one (ps_ret (pe_ifExp (PW.pt (pw_or (pt_cmpR op_isN (pv 2) pe_non (nomark _)) (pw_or1 (pt_cmpR op_eq (pe_ix ix_tup (pe_ix ix_list (pe_fld (pv 0) rfl) (pv 2) (fun _ _ => rfl)) pe_int (fun _ _ => rfl)) (pe_glob (v := .str "other") rfl TC.g_OTHER ⟨_, rfl⟩) (nomark _))))) pe_non (pv 2)))), ?_⟩
    refine Evl.q_asg (v := ov (readPlaceM z "come " m.letters.length)) (ev_call (Evl.ea_cons (Evl.ev_var rfl) (Evl.ea_cons Evl.ev_c (Evl.ea_cons (h.lenL (h.f TC.cl TC.letters cf_letters (Evl.ev_var rfl))) Evl.ea_nil))) fun H1 e1 Q1 q1 => ⟨z, "come ", m.letters.length, rfl, ho.len, ho.lc, ho.c, hz, fun H2 e2 => q1 H2 e2⟩) fun H1 e1 => ?_
    have c1 := h.ext e1
    cases er : readPlaceM z "come " m.letters.length with
    | none =>
      have et : m.toCome z = none := by
        unfold CM.toCome
        rw [er]
      refine Evl.s_ret (v := ov (m.toCome z)) (Evl.ev_if (b := true) (Evl.et_or (a := true) (b := true) (Evl.et_test (Evl.ev_op (Evl.ev_var rfl) Evl.ev_c rv_isN)) (fun z => nomatch z)) (fun _ => ?_) (fun z => nomatch z)) fun H2 e2 => q H2 (e1.trans e2)
      rw [et]
      exact Evl.ev_c
    | some i =>
      have hi := readPlace_lt er ho.c
      refine Evl.s_ret (v := ov (m.toCome z)) (Evl.ev_if (b := decide (m.kindAt i = ("other" : Str))) (Evl.et_is (Evl.et_or (a := false) (Evl.et_test (Evl.ev_op (Evl.ev_var rfl) Evl.ev_c rv_isN)) (fun _ => Evl.et_is (Evl.et_test (Evl.ev_op (c1.kind hi (c1.f TC.cl TC.letters cf_letters (Evl.ev_var rfl)) (Evl.ev_var rfl)) Evl.ev_c (Evl.rv_eq rfl))) (eq_str _ _))) rfl) (fun e => ?_) (fun e => ?_)) fun H2 e2 => q H2 (e1.trans e2)
      · have et : m.toCome z = none := by
          unfold CM.toCome
          rw [er]
          exact if_pos (of_decide_eq_true e)
        rw [et]
        exact Evl.ev_c
      · have et : m.toCome z = some i := by
          unfold CM.toCome
          rw [er]
          exact if_neg (of_decide_eq_false e)
        rw [et]
        exact Evl.ev_var rfl
theorem ok_can_answer {f fS : Addr} {fd fdS : FuncData} (F : Fun K "can_answer" "can_answer" sCanAnswer f fd) (TC : TxC K mg CC tO) (M_showing : Meth K CC "showing" fS) (G_showing : FnOk P w K mg base CX0 1 fS fdS ["self"] (spShowing K CR CP CC)) (b_showing : Binds K fdS ["self"] []) :
    FnOk P w K mg base CX0 2 f fd ["course"] (spCanAnswer K CR CP CC) := by
  refine F.ok scCanAnswer (fun vs H Q E h => ?_) (fun cdv A outer s H vs Q E hr h => ?_)
  · obtain ⟨B, A, m, rfl, _⟩ := h
    rfl
  · obtain ⟨B, A, m, rfl, h, hw, q⟩ := h
    refine ⟨_, pss_cons (ps_set (i := 1) scCanAnswer.nd rfl (.inl rfl) (pe_meth0 (pv 0) TC.cl M_showing G_showing (hr.mono (by decide)) b_showing .nil pass0))
      (pss_one (ps_ret (pe_and (pe_cmpR op_notN (pv 1) pe_non (nomark _)) (pe_one (pe_cmpR op_in_seq (pe_ix ix_tup (pe_ix ix_list (pe_fld (pv 0) rfl) (pv 1) (fun _ _ => rfl)) pe_int (fun _ _ => rfl)) (pe_tup (pa_cons pe_str (pa_cons pe_str pa_nil))) (by rfl)))))), ?_⟩
    refine Evl.q_asg (v := ov m.showing) (fun H1 e1 Q1 q1 => ⟨_, rfl, A.c, A.dx, _, rfl, (h.ext e1).obj, cf_noshowing, B, A, m, rfl, h.ext e1, fun H2 e2 => q1 H2 e2⟩) fun H1 e1 => ?_
    have c1 := h.ext e1
    cases es : m.showing with
    | none =>
      refine Evl.s_ret (v := .bl (false && false)) (Evl.ev_andV (a := false) (b := false) (Evl.ev_op (Evl.ev_var rfl) Evl.ev_c rv_notN) (fun z => nomatch z)) fun H2 e2 => ?_
      have q2 := q H2 (e1.trans e2)
      unfold CM.canAnswer at q2
      rw [es] at q2
      exact q2
    | some i =>
      have hi := CM.showing_lt hw es
      refine Evl.s_ret (v := .bl (true && m.isAsk i)) (Evl.ev_andV (a := true) (Evl.ev_op (Evl.ev_var rfl) Evl.ev_c rv_notN) (fun _ => Evl.ev_is (Evl.ev_inU (xs := (["ask", "day"] : List Str).map V.str) (c1.kind hi (c1.f TC.cl TC.letters cf_letters (Evl.ev_var rfl)) (Evl.ev_var rfl)) (Evl.eu_tup (Evl.ea_cons Evl.ev_c (Evl.ea_cons Evl.ev_c Evl.ea_nil)) (by show 2 ≤ 100000; decide)) rfl (flat_strs _)) (by rw [inV_strs]; rfl))) fun H2 e2 => ?_
      have q2 := q H2 (e1.trans e2)
      unfold CM.canAnswer at q2
      rw [es] at q2
      exact q2
theorem cf_nom {A : CA} {m : CM} : (cf A m).lookup ("send" : Str) = none ∧ (cf A m).lookup ("come" : Str) = none ∧ (cf A m).lookup ("hear" : Str) = none ∧ (cf A m).lookup ("look" : Str) = none ∧ (cf A m).lookup ("judge" : Str) = none := ⟨by kernel_rfl, by kernel_rfl, by kernel_rfl, by kernel_rfl, by kernel_rfl⟩
theorem ok_go_on {f fTC fR fCA fSe fCo fHe fLo fJu fS : Addr} {fd fdTC fdR fdCA fdSe fdCo fdHe fdLo fdJu fdS : FuncData} (F : Fun K "go_on" "go_on" sGoOn f fd) (T : TxR K mg a_LETTERS a_LETTER_TESTS a_LETTER_DEEDS a_ANSWER_TESTS a_ANSWER_DEEDS CR tA tN) (TC : TxC K mg CC tO) (TG : TxG K mg a_DEEDS tCm tHd tAn)
    (D_letter_to_come : Df K mg "letter_to_come" sLetterToCome ["course", "event"] fTC fdTC) (G_letter_to_come : FnOk P w K mg base CX0 2 fTC fdTC ["course", "event"] (spToCome K CR CP CC))
    (D_read_place : Df K mg "read_place" sReadPlace ["value", "word", "many"] fR fdR) (G_read_place : FnOk P w K mg base CX0 1 fR fdR ["value", "word", "many"] spReadPlace)
    (D_can_answer : Df K mg "can_answer" sCanAnswer ["course"] fCA fdCA) (G_can_answer : FnOk P w K mg base CX0 2 fCA fdCA ["course"] (spCanAnswer K CR CP CC))
    (M_send : Meth K CC "send" fSe) (G_send : FnOk P w K mg base CX0 1 fSe fdSe ["self", "deed"] (spSend K CR CP CC)) (b_send : Binds K fdSe ["self", "deed"] [])
    (M_come : Meth K CC "come" fCo) (G_come : FnOk P w K mg base CX0 4 fCo fdCo ["self", "place"] (spCome K CR CP CC)) (b_come : Binds K fdCo ["self", "place"] [])
    (M_hear : Meth K CC "hear" fHe) (G_hear : FnOk P w K mg base CX0 2 fHe fdHe ["self", "answer"] (spHear K CR CP CC)) (b_hear : Binds K fdHe ["self", "answer"] [])
    (M_look : Meth K CC "look" fLo) (G_look : FnOk P w K mg base CX0 2 fLo fdLo ["self"] (spLook K CR CP CC)) (b_look : Binds K fdLo ["self"] [])
    (M_judge : Meth K CC "judge" fJu) (G_judge : FnOk P w K mg base CX0 2 fJu fdJu ["self", "heard"] (spJudge K CR CP CC)) (b_judge : Binds K fdJu ["self", "heard"] [])
    (M_showing : Meth K CC "showing" fS) (G_showing : FnOk P w K mg base CX0 1 fS fdS ["self"] (spShowing K CR CP CC)) (b_showing : Binds K fdS ["self"] []) :
    FnOk P w K mg base CX0 5 f fd ["course", "event", "at"] (spGoOn K CR CP CC) := by
  refine F.ok scGoOn (fun vs H Q E h => ?_) (fun cdv A outer s H vs Q E hr h => ?_)
  · obtain ⟨B, A, m, m2, z, i, rfl, _⟩ := h
    rfl
  · obtain ⟨B, A, m, m2, z, i, rfl, h, hw, hl, ho, hg, q⟩ := h
    refine ⟨_, pss_cons (ps_asg2 pe_non (pg_name (i := 3) scGoOn.nd rfl (Or.inl rfl)) (pg_name (i := 4) scGoOn.nd rfl (Or.inl rfl)))
      (pss_cons (ps_set (i := 5) scGoOn.nd rfl (.inl rfl) (pe_call G_letter_to_come (hr.mono (by decide)) rfl D_letter_to_come.g D_letter_to_come.F.kp D_letter_to_come.b .nil pass0 (pa_cons (pv 0) (pa_cons (pv 1) pa_nil))))
      (pss_cons (ps_set (i := 6) scGoOn.nd rfl (.inl rfl) (pe_call G_read_place (hr.mono (by decide)) rfl D_read_place.g D_read_place.F.kp D_read_place.b .nil pass0 (pa_cons (pv 1) (pa_cons (pe_glob (v := .str "heard ") rfl TG.g_HEARD ⟨_, rfl⟩) (pa_cons (pe_callB call_len_seq (by rfl) T.n_len (by decide +kernel) (pa_cons (pe_fld (pv 0) rfl) pa_nil)) pa_nil)))))
      (pss_cut (ps_if (pt_cmpR op_in_seq (pv 1) (pe_glob (v := .ref a_DEEDS) rfl TG.g_DEEDS rfl) (by rfl)) (pss_one (ps_expr (pe_meth (pv 0) TC.cl M_send G_send (hr.mono (by decide)) b_send .nil pass0 (pa_cons (pv 1) pa_nil)))) (pss_one (ps_if (pt_cmpR op_notN (pv 5) pe_non (nomark _)) (pss_one (ps_set (i := 3) scGoOn.nd rfl (.inl rfl) (pe_meth (pv 0) TC.cl M_come G_come (hr.mono (by decide)) b_come .nil pass0 (pa_cons (pv 5) pa_nil)))) (pss_one (ps_if (pt_cmpR op_notN (pv 6) pe_non (nomark _)) (pss_cons (ps_set (i := 3) scGoOn.nd rfl (.inl rfl) (pe_meth (pv 0) TC.cl M_hear G_hear (hr.mono (by decide)) b_hear .nil pass0 (pa_cons (pv 6) pa_nil)))
      (pss_one (ps_set (i := 4) scGoOn.nd rfl (.inl rfl) (pe_ix ix_list (pe_fld (pv 0) rfl) (pv 6) (fun _ _ => rfl))))) (pss_one (ps_if (PW.pt (pw_and (pt_cmpR op_eq (pv 1) (pe_glob (v := .str "answer") rfl TG.g_ANSWERING ⟨_, rfl⟩) (nomark _)) (pw_and1 (pt_val (pe_call G_can_answer (hr.mono (by decide)) rfl D_can_answer.g D_can_answer.F.kp D_can_answer.b .nil pass0 (pa_cons (pv 0) pa_nil)))))) (pss_one (ps_expr (pe_bm PySem.F.plainAttrs_list PySem.F.slot_list_append PySem.F.type_list_append mt_append (pe_fld (pv 0) rfl) (pa_cons (pe_meth0 (pv 0) TC.cl M_showing G_showing (hr.mono (by decide)) b_showing .nil pass0) pa_nil)))) (pss_one ps_never))))))))
      (pss_cons (ps_expr (pe_bm PySem.F.plainAttrs_list PySem.F.slot_list_append PySem.F.type_list_append mt_append (pe_fld (pv 0) rfl) (pa_cons (pv 3) pa_nil)))
      (pss_cons (ps_expr (pe_meth0 (pv 0) TC.cl M_look G_look (hr.mono (by decide)) b_look .nil pass0))
      (pss_one (ps_expr (pe_meth (pv 0) TC.cl M_judge G_judge (hr.mono (by decide)) b_judge .nil pass0 (pa_cons (pv 4) pa_nil))))))))), ?_⟩
    obtain ⟨x, hx, rfl⟩ := Option.map_eq_some_iff.mp hg
    refine q_asg2 ?_
    refine Evl.q_asg (v := ov (m.toCome z)) (ev_call (Evl.ea_cons (Evl.ev_var rfl) (Evl.ea_cons (Evl.ev_var rfl) Evl.ea_nil)) fun H1 e1 Q1 q1 => ⟨B, A, m, z, rfl, h.ext e1, Nat.le_trans hl.l (by decide), ho, fun H2 e2 => q1 H2 e2⟩) fun H1 e1 => ?_
    have c1 := h.ext e1
    have la : ∀ {σ : L2.St}, σ[0]? = some (some (V.ref A.c)) → Ev (tCB (Evl.rLenS K) (tCons (tFld K (tVar 0) "answers") tNil)) σ H1 (.int (m.answers.length : Int)) := fun e => by
      have e2 := Evl.ev_len (K := K) (c1.f TC.cl TC.answers cf_answers (Evl.ev_var e)) (Evl.sq_of c1.an)
      rw [List.length_map] at e2
      exact e2
    refine Evl.q_asg (v := ov (m.toHear z)) (ev_call (Evl.ea_cons (Evl.ev_var rfl) (Evl.ea_cons Evl.ev_c (Evl.ea_cons (la rfl) Evl.ea_nil))) fun H2 e2 Q2 q2 => ⟨z, "heard ", m.answers.length, rfl, ho.len, ho.lh, ho.h, Nat.le_trans hl.a (by decide), fun H3 e3 => q2 H3 e3⟩) fun H2 e2 => ?_
    have c2 := c1.ext e2
    refine Evl.q_cut (M := fun σ' H' => ∃ v5 v6 : Option V, σ' = [some (.ref A.c), some (.str z), some (.int i), some (ov x.2.1), some (ov x.2.2), v5, v6] ∧ CourseAt K CR CP CC B A x.1 H') ?_ (fun σ' H' hh => ?_)
    · refine Evl.s_if (b := decide (z ∈ CM.deedsAll)) (Evl.et_test (Evl.ev_is (Evl.ev_op (Evl.ev_var rfl) Evl.ev_c (Evl.rv_isT (TG.s_DEEDS _) rfl (flat_strs _))) (by rw [inV_strs]))) (fun hz H3 e3 => ?_) (fun hz H3 e3 => ?_)
      · have hz2 := of_decide_eq_true hz
        unfold CM.act at hx
        rw [if_pos hz2] at hx
        cases hx
        have c3 := c2.ext e3
        exact ⟨_, rfl, A.c, A.dx, _, rfl, c3.obj, cf_nom.1, _, rfl, B, A, m, z, rfl, c3, hw, Nat.le_trans hl.l (by decide), hz2, fun H4 c4 => ⟨_, _, rfl, c4⟩⟩
      · unfold CM.act at hx
        rw [if_neg (of_decide_eq_false hz)] at hx
        have c3 := c2.ext e3
        cases et : m.toCome z with
        | some j =>
          rw [et] at hx
          cases hx
          obtain ⟨hj, hk⟩ := CM.toCome_lt et ho
          refine Evl.s_if (b := true) (Evl.et_test (Evl.ev_op (Evl.ev_var rfl) Evl.ev_c rv_notN)) (fun _ H4 e4 => ?_) (fun z => nomatch z)
          have c4 := c3.ext e4
          exact ⟨_, rfl, A.c, A.dx, _, rfl, c4.obj, cf_nom.2.1, _, rfl, B, A, m, j, rfl, c4, hw, Nat.le_trans hl.c (by decide), hj, hk, fun H5 c5 => ⟨_, _, rfl, c5⟩⟩
        | none =>
          rw [et] at hx
          refine Evl.s_if (b := false) (Evl.et_test (Evl.ev_op (Evl.ev_var rfl) Evl.ev_c rv_notN)) (fun z => nomatch z) (fun _ H4 e4 => ?_)
          have c4 := c3.ext e4
          cases eh : m.toHear z with
          | some a =>
            rw [eh] at hx
            cases hx
            have ha : a < m.answers.length := readPlace_lt eh ho.h
            refine Evl.s_if (b := true) (Evl.et_test (Evl.ev_op (Evl.ev_var rfl) Evl.ev_c rv_notN)) (fun _ H5 e5 => ?_) (fun z => nomatch z)
            have c5 := c4.ext e5
            refine q_put ⟨_, rfl, A.c, A.dx, _, rfl, c5.obj, cf_nom.2.2.1, _, rfl, B, A, m, a, rfl, c5, hw, ha, fun H6 c6 => ?_⟩
            have an6 : (m.hear a).answers = m.answers := by
              unfold CM.hear
              split <;> rfl
            refine Evl.s_asg (v := .int (m.ansAt a : Int)) (Evl.ev_op (c6.f TC.cl TC.answers cf_answers (Evl.ev_var rfl)) (Evl.ev_var rfl) (Evl.rv_ixL (Evl.sq_of c6.an) (atI_nat ?_))) fun H7 e7 => ⟨_, _, rfl, c6.ext e7⟩
            rw [an6, List.getElem?_map, List.getElem?_eq_getElem ha]
            unfold CM.ansAt
            rw [List.getElem?_eq_getElem ha]
            rfl
          | none =>
            rw [eh] at hx
            refine Evl.s_if (b := false) (Evl.et_test (Evl.ev_op (Evl.ev_var rfl) Evl.ev_c rv_notN)) (fun z => nomatch z) (fun _ H5 e5 => ?_)
            have c5 := c4.ext e5
            replace hx : (if decide (z = ("answer" : Str)) && m.canAnswer then some (({ m with answers := m.answers ++ [m.showing.getD 0] } : CM), (none : Option Nat), (none : Option Nat)) else none) = some x := hx
            refine Evl.s_if (b := decide (z = ("answer" : Str)) && m.canAnswer) (Evl.et_and (Evl.et_is (Evl.et_test (Evl.ev_op (Evl.ev_var rfl) Evl.ev_c (Evl.rv_eq rfl))) (eq_str _ _)) (fun _ => Evl.et_B (ev_call (Evl.ea_cons (Evl.ev_var rfl) Evl.ea_nil) fun H6 e6 Q6 q6 => ⟨B, A, m, rfl, c5.ext e6, hw, fun H7 e7 => q6 H7 e7⟩))) (fun hc H6 e6 => ?_) (fun hc H6 e6 => ?_)
            · rw [if_pos hc] at hx
              cases hx
              have c6 := c5.ext e6
              have hca := (Bool.and_eq_true_iff.mp hc).2
              obtain ⟨j, es⟩ : ∃ j, m.showing = some j := by
                cases es : m.showing with
                | none =>
                  unfold CM.canAnswer at hca
                  rw [es] at hca
                  cases hca
                | some j => exact ⟨j, rfl⟩
              refine Evl.s_app c6.an (c6.f TC.cl TC.answers cf_answers (Evl.ev_var rfl)) (v := .int ((m.showing.getD 0 : Nat) : Int)) (fun H7 e7 Q7 q7 => ⟨_, rfl, A.c, A.dx, _, rfl, (c6.ext e7).obj, cf_noshowing, B, A, m, rfl, c6.ext e7, fun H8 e8 => ?_⟩) (by rw [List.length_map]; have := hl.a; omega) fun H7 e7 => ⟨_, _, rfl, (c6.ext e7).putan _⟩
              have e9 : ov m.showing = .int ((m.showing.getD 0 : Nat) : Int) := by rw [es]; rfl
              rw [e9]
              exact q7 H8 e8
            · rw [if_neg (by rw [hc]; decide)] at hx
              cases hx
    · obtain ⟨v5, v6, rfl, c3⟩ := hh
      have w1 := hw.act ho hx
      have l1 := hl.act hx
      refine Evl.q_app c3.rl (c3.f TC.cl TC.rules cf_rules (Evl.ev_var rfl)) (Evl.ev_var rfl) (by rw [List.length_map]; have := l1.r; omega) fun H3 e3 => ?_
      have c4 := (c3.ext e3).putrl x.2.1
      have w2 := w1.ruled x.2.1
      have l2 := l1.ruled x.2.1
      refine (show tSeq (tDrop _) _ _ _ _ from ⟨_, rfl, A.c, A.dx, _, rfl, c4.obj, cf_nom.2.2.2.1, B, A, _, rfl, c4, w2, Nat.le_trans l2.s (by decide), Nat.le_trans l2.h (by decide), fun H4 c5 => ?_⟩)
      exact ⟨_, rfl, A.c, A.dx, _, rfl, c5.obj, cf_nom.2.2.2.2, _, rfl, B, A, _, x.2.2, rfl, c5, w2.look, Nat.le_trans l2.look.g (by decide), fun H5 c6 => q H5 c6⟩
end
end Ov


namespace Ov
open PySem PySem.Spec PyProof.Rows L2
open Evl (pss_cut tCut Ex Ev EvT EvL EvA EvU)
/-! ### a Course made, a Played, play -/
/-- while an object is made: its fields so far, what is new besides -/
structure Ini (B : Hp) (C x dx : Addr) (H : Hp) (fs : List (Str × V)) (os : List (Addr × HO)) (n : Nat) : Prop where
  ex : Ex B H
  nx : B x = none
  ob : H x = some (.ins C dx fs)
  oo : ∀ q ∈ os, H q.1 = some q.2 ∧ B q.1 = none ∧ q.1 ≠ x
  nd : (os.map Prod.fst).Nodup
  ln : fs.length ≤ n
theorem len_putF (f : Str) (v : V) : ∀ fs : List (Str × V), (putF f v fs).length ≤ fs.length + 1
  | [] => Nat.le_refl _
  | (g, x) :: r => by
    show (if g = f then (g, v) :: r else (g, x) :: putF f v r).length ≤ _
    split
    · exact Nat.le_succ _
    · exact Nat.succ_le_succ (len_putF f v r)
/-- makes a new object that is o -/
def EvNew (te : TE) (σ : L2.St) (H : Hp) (o : HO) : Prop := ∀ H1, Ex H H1 → ∀ Q : VK, (∀ p H2, H1 p = none → Ex H1 H2 → H2 p = some o → Q (.ref p) H2) → te σ H1 Q
theorem evn_dict {σ : L2.St} {H : Hp} : EvNew tDNewK σ H (.dK []) := fun H1 _ Q q p np => q p _ np (Ex.new np) upd_same
section
variable {K : PySem.W.Frag} {B : Hp} {C x dx : Addr} {H : Hp} {fs : List (Str × V)} {os : List (Addr × HO)} {n : Nat} {σ : L2.St} {to te : TE} {D : Ends} {tz : TS} {f : Str}
theorem Ini.ext (I : Ini B C x dx H fs os n) {H' : Hp} (e : Ex H H') : Ini B C x dx H' fs os n := ⟨I.ex.trans e, I.nx, e _ _ I.ob, fun q hq => ⟨e _ _ (I.oo q hq).1, (I.oo q hq).2⟩, I.nd, I.ln⟩
theorem Ini.put (I : Ini B C x dx H fs os n) (f : Str) (v : V) : Ini B C x dx (upd H x (.ins C dx (putF f v fs))) (putF f v fs) os (n + 1) :=
  ⟨I.ex.mut I.nx, I.nx, upd_same, fun q hq => ⟨(upd_ne (I.oo q hq).2.2).trans (I.oo q hq).1, (I.oo q hq).2⟩, I.nd, Nat.le_trans (len_putF f v fs) (Nat.succ_le_succ I.ln)⟩
theorem Ini.new (I : Ini B C x dx H fs os n) {p : Addr} {H' : Hp} {o : HO} (np : H p = none) (e : Ex H H') (hp : H' p = some o) : Ini B C x dx H' fs ((p, o) :: os) n := by
  refine ⟨I.ex.trans e, I.nx, e _ _ I.ob, fun q hq => ?_, ?_, I.ln⟩
  · rcases List.mem_cons.mp hq with rfl | hq
    · refine ⟨hp, ?_, fun z => ?_⟩
      · exact Evl.fresh_back I.ex np
      · have := I.ob
        rw [← z] at this
        rw [np] at this
        cases this
    · exact ⟨e _ _ (I.oo q hq).1, (I.oo q hq).2⟩
  · rw [List.map_cons]
    refine List.nodup_cons.mpr ⟨fun h => ?_, I.nd⟩
    obtain ⟨q, hq, eq⟩ := List.mem_map.mp h
    have := (I.oo q hq).1
    rw [eq, np] at this
    cases this
theorem q_ini (I : Ini B C x dx H fs os n) (hn : n < 999) (cl : Cls K C) (nf : NoAttr K C f) {v : V} (hv : Ev te σ H v) (ho : Ev to σ H (.ref x)) (k : ∀ H1, Ini B C x dx H1 (putF f v fs) os (n + 1) → tz D σ H1) : tSeq (sFld K to te f) tz D σ H :=
  hv H (Ex.refl _) _ fun H1 e1 => ho H1 e1 _ fun H2 e2 => ⟨x, C, dx, fs, rfl, (I.ext (e1.trans e2)).ob, cl, nf, by have := I.ln; omega, k _ ((I.ext (e1.trans e2)).put f v)⟩
theorem s_iniN (I : Ini B C x dx H fs os n) (hn : n < 999) (cl : Cls K C) (nf : NoAttr K C f) {o : HO} (hv : EvNew te σ H o) (ho : Ev to σ H (.ref x)) (k : ∀ p H1, Ini B C x dx H1 (putF f (.ref p) fs) ((p, o) :: os) (n + 1) → D.nx σ H1) : sFld K to te f D σ H :=
  hv H (Ex.refl _) _ fun p H1 np e1 hp => ho H1 e1 _ fun H2 e2 => ⟨x, C, dx, fs, rfl, (I.ext (e1.trans e2)).ob, cl, nf, by have := I.ln; omega, k p _ (((I.new np e1 hp).ext e2).put f (.ref p))⟩
theorem q_iniN (I : Ini B C x dx H fs os n) (hn : n < 999) (cl : Cls K C) (nf : NoAttr K C f) {o : HO} (hv : EvNew te σ H o) (ho : Ev to σ H (.ref x)) (k : ∀ p H1, Ini B C x dx H1 (putF f (.ref p) fs) ((p, o) :: os) (n + 1) → tz D σ H1) : tSeq (sFld K to te f) tz D σ H :=
  s_iniN (D := { D with nx := tz D }) I hn cl nf hv ho k
/-- a list of one new tuple -/
theorem q_iniLT (I : Ini B C x dx H fs os n) (hn : n < 999) (cl : Cls K C) (nf : NoAttr K C f) {vs : List V} (hv : EvU te σ H vs) (ho : Ev to σ H (.ref x)) (k : ∀ t p H1, Ini B C x dx H1 (putF f (.ref p) fs) ((p, .lst [.ref t]) :: (t, .tup vs) :: os) (n + 1) → tz D σ H1) : tSeq (sFld K to (tLst (tCons te tNil)) f) tz D σ H :=
  hv H (Ex.refl _) _ fun t H1 nt e1 ht => ⟨by show 1 ≤ sizeLine; decide, fun p np => ho _ (e1.trans (Ex.new np)) _ fun H2 e2 =>
    ⟨x, C, dx, fs, rfl, (I.ext (e1.trans ((Ex.new np).trans e2))).ob, cl, nf, by have := I.ln; omega, k t p _ (((((I.new nt e1 ht).new np (Ex.new np) upd_same)).ext e2).put f (.ref p))⟩⟩
end
def spCourseInit (K : PySem.W.Frag) (CR CP CC : Addr) : Sp := fun vs H Q _ => ∃ (B : Hp) (x p dx : Addr) (ks : List Str) (rs : List RuleD), vs = [.ref x, .ref p] ∧ H x = some (.ins CC dx []) ∧ Ex B H ∧ B x = none ∧ PlanIs K CR CP ks rs p B ∧ ∀ (A : CA) H', A.c = x → CourseAt K CR CP CC B A (CM.start ks rs) H' → Q .non H'
section
variable {P : Program} {w : World} {K : PySem.W.Frag} {mg : Str → Option Value} {base : Heap} {CR CP CC : Addr} {tO : Tok}
abbrev sCourseInit : Stmt := inClass (topS 41) 0
theorem scCourseInit : FnScope ["self", "plan"] ["self", "plan"] (defScope sCourseInit) := ⟨rfl, rfl, rfl, by decide +kernel, rfl, by decide +kernel, by decide +kernel⟩
theorem ok_course_init {f : Addr} {fd : FuncData} (F : Fun K "__init__" "Course.__init__" sCourseInit f fd) (TC : TxC K mg CC tO) : FnOk P w K mg base CX0 1 f fd ["self", "plan"] (spCourseInit K CR CP CC) := by
  refine F.ok scCourseInit (fun vs H Q E h => ?_) (fun cdv A outer s H vs Q E hr h => ?_)
  · obtain ⟨B, x, p, dx, ks, rs, rfl, _⟩ := h
    rfl
  · obtain ⟨B, x, p, dx, ks, rs, rfl, hx, eB, nB, hp, q⟩ := h
    refine ⟨_, pss_cons (ps_fld (pv 0) (pv 1) rfl)
      (pss_cons (ps_fld (pv 0) (pe_lst (pa_cons (pe_tup (pa_cons pe_str (pa_cons pe_int pa_nil))) pa_nil)) rfl)
      (pss_cons (ps_fld (pv 0) pe_int rfl)
      (pss_cons (ps_fld (pv 0) pe_non rfl)
      (pss_cons (ps_fld (pv 0) pe_non rfl)
      (pss_cons (ps_fld (pv 0) pe_dnewK rfl)
      (pss_cons (ps_fld (pv 0) pe_dnewK rfl)
      (pss_cons (ps_fld (pv 0) pe_non rfl)
      (pss_cons (ps_fld (pv 0) (pe_lst pa_nil) rfl)
      (pss_cons (ps_fld (pv 0) pe_non rfl)
      (pss_cons (ps_fld (pv 0) (pe_lst (pa_cons pe_non pa_nil)) rfl)
      (pss_cons (ps_fld (pv 0) (pe_lst pa_nil) rfl)
      (pss_one (ps_fld (pv 0) pe_dnewK rfl))))))))))))), ?_⟩
    have I0 : Ini B CC x dx H [] [] 0 := ⟨eB, nB, hx, fun q hq => (nomatch hq), List.nodup_nil, Nat.le_refl _⟩
    refine q_ini I0 (by decide) TC.cl TC.plan (Evl.ev_var rfl) (Evl.ev_var rfl) fun H1 I1 => ?_
    refine q_iniLT I1 (by decide) TC.cl TC.letters (Evl.eu_tup (Evl.ea_cons Evl.ev_c (Evl.ea_cons Evl.ev_c Evl.ea_nil)) (by show 2 ≤ 100000; decide)) (Evl.ev_var rfl) fun t L H2 I2 => ?_
    refine q_ini I2 (by decide) TC.cl TC.newest Evl.ev_c (Evl.ev_var rfl) fun H3 I3 => ?_
    refine q_ini I3 (by decide) TC.cl TC.whole Evl.ev_c (Evl.ev_var rfl) fun H4 I4 => ?_
    refine q_ini I4 (by decide) TC.cl TC.own Evl.ev_c (Evl.ev_var rfl) fun H5 I5 => ?_
    refine q_iniN I5 (by decide) TC.cl TC.came evn_dict (Evl.ev_var rfl) fun cm H6 I6 => ?_
    refine q_iniN I6 (by decide) TC.cl TC.shown evn_dict (Evl.ev_var rfl) fun sh H7 I7 => ?_
    refine q_ini I7 (by decide) TC.cl TC.off Evl.ev_c (Evl.ev_var rfl) fun H8 I8 => ?_
    refine q_iniN I8 (by decide) TC.cl TC.answers (o := .lst []) (Evl.el_lst Evl.ea_nil (Nat.zero_le _)) (Evl.ev_var rfl) fun an H9 I9 => ?_
    refine q_ini I9 (by decide) TC.cl TC.counted Evl.ev_c (Evl.ev_var rfl) fun Ha Ia => ?_
    refine q_iniN Ia (by decide) TC.cl TC.shows (o := .lst [.non]) (Evl.el_lst (Evl.ea_cons Evl.ev_c Evl.ea_nil) (by show 1 ≤ 100000; decide)) (Evl.ev_var rfl) fun sw Hb Ib => ?_
    refine q_iniN Ib (by decide) TC.cl TC.rules (o := .lst []) (Evl.el_lst Evl.ea_nil (Nat.zero_le _)) (Evl.ev_var rfl) fun rl Hc Ic => ?_
    refine s_iniN Ic (by decide) TC.cl TC.goals evn_dict (Evl.ev_var rfl) fun gl Hd Id => ?_
    let A2 : CA := ⟨x, dx, p, L, cm, sh, an, sw, rl, gl⟩
    have ef : Hd x = some (.ins CC dx (cf A2 (CM.start ks rs))) := Id.ob.trans (by kernel_rfl)
    have nd := Id.nd
    have os := Id.oo
    simp only [List.map_cons, List.map_nil, List.nodup_cons, List.mem_cons, List.not_mem_nil, or_false, not_or, not_false_eq_true, true_and, and_true] at nd
    have oG := os (gl, .dK []) (by simp)
    have oR := os (rl, .lst []) (by simp)
    have oW := os (sw, .lst [.non]) (by simp)
    have oA := os (an, .lst []) (by simp)
    have oS := os (sh, .dK []) (by simp)
    have oC := os (cm, .dK []) (by simp)
    have oL := os (L, .lst [.ref t]) (by simp)
    have oT := os (t, .tup [.str "ask", .int 0]) (by simp)
    refine q A2 Hd rfl ⟨Id.ex, fun a ha => ?_, ?_, ef, hp, ⟨_, oL.1, .cons ⟨t, rfl, oT.1⟩ .nil⟩, ⟨[], oC.1, Nat.le_refl _, fun _ => rfl⟩, ⟨[], oS.1, Nat.le_refl _, fun _ => rfl⟩, oA.1, oW.1, oR.1, ⟨[], oG.1, rfl⟩⟩
    · have ha2 : a ∈ [x, L, cm, sh, an, sw, rl, gl] := ha
      simp only [List.mem_cons, List.not_mem_nil, or_false] at ha2
      rcases ha2 with z | z | z | z | z | z | z | z
      · rw [z]; exact nB
      · rw [z]; exact oL.2.1
      · rw [z]; exact oC.2.1
      · rw [z]; exact oS.2.1
      · rw [z]; exact oA.2.1
      · rw [z]; exact oW.2.1
      · rw [z]; exact oR.2.1
      · rw [z]; exact oG.2.1
    · show [x, L, cm, sh, an, sw, rl, gl].Nodup
      have nn : ∀ {a b : Addr}, ¬ a = b → ¬ b = a := fun h z => h z.symm
      simp only [List.nodup_cons, List.mem_cons, List.not_mem_nil, or_false, not_or, not_false_eq_true, true_and, and_true, List.nodup_nil]
      obtain ⟨⟨g1, g2, g3, g4, g5, g6, g7⟩, ⟨r1, r2, r3, r4, r5, r6⟩, ⟨w1, w2, w3, w4, w5⟩, ⟨a1, a2, a3, a4⟩, ⟨s1, s2, s3⟩, ⟨c1, c2⟩, l1⟩ := nd
      exact ⟨⟨nn oL.2.2, nn oC.2.2, nn oS.2.2, nn oA.2.2, nn oW.2.2, nn oR.2.2, nn oG.2.2⟩, ⟨nn c1, nn s2, nn a3, nn w4, nn r5, nn g6⟩, ⟨nn s1, nn a2, nn w3, nn r4, nn g5⟩, ⟨nn a1, nn w2, nn r3, nn g4⟩, ⟨nn w1, nn r2, nn g3⟩, ⟨nn r1, nn g2⟩, nn g1⟩
end
end Ov


namespace Ov
open PySem PySem.Spec PyProof.Rows L2
open Evl (pss_cut tCut Ex Ev EvT EvL EvA EvU)
/-! ### a Played, play -/
def CM.goalsT (m : CM) : List Str := goalWords.filter fun g => decide (g ∈ m.goals)
def pd (a1 a2 a3 a4 a5 : Addr) (m : CM) : List (Str × V) := [("letters", .ref a1), ("shows", .ref a2), ("whole", ov m.whole), ("own", ov m.own), ("answers", .ref a3), ("counted", ov m.counted), ("rules", .ref a4), ("goals", .ref a5)]
def PlayedAt (K : PySem.W.Frag) (CD : Addr) (H : Hp) (q : Addr) (m : CM) : Prop := ∃ (dx a1 a2 a3 a4 a5 : Addr) (xs : List V), H q = some (.ins CD dx (pd a1 a2 a3 a4 a5 m)) ∧ SqT K H a1 xs ∧ LettersAt H xs m.letters ∧ SqT K H a2 (m.shows.map ov) ∧ SqT K H a3 (m.answers.map fun (i : Nat) => V.int (i : Int)) ∧ SqT K H a4 (m.rules.map ov) ∧ SqT K H a5 (m.goalsT.map V.str)
theorem PlayedAt.ex {K : PySem.W.Frag} {CD q : Addr} {H H' : Hp} {m : CM} (e : Ex H H') (h : PlayedAt K CD H q m) : PlayedAt K CD H' q m := by
  obtain ⟨dx, a1, a2, a3, a4, a5, xs, h0, h1, h2, h3, h4, h5, h6⟩ := h
  exact ⟨dx, a1, a2, a3, a4, a5, xs, e _ _ h0, Evl.ex_t e h1, h2.ex e, Evl.ex_t e h3, Evl.ex_t e h4, Evl.ex_t e h5, Evl.ex_t e h6⟩
structure TxD (K : PySem.W.Frag) (mg : Str → Option Value) (CD : Addr) : Prop where
  g_Played : mg "Played" = some (.ref CD)
  cl : Cls K CD
  letters : NoAttr K CD "letters"
  shows : NoAttr K CD "shows"
  whole : NoAttr K CD "whole"
  own : NoAttr K CD "own"
  answers : NoAttr K CD "answers"
  counted : NoAttr K CD "counted"
  rules : NoAttr K CD "rules"
  goals : NoAttr K CD "goals"
/-! goals, sorted -/
def allG : Nat → List (List Str)
  | 0 => [[]]
  | n + 1 => [] :: goalWords.flatMap fun k => (allG n).map (k :: ·)
theorem in_allG : ∀ {n : Nat} {ks : List Str}, ks.length ≤ n → (∀ k ∈ ks, k ∈ goalWords) → ks ∈ allG n
  | 0, [], _, _ => List.mem_singleton.mpr rfl
  | _ + 1, [], _, _ => List.mem_cons_self
  | n + 1, k :: ks, h, g => List.mem_cons_of_mem _ (List.mem_flatMap.mpr ⟨k, g k List.mem_cons_self, List.mem_map.mpr ⟨ks, in_allG (by simpa using h) fun x hx => g x (List.mem_cons_of_mem _ hx), rfl⟩⟩)
theorem nodup_len {α : Type} [DecidableEq α] : ∀ {l m : List α}, l.Nodup → (∀ x ∈ l, x ∈ m) → l.length ≤ m.length
  | [], _, _, _ => Nat.zero_le _
  | a :: l, m, h, g => by
    have h1 := List.nodup_cons.mp h
    have ha := g a List.mem_cons_self
    have ih := nodup_len (m := m.erase a) h1.2 fun x hx => (List.mem_erase_of_ne (fun z => h1.1 (by rw [← z]; exact hx))).mpr (g x (List.mem_cons_of_mem _ hx))
    rw [List.length_erase_of_mem ha] at ih
    have : 0 < m.length := List.length_pos_of_mem ha
    show l.length + 1 ≤ m.length
    omega
theorem goals_five {m : CM} (h : m.WF) : m.goals.length ≤ 5 := nodup_len (m := goalWords) h.gn h.gw
theorem goals_sorted {m : CM} (h : m.WF) {ys : List Str} (p : ys.Perm m.goals) (s : sortedS ys = true) : ys = m.goalsT := by
  have a : ∀ ks ∈ allG 5, sortedS ks = true → ks.Nodup → ks = goalWords.filter fun k => decide (k ∈ ks) := by decide +kernel
  have e := a ys (in_allG (by rw [p.length_eq]; exact goals_five h) fun k hk => h.gw k (p.mem_iff.mp hk)) s (p.nodup_iff.mpr h.gn)
  rw [e]
  unfold CM.goalsT
  refine List.filter_congr fun k _ => ?_
  exact decide_eq_decide.mpr p.mem_iff
section
variable {K : PySem.W.Frag} {B : Hp} {C x dx : Addr} {H : Hp} {fs : List (Str × V)} {os : List (Addr × HO)} {n : Nat} {σ : L2.St} {to te : TE} {D : Ends} {tz : TS} {f : Str}
theorem SqT.updI {a : Addr} {xs : List V} {o : HO} (hp : H x = some (.ins C dx fs)) (h : SqT K H a xs) : SqT K (upd H x o) a xs := by
  rcases h with (h | ⟨u, h⟩) | h
  · exact .inl (.inl (by rw [upd_ne (ne_of h hp (fun z => nomatch z))]; exact h))
  · exact .inl (.inr ⟨u, by rw [upd_ne (ne_of h hp (fun z => nomatch z))]; exact h⟩)
  · exact .inr h
abbrev KeepT (K : PySem.W.Frag) (H H1 : Hp) : Prop := ∀ a ys, SqT K H a ys → SqT K H1 a ys
theorem s_iniK (I : Ini B C x dx H fs os n) (hn : n < 999) (cl : Cls K C) (nf : NoAttr K C f) {v : V} (hv : Ev te σ H v) (ho : Ev to σ H (.ref x)) (k : ∀ H1, Ini B C x dx H1 (putF f v fs) os (n + 1) → KeepT K H H1 → D.nx σ H1) : sFld K to te f D σ H :=
  hv H (Ex.refl _) _ fun H1 e1 => ho H1 e1 _ fun H2 e2 => ⟨x, C, dx, fs, rfl, (I.ext (e1.trans e2)).ob, cl, nf, by have := I.ln; omega, k _ ((I.ext (e1.trans e2)).put f v) fun a ys h => SqT.updI (I.ext (e1.trans e2)).ob (Evl.ex_t (e1.trans e2) h)⟩
theorem s_iniT (I : Ini B C x dx H fs os n) (hn : n < 999) (cl : Cls K C) (nf : NoAttr K C f) {xs : List V} (hv : EvP te σ H (fun p H2 => SqT K H2 p xs)) (ho : Ev to σ H (.ref x)) (k : ∀ p H1, Ini B C x dx H1 (putF f (.ref p) fs) os (n + 1) → SqT K H1 p xs → KeepT K H H1 → D.nx σ H1) : sFld K to te f D σ H :=
  hv H (Ex.refl _) _ fun p H1 e1 st => ho H1 e1 _ fun H2 e2 => ⟨x, C, dx, fs, rfl, (I.ext (e1.trans e2)).ob, cl, nf, by have := I.ln; omega, k p _ ((I.ext (e1.trans e2)).put f (.ref p)) (SqT.updI (I.ext (e1.trans e2)).ob (Evl.ex_t e2 st)) fun a ys h => SqT.updI (I.ext (e1.trans e2)).ob (Evl.ex_t (e1.trans e2) h)⟩
theorem q_iniK (I : Ini B C x dx H fs os n) (hn : n < 999) (cl : Cls K C) (nf : NoAttr K C f) {v : V} (hv : Ev te σ H v) (ho : Ev to σ H (.ref x)) (k : ∀ H1, Ini B C x dx H1 (putF f v fs) os (n + 1) → KeepT K H H1 → tz D σ H1) : tSeq (sFld K to te f) tz D σ H := s_iniK (D := { D with nx := tz D }) I hn cl nf hv ho k
theorem q_iniT (I : Ini B C x dx H fs os n) (hn : n < 999) (cl : Cls K C) (nf : NoAttr K C f) {xs : List V} (hv : EvP te σ H (fun p H2 => SqT K H2 p xs)) (ho : Ev to σ H (.ref x)) (k : ∀ p H1, Ini B C x dx H1 (putF f (.ref p) fs) os (n + 1) → SqT K H1 p xs → KeepT K H H1 → tz D σ H1) : tSeq (sFld K to te f) tz D σ H := s_iniT (D := { D with nx := tz D }) I hn cl nf hv ho k
theorem evP_tuple {l : Addr} {xs : List V} (ha : Ev te σ H (.ref l)) (hl : H l = some (.lst xs)) : EvP (tCB (rTupAny K) (tCons te tNil)) σ H (fun p H2 => SqT K H2 p xs) := fun H1 e1 Q q =>
  ha H1 e1 _ fun H2 e2 => ⟨l, xs, rfl, .inl (Evl.sq_of (e2 _ _ (e1 _ _ hl))), fun a H3 e3 st => q a H3 (e2.trans e3) st⟩
end
def spPlayedInit (K : PySem.W.Frag) (CR CP CC CD : Addr) : Sp := fun vs H Q _ => ∃ (B B0 : Hp) (x dx : Addr) (A : CA) (m : CM), vs = [.ref x, .ref A.c] ∧ H x = some (.ins CD dx []) ∧ Ex B H ∧ B x = none ∧ CourseAt K CR CP CC B0 A m B ∧ m.WF ∧ ∀ H', Ex B H' → PlayedAt K CD H' x m → Q .non H'
def spPlay (K : PySem.W.Frag) (CR CP CD : Addr) : Sp := fun vs H Q _ => ∃ (p wv : Addr) (ks : List Str) (rs : List RuleD) (zs : List Str) (m : CM), vs = [.ref p, .ref wv] ∧ PlanIs K CR CP ks rs p H ∧ (∀ r ∈ rs, r.Good) ∧ rs.length ≤ 1000 ∧ (SqL K H wv (zs.map V.str) ∨ SqT K H wv (zs.map V.str)) ∧ zs.length ≤ 100 ∧ (∀ z ∈ zs, EvOk z) ∧ (CM.start ks rs).goAll zs = some m ∧
  ∀ q H', Ex H H' → PlayedAt K CD H' q m → Q (.ref q) H'
section
variable {P : Program} {w : World} {K : PySem.W.Frag} {mg : Str → Option Value} {base : Heap} {a_LETTERS a_LETTER_TESTS a_LETTER_DEEDS a_ANSWER_TESTS a_ANSWER_DEEDS CR CP CC CD a_HOLDS a_DEEDS : Addr} {tA tN tO : Tok}
abbrev sPlayedInit : Stmt := inClass (topS 45) 0
theorem scPlayedInit : FnScope ["self", "course"] ["self", "course"] (defScope sPlayedInit) := ⟨rfl, rfl, rfl, by decide +kernel, rfl, by decide +kernel, by decide +kernel⟩
abbrev sPlay : Stmt := topS 46
theorem scPlay : FnScope ["plan", "weaving", "course", "at", "event"] ["plan", "weaving"] (defScope sPlay) := ⟨rfl, rfl, rfl, by decide +kernel, rfl, by decide +kernel, by decide +kernel⟩
theorem ok_played_init {f : Addr} {fd : FuncData} (F : Fun K "__init__" "Played.__init__" sPlayedInit f fd) (T : TxR K mg a_LETTERS a_LETTER_TESTS a_LETTER_DEEDS a_ANSWER_TESTS a_ANSWER_DEEDS CR tA tN) (TP : TxP K mg CP) (TC : TxC K mg CC tO) (TD : TxD K mg CD) : FnOk P w K mg base CX0 1 f fd ["self", "course"] (spPlayedInit K CR CP CC CD) := by
  refine F.ok scPlayedInit (fun vs H Q E h => ?_) (fun cdv A outer s H vs Q E hr h => ?_)
  · obtain ⟨B, B0, x, dx, A, m, rfl, _⟩ := h
    rfl
  · obtain ⟨B, B0, x, dx, A, m, rfl, hx, eB, nB, c, hw, q⟩ := h
    refine ⟨_, pss_cons (ps_fld (pv 0) (pe_callTy call_tuple_any (by rfl) T.n_tuple (by decide +kernel) (pa_cons (pe_fld (pv 1) rfl) pa_nil)) rfl)
      (pss_cons (ps_fld (pv 0) (pe_callTy call_tuple_any (by rfl) T.n_tuple (by decide +kernel) (pa_cons (pe_fld (pv 1) rfl) pa_nil)) rfl)
      (pss_cons (ps_fld (pv 0) (pe_fld (pv 1) rfl) rfl)
      (pss_cons (ps_fld (pv 0) (pe_fld (pv 1) rfl) rfl)
      (pss_cons (ps_fld (pv 0) (pe_callTy call_tuple_any (by rfl) T.n_tuple (by decide +kernel) (pa_cons (pe_fld (pv 1) rfl) pa_nil)) rfl)
      (pss_cons (ps_fld (pv 0) (pe_fld (pv 1) rfl) rfl)
      (pss_cons (ps_fld (pv 0) (pe_callTy call_tuple_any (by rfl) T.n_tuple (by decide +kernel) (pa_cons (pe_fld (pv 1) rfl) pa_nil)) rfl)
      (pss_one (ps_fld (pv 0) (pe_callTy call_tuple_any (by rfl) T.n_tuple (by decide +kernel) (pa_cons (pe_callB (call_sortedD rfl) (by rfl) TP.n_sorted (by decide +kernel) (pa_cons (pe_fld (pv 1) rfl) pa_nil)) pa_nil)) rfl)))))))), ?_⟩
    have I0 : Ini B CD x dx H [] [] 0 := ⟨eB, nB, hx, fun q hq => (nomatch hq), List.nodup_nil, Nat.le_refl _⟩
    obtain ⟨xs, l1, l2⟩ := c.lts
    have fl : ∀ {H1 : Hp} {y : Str} {v : V}, Ex B H1 → NoAttr K CC y → (cf A m).lookup y = some v → Ev (tFld K (tVar 1) y) (L2.start ["self", "course"] [.ref x, .ref A.c]) H1 v := fun e no lk => (c.ext e).f TC.cl no lk (Evl.ev_var rfl)
    refine q_iniT I0 (by decide) TD.cl TD.letters (evP_tuple (fl I0.ex TC.letters cf_letters) (I0.ex _ _ l1)) (Evl.ev_var rfl) fun a1 H1 I1 s1 k1 => ?_
    refine q_iniT I1 (by decide) TD.cl TD.shows (evP_tuple (fl I1.ex TC.shows cf_shows) (I1.ex _ _ c.sw)) (Evl.ev_var rfl) fun a2 H2 I2 s2 k2 => ?_
    refine q_iniK I2 (by decide) TD.cl TD.whole (fl I2.ex TC.whole cf_whole) (Evl.ev_var rfl) fun H3 I3 k3 => ?_
    refine q_iniK I3 (by decide) TD.cl TD.own (fl I3.ex TC.own cf_own) (Evl.ev_var rfl) fun H4 I4 k4 => ?_
    refine q_iniT I4 (by decide) TD.cl TD.answers (evP_tuple (fl I4.ex TC.answers cf_answers) (I4.ex _ _ c.an)) (Evl.ev_var rfl) fun a3 H5 I5 s5 k5 => ?_
    refine q_iniK I5 (by decide) TD.cl TD.counted (fl I5.ex TC.counted cf_counted) (Evl.ev_var rfl) fun H6 I6 k6 => ?_
    refine q_iniT I6 (by decide) TD.cl TD.rules (evP_tuple (fl I6.ex TC.rules cf_rules) (I6.ex _ _ c.rl)) (Evl.ev_var rfl) fun a4 H7 I7 s7 k7 => ?_
    obtain ⟨kvs, g1, g2⟩ := c.gl
    refine s_iniT (xs := m.goalsT.map V.str) I7 (by decide) TD.cl TD.goals (fun H8 e8 Q8 q8 => ?_) (Evl.ev_var rfl) fun a5 H9 I9 s9 k9 => ?_
    · refine (fl I7.ex TC.goals cf_goals) H8 e8 _ fun H9 e9 => ⟨A.gl, kvs, m.goals, rfl, .inl ((I7.ex.trans (e8.trans e9)) _ _ g1), g2, by have := goals_five hw; omega, fun ys l hp hs nl => ?_⟩
      rw [goals_sorted hw hp hs]
      exact ⟨l, _, rfl, .inl (Evl.sq_of upd_same), fun a Ha ea st => q8 a Ha ((e9.trans (Ex.new nl)).trans ea) st⟩
    · refine q H9 I9.ex ⟨dx, a1, a2, a3, a4, a5, xs, I9.ob.trans (by kernel_rfl), k9 _ _ (k7 _ _ (k6 _ _ (k5 _ _ (k4 _ _ (k3 _ _ (k2 _ _ s1)))))), l2.ex I9.ex, k9 _ _ (k7 _ _ (k6 _ _ (k5 _ _ (k4 _ _ (k3 _ _ s2))))), k9 _ _ (k7 _ _ (k6 _ _ s5)), k9 _ _ s7, s9⟩
theorem goAll_step {m mF : CM} {zs : List Str} {i : Nat} {z : Str} (h : m.goAll (zs.drop i) = some mF) (hz : zs[i]? = some z) : ∃ m2, m.goOn z = some m2 ∧ m2.goAll (zs.drop (i + 1)) = some mF := by
  have hi := (List.getElem?_eq_some_iff.mp hz).1
  have e : zs.drop i = z :: zs.drop (i + 1) := by
    rw [List.drop_eq_getElem_cons hi, (List.getElem?_eq_some_iff.mp hz).2]
  rw [e] at h
  exact Option.bind_eq_some_iff.mp h
theorem ok_play {f fSeq fCI fGo fPI : Addr} {fd fdSeq fdCI fdGo fdPI : FuncData} (F : Fun K "play" "play" sPlay f fd) (T : TxR K mg a_LETTERS a_LETTER_TESTS a_LETTER_DEEDS a_ANSWER_TESTS a_ANSWER_DEEDS CR tA tN) (TW : TxW K w mg a_HOLDS) (TC : TxC K mg CC tO) (TD : TxD K mg CD)
    (D_is_sequence : Df K mg "is_sequence" sIsSequence ["value"] fSeq fdSeq)
    (mkC : Mk K CC fCI) (G_cinit : FnOk P w K mg base CX0 1 fCI fdCI ["self", "plan"] (spCourseInit K CR CP CC)) (b_cinit : Binds K fdCI ["self", "plan"] [])
    (D_go_on : Df K mg "go_on" sGoOn ["course", "event", "at"] fGo fdGo) (G_go_on : FnOk P w K mg base CX0 5 fGo fdGo ["course", "event", "at"] (spGoOn K CR CP CC))
    (mkD : Mk K CD fPI) (G_pinit : FnOk P w K mg base CX0 1 fPI fdPI ["self", "course"] (spPlayedInit K CR CP CC CD)) (b_pinit : Binds K fdPI ["self", "course"] []) :
    FnOk P w K mg base CX0 6 f fd ["plan", "weaving"] (spPlay K CR CP CD) := by
  have G_is_sequence : FnOk P w K mg base CX0 1 fSeq fdSeq ["value"] (spIsSeq K) := ok_is_sequence D_is_sequence.F T
  refine F.ok scPlay (fun vs H Q E h => ?_) (fun cdv A outer s H vs Q E hr h => ?_)
  · obtain ⟨p, wv, ks, rs, zs, m, rfl, _⟩ := h
    rfl
  · obtain ⟨p, wv, ks, rs, zs, mF, rfl, hp, hg, hz, hS, hl, ho, hF, q⟩ := h
    have hr2 : Room 2 (A.deeper (envOfC "play" (defScope sPlay) s.heap.objs.size f cdv)) := hr.mono (by decide)
    refine ⟨_, pss_cons (ps_if (pt_not (pt_val (pe_call G_is_sequence (hr.mono (by decide)) rfl D_is_sequence.g D_is_sequence.F.kp D_is_sequence.b .nil pass0 (pa_cons (pv 1) pa_nil)))) (pss_one ps_never) pss_nil)
      (pss_cons (ps_set (i := 2) scPlay.nd rfl (.inl rfl) (pe_make (sp := spCourseInit K CR CP CC) (E := E0) mkC G_cinit hr2 rfl TC.g_Course b_cinit .nil pass0 (pa_cons (pv 0) pa_nil)))
      (pss_cut (ps_for PassesOwn.never rfl (pi_enumB (by rfl) TW.n_enumerate (pa_cons (pv 1) pa_nil)) (pg_tup (by rfl) (pgs_cons (pg_name (i := 3) scPlay.nd rfl (Or.inl rfl)) (pgs_cons (pg_name (i := 4) scPlay.nd rfl (Or.inl rfl)) pgs_nil))) (pss_one (ps_expr (pe_call G_go_on (hr.mono (by decide)) rfl D_go_on.g D_go_on.F.kp D_go_on.b .nil pass0 (pa_cons (pv 2) (pa_cons (pv 4) (pa_cons (pv 3) pa_nil)))))))
      (pss_one (ps_ret (pe_make (sp := spPlayedInit K CR CP CC CD) (E := E0) mkD G_pinit hr2 rfl TD.g_Played b_pinit .nil pass0 (pa_cons (pv 2) pa_nil)))))), ?_⟩
    refine Evl.q_when (b := false) (Evl.et_is (Evl.et_not (a := true) (Evl.et_B (ev_call (Evl.ea_cons (Evl.ev_var rfl) Evl.ea_nil) fun H1 e1 Q1 q1 => ⟨wv, _, rfl, exB e1 hS, fun H2 e2 => q1 H2 e2⟩))) rfl) (fun z => nomatch z) (fun _ H1 e1 => ?_)
    refine q_put ⟨_, rfl, fun x dx nx ndx ne => ?_⟩
    have e2 : Ex H1 (upd (upd H1 dx (.own x)) x (.ins CC dx [])) := (Ex.new ndx).trans (Ex.new (by rw [upd_ne ne.symm]; exact nx))
    refine ⟨H1, x, p, dx, ks, rs, rfl, upd_same, e2, nx, hp.ex e1, fun A2 H2 eA c2 => ⟨rfl, ?_⟩⟩
    subst eA
    have hS1 := exB e1 hS
    -- the loop
    let Pv : Nat → L2.St → Hp → Prop := fun i σ H' => ∃ (x3 x4 : Option V) (m : CM), σ = [some (.ref p), some (.ref wv), some (.ref A2.c), x3, x4] ∧ CourseAt K CR CP CC H1 A2 m H' ∧ m.WF ∧ m.Le (1 + 8 * i) ∧ m.goAll (zs.drop i) = some mF
    have start : Pv 0 [some (.ref p), some (.ref wv), some (.ref A2.c), none, none] H2 := ⟨none, none, CM.start ks rs, rfl, c2, CM.WF.start hg hz, ⟨Nat.le_refl _, Nat.zero_le _, Nat.le_refl _, Nat.zero_le _, Nat.zero_le _, Nat.zero_le _, Nat.zero_le _⟩, hF⟩
    refine Evl.q_cut (M := fun σ' H' => σ'[2]? = some (some (.ref A2.c)) ∧ CourseAt K CR CP CC H1 A2 mF H' ∧ mF.WF) ?_ (fun σ' H' hh => ?_)
    · have turn : ∀ {D : Ends} (i : Nat) (x : V) (σ : L2.St) (H3 H4 : Hp), i < (zs.map V.str).length → Pv i σ H3 → YPair (fun i => some (.int (i : Int))) (fun i => (zs.map V.str)[i]?) i H3 x H4 →
          (gTup K 2 (gCons (gName 3) (gCons (gName 4) gNil))) x σ H4 fun σ2 H5 => tDrop (tCall (spGoOn K CR CP CC) [] E0 (tCons (tVar 2) (tCons (tVar 4) (tCons (tVar 3) tNil)))) { D with nx := Pv (i + 1), ct := Pv (i + 1), bk := D.nx } σ2 H5 := by
        rintro D i x σ H3 H4 hi ⟨x3, x4, m, rfl, c3, hw, hle, hgo⟩ ⟨T0, _, y, rfl, nT, rfl, hc, hy⟩
        obtain rfl := Option.some.inj hc
        replace hy : (zs.map V.str)[i]? = some y := hy
        obtain ⟨z, rfl, hz2⟩ := strs_at hy
        obtain ⟨m2, g1, g2⟩ := goAll_step hgo hz2
        have c4 := c3.ext (Ex.new (o := .tup [.int (i : Int), .str z]) nT)
        have oz := ho z (List.mem_of_getElem? hz2)
        rw [List.length_map] at hi
        refine ⟨T0, _, rfl, Evl.st_of upd_same, rfl, _, _, rfl, _, _, rfl, rfl, ?_⟩
        exact ⟨_, rfl, _, rfl, _, rfl, H1, A2, m, m2, z, (i : Int), rfl, c4, hw, hle.mono (by omega), oz, g1, fun H5 c5 => ⟨_, _, m2, rfl, c5, hw.goOn oz g1, (hle.goOn g1).mono (by omega), g2⟩⟩
      have fin : ∀ σ H', Pv (zs.map V.str).length σ H' → σ[2]? = some (some (.ref A2.c)) ∧ CourseAt K CR CP CC H1 A2 mF H' ∧ mF.WF := by
        rintro σ H' ⟨x3, x4, m, rfl, c3, hw, hle, hgo⟩
        rw [List.length_map, List.drop_length] at hgo
        have := Option.some.inj hgo
        subst this
        exact ⟨rfl, c3, hw⟩
      rcases hS1 with hL | hT
      · refine .inl ⟨_, rfl, wv, _, rfl, Evl.ex_l c2.ex hL, for_it (walk_enum (xs := zs.map V.str)) Pv start ?_ (fun i x σ H3 H4 hi hP hY => turn i x σ H3 H4 hi hP hY) fin⟩
        rintro i σ H' _ ⟨_, _, m, _, c3, _⟩
        exact Evl.ex_l c3.ex hL
      · refine .inr ⟨_, rfl, wv, _, rfl, Evl.ex_t c2.ex hT, for_it (walk_enumT (xs := zs.map V.str)) Pv start ?_ (fun i x σ H3 H4 hi hP hY => turn i x σ H3 H4 hi hP hY) fin⟩
        rintro i σ H' _ ⟨_, _, m, _, c3, _⟩
        exact Evl.ex_t c3.ex hT
    · obtain ⟨h2, c3, hw⟩ := hh
      refine ⟨_, h2, fun x2 dx2 nx2 ndx2 ne2 => ?_⟩
      have e5 : Ex H' (upd (upd H' dx2 (.own x2)) x2 (.ins CD dx2 [])) := (Ex.new ndx2).trans (Ex.new (by rw [upd_ne ne2.symm]; exact nx2))
      exact ⟨H', H1, x2, dx2, A2, mF, rfl, upd_same, e5, nx2, c3, hw, fun H6 e6 pa => ⟨rfl, q x2 H6 (e1.trans (c3.ex.trans e6)) pa⟩⟩
end
end Ov


namespace Ov
open PySem PySem.Spec PyProof.Rows L2
open Evl (pss_cut tCut Ex Ev EvT EvL EvA EvU)
/-! ### what is told by a Played, as data -/
def dO : Option Nat → PyData
  | none => .none
  | some i => .int (i : Int)
def dL (l : Str × Int) : PyData := .tuple [.str l.1, .int l.2]
/-- data that can be compared, like itself -/
structure GD (d : PyData) (n : Nat) : Prop where
  lay : PyData.canLay0 d = true
  deep : PyData.depth d ≤ n
  same : PyData.eqv d d = true
theorem GD.none (n : Nat) : GD .none n := ⟨rfl, Nat.zero_le _, rfl⟩
theorem GD.int (i : Int) (n : Nat) : GD (.int i) n := ⟨rfl, Nat.zero_le _, by
  show (i == i) = true
  exact beq_self_eq_true i⟩
theorem GD.str {x : Str} (h : PyData.canLay0 (.str x) = true) (n : Nat) : GD (.str x) n := ⟨h, Nat.zero_le _, by
  show (x == x) = true
  exact beq_self_eq_true x⟩
theorem GD.all : ∀ {ds : List PyData} {n : Nat}, (∀ d ∈ ds, GD d n) → PyData.canLayAll0 ds = true ∧ PyData.depthAll ds ≤ n ∧ PyData.eqvAll ds ds = true
  | [], _, _ => ⟨rfl, Nat.zero_le _, rfl⟩
  | d :: ds, n, h => by
    have h1 := h d List.mem_cons_self
    have h2 := GD.all fun x hx => h x (List.mem_cons_of_mem _ hx)
    refine ⟨?_, ?_, ?_⟩
    · show (PyData.canLay0 d && PyData.canLayAll0 ds) = true
      rw [h1.lay, h2.1]
      rfl
    · show max (PyData.depth d) (PyData.depthAll ds) ≤ n
      exact Nat.max_le.mpr ⟨h1.deep, h2.2.1⟩
    · show (PyData.eqv d d && PyData.eqvAll ds ds) = true
      rw [h1.same, h2.2.2]
      rfl
theorem GD.tup {ds : List PyData} {n : Nat} (h : ∀ d ∈ ds, GD d n) : GD (.tuple ds) (n + 1) := by
  obtain ⟨h1, h2, h3⟩ := GD.all h
  exact ⟨h1, Nat.succ_le_succ h2, h3⟩
theorem GD.shaped {d : PyData} {n : Nat} (h : GD d n) (hn : n ≤ 64) : SeqAt.shaped d = true := by
  show (PyData.canLay0 d && decide (d.depth ≤ 64)) = true
  rw [h.lay, decide_eq_true (Nat.le_trans h.deep hn)]
  rfl
theorem GD.ov (p : Option Nat) (n : Nat) : GD (dO p) n := by
  cases p with
  | none => exact GD.none n
  | some i => exact GD.int _ n
theorem GD.ovs (l : List (Option Nat)) : GD (.tuple (l.map dO)) 1 := GD.tup (n := 0) fun d hd => by
  obtain ⟨x, _, rfl⟩ := List.mem_map.mp hd
  exact GD.ov x 0
theorem GD.nats (l : List Nat) : GD (.tuple (l.map fun (i : Nat) => PyData.int (i : Int))) 1 := GD.tup (n := 0) fun d hd => by
  obtain ⟨x, _, rfl⟩ := List.mem_map.mp hd
  exact GD.int _ 0
theorem GD.strs {l : List Str} (h : Plain l) : GD (.tuple (l.map PyData.str)) 1 := GD.tup (n := 0) fun d hd => by
  obtain ⟨x, hx, rfl⟩ := List.mem_map.mp hd
  exact GD.str (h x hx) 0
theorem GD.letters {m : CM} (hw : m.WF) : GD (.tuple (m.letters.map dL)) 2 := GD.tup (n := 1) fun d hd => by
  obtain ⟨l, hl, rfl⟩ := List.mem_map.mp hd
  have a : ∀ k ∈ letterKinds ++ [("other" : Str)], PyData.canLay0 (.str k) = true := by decide +kernel
  refine GD.tup (n := 0) fun e he => ?_
  simp only [List.mem_cons, List.not_mem_nil, or_false] at he
  rcases he with rfl | rfl
  · exact GD.str (a _ ((hw.kinds l hl).elim (fun z => List.mem_append_left _ z) (fun z => List.mem_append_right _ (List.mem_singleton.mpr z)))) 0
  · exact GD.int _ 0
theorem goalsT_plain (m : CM) : Plain m.goalsT := fun x hx => by
  have a : ∀ k ∈ goalWords, PyData.canLay0 (.str k) = true := by decide +kernel
  exact a x (List.mem_filter.mp hx).1
section
variable {K : PySem.W.Frag} {H : Hp} {σ : L2.St} {ta tb te : TE}
theorem dp_ov (p : Option Nat) : Dp K H (ov p) (dO p) := by
  cases p with
  | none => exact .non
  | some i => exact .int _
theorem dpa_ovs : ∀ l : List (Option Nat), DpAll K H (l.map ov) (l.map dO)
  | [] => .nil
  | p :: r => .cons (dp_ov p) (dpa_ovs r)
theorem dpa_nats : ∀ l : List Nat, DpAll K H (l.map fun (i : Nat) => V.int (i : Int)) (l.map fun (i : Nat) => PyData.int (i : Int))
  | [] => .nil
  | p :: r => .cons (.int _) (dpa_nats r)
theorem dpa_letters : ∀ {xs : List V} {ls : List (Str × Int)}, LettersAt H xs ls → DpAll K H xs (ls.map dL)
  | _, _, .nil => .nil
  | _, _, .cons ⟨t, h1, h2⟩ r => by
    rw [h1]
    exact .cons (.tup (Evl.st_of h2) (.cons (.str _) (.cons (.int _) .nil))) (dpa_letters r)
/-- != and == of what is alike -/
theorem rv_neSame {x y : V} {d : PyData} {n : Nat} (hx : ∀ H1, Ex H H1 → Dp K H1 x d) (hy : ∀ H1, Ex H H1 → Dp K H1 y d) (g : GD d n) (hn : n ≤ 64) : Evl.RV (rNeD K) x y H (.bl false) := fun H1 e Q q => ⟨d, d, hx H1 e, hy H1 e, g.shaped hn, g.shaped hn, by
  rw [g.same]
  exact q H1 (Ex.refl H1)⟩
theorem rv_eqSame {x y : V} {d : PyData} {n : Nat} (hx : ∀ H1, Ex H H1 → Dp K H1 x d) (hy : ∀ H1, Ex H H1 → Dp K H1 y d) (g : GD d n) (hn : n ≤ 64) : Evl.RV (rEqD K) x y H (.bl true) := fun H1 e Q q => ⟨d, d, hx H1 e, hy H1 e, g.shaped hn, g.shaped hn, by
  rw [g.same]
  exact q H1 (Ex.refl H1)⟩
theorem ev_neOv {p : Option Nat} (ha : Ev ta σ H (ov p)) (hb : Ev tb σ H (ov p)) : Ev (tOp (rNeD K) ta tb) σ H (.bl false) := Evl.ev_op ha hb (rv_neSame (fun _ _ => dp_ov p) (fun _ _ => dp_ov p) (GD.ov p 0) (by decide))
theorem ev_neInt {i : Int} (ha : Ev ta σ H (.int i)) (hb : Ev tb σ H (.int i)) : Ev (tOp (rNeD K) ta tb) σ H (.bl false) := Evl.ev_op ha hb (rv_neSame (fun _ _ => .int i) (fun _ _ => .int i) (GD.int i 0) (by decide))
theorem ev_lenT {p : Addr} {xs : List V} (ha : Ev ta σ H (.ref p)) (h : SqT K H p xs) : Ev (tCB (Evl.rLenS K) (tCons ta tNil)) σ H (.int (xs.length : Int)) := fun H1 e Q q =>
  ha H1 e _ fun H2 e2 => ⟨p, xs, rfl, .inr (Evl.ex_t (e.trans e2) h), q H2 e2⟩
end
section
variable {a1 a2 a3 a4 a5 : Addr} {m : CM}
theorem pd_letters : (pd a1 a2 a3 a4 a5 m).lookup ("letters" : Str) = some (.ref a1) := by kernel_rfl
theorem pd_shows : (pd a1 a2 a3 a4 a5 m).lookup ("shows" : Str) = some (.ref a2) := by kernel_rfl
theorem pd_whole : (pd a1 a2 a3 a4 a5 m).lookup ("whole" : Str) = some (ov m.whole) := by kernel_rfl
theorem pd_own : (pd a1 a2 a3 a4 a5 m).lookup ("own" : Str) = some (ov m.own) := by kernel_rfl
theorem pd_answers : (pd a1 a2 a3 a4 a5 m).lookup ("answers" : Str) = some (.ref a3) := by kernel_rfl
theorem pd_counted : (pd a1 a2 a3 a4 a5 m).lookup ("counted" : Str) = some (ov m.counted) := by kernel_rfl
theorem pd_rules : (pd a1 a2 a3 a4 a5 m).lookup ("rules" : Str) = some (.ref a4) := by kernel_rfl
theorem pd_goals : (pd a1 a2 a3 a4 a5 m).lookup ("goals" : Str) = some (.ref a5) := by kernel_rfl
end
/-! ### checks of written plans and weavings, by reckoning -/
def wordB (z word : Str) : Bool := !Txt.isdecimal (Txt.removeprefix z word) || match PySem.intText? (Txt.removeprefix z word) with
  | some n => decide (0 ≤ n) && decide (n < 1000000)
  | none => false
theorem wordB_ok {z word : Str} (h : wordB z word = true) : WordOk z word := fun hd => by
  unfold wordB at h
  rw [hd] at h
  cases e : PySem.intText? (Txt.removeprefix z word) with
  | none =>
    rw [e] at h
    cases h
  | some n =>
    rw [e] at h
    simp only [Bool.not_true, Bool.false_or, Bool.and_eq_true, decide_eq_true_eq] at h
    refine ⟨n.toNat, by rw [Int.toNat_of_nonneg h.1], Nat.lt_of_lt_of_le (show n.toNat < 1000000 by omega) ?_⟩
    exact Nat.le_trans (by decide : 1000000 ≤ 2 ^ 20) (Nat.pow_le_pow_right (by decide) (by decide))
def evB (z : Str) : Bool := decide (z.length ≤ 600) && (decide ((Txt.removeprefix z "come ").length ≤ 600) && (decide ((Txt.removeprefix z "heard ").length ≤ 600) && (wordB z "come " && wordB z "heard ")))
theorem evB_ok {z : Str} (h : evB z = true) : EvOk z := by
  unfold evB at h
  simp only [Bool.and_eq_true, decide_eq_true_eq] at h
  exact ⟨h.1, h.2.1, h.2.2.1, wordB_ok h.2.2.2.1, wordB_ok h.2.2.2.2⟩
def ruleB (r : RuleD) : Bool := decide (r.k ∈ kindsAll) && (r.ts.all (fun t => decide (t ∈ testsNot r.k)) && (r.ds.all (fun d => decide (d ∈ deedsOf r.k)) && (decide (r.ts.length ≤ 1000) && decide (r.ds.length ≤ 1000))))
theorem ruleB_ok {r : RuleD} (h : ruleB r = true) : r.Good := by
  unfold ruleB at h
  simp only [Bool.and_eq_true, decide_eq_true_eq, List.all_eq_true] at h
  exact ⟨h.1, h.2.1, h.2.2.1, h.2.2.2.1, h.2.2.2.2⟩
def planB (ks : List Str) (rs : List RuleD) : Bool := ks.isSublist lettersL && (rs.all ruleB && decide (rs.length ≤ 10))
theorem planB_ok {ks : List Str} {rs : List RuleD} (h : planB ks rs = true) : PlanOk ks rs := by
  unfold planB at h
  simp only [Bool.and_eq_true, decide_eq_true_eq, List.all_eq_true] at h
  exact ⟨List.isSublist_iff_sublist.mp h.1, fun r hr => ruleB_ok (h.2.1 r hr), h.2.2⟩
theorem goAll_wf : ∀ {zs : List Str} {m mF : CM}, m.WF → (∀ z ∈ zs, EvOk z) → m.goAll zs = some mF → mF.WF
  | [], _, _, h, _, e => by
    cases Option.some.inj e
    exact h
  | z :: r, _, _, h, o, e => by
    obtain ⟨m2, h1, h2⟩ := Option.bind_eq_some_iff.mp e
    exact goAll_wf (h.goOn (o z List.mem_cons_self) h1) (fun x hx => o x (List.mem_cons_of_mem _ hx)) h2
end Ov


namespace Ov
open PySem PySem.Spec PyProof.Rows L2
open Evl (pss_cut tCut Ex Ev EvT EvL EvA EvU)
/-! ### k84: letters about other days put in between (pure) -/
def evCome (i : Nat) : Str := ("come " : Str) ++ strI i
def evHeard (i : Nat) : Str := ("heard " : Str) ++ strI i
theorem evCome_facts : ∀ i < 64, evB (evCome i) = true ∧ evCome i ∉ CM.deedsAll ∧ evCome i ≠ ("answer" : Str) ∧ (evCome i).length ≤ 1000 ∧ Txt.startswith (evCome i) "heard " = false := by decide +kernel
theorem evHeard_facts : ∀ i < 64, evB (evHeard i) = true ∧ evHeard i ∉ CM.deedsAll ∧ evHeard i ≠ ("answer" : Str) ∧ (evHeard i).length ≤ 1000 ∧ Txt.startswith (evHeard i) "come " = false := by decide +kernel
theorem evCome_read : ∀ n < 48, ∀ i < n, readPlaceM (evCome i) "come " n = some i := by decide +kernel
theorem evHeard_read : ∀ n < 48, ∀ i < n, readPlaceM (evHeard i) "heard " n = some i := by decide +kernel
theorem read_none {z w : Str} {n : Nat} (h : Txt.startswith z w = false) : readPlaceM z w n = none := by
  unfold readPlaceM
  rw [if_neg (by rw [h]; exact Bool.false_ne_true)]
theorem answer_starts : Txt.startswith ("answer" : Str) "come " = false ∧ Txt.startswith ("answer" : Str) "heard " = false := by decide +kernel
theorem answer_facts : evB "answer" = true ∧ ("answer" : Str) ∉ CM.deedsAll ∧ ("answer" : Str).length ≤ 1000 := by decide +kernel
theorem deedsAll_facts : ∀ z ∈ CM.deedsAll, evB z = true ∧ z.length ≤ 1000 ∧ z ≠ ("answer" : Str) := by decide +kernel
theorem other_facts : ∀ k ∈ (["day", "off"] : List Str), ("other " : Str) ++ k ∈ CM.deedsAll ∧ CM.sentKind (("other " : Str) ++ k) = k ∧ ("other " : Str) ++ k ≠ k := by decide +kernel
/-- the forms of events -/
inductive Form : Str → Prop
  | deed {z : Str} : z ∈ CM.deedsAll → Form z
  | ans : Form "answer"
  | come {i : Nat} : i < 48 → Form (evCome i)
  | heard {i : Nat} : i < 48 → Form (evHeard i)
theorem Form.ok {z : Str} (h : Form z) : EvOk z := by
  cases h with
  | deed h => exact evB_ok (deedsAll_facts _ h).1
  | ans => exact evB_ok answer_facts.1
  | come h => exact evB_ok (evCome_facts _ (by omega)).1
  | heard h => exact evB_ok (evHeard_facts _ (by omega)).1
namespace CM
variable {m n m2 : CM} {z : Str}
theorem goAll_snoc : ∀ {zs : List Str} {m mF : CM} {z : Str}, m.goAll zs = some mF → m.goAll (zs ++ [z]) = mF.goOn z
  | [], m, mF, z, h => by
    cases Option.some.inj h
    show (m.goOn z).bind (fun m2 => CM.goAll m2 []) = m.goOn z
    cases m.goOn z <;> rfl
  | a :: r, m, mF, z, h => by
    obtain ⟨m2, h1, h2⟩ := Option.bind_eq_some_iff.mp h
    show (m.goOn a).bind (fun m2 => m2.goAll (r ++ [z])) = _
    rw [h1]
    exact goAll_snoc h2
theorem goAll_split : ∀ {zs : List Str} {m mF : CM} {z : Str}, m.goAll (zs ++ [z]) = some mF → ∃ m1, m.goAll zs = some m1 ∧ m1.goOn z = some mF
  | [], m, mF, z, h => by
    obtain ⟨m2, h1, h2⟩ := Option.bind_eq_some_iff.mp h
    cases Option.some.inj h2
    exact ⟨m, rfl, h1⟩
  | a :: r, m, mF, z, h => by
    obtain ⟨m2, h1, h2⟩ := Option.bind_eq_some_iff.mp h
    obtain ⟨m3, h3, h4⟩ := goAll_split (zs := r) h2
    refine ⟨m3, ?_, h4⟩
    show (m.goOn a).bind (fun m2 => m2.goAll r) = _
    rw [h1]
    exact h3
/-- all but goals, shows, shown, off, rules -/
structure SameC (m m2 : CM) : Prop where
  ks : m2.ks = m.ks
  rs : m2.rs = m.rs
  lt : m2.letters = m.letters
  nw : m2.newest = m.newest
  w : m2.whole = m.whole
  o : m2.own = m.own
  an : m2.answers = m.answers
  ct : m2.counted = m.counted
  cm : m2.came = m.came
theorem SameC.refl (m : CM) : SameC m m := ⟨rfl, rfl, rfl, rfl, rfl, rfl, rfl, rfl, rfl⟩
theorem SameC.trans {m1 m2 m3 : CM} (a : SameC m1 m2) (b : SameC m2 m3) : SameC m1 m3 := ⟨b.1.trans a.1, b.2.trans a.2, b.3.trans a.3, b.4.trans a.4, b.5.trans a.5, b.6.trans a.6, b.7.trans a.7, b.8.trans a.8, b.9.trans a.9⟩
theorem SameC.showing (h : SameC m m2) : m2.showing = m.showing := by
  unfold CM.showing
  rw [h.o, h.w]
theorem SameC.kindAt (h : SameC m m2) (i : Nat) : m2.kindAt i = m.kindAt i := by
  unfold CM.kindAt
  rw [h.lt]
theorem SameC.numAt (h : SameC m m2) (i : Nat) : m2.numAt i = m.numAt i := by
  unfold CM.numAt
  rw [h.lt]
theorem SameC.last (h : SameC m m2) : m2.lastNum = m.lastNum := by
  unfold CM.lastNum
  rw [h.numAt, h.lt]
theorem SameC.ansAt (h : SameC m m2) (i : Nat) : m2.ansAt i = m.ansAt i := by
  unfold CM.ansAt
  rw [h.an]
theorem SameC.isStop (h : SameC m m2) (i : Nat) : m2.isStop i = m.isStop i := by
  unfold CM.isStop
  rw [h.kindAt]
theorem SameC.isAsk (h : SameC m m2) (i : Nat) : m2.isAsk i = m.isAsk i := by
  unfold CM.isAsk
  rw [h.kindAt]
/-- what judging leaves -/
structure SameJ (m m2 : CM) : Prop extends SameC m m2 where
  sh : m2.shows = m.shows
  sn : m2.shown = m.shown
  off : m2.off = m.off
  ru : m2.rules = m.rules
theorem addG_same (b : Bool) (g : Str) : SameJ m (m.addG b g) := by
  unfold CM.addG
  split
  · split
    · exact ⟨SameC.refl m, rfl, rfl, rfl, rfl⟩
    · exact ⟨⟨rfl, rfl, rfl, rfl, rfl, rfl, rfl, rfl, rfl⟩, rfl, rfl, rfl, rfl⟩
  · exact ⟨SameC.refl m, rfl, rfl, rfl, rfl⟩
theorem SameJ.trans {m1 m2 m3 : CM} (a : SameJ m1 m2) (b : SameJ m2 m3) : SameJ m1 m3 := ⟨a.toSameC.trans b.toSameC, b.sh.trans a.sh, b.sn.trans a.sn, b.off.trans a.off, b.ru.trans a.ru⟩
theorem judge_same (h : Option Nat) : SameJ m (m.judge h) := by
  unfold CM.judge
  exact ((((addG_same _ _).trans (addG_same _ _)).trans (addG_same _ _)).trans (addG_same _ _)).trans (addG_same _ _)
theorem SameJ.view (h : SameJ m m2) : m2.view = m.view := by
  unfold CM.view
  rw [h.sh]
theorem addG_goals (b : Bool) (g : Str) : (m.addG b g).goals = if b = true then (if g ∈ m.goals then m.goals else m.goals ++ [g]) else m.goals := by
  unfold CM.addG
  split
  · split
    · rfl
    · rfl
  · rfl
theorem addG_in {b : Bool} {g x : Str} (h : x ∈ m.goals) : x ∈ (m.addG b g).goals := by
  rw [addG_goals]
  split
  · split
    · exact h
    · exact List.mem_append_left _ h
  · exact h
theorem addG_new {b : Bool} {g : Str} (h : b = true) : g ∈ (m.addG b g).goals := by
  rw [addG_goals, if_pos h]
  split
  · rename_i c
    exact c
  · exact List.mem_append_right _ (List.mem_singleton.mpr rfl)
theorem looked_same : SameC m m.look ∧ m.look.shows = m.shows ++ [m.showing] ∧ m.look.rules = m.rules ∧ m.look.goals = m.goals := by
  unfold CM.look
  split
  · exact ⟨⟨rfl, rfl, rfl, rfl, rfl, rfl, rfl, rfl, rfl⟩, rfl, rfl, rfl⟩
  · unfold CM.offed
    split
    · exact ⟨⟨rfl, rfl, rfl, rfl, rfl, rfl, rfl, rfl, rfl⟩, rfl, rfl, rfl⟩
    · exact ⟨⟨rfl, rfl, rfl, rfl, rfl, rfl, rfl, rfl, rfl⟩, rfl, rfl, rfl⟩
theorem look_shown : m.look.shown = match m.showing with
  | none => m.shown
  | some i => m.shown ++ [i] := by
  unfold CM.look
  split
  · rename_i e
    try rw [e]
    rfl
  · rename_i i e
    try rw [e]
    unfold CM.offed
    split <;> rfl
theorem look_off : m.look.off = match m.showing with
  | none => m.off
  | some i => if (m.isStop i && m.overOff i) = true then some i else m.off := by
  unfold CM.look
  split
  · rename_i e
    try rw [e]
    rfl
  · rename_i i e
    try rw [e]
    unfold CM.offed
    have h1 : (m.looked.seen i).isStop i = m.isStop i := rfl
    have h2 : (m.looked.seen i).overOff i = m.overOff i := rfl
    rw [h1, h2]
    by_cases c : (m.isStop i && m.overOff i) = true
    · rw [if_pos c]
      show _ = if _ then _ else _
      rw [if_pos c]
    · rw [if_neg c]
      show _ = if _ then _ else _
      rw [if_neg c]
      rfl
/-- an event, by parts -/
def after (x : CM × Option Nat × Option Nat) : CM := (((x.1).ruled x.2.1).look).judge x.2.2
theorem goOn_iff : m.goOn z = some m2 ↔ ∃ x, m.act z = some x ∧ m2 = after x := by
  unfold CM.goOn
  constructor
  · intro h
    obtain ⟨x, h1, h2⟩ := Option.map_eq_some_iff.mp h
    exact ⟨x, h1, h2.symm⟩
  · rintro ⟨x, h1, rfl⟩
    rw [h1]
    rfl
theorem after_same (x : CM × Option Nat × Option Nat) : SameC x.1 (after x) ∧ (after x).shows = x.1.shows ++ [x.1.showing] ∧ (after x).rules = x.1.rules ++ [x.2.1] ∧ (after x).shown = (x.1.look).shown ∧ (after x).off = x.1.look.off ∧ (after x).view = (after x).showing := by
  have r : SameC x.1 (x.1.ruled x.2.1) := ⟨rfl, rfl, rfl, rfl, rfl, rfl, rfl, rfl, rfl⟩
  have a := looked_same (m := x.1.ruled x.2.1)
  have b := judge_same (m := (x.1.ruled x.2.1).look) x.2.2
  have s := (r.trans a.1).trans b.toSameC
  refine ⟨s, ?_, ?_, ?_, ?_, ?_⟩
  · show ((x.1.ruled x.2.1).look.judge x.2.2).shows = _
    rw [b.sh, a.2.1]
    rfl
  · show ((x.1.ruled x.2.1).look.judge x.2.2).rules = _
    rw [b.ru, a.2.2.1]
    rfl
  · show ((x.1.ruled x.2.1).look.judge x.2.2).shown = _
    rw [b.sn, look_shown, look_shown]
    rfl
  · show ((x.1.ruled x.2.1).look.judge x.2.2).off = _
    rw [b.off, look_off, look_off]
    rfl
  · unfold CM.view
    show ((x.1.ruled x.2.1).look.judge x.2.2).shows.getLastD none = _
    rw [b.sh, a.2.1, List.getLastD_eq_getLast?, List.getLast?_concat]
    exact s.showing.symm
theorem act_rows (h : m.act z = some x) : x.1.shows = m.shows ∧ x.1.rules = m.rules ∧ x.1.shown = m.shown ∧ x.1.off = m.off ∧ x.1.goals = m.goals ∧ x.1.ks = m.ks ∧ x.1.rs = m.rs := by
  unfold CM.act at h
  split at h
  · cases h
    unfold CM.send
    split <;> exact ⟨rfl, rfl, rfl, rfl, rfl, rfl, rfl⟩
  · split at h
    · cases h
      unfold CM.come CM.taken CM.wiped
      simp only
      split <;> (try split) <;> (try split) <;> exact ⟨rfl, rfl, rfl, rfl, rfl, rfl, rfl⟩
    · split at h
      · cases h
        unfold CM.hear
        split <;> exact ⟨rfl, rfl, rfl, rfl, rfl, rfl, rfl⟩
      · split at h
        · cases h
          exact ⟨rfl, rfl, rfl, rfl, rfl, rfl, rfl⟩
        · cases h
/-- which event it was -/
inductive ActR (m : CM) : Str → CM × Option Nat × Option Nat → Prop
  | send {z : Str} : z ∈ deedsAll → ActR m z (m.send z, none, none)
  | come {i : Nat} : i < m.letters.length → m.kindAt i ≠ ("other" : Str) → ActR m (evCome i) (m.come i, m.ruleFor i, none)
  | hear {a : Nat} : a < m.answers.length → ActR m (evHeard a) (m.hear a, m.ruleHear a, some (m.ansAt a))
  | answer : m.canAnswer = true → ActR m "answer" ({ m with answers := m.answers ++ [m.showing.getD 0] }, none, none)
theorem act_of {x : CM × Option Nat × Option Nat} (h : ActR m z x) (hl : m.letters.length < 48) (ha : m.answers.length < 48) : m.act z = some x := by
  cases h with
  | send h =>
    unfold CM.act
    rw [if_pos h]
  | @come i h1 h2 =>
    unfold CM.act CM.toCome
    rw [if_neg (evCome_facts i (by omega)).2.1, evCome_read _ hl _ h1]
    simp only
    rw [if_neg h2]
  | @hear i h1 =>
    have f := evHeard_facts i (by omega)
    unfold CM.act CM.toCome CM.toHear
    rw [if_neg f.2.1, read_none f.2.2.2.2]
    simp only
    rw [evHeard_read _ ha _ h1]
  | answer h =>
    unfold CM.act CM.toCome CM.toHear
    rw [if_neg answer_facts.2.1, read_none answer_starts.1]
    simp only
    rw [read_none answer_starts.2]
    simp only
    rw [if_pos (by rw [h]; rfl)]
theorem read_lt {i n : Nat} {w : Str} (hi : i < 48) (o : WordOk (w ++ strI i) w) (hw : w = "come " ∨ w = "heard ") : True := trivial
theorem of_act {x : CM × Option Nat × Option Nat} (f : Form z) (h : m.act z = some x) (hl : m.letters.length < 48) (ha : m.answers.length < 48) : ActR m z x := by
  cases f with
  | deed hz =>
    unfold CM.act at h
    rw [if_pos hz] at h
    cases h
    exact .send hz
  | ans =>
    unfold CM.act CM.toCome CM.toHear at h
    rw [if_neg answer_facts.2.1, read_none answer_starts.1] at h
    simp only at h
    rw [read_none answer_starts.2] at h
    simp only at h
    split at h
    · rename_i c
      cases h
      exact .answer (Bool.and_eq_true_iff.mp c).2
    · cases h
  | @come i hi =>
    have f := evCome_facts i (by omega)
    unfold CM.act at h
    rw [if_neg f.2.1] at h
    cases e : m.toCome (evCome i) with
    | none =>
      rw [e] at h
      unfold CM.toHear at h
      rw [read_none f.2.2.2.2] at h
      simp only at h
      rw [if_neg (by
        rw [decide_eq_false f.2.2.1]
        exact Bool.false_ne_true)] at h
      cases h
    | some j =>
      rw [e] at h
      cases h
      have b := toCome_lt e (evB_ok f.1)
      have ej : j = i := by
        unfold CM.toCome at e
        by_cases c : i < m.letters.length
        · rw [evCome_read _ hl _ c] at e
          simp only at e
          split at e
          · cases e
          · exact (Option.some.inj e).symm
        · -- a number that is read is the one that is written
          split at e
          · cases e
          · rename_i k q
            split at e
            · cases e
            · cases e
              have q2 := q
              have kb := b.1
              have r1 := evCome_read _ hl _ kb
              -- the texts of k and of i are alike
              have hk : evCome j = evCome i := by
                unfold readPlaceM at q
                split at q
                · split at q
                  · cases q
                  · split at q
                    · rename_i nn hn
                      split at q
                      · rename_i hc
                        obtain ⟨h1, h2⟩ := Bool.and_eq_true_iff.mp hc
                        have := Option.some.inj q
                        have h3 := of_decide_eq_true h2
                        have pre : Txt.removeprefix (evCome i) "come " = strI i := (by decide +kernel : ∀ i < 48, Txt.removeprefix (evCome i) "come " = strI i) i hi
                        obtain ⟨n2, hn2, _⟩ := (evB_ok f.1).c (by
                          rw [pre]
                          exact (by decide +kernel : ∀ i < 48, Txt.isdecimal (strI i) = true) i hi)
                        rw [hn2] at hn
                        cases Option.some.inj hn
                        have e4 : j = n2 := by omega
                        subst e4
                        unfold evCome
                        rw [pre] at h3
                        show ("come " : Str) ++ strI j = ("come " : Str) ++ strI i
                        rw [← h3]
                        rfl
                      · cases q
                    · cases q
                · cases q
              exact (by decide +kernel : ∀ i < 48, ∀ j < 48, evCome j = evCome i → j = i) i hi j (by omega) hk
      subst ej
      exact .come b.1 b.2
  | @heard i hi =>
    have f := evHeard_facts i (by omega)
    unfold CM.act CM.toCome at h
    rw [if_neg f.2.1, read_none f.2.2.2.2] at h
    simp only at h
    cases e : m.toHear (evHeard i) with
    | none =>
      rw [e] at h
      simp only at h
      rw [if_neg (by
        rw [decide_eq_false f.2.2.1]
        exact Bool.false_ne_true)] at h
      cases h
    | some j =>
      rw [e] at h
      cases h
      have b := readPlace_lt e (evB_ok f.1).h
      have ej : j = i := by
        have q := e
        unfold CM.toHear readPlaceM at q
        split at q
        · split at q
          · cases q
          · split at q
            · rename_i nn hn
              split at q
              · rename_i hc
                obtain ⟨h1, h2⟩ := Bool.and_eq_true_iff.mp hc
                have := Option.some.inj q
                have h3 := of_decide_eq_true h2
                have pre : Txt.removeprefix (evHeard i) "heard " = strI i := (by decide +kernel : ∀ i < 48, Txt.removeprefix (evHeard i) "heard " = strI i) i hi
                obtain ⟨n2, hn2, _⟩ := (evB_ok f.1).h (by
                  rw [pre]
                  exact (by decide +kernel : ∀ i < 48, Txt.isdecimal (strI i) = true) i hi)
                rw [hn2] at hn
                cases Option.some.inj hn
                have e4 : j = n2 := by omega
                subst e4
                have hk : evHeard j = evHeard i := by
                  unfold evHeard
                  rw [pre] at h3
                  show ("heard " : Str) ++ strI j = ("heard " : Str) ++ strI i
                  rw [← h3]
                  rfl
                exact (by decide +kernel : ∀ i < 48, ∀ j < 48, evHeard j = evHeard i → j = i) i hi j (by omega) hk
              · cases q
            · cases q
        · cases q
      subst ej
      exact .hear b
end CM
end Ov


namespace Ov
open PySem PySem.Spec PyProof.Rows L2
open Evl (pss_cut tCut Ex Ev EvT EvL EvA EvU)
namespace CM
variable {m n m2 : CM} {z : Str} {x : CM × Option Nat × Option Nat}
/-! ### what holds behind each event -/
structure Stab (m : CM) : Prop where
  shn : ∀ i, m.showing = some i → i ∈ m.shown
  offs : ∀ i, m.showing = some i → m.isStop i = true → ∃ o, m.off = some o ∧ i ≤ o
  g1 : m.newest ∈ m.came → m.showing ≠ some m.newest → ("elder" : Str) ∈ m.goals
  g2 : m.kindAt m.newest = ("day" : Str) → m.newest ∈ m.shown → m.showing ≠ some m.newest → ("lost" : Str) ∈ m.goals
  g3 : ∀ i o, m.showing = some i → m.off = some o → m.isAsk i = true → i < o → ("back" : Str) ∈ m.goals
  g4 : ∀ a, m.counted = some a → m.ansAt a ≠ m.newest → ("wrong" : Str) ∈ m.goals
  vw : m.view = m.showing
  cb : ∀ i ∈ m.came, i < m.letters.length
  sb : ∀ i ∈ m.shown, i < m.letters.length
structure Inv3 (m : CM) : Prop extends Stab m where
  wf : m.WF
  nu : ∀ (i : Nat) (a b : Str × Int), m.letters[i]? = some a → m.letters[i + 1]? = some b → 0 ≤ b.2 - a.2 ∧ b.2 - a.2 ≤ 1
  kw : ∀ i, m.whole = some i → m.kindAt i ≠ ("other" : Str)
  ko : ∀ i, m.own = some i → m.kindAt i ≠ ("other" : Str)
  kh : ∀ i, some i ∈ m.shows → m.kindAt i ≠ ("other" : Str)
theorem getLastD_shows (m : CM) : (m.shows ++ [m.showing]).getLastD none = m.showing := by
  rw [List.getLastD_eq_getLast?, List.getLast?_concat]
  rfl
theorem judge_goals {h : Option Nat} : (m.gElder = true → ("elder" : Str) ∈ (m.judge h).goals) ∧ (m.gLost = true → ("lost" : Str) ∈ (m.judge h).goals) ∧ (m.isBack m.view = true → ("back" : Str) ∈ (m.judge h).goals) ∧ (m.gWrong = true → ("wrong" : Str) ∈ (m.judge h).goals) := by
  unfold CM.judge
  refine ⟨fun c => addG_in (addG_in (addG_in (addG_in (addG_new c)))), fun c => addG_in (addG_in (addG_in (addG_new c))), fun c => addG_in (addG_in (addG_new c)), fun c => addG_in (addG_new c)⟩
/-- judging again adds nothing -/
theorem judge_none (h1 : m.gElder = true → ("elder" : Str) ∈ m.goals) (h2 : m.gLost = true → ("lost" : Str) ∈ m.goals) (h3 : m.isBack m.view = true → ("back" : Str) ∈ m.goals) (h4 : m.gWrong = true → ("wrong" : Str) ∈ m.goals) : m.judge none = m := by
  have a : ∀ {m : CM} {b : Bool} {g : Str}, (b = true → g ∈ m.goals) → m.addG b g = m := by
    intro m b g h
    unfold CM.addG
    split
    · rename_i c
      rw [if_pos (h c)]
    · rfl
  unfold CM.judge
  rw [a h1, a h2, a h3, a h4]
  refine a (g := "deaf") fun c => ?_
  unfold CM.gDeaf at c
  rw [decide_eq_false (fun z => nomatch z)] at c
  cases c
theorem start_inv {ks : List Str} {rs : List RuleD} (g : ∀ r ∈ rs, r.Good) (hz : rs.length ≤ 1000) : (CM.start ks rs).Inv3 where
  shn := fun i e => nomatch e
  offs := fun i e => nomatch e
  g1 := fun h => nomatch h
  g2 := fun h => absurd (show ("ask" : Str) = "day" from h) (by decide +kernel)
  g3 := fun i o e => nomatch e
  g4 := fun a e => nomatch e
  vw := rfl
  cb := fun i h => nomatch h
  sb := fun i h => nomatch h
  wf := WF.start g hz
  nu := fun i a b h1 h2 => by
    cases i with
    | zero => cases h2
    | succ i => cases h2
  kw := fun i e => nomatch e
  ko := fun i e => nomatch e
  kh := fun i h => by
    have := List.mem_singleton.mp h
    cases this
/-- what an event leaves of letters, places -/
structure Kept (m : CM) (y : CM) : Prop where
  wf : y.WF
  kd : ∀ i, i < m.letters.length → y.kindAt i = m.kindAt i
  ll : m.letters.length ≤ y.letters.length
  nu : ∀ (i : Nat) (a b : Str × Int), y.letters[i]? = some a → y.letters[i + 1]? = some b → 0 ≤ b.2 - a.2 ∧ b.2 - a.2 ≤ 1
  kw : ∀ i, y.whole = some i → y.kindAt i ≠ ("other" : Str)
  ko : ∀ i, y.own = some i → y.kindAt i ≠ ("other" : Str)
  cb : ∀ i ∈ y.came, i < y.letters.length
theorem send_letters (z : Str) : (m.send z).letters = m.letters ++ [(if z = sentKind z then sentKind z else "other", m.sentNum z)] := by
  unfold CM.send
  split <;> rfl
theorem send_rest (z : Str) : (m.send z).whole = m.whole ∧ (m.send z).own = m.own ∧ (m.send z).answers = m.answers ∧ (m.send z).came = m.came ∧ (m.send z).shown = m.shown ∧ (m.send z).off = m.off ∧ (m.send z).goals = m.goals := by
  unfold CM.send
  split <;> exact ⟨rfl, rfl, rfl, rfl, rfl, rfl, rfl⟩
theorem come_rest (i : Nat) : (m.come i).letters = m.letters ∧ (m.come i).answers = m.answers ∧ (∀ j, (m.come i).whole = some j → m.whole = some j ∨ j = i) ∧ (∀ j, (m.come i).own = some j → m.own = some j ∨ j = i) ∧ (m.come i).came = m.came ++ [i] := by
  unfold CM.come CM.taken CM.wiped
  simp only
  split <;> (try split) <;> (try split) <;> refine ⟨rfl, rfl, fun j e => ?_, fun j e => ?_, rfl⟩ <;> first
    | exact .inl e
    | (cases e; exact .inr rfl)
    | cases e
theorem hear_rest (a : Nat) : (m.hear a).letters = m.letters ∧ (m.hear a).answers = m.answers ∧ (m.hear a).whole = m.whole ∧ (m.hear a).own = m.own ∧ (m.hear a).came = m.came ∧ (m.hear a).newest = m.newest := by
  unfold CM.hear
  split <;> exact ⟨rfl, rfl, rfl, rfl, rfl, rfl⟩
theorem kept_act (I : m.Inv3) (h : ActR m z x) : Kept m x.1 := by
  have same : ∀ {y : CM}, y.WF → y.letters = m.letters → (∀ j, y.whole = some j → y.kindAt j ≠ ("other" : Str)) → (∀ j, y.own = some j → y.kindAt j ≠ ("other" : Str)) → (∀ i ∈ y.came, i < y.letters.length) → Kept m y := by
    intro y w e h1 h2 h3
    refine ⟨w, fun i _ => ?_, by rw [e]; exact Nat.le_refl _, by rw [e]; exact I.nu, h1, h2, h3⟩
    unfold CM.kindAt
    rw [e]
  cases h with
  | send hz =>
    have el := send_letters (m := m) z
    have er := send_rest (m := m) z
    have kd : ∀ i, i < m.letters.length → (m.send z).kindAt i = m.kindAt i := fun i hi => by
      unfold CM.kindAt
      rw [el, List.getElem?_append_left hi]
    refine ⟨I.wf.send hz, kd, by rw [el, List.length_append]; exact Nat.le_add_right _ _, fun i a b h1 h2 => ?_, fun i e => ?_, fun i e => ?_, fun i hi => ?_⟩
    · rw [el] at h1 h2
      by_cases c : i + 1 < m.letters.length
      · rw [List.getElem?_append_left c] at h2
        rw [List.getElem?_append_left (by omega)] at h1
        exact I.nu i a b h1 h2
      · have c2 : i + 1 = m.letters.length := by
          have := (List.getElem?_eq_some_iff.mp h2).1
          rw [List.length_append] at this
          show i + 1 = _
          have e1 : ([(if z = sentKind z then sentKind z else ("other" : Str), m.sentNum z)] : List (Str × Int)).length = 1 := rfl
          omega
        rw [List.getElem?_append_right (by omega), c2, Nat.sub_self] at h2
        rw [List.getElem?_append_left (by omega)] at h1
        cases Option.some.inj h2
        have e1 : m.lastNum = a.2 := by
          unfold CM.lastNum CM.numAt
          rw [show m.letters.length - 1 = i by omega, h1]
          rfl
        show 0 ≤ m.sentNum z - a.2 ∧ m.sentNum z - a.2 ≤ 1
        unfold CM.sentNum
        rw [e1]
        split <;> omega
    · rw [er.1] at e
      rw [kd i (I.wf.whole i e)]
      exact I.kw i e
    · rw [er.2.1] at e
      rw [kd i (I.wf.own i e)]
      exact I.ko i e
    · rw [er.2.2.2.1] at hi
      have := I.cb i hi
      rw [el, List.length_append]
      exact Nat.lt_of_lt_of_le this (Nat.le_add_right _ _)
  | @come i hi hk =>
    have er := come_rest (m := m) i
    have kk : ∀ j, (m.come i).kindAt j = m.kindAt j := fun j => by
      unfold CM.kindAt
      rw [er.1]
    refine same (I.wf.come hi) er.1 (fun j e => ?_) (fun j e => ?_) (fun j hj => ?_)
    · rw [kk]
      rcases er.2.2.1 j e with h | rfl
      · exact I.kw j h
      · exact hk
    · rw [kk]
      rcases er.2.2.2.1 j e with h | rfl
      · exact I.ko j h
      · exact hk
    · rw [er.2.2.2.2] at hj
      rw [er.1]
      rcases List.mem_append.mp hj with hj | hj
      · exact I.cb j hj
      · rw [List.mem_singleton.mp hj]
        exact hi
  | @hear a ha =>
    have er := hear_rest (m := m) a
    have kk : ∀ j, (m.hear a).kindAt j = m.kindAt j := fun j => by
      unfold CM.kindAt
      rw [er.1]
    refine same (I.wf.hear ha) er.1 (fun j e => ?_) (fun j e => ?_) (fun j hj => ?_)
    · rw [kk]
      exact I.kw j (er.2.2.1.symm.trans e)
    · rw [kk]
      exact I.ko j (er.2.2.2.1.symm.trans e)
    · rw [er.2.2.2.2.1] at hj
      rw [er.1]
      exact I.cb j hj
  | answer hc => exact same (I.wf.answer hc) rfl I.kw I.ko I.cb
theorem Inv3.goOn (I : m.Inv3) (h : ActR m z x) (hx : m.act z = some x) : (after x).Inv3 := by
  have k := kept_act I h
  obtain ⟨s, r1, r2, r3, r4, r5⟩ := after_same x
  obtain ⟨a1, a2, a3, a4, a5, _⟩ := act_rows hx
  let y := (x.1.ruled x.2.1).look
  have sy : SameC x.1 y := SameC.trans (⟨rfl, rfl, rfl, rfl, rfl, rfl, rfl, rfl, rfl⟩ : SameC x.1 (x.1.ruled x.2.1)) looked_same.1
  have vy : y.view = x.1.showing := by
    unfold CM.view
    rw [show y.shows = x.1.shows ++ [x.1.showing] from looked_same.2.1]
    exact getLastD_shows x.1
  have jy := judge_same (m := y) x.2.2
  have g := judge_goals (m := y) (h := x.2.2)
  have ea : after x = y.judge x.2.2 := rfl
  have sh : (after x).showing = x.1.showing := s.showing
  have shown : (after x).shown = match x.1.showing with
    | none => x.1.shown
    | some i => x.1.shown ++ [i] := r3.trans look_shown
  have offe : (after x).off = match x.1.showing with
    | none => x.1.off
    | some i => if (x.1.isStop i && x.1.overOff i) = true then some i else x.1.off := r4.trans look_off
  have wf : (after x).WF := (k.wf.ruled _).look.judge _
  refine { shn := fun i e => ?_, offs := fun i e hs => ?_, g1 := fun h1 h2 => ?_, g2 := fun h0 h1 h2 => ?_, g3 := fun i o h1 h2 h3 h4 => ?_, g4 := fun a h1 h2 => ?_, vw := r5, cb := fun i hi => ?_, sb := fun i hi => ?_, wf := wf, nu := by rw [s.lt]; exact k.nu, kw := fun i e => ?_, ko := fun i e => ?_, kh := fun i hi => ?_ }
  · rw [sh] at e
    rw [shown, e]
    exact List.mem_append_right _ (List.mem_singleton.mpr rfl)
  · rw [sh] at e
    rw [s.isStop] at hs
    rw [offe, e]
    simp only
    by_cases c : x.1.overOff i = true
    · rw [if_pos (by rw [hs, c]; rfl)]
      exact ⟨i, rfl, Nat.le_refl _⟩
    · rw [if_neg (by rw [hs]; simpa using c)]
      unfold CM.overOff at c
      cases eo : x.1.off with
      | none =>
        rw [eo] at c
        exact absurd rfl c
      | some o =>
        rw [eo] at c
        refine ⟨o, rfl, ?_⟩
        have : ¬ i > o := fun h => c (decide_eq_true h)
        omega
  · rw [ea]
    refine g.1 ?_
    unfold CM.gElder
    rw [vy, sy.nw, sy.cm]
    rw [s.nw, s.cm] at h1
    rw [sh, s.nw] at h2
    rw [decide_eq_true h1, decide_eq_false h2]
    rfl
  · rw [ea]
    refine g.2.1 ?_
    unfold CM.gLost
    rw [vy, sy.nw, sy.kindAt]
    have es : y.shown = (after x).shown := by
      rw [ea, jy.sn]
    rw [s.kindAt, s.nw] at h0
    rw [s.nw] at h1
    rw [sh, s.nw] at h2
    rw [es, decide_eq_true h0, decide_eq_true h1, decide_eq_false h2]
    rfl
  · rw [ea]
    refine g.2.2.1 ?_
    rw [vy]
    rw [sh] at h1
    have eo : y.off = (after x).off := by
      rw [ea, jy.off]
    rw [s.isAsk] at h3
    unfold CM.isBack
    rw [h1, eo, h2]
    show (y.isAsk i && decide (i < o)) = true
    rw [sy.isAsk, h3, decide_eq_true h4]
    rfl
  · rw [ea]
    refine g.2.2.2 ?_
    unfold CM.gWrong
    rw [s.ct] at h1
    rw [s.ansAt, s.nw] at h2
    rw [sy.ct, h1]
    show (!decide (y.ansAt a = y.newest)) = true
    rw [sy.ansAt, sy.nw, decide_eq_false h2]
    rfl
  · rw [s.cm] at hi
    rw [s.lt]
    exact k.cb i hi
  · rw [s.lt]
    rw [shown] at hi
    cases e : x.1.showing with
    | none =>
      rw [e] at hi
      simp only at hi
      rw [a3] at hi
      exact Nat.lt_of_lt_of_le (I.sb i hi) k.ll
    | some j =>
      rw [e] at hi
      simp only at hi
      rcases List.mem_append.mp hi with hi | hi
      · rw [a3] at hi
        exact Nat.lt_of_lt_of_le (I.sb i hi) k.ll
      · rw [List.mem_singleton.mp hi]
        exact showing_lt k.wf e
  · rw [s.kindAt]
    exact k.kw i (s.w.symm.trans e)
  · rw [s.kindAt]
    exact k.ko i (s.o.symm.trans e)
  · rw [s.kindAt]
    rw [r1] at hi
    rcases List.mem_append.mp hi with hi | hi
    · rw [a1] at hi
      rw [k.kd i (I.wf.shows i hi)]
      exact I.kh i hi
    · have e := (List.mem_singleton.mp hi).symm
      unfold CM.showing at e
      split at e
      · exact k.kw i e
      · rename_i j q
        cases e
        exact k.ko _ q
end CM
end Ov


namespace Ov
open PySem PySem.Spec PyProof.Rows L2
open Evl (pss_cut tCut Ex Ev EvT EvL EvA EvU)
/-! ### stage 2's draws: a test, a rule, the kinds that raise -/
/-- a rule as it is drawn: a tuple of its kind and two lists, of which S holds -/
def Dr (S : Addr → Prop) (H : Hp) (x : V) (r : RuleD) : Prop := ∃ t l1 l2, x = V.ref t ∧ H t = some (.tup [.str r.k, .ref l1, .ref l2]) ∧ H l1 = some (.lst (r.ts.map V.str)) ∧ H l2 = some (.lst (r.ds.map V.str)) ∧ S l1 ∧ S l2
section
variable {S S2 : Addr → Prop} {a b F : Addr} {H H' : Hp} {x : V} {r : RuleD}
theorem Dr.kp (hS : ∀ L, S L → L ≠ a ∧ L ≠ b) (k : Kp a b H H') (D : Deal H a b) (h : Dr S H x r) : Dr S H' x r := by
  obtain ⟨t, l1, l2, h1, h2, h3, h4, h5, h6⟩ := h
  have n := D.netup h2
  exact ⟨t, l1, l2, h1, k _ _ n.1 n.2 h2, k _ _ (hS _ h5).1 (hS _ h5).2 h3, k _ _ (hS _ h6).1 (hS _ h6).2 h4, h5, h6⟩
theorem Dr.ex (e : Ex H H') (h : Dr S H x r) : Dr S H' x r := by
  obtain ⟨t, l1, l2, h1, h2, h3, h4, h5, h6⟩ := h
  exact ⟨t, l1, l2, h1, e _ _ h2, e _ _ h3, e _ _ h4, h5, h6⟩
theorem Dr.imp (h : Dr S H x r) (i : ∀ L, S L → S2 L) : Dr S2 H x r := by
  obtain ⟨t, l1, l2, h1, h2, h3, h4, h5, h6⟩ := h
  exact ⟨t, l1, l2, h1, h2, h3, h4, i _ h5, i _ h6⟩
theorem Dr.updL {zs : List V} {o : HO} (hF : H F = some (.lst zs)) (hS : ∀ L, S L → L ≠ F) (h : Dr S H x r) : Dr S (upd H F o) x r := by
  obtain ⟨t, l1, l2, h1, h2, h3, h4, h5, h6⟩ := h
  exact ⟨t, l1, l2, h1, by rw [upd_ne (ne_of h2 hF fun z => nomatch z)]; exact h2, by rw [upd_ne (hS _ h5)]; exact h3, by rw [upd_ne (hS _ h6)]; exact h4, h5, h6⟩
end
def spTestD : Sp := fun vs H Q _ => ∃ (a b : Addr) (k : Str), vs = [.ref a, .str k] ∧ Deal H a b ∧ k ∈ kindsAll ∧ ∀ z H', z ∈ testsNot k → Kp a b H H' → Deal H' a b → Q (.str z) H'
def spRuleD : Sp := fun vs H Q _ => ∃ (a b : Addr), vs = [.ref a] ∧ Deal H a b ∧ ∀ x r H', r.Good → r.ts.length ≤ 2 → r.ds.length ≤ 2 → Kp a b H H' → Deal H' a b → Dr (fun L => H L = none) H' x r → Q x H'
section
variable {P : Program} {w : World} {K : PySem.W.Frag} {mg : Str → Option Value} {base : Heap}
abbrev sTest : Stmt := topS 56
theorem scTest : FnScope ["_law_deal_here", "_law_sort", "_law_some"] ["_law_deal_here", "_law_sort"] (defScope sTest) := ⟨rfl, rfl, rfl, by decide +kernel, rfl, by decide +kernel, by decide +kernel⟩
abbrev sRule : Stmt := topS 57
theorem scRule : FnScope ["_law_deal_here", "_law_sort", "_law_asked", "_law_some", "_law_turn"] ["_law_deal_here"] (defScope sRule) := ⟨rfl, rfl, rfl, by decide +kernel, rfl, by decide +kernel, by decide +kernel⟩
theorem mem_pre {u z : Str} {k : Str} (hu : u ∈ (["", "", "not "] : List Str)) (hz : z ∈ testsOf k) : u ++ z ∈ testsNot k := by
  unfold testsNot
  have e : ("" : Str) = Str.empty := by decide +kernel
  rcases (show u = "" ∨ u = "not " by simpa using hu) with rfl | rfl
  · rw [e, Str.empty_append]
    exact List.mem_append_left _ hz
  · exact List.mem_append_right _ (List.mem_map.mpr ⟨z, hz, rfl⟩)
theorem short_test {k z : Str} (h : z ∈ testsOf k) : z.length ≤ 20 := by
  have a : ∀ z ∈ testsL, z.length ≤ 20 := by decide +kernel
  have b : ("level" : Str).length ≤ 20 := by decide +kernel
  unfold testsOf at h
  split at h
  · rcases List.mem_singleton.mp h with rfl
    exact b
  · exact a z h
theorem ok_test {f fPi fDraw : Addr} {fd fdPi fdDraw : FuncData} (F : Fun K "_law_test" "_law_test" sTest f fd) (T : TxB mg) (D_draw : Df K mg "_law_draw" sDraw ["_law_deal_here", "_law_many"] fDraw fdDraw) (D_pick : Df K mg "_law_pick" sPick ["_law_deal_here", "_law_some"] fPi fdPi) : FnOk P w K mg base CX0 3 f fd ["_law_deal_here", "_law_sort"] spTestD := by
  have G_pick : FnOk P w K mg base CX0 2 fPi fdPi ["_law_deal_here", "_law_some"] (spPick K) := ok_pick D_pick.F T D_draw
  refine F.ok scTest (fun vs H Q E h => ?_) (fun cdv A outer s H vs Q E hr h => ?_)
  · obtain ⟨a, b, k, rfl, _⟩ := h
    rfl
  · obtain ⟨a, b, k, rfl, D, hk, q⟩ := h
    refine ⟨_, pss_cons (ps_set (i := 2) scTest.nd rfl (.inl rfl) (pe_lst (pa_cons pe_str (pa_cons pe_str (pa_cons pe_str (pa_cons pe_str (pa_cons pe_str (pa_cons pe_str (pa_cons pe_str (pa_cons pe_str pa_nil))))))))))
      (pss_cut (ps_if (pt_cmpR op_eq (pv 1) pe_str (nomark _)) (pss_one (ps_set (i := 2) scTest.nd rfl (.inl rfl) (pe_lst (pa_cons pe_str pa_nil)))) pss_nil)
      (pss_one (ps_ret (pe_op op_add_str (pe_call (E := E0) G_pick (hr.mono (by decide)) rfl D_pick.g D_pick.F.kp D_pick.b .nil pass0 (pa_cons (pv 0) (pa_cons (pe_lst (pa_cons pe_str (pa_cons pe_str (pa_cons pe_str pa_nil)))) pa_nil))) (pe_call (E := E0) G_pick (hr.mono (by decide)) rfl D_pick.g D_pick.F.kp D_pick.b .nil pass0 (pa_cons (pv 0) (pa_cons (pv 2) pa_nil))))))), ?_⟩
    refine Evl.q_asgL (xs := testsL.map V.str) (Evl.el_lst (Evl.ea_cons Evl.ev_c (Evl.ea_cons Evl.ev_c (Evl.ea_cons Evl.ev_c (Evl.ea_cons Evl.ev_c (Evl.ea_cons Evl.ev_c (Evl.ea_cons Evl.ev_c (Evl.ea_cons Evl.ev_c (Evl.ea_cons Evl.ev_c Evl.ea_nil)))))))) (by show 8 ≤ 100000; decide)) fun L H1 n1 e1 h1 => ?_
    refine Evl.q_cut (M := fun σ' H' => ∃ L', σ' = [some (.ref a), some (.str k), some (.ref L')] ∧ Ex H H' ∧ H L' = none ∧ H' L' = some (.lst ((testsOf k).map V.str))) ?_ (fun σ' H' hh => ?_)
    · refine Evl.s_when (b := decide (k = "answer")) (Evl.et_is (Evl.et_test (Evl.ev_op (Evl.ev_var rfl) Evl.ev_c (Evl.rv_eq rfl))) (eq_str _ _)) (fun hb H2 e2 => ?_) (fun hb H2 e2 => ?_)
      · refine Evl.s_asgL (xs := [.str "level"]) (Evl.el_lst (Evl.ea_cons Evl.ev_c Evl.ea_nil) (by show 1 ≤ 100000; decide)) fun L2 H3 n3 e3 h3 => ⟨L2, rfl, (e1.trans e2).trans e3, Evl.fresh_back (e1.trans e2) n3, ?_⟩
        unfold testsOf
        rw [if_pos (of_decide_eq_true hb)]
        exact h3
      · refine ⟨L, rfl, e1.trans e2, n1, ?_⟩
        unfold testsOf
        rw [if_neg (of_decide_eq_false hb)]
        exact e2 _ _ h1
    · obtain ⟨L', rfl, e2, nL, hL⟩ := hh
      have D2 := D.keep (ex_same e2)
      have la := D.nea nL
      have lb := D.neb nL
      refine ⟨_, rfl, size_of (by show 3 ≤ 100000; decide), fun L2 n2 => ⟨a, b, L2, [.str "", .str "", .str "not "], rfl, D2.new n2, D2.nea n2, D2.neb n2, .inl (Evl.sq_of upd_same), by decide, by decide, fun x H3 hx k3 D3 => ?_⟩⟩
      have h3 := k3 _ _ la lb ((Ex.new n2) _ _ hL)
      refine ⟨_, rfl, _, rfl, a, b, L', _, rfl, D3, la, lb, .inl (Evl.sq_of h3), ?_, ?_, fun y H4 hy k4 D4 => ?_⟩
      · rw [List.length_map]
        unfold testsOf
        split <;> decide
      · rw [List.length_map]
        unfold testsOf
        split <;> decide
      obtain ⟨u, hu, rfl⟩ : ∃ u, u ∈ (["", "", "not "] : List Str) ∧ x = .str u := by
        simp only [List.mem_cons, List.not_mem_nil, or_false] at hx
        rcases hx with rfl | rfl | rfl
        · exact ⟨_, by decide, rfl⟩
        · exact ⟨_, by decide, rfl⟩
        · exact ⟨_, by decide, rfl⟩
      obtain ⟨z, hz, rfl⟩ := List.mem_map.mp hy
      have lu : u.length ≤ 20 := (by decide +kernel : ∀ u ∈ (["", "", "not "] : List Str), u.length ≤ 20) u hu
      exact ⟨_, _, rfl, rfl, size_of (by have := short_test hz; omega), q _ H4 (mem_pre hu hz) (((Kp.same (ex_same e2)).trans (Kp.new n2)).trans (k3.trans k4)) D4⟩
theorem el_if {t : TT} {ta tb : TE} {σ : L2.St} {H : Hp} {xs : List V} {b : Bool} (h : EvT t σ H b) (h1 : b = true → EvL ta σ H xs) (h2 : b = false → EvL tb σ H xs) : EvL (tIf t ta tb) σ H xs := fun H1 e Q q => h H1 e _ fun H2 e2 => by
  cases b with
  | true => exact iteT (h1 rfl H2 (e.trans e2) Q fun p H3 np e3 hp => q p H3 (Evl.fresh_back e2 np) (e2.trans e3) hp)
  | false => exact iteF (h2 rfl H2 (e.trans e2) Q fun p H3 np e3 hp => q p H3 (Evl.fresh_back e2 np) (e2.trans e3) hp)
/-- a comprehension whose items are drawn -/
theorem lc_drawn {a b : Addr} {σ : L2.St} {H : Hp} {te : TE} {j : Nat} {vs : List Nat} {n : Nat} {S : List Str} {Dl : Addr} {Qd : Hp → Prop} (nD : H Dl = none) (D : Deal H a b) (hn : n ≤ 1000) (hw : ∀ x, wipe ((wipe σ vs).set j (some x)) vs = wipe σ vs)
    (hs : ∀ (i : Nat) H1 (Q : VK), Kp a b H H1 → Deal H1 a b → (∀ z H2, z ∈ S → Kp a b H1 H2 → Deal H2 a b → Q (.str z) H2) → te ((wipe σ vs).set j (some (.int (i : Int)))) H1 Q)
    (hd : ∀ H1 (ts : List Str), Kp a b H H1 → Deal H1 a b → H1 Dl = some (.lst (ts.map V.str)) → ts.length = n → (∀ t ∈ ts, t ∈ S) → Qd H1) :
    ∃ W : Nat → Nat → Hp → Prop, (∃ m, W 0 m (upd H Dl (.lst []))) ∧ ∀ i m H1, W i m H1 → ((Itr 0 n).stop i H1 ∧ Qd H1) ∨ ((Itr 0 n).go i H1 ∧ ∃ Nx : Hp → Prop, (∀ H', Nx H' → ∃ m', m' < m ∧ W (i + 1) m' H') ∧ ∀ x H', (Itr 0 n).yld i H1 x H' → gName j x (wipe σ vs) H' fun σ2 H2 => wipe σ2 vs = wipe σ vs ∧ tYes σ2 H2 fun b H3 =>
      if b = true then te σ2 H3 fun y H4 => ∃ acc, H4 Dl = some (.lst acc) ∧ acc.length < sizeLine ∧ Nx (upd H4 Dl (.lst (acc ++ [y]))) else Nx H3) := by
  have da := D.nea nD
  have db := D.neb nD
  refine lc_range (lo := 0) (n := n) (fun i H' => Kp a b H H' ∧ Deal H' a b ∧ ∃ ts : List Str, H' Dl = some (.lst (ts.map V.str)) ∧ ts.length = i ∧ ∀ t ∈ ts, t ∈ S) ⟨Kp.new nD, D.new nD, [], upd_same, rfl, fun t h => nomatch h⟩ (fun i H' hi ⟨kp, D', ts, hD, hl, ht⟩ => ?_) (fun H' ⟨kp, D', ts, hD, hl, ht⟩ => hd H' ts kp D' hD hl ht)
  have e0 : (0 : Int) + (i : Int) = (i : Int) := Int.zero_add _
  show wipe ((wipe σ vs).set j (some (.int ((0 : Int) + (i : Int))))) vs = wipe σ vs ∧ tYes ((wipe σ vs).set j (some (.int ((0 : Int) + (i : Int))))) H' _
  rw [e0]
  refine ⟨hw _, ?_⟩
  unfold tYes
  dsimp only
  rw [if_pos rfl]
  refine hs i H' _ kp D' fun z H2 hz k2 D2 => ⟨_, k2 _ _ da db hD, Nat.lt_of_lt_of_le (by rw [List.length_map]; omega : _ < 100000) (by decide), (kp.trans k2).put nD, D2.put da db, ts ++ [z], ?_, by rw [List.length_append, hl]; rfl, fun t h => ?_⟩
  · rw [upd_same, List.map_append]
    rfl
  · rcases List.mem_append.mp h with h | h
    · exact ht t h
    · rcases List.mem_singleton.mp h with rfl
      exact hz
theorem ok_rule {f fTe fPi fDraw : Addr} {fd fdTe fdPi fdDraw : FuncData} (F : Fun K "_law_rule" "_law_rule" sRule f fd) (T : TxB mg) (D_draw : Df K mg "_law_draw" sDraw ["_law_deal_here", "_law_many"] fDraw fdDraw) (D_pick : Df K mg "_law_pick" sPick ["_law_deal_here", "_law_some"] fPi fdPi) (D_test : Df K mg "_law_test" sTest ["_law_deal_here", "_law_sort"] fTe fdTe) : FnOk P w K mg base CX0 4 f fd ["_law_deal_here"] spRuleD := by
  have G_draw : FnOk P w K mg base CX0 1 fDraw fdDraw ["_law_deal_here", "_law_many"] spDraw := ok_draw D_draw.F T.n_int
  have G_pick : FnOk P w K mg base CX0 2 fPi fdPi ["_law_deal_here", "_law_some"] (spPick K) := ok_pick D_pick.F T D_draw
  have G_test : FnOk P w K mg base CX0 3 fTe fdTe ["_law_deal_here", "_law_sort"] spTestD := ok_test D_test.F T D_draw D_pick
  refine F.ok scRule (fun vs H Q E h => ?_) (fun cdv A outer s H vs Q E hr h => ?_)
  · obtain ⟨a, b, rfl, _⟩ := h
    rfl
  · obtain ⟨a, b, rfl, D, q⟩ := h
    refine ⟨_, pss_cons (ps_set (i := 1) scRule.nd rfl (.inr rfl) (pe_call (E := E0) G_pick (hr.mono (by decide)) rfl D_pick.g D_pick.F.kp D_pick.b .nil pass0 (pa_cons (pv 0) (pa_cons (pe_lst (pa_cons pe_str (pa_cons pe_str (pa_cons pe_str (pa_cons pe_str (pa_cons pe_str pa_nil)))))) pa_nil))))
      (pss_cons (ps_setLc (i := 2) (own := [("_law_turn", 4)]) (g := gName 4) (tt := tYes) rfl scRule.nd rfl rfl (sw_true rfl rfl rfl (by decide +kernel)) (pi_range1 rfl T.n_range (pa_cons (pe_call (E := E0) G_draw (hr.mono (by decide)) rfl D_draw.g D_draw.F.kp D_draw.b .nil pass0 (pa_cons (pv 0) (pa_cons pe_int pa_nil))) pa_nil)) (blkOk_by (own := [("_law_turn", 4)]) (N := ["_law_deal_here", "_law_sort", "_law_asked", "_law_some", "_law_turn"]) (sc := defScope sRule) (by decide +kernel)) (fun _ _ _ _ _ => (pg_name (i := 4) scRule.nd rfl (Or.inl rfl))) (fun _ _ _ _ _ => pts_nil) (fun _ _ _ _ _ => (pe_call (E := E0) G_test (hr.mono (by decide)) rfl D_test.g D_test.F.kp D_test.b .nil pass0 (pa_cons (pv 0) (pa_cons (pv 1) pa_nil)))))
      (pss_cons (ps_set (i := 3) scRule.nd rfl (.inr rfl) (pe_ifExp (pt_cmpR op_eq (pv 1) pe_str (nomark _)) (pe_lst (pa_cons pe_str (pa_cons pe_str (pa_cons pe_str pa_nil)))) (pe_lst (pa_cons pe_str (pa_cons pe_str (pa_cons pe_str pa_nil))))))
      (pss_one (ps_ret (pe_tup (pa_cons (pv 1) (pa_cons (pv 2) (pa_cons (pe_lc (own := [("_law_turn", 4)]) (g := gName 4) (tt := tYes) rfl scRule.nd (pi_range1 rfl T.n_range (pa_cons (pe_call (E := E0) G_draw (hr.mono (by decide)) rfl D_draw.g D_draw.F.kp D_draw.b .nil pass0 (pa_cons (pv 0) (pa_cons pe_int pa_nil))) pa_nil)) (blkOk_by (own := [("_law_turn", 4)]) (N := ["_law_deal_here", "_law_sort", "_law_asked", "_law_some", "_law_turn"]) (sc := defScope sRule) (by decide +kernel)) (fun _ _ _ _ _ => (pg_name (i := 4) scRule.nd rfl (Or.inl rfl))) (fun _ _ _ _ _ => pts_nil) (fun _ _ _ _ _ => (pe_call (E := E0) G_pick (hr.mono (by decide)) rfl D_pick.g D_pick.F.kp D_pick.b .nil pass0 (pa_cons (pv 0) (pa_cons (pv 3) pa_nil))))) pa_nil)))))))), ?_⟩
    -- its kind
    refine q_put ?_
    refine ⟨_, rfl, size_of (by show 5 ≤ 100000; decide), fun L n1 => ⟨a, b, L, _, rfl, D.new n1, D.nea n1, D.neb n1, .inl (Evl.sq_of upd_same), by decide, by decide, fun x H1 hx k1 D1 => ?_⟩⟩
    obtain ⟨k, hk, rfl⟩ : ∃ k, k ∈ kindsAll ∧ x = .str k := by
      simp only [List.mem_cons, List.not_mem_nil, or_false] at hx
      rcases hx with rfl | rfl | rfl | rfl | rfl
      all_goals exact ⟨_, by decide, rfl⟩
    have k01 : Kp a b H H1 := (Kp.new n1).trans k1
    -- its tests
    refine q_put ?_
    refine ⟨_, rfl, a, b, 3, rfl, D1, by decide, by decide, fun r H2 r0 r1 k2 D2 => ?_⟩
    refine ⟨r, rfl, by omega, by omega, fun Dl nD => ?_⟩
    refine lc_drawn (a := a) (b := b) (n := r.toNat) (S := testsNot k) nD D2 (by omega) (fun _ => rfl) (fun i H3 Q3 k3 D3 q3 => ⟨_, rfl, _, rfl, a, b, k, rfl, D3, hk, fun z H4 hz k4 D4 => q3 z H4 hz k4 D4⟩) fun H3 ts k3 D3 h3 l3 t3 => ?_
    have da := D2.nea nD
    have db := D2.neb nD
    have k03 := (k01.trans k2).trans k3
    -- its deeds
    refine Evl.q_asgL (xs := (deedsOf k).map V.str) (el_if (b := decide (k = "answer")) (Evl.et_is (Evl.et_test (Evl.ev_op (Evl.ev_var rfl) Evl.ev_c (Evl.rv_eq rfl))) (eq_str _ _)) (fun hb => ?_) (fun hb => ?_)) fun L3 H4 n3 e4 h4 => ?_
    · unfold deedsOf
      rw [if_pos (of_decide_eq_true hb)]
      exact Evl.el_lst (Evl.ea_cons Evl.ev_c (Evl.ea_cons Evl.ev_c (Evl.ea_cons Evl.ev_c Evl.ea_nil))) (by show 3 ≤ 100000; decide)
    · unfold deedsOf
      rw [if_neg (of_decide_eq_false hb)]
      exact Evl.el_lst (Evl.ea_cons Evl.ev_c (Evl.ea_cons Evl.ev_c (Evl.ea_cons Evl.ev_c Evl.ea_nil))) (by show 3 ≤ 100000; decide)
    have D4 := D3.keep (ex_same e4)
    have fa := D3.nea n3
    have fb := D3.neb n3
    refine ⟨_, rfl, _, rfl, _, rfl, a, b, 3, rfl, D4, by decide, by decide, fun r' H5 s0 s1 k5 D5 => ?_⟩
    refine ⟨r', rfl, by omega, by omega, fun D6 n6 => ?_⟩
    have h5 := k5 _ _ fa fb h4
    refine lc_drawn (a := a) (b := b) (n := r'.toNat) (S := deedsOf k) n6 D5 (by omega) (fun _ => rfl) (fun i H6 Q6 k6 D6' q6 => ⟨_, rfl, _, rfl, a, b, L3, _, rfl, D6', fa, fb, .inl (Evl.sq_of (k6 _ _ fa fb h5)), ?_, ?_, fun y H7 hy k7 D7 => ?_⟩) fun H6 ds k6 D6' h6 l6 t6 => ?_
    · rw [List.length_map]
      unfold deedsOf
      split <;> decide
    · rw [List.length_map]
      unfold deedsOf
      split <;> decide
    · obtain ⟨z, hz, rfl⟩ := List.mem_map.mp hy
      exact q6 z H7 hz k7 D7
    have ga := D5.nea n6
    have gb := D5.neb n6
    refine ⟨size_of (by show 3 ≤ 100000; decide), fun t nt => q (.ref t) ⟨k, ts, ds⟩ _ ⟨hk, t3, t6, by show ts.length ≤ 1000; omega, by show ds.length ≤ 1000; omega⟩ (by show ts.length ≤ 2; omega) (by show ds.length ≤ 2; omega) ((((k03.trans (Kp.same (ex_same e4))).trans k5).trans k6).trans (Kp.new nt)) (D6'.new nt) ?_⟩
    exact ⟨t, Dl, D6, rfl, upd_same, (Ex.new nt) _ _ (k6 _ _ da db (k5 _ _ da db (e4 _ _ h3))), (Ex.new nt) _ _ h6, (k01.trans k2).none D2 nD, ((k03.trans (Kp.same (ex_same e4))).trans k5).none D5 n6⟩
def spRaisingD : Sp := fun vs H Q _ => ∃ (a b : Addr), vs = [.ref a] ∧ Deal H a b ∧ ∀ L ks H', List.Sublist ks lettersL → Kp a b H H' → Deal H' a b → H L = none → H' L = some (.lst (ks.map V.str)) → Q (.ref L) H'
abbrev sRaising : Stmt := topS 60
theorem scRaising : FnScope ["_law_deal_here", "_law_sort"] ["_law_deal_here"] (defScope sRaising) := ⟨rfl, rfl, rfl, by decide +kernel, rfl, by decide +kernel, by decide +kernel⟩
theorem ok_raising {f fDraw : Addr} {fd fdDraw : FuncData} (F : Fun K "_law_raising" "_law_raising" sRaising f fd) (T : TxB mg) (D_draw : Df K mg "_law_draw" sDraw ["_law_deal_here", "_law_many"] fDraw fdDraw) : FnOk P w K mg base CX0 2 f fd ["_law_deal_here"] spRaisingD := by
  have G_draw : FnOk P w K mg base CX0 1 fDraw fdDraw ["_law_deal_here", "_law_many"] spDraw := ok_draw D_draw.F T.n_int
  refine F.ok scRaising (fun vs H Q E h => ?_) (fun cdv A outer s H vs Q E hr h => ?_)
  · obtain ⟨a, b, rfl, _⟩ := h
    rfl
  · obtain ⟨a, b, rfl, D, q⟩ := h
    refine ⟨_, pss_cons (ps_if (pt_cmpR op_eq (pe_call (E := E0) G_draw (hr.mono (by decide)) rfl D_draw.g D_draw.F.kp D_draw.b .nil pass0 (pa_cons (pv 0) (pa_cons pe_int pa_nil))) pe_int (nomark _)) (pss_one (ps_ret (pe_lst (pa_cons pe_str (pa_cons pe_str (pa_cons pe_str (pa_cons pe_str pa_nil))))))) pss_nil)
      (pss_one (ps_ret (pe_lc (own := [("_law_sort", 1)]) (g := gName 1) rfl scRaising.nd (pi_tup (pe_tup (pa_cons pe_str (pa_cons pe_str (pa_cons pe_str (pa_cons pe_str pa_nil)))))) (blkOk_by (own := [("_law_sort", 1)]) (N := ["_law_deal_here", "_law_sort"]) (sc := defScope sRaising) (by decide +kernel)) (fun _ _ _ _ _ => (pg_name (i := 1) scRaising.nd rfl (Or.inl rfl))) (fun _ _ _ _ _ => (pts_one (pt_cmpR op_eq (pe_call (E := E0) G_draw (hr.mono (by decide)) rfl D_draw.g D_draw.F.kp D_draw.b .nil pass0 (pa_cons (pv 0) (pa_cons pe_int pa_nil))) pe_int (nomark _)))) (fun _ _ _ _ _ => (pv 1))))), ?_⟩
    refine ⟨_, rfl, a, b, 3, rfl, D, by decide, by decide, fun r H1 r0 r1 k1 D1 => ?_⟩
    refine ⟨rfl, _, rfl, ite2 (fun hb => ?_) (fun hb => ?_)⟩
    · exact Evl.s_retL (xs := lettersL.map V.str) (Evl.el_lst (Evl.ea_cons Evl.ev_c (Evl.ea_cons Evl.ev_c (Evl.ea_cons Evl.ev_c (Evl.ea_cons Evl.ev_c Evl.ea_nil)))) (by show 4 ≤ 100000; decide)) fun p H2 np e2 hp => q p lettersL H2 (List.Sublist.refl _) (k1.trans (Kp.same (ex_same e2))) (D1.keep (ex_same e2)) (k1.none D1 np) hp
    · refine ⟨size_of (by show 4 ≤ 100000; decide), fun t nt => ⟨t, rfl, ⟨lettersL.map V.str, Evl.st_of upd_same⟩, fun Dl nD => ?_⟩⟩
      have D2 := D1.new (o := .tup (lettersL.map V.str)) nt
      have da := D2.nea nD
      have db := D2.neb nD
      have k02 : Kp a b H (upd H1 t (.tup (lettersL.map V.str))) := k1.trans (Kp.new nt)
      have nH : H Dl = none := k02.none D2 nD
      have ht : upd H1 t (.tup (lettersL.map V.str)) t = some (.tup (lettersL.map V.str)) := upd_same
      have tn := D2.netup ht
      refine lc_tup (xs := lettersL.map V.str) (fun i H' => Kp a b (upd H1 t (.tup (lettersL.map V.str))) H' ∧ Deal H' a b ∧ ∃ ks : List Str, H' Dl = some (.lst (ks.map V.str)) ∧ ks.Sublist (lettersL.take i)) ⟨Kp.new nD, D2.new nD, [], upd_same, List.nil_sublist _⟩ (fun i H' _ z => Evl.st_of (z.1 _ _ tn.1 tn.2 ht)) (fun i x H' hx ⟨kp, D', ks, hD, hs⟩ => ?_) (fun H' ⟨kp, D', ks, hD, hs⟩ => ?_)
      · obtain ⟨y, hy, rfl⟩ : ∃ y, lettersL[i]? = some y ∧ x = .str y := by
          rw [List.getElem?_map] at hx
          obtain ⟨y, h1, h2⟩ := Option.map_eq_some_iff.mp hx
          exact ⟨y, h1, h2.symm⟩
        have tk : lettersL.take (i + 1) = lettersL.take i ++ [y] := by rw [List.take_add_one, hy]; rfl
        have hi : i < 4 := (List.getElem?_eq_some_iff.mp hy).1
        have lk : ks.length ≤ 4 := Nat.le_trans hs.length_le (by rw [List.length_take]; omega)
        refine ⟨rfl, _, rfl, a, b, 2, rfl, D', by decide, by decide, fun r2 H3 s0 s1 k3 D3 => ⟨rfl, _, rfl, ite2 (fun hb2 => ?_) (fun hb2 => ?_)⟩⟩
        · refine ⟨_, rfl, _, k3 _ _ da db hD, Nat.lt_of_le_of_lt (by rw [List.length_map]; exact lk) (by decide), (kp.trans k3).put nD, D3.put da db, ks ++ [y], ?_, ?_⟩
          · rw [upd_same, List.map_append]
            rfl
          · rw [tk]
            exact hs.append (List.Sublist.refl _)
        · refine ⟨kp.trans k3, D3, ks, k3 _ _ da db hD, ?_⟩
          rw [tk]
          exact hs.trans (List.sublist_append_left _ _)
      · rw [List.length_map, show lettersL.take lettersL.length = lettersL from List.take_length] at hs
        exact q Dl ks H' hs (k02.trans kp) D' nH hD
end
end Ov


namespace Ov
open PySem PySem.Spec PyProof.Rows L2
open Evl (pss_cut tCut Ex Ev EvT EvL EvA EvU)
/-! ### stage 2's draws: rules that people write, rules, the text of a plan -/
/-- a drawn rule, its tests at most so many -/
def DrG (S : Addr → Prop) (n : Nat) (H : Hp) (x : V) (r : RuleD) : Prop := Dr S H x r ∧ r.Good ∧ r.ts.length ≤ n
section
variable {α β : Type} {R R2 : α → β → Prop}
theorem prd_imp (h : ∀ a b, R a b → R2 a b) : ∀ {xs : List α} {ys : List β}, Paired R xs ys → Paired R2 xs ys
  | _, _, .nil => .nil
  | _, _, .cons h1 t => .cons (h _ _ h1) (prd_imp h t)
theorem prd_app : ∀ {xs xs2 : List α} {ys ys2 : List β}, Paired R xs ys → Paired R xs2 ys2 → Paired R (xs ++ xs2) (ys ++ ys2)
  | _, _, _, _, .nil, h => h
  | _, _, _, _, .cons h1 t, h => .cons h1 (prd_app t h)
theorem prd_take : ∀ {xs : List α} {ys : List β} (i : Nat), Paired R xs ys → Paired R (xs.take i) (ys.take i)
  | _, _, _, .nil => by
    rw [List.take_nil, List.take_nil]
    exact .nil
  | _, _, 0, .cons _ _ => .nil
  | _, _, i + 1, .cons h t => .cons h (prd_take i t)
theorem prd_drop : ∀ {xs : List α} {ys : List β} (i : Nat), Paired R xs ys → Paired R (xs.drop i) (ys.drop i)
  | _, _, _, .nil => by
    rw [List.drop_nil, List.drop_nil]
    exact .nil
  | _, _, 0, .cons h t => .cons h t
  | _, _, i + 1, .cons _ t => prd_drop i t
theorem prd_erase : ∀ {xs : List α} {ys : List β} (i : Nat), Paired R xs ys → Paired R (xs.eraseIdx i) (ys.eraseIdx i)
  | _, _, _, .nil => .nil
  | _, _, 0, .cons _ t => t
  | _, _, i + 1, .cons h t => .cons h (prd_erase i t)
theorem prd_set {x : α} {y : β} (hxy : R x y) : ∀ {xs : List α} {ys : List β} (i : Nat), Paired R xs ys → Paired R (xs.set i x) (ys.set i y)
  | _, _, _, .nil => .nil
  | _, _, 0, .cons _ t => .cons hxy t
  | _, _, i + 1, .cons h t => .cons h (prd_set hxy i t)
theorem prd_at : ∀ {xs : List α} {ys : List β} {i : Nat} {x : α}, Paired R xs ys → xs[i]? = some x → ∃ y, ys[i]? = some y ∧ R x y
  | _, _, _, _, .nil, h => nomatch h
  | _, _, 0, _, .cons h _, e => ⟨_, rfl, (Option.some.inj e) ▸ h⟩
  | _, _, i + 1, _, .cons _ t, e => prd_at (i := i) t e
end
/-- rules as they are drawn, in a list of their own -/
structure G1 (a b F : Addr) (n : Nat) (B H : Hp) (xs : List V) (rs : List RuleD) : Prop where
  kp : Kp a b B H
  D : Deal H a b
  nf : B F = none
  hF : H F = some (.lst xs)
  dr : Paired (DrG (fun L => B L = none ∧ L ≠ F) n H) xs rs
section
variable {a b F : Addr} {n m : Nat} {B H H' : Hp} {xs : List V} {rs : List RuleD} {r : RuleD} {x : V}
theorem G1.ex (g : G1 a b F n B H xs rs) (e : Ex H H') : G1 a b F n B H' xs rs := ⟨g.kp.trans (Kp.same (ex_same e)), g.D.keep (ex_same e), g.nf, e _ _ g.hF, prd_imp (fun _ _ h => ⟨h.1.ex e, h.2⟩) g.dr⟩
theorem G1.mv (g : G1 a b F n B H xs rs) (D0 : Deal B a b) (k : Kp a b H H') (D : Deal H' a b) : G1 a b F n B H' xs rs := ⟨g.kp.trans k, D, g.nf, k _ _ (D0.nea g.nf) (D0.neb g.nf) g.hF, prd_imp (fun _ _ h => ⟨h.1.kp (fun L hL => ⟨D0.nea hL.1, D0.neb hL.1⟩) k g.D, h.2⟩) g.dr⟩
theorem G1.up (g : G1 a b F n B H xs rs) {zs : List V} : Paired (DrG (fun L => B L = none ∧ L ≠ F) n (upd H F (.lst zs))) xs rs := prd_imp (fun _ _ h => ⟨h.1.updL g.hF (fun L hL => hL.2), h.2⟩) g.dr
theorem G1.le (g : G1 a b F n B H xs rs) (h : n ≤ m) : G1 a b F m B H xs rs := ⟨g.kp, g.D, g.nf, g.hF, prd_imp (fun _ _ z => ⟨z.1, z.2.1, Nat.le_trans z.2.2 h⟩) g.dr⟩
theorem G1.put (g : G1 a b F n B H xs rs) (D0 : Deal B a b) {zs : List V} {us : List RuleD} (d : Paired (DrG (fun L => B L = none ∧ L ≠ F) n (upd H F (.lst zs))) zs us) : G1 a b F n B (upd H F (.lst zs)) zs us :=
  ⟨g.kp.put g.nf, g.D.put (D0.nea g.nf) (D0.neb g.nf), g.nf, upd_same, d⟩
theorem G1.app (g : G1 a b F n B H xs rs) (D0 : Deal B a b) (d : DrG (fun L => B L = none ∧ L ≠ F) n H x r) : G1 a b F n B (upd H F (.lst (xs ++ [x]))) (xs ++ [x]) (rs ++ [r]) :=
  g.put D0 (prd_app g.up (.cons ⟨d.1.updL g.hF (fun L hL => hL.2), d.2⟩ .nil))
theorem G1.set (g : G1 a b F n B H xs rs) (D0 : Deal B a b) (i : Nat) (d : DrG (fun L => B L = none ∧ L ≠ F) n H x r) : G1 a b F n B (upd H F (.lst (xs.set i x))) (xs.set i x) (rs.set i r) :=
  g.put D0 (prd_set ⟨d.1.updL g.hF (fun L hL => hL.2), d.2⟩ i g.up)
theorem G1.erase (g : G1 a b F n B H xs rs) (D0 : Deal B a b) (i : Nat) : G1 a b F n B (upd H F (.lst (xs.eraseIdx i))) (xs.eraseIdx i) (rs.eraseIdx i) := g.put D0 (prd_erase i g.up)
theorem G1.ins (g : G1 a b F n B H xs rs) (D0 : Deal B a b) (i : Nat) (d : DrG (fun L => B L = none ∧ L ≠ F) n H x r) : G1 a b F n B (upd H F (.lst (xs.take i ++ [x] ++ xs.drop i))) (xs.take i ++ [x] ++ xs.drop i) (rs.take i ++ [r] ++ rs.drop i) :=
  g.put D0 (prd_app (prd_app (prd_take i g.up) (.cons ⟨d.1.updL g.hF (fun L hL => hL.2), d.2⟩ .nil)) (prd_drop i g.up))
end
def wiseL : List Str := ["ask", "stop", "day", "off"]
def partW (k : Str) : Str := if k ∈ (["ask", "stop"] : List Str) then "whole" else "own"
theorem wise_facts : ∀ k ∈ wiseL, ∀ wd ∈ (["above", "not level", "later", ""] : List Str), k ∈ kindsAll ∧ (wd ≠ "" → wd ≠ "not level" → (wd ++ " ") ++ partW k ∈ testsNot k) ∧ (("not " : Str) ++ partW k ∈ testsNot k) ∧ (("not level " : Str) ++ partW k ∈ testsNot k) ∧ (∀ ds ∈ ([["take", "wipe"], ["take"]] : List (List Str)), ∀ d ∈ ds, d ∈ deedsOf k) ∧ wd.length ≤ 10 ∧ (partW k).length ≤ 10 := by decide +kernel
theorem nx_go {a c d : L2.St → Hp → Prop} {b : VK} {σ : L2.St} {H : Hp} (h : a σ H) : ({ nx := a, rt := b, bk := c, ct := d } : Ends).nx σ H := h
def rAddS : R2 := fun x y H Q => ∃ i j, x = V.str i ∧ y = V.str j ∧ i.length + j.length ≤ sizeLine ∧ Q (V.str (i ++ j)) H
/-- how a rule people write is put in -/
def wiseTail (K : PySem.W.Frag) : TS := tIfS (tTest (tOp rEq (tVar 2) (tC (V.str ""))))
  (tDrop (tBM K "list" rAppend (tVar 1) (tCons (tTup (tCons (tVar 3) (tCons (tLst tNil) (tCons (tVar 5) tNil)))) tNil)))
  (tIfS (tTest (tOp rEq (tVar 2) (tC (V.str "not level"))))
    (tDrop (tBM K "list" rAppend (tVar 1) (tCons (tTup (tCons (tVar 3) (tCons (tLst (tCons (tOp rAddS (tC (V.str "not level ")) (tVar 4)) tNil)) (tCons (tVar 5) tNil)))) tNil)))
    (tSeq (tDrop (tBM K "list" rAppend (tVar 1) (tCons (tTup (tCons (tVar 3) (tCons (tLst (tCons (tOp rAddS (tC (V.str "not ")) (tVar 4)) tNil)) (tCons (tVar 5) tNil)))) tNil)))
      (tDrop (tBM K "list" rAppend (tVar 1) (tCons (tTup (tCons (tVar 3) (tCons (tLst (tCons (tOp rAddS (tOp rAddS (tVar 2) (tC (V.str " "))) (tVar 4)) tNil)) (tCons (tVar 5) tNil)))) tNil)))))
def spWise : Sp := fun vs H Q _ => ∃ (a b : Addr), vs = [.ref a] ∧ Deal H a b ∧ ∀ F xs rs H', G1 a b F 1 H H' xs rs → 4 ≤ rs.length → rs.length ≤ 9 → Q (.ref F) H'
section
variable {P : Program} {w : World} {K : PySem.W.Frag} {mg : Str → Option Value} {base : Heap}
abbrev sWise : Stmt := topS 58
theorem scWise : FnScope ["_law_deal_here", "_law_found", "_law_way", "_law_sort", "_law_part", "_law_done"] ["_law_deal_here"] (defScope sWise) := ⟨rfl, rfl, rfl, by decide +kernel, rfl, by decide +kernel, by decide +kernel⟩
theorem rd_wise {a b F0 : Addr} {B H : Hp} {xs : List V} {rs : List RuleD} {k wd : Str} {ds : List Str} {t : Addr} {D : Ends} (D0 : Deal B a b) (hk : k ∈ wiseL) (hw : wd ∈ (["above", "not level", "later", ""] : List Str)) (hds : ds ∈ ([["take", "wipe"], ["take"]] : List (List Str))) (g : G1 a b F0 1 B H xs rs) (ht : H t = some (.lst (ds.map V.str))) (nt : B t = none) (tF : t ≠ F0) (hx : xs.length ≤ 20)
    (fin : ∀ (H' : Hp) (xs' : List V) (rs' : List RuleD), G1 a b F0 1 B H' xs' rs' → (∀ z zs, H z = some (.tup zs) → H' z = some (.tup zs)) → rs.length + 1 ≤ rs'.length → rs'.length ≤ rs.length + 2 → D.nx [some (.ref a), some (.ref F0), some (.str wd), some (.str k), some (.str (partW k)), some (.ref t)] H') :
    wiseTail K D [some (.ref a), some (.ref F0), some (.str wd), some (.str k), some (.str (partW k)), some (.ref t)] H := by
  obtain ⟨c1, c2, c3, c4, c5, c6, c7⟩ := wise_facts k hk wd hw
  have sz : ∀ {n : Nat}, n ≤ 5 → n ≤ sizeLine := fun h => size_of (by omega)
  have dl : ds.length ≤ 2 := (by decide : ∀ ds ∈ ([["take", "wipe"], ["take"]] : List (List Str)), ds.length ≤ 2) ds hds
  have ne : ∀ {H1 : Hp} {l : Addr}, Ex H H1 → H1 l = none → B l = none ∧ l ≠ F0 := fun e n => ⟨(g.ex e).kp.none (g.ex e).D n, fun z => by rw [z, (g.ex e).hF] at n; cases n⟩
  have dr : ∀ {H1 H2 : Hp} {l1 p : Addr} {ts : List Str}, Ex H H1 → H1 l1 = none → Ex (upd H1 l1 (.lst (ts.map V.str))) H2 → H2 p = some (.tup [.str k, .ref l1, .ref t]) → (∀ z ∈ ts, z ∈ testsNot k) → ts.length ≤ 1 → DrG (fun L => B L = none ∧ L ≠ F0) 1 H2 (.ref p) ⟨k, ts, ds⟩ := by
    intro H1 H2 l1 p ts e n e2 hp h1 h2
    exact ⟨⟨p, l1, t, rfl, hp, e2 _ _ upd_same, e2 _ _ ((Ex.new n) _ _ (e _ _ ht)), ne e n, ⟨nt, tF⟩⟩, ⟨c1, h1, c5 ds hds, Nat.le_trans h2 (by decide), Nat.le_trans dl (by decide)⟩, h2⟩
  have tp : ∀ {H1 : Hp} {ys : List V} {o : HO}, (∀ z zs, H z = some (.tup zs) → H1 z = some (.tup zs)) → H1 F0 = some (.lst ys) → ∀ z zs, H z = some (.tup zs) → upd H1 F0 o z = some (.tup zs) := fun e hF z zs h => by
    rw [upd_ne (ne_of (e z zs h) hF fun z => nomatch z)]
    exact e z zs h
  unfold wiseTail
  have ln : ("not " : Str).length = 4 ∧ (" " : Str).length = 1 ∧ ("not level " : Str).length = 10 := by decide +kernel
  refine Evl.s_if (b := decide (wd = "")) (Evl.et_is (Evl.et_test (Evl.ev_op (Evl.ev_var rfl) Evl.ev_c (Evl.rv_eq rfl))) (eq_str _ _)) (fun hb H1 e1 => ?_) (fun hb H1 e1 => ?_)
  · have g1 := g.ex e1
    refine ⟨_, rfl, .inl ⟨rfl, _, Evl.sq_of g1.hF⟩, _, rfl, sz (by show 0 ≤ 5; decide), fun l1 n1 => ⟨_, rfl, sz (by show 3 ≤ 5; decide), fun p np => ?_⟩⟩
    have g2 := (g1.ex (Ex.new n1)).ex (Ex.new (o := .tup [.str k, .ref l1, .ref t]) np)
    exact ⟨F0, xs, .ref p, rfl, rfl, g2.hF, Evl.sz_lt (by omega), fin _ _ _ (g2.app D0 (dr (ts := []) e1 n1 (Ex.new np) upd_same (fun z hz => nomatch hz) (Nat.zero_le _))) (tp (fun z zs h => (Ex.new np) _ _ ((Ex.new n1) _ _ (e1 _ _ h))) g2.hF) (by rw [List.length_append]; exact Nat.le_refl _) (by rw [List.length_append]; exact Nat.le_succ _)⟩
  refine Evl.s_if (b := decide (wd = "not level")) (Evl.et_is (Evl.et_test (Evl.ev_op (Evl.ev_var rfl) Evl.ev_c (Evl.rv_eq rfl))) (eq_str _ _)) (fun hb2 H2 e2 => ?_) (fun hb2 H2 e2 => ?_)
  · have g1 := (g.ex e1).ex e2
    have e12 := e1.trans e2
    refine ⟨_, rfl, .inl ⟨rfl, _, Evl.sq_of g1.hF⟩, _, rfl, _, rfl, _, _, rfl, rfl, size_of (by omega), sz (by show 1 ≤ 5; decide), fun l1 n1 => ⟨_, rfl, sz (by show 3 ≤ 5; decide), fun p np => ?_⟩⟩
    have g2 := (g1.ex (Ex.new n1)).ex (Ex.new (o := .tup [.str k, .ref l1, .ref t]) np)
    exact ⟨F0, xs, .ref p, rfl, rfl, g2.hF, Evl.sz_lt (by omega), fin _ _ _ (g2.app D0 (dr (ts := [("not level " : Str) ++ partW k]) e12 n1 (Ex.new np) upd_same (fun z hz => by rw [List.mem_singleton.mp hz]; exact c4) (Nat.le_refl _))) (tp (fun z zs h => (Ex.new np) _ _ ((Ex.new n1) _ _ (e12 _ _ h))) g2.hF) (by rw [List.length_append]; exact Nat.le_refl _) (by rw [List.length_append]; exact Nat.le_succ _)⟩
  · have g1 := (g.ex e1).ex e2
    have e12 := e1.trans e2
    refine ⟨_, rfl, .inl ⟨rfl, _, Evl.sq_of g1.hF⟩, _, rfl, _, rfl, _, _, rfl, rfl, size_of (by omega), sz (by show 1 ≤ 5; decide), fun l1 n1 => ⟨_, rfl, sz (by show 3 ≤ 5; decide), fun p np => ?_⟩⟩
    have g2 := (g1.ex (Ex.new n1)).ex (Ex.new (o := .tup [.str k, .ref l1, .ref t]) np)
    refine ⟨F0, xs, .ref p, rfl, rfl, g2.hF, Evl.sz_lt (by omega), ?_⟩
    have g3 := g2.app D0 (dr (ts := [("not " : Str) ++ partW k]) e12 n1 (Ex.new np) upd_same (fun z hz => by rw [List.mem_singleton.mp hz]; exact c3) (Nat.le_refl _))
    have ht3 : upd (upd (upd H2 l1 (.lst (([("not " : Str) ++ partW k] : List Str).map V.str))) p (.tup [.str k, .ref l1, .ref t])) F0 (.lst (xs ++ [.ref p])) t = some (.lst (ds.map V.str)) := by
      rw [upd_ne tF]
      exact (Ex.new np) _ _ ((Ex.new n1) _ _ (e12 _ _ ht))
    have ht3' : (upd (upd (upd H2 l1 (.lst [.str (("not " : Str) ++ partW k)])) p (.tup [.str k, .ref l1, .ref t])) F0 (.lst (xs ++ [.ref p]))) t = some (.lst (ds.map V.str)) := ht3
    replace g3 : G1 a b F0 1 B (upd (upd (upd H2 l1 (.lst [.str (("not " : Str) ++ partW k)])) p (.tup [.str k, .ref l1, .ref t])) F0 (.lst (xs ++ [.ref p]))) (xs ++ [.ref p]) (rs ++ [⟨k, [("not " : Str) ++ partW k], ds⟩]) := g3
    have t3 : ∀ z zs, H z = some (.tup zs) → (upd (upd (upd H2 l1 (.lst [.str (("not " : Str) ++ partW k)])) p (.tup [.str k, .ref l1, .ref t])) F0 (.lst (xs ++ [.ref p]))) z = some (.tup zs) := tp (fun z zs h => (Ex.new np) _ _ ((Ex.new n1) _ _ (e12 _ _ h))) g2.hF
    refine nx_go ?_
    generalize upd (upd (upd H2 l1 (.lst [.str (("not " : Str) ++ partW k)])) p (.tup [.str k, .ref l1, .ref t])) F0 (.lst (xs ++ [.ref p])) = H3 at g3 ht3' t3 ⊢
    refine ⟨_, rfl, .inl ⟨rfl, _, Evl.sq_of g3.hF⟩, _, rfl, _, rfl, _, _, rfl, rfl, size_of (by omega), _, rfl, _, _, rfl, rfl, size_of (by rw [Str.length_append]; omega), sz (by show 1 ≤ 5; decide), fun l2 n2 => ⟨_, rfl, sz (by show 3 ≤ 5; decide), fun p2 np2 => ?_⟩⟩
    have g4 := (g3.ex (Ex.new n2)).ex (Ex.new (o := .tup [.str k, .ref l2, .ref t]) np2)
    refine ⟨F0, _, .ref p2, rfl, rfl, g4.hF, Evl.sz_lt (by rw [List.length_append]; show xs.length + 1 < 100000; omega), ?_⟩
    have d2 : DrG (fun L => B L = none ∧ L ≠ F0) 1 (upd (upd H3 l2 (.lst (([(wd ++ " ") ++ partW k] : List Str).map V.str))) p2 (.tup [.str k, .ref l2, .ref t])) (.ref p2) ⟨k, [(wd ++ " ") ++ partW k], ds⟩ :=
      ⟨⟨p2, l2, t, rfl, upd_same, (Ex.new np2) _ _ upd_same, (Ex.new np2) _ _ ((Ex.new n2) _ _ ht3'), ⟨g3.kp.none g3.D n2, fun z => by rw [z, g3.hF] at n2; cases n2⟩, ⟨nt, tF⟩⟩, ⟨c1, fun z hz => by rw [List.mem_singleton.mp hz]; exact c2 (of_decide_eq_false hb) (of_decide_eq_false hb2), c5 ds hds, by show 1 ≤ 1000; decide, Nat.le_trans dl (by decide)⟩, Nat.le_refl _⟩
    exact fin _ _ _ (g4.app D0 d2) (tp (fun z zs h => (Ex.new np2) _ _ ((Ex.new n2) _ _ (t3 _ _ h))) g4.hF) (by rw [List.length_append, List.length_append]; exact Nat.le_succ _) (by rw [List.length_append, List.length_append]; exact Nat.le_refl _)
theorem ok_wise {f fPi fDraw : Addr} {fd fdPi fdDraw : FuncData} (F : Fun K "_law_wise" "_law_wise" sWise f fd) (T : TxB mg) (D_draw : Df K mg "_law_draw" sDraw ["_law_deal_here", "_law_many"] fDraw fdDraw) (D_pick : Df K mg "_law_pick" sPick ["_law_deal_here", "_law_some"] fPi fdPi) : FnOk P w K mg base CX0 3 f fd ["_law_deal_here"] spWise := by
  have G_draw : FnOk P w K mg base CX0 1 fDraw fdDraw ["_law_deal_here", "_law_many"] spDraw := ok_draw D_draw.F T.n_int
  have G_pick : FnOk P w K mg base CX0 2 fPi fdPi ["_law_deal_here", "_law_some"] (spPick K) := ok_pick D_pick.F T D_draw
  refine F.ok scWise (fun vs H Q E h => ?_) (fun cdv A outer s H vs Q E hr h => ?_)
  · obtain ⟨a, b, rfl, _⟩ := h
    rfl
  · obtain ⟨a, b, rfl, D, q⟩ := h
    refine ⟨_, pss_cons (ps_par (i := 1) (j := 2) (by rfl) scWise.nd rfl rfl (by decide) rfl rfl (pa_cons (pe_lst pa_nil) (pa_cons (pe_call (E := E0) G_pick (hr.mono (by decide)) rfl D_pick.g D_pick.F.kp D_pick.b .nil pass0 (pa_cons (pv 0) (pa_cons (pe_lst (pa_cons pe_str (pa_cons pe_str (pa_cons pe_str (pa_cons pe_str (pa_cons pe_str pa_nil)))))) pa_nil))) pa_nil)) (by rfl))
      (pss_cut (ps_for PassesOwn.never rfl (pi_tup (pe_tup (pa_cons pe_str (pa_cons pe_str (pa_cons pe_str (pa_cons pe_str pa_nil)))))) (pg_name (i := 3) scWise.nd rfl (Or.inl rfl)) (pss_cons (ps_set (i := 4) scWise.nd rfl (.inl rfl) (pe_ifExp (pt_cmpR op_in_seq (pv 3) (pe_tup (pa_cons pe_str (pa_cons pe_str pa_nil))) (by rfl)) pe_str pe_str))
      (pss_cons (ps_set (i := 5) scWise.nd rfl (.inl rfl) (pe_ifExp (PW.pt (pw_and (pt_cmpR op_eq (pv 4) pe_str (nomark _)) (pw_and1 (pt_cmpR op_gt (pe_call (E := E0) G_draw (hr.mono (by decide)) rfl D_draw.g D_draw.F.kp D_draw.b .nil pass0 (pa_cons (pv 0) (pa_cons pe_int pa_nil))) pe_int (nomark _))))) (pe_lst (pa_cons pe_str (pa_cons pe_str pa_nil))) (pe_lst (pa_cons pe_str pa_nil))))
      (pss_one (ps_if (pt_cmpR op_eq (pv 2) pe_str (nomark _)) (pss_one (ps_expr (pe_bm PySem.F.plainAttrs_list PySem.F.slot_list_append PySem.F.type_list_append mt_append (pv 1) (pa_cons (pe_tup (pa_cons (pv 3) (pa_cons (pe_lst pa_nil) (pa_cons (pv 5) pa_nil)))) pa_nil)))) (pss_one (ps_if (pt_cmpR op_eq (pv 2) pe_str (nomark _)) (pss_one (ps_expr (pe_bm PySem.F.plainAttrs_list PySem.F.slot_list_append PySem.F.type_list_append mt_append (pv 1) (pa_cons (pe_tup (pa_cons (pv 3) (pa_cons (pe_lst (pa_cons (pe_op op_add_str pe_str (pv 4)) pa_nil)) (pa_cons (pv 5) pa_nil)))) pa_nil)))) (pss_cons (ps_expr (pe_bm PySem.F.plainAttrs_list PySem.F.slot_list_append PySem.F.type_list_append mt_append (pv 1) (pa_cons (pe_tup (pa_cons (pv 3) (pa_cons (pe_lst (pa_cons (pe_op op_add_str pe_str (pv 4)) pa_nil)) (pa_cons (pv 5) pa_nil)))) pa_nil)))
      (pss_one (ps_expr (pe_bm PySem.F.plainAttrs_list PySem.F.slot_list_append PySem.F.type_list_append mt_append (pv 1) (pa_cons (pe_tup (pa_cons (pv 3) (pa_cons (pe_lst (pa_cons (pe_op op_add_str (pe_op op_add_str (pv 2) pe_str) (pv 4)) pa_nil)) (pa_cons (pv 5) pa_nil)))) pa_nil))))))))))))
      (pss_cut (ps_if (pt_cmpR op_eq (pe_call (E := E0) G_draw (hr.mono (by decide)) rfl D_draw.g D_draw.F.kp D_draw.b .nil pass0 (pa_cons (pv 0) (pa_cons pe_int pa_nil))) pe_int (nomark _)) (pss_one (ps_expr (pe_bm PySem.F.plainAttrs_list PySem.F.slot_list_append PySem.F.type_list_append mt_append (pv 1) (pa_cons (pe_tup (pa_cons pe_str (pa_cons (pe_call (E := E0) G_pick (hr.mono (by decide)) rfl D_pick.g D_pick.F.kp D_pick.b .nil pass0 (pa_cons (pv 0) (pa_cons (pe_lst (pa_cons (pe_lst pa_nil) (pa_cons (pe_lst (pa_cons pe_str pa_nil)) (pa_cons (pe_lst (pa_cons pe_str pa_nil)) pa_nil)))) pa_nil))) (pa_cons (pe_lst (pa_cons pe_str pa_nil)) pa_nil)))) pa_nil)))) pss_nil)
      (pss_one (ps_ret (pv 1))))), ?_⟩
    have sz : ∀ {n : Nat}, n ≤ 5 → n ≤ sizeLine := fun h => size_of (by omega)
    refine ⟨sz (by show 0 ≤ 5; decide), fun F0 nF => ?_⟩
    have D0 := D.new (o := .lst []) nF
    refine ⟨_, rfl, sz (by show 5 ≤ 5; decide), fun L0 n0 => ⟨a, b, L0, [.str "above", .str "not level", .str "later", .str "later", .str ""], rfl, D0.new n0, D0.nea n0, D0.neb n0, .inl (Evl.sq_of upd_same), by decide, by decide, fun x H1 hx k1 D1 => ?_⟩⟩
    obtain ⟨wd, hw, rfl⟩ : ∃ wd, wd ∈ (["above", "not level", "later", ""] : List Str) ∧ x = .str wd := by
      simp only [List.mem_cons, List.not_mem_nil, or_false] at hx
      rcases hx with rfl | rfl | rfl | rfl | rfl
      all_goals exact ⟨_, by decide, rfl⟩
    refine ⟨_, _, rfl, ?_⟩
    have k01 : Kp a b H H1 := ((Kp.new nF).trans (Kp.new n0)).trans k1
    have fa := D.nea nF
    have fb := D.neb nF
    have hF1 : H1 F0 = some (.lst []) := k1 _ _ fa fb ((Ex.new n0) _ _ upd_same)
    refine nx_go ?_
    refine Evl.q_cut (M := fun σ' H' => ∃ (b3 b4 b5 : Option V) (xs : List V) (rs : List RuleD), σ' = [some (.ref a), some (.ref F0), some (.str wd), b3, b4, b5] ∧ G1 a b F0 1 H H' xs rs ∧ 4 ≤ rs.length ∧ rs.length ≤ 8) ?_ (fun σ' H' hh => ?_)
    · refine ⟨sz (by show 4 ≤ 5; decide), fun t nt => ?_⟩
      have g0 : G1 a b F0 1 H (upd H1 t (.tup (wiseL.map V.str))) [] [] := ⟨k01.trans (Kp.new nt), D1.new nt, nF, (Ex.new nt) _ _ hF1, .nil⟩
      have ht : upd H1 t (.tup (wiseL.map V.str)) t = some (.tup (wiseL.map V.str)) := upd_same
      have tn := g0.D.netup ht
      refine ⟨t, rfl, ⟨_, Evl.st_of ht⟩, for_tup (K := K) (a := t) (xs := wiseL.map V.str) (fun i σ' H' => ∃ (b3 b4 b5 : Option V) (xs : List V) (rs : List RuleD), σ' = [some (.ref a), some (.ref F0), some (.str wd), b3, b4, b5] ∧ G1 a b F0 1 H H' xs rs ∧ H' t = some (.tup (wiseL.map V.str)) ∧ i ≤ rs.length ∧ rs.length ≤ 2 * i)
        ⟨_, _, _, [], [], rfl, g0, ht, Nat.le_refl _, Nat.le_refl _⟩ (fun i σ' H' _ ⟨_, _, _, _, _, _, _, h, _⟩ => Evl.st_of h) ?_ (fun σ' H' ⟨b3, b4, b5, xs, rs, e, g, _, h1, h2⟩ => ⟨b3, b4, b5, xs, rs, e, g, h1, h2⟩)⟩
      rintro i x σ' H' hx ⟨b3, b4, b5, xs, rs, rfl, g, htt, hl, hl2⟩
      obtain ⟨k, rfl, hk0⟩ := strs_at hx
      have hk : k ∈ wiseL := List.mem_of_getElem? hk0
      have hi : i < 4 := (List.getElem?_eq_some_iff.mp hk0).1
      have lx := paired_len g.dr
      refine Evl.q_asg (v := .str (partW k)) (Evl.ev_if (b := decide (k ∈ (["ask", "stop"] : List Str))) (Evl.et_is (Evl.et_test (Evl.ev_inU (x := .str k) (xs := (["ask", "stop"] : List Str).map V.str) (Evl.ev_var rfl) (Evl.eu_tup (Evl.ea_cons Evl.ev_c (Evl.ea_cons Evl.ev_c Evl.ea_nil)) (by show 2 ≤ 100000; decide)) rfl (flat_strs _))) (by rw [inV_strs])) (fun h => ?_) (fun h => ?_)) fun H5 e5 => ?_
      · unfold partW
        rw [if_pos (of_decide_eq_true h)]
        exact Evl.ev_c
      · unfold partW
        rw [if_neg (of_decide_eq_false h)]
        exact Evl.ev_c
      have g5 := g.ex e5
      have ht5 := e5 _ _ htt
      have fin : ∀ {Dn : Ends} {t2 : Addr} {ds : List Str} {H6 : Hp}, ds ∈ ([["take", "wipe"], ["take"]] : List (List Str)) → G1 a b F0 1 H H6 xs rs → H6 t2 = some (.lst (ds.map V.str)) → H t2 = none → t2 ≠ F0 → H6 t = some (.tup (wiseL.map V.str)) → (∀ σ2 H2, (∃ (b3 b4 b5 : Option V) (xs : List V) (rs : List RuleD), σ2 = [some (.ref a), some (.ref F0), some (.str wd), b3, b4, b5] ∧ G1 a b F0 1 H H2 xs rs ∧ H2 t = some (.tup (wiseL.map V.str)) ∧ i + 1 ≤ rs.length ∧ rs.length ≤ 2 * (i + 1)) → Dn.nx σ2 H2) →
          wiseTail K Dn [some (.ref a), some (.ref F0), some (.str wd), some (.str k), some (.str (partW k)), some (.ref t2)] H6 := fun hds g6 h2 n2 nF2 h6 fin => rd_wise D hk hw hds g6 h2 n2 nF2 (by omega) fun H7 xs7 rs7 g7 st l1 l2 => fin _ _ ⟨_, _, _, xs7, rs7, rfl, g7, st _ _ h6, by omega, by omega⟩
      refine q_put ?_
      refine (Evl.et_is (Evl.et_test (Evl.ev_op (Evl.ev_var rfl) Evl.ev_c (Evl.rv_eq rfl))) (eq_str (partW k) "whole")) H5 (Ex.refl _) _ fun H6 e6 => ite2 (fun hb => ?_) (fun hb => ?_)
      · have g6 := g5.ex e6
        refine ⟨_, rfl, a, b, 3, rfl, g6.D, by decide, by decide, fun r H7 r0 r1 k7 D7 => ⟨_, _, rfl, rfl, _, rfl, ?_⟩⟩
        have g7 := g6.mv D k7 D7
        have h6 := e6 _ _ ht5
        have ht7 := k7 _ _ (g6.D.netup h6).1 (g6.D.netup h6).2 h6
        refine ite2 (fun hb2 => ?_) (fun hb2 => ?_)
        · exact ⟨sz (by show 2 ≤ 5; decide), fun t2 nt2 => fin (ds := ["take", "wipe"]) (by decide) (g7.ex (Ex.new nt2)) upd_same (g7.kp.none g7.D nt2) (fun z => by rw [z, g7.hF] at nt2; cases nt2) ((Ex.new nt2) _ _ ht7) fun _ _ z => z⟩
        · exact ⟨sz (by show 1 ≤ 5; decide), fun t2 nt2 => fin (ds := ["take"]) (by decide) (g7.ex (Ex.new nt2)) upd_same (g7.kp.none g7.D nt2) (fun z => by rw [z, g7.hF] at nt2; cases nt2) ((Ex.new nt2) _ _ ht7) fun _ _ z => z⟩
      · have g7 := g5.ex e6
        exact iteF ⟨sz (by show 1 ≤ 5; decide), fun t2 nt2 => fin (ds := ["take"]) (by decide) (g7.ex (Ex.new nt2)) upd_same (g7.kp.none g7.D nt2) (fun z => by rw [z, g7.hF] at nt2; cases nt2) ((Ex.new nt2) _ _ (e6 _ _ ht5)) fun _ _ z => z⟩
    · obtain ⟨b3, b4, b5, xs, rs, rfl, g, hl4, hl8⟩ := hh
      refine Evl.q_cut (M := fun σ' H' => σ'[1]? = some (some (.ref F0)) ∧ ∃ (xs : List V) (rs : List RuleD), G1 a b F0 1 H H' xs rs ∧ 4 ≤ rs.length ∧ rs.length ≤ 9) ?_ (fun σ' H' ⟨h1, xs, rs, g, l4, hl⟩ => ⟨_, h1, q F0 xs rs H' g l4 hl⟩)
      refine ⟨_, rfl, a, b, 2, rfl, g.D, by decide, by decide, fun r H6 r0 r1 k6 D6 => ⟨rfl, _, rfl, ?_⟩⟩
      have g6 := g.mv D k6 D6
      have lx := paired_len g.dr
      refine ite2 (fun hb => ?_) (fun hb => ⟨rfl, xs, rs, g6, hl4, by omega⟩)
      refine ⟨_, rfl, .inl ⟨rfl, _, Evl.sq_of g6.hF⟩, _, rfl, sz (by show 0 ≤ 5; decide), fun p1 n1 => ⟨sz (by show 1 ≤ 5; decide), fun p2 n2 => ⟨sz (by show 1 ≤ 5; decide), fun p3 n3 => ⟨sz (by show 3 ≤ 5; decide), fun Lv nLv => ?_⟩⟩⟩⟩
      have e1 : Ex H6 _ := Ex.new (o := .lst []) n1
      have e2 := e1.trans (Ex.new (o := .lst [.str "level"]) n2)
      have e3 := e2.trans (Ex.new (o := .lst [.str "level"]) n3)
      have e4 := e3.trans (Ex.new (o := .lst [.ref p1, .ref p2, .ref p3]) nLv)
      have g3 := g6.ex e3
      have g4 := g6.ex e4
      have nw : ∀ {H1 : Hp} {l : Addr}, Ex H6 H1 → H1 l = none → H l = none ∧ l ≠ F0 := fun e n => ⟨(g6.ex e).kp.none (g6.ex e).D n, fun z => by rw [z, (g6.ex e).hF] at n; cases n⟩
      have f1 := nw (Ex.refl _) n1
      have f2 := nw e1 n2
      have f3 := nw e2 n3
      refine ⟨a, b, Lv, [.ref p1, .ref p2, .ref p3], rfl, g4.D, g3.D.nea nLv, g3.D.neb nLv, .inl (Evl.sq_of upd_same), Nat.le_of_ble_eq_true rfl, Nat.le_of_ble_eq_true rfl, fun x H7 hx k7 D7 => ?_⟩
      have g7 := g4.mv D k7 D7
      have m1 := k7 _ _ (D.nea f1.1) (D.neb f1.1) ((Ex.new nLv) _ _ ((Ex.new n3) _ _ ((Ex.new n2) _ _ upd_same)))
      have m2 := k7 _ _ (D.nea f2.1) (D.neb f2.1) ((Ex.new nLv) _ _ ((Ex.new n3) _ _ upd_same))
      have m3 := k7 _ _ (D.nea f3.1) (D.neb f3.1) ((Ex.new nLv) _ _ upd_same)
      have hx7 : ∃ l1 us, x = .ref l1 ∧ us ∈ ([["level"], []] : List (List Str)) ∧ H7 l1 = some (.lst (us.map V.str)) ∧ H l1 = none ∧ l1 ≠ F0 := by
        simp only [List.mem_cons, List.not_mem_nil, or_false] at hx
        rcases hx with rfl | rfl | rfl
        · exact ⟨p1, [], rfl, by decide, m1, f1⟩
        · exact ⟨p2, ["level"], rfl, by decide, m2, f2⟩
        · exact ⟨p3, ["level"], rfl, by decide, m3, f3⟩
      obtain ⟨l1, us, rfl, hus, hl1, fl⟩ := hx7
      refine ⟨sz (by show 1 ≤ 5; decide), fun l2 nl2 => ⟨sz (by show 3 ≤ 5; decide), fun p np => ?_⟩⟩
      have e8 : Ex H7 (upd H7 l2 (.lst [.str "count"])) := Ex.new nl2
      have e9 := e8.trans (Ex.new (o := .tup [.str "answer", .ref l1, .ref l2]) np)
      have g9 := g7.ex e9
      have z1 : ∀ ls ∈ ([["level"], []] : List (List Str)), (∀ t ∈ ls, t ∈ testsNot "answer") ∧ ls.length ≤ 1 := by decide +kernel
      have z2 : ∀ d ∈ (["count"] : List Str), d ∈ deedsOf "answer" := by decide +kernel
      have d9 : DrG (fun L => H L = none ∧ L ≠ F0) 1 (upd (upd H7 l2 (.lst [.str "count"])) p (.tup [.str "answer", .ref l1, .ref l2])) (.ref p) ⟨"answer", us, ["count"]⟩ :=
        ⟨⟨p, l1, l2, rfl, upd_same, e9 _ _ hl1, (Ex.new np) _ _ upd_same, fl, ⟨g7.kp.none g7.D nl2, fun z => by rw [z, g7.hF] at nl2; cases nl2⟩⟩, ⟨(by decide : ("answer" : Str) ∈ kindsAll), (z1 us hus).1, z2, Nat.le_trans (z1 us hus).2 (by decide), by show 1 ≤ 1000; decide⟩, (z1 us hus).2⟩
      refine ⟨F0, xs, .ref p, rfl, rfl, g9.hF, Evl.sz_lt (by omega), ?_⟩
      refine nx_go ⟨rfl, _, _, g9.app D d9, by rw [List.length_append]; omega, by rw [List.length_append]; show rs.length + 1 ≤ 9; omega⟩
end
end Ov


namespace Ov
open PySem PySem.Spec PyProof.Rows L2
open Evl (pss_cut tCut Ex Ev EvT EvL EvA EvU)
/-! ### stage 2's draws: rules -/
theorem cut_from (xs : List V) (n : Nat) : cutV xs (some (n : Int)) none = xs.drop n := by
  by_cases h : n ≤ xs.length
  · exact cut_rest xs n h
  · unfold cutV
    rw [HT.sIx_none, HT.sIx_nat, Nat.min_eq_right (by omega), Nat.sub_self, List.take_zero, List.drop_eq_nil_of_le (by omega)]
theorem next_go {a c d : L2.St → Hp → Prop} {b : VK} {σ : L2.St} {H : Hp} (h : a σ H) : tNext ({ nx := a, rt := b, bk := c, ct := d } : Ends) σ H := h
def spRules : Sp := fun vs H Q _ => ∃ (a b : Addr) (m : Nat), vs = [.ref a, .int (m : Int)] ∧ m ≤ 10 ∧ Deal H a b ∧ ∀ F xs rs H', G1 a b F 4 H H' xs rs → rs.length ≤ m → Q (.ref F) H'
section
variable {P : Program} {w : World} {K : PySem.W.Frag} {mg : Str → Option Value} {base : Heap}
abbrev sRules : Stmt := topS 59
theorem scRules : FnScope ["_law_deal_here", "_law_most", "_law_turn", "_law_found", "_law_at", "_law_form", "_law_sort", "_law_asked", "_law_done"] ["_law_deal_here", "_law_most"] (defScope sRules) := ⟨rfl, rfl, rfl, by decide +kernel, rfl, by decide +kernel, by decide +kernel⟩
theorem ok_rules {f fTe fRu fWi fPi fDraw : Addr} {fd fdTe fdRu fdWi fdPi fdDraw : FuncData} (F : Fun K "_law_rules" "_law_rules" sRules f fd) (T : TxB mg) (D_draw : Df K mg "_law_draw" sDraw ["_law_deal_here", "_law_many"] fDraw fdDraw) (D_pick : Df K mg "_law_pick" sPick ["_law_deal_here", "_law_some"] fPi fdPi)
    (D_test : Df K mg "_law_test" sTest ["_law_deal_here", "_law_sort"] fTe fdTe) (D_rule : Df K mg "_law_rule" sRule ["_law_deal_here"] fRu fdRu) (D_wise : Df K mg "_law_wise" sWise ["_law_deal_here"] fWi fdWi) : FnOk P w K mg base CX0 5 f fd ["_law_deal_here", "_law_most"] spRules := by
  have G_draw : FnOk P w K mg base CX0 1 fDraw fdDraw ["_law_deal_here", "_law_many"] spDraw := ok_draw D_draw.F T.n_int
  have G_test : FnOk P w K mg base CX0 3 fTe fdTe ["_law_deal_here", "_law_sort"] spTestD := ok_test D_test.F T D_draw D_pick
  have G_rule : FnOk P w K mg base CX0 4 fRu fdRu ["_law_deal_here"] spRuleD := ok_rule D_rule.F T D_draw D_pick D_test
  have G_wise : FnOk P w K mg base CX0 3 fWi fdWi ["_law_deal_here"] spWise := ok_wise D_wise.F T D_draw D_pick
  refine F.ok scRules (fun vs H Q E h => ?_) (fun cdv A outer s H vs Q E hr h => ?_)
  · obtain ⟨a, b, m, rfl, _⟩ := h
    rfl
  · obtain ⟨a, b, m, rfl, hm, D, q⟩ := h
    refine ⟨_, pss_cons (ps_if (pt_cmpR op_eq (pe_call (E := E0) G_draw (hr.mono (by decide)) rfl D_draw.g D_draw.F.kp D_draw.b .nil pass0 (pa_cons (pv 0) (pa_cons pe_int pa_nil))) pe_int (nomark _)) (pss_one (ps_ret (pe_lc (own := [("_law_turn", 2)]) (g := gName 2) (tt := tYes) rfl scRules.nd (pi_range1 rfl T.n_range (pa_cons (pe_call (E := E0) G_draw (hr.mono (by decide)) rfl D_draw.g D_draw.F.kp D_draw.b .nil pass0 (pa_cons (pv 0) (pa_cons (pe_op op_add (pv 1) pe_int) pa_nil))) pa_nil)) (blkOk_by (own := [("_law_turn", 2)]) (N := ["_law_deal_here", "_law_most", "_law_turn", "_law_found", "_law_at", "_law_form", "_law_sort", "_law_asked", "_law_done"]) (sc := defScope sRules) (by decide +kernel)) (fun _ _ _ _ _ => (pg_name (i := 2) scRules.nd rfl (Or.inl rfl))) (fun _ _ _ _ _ => pts_nil) (fun _ _ _ _ _ => (pe_call (E := E0) G_rule (hr.mono (by decide)) rfl D_rule.g D_rule.F.kp D_rule.b .nil pass0 (pa_cons (pv 0) pa_nil)))))) pss_nil)
      (pss_cons (ps_set (i := 3) scRules.nd rfl (.inl rfl) (pe_call (E := E0) G_wise (hr.mono (by decide)) rfl D_wise.g D_wise.F.kp D_wise.b .nil pass0 (pa_cons (pv 0) pa_nil)))
      (pss_cut (ps_for PassesOwn.never rfl (pi_range1 rfl T.n_range (pa_cons (pe_call (E := E0) G_draw (hr.mono (by decide)) rfl D_draw.g D_draw.F.kp D_draw.b .nil pass0 (pa_cons (pv 0) (pa_cons pe_int pa_nil))) pa_nil)) (pg_name (i := 2) scRules.nd rfl (Or.inl rfl)) (pss_cons (ps_par (i := 4) (j := 5) (by rfl) scRules.nd rfl rfl (by decide) rfl rfl (pa_cons (pe_call (E := E0) G_draw (hr.mono (by decide)) rfl D_draw.g D_draw.F.kp D_draw.b .nil pass0 (pa_cons (pv 0) (pa_cons (pe_callB call_len_seq (by rfl) T.n_len (by decide +kernel) (pa_cons (pv 3) pa_nil)) pa_nil))) (pa_cons (pe_call (E := E0) G_draw (hr.mono (by decide)) rfl D_draw.g D_draw.F.kp D_draw.b .nil pass0 (pa_cons (pv 0) (pa_cons pe_int pa_nil))) pa_nil)) (by rfl))
      (pss_cons (ps_asg (pe_ix ix_list (pv 3) (pv 4) (fun _ _ => rfl)) (pg_tup (by rfl) (pgs_cons (pg_name (i := 6) scRules.nd rfl (Or.inl rfl)) (pgs_cons (pg_name (i := 7) scRules.nd rfl (Or.inl rfl)) (pgs_cons (pg_name (i := 8) scRules.nd rfl (Or.inl rfl)) pgs_nil)))))
      (pss_one (ps_if (pt_cmpR op_eq (pv 5) pe_int (nomark _)) (pss_one (ps_asg (pe_tup (pa_cons (pv 6) (pa_cons (pe_slice sl_list (pv 7) (po_some pe_int) po_none) (pa_cons (pv 8) pa_nil)))) (pg_sub (pv 3) (pv 4) set_list))) (pss_one (ps_if (pt_cmpR op_eq (pv 5) pe_int (nomark _)) (pss_one (ps_asg (pe_tup (pa_cons (pv 6) (pa_cons (pe_op op_cat (pv 7) (pe_lst (pa_cons (pe_call (E := E0) G_test (hr.mono (by decide)) rfl D_test.g D_test.F.kp D_test.b .nil pass0 (pa_cons (pv 0) (pa_cons (pv 6) pa_nil))) pa_nil))) (pa_cons (pv 8) pa_nil)))) (pg_sub (pv 3) (pv 4) set_list))) (pss_one (ps_if (PW.pt (pw_and (pt_cmpR op_eq (pv 5) pe_int (nomark _)) (pw_and1 (pt_cmpR op_gt (pe_callB call_len_seq (by rfl) T.n_len (by decide +kernel) (pa_cons (pv 3) pa_nil)) pe_int (nomark _))))) (pss_one (ps_expr (pe_bm PySem.F.plainAttrs_list PySem.F.slot_list_pop PySem.F.type_list_pop mt_popAt (pv 3) (pa_cons (pv 4) pa_nil)))) (pss_one (ps_expr (pe_bm PySem.F.plainAttrs_list PySem.F.slot_list_insert PySem.F.type_list_insert mt_insert (pv 3) (pa_cons (pv 4) (pa_cons (pe_call (E := E0) G_rule (hr.mono (by decide)) rfl D_rule.g D_rule.F.kp D_rule.b .nil pass0 (pa_cons (pv 0) pa_nil)) pa_nil))))))))))))))
      (pss_cut (ps_while PassesOwn.never (pt_cmpR op_gt (pe_callB call_len_seq (by rfl) T.n_len (by decide +kernel) (pa_cons (pv 3) pa_nil)) (pv 1) (nomark _)) (pss_one (ps_expr (pe_bm PySem.F.plainAttrs_list PySem.F.slot_list_pop PySem.F.type_list_pop mt_popAt (pv 3) (pa_cons (pe_call (E := E0) G_draw (hr.mono (by decide)) rfl D_draw.g D_draw.F.kp D_draw.b .nil pass0 (pa_cons (pv 0) (pa_cons (pe_callB call_len_seq (by rfl) T.n_len (by decide +kernel) (pa_cons (pv 3) pa_nil)) pa_nil))) pa_nil)))))
      (pss_one (ps_ret (pv 3)))))), ?_⟩
    have sz : ∀ {n : Nat}, n ≤ 5 → n ≤ sizeLine := fun h => size_of (by omega)
    refine ⟨_, rfl, a, b, 4, rfl, D, by decide, by decide, fun r H1 r0 r1 k1 D1 => ⟨rfl, _, rfl, ite2 (fun hb => ?_) (fun hb => ?_)⟩⟩
    · -- any ones
      refine ⟨_, rfl, _, rfl, _, _, rfl, rfl, a, b, (m : Int) + 1, rfl, D1, by omega, by omega, fun r2 H2 s0 s1 k2 D2 => ⟨_, rfl, by omega, by omega, fun L nL => ?_⟩⟩
      have k02 := k1.trans k2
      have nLH := k02.none D2 nL
      refine lc_range (lo := 0) (n := r2.toNat) (fun i H' => ∃ xs rs, G1 a b L 4 H H' xs rs ∧ rs.length = i) ⟨[], [], ⟨k02.put nLH, D2.put (D.nea nLH) (D.neb nLH), nLH, upd_same, .nil⟩, rfl⟩ (fun i H' hi ⟨xs, rs, g, hl⟩ => ?_) (fun H' ⟨xs, rs, g, hl⟩ => q L xs rs H' g (by omega))
      refine ⟨rfl, ?_⟩
      simp only [tYes, eq_self, if_true]
      have lx := paired_len g.dr
      refine ⟨_, rfl, a, b, rfl, g.D, fun x rn H4 gd l1 l2 k4 D4 d4 => ?_⟩
      have g4 := g.mv D k4 D4
      exact ⟨xs, g4.hF, Nat.lt_of_lt_of_le (by omega : xs.length < 100000) (by decide), _, _, g4.app D ⟨d4.imp fun L' n => ⟨g.kp.none g.D n, fun z => by rw [z, g.hF] at n; cases n⟩, gd, Nat.le_trans l1 (by decide)⟩, by rw [List.length_append, hl]; rfl⟩
    -- rules that people write
    refine next_go ?_
    refine q_put ?_
    refine ⟨_, rfl, a, b, rfl, D1, fun F0 xs1 rs1 H2 g2 h4 h9 => ?_⟩
    have g1 : G1 a b F0 2 H H2 xs1 rs1 := by
      have := g2.le (m := 2) (by decide)
      exact ⟨k1.trans this.kp, this.D, k1.none D1 this.nf, this.hF, prd_imp (fun _ _ z => ⟨z.1.imp fun L hL => ⟨k1.none D1 hL.1, hL.2⟩, z.2⟩) this.dr⟩
    refine Evl.q_cut (M := fun σ' H' => ∃ (c2 c4 c5 c6 c7 c8 : Option V) (xs : List V) (rs : List RuleD), σ' = [some (.ref a), some (.int (m : Int)), c2, some (.ref F0), c4, c5, c6, c7, c8] ∧ G1 a b F0 4 H H' xs rs ∧ rs.length ≤ 11) ?_ (fun σ' H' hh => ?_)
    · refine ⟨_, rfl, a, b, 3, rfl, g1.D, by decide, by decide, fun r3 H3 s0 s1 k3 D3 => ⟨r3, rfl, by omega, by omega, ?_⟩⟩
      refine for_range (lo := 0) (n := r3.toNat) (fun i σ' H' => ∃ (c2 c4 c5 c6 c7 c8 : Option V) (xs : List V) (rs : List RuleD), σ' = [some (.ref a), some (.int (m : Int)), c2, some (.ref F0), c4, c5, c6, c7, c8] ∧ G1 a b F0 (2 + i) H H' xs rs ∧ 1 ≤ rs.length ∧ rs.length ≤ 9 + i)
        ⟨_, _, _, _, _, _, xs1, rs1, rfl, g1.mv D k3 D3, by omega, h9⟩ ?_ (fun σ' H' ⟨c2, c4, c5, c6, c7, c8, xs, rs, e, g, _, h⟩ => ⟨c2, c4, c5, c6, c7, c8, xs, rs, e, g.le (by omega), by omega⟩)
      rintro i σ' Ha hi ⟨c2, c4, c5, c6, c7, c8, xs, rs, rfl, g, hl1, hl⟩
      have lx := paired_len g.dr
      -- which one, and how
      refine ⟨_, rfl, _, rfl, F0, xs, rfl, .inl (Evl.sq_of g.hF), a, b, (xs.length : Int), rfl, g.D, by omega, by omega, fun at_ Hb t0 t1 kb Db => ?_⟩
      have gb := g.mv D kb Db
      obtain ⟨j, rfl⟩ := Int.eq_ofNat_of_zero_le t0
      have hj : j < xs.length := by omega
      refine ⟨_, rfl, a, b, 4, rfl, gb.D, by decide, by decide, fun fm Hc f0 f1 kc Dc => ⟨_, _, rfl, ?_⟩⟩
      have gc := gb.mv D kc Dc
      refine nx_go ?_
      obtain ⟨x, hx⟩ : ∃ x, xs[j]? = some x := ⟨_, List.getElem?_eq_getElem hj⟩
      obtain ⟨rr, hrr, ⟨t, l1, l2, rfl, ht, hl1', hl2', sl1, sl2⟩, gd, tl⟩ := prd_at gc.dr hx
      refine q_put ?_
      refine (Evl.ev_op (x := .ref F0) (y := .int (j : Int)) (z := .ref t) (Evl.ev_var rfl) (Evl.ev_var rfl) (Evl.rv_ixL (Evl.sq_of gc.hF) (atI_nat hx))) Hc (Ex.refl _) _ fun Hd ed => ?_
      have gdd := gc.ex ed
      have h1 := ed _ _ hl1'
      have h2 := ed _ _ hl2'
      refine ⟨t, _, rfl, Evl.st_of (ed _ _ ht), rfl, _, _, rfl, _, _, rfl, _, _, rfl, rfl, ?_⟩
      have na1 := D.nea sl1.1
      have nb1 := D.neb sl1.1
      have na2 := D.nea sl2.1
      have nb2 := D.neb sl2.1
      have nw : ∀ {H1 : Hp} {l : Addr}, G1 a b F0 (2 + i) H H1 xs rs → H1 l = none → H l = none ∧ l ≠ F0 := fun g n => ⟨g.kp.none g.D n, fun z => by rw [z, g.hF] at n; cases n⟩
      have ixj : ixN xs.length (j : Int) = some j := Evl.ixN_nat hj
      have lrj : j < rs.length := by omega
      refine Evl.s_if (b := decide (V.int fm = V.int 0)) (Evl.et_test (Evl.ev_op (Evl.ev_var rfl) Evl.ev_c (Evl.rv_eq rfl))) (fun hb He ee => ?_) (fun hb He ee => ?_)
      · -- the first test left out
        have ge := gdd.ex ee
        refine ⟨_, rfl, _, rfl, 1, rfl, l1, _, rfl, Evl.sq_of (ee _ _ h1), fun l3 n3 => ⟨_, rfl, sz (by show 3 ≤ 5; decide), fun p np => ?_⟩⟩
        have ec : cutV (rr.ts.map V.str) (some 1) none = (rr.ts.drop 1).map V.str := by
          rw [List.map_drop]
          exact cut_from _ 1
        have e3 : Ex He (upd He l3 (.lst (cutV (rr.ts.map V.str) (some 1) none))) := Ex.new n3
        have g3 := ge.ex e3
        have e4 : Ex (upd He l3 (.lst (cutV (rr.ts.map V.str) (some 1) none))) (upd (upd He l3 (.lst (cutV (rr.ts.map V.str) (some 1) none))) p (.tup [.str rr.k, .ref l3, .ref l2])) := Ex.new np
        have g4 := g3.ex e4
        refine ⟨_, rfl, _, rfl, F0, xs, (j : Int), j, rfl, rfl, g4.hF, ixj, ?_⟩
        have d : DrG (fun L => H L = none ∧ L ≠ F0) (2 + i) (upd (upd He l3 (.lst (cutV (rr.ts.map V.str) (some 1) none))) p (.tup [.str rr.k, .ref l3, .ref l2])) (.ref p) ⟨rr.k, rr.ts.drop 1, rr.ds⟩ :=
          ⟨⟨p, l3, l2, rfl, upd_same, by rw [← ec]; exact e4 _ _ upd_same, e4 _ _ (e3 _ _ (ee _ _ h2)), nw ge n3, sl2⟩, ⟨gd.k, fun z hz => gd.ts z (List.mem_of_mem_drop hz), gd.ds, by show (rr.ts.drop 1).length ≤ 1000; rw [List.length_drop]; omega, gd.nd⟩, by show (rr.ts.drop 1).length ≤ 2 + i; rw [List.length_drop]; omega⟩
        exact ⟨_, _, _, _, _, _, _, _, rfl, (g4.set D j d).le (by omega), by rw [List.length_set]; exact hl1, by rw [List.length_set]; omega⟩
      refine Evl.s_if (b := decide (V.int fm = V.int 1)) (Evl.et_test (Evl.ev_op (Evl.ev_var rfl) Evl.ev_c (Evl.rv_eq rfl))) (fun hb2 Hf ef => ?_) (fun hb2 Hf ef => ?_)
      · -- a test more
        have gf := (gdd.ex ee).ex ef
        refine ⟨_, rfl, _, rfl, _, rfl, _, rfl, a, b, rr.k, rfl, gf.D, gd.k, fun z Hg hz kg Dg => ⟨sz (by show 1 ≤ 5; decide), fun l3 n3 => ?_⟩⟩
        have gg := gf.mv D kg Dg
        have h1g := kg _ _ na1 nb1 (ef _ _ (ee _ _ h1))
        have h2g := kg _ _ na2 nb2 (ef _ _ (ee _ _ h2))
        have e3 : Ex Hg (upd Hg l3 (.lst [.str z])) := Ex.new n3
        refine ⟨l1, l3, _, _, rfl, rfl, e3 _ _ h1g, upd_same, size_of (by rw [List.length_map]; show rr.ts.length + 1 ≤ 100000; omega), fun l4 n4 => ⟨_, rfl, sz (by show 3 ≤ 5; decide), fun p np => ?_⟩⟩
        have g3 := gg.ex e3
        have e4 : Ex (upd Hg l3 (.lst [.str z])) (upd (upd Hg l3 (.lst [.str z])) l4 (.lst (rr.ts.map V.str ++ [.str z]))) := Ex.new n4
        have g4 := g3.ex e4
        have e5 : Ex (upd (upd Hg l3 (.lst [.str z])) l4 (.lst (rr.ts.map V.str ++ [.str z]))) (upd (upd (upd Hg l3 (.lst [.str z])) l4 (.lst (rr.ts.map V.str ++ [.str z]))) p (.tup [.str rr.k, .ref l4, .ref l2])) := Ex.new np
        have g5 := g4.ex e5
        refine ⟨_, rfl, _, rfl, F0, xs, (j : Int), j, rfl, rfl, g5.hF, ixj, ?_⟩
        have d : DrG (fun L => H L = none ∧ L ≠ F0) (2 + (i + 1)) (upd (upd (upd Hg l3 (.lst [.str z])) l4 (.lst (rr.ts.map V.str ++ [.str z]))) p (.tup [.str rr.k, .ref l4, .ref l2])) (.ref p) ⟨rr.k, rr.ts ++ [z], rr.ds⟩ :=
          ⟨⟨p, l4, l2, rfl, upd_same, by rw [List.map_append]; exact e5 _ _ upd_same, e5 _ _ (e4 _ _ (e3 _ _ h2g)), nw g3 n4, sl2⟩, ⟨gd.k, fun y hy => by
            rcases List.mem_append.mp hy with hy | hy
            · exact gd.ts y hy
            · rw [List.mem_singleton.mp hy]
              exact hz, gd.ds, by show (rr.ts ++ [z]).length ≤ 1000; rw [List.length_append]; show rr.ts.length + 1 ≤ 1000; omega, gd.nd⟩, by show (rr.ts ++ [z]).length ≤ 2 + (i + 1); rw [List.length_append]; show rr.ts.length + 1 ≤ 2 + (i + 1); omega⟩
        exact ⟨_, _, _, _, _, _, _, _, rfl, (g5.le (by omega)).set D j d, by rw [List.length_set]; exact hl1, by rw [List.length_set]; omega⟩
      refine Evl.s_if (b := decide (V.int fm = V.int 2) && decide ((xs.length : Int) > 1)) (Evl.et_and (Evl.et_test (Evl.ev_op (Evl.ev_var rfl) Evl.ev_c (Evl.rv_eq rfl))) (fun _ => Evl.et_test (Evl.ev_op (Evl.ev_len (Evl.ev_var rfl) (Evl.sq_of ((gdd.ex ee).ex ef).hF)) Evl.ev_c Evl.rv_I0))) (fun hb3 Hg eg => ?_) (fun hb3 Hg eg => ?_)
      · -- one left out
        have gg := ((gdd.ex ee).ex ef).ex eg
        have h1 := of_decide_eq_true (Bool.and_eq_true_iff.mp hb3).2
        refine ⟨_, rfl, .inl ⟨rfl, _, Evl.sq_of gg.hF⟩, _, rfl, F0, xs, (j : Int), j, .ref t, rfl, rfl, gg.hF, by omega, by omega, (ixN_seq ixj).1, hx, ?_⟩
        refine nx_go ⟨_, _, _, _, _, _, _, _, rfl, (gg.le (by omega)).erase D j, ?_, ?_⟩
        · rw [List.length_eraseIdx, if_pos lrj]
          omega
        · rw [List.length_eraseIdx, if_pos lrj]
          omega
      · -- one put in
        have gg := ((gdd.ex ee).ex ef).ex eg
        refine ⟨_, rfl, .inl ⟨rfl, _, Evl.sq_of gg.hF⟩, _, rfl, _, rfl, a, b, rfl, gg.D, fun x rn Hh gdn l1 l2 kh Dh dh => ?_⟩
        have gh := gg.mv D kh Dh
        refine ⟨F0, xs, (j : Int), x, rfl, rfl, gh.hF, Evl.sz_lt (by omega), by omega, by omega, ?_⟩
        have d : DrG (fun L => H L = none ∧ L ≠ F0) (2 + (i + 1)) Hh x rn := ⟨dh.imp fun L' n => nw gg n, gdn, by omega⟩
        refine nx_go ⟨_, _, _, _, _, _, _, _, rfl, (gh.le (by omega)).ins D j d, ?_, ?_⟩
        · rw [List.length_append, List.length_append]
          show 1 ≤ (rs.take j).length + 1 + _
          omega
        · rw [List.length_append, List.length_append, List.length_take, List.length_drop]
          show min j rs.length + 1 + _ ≤ _
          omega
    · obtain ⟨c2, c4, c5, c6, c7, c8, xs, rs, rfl, g, hl⟩ := hh
      refine Evl.q_cut (M := fun σ' H' => ∃ (xs : List V) (rs : List RuleD), σ' = [some (.ref a), some (.int (m : Int)), c2, some (.ref F0), c4, c5, c6, c7, c8] ∧ G1 a b F0 4 H H' xs rs ∧ rs.length ≤ m) ?_ (fun σ' H' ⟨xs, rs, e, g, hl⟩ => ⟨.ref F0, by rw [e]; rfl, q F0 xs rs H' g hl⟩)
      refine Evl.s_while (fun n σ' H' => ∃ (xs : List V) (rs : List RuleD), n = xs.length ∧ σ' = [some (.ref a), some (.int (m : Int)), c2, some (.ref F0), c4, c5, c6, c7, c8] ∧ G1 a b F0 4 H H' xs rs ∧ rs.length ≤ 100) xs.length ⟨xs, rs, rfl, rfl, g, by omega⟩ ?_
      rintro n σ' H1 ⟨xs, rs, rfl, rfl, g, hl⟩
      have lx := paired_len g.dr
      refine ⟨decide ((xs.length : Int) > (m : Int)), Evl.et_test (Evl.ev_op (Evl.ev_len (Evl.ev_var rfl) (Evl.sq_of g.hF)) (Evl.ev_var rfl) Evl.rv_I0), fun hb H2 e2 => ?_, fun hb H2 e2 => ⟨xs, rs, rfl, g.ex e2, by have := of_decide_eq_false hb; omega⟩⟩
      have hlt := of_decide_eq_true hb
      have g2 := g.ex e2
      refine ⟨fun σ' H' => ∃ (xs2 : List V) (rs2 : List RuleD), xs2.length + 1 = xs.length ∧ σ' = [some (.ref a), some (.int (m : Int)), c2, some (.ref F0), c4, c5, c6, c7, c8] ∧ G1 a b F0 4 H H' xs2 rs2 ∧ rs2.length ≤ 100, fun σ2 H2 ⟨xs2, rs2, h1, h2⟩ => ⟨xs2.length, by omega, xs2, rs2, rfl, h2⟩, ?_⟩
      refine ⟨_, rfl, .inl ⟨rfl, _, Evl.sq_of g2.hF⟩, _, rfl, _, rfl, F0, xs, rfl, .inl (Evl.sq_of g2.hF), a, b, (xs.length : Int), rfl, g2.D, by omega, by omega, fun r H3 r0 r1 k3 D3 => ?_⟩
      obtain ⟨i, rfl⟩ := Int.eq_ofNat_of_zero_le r0
      have hi : i < xs.length := by omega
      have g3 := g2.mv D k3 D3
      obtain ⟨y, hy⟩ : ∃ y, xs[i]? = some y := ⟨_, List.getElem?_eq_getElem hi⟩
      refine ⟨F0, xs, (i : Int), i, y, rfl, rfl, g3.hF, by omega, by omega, (ixN_seq (Evl.ixN_nat hi)).1, hy, ?_⟩
      refine nx_go ⟨_, _, ?_, rfl, g3.erase D i, ?_⟩
      · rw [List.length_eraseIdx, if_pos hi]
        omega
      · exact Nat.le_trans (List.length_eraseIdx_le _ _) hl
end
end Ov


namespace Ov
open PySem PySem.Spec PyProof.Rows L2
open Evl (pss_cut tCut Ex Ev EvT EvL EvA EvU)
/-! ### stage 2's draws: the text of a plan -/
def wordsOf (r : RuleD) : List Str := (("on " : Str) ++ r.k) :: ((if r.ts = [] then [] else [("if " : Str) ++ Str.join " and " r.ts]) ++ (if r.ds = [] then [] else [("do " : Str) ++ Str.join " then " r.ds]))
def wordsT (r : RuleD) : List Str := (("on " : Str) ++ r.k) :: (if r.ts = [] then [] else [("if " : Str) ++ Str.join " and " r.ts])
theorem words_eq (r : RuleD) : wordsOf r = wordsT r ++ (if r.ds = [] then [] else [("do " : Str) ++ Str.join " then " r.ds]) := rfl
theorem words_facts {r : RuleD} (G : r.Good) : (∀ x ∈ wordsOf r, x.length ≤ 40000) ∧ (wordsOf r).length ≤ 3 ∧ (wordsT r).length ≤ 2 := by
  have n3 : (Str.ofString "on ").length = 3 := by decide +kernel
  have n4 : (Str.ofString "if ").length = 3 := by decide +kernel
  have n5 : (Str.ofString "do ").length = 3 := by decide +kernel
  have lk := kinds_len G.k
  have jt := join_small (sep := " and ") (fun x hx => testsNot_len (G.ts x hx)) (by decide) G.nt
  have jd := join_small (sep := " then ") (fun x hx => deedsOf_len (G.ds x hx)) (by decide) G.nd
  refine ⟨fun x hx => ?_, ?_, ?_⟩
  · rcases List.mem_cons.mp hx with rfl | hx
    · rw [Str.length_append]
      omega
    · rcases List.mem_append.mp hx with hx | hx
      · split at hx
        · cases hx
        · rw [List.mem_singleton.mp hx, Str.length_append]
          omega
      · split at hx
        · cases hx
        · rw [List.mem_singleton.mp hx, Str.length_append]
          omega
  · unfold wordsOf
    rw [List.length_cons, List.length_append]
    split <;> split <;> simp
  · unfold wordsT
    rw [List.length_cons]
    split <;> simp
theorem GD.lst {ds : List PyData} {n : Nat} (h : ∀ d ∈ ds, GD d n) : GD (.list ds) (n + 1) := by
  obtain ⟨h1, h2, h3⟩ := GD.all h
  exact ⟨h1, Nat.succ_le_succ h2, h3⟩
theorem GD.lstr {l : List Str} (h : Plain l) : GD (.list (l.map PyData.str)) 1 := GD.lst (n := 0) fun d hd => by
  obtain ⟨x, hx, rfl⟩ := List.mem_map.mp hd
  exact GD.str (h x hx) 0
/-- a list of texts and [] -/
theorem et_neNil {K : PySem.W.Frag} {σ : L2.St} {H : Hp} {i : Nat} {L : Addr} {l : List Str} (pl : Plain l) (hv : σ[i]? = some (some (.ref L))) (hH : H L = some (.lst (l.map V.str))) : EvT (tTest (tOp (rNeD K) (tVar i) (tLst tNil))) σ H (!l.isEmpty) :=
  Evl.et_test (Evl.ev_opL (Evl.ev_var hv) (Evl.el_lst (vs := []) Evl.ea_nil (Nat.zero_le _)) fun q H1 hq e1 H2 e2 Q k => ⟨.list (l.map PyData.str), .list [], .lst (Evl.sq_of (e2 _ _ (e1 _ _ hH))) (dp_strs l), .lst (Evl.sq_of (e2 _ _ hq)) .nil, (GD.lstr pl).shaped (by decide), (GD.lst (ds := []) (n := 0) fun d hd => (by cases hd)).shaped (by decide), by
    cases l with
    | nil => exact k H2 (Ex.refl _)
    | cons x r => exact k H2 (Ex.refl _)⟩)
section
variable {K : PySem.W.Frag} {σ : L2.St} {H : Hp} {ta tb : TE}
theorem ev_catS {x y : Str} (ha : Ev ta σ H (.str x)) (hb : Ev tb σ H (.str y)) (hz : x.length + y.length ≤ 100000) : Ev (tOp (fun x y H Q => ∃ i j, x = V.str i ∧ y = V.str j ∧ i.length + j.length ≤ sizeLine ∧ Q (V.str (i ++ j)) H) ta tb) σ H (.str (x ++ y)) := Evl.ev_op ha hb fun H1 e Q q => ⟨_, _, rfl, rfl, size_of hz, q H1 (Ex.refl _)⟩
theorem ev_catV {a : Addr} {xs ys : List V} (ha : Ev ta σ H (.ref a)) (hx : H a = some (.lst xs)) (hb : EvL tb σ H ys) (hz : xs.length + ys.length ≤ sizeLine) : EvP (tOp rCat ta tb) σ H (fun p H2 => H2 p = some (.lst (xs ++ ys))) := fun H1 e1 Q q =>
  ha H1 e1 _ fun H2 e2 => hb H2 (e1.trans e2) _ fun b H3 nb e3 h3 => ⟨a, b, xs, ys, rfl, rfl, ((e1.trans e2).trans e3) _ _ hx, h3, hz, fun p np => q p _ ((e2.trans e3).trans (Ex.new np)) upd_same⟩
theorem ev_catLV {b : Addr} {xs ys : List V} (ha : EvL ta σ H xs) (hb : Ev tb σ H (.ref b)) (hy : H b = some (.lst ys)) (hz : xs.length + ys.length ≤ sizeLine) : EvP (tOp rCat ta tb) σ H (fun p H2 => H2 p = some (.lst (xs ++ ys))) := fun H1 e1 Q q =>
  ha H1 e1 _ fun a H2 na e2 h2 => hb H2 (e1.trans e2) _ fun H3 e3 => ⟨a, b, xs, ys, rfl, rfl, e3 _ _ h2, ((e1.trans e2).trans e3) _ _ hy, hz, fun p np => q p _ ((e2.trans e3).trans (Ex.new np)) upd_same⟩
end
def spTextW : Sp := fun vs H Q _ => ∃ (L F : Addr) (ks : List Str) (xs : List V) (rs : List RuleD), vs = [.ref L, .ref F] ∧ H L = some (.lst (ks.map V.str)) ∧ H F = some (.lst xs) ∧ Paired (Dr (fun _ => True) H) xs rs ∧ ks.Sublist lettersL ∧ (∀ r ∈ rs, r.Good) ∧ rs.length ≤ 10 ∧ ∀ H', Ex H H' → Q (.str (planText ks rs)) H'
section
variable {P : Program} {w : World} {K : PySem.W.Frag} {mg : Str → Option Value} {base : Heap}
abbrev sText : Stmt := topS 61
theorem scText : FnScope ["_law_raising_here", "_law_some", "_law_found", "_law_sort", "_law_asked", "_law_done", "_law_words"] ["_law_raising_here", "_law_some"] (defScope sText) := ⟨rfl, rfl, rfl, by decide +kernel, rfl, by decide +kernel, by decide +kernel⟩
theorem ok_textW {f : Addr} {fd : FuncData} (F : Fun K "_law_text" "_law_text" sText f fd) (T : TxB mg) : FnOk P w K mg base CX0 1 f fd ["_law_raising_here", "_law_some"] spTextW := by
  refine F.ok scText (fun vs H Q E h => ?_) (fun cdv A outer s H vs Q E hr h => ?_)
  · obtain ⟨L, F, ks, xs, rs, rfl, _⟩ := h
    rfl
  · obtain ⟨L0, F0, ks, xs, rs, rfl, h1, h2, h4, hks, g, hz, q⟩ := h
    refine ⟨_, pss_cons (ps_set (i := 2) scText.nd rfl (.inl rfl) (pe_lst (pa_cons (pe_join pe_str (pe_op op_cat (pe_lst (pa_cons pe_str pa_nil)) (pv 0))) pa_nil)))
      (pss_cut (ps_for PassesOwn.never rfl (pi_list (pv 1)) (pg_tup (by rfl) (pgs_cons (pg_name (i := 3) scText.nd rfl (Or.inl rfl)) (pgs_cons (pg_name (i := 4) scText.nd rfl (Or.inl rfl)) (pgs_cons (pg_name (i := 5) scText.nd rfl (Or.inl rfl)) pgs_nil)))) (pss_cons (ps_set (i := 6) scText.nd rfl (.inl rfl) (pe_op op_cat (pe_lst (pa_cons (pe_op op_add_str pe_str (pv 3)) pa_nil)) (pe_ifExp (pt_cmpR (op_neD hr.units) (pv 4) (pe_lst pa_nil) (nomark _)) (pe_lst (pa_cons (pe_op op_add_str pe_str (pe_join pe_str (pv 4))) pa_nil)) (pe_lst pa_nil))))
      (pss_one (ps_expr (pe_bm PySem.F.plainAttrs_list PySem.F.slot_list_append PySem.F.type_list_append mt_append (pv 2) (pa_cons (pe_join pe_str (pe_op op_cat (pv 6) (pe_ifExp (pt_cmpR (op_neD hr.units) (pv 5) (pe_lst pa_nil) (nomark _)) (pe_lst (pa_cons (pe_op op_add_str pe_str (pe_join pe_str (pv 5))) pa_nil)) (pe_lst pa_nil)))) pa_nil))))))
      (pss_one (ps_ret (pe_join pe_str (pv 2))))), ?_⟩
    have gk := sub_good hks
    have zl := lines_len gk.1 gk.2.2 g hz
    have lx := paired_len h4
    refine Evl.q_asgL (xs := [V.str (firstLine ks)]) (Evl.el_lst (Evl.ea_cons (ev_joinP (K := K) (l := ("raise" : Str) :: ks) Evl.ev_c ?_ (raises_len gk.1 gk.2.2).1) Evl.ea_nil) (by show 1 ≤ 100000; decide)) fun L H1 nL e1 hL => ?_
    · exact (ev_catLV (xs := [V.str "raise"]) (ys := ks.map V.str) (Evl.el_lst (Evl.ea_cons Evl.ev_c Evl.ea_nil) (by show 1 ≤ 100000; decide)) (Evl.ev_var rfl) h1 (by rw [List.length_map]; exact size_of (by have := gk.1; show 1 + ks.length ≤ 100000; omega))).imp fun _ _ h => .inl (Evl.sq_of h)
    refine Evl.q_cut (M := fun σ' H' => ∃ b3 b4 b5 b6 : Option V, σ' = [some (.ref L0), some (.ref F0), some (.ref L), b3, b4, b5, b6] ∧ Ex H H' ∧ H' L = some (.lst ((firstLine ks :: rs.map ruleText).map V.str))) ?_ (fun σ' H' hh => ?_)
    · refine Evl.s_forL (a := F0) (xs := xs) (Evl.ev_var rfl) (Evl.sq_of (e1 _ _ h2)) (fun i σ' H' => ∃ b3 b4 b5 b6 : Option V, σ' = [some (.ref L0), some (.ref F0), some (.ref L), b3, b4, b5, b6] ∧ Ex H H' ∧ H' L = some (.lst ((firstLine ks :: (rs.take i).map ruleText).map V.str)))
        (fun H2 e2 => ⟨_, _, _, _, rfl, e1.trans e2, e2 _ _ hL⟩) (fun i σ' H' _ ⟨_, _, _, _, _, e, _⟩ => Evl.sq_of (e _ _ h2)) ?_ (fun σ' H' ⟨b3, b4, b5, b6, h, e, z⟩ => ⟨b3, b4, b5, b6, h, e, by
          rw [lx, List.take_length] at z
          exact z⟩)
      rintro i x σ' H' hx ⟨b3, b4, b5, b6, rfl, eH, hL'⟩
      obtain ⟨r, hr, u, tt, td, rfl, q1, q2, q3, _, _⟩ := prd_at h4 hx
      have G := g r (List.mem_of_getElem? hr)
      obtain ⟨w1, w2, w3⟩ := words_facts G
      have jt := join_small (sep := " and ") (fun x hx => testsNot_len (G.ts x hx)) (by decide) G.nt
      have jd := join_small (sep := " then ") (fun x hx => deedsOf_len (G.ds x hx)) (by decide) G.nd
      have lk := kinds_len G.k
      have n3 : (Str.ofString "on ").length = 3 := by decide +kernel
      have n4 : (Str.ofString "if ").length = 3 := by decide +kernel
      have n5 : (Str.ofString "do ").length = 3 := by decide +kernel
      refine ⟨u, _, rfl, Evl.st_of (eH _ _ q1), rfl, _, _, rfl, _, _, rfl, _, _, rfl, rfl, ?_⟩
      -- its tests
      refine q_put ?_
      refine (ev_catL (xs := [V.str (("on " : Str) ++ r.k)]) (ys := (if r.ts = [] then [] else [("if " : Str) ++ Str.join " and " r.ts]).map V.str) (Evl.el_lst (Evl.ea_cons (ev_catS Evl.ev_c (Evl.ev_var rfl) (by omega)) Evl.ea_nil) (by show 1 ≤ 100000; decide)) (fun H2 e2 => ?_) (by split; exact size_of (Nat.le_of_ble_eq_true rfl); exact size_of (Nat.le_of_ble_eq_true rfl))) H' (Ex.refl _) _ fun W H2 e2 hW => ?_
      · refine el_if (b := !r.ts.isEmpty) (et_neNil G.pt rfl (e2 _ _ (eH _ _ q2))) (fun hb => ?_) (fun hb => ?_)
        · have h0 : ¬ r.ts = [] := by
            intro z
            rw [z] at hb
            cases hb
          rw [if_neg h0]
          exact Evl.el_lst (Evl.ea_cons (ev_catS Evl.ev_c (ev_join (K := K) Evl.ev_c (Evl.ev_var rfl) (.inl (Evl.sq_of (e2 _ _ (eH _ _ q2)))) jt.1) (by omega)) Evl.ea_nil) (by show 1 ≤ 100000; decide)
        · have h0 : r.ts = [] := by
            cases e : r.ts with
            | nil => rfl
            | cons x l =>
              rw [e] at hb
              cases hb
          rw [if_pos h0]
          exact Evl.el_lst Evl.ea_nil (Nat.zero_le _)
      have e02 := eH.trans e2
      have hW2 : H2 W = some (.lst ((wordsT r).map V.str)) := hW
      have tl : (rs.take i).length ≤ 10 := by rw [List.length_take]; omega
      -- its deeds
      refine Evl.s_app (e2 _ _ hL') (Evl.ev_var rfl) (v := .str (ruleText r)) (Evl.ev_is (ev_joinP (K := K) (l := wordsOf r) Evl.ev_c ((ev_catV (xs := (wordsT r).map V.str) (ys := (if r.ds = [] then [] else [("do " : Str) ++ Str.join " then " r.ds]).map V.str) (Evl.ev_var rfl) hW2 ?_ ?_).imp fun _ _ h => .inl (Evl.sq_of (by rw [words_eq, List.map_append]; exact h))) ?_) (by rw [show Str.join " " (wordsOf r) = ruleText r from rule_text_eq r])) (by rw [List.length_map, List.length_cons, List.length_map]; omega) fun H5 e5 => ⟨_, _, _, _, rfl, (e02.trans e5).mut nL, ?_⟩
      · refine el_if (b := !r.ds.isEmpty) (et_neNil G.pd rfl (e02 _ _ q3)) (fun hb => ?_) (fun hb => ?_)
        · have h0 : ¬ r.ds = [] := by
            intro z
            rw [z] at hb
            cases hb
          rw [if_neg h0]
          exact Evl.el_lst (Evl.ea_cons (ev_catS Evl.ev_c (ev_join (K := K) Evl.ev_c (Evl.ev_var rfl) (.inl (Evl.sq_of (e02 _ _ q3))) jd.1) (by omega)) Evl.ea_nil) (by show 1 ≤ 100000; decide)
        · have h0 : r.ds = [] := by
            cases e : r.ds with
            | nil => rfl
            | cons x l =>
              rw [e] at hb
              cases hb
          rw [if_pos h0]
          exact Evl.el_lst Evl.ea_nil (Nat.zero_le _)
      · rw [List.length_map]
        refine size_of ?_
        split
        · show (wordsT r).length + 0 ≤ 100000
          omega
        · show (wordsT r).length + 1 ≤ 100000
          omega
      · have h2 := sum_small _ 40000 w1
        have e1 : (Str.ofString " ").length = 1 := by decide +kernel
        show ((wordsOf r).map (·.length)).sum + (wordsOf r).length * (Str.ofString " ").length ≤ 16777216
        rw [e1]
        omega
      · rw [upd_same, List.take_add_one, hr]
        simp
    · obtain ⟨b3, b4, b5, b6, rfl, e2, hL2⟩ := hh
      exact Evl.s_ret (v := .str (planText ks rs)) (ev_join (K := K) (l := firstLine ks :: rs.map ruleText) Evl.ev_c (Evl.ev_var rfl) (.inl (Evl.sq_of hL2)) (Nat.le_trans zl (by decide))) fun H3 e3 => q H3 (e2.trans e3)
end
end Ov


namespace Ov
open PySem PySem.Spec PyProof.Rows L2
/-! ### own rule: d.update(e) -/
def rDUpd : V → List V → Hp → VK → Prop := fun x vs H Q => ∃ (a b : Addr) (kvs ms : List (Key × V)), x = .ref a ∧ vs = [.ref b] ∧ a ≠ b ∧ H a = some (.dK kvs) ∧ H b = some (.dK ms) ∧ kvs.length + ms.length ≤ 100 ∧ Q .non (upd H a (.dK (mergeK kvs ms)))
theorem len_merge : ∀ (ms kvs : List (Key × V)), (mergeK kvs ms).length ≤ kvs.length + ms.length := length_mergeK
theorem mtd_update {X : Cx} : MtR X "dict.update" rDUpd := by
  intro pins s σ H x vs v us Q I rx rv h
  obtain ⟨a, b, kvs, ms, ex, ev, hab, ea, eb, hl, q⟩ := h
  subst ex
  subst ev
  obtain rfl : v = Value.ref a := rx
  cases rv with
  | cons r1 t =>
    cases t
    obtain rfl := (show _ = Value.ref b from r1)
    obtain ⟨z, hd, us, rel, dd⟩ := dk_of I.hok ea
    obtain ⟨z2, hd2, us2, rel2, dd2⟩ := dk_of I.hok eb
    have hs : sizeLine ≥ 100 := by rw [sizeLine_eq]; decide
    have hm : (mergeK kvs ms).length ≤ sizeLine := by
      have := len_merge ms kvs
      omega
    refine call_meetsIn PySem.F.slot_dict_update dd.typeIs PySem.F.entry_dict_update (PySem.F.args_dict_update_2 _ _) (meets_dict_update (mixKind X.prog X.w) a b hab hd2) ⟨us, us2, dd, dd2, by rw [← rel.length, ← rel2.length]; omega, fun h' dd' _ hs => ?_⟩
    have he : ∃ q, h'.get? a = some q := let ⟨q, _, _, hq, _⟩ := dd'; ⟨q, hq⟩
    exact ⟨.non, _, d_write (t' := s.toks) I (by rw [ea]; exact True.intro) hs he (dk_new hm hd (rel2.merge rel) dd'), rfl, q⟩
end Ov


namespace Ov
open PySem PySem.Spec PyProof.Rows L2
open Evl (pss_cut tCut Ex Ev EvT EvL EvA EvU)
/-! ### stage 2's world, in the heap: a dict with text keys -/
/-- what a world holds -/
structure Wd where
  ks : List Str
  rs : List RuleD
  ls : List (Str × Int × Bool)
  nw : Nat
  wh : Option Nat
  ow : Option Nat
  sh : List (Option Nat)
  gi : List Nat
  co : Option Nat
  ca : List Nat
  se : List Nat
  me : List Str
  dn : List (Option Nat)
/-- where its lists stand -/
structure Wa where
  ra : Addr
  so : Addr
  le : Addr
  sh : Addr
  gi : Addr
  ca : Addr
  se : Addr
  me : Addr
  dn : Addr
def natV (i : Nat) : V := V.int (i : Int)
def wkvs (A : Wa) (W : Wd) : List (Key × V) := [(.inr "raising", .ref A.ra), (.inr "some", .ref A.so), (.inr "letters", .ref A.le), (.inr "newest", natV W.nw), (.inr "whole", ov W.wh), (.inr "own", ov W.ow), (.inr "shows", .ref A.sh), (.inr "given", .ref A.gi), (.inr "counted", ov W.co), (.inr "came", .ref A.ca), (.inr "seen", .ref A.se), (.inr "met", .ref A.me), (.inr "done", .ref A.dn)]
section
variable (A : Wa) (W : Wd)
theorem wg_raising : valV (wkvs A W) (.inr "raising") = some (.ref A.ra) := by kernel_rfl
theorem wg_some : valV (wkvs A W) (.inr "some") = some (.ref A.so) := by kernel_rfl
theorem wg_letters : valV (wkvs A W) (.inr "letters") = some (.ref A.le) := by kernel_rfl
theorem wg_newest : valV (wkvs A W) (.inr "newest") = some (natV W.nw) := by kernel_rfl
theorem wg_whole : valV (wkvs A W) (.inr "whole") = some (ov W.wh) := by kernel_rfl
theorem wg_own : valV (wkvs A W) (.inr "own") = some (ov W.ow) := by kernel_rfl
theorem wg_shows : valV (wkvs A W) (.inr "shows") = some (.ref A.sh) := by kernel_rfl
theorem wg_given : valV (wkvs A W) (.inr "given") = some (.ref A.gi) := by kernel_rfl
theorem wg_counted : valV (wkvs A W) (.inr "counted") = some (ov W.co) := by kernel_rfl
theorem wg_came : valV (wkvs A W) (.inr "came") = some (.ref A.ca) := by kernel_rfl
theorem wg_seen : valV (wkvs A W) (.inr "seen") = some (.ref A.se) := by kernel_rfl
theorem wg_met : valV (wkvs A W) (.inr "met") = some (.ref A.me) := by kernel_rfl
theorem wg_done : valV (wkvs A W) (.inr "done") = some (.ref A.dn) := by kernel_rfl
theorem wp_newest (n : Nat) : putK (wkvs A W) (.inr "newest") (natV n) = wkvs A { W with nw := n } := by kernel_rfl
theorem wp_whole (o : Option Nat) : putK (wkvs A W) (.inr "whole") (ov o) = wkvs A { W with wh := o } := by kernel_rfl
theorem wp_own (o : Option Nat) : putK (wkvs A W) (.inr "own") (ov o) = wkvs A { W with ow := o } := by kernel_rfl
theorem wp_counted (o : Option Nat) : putK (wkvs A W) (.inr "counted") (ov o) = wkvs A { W with co := o } := by kernel_rfl
theorem wp_given (p : Addr) (l : List Nat) : putK (wkvs A W) (.inr "given") (.ref p) = wkvs { A with gi := p } { W with gi := l } := by kernel_rfl
theorem wp_came (p : Addr) (l : List Nat) : putK (wkvs A W) (.inr "came") (.ref p) = wkvs { A with ca := p } { W with ca := l } := by kernel_rfl
theorem wp_seen (p : Addr) (l : List Nat) : putK (wkvs A W) (.inr "seen") (.ref p) = wkvs { A with se := p } { W with se := l } := by kernel_rfl
theorem wp_met (p : Addr) (l : List Str) : putK (wkvs A W) (.inr "met") (.ref p) = wkvs { A with me := p } { W with me := l } := by kernel_rfl
end
/-- what does not change -/
def Wo (A : Wa) (x : Addr) : Prop := x ≠ A.le ∧ x ≠ A.sh ∧ x ≠ A.dn
/-- a letter of a world: a list of its kind, its number, and whether it is about the day -/
def LtW (S : Addr → Prop) (H : Hp) (x : V) (l : Str × Int × Bool) : Prop := ∃ p, x = V.ref p ∧ H p = some (.lst [.str l.1, .int l.2.1, .bl l.2.2]) ∧ S p
structure WorldAt (Fa : Addr → Prop) (H : Hp) (w : Addr) (A : Wa) (W : Wd) : Prop where
  hw : H w = some (.dK (wkvs A W))
  ra : H A.ra = some (.lst (W.ks.map V.str))
  so : ∃ xs, H A.so = some (.lst xs) ∧ Paired (Dr (fun x => Wo A x ∧ Fa x) H) xs W.rs
  le : ∃ xs, H A.le = some (.lst xs) ∧ Paired (LtW (fun x => Wo A x ∧ Fa x) H) xs W.ls
  sh : H A.sh = some (.lst (W.sh.map ov))
  gi : H A.gi = some (.lst (W.gi.map natV))
  ca : H A.ca = some (.lst (W.ca.map natV))
  se : H A.se = some (.lst (W.se.map natV))
  me : H A.me = some (.lst (W.me.map V.str))
  dn : H A.dn = some (.lst (W.dn.map ov))
  ne : A.le ≠ A.sh ∧ A.le ≠ A.dn ∧ A.sh ≠ A.dn
  st : Wo A A.ra ∧ Wo A A.so ∧ Wo A A.gi ∧ Wo A A.ca ∧ Wo A A.se ∧ Wo A A.me
  fa : Fa w ∧ Fa A.ra ∧ Fa A.so ∧ Fa A.le ∧ Fa A.sh ∧ Fa A.gi ∧ Fa A.ca ∧ Fa A.se ∧ Fa A.me ∧ Fa A.dn
section
variable {Fa : Addr → Prop} {H H' : Hp} {w : Addr} {A : Wa} {W : Wd}
theorem WorldAt.mono (g : WorldAt Fa H w A W) (h : ∀ x o, Fa x → H x = some o → H' x = some o) (ht : ∀ x zs, H x = some (.tup zs) → H' x = some (.tup zs)) : WorldAt Fa H' w A W := by
  obtain ⟨f1, f2, f3, f4, f5, f6, f7, f8, f9, f10⟩ := g.fa
  obtain ⟨xs, s1, s2⟩ := g.so
  obtain ⟨ys, l1, l2⟩ := g.le
  exact ⟨h _ _ f1 g.hw, h _ _ f2 g.ra, ⟨xs, h _ _ f3 s1, prd_imp (fun _ _ ⟨t, a1, a2, e, q1, q2, q3, q4, q5⟩ => ⟨t, a1, a2, e, ht _ _ q1, h _ _ q4.2 q2, h _ _ q5.2 q3, q4, q5⟩) s2⟩,
    ⟨ys, h _ _ f4 l1, prd_imp (fun _ _ ⟨p, e, q1, q2⟩ => ⟨p, e, h _ _ q2.2 q1, q2⟩) l2⟩, h _ _ f5 g.sh, h _ _ f6 g.gi, h _ _ f7 g.ca, h _ _ f8 g.se, h _ _ f9 g.me, h _ _ f10 g.dn, g.ne, g.st, g.fa⟩
theorem WorldAt.ex (g : WorldAt Fa H w A W) (e : Ex H H') : WorldAt Fa H' w A W := g.mono (fun x o _ => e x o) fun x zs => e x _
theorem WorldAt.kp {a b : Addr} (g : WorldAt Fa H w A W) (hF : ∀ x, Fa x → x ≠ a ∧ x ≠ b) (k : Kp a b H H') (D : Deal H a b) : WorldAt Fa H' w A W :=
  g.mono (fun x o f => k x o (hF x f).1 (hF x f).2) fun x zs hz => k x _ (D.netup hz).1 (D.netup hz).2 hz
/-- a key stored anew -/
theorem WorldAt.put (g : WorldAt Fa H w A W) {o : HO} {x : Addr} {l : List V} (h : H x = some (.lst l)) : upd H w o x = some (.lst l) := by
  rw [upd_ne (ne_of h g.hw fun z => nomatch z)]
  exact h
theorem WorldAt.putT (g : WorldAt Fa H w A W) {o : HO} {x : Addr} {l : List V} (h : H x = some (.tup l)) : upd H w o x = some (.tup l) := by
  rw [upd_ne (ne_of h g.hw fun z => nomatch z)]
  exact h
theorem WorldAt.anew (g : WorldAt Fa H w A W) {A' : Wa} {W' : Wd} (h1 : A'.ra = A.ra ∧ A'.so = A.so ∧ A'.le = A.le ∧ A'.sh = A.sh ∧ A'.dn = A.dn) (h2 : W'.ks = W.ks ∧ W'.rs = W.rs ∧ W'.ls = W.ls ∧ W'.sh = W.sh ∧ W'.dn = W.dn)
    (gi : H A'.gi = some (.lst (W'.gi.map natV)) ∧ Wo A A'.gi ∧ Fa A'.gi) (ca : H A'.ca = some (.lst (W'.ca.map natV)) ∧ Wo A A'.ca ∧ Fa A'.ca) (se : H A'.se = some (.lst (W'.se.map natV)) ∧ Wo A A'.se ∧ Fa A'.se) (me : H A'.me = some (.lst (W'.me.map V.str)) ∧ Wo A A'.me ∧ Fa A'.me) :
    WorldAt Fa (upd H w (.dK (wkvs A' W'))) w A' W' := by
  obtain ⟨f1, f2, f3, f4, f5, f6, f7, f8, f9, f10⟩ := g.fa
  obtain ⟨st1, st2, _⟩ := g.st
  obtain ⟨xs, s1, s2⟩ := g.so
  obtain ⟨ys, l1, l2⟩ := g.le
  obtain ⟨e1, e2, e3, e4, e5⟩ := h1
  obtain ⟨w1, w2, w3, w4, w5⟩ := h2
  have wo : ∀ x, Wo A x → Wo A' x := fun x ⟨z1, z2, z3⟩ => ⟨by rw [e3]; exact z1, by rw [e4]; exact z2, by rw [e5]; exact z3⟩
  refine ⟨upd_same, by rw [e1, w1]; exact g.put g.ra, ⟨xs, by rw [e2]; exact g.put s1, by
    rw [w2]
    exact prd_imp (fun _ _ ⟨t, a1, a2, e, q1, q2, q3, q4, q5⟩ => ⟨t, a1, a2, e, g.putT q1, g.put q2, g.put q3, ⟨wo _ q4.1, q4.2⟩, ⟨wo _ q5.1, q5.2⟩⟩) s2⟩, ⟨ys, by rw [e3]; exact g.put l1, by
    rw [w3]
    exact prd_imp (fun _ _ ⟨p, e, q1, q2⟩ => ⟨p, e, g.put q1, ⟨wo _ q2.1, q2.2⟩⟩) l2⟩, by rw [e4, w4]; exact g.put g.sh, g.put gi.1, g.put ca.1, g.put se.1, g.put me.1, by rw [e5, w5]; exact g.put g.dn, ?_, ?_, ?_⟩
  · rw [e3, e4, e5]
    exact g.ne
  · rw [e1, e2]
    exact ⟨wo _ st1, wo _ st2, wo _ gi.2.1, wo _ ca.2.1, wo _ se.2.1, wo _ me.2.1⟩
  · rw [e1, e2, e3, e4, e5]
    exact ⟨f1, f2, f3, f4, f5, gi.2.2, ca.2.2, se.2.2, me.2.2, f10⟩
theorem WorldAt.keepGi (g : WorldAt Fa H w A W) : H A.gi = some (.lst (W.gi.map natV)) ∧ Wo A A.gi ∧ Fa A.gi := ⟨g.gi, g.st.2.2.1, g.fa.2.2.2.2.2.1⟩
theorem WorldAt.keepCa (g : WorldAt Fa H w A W) : H A.ca = some (.lst (W.ca.map natV)) ∧ Wo A A.ca ∧ Fa A.ca := ⟨g.ca, g.st.2.2.2.1, g.fa.2.2.2.2.2.2.1⟩
theorem WorldAt.keepSe (g : WorldAt Fa H w A W) : H A.se = some (.lst (W.se.map natV)) ∧ Wo A A.se ∧ Fa A.se := ⟨g.se, g.st.2.2.2.2.1, g.fa.2.2.2.2.2.2.2.1⟩
theorem WorldAt.keepMe (g : WorldAt Fa H w A W) : H A.me = some (.lst (W.me.map V.str)) ∧ Wo A A.me ∧ Fa A.me := ⟨g.me, g.st.2.2.2.2.2, g.fa.2.2.2.2.2.2.2.2.1⟩
end
section
variable {K : PySem.W.Frag} {σ : L2.St} {H : Hp} {td : TE} {w : Addr} {kvs : List (Key × V)} {x : Str} {v : V}
/-- what stands under a key -/
theorem ev_wget (h : Ev td σ H (.ref w)) (hw : H w = some (.dK kvs)) (hv : valV kvs (.inr x) = some v) : Ev (tDGet td (tC (.str x))) σ H v := fun H1 e1 Q q => h H1 e1 _ fun H2 e2 => ⟨w, v, rfl, by
  rw [← hv]
  exact DGet.k (k := .inr x) ((e1.trans e2) _ _ hw), q H2 e2⟩
end
def wstart (ks : List Str) (rs : List RuleD) : Wd := ⟨ks, rs, [("ask", 0, true)], 0, none, none, [none], [], none, [], [], [], []⟩
def Wd.view (W : Wd) : Option Nat := if W.ow ≠ none then W.ow else W.wh
def spWorld : Sp := fun vs H Q _ => ∃ (L F : Addr) (ks : List Str) (xs : List V) (rs : List RuleD) (Fa : Addr → Prop), vs = [.ref L, .ref F] ∧ H L = some (.lst (ks.map V.str)) ∧ H F = some (.lst xs) ∧ Paired (Dr Fa H) xs rs ∧ Fa L ∧ Fa F ∧ (∀ x, H x = none → Fa x) ∧
  ∀ (w : Addr) (A : Wa) (H' : Hp), Ex H H' → WorldAt Fa H' w A (wstart ks rs) → H w = none ∧ H A.le = none ∧ H A.sh = none ∧ H A.dn = none → Q (.ref w) H'
def spView : Sp := fun vs H Q _ => ∃ (w : Addr) (A : Wa) (W : Wd), vs = [.ref w] ∧ H w = some (.dK (wkvs A W)) ∧ ∀ H', Ex H H' → Q (ov W.view) H'
section
variable {P : Program} {w : World} {K : PySem.W.Frag} {mg : Str → Option Value} {base : Heap}
abbrev sView : Stmt := topS 63
theorem scView : FnScope ["_law_world_here"] ["_law_world_here"] (defScope sView) := ⟨rfl, rfl, rfl, by decide +kernel, rfl, by decide +kernel, by decide +kernel⟩
theorem ok_view {f : Addr} {fd : FuncData} (F : Fun K "_law_view" "_law_view" sView f fd) : FnOk P w K mg base CX0 1 f fd ["_law_world_here"] spView := by
  refine F.ok scView (fun vs H Q E h => ?_) (fun cdv A outer s H vs Q E hr h => ?_)
  · obtain ⟨w, A, W, rfl, _⟩ := h
    rfl
  · obtain ⟨wa, Aw, W, rfl, hw, q⟩ := h
    have hu : (A.deeper (envOfC "_law_view" (defScope sView) s.heap.objs.size f cdv)).units + 1 < cLine := by
      have := hr.units
      omega
    refine ⟨_, pss_one (ps_ret (pe_ifExp (pt_cmpR op_notN (pe_dget hu (pv 0) pe_str (fun _ _ => rfl)) pe_non (nomark _)) (pe_dget hu (pv 0) pe_str (fun _ _ => rfl)) (pe_dget hu (pv 0) pe_str (fun _ _ => rfl)))), ?_⟩
    refine Evl.s_ret (v := ov W.view) (Evl.ev_if (b := !decide (ov W.ow = V.non)) (Evl.et_test (Evl.ev_op (ev_wget (Evl.ev_var rfl) hw (wg_own Aw W)) Evl.ev_c rv_notN)) (fun hb => ?_) (fun hb => ?_)) fun H1 e1 => q H1 e1
    · have e : W.view = W.ow := by
        unfold Wd.view
        cases h : W.ow with
        | none =>
          rw [h] at hb
          cases hb
        | some i => rfl
      rw [e]
      exact ev_wget (Evl.ev_var rfl) hw (wg_own Aw W)
    · have e : W.view = W.wh := by
        unfold Wd.view
        cases h : W.ow with
        | none => rfl
        | some i =>
          rw [h] at hb
          cases hb
      rw [e]
      exact ev_wget (Evl.ev_var rfl) hw (wg_whole Aw W)
abbrev sWorld : Stmt := topS 62
theorem scWorld : FnScope ["_law_raising_here", "_law_some", "_law_world_here"] ["_law_raising_here", "_law_some"] (defScope sWorld) := ⟨rfl, rfl, rfl, by decide +kernel, rfl, by decide +kernel, by decide +kernel⟩
theorem wk_first (L F l : Addr) : mergeK [] [((.inr "raising" : Key), V.ref L), (.inr "some", .ref F), (.inr "letters", .ref l), (.inr "newest", .int 0)] = [((.inr "raising" : Key), V.ref L), (.inr "some", .ref F), (.inr "letters", .ref l), (.inr "newest", .int 0)] := by kernel_rfl
theorem wk_second (s : Addr) : mergeK [] [((.inr "whole" : Key), V.non), (.inr "own", .non), (.inr "shows", .ref s)] = [((.inr "whole" : Key), V.non), (.inr "own", .non), (.inr "shows", .ref s)] := by kernel_rfl
theorem wk_third (g c s m d : Addr) : mergeK [] [((.inr "given" : Key), V.ref g), (.inr "counted", .non), (.inr "came", .ref c), (.inr "seen", .ref s), (.inr "met", .ref m), (.inr "done", .ref d)] = [((.inr "given" : Key), V.ref g), (.inr "counted", .non), (.inr "came", .ref c), (.inr "seen", .ref s), (.inr "met", .ref m), (.inr "done", .ref d)] := by kernel_rfl
theorem wk_two (L F l s : Addr) : mergeK [((.inr "raising" : Key), V.ref L), (.inr "some", .ref F), (.inr "letters", .ref l), (.inr "newest", .int 0)] [((.inr "whole" : Key), V.non), (.inr "own", .non), (.inr "shows", .ref s)] = [((.inr "raising" : Key), V.ref L), (.inr "some", .ref F), (.inr "letters", .ref l), (.inr "newest", .int 0), (.inr "whole", .non), (.inr "own", .non), (.inr "shows", .ref s)] := by kernel_rfl
theorem wk_all (L F l s g c e m d : Addr) (ks : List Str) (rs : List RuleD) : mergeK [((.inr "raising" : Key), V.ref L), (.inr "some", .ref F), (.inr "letters", .ref l), (.inr "newest", .int 0), (.inr "whole", .non), (.inr "own", .non), (.inr "shows", .ref s)] [((.inr "given" : Key), V.ref g), (.inr "counted", .non), (.inr "came", .ref c), (.inr "seen", .ref e), (.inr "met", .ref m), (.inr "done", .ref d)] = wkvs ⟨L, F, l, s, g, c, e, m, d⟩ (wstart ks rs) := by kernel_rfl
theorem ok_world {f : Addr} {fd : FuncData} (F : Fun K "_law_world" "_law_world" sWorld f fd) : FnOk P w K mg base CX0 1 f fd ["_law_raising_here", "_law_some"] spWorld := by
  refine F.ok scWorld (fun vs H Q E h => ?_) (fun cdv A outer s H vs Q E hr h => ?_)
  · obtain ⟨L, F, ks, xs, rs, Fa, rfl, _⟩ := h
    rfl
  · obtain ⟨L0, F0, ks, xs, rs, Fa, rfl, hL, hF, hR, fL, fF, fN, q⟩ := h
    refine ⟨_, pss_cons (ps_set (i := 2) scWorld.nd rfl (.inl rfl) (pe_disp (pps_cons pe_str (pv 0) (pps_cons pe_str (pv 1) (pps_cons pe_str (pe_lst (pa_cons (pe_lst (pa_cons pe_str (pa_cons pe_int (pa_cons pe_bl pa_nil)))) pa_nil)) (pps_cons pe_str pe_int pps_nil)))) (by rfl) (by rfl) (fun z => by cases z) (by decide)))
      (pss_cons (ps_expr (pe_bm PySem.F.plainAttrs_dict PySem.F.slot_dict_update PySem.F.type_dict_update mtd_update (pv 2) (pa_cons (pe_disp (pps_cons pe_str pe_non (pps_cons pe_str pe_non (pps_cons pe_str (pe_lst (pa_cons pe_non pa_nil)) pps_nil))) (by rfl) (by rfl) (fun z => by cases z) (by decide)) pa_nil)))
      (pss_cons (ps_expr (pe_bm PySem.F.plainAttrs_dict PySem.F.slot_dict_update PySem.F.type_dict_update mtd_update (pv 2) (pa_cons (pe_disp (pps_cons pe_str (pe_lst pa_nil) (pps_cons pe_str pe_non (pps_cons pe_str (pe_lst pa_nil) (pps_cons pe_str (pe_lst pa_nil) (pps_cons pe_str (pe_lst pa_nil) (pps_cons pe_str (pe_lst pa_nil) pps_nil)))))) (by rfl) (by rfl) (fun z => by cases z) (by decide)) pa_nil)))
      (pss_one (ps_ret (pv 2))))), ?_⟩
    have sz : ∀ {n : Nat}, n ≤ 5 → n ≤ sizeLine := fun h => size_of (by omega)
    -- the first four
    refine q_put ?_
    intro wa nw
    refine ⟨_, rfl, _, rfl, sz (by show 3 ≤ 5; decide), fun l1 n1 => ⟨sz (by show 1 ≤ 5; decide), fun le n2 => ?_⟩⟩
    have e0 : Ex H (upd H wa (.dK [])) := Ex.new nw
    have e1 : Ex (upd H wa (.dK [])) (upd (upd H wa (.dK [])) l1 (.lst [.str "ask", .int 0, .bl true])) := Ex.new n1
    have e2 : Ex (upd (upd H wa (.dK [])) l1 (.lst [.str "ask", .int 0, .bl true])) (upd (upd (upd H wa (.dK [])) l1 (.lst [.str "ask", .int 0, .bl true])) le (.lst [.ref l1])) := Ex.new n2
    have hd0 : upd H wa (.dK []) wa = some (.dK []) := upd_same
    have hw0 := (e1.trans e2) _ _ hd0
    have n1H : H l1 = none := Evl.fresh_back e0 n1
    have n2H : H le = none := Evl.fresh_back (e0.trans e1) n2
    have w1 : wa ≠ l1 := ne_of_none hd0 n1
    have w2 : wa ≠ le := ne_of_none (e1 _ _ hd0) n2
    have l12 : l1 ≠ le := ne_of_none upd_same n2
    have hl1 := e2 _ _ (upd_same (H := upd H wa (.dK [])) (a := l1) (o := .lst [.str "ask", .int 0, .bl true]))
    have hle : (upd (upd (upd H wa (.dK [])) l1 (.lst [.str "ask", .int 0, .bl true])) le (.lst [.ref l1])) le = some (.lst [.ref l1]) := upd_same
    have e02 := (e0.trans e1).trans e2
    generalize upd (upd (upd H wa (.dK [])) l1 (.lst [.str "ask", .int 0, .bl true])) le (.lst [.ref l1]) = Ha at e02 hw0 hl1 hle ⊢
    refine ⟨hw0, [((.inr "raising" : Key), V.ref L0), (.inr "some", .ref F0), (.inr "letters", .ref le), (.inr "newest", .int 0)], rfl, Nat.le_of_ble_eq_true rfl, ?_⟩
    rw [wk_first]
    have x1 : Ex H (upd Ha wa (.dK [((.inr "raising" : Key), V.ref L0), (.inr "some", .ref F0), (.inr "letters", .ref le), (.inr "newest", .int 0)])) := e02.mut nw
    have hw1 : upd Ha wa (.dK [((.inr "raising" : Key), V.ref L0), (.inr "some", .ref F0), (.inr "letters", .ref le), (.inr "newest", .int 0)]) wa = some (.dK [((.inr "raising" : Key), V.ref L0), (.inr "some", .ref F0), (.inr "letters", .ref le), (.inr "newest", .int 0)]) := upd_same
    have hl1' : upd Ha wa (.dK [((.inr "raising" : Key), V.ref L0), (.inr "some", .ref F0), (.inr "letters", .ref le), (.inr "newest", .int 0)]) l1 = some (.lst [.str "ask", .int 0, .bl true]) := by rw [upd_ne w1.symm]; exact hl1
    have hle' : upd Ha wa (.dK [((.inr "raising" : Key), V.ref L0), (.inr "some", .ref F0), (.inr "letters", .ref le), (.inr "newest", .int 0)]) le = some (.lst [.ref l1]) := by rw [upd_ne w2.symm]; exact hle
    generalize upd Ha wa (.dK [((.inr "raising" : Key), V.ref L0), (.inr "some", .ref F0), (.inr "letters", .ref le), (.inr "newest", .int 0)]) = Hb at x1 hw1 hl1' hle' ⊢
    -- three more
    refine ⟨_, rfl, .inr (.inr (.inl ⟨rfl, .inl ⟨_, hw1⟩⟩)), fun d1 nd1 => ⟨sz (by show 1 ≤ 5; decide), fun sh n3 => ?_⟩⟩
    have y1 : Ex Hb (upd Hb d1 (.dK [])) := Ex.new nd1
    have y2 : Ex (upd Hb d1 (.dK [])) (upd (upd Hb d1 (.dK [])) sh (.lst [.non])) := Ex.new n3
    have hd1 : upd Hb d1 (.dK []) d1 = some (.dK []) := upd_same
    have n3b : Hb sh = none := Evl.fresh_back y1 n3
    have nd1H : H d1 = none := Evl.fresh_back x1 nd1
    have n3H : H sh = none := Evl.fresh_back x1 n3b
    have wd1 : wa ≠ d1 := ne_of_none hw1 nd1
    have y3 : Ex Hb (upd (upd (upd Hb d1 (.dK [])) sh (.lst [.non])) d1 (.dK [((.inr "whole" : Key), V.non), (.inr "own", .non), (.inr "shows", .ref sh)])) := (y1.trans y2).mut nd1
    have hsh : upd (upd (upd Hb d1 (.dK [])) sh (.lst [.non])) d1 (.dK [((.inr "whole" : Key), V.non), (.inr "own", .non), (.inr "shows", .ref sh)]) sh = some (.lst [.non]) := by
      rw [upd_ne (ne_of_none hd1 n3).symm]
      exact upd_same
    refine ⟨y2 _ _ hd1, [((.inr "whole" : Key), V.non), (.inr "own", .non), (.inr "shows", .ref sh)], rfl, Nat.le_of_ble_eq_true rfl, ?_⟩
    rw [wk_second]
    have hd1' : upd (upd (upd Hb d1 (.dK [])) sh (.lst [.non])) d1 (.dK [((.inr "whole" : Key), V.non), (.inr "own", .non), (.inr "shows", .ref sh)]) d1 = some (.dK [((.inr "whole" : Key), V.non), (.inr "own", .non), (.inr "shows", .ref sh)]) := upd_same
    generalize upd (upd (upd Hb d1 (.dK [])) sh (.lst [.non])) d1 (.dK [((.inr "whole" : Key), V.non), (.inr "own", .non), (.inr "shows", .ref sh)]) = Hc at y3 hsh hd1' ⊢
    refine ⟨wa, d1, _, _, rfl, rfl, wd1, y3 _ _ hw1, hd1', Nat.le_of_ble_eq_true rfl, ?_⟩
    rw [wk_two]
    refine nx_go ?_
    have x2 : Ex H (upd Hc wa (.dK [((.inr "raising" : Key), V.ref L0), (.inr "some", .ref F0), (.inr "letters", .ref le), (.inr "newest", .int 0), (.inr "whole", .non), (.inr "own", .non), (.inr "shows", .ref sh)])) := (x1.trans y3).mut nw
    have hw2 : upd Hc wa (.dK [((.inr "raising" : Key), V.ref L0), (.inr "some", .ref F0), (.inr "letters", .ref le), (.inr "newest", .int 0), (.inr "whole", .non), (.inr "own", .non), (.inr "shows", .ref sh)]) wa = some (.dK [((.inr "raising" : Key), V.ref L0), (.inr "some", .ref F0), (.inr "letters", .ref le), (.inr "newest", .int 0), (.inr "whole", .non), (.inr "own", .non), (.inr "shows", .ref sh)]) := upd_same
    have up2 : ∀ {x : Addr} {l : List V}, Hc x = some (.lst l) → upd Hc wa (.dK [((.inr "raising" : Key), V.ref L0), (.inr "some", .ref F0), (.inr "letters", .ref le), (.inr "newest", .int 0), (.inr "whole", .non), (.inr "own", .non), (.inr "shows", .ref sh)]) x = some (.lst l) := fun h => by
      rw [upd_ne (ne_of h (y3 _ _ hw1) fun z => nomatch z)]
      exact h
    have hl1c := up2 (y3 _ _ hl1')
    have hlec := up2 (y3 _ _ hle')
    have hshc := up2 hsh
    generalize upd Hc wa (.dK [((.inr "raising" : Key), V.ref L0), (.inr "some", .ref F0), (.inr "letters", .ref le), (.inr "newest", .int 0), (.inr "whole", .non), (.inr "own", .non), (.inr "shows", .ref sh)]) = Hd at x2 hw2 hl1c hlec hshc ⊢
    -- six more
    refine ⟨_, rfl, .inr (.inr (.inl ⟨rfl, .inl ⟨_, hw2⟩⟩)), fun d2 nd2 => ⟨sz (by show 0 ≤ 5; decide), fun gi m1 => ⟨sz (by show 0 ≤ 5; decide), fun ca m2 => ⟨sz (by show 0 ≤ 5; decide), fun se m3 => ⟨sz (by show 0 ≤ 5; decide), fun me m4 => ⟨sz (by show 0 ≤ 5; decide), fun dn m5 => ?_⟩⟩⟩⟩⟩⟩
    have z0 : Ex Hd (upd Hd d2 (.dK [])) := Ex.new nd2
    have z1 := z0.trans (Ex.new (o := .lst []) m1)
    have z2 := z1.trans (Ex.new (o := .lst []) m2)
    have z3 := z2.trans (Ex.new (o := .lst []) m3)
    have z4 := z3.trans (Ex.new (o := .lst []) m4)
    have z5 := z4.trans (Ex.new (o := .lst []) m5)
    have hd2 : upd Hd d2 (.dK []) d2 = some (.dK []) := upd_same
    have c1 : Hd gi = none := Evl.fresh_back z0 m1
    have c2 : Hd ca = none := Evl.fresh_back z1 m2
    have c3 : Hd se = none := Evl.fresh_back z2 m3
    have c4 : Hd me = none := Evl.fresh_back z3 m4
    have c5 : Hd dn = none := Evl.fresh_back z4 m5
    have k1 : gi ≠ dn := ne_of_none ((Ex.new m4) _ _ ((Ex.new m3) _ _ ((Ex.new m2) _ _ upd_same))) m5
    have k2 : ca ≠ dn := ne_of_none ((Ex.new m4) _ _ ((Ex.new m3) _ _ upd_same)) m5
    have k3 : se ≠ dn := ne_of_none ((Ex.new m4) _ _ upd_same) m5
    have k4 : me ≠ dn := ne_of_none upd_same m5
    have t1 := Ex.new (o := .lst []) m1
    have t2 := Ex.new (o := .lst []) m2
    have t3 := Ex.new (o := .lst []) m3
    have t4 := Ex.new (o := .lst []) m4
    have t5 := Ex.new (o := .lst []) m5
    have q0 := ((((t1.trans t2).trans t3).trans t4).trans t5) _ _ hd2
    have hgi := (((t2.trans t3).trans t4).trans t5) _ _ (upd_same (a := gi) (o := .lst []))
    have hca := ((t3.trans t4).trans t5) _ _ (upd_same (a := ca) (o := .lst []))
    have hse := (t4.trans t5) _ _ (upd_same (a := se) (o := .lst []))
    have hme := t5 _ _ (upd_same (a := me) (o := .lst []))
    have hdn := upd_same (H := upd (upd (upd (upd (upd Hd d2 (.dK [])) gi (.lst [])) ca (.lst [])) se (.lst [])) me (.lst [])) (a := dn) (o := .lst [])
    have wd2 : wa ≠ d2 := ne_of_none hw2 nd2
    generalize upd (upd (upd (upd (upd (upd Hd d2 (.dK [])) gi (.lst [])) ca (.lst [])) se (.lst [])) me (.lst [])) dn (.lst []) = He at z5 q0 hgi hca hse hme hdn ⊢
    refine ⟨q0, [((.inr "given" : Key), V.ref gi), (.inr "counted", .non), (.inr "came", .ref ca), (.inr "seen", .ref se), (.inr "met", .ref me), (.inr "done", .ref dn)], rfl, Nat.le_of_ble_eq_true rfl, ?_⟩
    rw [wk_third]
    have z6 := z5.mut (o := .dK [((.inr "given" : Key), V.ref gi), (.inr "counted", .non), (.inr "came", .ref ca), (.inr "seen", .ref se), (.inr "met", .ref me), (.inr "done", .ref dn)]) nd2
    have hd3 := upd_same (H := He) (a := d2) (o := .dK [((.inr "given" : Key), V.ref gi), (.inr "counted", .non), (.inr "came", .ref ca), (.inr "seen", .ref se), (.inr "met", .ref me), (.inr "done", .ref dn)])
    have up3 : ∀ {x : Addr} {l : List V}, He x = some (.lst l) → upd He d2 (.dK [((.inr "given" : Key), V.ref gi), (.inr "counted", .non), (.inr "came", .ref ca), (.inr "seen", .ref se), (.inr "met", .ref me), (.inr "done", .ref dn)]) x = some (.lst l) := fun h => by
      rw [upd_ne (ne_of h q0 fun z => nomatch z)]
      exact h
    have hgi2 := up3 hgi
    have hca2 := up3 hca
    have hse2 := up3 hse
    have hme2 := up3 hme
    have hdn2 := up3 hdn
    generalize upd He d2 (.dK [((.inr "given" : Key), V.ref gi), (.inr "counted", .non), (.inr "came", .ref ca), (.inr "seen", .ref se), (.inr "met", .ref me), (.inr "done", .ref dn)]) = Hf at z6 hd3 hgi2 hca2 hse2 hme2 hdn2 ⊢
    refine ⟨wa, d2, _, _, rfl, rfl, wd2, z6 _ _ hw2, hd3, Nat.le_of_ble_eq_true rfl, ?_⟩
    rw [wk_all L0 F0 le sh gi ca se me dn ks rs]
    refine nx_go ?_
    have x3 : Ex H (upd Hf wa (.dK (wkvs ⟨L0, F0, le, sh, gi, ca, se, me, dn⟩ (wstart ks rs)))) := (x2.trans z6).mut nw
    have up4 : ∀ {x : Addr} {l : List V}, Hf x = some (.lst l) → upd Hf wa (.dK (wkvs ⟨L0, F0, le, sh, gi, ca, se, me, dn⟩ (wstart ks rs))) x = some (.lst l) := fun h => by
      rw [upd_ne (ne_of h (z6 _ _ hw2) fun z => nomatch z)]
      exact h
    have c5H := Evl.fresh_back x2 c5
    have wo : ∀ {x : Addr} {o : HO}, H x = some o → x ≠ le ∧ x ≠ sh ∧ x ≠ dn := fun h => ⟨ne_of_none h n2H, ne_of_none h n3H, ne_of_none h c5H⟩
    refine ⟨_, rfl, q wa ⟨L0, F0, le, sh, gi, ca, se, me, dn⟩ _ x3 ?_ ⟨nw, n2H, n3H, c5H⟩⟩
    exact { hw := upd_same, ra := x3 _ _ hL, so := ⟨xs, x3 _ _ hF, prd_imp (fun _ _ ⟨t, a1, a2, e, q1, q2, q3, q4, q5⟩ => ⟨t, a1, a2, e, x3 _ _ q1, x3 _ _ q2, x3 _ _ q3, ⟨wo q2, q4⟩, ⟨wo q3, q5⟩⟩) hR⟩
            le := ⟨[.ref l1], up4 (z6 _ _ hlec), .cons ⟨l1, rfl, up4 (z6 _ _ hl1c), ⟨l12, ne_of_none hl1' n3b, ne_of_none hl1c c5⟩, fN l1 n1H⟩ .nil⟩
            sh := up4 (z6 _ _ hshc), gi := up4 hgi2, ca := up4 hca2, se := up4 hse2, me := up4 hme2, dn := up4 hdn2
            ne := ⟨ne_of_none hle' n3b, ne_of_none hlec c5, ne_of_none hshc c5⟩
            st := ⟨wo hL, wo hF, ⟨(ne_of_none hlec c1).symm, (ne_of_none hshc c1).symm, k1⟩, ⟨(ne_of_none hlec c2).symm, (ne_of_none hshc c2).symm, k2⟩, ⟨(ne_of_none hlec c3).symm, (ne_of_none hshc c3).symm, k3⟩, ⟨(ne_of_none hlec c4).symm, (ne_of_none hshc c4).symm, k4⟩⟩
            fa := ⟨fN wa nw, fL, fF, fN le n2H, fN sh n3H, fN gi (Evl.fresh_back x2 c1), fN ca (Evl.fresh_back x2 c2), fN se (Evl.fresh_back x2 c3), fN me (Evl.fresh_back x2 c4), fN dn c5H⟩ }
end
end Ov


namespace Ov
open PySem PySem.Spec PyProof.Rows L2
open Evl (pss_cut tCut Ex Ev EvT EvL EvA EvU)
/-! ### stage 2's world: whether a test holds -/
def Wd.numb (W : Wd) (i : Nat) : Int := ((W.ls[i]?).map fun l => l.2.1).getD 0
def Wd.rel (W : Wd) (i : Nat) (p : Option Nat) : Str := relationM (W.numb i) (i : Int) (p.map fun (j : Nat) => (W.numb j, (j : Int)))
def Wd.holds (W : Wd) (t : Str) (i : Nat) : Bool := holdsM t (W.rel i W.wh) (W.rel i W.ow)
def Wd.part (W : Wd) (p : Str) : Option Nat := if p = "whole" then W.wh else W.ow
theorem tests_two : ∀ t ∈ testsL, cutS t none (some 4) ≠ ("not " : Str) ∧ t.length ≤ 20 ∧ Txt.startswith t "not " = false ∧ ((∃ p ∈ (["whole", "own"] : List Str), Txt.split t " " = [p] ∧ (lastWord t).1 = ("" : Str) ∧ (lastWord t).2.2 = p) ∨
    (∃ q ∈ (["above", "level", "later"] : List Str), ∃ p ∈ (["whole", "own"] : List Str), Txt.split t " " = [q, p] ∧ (lastWord t).1 = q ∧ (lastWord t).2.2 = p)) := by decide +kernel
theorem tests_not : ∀ t ∈ testsL, cutS (("not " : Str) ++ t) none (some 4) = "not " ∧ cutS (("not " : Str) ++ t) (some 4) none = t ∧ (("not " : Str) ++ t).length ≤ 30 ∧ Txt.startswith (("not " : Str) ++ t) "not " = true ∧ Txt.startswith t "not " = false ∧ lastWord (("not " : Str) ++ t) = lastWord t := by decide +kernel
theorem holds_not {t : Str} (h : t ∈ testsL) (tw to : Str) : holdsM (("not " : Str) ++ t) tw to = !holdsM t tw to := by
  obtain ⟨_, _, _, h1, h2, h3⟩ := tests_not t h
  unfold holdsM
  rw [h1, h2, h3]
  cases decide ((if (lastWord t).2.2 = "whole" then tw else to) ∈ (holdsD.lookup (lastWord t).1).getD []) <;> rfl
theorem Wd.holds_part {W : Wd} {t p : Str} {i : Nat} (hp : p ∈ (["whole", "own"] : List Str)) (hl : (lastWord t).2.2 = p) (hs : Txt.startswith t "not " = false) : W.holds t i = decide (W.rel i (W.part p) ∈ (holdsD.lookup (lastWord t).1).getD []) := by
  unfold Wd.holds holdsM
  rw [hs, hl]
  have e : (if p = "whole" then W.rel i W.wh else W.rel i W.ow) = W.rel i (W.part p) := by
    unfold Wd.part
    split <;> rfl
  rw [e, Bool.bne_false]
theorem wg_part (A : Wa) (W : Wd) {p : Str} (h : p ∈ (["whole", "own"] : List Str)) : valV (wkvs A W) (.inr p) = some (ov (W.part p)) := by
  simp only [List.mem_cons, List.not_mem_nil, or_false] at h
  rcases h with rfl | rfl
  · exact wg_whole A W
  · have e : ¬ (("own" : Str) = "whole") := by decide +kernel
    unfold Wd.part
    rw [if_neg e]
    exact wg_own A W
theorem rel_none (W : Wd) (i : Nat) : W.rel i none = "nothing" := rfl
theorem rel_facts : ("nothing" : Str) ∉ holdsAll ∧ (∀ q ∈ (["above", "level", "later"] : List Str), ("nothing" : Str) ∉ (holdsD.lookup q).getD []) ∧ (∀ r ∈ (["above", "later", "level", "below"] : List Str), r ∈ holdsAll) := by decide +kernel
theorem rel_in {W : Wd} {i j : Nat} : W.rel i (some j) ∈ (["above", "later", "level", "below"] : List Str) := by
  show (if W.numb i = W.numb j then (if (i : Int) > (j : Int) then ("later" : Str) else "level") else if W.numb i > W.numb j then "above" else "below") ∈ _
  split <;> split <;> decide +kernel
theorem rel_above {W : Wd} {i j : Nat} : decide (W.rel i (some j) ∈ (holdsD.lookup ("above" : Str)).getD []) = decide (W.numb j < W.numb i) := by
  have e : (holdsD.lookup ("above" : Str)).getD [] = (["above"] : List Str) := by decide +kernel
  rw [e]
  refine decide_eq_decide.mpr ?_
  show (if W.numb i = W.numb j then (if (i : Int) > (j : Int) then ("later" : Str) else "level") else if W.numb i > W.numb j then "above" else "below") ∈ _ ↔ _
  by_cases h1 : W.numb i = W.numb j
  · rw [if_pos h1]
    constructor
    · split
      · exact fun z => absurd z (by decide +kernel)
      · exact fun z => absurd z (by decide +kernel)
    · intro z
      omega
  · rw [if_neg h1]
    by_cases h2 : W.numb i > W.numb j
    · rw [if_pos h2]
      exact ⟨fun _ => h2, fun _ => List.mem_singleton.mpr rfl⟩
    · rw [if_neg h2]
      exact ⟨fun z => absurd z (by decide +kernel), fun z => absurd z (by omega)⟩
theorem rel_level {W : Wd} {i j : Nat} : decide (W.rel i (some j) ∈ (holdsD.lookup ("level" : Str)).getD []) = decide (W.numb i = W.numb j) := by
  have e : (holdsD.lookup ("level" : Str)).getD [] = (["later", "level"] : List Str) := by decide +kernel
  rw [e]
  refine decide_eq_decide.mpr ?_
  show (if W.numb i = W.numb j then (if (i : Int) > (j : Int) then ("later" : Str) else "level") else if W.numb i > W.numb j then "above" else "below") ∈ _ ↔ _
  by_cases h1 : W.numb i = W.numb j
  · rw [if_pos h1]
    refine ⟨fun _ => h1, fun _ => ?_⟩
    split <;> decide +kernel
  · rw [if_neg h1]
    refine ⟨fun z => ?_, fun z => absurd z h1⟩
    split at z
    · exact absurd z (by decide +kernel)
    · exact absurd z (by decide +kernel)
def Wd.Mono (W : Wd) : Prop := ∀ i j, i ≤ j → j < W.ls.length → W.numb i ≤ W.numb j
theorem rel_later {W : Wd} {i j : Nat} (mo : W.Mono) (hi : i < W.ls.length) (hj : j < W.ls.length) : decide (W.rel i (some j) ∈ (holdsD.lookup ("later" : Str)).getD []) = decide ((j : Int) < (i : Int)) := by
  have e : (holdsD.lookup ("later" : Str)).getD [] = (["above", "later"] : List Str) := by decide +kernel
  rw [e]
  refine decide_eq_decide.mpr ?_
  show (if W.numb i = W.numb j then (if (i : Int) > (j : Int) then ("later" : Str) else "level") else if W.numb i > W.numb j then "above" else "below") ∈ _ ↔ _
  by_cases h1 : W.numb i = W.numb j
  · rw [if_pos h1]
    by_cases h2 : (i : Int) > (j : Int)
    · rw [if_pos h2]
      exact ⟨fun _ => h2, fun _ => by decide +kernel⟩
    · rw [if_neg h2]
      exact ⟨fun z => absurd z (by decide +kernel), fun z => absurd z h2⟩
  · rw [if_neg h1]
    by_cases h2 : W.numb i > W.numb j
    · rw [if_pos h2]
      refine ⟨fun _ => ?_, fun _ => by decide +kernel⟩
      by_cases h3 : i ≤ j
      · have := mo i j h3 hj
        omega
      · omega
    · rw [if_neg h2]
      refine ⟨fun z => absurd z (by decide +kernel), fun z => ?_⟩
      have := mo j i (by omega) hi
      omega
def spHoldsW (n : Nat) : Sp := fun vs H Q _ => ∃ (w : Addr) (A : Wa) (W : Wd) (xs : List V) (t : Str) (i : Nat), vs = [.ref w, .str t, .int (i : Int)] ∧ (t ∈ testsL ∨ (n = 1 ∧ t ∈ testsL.map (("not " : Str) ++ ·))) ∧ H w = some (.dK (wkvs A W)) ∧ H A.le = some (.lst xs) ∧ Paired (LtW (fun _ => True) H) xs W.ls ∧ W.Mono ∧ i < W.ls.length ∧ (∀ j, W.wh = some j → j < W.ls.length) ∧ (∀ j, W.ow = some j → j < W.ls.length) ∧ ∀ H', Ex H H' → Q (.bl (W.holds t i)) H'
section
variable {K : PySem.W.Frag} {σ : L2.St} {H : Hp} {ta td tk te : TE} {x : Str}
theorem ev_cutS {t : Str} {tl th : TO} {lo hi : Option Int} (h : Ev te σ H (.str t)) (h1 : Evl.EvO tl σ H lo) (h2 : Evl.EvO th σ H hi) (hz : t.length ≤ 100000) : Ev (tSl rSlS te tl th) σ H (.str (cutS t lo hi)) := fun H1 e Q q =>
  h H1 e _ fun H2 e2 => h1 H2 (e.trans e2) _ fun H3 e3 => h2 H3 ((e.trans e2).trans e3) _ fun H4 e4 => ⟨t, rfl, size_of hz, q H4 ((e2.trans e3).trans e4)⟩
theorem ev_wgetK {w : Addr} {kvs : List (Key × V)} {v : V} (h : Ev td σ H (.ref w)) (hk : Ev tk σ H (.str x)) (hw : H w = some (.dK kvs)) (hv : valV kvs (.inr x) = some v) : Ev (tDGet td tk) σ H v := fun H1 e1 Q q => h H1 e1 _ fun H2 e2 => hk H2 (e1.trans e2) _ fun H3 e3 => ⟨w, v, rfl, by
  rw [← hv]
  exact DGet.k (k := .inr x) (((e1.trans e2).trans e3) _ _ hw), q H3 (e2.trans e3)⟩
theorem LtW.mono {S : Addr → Prop} {H' : Hp} {x : V} {l : Str × Int × Bool} (e : Ex H H') (h : LtW S H x l) : LtW S H' x l := by
  obtain ⟨p, h1, h2, h3⟩ := h
  exact ⟨p, h1, e _ _ h2, h3⟩
/-- the number of a letter -/
theorem ev_numb {A : Wa} {W : Wd} {w : Addr} {xs : List V} {i : Nat} (h : Ev td σ H (.ref w)) (hi : Ev ta σ H (.int (i : Int))) (hw : H w = some (.dK (wkvs A W))) (hl : H A.le = some (.lst xs)) (hp : Paired (LtW (fun _ => True) H) xs W.ls) (il : i < W.ls.length) :
    Ev (tOp (rIxL K) (tOp (rIxL K) (tDGet td (tC (.str "letters"))) ta) (tC (.int 1))) σ H (.int (W.numb i)) := by
  have lx := paired_len hp
  obtain ⟨x, hx⟩ : ∃ x, xs[i]? = some x := ⟨_, List.getElem?_eq_getElem (by omega)⟩
  obtain ⟨l, hl2, p, rfl, h2, _⟩ := prd_at hp hx
  have e : W.numb i = l.2.1 := by
    unfold Wd.numb
    rw [hl2]
    rfl
  rw [e]
  exact Evl.ev_op (x := .ref p) (Evl.ev_op (x := .ref A.le) (ev_wget h hw (wg_letters A W)) hi (Evl.rv_ixL (Evl.sq_of hl) (atI_nat hx))) (Evl.ev_c (v := .int 1)) (Evl.rv_ixL (Evl.sq_of h2) rfl)
end
theorem par_go {i j : Nat} {ta : TA} {tz : TS} {D : Ends} {σ : L2.St} {H : Hp} (h : ta σ H fun vs H1 => ∃ v w, vs = [v, w] ∧ tz D ((σ.set i (some v)).set j (some w)) H1) : tSeq (tPar i j ta) tz D σ H := h
theorem holds_none {W : Wd} {t q : Str} {i : Nat} {p : Str} (hp : p ∈ (["whole", "own"] : List Str)) (hl : (lastWord t).2.2 = p) (hs : Txt.startswith t "not " = false) (h1 : (lastWord t).1 = q) (hq : ("nothing" : Str) ∉ (holdsD.lookup q).getD []) (hn : W.part p = none) : W.holds t i = false := by
  rw [Wd.holds_part hp hl hs, h1, hn]
  exact decide_eq_false hq
section
variable {P : Program} {w : World} {K : PySem.W.Frag} {mg : Str → Option Value} {base : Heap}
abbrev sLawHolds : Stmt := topS 64
theorem scLawHolds : FnScope ["_law_world_here", "_law_test_here", "_law_place", "_law_words", "_law_part", "_law_here", "_law_there"] ["_law_world_here", "_law_test_here", "_law_place"] (defScope sLawHolds) := ⟨rfl, rfl, rfl, by decide +kernel, rfl, by decide +kernel, by decide +kernel⟩
theorem ok_holds1 {f : Addr} {fd : FuncData} (F : Fun K "_law_holds" "_law_holds" sLawHolds f fd) (T : TxB mg) (D_law_holds : Df K mg "_law_holds" sLawHolds ["_law_world_here", "_law_test_here", "_law_place"] f fd) {n k : Nat} {spI : Sp} (G_holds : FnOk P w K mg base CX0 k f fd ["_law_world_here", "_law_test_here", "_law_place"] spI) (hI : n = 1 → spI = spHoldsW 0) :
    FnOk P w K mg base CX0 (k + 1) f fd ["_law_world_here", "_law_test_here", "_law_place"] (spHoldsW n) := by
  refine F.ok scLawHolds (fun vs H Q E h => ?_) (fun cdv A outer s H vs Q E hr h => ?_)
  · obtain ⟨w, A, W, xs, t, i, rfl, _⟩ := h
    rfl
  · obtain ⟨wa, Aw, W, xs, t, i, rfl, ht, hw, hl, hp, mo, hi, b1, b2, q⟩ := h
    have hu : (A.deeper (envOfC "_law_holds" (defScope sLawHolds) s.heap.objs.size f cdv)).units + 1 < cLine := by
      have := hr.units
      omega
    refine ⟨_, pss_cons (ps_if (pt_cmpR op_eq (pe_slice sl_str (pv 1) po_none (po_some pe_int)) pe_str (nomark _)) (pss_one (ps_ret (pe_not (pe_call (E := E0) G_holds (hr.mono (by omega)) rfl D_law_holds.g D_law_holds.F.kp D_law_holds.b .nil pass0 (pa_cons (pv 0) (pa_cons (pe_slice sl_str (pv 1) (po_some pe_int) po_none) (pa_cons (pv 2) pa_nil))))))) pss_nil)
      (pss_cons (ps_set (i := 3) scLawHolds.nd rfl (.inl rfl) (pe_split (pv 1) pe_str))
      (pss_cons (ps_set (i := 4) scLawHolds.nd rfl (.inl rfl) (pe_dget hu (pv 0) (pe_ix ix_list (pv 3) (pe_un un_neg pe_int) (fun _ _ => rfl)) (fun _ _ => rfl)))
      (pss_cons (ps_if (PW.pt (pw_or (pt_cmpR op_isN (pv 4) pe_non (nomark _)) (pw_or1 (pt_cmpR op_eq (pe_callB call_len_seq (by rfl) T.n_len (by decide +kernel) (pa_cons (pv 3) pa_nil)) pe_int (nomark _))))) (pss_one (ps_ret (pe_cmpR op_notN (pv 4) pe_non (nomark _)))) pss_nil)
      (pss_cons (ps_par (i := 5) (j := 6) (by rfl) scLawHolds.nd rfl rfl (by decide) rfl rfl (pa_cons (pe_ix ix_list (pe_ix ix_list (pe_dget hu (pv 0) pe_str (fun _ _ => rfl)) (pv 2) (fun _ _ => rfl)) pe_int (fun _ _ => rfl)) (pa_cons (pe_ix ix_list (pe_ix ix_list (pe_dget hu (pv 0) pe_str (fun _ _ => rfl)) (pv 4) (fun _ _ => rfl)) pe_int (fun _ _ => rfl)) pa_nil)) (by rfl))
      (pss_cons (ps_if (pt_cmpR op_eq (pe_ix ix_list (pv 3) pe_int (fun _ _ => rfl)) pe_str (nomark _)) (pss_one (ps_ret (pe_cmpR op_gt (pv 2) (pv 4) (nomark _)))) pss_nil)
      (pss_one (ps_ret (pe_ifExp (pt_cmpR op_eq (pe_ix ix_list (pv 3) pe_int (fun _ _ => rfl)) pe_str (nomark _)) (pe_cmpR op_gt (pv 5) (pv 6) (nomark _)) (pe_cmpR op_eq (pv 5) (pv 6) (nomark _)))))))))), ?_⟩
    rcases ht with ht | ⟨hn, ht⟩
    · obtain ⟨t1, t2, t3, t4⟩ := tests_two t ht
      refine Evl.q_when (b := false) (Evl.et_is (Evl.et_test (Evl.ev_op (ev_cutS (lo := none) (hi := some 4) (Evl.ev_var rfl) Evl.eo_none (Evl.eo_some Evl.ev_c) (by omega)) Evl.ev_c (Evl.rv_eq rfl))) (by rw [eq_str]; exact decide_eq_false t1)) (fun z => nomatch z) (fun _ H1 e1 => ?_)
      refine q_put ?_
      refine ⟨_, rfl, ⟨_, rfl⟩, t, " ", rfl, rfl, by decide +kernel, size_of (by omega), fun Q1 nQ => ?_⟩
      have e2 : Ex H (upd H1 Q1 (.lst ((Txt.split t " ").map V.str))) := e1.trans (Ex.new nQ)
      have hQ : upd H1 Q1 (.lst ((Txt.split t " ").map V.str)) Q1 = some (.lst ((Txt.split t " ").map V.str)) := upd_same
      generalize upd H1 Q1 (.lst ((Txt.split t " ").map V.str)) = H2 at e2 hQ ⊢
      rcases t4 with ⟨p, hpp, es, el, ep⟩ | ⟨q2, hq2, p, hpp, es, el, ep⟩
      · rw [es] at hQ
        refine Evl.q_asg (v := ov (W.part p)) (ev_wgetK (x := p) (Evl.ev_var rfl) (Evl.ev_op (x := .ref Q1) (y := .int (-1)) (Evl.ev_var rfl) (Evl.ev_un Evl.ev_c Evl.ru_neg) (Evl.rv_ixL (Evl.sq_of hQ) rfl)) (e2 _ _ hw) (wg_part Aw W hpp)) fun H3 e3 => ?_
        refine Evl.q_when (b := true) (Evl.et_is (Evl.et_or (a := decide (ov (W.part p) = V.non)) (b := true) (Evl.et_test (Evl.ev_op (Evl.ev_var rfl) Evl.ev_c rv_isN)) (fun _ => Evl.et_is (Evl.et_test (Evl.ev_op (Evl.ev_len (Evl.ev_var rfl) (Evl.sq_of (e3 _ _ hQ))) Evl.ev_c (Evl.rv_eq rfl))) (by rfl))) (by simp)) (fun _ H4 e4 => ?_) (fun z => nomatch z)
        refine Evl.s_ret (v := .bl (W.holds t i)) (Evl.ev_is (Evl.ev_op (Evl.ev_var rfl) Evl.ev_c rv_notN) ?_) fun H5 e5 => q H5 (e2.trans (e3.trans (e4.trans e5)))
        cases hpt : W.part p with
        | none =>
          rw [holds_none hpp ep t3 el rel_facts.1 hpt]
          rfl
        | some j =>
          rw [Wd.holds_part hpp ep t3, el, hpt]
          exact congrArg V.bl (decide_eq_true (rel_facts.2.2 _ rel_in)).symm
      · rw [es] at hQ
        refine Evl.q_asg (v := ov (W.part p)) (ev_wgetK (x := p) (Evl.ev_var rfl) (Evl.ev_op (x := .ref Q1) (y := .int (-1)) (Evl.ev_var rfl) (Evl.ev_un Evl.ev_c Evl.ru_neg) (Evl.rv_ixL (Evl.sq_of hQ) rfl)) (e2 _ _ hw) (wg_part Aw W hpp)) fun H3 e3 => ?_
        have bj : ∀ j, W.part p = some j → j < W.ls.length := fun j hj => by
          unfold Wd.part at hj
          split at hj
          · exact b1 j hj
          · exact b2 j hj
        cases hpt : W.part p with
        | none =>
          refine Evl.q_when (b := true) (Evl.et_is (Evl.et_or (a := true) (b := true) (Evl.et_is (Evl.et_test (Evl.ev_op (Evl.ev_var rfl) Evl.ev_c rv_isN)) rfl) (fun z => nomatch z)) rfl) (fun _ H4 e4 => ?_) (fun z => nomatch z)
          refine Evl.s_ret (v := .bl (W.holds t i)) (Evl.ev_is (Evl.ev_op (Evl.ev_var rfl) Evl.ev_c rv_notN) ?_) fun H5 e5 => q H5 (e2.trans (e3.trans (e4.trans e5)))
          rw [holds_none hpp ep t3 el (rel_facts.2.1 q2 hq2) hpt]
          rfl
        | some j =>
          have hj := bj j hpt
          refine Evl.q_when (b := false) (Evl.et_is (Evl.et_or (a := false) (b := false) (Evl.et_is (Evl.et_test (Evl.ev_op (Evl.ev_var rfl) Evl.ev_c rv_isN)) rfl) (fun _ => Evl.et_is (Evl.et_test (Evl.ev_op (Evl.ev_len (Evl.ev_var rfl) (Evl.sq_of (e3 _ _ hQ))) Evl.ev_c (Evl.rv_eq rfl))) (by rfl))) rfl) (fun z => nomatch z) (fun _ H4 e4 => ?_)
          have e04 := e2.trans (e3.trans e4)
          have hp4 := prd_imp (fun _ _ h => LtW.mono e04 h) hp
          refine par_go ?_
          refine (Evl.ea_cons (x := .int (W.numb i)) (ev_numb (A := Aw) (W := W) (Evl.ev_var rfl) (Evl.ev_var rfl) (e04 _ _ hw) (e04 _ _ hl) hp4 hi) (Evl.ea_cons (x := .int (W.numb j)) (ev_numb (A := Aw) (W := W) (Evl.ev_var rfl) (Evl.ev_var rfl) (e04 _ _ hw) (e04 _ _ hl) hp4 hj) Evl.ea_nil)) H4 (Ex.refl _) _ fun H5 e5 => ?_
          refine ⟨_, _, rfl, ?_⟩
          have hQ5 := e5 _ _ (e4 _ _ (e3 _ _ hQ))
          have e05 := e04.trans e5
          refine Evl.q_when (b := decide (q2 = "later")) (Evl.et_is (Evl.et_test (Evl.ev_op (x := .str q2) (Evl.ev_op (x := .ref Q1) (y := .int 0) (Evl.ev_var rfl) Evl.ev_c (Evl.rv_ixL (Evl.sq_of hQ5) (atI_nat (j := 0) rfl))) Evl.ev_c (Evl.rv_eq rfl))) (eq_str _ _)) (fun hb H6 e6 => ?_) (fun hb H6 e6 => ?_)
          · have hb := of_decide_eq_true hb
            subst hb
            refine Evl.s_ret (v := .bl (W.holds t i)) (Evl.ev_is (v := .bl (decide ((j : Int) < (i : Int)))) (Evl.ev_op (x := .int (i : Int)) (y := .int (j : Int)) (Evl.ev_var rfl) (Evl.ev_var rfl) Evl.rv_I0) ?_) fun H7 e7 => q H7 (e05.trans (e6.trans e7))
            rw [Wd.holds_part hpp ep t3, el, hpt, rel_later mo hi hj]
          · have hQ6 := e6 _ _ hQ5
            refine Evl.s_ret (v := .bl (W.holds t i)) (Evl.ev_if (b := decide (q2 = "above")) (Evl.et_is (Evl.et_test (Evl.ev_op (x := .str q2) (Evl.ev_op (x := .ref Q1) (y := .int 0) (Evl.ev_var rfl) Evl.ev_c (Evl.rv_ixL (Evl.sq_of hQ6) (atI_nat (j := 0) rfl))) Evl.ev_c (Evl.rv_eq rfl))) (eq_str _ _)) (fun hc => ?_) (fun hc => ?_)) fun H7 e7 => q H7 (e05.trans (e6.trans e7))
            · have hc := of_decide_eq_true hc
              subst hc
              refine Evl.ev_is (v := .bl (decide (W.numb j < W.numb i))) (Evl.ev_op (x := .int (W.numb i)) (y := .int (W.numb j)) (Evl.ev_var rfl) (Evl.ev_var rfl) Evl.rv_I0) ?_
              rw [Wd.holds_part hpp ep t3, el, hpt, rel_above]
            · have h3 : q2 = "level" := by
                simp only [List.mem_cons, List.not_mem_nil, or_false] at hq2
                rcases hq2 with h | h | h
                · exact absurd h (of_decide_eq_false hc)
                · exact h
                · exact absurd h (of_decide_eq_false hb)
              subst h3
              refine Evl.ev_is (Evl.ev_op (x := .int (W.numb i)) (y := .int (W.numb j)) (Evl.ev_var rfl) (Evl.ev_var rfl) (Evl.rv_eq rfl)) ?_
              rw [Wd.holds_part hpp ep t3, el, hpt, rel_level]
              exact congrArg V.bl (decide_eq_decide.mpr ⟨fun z => V.int.inj z, fun z => congrArg V.int z⟩)
    · obtain ⟨t2, ht2, rfl⟩ := List.mem_map.mp ht
      obtain rfl := hI hn
      obtain ⟨t1, t3, t4, _⟩ := tests_not t2 ht2
      refine Evl.q_when (b := true) (Evl.et_is (Evl.et_test (Evl.ev_op (ev_cutS (lo := none) (hi := some 4) (Evl.ev_var rfl) Evl.eo_none (Evl.eo_some Evl.ev_c) (by omega)) Evl.ev_c (Evl.rv_eq rfl))) (by rw [eq_str]; exact decide_eq_true t1)) (fun _ H1 e1 => ?_) (fun z => nomatch z)
      refine Evl.s_ret (v := .bl (W.holds (("not " : Str) ++ t2) i)) (Evl.ev_is (Evl.ev_notV (a := W.holds t2 i) (fun H2 e2 Q2 q2 => (Evl.ea_cons (Evl.ev_var rfl) (Evl.ea_cons (Evl.ev_is (ev_cutS (lo := some 4) (hi := none) (Evl.ev_var rfl) (Evl.eo_some Evl.ev_c) Evl.eo_none (by omega)) (congrArg V.str t3)) (Evl.ea_cons (Evl.ev_var rfl) Evl.ea_nil))) H2 e2 _ fun H3 e3 => ?_)) ?_) fun H7 e7 => q H7 (e1.trans e7)
      · have e03 := (e1.trans e2).trans e3
        exact ⟨wa, Aw, W, xs, t2, i, rfl, .inl ht2, e03 _ _ hw, e03 _ _ hl, prd_imp (fun _ _ h => LtW.mono e03 h) hp, mo, hi, b1, b2, fun H4 e4 => q2 H4 (e3.trans e4)⟩
      · unfold Wd.holds
        rw [holds_not ht2]
theorem ok_holdsW {f : Addr} {fd : FuncData} (F : Fun K "_law_holds" "_law_holds" sLawHolds f fd) (T : TxB mg) (D_law_holds : Df K mg "_law_holds" sLawHolds ["_law_world_here", "_law_test_here", "_law_place"] f fd) : FnOk P w K mg base CX0 2 f fd ["_law_world_here", "_law_test_here", "_law_place"] (spHoldsW 1) :=
  ok_holds1 F T D_law_holds (n := 1) (k := 1) (ok_holds1 F T D_law_holds (n := 0) (k := 0) (spI := fun _ _ _ _ => False) ⟨fun _ _ _ _ h => h.elim, fun _ _ _ _ _ _ _ _ _ _ _ _ _ h => h.elim⟩ (fun z => nomatch z)) (fun _ => rfl)
end
end Ov


namespace Ov
open PySem PySem.Spec PyProof.Rows L2
open Evl (pss_cut tCut Ex Ev EvT EvL EvA EvU)
/-! ### stage 2's world: a letter comes -/
def Wd.kind (W : Wd) (i : Nat) : Str := ((W.ls[i]?).map fun l => l.1).getD Str.empty
def Wd.fits (W : Wd) (i : Nat) (r : RuleD) : Bool := decide (r.k = W.kind i) && r.ts.all fun t => W.holds t i
def Wd.ruleFor (W : Wd) (i : Nat) : Option Nat := letterRuleM W.rs (W.kind i) (W.rel i W.wh) (W.rel i W.ow)
theorem Wd.rule_eq (W : Wd) (i : Nat) : W.ruleFor i = W.rs.findIdx? (W.fits i) := rfl
theorem find_step {α : Type} (p : α → Bool) {l : List α} {j : Nat} {r : α} (h : l[j]? = some r) : (l.take (j + 1)).findIdx? p = if ((l.take j).findIdx? p = none ∧ p r = true) then some j else (l.take j).findIdx? p := by
  have hj := (List.getElem?_eq_some_iff.mp h).1
  rw [List.take_add_one, h]
  show ((l.take j) ++ [r]).findIdx? p = _
  rw [List.findIdx?_append]
  cases e : (l.take j).findIdx? p with
  | some a => simp
  | none =>
    have lt : (l.take j).length = j := by rw [List.length_take]; omega
    rw [lt]
    cases hp : p r with
    | true => simp [List.findIdx?_cons, hp]
    | false => simp [List.findIdx?_cons, hp]
section
variable {Fa : Addr → Prop} {H H' : Hp} {w : Addr} {A : Wa} {W : Wd}
/-- a rule more is noted -/
theorem WorldAt.appDn (g : WorldAt Fa H w A W) (f : Option Nat) : WorldAt Fa (upd H A.dn (.lst (W.dn.map ov ++ [ov f]))) w A { W with dn := W.dn ++ [f] } := by
  obtain ⟨st1, st2, st3, st4, st5, st6⟩ := g.st
  obtain ⟨xs, s1, s2⟩ := g.so
  obtain ⟨ys, l1, l2⟩ := g.le
  have up : ∀ {x : Addr} {o : HO}, x ≠ A.dn → H x = some o → upd H A.dn (.lst (W.dn.map ov ++ [ov f])) x = some o := fun n h => by rw [upd_ne n]; exact h
  exact ⟨up (ne_of g.hw g.dn fun z => nomatch z) g.hw, up st1.2.2 g.ra, ⟨xs, up st2.2.2 s1, prd_imp (fun _ _ ⟨t, a1, a2, e, q1, q2, q3, q4, q5⟩ => ⟨t, a1, a2, e, up (ne_of q1 g.dn fun z => nomatch z) q1, up q4.1.2.2 q2, up q5.1.2.2 q3, q4, q5⟩) s2⟩,
    ⟨ys, up g.ne.2.1 l1, prd_imp (fun _ _ ⟨p, e, q1, q2⟩ => ⟨p, e, up q2.1.2.2 q1, q2⟩) l2⟩, up g.ne.2.2 g.sh, up st3.2.2 g.gi, up st4.2.2 g.ca, up st5.2.2 g.se, up st6.2.2 g.me, by rw [upd_same, List.map_append]; rfl, g.ne, g.st, g.fa⟩
theorem WorldAt.set_own (g : WorldAt Fa H w A W) (o : Option Nat) : WorldAt Fa (upd H w (.dK (putK (wkvs A W) (.inr "own") (ov o)))) w A { W with ow := o } := by
  rw [wp_own]
  exact g.anew ⟨rfl, rfl, rfl, rfl, rfl⟩ ⟨rfl, rfl, rfl, rfl, rfl⟩ g.keepGi g.keepCa g.keepSe g.keepMe
theorem WorldAt.set_whole (g : WorldAt Fa H w A W) (o : Option Nat) : WorldAt Fa (upd H w (.dK (putK (wkvs A W) (.inr "whole") (ov o)))) w A { W with wh := o } := by
  rw [wp_whole]
  exact g.anew ⟨rfl, rfl, rfl, rfl, rfl⟩ ⟨rfl, rfl, rfl, rfl, rfl⟩ g.keepGi g.keepCa g.keepSe g.keepMe
theorem WorldAt.set_came (g : WorldAt Fa H w A W) {p : Addr} {l : List Nat} (h : H p = some (.lst (l.map natV))) (wo : Wo A p) (fa : Fa p) : WorldAt Fa (upd H w (.dK (putK (wkvs A W) (.inr "came") (.ref p)))) w { A with ca := p } { W with ca := l } := by
  rw [wp_came A W p l]
  exact g.anew ⟨rfl, rfl, rfl, rfl, rfl⟩ ⟨rfl, rfl, rfl, rfl, rfl⟩ g.keepGi ⟨h, wo, fa⟩ g.keepSe g.keepMe
/-- what is new is apart -/
theorem WorldAt.new (g : WorldAt Fa H w A W) {p : Addr} (h : H p = none) : Wo A p := by
  obtain ⟨ys, l1, _⟩ := g.le
  exact ⟨(ne_of_none l1 h).symm, (ne_of_none g.sh h).symm, (ne_of_none g.dn h).symm⟩
end
section
variable {K : PySem.W.Frag} {σ : L2.St} {H : Hp} {ta tb : TE}
theorem el_catV {a : Addr} {xs ys : List V} (ha : Ev ta σ H (.ref a)) (hx : H a = some (.lst xs)) (hb : EvL tb σ H ys) (hz : xs.length + ys.length ≤ sizeLine) : EvL (tOp rCat ta tb) σ H (xs ++ ys) := fun H1 e1 Q q =>
  ha H1 e1 _ fun H2 e2 => hb H2 (e1.trans e2) _ fun b H3 nb e3 h3 => ⟨a, b, xs, ys, rfl, rfl, ((e1.trans e2).trans e3) _ _ hx, h3, hz, fun p np => q p _ (Evl.fresh_back (e2.trans e3) np) ((e2.trans e3).trans (Ex.new np)) upd_same⟩
theorem et_eqNil {i : Nat} {L : Addr} {l : List Str} (pl : Plain l) (hv : σ[i]? = some (some (.ref L))) (hH : H L = some (.lst (l.map V.str))) : EvT (tTest (tOp (rEqD K) (tVar i) (tLst tNil))) σ H l.isEmpty :=
  Evl.et_test (Evl.ev_opL (Evl.ev_var hv) (Evl.el_lst (vs := []) Evl.ea_nil (Nat.zero_le _)) fun q H1 hq e1 H2 e2 Q k => ⟨.list (l.map PyData.str), .list [], .lst (Evl.sq_of (e2 _ _ (e1 _ _ hH))) (dp_strs l), .lst (Evl.sq_of (e2 _ _ hq)) .nil, (GD.lstr pl).shaped (by decide), (GD.lst (ds := []) (n := 0) fun d hd => (by cases hd)).shaped (by decide), by
    cases l with
    | nil => exact k H2 (Ex.refl _)
    | cons x r => exact k H2 (Ex.refl _)⟩)
end
/-- what a deed of a letter's rule does -/
def Wd.deed (W : Wd) (k : Str) (i : Nat) (d : Str) : Wd := if d = "wipe" then { W with ow := none } else if k ∈ (["ask", "stop"] : List Str) then { W with wh := some i } else { W with ow := some i }
def Wd.deeds (W : Wd) (k : Str) (i : Nat) (ds : List Str) : Wd := ds.foldl (fun W d => W.deed k i d) W
def Wd.come (W : Wd) (i : Nat) : Wd := ({ W with ca := W.ca ++ [i], dn := W.dn ++ [W.ruleFor i] } : Wd).deeds (W.kind i) i (deedsM W.rs (W.ruleFor i))
/-- what is sure of a world -/
structure Wd.Ok (W : Wd) : Prop where
  mo : W.Mono
  wh : ∀ j, W.wh = some j → j < W.ls.length
  ow : ∀ j, W.ow = some j → j < W.ls.length
  gd : ∀ r ∈ W.rs, r.Good
  rl : W.rs.length ≤ 10
  ll : W.ls.length ≤ 100
  cl : W.ca.length ≤ 1000
  dl : W.dn.length ≤ 1000
/-- the same places but for lists that are made anew -/
structure SameA (A A' : Wa) : Prop where
  ra : A'.ra = A.ra
  so : A'.so = A.so
  le : A'.le = A.le
  sh : A'.sh = A.sh
  dn : A'.dn = A.dn
/-- all else stays -/
def Kw (w : Addr) (A : Wa) (H H' : Hp) : Prop := ∀ x o, x ≠ w → Wo A x → H x = some o → H' x = some o
theorem Kw.trans {w : Addr} {A : Wa} {H1 H2 H3 : Hp} (h1 : Kw w A H1 H2) (h2 : Kw w A H2 H3) : Kw w A H1 H3 := fun x o n wo h => h2 x o n wo (h1 x o n wo h)
theorem Kw.ex {w : Addr} {A : Wa} {H1 H2 : Hp} (e : Ex H1 H2) : Kw w A H1 H2 := fun x o _ _ h => e x o h
theorem Kw.w {w : Addr} {A : Wa} {H : Hp} {o : HO} : Kw w A H (upd H w o) := fun x u n _ h => by rw [upd_ne n]; exact h
theorem Kw.dn {w : Addr} {A : Wa} {H : Hp} {o : HO} : Kw w A H (upd H A.dn o) := fun x u _ n h => by rw [upd_ne n.2.2]; exact h
theorem bm_go {K : PySem.W.Frag} {T : String} {r : V → List V → Hp → VK → Prop} {to : TE} {t : TA} {tz : TS} {D : Ends} {σ : L2.St} {H : Hp} (h : to σ H fun x H1 => tyV K T x H1 ∧ t σ H1 fun xs H2 => r x xs H2 fun _ H3 => tz D σ H3) : tSeq (tDrop (tBM K T r to t)) tz D σ H := h
theorem Wd.deeds_snoc (W : Wd) (k : Str) (i : Nat) (ds : List Str) (d : Str) : W.deeds k i (ds ++ [d]) = (W.deeds k i ds).deed k i d := by
  unfold Wd.deeds
  rw [List.foldl_append]
  rfl
theorem wkvs_len (A : Wa) (W : Wd) : (wkvs A W).length < sizeLine := Nat.lt_of_lt_of_le (show 13 < 100000 by decide) (by rw [sizeLine_eq]; decide)
def spComeW : Sp := fun vs H Q _ => ∃ (Fa : Addr → Prop) (w : Addr) (A : Wa) (W : Wd) (i : Nat), vs = [.ref w, .int (i : Int)] ∧ WorldAt Fa H w A W ∧ W.Ok ∧ (∀ x, H x = none → Fa x) ∧ i < W.ls.length ∧ W.kind i ∈ letterKinds ∧
  ∀ (A' : Wa) (H' : Hp), WorldAt Fa H' w A' (W.come i) → SameA A A' → Kw w A H H' → Q .non H'
section
variable {P : Program} {w : World} {K : PySem.W.Frag} {mg : Str → Option Value} {base : Heap}
abbrev sCome : Stmt := topS 65
theorem scCome : FnScope ["_law_world_here", "_law_place", "_law_sort", "_law_found", "_law_at", "_law_row", "_law_wrong", "_law_deed", "_law_test_here"] ["_law_world_here", "_law_place"] (defScope sCome) := ⟨rfl, rfl, rfl, by decide +kernel, rfl, by decide +kernel, by decide +kernel⟩
theorem ok_comeW {f fHo : Addr} {fd fdHo : FuncData} (F : Fun K "_law_come" "_law_come" sCome f fd) (T : TxB mg) (n_enumerate : mg "enumerate" = none) (D_law_holds : Df K mg "_law_holds" sLawHolds ["_law_world_here", "_law_test_here", "_law_place"] fHo fdHo) : FnOk P w K mg base CX0 3 f fd ["_law_world_here", "_law_place"] spComeW := by
  have G_holds : FnOk P w K mg base CX0 2 fHo fdHo ["_law_world_here", "_law_test_here", "_law_place"] (spHoldsW 1) := ok_holdsW D_law_holds.F T D_law_holds
  refine F.ok scCome (fun vs H Q E h => ?_) (fun cdv A outer s H vs Q E hr h => ?_)
  · obtain ⟨Fa, w, A, W, i, rfl, _⟩ := h
    rfl
  · obtain ⟨Fa, wa, Aw, W, i, rfl, g, ok, fN, hi, hk, q⟩ := h
    have hu : (A.deeper (envOfC "_law_come" (defScope sCome) s.heap.objs.size f cdv)).units + 1 < cLine := by
      have := hr.units
      omega
    refine ⟨_, pss_cons (ps_set (i := 2) scCome.nd rfl (.inr rfl) (pe_ix ix_list (pe_ix ix_list (pe_dget hu (pv 0) pe_str (fun _ _ => rfl)) (pv 1) (fun _ _ => rfl)) pe_int (fun _ _ => rfl)))
      (pss_cons (ps_set (i := 3) scCome.nd rfl (.inl rfl) pe_non)
      (pss_cut (ps_for PassesOwn.never rfl (pi_enum (by rfl) n_enumerate (pa_cons (pe_dget hu (pv 0) pe_str (fun _ _ => rfl)) pa_nil)) (pg_tup (by rfl) (pgs_cons (pg_name (i := 4) scCome.nd rfl (Or.inl rfl)) (pgs_cons (pg_name (i := 5) scCome.nd rfl (Or.inr rfl)) pgs_nil))) (pss_cons (ps_setLc (i := 6) (own := [("_law_test_here", 8)]) (g := gName 8) (tt := tAnd (tTest (tOp rEq (tOp (rIxT K) (tVar 5) (tC (.int 0))) (tVar 2))) (tNot (tB (tCall (spHoldsW 1) [] E0 (tCons (tVar 0) (tCons (tVar 8) (tCons (tVar 1) tNil))))))) rfl scCome.nd rfl rfl (sw_true rfl rfl rfl (by decide +kernel)) (pi_list (pe_ix ix_tup (pv 5) pe_int (fun _ _ => rfl))) (blkOk_by (own := [("_law_test_here", 8)]) (N := ["_law_world_here", "_law_place", "_law_sort", "_law_found", "_law_at", "_law_row", "_law_wrong", "_law_deed", "_law_test_here"]) (sc := defScope sCome) (by decide +kernel)) (fun _ _ _ _ _ => (pg_name (i := 8) scCome.nd rfl (Or.inl rfl))) (fun _ _ _ _ _ => (pts_one (PW.pt (pw_and (pt_cmpR op_eq (pe_ix (r := rIxT K) ix_tup (pv 5) pe_int (fun _ _ => rfl)) (pv 2) (nomark _)) (pw_and1 (pt_not (pt_val (pe_call (E := E0) G_holds (hr.mono (by decide)) rfl D_law_holds.g D_law_holds.F.kp D_law_holds.b .nil pass0 (pa_cons (pv 0) (pa_cons (pv 8) (pa_cons (pv 1) pa_nil))))))))))) (fun _ _ _ _ _ => (pv 8)))
      (pss_one (ps_if (PW.pt (pw_and (pt_cmpR op_isN (pv 3) pe_non (nomark _)) (pw_and (pt_cmpR op_eq (pe_ix ix_tup (pv 5) pe_int (fun _ _ => rfl)) (pv 2) (nomark _)) (pw_and1 (pt_cmpR (op_eqD hr.units) (pv 6) (pe_lst pa_nil) (nomark _)))))) (pss_one (ps_set (i := 3) scCome.nd rfl (.inl rfl) (pv 4))) pss_nil))))
      (pss_cons (ps_asg (pe_op op_cat (pe_dget hu (pv 0) pe_str (fun _ _ => rfl)) (pe_lst (pa_cons (pv 1) pa_nil))) (pg_sub (pv 0) pe_str (set_dict hu)))
      (pss_cons (ps_expr (pe_bm PySem.F.plainAttrs_list PySem.F.slot_list_append PySem.F.type_list_append mt_append (pe_dget hu (pv 0) pe_str (fun _ _ => rfl)) (pa_cons (pv 3) pa_nil)))
      (pss_one (ps_for PassesOwn.never rfl (pi_list (pe_ifExp (pt_cmpR op_notN (pv 3) pe_non (nomark _)) (pe_ix ix_tup (pe_ix ix_list (pe_dget hu (pv 0) pe_str (fun _ _ => rfl)) (pv 3) (fun _ _ => rfl)) pe_int (fun _ _ => rfl)) (pe_lst pa_nil))) (pg_name (i := 7) scCome.nd rfl (Or.inl rfl)) (pss_one (ps_if (pt_cmpR op_eq (pv 7) pe_str (nomark _)) (pss_one (ps_asg pe_non (pg_sub (pv 0) pe_str (set_dict hu)))) (pss_one (ps_asg (pv 1) (pg_sub (pv 0) (pe_ifExp (pt_cmpR op_in_seq (pv 2) (pe_tup (pa_cons pe_str (pa_cons pe_str pa_nil))) (by rfl)) pe_str pe_str) (set_dict hu)))))))))))), ?_⟩
    obtain ⟨xs, s1, s2⟩ := g.so
    obtain ⟨ys, l1, l2⟩ := g.le
    have lx := paired_len s2
    have ly := paired_len l2
    have lsx := ok.rl
    -- its kind
    obtain ⟨x, hx⟩ : ∃ x, ys[i]? = some x := ⟨_, List.getElem?_eq_getElem (by omega)⟩
    obtain ⟨l, hl2, p, rfl, hp2, _⟩ := prd_at l2 hx
    have ek : W.kind i = l.1 := by
      unfold Wd.kind
      rw [hl2]
      rfl
    refine Evl.q_asg (v := .str (W.kind i)) (Evl.ev_is (Evl.ev_op (x := .ref p) (Evl.ev_op (x := .ref Aw.le) (ev_wget (Evl.ev_var rfl) g.hw (wg_letters Aw W)) (Evl.ev_var rfl) (Evl.rv_ixL (Evl.sq_of l1) (atI_nat hx))) (Evl.ev_c (v := .int 0)) (Evl.rv_ixL (Evl.sq_of hp2) rfl)) (by rw [ek])) fun H1 e1 => ?_
    refine Evl.q_asg (v := V.non) Evl.ev_c fun H2 e2 => ?_
    have e02 := e1.trans e2
    -- its rule
    refine Evl.q_cut (M := fun σ' H' => ∃ b4 b5 b6 b7 b8 : Option V, σ' = [some (.ref wa), some (.int (i : Int)), some (.str (W.kind i)), some (ov (W.ruleFor i)), b4, b5, b6, b7, b8] ∧ Ex H H') ?_ (fun σ' H' hh => ?_)
    · refine (ev_wget (Evl.ev_var rfl) (e02 _ _ g.hw) (wg_some Aw W)) H2 (Ex.refl _) _ fun H3 e3 => ?_
      have e03 := e02.trans e3
      refine ⟨Aw.so, xs, rfl, Evl.sq_of (e03 _ _ s1), for_it (walk_enum (xs := xs)) (fun j σ' H' => ∃ b4 b5 b6 b7 b8 : Option V, σ' = [some (.ref wa), some (.int (i : Int)), some (.str (W.kind i)), some (ov ((W.rs.take j).findIdx? (W.fits i))), b4, b5, b6, b7, b8] ∧ Ex H H')
        ⟨_, _, _, _, _, rfl, e03⟩ (fun j σ' H' _ ⟨_, _, _, _, _, _, e⟩ => Evl.sq_of (e _ _ s1)) ?_ (fun σ' H' ⟨b4, b5, b6, b7, b8, e, ex⟩ => ⟨b4, b5, b6, b7, b8, by
          rw [e, lx, List.take_length]
          rfl, ex⟩)⟩
      rintro j x σ' H4 H5 hj ⟨b4, b5, b6, b7, b8, rfl, e4⟩ ⟨T0, _, y, rfl, nT, rfl, hc1, hy1⟩
      obtain rfl := Option.some.inj hc1
      replace hy1 : xs[j]? = some y := hy1
      obtain ⟨r, hr2, t, a1, a2, rfl, q1, q2, q3, _, _⟩ := prd_at s2 hy1
      have gd := ok.gd r (List.mem_of_getElem? hr2)
      have e5 : Ex H4 (upd H4 T0 (.tup [V.int (j : Int), V.ref t])) := Ex.new nT
      have e05 := e4.trans e5
      refine ⟨T0, _, rfl, Evl.st_of upd_same, rfl, _, _, rfl, _, _, rfl, rfl, ?_⟩
      -- its tests that do not hold
      refine Evl.q_asgL (xs := (r.ts.filter fun z => decide (r.k = W.kind i) && !W.holds z i).map V.str) ?_ fun L H6 nL e6 hL => ?_
      · rw [← given_texts r.ts (fun z => decide (r.k = W.kind i) && !W.holds z i) (fun a => match r.ts[a]? with | some z => decide (r.k = W.kind i) && !W.holds z i | none => false) (fun a => ((r.ts.map V.str)[a]?).getD .non) (fun a z hz => by
          rw [List.getElem?_map, hz]
          exact ⟨rfl, rfl⟩), show r.ts.length = (r.ts.map V.str).length from (List.length_map ..).symm]
        refine Evl.el_lcL _ _ (ev_ixT (K := K) (j := 1) (v := .ref a1) (Evl.ev_var rfl) Evl.ev_c (Evl.st_of (e05 _ _ q1)) rfl) (Evl.sq_of (e05 _ _ q2)) (by rw [List.length_map]; have := gd.nt; omega) (fun _ => rfl) (fun a z H7 e7 hz => ?_) (fun a z H7 e7 hz _ => ?_)
        · obtain ⟨z, rfl, hz2⟩ := strs_at hz
          rw [hz2]
          have e07 := e05.trans e7
          refine Evl.et_and (a := decide (r.k = W.kind i)) (b := !W.holds z i) (Evl.et_is (Evl.et_test (Evl.ev_op (x := .str r.k) (ev_ixT (K := K) (j := 0) (v := .str r.k) (Evl.ev_var rfl) Evl.ev_c (Evl.st_of (e07 _ _ q1)) rfl) (Evl.ev_var rfl) (Evl.rv_eq rfl))) (eq_str _ _)) (fun ha => Evl.et_not (Evl.et_B fun H8 e8 Q8 q8 => ?_))
          have ha := of_decide_eq_true ha
          have hz3 : z ∈ testsL ++ testsL.map (("not " : Str) ++ ·) := letter_test (by rw [ha]; exact hk) (gd.ts z (List.mem_of_getElem? hz2))
          refine (Evl.ea_cons (Evl.ev_var rfl) (Evl.ea_cons (Evl.ev_var rfl) (Evl.ea_cons (Evl.ev_var rfl) Evl.ea_nil))) H8 e8 _ fun H9 e9 => ?_
          have e09 := (e07.trans e8).trans e9
          refine ⟨wa, Aw, W, ys, z, i, rfl, (List.mem_append.mp hz3).imp id fun z => ⟨rfl, z⟩, e09 _ _ g.hw, e09 _ _ l1, prd_imp (fun _ _ ⟨p, h1, h2, _⟩ => ⟨p, h1, e09 _ _ h2, trivial⟩) l2, ok.mo, hi, ok.wh, ok.ow, fun Ha ea => q8 Ha (e9.trans ea)⟩
        · rw [hz]
          exact Evl.ev_var rfl
      have e06 := e05.trans e6
      have fs := find_step (W.fits i) hr2
      have fe : W.fits i r = (decide (r.k = W.kind i) && (r.ts.filter fun z => decide (r.k = W.kind i) && !W.holds z i).isEmpty) := by
        unfold Wd.fits
        by_cases c : r.k = W.kind i
        · rw [decide_eq_true c, Bool.true_and, Bool.true_and]
          rw [Bool.eq_iff_iff, List.all_eq_true, List.isEmpty_iff, List.filter_eq_nil_iff]
          simp
        · rw [decide_eq_false c]
          rfl
      have pw : Plain (r.ts.filter fun z => decide (r.k = W.kind i) && !W.holds z i) := fun z hz => gd.pt z (List.mem_filter.mp hz).1
      refine Evl.s_when (b := decide (ov ((W.rs.take j).findIdx? (W.fits i)) = V.non) && W.fits i r) (Evl.et_is (Evl.et_and (b := decide (r.k = W.kind i) && (r.ts.filter fun z => decide (r.k = W.kind i) && !W.holds z i).isEmpty) (Evl.et_test (Evl.ev_op (Evl.ev_var rfl) Evl.ev_c rv_isN)) (fun _ => Evl.et_and (Evl.et_is (Evl.et_test (Evl.ev_op (x := .str r.k) (ev_ixT (K := K) (j := 0) (v := .str r.k) (Evl.ev_var rfl) Evl.ev_c (Evl.st_of (e06 _ _ q1)) rfl) (Evl.ev_var rfl) (Evl.rv_eq rfl))) (eq_str _ _)) (fun _ => et_eqNil (K := K) pw rfl hL))) (by rw [fe])) (fun hb H7 e7 => ?_) (fun hb H7 e7 => ?_)
      · obtain ⟨h1, h2⟩ := Bool.and_eq_true_iff.mp hb
        have h3 : (W.rs.take j).findIdx? (W.fits i) = none := by
          cases e : (W.rs.take j).findIdx? (W.fits i) with
          | none => rfl
          | some a =>
            rw [e] at h1
            exact absurd (of_decide_eq_true h1) (fun z => nomatch z)
        refine Evl.s_asg (v := .int (j : Int)) (Evl.ev_var rfl) fun H8 e8 => ⟨some (.int (j : Int)), some (.ref t), some (.ref L), b7, b8, ?_, (e06.trans e7).trans e8⟩
        rw [fs, if_pos ⟨h3, h2⟩]
        rfl
      · refine ⟨some (.int (j : Int)), some (.ref t), some (.ref L), b7, b8, ?_, e06.trans e7⟩
        rw [fs, if_neg]
        · rfl
        · rintro ⟨h1, h2⟩
          rw [h1, h2] at hb
          cases hb
    · obtain ⟨b4, b5, b6, b7, b8, rfl, ex⟩ := hh
      have g1 := g.ex ex
      have cl := ok.cl
      have dl := ok.dl
      -- it came
      refine q_put ?_
      refine (el_catV (xs := W.ca.map natV) (ys := [natV i]) (ev_wget (Evl.ev_var rfl) g1.hw (wg_came Aw W)) g1.ca (Evl.el_lst (Evl.ea_cons (Evl.ev_var rfl) Evl.ea_nil) (by show 1 ≤ 100000; decide)) (by rw [List.length_map]; exact size_of (by show W.ca.length + 1 ≤ 100000; omega))) H' (Ex.refl _) _ fun p2 H2 np e2 hp => ?_
      have g2 := g1.ex e2
      refine ⟨_, rfl, wa, _, rfl, DPut.k (k := .inr "came") g2.hw (wkvs_len _ _), ?_⟩
      have g3 := g2.set_came (l := W.ca ++ [i]) (p := p2) (by rw [List.map_append]; exact hp) (g1.new np) (fN p2 (Evl.fresh_back ex np))
      have k3 : Kw wa Aw H (upd H2 wa (.dK (putK (wkvs Aw W) (.inr "came") (.ref p2)))) := (Kw.ex (ex.trans e2)).trans Kw.w
      generalize upd H2 wa (.dK (putK (wkvs Aw W) (.inr "came") (.ref p2))) = H3 at g3 k3 ⊢
      -- its rule is noted
      refine bm_go ?_
      refine (ev_wget (Evl.ev_var rfl) g3.hw (wg_done _ _)) H3 (Ex.refl _) _ fun H4 e4 => ?_
      have g4 := g3.ex e4
      refine ⟨.inl ⟨rfl, _, Evl.sq_of g4.dn⟩, _, rfl, Aw.dn, _, ov (W.ruleFor i), rfl, rfl, g4.dn, Evl.sz_lt (by rw [List.length_map]; show W.dn.length < 100000; omega), ?_⟩
      have g5 := g4.appDn (W.ruleFor i)
      have k5 : Kw wa Aw H (upd H4 Aw.dn (.lst (W.dn.map ov ++ [ov (W.ruleFor i)]))) := (k3.trans (Kw.ex e4)).trans Kw.dn
      replace g5 : WorldAt Fa (upd H4 Aw.dn (.lst (W.dn.map ov ++ [ov (W.ruleFor i)]))) wa { Aw with ca := p2 } { W with ca := W.ca ++ [i], dn := W.dn ++ [W.ruleFor i] } := g5
      show tFor _ _ _ _ _ (upd H4 Aw.dn (.lst (W.dn.map ov ++ [ov (W.ruleFor i)])))
      generalize upd H4 Aw.dn (.lst (W.dn.map ov ++ [ov (W.ruleFor i)])) = H5 at g5 k5 ⊢
      -- its deeds
      have sa : SameA Aw { Aw with ca := p2 } := ⟨rfl, rfl, rfl, rfl, rfl⟩
      cases hf : W.ruleFor i with
      | none =>
        rw [hf] at g5
        refine Evl.s_forNL (xs := []) (el_if (b := false) (Evl.et_is (Evl.et_test (Evl.ev_op (Evl.ev_var rfl) Evl.ev_c rv_notN)) rfl) (fun z => nomatch z) (fun _ => Evl.el_lst Evl.ea_nil (Nat.zero_le _))) (fun L j σ' H' => Ex H5 H' ∧ H' L = some (.lst [])) (fun L H6 nL e6 hL => ⟨e6, hL⟩) (fun L j σ' H' _ h => Evl.sq_of h.2) (fun L j x σ' H' hx _ => nomatch hx) (fun L σ' H' h => ?_)
        refine q _ H' ?_ sa (k5.trans (Kw.ex h.1))
        unfold Wd.come
        rw [hf]
        exact g5.ex h.1
      | some c =>
        rw [hf] at g5
        obtain ⟨zs, z1, z2⟩ := g5.so
        have hc : c < W.rs.length := by
          rw [Wd.rule_eq] at hf
          exact (List.findIdx?_eq_some_iff_getElem.mp hf).1
        have lz := paired_len z2
        obtain ⟨x, hx⟩ : ∃ x, zs[c]? = some x := ⟨_, List.getElem?_eq_getElem (by rw [lz]; exact hc)⟩
        obtain ⟨r, hr2, t, a1, a2, rfl, q1, q2, q3, q4, q5⟩ := prd_at z2 hx
        replace hr2 : W.rs[c]? = some r := hr2
        have ds : deedsM W.rs (some c) = r.ds := by
          show ((W.rs[c]?).map RuleD.ds).getD [] = r.ds
          rw [hr2]
          rfl
        have a2w : a2 ≠ wa := ne_of q3 g5.hw fun z => nomatch z
        refine Evl.s_forL (a := a2) (xs := r.ds.map V.str) (Evl.ev_if (b := true) (Evl.et_is (Evl.et_test (Evl.ev_op (Evl.ev_var rfl) Evl.ev_c rv_notN)) rfl) (fun _ => ev_ixT (K := K) (j := 2) (v := .ref a2) (Evl.ev_op (x := .ref Aw.so) (y := .int (c : Int)) (ev_wget (Evl.ev_var rfl) g5.hw (wg_some _ _)) (Evl.ev_var rfl) (Evl.rv_ixL (Evl.sq_of z1) (atI_nat hx))) Evl.ev_c (Evl.st_of q1) rfl) (fun z => nomatch z)) (Evl.sq_of q3)
          (fun j σ' H' => ∃ c7 : Option V, σ' = [some (.ref wa), some (.int (i : Int)), some (.str (W.kind i)), some (.int (c : Int)), b4, b5, b6, c7, b8] ∧ WorldAt Fa H' wa { Aw with ca := p2 } (({ W with ca := W.ca ++ [i], dn := W.dn ++ [some c] } : Wd).deeds (W.kind i) i (r.ds.take j)) ∧ Kw wa Aw H5 H')
          (fun H6 e6 => ⟨_, rfl, g5.ex e6, Kw.ex e6⟩) (fun j σ' H' _ ⟨_, _, _, kk⟩ => Evl.sq_of (kk _ _ a2w q5.1 q3)) ?_ (fun σ' H' ⟨_, _, gg, kk⟩ => ?_)
        · rintro j x σ' H6 hx ⟨c7, rfl, g6, k6⟩
          obtain ⟨d, rfl, hd⟩ := strs_at hx
          have tk : r.ds.take (j + 1) = r.ds.take j ++ [d] := by rw [List.take_add_one, hd]; rfl
          rw [tk, Wd.deeds_snoc]
          generalize (({ W with ca := W.ca ++ [i], dn := W.dn ++ [some c] } : Wd).deeds (W.kind i) i (r.ds.take j)) = W6 at g6 ⊢
          refine Evl.s_if (b := decide (d = "wipe")) (Evl.et_is (Evl.et_test (Evl.ev_op (Evl.ev_var rfl) Evl.ev_c (Evl.rv_eq rfl))) (eq_str _ _)) (fun hb H7 e7 => ?_) (fun hb H7 e7 => ?_)
          · have g7 := g6.ex e7
            refine ⟨_, rfl, wa, _, rfl, DPut.k (k := .inr "own") (v := V.non) g7.hw (wkvs_len _ _), _, rfl, ?_, (k6.trans (Kw.ex e7)).trans Kw.w⟩
            unfold Wd.deed
            rw [if_pos (of_decide_eq_true hb)]
            exact g7.set_own none
          · have g7 := g6.ex e7
            unfold Wd.deed
            rw [if_neg (of_decide_eq_false hb)]
            by_cases cm : W.kind i ∈ (["ask", "stop"] : List Str)
            · rw [if_pos cm]
              refine ⟨_, rfl, _, rfl, ?_⟩
              refine (Evl.ev_if (b := true) (v := .str "whole") (Evl.et_is (Evl.et_test (Evl.ev_inU (x := .str (W.kind i)) (xs := (["ask", "stop"] : List Str).map V.str) (Evl.ev_var rfl) (Evl.eu_tup (Evl.ea_cons Evl.ev_c (Evl.ea_cons Evl.ev_c Evl.ea_nil)) (by show 2 ≤ 100000; decide)) rfl (flat_strs _))) (by rw [inV_strs]; exact decide_eq_true cm)) (fun _ => Evl.ev_c) (fun z => nomatch z)) H7 (Ex.refl _) _ fun H8 e8 => ?_
              have g8 := g7.ex e8
              exact ⟨wa, _, rfl, DPut.k (k := .inr "whole") (v := ov (some i)) g8.hw (wkvs_len _ _), _, rfl, g8.set_whole (some i), (k6.trans (Kw.ex (e7.trans e8))).trans Kw.w⟩
            · rw [if_neg cm]
              refine ⟨_, rfl, _, rfl, ?_⟩
              refine (Evl.ev_if (b := false) (v := .str "own") (Evl.et_is (Evl.et_test (Evl.ev_inU (x := .str (W.kind i)) (xs := (["ask", "stop"] : List Str).map V.str) (Evl.ev_var rfl) (Evl.eu_tup (Evl.ea_cons Evl.ev_c (Evl.ea_cons Evl.ev_c Evl.ea_nil)) (by show 2 ≤ 100000; decide)) rfl (flat_strs _))) (by rw [inV_strs]; exact decide_eq_false cm)) (fun z => nomatch z) (fun _ => Evl.ev_c)) H7 (Ex.refl _) _ fun H8 e8 => ?_
              have g8 := g7.ex e8
              exact ⟨wa, _, rfl, DPut.k (k := .inr "own") (v := ov (some i)) g8.hw (wkvs_len _ _), _, rfl, g8.set_own (some i), (k6.trans (Kw.ex (e7.trans e8))).trans Kw.w⟩
        · rw [List.length_map, List.take_length] at gg
          refine q _ H' ?_ sa (k5.trans kk)
          unfold Wd.come
          rw [hf, ds]
          exact gg
end
end Ov


namespace Ov
open PySem PySem.Spec PyProof.Rows L2
open Evl (pss_cut tCut Ex Ev EvT EvL EvA EvU)
/-! ### stage 2's world: an answer is heard -/
def Wd.givenAt (W : Wd) (n : Nat) : Nat := (W.gi[n]?).getD 0
def Wd.lvl (W : Wd) (n : Nat) : Bool := decide (W.numb (W.givenAt n) = W.numb (W.ls.length - 1))
def hfits (lv : Bool) (r : RuleD) : Bool := decide (r.k = ("answer" : Str)) && r.ts.all fun t => !(decide (t = ("level" : Str)) != lv)
def Wd.ruleHear (W : Wd) (n : Nat) : Option Nat := W.rs.findIdx? (hfits (W.lvl n))
def Wd.heardCo (W : Wd) (n : Nat) (ds : List Str) : Option Nat := ds.foldl (fun _ d => if d = ("count" : Str) then some n else none) W.co
def Wd.heard1 (W : Wd) (n : Nat) : Wd := { W with dn := W.dn ++ [W.ruleHear n], co := W.heardCo n (deedsM W.rs (W.ruleHear n)) }
def Wd.hear (W : Wd) (n : Nat) : Wd := if W.givenAt n = W.nw ∧ (W.heard1 n).co = none then { W.heard1 n with me := W.me ++ (["deaf"] : List Str) } else W.heard1 n
theorem heard_snoc (W : Wd) (n : Nat) (ds : List Str) (d : Str) : W.heardCo n (ds ++ [d]) = if d = ("count" : Str) then some n else none := by
  unfold Wd.heardCo
  rw [List.foldl_append]
  rfl
section
variable {Fa : Addr → Prop} {H H' : Hp} {w : Addr} {A : Wa} {W : Wd}
theorem WorldAt.set_counted (g : WorldAt Fa H w A W) (o : Option Nat) : WorldAt Fa (upd H w (.dK (putK (wkvs A W) (.inr "counted") (ov o)))) w A { W with co := o } := by
  rw [wp_counted]
  exact g.anew ⟨rfl, rfl, rfl, rfl, rfl⟩ ⟨rfl, rfl, rfl, rfl, rfl⟩ g.keepGi g.keepCa g.keepSe g.keepMe
theorem WorldAt.set_met (g : WorldAt Fa H w A W) {p : Addr} {l : List Str} (h : H p = some (.lst (l.map V.str))) (wo : Wo A p) (fa : Fa p) : WorldAt Fa (upd H w (.dK (putK (wkvs A W) (.inr "met") (.ref p)))) w { A with me := p } { W with me := l } := by
  rw [wp_met A W p l]
  exact g.anew ⟨rfl, rfl, rfl, rfl, rfl⟩ ⟨rfl, rfl, rfl, rfl, rfl⟩ g.keepGi g.keepCa g.keepSe ⟨h, wo, fa⟩
end
section
variable {K : PySem.W.Frag} {σ : L2.St} {H : Hp} {ta td : TE}
/-- the number of the last letter -/
theorem ev_numbL {A : Wa} {W : Wd} {w : Addr} {xs : List V} (h : Ev td σ H (.ref w)) (hi : Ev ta σ H (.int (-1))) (hw : H w = some (.dK (wkvs A W))) (hl : H A.le = some (.lst xs)) (hp : Paired (LtW (fun _ => True) H) xs W.ls) (ne : 0 < W.ls.length) :
    Ev (tOp (rIxL K) (tOp (rIxL K) (tDGet td (tC (.str "letters"))) ta) (tC (.int 1))) σ H (.int (W.numb (W.ls.length - 1))) := by
  have lx := paired_len hp
  obtain ⟨x, hx⟩ : ∃ x, xs[W.ls.length - 1]? = some x := ⟨_, List.getElem?_eq_getElem (by omega)⟩
  obtain ⟨l, hl2, p, rfl, h2, _⟩ := prd_at hp hx
  have e : W.numb (W.ls.length - 1) = l.2.1 := by
    unfold Wd.numb
    rw [hl2]
    rfl
  rw [e]
  have at1 : atI xs (-1) = some (.ref p) := by
    rw [← lx] at hx
    unfold atI ixN
    have c1 : ¬ ((0 : Int) ≤ -1) := by decide
    have c2 : -(xs.length : Int) ≤ -1 := by omega
    rw [if_neg c1, if_pos c2]
    show xs[((-1 : Int) + (xs.length : Int)).toNat]? = _
    rw [show ((-1 : Int) + (xs.length : Int)).toNat = xs.length - 1 by omega]
    exact hx
  exact Evl.ev_op (x := .ref p) (Evl.ev_op (x := .ref A.le) (ev_wget h hw (wg_letters A W)) hi (Evl.rv_ixL (Evl.sq_of hl) at1)) (Evl.ev_c (v := .int 1)) (Evl.rv_ixL (Evl.sq_of h2) rfl)
end
def spHearW : Sp := fun vs H Q _ => ∃ (Fa : Addr → Prop) (w : Addr) (A : Wa) (W : Wd) (n : Nat), vs = [.ref w, .int (n : Int)] ∧ WorldAt Fa H w A W ∧ W.Ok ∧ (∀ x, H x = none → Fa x) ∧ n < W.gi.length ∧ 0 < W.ls.length ∧ (∀ j ∈ W.gi, j < W.ls.length) ∧ W.me.length ≤ 1000 ∧
  ∀ (A' : Wa) (H' : Hp), WorldAt Fa H' w A' (W.hear n) → SameA A A' → Kw w A H H' → Q .non H'
section
variable {P : Program} {w : World} {K : PySem.W.Frag} {mg : Str → Option Value} {base : Heap}
abbrev sHear : Stmt := topS 66
theorem scHear : FnScope ["_law_world_here", "_law_number", "_law_place", "_law_found", "_law_is_level", "_law_at", "_law_row", "_law_wrong", "_law_deed", "_law_test_here"] ["_law_world_here", "_law_number"] (defScope sHear) := ⟨rfl, rfl, rfl, by decide +kernel, rfl, by decide +kernel, by decide +kernel⟩
theorem ok_hearW {f : Addr} {fd : FuncData} (F : Fun K "_law_hear" "_law_hear" sHear f fd) (T : TxB mg) (n_enumerate : mg "enumerate" = none) : FnOk P w K mg base CX0 1 f fd ["_law_world_here", "_law_number"] spHearW := by
  refine F.ok scHear (fun vs H Q E h => ?_) (fun cdv A outer s H vs Q E hr h => ?_)
  · obtain ⟨Fa, w, A, W, n, rfl, _⟩ := h
    rfl
  · obtain ⟨Fa, wa, Aw, W, n, rfl, g, ok, fN, hn, ne, gin, ml, q⟩ := h
    have hu : (A.deeper (envOfC "_law_hear" (defScope sHear) s.heap.objs.size f cdv)).units + 1 < cLine := by
      have := hr.units
      omega
    refine ⟨_, pss_cons (ps_par (i := 2) (j := 3) (by rfl) scHear.nd rfl rfl (by decide) rfl rfl (pa_cons (pe_ix ix_list (pe_dget hu (pv 0) pe_str (fun _ _ => rfl)) (pv 1) (fun _ _ => rfl)) (pa_cons pe_non pa_nil)) (by rfl))
      (pss_cons (ps_set (i := 4) scHear.nd rfl (.inr rfl) (pe_cmpR op_eq (pe_ix ix_list (pe_ix ix_list (pe_dget hu (pv 0) pe_str (fun _ _ => rfl)) (pv 2) (fun _ _ => rfl)) pe_int (fun _ _ => rfl)) (pe_ix ix_list (pe_ix ix_list (pe_dget hu (pv 0) pe_str (fun _ _ => rfl)) (pe_un un_neg pe_int) (fun _ _ => rfl)) pe_int (fun _ _ => rfl)) (nomark _)))
      (pss_cut (ps_for PassesOwn.never rfl (pi_enum (by rfl) n_enumerate (pa_cons (pe_dget hu (pv 0) pe_str (fun _ _ => rfl)) pa_nil)) (pg_tup (by rfl) (pgs_cons (pg_name (i := 5) scHear.nd rfl (Or.inl rfl)) (pgs_cons (pg_name (i := 6) scHear.nd rfl (Or.inl rfl)) pgs_nil))) (pss_cons (ps_setLc (i := 7) (own := [("_law_test_here", 9)]) (g := gName 9) (tt := tTest (tOp rNe (tOp rEq (tVar 9) (tC (.str "level"))) (tVar 4))) rfl scHear.nd rfl rfl (sw_true rfl rfl rfl (by decide +kernel)) (pi_list (pe_ix ix_tup (pv 6) pe_int (fun _ _ => rfl))) (blkOk_by (own := [("_law_test_here", 9)]) (N := ["_law_world_here", "_law_number", "_law_place", "_law_found", "_law_is_level", "_law_at", "_law_row", "_law_wrong", "_law_deed", "_law_test_here"]) (sc := defScope sHear) (by decide +kernel)) (fun _ _ _ _ _ => (pg_name (i := 9) scHear.nd rfl (Or.inl rfl))) (fun _ _ _ _ _ => (pts_one (pt_cmpR op_ne (pe_cmpR op_eq (pv 9) pe_str (nomark _)) (pv 4) (nomark _)))) (fun _ _ _ _ _ => (pv 9)))
      (pss_one (ps_if (PW.pt (pw_and (pt_cmpR op_isN (pv 3) pe_non (nomark _)) (pw_and (pt_cmpR op_eq (pe_ix ix_tup (pv 6) pe_int (fun _ _ => rfl)) pe_str (nomark _)) (pw_and1 (pt_cmpR (op_eqD hr.units) (pv 7) (pe_lst pa_nil) (nomark _)))))) (pss_one (ps_set (i := 3) scHear.nd rfl (.inl rfl) (pv 5))) pss_nil))))
      (pss_cons (ps_expr (pe_bm PySem.F.plainAttrs_list PySem.F.slot_list_append PySem.F.type_list_append mt_append (pe_dget hu (pv 0) pe_str (fun _ _ => rfl)) (pa_cons (pv 3) pa_nil)))
      (pss_cut (ps_for PassesOwn.never rfl (pi_list (pe_ifExp (pt_cmpR op_notN (pv 3) pe_non (nomark _)) (pe_ix ix_tup (pe_ix ix_list (pe_dget hu (pv 0) pe_str (fun _ _ => rfl)) (pv 3) (fun _ _ => rfl)) pe_int (fun _ _ => rfl)) (pe_lst pa_nil))) (pg_name (i := 8) scHear.nd rfl (Or.inl rfl)) (pss_one (ps_asg (pe_ifExp (pt_cmpR op_eq (pv 8) pe_str (nomark _)) (pv 1) pe_non) (pg_sub (pv 0) pe_str (set_dict hu)))))
      (pss_one (ps_if (PW.pt (pw_and (pt_cmpR op_eq (pv 2) (pe_dget hu (pv 0) pe_str (fun _ _ => rfl)) (nomark _)) (pw_and1 (pt_cmpR op_isN (pe_dget hu (pv 0) pe_str (fun _ _ => rfl)) pe_non (nomark _))))) (pss_one (ps_asg (pe_op op_cat (pe_dget hu (pv 0) pe_str (fun _ _ => rfl)) (pe_lst (pa_cons pe_str pa_nil))) (pg_sub (pv 0) pe_str (set_dict hu)))) pss_nil)))))), ?_⟩
    obtain ⟨xs, s1, s2⟩ := g.so
    obtain ⟨ys, l1, l2⟩ := g.le
    have lx := paired_len s2
    have l2T : Paired (LtW (fun _ => True) H) ys W.ls := prd_imp (fun _ _ ⟨p, h1, h2, _⟩ => ⟨p, h1, h2, trivial⟩) l2
    have eg : W.gi[n]? = some (W.givenAt n) := by
      unfold Wd.givenAt
      rw [List.getElem?_eq_getElem hn]
      rfl
    have gl : W.givenAt n < W.ls.length := gin _ (List.mem_of_getElem? eg)
    -- which letter
    refine par_go ?_
    refine (Evl.ea_cons (x := natV (W.givenAt n)) (Evl.ev_op (x := .ref Aw.gi) (y := .int (n : Int)) (ev_wget (Evl.ev_var rfl) g.hw (wg_given Aw W)) (Evl.ev_var rfl) (Evl.rv_ixL (Evl.sq_of g.gi) (atI_nat (by rw [List.getElem?_map, eg]; rfl)))) (Evl.ea_cons (x := V.non) Evl.ev_c Evl.ea_nil)) H (Ex.refl _) _ fun H1 e1 => ?_
    refine ⟨_, _, rfl, ?_⟩
    refine Evl.q_asg (v := .bl (W.lvl n)) (Evl.ev_is (Evl.ev_op (x := .int (W.numb (W.givenAt n))) (y := .int (W.numb (W.ls.length - 1))) (ev_numb (A := Aw) (W := W) (Evl.ev_var rfl) (Evl.ev_var rfl) (e1 _ _ g.hw) (e1 _ _ l1) (prd_imp (fun _ _ h => LtW.mono e1 h) l2T) gl) (ev_numbL (A := Aw) (W := W) (Evl.ev_var rfl) (Evl.ev_un Evl.ev_c Evl.ru_neg) (e1 _ _ g.hw) (e1 _ _ l1) (prd_imp (fun _ _ h => LtW.mono e1 h) l2T) ne) (Evl.rv_eq rfl)) (congrArg V.bl (decide_eq_decide.mpr ⟨fun z => V.int.inj z, fun z => congrArg V.int z⟩))) fun H2 e2 => ?_
    have e02 := e1.trans e2
    -- its rule
    refine Evl.q_cut (M := fun σ' H' => ∃ b5 b6 b7 b8 b9 : Option V, σ' = [some (.ref wa), some (.int (n : Int)), some (natV (W.givenAt n)), some (ov (W.ruleHear n)), some (.bl (W.lvl n)), b5, b6, b7, b8, b9] ∧ Ex H H') ?_ (fun σ' H' hh => ?_)
    · refine (ev_wget (Evl.ev_var rfl) (e02 _ _ g.hw) (wg_some Aw W)) H2 (Ex.refl _) _ fun H3 e3 => ?_
      have e03 := e02.trans e3
      refine ⟨Aw.so, xs, rfl, Evl.sq_of (e03 _ _ s1), for_it (walk_enum (xs := xs)) (fun j σ' H' => ∃ b5 b6 b7 b8 b9 : Option V, σ' = [some (.ref wa), some (.int (n : Int)), some (natV (W.givenAt n)), some (ov ((W.rs.take j).findIdx? (hfits (W.lvl n)))), some (.bl (W.lvl n)), b5, b6, b7, b8, b9] ∧ Ex H H')
        ⟨_, _, _, _, _, rfl, e03⟩ (fun j σ' H' _ ⟨_, _, _, _, _, _, e⟩ => Evl.sq_of (e _ _ s1)) ?_ (fun σ' H' ⟨b5, b6, b7, b8, b9, e, ex⟩ => ⟨b5, b6, b7, b8, b9, by
          rw [e, lx, List.take_length]
          rfl, ex⟩)⟩
      rintro j x σ' H4 H5 hj ⟨b5, b6, b7, b8, b9, rfl, e4⟩ ⟨T0, _, y, rfl, nT, rfl, hc1, hy1⟩
      obtain rfl := Option.some.inj hc1
      replace hy1 : xs[j]? = some y := hy1
      obtain ⟨r, hr2, t, a1, a2, rfl, q1, q2, q3, _, _⟩ := prd_at s2 hy1
      have gd := ok.gd r (List.mem_of_getElem? hr2)
      have e5 : Ex H4 (upd H4 T0 (.tup [V.int (j : Int), V.ref t])) := Ex.new nT
      have e05 := e4.trans e5
      refine ⟨T0, _, rfl, Evl.st_of upd_same, rfl, _, _, rfl, _, _, rfl, rfl, ?_⟩
      refine Evl.q_asgL (xs := (r.ts.filter fun z => decide (z = ("level" : Str)) != W.lvl n).map V.str) ?_ fun L H6 nL e6 hL => ?_
      · rw [← given_texts r.ts (fun z => decide (z = ("level" : Str)) != W.lvl n) (fun a => match r.ts[a]? with | some z => decide (z = ("level" : Str)) != W.lvl n | none => false) (fun a => ((r.ts.map V.str)[a]?).getD .non) (fun a z hz => by
          rw [List.getElem?_map, hz]
          exact ⟨rfl, rfl⟩), show r.ts.length = (r.ts.map V.str).length from (List.length_map ..).symm]
        refine Evl.el_lcL _ _ (ev_ixT (K := K) (j := 1) (v := .ref a1) (Evl.ev_var rfl) Evl.ev_c (Evl.st_of (e05 _ _ q1)) rfl) (Evl.sq_of (e05 _ _ q2)) (by rw [List.length_map]; have := gd.nt; omega) (fun _ => rfl) (fun a z H7 e7 hz => ?_) (fun a z H7 e7 hz _ => ?_)
        · obtain ⟨z, rfl, hz2⟩ := strs_at hz
          rw [hz2]
          refine Evl.et_is (Evl.et_test (Evl.ev_op (x := .bl (decide (z = ("level" : Str)))) (y := .bl (W.lvl n)) (Evl.ev_is (Evl.ev_op (Evl.ev_var rfl) Evl.ev_c (Evl.rv_eq rfl)) (congrArg V.bl (eq_str _ _))) (Evl.ev_var rfl) (Evl.rv_ne rfl))) ?_
          show (!decide (V.bl (decide (z = ("level" : Str))) = V.bl (W.lvl n))) = (decide (z = ("level" : Str)) != W.lvl n)
          generalize decide (z = ("level" : Str)) = c1
          generalize W.lvl n = c2
          cases c1 <;> cases c2 <;> rfl
        · rw [hz]
          exact Evl.ev_var rfl
      have e06 := e05.trans e6
      have fs := find_step (hfits (W.lvl n)) hr2
      have fe : hfits (W.lvl n) r = (decide (r.k = ("answer" : Str)) && (r.ts.filter fun z => decide (z = ("level" : Str)) != W.lvl n).isEmpty) := by
        unfold hfits
        congr 1
        rw [Bool.eq_iff_iff, List.all_eq_true, List.isEmpty_iff, List.filter_eq_nil_iff]
        simp
      have pw : Plain (r.ts.filter fun z => decide (z = ("level" : Str)) != W.lvl n) := fun z hz => gd.pt z (List.mem_filter.mp hz).1
      refine Evl.s_when (b := decide (ov ((W.rs.take j).findIdx? (hfits (W.lvl n))) = V.non) && hfits (W.lvl n) r) (Evl.et_is (Evl.et_and (b := decide (r.k = ("answer" : Str)) && (r.ts.filter fun z => decide (z = ("level" : Str)) != W.lvl n).isEmpty) (Evl.et_test (Evl.ev_op (Evl.ev_var rfl) Evl.ev_c rv_isN)) (fun _ => Evl.et_and (Evl.et_is (Evl.et_test (Evl.ev_op (x := .str r.k) (ev_ixT (K := K) (j := 0) (v := .str r.k) (Evl.ev_var rfl) Evl.ev_c (Evl.st_of (e06 _ _ q1)) rfl) Evl.ev_c (Evl.rv_eq rfl))) (eq_str _ _)) (fun _ => et_eqNil (K := K) pw rfl hL))) (by rw [fe])) (fun hb H7 e7 => ?_) (fun hb H7 e7 => ?_)
      · obtain ⟨h1, h2⟩ := Bool.and_eq_true_iff.mp hb
        have h3 : (W.rs.take j).findIdx? (hfits (W.lvl n)) = none := by
          cases e : (W.rs.take j).findIdx? (hfits (W.lvl n)) with
          | none => rfl
          | some a =>
            rw [e] at h1
            exact absurd (of_decide_eq_true h1) (fun z => nomatch z)
        refine Evl.s_asg (v := .int (j : Int)) (Evl.ev_var rfl) fun H8 e8 => ⟨some (.int (j : Int)), some (.ref t), some (.ref L), b8, b9, ?_, (e06.trans e7).trans e8⟩
        rw [fs, if_pos ⟨h3, h2⟩]
        rfl
      · refine ⟨some (.int (j : Int)), some (.ref t), some (.ref L), b8, b9, ?_, e06.trans e7⟩
        rw [fs, if_neg]
        · rfl
        · rintro ⟨h1, h2⟩
          rw [h1, h2] at hb
          cases hb
    · obtain ⟨b5, b6, b7, b8, b9, rfl, ex⟩ := hh
      have g1 := g.ex ex
      have dl := ok.dl
      -- its rule is noted
      refine bm_go ?_
      refine (ev_wget (Evl.ev_var rfl) g1.hw (wg_done _ _)) H' (Ex.refl _) _ fun H4 e4 => ?_
      have g4 := g1.ex e4
      refine ⟨.inl ⟨rfl, _, Evl.sq_of g4.dn⟩, _, rfl, Aw.dn, _, ov (W.ruleHear n), rfl, rfl, g4.dn, Evl.sz_lt (by rw [List.length_map]; show W.dn.length < 100000; omega), ?_⟩
      have g5 := g4.appDn (W.ruleHear n)
      have k5 : Kw wa Aw H (upd H4 Aw.dn (.lst (W.dn.map ov ++ [ov (W.ruleHear n)]))) := ((Kw.ex ex).trans (Kw.ex e4)).trans Kw.dn
      show tCut _ _ _ _ (upd H4 Aw.dn (.lst (W.dn.map ov ++ [ov (W.ruleHear n)])))
      generalize upd H4 Aw.dn (.lst (W.dn.map ov ++ [ov (W.ruleHear n)])) = H5 at g5 k5 ⊢
      -- its deeds
      refine Evl.q_cut (M := fun σ' H' => ∃ c8 : Option V, σ' = [some (.ref wa), some (.int (n : Int)), some (natV (W.givenAt n)), some (ov (W.ruleHear n)), some (.bl (W.lvl n)), b5, b6, b7, c8, b9] ∧ WorldAt Fa H' wa Aw (W.heard1 n) ∧ Kw wa Aw H H') ?_ (fun σ' H6 hh => ?_)
      · cases hf : W.ruleHear n with
        | none =>
          rw [hf] at g5
          refine Evl.s_forNL (xs := []) (el_if (b := false) (Evl.et_is (Evl.et_test (Evl.ev_op (Evl.ev_var rfl) Evl.ev_c rv_notN)) rfl) (fun z => nomatch z) (fun _ => Evl.el_lst Evl.ea_nil (Nat.zero_le _))) (fun L j σ' H' => σ' = [some (.ref wa), some (.int (n : Int)), some (natV (W.givenAt n)), some (ov none), some (.bl (W.lvl n)), b5, b6, b7, b8, b9] ∧ Ex H5 H' ∧ H' L = some (.lst [])) (fun L H6 nL e6 hL => ⟨rfl, e6, hL⟩) (fun L j σ' H' _ h => Evl.sq_of h.2.2) (fun L j x σ' H' hx _ => nomatch hx) (fun L σ' H' h => ?_)
          refine ⟨b8, h.1, ?_, k5.trans (Kw.ex h.2.1)⟩
          unfold Wd.heard1
          rw [hf]
          exact g5.ex h.2.1
        | some c =>
          rw [hf] at g5
          obtain ⟨zs, z1, z2⟩ := g5.so
          have hc : c < W.rs.length := (List.findIdx?_eq_some_iff_getElem.mp hf).1
          have lz := paired_len z2
          obtain ⟨x, hx⟩ : ∃ x, zs[c]? = some x := ⟨_, List.getElem?_eq_getElem (by rw [lz]; exact hc)⟩
          obtain ⟨r, hr2, t, a1, a2, rfl, q1, q2, q3, q4, q5⟩ := prd_at z2 hx
          replace hr2 : W.rs[c]? = some r := hr2
          have ds : deedsM W.rs (some c) = r.ds := by
            show ((W.rs[c]?).map RuleD.ds).getD [] = r.ds
            rw [hr2]
            rfl
          have a2w : a2 ≠ wa := ne_of q3 g5.hw fun z => nomatch z
          refine Evl.s_forL (a := a2) (xs := r.ds.map V.str) (Evl.ev_if (b := true) (Evl.et_is (Evl.et_test (Evl.ev_op (Evl.ev_var rfl) Evl.ev_c rv_notN)) rfl) (fun _ => ev_ixT (K := K) (j := 2) (v := .ref a2) (Evl.ev_op (x := .ref Aw.so) (y := .int (c : Int)) (ev_wget (Evl.ev_var rfl) g5.hw (wg_some _ _)) (Evl.ev_var rfl) (Evl.rv_ixL (Evl.sq_of z1) (atI_nat hx))) Evl.ev_c (Evl.st_of q1) rfl) (fun z => nomatch z)) (Evl.sq_of q3)
            (fun j σ' H' => ∃ c8 : Option V, σ' = [some (.ref wa), some (.int (n : Int)), some (natV (W.givenAt n)), some (.int (c : Int)), some (.bl (W.lvl n)), b5, b6, b7, c8, b9] ∧ WorldAt Fa H' wa Aw { W with dn := W.dn ++ [some c], co := W.heardCo n (r.ds.take j) } ∧ Kw wa Aw H5 H')
            (fun H6 e6 => ⟨_, rfl, g5.ex e6, Kw.ex e6⟩) (fun j σ' H' _ ⟨_, _, _, kk⟩ => Evl.sq_of (kk _ _ a2w q5.1 q3)) ?_ (fun σ' H' ⟨c8, e, gg, kk⟩ => ⟨c8, e, by
              rw [List.length_map, List.take_length] at gg
              unfold Wd.heard1
              rw [hf, ds]
              exact gg, k5.trans kk⟩)
          rintro j x σ' H6 hx ⟨c8, rfl, g6, k6⟩
          obtain ⟨d, rfl, hd⟩ := strs_at hx
          have tk : r.ds.take (j + 1) = r.ds.take j ++ [d] := by rw [List.take_add_one, hd]; rfl
          rw [tk, heard_snoc]
          refine (Evl.ev_if (b := decide (d = ("count" : Str))) (v := ov (if d = ("count" : Str) then some n else none)) (Evl.et_is (Evl.et_test (Evl.ev_op (Evl.ev_var rfl) Evl.ev_c (Evl.rv_eq rfl))) (eq_str _ _)) (fun h => ?_) (fun h => ?_)) H6 (Ex.refl _) _ fun H7 e7 => ?_
          · rw [if_pos (of_decide_eq_true h)]
            exact Evl.ev_var rfl
          · rw [if_neg (of_decide_eq_false h)]
            exact Evl.ev_c
          have g7 := g6.ex e7
          exact ⟨_, rfl, wa, _, rfl, DPut.k (k := .inr "counted") g7.hw (wkvs_len _ _), _, rfl, g7.set_counted _, (k6.trans (Kw.ex e7)).trans Kw.w⟩
      · obtain ⟨c8, rfl, g6, k6⟩ := hh
        have sa : SameA Aw Aw := ⟨rfl, rfl, rfl, rfl, rfl⟩
        refine Evl.s_when (b := decide (W.givenAt n = W.nw) && decide ((W.heard1 n).co = none)) (Evl.et_and (Evl.et_is (Evl.et_test (Evl.ev_op (x := natV (W.givenAt n)) (y := natV W.nw) (Evl.ev_var rfl) (ev_wget (Evl.ev_var rfl) g6.hw (wg_newest _ _)) (Evl.rv_eq rfl))) ?_) (fun _ => Evl.et_is (Evl.et_test (Evl.ev_op (ev_wget (Evl.ev_var rfl) g6.hw (wg_counted _ _)) Evl.ev_c rv_isN)) ?_)) (fun hb H7 e7 => ?_) (fun hb H7 e7 => ?_)
        · exact decide_eq_decide.mpr ⟨fun z => Int.ofNat.inj (V.int.inj z), fun z => by rw [z]⟩
        · refine decide_eq_decide.mpr ?_
          cases (W.heard1 n).co with
          | none => exact ⟨fun _ => rfl, fun _ => rfl⟩
          | some a => exact ⟨fun z => (nomatch z), fun z => (nomatch z)⟩
        · obtain ⟨h1, h2⟩ := Bool.and_eq_true_iff.mp hb
          have hw : W.hear n = { W.heard1 n with me := W.me ++ (["deaf"] : List Str) } := by
            unfold Wd.hear
            rw [if_pos ⟨of_decide_eq_true h1, of_decide_eq_true h2⟩]
          have g7 := g6.ex e7
          refine (el_catV (xs := W.me.map V.str) (ys := [V.str "deaf"]) (ev_wget (Evl.ev_var rfl) g7.hw (wg_met _ _)) g7.me (Evl.el_lst (Evl.ea_cons Evl.ev_c Evl.ea_nil) (by show 1 ≤ 100000; decide)) (by rw [List.length_map]; exact size_of (by show W.me.length + 1 ≤ 100000; omega))) H7 (Ex.refl _) _ fun p2 H8 np e8 hp => ?_
          have g8 := g7.ex e8
          refine ⟨_, rfl, wa, _, rfl, DPut.k (k := .inr "met") g8.hw (wkvs_len _ _), ?_⟩
          have fp : Fa p2 := by
            cases e : H p2 with
            | none => exact fN p2 e
            | some o =>
              have := (k6.trans (Kw.ex e7)) p2 o (ne_of_none g7.hw np).symm (g7.new np) e
              rw [np] at this
              cases this
          refine q { Aw with me := p2 } _ ?_ ⟨rfl, rfl, rfl, rfl, rfl⟩ ((k6.trans (Kw.ex (e7.trans e8))).trans Kw.w)
          rw [hw]
          exact g8.set_met (l := W.me ++ (["deaf"] : List Str)) (p := p2) (by rw [List.map_append]; exact hp) (g7.new np) fp
        · have hw : W.hear n = W.heard1 n := by
            unfold Wd.hear
            rw [if_neg]
            rintro ⟨h1, h2⟩
            rw [decide_eq_true h1, decide_eq_true h2] at hb
            cases hb
          refine q Aw H7 ?_ sa (k6.trans (Kw.ex e7))
          rw [hw]
          exact g6.ex e7
end
end Ov


namespace Ov
open PySem PySem.Spec PyProof.Rows L2
open Evl (pss_cut tCut Ex Ev EvT EvL EvA EvU)
/-! ### stage 2's world: what is met behind an event -/
theorem given_nats (L : List Nat) (g : Nat → Bool) (f : Nat → Bool) (v : Nat → V) (h : ∀ i x, L[i]? = some x → f i = g x ∧ v i = natV x) : Evl.given L.length f v = (L.filter g).map natV := by
  have e : L = (List.range L.length).map fun i => L[i]?.getD 0 := by
    refine List.ext_getElem? fun i => ?_
    rw [List.getElem?_map]
    by_cases hi : i < L.length
    · rw [List.getElem?_range hi, List.getElem?_eq_getElem hi]
      show _ = some (L[i]?.getD 0)
      rw [List.getElem?_eq_getElem hi]
      rfl
    · rw [List.getElem?_eq_none (by omega), List.getElem?_eq_none (by rw [List.length_range]; omega)]
      rfl
  have e2 : L.filter g = ((List.range L.length).filter fun i => g (L[i]?.getD 0)).map fun i => L[i]?.getD 0 := by
    have q := congrArg (List.filter g) e
    rw [List.filter_map] at q
    exact q
  rw [e2, List.map_map]
  unfold Evl.given
  have at_ : ∀ i ∈ List.range L.length, L[i]? = some (L[i]?.getD 0) := fun i hi => by
    rw [List.getElem?_eq_getElem (List.mem_range.mp hi)]
    rfl
  rw [List.filter_congr fun i hi => (h i _ (at_ i hi)).1]
  exact List.map_congr_left fun i hi => (h i _ (at_ i (List.mem_filter.mp hi).1)).2
def addIf (b : Bool) (x : Str) (l : List Str) : List Str := if b = true then l ++ [x] else l
def Wd.viewed (W : Wd) : Wd := { W with sh := W.sh ++ [W.view], se := W.se ++ W.view.toList }
def Wd.off1 (W : Wd) : Bool := !decide (ov W.view = natV W.nw)
def Wd.fElder (W : Wd) : Bool := W.off1 && inV (natV W.nw) (W.ca.map natV)
def Wd.fLost (W : Wd) : Bool := W.off1 && (inV (natV W.nw) (W.viewed.se.map natV) && decide (W.kind W.nw = ("day" : Str)))
def Wd.stops (W : Wd) : List Nat := W.viewed.se.filter fun o => decide (W.kind o ∈ (["stop", "off"] : List Str))
def Wd.asking (W : Wd) : Bool := match W.view with
  | none => false
  | some v => decide (W.kind v ∈ (["ask", "day"] : List Str))
def Wd.fBack (W : Wd) : Bool := W.asking && !(W.stops.filter fun o => decide (W.view.getD 0 < o)).isEmpty
def Wd.fWrong (W : Wd) : Bool := match W.co with
  | none => false
  | some c => !decide (natV (W.givenAt c) = natV W.nw)
def Wd.notes (W : Wd) : List Str := addIf W.fWrong "wrong" (addIf W.fBack "back" (addIf W.fLost "lost" (addIf W.fElder "elder" [])))
def Wd.note (W : Wd) : Wd := { W.viewed with me := W.me ++ W.notes }
theorem addIf_len {b : Bool} {x : Str} {l : List Str} : (addIf b x l).length ≤ l.length + 1 := by
  unfold addIf
  split
  · rw [List.length_append]
    exact Nat.le_refl _
  · exact Nat.le_succ _
theorem at_consW {te : TE} {t : TA} {σ : L2.St} {H : Hp} {Q : List V → Hp → Prop} (h : te σ H fun x H1 => t σ H1 fun ys H2 => Q (x :: ys) H2) : tCons te t σ H Q := h
section
variable {Fa : Addr → Prop} {H H' : Hp} {w : Addr} {A : Wa} {W : Wd}
/-- what is shown is noted -/
theorem WorldAt.appSh (g : WorldAt Fa H w A W) (f : Option Nat) : WorldAt Fa (upd H A.sh (.lst (W.sh.map ov ++ [ov f]))) w A { W with sh := W.sh ++ [f] } := by
  obtain ⟨st1, st2, st3, st4, st5, st6⟩ := g.st
  obtain ⟨xs, s1, s2⟩ := g.so
  obtain ⟨ys, l1, l2⟩ := g.le
  have up : ∀ {x : Addr} {o : HO}, x ≠ A.sh → H x = some o → upd H A.sh (.lst (W.sh.map ov ++ [ov f])) x = some o := fun n h => by rw [upd_ne n]; exact h
  exact ⟨up (ne_of g.hw g.sh fun z => nomatch z) g.hw, up st1.2.1 g.ra, ⟨xs, up st2.2.1 s1, prd_imp (fun _ _ ⟨t, a1, a2, e, q1, q2, q3, q4, q5⟩ => ⟨t, a1, a2, e, up (ne_of q1 g.sh fun z => nomatch z) q1, up q4.1.2.1 q2, up q5.1.2.1 q3, q4, q5⟩) s2⟩,
    ⟨ys, up g.ne.1 l1, prd_imp (fun _ _ ⟨p, e, q1, q2⟩ => ⟨p, e, up q2.1.2.1 q1, q2⟩) l2⟩, by rw [upd_same, List.map_append]; rfl, up st3.2.1 g.gi, up st4.2.1 g.ca, up st5.2.1 g.se, up st6.2.1 g.me, up g.ne.2.2.symm g.dn, g.ne, g.st, g.fa⟩
theorem WorldAt.set_seen (g : WorldAt Fa H w A W) {p : Addr} {l : List Nat} (h : H p = some (.lst (l.map natV))) (wo : Wo A p) (fa : Fa p) : WorldAt Fa (upd H w (.dK (putK (wkvs A W) (.inr "seen") (.ref p)))) w { A with se := p } { W with se := l } := by
  rw [wp_seen A W p l]
  exact g.anew ⟨rfl, rfl, rfl, rfl, rfl⟩ ⟨rfl, rfl, rfl, rfl, rfl⟩ g.keepGi g.keepCa ⟨h, wo, fa⟩ g.keepMe
theorem Kw.sh {w : Addr} {A : Wa} {H : Hp} {o : HO} : Kw w A H (upd H A.sh o) := fun x u _ n h => by rw [upd_ne n.2.1]; exact h
end
section
variable {K : PySem.W.Frag} {σ : L2.St} {H B : Hp} {ta tb : TE} {D : Ends} {t : TT}
theorem ev_kindV {L : Addr} {W : Wd} {xs : List V} {i : Nat} (ha : Ev ta σ H (.ref L)) (hi : Ev tb σ H (.int (i : Int))) (hl : H L = some (.lst xs)) (hp : Paired (LtW (fun _ => True) H) xs W.ls) (il : i < W.ls.length) : Ev (tOp (rIxL K) (tOp (rIxL K) ta tb) (tC (.int 0))) σ H (.str (W.kind i)) := by
  have lx := paired_len hp
  obtain ⟨x, hx⟩ : ∃ x, xs[i]? = some x := ⟨_, List.getElem?_eq_getElem (by omega)⟩
  obtain ⟨l, hl2, p, rfl, h2, _⟩ := prd_at hp hx
  have e : W.kind i = l.1 := by
    unfold Wd.kind
    rw [hl2]
    rfl
  rw [e]
  exact Evl.ev_op (x := .ref p) (Evl.ev_op (x := .ref L) ha hi (Evl.rv_ixL (Evl.sq_of hl) (atI_nat hx))) (Evl.ev_c (v := .int 0)) (Evl.rv_ixL (Evl.sq_of h2) rfl)
theorem s_note {F : Addr} {b : Bool} {x : Str} {fs : List Str} {i : Nat} (ht : EvT t σ H b) (hF : H F = some (.lst (fs.map V.str))) (hv : σ[i]? = some (some (.ref F))) (e : Ex B H) (nF : B F = none) (fl : fs.length ≤ 10) (fin : ∀ H', Ex B H' → H' F = some (.lst ((addIf b x fs).map V.str)) → D.nx σ H') :
    tIfS t (tDrop (tBM K "list" rAppend (tVar i) (tCons (tC (.str x)) tNil))) tNext D σ H := by
  refine Evl.s_when (b := b) ht (fun hb H1 e1 => ?_) (fun hb H1 e1 => ?_)
  · refine Evl.s_app (e1 _ _ hF) (Evl.ev_var hv) Evl.ev_c (by rw [List.length_map]; omega) fun H2 e2 => fin _ ((e.trans (e1.trans e2)).mut nF) ?_
    unfold addIf
    rw [if_pos hb, upd_same, List.map_append]
    rfl
  · refine fin _ (e.trans e1) ?_
    unfold addIf
    rw [hb]
    exact e1 _ _ hF
theorem et_neNilN {l : List Nat} (ha : EvL ta σ H (l.map natV)) : EvT (tTest (tOp (rNeD K) ta (tLst tNil))) σ H (!l.isEmpty) :=
  Evl.et_test (Evl.ev_opLL ha (Evl.el_lst (vs := []) Evl.ea_nil (Nat.zero_le _)) fun p q H1 hp hq e1 H2 e2 Q k => ⟨.list ((l.map fun (n : Nat) => (n : Int)).map PyData.int), .list [], .lst (Evl.sq_of (e2 _ _ hp)) (by
    have := dp_ints (K := K) (H := H2) (l.map fun (n : Nat) => (n : Int))
    rw [List.map_map] at this
    exact this), .lst (Evl.sq_of (e2 _ _ hq)) .nil, (GD.lst (n := 0) fun d hd => by
    obtain ⟨x, hx, rfl⟩ := List.mem_map.mp hd
    exact GD.int x 0).shaped (by decide), (GD.lst (ds := []) (n := 0) fun d hd => (by cases hd)).shaped (by decide), by
    cases l with
    | nil => exact k H2 (Ex.refl _)
    | cons x r => exact k H2 (Ex.refl _)⟩)
end
theorem flat_nats : ∀ l : List Nat, (l.map natV).all flatV = true
  | [] => rfl
  | _ :: r => flat_nats r
theorem et_truB {K : PySem.W.Frag} {σ : L2.St} {H : Hp} {ta : TE} {b : Bool} (h : Ev ta σ H (.bl b)) : EvT (fun σ H Q => ta σ H fun x H' => ∃ k, TruV K x H' k ∧ Q k H') σ H b := fun H1 e Q q => h H1 e _ fun H2 e2 => ⟨b, rfl, q H2 e2⟩
theorem scal_ovN : ∀ (o : Option Nat) (n : Nat), scal (ov o) (natV n) = true
  | none, _ => rfl
  | some _, _ => rfl
def spNoteW : Sp := fun vs H Q _ => ∃ (Fa : Addr → Prop) (w : Addr) (A : Wa) (W : Wd), vs = [.ref w] ∧ WorldAt Fa H w A W ∧ W.Ok ∧ (∀ x, H x = none → Fa x) ∧ W.nw < W.ls.length ∧ (∀ j ∈ W.se, j < W.ls.length) ∧ (∀ c, W.co = some c → c < W.gi.length) ∧ W.me.length ≤ 1000 ∧ W.se.length ≤ 1000 ∧ W.sh.length ≤ 1000 ∧
  ∀ (A' : Wa) (H' : Hp), WorldAt Fa H' w A' W.note → SameA A A' → Kw w A H H' → Q .non H'
section
variable {P : Program} {w : World} {K : PySem.W.Frag} {mg : Str → Option Value} {base : Heap}
abbrev sNote : Stmt := topS 69
theorem scNote : FnScope ["_law_world_here", "_law_view_here", "_law_new", "_law_letters", "_law_found", "_law_stopped", "_law_is_asking", "_law_one"] ["_law_world_here"] (defScope sNote) := ⟨rfl, rfl, rfl, by decide +kernel, rfl, by decide +kernel, by decide +kernel⟩
theorem ok_noteW {f fVi : Addr} {fd fdVi : FuncData} (F : Fun K "_law_note" "_law_note" sNote f fd) (T : TxB mg) (D_view : Df K mg "_law_view" sView ["_law_world_here"] fVi fdVi) : FnOk P w K mg base CX0 2 f fd ["_law_world_here"] spNoteW := by
  have G_view : FnOk P w K mg base CX0 1 fVi fdVi ["_law_world_here"] spView := ok_view D_view.F
  refine F.ok scNote (fun vs H Q E h => ?_) (fun cdv A outer s H vs Q E hr h => ?_)
  · obtain ⟨Fa, w, A, W, rfl, _⟩ := h
    rfl
  · obtain ⟨Fa, wa, Aw, W, rfl, g, ok, fN, hn, sin, cin, ml, sl, hl, q⟩ := h
    have hu : (A.deeper (envOfC "_law_note" (defScope sNote) s.heap.objs.size f cdv)).units + 1 < cLine := by
      have := hr.units
      omega
    refine ⟨_, pss_cons (ps_asg (pe_tup (pa_cons (pe_call (E := E0) G_view (hr.mono (by decide)) rfl D_view.g D_view.F.kp D_view.b .nil pass0 (pa_cons (pv 0) pa_nil)) (pa_cons (pe_dget hu (pv 0) pe_str (fun _ _ => rfl)) pa_nil))) (pg_tup (by rfl) (pgs_cons (pg_name (i := 1) scNote.nd rfl (Or.inr rfl)) (pgs_cons (pg_name (i := 2) scNote.nd rfl (Or.inl rfl)) pgs_nil))))
      (pss_cons (ps_set (i := 3) scNote.nd rfl (.inr rfl) (pe_dget hu (pv 0) pe_str (fun _ _ => rfl)))
      (pss_cons (ps_expr (pe_bm PySem.F.plainAttrs_list PySem.F.slot_list_append PySem.F.type_list_append mt_append (pe_dget hu (pv 0) pe_str (fun _ _ => rfl)) (pa_cons (pv 1) pa_nil)))
      (pss_cut (ps_if (pt_cmpR op_notN (pv 1) pe_non (nomark _)) (pss_one (ps_asg (pe_op op_cat (pe_dget hu (pv 0) pe_str (fun _ _ => rfl)) (pe_lst (pa_cons (pv 1) pa_nil))) (pg_sub (pv 0) pe_str (set_dict hu)))) pss_nil)
      (pss_cons (ps_set (i := 4) scNote.nd rfl (.inl rfl) (pe_lst pa_nil))
      (pss_cut (ps_if (PW.pt (pw_and (pt_cmpR op_ne (pv 1) (pv 2) (nomark _)) (pw_and1 (pt_cmpR op_in_seq (pv 2) (pe_dget hu (pv 0) pe_str (fun _ _ => rfl)) (by rfl))))) (pss_one (ps_expr (pe_bm PySem.F.plainAttrs_list PySem.F.slot_list_append PySem.F.type_list_append mt_append (pv 4) (pa_cons pe_str pa_nil)))) pss_nil)
      (pss_cut (ps_if (PW.pt (pw_and (pt_cmpR op_ne (pv 1) (pv 2) (nomark _)) (pw_and (pt_cmpR op_in_seq (pv 2) (pe_dget hu (pv 0) pe_str (fun _ _ => rfl)) (by rfl)) (pw_and1 (pt_cmpR op_eq (pe_ix ix_list (pe_ix ix_list (pv 3) (pv 2) (fun _ _ => rfl)) pe_int (fun _ _ => rfl)) pe_str (nomark _)))))) (pss_one (ps_expr (pe_bm PySem.F.plainAttrs_list PySem.F.slot_list_append PySem.F.type_list_append mt_append (pv 4) (pa_cons pe_str pa_nil)))) pss_nil)
      (pss_cons (ps_setLc (i := 5) (own := [("_law_one", 7)]) (g := gName 7) (tt := tTest (tOp (rIn K false) (tOp (rIxL K) (tOp (rIxL K) (tVar 3) (tVar 7)) (tC (.int 0))) (tTup (tCons (tC (.str "stop")) (tCons (tC (.str "off")) tNil))))) rfl scNote.nd rfl rfl (sw_true rfl rfl rfl (by decide +kernel)) (pi_list (pe_dget hu (pv 0) pe_str (fun _ _ => rfl))) (blkOk_by (own := [("_law_one", 7)]) (N := ["_law_world_here", "_law_view_here", "_law_new", "_law_letters", "_law_found", "_law_stopped", "_law_is_asking", "_law_one"]) (sc := defScope sNote) (by decide +kernel)) (fun _ _ _ _ _ => (pg_name (i := 7) scNote.nd rfl (Or.inl rfl))) (fun _ _ _ _ _ => (pts_one (pt_cmpR (r := rIn K false) op_in_seq (pe_ix (r := rIxL K) ix_list (pe_ix (r := rIxL K) ix_list (pv 3) (pv 7) (fun _ _ => rfl)) pe_int (fun _ _ => rfl)) (pe_tup (pa_cons pe_str (pa_cons pe_str pa_nil))) (by rfl)))) (fun _ _ _ _ _ => (pv 7)))
      (pss_cons (ps_set (i := 6) scNote.nd rfl (.inl rfl) (pe_and (pe_cmpR op_notN (pv 1) pe_non (nomark _)) (pe_one (pe_cmpR op_in_seq (pe_ix ix_list (pe_ix ix_list (pv 3) (pv 1) (fun _ _ => rfl)) pe_int (fun _ _ => rfl)) (pe_tup (pa_cons pe_str (pa_cons pe_str pa_nil))) (by rfl)))))
      (pss_cut (ps_if (PW.pt (pw_and (pt_truth (pv 6) (by intro _; rfl)) (pw_and1 (pt_cmpR (op_neD hr.units) (pe_lc (own := [("_law_one", 7)]) (g := gName 7) (tt := tTest (tOp (rI0 fun i j => V.bl (decide (j < i))) (tVar 7) (tVar 1))) rfl scNote.nd (pi_list (pv 5)) (blkOk_by (own := [("_law_one", 7)]) (N := ["_law_world_here", "_law_view_here", "_law_new", "_law_letters", "_law_found", "_law_stopped", "_law_is_asking", "_law_one"]) (sc := defScope sNote) (by decide +kernel)) (fun _ _ _ _ _ => (pg_name (i := 7) scNote.nd rfl (Or.inl rfl))) (fun _ _ _ _ _ => (pts_one (pt_cmpR op_gt (pv 7) (pv 1) (nomark _)))) (fun _ _ _ _ _ => (pv 7))) (pe_lst pa_nil) (nomark _))))) (pss_one (ps_expr (pe_bm PySem.F.plainAttrs_list PySem.F.slot_list_append PySem.F.type_list_append mt_append (pv 4) (pa_cons pe_str pa_nil)))) pss_nil)
      (pss_cut (ps_if (PW.pt (pw_and (pt_cmpR op_notN (pe_dget hu (pv 0) pe_str (fun _ _ => rfl)) pe_non (nomark _)) (pw_and1 (pt_cmpR op_ne (pe_ix ix_list (pe_dget hu (pv 0) pe_str (fun _ _ => rfl)) (pe_dget hu (pv 0) pe_str (fun _ _ => rfl)) (fun _ _ => rfl)) (pv 2) (nomark _))))) (pss_one (ps_expr (pe_bm PySem.F.plainAttrs_list PySem.F.slot_list_append PySem.F.type_list_append mt_append (pv 4) (pa_cons pe_str pa_nil)))) pss_nil)
      (pss_one (ps_asg (pe_op op_cat (pe_dget hu (pv 0) pe_str (fun _ _ => rfl)) (pv 4)) (pg_sub (pv 0) pe_str (set_dict hu)))))))))))))), ?_⟩
    obtain ⟨ys, l1, l2⟩ := g.le
    have l2T : Paired (LtW (fun _ => True) H) ys W.ls := prd_imp (fun _ _ ⟨p, h1, h2, _⟩ => ⟨p, h1, h2, trivial⟩) l2
    have sz : ∀ {n : Nat}, n ≤ 5 → n ≤ sizeLine := fun h => size_of (by omega)
    have vl : ∀ v, W.view = some v → v < W.ls.length := fun v hv => by
      unfold Wd.view at hv
      split at hv
      · exact ok.ow v hv
      · exact ok.wh v hv
    -- what is shown
    refine q_put ?_
    refine ⟨_, rfl, wa, Aw, W, rfl, g.hw, fun H1 e1 => ?_⟩
    refine at_consW ?_
    refine (ev_wget (Evl.ev_var rfl) (e1 _ _ g.hw) (wg_newest Aw W)) H1 (Ex.refl _) _ fun H2 e2 => ?_
    refine ⟨sz (by show 2 ≤ 5; decide), fun t nt => ⟨t, _, rfl, Evl.st_of upd_same, rfl, _, _, rfl, _, _, rfl, rfl, ?_⟩⟩
    have x1 : Ex H (upd H2 t (.tup [ov W.view, natV W.nw])) := (e1.trans e2).trans (Ex.new nt)
    generalize upd H2 t (.tup [ov W.view, natV W.nw]) = Ha at x1 ⊢
    have ga := g.ex x1
    refine Evl.q_asg (v := .ref Aw.le) (ev_wget (Evl.ev_var rfl) ga.hw (wg_letters Aw W)) fun Hb eb => ?_
    have gb := ga.ex eb
    refine bm_go ?_
    refine (ev_wget (Evl.ev_var rfl) gb.hw (wg_shows _ _)) Hb (Ex.refl _) _ fun Hc ec => ?_
    have gc := gb.ex ec
    refine ⟨.inl ⟨rfl, _, Evl.sq_of gc.sh⟩, _, rfl, Aw.sh, _, ov W.view, rfl, rfl, gc.sh, Evl.sz_lt (by rw [List.length_map]; omega), ?_⟩
    have gd := gc.appSh W.view
    have kd : Kw wa Aw H (upd Hc Aw.sh (.lst (W.sh.map ov ++ [ov W.view]))) := ((Kw.ex x1).trans ((Kw.ex eb).trans (Kw.ex ec))).trans Kw.sh
    show tCut _ _ _ _ (upd Hc Aw.sh (.lst (W.sh.map ov ++ [ov W.view])))
    generalize upd Hc Aw.sh (.lst (W.sh.map ov ++ [ov W.view])) = Hd at gd kd ⊢
    -- it is seen
    refine Evl.q_cut (M := fun σ' H' => σ' = [some (.ref wa), some (ov W.view), some (natV W.nw), some (.ref Aw.le), none, none, none, none] ∧ ∃ A2, SameA Aw A2 ∧ WorldAt Fa H' wa A2 W.viewed ∧ Kw wa Aw H H') ?_ (fun σ' H5 hh => ?_)
    · cases hv : W.view with
      | none =>
        refine Evl.s_when (b := false) (Evl.et_is (Evl.et_test (Evl.ev_op (Evl.ev_var rfl) Evl.ev_c rv_notN)) rfl) (fun z => nomatch z) (fun _ H6 e6 => ⟨rfl, Aw, ⟨rfl, rfl, rfl, rfl, rfl⟩, ?_, kd.trans (Kw.ex e6)⟩)
        unfold Wd.viewed
        rw [hv] at gd ⊢
        rw [show W.se ++ (none : Option Nat).toList = W.se from List.append_nil _]
        exact gd.ex e6
      | some v =>
        refine Evl.s_when (b := true) (Evl.et_is (Evl.et_test (Evl.ev_op (Evl.ev_var rfl) Evl.ev_c rv_notN)) rfl) (fun _ H6 e6 => ?_) (fun z => nomatch z)
        have g6 := gd.ex e6
        refine (el_catV (xs := W.se.map natV) (ys := [natV v]) (ev_wget (Evl.ev_var rfl) g6.hw (wg_seen _ _)) g6.se (Evl.el_lst (Evl.ea_cons (Evl.ev_var rfl) Evl.ea_nil) (by show 1 ≤ 100000; decide)) (by rw [List.length_map]; exact size_of (by show W.se.length + 1 ≤ 100000; omega))) H6 (Ex.refl _) _ fun p2 H8 np e8 hp => ?_
        have g8 := g6.ex e8
        refine ⟨_, rfl, wa, _, rfl, DPut.k (k := .inr "seen") g8.hw (wkvs_len _ _), ?_⟩
        have fp : Fa p2 := by
          cases e : H p2 with
          | none => exact fN p2 e
          | some o =>
            have := (kd.trans (Kw.ex e6)) p2 o (ne_of_none g6.hw np).symm (g6.new np) e
            rw [np] at this
            cases this
        refine ⟨rfl, { Aw with se := p2 }, ⟨rfl, rfl, rfl, rfl, rfl⟩, ?_, (kd.trans (Kw.ex (e6.trans e8))).trans Kw.w⟩
        unfold Wd.viewed
        rw [hv] at g8 ⊢
        exact g8.set_seen (l := W.se ++ [v]) (p := p2) (by rw [List.map_append]; exact hp) (g6.new np) fp
    obtain ⟨rfl, A2, sa, g5, k5⟩ := hh
    -- the goals met
    refine Evl.q_asgL (xs := []) (Evl.el_lst Evl.ea_nil (Nat.zero_le _)) fun F0 H6 nF e6 hF => ?_
    obtain ⟨zs, z1, z2⟩ := g5.le
    rw [sa.le] at z1
    have z2T : Paired (LtW (fun _ => True) H5) zs W.viewed.ls := prd_imp (fun _ _ ⟨p, h1, h2, _⟩ => ⟨p, h1, h2, trivial⟩) z2
    have zT : ∀ {H' : Hp}, Ex H5 H' → Paired (LtW (fun _ => True) H') zs W.ls := fun e => prd_imp (fun _ _ h => LtW.mono e h) z2T
    have offE : ∀ {H' : Hp} {x4 x5 x6 x7 : Option V}, EvT (tTest (tOp rNe (tVar 1) (tVar 2))) [some (.ref wa), some (ov W.view), some (natV W.nw), some (.ref Aw.le), x4, x5, x6, x7] H' W.off1 := Evl.et_test (Evl.ev_op (Evl.ev_var rfl) (Evl.ev_var rfl) (Evl.rv_ne (scal_ovN _ _)))
    refine Evl.q_cut (M := fun σ' H' => σ' = [some (.ref wa), some (ov W.view), some (natV W.nw), some (.ref Aw.le), some (.ref F0), none, none, none] ∧ Ex H5 H' ∧ H' F0 = some (.lst ((addIf W.fElder "elder" []).map V.str))) (s_note (B := H5) (b := W.fElder) (fs := []) (Evl.et_and offE (fun _ => Evl.et_test (Evl.ev_op (Evl.ev_var rfl) (ev_wget (Evl.ev_var rfl) (e6 _ _ g5.hw) (wg_came _ _)) (Evl.rv_isL (Evl.sq_of (e6 _ _ g5.ca)) rfl (flat_nats _))))) hF rfl e6 nF (Nat.zero_le _) (fun H' e h => ⟨rfl, e, h⟩)) (fun σ' H7 hh => ?_)
    obtain ⟨rfl, e7, hF7⟩ := hh
    have n1 : (addIf W.fElder "elder" []).length ≤ 1 := addIf_len
    refine Evl.q_cut (M := fun σ' H' => σ' = [some (.ref wa), some (ov W.view), some (natV W.nw), some (.ref Aw.le), some (.ref F0), none, none, none] ∧ Ex H5 H' ∧ H' F0 = some (.lst ((addIf W.fLost "lost" (addIf W.fElder "elder" [])).map V.str))) (s_note (B := H5) (b := W.fLost) (Evl.et_and offE (fun _ => Evl.et_and (Evl.et_test (Evl.ev_op (Evl.ev_var rfl) (ev_wget (Evl.ev_var rfl) (e7 _ _ g5.hw) (wg_seen _ _)) (Evl.rv_isL (Evl.sq_of (e7 _ _ g5.se)) rfl (flat_nats _)))) (fun _ => Evl.et_is (Evl.et_test (Evl.ev_op (x := .str (W.kind W.nw)) (ev_kindV (L := Aw.le) (W := W) (Evl.ev_var rfl) (Evl.ev_var rfl) (e7 _ _ z1) (zT e7) hn) Evl.ev_c (Evl.rv_eq rfl))) (eq_str _ _)))) hF7 rfl e7 nF (by omega) (fun H' e h => ⟨rfl, e, h⟩)) (fun σ' H8 hh => ?_)
    obtain ⟨rfl, e8, hF8⟩ := hh
    have n2 : (addIf W.fLost "lost" (addIf W.fElder "elder" [])).length ≤ 2 := Nat.le_trans addIf_len (Nat.succ_le_succ n1)
    have vsl : W.viewed.se.length ≤ 1001 := by
      show (W.se ++ W.view.toList).length ≤ 1001
      rw [List.length_append]
      cases W.view with
      | none => show W.se.length + 0 ≤ 1001; omega
      | some v => show W.se.length + 1 ≤ 1001; omega
    have vin : ∀ j ∈ W.viewed.se, j < W.ls.length := fun j hj => by
      rcases List.mem_append.mp hj with hj | hj
      · exact sin j hj
      · exact vl j (Option.mem_toList.mp hj)
    -- what was shown and calls off
    refine Evl.q_asgL (xs := W.stops.map natV) ?_ fun S H9 nS e9 hS => ?_
    · unfold Wd.stops
      rw [← given_nats W.viewed.se (fun o => decide (W.kind o ∈ (["stop", "off"] : List Str))) (fun a => match W.viewed.se[a]? with | some o => decide (W.kind o ∈ (["stop", "off"] : List Str)) | none => false) (fun a => ((W.viewed.se.map natV)[a]?).getD .non) (fun a z hz => by
        rw [List.getElem?_map, hz]
        exact ⟨rfl, rfl⟩), show W.viewed.se.length = (W.viewed.se.map natV).length from (List.length_map ..).symm]
      refine Evl.el_lcL _ _ (ev_wget (Evl.ev_var rfl) (e8 _ _ g5.hw) (wg_seen _ _)) (Evl.sq_of (e8 _ _ g5.se)) (by rw [List.length_map]; omega) (fun _ => rfl) (fun a z H7 e7 hz => ?_) (fun a z H7 e7 hz _ => ?_)
      · rw [List.getElem?_map] at hz
        obtain ⟨o, ho, rfl⟩ := Option.map_eq_some_iff.mp hz
        rw [ho]
        have e87 := e8.trans e7
        exact Evl.et_is (Evl.et_test (Evl.ev_inU (x := .str (W.kind o)) (xs := (["stop", "off"] : List Str).map V.str) (ev_kindV (L := Aw.le) (W := W) (Evl.ev_var rfl) (Evl.ev_var rfl) (e87 _ _ z1) (zT e87) (vin o (List.mem_of_getElem? ho))) (Evl.eu_tup (Evl.ea_cons Evl.ev_c (Evl.ea_cons Evl.ev_c Evl.ea_nil)) (by show 2 ≤ 100000; decide)) rfl (flat_strs _))) (by rw [inV_strs])
      · rw [hz]
        exact Evl.ev_var rfl
    have e59 := e8.trans e9
    have hF9 := e9 _ _ hF8
    -- whether a letter that asks is shown
    refine Evl.q_asg (v := .bl W.asking) ?_ fun Hx ex => ?_
    · cases hv : W.view with
      | none =>
        have ea : W.asking = (false && false) := by
          unfold Wd.asking
          rw [hv]
          rfl
        rw [ea]
        exact Evl.ev_andV (a := false) (b := false) (Evl.ev_is (Evl.ev_op (Evl.ev_var rfl) Evl.ev_c rv_notN) rfl) (fun z => nomatch z)
      | some v =>
        have ea : W.asking = (true && decide (W.kind v ∈ (["ask", "day"] : List Str))) := by
          unfold Wd.asking
          rw [hv]
          rfl
        rw [ea]
        exact Evl.ev_andV (a := true) (Evl.ev_is (Evl.ev_op (Evl.ev_var rfl) Evl.ev_c rv_notN) rfl) (fun _ => Evl.ev_is (Evl.ev_inU (x := .str (W.kind v)) (xs := (["ask", "day"] : List Str).map V.str) (ev_kindV (L := Aw.le) (W := W) (Evl.ev_var rfl) (Evl.ev_var rfl) (e59 _ _ z1) (zT e59) (vl v hv)) (Evl.eu_tup (Evl.ea_cons Evl.ev_c (Evl.ea_cons Evl.ev_c Evl.ea_nil)) (by show 2 ≤ 100000; decide)) rfl (flat_strs _)) (by rw [inV_strs]))
    have e5x := e59.trans ex
    have hSx := ex _ _ hS
    refine Evl.q_cut (M := fun σ' H' => σ' = [some (.ref wa), some (ov W.view), some (natV W.nw), some (.ref Aw.le), some (.ref F0), some (.ref S), some (.bl W.asking), none] ∧ Ex H5 H' ∧ H' F0 = some (.lst ((addIf W.fBack "back" (addIf W.fLost "lost" (addIf W.fElder "elder" []))).map V.str))) (s_note (B := H5) (b := W.fBack) (Evl.et_and (et_truB (Evl.ev_var rfl)) (fun ha => et_neNilN ?_)) (ex _ _ hF9) rfl e5x nF (by omega) (fun H' e h => ⟨rfl, e, h⟩)) (fun σ' Hy hh => ?_)
    · obtain ⟨v, hv⟩ : ∃ v, W.view = some v := by
        cases h : W.view with
        | none =>
          unfold Wd.asking at ha
          rw [h] at ha
          cases ha
        | some v => exact ⟨v, rfl⟩
      rw [hv]
      rw [← given_nats W.stops (fun o => decide ((some v).getD 0 < o)) (fun a => match W.stops[a]? with | some o => decide (v < o) | none => false) (fun a => ((W.stops.map natV)[a]?).getD .non) (fun a z hz => by
        rw [List.getElem?_map, hz]
        exact ⟨rfl, rfl⟩), show W.stops.length = (W.stops.map natV).length from (List.length_map ..).symm]
      have stl : W.stops.length ≤ 1001 := Nat.le_trans (List.length_filter_le _ _) vsl
      refine Evl.el_lcL _ _ (Evl.ev_var rfl) (Evl.sq_of hSx) (by rw [List.length_map]; omega) (fun _ => rfl) (fun a z H7 e7 hz => ?_) (fun a z H7 e7 hz _ => ?_)
      · rw [List.getElem?_map] at hz
        obtain ⟨o, ho, rfl⟩ := Option.map_eq_some_iff.mp hz
        rw [ho]
        refine Evl.et_is (Evl.et_test (Evl.ev_op (x := .int (o : Int)) (y := .int (v : Int)) (Evl.ev_var rfl) (Evl.ev_var rfl) Evl.rv_I0)) ?_
        exact decide_eq_decide.mpr (by omega)
      · rw [hz]
        exact Evl.ev_var rfl
    obtain ⟨rfl, ey, hFy⟩ := hh
    have n3 : (addIf W.fBack "back" (addIf W.fLost "lost" (addIf W.fElder "elder" []))).length ≤ 3 := Nat.le_trans addIf_len (Nat.succ_le_succ n2)
    refine Evl.q_cut (M := fun σ' H' => σ' = [some (.ref wa), some (ov W.view), some (natV W.nw), some (.ref Aw.le), some (.ref F0), some (.ref S), some (.bl W.asking), none] ∧ Ex H5 H' ∧ H' F0 = some (.lst (W.notes.map V.str))) (s_note (B := H5) (b := W.fWrong) ?_ hFy rfl ey nF (by omega) (fun H' e h => ⟨rfl, e, h⟩)) (fun σ' Hz hh => ?_)
    · cases hc : W.co with
      | none =>
        have ea : W.fWrong = (false && false) := by
          unfold Wd.fWrong
          rw [hc]
          rfl
        rw [ea]
        exact Evl.et_and (a := false) (b := false) (Evl.et_is (Evl.et_test (Evl.ev_op (x := ov W.co) (ev_wget (Evl.ev_var rfl) (ey _ _ g5.hw) (wg_counted _ _)) Evl.ev_c rv_notN)) (by rw [hc]; rfl)) (fun z => nomatch z)
      | some c =>
        have ea : W.fWrong = (true && !decide (natV (W.givenAt c) = natV W.nw)) := by
          unfold Wd.fWrong
          rw [hc]
          rfl
        rw [ea]
        have eg : W.gi[c]? = some (W.givenAt c) := by
          unfold Wd.givenAt
          rw [List.getElem?_eq_getElem (cin c hc)]
          rfl
        refine Evl.et_and (a := true) (Evl.et_is (Evl.et_test (Evl.ev_op (x := ov W.co) (ev_wget (Evl.ev_var rfl) (ey _ _ g5.hw) (wg_counted _ _)) Evl.ev_c rv_notN)) (by rw [hc]; rfl)) (fun _ => Evl.et_test (Evl.ev_op (x := natV (W.givenAt c)) (Evl.ev_op (x := .ref A2.gi) (y := .int (c : Int)) (ev_wget (Evl.ev_var rfl) (ey _ _ g5.hw) (wg_given _ _)) (Evl.ev_is (v := ov W.co) (ev_wget (Evl.ev_var rfl) (ey _ _ g5.hw) (wg_counted _ _)) (by rw [hc]; rfl)) (Evl.rv_ixL (Evl.sq_of (ey _ _ g5.gi)) (atI_nat (by rw [List.getElem?_map, show W.viewed.gi[c]? = some (W.givenAt c) from eg]; rfl)))) (Evl.ev_var rfl) (Evl.rv_ne rfl)))
    obtain ⟨rfl, ez, hFz⟩ := hh
    have n4 : W.notes.length ≤ 4 := Nat.le_trans addIf_len (Nat.succ_le_succ n3)
    have gz := g5.ex ez
    refine (ev_wget (Evl.ev_var rfl) gz.hw (wg_met _ _)) Hz (Ex.refl _) _ fun Hw ew => ?_
    have gw := gz.ex ew
    refine ⟨_, rfl, A2.me, F0, _, _, rfl, rfl, gw.me, ew _ _ hFz, by rw [List.length_map, List.length_map]; exact size_of (by show W.me.length + _ ≤ 100000; omega), fun p2 np => ?_⟩
    have gv := gw.ex (Ex.new (o := .lst (W.viewed.me.map V.str ++ W.notes.map V.str)) np)
    refine ⟨_, rfl, wa, _, rfl, DPut.k (k := .inr "met") gv.hw (wkvs_len _ _), ?_⟩
    have fp : Fa p2 := by
      cases e : H p2 with
      | none => exact fN p2 e
      | some o =>
        have wo : Wo Aw p2 := by
          have := gw.new np
          exact ⟨by rw [← sa.le]; exact this.1, by rw [← sa.sh]; exact this.2.1, by rw [← sa.dn]; exact this.2.2⟩
        have := ((k5.trans (Kw.ex ez)).trans (Kw.ex ew)) p2 o (ne_of_none gw.hw np).symm wo e
        rw [np] at this
        cases this
    refine q { A2 with me := p2 } _ ?_ ⟨sa.ra, sa.so, sa.le, sa.sh, sa.dn⟩ ((k5.trans (Kw.ex ((ez.trans ew).trans (Ex.new np)))).trans Kw.w)
    exact gv.set_met (l := W.me ++ W.notes) (p := p2) (by rw [List.map_append]; exact upd_same) (gw.new np) fp
end
end Ov


namespace Ov
open PySem PySem.Spec PyProof.Rows L2
open Evl (pss_cut tCut Ex Ev EvT EvL EvA EvU)
/-! ### stage 2's world: whether an answer can be given; the goals met; letters sent -/
section
variable {Fa : Addr → Prop} {H H' : Hp} {w : Addr} {A : Wa} {W : Wd}
/-- a letter more -/
theorem WorldAt.appLe (g : WorldAt Fa H w A W) {xs : List V} {p : Addr} {l : Str × Int × Bool} (hl : H A.le = some (.lst xs)) (h : H p = some (.lst [.str l.1, .int l.2.1, .bl l.2.2])) (wo : Wo A p) (fa : Fa p) : WorldAt Fa (upd H A.le (.lst (xs ++ [.ref p]))) w A { W with ls := W.ls ++ [l] } := by
  obtain ⟨st1, st2, st3, st4, st5, st6⟩ := g.st
  obtain ⟨zs, s1, s2⟩ := g.so
  obtain ⟨ys, l1, l2⟩ := g.le
  rw [hl] at l1
  have e : xs = ys := by
    injection l1 with z
    injection z
  subst e
  have up : ∀ {x : Addr} {o : HO}, x ≠ A.le → H x = some o → upd H A.le (.lst (xs ++ [.ref p])) x = some o := fun n h => by rw [upd_ne n]; exact h
  exact ⟨up (ne_of g.hw hl fun z => nomatch z) g.hw, up st1.1 g.ra, ⟨zs, up st2.1 s1, prd_imp (fun _ _ ⟨t, a1, a2, e, q1, q2, q3, q4, q5⟩ => ⟨t, a1, a2, e, up (ne_of q1 hl fun z => nomatch z) q1, up q4.1.1 q2, up q5.1.1 q3, q4, q5⟩) s2⟩,
    ⟨xs ++ [.ref p], upd_same, prd_app (prd_imp (fun _ _ ⟨p, e, q1, q2⟩ => ⟨p, e, up q2.1.1 q1, q2⟩) l2) (.cons ⟨p, rfl, up wo.1 h, wo, fa⟩ .nil)⟩, up g.ne.1.symm g.sh, up st3.1 g.gi, up st4.1 g.ca, up st5.1 g.se, up st6.1 g.me, up g.ne.2.1.symm g.dn, g.ne, g.st, g.fa⟩
theorem WorldAt.set_given (g : WorldAt Fa H w A W) {p : Addr} {l : List Nat} (h : H p = some (.lst (l.map natV))) (wo : Wo A p) (fa : Fa p) : WorldAt Fa (upd H w (.dK (putK (wkvs A W) (.inr "given") (.ref p)))) w { A with gi := p } { W with gi := l } := by
  rw [wp_given A W p l]
  exact g.anew ⟨rfl, rfl, rfl, rfl, rfl⟩ ⟨rfl, rfl, rfl, rfl, rfl⟩ ⟨h, wo, fa⟩ g.keepCa g.keepSe g.keepMe
theorem WorldAt.set_newest (g : WorldAt Fa H w A W) (n : Nat) : WorldAt Fa (upd H w (.dK (putK (wkvs A W) (.inr "newest") (natV n)))) w A { W with nw := n } := by
  rw [wp_newest]
  exact g.anew ⟨rfl, rfl, rfl, rfl, rfl⟩ ⟨rfl, rfl, rfl, rfl, rfl⟩ g.keepGi g.keepCa g.keepSe g.keepMe
theorem Kw.le {w : Addr} {A : Wa} {H : Hp} {o : HO} : Kw w A H (upd H A.le o) := fun x u _ n h => by rw [upd_ne n.1]; exact h
end
theorem el_lcUW {K : PySem.W.Frag} {σ : L2.St} {H : Hp} {tl te : TE} {tt : TT} {xs : List V} {j : Nat} {vs : List Nat} (f : Nat → Bool) (v : Nat → V) (h : EvU tl σ H xs) (hz : xs.length ≤ 40000) (hw : ∀ x, wipe ((wipe σ vs).set j (some x)) vs = wipe σ vs)
    (ht : ∀ (i : Nat) (x : V) H1, Ex H H1 → xs[i]? = some x → EvT tt ((wipe σ vs).set j (some x)) H1 (f i)) (he : ∀ (i : Nat) (x : V) H1, Ex H H1 → xs[i]? = some x → Ev te ((wipe σ vs).set j (some x)) H1 (v i)) : EvL (tLc (iTup K tl) (gName j) tt te vs) σ H (Evl.given xs.length f v) := fun H0 e Q q => h H0 e _ fun a H1 _ e1 ha => ⟨a, rfl, ⟨xs, Evl.st_of ha⟩, fun L hL =>
  lc_tup (xs := xs) (Evl.Cw H1 f v L) ⟨hL, Ex.new hL, upd_same⟩ (fun i H' _ p => Evl.st_of (p.2.1 a _ ha))
    (fun i x H' hi p => ⟨hw x, Evl.cw_turn p (by have := (List.getElem?_eq_some_iff.mp hi).1; omega) (ht i x H1 (e.trans e1) hi) (fun _ => he i x H1 (e.trans e1) hi)⟩)
    (fun H' p => q L H' (Evl.fresh_back e1 p.1) (e1.trans p.2.1) p.2.2)⟩
/-- asked of ("answer",) alone -/
def spCanA : Sp := fun vs H Q _ => ∃ (w e : Addr) (A : Wa) (W : Wd) (xs : List V), vs = [.ref w, .ref e] ∧ H e = some (.tup [.str "answer"]) ∧ H w = some (.dK (wkvs A W)) ∧ H A.le = some (.lst xs) ∧ Paired (LtW (fun _ => True) H) xs W.ls ∧ (∀ j, W.view = some j → j < W.ls.length) ∧ ∀ H', Ex H H' → Q (.bl W.asking) H'
def goalsW : List Str := ["back", "deaf", "elder", "lost", "wrong"]
def spGoalsW : Sp := fun vs H Q _ => ∃ (w : Addr) (A : Wa) (W : Wd), vs = [.ref w] ∧ H w = some (.dK (wkvs A W)) ∧ H A.me = some (.lst (W.me.map V.str)) ∧ ∀ L H', H L = none → Ex H H' → H' L = some (.lst ((goalsW.filter fun z => decide (z ∈ W.me)).map V.str)) → Q (.ref L) H'
section
variable {P : Program} {w : World} {K : PySem.W.Frag} {mg : Str → Option Value} {base : Heap}
abbrev sCan : Stmt := topS 67
theorem scCan : FnScope ["_law_world_here", "_law_event", "_law_letters", "_law_view_here", "_law_is_asking"] ["_law_world_here", "_law_event"] (defScope sCan) := ⟨rfl, rfl, rfl, by decide +kernel, rfl, by decide +kernel, by decide +kernel⟩
abbrev sGoals : Stmt := topS 71
theorem scGoals : FnScope ["_law_world_here", "_law_word"] ["_law_world_here"] (defScope sGoals) := ⟨rfl, rfl, rfl, by decide +kernel, rfl, by decide +kernel, by decide +kernel⟩
theorem ok_canA {f fVi : Addr} {fd fdVi : FuncData} (F : Fun K "_law_can" "_law_can" sCan f fd) (T : TxB mg) (D_view : Df K mg "_law_view" sView ["_law_world_here"] fVi fdVi) : FnOk P w K mg base CX0 2 f fd ["_law_world_here", "_law_event"] spCanA := by
  have G_view : FnOk P w K mg base CX0 1 fVi fdVi ["_law_world_here"] spView := ok_view D_view.F
  refine F.ok scCan (fun vs H Q E h => ?_) (fun cdv A outer s H vs Q E hr h => ?_)
  · obtain ⟨w, e, A, W, xs, rfl, _⟩ := h
    rfl
  · obtain ⟨wa, ev, Aw, W, xs, rfl, he, hw, hl, hp, vl, q⟩ := h
    have hu : (A.deeper (envOfC "_law_can" (defScope sCan) s.heap.objs.size f cdv)).units + 1 < cLine := by
      have := hr.units
      omega
    refine ⟨_, pss_cons (ps_par (i := 2) (j := 3) (by rfl) scCan.nd rfl rfl (by decide) rfl rfl (pa_cons (pe_dget hu (pv 0) pe_str (fun _ _ => rfl)) (pa_cons (pe_call (E := E0) G_view (hr.mono (by decide)) rfl D_view.g D_view.F.kp D_view.b .nil pass0 (pa_cons (pv 0) pa_nil)) pa_nil)) (by rfl))
      (pss_cons (ps_if (pt_cmpR op_eq (pe_ix ix_tup (pv 1) pe_int (fun _ _ => rfl)) pe_str (nomark _)) (pss_one (ps_ret (pe_and (pe_chain op_le op_lt pe_int (pe_ix ix_tup (pv 1) pe_int (fun _ _ => rfl)) (pe_callB call_len_seq (by rfl) T.n_len (by decide +kernel) (pa_cons (pv 2) pa_nil))) (pe_one (pe_ix ix_list (pe_ix ix_list (pv 2) (pe_ix ix_tup (pv 1) pe_int (fun _ _ => rfl)) (fun _ _ => rfl)) pe_int (fun _ _ => rfl)))))) pss_nil)
      (pss_cons (ps_if (pt_cmpR op_eq (pe_ix ix_tup (pv 1) pe_int (fun _ _ => rfl)) pe_str (nomark _)) (pss_one (ps_ret (pe_chain op_le op_lt pe_int (pe_ix ix_tup (pv 1) pe_int (fun _ _ => rfl)) (pe_callB call_len_seq (by rfl) T.n_len (by decide +kernel) (pa_cons (pe_dget hu (pv 0) pe_str (fun _ _ => rfl)) pa_nil))))) pss_nil)
      (pss_cons (ps_set (i := 4) scCan.nd rfl (.inl rfl) (pe_and (pe_cmpR op_notN (pv 3) pe_non (nomark _)) (pe_one (pe_cmpR op_in_seq (pe_ix ix_list (pe_ix ix_list (pv 2) (pv 3) (fun _ _ => rfl)) pe_int (fun _ _ => rfl)) (pe_tup (pa_cons pe_str (pa_cons pe_str pa_nil))) (by rfl)))))
      (pss_one (ps_ret (pe_or (pe_cmpR op_ne (pe_ix ix_tup (pv 1) pe_int (fun _ _ => rfl)) pe_str (nomark _)) (pe_one (pv 4)))))))), ?_⟩
    refine par_go ?_
    refine at_consW ?_
    refine (ev_wget (Evl.ev_var rfl) hw (wg_letters Aw W)) H (Ex.refl _) _ fun H1 e1 => ?_
    refine ⟨_, rfl, wa, Aw, W, rfl, e1 _ _ hw, fun H2 e2 => ⟨_, _, rfl, ?_⟩⟩
    have e02 := e1.trans e2
    have first : ∀ {H' : Hp} {σ : L2.St}, Ex H H' → σ[1]? = some (some (.ref ev)) → Ev (tOp (rIxT K) (tVar 1) (tC (V.int 0))) σ H' (.str "answer") := fun e h => ev_ixT (K := K) (j := 0) (v := .str "answer") (Evl.ev_var h) Evl.ev_c (Evl.st_of (e _ _ he)) rfl
    refine Evl.q_when (b := false) (Evl.et_is (Evl.et_test (Evl.ev_op (first e02 rfl) Evl.ev_c (Evl.rv_eq rfl))) (by rw [eq_str]; decide +kernel)) (fun z => nomatch z) (fun _ H3 e3 => ?_)
    have e03 := e02.trans e3
    refine Evl.q_when (b := false) (Evl.et_is (Evl.et_test (Evl.ev_op (first e03 rfl) Evl.ev_c (Evl.rv_eq rfl))) (by rw [eq_str]; decide +kernel)) (fun z => nomatch z) (fun _ H4 e4 => ?_)
    have e04 := e03.trans e4
    refine Evl.q_asg (v := .bl W.asking) ?_ fun H5 e5 => ?_
    · cases hv : W.view with
      | none =>
        have ea : W.asking = (false && false) := by
          unfold Wd.asking
          rw [hv]
          rfl
        rw [ea]
        exact Evl.ev_andV (a := false) (b := false) (Evl.ev_is (Evl.ev_op (Evl.ev_var rfl) Evl.ev_c rv_notN) rfl) (fun z => nomatch z)
      | some v =>
        have ea : W.asking = (true && decide (W.kind v ∈ (["ask", "day"] : List Str))) := by
          unfold Wd.asking
          rw [hv]
          rfl
        rw [ea]
        exact Evl.ev_andV (a := true) (Evl.ev_is (Evl.ev_op (Evl.ev_var rfl) Evl.ev_c rv_notN) rfl) (fun _ => Evl.ev_is (Evl.ev_inU (x := .str (W.kind v)) (xs := (["ask", "day"] : List Str).map V.str) (ev_kindV (L := Aw.le) (W := W) (Evl.ev_var rfl) (Evl.ev_var rfl) (e04 _ _ hl) (prd_imp (fun _ _ h => LtW.mono e04 h) hp) (vl v hv)) (Evl.eu_tup (Evl.ea_cons Evl.ev_c (Evl.ea_cons Evl.ev_c Evl.ea_nil)) (by show 2 ≤ 100000; decide)) rfl (flat_strs _)) (by rw [inV_strs]))
    have e05 := e04.trans e5
    refine (Evl.ev_is (Evl.ev_op (first e05 rfl) (Evl.ev_c (v := .str "answer")) (Evl.rv_ne rfl)) (w := .bl false) (by rw [eq_str]; rfl)) H5 (Ex.refl _) _ fun H6 e6 => ⟨false, rfl, ?_⟩
    exact iteF ⟨_, rfl, q H6 (e05.trans e6)⟩
theorem ok_goalsW {f : Addr} {fd : FuncData} (F : Fun K "_law_goals" "_law_goals" sGoals f fd) : FnOk P w K mg base CX0 1 f fd ["_law_world_here"] spGoalsW := by
  refine F.ok scGoals (fun vs H Q E h => ?_) (fun cdv A outer s H vs Q E hr h => ?_)
  · obtain ⟨w, A, W, rfl, _⟩ := h
    rfl
  · obtain ⟨wa, Aw, W, rfl, hw, hm, q⟩ := h
    have hu : (A.deeper (envOfC "_law_goals" (defScope sGoals) s.heap.objs.size f cdv)).units + 1 < cLine := by
      have := hr.units
      omega
    refine ⟨_, pss_one (ps_ret (pe_lc (own := [("_law_word", 1)]) (g := gName 1) (tt := tTest (tOp (rIn K false) (tVar 1) (tDGet (tVar 0) (tC (.str "met"))))) rfl scGoals.nd (pi_tup (pe_tup (pa_cons pe_str (pa_cons pe_str (pa_cons pe_str (pa_cons pe_str (pa_cons pe_str pa_nil))))))) (blkOk_by (own := [("_law_word", 1)]) (N := ["_law_world_here", "_law_word"]) (sc := defScope sGoals) (by decide +kernel)) (fun _ _ _ _ _ => (pg_name (i := 1) scGoals.nd rfl (Or.inl rfl))) (fun _ _ _ _ _ => (pts_one (pt_cmpR (r := rIn K false) op_in_seq (pv 1) (pe_dget hu (pv 0) pe_str (fun _ _ => rfl)) (by rfl)))) (fun _ _ _ _ _ => (pv 1)))), ?_⟩
    refine Evl.s_retL (xs := (goalsW.filter fun z => decide (z ∈ W.me)).map V.str) ?_ fun p H2 np e2 hp => q p H2 np e2 hp
    rw [← given_texts goalsW (fun z => decide (z ∈ W.me)) (fun a => match goalsW[a]? with | some z => decide (z ∈ W.me) | none => false) (fun a => ((goalsW.map V.str)[a]?).getD .non) (fun a z hz => by
      rw [List.getElem?_map, hz]
      exact ⟨rfl, rfl⟩), show goalsW.length = (goalsW.map V.str).length from (List.length_map ..).symm]
    refine el_lcUW (xs := goalsW.map V.str) _ _ (Evl.eu_tup (Evl.ea_cons Evl.ev_c (Evl.ea_cons Evl.ev_c (Evl.ea_cons Evl.ev_c (Evl.ea_cons Evl.ev_c (Evl.ea_cons Evl.ev_c Evl.ea_nil))))) (by show 5 ≤ 100000; decide)) (by show 5 ≤ 40000; decide) (fun _ => rfl) (fun a z H1 e1 hz => ?_) (fun a z H1 e1 hz => ?_)
    · obtain ⟨z, rfl, hz2⟩ := strs_at hz
      rw [hz2]
      exact Evl.et_is (Evl.et_test (Evl.ev_op (x := .str z) (Evl.ev_var rfl) (ev_wget (Evl.ev_var rfl) (e1 _ _ hw) (wg_met _ _)) (Evl.rv_isL (Evl.sq_of (e1 _ _ hm)) rfl (flat_strs _)))) (by rw [inV_strs])
    · rw [hz]
      exact Evl.ev_var rfl
end
end Ov


namespace Ov
open PySem PySem.Spec PyProof.Rows L2
/-! ### stage 2's world: its events, as functions, and what they keep -/
/-- an event, as the law tells it -/
inductive Evt where
  | send (k : Str) (ab : Bool)
  | come (i : Nat)
  | answer
  | heard (n : Nat)
def Evt.vals : Evt → List V
  | .send k ab => [.str "send", .str k, .bl ab]
  | .come i => [.str "come", natV i]
  | .answer => [.str "answer"]
  | .heard n => [.str "heard", natV n]
def Wd.sent (W : Wd) (k : Str) : Str × Int × Bool → Prop := fun l => l.1 = k ∧ l.2.1 = W.numb (W.ls.length - 1) + (if k ∈ W.ks then 1 else 0)
def Wd.send (W : Wd) (k : Str) (ab : Bool) : Wd :=
  if ab = true then { W with ls := W.ls ++ [(k, W.numb (W.ls.length - 1) + (if k ∈ W.ks then 1 else 0), ab)], dn := W.dn ++ [none], nw := W.ls.length, co := none }
  else { W with ls := W.ls ++ [(k, W.numb (W.ls.length - 1) + (if k ∈ W.ks then 1 else 0), ab)], dn := W.dn ++ [none] }
def Wd.give (W : Wd) : Wd := { W with gi := W.gi ++ [W.view.getD 0], dn := W.dn ++ [none] }
/-- ahead of what is met -/
def Wd.go1 (W : Wd) : Evt → Wd
  | .send k ab => W.send k ab
  | .come i => W.come i
  | .answer => W.give
  | .heard n => W.hear n
def Wd.go (W : Wd) (e : Evt) : Wd := (W.go1 e).note
/-- what can happen -/
def Wd.Can (W : Wd) : Evt → Prop
  | .send k _ => k ∈ letterKinds
  | .come i => i < W.ls.length
  | .answer => W.view ≠ none
  | .heard n => n < W.gi.length
/-- what is sure of a world behind so many events -/
structure Wd.Fine (W : Wd) (n : Nat) : Prop where
  mo : W.Mono
  wh : ∀ j, W.wh = some j → j < W.ls.length
  ow : ∀ j, W.ow = some j → j < W.ls.length
  gd : ∀ r ∈ W.rs, r.Good
  rl : W.rs.length ≤ 10
  nw : W.nw < W.ls.length
  kd : ∀ l ∈ W.ls, l.1 ∈ letterKinds
  se : ∀ j ∈ W.se, j < W.ls.length
  gi : ∀ j ∈ W.gi, j < W.ls.length
  co : ∀ c, W.co = some c → c < W.gi.length
  ll : W.ls.length ≤ n + 1
  cl : W.ca.length ≤ n
  dl : W.dn.length ≤ n
  sl : W.se.length ≤ n
  hl : W.sh.length ≤ n + 1
  gl : W.gi.length ≤ n
  ml : W.me.length ≤ 5 * n
theorem Wd.Fine.ok {W : Wd} {n : Nat} (f : W.Fine n) (h : n ≤ 90) : W.Ok := ⟨f.mo, f.wh, f.ow, f.gd, f.rl, by have := f.ll; omega, by have := f.cl; omega, by have := f.dl; omega⟩
theorem Wd.Fine.start {ks : List Str} {rs : List RuleD} (g : ∀ r ∈ rs, r.Good) (h : rs.length ≤ 10) : (wstart ks rs).Fine 0 where
  mo := fun i j hij hj => by
    have h1 : j = 0 := by
      have : j < 1 := hj
      omega
    have h2 : i = 0 := by omega
    rw [h1, h2]
    exact Int.le_refl _
  wh := fun j hj => nomatch hj
  ow := fun j hj => nomatch hj
  gd := g
  rl := h
  nw := by show 0 < 1; decide
  kd := fun l hl => by
    rw [List.mem_singleton.mp hl]
    show ("ask" : Str) ∈ letterKinds
    decide +kernel
  se := fun j hj => nomatch hj
  gi := fun j hj => nomatch hj
  co := fun c hc => nomatch hc
  ll := Nat.le_refl _
  cl := Nat.le_refl _
  dl := Nat.le_refl _
  sl := Nat.le_refl _
  hl := Nat.le_refl _
  gl := Nat.le_refl _
  ml := Nat.le_refl _
theorem Wd.kind_in {W : Wd} {n i : Nat} (f : W.Fine n) (hi : i < W.ls.length) : W.kind i ∈ letterKinds := by
  unfold Wd.kind
  rw [List.getElem?_eq_getElem hi]
  exact f.kd _ (List.getElem_mem hi)
theorem numb_app {W : Wd} {l : Str × Int × Bool} {i : Nat} (h : i < W.ls.length) : ({ W with ls := W.ls ++ [l] } : Wd).numb i = W.numb i := by
  unfold Wd.numb
  show (((W.ls ++ [l])[i]?).map fun l => l.2.1).getD 0 = _
  rw [List.getElem?_append_left h]
theorem numb_end {W : Wd} {l : Str × Int × Bool} : ({ W with ls := W.ls ++ [l] } : Wd).numb W.ls.length = l.2.1 := by
  unfold Wd.numb
  show (((W.ls ++ [l])[W.ls.length]?).map fun l => l.2.1).getD 0 = _
  rw [List.getElem?_append_right (Nat.le_refl _), Nat.sub_self]
  rfl
/-- a letter more keeps the numbers' order -/
theorem mono_app {W : Wd} (mo : W.Mono) (ne : 0 < W.ls.length) {k : Str} {ab : Bool} {d : Int} (hd : 0 ≤ d) : ({ W with ls := W.ls ++ [(k, W.numb (W.ls.length - 1) + d, ab)] } : Wd).Mono := by
  intro i j hij hj
  have hj2 : j < W.ls.length + 1 := by
    have h : j < (W.ls ++ [(k, W.numb (W.ls.length - 1) + d, ab)]).length := hj
    rw [List.length_append] at h
    exact h
  by_cases c : j < W.ls.length
  · rw [numb_app c, numb_app (by omega)]
    exact mo i j hij c
  · have e : j = W.ls.length := by omega
    subst e
    rw [numb_end]
    by_cases c2 : i < W.ls.length
    · rw [numb_app c2]
      have := mo i (W.ls.length - 1) (by omega) (by omega)
      show W.numb i ≤ W.numb (W.ls.length - 1) + d
      omega
    · have e2 : i = W.ls.length := by omega
      subst e2
      rw [numb_end]
      exact Int.le_refl _
/-- deeds change the parts alone -/
structure SameP (W W' : Wd) : Prop where
  ks : W'.ks = W.ks
  rs : W'.rs = W.rs
  ls : W'.ls = W.ls
  nw : W'.nw = W.nw
  sh : W'.sh = W.sh
  gi : W'.gi = W.gi
  co : W'.co = W.co
  ca : W'.ca = W.ca
  se : W'.se = W.se
  me : W'.me = W.me
  dn : W'.dn = W.dn
theorem deed_same (W : Wd) (k : Str) (i : Nat) (d : Str) : SameP W (W.deed k i d) ∧ (∀ j, (W.deed k i d).wh = some j → W.wh = some j ∨ j = i) ∧ (∀ j, (W.deed k i d).ow = some j → W.ow = some j ∨ j = i) := by
  unfold Wd.deed
  split
  · exact ⟨⟨rfl, rfl, rfl, rfl, rfl, rfl, rfl, rfl, rfl, rfl, rfl⟩, fun j h => .inl h, fun j h => nomatch h⟩
  · split
    · exact ⟨⟨rfl, rfl, rfl, rfl, rfl, rfl, rfl, rfl, rfl, rfl, rfl⟩, fun j h => .inr (Option.some.inj h).symm, fun j h => .inl h⟩
    · exact ⟨⟨rfl, rfl, rfl, rfl, rfl, rfl, rfl, rfl, rfl, rfl, rfl⟩, fun j h => .inl h, fun j h => .inr (Option.some.inj h).symm⟩
theorem deeds_same (k : Str) (i : Nat) : ∀ (ds : List Str) (W : Wd), SameP W (W.deeds k i ds) ∧ (∀ j, (W.deeds k i ds).wh = some j → W.wh = some j ∨ j = i) ∧ (∀ j, (W.deeds k i ds).ow = some j → W.ow = some j ∨ j = i)
  | [], W => ⟨⟨rfl, rfl, rfl, rfl, rfl, rfl, rfl, rfl, rfl, rfl, rfl⟩, fun j h => .inl h, fun j h => .inl h⟩
  | d :: ds, W => by
    obtain ⟨s1, w1, o1⟩ := deed_same W k i d
    obtain ⟨s2, w2, o2⟩ := deeds_same k i ds (W.deed k i d)
    refine ⟨⟨s2.ks.trans s1.ks, s2.rs.trans s1.rs, s2.ls.trans s1.ls, s2.nw.trans s1.nw, s2.sh.trans s1.sh, s2.gi.trans s1.gi, s2.co.trans s1.co, s2.ca.trans s1.ca, s2.se.trans s1.se, s2.me.trans s1.me, s2.dn.trans s1.dn⟩, fun j h => ?_, fun j h => ?_⟩
    · rcases w2 j h with h | h
      · exact w1 j h
      · exact .inr h
    · rcases o2 j h with h | h
      · exact o1 j h
      · exact .inr h
theorem notes_len (W : Wd) : W.notes.length ≤ 4 := Nat.le_trans addIf_len (Nat.succ_le_succ (Nat.le_trans addIf_len (Nat.succ_le_succ (Nat.le_trans addIf_len (Nat.succ_le_succ (Nat.le_trans addIf_len (Nat.le_refl _)))))))
/-- the same between an event and what is met -/
structure Wd.Mid (W : Wd) (n : Nat) : Prop where
  mo : W.Mono
  wh : ∀ j, W.wh = some j → j < W.ls.length
  ow : ∀ j, W.ow = some j → j < W.ls.length
  gd : ∀ r ∈ W.rs, r.Good
  rl : W.rs.length ≤ 10
  nw : W.nw < W.ls.length
  kd : ∀ l ∈ W.ls, l.1 ∈ letterKinds
  se : ∀ j ∈ W.se, j < W.ls.length
  gi : ∀ j ∈ W.gi, j < W.ls.length
  co : ∀ c, W.co = some c → c < W.gi.length
  ll : W.ls.length ≤ n + 2
  cl : W.ca.length ≤ n + 1
  dl : W.dn.length ≤ n + 1
  sl : W.se.length ≤ n
  hl : W.sh.length ≤ n + 1
  gl : W.gi.length ≤ n + 1
  ml : W.me.length ≤ 5 * n + 1
theorem Wd.Mid.ok {W : Wd} {n : Nat} (f : W.Mid n) (h : n ≤ 90) : W.Ok := ⟨f.mo, f.wh, f.ow, f.gd, f.rl, by have := f.ll; omega, by have := f.cl; omega, by have := f.dl; omega⟩
theorem snoc_len {α : Type} (l : List α) (x : α) : (l ++ [x]).length = l.length + 1 := by
  rw [List.length_append]
  rfl
theorem view_in {W : Wd} (wh : ∀ j, W.wh = some j → j < W.ls.length) (ow : ∀ j, W.ow = some j → j < W.ls.length) : ∀ v, W.view = some v → v < W.ls.length := fun v hv => by
  unfold Wd.view at hv
  split at hv
  · exact ow v hv
  · exact wh v hv
theorem Wd.Mid.note {W : Wd} {n : Nat} (f : W.Mid n) : W.note.Fine (n + 1) := by
  have vi := view_in f.wh f.ow
  have vt : W.view.toList.length ≤ 1 := by
    cases W.view with
    | none => exact Nat.zero_le _
    | some v => exact Nat.le_refl _
  have sl := f.sl
  have ml := f.ml
  have nl := notes_len W
  exact { mo := f.mo, wh := f.wh, ow := f.ow, gd := f.gd, rl := f.rl, nw := f.nw, kd := f.kd
          se := fun j hj => by
            rcases List.mem_append.mp (show j ∈ W.se ++ W.view.toList from hj) with h | h
            · exact f.se j h
            · exact vi j (Option.mem_toList.mp h)
          gi := f.gi, co := f.co, ll := f.ll, cl := f.cl, dl := f.dl
          sl := by
            show (W.se ++ W.view.toList).length ≤ n + 1
            rw [List.length_append]
            omega
          hl := by
            show (W.sh ++ [W.view]).length ≤ n + 1 + 1
            rw [snoc_len]
            exact Nat.succ_le_succ f.hl
          gl := f.gl
          ml := by
            show (W.me ++ W.notes).length ≤ 5 * (n + 1)
            rw [List.length_append]
            omega }
theorem Wd.Fine.send {W : Wd} {n : Nat} (f : W.Fine n) {k : Str} (hk : k ∈ letterKinds) (ab : Bool) : (W.send k ab).Mid n := by
  have ne : 0 < W.ls.length := by have := f.nw; omega
  have ml := f.ml
  have hd : (0 : Int) ≤ (if k ∈ W.ks then 1 else 0) := by split <;> decide
  have lt : ∀ {j : Nat} {l : Str × Int × Bool}, j < W.ls.length → j < (W.ls ++ [l]).length := fun h => by
    rw [snoc_len]
    omega
  have kd : ∀ l ∈ W.ls ++ [(k, W.numb (W.ls.length - 1) + (if k ∈ W.ks then 1 else 0), ab)], l.1 ∈ letterKinds := fun l hl => by
    rcases List.mem_append.mp hl with h | h
    · exact f.kd l h
    · rw [List.mem_singleton.mp h]
      exact hk
  have ll : (W.ls ++ [(k, W.numb (W.ls.length - 1) + (if k ∈ W.ks then 1 else 0), ab)]).length ≤ n + 2 := by
    rw [snoc_len]
    exact Nat.succ_le_succ f.ll
  have dl : (W.dn ++ [none]).length ≤ n + 1 := by
    rw [snoc_len]
    exact Nat.succ_le_succ f.dl
  have mo := mono_app (k := k) (ab := ab) f.mo ne hd
  cases ab with
  | true =>
    exact { mo := mo, wh := fun j h => lt (f.wh j h), ow := fun j h => lt (f.ow j h), gd := f.gd, rl := f.rl
            nw := by
              show W.ls.length < (W.ls ++ [_]).length
              rw [snoc_len]
              omega
            kd := kd, se := fun j h => lt (f.se j h), gi := fun j h => lt (f.gi j h), co := fun c h => (nomatch h), ll := ll, cl := Nat.le_succ_of_le f.cl, dl := dl, sl := f.sl, hl := f.hl, gl := Nat.le_succ_of_le f.gl, ml := Nat.le_succ_of_le ml }
  | false =>
    exact { mo := mo, wh := fun j h => lt (f.wh j h), ow := fun j h => lt (f.ow j h), gd := f.gd, rl := f.rl, nw := lt f.nw, kd := kd, se := fun j h => lt (f.se j h), gi := fun j h => lt (f.gi j h), co := f.co, ll := ll, cl := Nat.le_succ_of_le f.cl, dl := dl, sl := f.sl, hl := f.hl, gl := Nat.le_succ_of_le f.gl, ml := Nat.le_succ_of_le ml }
theorem Wd.Fine.give {W : Wd} {n : Nat} (f : W.Fine n) (h : W.view ≠ none) : W.give.Mid n := by
  have vi := view_in f.wh f.ow
  exact { mo := f.mo, wh := f.wh, ow := f.ow, gd := f.gd, rl := f.rl, nw := f.nw, kd := f.kd, se := f.se
          gi := fun j hj => by
            rcases List.mem_append.mp (show j ∈ W.gi ++ [W.view.getD 0] from hj) with h2 | h2
            · exact f.gi j h2
            · rw [List.mem_singleton.mp h2]
              cases hv : W.view with
              | none => exact absurd hv h
              | some v => exact vi v hv
          co := fun c hc => by
            show c < (W.gi ++ [_]).length
            rw [snoc_len]
            exact Nat.lt_succ_of_lt (f.co c hc)
          ll := Nat.le_succ_of_le f.ll, cl := Nat.le_succ_of_le f.cl
          dl := by
            show (W.dn ++ [none]).length ≤ n + 1
            rw [snoc_len]
            exact Nat.succ_le_succ f.dl
          sl := f.sl, hl := f.hl
          gl := by
            show (W.gi ++ [_]).length ≤ n + 1
            rw [snoc_len]
            exact Nat.succ_le_succ f.gl
          ml := Nat.le_succ_of_le f.ml }
theorem Wd.Fine.come {W : Wd} {n i : Nat} (f : W.Fine n) (hi : i < W.ls.length) : (W.come i).Mid n := by
  obtain ⟨s, w1, o1⟩ := deeds_same (W.kind i) i (deedsM W.rs (W.ruleFor i)) ({ W with ca := W.ca ++ [i], dn := W.dn ++ [W.ruleFor i] } : Wd)
  have e : W.come i = ({ W with ca := W.ca ++ [i], dn := W.dn ++ [W.ruleFor i] } : Wd).deeds (W.kind i) i (deedsM W.rs (W.ruleFor i)) := rfl
  rw [e]
  generalize ({ W with ca := W.ca ++ [i], dn := W.dn ++ [W.ruleFor i] } : Wd).deeds (W.kind i) i (deedsM W.rs (W.ruleFor i)) = W2 at s w1 o1 ⊢
  have sls : W2.ls = W.ls := s.ls
  have mo : W2.Mono := by
    intro a b hab hb
    rw [sls] at hb
    have := f.mo a b hab hb
    unfold Wd.numb at this ⊢
    rw [sls]
    exact this
  exact { mo := mo
          wh := fun j h => by
            rw [sls]
            rcases w1 j h with h | rfl
            · exact f.wh j h
            · exact hi
          ow := fun j h => by
            rw [sls]
            rcases o1 j h with h | rfl
            · exact f.ow j h
            · exact hi
          gd := by rw [s.rs]; exact f.gd
          rl := by rw [s.rs]; exact f.rl
          nw := by rw [s.nw, sls]; exact f.nw
          kd := by rw [sls]; exact f.kd
          se := by rw [s.se, sls]; exact f.se
          gi := by rw [s.gi, sls]; exact f.gi
          co := by rw [s.co, s.gi]; exact f.co
          ll := by rw [sls]; exact Nat.le_succ_of_le f.ll
          cl := by
            rw [s.ca]
            show (W.ca ++ [i]).length ≤ n + 1
            rw [snoc_len]
            exact Nat.succ_le_succ f.cl
          dl := by
            rw [s.dn]
            show (W.dn ++ [W.ruleFor i]).length ≤ n + 1
            rw [snoc_len]
            exact Nat.succ_le_succ f.dl
          sl := by rw [s.se]; exact f.sl
          hl := by rw [s.sh]; exact f.hl
          gl := by rw [s.gi]; exact Nat.le_succ_of_le f.gl
          ml := by rw [s.me]; exact Nat.le_succ_of_le f.ml }
theorem fold_in {n c : Nat} : ∀ (ds : List Str) (c0 : Option Nat), ds.foldl (fun _ d => if d = ("count" : Str) then some n else none) c0 = some c → c0 = some c ∨ c = n
  | [], c0, h => .inl h
  | d :: ds, c0, h => by
    rcases fold_in ds _ h with h | h
    · replace h : (if d = ("count" : Str) then some n else none) = some c := h
      split at h
      · exact .inr (Option.some.inj h).symm
      · cases h
    · exact .inr h
theorem Wd.Fine.heard1 {W : Wd} {n a : Nat} (f : W.Fine n) (ha : a < W.gi.length) : (W.heard1 a).Mid n := by
  exact { mo := f.mo, wh := f.wh, ow := f.ow, gd := f.gd, rl := f.rl, nw := f.nw, kd := f.kd, se := f.se, gi := f.gi
          co := fun c hc => by
            rcases fold_in _ _ (show (deedsM W.rs (W.ruleHear a)).foldl (fun _ d => if d = ("count" : Str) then some a else none) W.co = some c from hc) with h | h
            · exact f.co c h
            · rw [h]
              exact ha
          ll := Nat.le_succ_of_le f.ll, cl := Nat.le_succ_of_le f.cl
          dl := by
            show (W.dn ++ [_]).length ≤ n + 1
            rw [snoc_len]
            exact Nat.succ_le_succ f.dl
          sl := f.sl, hl := f.hl, gl := Nat.le_succ_of_le f.gl, ml := Nat.le_succ_of_le f.ml }
theorem Wd.Fine.hear {W : Wd} {n a : Nat} (f : W.Fine n) (ha : a < W.gi.length) : (W.hear a).Mid n := by
  have m := f.heard1 ha
  unfold Wd.hear
  split
  · exact { mo := m.mo, wh := m.wh, ow := m.ow, gd := m.gd, rl := m.rl, nw := m.nw, kd := m.kd, se := m.se, gi := m.gi, co := m.co, ll := m.ll, cl := m.cl, dl := m.dl, sl := m.sl, hl := m.hl, gl := m.gl
            ml := by
              show (W.me ++ [_]).length ≤ 5 * n + 1
              rw [snoc_len]
              exact Nat.succ_le_succ f.ml }
  · exact m
theorem Wd.Fine.go1 {W : Wd} {n : Nat} (f : W.Fine n) : ∀ {e : Evt}, W.Can e → (W.go1 e).Mid n
  | .send _ ab, h => f.send h ab
  | .come _, h => f.come h
  | .answer, h => f.give h
  | .heard _, h => f.hear h
theorem Wd.Fine.go {W : Wd} {n : Nat} (f : W.Fine n) {e : Evt} (h : W.Can e) : (W.go e).Fine (n + 1) := (f.go1 h).note
end Ov


namespace Ov
open PySem PySem.Spec PyProof.Rows L2
open Evl (pss_cut tCut Ex Ev EvT EvL EvA EvU)
/-! ### stage 2's world goes on -/
section
variable {Fa : Addr → Prop} {H H' : Hp} {w : Addr} {A A1 : Wa} {W : Wd}
theorem SameA.wo (s : SameA A A1) {x : Addr} (h : Wo A x) : Wo A1 x := ⟨by rw [s.le]; exact h.1, by rw [s.sh]; exact h.2.1, by rw [s.dn]; exact h.2.2⟩
theorem SameA.wo' (s : SameA A A1) {x : Addr} (h : Wo A1 x) : Wo A x := ⟨by rw [← s.le]; exact h.1, by rw [← s.sh]; exact h.2.1, by rw [← s.dn]; exact h.2.2⟩
theorem SameA.trans {A2 : Wa} (s : SameA A A1) (t : SameA A1 A2) : SameA A A2 := ⟨t.ra.trans s.ra, t.so.trans s.so, t.le.trans s.le, t.sh.trans s.sh, t.dn.trans s.dn⟩
theorem Kw.same (s : SameA A A1) (k : Kw w A1 H H') : Kw w A H H' := fun x o n wo h => k x o n (s.wo wo) h
/-- what is new stays new -/
theorem fresh_kw (g : WorldAt Fa H' w A1 W) (s : SameA A A1) (k : Kw w A H H') (fN : ∀ x, H x = none → Fa x) : ∀ x, H' x = none → Fa x := fun x hx => by
  cases e : H x with
  | none => exact fN x e
  | some o =>
    have := k x o (ne_of_none g.hw hx).symm (s.wo' (g.new hx)) e
    rw [hx] at this
    cases this
end
section
variable {K : PySem.W.Frag} {σ : L2.St} {H : Hp} {ta tb : TE}
theorem ev_numbV {L : Addr} {W : Wd} {xs : List V} (ha : Ev ta σ H (.ref L)) (hi : Ev tb σ H (.int (-1))) (hl : H L = some (.lst xs)) (hp : Paired (LtW (fun _ => True) H) xs W.ls) (ne : 0 < W.ls.length) : Ev (tOp (rIxL K) (tOp (rIxL K) ta tb) (tC (.int 1))) σ H (.int (W.numb (W.ls.length - 1))) := by
  have lx := paired_len hp
  obtain ⟨x, hx⟩ : ∃ x, xs[W.ls.length - 1]? = some x := ⟨_, List.getElem?_eq_getElem (by omega)⟩
  obtain ⟨l, hl2, p, rfl, h2, _⟩ := prd_at hp hx
  have e : W.numb (W.ls.length - 1) = l.2.1 := by
    unfold Wd.numb
    rw [hl2]
    rfl
  rw [e]
  have at1 : atI xs (-1) = some (.ref p) := by
    rw [← lx] at hx
    unfold atI ixN
    have c1 : ¬ ((0 : Int) ≤ -1) := by decide
    have c2 : -(xs.length : Int) ≤ -1 := by omega
    rw [if_neg c1, if_pos c2]
    show xs[((-1 : Int) + (xs.length : Int)).toNat]? = _
    rw [show ((-1 : Int) + (xs.length : Int)).toNat = xs.length - 1 by omega]
    exact hx
  exact Evl.ev_op (x := .ref p) (Evl.ev_op (x := .ref L) ha hi (Evl.rv_ixL (Evl.sq_of hl) at1)) (Evl.ev_c (v := .int 1)) (Evl.rv_ixL (Evl.sq_of h2) rfl)
end
theorem cb_go {r : List V → Hp → VK → Prop} {te : TE} {σ : L2.St} {H : Hp} {Q : VK} (h : te σ H fun x H1 => r [x] H1 Q) : tCB r (tCons te tNil) σ H Q := h
theorem asgt_go {ta : TA} {g : TG} {D : Ends} {σ : L2.St} {H : Hp} (h : ta σ H fun vs H1 => vs.length ≤ sizeLine ∧ ∀ p, H1 p = none → g (.ref p) σ (upd H1 p (.tup vs)) D.nx) : tAsg (tTup ta) g D σ H := h
def spGoW : Sp := fun vs H Q _ => ∃ (Fa : Addr → Prop) (w ev : Addr) (A : Wa) (W : Wd) (n : Nat) (e : Evt), vs = [.ref w, .ref ev] ∧ H ev = some (.tup e.vals) ∧ WorldAt Fa H w A W ∧ W.Fine n ∧ n ≤ 90 ∧ (∀ x, H x = none → Fa x) ∧ W.Can e ∧
  ∀ (A' : Wa) (H' : Hp), WorldAt Fa H' w A' (W.go e) → SameA A A' → Kw w A H H' → Q .non H'
section
variable {P : Program} {w : World} {K : PySem.W.Frag} {mg : Str → Option Value} {base : Heap}
abbrev sGo : Stmt := topS 68
theorem scGo : FnScope ["_law_world_here", "_law_event", "_law_letters", "_law_number"] ["_law_world_here", "_law_event"] (defScope sGo) := ⟨rfl, rfl, rfl, by decide +kernel, rfl, by decide +kernel, by decide +kernel⟩
theorem ok_goW {f fVi fCo fHe fNo : Addr} {fd fdVi fdCo fdHe fdNo : FuncData} (F : Fun K "_law_go" "_law_go" sGo f fd) (T : TxB mg) (D_view : Df K mg "_law_view" sView ["_law_world_here"] fVi fdVi)
    (D_come : Df K mg "_law_come" sCome ["_law_world_here", "_law_place"] fCo fdCo) (G_come : FnOk P w K mg base CX0 3 fCo fdCo ["_law_world_here", "_law_place"] spComeW)
    (D_hear : Df K mg "_law_hear" sHear ["_law_world_here", "_law_number"] fHe fdHe) (G_hear : FnOk P w K mg base CX0 1 fHe fdHe ["_law_world_here", "_law_number"] spHearW)
    (D_note : Df K mg "_law_note" sNote ["_law_world_here"] fNo fdNo) (G_note : FnOk P w K mg base CX0 2 fNo fdNo ["_law_world_here"] spNoteW) : FnOk P w K mg base CX0 4 f fd ["_law_world_here", "_law_event"] spGoW := by
  have G_view : FnOk P w K mg base CX0 1 fVi fdVi ["_law_world_here"] spView := ok_view D_view.F
  refine F.ok scGo (fun vs H Q E h => ?_) (fun cdv A outer s H vs Q E hr h => ?_)
  · obtain ⟨Fa, w, ev, A, W, n, e, rfl, _⟩ := h
    rfl
  · obtain ⟨Fa, wa, ev, Aw, W, n, e, rfl, he, g, fi, hn, fN, can, q⟩ := h
    have hu : (A.deeper (envOfC "_law_go" (defScope sGo) s.heap.objs.size f cdv)).units + 1 < cLine := by
      have := hr.units
      omega
    refine ⟨_, pss_cons (ps_set (i := 2) scGo.nd rfl (.inl rfl) (pe_dget hu (pv 0) pe_str (fun _ _ => rfl)))
      (pss_cut (ps_if (pt_cmpR op_eq (pe_ix ix_tup (pv 1) pe_int (fun _ _ => rfl)) pe_str (nomark _)) (pss_cons (ps_set (i := 3) scGo.nd rfl (.inl rfl) (pe_op op_add (pe_ix ix_list (pe_ix ix_list (pv 2) (pe_un un_neg pe_int) (fun _ _ => rfl)) pe_int (fun _ _ => rfl)) (pe_callTy call_int1 (by rfl) T.n_int (by decide +kernel) (pa_cons (pe_cmpR op_in_seq (pe_ix ix_tup (pv 1) pe_int (fun _ _ => rfl)) (pe_dget hu (pv 0) pe_str (fun _ _ => rfl)) (by rfl)) pa_nil))))
      (pss_cons (ps_expr (pe_bm PySem.F.plainAttrs_list PySem.F.slot_list_append PySem.F.type_list_append mt_append (pv 2) (pa_cons (pe_lst (pa_cons (pe_ix ix_tup (pv 1) pe_int (fun _ _ => rfl)) (pa_cons (pv 3) (pa_cons (pe_ix ix_tup (pv 1) pe_int (fun _ _ => rfl)) pa_nil)))) pa_nil)))
      (pss_cons (ps_expr (pe_bm PySem.F.plainAttrs_list PySem.F.slot_list_append PySem.F.type_list_append mt_append (pe_dget hu (pv 0) pe_str (fun _ _ => rfl)) (pa_cons pe_non pa_nil)))
      (pss_one (ps_if (pt_truth (pe_ix ix_tup (pv 1) pe_int (fun _ _ => rfl)) (by intro _; rfl)) (pss_one (ps_asg (pe_tup (pa_cons (pe_op op_sub (pe_callB call_len_seq (by rfl) T.n_len (by decide +kernel) (pa_cons (pv 2) pa_nil)) pe_int) (pa_cons pe_non pa_nil))) (pg_tup (by rfl) (pgs_cons (pg_sub (pv 0) pe_str (set_dict hu)) (pgs_cons (pg_sub (pv 0) pe_str (set_dict hu)) pgs_nil))))) pss_nil))))) (pss_one (ps_if (pt_cmpR op_eq (pe_ix ix_tup (pv 1) pe_int (fun _ _ => rfl)) pe_str (nomark _)) (pss_one (ps_expr (pe_call (E := E0) G_come (hr.mono (by decide)) rfl D_come.g D_come.F.kp D_come.b .nil pass0 (pa_cons (pv 0) (pa_cons (pe_ix ix_tup (pv 1) pe_int (fun _ _ => rfl)) pa_nil))))) (pss_one (ps_if (pt_cmpR op_eq (pe_ix ix_tup (pv 1) pe_int (fun _ _ => rfl)) pe_str (nomark _)) (pss_cons (ps_asg (pe_op op_cat (pe_dget hu (pv 0) pe_str (fun _ _ => rfl)) (pe_lst (pa_cons (pe_call (E := E0) G_view (hr.mono (by decide)) rfl D_view.g D_view.F.kp D_view.b .nil pass0 (pa_cons (pv 0) pa_nil)) pa_nil))) (pg_sub (pv 0) pe_str (set_dict hu)))
      (pss_one (ps_expr (pe_bm PySem.F.plainAttrs_list PySem.F.slot_list_append PySem.F.type_list_append mt_append (pe_dget hu (pv 0) pe_str (fun _ _ => rfl)) (pa_cons pe_non pa_nil))))) (pss_one (ps_expr (pe_call (E := E0) G_hear (hr.mono (by decide)) rfl D_hear.g D_hear.F.kp D_hear.b .nil pass0 (pa_cons (pv 0) (pa_cons (pe_ix ix_tup (pv 1) pe_int (fun _ _ => rfl)) pa_nil))))))))))
      (pss_one (ps_expr (pe_call (E := E0) G_note (hr.mono (by decide)) rfl D_note.g D_note.F.kp D_note.b .nil pass0 (pa_cons (pv 0) pa_nil))))), ?_⟩
    refine Evl.q_asg (v := .ref Aw.le) (ev_wget (Evl.ev_var rfl) g.hw (wg_letters Aw W)) fun H1 e1 => ?_
    have g1 := g.ex e1
    have he1 := e1 _ _ he
    have evw : wa ≠ ev := ne_of g.hw he fun z => nomatch z
    have first : ∀ {H' : Hp} {σ : L2.St} {z : Str} {r : List V}, e.vals = .str z :: r → Ex H H' → σ[1]? = some (some (.ref ev)) → Ev (tOp (rIxT K) (tVar 1) (tC (V.int 0))) σ H' (.str z) := fun h e h2 => ev_ixT (K := K) (j := 0) (Evl.ev_var h2) Evl.ev_c (Evl.st_of (e _ _ he)) (by rw [h]; rfl)
    have mid := fi.go1 can
    refine Evl.q_cut (M := fun σ' H' => σ'[0]? = some (some (.ref wa)) ∧ ∃ A1, WorldAt Fa H' wa A1 (W.go1 e) ∧ SameA Aw A1 ∧ Kw wa Aw H H') ?_ (fun σ' H' ⟨h0, A1, gm, sa, km⟩ => ?_)
    · cases e with
      | send k ab =>
        refine Evl.s_if (b := true) (Evl.et_is (Evl.et_test (Evl.ev_op (first rfl e1 rfl) Evl.ev_c (Evl.rv_eq rfl))) (by rw [eq_str]; decide +kernel)) (fun _ H2 e2 => ?_) (fun z => nomatch z)
        have e12 := e1.trans e2
        have g2 := g.ex e12
        have ne : 0 < W.ls.length := by have := fi.nw; omega
        have ll := fi.ll
        have dl := fi.dl
        obtain ⟨xs, l1, l2⟩ := g2.le
        have lx := paired_len l2
        have l2T : Paired (LtW (fun _ => True) H2) xs W.ls := prd_imp (fun _ _ ⟨p, h1, h2, _⟩ => ⟨p, h1, h2, trivial⟩) l2
        have part : ∀ {H' : Hp} {σ : L2.St} {j : Nat} {v : V}, (Evt.send k ab).vals[j]? = some v → Ex H H' → σ[1]? = some (some (.ref ev)) → Ev (tOp (rIxT K) (tVar 1) (tC (V.int (j : Int)))) σ H' v := fun h e h2 => ev_ixT (K := K) (Evl.ev_var h2) Evl.ev_c (Evl.st_of (e _ _ he)) h
        -- its number
        refine Evl.q_asg (v := .int (W.numb (W.ls.length - 1) + (if k ∈ W.ks then 1 else 0))) (Evl.ev_op (x := .int (W.numb (W.ls.length - 1))) (y := .int (if k ∈ W.ks then 1 else 0)) (ev_numbV (L := Aw.le) (W := W) (Evl.ev_var rfl) (Evl.ev_un Evl.ev_c Evl.ru_neg) l1 l2T ne) (fun H5 e5 Q5 q5 => cb_go ?_) Evl.rv_I0) fun H3 e3 => ?_
        · refine (Evl.ev_is (w := .bl (decide (k ∈ W.ks))) (Evl.ev_op (x := .str k) (part (j := 1) rfl (e12.trans e5) rfl) (ev_wget (Evl.ev_var rfl) (e5 _ _ g2.hw) (wg_raising _ _)) (Evl.rv_isL (Evl.sq_of (e5 _ _ g2.ra)) rfl (flat_strs _))) (by rw [inV_strs])) H5 (Ex.refl _) _ fun H6 e6 => .inr ⟨decide (k ∈ W.ks), rfl, ?_⟩
          have := q5 H6 e6
          by_cases c : k ∈ W.ks
          · rw [if_pos c] at this
            rw [decide_eq_true c]
            exact this
          · rw [if_neg c] at this
            rw [decide_eq_false c]
            exact this
        -- the letter
        have e13 := e12.trans e3
        refine bm_go ?_
        refine ⟨_, rfl, .inl ⟨rfl, _, Evl.sq_of (e3 _ _ l1)⟩, ?_⟩
        refine at_consW ?_
        refine (Evl.el_lst (vs := [.str k, .int (W.numb (W.ls.length - 1) + (if k ∈ W.ks then 1 else 0)), .bl ab]) (Evl.ea_cons (part (j := 1) rfl e13 rfl) (Evl.ea_cons (Evl.ev_var rfl) (Evl.ea_cons (part (j := 2) rfl e13 rfl) Evl.ea_nil))) (by show 3 ≤ 100000; decide)) H3 (Ex.refl _) _ fun p H4 np e4 hp => ?_
        have g4 := (g2.ex e3).ex e4
        have l4 := e4 _ _ (e3 _ _ l1)
        refine ⟨Aw.le, xs, .ref p, rfl, rfl, l4, Evl.sz_lt (by omega), ?_⟩
        have g5 := g4.appLe (l := (k, W.numb (W.ls.length - 1) + (if k ∈ W.ks then 1 else 0), ab)) l4 hp ((g2.ex e3).new np) (fN p (Evl.fresh_back e13 np))
        have k5 : Kw wa Aw H (upd H4 Aw.le (.lst (xs ++ [.ref p]))) := (Kw.ex (e13.trans e4)).trans Kw.le
        have hl5 : upd H4 Aw.le (.lst (xs ++ [.ref p])) Aw.le = some (.lst (xs ++ [.ref p])) := upd_same
        have he5 : upd H4 Aw.le (.lst (xs ++ [.ref p])) ev = some (.tup (Evt.send k ab).vals) := by
          rw [upd_ne (ne_of ((e13.trans e4) _ _ he) l4 fun z => nomatch z)]
          exact (e13.trans e4) _ _ he
        generalize upd H4 Aw.le (.lst (xs ++ [.ref p])) = H5 at g5 k5 hl5 he5 ⊢
        -- no rule
        refine bm_go ?_
        refine (ev_wget (Evl.ev_var rfl) g5.hw (wg_done _ _)) H5 (Ex.refl _) _ fun H6 e6 => ?_
        have g6 := g5.ex e6
        refine ⟨.inl ⟨rfl, _, Evl.sq_of g6.dn⟩, Aw.dn, _, ov none, rfl, rfl, g6.dn, Evl.sz_lt (by rw [List.length_map]; show W.dn.length < 100000; omega), ?_⟩
        have g7 := g6.appDn none
        have k7 : Kw wa Aw H (upd H6 Aw.dn (.lst (W.dn.map ov ++ [ov none]))) := (k5.trans (Kw.ex e6)).trans Kw.dn
        have hl7 : upd H6 Aw.dn (.lst (W.dn.map ov ++ [ov none])) Aw.le = some (.lst (xs ++ [.ref p])) := by
          rw [upd_ne g.ne.2.1]
          exact e6 _ _ hl5
        have he7 : upd H6 Aw.dn (.lst (W.dn.map ov ++ [ov none])) ev = some (.tup (Evt.send k ab).vals) := by
          rw [upd_ne (ne_of (e6 _ _ he5) g6.dn fun z => nomatch z)]
          exact e6 _ _ he5
        show tIfS _ _ _ _ _ (upd H6 Aw.dn (.lst (W.dn.map ov ++ [ov none])))
        generalize upd H6 Aw.dn (.lst (W.dn.map ov ++ [ov none])) = H7 at g7 k7 hl7 he7 ⊢
        have sa : SameA Aw Aw := ⟨rfl, rfl, rfl, rfl, rfl⟩
        cases ab with
        | false =>
          exact Evl.s_when (b := false) (et_truB (ev_ixT (K := K) (j := 2) (v := .bl false) (Evl.ev_var rfl) Evl.ev_c (Evl.st_of he7) rfl)) (fun z => nomatch z) (fun _ H8 e8 => ⟨rfl, Aw, g7.ex e8, sa, k7.trans (Kw.ex e8)⟩)
        | true =>
          refine Evl.s_when (b := true) (et_truB (ev_ixT (K := K) (j := 2) (v := .bl true) (Evl.ev_var rfl) Evl.ev_c (Evl.st_of he7) rfl)) (fun _ H8 e8 => ?_) (fun z => nomatch z)
          refine asgt_go ?_
          refine (Evl.ea_cons (x := natV W.ls.length) (Evl.ev_is (v := .int (((xs ++ [V.ref p]).length : Int) - 1)) (Evl.ev_op (x := .int ((xs ++ [V.ref p]).length : Int)) (y := .int 1) (Evl.ev_len (Evl.ev_var rfl) (Evl.sq_of (e8 _ _ hl7))) Evl.ev_c Evl.rv_I0) (congrArg V.int (by rw [List.length_append]; show ((xs.length + 1 : Nat) : Int) - 1 = _; omega))) (Evl.ea_cons (x := V.non) Evl.ev_c Evl.ea_nil)) H8 (Ex.refl _) _ fun H9 e9 => ?_
          refine ⟨size_of (by show 2 ≤ 100000; decide), fun t nt => ?_⟩
          have g9 := ((g7.ex e8).ex e9).ex (Ex.new (o := .tup [natV W.ls.length, V.non]) nt)
          have g10 := g9.set_newest W.ls.length
          have g11 := g10.set_counted none
          refine ⟨t, _, rfl, Evl.st_of upd_same, rfl, _, _, rfl, _, rfl, wa, _, rfl, DPut.k (k := .inr "newest") g9.hw (wkvs_len _ _), _, _, rfl, _, rfl, wa, _, rfl, DPut.k (k := .inr "counted") (v := V.non) g10.hw (wkvs_len _ _), rfl, ?_⟩
          exact ⟨rfl, Aw, g11, sa, (((k7.trans (Kw.ex (e8.trans e9))).trans (Kw.ex (Ex.new nt))).trans Kw.w).trans Kw.w⟩
      | come i =>
        refine Evl.s_if (b := false) (Evl.et_is (Evl.et_test (Evl.ev_op (first rfl e1 rfl) Evl.ev_c (Evl.rv_eq rfl))) (by rw [eq_str]; decide +kernel)) (fun z => nomatch z) (fun _ H2 e2 => ?_)
        refine Evl.s_if (b := true) (Evl.et_is (Evl.et_test (Evl.ev_op (first rfl (e1.trans e2) rfl) Evl.ev_c (Evl.rv_eq rfl))) (by rw [eq_str]; decide +kernel)) (fun _ H3 e3 => ?_) (fun z => nomatch z)
        have e13 := (e1.trans e2).trans e3
        have g3 := g.ex e13
        refine ⟨_, rfl, ?_⟩
        refine at_consW ?_
        refine (ev_ixT (K := K) (j := 1) (v := natV i) (Evl.ev_var rfl) Evl.ev_c (Evl.st_of (e13 _ _ he)) rfl) H3 (Ex.refl _) _ fun H4 e4 => ?_
        have e14 := e13.trans e4
        exact ⟨Fa, wa, Aw, W, i, rfl, g.ex e14, fi.ok hn, fun x hx => fN x (Evl.fresh_back e14 hx), can, W.kind_in fi can, fun A' H' g' s' k' => ⟨rfl, A', g', s', (Kw.ex e14).trans k'⟩⟩
      | answer =>
        refine Evl.s_if (b := false) (Evl.et_is (Evl.et_test (Evl.ev_op (first rfl e1 rfl) Evl.ev_c (Evl.rv_eq rfl))) (by rw [eq_str]; decide +kernel)) (fun z => nomatch z) (fun _ H2 e2 => ?_)
        refine Evl.s_if (b := false) (Evl.et_is (Evl.et_test (Evl.ev_op (first rfl (e1.trans e2) rfl) Evl.ev_c (Evl.rv_eq rfl))) (by rw [eq_str]; decide +kernel)) (fun z => nomatch z) (fun _ H3 e3 => ?_)
        refine Evl.s_if (b := true) (Evl.et_is (Evl.et_test (Evl.ev_op (first rfl ((e1.trans e2).trans e3) rfl) Evl.ev_c (Evl.rv_eq rfl))) (by rw [eq_str]; decide +kernel)) (fun _ H4 e4 => ?_) (fun z => nomatch z)
        have e14 := ((e1.trans e2).trans e3).trans e4
        have g4 := g.ex e14
        obtain ⟨v, hv⟩ : ∃ v, W.view = some v := by
          cases h : W.view with
          | none => exact absurd h can
          | some v => exact ⟨v, rfl⟩
        have gl := fi.gl
        have dl := fi.dl
        refine q_put ?_
        refine (el_catV (xs := W.gi.map natV) (ys := [natV (W.view.getD 0)]) (ev_wget (Evl.ev_var rfl) g4.hw (wg_given Aw W)) g4.gi (Evl.el_lst (Evl.ea_cons (fun H5 e5 Q5 q5 => ⟨_, rfl, wa, Aw, W, rfl, e5 _ _ g4.hw, fun H6 e6 => by
          rw [hv]
          rw [hv] at q5
          exact q5 H6 e6⟩) Evl.ea_nil) (by show 1 ≤ 100000; decide)) (by rw [List.length_map]; exact size_of (by show W.gi.length + 1 ≤ 100000; omega))) H4 (Ex.refl _) _ fun p2 H5 np e5 hp => ?_
        have g5 := g4.ex e5
        refine ⟨_, rfl, wa, _, rfl, DPut.k (k := .inr "given") g5.hw (wkvs_len _ _), ?_⟩
        have g6 := g5.set_given (l := W.gi ++ [W.view.getD 0]) (p := p2) (by rw [List.map_append]; exact hp) (g4.new np) (fN p2 (Evl.fresh_back e14 np))
        have k6 : Kw wa Aw H (upd H5 wa (.dK (putK (wkvs Aw W) (.inr "given") (.ref p2)))) := (Kw.ex (e14.trans e5)).trans Kw.w
        generalize upd H5 wa (.dK (putK (wkvs Aw W) (.inr "given") (.ref p2))) = H6 at g6 k6 ⊢
        refine (ev_wget (Evl.ev_var rfl) g6.hw (wg_done _ _)) H6 (Ex.refl _) _ fun H7 e7 => ?_
        have g7 := g6.ex e7
        refine ⟨.inl ⟨rfl, _, Evl.sq_of g7.dn⟩, Aw.dn, _, ov none, rfl, rfl, g7.dn, Evl.sz_lt (by rw [List.length_map]; show W.dn.length < 100000; omega), ?_⟩
        exact nx_go ⟨rfl, { Aw with gi := p2 }, g7.appDn none, ⟨rfl, rfl, rfl, rfl, rfl⟩, (k6.trans (Kw.ex e7)).trans Kw.dn⟩
      | heard a =>
        refine Evl.s_if (b := false) (Evl.et_is (Evl.et_test (Evl.ev_op (first rfl e1 rfl) Evl.ev_c (Evl.rv_eq rfl))) (by rw [eq_str]; decide +kernel)) (fun z => nomatch z) (fun _ H2 e2 => ?_)
        refine Evl.s_if (b := false) (Evl.et_is (Evl.et_test (Evl.ev_op (first rfl (e1.trans e2) rfl) Evl.ev_c (Evl.rv_eq rfl))) (by rw [eq_str]; decide +kernel)) (fun z => nomatch z) (fun _ H3 e3 => ?_)
        refine Evl.s_if (b := false) (Evl.et_is (Evl.et_test (Evl.ev_op (first rfl ((e1.trans e2).trans e3) rfl) Evl.ev_c (Evl.rv_eq rfl))) (by rw [eq_str]; decide +kernel)) (fun z => nomatch z) (fun _ H4 e4 => ?_)
        have e14 := ((e1.trans e2).trans e3).trans e4
        refine ⟨_, rfl, ?_⟩
        refine at_consW ?_
        refine (ev_ixT (K := K) (j := 1) (v := natV a) (Evl.ev_var rfl) Evl.ev_c (Evl.st_of (e14 _ _ he)) rfl) H4 (Ex.refl _) _ fun H5 e5 => ?_
        have e15 := e14.trans e5
        exact ⟨Fa, wa, Aw, W, a, rfl, g.ex e15, fi.ok hn, fun x hx => fN x (Evl.fresh_back e15 hx), can, by have := fi.nw; omega, fi.gi, by have := fi.ml; omega, fun A' H' g' s' k' => ⟨rfl, A', g', s', (Kw.ex e15).trans k'⟩⟩
    · refine ⟨_, h0, Fa, wa, A1, W.go1 e, rfl, gm, mid.ok hn, fresh_kw gm sa km fN, mid.nw, mid.se, mid.co, by have := mid.ml; omega, by have := mid.sl; omega, by have := mid.hl; omega, fun A' H2 g' s' k' => ?_⟩
      exact q A' H2 g' (sa.trans s') (km.trans (Kw.same sa k'))
end
end Ov


namespace Ov
open PySem PySem.Spec PyProof.Rows L2
open Evl (pss_cut tCut Ex Ev EvT EvL EvA EvU)
/-! ### the text of an event -/
def Evt.words : Evt → List Str
  | .send k _ => [k]
  | .come i => ["come", strI i]
  | .answer => ["answer"]
  | .heard n => ["heard", strI n]
def Evt.text : Evt → Str
  | .send k ab => if ab = true then k else ("other " : Str) ++ k
  | .come i => Str.join " " ["come", strI i]
  | .answer => Str.join " " ["answer"]
  | .heard n => Str.join " " ["heard", strI n]
def Evt.Small : Evt → Prop
  | .send k _ => k ∈ letterKinds
  | .come i => i < 100
  | .answer => True
  | .heard n => n < 100
theorem strI_len4 : ∀ i < 100, (strI i).length ≤ 4 := by decide +kernel
def spSaid : Sp := fun vs H Q _ => ∃ (ev : Addr) (e : Evt), vs = [.ref ev] ∧ H ev = some (.tup e.vals) ∧ e.Small ∧ ∀ H', Ex H H' → Q (.str e.text) H'
section
variable {P : Program} {w : World} {K : PySem.W.Frag} {mg : Str → Option Value} {base : Heap}
abbrev sSaid : Stmt := topS 70
theorem scSaid : FnScope ["_law_event", "_law_part"] ["_law_event"] (defScope sSaid) := ⟨rfl, rfl, rfl, by decide +kernel, rfl, by decide +kernel, by decide +kernel⟩
theorem ok_said {f : Addr} {fd : FuncData} (F : Fun K "_law_said" "_law_said" sSaid f fd) (n_str : mg "str" = none) : FnOk P w K mg base CX0 1 f fd ["_law_event"] spSaid := by
  refine F.ok scSaid (fun vs H Q E h => ?_) (fun cdv A outer s H vs Q E hr h => ?_)
  · obtain ⟨ev, e, rfl, _⟩ := h
    rfl
  · obtain ⟨ev, e, rfl, he, sm, q⟩ := h
    refine ⟨_, pss_cons (ps_if (pt_cmpR op_eq (pe_ix ix_tup (pv 0) pe_int (fun _ _ => rfl)) pe_str (nomark _)) (pss_one (ps_ret (pe_ifExp (pt_truth (pe_ix ix_tup (pv 0) pe_int (fun _ _ => rfl)) (by intro _; rfl)) (pe_ix ix_tup (pv 0) pe_int (fun _ _ => rfl)) (pe_op op_add_str pe_str (pe_ix ix_tup (pv 0) pe_int (fun _ _ => rfl)))))) pss_nil)
      (pss_one (ps_ret (pe_join pe_str (pe_lc (own := [("_law_part", 1)]) (g := gName 1) (tt := tYes) rfl scSaid.nd (pi_tup (pv 0)) (blkOk_by (own := [("_law_part", 1)]) (N := ["_law_event", "_law_part"]) (sc := defScope sSaid) (by decide +kernel)) (fun _ _ _ _ _ => (pg_name (i := 1) scSaid.nd rfl (Or.inl rfl))) (fun _ _ _ _ _ => pts_nil) (fun _ _ _ _ _ => (pe_callTy (CallR.or call_str_int SkE.call_str_str) (by rfl) n_str (by decide +kernel) (pa_cons (pv 1) pa_nil))))))), ?_⟩
    have first : ∀ {H' : Hp} {σ : L2.St} {z : Str} {r : List V}, e.vals = .str z :: r → Ex H H' → σ[0]? = some (some (.ref ev)) → Ev (tOp (rIxT K) (tVar 0) (tC (V.int 0))) σ H' (.str z) := fun h e h2 => ev_ixT (K := K) (j := 0) (Evl.ev_var h2) Evl.ev_c (Evl.st_of (e _ _ he)) (by rw [h]; rfl)
    have strS : ∀ {H' : Hp} {σ : L2.St} {z : Str}, σ[1]? = some (some (.str z)) → Ev (tCB (fun xs H Q => (∃ i, xs = [V.int i] ∧ i.natAbs.log2 < 1920 ∧ Q (V.str (toString i)) H) ∨ ∃ a, xs = [V.str a] ∧ Q (V.str a) H) (tCons (tVar 1) tNil)) σ H' (.str z) := fun h H1 e1 Q q => ⟨_, h, .inr ⟨_, rfl, q H1 (Ex.refl _)⟩⟩
    have strN : ∀ {H' : Hp} {σ : L2.St} {i : Nat}, i < 100 → σ[1]? = some (some (natV i)) → Ev (tCB (fun xs H Q => (∃ i, xs = [V.int i] ∧ i.natAbs.log2 < 1920 ∧ Q (V.str (toString i)) H) ∨ ∃ a, xs = [V.str a] ∧ Q (V.str a) H) (tCons (tVar 1) tNil)) σ H' (.str (strI i)) := fun hi h H1 e1 Q q => ⟨_, h, .inl ⟨_, rfl, Nat.lt_of_lt_of_le (log_small (k := 20) (by simp; omega) (by decide)) (by decide), q H1 (Ex.refl _)⟩⟩
    cases e with
    | send k ab =>
      refine Evl.q_when (b := true) (Evl.et_is (Evl.et_test (Evl.ev_op (first rfl (Ex.refl _) rfl) Evl.ev_c (Evl.rv_eq rfl))) (by rw [eq_str]; decide +kernel)) (fun _ H2 e2 => ?_) (fun z => nomatch z)
      have kl : ("other " : Str).length + k.length ≤ 100 := (by decide +kernel : ∀ k ∈ letterKinds, ("other " : Str).length + k.length ≤ 100) k sm
      refine Evl.s_ret (v := .str (Evt.send k ab).text) (Evl.ev_if (b := ab) (et_truB (ev_ixT (K := K) (j := 2) (v := .bl ab) (Evl.ev_var rfl) Evl.ev_c (Evl.st_of (e2 _ _ he)) rfl)) (fun h => ?_) (fun h => ?_)) fun H3 e3 => q H3 (e2.trans e3)
      · rw [h]
        exact ev_ixT (K := K) (j := 1) (v := .str k) (Evl.ev_var rfl) Evl.ev_c (Evl.st_of (e2 _ _ he)) rfl
      · rw [h]
        exact ev_catS Evl.ev_c (ev_ixT (K := K) (j := 1) (v := .str k) (Evl.ev_var rfl) Evl.ev_c (Evl.st_of (e2 _ _ he)) rfl) (by omega)
    | come i =>
      have sl := strI_len4 i sm
      refine Evl.q_when (b := false) (Evl.et_is (Evl.et_test (Evl.ev_op (first rfl (Ex.refl _) rfl) Evl.ev_c (Evl.rv_eq rfl))) (by rw [eq_str]; decide +kernel)) (fun z => nomatch z) (fun _ H2 e2 => ?_)
      refine Evl.s_ret (v := .str (Evt.come i).text) (ev_joinP (K := K) (l := ["come", strI i]) Evl.ev_c (fun H3 e3 Q3 q3 => (el_lcT (K := K) (fun a => ((([("come" : Str), strI i] : List Str).map V.str)[a]?).getD .non) (Evl.ev_var rfl) (Evl.st_of (e2 _ _ he)) (by show 2 ≤ 40000; decide) (fun _ => rfl) (fun a x H1 e1 hx => ?_)) H3 e3 _ fun p H4 np e4 hp => q3 p H4 e4 (.inl (Evl.sq_of hp))) ?_) fun H3 e3 => q H3 (e2.trans e3)
      · match a, hx with
        | 0, hx =>
          cases hx
          exact strS rfl
        | 1, hx =>
          cases hx
          exact strN sm rfl
      · show ("come" : Str).length + ((strI i).length + 0) + 2 * (" " : Str).length ≤ 16777216
        have : ("come" : Str).length = 4 ∧ (" " : Str).length = 1 := by decide +kernel
        omega
    | answer =>
      refine Evl.q_when (b := false) (Evl.et_is (Evl.et_test (Evl.ev_op (first rfl (Ex.refl _) rfl) Evl.ev_c (Evl.rv_eq rfl))) (by rw [eq_str]; decide +kernel)) (fun z => nomatch z) (fun _ H2 e2 => ?_)
      refine Evl.s_ret (v := .str Evt.answer.text) (ev_joinP (K := K) (l := ["answer"]) Evl.ev_c (fun H3 e3 Q3 q3 => (el_lcT (K := K) (fun a => ((([("answer" : Str)] : List Str).map V.str)[a]?).getD .non) (Evl.ev_var rfl) (Evl.st_of (e2 _ _ he)) (by show 1 ≤ 40000; decide) (fun _ => rfl) (fun a x H1 e1 hx => ?_)) H3 e3 _ fun p H4 np e4 hp => q3 p H4 e4 (.inl (Evl.sq_of hp))) ?_) fun H3 e3 => q H3 (e2.trans e3)
      · match a, hx with
        | 0, hx =>
          cases hx
          exact strS rfl
      · decide +kernel
    | heard n =>
      have sl := strI_len4 n sm
      refine Evl.q_when (b := false) (Evl.et_is (Evl.et_test (Evl.ev_op (first rfl (Ex.refl _) rfl) Evl.ev_c (Evl.rv_eq rfl))) (by rw [eq_str]; decide +kernel)) (fun z => nomatch z) (fun _ H2 e2 => ?_)
      refine Evl.s_ret (v := .str (Evt.heard n).text) (ev_joinP (K := K) (l := ["heard", strI n]) Evl.ev_c (fun H3 e3 Q3 q3 => (el_lcT (K := K) (fun a => ((([("heard" : Str), strI n] : List Str).map V.str)[a]?).getD .non) (Evl.ev_var rfl) (Evl.st_of (e2 _ _ he)) (by show 2 ≤ 40000; decide) (fun _ => rfl) (fun a x H1 e1 hx => ?_)) H3 e3 _ fun p H4 np e4 hp => q3 p H4 e4 (.inl (Evl.sq_of hp))) ?_) fun H3 e3 => q H3 (e2.trans e3)
      · match a, hx with
        | 0, hx =>
          cases hx
          exact strS rfl
        | 1, hx =>
          cases hx
          exact strN sm rfl
      · show ("heard" : Str).length + ((strI n).length + 0) + 2 * (" " : Str).length ≤ 16777216
        have : ("heard" : Str).length = 5 ∧ (" " : Str).length = 1 := by decide +kernel
        omega
end
end Ov


namespace Ov
open PySem PySem.Spec PyProof.Rows L2
/-! ### stage 2's world and how far a weaving has gone are one thing (pure) -/
def Wd.About (W : Wd) (i : Nat) : Prop := ∃ k n, W.ls[i]? = some (k, n, true)
def shownL (l : Str × Int × Bool) : Str × Int := (if l.2.2 = true then l.1 else "other", l.2.1)
def Wd.stopAt (W : Wd) (o : Nat) : Bool := decide (W.kind o ∈ (["stop", "off"] : List Str))
/-- what an event must be to be drawn -/
def Wd.Fit (W : Wd) : Evt → Prop
  | .send k ab => k ∈ letterKinds ∧ (ab = false → k ∈ (["day", "off"] : List Str))
  | .come i => W.About i
  | .answer => W.asking = true
  | .heard n => n < W.gi.length
theorem about_lt {W : Wd} {i : Nat} (h : W.About i) : i < W.ls.length := by
  obtain ⟨k, n, h⟩ := h
  exact (List.getElem?_eq_some_iff.mp h).1
theorem Wd.Fit.can {W : Wd} {e : Evt} (h : W.Fit e) : W.Can e := by
  cases e with
  | send k ab => exact h.1
  | come i => exact about_lt h
  | answer =>
    show W.view ≠ none
    intro c
    have h : W.asking = true := h
    unfold Wd.asking at h
    rw [c] at h
    cases h
  | heard n => exact h
/-- all but what is counted up -/
structure Lk (W : Wd) (m : CM) : Prop where
  ks : m.ks = W.ks
  rs : m.rs = W.rs
  lt : m.letters = W.ls.map shownL
  nw : m.newest = W.nw
  wh : m.whole = W.wh
  ow : m.own = W.ow
  cm : m.came = W.ca
  sn : m.shown = W.se
  an : m.answers = W.gi
  ct : m.counted = W.co
  sh : m.shows = W.sh
  of : ∀ v, (∃ o, o ∈ W.se ∧ W.stopAt o = true ∧ v < o) ↔ ∃ o, m.off = some o ∧ v < o
  nwA : W.About W.nw
  whA : ∀ i, W.wh = some i → W.About i
  owA : ∀ i, W.ow = some i → W.About i
  seA : ∀ i ∈ W.se, W.About i
structure Like (W : Wd) (m : CM) : Prop extends Lk W m where
  ru : m.rules = W.dn
  gl : ∀ g, g ∈ m.goals ↔ g ∈ W.me
structure Half (W : Wd) (x : CM × Option Nat × Option Nat) : Prop extends Lk W x.1 where
  ru : x.1.rules ++ [x.2.1] = W.dn
  gl : ∀ g, (g ∈ x.1.goals ∨ (g = "deaf" ∧ x.1.gDeaf x.2.2 = true)) ↔ g ∈ W.me
section
variable {W : Wd} {m : CM}
theorem Lk.numb (L : Lk W m) (i : Nat) : m.numAt i = W.numb i := by
  unfold CM.numAt Wd.numb
  rw [L.lt, List.getElem?_map, Option.map_map]
  rfl
theorem Lk.kind (L : Lk W m) {i : Nat} (h : W.About i) : m.kindAt i = W.kind i := by
  obtain ⟨k, n, h⟩ := h
  unfold CM.kindAt Wd.kind
  rw [L.lt, List.getElem?_map, h]
  rfl
theorem Lk.len (L : Lk W m) : m.letters.length = W.ls.length := by rw [L.lt, List.length_map]
theorem Lk.last (L : Lk W m) : m.lastNum = W.numb (W.ls.length - 1) := by
  unfold CM.lastNum
  rw [L.len, L.numb]
theorem Lk.view (L : Lk W m) : m.showing = W.view := by
  unfold CM.showing Wd.view
  rw [L.ow, L.wh]
  cases W.ow with
  | none => rfl
  | some i => rfl
theorem Lk.viewA (L : Lk W m) : ∀ i, W.view = some i → W.About i := fun i h => by
  unfold Wd.view at h
  split at h
  · exact L.owA i h
  · exact L.whA i h
theorem Lk.rel (L : Lk W m) (i : Nat) (p : Option Nat) : m.rel i p = W.rel i p := by
  unfold CM.rel Wd.rel
  rw [L.numb]
  cases p with
  | none => rfl
  | some j =>
    show relationM _ _ (some (m.numAt j, (j : Int))) = relationM _ _ (some (W.numb j, (j : Int)))
    rw [L.numb]
theorem Lk.rule (L : Lk W m) {i : Nat} (h : W.About i) : m.ruleFor i = W.ruleFor i := by
  unfold CM.ruleFor Wd.ruleFor
  rw [L.rs, L.kind h, L.rel, L.rel, L.wh, L.ow]
theorem Lk.ask (L : Lk W m) {i : Nat} (h : W.About i) : m.isAsk i = decide (W.kind i ∈ (["ask", "day"] : List Str)) := by
  unfold CM.isAsk
  rw [L.kind h]
theorem Lk.stop (L : Lk W m) {i : Nat} (h : W.About i) : m.isStop i = W.stopAt i := by
  unfold CM.isStop Wd.stopAt
  rw [L.kind h]
theorem Lk.canAnswer (L : Lk W m) : m.canAnswer = W.asking := by
  unfold CM.canAnswer Wd.asking
  rw [L.view]
  cases e : W.view with
  | none => rfl
  | some i => exact L.ask (L.viewA i e)
theorem Like.start (ks : List Str) (rs : List RuleD) : Like (wstart ks rs) (CM.start ks rs) where
  ks := rfl
  rs := rfl
  lt := rfl
  nw := rfl
  wh := rfl
  ow := rfl
  cm := rfl
  sn := rfl
  an := rfl
  ct := rfl
  sh := rfl
  ru := rfl
  of := fun v => ⟨fun ⟨o, h, _⟩ => (nomatch h), fun ⟨o, h, _⟩ => (nomatch h)⟩
  nwA := ⟨"ask", 0, rfl⟩
  whA := fun i h => nomatch h
  owA := fun i h => nomatch h
  seA := fun i h => nomatch h
  gl := fun g => Iff.rfl
/-! #### what is met -/
theorem addG_mem {m : CM} {b : Bool} {g x : Str} : x ∈ (m.addG b g).goals ↔ x ∈ m.goals ∨ (x = g ∧ b = true) := by
  rw [CM.addG_goals]
  split
  · rename_i h
    split
    · rename_i c
      exact ⟨.inl, fun z => z.elim id fun z => by rw [z.1]; exact c⟩
    · rw [List.mem_append, List.mem_singleton]
      exact ⟨fun z => z.elim .inl fun z => .inr ⟨z, h⟩, fun z => z.elim .inl fun z => .inr z.1⟩
  · rename_i h
    exact ⟨.inl, fun z => z.elim id fun z => absurd z.2 h⟩
theorem judge_mem {m : CM} {d : Option Nat} {x : Str} : x ∈ (m.judge d).goals ↔ ((((x ∈ m.goals ∨ (x = "elder" ∧ m.gElder = true)) ∨ (x = "lost" ∧ m.gLost = true)) ∨ (x = "back" ∧ m.isBack m.view = true)) ∨ (x = "wrong" ∧ m.gWrong = true)) ∨ (x = "deaf" ∧ m.gDeaf d = true) := by
  unfold CM.judge
  rw [addG_mem, addG_mem, addG_mem, addG_mem, addG_mem]
theorem addIf_mem {b : Bool} {g x : Str} {l : List Str} : x ∈ addIf b g l ↔ x ∈ l ∨ (x = g ∧ b = true) := by
  unfold addIf
  split
  · rename_i h
    rw [List.mem_append, List.mem_singleton]
    exact ⟨fun z => z.elim .inl fun z => .inr ⟨z, h⟩, fun z => z.elim .inl fun z => .inr z.1⟩
  · rename_i h
    exact ⟨.inl, fun z => z.elim id fun z => absurd z.2 h⟩
theorem notes_mem {x : Str} : x ∈ W.notes ↔ (((x = "elder" ∧ W.fElder = true) ∨ (x = "lost" ∧ W.fLost = true)) ∨ (x = "back" ∧ W.fBack = true)) ∨ (x = "wrong" ∧ W.fWrong = true) := by
  unfold Wd.notes
  rw [addIf_mem, addIf_mem, addIf_mem, addIf_mem]
  exact ⟨fun z => z.elim (fun z => .inl (z.elim (fun z => .inl (z.elim (fun z => .inl (z.elim (fun z => nomatch z) id)) .inr)) .inr)) .inr,
    fun z => z.elim (fun z => .inl (z.elim (fun z => .inl (z.elim (fun z => .inl (.inr z)) .inr)) .inr)) .inr⟩
theorem natV_inj {i j : Nat} : natV i = natV j ↔ i = j := ⟨fun h => by
  unfold natV at h
  injection h with h
  exact Int.ofNat_inj.mp h, fun h => by rw [h]⟩
theorem ov_nat (o : Option Nat) (n : Nat) : decide (ov o = natV n) = decide (o = some n) := by
  cases o with
  | none => rw [decide_eq_false (show ¬ (ov none = natV n) from fun h => nomatch h), decide_eq_false (fun h => nomatch h)]
  | some i =>
    refine decide_eq_decide.mpr ?_
    show natV i = natV n ↔ _
    rw [natV_inj]
    exact ⟨fun h => by rw [h], fun h => Option.some.inj h⟩
theorem inV_nats (n : Nat) : ∀ l : List Nat, inV (natV n) (l.map natV) = decide (n ∈ l)
  | [] => by
    rw [decide_eq_false (fun h => nomatch h)]
    rfl
  | a :: l => by
    have ih := inV_nats n l
    unfold inV at ih ⊢
    rw [List.map_cons, List.any_cons, ih]
    have e : eqV (natV a) (natV n) = decide (a = n) := by
      show ((a : Int) == (n : Int)) = decide (a = n)
      rw [Bool.eq_iff_iff, beq_iff_eq, decide_eq_true_iff, Int.ofNat_inj]
    rw [e, Bool.eq_iff_iff, Bool.or_eq_true_iff, decide_eq_true_iff, decide_eq_true_iff, decide_eq_true_iff, List.mem_cons]
    exact ⟨fun h => h.elim (fun h => .inl h.symm) .inr, fun h => h.elim (fun h => .inl h.symm) .inr⟩
/-! #### an event's end -/
theorem Half.next {x : CM × Option Nat × Option Nat} (L : Half W x) : Like W.note (CM.after x) := by
  obtain ⟨sm, s1, s2, s3, s4, s5⟩ := CM.after_same x
  have V := L.view
  have sv : x.1.look.shown = W.se ++ W.view.toList := by
    rw [CM.look_shown, V, L.sn]
    cases W.view with
    | none => exact (List.append_nil _).symm
    | some i => rfl
  have of2 : ∀ v, (∃ o, o ∈ W.se ++ W.view.toList ∧ W.stopAt o = true ∧ v < o) ↔ ∃ o, x.1.look.off = some o ∧ v < o := by
    intro v
    rw [CM.look_off, V]
    cases hv : W.view with
    | none =>
      rw [show W.se ++ (none : Option Nat).toList = W.se from List.append_nil _]
      exact L.of v
    | some i =>
      have ia := L.viewA i hv
      have e1 : (∃ o, o ∈ W.se ++ (some i).toList ∧ W.stopAt o = true ∧ v < o) ↔ (∃ o, o ∈ W.se ∧ W.stopAt o = true ∧ v < o) ∨ (W.stopAt i = true ∧ v < i) := by
        constructor
        · rintro ⟨o, h1, h2⟩
          rcases List.mem_append.mp h1 with h1 | h1
          · exact .inl ⟨o, h1, h2⟩
          · have : o = i := List.mem_singleton.mp h1
            rw [this] at h2
            exact .inr h2
        · rintro (⟨o, h1, h2⟩ | h)
          · exact ⟨o, List.mem_append_left _ h1, h2⟩
          · exact ⟨i, List.mem_append_right _ (List.mem_singleton.mpr rfl), h⟩
      rw [e1, L.of v]
      show _ ↔ ∃ o, (if (x.1.isStop i && x.1.overOff i) = true then some i else x.1.off) = some o ∧ v < o
      rw [L.stop ia]
      unfold CM.overOff
      cases hs : W.stopAt i with
      | false =>
        rw [if_neg (by simp)]
        exact ⟨fun h => h.elim id fun h => (nomatch h.1), .inl⟩
      | true =>
        cases ho : x.1.off with
        | none =>
          rw [if_pos (by rfl)]
          exact ⟨fun h => h.elim (fun ⟨o, h, _⟩ => (nomatch h)) fun h => ⟨i, rfl, h.2⟩, fun ⟨o, h1, h2⟩ => .inr ⟨rfl, by rw [Option.some.inj h1]; exact h2⟩⟩
        | some o =>
          by_cases c : i > o
          · rw [if_pos (by show (true && decide (i > o)) = true; rw [decide_eq_true c]; rfl)]
            exact ⟨fun h => ⟨i, rfl, h.elim (fun ⟨o', h1, h2⟩ => by have := Option.some.inj h1; omega) fun h => h.2⟩, fun ⟨o', h1, h2⟩ => .inr ⟨rfl, by rw [Option.some.inj h1]; exact h2⟩⟩
          · rw [if_neg (by show ¬ (true && decide (i > o)) = true; rw [decide_eq_false c]; exact Bool.false_ne_true)]
            exact ⟨fun h => h.elim id fun h => ⟨o, rfl, by omega⟩, .inl⟩
  have kd : ∀ i, W.note.kind i = W.kind i := fun i => rfl
  have seA : ∀ i ∈ W.se ++ W.view.toList, W.About i := fun i hi => by
    rcases List.mem_append.mp hi with h | h
    · exact L.seA i h
    · exact L.viewA i (Option.mem_toList.mp h)
  refine { ks := sm.ks.trans L.ks, rs := sm.rs.trans L.rs, lt := sm.lt.trans L.lt, nw := sm.nw.trans L.nw, wh := sm.w.trans L.wh, ow := sm.o.trans L.ow, cm := sm.cm.trans L.cm, sn := ?_, an := sm.an.trans L.an, ct := sm.ct.trans L.ct, sh := ?_, of := ?_, nwA := L.nwA, whA := L.whA, owA := L.owA, seA := seA, ru := ?_, gl := ?_ }
  · rw [s3, sv]
    rfl
  · rw [s1, L.sh, V]
    rfl
  · rw [s4]
    exact of2
  · rw [s2, L.ru]
    rfl
  · intro g
    have ml := CM.looked_same (m := x.1.ruled x.2.1)
    have shl : (x.1.ruled x.2.1).look.shown = W.se ++ W.view.toList := by
      rw [← sv, CM.look_shown, CM.look_shown]
      rfl
    have ofl : ∀ v, (∃ o, o ∈ W.se ++ W.view.toList ∧ W.stopAt o = true ∧ v < o) ↔ ∃ o, (x.1.ruled x.2.1).look.off = some o ∧ v < o := by
      have e : (x.1.ruled x.2.1).look.off = x.1.look.off := by
        rw [CM.look_off, CM.look_off]
        rfl
      rw [e]
      exact of2
    have r : CM.SameC x.1 (x.1.ruled x.2.1) := ⟨rfl, rfl, rfl, rfl, rfl, rfl, rfl, rfl, rfl⟩
    have sl := r.trans ml.1
    have vl : (x.1.ruled x.2.1).look.view = W.view := by
      unfold CM.view
      rw [ml.2.1, List.getLastD_eq_getLast?, List.getLast?_concat]
      exact V
    have gg : (x.1.ruled x.2.1).look.goals = x.1.goals := ml.2.2.2
    show g ∈ ((x.1.ruled x.2.1).look.judge x.2.2).goals ↔ g ∈ W.me ++ W.notes
    generalize (x.1.ruled x.2.1).look = y at sl shl ofl vl gg ⊢
    have nw := sl.nw.trans L.nw
    have b1 : y.gElder = W.fElder := by
      unfold CM.gElder Wd.fElder Wd.off1
      rw [ov_nat, inV_nats, vl, nw, sl.cm.trans L.cm, Bool.and_comm]
    have b2 : y.gLost = W.fLost := by
      unfold CM.gLost Wd.fLost Wd.off1
      rw [ov_nat, inV_nats, vl, nw, shl, sl.kindAt, L.kind L.nwA]
      show (_ && (decide (W.nw ∈ W.se ++ W.view.toList) && !decide (W.view = some W.nw))) = (!decide (W.view = some W.nw) && (decide (W.nw ∈ W.se ++ W.view.toList) && _))
      generalize decide (W.nw ∈ W.se ++ W.view.toList) = c1
      generalize decide (W.view = some W.nw) = c2
      generalize decide (W.kind W.nw = ("day" : Str)) = c3
      cases c1 <;> cases c2 <;> cases c3 <;> rfl
    have b3 : y.isBack y.view = W.fBack := by
      rw [vl]
      unfold CM.isBack Wd.fBack Wd.asking Wd.stops
      cases hv : W.view with
      | none => rfl
      | some i =>
        have ia := L.viewA i hv
        have ka : y.isAsk i = decide (W.kind i ∈ (["ask", "day"] : List Str)) := (sl.isAsk i).trans (L.ask ia)
        have key : (!((W.viewed.se.filter fun o => decide (W.kind o ∈ (["stop", "off"] : List Str))).filter fun o => decide ((some i).getD 0 < o)).isEmpty) = (match y.off with | none => false | some o => decide (i < o)) := by
          have h1 : (!((W.viewed.se.filter fun o => decide (W.kind o ∈ (["stop", "off"] : List Str))).filter fun o => decide ((some i).getD 0 < o)).isEmpty) = true ↔ ∃ o, o ∈ W.se ++ W.view.toList ∧ W.stopAt o = true ∧ i < o := by
            rw [Bool.not_eq_true', List.isEmpty_eq_false_iff_exists_mem]
            constructor
            · rintro ⟨o, ho⟩
              obtain ⟨h1, h2⟩ := List.mem_filter.mp ho
              obtain ⟨h3, h4⟩ := List.mem_filter.mp h1
              exact ⟨o, h3, h4, of_decide_eq_true h2⟩
            · rintro ⟨o, h1, h2, h3⟩
              exact ⟨o, List.mem_filter.mpr ⟨List.mem_filter.mpr ⟨h1, h2⟩, decide_eq_true h3⟩⟩
          rw [Bool.eq_iff_iff, h1, ofl i]
          cases y.off with
          | none => exact ⟨fun ⟨o, h, _⟩ => (nomatch h), fun h => (nomatch h)⟩
          | some o => exact ⟨fun ⟨o', h1, h2⟩ => decide_eq_true (by have := Option.some.inj h1; omega), fun h => ⟨o, rfl, of_decide_eq_true h⟩⟩
        rw [key]
        show (match y.off with | none => false | some o => y.isAsk i && decide (i < o)) = _
        rw [ka]
        cases y.off with
        | none => exact (Bool.and_false _).symm
        | some o => rfl
    have b4 : y.gWrong = W.fWrong := by
      unfold CM.gWrong Wd.fWrong
      rw [sl.ct.trans L.ct]
      cases W.co with
      | none => rfl
      | some c =>
        show (!decide (y.ansAt c = y.newest)) = !decide (natV (W.givenAt c) = natV W.nw)
        rw [show decide (natV (W.givenAt c) = natV W.nw) = decide (W.givenAt c = W.nw) from decide_eq_decide.mpr natV_inj, nw, sl.ansAt]
        unfold CM.ansAt Wd.givenAt
        rw [L.an]
    have b5 : y.gDeaf x.2.2 = x.1.gDeaf x.2.2 := by
      unfold CM.gDeaf
      rw [sl.nw, sl.ct]
    rw [judge_mem, List.mem_append, notes_mem, b1, b2, b3, b4, b5, gg, ← L.gl g]
    constructor
    · rintro (((((h | h) | h) | h) | h) | h)
      · exact .inl (.inl h)
      · exact .inr (.inl (.inl (.inl h)))
      · exact .inr (.inl (.inl (.inr h)))
      · exact .inr (.inl (.inr h))
      · exact .inr (.inr h)
      · exact .inl (.inr h)
    · rintro ((h | h) | (((h | h) | h) | h))
      · exact .inl (.inl (.inl (.inl (.inl h))))
      · exact .inr h
      · exact .inl (.inl (.inl (.inl (.inr h))))
      · exact .inl (.inl (.inl (.inr h)))
      · exact .inl (.inl (.inr h))
      · exact .inl (.inr h)
/-! #### letters sent -/
theorem sent_text : ∀ ab : Bool, ∀ k ∈ letterKinds, (ab = false → k ∈ (["day", "off"] : List Str)) → (Evt.send k ab).text ∈ CM.deedsAll ∧ CM.sentKind (Evt.send k ab).text = k ∧ ((Evt.send k ab).text = k ↔ ab = true) := by decide +kernel
theorem about_app {l : Str × Int × Bool} {W W2 : Wd} (h : W2.ls = W.ls ++ [l]) {i : Nat} (a : W.About i) : W2.About i := by
  obtain ⟨k, n, a⟩ := a
  refine ⟨k, n, ?_⟩
  rw [h, List.getElem?_append_left (List.getElem?_eq_some_iff.mp a).1]
  exact a
theorem kind_app {l : Str × Int × Bool} {W W2 : Wd} (h : W2.ls = W.ls ++ [l]) {i : Nat} (a : W.About i) : W2.kind i = W.kind i := by
  unfold Wd.kind
  rw [h, List.getElem?_append_left (about_lt a)]
theorem Like.send (L : Like W m) {k : Str} {ab : Bool} (f : W.Fit (.send k ab)) : Half (W.send k ab) (m.send (Evt.send k ab).text, none, none) := by
  obtain ⟨t1, t2, t3⟩ := sent_text ab k f.1 f.2
  generalize (Evt.send k ab).text = z at t1 t2 t3 ⊢
  have num : m.sentNum z = W.numb (W.ls.length - 1) + (if k ∈ W.ks then 1 else 0) := by
    unfold CM.sentNum
    rw [t2, L.last, L.ks]
  have lt : m.letters ++ [((if z = CM.sentKind z then CM.sentKind z else "other"), m.sentNum z)] = (W.ls ++ [(k, W.numb (W.ls.length - 1) + (if k ∈ W.ks then 1 else 0), ab)]).map shownL := by
    rw [List.map_append, L.lt, num, t2]
    congr 1
    show [_] = [_]
    congr 1
    unfold shownL
    congr 1
    by_cases c : ab = true
    · rw [if_pos (t3.mpr c), if_pos c]
    · rw [if_neg (fun h => c (t3.mp h)), if_neg c]
  have stp : ∀ {W2 : Wd} {i : Nat}, W2.ls = W.ls ++ [(k, W.numb (W.ls.length - 1) + (if k ∈ W.ks then 1 else 0), ab)] → W.About i → W2.stopAt i = W.stopAt i := fun h a => by
    unfold Wd.stopAt
    rw [kind_app h a]
  have of2 : ∀ {W2 : Wd}, W2.ls = W.ls ++ [(k, W.numb (W.ls.length - 1) + (if k ∈ W.ks then 1 else 0), ab)] → ∀ v, (∃ o, o ∈ W.se ∧ W2.stopAt o = true ∧ v < o) ↔ ∃ o, m.off = some o ∧ v < o := fun h v => by
    rw [← L.of v]
    exact ⟨fun ⟨o, h1, h2⟩ => ⟨o, h1, by rw [← stp h (L.seA o h1)]; exact h2⟩, fun ⟨o, h1, h2⟩ => ⟨o, h1, by rw [stp h (L.seA o h1)]; exact h2⟩⟩
  have gl : ∀ {y : CM} (g : Str), y.goals = m.goals → ((g ∈ y.goals ∨ (g = "deaf" ∧ y.gDeaf none = true)) ↔ g ∈ W.me) := fun g h => by
    rw [h, ← L.gl g]
    exact ⟨fun z => z.elim id fun z => absurd z.2 (by unfold CM.gDeaf; rw [decide_eq_false (fun z => nomatch z)]; exact Bool.false_ne_true), .inl⟩
  cases ab with
  | true =>
    have e1 : z = CM.sentKind z := by rw [t2]; exact t3.mpr rfl
    rw [if_pos e1] at lt
    have em : m.send z = { m with newest := m.letters.length, counted := none, letters := m.letters ++ [(CM.sentKind z, m.sentNum z)] } := by
      unfold CM.send
      rw [if_pos e1]
    have eW : W.send k true = { W with ls := W.ls ++ [(k, W.numb (W.ls.length - 1) + (if k ∈ W.ks then 1 else 0), true)], dn := W.dn ++ [none], nw := W.ls.length, co := none } := rfl
    rw [em, eW]
    exact { ks := L.ks, rs := L.rs, lt := lt, nw := L.len, wh := L.wh, ow := L.ow, cm := L.cm, sn := L.sn, an := L.an, ct := rfl, sh := L.sh
            of := of2 rfl
            nwA := ⟨_, _, by
              show (W.ls ++ [_])[W.ls.length]? = _
              rw [List.getElem?_append_right (Nat.le_refl _), Nat.sub_self]
              rfl⟩
            whA := fun i h => about_app (W := W) rfl (L.whA i h), owA := fun i h => about_app (W := W) rfl (L.owA i h), seA := fun i h => about_app (W := W) rfl (L.seA i h)
            ru := by
              show m.rules ++ [none] = W.dn ++ [none]
              rw [L.ru]
            gl := fun g => gl g rfl }
  | false =>
    have e1 : ¬ z = CM.sentKind z := by
      rw [t2]
      exact fun h => nomatch (t3.mp h)
    rw [if_neg e1] at lt
    have em : m.send z = { m with letters := m.letters ++ [(("other" : Str), m.sentNum z)] } := by
      unfold CM.send
      rw [if_neg e1]
    have eW : W.send k false = { W with ls := W.ls ++ [(k, W.numb (W.ls.length - 1) + (if k ∈ W.ks then 1 else 0), false)], dn := W.dn ++ [none] } := rfl
    rw [em, eW]
    exact { ks := L.ks, rs := L.rs, lt := lt, nw := L.nw, wh := L.wh, ow := L.ow, cm := L.cm, sn := L.sn, an := L.an, ct := L.ct, sh := L.sh
            of := of2 rfl
            nwA := about_app (W := W) rfl L.nwA
            whA := fun i h => about_app (W := W) rfl (L.whA i h), owA := fun i h => about_app (W := W) rfl (L.owA i h), seA := fun i h => about_app (W := W) rfl (L.seA i h)
            ru := by
              show m.rules ++ [none] = W.dn ++ [none]
              rw [L.ru]
            gl := fun g => gl g rfl }
/-! #### answers -/
theorem deaf_none {y : CM} : y.gDeaf none = false := by
  unfold CM.gDeaf
  rw [decide_eq_false (fun z => nomatch z)]
  rfl
theorem Like.give (L : Like W m) : Half W.give ({ m with answers := m.answers ++ [m.showing.getD 0] }, none, none) :=
  { ks := L.ks, rs := L.rs, lt := L.lt, nw := L.nw, wh := L.wh, ow := L.ow, cm := L.cm, sn := L.sn
    an := by
      show m.answers ++ [m.showing.getD 0] = W.gi ++ [W.view.getD 0]
      rw [L.an, L.view]
    ct := L.ct, sh := L.sh, of := L.of, nwA := L.nwA, whA := L.whA, owA := L.owA, seA := L.seA
    ru := by
      show m.rules ++ [none] = W.dn ++ [none]
      rw [L.ru]
    gl := fun g => by
      show (g ∈ m.goals ∨ _) ↔ g ∈ W.me
      rw [L.gl g]
      exact ⟨fun z => z.elim id fun z => absurd z.2 (by rw [deaf_none]; exact Bool.false_ne_true), .inl⟩ }
/-! #### an answer is heard -/
theorem hear_test : ∀ lv : Bool, ∀ t ∈ testsNot "answer", (!(decide (t = ("level" : Str)) != lv)) = (lv != Txt.startswith t "not ") := by decide +kernel
theorem all_ext {α : Type} {p q : α → Bool} : ∀ {l : List α}, (∀ x ∈ l, p x = q x) → l.all p = l.all q
  | [], _ => rfl
  | a :: l, h => by
    rw [List.all_cons, List.all_cons, h a List.mem_cons_self, all_ext fun x hx => h x (List.mem_cons_of_mem _ hx)]
theorem find_ext {α : Type} {p q : α → Bool} : ∀ {l : List α}, (∀ x ∈ l, p x = q x) → l.findIdx? p = l.findIdx? q
  | [], _ => rfl
  | a :: l, h => by
    rw [List.findIdx?_cons, List.findIdx?_cons, h a List.mem_cons_self, find_ext fun x hx => h x (List.mem_cons_of_mem _ hx)]
theorem hear_rule {rs : List RuleD} (g : ∀ r ∈ rs, r.Good) (lv : Bool) : rs.findIdx? (hfits lv) = answerRuleM rs lv := by
  refine find_ext fun r hr => ?_
  unfold hfits
  by_cases c : r.k = ("answer" : Str)
  · rw [decide_eq_true c, Bool.true_and, Bool.true_and]
    refine all_ext fun t ht => hear_test lv t ?_
    rw [← c]
    exact (g r hr).ts t ht
  · rw [decide_eq_false c]
    rfl
theorem heard_fold {n : Nat} (ds : List Str) : ∀ c0 : Option Nat, ds.foldl (fun _ d => if d = ("count" : Str) then some n else none) c0 = if ds = [] then c0 else if ds.getLastD "" = ("count" : Str) then some n else none := by
  induction ds with
  | nil => exact fun c0 => rfl
  | cons d ds ih =>
    intro c0
    rw [List.foldl_cons, ih, if_neg (show ¬ (d :: ds = []) from fun h => nomatch h)]
    cases ds with
    | nil => rfl
    | cons e ds =>
      rw [if_neg (show ¬ (e :: ds = []) from fun h => nomatch h)]
      rfl
theorem last1_one : ∀ (d : Str) (ds : List Str), ∃ x, last1 (d :: ds) = [x] ∧ x ∈ d :: ds
  | d, [] => ⟨d, rfl, List.mem_singleton.mpr rfl⟩
  | d, e :: ds => by
    obtain ⟨x, h1, h2⟩ := last1_one e ds
    exact ⟨x, h1, List.mem_cons_of_mem _ h2⟩
theorem Like.hear (L : Like W m) (g : ∀ r ∈ W.rs, r.Good) {a : Nat} : Half (W.hear a) (m.hear a, m.ruleHear a, some (m.ansAt a)) := by
  have an : m.ansAt a = W.givenAt a := by
    unfold CM.ansAt Wd.givenAt
    rw [L.an]
  have lv : m.levelFor a = W.lvl a := by
    unfold CM.levelFor Wd.lvl
    rw [an, L.numb, L.last]
  have ru : m.ruleHear a = W.ruleHear a := by
    unfold CM.ruleHear Wd.ruleHear
    rw [L.rs, lv, hear_rule g]
  have co : (m.hear a).counted = (W.heard1 a).co := by
    show _ = W.heardCo a (deedsM W.rs (W.ruleHear a))
    unfold Wd.heardCo CM.hear CM.heardCount
    rw [heard_fold, ru, L.rs]
    split
    · exact L.ct
    · rfl
  have rest : (m.hear a).ks = m.ks ∧ (m.hear a).rs = m.rs ∧ (m.hear a).letters = m.letters ∧ (m.hear a).newest = m.newest ∧ (m.hear a).whole = m.whole ∧ (m.hear a).own = m.own ∧ (m.hear a).came = m.came ∧ (m.hear a).shown = m.shown ∧ (m.hear a).answers = m.answers ∧ (m.hear a).shows = m.shows ∧ (m.hear a).off = m.off ∧ (m.hear a).rules = m.rules ∧ (m.hear a).goals = m.goals := by
    unfold CM.hear
    split <;> exact ⟨rfl, rfl, rfl, rfl, rfl, rfl, rfl, rfl, rfl, rfl, rfl, rfl, rfl⟩
  obtain ⟨r1, r2, r3, r4, r5, r6, r7, r8, r9, r10, r11, r12, r13⟩ := rest
  have df : (m.hear a).gDeaf (some (m.ansAt a)) = true ↔ W.givenAt a = W.nw ∧ (W.heard1 a).co = none := by
    unfold CM.gDeaf
    rw [Bool.and_eq_true_iff, decide_eq_true_iff, decide_eq_true_iff, r4, an, co, L.nw]
    exact ⟨fun ⟨h1, h2⟩ => ⟨Option.some.inj h1, h2⟩, fun ⟨h1, h2⟩ => ⟨by rw [h1], h2⟩⟩
  have me : (W.hear a).me = if W.givenAt a = W.nw ∧ (W.heard1 a).co = none then W.me ++ (["deaf"] : List Str) else W.me := by
    unfold Wd.hear
    split <;> rfl
  have rW : (W.hear a).ks = W.ks ∧ (W.hear a).rs = W.rs ∧ (W.hear a).ls = W.ls ∧ (W.hear a).nw = W.nw ∧ (W.hear a).wh = W.wh ∧ (W.hear a).ow = W.ow ∧ (W.hear a).ca = W.ca ∧ (W.hear a).se = W.se ∧ (W.hear a).gi = W.gi ∧ (W.hear a).sh = W.sh ∧ (W.hear a).co = (W.heard1 a).co ∧ (W.hear a).dn = W.dn ++ [W.ruleHear a] := by
    unfold Wd.hear
    split <;> exact ⟨rfl, rfl, rfl, rfl, rfl, rfl, rfl, rfl, rfl, rfl, rfl, rfl⟩
  obtain ⟨w1, w2, w3, w4, w5, w6, w7, w8, w9, w10, w11, w12⟩ := rW
  have ab : ∀ {i : Nat}, W.About i → (W.hear a).About i := fun ⟨k, n, h⟩ => ⟨k, n, by rw [w3]; exact h⟩
  have sp : ∀ o, (W.hear a).stopAt o = W.stopAt o := fun o => by
    unfold Wd.stopAt Wd.kind
    rw [w3]
  refine { ks := ?_, rs := ?_, lt := ?_, nw := ?_, wh := ?_, ow := ?_, cm := ?_, sn := ?_, an := ?_, ct := ?_, sh := ?_, of := ?_, nwA := ?_, whA := ?_, owA := ?_, seA := ?_, ru := ?_, gl := ?_ }
  · exact r1.trans (L.ks.trans w1.symm)
  · exact r2.trans (L.rs.trans w2.symm)
  · show (m.hear a).letters = _
    rw [r3, w3]
    exact L.lt
  · exact r4.trans (L.nw.trans w4.symm)
  · exact r5.trans (L.wh.trans w5.symm)
  · exact r6.trans (L.ow.trans w6.symm)
  · exact r7.trans (L.cm.trans w7.symm)
  · exact r8.trans (L.sn.trans w8.symm)
  · exact r9.trans (L.an.trans w9.symm)
  · exact co.trans w11.symm
  · exact r10.trans (L.sh.trans w10.symm)
  · intro v
    show (∃ o, o ∈ (W.hear a).se ∧ _) ↔ ∃ o, (m.hear a).off = some o ∧ v < o
    rw [w8, r11, ← L.of v]
    exact ⟨fun ⟨o, h1, h2⟩ => ⟨o, h1, by rw [← sp]; exact h2⟩, fun ⟨o, h1, h2⟩ => ⟨o, h1, by rw [sp]; exact h2⟩⟩
  · rw [w4]
    exact ab L.nwA
  · rw [w5]
    exact fun i h => ab (L.whA i h)
  · rw [w6]
    exact fun i h => ab (L.owA i h)
  · rw [w8]
    exact fun i h => ab (L.seA i h)
  · show (m.hear a).rules ++ [m.ruleHear a] = _
    rw [r12, L.ru, ru, w12]
  · intro g
    show (g ∈ (m.hear a).goals ∨ (g = "deaf" ∧ (m.hear a).gDeaf (some (m.ansAt a)) = true)) ↔ _
    rw [r13, df, me, L.gl g]
    by_cases c : W.givenAt a = W.nw ∧ (W.heard1 a).co = none
    · rw [if_pos c, List.mem_append, List.mem_singleton]
      exact ⟨fun h => h.elim .inl fun h => .inr h.1, fun h => h.elim .inl fun h => .inr ⟨h, c⟩⟩
    · rw [if_neg c]
      exact ⟨fun h => h.elim id fun h => absurd h.2 c, .inl⟩
/-! #### a letter comes -/
theorem deeds_fold {k : Str} {i : Nat} : ∀ (ds : List Str) (W : Wd), (∀ d ∈ ds, d = ("take" : Str) ∨ d = "wipe") → (W.deeds k i ds).wh = (if (wholeKind k && (effectM k ds).1) = true then some i else W.wh) ∧
    (W.deeds k i ds).ow = (if ((effectM k ds).1 && !wholeKind k) = true then some i else if (effectM k ds).2 = true then none else W.ow) := by
  intro ds
  unfold effectM
  by_cases hk : wholeKind k = true
  · -- a whole letter
    rw [if_pos hk, hk]
    have hm : k ∈ (["ask", "stop"] : List Str) := of_decide_eq_true hk
    induction ds with
    | nil => exact fun W _ => ⟨rfl, rfl⟩
    | cons d ds ih =>
      intro W h
      have h2 : ∀ e ∈ ds, e = ("take" : Str) ∨ e = "wipe" := fun e he => h e (List.mem_cons_of_mem _ he)
      have := ih (W.deed k i d) h2
      have e : W.deeds k i (d :: ds) = (W.deed k i d).deeds k i ds := rfl
      rw [e, this.1, this.2]
      have tw : ("take" : Str) ≠ "wipe" := by decide +kernel
      unfold Wd.deed
      rcases h d List.mem_cons_self with rfl | rfl
      · rw [if_neg tw, if_pos hm]
        simp [tw, tw.symm]
      · rw [if_pos rfl]
        simp [tw, tw.symm]
  · -- an own one
    rw [if_neg hk]
    replace hk : wholeKind k = false := by simpa using hk
    rw [hk]
    have hm : ¬ k ∈ (["ask", "stop"] : List Str) := of_decide_eq_false hk
    have tw : ("take" : Str) ≠ "wipe" := by decide +kernel
    induction ds with
    | nil => exact fun W _ => ⟨rfl, rfl⟩
    | cons d ds ih =>
      intro W h
      have h2 : ∀ e ∈ ds, e = ("take" : Str) ∨ e = "wipe" := fun e he => h e (List.mem_cons_of_mem _ he)
      cases ds with
      | nil =>
        have e : W.deeds k i [d] = W.deed k i d := rfl
        rw [e]
        unfold Wd.deed
        rcases h d List.mem_cons_self with rfl | rfl
        · rw [if_neg tw, if_neg hm]
          simp [last1, tw, tw.symm]
        · rw [if_pos rfl]
          simp [last1, tw, tw.symm]
      | cons d2 ds =>
        have := ih (W.deed k i d) h2
        have e : W.deeds k i (d :: d2 :: ds) = (W.deed k i d).deeds k i (d2 :: ds) := rfl
        have l1 : last1 (d :: d2 :: ds) = last1 (d2 :: ds) := rfl
        have wl : (W.deed k i d).wh = W.wh := by
          unfold Wd.deed
          rw [if_neg hm]
          split <;> rfl
        rw [e, this.1, this.2, wl, l1]
        refine ⟨rfl, ?_⟩
        have lm := last1_one d2 ds
        obtain ⟨x, lx, hx⟩ := lm
        rw [lx]
        rcases h2 x hx with rfl | rfl
        · simp [tw, tw.symm]
        · simp [tw, tw.symm]
theorem letter_deeds {rs : List RuleD} (g : ∀ r ∈ rs, r.Good) {k tw to : Str} (hk : k ∈ letterKinds) : ∀ d ∈ deedsM rs (letterRuleM rs k tw to), d = ("take" : Str) ∨ d = "wipe" := by
  intro d hd
  cases e : letterRuleM rs k tw to with
  | none =>
    rw [e] at hd
    cases hd
  | some j =>
    rw [e] at hd
    replace hd : d ∈ ((rs[j]?).map RuleD.ds).getD [] := hd
    unfold letterRuleM at e
    obtain ⟨hj, hp, _⟩ := List.findIdx?_eq_some_iff_getElem.mp e
    rw [List.getElem?_eq_getElem hj] at hd
    replace hd : d ∈ (rs[j]).ds := hd
    have gd := g _ (List.getElem_mem hj)
    have kk : (rs[j]).k = k := of_decide_eq_true (Bool.and_eq_true_iff.mp hp).1
    have h := gd.ds d hd
    rw [kk] at h
    exact (by decide +kernel : ∀ k ∈ letterKinds, ∀ d ∈ deedsOf k, d = ("take" : Str) ∨ d = "wipe") k hk d h
theorem Like.come (L : Like W m) (g : ∀ r ∈ W.rs, r.Good) {i : Nat} (ai : W.About i) (hk : W.kind i ∈ letterKinds) : Half (W.come i) (m.come i, m.ruleFor i, none) := by
  have ru := L.rule ai
  have kd := L.kind ai
  have dd := letter_deeds (tw := W.rel i W.wh) (to := W.rel i W.ow) g hk
  obtain ⟨s, w1, o1⟩ := deeds_same (W.kind i) i (deedsM W.rs (W.ruleFor i)) ({ W with ca := W.ca ++ [i], dn := W.dn ++ [W.ruleFor i] } : Wd)
  have f := deeds_fold (k := W.kind i) (i := i) (deedsM W.rs (W.ruleFor i)) ({ W with ca := W.ca ++ [i], dn := W.dn ++ [W.ruleFor i] } : Wd) dd
  have e : W.come i = ({ W with ca := W.ca ++ [i], dn := W.dn ++ [W.ruleFor i] } : Wd).deeds (W.kind i) i (deedsM W.rs (W.ruleFor i)) := rfl
  have ef : m.effFor i = effectM (W.kind i) (deedsM W.rs (W.ruleFor i)) := by
    unfold CM.effFor
    rw [kd, ru, L.rs]
  rw [e]
  generalize ({ W with ca := W.ca ++ [i], dn := W.dn ++ [W.ruleFor i] } : Wd).deeds (W.kind i) i (deedsM W.rs (W.ruleFor i)) = W2 at s w1 o1 f ⊢
  have em : (m.come i) = { (m.wiped (m.effFor i).2).taken i (m.effFor i).1 (wholeKind (m.kindAt i)) with came := ((m.wiped (m.effFor i).2).taken i (m.effFor i).1 (wholeKind (m.kindAt i))).came ++ [i] } := rfl
  have rest : (m.come i).ks = m.ks ∧ (m.come i).rs = m.rs ∧ (m.come i).letters = m.letters ∧ (m.come i).newest = m.newest ∧ (m.come i).came = m.came ++ [i] ∧ (m.come i).shown = m.shown ∧ (m.come i).answers = m.answers ∧ (m.come i).shows = m.shows ∧ (m.come i).off = m.off ∧ (m.come i).rules = m.rules ∧ (m.come i).goals = m.goals ∧ (m.come i).counted = m.counted := by
    rw [em]
    unfold CM.wiped CM.taken
    split <;> split <;> (try split) <;> exact ⟨rfl, rfl, rfl, rfl, rfl, rfl, rfl, rfl, rfl, rfl, rfl, rfl⟩
  have wh : (m.come i).whole = if (wholeKind (W.kind i) && (m.effFor i).1) = true then some i else m.whole := by
    rw [em, kd]
    unfold CM.wiped CM.taken
    cases (m.effFor i).1 <;> cases (m.effFor i).2 <;> cases wholeKind (W.kind i) <;> rfl
  have ow : (m.come i).own = if ((m.effFor i).1 && !wholeKind (W.kind i)) = true then some i else if (m.effFor i).2 = true then none else m.own := by
    rw [em, kd]
    unfold CM.wiped CM.taken
    cases (m.effFor i).1 <;> cases (m.effFor i).2 <;> cases wholeKind (W.kind i) <;> rfl
  obtain ⟨r1, r2, r3, r4, r5, r6, r7, r8, r9, r10, r11, r12⟩ := rest
  have sls : W2.ls = W.ls := s.ls
  have ab : ∀ {i : Nat}, W.About i → W2.About i := fun ⟨k, n, h⟩ => ⟨k, n, by rw [sls]; exact h⟩
  have sp : ∀ o, W2.stopAt o = W.stopAt o := fun o => by
    unfold Wd.stopAt Wd.kind
    rw [sls]
  refine { ks := ?_, rs := ?_, lt := ?_, nw := ?_, wh := ?_, ow := ?_, cm := ?_, sn := ?_, an := ?_, ct := ?_, sh := ?_, of := ?_, nwA := ?_, whA := ?_, owA := ?_, seA := ?_, ru := ?_, gl := ?_ }
  · exact r1.trans (L.ks.trans s.ks.symm)
  · exact r2.trans (L.rs.trans s.rs.symm)
  · show (m.come i).letters = _
    rw [r3, sls]
    exact L.lt
  · exact r4.trans (L.nw.trans s.nw.symm)
  · show (m.come i).whole = _
    rw [wh, f.1, ef, L.wh]
  · show (m.come i).own = _
    rw [ow, f.2, ef, L.ow]
  · show (m.come i).came = _
    rw [r5, L.cm, s.ca]
  · exact r6.trans (L.sn.trans s.se.symm)
  · exact r7.trans (L.an.trans s.gi.symm)
  · exact r12.trans (L.ct.trans s.co.symm)
  · exact r8.trans (L.sh.trans s.sh.symm)
  · intro v
    show (∃ o, o ∈ W2.se ∧ _) ↔ ∃ o, (m.come i).off = some o ∧ v < o
    rw [s.se, r9, ← L.of v]
    exact ⟨fun ⟨o, h1, h2⟩ => ⟨o, h1, by rw [← sp]; exact h2⟩, fun ⟨o, h1, h2⟩ => ⟨o, h1, by rw [sp]; exact h2⟩⟩
  · rw [s.nw]
    exact ab L.nwA
  · exact fun j h => (w1 j h).elim (fun h => ab (L.whA j h)) fun h => by rw [h]; exact ab ai
  · exact fun j h => (o1 j h).elim (fun h => ab (L.owA j h)) fun h => by rw [h]; exact ab ai
  · rw [s.se]
    exact fun j h => ab (L.seA j h)
  · show (m.come i).rules ++ [m.ruleFor i] = _
    rw [r10, L.ru, ru, s.dn]
  · intro g
    show (g ∈ (m.come i).goals ∨ (g = "deaf" ∧ (m.come i).gDeaf none = true)) ↔ _
    rw [r11, deaf_none, s.me, L.gl g]
    exact ⟨fun h => h.elim id fun h => (nomatch h.2), .inl⟩
/-! #### each event -/
theorem come_text : ∀ i < 64, (Evt.come i).text = evCome i := by decide +kernel
theorem heard_text : ∀ i < 64, (Evt.heard i).text = evHeard i := by decide +kernel
theorem answer_text : Evt.answer.text = "answer" := by decide +kernel
theorem Like.go (L : Like W m) {n : Nat} (f : W.Fine n) {e : Evt} (h : W.Fit e) (hl : W.ls.length < 48) (ha : W.gi.length < 48) : ∃ x, CM.ActR m e.text x ∧ Like (W.go e) (CM.after x) := by
  cases e with
  | send k ab => exact ⟨_, .send (sent_text ab k h.1 h.2).1, (L.send h).next⟩
  | come i =>
    have hi := about_lt h
    rw [come_text i (by omega)]
    refine ⟨_, .come (by rw [L.len]; exact hi) ?_, (L.come f.gd h (W.kind_in f hi)).next⟩
    rw [L.kind h]
    intro c
    have := W.kind_in f hi
    rw [c] at this
    exact absurd this (by decide +kernel)
  | answer =>
    rw [answer_text]
    exact ⟨_, .answer (by rw [L.canAnswer]; exact h), L.give.next⟩
  | heard a =>
    have h2 : a < W.gi.length := h
    rw [heard_text a (by omega)]
    exact ⟨_, .hear (by rw [L.an]; exact h), (L.hear f.gd).next⟩
end
end Ov


namespace Ov
open PySem PySem.Spec PyProof.Rows L2
open Evl (pss_cut tCut Ex Ev EvT EvL EvA EvU)
/-! ### an event is drawn -/
/-- events that fit, in a list of their own -/
structure Ga (a b S : Addr) (W : Wd) (B H : Hp) (xs : List V) : Prop where
  kp : Kp a b B H
  D : Deal H a b
  nS : B S = none
  hS : H S = some (.lst xs)
  ev : ∀ x ∈ xs, ∃ p e, x = V.ref p ∧ H p = some (.tup (Evt.vals e)) ∧ W.Fit e
section
variable {a b S : Addr} {W : Wd} {B H H' : Hp} {xs : List V}
theorem Ga.ex (g : Ga a b S W B H xs) (e : Ex H H') : Ga a b S W B H' xs := ⟨g.kp.trans (Kp.same (ex_same e)), g.D.keep (ex_same e), g.nS, e _ _ g.hS, fun x hx => by
  obtain ⟨p, ev, h1, h2, h3⟩ := g.ev x hx
  exact ⟨p, ev, h1, e _ _ h2, h3⟩⟩
theorem Ga.mv (g : Ga a b S W B H xs) (D0 : Deal B a b) (k : Kp a b H H') (D : Deal H' a b) : Ga a b S W B H' xs := ⟨g.kp.trans k, D, g.nS, k _ _ (D0.nea g.nS) (D0.neb g.nS) g.hS, fun x hx => by
  obtain ⟨p, ev, h1, h2, h3⟩ := g.ev x hx
  exact ⟨p, ev, h1, k _ _ (g.D.netup h2).1 (g.D.netup h2).2 h2, h3⟩⟩
theorem Ga.app (g : Ga a b S W B H xs) (D0 : Deal B a b) {p : Addr} {e : Evt} (hp : H p = some (.tup e.vals)) (f : W.Fit e) : Ga a b S W B (upd H S (.lst (xs ++ [.ref p]))) (xs ++ [.ref p]) :=
  ⟨g.kp.put g.nS, g.D.put (D0.nea g.nS) (D0.neb g.nS), g.nS, upd_same, fun x hx => by
    rcases List.mem_append.mp hx with hx | hx
    · obtain ⟨p, ev, h1, h2, h3⟩ := g.ev x hx
      exact ⟨p, ev, h1, by rw [upd_ne (ne_of h2 g.hS fun z => nomatch z)]; exact h2, h3⟩
    · rw [List.mem_singleton.mp hx]
      exact ⟨p, e, rfl, by rw [upd_ne (ne_of hp g.hS fun z => nomatch z)]; exact hp, f⟩⟩
end
theorem tupC_go {v w : V} {te : TE} {σ : L2.St} {H : Hp} {Q : VK} (h : Ev te σ H w) (k : ∀ H1, Ex H H1 → ∀ p, H1 p = none → Q (.ref p) (upd H1 p (.tup [v, w]))) : tTup (tCons (tC v) (tCons te tNil)) σ H Q :=
  h H (Ex.refl _) _ fun H1 e1 => ⟨size_of (by show 2 ≤ 100000; decide), fun p np => k H1 e1 p np⟩
theorem et_neNilA {K : PySem.W.Frag} {σ : L2.St} {H : Hp} {ta : TE} {l : List Nat} {L : Addr} (ha : Ev ta σ H (.ref L)) (hL : H L = some (.lst (l.map natV))) : EvT (tTest (tOp (rNeD K) ta (tLst tNil))) σ H (!l.isEmpty) :=
  Evl.et_test fun H1 e1 Q k => ha H1 e1 _ fun H2 e2 => ⟨Nat.zero_le _, fun q nq => ⟨.list ((l.map fun (n : Nat) => (n : Int)).map PyData.int), .list [], .lst (Evl.sq_of ((Ex.new nq) _ _ ((e1.trans e2) _ _ hL))) (by
    have := dp_ints (K := K) (H := upd H2 q (.lst [])) (l.map fun (n : Nat) => (n : Int))
    rw [List.map_map] at this
    exact this), .lst (Evl.sq_of upd_same) .nil, (GD.lst (n := 0) fun d hd => by
    obtain ⟨x, hx, rfl⟩ := List.mem_map.mp hd
    exact GD.int x 0).shaped (by decide), (GD.lst (ds := []) (n := 0) fun d hd => (by cases hd)).shaped (by decide), by
    cases l with
    | nil => exact k _ (e2.trans (Ex.new nq))
    | cons x r => exact k _ (e2.trans (Ex.new nq))⟩⟩
def aboutT (K : PySem.W.Frag) : TT := fun σ H Q => tOp (rIxL K) (tVar 8) (tC (.int 2)) σ H fun x H1 => ∃ k, TruV K x H1 k ∧ Q k H1
def spAct : Sp := fun vs H Q _ => ∃ (Fa : Addr → Prop) (a b w : Addr) (A : Wa) (W : Wd) (most : Nat), vs = [.ref a, .ref w, .int (most : Int)] ∧ Deal H a b ∧ WorldAt Fa H w A W ∧ (∀ x, Fa x → x ≠ a ∧ x ≠ b) ∧ W.About 0 ∧ W.ls.length ≤ 100 ∧ W.gi.length ≤ 100 ∧ (∀ j, W.view = some j → j < W.ls.length) ∧
  ∀ p e H', W.Fit e → Kp a b H H' → Deal H' a b → H' p = some (.tup (Evt.vals e)) → Q (.ref p) H'
section
variable {P : Program} {w : World} {K : PySem.W.Frag} {mg : Str → Option Value} {base : Heap}
abbrev sAct : Stmt := topS 72
theorem scAct : FnScope ["_law_deal_here", "_law_world_here", "_law_most", "_law_letters", "_law_some", "_law_about", "_law_places", "_law_at", "_law_letter"] ["_law_deal_here", "_law_world_here", "_law_most"] (defScope sAct) := ⟨rfl, rfl, rfl, by decide +kernel, rfl, by decide +kernel, by decide +kernel⟩
theorem sent_kinds : ∀ ab : Bool, ∀ k ∈ (if ab = true then (["ask", "day", "stop", "off"] : List Str) else ["day", "off"]), k ∈ letterKinds ∧ (ab = false → k ∈ (["day", "off"] : List Str)) := by decide +kernel
theorem ok_act {f fPi fDraw fCa fVi : Addr} {fd fdPi fdDraw fdCa fdVi : FuncData} (F : Fun K "_law_act" "_law_act" sAct f fd) (T : TxB mg) (n_enumerate : mg "enumerate" = none) (D_draw : Df K mg "_law_draw" sDraw ["_law_deal_here", "_law_many"] fDraw fdDraw) (D_pick : Df K mg "_law_pick" sPick ["_law_deal_here", "_law_some"] fPi fdPi)
    (D_view : Df K mg "_law_view" sView ["_law_world_here"] fVi fdVi) (D_can : Df K mg "_law_can" sCan ["_law_world_here", "_law_event"] fCa fdCa) : FnOk P w K mg base CX0 3 f fd ["_law_deal_here", "_law_world_here", "_law_most"] spAct := by
  have G_draw : FnOk P w K mg base CX0 1 fDraw fdDraw ["_law_deal_here", "_law_many"] spDraw := ok_draw D_draw.F T.n_int
  have G_pick : FnOk P w K mg base CX0 2 fPi fdPi ["_law_deal_here", "_law_some"] (spPick K) := ok_pick D_pick.F T D_draw
  have G_can : FnOk P w K mg base CX0 2 fCa fdCa ["_law_world_here", "_law_event"] spCanA := ok_canA D_can.F T D_view
  refine F.ok scAct (fun vs H Q E h => ?_) (fun cdv A outer s H vs Q E hr h => ?_)
  · obtain ⟨Fa, a, b, w, A, W, most, rfl, _⟩ := h
    rfl
  · obtain ⟨Fa, a, b, wa, Aw, W, most, rfl, D0, g0, hF, ab0, ll, gl, vl, q⟩ := h
    have hu : (A.deeper (envOfC "_law_act" (defScope sAct) s.heap.objs.size f cdv)).units + 1 < cLine := by
      have := hr.units
      omega
    refine ⟨_, pss_cons (ps_par (i := 3) (j := 4) (by rfl) scAct.nd rfl rfl (by decide) rfl rfl (pa_cons (pe_dget hu (pv 1) pe_str (fun _ _ => rfl)) (pa_cons (pe_lst pa_nil) pa_nil)) (by rfl))
      (pss_cut (ps_if (pt_cmpR op_lt (pe_callB call_len_seq (by rfl) T.n_len (by decide +kernel) (pa_cons (pv 3) pa_nil)) (pv 2) (nomark _)) (pss_cons (ps_set (i := 5) scAct.nd rfl (.inl rfl) (pe_cmpR op_gt (pe_call (E := E0) G_draw (hr.mono (by decide)) rfl D_draw.g D_draw.F.kp D_draw.b .nil pass0 (pa_cons (pv 0) (pa_cons pe_int pa_nil))) pe_int (nomark _)))
      (pss_one (ps_expr (pe_bm PySem.F.plainAttrs_list PySem.F.slot_list_append PySem.F.type_list_append mt_append (pv 4) (pa_cons (pe_tup (pa_cons pe_str (pa_cons (pe_call (E := E0) G_pick (hr.mono (by decide)) rfl D_pick.g D_pick.F.kp D_pick.b .nil pass0 (pa_cons (pv 0) (pa_cons (pe_ifExp (pt_truth (pv 5) (by intro _; rfl)) (pe_lst (pa_cons pe_str (pa_cons pe_str (pa_cons pe_str (pa_cons pe_str pa_nil))))) (pe_lst (pa_cons pe_str (pa_cons pe_str pa_nil)))) pa_nil))) (pa_cons (pv 5) pa_nil)))) pa_nil))))) pss_nil)
      (pss_cons (ps_setLc (i := 6) (own := [("_law_at", 7), ("_law_letter", 8)]) (g := gTup K 2 (gCons (gName 7) (gCons (gName 8) gNil))) (tt := aboutT K) rfl scAct.nd rfl rfl (sw_true rfl rfl rfl (by decide +kernel)) (pi_enum (by rfl) n_enumerate (pa_cons (pv 3) pa_nil)) (blkOk_by (own := [("_law_at", 7), ("_law_letter", 8)]) (N := ["_law_deal_here", "_law_world_here", "_law_most", "_law_letters", "_law_some", "_law_about", "_law_places", "_law_at", "_law_letter"]) (sc := defScope sAct) (by decide +kernel)) (fun _ _ _ _ _ => (pg_tup (by rfl) (pgs_cons (pg_name (i := 7) scAct.nd rfl (Or.inl rfl)) (pgs_cons (pg_name (i := 8) scAct.nd rfl (Or.inl rfl)) pgs_nil)))) (fun _ _ _ _ _ => (pts_one (pt_truth (pe_ix (r := rIxL K) ix_list (pv 8) pe_int (fun _ _ => rfl)) (by intro _; rfl)))) (fun _ _ _ _ _ => (pv 7)))
      (pss_cons (ps_set (i := 4) scAct.nd rfl (.inl rfl) (pe_op op_cat (pv 4) (pe_lst (pa_cons (pe_tup (pa_cons pe_str (pa_cons (pe_call (E := E0) G_pick (hr.mono (by decide)) rfl D_pick.g D_pick.F.kp D_pick.b .nil pass0 (pa_cons (pv 0) (pa_cons (pv 6) pa_nil))) pa_nil))) (pa_cons (pe_tup (pa_cons pe_str (pa_cons (pe_ix ix_list (pv 6) (pe_un un_neg pe_int) (fun _ _ => rfl)) pa_nil))) pa_nil)))))
      (pss_cut (ps_if (pt_val (pe_call (E := E0) G_can (hr.mono (by decide)) rfl D_can.g D_can.F.kp D_can.b .nil pass0 (pa_cons (pv 1) (pa_cons (pe_tup (pa_cons pe_str pa_nil)) pa_nil)))) (pss_one (ps_expr (pe_bm PySem.F.plainAttrs_list PySem.F.slot_list_append PySem.F.type_list_append mt_append (pv 4) (pa_cons (pe_tup (pa_cons pe_str pa_nil)) pa_nil)))) pss_nil)
      (pss_cut (ps_if (pt_cmpR (op_neD hr.units) (pe_dget hu (pv 1) pe_str (fun _ _ => rfl)) (pe_lst pa_nil) (nomark _)) (pss_one (ps_expr (pe_bm PySem.F.plainAttrs_list PySem.F.slot_list_append PySem.F.type_list_append mt_append (pv 4) (pa_cons (pe_tup (pa_cons pe_str (pa_cons (pe_call (E := E0) G_draw (hr.mono (by decide)) rfl D_draw.g D_draw.F.kp D_draw.b .nil pass0 (pa_cons (pv 0) (pa_cons (pe_callB call_len_seq (by rfl) T.n_len (by decide +kernel) (pa_cons (pe_dget hu (pv 1) pe_str (fun _ _ => rfl)) pa_nil)) pa_nil))) pa_nil))) pa_nil)))) pss_nil)
      (pss_one (ps_ret (pe_call (E := E0) G_pick (hr.mono (by decide)) rfl D_pick.g D_pick.F.kp D_pick.b .nil pass0 (pa_cons (pv 0) (pa_cons (pv 4) pa_nil)))))))))), ?_⟩
    have sz : ∀ {n : Nat}, n ≤ 5 → n ≤ sizeLine := fun h => size_of (by omega)
    -- letters, and what can be
    refine par_go ?_
    refine at_consW ?_
    refine (ev_wget (Evl.ev_var rfl) g0.hw (wg_letters Aw W)) H (Ex.refl _) _ fun H1 e1 => ?_
    refine ⟨sz (Nat.zero_le _), fun S0 nS0 => ⟨_, _, rfl, ?_⟩⟩
    have nS : H S0 = none := Evl.fresh_back e1 nS0
    have ga0 : Ga a b S0 W H (upd H1 S0 (.lst [])) [] := ⟨(Kp.same (ex_same e1)).trans (Kp.new nS0), (D0.keep (ex_same e1)).new nS0, nS, upd_same, fun x hx => nomatch hx⟩
    generalize upd H1 S0 (.lst []) = H2 at ga0 ⊢
    have wd : ∀ {H' : Hp}, Kp a b H H' → WorldAt Fa H' wa Aw W := fun k => g0.kp hF k D0
    refine Evl.q_cut (M := fun σ' H' => ∃ (b5 b6 b7 b8 : Option V) (xs : List V), σ' = [some (.ref a), some (.ref wa), some (.int (most : Int)), some (.ref Aw.le), some (.ref S0), b5, b6, b7, b8] ∧ Ga a b S0 W H H' xs ∧ xs.length ≤ 1) ?_ (fun σ' H' hh => ?_)
    · obtain ⟨ls, l1, l2⟩ := (wd ga0.kp).le
      refine Evl.s_when (b := decide ((ls.length : Int) < (most : Int))) (Evl.et_test (Evl.ev_op (Evl.ev_len (Evl.ev_var rfl) (Evl.sq_of l1)) (Evl.ev_var rfl) Evl.rv_I0)) (fun hb H3 e3 => ?_) (fun hb H3 e3 => ⟨_, _, _, _, [], rfl, ga0.ex e3, Nat.zero_le _⟩)
      have ga3 := ga0.ex e3
      refine q_put ?_
      refine ⟨_, rfl, a, b, 4, rfl, ga3.D, by decide, by decide, fun r H4 r0 r1 k4 D4 => ⟨_, _, rfl, rfl, ?_⟩⟩
      have ga4 := ga3.mv D0 k4 D4
      refine ⟨_, rfl, .inl ⟨rfl, _, Evl.sq_of ga4.hS⟩, _, rfl, ?_⟩
      refine at_consW ?_
      have kf := sent_kinds (decide (r > 0))
      have kl : ∀ ab : Bool, 0 < (if ab = true then (["ask", "day", "stop", "off"] : List Str) else ["day", "off"]).length ∧ (if ab = true then (["ask", "day", "stop", "off"] : List Str) else ["day", "off"]).length ≤ 4 := by decide
      refine (el_if (b := decide (r > 0)) (xs := (if decide (r > 0) = true then (["ask", "day", "stop", "off"] : List Str) else ["day", "off"]).map V.str) (et_truB (Evl.ev_var rfl)) (fun hb => ?_) (fun hb => ?_)) H4 (Ex.refl _) _ fun L H5 nL e5 hL => ?_
      · rw [if_pos hb]
        exact Evl.el_lst (Evl.ea_cons Evl.ev_c (Evl.ea_cons Evl.ev_c (Evl.ea_cons Evl.ev_c (Evl.ea_cons Evl.ev_c Evl.ea_nil)))) (by show 4 ≤ 100000; decide)
      · rw [if_neg (by rw [hb]; exact Bool.false_ne_true)]
        exact Evl.el_lst (Evl.ea_cons Evl.ev_c (Evl.ea_cons Evl.ev_c Evl.ea_nil)) (by show 2 ≤ 100000; decide)
      have ga5 := ga4.ex e5
      have kll := kl (decide (r > 0))
      refine ⟨a, b, L, _, rfl, ga5.D, ga4.D.nea nL, ga4.D.neb nL, .inl (Evl.sq_of hL), by rw [List.length_map]; exact kll.1, by rw [List.length_map]; omega, fun x H6 hx k6 D6 => ?_⟩
      obtain ⟨k, hk, rfl⟩ := List.mem_map.mp hx
      have ga6 := ga5.mv D0 k6 D6
      refine ⟨_, rfl, sz (by show 3 ≤ 5; decide), fun p np => ?_⟩
      have ga7 := ga6.ex (Ex.new (o := .tup [.str "send", .str k, .bl (decide (r > 0))]) np)
      exact ⟨S0, [], .ref p, rfl, rfl, ga7.hS, Evl.sz_lt (by show 0 < 100000; decide), _, _, _, _, _, rfl, ga7.app D0 (e := .send k (decide (r > 0))) upd_same (kf k hk), Nat.le_refl _⟩
    obtain ⟨b5, b6, b7, b8, xs, rfl, ga, hxs⟩ := hh
    obtain ⟨ls, l1, l2⟩ := (wd ga.kp).le
    have lx := paired_len l2
    -- the letters about the day
    refine q_put ?_
    refine ⟨_, rfl, Aw.le, ls, rfl, Evl.sq_of l1, fun L nL => ?_⟩
    refine lc_it (walk_enum (xs := ls)) (fun j H6 => Ex H' H6 ∧ ∃ is : List Nat, H6 L = some (.lst (is.map natV)) ∧ (∀ i ∈ is, W.About i) ∧ is.length ≤ j ∧ (0 < j → 0 < is.length)) ⟨Ex.new nL, [], upd_same, fun i h => (by cases h), Nat.le_refl _, fun h => absurd h (Nat.lt_irrefl _)⟩ (fun j H6 _ z => Evl.sq_of (z.1 _ _ l1)) ?_ ?_
    · rintro j x H6 H7 hj ⟨e6, is, hL, his, hlen, hpos⟩ ⟨T0, _, y, rfl, nT, rfl, hc1, hy1⟩
      obtain rfl := Option.some.inj hc1
      replace hy1 : ls[j]? = some y := hy1
      obtain ⟨l, hl2, t, rfl, ht, _⟩ := prd_at l2 hy1
      have e7 : Ex H6 (upd H6 T0 (.tup [V.int (j : Int), V.ref t])) := Ex.new nT
      have jl := (List.getElem?_eq_some_iff.mp hl2).1
      refine ⟨T0, _, rfl, Evl.st_of upd_same, rfl, _, _, rfl, _, _, rfl, rfl, rfl, ?_⟩
      refine (show EvT (aboutT K) _ _ l.2.2 from et_truB (b := l.2.2) (Evl.ev_op (x := .ref t) (y := .int 2) (z := .bl l.2.2) (Evl.ev_var rfl) Evl.ev_c (Evl.rv_ixL (Evl.sq_of (e7 _ _ (e6 _ _ ht))) rfl))) _ (Ex.refl _) _ fun H8 e8 => ?_
      refine ite2 (fun hb => ?_) (fun hb => ?_)
      · refine ⟨_, rfl, _, (e7.trans e8) _ _ hL, Nat.lt_of_le_of_lt (by rw [List.length_map]; omega : _ ≤ 5000) (by decide), ((e6.trans e7).trans e8).mut nL, is ++ [j], ?_, fun i hi => ?_, by rw [List.length_append]; exact Nat.succ_le_succ hlen, fun _ => by rw [List.length_append]; exact Nat.succ_pos _⟩
        · rw [upd_same, List.map_append]
          rfl
        · rcases List.mem_append.mp hi with hi | hi
          · exact his i hi
          · rw [List.mem_singleton.mp hi]
            exact ⟨l.1, l.2.1, by rw [hl2, ← hb]⟩
      · refine ⟨(e6.trans e7).trans e8, is, (e7.trans e8) _ _ hL, his, Nat.le_succ_of_le hlen, fun _ => ?_⟩
        by_cases c : 0 < j
        · exact hpos c
        · have e0 : j = 0 := by omega
          subst e0
          obtain ⟨k, n, h0⟩ := ab0
          rw [hl2] at h0
          rw [Option.some.inj h0] at hb
          exact absurd rfl hb
    rintro H6 ⟨e6, is, hL, his, hlen, hpos⟩
    have pos : 0 < is.length := hpos (by rw [lx]; exact about_lt ab0)
    have g6 := ga.ex e6
    have na := ga.D.nea nL
    have nb := ga.D.neb nL
    have isz : is.length ≤ 100 := by omega
    -- what comes
    refine q_put ?_
    refine ⟨_, rfl, _, rfl, _, rfl, a, b, L, _, rfl, g6.D, na, nb, .inl (Evl.sq_of hL), by rw [List.length_map]; exact pos, by rw [List.length_map]; omega, fun y H7 hy k7 D7 => ⟨sz (by show 2 ≤ 5; decide), fun t1 nt1 => ?_⟩⟩
    obtain ⟨i1, hi1, rfl⟩ := List.mem_map.mp hy
    have g7 := g6.mv D0 k7 D7
    have hL7 := k7 _ _ na nb hL
    have e7 : Ex H7 (upd H7 t1 (.tup [.str "come", natV i1])) := Ex.new nt1
    have ht1 : upd H7 t1 (.tup [.str "come", natV i1]) t1 = some (.tup (Evt.come i1).vals) := upd_same
    have g8 := g7.ex e7
    have hL8 := e7 _ _ hL7
    generalize upd H7 t1 (.tup [.str "come", natV i1]) = H8 at g8 hL8 ht1 ⊢
    refine at_consW ?_
    obtain ⟨i2, hi2⟩ : ∃ i2, is[is.length - 1]? = some i2 := ⟨_, List.getElem?_eq_getElem (by omega)⟩
    have at1 : atI (is.map natV) (-1) = some (natV i2) := by
      unfold atI ixN
      have c1 : ¬ ((0 : Int) ≤ -1) := by decide
      have c2 : -((is.map natV).length : Int) ≤ -1 := by rw [List.length_map]; omega
      rw [if_neg c1, if_pos c2]
      show (is.map natV)[((-1 : Int) + ((is.map natV).length : Int)).toNat]? = _
      rw [List.length_map, show ((-1 : Int) + (is.length : Int)).toNat = is.length - 1 by omega, List.getElem?_map, hi2]
      rfl
    refine tupC_go (Evl.ev_op (x := .ref L) (y := .int (-1)) (z := natV i2) (Evl.ev_var rfl) (Evl.ev_un Evl.ev_c Evl.ru_neg) (Evl.rv_ixL (Evl.sq_of hL8) at1)) fun H9 e9 t2 nt2 => ⟨sz (by show 2 ≤ 5; decide), fun Lm nLm => ?_⟩
    have e10 : Ex H8 (upd H9 t2 (.tup [.str "come", natV i2])) := e9.trans (Ex.new nt2)
    have ht2 : upd H9 t2 (.tup [.str "come", natV i2]) t2 = some (.tup (Evt.come i2).vals) := upd_same
    have g10 := g8.ex e10
    have ht1' := e10 _ _ ht1
    generalize upd H9 t2 (.tup [.str "come", natV i2]) = H10 at g10 ht2 ht1' nLm ⊢
    have e11 : Ex H10 (upd H10 Lm (.lst [.ref t1, .ref t2])) := Ex.new nLm
    have g11 := g10.ex e11
    refine ⟨S0, Lm, xs, _, rfl, rfl, g11.hS, upd_same, size_of (by show xs.length + 2 ≤ 100000; omega), fun S1 nS1 => ?_⟩
    have e12 := e11.trans (Ex.new (o := .lst (xs ++ [.ref t1, .ref t2])) nS1)
    have ga12 : Ga a b S1 W H (upd (upd H10 Lm (.lst [.ref t1, .ref t2])) S1 (.lst (xs ++ [.ref t1, .ref t2]))) (xs ++ [.ref t1, .ref t2]) := by
      have z := g10.ex e12
      refine ⟨z.kp, z.D, g11.kp.none g11.D nS1, upd_same, fun x hx => ?_⟩
      rcases List.mem_append.mp hx with hx | hx
      · exact z.ev x hx
      · rcases List.mem_cons.mp hx with hx | hx
        · exact ⟨t1, .come i1, hx, e12 _ _ ht1', his i1 hi1⟩
        · exact ⟨t2, .come i2, List.mem_singleton.mp hx, e12 _ _ ht2, his i2 (List.mem_of_getElem? hi2)⟩
    have lz : (xs ++ [V.ref t1, V.ref t2]).length ≤ 3 ∧ 2 ≤ (xs ++ [V.ref t1, V.ref t2]).length := by
      rw [List.length_append]
      show xs.length + 2 ≤ 3 ∧ 2 ≤ xs.length + 2
      omega
    generalize upd (upd H10 Lm (.lst [.ref t1, .ref t2])) S1 (.lst (xs ++ [.ref t1, .ref t2])) = H12 at ga12 ⊢
    generalize xs ++ [V.ref t1, V.ref t2] = ys at ga12 lz
    -- an answer
    refine Evl.q_cut (M := fun σ' H' => σ' = [some (.ref a), some (.ref wa), some (.int (most : Int)), some (.ref Aw.le), some (.ref S1), b5, some (.ref L), b7, b8] ∧ ∃ ys, Ga a b S1 W H H' ys ∧ ys.length ≤ 4 ∧ 2 ≤ ys.length) ?_ (fun σ' H' hh => ?_)
    · have w12 := wd ga12.kp
      obtain ⟨zs, z1, z2⟩ := w12.le
      refine ⟨_, rfl, sz (by show 1 ≤ 5; decide), fun t nt => ⟨wa, t, Aw, W, zs, rfl, upd_same, (Ex.new nt) _ _ w12.hw, (Ex.new nt) _ _ z1, prd_imp (fun _ _ ⟨p, h1, h2, _⟩ => ⟨p, h1, (Ex.new nt) _ _ h2, trivial⟩) z2, vl, fun H13 e13 => ⟨W.asking, rfl, ?_⟩⟩⟩
      have ga13 := (ga12.ex (Ex.new nt)).ex e13
      refine ite2 (fun hb => ?_) (fun hb => ⟨rfl, ys, ga13, by omega, lz.2⟩)
      refine ⟨_, rfl, .inl ⟨rfl, _, Evl.sq_of ga13.hS⟩, sz (by show 1 ≤ 5; decide), fun p np => ?_⟩
      have ga14 := ga13.ex (Ex.new (o := .tup [.str "answer"]) np)
      exact ⟨S1, ys, .ref p, rfl, rfl, ga14.hS, Evl.sz_lt (by omega), rfl, _, ga14.app D0 (e := .answer) upd_same hb, by rw [List.length_append]; show ys.length + 1 ≤ 4; omega, by rw [List.length_append]; omega⟩
    obtain ⟨rfl, ys, gy, ly⟩ := hh
    -- an answer that is heard
    refine Evl.q_cut (M := fun σ' H' => σ' = [some (.ref a), some (.ref wa), some (.int (most : Int)), some (.ref Aw.le), some (.ref S1), b5, some (.ref L), b7, b8] ∧ ∃ ys, Ga a b S1 W H H' ys ∧ ys.length ≤ 5 ∧ 2 ≤ ys.length) ?_ (fun σ' H' hh => ?_)
    · have w12 := wd gy.kp
      refine Evl.s_when (b := !W.gi.isEmpty) (et_neNilA (ev_wget (Evl.ev_var rfl) w12.hw (wg_given Aw W)) w12.gi) (fun hb H13 e13 => ?_) (fun hb H13 e13 => ⟨rfl, ys, gy.ex e13, by omega, ly.2⟩)
      have g13 := gy.ex e13
      have w13 := wd g13.kp
      refine ⟨_, rfl, .inl ⟨rfl, _, Evl.sq_of g13.hS⟩, _, rfl, ?_⟩
      refine at_consW ?_
      refine (Evl.ev_len (ev_wget (Evl.ev_var rfl) w13.hw (wg_given Aw W)) (Evl.sq_of w13.gi)) H13 (Ex.refl _) _ fun H14 e14 => ?_
      have g14 := g13.ex e14
      have gp : 0 < W.gi.length := by
        cases e : W.gi with
        | nil =>
          rw [e] at hb
          cases hb
        | cons x r => exact Nat.succ_pos _
      refine ⟨a, b, ((W.gi.map natV).length : Int), rfl, g14.D, by rw [List.length_map]; omega, by rw [List.length_map]; omega, fun r H15 r0 r1 k15 D15 => ⟨sz (by show 2 ≤ 5; decide), fun p np => ?_⟩⟩
      obtain ⟨n, rfl⟩ := Int.eq_ofNat_of_zero_le r0
      have g15 := g14.mv D0 k15 D15
      have g16 := g15.ex (Ex.new (o := .tup [.str "heard", natV n]) np)
      exact ⟨S1, ys, .ref p, rfl, rfl, g16.hS, Evl.sz_lt (by omega), rfl, _, g16.app D0 (e := .heard n) upd_same (by show n < W.gi.length; rw [List.length_map] at r1; omega), by rw [List.length_append]; show ys.length + 1 ≤ 5; omega, by rw [List.length_append]; omega⟩
    obtain ⟨rfl, zs, gz, lz2⟩ := hh
    refine ⟨_, rfl, _, rfl, a, b, S1, zs, rfl, gz.D, D0.nea gz.nS, D0.neb gz.nS, .inl (Evl.sq_of gz.hS), by omega, by omega, fun x H17 hx k17 D17 => ?_⟩
    obtain ⟨p, e, rfl, hp, hf⟩ := gz.ev x hx
    exact q p e H17 hf (gz.kp.trans k17) D17 (k17 _ _ (gz.D.netup hp).1 (gz.D.netup hp).2 hp)
end
end Ov


namespace Ov
open PySem PySem.Spec PyProof.Rows L2
open Evl (pss_cut tCut Ex Ev EvT EvL EvA EvU)
/-! ### a drawn weaving of stage 2's world -/
/-- each event can be, in its turn -/
def Wd.All : Wd → List Evt → Prop
  | _, [] => True
  | W, e :: es => W.Fit e ∧ (W.go e).All es
theorem all_snoc {e : Evt} : ∀ {es : List Evt} {W : Wd}, W.All es → (es.foldl Wd.go W).Fit e → W.All (es ++ [e])
  | [], _, _, h => ⟨h, trivial⟩
  | a :: es, W, ⟨h1, h2⟩, h => ⟨h1, all_snoc (es := es) h2 h⟩
/-- an event as a value -/
def EvAt (H : Hp) (x : V) (e : Evt) : Prop := ∃ p, x = V.ref p ∧ H p = some (.tup e.vals)
/-- a world behind so many events, and the course of it -/
structure Gone (ks : List Str) (rs : List RuleD) (es : List Evt) (W : Wd) (m : CM) : Prop where
  fit : (wstart ks rs).All es
  eq : W = es.foldl Wd.go (wstart ks rs)
  fine : W.Fine es.length
  go : (CM.start ks rs).goAll (es.map Evt.text) = some m
  lk : Like W m
  I : m.Inv3
  fm : ∀ e ∈ es, Form e.text
  sm : ∀ e ∈ es, e.Small
theorem Gone.start {ks : List Str} {rs : List RuleD} (g : ∀ r ∈ rs, r.Good) (h : rs.length ≤ 10) : Gone ks rs [] (wstart ks rs) (CM.start ks rs) :=
  ⟨trivial, rfl, Wd.Fine.start g h, rfl, Like.start ks rs, CM.start_inv g (by omega), fun e h => (by cases h), fun e h => (by cases h)⟩
theorem fit_form {W : Wd} {e : Evt} (f : W.Fit e) (hl : W.ls.length < 48) (ha : W.gi.length < 48) : Form e.text ∧ e.Small := by
  cases e with
  | send k ab => exact ⟨.deed (sent_text ab k f.1 f.2).1, f.1⟩
  | come i =>
    have := about_lt f
    rw [come_text i (by omega)]
    exact ⟨.come (by omega), by show i < 100; omega⟩
  | answer =>
    rw [answer_text]
    exact ⟨.ans, trivial⟩
  | heard n =>
    have : n < W.gi.length := f
    rw [heard_text n (by omega)]
    exact ⟨.heard (by omega), by show n < 100; omega⟩
theorem Gone.next {ks : List Str} {rs : List RuleD} {es : List Evt} {W : Wd} {m : CM} (G : Gone ks rs es W m) {e : Evt} (f : W.Fit e) (hn : es.length ≤ 40) : ∃ m2, Gone ks rs (es ++ [e]) (W.go e) m2 := by
  have ll := G.fine.ll
  have gl := G.fine.gl
  obtain ⟨x, hx, L2⟩ := G.lk.go G.fine f (by omega) (by omega)
  have hl := G.lk.len
  have ha := G.lk.an
  have ax := CM.act_of hx (by omega) (by rw [ha]; omega)
  obtain ⟨f1, f2⟩ := fit_form f (by omega) (by omega)
  refine ⟨CM.after x, all_snoc G.fit (by rw [← G.eq]; exact f), ?_, ?_, ?_, L2, G.I.goOn hx ax, fun z hz => ?_, fun z hz => ?_⟩
  · rw [List.foldl_append, ← G.eq]
    rfl
  · rw [List.length_append]
    exact G.fine.go f.can
  · rw [List.map_append]
    show (CM.start ks rs).goAll (es.map Evt.text ++ [e.text]) = _
    rw [CM.goAll_snoc G.go]
    exact CM.goOn_iff.mpr ⟨x, ax, rfl⟩
  · rcases List.mem_append.mp hz with h | h
    · exact G.fm z h
    · rw [List.mem_singleton.mp h]
      exact f1
  · rcases List.mem_append.mp hz with h | h
    · exact G.sm z h
    · rw [List.mem_singleton.mp h]
      exact f2
theorem start_about {ks : List Str} {rs : List RuleD} : (wstart ks rs).About 0 := ⟨"ask", 0, rfl⟩
/-- letters stay -/
theorem go_about {W : Wd} {e : Evt} {i : Nat} (a : W.About i) : (W.go e).About i := by
  have h1 : (W.go1 e).About i := by
    cases e with
    | send k ab =>
      cases ab with
      | true => exact about_app (W := W) (W2 := W.send k true) rfl a
      | false => exact about_app (W := W) (W2 := W.send k false) rfl a
    | come j =>
      obtain ⟨s, _, _⟩ := deeds_same (W.kind j) j (deedsM W.rs (W.ruleFor j)) ({ W with ca := W.ca ++ [j], dn := W.dn ++ [W.ruleFor j] } : Wd)
      obtain ⟨k, n, a⟩ := a
      have e : (W.come j).ls = W.ls := s.ls
      exact ⟨k, n, by
        show (W.come j).ls[i]? = _
        rw [e]
        exact a⟩
    | answer => exact a
    | heard n =>
      obtain ⟨k, n', a⟩ := a
      refine ⟨k, n', ?_⟩
      show (W.hear n).ls[i]? = _
      have e : (W.hear n).ls = W.ls := by
        unfold Wd.hear
        split <;> rfl
      rw [e]
      exact a
  exact h1
theorem goes_about {i : Nat} : ∀ {es : List Evt} {W : Wd}, W.About i → (es.foldl Wd.go W).About i
  | [], _, a => a
  | e :: es, W, a => goes_about (es := es) (go_about a)
theorem WorldAt.fa2 {Fa Fb : Addr → Prop} {H : Hp} {w : Addr} {A : Wa} {W : Wd} (g : WorldAt Fa H w A W) (h : ∀ x o, Fa x → H x = some o → Fb x) : WorldAt Fb H w A W := by
  obtain ⟨f1, f2, f3, f4, f5, f6, f7, f8, f9, f10⟩ := g.fa
  obtain ⟨xs, s1, s2⟩ := g.so
  obtain ⟨ys, l1, l2⟩ := g.le
  exact ⟨g.hw, g.ra, ⟨xs, s1, prd_imp (fun _ _ ⟨t, a1, a2, e, q1, q2, q3, q4, q5⟩ => ⟨t, a1, a2, e, q1, q2, q3, ⟨q4.1, h _ _ q4.2 q2⟩, ⟨q5.1, h _ _ q5.2 q3⟩⟩) s2⟩,
    ⟨ys, l1, prd_imp (fun _ _ ⟨p, e, q1, q2⟩ => ⟨p, e, q1, ⟨q2.1, h _ _ q2.2 q1⟩⟩) l2⟩, g.sh, g.gi, g.ca, g.se, g.me, g.dn, g.ne, g.st,
    h _ _ f1 g.hw, h _ _ f2 g.ra, h _ _ f3 s1, h _ _ f4 l1, h _ _ f5 g.sh, h _ _ f6 g.gi, h _ _ f7 g.ca, h _ _ f8 g.se, h _ _ f9 g.me, h _ _ f10 g.dn⟩
/-- while events are drawn -/
structure Wk (a b F w : Addr) (A : Wa) (ks : List Str) (rs : List RuleD) (B H : Hp) (ys : List V) (es : List Evt) (W : Wd) (m : CM) : Prop where
  kp : Kp a b B H
  D : Deal H a b
  nF : B F = none
  hF : H F = some (.lst ys)
  ev : Paired (EvAt H) ys es
  wa : WorldAt (fun x => x ≠ a ∧ x ≠ b ∧ x ≠ F) H w A W
  nw : B w = none ∧ B A.le = none ∧ B A.sh = none ∧ B A.dn = none
  gn : Gone ks rs es W m
section
variable {a b F w : Addr} {A A' : Wa} {ks : List Str} {rs : List RuleD} {B H H' : Hp} {ys : List V} {es : List Evt} {W : Wd} {m : CM}
theorem Wk.ex (g : Wk a b F w A ks rs B H ys es W m) (e : Ex H H') : Wk a b F w A ks rs B H' ys es W m :=
  ⟨g.kp.trans (Kp.same (ex_same e)), g.D.keep (ex_same e), g.nF, e _ _ g.hF, prd_imp (fun _ _ ⟨p, h1, h2⟩ => ⟨p, h1, e _ _ h2⟩) g.ev, g.wa.ex e, g.nw, g.gn⟩
theorem Wk.mv (g : Wk a b F w A ks rs B H ys es W m) (D0 : Deal B a b) (k : Kp a b H H') (D : Deal H' a b) : Wk a b F w A ks rs B H' ys es W m :=
  ⟨g.kp.trans k, D, g.nF, k _ _ (D0.nea g.nF) (D0.neb g.nF) g.hF, prd_imp (fun _ _ ⟨p, h1, h2⟩ => ⟨p, h1, k _ _ (g.D.netup h2).1 (g.D.netup h2).2 h2⟩) g.ev, g.wa.kp (fun x h => ⟨h.1, h.2.1⟩) k g.D, g.nw, g.gn⟩
/-- an event was done, and is put down -/
theorem Wk.next (g : Wk a b F w A ks rs B H ys es W m) (D0 : Deal B a b) {e : Evt} {p : Addr} {m2 : CM} (hp : H p = some (.tup e.vals)) (g' : WorldAt (fun x => x ≠ a ∧ x ≠ b ∧ x ≠ F) H' w A' (W.go e)) (s : SameA A A') (k : Kw w A H H') (G : Gone ks rs (es ++ [e]) (W.go e) m2) :
    H' F = some (.lst ys) ∧ Wk a b F w A' ks rs B (upd H' F (.lst (ys ++ [.ref p]))) (ys ++ [.ref p]) (es ++ [e]) (W.go e) m2 := by
  obtain ⟨f1, f2, f3, f4, f5, f6, f7, f8, f9, f10⟩ := g.wa.fa
  obtain ⟨ls, l1, _⟩ := g.wa.le
  have tw : ∀ {z zs}, H z = some (.tup zs) → H' z = some (.tup zs) := fun h => k _ _ (ne_of h g.wa.hw fun z => nomatch z) ⟨ne_of h l1 fun z => (nomatch z), ne_of h g.wa.sh fun z => (nomatch z), ne_of h g.wa.dn fun z => (nomatch z)⟩ h
  have hF' : H' F = some (.lst ys) := k _ _ f1.2.2.symm ⟨f4.2.2.symm, f5.2.2.symm, f10.2.2.symm⟩ g.hF
  have up : ∀ {z zs}, H z = some (.tup zs) → upd H' F (.lst (ys ++ [.ref p])) z = some (.tup zs) := fun h => by
    rw [upd_ne (ne_of (tw h) hF' fun z => nomatch z)]
    exact tw h
  have nea : ∀ x : Addr, x = a ∨ x = b → x ≠ w ∧ Wo A x := fun x hx => by
    rcases hx with rfl | rfl
    · exact ⟨f1.1.symm, f4.1.symm, f5.1.symm, f10.1.symm⟩
    · exact ⟨f1.2.1.symm, f4.2.1.symm, f5.2.1.symm, f10.2.1.symm⟩
  have D' : Deal H' a b := by
    obtain ⟨ns, mm, h1, h2, r⟩ := g.D.ex
    exact ⟨ns, mm, k _ _ (nea a (.inl rfl)).1 (nea a (.inl rfl)).2 h1, k _ _ (nea b (.inr rfl)).1 (nea b (.inr rfl)).2 h2, r⟩
  have kk : Kp a b B H' := fun x o h1 h2 h => k _ _ (ne_of_none h g.nw.1) ⟨ne_of_none h g.nw.2.1, ne_of_none h g.nw.2.2.1, ne_of_none h g.nw.2.2.2⟩ (g.kp x o h1 h2 h)
  refine ⟨hF', kk.put g.nF, D'.put (D0.nea g.nF) (D0.neb g.nF), g.nF, upd_same, prd_app (prd_imp (fun _ _ ⟨q, h1, h2⟩ => ⟨q, h1, up h2⟩) g.ev) (.cons ⟨p, rfl, up hp⟩ .nil), g'.mono (fun x o h hx => by rw [upd_ne h.2.2]; exact hx) (fun x zs hx => by rw [upd_ne (ne_of hx hF' fun z => nomatch z)]; exact hx), ?_, G⟩
  rw [s.le, s.sh, s.dn]
  exact g.nw
end
def spActs : Sp := fun vs H Q _ => ∃ (a b L F0 : Addr) (ks : List Str) (xs : List V) (rs : List RuleD) (many most : Nat), vs = [.ref a, .ref L, .ref F0, .int (many : Int), .int (most : Int)] ∧ Deal H a b ∧ H L = some (.lst (ks.map V.str)) ∧ H F0 = some (.lst xs) ∧ Paired (Dr (fun x => x ≠ a ∧ x ≠ b) H) xs rs ∧ (L ≠ a ∧ L ≠ b) ∧ (F0 ≠ a ∧ F0 ≠ b) ∧ (∀ r ∈ rs, r.Good) ∧ rs.length ≤ 10 ∧ many ≤ 40 ∧
  ∀ (t F w : Addr) (A : Wa) (ys : List V) (es : List Evt) (W : Wd) (m : CM) (H' : Hp), Wk a b F w A ks rs H H' ys es W m → es.length = many → H' t = some (.tup [.ref F, .ref w]) → Q (.ref t) H'
section
variable {P : Program} {w : World} {K : PySem.W.Frag} {mg : Str → Option Value} {base : Heap}
abbrev sActs : Stmt := topS 73
theorem scActs : FnScope ["_law_deal_here", "_law_raising_here", "_law_some", "_law_many", "_law_most", "_law_world_here", "_law_found", "_law_turn", "_law_event"] ["_law_deal_here", "_law_raising_here", "_law_some", "_law_many", "_law_most"] (defScope sActs) := ⟨rfl, rfl, rfl, by decide +kernel, rfl, by decide +kernel, by decide +kernel⟩
theorem ok_acts {f fPi fDraw fCa fVi fWo fAc fGo : Addr} {fd fdPi fdDraw fdCa fdVi fdWo fdAc fdGo : FuncData} (F : Fun K "_law_acts" "_law_acts" sActs f fd) (T : TxB mg) (n_enumerate : mg "enumerate" = none) (D_draw : Df K mg "_law_draw" sDraw ["_law_deal_here", "_law_many"] fDraw fdDraw) (D_pick : Df K mg "_law_pick" sPick ["_law_deal_here", "_law_some"] fPi fdPi)
    (D_view : Df K mg "_law_view" sView ["_law_world_here"] fVi fdVi) (D_can : Df K mg "_law_can" sCan ["_law_world_here", "_law_event"] fCa fdCa) (D_world : Df K mg "_law_world" sWorld ["_law_raising_here", "_law_some"] fWo fdWo) (D_act : Df K mg "_law_act" sAct ["_law_deal_here", "_law_world_here", "_law_most"] fAc fdAc) (D_go : Df K mg "_law_go" sGo ["_law_world_here", "_law_event"] fGo fdGo) 
    (G_go : FnOk P w K mg base CX0 4 fGo fdGo ["_law_world_here", "_law_event"] spGoW) : FnOk P w K mg base CX0 5 f fd ["_law_deal_here", "_law_raising_here", "_law_some", "_law_many", "_law_most"] spActs := by
  have G_act : FnOk P w K mg base CX0 3 fAc fdAc ["_law_deal_here", "_law_world_here", "_law_most"] spAct := ok_act D_act.F T n_enumerate D_draw D_pick D_view D_can
  have G_world : FnOk P w K mg base CX0 1 fWo fdWo ["_law_raising_here", "_law_some"] spWorld := ok_world D_world.F
  refine F.ok scActs (fun vs H Q E h => ?_) (fun cdv A outer s H vs Q E hr h => ?_)
  · obtain ⟨a, b, L, F0, ks, xs, rs, many, most, rfl, _⟩ := h
    rfl
  · obtain ⟨a, b, L0, F0, ks, xs, rs, many, most, rfl, D0, hL0, hF0, dr, nL0, nF0, gd, rl, hm, q⟩ := h
    have hu : (A.deeper (envOfC "_law_acts" (defScope sActs) s.heap.objs.size f cdv)).units + 1 < cLine := by
      have := hr.units
      omega
    refine ⟨_, pss_cons (ps_par (i := 5) (j := 6) (by rfl) scActs.nd rfl rfl (by decide) rfl rfl (pa_cons (pe_call (E := E0) G_world (hr.mono (by decide)) rfl D_world.g D_world.F.kp D_world.b .nil pass0 (pa_cons (pv 1) (pa_cons (pv 2) pa_nil))) (pa_cons (pe_lst pa_nil) pa_nil)) (by rfl))
      (pss_cut (ps_for PassesOwn.never rfl (pi_range1 rfl T.n_range (pa_cons (pv 3) pa_nil)) (pg_name (i := 7) scActs.nd rfl (Or.inl rfl)) (pss_cons (ps_set (i := 8) scActs.nd rfl (.inl rfl) (pe_call (E := E0) G_act (hr.mono (by decide)) rfl D_act.g D_act.F.kp D_act.b .nil pass0 (pa_cons (pv 0) (pa_cons (pv 5) (pa_cons (pv 4) pa_nil)))))
      (pss_cons (ps_expr (pe_call (E := E0) G_go (hr.mono (by decide)) rfl D_go.g D_go.F.kp D_go.b .nil pass0 (pa_cons (pv 5) (pa_cons (pv 8) pa_nil))))
      (pss_one (ps_expr (pe_bm PySem.F.plainAttrs_list PySem.F.slot_list_append PySem.F.type_list_append mt_append (pv 6) (pa_cons (pv 8) pa_nil)))))))
      (pss_one (ps_ret (pe_tup (pa_cons (pv 6) (pa_cons (pv 5) pa_nil)))))), ?_⟩
    have sz : ∀ {n : Nat}, n ≤ 5 → n ≤ sizeLine := fun h => size_of (by omega)
    refine par_go ?_
    refine ⟨_, rfl, _, rfl, L0, F0, ks, xs, rs, fun x => x ≠ a ∧ x ≠ b, rfl, hL0, hF0, dr, nL0, nF0, fun x hx => ⟨D0.nea hx, D0.neb hx⟩, fun wa Aw H1 e1 g1 nw => ?_⟩
    refine ⟨sz (Nat.zero_le _), fun F1 nF1 => ⟨_, _, rfl, ?_⟩⟩
    have w0 : Wk a b F1 wa Aw ks rs H (upd H1 F1 (.lst [])) [] [] (wstart ks rs) (CM.start ks rs) :=
      ⟨(Kp.same (ex_same e1)).trans (Kp.new nF1), (D0.keep (ex_same e1)).new nF1, Evl.fresh_back e1 nF1, upd_same, .nil, (g1.fa2 fun x o h hx => ⟨h.1, h.2, fun z => by rw [z, nF1] at hx; cases hx⟩).ex (Ex.new nF1), nw, Gone.start gd rl⟩
    generalize upd H1 F1 (.lst []) = H2 at w0 ⊢
    refine Evl.q_cut (M := fun σ' H' => σ'[6]? = some (some (.ref F1)) ∧ σ'[5]? = some (some (.ref wa)) ∧ ∃ (A : Wa) (ys : List V) (es : List Evt) (W : Wd) (m : CM), Wk a b F1 wa A ks rs H H' ys es W m ∧ es.length = many) ?_ (fun σ' H' hh => ?_)
    · refine ⟨_, rfl, (many : Int), rfl, by omega, by omega, ?_⟩
      refine for_range (lo := 0) (n := (many : Int).toNat) (fun i σ' H' => ∃ (b7 b8 : Option V), σ' = [some (.ref a), some (.ref L0), some (.ref F0), some (.int (many : Int)), some (.int (most : Int)), some (.ref wa), some (.ref F1), b7, b8] ∧ ∃ (A : Wa) (ys : List V) (es : List Evt) (W : Wd) (m : CM), Wk a b F1 wa A ks rs H H' ys es W m ∧ es.length = i)
        ⟨_, _, rfl, Aw, [], [], _, _, w0, rfl⟩ ?_ (fun σ' H' ⟨b7, b8, e, A, ys, es, W, m, g, hl⟩ => ⟨by rw [e]; rfl, by rw [e]; rfl, A, ys, es, W, m, g, by omega⟩)
      rintro i σ' H3 hi ⟨b7, b8, rfl, A3, ys, es, W, m, g3, hl⟩
      have ll := g3.gn.fine.ll
      have gl := g3.gn.fine.gl
      have ab0 : W.About 0 := by
        rw [g3.gn.eq]
        exact goes_about start_about
      -- an event is drawn
      refine q_put ?_
      refine ⟨_, rfl, _, rfl, _, rfl, fun x => x ≠ a ∧ x ≠ b ∧ x ≠ F1, a, b, wa, A3, W, most, rfl, g3.D, g3.wa, fun x h => ⟨h.1, h.2.1⟩, ab0, by omega, by omega, view_in g3.gn.fine.wh g3.gn.fine.ow, fun p e H4 hf k4 D4 hp => ?_⟩
      have g4 := g3.mv D0 k4 D4
      obtain ⟨m2, G2⟩ := g4.gn.next hf (by omega)
      -- it is done
      refine ⟨_, rfl, _, rfl, fun x => x ≠ a ∧ x ≠ b ∧ x ≠ F1, wa, p, A3, W, es.length, e, rfl, hp, g4.wa, g4.gn.fine, by omega, fun x hx => ⟨fun z => ?_, fun z => ?_, (ne_of_none g4.hF hx).symm⟩, hf.can, fun A5 H5 w5 s5 k5 => ?_⟩
      · exact g4.D.nea hx z
      · exact g4.D.neb hx z
      obtain ⟨h5, g5⟩ := g4.next D0 hp w5 s5 k5 G2
      have lys := paired_len g4.ev
      refine ⟨_, rfl, .inl ⟨rfl, _, Evl.sq_of h5⟩, _, rfl, F1, ys, .ref p, rfl, rfl, h5, Evl.sz_lt (by omega), ?_⟩
      exact ⟨_, _, rfl, A5, _, _, _, m2, g5, by rw [List.length_append, hl]; rfl⟩
    · obtain ⟨h6, h5, A6, ys, es, W, m, g, hl⟩ := hh
      refine ⟨_, h6, _, h5, sz (by show 2 ≤ 5; decide), fun t nt => ?_⟩
      exact q t F1 wa A6 ys es W m _ (g.ex (Ex.new nt)) hl upd_same
end
end Ov


namespace Ov
open PySem PySem.Spec PyProof.Rows L2
/-! repr of a tuple or list of texts, at a run whose guards are known -/
section
variable {X : Cx}
def rShow (K : PySem.W.Frag) : List V → Hp → VK → Prop := fun vs H Q => ∃ (p : Addr) (d : PyData), vs = [.ref p] ∧ Dp K H (.ref p) d ∧ d.showable = true ∧ d.hasDict = false ∧ d.depth ≤ 20 ∧ d.shown.length ≤ sizeLine ∧ Q (.str d.shown) H
theorem call_show (hg : X.A.guards = some []) (hr : Room 1 X.A) : CallR X (.builtin "repr") (rShow X.K) := by
  rintro pins s σ H _ us Q I r ⟨p, d, rfl, hd, h1, h2, h3, h4, q⟩
  obtain ⟨u, rfl, ru⟩ := vals1 r
  cases ru
  obtain ⟨as, hR⟩ := Dp.reads I d _ _ hd rfl
  have hu := hr.un
  refine repr_of_reads' hR h1 (fun e => by rw [h2] at e; cases e) hg (by omega) (fun _ _ e => e) (fun h' u tk k => ?_) h4
  exact ⟨.str d.shown, H, I.kept k, ⟨_, rfl⟩, q⟩
end
/-- a drawn rule, as data -/
def ruleData (r : RuleD) : PyData := .tuple [.str r.k, .tuple (r.ts.map .str), .tuple (r.ds.map .str)]
end Ov


namespace Ov
open PySem PySem.Spec PyProof.Rows L2
/-! a def's promise where no repr is under way, and a law's end at its caller -/
structure FnC (P : Program) (w : World) (K : PySem.W.Frag) (mg : Str → Option Value) (base : Heap) (k : Nat) (f : Addr) (fd : FuncData) (ps : List Str) (sp : Sp) : Prop where
  go : ∀ (A : Around) (fr : List Env) (s : Shared) (H : Hp) (args : Args) (us : List Value) (vs : List V) (Q : VK), A.guards = some [] ∧ Room k A → Env0 P w K mg base A fr s H → BindsTo s fd args (ps.zip us) ∧ Vals vs us → sp vs H Q E0 →
    codeAny (model P w) A (.call (.ref f) args) (CR CX0 fr P w H s Q E0) s
section
variable {P : Program} {w : World} {K : PySem.W.Frag} {mg : Str → Option Value} {base : Heap}
theorem okC {x qual : Str} {st : Stmt} {f : Addr} {fd : FuncData} {N ps : List Str} {k : Nat} {sp : Sp} (F : Fun K x qual st f fd) (S : FnScope N ps (defScope st)) (len : ∀ vs H Q E, sp vs H Q E → vs.length = ps.length)
    (body : ∀ (cdv : Value) (A : Around) (fr : List Env) (s : Shared) (H : Hp) (vs : List V) (Q : VK), (A.deeper (envOfC qual (defScope st) s.heap.objs.size f cdv)).guards = some [] → Room k (A.deeper (envOfC qual (defScope st) s.heap.objs.size f cdv)) → sp vs H Q E0 →
      ∃ t, PSs (cxOf CX0 P w K mg base N qual (defScope st) f cdv A fr s H E0).nox (defBody st) t ∧ t { nx := fun _ H' => Q .non H', rt := Q } (start N vs) H) : FnC P w K mg base (k + 1) f fd ps sp := by
  obtain ⟨oc, od, kV, doc, pm, an, cdv, ct, osl, rfl, lk, rec0⟩ := F.ex
  constructor
  rintro A fr s H args us vs Q ⟨hg, hr⟩ e0 ⟨hb, r⟩ q
  have keep := fun b o e => (e0.bs b o e).1
  have kin : K.In s.heap := e0.mod.kin.keeps keep
  obtain ⟨t, ht, hq⟩ := body cdv A fr s H vs Q hg (hr.deeper _) q
  have pars : ∀ y ∈ ps.zip us, (defScope st).names.lookup y.1 = some .local ∨ ((defScope st).names.lookup y.1 = some .cell ∧ ((cellsFrom (s.heap.objs.size + 1) (defScope st).names []).lookup y.1).isSome = true) := by
    rintro ⟨n, v⟩ hy
    exact (S.par n (List.of_mem_zip hy).1).imp id fun z => ⟨z, PySem.W.cellsFrom_some _ _ _ (.inl z)⟩
  refine codeAny_call_function hr.depth (kin _ _ lk) rfl S.co S.gen rfl (PySem.W.codeRec_of kin rec0) (hb _ _ _ _ (wpAny_newFunctionEnv_cells S.kind pars ?_))
  rintro _ rfl s1 x
  refine ⟨(e0.mod.nolimit.keeps keep).keeps x.toInCall.keep, codeAny_func (wpAny_mono (ht.nox.run [] s1 (start N vs) H _ (inv_start S hr.hd e0 (len _ _ _ _ q) r x) hq) (fun fl s2 h => ?_) fun _ _ h => h)⟩
  cases fl with
  | next =>
    obtain ⟨_, H2, J, q2⟩ := h
    exact ⟨.non, H2, J.os, J.bare, J.base, J.hok, rfl, q2⟩
  | ret u =>
    obtain ⟨v, _, H2, J, rv, q2⟩ := h
    exact ⟨v, H2, J.os, J.bare, J.base, J.hok, rv, q2⟩
  | brk =>
    obtain ⟨_, _, _, z⟩ := h
    exact z.elim
  | cont =>
    obtain ⟨_, _, _, z⟩ := h
    exact z.elim
/-- the script's list is tracked, but where the module itself holds it -/
def trkA (K : PySem.W.Frag) (a : Addr) (o : Obj) (xs : List V) : Hp := fun b => if b = a then (match K.lookup a with | none => some (.frz o (.lst xs)) | some _ => none) else none
theorem trkA_some {a b : Addr} {o : Obj} {xs : List V} {u : HO} (h : trkA K a o xs b = some u) : b = a ∧ K.lookup a = none ∧ u = .frz o (.lst xs) := by
  unfold trkA at h
  split at h
  · rename_i e
    split at h
    · rename_i n
      cases h
      exact ⟨e, n, rfl⟩
    · cases h
  · cases h
theorem callC {mb : Str → Option Value} {k : Nat} {fa a : Addr} {fd : FuncData} {x : Str} {sp : Sp} {s : Shared} {vs : List Value} {zs : List Int} (kin : K.In s.heap) (gl : s.heap.Ns mainGlobals mg) (bl : s.heap.Ns builtinsNs mb)
    (boot : ∀ x : Str, x ≠ "__name__" → mb x = bootBuiltins x) (nl : s.heap.NoLimit) (still : s.gens = #[]) (ha : s.heap.get? a = some { cls := .type "list", data := .seq vs.toArray }) (hi : IntsAre vs zs) (hz : zs.length ≤ sizeLine) (hr : Room k callerA)
    (G : ∀ base : Heap, K.In base → base.Ns mainGlobals mg → FnC P w K mg base k fa fd [x] sp) (hb : ∀ (s : Shared) (u : Value), BindsTo s fd ⟨[u], []⟩ [(x, u)]) (hsp : ∀ H : Hp, SqL K H a (zs.map V.int) → sp [.ref a] H (fun v _ => v = .bl true) E0) :
    codeAny (model P w) callerA (.call (.ref fa) ⟨[.ref a], []⟩) (fun r s' => r = .ok (.ret (.bool true)) ∧ OldK s.heap s'.heap ∧ s'.os = s.os ∧ AllBare s'.gens) s := by
  have rv := vals_ints hi
  obtain ⟨o, ho⟩ : ∃ o : Obj, o = { cls := .type "list", data := .seq vs.toArray } := ⟨_, rfl⟩
  rw [← ho] at ha
  obtain ⟨H, hH⟩ : ∃ H, H = trkA K a o (zs.map V.int) := ⟨_, rfl⟩
  have tr : ∀ {b u}, H b = some u → b = a ∧ K.lookup a = none ∧ u = .frz o (.lst (zs.map V.int)) := fun h => trkA_some (by rw [← hH]; exact h)
  have free : ∀ {b}, (b = a → K.lookup a ≠ none) → H b = none := fun {b} n => by
    cases q : H b with
    | none => rfl
    | some u => exact absurd (tr q).2.1 (n (tr q).1)
  have sq : SqL K H a (zs.map V.int) := by
    cases q : K.lookup a with
    | none => exact .inl (.inr ⟨o, by rw [hH]; unfold trkA; rw [if_pos rfl, q]⟩)
    | some o2 =>
      have e := kin a o2 q
      rw [ha] at e
      cases e
      rw [ho] at q
      exact .inr ⟨_, vs.toArray, _, q, rfl, rfl, rfl, by rw [List.size_toArray, hi.length]; exact hz, by simpa using rv⟩
  have ok : HOk P w H s.heap := fun b u q => by
    obtain ⟨rfl, _, rfl⟩ := tr q
    have ha2 := ha
    rw [ho] at ha2
    exact ⟨ha, by rw [List.length_map]; exact hz, vs, _, rv, ha2⟩
  have up : ∀ {b : Addr} {m : Str → Option Value}, s.heap.Ns b m → (hidT s.heap H).Ns b m := fun {b m} ⟨od, es, ep, e, d, r⟩ => by
    refine ⟨od, es, ep, hidT_get e ?_, d, r⟩
    cases q : H b with
    | none => rfl
    | some u =>
      obtain ⟨rfl, _⟩ := tr q
      rw [ha] at e
      cases e
      rw [ho] at d
      cases d
  have kb : K.In (hidT s.heap H) := fun b ob e => hidT_get (kin b ob e) (free fun z n => by rw [z, n] at e; cases e)
  obtain ⟨mc, l1, l2⟩ := nl
  have e0 : Env0 P w K mg (hidT s.heap H) callerA [] s H := ⟨rfl, ⟨kb, up gl, ⟨mb, up bl, boot⟩, mc, up l1, l2⟩, fun b ob e => of_hidT e, Nat.le_of_eq (hidT_size _ _), trivial, (fun _ z => nomatch z), ok, .of_eq still⟩
  refine codeAny_mono ((G _ kb (up gl)).go callerA [] s H ⟨[.ref a], []⟩ [.ref a] [.ref a] (fun v _ => v = .bl true) ⟨rfl, hr⟩ e0 ⟨hb s (.ref a), .cons rfl .nil⟩ (hsp H sq)) fun r s2 h => ?_
  match r, h with
  | .ok (.ret u), ⟨v, H2, os, bare, un, ok2, rr, q⟩ =>
    have q' : v = .bl true := q
    subst q'
    cases (show u = Value.bool true from rr)
    refine ⟨rfl, OldK.of_keep fun b ob e => ?_, os, bare⟩
    cases q : H b with
    | none => exact un.keep b ob e q (fun z => nomatch z) (by simp)
    | some u2 =>
      obtain ⟨rfl, _, rfl⟩ := tr q
      rw [ha] at e
      cases e
      exact (ok2 b _ (un.frzs b o _ q)).1
end
theorem walkC {l : PySem.W.OpenLaw} {n k : Nat} {q : Program} {loose : List Str} {XP : (Str → Option Value) → Heap → Prop} {YP : World → Heap → Prop} {d : DefRec} {x : Str} (hn : l.most = some n) (hz : n ≤ sizeLine) (hd : d.params.defaults = []) (hr : Room k callerA)
    (T : ∀ (w : World) (mg : Str → Option Value) (fa : Addr) (h : Heap), YP w h → h.Ns mainGlobals mg → mg d.name = some (.ref fa) → ∃ (K : PySem.W.Frag) (fd : FuncData) (sp : Sp), K.In h ∧ (∀ (s : Shared) (u : Value), BindsTo s fd ⟨[u], []⟩ [(x, u)]) ∧
      (∀ (H : Hp) (a : Addr) (zs : List Int), zs.length ≤ n → SqL K H a (zs.map V.int) → sp [.ref a] H (fun v _ => v = .bl true) E0) ∧ ∀ base : Heap, K.In base → base.Ns mainGlobals mg → FnC l.prog w K mg base k fa fd [x] sp) :
    PySem.W.WalkO q loose XP YP l.row.toRowW d [] (fun f vs => PySem.call f vs) := by
  refine Att.attach_call hn hd fun w _ s mg mb fa _ _ _ _ a vs zs G Y _ _ _ hmg hobj hints hlen still => ?_
  obtain ⟨K, fd, sp, kin, hb, hsp, go⟩ := T w mg fa _ Y G.T.g hmg
  exact callC kin G.T.g G.T.b G.T.builtins G.T.nolimit still hobj hints (Nat.le_trans hlen hz) hr go hb fun H => hsp H a zs hlen
end Ov



namespace Ov
open PySem PySem.Spec PyProof.Rows L2
/-! ### (a, b, ..) = a list of that length -/
section
open PySem.W PySem.Calls
variable {prog : Program} {w : World} {A : Around} {E : Value → Shared → Prop} {s : Shared}
theorem unpack_list {l : Addr} {items : Array Value} {Q : List Value → Shared → Prop} (hh : A.handled = none) (hl : s.heap.IsList l items)
    (h : ∀ h2 tk, (∀ b u, s.heap.get? b = some u → h2.get? b = some u) → Q items.toList { s with heap := h2, toks := tk }) : wpAny (model prog w) A (unpackItems (.ref l) items.size none) Q E s := by
  have far : l ≠ s.heap.objs.size := by
    obtain ⟨o, ho, _⟩ := hl
    exact Nat.ne_of_lt (Heap.lt_size ho)
  unfold unpackItems notIterableAtAll
  refine wpAny_bind (wpAny_bind (wpAny_specialOf hl.typeIs slot_list_iter.lookup (wpAny_pure ?_)))
  simp only [Bool.false_eq_true, if_false]
  refine wpAny_bind (wpAny_holding (wpAny_pyIter_list hl ?_))
  refine wpAny_bind (wpAny_holding (kun_draw far items.size 0 _ _ ⟨_, Heap.get?_push_size _ rfl, rfl, rfl⟩ (hl.push _) (by omega) fun h1 it1 sb => ?_))
  have hl1 : h1.IsList l items := (hl.push _).extBut sb.extBut far
  rw [Nat.zero_add] at it1
  have all : List.take items.size (List.drop 0 items.toList) = items.toList := by
    rw [List.drop_zero]
    exact List.take_of_length_le (by simp)
  rw [all, if_neg (by simp)]
  refine wpAny_bind (wpAny_holding ((Walks.list (prog := prog) (w := w) (A := A) hh _ l far items).toS.done { s with heap := h1 } _ _ ⟨it1, hl1⟩ fun s2 mv => ?_))
  simp only [Option.isSome_none, Bool.false_eq_true, if_false]
  obtain ⟨h2, g2, d2, tk, os2⟩ := s2
  obtain rfl : g2 = s.gens := mv.gens
  obtain rfl : d2 = s.drawn := mv.drawn
  obtain rfl : os2 = s.os := mv.os
  refine wpAny_pure (h h2 tk fun b u e => ?_)
  have nb : b ≠ s.heap.objs.size := Nat.ne_of_lt (Heap.lt_size e)
  exact mv.heap b u (by simpa using nb) (sb.extBut b u nb (Heap.get?_push_of_some _ e))
end
def gLst (K : PySem.W.Frag) (n : Nat) (t : TGs) : TG := fun v σ H Q => ∃ a xs, v = .ref a ∧ SqL K H a xs ∧ xs.length = n ∧ t xs σ H Q
theorem pg_lst {X : Cx} {pos : Pos} {es : List Expr} {k : Nat} {t : TGs} {n : Nat} (calm : X.calm = true) (h : PGs X es t)
    (hn : (assignEach es X.env).length = n := by rfl) (hst : (assignEach es X.env).findIdx? (·.1) = none := by rfl) : PG X (.Tuple es k pos) (gLst X.K n t) := by
  refine ⟨fun pins s σ H v u Q I r hw => ?_⟩
  obtain ⟨a, xs, e1, hq, hl, hw⟩ := hw
  subst e1
  cases r
  obtain ⟨its, rv, pl, hz⟩ := I.list hq
  have lz : its.toArray.size = n := by rw [List.size_toArray, ← rv.length, hl]
  rw [PyProof.Rows.assign_Tuple]
  refine wpAny_bind (wpAny_standAt ?_)
  unfold unpack
  rw [hn, hst, ← lz]
  refine wpAny_bind (wpAny_holding (unpack_list (I.ok.hd calm) pl.isList fun h2 tk ke => ?_))
  have I1 : Inv X pins σ H { s with heap := h2, toks := tk } := I.kept ke
  exact h.run pins _ σ _ _ _ Q I1 (by simpa using rv) hw
end Ov


namespace Ov
open PySem PySem.Spec PyProof.Rows L2
open Evl (pss_cut tCut Ex Ev EvT EvL EvA EvU)
/-! ### a def that shows data is called: no repr is under way -/
section
variable {X : Cx} {k : Nat} {f : Addr} {fd : FuncData} {ps : List Str} {sp : Sp} {dvs : List V} {ds : List Value} {x : Str} {p pos : Pos} {e : Expr} {es : List Expr} {t : TA}
theorem run_fnC {pins : List (Addr × Obj)} {σ : L2.St} {H : Hp} {s : Shared} {Q : VK} {us : List Value} {vs : List V} (F : FnC X.prog X.w X.K X.mg X.base k f fd ps sp) (len : ∀ vs H Q E, sp vs H Q E → vs.length = ps.length) (hg : X.A.guards = some []) (hr : Room k X.A) (hb : Binds X.K fd ps ds) (hd : Vals dvs ds)
    (I : Inv X pins σ H s) (r : Vals vs us) (h : sp (vs ++ dvs) H Q E0) : wpAny (model X.prog X.w) X.A (call (.ref f) us) (EP X pins σ Q) X.xe s := by
  have r2 : Vals (vs ++ dvs) (us ++ ds) := r.append hd
  have hl : (us ++ ds).length = ps.length := by rw [← r2.length]; exact len _ _ _ _ h
  refine wpAny_call (codeAny_mono (F.go X.A X.stack s H ⟨us, []⟩ (us ++ ds) (vs ++ dvs) Q ⟨hg, hr⟩ I.env0 ⟨hb s us I.kIn hl, r2⟩ h) fun r s' hq => ?_)
  cases r with
  | error e => exact pass0 pins σ H s e s' I hq
  | ok fl =>
    cases fl with
    | ret u => exact I.after hq
    | next => exact False.elim hq
    | brk => exact False.elim hq
    | cont => exact False.elim hq
theorem pe_callC (F : FnC X.prog X.w X.K X.mg X.base k f fd ps sp) (len : ∀ vs H Q E, sp vs H Q E → vs.length = ps.length) (hg0 : X.A.guards = some []) (hr : Room k X.A) (hg : Gl X x) (hm : X.mg x = some (.ref f)) (hk : PySem.W.keepIn X.K (.ref f) = true) (hb : Binds X.K fd ps ds) (hd : Vals dvs ds)
    (ha : PA X (e :: es) t) (hdb : (x == ("__debug__" : Str)) = false := by decide) (he : starEach (e :: es) X.env = (false, eval e X.env) :: starEach es X.env := by rfl) (hpl : (backTo pos (starEach es X.env)).any (·.1) = false := by rfl) :
    PE X (.Call (.Name x p) (e :: es) [] pos) (tCall sp dvs E0 t) := by
  refine ⟨fun pins s σ H Q I h => ?_⟩
  refine wpAny_Call_Name_kw (ld_glob I hg hm ?_ hdb)
  refine PySem.W.callWith_K (h₀ := X.base) I.ok.mod.kin hk (thn (ha.run pos pins s σ H _ I h) fun us s1 ⟨vs, H1, I1, r, q⟩ => ⟨I1.kIn, ?_⟩) he hpl
  exact run_fnC F len hg0 hr hb hd I1 r q
end
/-! ### data that can be shown -/
structure SD (d : PyData) (n b : Nat) : Prop where
  sh : d.showable = true
  nd : d.hasDict = false
  dp : d.depth ≤ n
  lf : PyData.leavesShort 8 d = true
  bk : d.bulk ≤ b
theorem SD.none (n b : Nat) : SD .none n b := ⟨rfl, rfl, Nat.zero_le _, rfl, Nat.zero_le _⟩
theorem nat_short : ∀ i < 200, PyData.showable (.int ((i : Nat) : Int)) = true ∧ PyData.leavesShort 8 (.int ((i : Nat) : Int)) = true := by decide +kernel
theorem SD.nat {i : Nat} (h : i < 200) (n b : Nat) : SD (.int (i : Int)) n b := ⟨(nat_short i h).1, rfl, Nat.zero_le _, (nat_short i h).2, Nat.zero_le _⟩
theorem SD.int {i : Int} (h0 : 0 ≤ i) (h : i < 200) (n b : Nat) : SD (.int i) n b := by
  obtain ⟨k, rfl⟩ := Int.eq_ofNat_of_zero_le h0
  exact SD.nat (by omega) n b
theorem leaves_str {x : Str} (h : PyData.canLay0 (.str x) = true) : PyData.leavesShort 8 (.str x) = true := by
  have h' : x.cps.all (· < 0x110000) = true := h
  show (x.cps.toList.all fun c => decide (c < 16 ^ 8)) = true
  rw [List.all_eq_true]
  intro c hc
  rw [Array.all_eq_true_iff_forall_mem] at h'
  have := h' c (by simpa using hc)
  simp only [decide_eq_true_eq] at this ⊢
  omega
theorem SD.str {x : Str} (h : PyData.canLay0 (.str x) = true) {b : Nat} (hb : x.cps.size ≤ b) (n : Nat) : SD (.str x) n b := ⟨rfl, rfl, Nat.zero_le _, leaves_str h, hb⟩
theorem SD.ov {p : Option Nat} (h : ∀ i, p = some i → i < 200) (n b : Nat) : SD (dO p) n b := by
  cases p with
  | none => exact SD.none n b
  | some i => exact SD.nat (h i rfl) n b
theorem SD.all {n b : Nat} : ∀ {ds : List PyData}, (∀ d ∈ ds, SD d n b) → PyData.showableAll ds = true ∧ PyData.hasDictAll ds = false ∧ PyData.depthAll ds ≤ n ∧ PyData.leavesShortAll 8 ds = true ∧ PyData.bulkAll ds ≤ ds.length * (b + 1)
  | [], _ => ⟨rfl, rfl, Nat.zero_le _, rfl, Nat.zero_le _⟩
  | d :: ds, h => by
    have h1 := h d List.mem_cons_self
    obtain ⟨a1, a2, a3, a4, a5⟩ := SD.all fun x hx => h x (List.mem_cons_of_mem _ hx)
    refine ⟨?_, ?_, ?_, ?_, ?_⟩
    · show (d.showable && PyData.showableAll ds) = true
      rw [h1.sh, a1]
      rfl
    · show (d.hasDict || PyData.hasDictAll ds) = false
      rw [h1.nd, a2]
      rfl
    · show max d.depth (PyData.depthAll ds) ≤ n
      exact Nat.max_le.mpr ⟨h1.dp, a3⟩
    · show (PyData.leavesShort 8 d && PyData.leavesShortAll 8 ds) = true
      rw [h1.lf, a4]
      rfl
    · show d.bulk + 1 + PyData.bulkAll ds ≤ (ds.length + 1) * (b + 1)
      have := h1.bk
      rw [Nat.add_mul]
      omega
theorem SD.tup {ds : List PyData} {n b c : Nat} (h : ∀ d ∈ ds, SD d n b) (hc : ds.length * (b + 1) ≤ c) : SD (.tuple ds) (n + 1) c := by
  obtain ⟨a1, a2, a3, a4, a5⟩ := SD.all h
  exact ⟨a1, a2, Nat.succ_le_succ a3, a4, Nat.le_trans a5 hc⟩
theorem SD.lst {ds : List PyData} {n b c : Nat} (h : ∀ d ∈ ds, SD d n b) (hc : ds.length * (b + 1) ≤ c) : SD (.list ds) (n + 1) c := by
  obtain ⟨a1, a2, a3, a4, a5⟩ := SD.all h
  exact ⟨a1, a2, Nat.succ_le_succ a3, a4, Nat.le_trans a5 hc⟩
theorem SD.fits {d : PyData} {n b : Nat} (s : SD d n b) (hb : b ≤ 1000000) : d.shown.length ≤ sizeLine := by
  have h := PyData.shown_le_bulk 8 (Nat.le_refl _) d s.lf
  have hz : sizeLine = 16777216 := sizeLine_eq
  have := s.bk
  omega
theorem ev_showD {K : PySem.W.Frag} {σ : L2.St} {H : Hp} {te : TE} {d : PyData} {b : Nat} (h : EvP te σ H (fun p H2 => Dp K H2 (.ref p) d)) (s : SD d 20 b) (hb : b ≤ 1000000) : Ev (tCB (rShow K) (tCons te tNil)) σ H (.str d.shown) := fun H1 e Q q =>
  h H1 e _ fun p H2 e2 dp => ⟨p, _, rfl, dp, s.sh, s.nd, s.dp, s.fits hb, q H2 e2⟩
/-! ### all that is told of a weaving -/
def dN (i : Nat) : PyData := .int (i : Int)
def dataT (m : CM) : PyData := .list [.tuple (m.letters.map dL), .tuple (m.shows.map dO), dO m.whole, dO m.own, .tuple (m.answers.map dN), dO m.counted, .tuple (m.rules.map dO), .tuple (m.goalsT.map PyData.str)]
/-- small enough to be shown -/
structure CM.Few (m : CM) : Prop where
  ll : m.letters.length ≤ 100
  nb : ∀ l ∈ m.letters, 0 ≤ l.2 ∧ l.2 < 200
  sl : m.shows.length ≤ 100
  al : m.answers.length ≤ 100
  rl : m.rules.length ≤ 100
  ri : ∀ r ∈ m.rules, ∀ i, r = some i → i < 200
theorem goal_size : ∀ k ∈ goalWords, PyData.canLay0 (.str k) = true ∧ k.cps.size ≤ 10 := by decide +kernel
theorem kind_size : ∀ k ∈ letterKinds ++ [("other" : Str)], PyData.canLay0 (.str k) = true ∧ k.cps.size ≤ 10 := by decide +kernel
theorem CM.Few.data {m : CM} (h : m.Few) (w : m.WF) : SD (dataT m) 20 100000 := by
  have ll := h.ll
  have li : ∀ {i : Nat}, i < m.letters.length → i < 200 := fun h => by omega
  have al : ∀ i, i < m.answers.length → i < 200 := fun i hi => by have := h.al; omega
  have gl : m.goalsT.length ≤ 5 := List.length_filter_le _ _
  have e1 : SD (.tuple (m.letters.map dL)) 2 3000 := SD.tup (n := 1) (b := 22) (fun d hd => by
    obtain ⟨l, hl, rfl⟩ := List.mem_map.mp hd
    have kk := kind_size _ ((w.kinds l hl).elim (fun z => List.mem_append_left _ z) (fun z => List.mem_append_right _ (List.mem_singleton.mpr z)))
    exact SD.tup (n := 0) (b := 10) (fun e he => by
      simp only [List.mem_cons, List.not_mem_nil, or_false] at he
      rcases he with rfl | rfl
      · exact SD.str kk.1 kk.2 0
      · exact SD.int (h.nb l hl).1 (h.nb l hl).2 0 10) (by show 2 * 11 ≤ 22; decide)) (by rw [List.length_map]; omega)
  have eo : ∀ {l : List (Option Nat)}, l.length ≤ 100 → (∀ r ∈ l, ∀ i, r = some i → i < 200) → SD (.tuple (l.map dO)) 1 3000 := fun hl hi => SD.tup (n := 0) (b := 10) (fun d hd => by
    obtain ⟨r, hr, rfl⟩ := List.mem_map.mp hd
    exact SD.ov (hi r hr) 0 10) (by rw [List.length_map]; omega)
  have e2 := eo h.sl fun r hr i e => li (w.shows i (by rw [← e]; exact hr))
  have e3 : SD (.tuple (m.answers.map dN)) 1 3000 := SD.tup (n := 0) (b := 10) (fun d hd => by
    obtain ⟨r, hr, rfl⟩ := List.mem_map.mp hd
    exact SD.nat (li (w.ans r hr)) 0 10) (by rw [List.length_map]; have := h.al; omega)
  have e4 := eo h.rl h.ri
  have e5 : SD (.tuple (m.goalsT.map PyData.str)) 1 3000 := SD.tup (n := 0) (b := 10) (fun d hd => by
    obtain ⟨r, hr, rfl⟩ := List.mem_map.mp hd
    have g := goal_size r (List.mem_filter.mp hr).1
    exact SD.str g.1 g.2 0) (by rw [List.length_map]; omega)
  have up : ∀ {d : PyData} {n b : Nat}, SD d n b → n ≤ 2 → b ≤ 3000 → SD d 19 3000 := fun s h1 h2 => ⟨s.sh, s.nd, Nat.le_trans s.dp (Nat.le_trans h1 (by decide)), s.lf, Nat.le_trans s.bk h2⟩
  refine SD.lst (n := 19) (b := 3000) (fun d hd => ?_) (by show 8 * 3001 ≤ 100000; decide)
  simp only [List.mem_cons, List.not_mem_nil, or_false] at hd
  rcases hd with rfl | rfl | rfl | rfl | rfl | rfl | rfl | rfl
  · exact up e1 (by decide) (by decide)
  · exact up e2 (by decide) (by decide)
  · exact SD.ov (fun i e => li (w.whole i e)) _ _
  · exact SD.ov (fun i e => li (w.own i e)) _ _
  · exact up e3 (by decide) (by decide)
  · exact SD.ov (fun i e => al i (w.counted i e)) _ _
  · exact up e4 (by decide) (by decide)
  · exact up e5 (by decide) (by decide)
theorem at_consP {te : TE} {t : TA} {σ : L2.St} {H : Hp} {Q : List V → Hp → Prop} {Pp : Addr → Hp → Prop} (h : EvP te σ H Pp) (k : ∀ p H1, Ex H H1 → Pp p H1 → t σ H1 fun ys H2 => Q (V.ref p :: ys) H2) : tCons te t σ H Q := h H (Ex.refl _) _ k
def spTold (K : PySem.W.Frag) (CD : Addr) : Sp := fun vs H Q _ => ∃ (q : Addr) (m : CM), vs = [.ref q] ∧ PlayedAt K CD H q m ∧ m.WF ∧ m.Few ∧ ∀ H', Ex H H' → Q (.str (dataT m).shown) H'
def spDue : Sp := fun vs H Q _ => ∃ (Fa : Addr → Prop) (w : Addr) (A : Wa) (W : Wd) (m : CM), vs = [.ref w] ∧ WorldAt Fa H w A W ∧ Like W m ∧ m.WF ∧ m.Few ∧ ∀ H', Ex H H' → Q (.str (dataT m).shown) H'
end Ov


namespace Ov
open PySem PySem.Spec PyProof.Rows L2
/-! ### what every drawn weaving keeps; beginnings (pure) -/
def Evt.newL (W : Wd) : Evt → List (Str × Int × Bool)
  | .send k ab => [(k, W.numb (W.ls.length - 1) + (if k ∈ W.ks then 1 else 0), ab)]
  | _ => []
def Evt.ruleOf (W : Wd) : Evt → Option Nat
  | .come i => W.ruleFor i
  | .heard n => W.ruleHear n
  | _ => none
theorem go_parts (W : Wd) (e : Evt) : (W.go e).ls = W.ls ++ e.newL W ∧ (W.go e).ks = W.ks ∧ (W.go e).rs = W.rs ∧ (W.go e).dn = W.dn ++ [e.ruleOf W] := by
  show (W.go1 e).ls = _ ∧ (W.go1 e).ks = _ ∧ (W.go1 e).rs = _ ∧ (W.go1 e).dn = _
  cases e with
  | send k ab => cases ab <;> exact ⟨rfl, rfl, rfl, rfl⟩
  | come j =>
    obtain ⟨s, _, _⟩ := deeds_same (W.kind j) j (deedsM W.rs (W.ruleFor j)) ({ W with ca := W.ca ++ [j], dn := W.dn ++ [W.ruleFor j] } : Wd)
    exact ⟨s.ls.trans (List.append_nil _).symm, s.ks, s.rs, s.dn⟩
  | answer => exact ⟨(List.append_nil _).symm, rfl, rfl, rfl⟩
  | heard n =>
    show (W.hear n).ls = _ ∧ (W.hear n).ks = _ ∧ (W.hear n).rs = _ ∧ (W.hear n).dn = _
    unfold Wd.hear
    split <;> exact ⟨(List.append_nil _).symm, rfl, rfl, rfl⟩
structure Wd.Tame (W : Wd) : Prop where
  nb : ∀ l ∈ W.ls, 0 ≤ l.2.1 ∧ l.2.1 ≤ W.ls.length
  ri : ∀ r ∈ W.dn, ∀ i, r = some i → i < W.rs.length
theorem find_lt {α : Type} {p : α → Bool} {l : List α} {i : Nat} (h : l.findIdx? p = some i) : i < l.length := (List.findIdx?_eq_some_iff_getElem.mp h).1
theorem numb_mem {W : Wd} {i : Nat} (h : i < W.ls.length) : ∃ l ∈ W.ls, W.numb i = l.2.1 := by
  refine ⟨W.ls[i], List.getElem_mem h, ?_⟩
  unfold Wd.numb
  rw [List.getElem?_eq_getElem h]
  rfl
theorem Wd.Tame.go {W : Wd} (t : W.Tame) (ne : 0 < W.ls.length) (e : Evt) : (W.go e).Tame := by
  obtain ⟨h1, h2, h3, h4⟩ := go_parts W e
  constructor
  · intro l hl
    rw [h1] at hl
    rw [h1, List.length_append]
    rcases List.mem_append.mp hl with hl | hl
    · have := t.nb l hl
      omega
    · cases e with
      | send k ab =>
        rw [List.mem_singleton.mp hl]
        obtain ⟨l0, hl0, e0⟩ := numb_mem (W := W) (i := W.ls.length - 1) (by omega)
        have := t.nb l0 hl0
        show 0 ≤ W.numb (W.ls.length - 1) + (if k ∈ W.ks then 1 else 0) ∧ W.numb (W.ls.length - 1) + (if k ∈ W.ks then 1 else 0) ≤ ((W.ls.length + 1 : Nat) : Int)
        rw [e0]
        split <;> omega
      | come i => cases hl
      | answer => cases hl
      | heard n => cases hl
  · intro r hr i hi
    rw [h4] at hr
    rw [h3]
    rcases List.mem_append.mp hr with hr | hr
    · exact t.ri r hr i hi
    · rw [List.mem_singleton.mp hr] at hi
      cases e with
      | send k ab => cases hi
      | come j => exact find_lt hi
      | answer => cases hi
      | heard n => exact find_lt hi
theorem Wd.Tame.start (ks : List Str) (rs : List RuleD) : (wstart ks rs).Tame := ⟨fun l hl => by
  rw [List.mem_singleton.mp hl]
  exact ⟨Int.le_refl _, by show (0 : Int) ≤ 1; decide⟩, fun r hr => nomatch hr⟩
theorem Wd.Tame.goes : ∀ {es : List Evt} {W : Wd}, W.Tame → 0 < W.ls.length → (es.foldl Wd.go W).Tame
  | [], _, t, _ => t
  | e :: es, W, t, ne => Wd.Tame.goes (es := es) (t.go ne e) (by rw [(go_parts W e).1, List.length_append]; omega)
theorem goes_ks : ∀ (es : List Evt) (W : Wd), (es.foldl Wd.go W).ks = W.ks ∧ (es.foldl Wd.go W).rs = W.rs
  | [], _ => ⟨rfl, rfl⟩
  | e :: es, W => ⟨(goes_ks es (W.go e)).1.trans (go_parts W e).2.1, (goes_ks es (W.go e)).2.trans (go_parts W e).2.2.1⟩
section
variable {ks : List Str} {rs : List RuleD} {es : List Evt} {W : Wd} {m : CM}
theorem Gone.tame (G : Gone ks rs es W m) : W.Tame := by
  rw [G.eq]
  exact (Wd.Tame.start ks rs).goes (by show 0 < 1; decide)
theorem Gone.few (G : Gone ks rs es W m) (h : es.length ≤ 90) : m.Few := by
  have f := G.fine
  have t := G.tame
  have ll := f.ll
  exact { ll := by rw [G.lk.len]; omega
          nb := fun l hl => by
            rw [G.lk.lt] at hl
            obtain ⟨l0, h0, rfl⟩ := List.mem_map.mp hl
            have := t.nb l0 h0
            show 0 ≤ l0.2.1 ∧ l0.2.1 < 200
            omega
          sl := by rw [G.lk.sh]; have := f.hl; omega
          al := by rw [G.lk.an]; have := f.gl; omega
          rl := by rw [G.lk.ru]; have := f.dl; omega
          ri := fun r hr i hi => by
            rw [G.lk.ru] at hr
            have := t.ri r hr i hi
            have := f.rl
            omega }
theorem Gone.evs (G : Gone ks rs es W m) : ∀ z ∈ es.map Evt.text, EvOk z := fun z hz => by
  obtain ⟨e, he, rfl⟩ := List.mem_map.mp hz
  exact (G.fm e he).ok
theorem Gone.forms (G : Gone ks rs es W m) : ∀ z ∈ es.map Evt.text, Form z := fun z hz => by
  obtain ⟨e, he, rfl⟩ := List.mem_map.mp hz
  exact G.fm e he
end
/-! #### beginnings -/
theorem goAll_app : ∀ {a b : List Str} {m mF : CM}, m.goAll (a ++ b) = some mF → ∃ m1, m.goAll a = some m1 ∧ m1.goAll b = some mF
  | [], b, m, mF, h => ⟨m, rfl, h⟩
  | z :: a, b, m, mF, h => by
    obtain ⟨m2, h1, h2⟩ := Option.bind_eq_some_iff.mp h
    obtain ⟨m3, h3, h4⟩ := goAll_app (a := a) h2
    refine ⟨m3, ?_, h4⟩
    show (m.goOn z).bind (fun m2 => m2.goAll a) = _
    rw [h1]
    exact h3
theorem goAll_cat : ∀ {a b : List Str} {m m1 mF : CM}, m.goAll a = some m1 → m1.goAll b = some mF → m.goAll (a ++ b) = some mF
  | [], b, m, m1, mF, h, h2 => by
    cases Option.some.inj h
    exact h2
  | z :: a, b, m, m1, mF, h, h2 => by
    obtain ⟨m2, h3, h4⟩ := Option.bind_eq_some_iff.mp h
    show (m.goOn z).bind (fun m2 => m2.goAll (a ++ b)) = _
    rw [h3]
    exact goAll_cat (a := a) h4 h2
/-- a weaving and what it goes on to -/
structure CM.Pre (m n : CM) (k : Nat) : Prop where
  sh : ∃ s, n.shows = m.shows ++ s ∧ s.length = k
  ru : ∃ s, n.rules = m.rules ++ s ∧ s.length = k
  lt : ∃ s, n.letters = m.letters ++ s
  an : ∃ s, n.answers = m.answers ++ s
  gl : ∀ g ∈ m.goals, g ∈ n.goals
  ks : n.ks = m.ks
  rs : n.rs = m.rs
theorem CM.Pre.refl (m : CM) : m.Pre m 0 := ⟨⟨[], (List.append_nil _).symm, rfl⟩, ⟨[], (List.append_nil _).symm, rfl⟩, ⟨[], (List.append_nil _).symm⟩, ⟨[], (List.append_nil _).symm⟩, fun _ h => h, rfl, rfl⟩
theorem CM.Pre.trans {a b c : CM} {j k : Nat} (h : a.Pre b j) (g : b.Pre c k) : a.Pre c (j + k) := by
  obtain ⟨⟨s1, e1, l1⟩, ⟨r1, f1, q1⟩, ⟨t1, u1⟩, ⟨v1, w1⟩, g1, x1, y1⟩ := h
  obtain ⟨⟨s2, e2, l2⟩, ⟨r2, f2, q2⟩, ⟨t2, u2⟩, ⟨v2, w2⟩, g2, x2, y2⟩ := g
  exact ⟨⟨s1 ++ s2, by rw [e2, e1, List.append_assoc], by rw [List.length_append, l1, l2]⟩, ⟨r1 ++ r2, by rw [f2, f1, List.append_assoc], by rw [List.length_append, q1, q2]⟩, ⟨t1 ++ t2, by rw [u2, u1, List.append_assoc]⟩, ⟨v1 ++ v2, by rw [w2, w1, List.append_assoc]⟩, fun z hz => g2 z (g1 z hz), x2.trans x1, y2.trans y1⟩
theorem act_more {m : CM} {z : Str} {x : CM × Option Nat × Option Nat} (h : CM.ActR m z x) : (∃ s, x.1.letters = m.letters ++ s) ∧ ∃ s, x.1.answers = m.answers ++ s := by
  cases h with
  | send _ => exact ⟨⟨_, CM.send_letters z⟩, ⟨[], (CM.send_rest z).2.2.1.trans (List.append_nil _).symm⟩⟩
  | come _ _ => exact ⟨⟨[], (CM.come_rest _).1.trans (List.append_nil _).symm⟩, ⟨[], (CM.come_rest _).2.1.trans (List.append_nil _).symm⟩⟩
  | hear _ => exact ⟨⟨[], (CM.hear_rest _).1.trans (List.append_nil _).symm⟩, ⟨[], (CM.hear_rest _).2.1.trans (List.append_nil _).symm⟩⟩
  | answer _ => exact ⟨⟨[], (List.append_nil _).symm⟩, ⟨_, rfl⟩⟩
theorem goOn_pre {m n : CM} {z : Str} (f : Form z) (h : m.goOn z = some n) (hl : m.letters.length < 48) (ha : m.answers.length < 48) : m.Pre n 1 := by
  obtain ⟨x, hx, rfl⟩ := CM.goOn_iff.mp h
  obtain ⟨⟨s1, e1⟩, ⟨s2, e2⟩⟩ := act_more (CM.of_act f hx hl ha)
  obtain ⟨sm, a1, a2, _⟩ := CM.after_same x
  obtain ⟨b1, b2, b3, b4, b5, b6, b7⟩ := CM.act_rows hx
  refine ⟨⟨[x.1.showing], by rw [a1, b1], rfl⟩, ⟨[x.2.1], by rw [a2, b2], rfl⟩, ⟨s1, by rw [sm.lt, e1]⟩, ⟨s2, by rw [sm.an, e2]⟩, fun g hg => ?_, sm.ks.trans b6, sm.rs.trans b7⟩
  have ml := CM.looked_same (m := x.1.ruled x.2.1)
  show g ∈ ((x.1.ruled x.2.1).look.judge x.2.2).goals
  rw [judge_mem, ml.2.2.2]
  refine .inl (.inl (.inl (.inl (.inl ?_))))
  show g ∈ x.1.goals
  rw [b5]
  exact hg
/-- how long a weaving so far is -/
structure CM.Sized (m : CM) (k : Nat) : Prop where
  ll : m.letters.length ≤ k + 1
  al : m.answers.length ≤ k
  sh : m.shows.length = k + 1
  ru : m.rules.length = k
theorem CM.Sized.start (ks : List Str) (rs : List RuleD) : (CM.start ks rs).Sized 0 := ⟨Nat.le_refl _, Nat.le_refl _, rfl, rfl⟩
theorem act_len {m : CM} {z : Str} {x : CM × Option Nat × Option Nat} (h : CM.ActR m z x) : x.1.letters.length ≤ m.letters.length + 1 ∧ x.1.answers.length ≤ m.answers.length + 1 := by
  cases h with
  | send _ =>
    show (m.send z).letters.length ≤ _ ∧ (m.send z).answers.length ≤ _
    rw [CM.send_letters z, (CM.send_rest z).2.2.1, List.length_append]
    exact ⟨Nat.le_refl _, Nat.le_succ _⟩
  | @come i _ _ =>
    show (m.come i).letters.length ≤ _ ∧ (m.come i).answers.length ≤ _
    rw [(CM.come_rest _).1, (CM.come_rest _).2.1]
    exact ⟨Nat.le_succ _, Nat.le_succ _⟩
  | @hear a _ =>
    show (m.hear a).letters.length ≤ _ ∧ (m.hear a).answers.length ≤ _
    rw [(CM.hear_rest _).1, (CM.hear_rest _).2.1]
    exact ⟨Nat.le_succ _, Nat.le_succ _⟩
  | answer _ =>
    show m.letters.length ≤ _ ∧ (m.answers ++ [_]).length ≤ _
    rw [List.length_append]
    exact ⟨Nat.le_succ _, Nat.le_refl _⟩
theorem CM.Sized.goOn {m n : CM} {z : Str} {k : Nat} (s : m.Sized k) (f : Form z) (h : m.goOn z = some n) (hk : k ≤ 46) : n.Sized (k + 1) := by
  have ll := s.ll
  have al := s.al
  obtain ⟨x, hx, e⟩ := CM.goOn_iff.mp h
  have R := CM.of_act f hx (by omega) (by omega)
  have p := goOn_pre f h (by omega) (by omega)
  obtain ⟨s1, e1, l1⟩ := p.sh
  obtain ⟨r1, f1, q1⟩ := p.ru
  obtain ⟨sm, _⟩ := CM.after_same x
  obtain ⟨h1, h2⟩ := act_len R
  refine ⟨?_, ?_, by rw [e1, List.length_append, l1, s.sh], by rw [f1, List.length_append, q1, s.ru]⟩
  · rw [e, sm.lt]
    omega
  · rw [e, sm.an]
    omega
theorem goAll_pre : ∀ {b : List Str} {m n : CM} {k : Nat}, (∀ z ∈ b, Form z) → m.Sized k → k + b.length ≤ 46 → m.goAll b = some n → m.Pre n b.length ∧ n.Sized (k + b.length)
  | [], m, n, k, _, s, _, h => by
    cases Option.some.inj h
    exact ⟨CM.Pre.refl m, s⟩
  | z :: b, m, n, k, f, s, hk, h => by
    obtain ⟨m2, h1, h2⟩ := Option.bind_eq_some_iff.mp h
    have hk' : k + (b.length + 1) ≤ 46 := hk
    have fz := f z List.mem_cons_self
    have p := goOn_pre fz h1 (by have := s.ll; omega) (by have := s.al; omega)
    have s2 := s.goOn fz h1 (by omega)
    obtain ⟨p2, s3⟩ := goAll_pre (fun y hy => f y (List.mem_cons_of_mem _ hy)) s2 (by omega) h2
    refine ⟨?_, ?_⟩
    · rw [show (z :: b).length = 1 + b.length from Nat.add_comm _ _]
      exact p.trans p2
    · rw [show k + (z :: b).length = k + 1 + b.length by show k + (b.length + 1) = _; omega]
      exact s3
/-- a beginning of a weaving goes through, and shows what the whole one shows there -/
theorem goAll_take {ks : List Str} {rs : List RuleD} {zs : List Str} {m : CM} (f : ∀ z ∈ zs, Form z) (hl : zs.length ≤ 46) (h : (CM.start ks rs).goAll zs = some m) (k : Nat) (hk : k ≤ zs.length) :
    ∃ n, (CM.start ks rs).goAll (zs.take k) = some n ∧ n.shows = m.shows.take (k + 1) ∧ n.rules = m.rules.take k ∧ n.letters = m.letters.take n.letters.length ∧ n.answers = m.answers.take n.answers.length ∧ (∀ g ∈ n.goals, g ∈ m.goals) ∧ n.Sized k := by
  rw [← List.take_append_drop k zs] at h
  obtain ⟨n, h1, h2⟩ := goAll_app h
  have lk : (zs.take k).length = k := by rw [List.length_take]; omega
  obtain ⟨p1, s1⟩ := goAll_pre (fun z hz => f z (List.mem_of_mem_take hz)) (CM.Sized.start ks rs) (by rw [lk]; omega) h1
  rw [lk, Nat.zero_add] at s1
  obtain ⟨p2, s2⟩ := goAll_pre (fun z hz => f z (List.mem_of_mem_drop hz)) s1 (by rw [List.length_drop]; omega) h2
  obtain ⟨⟨a1, a2, _⟩, ⟨b1, b2, _⟩, ⟨c1, c2⟩, ⟨d1, d2⟩, g, _, _⟩ := p2
  refine ⟨n, h1, ?_, ?_, ?_, ?_, g, s1⟩
  · rw [a2, ← s1.sh, List.take_left]
  · rw [b2, ← s1.ru, List.take_left]
  · rw [c2, List.take_left]
  · rw [d2, List.take_left]
end Ov


namespace Ov
open PySem PySem.Spec PyProof.Rows L2
open Evl (pss_cut tCut Ex Ev EvT EvL EvA EvU)
/-! ### what the laws over stage 2's world share -/
theorem cut_to (xs : List V) (k : Nat) : cutV xs none (some (k : Int)) = xs.take k := by
  unfold cutV
  have a : HT.sIx xs.length 0 none = 0 := rfl
  have b : HT.sIx xs.length xs.length (some (k : Int)) = min k xs.length := by
    unfold HT.sIx
    simp only
    split <;> omega
  rw [a, b, List.drop_zero, Nat.sub_zero, List.take_eq_take_iff]
  omega
section
variable {K : PySem.W.Frag} {σ : L2.St} {H : Hp} {ta tb tl : TE} {CR CP : Addr}
/-- the texts of events -/
theorem el_words {F : Addr} {ys : List V} {es : List Evt} {j : Nat} {vs : List Nat} (h : Ev tl σ H (.ref F)) (hF : H F = some (.lst ys)) (p : Paired (EvAt H) ys es) (sm : ∀ e ∈ es, e.Small) (hz : es.length ≤ 40000) (hw : ∀ x, wipe ((wipe σ vs).set j (some x)) vs = wipe σ vs) (hj : ∀ x, ((wipe σ vs).set j (some x))[j]? = some (some x)) :
    EvL (tLc (iList K tl) (gName j) tYes (tCall spSaid [] E0 (tCons (tVar j) tNil)) vs) σ H ((es.map Evt.text).map V.str) := by
  have lx := paired_len p
  have e : (es.map Evt.text).map V.str = Evl.given ys.length (fun _ => true) (fun i => V.str (((es[i]?).map Evt.text).getD "")) := by
    rw [given_all, lx]
    refine List.ext_getElem? fun i => ?_
    rw [List.getElem?_map, List.getElem?_map, List.getElem?_map]
    by_cases hi : i < es.length
    · rw [List.getElem?_range hi, List.getElem?_eq_getElem hi]
      show some (V.str (es[i]).text) = some (V.str (((es[i]?).map Evt.text).getD ""))
      rw [List.getElem?_eq_getElem hi]
      rfl
    · rw [List.getElem?_eq_none (by omega), List.getElem?_eq_none (by rw [List.length_range]; omega)]
      rfl
  rw [e]
  refine Evl.el_lcL (f := fun _ => true) (v := fun i => V.str (((es[i]?).map Evt.text).getD "")) h (Evl.sq_of hF) (by omega) hw (fun _ _ _ _ _ => et_yes) (fun i x H1 e1 hi _ => ?_)
  obtain ⟨ev, he, q, rfl, hq⟩ := prd_at p hi
  rw [he]
  exact fun H2 e2 Q kq => ⟨_, hj _, q, ev, rfl, e2 _ _ (e1 _ _ hq), sm ev (List.mem_of_getElem? he), fun H3 e3 => kq H3 e3⟩
/-- != of tuples that are alike -/
theorem ev_neST {l : List (Option Nat)} (ha : EvP ta σ H (fun t H2 => SqT K H2 t (l.map ov))) (hb : EvP tb σ H (fun t H2 => SqT K H2 t (l.map ov))) : Ev (tOp (rNeD K) ta tb) σ H (.bl false) := fun H1 e1 Q q =>
  ha H1 e1 _ fun t H2 e2 st => hb H2 (e1.trans e2) _ fun u H3 e3 su => rv_neSame (d := .tuple (l.map dO)) (fun H4 e4 => .tup (Evl.ex_t (e3.trans e4) st) (dpa_ovs _)) (fun H4 e4 => .tup (Evl.ex_t e4 su) (dpa_ovs _)) (GD.ovs l) (by decide) H3 (Ex.refl _) Q fun H4 e4 => q H4 ((e2.trans e3).trans e4)
theorem ev_neLt {ls : List (Str × Int)} (hk : ∀ l ∈ ls, l.1 ∈ letterKinds ∨ l.1 = ("other" : Str)) (ha : EvP ta σ H (fun t H2 => ∃ xs, SqT K H2 t xs ∧ LettersAt H2 xs ls)) (hb : EvP tb σ H (fun t H2 => ∃ xs, SqT K H2 t xs ∧ LettersAt H2 xs ls)) : Ev (tOp (rNeD K) ta tb) σ H (.bl false) := fun H1 e1 Q q =>
  ha H1 e1 _ fun t H2 e2 ⟨xs, st, sl⟩ => hb H2 (e1.trans e2) _ fun u H3 e3 ⟨ys, su, ul⟩ => rv_neSame (d := .tuple (ls.map dL)) (n := 2) (fun H4 e4 => .tup (Evl.ex_t (e3.trans e4) st) (dpa_letters (sl.ex (e3.trans e4)))) (fun H4 e4 => .tup (Evl.ex_t e4 su) (dpa_letters (ul.ex e4))) (GD.tup (n := 1) fun d hd => by
    obtain ⟨l, hl, rfl⟩ := List.mem_map.mp hd
    have a : ∀ k ∈ letterKinds ++ [("other" : Str)], PyData.canLay0 (.str k) = true := by decide +kernel
    refine GD.tup (n := 0) fun e he => ?_
    simp only [List.mem_cons, List.not_mem_nil, or_false] at he
    rcases he with rfl | rfl
    · exact GD.str (a _ ((hk l hl).elim (fun z => List.mem_append_left _ z) (fun z => List.mem_append_right _ (List.mem_singleton.mpr z)))) 0
    · exact GD.int _ 0) (by decide) H3 (Ex.refl _) Q fun H4 e4 => q H4 ((e2.trans e3).trans e4)
/-- Plan() -/
theorem evP_none {df0 df1 : Addr} (dfT0 : ∀ H, SqT K H df0 []) (dfT : ∀ H, SqT K H df1 []) : EvP (tMake CP (spPlanInitG K CR CP sortedOf) [V.ref df0, V.ref df1] E0 tNil) σ H (PlanIs K CR CP [] []) := fun H1 e1 Q q => by
  refine run_mkP (ks := []) (rs := []) (.inr (dfT0 _)) ⟨Nat.zero_le _, List.Pairwise.nil, fun k hk => nomatch hk⟩ (.inr (dfT _)) .nil (Nat.zero_le _) (Ex.refl H1) fun p H4 ys so e4 po ro => ?_
  have ey : ys = [] := List.perm_nil.mp so.1
  rw [ey] at po
  exact q p H4 e4 ⟨[], po, ro⟩
end
theorem form_evs {zs : List Str} (h : ∀ z ∈ zs, Form z) : ∀ z ∈ zs, EvOk z := fun z hz => (h z hz).ok
theorem text_plain {z : Str} (h : Form z) : PyData.canLay0 (.str z) = true := by
  have a : ∀ z ∈ CM.deedsAll, PyData.canLay0 (.str z) = true := by decide +kernel
  have b : ∀ i < 48, PyData.canLay0 (.str (evCome i)) = true := by decide +kernel
  have c : ∀ i < 48, PyData.canLay0 (.str (evHeard i)) = true := by decide +kernel
  have d : PyData.canLay0 (.str "answer") = true := by decide +kernel
  cases h with
  | deed h => exact a _ h
  | ans => exact d
  | come h => exact b _ h
  | heard h => exact c _ h
theorem G1.drA {a b F : Addr} {n : Nat} {B H : Hp} {xs : List V} {rs : List RuleD} (g : G1 a b F n B H xs rs) (D0 : Deal B a b) : Paired (Dr (fun x => x ≠ a ∧ x ≠ b) H) xs rs := prd_imp (fun _ _ h => h.1.imp fun L hL => ⟨D0.nea hL.1, D0.neb hL.1⟩) g.dr
theorem G1.good {a b F : Addr} {n : Nat} {B H : Hp} {xs : List V} {rs : List RuleD} (g : G1 a b F n B H xs rs) : ∀ r ∈ rs, r.Good := by
  have go : ∀ {xs : List V} {rs : List RuleD}, Paired (DrG (fun L => B L = none ∧ L ≠ F) n H) xs rs → ∀ r ∈ rs, r.Good := by
    intro xs rs h
    induction h with
    | nil => exact fun r hr => nomatch hr
    | cons h t ih =>
      intro r hr
      rcases List.mem_cons.mp hr with rfl | hr
      · exact h.2.1
      · exact ih r hr
  exact go g.dr
/-! #### drawn rules, a plan of them, what comes of a weaving -/
structure RsAt (a b F : Addr) (H : Hp) (xs : List V) (rs : List RuleD) : Prop where
  hF : H F = some (.lst xs)
  dr : Paired (Dr (fun x => x ≠ a ∧ x ≠ b) H) xs rs
  na : F ≠ a ∧ F ≠ b
  gd : ∀ r ∈ rs, r.Good
  hl : rs.length ≤ 10
theorem RsAt.kp {a b F : Addr} {H H' : Hp} {xs : List V} {rs : List RuleD} (g : RsAt a b F H xs rs) (k : Kp a b H H') (D : Deal H a b) : RsAt a b F H' xs rs :=
  ⟨k _ _ g.na.1 g.na.2 g.hF, prd_imp (fun _ _ h => h.kp (fun x hx => hx) k D) g.dr, g.na, g.gd, g.hl⟩
theorem RsAt.ex {a b F : Addr} {H H' : Hp} {xs : List V} {rs : List RuleD} (g : RsAt a b F H xs rs) (e : Ex H H') : RsAt a b F H' xs rs :=
  ⟨e _ _ g.hF, prd_imp (fun _ _ h => h.ex e) g.dr, g.na, g.gd, g.hl⟩
theorem G1.rs {a b F : Addr} {n : Nat} {B H : Hp} {xs : List V} {rs : List RuleD} (g : G1 a b F n B H xs rs) (D0 : Deal B a b) (hl : rs.length ≤ 10) : RsAt a b F H xs rs :=
  ⟨g.hF, g.drA D0, ⟨D0.nea g.nf, D0.neb g.nf⟩, g.good, hl⟩
theorem given_none (n : Nat) (v : Nat → V) : Evl.given n (fun _ => false) v = [] := by
  unfold Evl.given
  rw [List.filter_eq_nil_iff.mpr fun _ _ => Bool.false_ne_true]
  rfl
section
variable {K : PySem.W.Frag} {σ : L2.St} {H : Hp} {ta tb tl tp tw te : TE} {CR CP CD a b L F : Addr} {mg : Str → Option Value} {ks : List Str} {rs : List RuleD} {xs : List V} {zs : List Str} {m : CM}
theorem ev_textW (hL : Ev ta σ H (.ref L)) (hF : Ev tb σ H (.ref F)) (h1 : H L = some (.lst (ks.map V.str))) (g : RsAt a b F H xs rs) (sl : ks.Sublist lettersL) : Ev (tCall spTextW [] E0 (tCons ta (tCons tb tNil))) σ H (.str (planText ks rs)) := fun H1 e1 Q q =>
  hL H1 e1 _ fun H2 e2 => hF H2 (e1.trans e2) _ fun H3 e3 => ⟨L, F, ks, xs, rs, rfl, ((e1.trans e2).trans e3) _ _ h1, ((e1.trans e2).trans e3) _ _ g.hF, prd_imp (fun _ _ h => (h.ex ((e1.trans e2).trans e3)).imp fun _ _ => trivial) g.dr, sl, g.gd, g.hl, fun H4 e4 => q H4 ((e2.trans e3).trans e4)⟩
theorem evP_play {pn : Addr} (hp : Ev tp σ H (.ref pn)) (pu : PlanIs K CR CP ks rs pn H) (gd : ∀ r ∈ rs, r.Good) (hr : rs.length ≤ 1000) (hw : EvP tw σ H (fun wv H2 => SqL K H2 wv (zs.map V.str) ∨ SqT K H2 wv (zs.map V.str))) (hl : zs.length ≤ 100) (ev : ∀ z ∈ zs, EvOk z) (go : (CM.start ks rs).goAll zs = some m) :
    EvP (tCall (spPlay K CR CP CD) [] E0 (tCons tp (tCons tw tNil))) σ H (fun o H2 => PlayedAt K CD H2 o m) := fun H1 e1 Q q =>
  hp H1 e1 _ fun H2 e2 => hw H2 (e1.trans e2) _ fun wv H3 e3 h3 => ⟨pn, wv, ks, rs, zs, m, rfl, pu.ex ((e1.trans e2).trans e3), gd, hr, h3, hl, ev, go, fun o H4 e4 po => q o H4 ((e2.trans e3).trans e4) po⟩
theorem ev_countedP (TD : TxD K mg CD) (h : EvP te σ H (fun o H2 => PlayedAt K CD H2 o m)) : Ev (tFld K te "counted") σ H (ov m.counted) := fun H1 e1 Q q =>
  h H1 e1 _ fun o H2 e2 po => by
    obtain ⟨dx, a1, a2, a3, a4, a5, ys, o1, _⟩ := po
    exact ⟨o, CD, dx, _, _, rfl, o1, TD.cl, TD.counted, pd_counted, q H2 e2⟩
/-- a goal among those that are told -/
theorem ev_inGoals {p : Addr} {g : Str} (hg : g ∈ goalWords) (ha : Ev ta σ H (.str g)) (hb : Ev tb σ H (.ref p)) (h : SqT K H p (m.goalsT.map V.str)) : Ev (tOp (rIn K false) ta tb) σ H (.bl (decide (g ∈ m.goals))) :=
  Evl.ev_is (Evl.ev_op ha hb (Evl.rv_isT h rfl (flat_strs _))) (by
    rw [inV_strs]
    congr 1
    refine decide_eq_decide.mpr ?_
    unfold CM.goalsT
    rw [List.mem_filter]
    exact ⟨fun z => of_decide_eq_true z.2, fun z => ⟨hg, decide_eq_true z⟩⟩)
theorem ev_neLov {l : List (Option Nat)} {p : Addr} (ha : EvL ta σ H (l.map ov)) (hb : Ev tb σ H (.ref p)) (h : H p = some (.lst (l.map ov))) : Ev (tOp (rNeD K) ta tb) σ H (.bl false) :=
  Evl.ev_opL1 ha (fun H1 e1 H2 e2 => hb H2 (e1.trans e2)) fun q H1 hq e1 => rv_neSame (d := .list (l.map dO)) (fun H2 e2 => .lst (Evl.sq_of (e2 _ _ hq)) (dpa_ovs _)) (fun H2 e2 => .lst (Evl.sq_of ((e1.trans e2) _ _ h)) (dpa_ovs _)) (GD.lst (n := 0) fun d hd => by
    obtain ⟨x, _, rfl⟩ := List.mem_map.mp hd
    exact GD.ov x 0) (by decide)
theorem ev_nePair {p q : Option Nat} {t1 t2 t3 t4 : TE} (h1 : Ev t1 σ H (ov p)) (h2 : Ev t2 σ H (ov q)) (h3 : Ev t3 σ H (ov p)) (h4 : Ev t4 σ H (ov q)) : Ev (tOp (rNeD K) (tTup (tCons t1 (tCons t2 tNil))) (tTup (tCons t3 (tCons t4 tNil)))) σ H (.bl false) :=
  Evl.ev_opUU (Evl.eu_tup (Evl.ea_cons h1 (Evl.ea_cons h2 Evl.ea_nil)) (by show 2 ≤ 100000; decide)) (Evl.eu_tup (Evl.ea_cons h3 (Evl.ea_cons h4 Evl.ea_nil)) (by show 2 ≤ 100000; decide)) fun a b H1 ha hb e1 => rv_neSame (d := .tuple [dO p, dO q]) (fun H2 e2 => .tup (Evl.st_of (e2 _ _ ha)) (.cons (dp_ov p) (.cons (dp_ov q) .nil))) (fun H2 e2 => .tup (Evl.st_of (e2 _ _ hb)) (.cons (dp_ov p) (.cons (dp_ov q) .nil))) (GD.tup (n := 0) fun d hd => by
    simp only [List.mem_cons, List.not_mem_nil, or_false] at hd
    rcases hd with rfl | rfl
    · exact GD.ov p 0
    · exact GD.ov q 0) (by decide)
theorem ev_neNone (ha : EvL ta σ H []) : Ev (tOp (rNeD K) ta (tLst tNil)) σ H (.bl false) :=
  Evl.ev_opLL ha (Evl.el_lst (vs := []) Evl.ea_nil (Nat.zero_le _)) fun p q H1 h1 h2 e => rv_neSame (d := .list []) (fun H2 e2 => .lst (Evl.sq_of (e2 _ _ h1)) .nil) (fun H2 e2 => .lst (Evl.sq_of (e2 _ _ h2)) .nil) (GD.lst (n := 0) fun d hd => (by cases hd)) (by decide)
end
end Ov


namespace Ov
open PySem PySem.Spec PyProof.Rows L2
open Evl (pss_cut tCut Ex Ev EvT EvL EvA EvU)
/-! ### rules said otherwise (pure) -/
def matchR (h : Str → Bool) (k : Str) (r : RuleD) : Bool := decide (r.k = k) && r.ts.all h
/-- the first that holds does the same, whatever holds -/
def AlikeR (rs rs' : List RuleD) : Prop := ∀ (k : Str) (h : Str → Bool), (rs'.find? (matchR h k)).map RuleD.ds = (rs.find? (matchR h k)).map RuleD.ds
theorem find_deeds (f : RuleD → Bool) : ∀ rs : List RuleD, deedsM rs (rs.findIdx? f) = ((rs.find? f).map RuleD.ds).getD []
  | [] => rfl
  | r :: rs => by
    rw [List.findIdx?_cons, List.find?_cons]
    cases hf : f r with
    | true => rfl
    | false =>
      have ih := find_deeds f rs
      show deedsM (r :: rs) ((rs.findIdx? f).map (· + 1)) = _
      rw [← ih]
      cases rs.findIdx? f with
      | none => rfl
      | some i => rfl
theorem find_isNone (f : RuleD → Bool) : ∀ rs : List RuleD, (rs.findIdx? f).isNone = ((rs.find? f).map RuleD.ds).isNone
  | [] => rfl
  | r :: rs => by
    rw [List.findIdx?_cons, List.find?_cons]
    cases hf : f r with
    | true => rfl
    | false =>
      have ih := find_isNone f rs
      show ((rs.findIdx? f).map (· + 1)).isNone = _
      rw [← ih]
      cases rs.findIdx? f <;> rfl
theorem AlikeR.letter {rs rs' : List RuleD} (a : AlikeR rs rs') (k tw to : Str) : deedsM rs' (letterRuleM rs' k tw to) = deedsM rs (letterRuleM rs k tw to) ∧ (letterRuleM rs' k tw to).isNone = (letterRuleM rs k tw to).isNone := by
  have e := a k (fun t => holdsM t tw to)
  have f : ∀ rs : List RuleD, letterRuleM rs k tw to = rs.findIdx? (matchR (fun t => holdsM t tw to) k) := fun rs => rfl
  rw [f, f, find_deeds, find_deeds, find_isNone, find_isNone, e]
  exact ⟨rfl, rfl⟩
theorem AlikeR.answer {rs rs' : List RuleD} (a : AlikeR rs rs') (lv : Bool) : deedsM rs' (answerRuleM rs' lv) = deedsM rs (answerRuleM rs lv) ∧ (answerRuleM rs' lv).isNone = (answerRuleM rs lv).isNone := by
  have e := a "answer" (fun t => lv != Txt.startswith t "not ")
  have f : ∀ rs : List RuleD, answerRuleM rs lv = rs.findIdx? (matchR (fun t => lv != Txt.startswith t "not ") "answer") := fun rs => rfl
  rw [f, f, find_deeds, find_deeds, find_isNone, find_isNone, e]
  exact ⟨rfl, rfl⟩
theorem AlikeR.refl (rs : List RuleD) : AlikeR rs rs := fun _ _ => rfl
theorem AlikeR.trans {a b c : List RuleD} (h : AlikeR a b) (g : AlikeR b c) : AlikeR a c := fun k f => (g k f).trans (h k f)
/-- the tests the other way about, the first one twice -/
def turnR (r : RuleD) : RuleD := ⟨r.k, r.ts.reverse ++ r.ts.take 1, r.ds⟩
theorem turn_match (h : Str → Bool) (k : Str) (r : RuleD) : matchR h k (turnR r) = matchR h k r := by
  unfold matchR turnR
  congr 1
  rw [List.all_append, List.all_reverse]
  cases e : r.ts.all h with
  | false => rfl
  | true =>
    rw [Bool.true_and, List.all_eq_true]
    exact fun t ht => List.all_eq_true.mp e t (List.mem_of_mem_take ht)
theorem alike_turn : ∀ rs : List RuleD, AlikeR rs (rs.map turnR)
  | [], _, _ => rfl
  | r :: rs, k, h => by
    rw [List.map_cons, List.find?_cons, List.find?_cons, turn_match]
    cases matchR h k r with
    | true => rfl
    | false => exact alike_turn rs k h
/-- two neighbours of unlike kinds change places -/
theorem alike_swap {x y : RuleD} (hk : y.k ≠ x.k) : ∀ (as bs : List RuleD), AlikeR (as ++ x :: y :: bs) (as ++ y :: x :: bs)
  | [], bs, k, h => by
    show ((y :: x :: bs).find? (matchR h k)).map RuleD.ds = ((x :: y :: bs).find? (matchR h k)).map RuleD.ds
    rw [List.find?_cons, List.find?_cons, List.find?_cons, List.find?_cons]
    cases hx : matchR h k x with
    | false => cases matchR h k y <;> rfl
    | true =>
      have h1 : x.k = k := of_decide_eq_true (Bool.and_eq_true_iff.mp hx).1
      have h2 : matchR h k y = false := by
        unfold matchR
        rw [decide_eq_false (fun z => hk (z.trans h1.symm))]
        rfl
      rw [h2]
  | a :: as, bs, k, h => by
    show ((a :: (as ++ y :: x :: bs)).find? (matchR h k)).map RuleD.ds = ((a :: (as ++ x :: y :: bs)).find? (matchR h k)).map RuleD.ds
    rw [List.find?_cons, List.find?_cons]
    cases matchR h k a with
    | true => rfl
    | false => exact alike_swap hk as bs k h
/-- a rule behind whose tests are, with others, those of one ahead -/
theorem alike_more {rs : List RuleD} {x y : RuleD} (hx : x ∈ rs) (hk : y.k = x.k) (ht : ∀ t ∈ x.ts, t ∈ y.ts) : AlikeR rs (rs ++ [y]) := fun k h => by
  rw [List.find?_append]
  cases e : rs.find? (matchR h k) with
  | some z => rfl
  | none =>
    have hx2 := List.find?_eq_none.mp e x hx
    have hy : matchR h k y = false := by
      cases c : matchR h k y with
      | false => rfl
      | true =>
        refine absurd ?_ hx2
        obtain ⟨c1, c2⟩ := Bool.and_eq_true_iff.mp c
        unfold matchR
        rw [← hk, c1, Bool.true_and, List.all_eq_true]
        exact fun t h1 => List.all_eq_true.mp c2 t (ht t h1)
    show ([y].find? (matchR h k)).map RuleD.ds = none
    rw [List.find?_cons, hy]
    rfl
namespace CM
variable {m m2 : CM} {z : Str}
/-- the same by other rules -/
def put (m : CM) (rs : List RuleD) (ru : List (Option Nat)) : CM := { m with rs := rs, rules := ru }
theorem put_send (rs : List RuleD) (ru : List (Option Nat)) (z : Str) : (m.put rs ru).send z = (m.send z).put rs ru := by
  unfold CM.send
  by_cases c : z = sentKind z
  · rw [if_pos c, if_pos c]
    rfl
  · rw [if_neg c, if_neg c]
    rfl
theorem put_eff {rs : List RuleD} (a : AlikeR m.rs rs) (ru : List (Option Nat)) (i : Nat) : (m.put rs ru).effFor i = m.effFor i ∧ ((m.put rs ru).ruleFor i).isNone = (m.ruleFor i).isNone := by
  have l := a.letter (m.kindAt i) (m.rel i m.whole) (m.rel i m.own)
  refine ⟨?_, l.2⟩
  show effectM (m.kindAt i) (deedsM rs (letterRuleM rs (m.kindAt i) (m.rel i m.whole) (m.rel i m.own))) = effectM (m.kindAt i) (deedsM m.rs (letterRuleM m.rs (m.kindAt i) (m.rel i m.whole) (m.rel i m.own)))
  rw [l.1]
theorem put_come {rs : List RuleD} (a : AlikeR m.rs rs) (ru : List (Option Nat)) (i : Nat) : (m.put rs ru).come i = (m.come i).put rs ru := by
  have e := (put_eff a ru i).1
  unfold CM.come
  simp only
  rw [e]
  have k : (m.put rs ru).kindAt i = m.kindAt i := rfl
  rw [k]
  unfold CM.wiped CM.taken
  cases (m.effFor i).1 <;> cases (m.effFor i).2 <;> cases wholeKind (m.kindAt i) <;> rfl
theorem put_hear {rs : List RuleD} (a : AlikeR m.rs rs) (ru : List (Option Nat)) (n : Nat) : (m.put rs ru).hear n = (m.hear n).put rs ru ∧ ((m.put rs ru).ruleHear n).isNone = (m.ruleHear n).isNone := by
  have l := a.answer (m.levelFor n)
  refine ⟨?_, l.2⟩
  have e : deedsM (m.put rs ru).rs ((m.put rs ru).ruleHear n) = deedsM m.rs (m.ruleHear n) := l.1
  have c : (m.put rs ru).heardCount n = m.heardCount n := by
    unfold CM.heardCount
    rw [e]
  unfold CM.hear
  rw [e]
  by_cases h : deedsM m.rs (m.ruleHear n) = []
  · rw [if_pos h, if_pos h]
  · rw [if_neg h, if_neg h, c]
    rfl
theorem put_look (rs : List RuleD) (ru : List (Option Nat)) : (m.put rs ru).look = m.look.put rs ru := by
  unfold CM.look
  have s : (m.put rs ru).showing = m.showing := rfl
  rw [s]
  cases m.showing with
  | none => rfl
  | some i =>
    show ((m.put rs ru).looked.seen i).offed i = ((m.looked.seen i).offed i).put rs ru
    have e : ((m.put rs ru).looked.seen i) = (m.looked.seen i).put rs ru := rfl
    rw [e]
    generalize m.looked.seen i = y
    unfold CM.offed
    have c : ((y.put rs ru).isStop i && (y.put rs ru).overOff i) = (y.isStop i && y.overOff i) := rfl
    rw [c]
    split <;> rfl
theorem put_addG (rs : List RuleD) (ru : List (Option Nat)) (b : Bool) (g : Str) : (m.put rs ru).addG b g = (m.addG b g).put rs ru := by
  unfold CM.addG
  cases b with
  | false => rfl
  | true =>
    rw [if_pos rfl, if_pos rfl]
    have e : (m.put rs ru).goals = m.goals := rfl
    rw [e]
    split <;> rfl
theorem put_judge (rs : List RuleD) (ru : List (Option Nat)) (h : Option Nat) : (m.put rs ru).judge h = (m.judge h).put rs ru := by
  have un : ∀ (y : CM) (k : Option Nat), y.judge k = ((((y.addG y.gElder "elder").addG y.gLost "lost").addG (y.isBack y.view) "back").addG y.gWrong "wrong").addG (y.gDeaf k) "deaf" := fun y k => rfl
  rw [un, un]
  show (((((m.put rs ru).addG m.gElder "elder").addG m.gLost "lost").addG (m.isBack m.view) "back").addG m.gWrong "wrong").addG (m.gDeaf h) "deaf" = _
  rw [put_addG, put_addG, put_addG, put_addG, put_addG]
theorem put_after {x : CM × Option Nat × Option Nat} {rs : List RuleD} {ru : List (Option Nat)} {r : Option Nat} : CM.after (x.1.put rs ru, r, x.2.2) = (CM.after x).put rs (ru ++ [r]) := by
  unfold CM.after
  show (((x.1.put rs ru).ruled r).look).judge x.2.2 = _
  have e : (x.1.put rs ru).ruled r = (x.1.ruled x.2.1).put rs (ru ++ [r]) := rfl
  rw [e, put_look, put_judge]
/-- what both know of rules -/
structure RuOk (rs rs' : List RuleD) (ru ru' : List (Option Nat)) : Prop where
  nn : ru'.map Option.isNone = ru.map Option.isNone
  lt : ∀ r ∈ ru', ∀ i, r = some i → i < rs'.length
theorem RuOk.snoc {rs rs' : List RuleD} {ru ru' : List (Option Nat)} {r r' : Option Nat} (h : RuOk rs rs' ru ru') (e : r'.isNone = r.isNone) (l : ∀ i, r' = some i → i < rs'.length) : RuOk rs rs' (ru ++ [r]) (ru' ++ [r']) :=
  ⟨by rw [List.map_append, List.map_append, h.nn]; show _ ++ [r'.isNone] = _ ++ [r.isNone]; rw [e], fun q hq i hi => by
    rcases List.mem_append.mp hq with hq | hq
    · exact h.lt q hq i hi
    · rw [List.mem_singleton.mp hq] at hi
      exact l i hi⟩
theorem put_go : ∀ {zs : List Str} {m m2 : CM} {k : Nat} {rs : List RuleD} {ru : List (Option Nat)}, AlikeR m.rs rs → RuOk m.rs rs m.rules ru → m.Sized k → k + zs.length ≤ 46 → (∀ z ∈ zs, Form z) → m.goAll zs = some m2 → ∃ ru2, (m.put rs ru).goAll zs = some (m2.put rs ru2) ∧ RuOk m2.rs rs m2.rules ru2
  | [], m, m2, k, rs, ru, a, R, S, hk, f, g => by
    cases Option.some.inj g
    exact ⟨ru, rfl, R⟩
  | z :: zs, m, m2, k, rs, ru, a, R, S, hk, f, g => by
    obtain ⟨m1, g1, g2⟩ := Option.bind_eq_some_iff.mp g
    have fz := f z List.mem_cons_self
    have ll := S.ll
    have al := S.al
    have hk2 : k + (zs.length + 1) ≤ 46 := hk
    obtain ⟨x, hx, rfl⟩ := goOn_iff.mp g1
    have A := of_act fz hx (by omega) (by omega)
    have S2 := S.goOn fz g1 (by omega)
    obtain ⟨sx, _, xr, _⟩ := after_same x
    obtain ⟨_, ar, _, _, _, _, rx⟩ := act_rows hx
    have step : ∀ {r : Option Nat}, ActR (m.put rs ru) z (x.1.put rs ru, r, x.2.2) → r.isNone = x.2.1.isNone → (∀ i, r = some i → i < rs.length) → ∃ ru2, (m.put rs ru).goAll (z :: zs) = some (m2.put rs ru2) ∧ RuOk m2.rs rs m2.rules ru2 := by
      intro r Ry e l
      have hy := act_of Ry (show m.letters.length < 48 by omega) (show m.answers.length < 48 by omega)
      obtain ⟨ru2, h1, h2⟩ := put_go (k := k + 1) (ru := ru ++ [r]) (rs := rs) (show AlikeR (CM.after x).rs rs by rw [sx.rs, rx]; exact a) (by
        rw [sx.rs, rx, xr, ar]
        exact R.snoc e l) S2 (by omega) (fun y hy => f y (List.mem_cons_of_mem _ hy)) g2
      refine ⟨ru2, ?_, h2⟩
      show ((m.put rs ru).goOn z).bind (fun m2 => m2.goAll zs) = _
      rw [goOn_iff.mpr ⟨_, hy, rfl⟩, put_after]
      exact h1
    cases A with
    | send hz =>
      refine step (r := none) ?_ rfl (fun i e => (by cases e))
      show ActR _ _ ((m.send z).put rs ru, none, none)
      rw [← put_send]
      exact .send hz
    | @come i hi hc =>
      refine step (r := (m.put rs ru).ruleFor i) ?_ (put_eff a ru i).2 (fun j e => find_lt e)
      show ActR _ _ ((m.come i).put rs ru, _, none)
      rw [← put_come a]
      exact .come hi hc
    | @hear n hn =>
      refine step (r := (m.put rs ru).ruleHear n) ?_ (put_hear a ru n).2 (fun j e => find_lt e)
      show ActR _ _ ((m.hear n).put rs ru, _, some (m.ansAt n))
      rw [← (put_hear a ru n).1]
      exact .hear hn
    | answer hc => exact step (r := none) (.answer hc) rfl (fun i e => (by cases e))
end CM
end Ov


namespace Ov
open PySem PySem.Spec PyProof.Rows L2
open Evl (pss_cut tCut Ex Ev EvT EvL EvA EvU)
/-! ### k16: what is told but for the rules; rules said otherwise -/
theorem asg_go {te : TE} {g : TG} {D : Ends} {σ : L2.St} {H : Hp} (h : te σ H fun x H1 => g x σ H1 D.nx) : tAsg te g D σ H := h
theorem op_go {r : R2} {ta tb : TE} {σ : L2.St} {H : Hp} {Q : VK} (h : ta σ H fun x H1 => tb σ H1 fun y H2 => r x y H2 Q) : tOp r ta tb σ H Q := h
theorem tup_go {t : TA} {σ : L2.St} {H : Hp} {Q : VK} (h : t σ H fun vs H1 => vs.length ≤ sizeLine ∧ ∀ p, H1 p = none → Q (.ref p) (upd H1 p (.tup vs))) : tTup t σ H Q := h
theorem call_go {sp : Sp} {dvs : List V} {E : XK} {t : TA} {σ : L2.St} {H : Hp} {Q : VK} (h : t σ H fun vs H1 => sp (vs ++ dvs) H1 Q E) : tCall sp dvs E t σ H Q := h
theorem and_draw {u : TT} {σ : L2.St} {H1 : Hp} {Kc : Bool → Hp → Prop} {c b : Bool} (hu : c = true → EvT u σ H1 b) (k : ∀ H2, Ex H1 H2 → Kc (c && b) H2) : if c = true then u σ H1 Kc else Kc false H1 := by
  cases c with
  | false =>
    rw [if_neg Bool.false_ne_true]
    exact k H1 (Ex.refl _)
  | true =>
    rw [if_pos rfl]
    exact hu rfl H1 (Ex.refl _) Kc fun H2 e2 => k H2 e2
theorem SD.bool (v : Bool) (n b : Nat) : SD (.bool v) n b := by cases v <;> exact ⟨rfl, rfl, Nat.zero_le _, rfl, Nat.zero_le _⟩
def data16 (m : CM) : PyData := .list [.tuple (m.letters.map dL), .tuple (m.shows.map dO), dO m.whole, dO m.own, .tuple (m.answers.map dN), dO m.counted, .tuple (m.goalsT.map PyData.str), .list ((m.rules.map Option.isNone).map PyData.bool)]
theorem CM.Few.data16 {m : CM} (h : m.Few) (w : m.WF) : SD (data16 m) 20 100000 := by
  have ll := h.ll
  have li : ∀ {i : Nat}, i < m.letters.length → i < 200 := fun h => by omega
  have al : ∀ i, i < m.answers.length → i < 200 := fun i hi => by have := h.al; omega
  have gl : m.goalsT.length ≤ 5 := List.length_filter_le _ _
  have e1 : SD (.tuple (m.letters.map dL)) 2 3000 := SD.tup (n := 1) (b := 22) (fun d hd => by
    obtain ⟨l, hl, rfl⟩ := List.mem_map.mp hd
    have kk := kind_size _ ((w.kinds l hl).elim (fun z => List.mem_append_left _ z) (fun z => List.mem_append_right _ (List.mem_singleton.mpr z)))
    exact SD.tup (n := 0) (b := 10) (fun e he => by
      simp only [List.mem_cons, List.not_mem_nil, or_false] at he
      rcases he with rfl | rfl
      · exact SD.str kk.1 kk.2 0
      · exact SD.int (h.nb l hl).1 (h.nb l hl).2 0 10) (by show 2 * 11 ≤ 22; decide)) (by rw [List.length_map]; omega)
  have eo : ∀ {l : List (Option Nat)}, l.length ≤ 100 → (∀ r ∈ l, ∀ i, r = some i → i < 200) → SD (.tuple (l.map dO)) 1 3000 := fun hl hi => SD.tup (n := 0) (b := 10) (fun d hd => by
    obtain ⟨r, hr, rfl⟩ := List.mem_map.mp hd
    exact SD.ov (hi r hr) 0 10) (by rw [List.length_map]; omega)
  have e2 := eo h.sl fun r hr i e => li (w.shows i (by rw [← e]; exact hr))
  have e3 : SD (.tuple (m.answers.map dN)) 1 3000 := SD.tup (n := 0) (b := 10) (fun d hd => by
    obtain ⟨r, hr, rfl⟩ := List.mem_map.mp hd
    exact SD.nat (li (w.ans r hr)) 0 10) (by rw [List.length_map]; have := h.al; omega)
  have e5 : SD (.tuple (m.goalsT.map PyData.str)) 1 3000 := SD.tup (n := 0) (b := 10) (fun d hd => by
    obtain ⟨r, hr, rfl⟩ := List.mem_map.mp hd
    have g := goal_size r (List.mem_filter.mp hr).1
    exact SD.str g.1 g.2 0) (by rw [List.length_map]; omega)
  have e6 : SD (.list ((m.rules.map Option.isNone).map PyData.bool)) 1 3000 := SD.lst (n := 0) (b := 10) (fun d hd => by
    obtain ⟨r, hr, rfl⟩ := List.mem_map.mp hd
    exact SD.bool r 0 10) (by rw [List.length_map, List.length_map]; have := h.rl; omega)
  have up : ∀ {d : PyData} {n b : Nat}, SD d n b → n ≤ 2 → b ≤ 3000 → SD d 19 3000 := fun s h1 h2 => ⟨s.sh, s.nd, Nat.le_trans s.dp (Nat.le_trans h1 (by decide)), s.lf, Nat.le_trans s.bk h2⟩
  refine SD.lst (n := 19) (b := 3000) (fun d hd => ?_) (by show 8 * 3001 ≤ 100000; decide)
  simp only [List.mem_cons, List.not_mem_nil, or_false] at hd
  rcases hd with rfl | rfl | rfl | rfl | rfl | rfl | rfl | rfl
  · exact up e1 (by decide) (by decide)
  · exact up e2 (by decide) (by decide)
  · exact SD.ov (fun i e => li (w.whole i e)) _ _
  · exact SD.ov (fun i e => li (w.own i e)) _ _
  · exact up e3 (by decide) (by decide)
  · exact SD.ov (fun i e => al i (w.counted i e)) _ _
  · exact up e5 (by decide) (by decide)
  · exact up e6 (by decide) (by decide)
theorem dpa_bools {K : PySem.W.Frag} {H : Hp} : ∀ l : List Bool, DpAll K H (l.map V.bl) (l.map PyData.bool)
  | [] => .nil
  | b :: l => .cons (.bl b) (dpa_bools l)
def spTold16 (K : PySem.W.Frag) (CD : Addr) : Sp := fun vs H Q _ => ∃ (q : Addr) (m : CM), vs = [.ref q] ∧ PlayedAt K CD H q m ∧ m.WF ∧ m.Few ∧ ∀ H', Ex H H' → Q (.str (data16 m).shown) H'
/-- rules, in a list of their own; what they hold is no deal's -/
structure Gs (a b F : Addr) (B H : Hp) (xs : List V) (rs : List RuleD) : Prop where
  kp : Kp a b B H
  D : Deal H a b
  nf : B F = none
  hF : H F = some (.lst xs)
  dr : Paired (Dr (fun x => x ≠ a ∧ x ≠ b ∧ x ≠ F) H) xs rs
  gd : ∀ r ∈ rs, r.Good
section
variable {a b F : Addr} {B H H' : Hp} {xs : List V} {rs : List RuleD} {r : RuleD} {x : V}
theorem Gs.ex (g : Gs a b F B H xs rs) (e : Ex H H') : Gs a b F B H' xs rs := ⟨g.kp.trans (Kp.same (ex_same e)), g.D.keep (ex_same e), g.nf, e _ _ g.hF, prd_imp (fun _ _ h => h.ex e) g.dr, g.gd⟩
theorem Gs.mv (g : Gs a b F B H xs rs) (D0 : Deal B a b) (k : Kp a b H H') (D : Deal H' a b) : Gs a b F B H' xs rs := ⟨g.kp.trans k, D, g.nf, k _ _ (D0.nea g.nf) (D0.neb g.nf) g.hF, prd_imp (fun _ _ h => h.kp (fun L hL => ⟨hL.1, hL.2.1⟩) k g.D) g.dr, g.gd⟩
theorem Gs.up (g : Gs a b F B H xs rs) {zs : List V} : Paired (Dr (fun x => x ≠ a ∧ x ≠ b ∧ x ≠ F) (upd H F (.lst zs))) xs rs := prd_imp (fun _ _ h => h.updL g.hF fun L hL => hL.2.2) g.dr
theorem Gs.set (g : Gs a b F B H xs rs) (D0 : Deal B a b) (i : Nat) (d : Dr (fun x => x ≠ a ∧ x ≠ b ∧ x ≠ F) H x r) (hr : r.Good) : Gs a b F B (upd H F (.lst (xs.set i x))) (xs.set i x) (rs.set i r) :=
  ⟨g.kp.put g.nf, g.D.put (D0.nea g.nf) (D0.neb g.nf), g.nf, upd_same, prd_set (d.updL g.hF fun L hL => hL.2.2) i g.up, fun q hq => by
    rcases List.mem_or_eq_of_mem_set hq with h | h
    · exact g.gd q h
    · rw [h]
      exact hr⟩
theorem Gs.app (g : Gs a b F B H xs rs) (D0 : Deal B a b) (d : Dr (fun x => x ≠ a ∧ x ≠ b ∧ x ≠ F) H x r) (hr : r.Good) : Gs a b F B (upd H F (.lst (xs ++ [x]))) (xs ++ [x]) (rs ++ [r]) :=
  ⟨g.kp.put g.nf, g.D.put (D0.nea g.nf) (D0.neb g.nf), g.nf, upd_same, prd_app g.up (.cons (d.updL g.hF fun L hL => hL.2.2) .nil), fun q hq => by
    rcases List.mem_append.mp hq with h | h
    · exact g.gd q h
    · rw [List.mem_singleton.mp h]
      exact hr⟩
end
/-- tests of which the first four say all -/
def Four (rs : List RuleD) : Prop := ∀ r ∈ rs, r.ts.length ≤ 5 ∧ ∀ t ∈ r.ts, t ∈ r.ts.take 4
theorem four_turn {rs : List RuleD} (h : ∀ r ∈ rs, r.ts.length ≤ 4) : Four (rs.map turnR) := fun r hr => by
  obtain ⟨r0, h0, rfl⟩ := List.mem_map.mp hr
  have l0 := h r0 h0
  unfold turnR
  refine ⟨?_, fun t ht => ?_⟩
  · show (r0.ts.reverse ++ r0.ts.take 1).length ≤ 5
    rw [List.length_append, List.length_reverse, List.length_take]
    omega
  · show t ∈ (r0.ts.reverse ++ r0.ts.take 1).take 4
    have h1 : t ∈ r0.ts := by
      rcases List.mem_append.mp ht with h | h
      · exact List.mem_reverse.mp h
      · exact List.mem_of_mem_take h
    rw [List.take_append, List.take_of_length_le (by rw [List.length_reverse]; exact l0)]
    exact List.mem_append_left _ (List.mem_reverse.mpr h1)
theorem turn_good {r : RuleD} (g : r.Good) (h : r.ts.length ≤ 4) : (turnR r).Good := ⟨g.k, fun t ht => by
  rcases List.mem_append.mp ht with h | h
  · exact g.ts t (List.mem_reverse.mp h)
  · exact g.ts t (List.mem_of_mem_take h), g.ds, by
  show (r.ts.reverse ++ r.ts.take 1).length ≤ 1000
  rw [List.length_append, List.length_reverse, List.length_take]
  omega, g.nd⟩
theorem set_swap {α : Type} {x y : α} : ∀ (as bs : List α), ((as ++ x :: y :: bs).set as.length y).set (as.length + 1) x = as ++ y :: x :: bs
  | [], bs => rfl
  | a :: as, bs => congrArg (a :: ·) (set_swap as bs)
theorem split_at {α : Type} {l : List α} {i : Nat} {x y : α} (h1 : l[i]? = some x) (h2 : l[i + 1]? = some y) : l = l.take i ++ x :: y :: l.drop (i + 2) := by
  have l1 := (List.getElem?_eq_some_iff.mp h1)
  have l2 := (List.getElem?_eq_some_iff.mp h2)
  obtain ⟨a1, a2⟩ := l1
  obtain ⟨b1, b2⟩ := l2
  rw [← a2, ← b2, List.getElem_cons_drop, List.getElem_cons_drop, List.take_append_drop]
def spRuleTests : Sp := fun vs H Q _ => ∃ (a b : Addr) (k : Str), vs = [.ref a, .str k] ∧ Deal H a b ∧ k ∈ kindsAll ∧ ∀ (L : Addr) (ts : List Str) H', (∀ t ∈ ts, t ∈ testsNot k) → ts.length ≤ 1 → Kp a b H H' → Deal H' a b → H L = none → H' L = some (.lst (ts.map V.str)) → Q (.ref L) H'
def spOther : Sp := fun vs H Q _ => ∃ (a b F : Addr) (xs : List V) (rs : List RuleD), vs = [.ref a, .ref F] ∧ Deal H a b ∧ RsAt a b F H xs rs ∧ 1 ≤ rs.length ∧ rs.length ≤ 5 ∧ (∀ r ∈ rs, r.ts.length ≤ 4) ∧ ∀ F' xs' rs' H', RsAt a b F' H' xs' rs' → AlikeR rs rs' → Kp a b H H' → Deal H' a b → Q (.ref F') H'
section
variable {P : Program} {w : World} {K : PySem.W.Frag} {mg : Str → Option Value} {base : Heap} {CD : Addr}
abbrev sTold : Stmt := topS 74
theorem scTold : FnScope ["_law_played", "_law_found", "_law_at"] ["_law_played"] (defScope sTold) := ⟨rfl, rfl, rfl, by decide +kernel, rfl, by decide +kernel, by decide +kernel⟩
abbrev sRuleTests : Stmt := topS 76
theorem scRuleTests : FnScope ["_law_deal_here", "_law_sort"] ["_law_deal_here", "_law_sort"] (defScope sRuleTests) := ⟨rfl, rfl, rfl, by decide +kernel, rfl, by decide +kernel, by decide +kernel⟩
abbrev sOtherwise : Stmt := topS 75
theorem scOtherwise : FnScope ["_law_deal_here", "_law_some", "_law_sort", "_law_asked", "_law_done", "_law_found", "_law_turn", "_law_at", "_law_more"] ["_law_deal_here", "_law_some"] (defScope sOtherwise) := ⟨rfl, rfl, rfl, by decide +kernel, rfl, by decide +kernel, by decide +kernel⟩
theorem ok_told {f : Addr} {fd : FuncData} (F : Fun K "_law_told" "_law_told" sTold f fd) (T : TxB mg) (TD : TxD K mg CD) (n_repr : mg "repr" = none) : FnC P w K mg base 2 f fd ["_law_played"] (spTold16 K CD) := by
  refine okC (k := 1) F scTold (fun vs H Q E h => ?_) (fun cdv A outer s H vs Q hg hr h => ?_)
  · obtain ⟨q, m, rfl, _⟩ := h
    rfl
  · obtain ⟨q, m, rfl, pa, wf, fw, kq⟩ := h
    refine ⟨_, pss_cons (ps_set (i := 1) scTold.nd rfl (.inl rfl) (pe_lst (pa_cons (pe_fld (pv 0) rfl) (pa_cons (pe_fld (pv 0) rfl) (pa_cons (pe_fld (pv 0) rfl) (pa_cons (pe_fld (pv 0) rfl) (pa_cons (pe_fld (pv 0) rfl) (pa_cons (pe_fld (pv 0) rfl) (pa_cons (pe_fld (pv 0) rfl) pa_nil)))))))))
      (pss_one (ps_ret (pe_callB (r := rShow K) (call_show hg hr) (by rfl) n_repr (by decide +kernel) (pa_cons (pe_op op_cat (pv 1) (pe_lst (pa_cons (pe_lc (own := [("_law_at", 2)]) (g := gName 2) (tt := tYes) rfl scTold.nd (pi_tup (pe_fld (pv 0) rfl)) (blkOk_by (own := [("_law_at", 2)]) (N := ["_law_played", "_law_found", "_law_at"]) (sc := defScope sTold) (by decide +kernel)) (fun _ _ _ _ _ => (pg_name (i := 2) scTold.nd rfl (Or.inl rfl))) (fun _ _ _ _ _ => pts_nil) (fun _ _ _ _ _ => (pe_cmpR op_isN (pv 2) pe_non (nomark _)))) pa_nil))) pa_nil)))), ?_⟩
    obtain ⟨dx, a1, a2, a3, a4, a5, xs, o1, o2, o3, o4, o5, o6, o7⟩ := id pa
    have fl : ∀ {H1 : Hp} {σ : L2.St} {y : Str} {v : V}, Ex H H1 → σ[0]? = some (some (.ref q)) → NoAttr K CD y → (pd a1 a2 a3 a4 a5 m).lookup y = some v → Ev (tFld K (tVar 0) y) σ H1 v := fun e h no lk => ev_fld (Evl.ev_var h) (e _ _ o1) TD.cl no lk
    refine Evl.q_asgL (xs := [.ref a1, .ref a2, ov m.whole, ov m.own, .ref a3, ov m.counted, .ref a5]) (Evl.el_lst (Evl.ea_cons (fl (Ex.refl _) rfl TD.letters pd_letters) (Evl.ea_cons (fl (Ex.refl _) rfl TD.shows pd_shows) (Evl.ea_cons (fl (Ex.refl _) rfl TD.whole pd_whole) (Evl.ea_cons (fl (Ex.refl _) rfl TD.own pd_own) (Evl.ea_cons (fl (Ex.refl _) rfl TD.answers pd_answers) (Evl.ea_cons (fl (Ex.refl _) rfl TD.counted pd_counted) (Evl.ea_cons (fl (Ex.refl _) rfl TD.goals pd_goals) Evl.ea_nil))))))) (by show 7 ≤ 100000; decide)) fun L H1 nL e1 hL => ?_
    have rl := fw.rl
    refine Evl.s_ret (v := .str (data16 m).shown) (ev_showD (b := 100000) (d := data16 m) (fun H2 e2 Q2 q2 => ?_) (fw.data16 wf) (by decide)) fun H2 e2 => kq H2 (e1.trans e2)
    refine op_go ?_
    refine ⟨_, rfl, ?_⟩
    refine at_consW ((el_lcT (K := K) (xs := m.rules.map ov) (fun j => V.bl (((m.rules.map Option.isNone)[j]?).getD false)) (fl (e1.trans e2) rfl TD.rules pd_rules) (Evl.ex_t (e1.trans e2) o6) (by rw [List.length_map]; omega) (fun _ => rfl) (fun j x H3 e3 hx => ?_)) H2 (Ex.refl _) _ fun Lb H3 nLb e3 hLb => ?_)
    · rw [List.getElem?_map] at hx
      obtain ⟨r, hr', rfl⟩ := Option.map_eq_some_iff.mp hx
      refine Evl.ev_is (Evl.ev_op (Evl.ev_var rfl) Evl.ev_c rv_isN) ?_
      rw [List.getElem?_map, hr']
      cases r with
      | none => rfl
      | some i => rfl
    have eb : (List.range (m.rules.map ov).length).map (fun j => V.bl (((m.rules.map Option.isNone)[j]?).getD false)) = (m.rules.map Option.isNone).map V.bl := by
      refine List.ext_getElem? fun j => ?_
      rw [List.getElem?_map, List.getElem?_map, List.length_map]
      by_cases hj : j < m.rules.length
      · rw [List.getElem?_range hj, List.getElem?_eq_getElem (by rw [List.length_map]; exact hj)]
        show some (V.bl (((m.rules.map Option.isNone)[j]?).getD false)) = _
        rw [List.getElem?_eq_getElem (by rw [List.length_map]; exact hj)]
        rfl
      · rw [List.getElem?_eq_none (by rw [List.length_range]; omega), List.getElem?_eq_none (by rw [List.length_map]; omega)]
        rfl
    rw [eb] at hLb
    refine ⟨size_of (by show 1 ≤ 100000; decide), fun L2 nL2 => ?_⟩
    have e4 : Ex H3 (upd H3 L2 (.lst [.ref Lb])) := Ex.new nL2
    refine ⟨L, L2, _, _, rfl, rfl, ((e2.trans e3).trans e4) _ _ hL, upd_same, size_of (by show 7 + 1 ≤ 100000; decide), fun p np => ?_⟩
    have e5 := e4.trans (Ex.new (o := .lst ([.ref a1, .ref a2, ov m.whole, ov m.own, .ref a3, ov m.counted, .ref a5] ++ [.ref Lb])) np)
    refine q2 p _ (e3.trans e5) ?_
    have e := (e1.trans e2).trans (e3.trans e5)
    exact .lst (Evl.sq_of upd_same) (.cons (.tup (Evl.ex_t e o2) (dpa_letters (o3.ex e))) (.cons (.tup (Evl.ex_t e o4) (dpa_ovs _)) (.cons (dp_ov _) (.cons (dp_ov _) (.cons (.tup (Evl.ex_t e o5) (dpa_nats _)) (.cons (dp_ov _) (.cons (.tup (Evl.ex_t e o7) (dp_strs _)) (.cons (.lst (Evl.sq_of (e5 _ _ hLb)) (dpa_bools _)) .nil))))))))
theorem ok_rule_tests {f fTe fPi fDraw : Addr} {fd fdTe fdPi fdDraw : FuncData} (F : Fun K "_law_rule_tests" "_law_rule_tests" sRuleTests f fd) (T : TxB mg) (D_draw : Df K mg "_law_draw" sDraw ["_law_deal_here", "_law_many"] fDraw fdDraw) (D_pick : Df K mg "_law_pick" sPick ["_law_deal_here", "_law_some"] fPi fdPi) (D_test : Df K mg "_law_test" sTest ["_law_deal_here", "_law_sort"] fTe fdTe) : FnOk P w K mg base CX0 4 f fd ["_law_deal_here", "_law_sort"] spRuleTests := by
  have G_draw : FnOk P w K mg base CX0 1 fDraw fdDraw ["_law_deal_here", "_law_many"] spDraw := ok_draw D_draw.F T.n_int
  have G_test : FnOk P w K mg base CX0 3 fTe fdTe ["_law_deal_here", "_law_sort"] spTestD := ok_test D_test.F T D_draw D_pick
  refine F.ok scRuleTests (fun vs H Q E h => ?_) (fun cdv A outer s H vs Q E hr h => ?_)
  · obtain ⟨a, b, k, rfl, _⟩ := h
    rfl
  · obtain ⟨a, b, k, rfl, D, hk, q⟩ := h
    refine ⟨_, pss_one (ps_ret (pe_ifExp (pt_cmpR op_eq (pe_call (E := E0) G_draw (hr.mono (by decide)) rfl D_draw.g D_draw.F.kp D_draw.b .nil pass0 (pa_cons (pv 0) (pa_cons pe_int pa_nil))) pe_int (nomark _)) (pe_lst (pa_cons (pe_call (E := E0) G_test (hr.mono (by decide)) rfl D_test.g D_test.F.kp D_test.b .nil pass0 (pa_cons (pv 0) (pa_cons (pv 1) pa_nil))) pa_nil)) (pe_lst pa_nil))), ?_⟩
    refine ⟨_, rfl, a, b, 2, rfl, D, by decide, by decide, fun r H1 r0 r1 k1 D1 => ⟨rfl, _, rfl, ite2 (fun hb => ?_) (fun hb => ?_)⟩⟩
    · refine ⟨_, rfl, _, rfl, a, b, k, rfl, D1, hk, fun z H2 hz k2 D2 => ⟨size_of (by show 1 ≤ 100000; decide), fun L nL => ?_⟩⟩
      exact q L [z] _ (fun t ht => by rw [List.mem_singleton.mp ht]; exact hz) (Nat.le_refl _) ((k1.trans k2).trans (Kp.new nL)) (D2.new nL) ((k1.trans k2).none D2 nL) upd_same
    · refine ⟨Nat.zero_le _, fun L nL => ?_⟩
      exact q L [] _ (fun t ht => nomatch ht) (Nat.zero_le _) (k1.trans (Kp.new nL)) (D1.new nL) (k1.none D1 nL) upd_same
theorem ok_otherwise {f fRt fTe fPi fDraw : Addr} {fd fdRt fdTe fdPi fdDraw : FuncData} (F : Fun K "_law_otherwise" "_law_otherwise" sOtherwise f fd) (T : TxB mg) (D_draw : Df K mg "_law_draw" sDraw ["_law_deal_here", "_law_many"] fDraw fdDraw) (D_pick : Df K mg "_law_pick" sPick ["_law_deal_here", "_law_some"] fPi fdPi) (D_test : Df K mg "_law_test" sTest ["_law_deal_here", "_law_sort"] fTe fdTe)
    (D_rule_tests : Df K mg "_law_rule_tests" sRuleTests ["_law_deal_here", "_law_sort"] fRt fdRt) : FnOk P w K mg base CX0 5 f fd ["_law_deal_here", "_law_some"] spOther := by
  have G_draw : FnOk P w K mg base CX0 1 fDraw fdDraw ["_law_deal_here", "_law_many"] spDraw := ok_draw D_draw.F T.n_int
  have G_rule_tests : FnOk P w K mg base CX0 4 fRt fdRt ["_law_deal_here", "_law_sort"] spRuleTests := ok_rule_tests D_rule_tests.F T D_draw D_pick D_test
  refine F.ok scOtherwise (fun vs H Q E h => ?_) (fun cdv A outer s H vs Q E hr h => ?_)
  · obtain ⟨a, b, F0, xs, rs, rfl, _⟩ := h
    rfl
  · obtain ⟨a, b, F0, xs, rs, rfl, D0, r0, l1, l5, l4, q⟩ := h
    refine ⟨_, pss_cons (ps_setLc (i := 5) (own := [("_law_sort", 2), ("_law_asked", 3), ("_law_done", 4)]) (g := gTup K 3 (gCons (gName 2) (gCons (gName 3) (gCons (gName 4) gNil)))) (tt := tYes) (te := tTup (tCons (tVar 2) (tCons (tOp rCat (tRevL K (tVar 3)) (tSl (rSlL K) (tVar 3) tNoPart (tPart (tC (V.int 1))))) (tCons (tVar 4) tNil)))) rfl scOtherwise.nd rfl rfl (sw_true rfl rfl rfl (by decide +kernel)) (pi_list (pv 1)) (blkOk_by (own := [("_law_sort", 2), ("_law_asked", 3), ("_law_done", 4)]) (N := ["_law_deal_here", "_law_some", "_law_sort", "_law_asked", "_law_done", "_law_found", "_law_turn", "_law_at", "_law_more"]) (sc := defScope sOtherwise) (by decide +kernel)) (fun _ _ _ _ _ => (pg_tup (by rfl) (pgs_cons (pg_name (i := 2) scOtherwise.nd rfl (Or.inl rfl)) (pgs_cons (pg_name (i := 3) scOtherwise.nd rfl (Or.inl rfl)) (pgs_cons (pg_name (i := 4) scOtherwise.nd rfl (Or.inl rfl)) pgs_nil))))) (fun _ _ _ _ _ => pts_nil) (fun _ _ _ _ _ => (pe_tup (pa_cons (pv 2) (pa_cons (pe_op op_cat (pe_revL (pv 3)) (pe_slice sl_list (pv 3) po_none (po_some pe_int))) (pa_cons (pv 4) pa_nil))))))
      (pss_cut (ps_for PassesOwn.never rfl (pi_range1 rfl T.n_range (pa_cons pe_int pa_nil)) (pg_name (i := 6) scOtherwise.nd rfl (Or.inl rfl)) (pss_cons (ps_set (i := 7) scOtherwise.nd rfl (.inl rfl) (pe_call (E := E0) G_draw (hr.mono (by decide)) rfl D_draw.g D_draw.F.kp D_draw.b .nil pass0 (pa_cons (pv 0) (pa_cons (pe_callB call_len_seq (by rfl) T.n_len (by decide +kernel) (pa_cons (pv 5) pa_nil)) pa_nil))))
      (pss_cons (ps_asg (pe_ix ix_list (pv 5) (pv 7) (fun _ _ => rfl)) (pg_tup (by rfl) (pgs_cons (pg_name (i := 2) scOtherwise.nd rfl (Or.inl rfl)) (pgs_cons (pg_name (i := 3) scOtherwise.nd rfl (Or.inl rfl)) (pgs_cons (pg_name (i := 4) scOtherwise.nd rfl (Or.inl rfl)) pgs_nil)))))
      (pss_one (ps_if (PW.pt (pw_and (pt_cmpR op_eq (pe_call (E := E0) G_draw (hr.mono (by decide)) rfl D_draw.g D_draw.F.kp D_draw.b .nil pass0 (pa_cons (pv 0) (pa_cons pe_int pa_nil))) pe_int (nomark _)) (pw_and (pt_cmpR op_lt (pe_op op_add (pv 7) pe_int) (pe_callB call_len_seq (by rfl) T.n_len (by decide +kernel) (pa_cons (pv 5) pa_nil)) (nomark _)) (pw_and1 (pt_cmpR op_ne (pe_ix ix_tup (pe_ix ix_list (pv 5) (pe_op op_add (pv 7) pe_int) (fun _ _ => rfl)) pe_int (fun _ _ => rfl)) (pv 2) (nomark _)))))) (pss_cons (ps_asg (pe_ix ix_list (pv 5) (pe_op op_add (pv 7) pe_int) (fun _ _ => rfl)) (pg_sub (pv 5) (pv 7) set_list))
      (pss_one (ps_asg (pe_tup (pa_cons (pv 2) (pa_cons (pv 3) (pa_cons (pv 4) pa_nil)))) (pg_sub (pv 5) (pe_op op_add (pv 7) pe_int) set_list)))) (pss_cons (ps_set (i := 8) scOtherwise.nd rfl (.inl rfl) (pe_slice sl_list (pe_op op_cat (pv 3) (pe_call (E := E0) G_rule_tests (hr.mono (by decide)) rfl D_rule_tests.g D_rule_tests.F.kp D_rule_tests.b .nil pass0 (pa_cons (pv 0) (pa_cons (pv 2) pa_nil)))) po_none (po_some pe_int)))
      (pss_one (ps_expr (pe_bm PySem.F.plainAttrs_list PySem.F.slot_list_append PySem.F.type_list_append mt_append (pv 5) (pa_cons (pe_tup (pa_cons (pv 2) (pa_cons (pv 8) (pa_cons (pe_ifExp (pt_cmpR op_eq (pv 2) pe_str (nomark _)) (pe_lst (pa_cons pe_str pa_nil)) (pe_lst (pa_cons pe_str pa_nil))) pa_nil)))) pa_nil))))))))))
      (pss_one (ps_ret (pv 5)))), ?_⟩
    have lx0 := paired_len r0.dr
    have sz : ∀ {n : Nat}, n ≤ 5 → n ≤ sizeLine := fun h => size_of (by omega)
    -- the rules, each with its tests the other way about
    refine q_put ?_
    refine ⟨_, rfl, F0, rfl, ⟨xs, Evl.sq_of r0.hF⟩, fun Lf nLf => ?_⟩
    refine lc_list (xs := xs) (fun j H' => Ex H H' ∧ ∃ acc, H' Lf = some (.lst acc) ∧ Paired (Dr (fun x => x ≠ a ∧ x ≠ b ∧ x ≠ Lf) H') acc ((rs.take j).map turnR) ∧ j ≤ 10) ⟨Ex.new nLf, [], upd_same, .nil, Nat.zero_le _⟩ (fun j H' _ z => Evl.sq_of (z.1 _ _ r0.hF)) ?_ ?_
    · rintro j x Hx hx ⟨ex, acc, hLf, hacc, _⟩
      obtain ⟨r, hr', t1, l1', l2', rfl, g1, g2, g3, g4, g5⟩ := prd_at r0.dr hx
      have jl := (List.getElem?_eq_some_iff.mp hr').1
      have la := paired_len hacc
      rw [List.length_map, List.length_take] at la
      have tk : (rs.take (j + 1)).map turnR = (rs.take j).map turnR ++ [turnR r] := by
        rw [List.take_add_one, hr', List.map_append]
        rfl
      have rt := l4 r (List.mem_of_getElem? hr')
      refine ⟨t1, _, rfl, Evl.st_of (ex _ _ g1), rfl, _, _, rfl, _, _, rfl, _, _, rfl, rfl, ?_⟩
      refine ⟨rfl, ?_⟩
      unfold tYes
      dsimp only
      rw [if_pos rfl]
      refine ⟨_, rfl, _, rfl, l1', _, rfl, Evl.sq_of (ex _ _ g2), fun p1 np1 => ?_⟩
      have e1 : Ex Hx (upd Hx p1 (.lst (r.ts.map V.str).reverse)) := Ex.new np1
      refine ⟨_, rfl, 1, rfl, l1', _, rfl, Evl.sq_of (e1 _ _ (ex _ _ g2)), fun p2 np2 => ?_⟩
      have e2 : Ex (upd Hx p1 (.lst (r.ts.map V.str).reverse)) (upd (upd Hx p1 (.lst (r.ts.map V.str).reverse)) p2 (.lst (cutV (r.ts.map V.str) none (some 1)))) := Ex.new np2
      have c1 : cutV (r.ts.map V.str) none (some 1) = (r.ts.take 1).map V.str := by
        rw [List.map_take]
        exact cut_to _ 1
      refine ⟨p1, p2, _, _, rfl, rfl, e2 _ _ upd_same, upd_same, ?_, fun p3 np3 => ?_⟩
      · rw [c1, List.length_reverse, List.length_map, List.length_map, List.length_take]
        exact size_of (by omega)
      have e3 := Ex.new (o := .lst ((r.ts.map V.str).reverse ++ cutV (r.ts.map V.str) none (some 1))) np3
      refine ⟨_, rfl, sz (by show 3 ≤ 5; decide), fun tp ntp => ?_⟩
      have e4 := Ex.new (o := .tup [.str r.k, .ref p3, .ref l2']) ntp
      have eAll := ((e1.trans e2).trans e3).trans e4
      have hLf2 := eAll _ _ hLf
      have n3 : p3 ≠ Lf := (ne_of_none ((e1.trans e2) _ _ hLf) np3).symm
      have n3H : H p3 = none := Evl.fresh_back (ex.trans (e1.trans e2)) np3
      have nL2 : l2' ≠ Lf := ne_of_none g3 nLf
      refine ⟨acc, hLf2, Evl.sz_lt (by omega), (ex.trans eAll).mut nLf, _, upd_same, ?_, by omega⟩
      rw [tk]
      refine prd_app (prd_imp (fun _ _ h => (h.ex eAll).updL hLf2 fun _ h => h.2.2) hacc) (.cons ?_ .nil)
      refine Dr.updL hLf2 (fun _ h => h.2.2) ⟨tp, p3, l2', rfl, upd_same, ?_, (ex.trans eAll) _ _ g3, ⟨D0.nea n3H, D0.neb n3H, n3⟩, ⟨g5.1, g5.2, nL2⟩⟩
      have cc : (turnR r).ts.map V.str = (r.ts.map V.str).reverse ++ cutV (r.ts.map V.str) none (some 1) := by
        rw [c1, ← List.map_reverse, ← List.map_append]
        rfl
      rw [cc]
      exact e4 _ _ upd_same
    · rintro H3 ⟨e3, acc, hLf, hacc, _⟩
      have tkr : rs.take xs.length = rs := by rw [lx0, List.take_length]
      rw [tkr] at hacc
      have gs0 : Gs a b Lf H H3 acc (rs.map turnR) := ⟨Kp.same (ex_same e3), D0.keep (ex_same e3), nLf, hLf, hacc, fun r hr => by
        obtain ⟨q0, h0, rfl⟩ := List.mem_map.mp hr
        exact turn_good (r0.gd q0 h0) (l4 q0 h0)⟩
      refine Evl.q_cut (M := fun σ' H' => ∃ (c2 c3 c4 c6 c7 c8 : Option V) (zs : List V) (us : List RuleD), σ' = [some (.ref a), some (.ref F0), c2, c3, c4, some (.ref Lf), c6, c7, c8] ∧ Gs a b Lf H H' zs us ∧ AlikeR rs us ∧ us.length ≤ 8) ?_ (fun σ' H' hh => ?_)
      · refine Evl.s_forR1 (n := 3) (Evl.ea_cons Evl.ev_c Evl.ea_nil) (by decide) (fun i σ' H' => ∃ (c2 c3 c4 c6 c7 c8 : Option V) (zs : List V) (us : List RuleD), σ' = [some (.ref a), some (.ref F0), c2, c3, c4, some (.ref Lf), c6, c7, c8] ∧ Gs a b Lf H H' zs us ∧ AlikeR rs us ∧ Four us ∧ 1 ≤ us.length ∧ us.length ≤ 5 + i) ?_ ?_ ?_
        · intro H4 e4
          exact ⟨_, _, _, _, _, _, acc, _, rfl, gs0.ex e4, alike_turn rs, four_turn l4, by rw [List.length_map]; exact l1, by rw [List.length_map]; omega⟩
        · rintro i σ' Ha hi ⟨c2, c3, c4, c6, c7, c8, zs, us, rfl, g, al, fo, hl1, hl⟩
          have lx := paired_len g.dr
          refine q_put ?_
          refine ⟨_, rfl, _, rfl, Lf, zs, rfl, .inl (Evl.sq_of g.hF), a, b, (zs.length : Int), rfl, g.D, by omega, by omega, fun at_ Hb t0 t1 kb Db => ?_⟩
          have gb := g.mv D0 kb Db
          obtain ⟨j, rfl⟩ := Int.eq_ofNat_of_zero_le t0
          have hj : j < zs.length := by omega
          obtain ⟨x, hx⟩ : ∃ x, zs[j]? = some x := ⟨_, List.getElem?_eq_getElem hj⟩
          obtain ⟨rr, hrr, t, m1, m2, rfl, ht, hm1, hm2, sm1, sm2⟩ := prd_at gb.dr hx
          refine q_put ?_
          refine (Evl.ev_op (x := .ref Lf) (y := .int (j : Int)) (z := .ref t) (Evl.ev_var rfl) (Evl.ev_var rfl) (Evl.rv_ixL (Evl.sq_of gb.hF) (atI_nat hx))) Hb (Ex.refl _) _ fun Hd ed => ?_
          have gd := gb.ex ed
          refine ⟨t, _, rfl, Evl.st_of (ed _ _ ht), rfl, _, _, rfl, _, _, rfl, _, _, rfl, rfl, ?_⟩
          have grr := gd.gd rr (List.mem_of_getElem? hrr)
          have frr := fo rr (List.mem_of_getElem? hrr)
          have ixj : ixN zs.length (j : Int) = some j := Evl.ixN_nat hj
          have jj : ∀ j : Nat, V.int ((j : Int) + 1) = V.int ((j + 1 : Nat) : Int) := fun j => rfl
          refine ⟨_, rfl, a, b, 2, rfl, gd.D, by decide, by decide, fun r2 He s0 s1 ke De => ⟨rfl, _, rfl, and_draw (b := decide ((j : Int) + 1 < (zs.length : Int)) && !decide (((us[j + 1]?).map RuleD.k).getD "" = rr.k)) (fun _ => ?_) fun Hf ef => ?_⟩⟩
          · have ge := gd.mv D0 ke De
            refine Evl.et_and (Evl.et_test (Evl.ev_op (Evl.ev_op (Evl.ev_var rfl) Evl.ev_c Evl.rv_I0) (Evl.ev_len (Evl.ev_var rfl) (Evl.sq_of ge.hF)) Evl.rv_I0)) (fun hlt => ?_)
            have hlt2 := of_decide_eq_true hlt
            have hj1 : j + 1 < zs.length := by omega
            obtain ⟨x2, hx2⟩ : ∃ x, zs[j + 1]? = some x := ⟨_, List.getElem?_eq_getElem hj1⟩
            obtain ⟨r3, hr3, t3, _, _, rfl, ht3, _⟩ := prd_at ge.dr hx2
            refine Evl.et_test (Evl.ev_is (Evl.ev_op (x := .str r3.k) (y := .str rr.k) (ev_ixT (K := K) (j := 0) (v := .str r3.k) (Evl.ev_op (x := .ref Lf) (y := .int ((j + 1 : Nat) : Int)) (z := .ref t3) (Evl.ev_var rfl) (Evl.ev_is (Evl.ev_op (Evl.ev_var rfl) Evl.ev_c Evl.rv_I0) (jj j)) (Evl.rv_ixL (Evl.sq_of ge.hF) (atI_nat hx2))) Evl.ev_c (Evl.st_of ht3) rfl) (Evl.ev_var rfl) (Evl.rv_ne rfl)) ?_)
            rw [hr3]
            show V.bl (!decide (V.str r3.k = V.str rr.k)) = V.bl (!decide (r3.k = rr.k))
            rw [eq_str]
          have gf := (gd.mv D0 ke De).ex ef
          have nk : ∀ {l : Addr}, l ≠ a ∧ l ≠ b ∧ l ≠ Lf → ∀ {o : HO}, Hb l = some o → Hf l = some o := fun h _ z => ef _ _ (ke _ _ h.1 h.2.1 (ed _ _ z))
          have hm1f := nk sm1 hm1
          have hm2f := nk sm2 hm2
          refine ite2 (fun hb => ?_) (fun hb => ?_)
          · -- past its neighbour
            have hb2 := (Bool.and_eq_true_iff.mp hb).2
            obtain ⟨hb3, hb4⟩ := Bool.and_eq_true_iff.mp hb2
            have hj1 : j + 1 < zs.length := by have := of_decide_eq_true hb3; omega
            obtain ⟨x2, hx2⟩ : ∃ x, zs[j + 1]? = some x := ⟨_, List.getElem?_eq_getElem hj1⟩
            obtain ⟨r3, hr3, d3⟩ := prd_at gf.dr hx2
            have hk : r3.k ≠ rr.k := by
              rw [hr3] at hb4
              exact of_decide_eq_false (by simpa using hb4)
            have g3r := gf.gd r3 (List.mem_of_getElem? hr3)
            refine q_put ?_
            refine (Evl.ev_op (x := .ref Lf) (y := .int ((j + 1 : Nat) : Int)) (z := x2) (Evl.ev_var rfl) (Evl.ev_is (Evl.ev_op (Evl.ev_var rfl) Evl.ev_c Evl.rv_I0) (jj j)) (Evl.rv_ixL (Evl.sq_of gf.hF) (atI_nat hx2))) Hf (Ex.refl _) _ fun Hg eg => ?_
            have gg := gf.ex eg
            refine ⟨_, rfl, _, rfl, Lf, zs, (j : Int), j, rfl, rfl, gg.hF, ixj, ?_⟩
            have gh := gg.set D0 j (d3.ex eg) g3r
            have hLg := gg.hF
            have ht1 : ∀ {l : Addr}, l ≠ a ∧ l ≠ b ∧ l ≠ Lf → ∀ {o : HO}, Hf l = some o → upd Hg Lf (.lst (zs.set j x2)) l = some o := fun h _ z => by
              rw [upd_ne h.2.2]
              exact eg _ _ z
            have hm1h := ht1 sm1 hm1f
            have hm2h := ht1 sm2 hm2f
            refine asg_go ?_
            generalize upd Hg Lf (.lst (zs.set j x2)) = Hh at gh hm1h hm2h ⊢
            refine ⟨_, rfl, _, rfl, _, rfl, sz (by show 3 ≤ 5; decide), fun p np => ?_⟩
            have gi := gh.ex (Ex.new (o := .tup [.str rr.k, .ref m1, .ref m2]) np)
            refine ⟨_, rfl, _, rfl, _, _, rfl, rfl, Lf, _, (j : Int) + 1, j + 1, rfl, rfl, gi.hF, ?_, ?_⟩
            · rw [List.length_set]
              exact Evl.ixN_nat (j := j + 1) hj1
            have en := Ex.new (o := .tup [.str rr.k, .ref m1, .ref m2]) np
            have gk := gi.set (r := rr) D0 (j + 1) ⟨p, m1, m2, rfl, upd_same, en _ _ hm1h, en _ _ hm2h, sm1, sm2⟩ grr
            have sp := split_at hrr hr3
            have tl : (us.take j).length = j := by rw [List.length_take]; omega
            have es : (us.set j r3).set (j + 1) rr = us.take j ++ r3 :: rr :: us.drop (j + 2) := by
              have h := set_swap (x := rr) (y := r3) (us.take j) (us.drop (j + 2))
              rw [tl, ← sp] at h
              exact h
            refine ⟨_, _, _, _, _, _, _, _, rfl, gk, ?_, fun r hr => ?_, ?_, ?_⟩
            · rw [es]
              have h := alike_swap (x := rr) (y := r3) hk (us.take j) (us.drop (j + 2))
              rw [← sp] at h
              exact al.trans h
            · rw [es] at hr
              refine fo r ?_
              rw [sp]
              simp only [List.mem_append, List.mem_cons] at hr ⊢
              rcases hr with h | h | h | h
              · exact .inl h
              · exact .inr (.inr (.inl h))
              · exact .inr (.inl h)
              · exact .inr (.inr (.inr h))
            · rw [List.length_set, List.length_set]
              exact hl1
            · rw [List.length_set, List.length_set]
              omega
          · -- one behind, with its tests
            refine q_put ?_
            refine ⟨_, rfl, _, rfl, _, rfl, a, b, rr.k, rfl, gf.D, grr.k, fun L ts Hg ht hts kg Dg nL hL => ?_⟩
            have gg := gf.mv D0 kg Dg
            have hm1g := kg _ _ sm1.1 sm1.2.1 hm1f
            have hm2g := kg _ _ sm2.1 sm2.2.1 hm2f
            refine ⟨m1, L, _, _, rfl, rfl, hm1g, hL, ?_, fun p1 np1 => ⟨4, rfl, p1, _, rfl, Evl.sq_of upd_same, fun p2 np2 => ?_⟩⟩
            · rw [List.length_map, List.length_map]
              have := frr.1
              exact size_of (by omega)
            have e1 := Ex.new (o := .lst (rr.ts.map V.str ++ ts.map V.str)) np1
            have e2 := Ex.new (o := .lst (cutV (rr.ts.map V.str ++ ts.map V.str) none (some 4))) np2
            have c4 : cutV (rr.ts.map V.str ++ ts.map V.str) none (some 4) = ((rr.ts ++ ts).take 4).map V.str := by
              rw [List.map_take, List.map_append]
              exact cut_to _ 4
            obtain ⟨dd, hdd⟩ : ∃ d : Str, d = if rr.k = "answer" then "drop" else "wipe" := ⟨_, rfl⟩
            have ddk : dd ∈ deedsOf rr.k := by
              rw [hdd]
              unfold deedsOf
              split <;> decide
            refine ⟨_, rfl, .inl ⟨rfl, _, Evl.sq_of (e2 _ _ (e1 _ _ gg.hF))⟩, _, rfl, _, rfl, ?_⟩
            refine at_consW ((el_if (xs := [.str dd]) (b := decide (rr.k = "answer")) (Evl.et_is (Evl.et_test (Evl.ev_op (Evl.ev_var rfl) Evl.ev_c (Evl.rv_eq rfl))) (eq_str _ _)) (fun hb => ?_) (fun hb => ?_)) _ (Ex.refl _) _ fun Ld Hh nLd eh hLd => ?_)
            · rw [hdd, if_pos (of_decide_eq_true hb)]
              exact Evl.el_lst (Evl.ea_cons Evl.ev_c Evl.ea_nil) (by show 1 ≤ 100000; decide)
            · rw [hdd, if_neg (of_decide_eq_false hb)]
              exact Evl.el_lst (Evl.ea_cons Evl.ev_c Evl.ea_nil) (by show 1 ≤ 100000; decide)
            refine ⟨sz (by show 3 ≤ 5; decide), fun tp ntp => ?_⟩
            have e4 := Ex.new (o := .tup [.str rr.k, .ref p2, .ref Ld]) ntp
            have e24 := eh.trans e4
            have g1 := gg.ex (e1.trans (e2.trans e24))
            have nb : ∀ {H1 : Hp} {l : Addr}, Gs a b Lf H H1 zs us → H1 l = none → l ≠ a ∧ l ≠ b ∧ l ≠ Lf := fun g n => ⟨D0.nea (g.kp.none g.D n), D0.neb (g.kp.none g.D n), fun z => by rw [z, g.hF] at n; cases n⟩
            have g2 := g1.app (r := ⟨rr.k, (rr.ts ++ ts).take 4, [dd]⟩) D0 ⟨tp, p2, Ld, rfl, upd_same, by rw [← c4]; exact e24 _ _ upd_same, e4 _ _ hLd, nb (gg.ex e1) np2, nb (gg.ex (e1.trans e2)) nLd⟩ ⟨grr.k, fun z hz => by
              rcases List.mem_append.mp (List.mem_of_mem_take hz) with h | h
              · exact grr.ts z h
              · exact ht z h, fun z hz => by rw [List.mem_singleton.mp hz]; exact ddk, by show ((rr.ts ++ ts).take 4).length ≤ 1000; rw [List.length_take]; omega, by show 1 ≤ 1000; decide⟩
            refine ⟨Lf, zs, .ref tp, rfl, rfl, g1.hF, Evl.sz_lt (by omega), ?_⟩
            refine nx_go ⟨_, _, _, _, _, _, _, _, rfl, g2, al.trans (alike_more (List.mem_of_getElem? hrr) rfl fun z hz => ?_), fun r hr => ?_, ?_, ?_⟩
            · show z ∈ (rr.ts ++ ts).take 4
              rw [List.take_append]
              exact List.mem_append_left _ (frr.2 z hz)
            · rcases List.mem_append.mp hr with h | h
              · exact fo r h
              · rw [List.mem_singleton.mp h]
                refine ⟨?_, fun z hz => ?_⟩
                · show ((rr.ts ++ ts).take 4).length ≤ 5
                  rw [List.length_take]
                  omega
                · show z ∈ ((rr.ts ++ ts).take 4).take 4
                  rw [List.take_take]
                  exact hz
            · rw [List.length_append]
              omega
            · rw [List.length_append]
              show us.length + 1 ≤ 5 + (i + 1)
              omega
        · rintro σ' H' ⟨c2, c3, c4, c6, c7, c8, zs, us, e, g, al, _, _, hl⟩
          exact ⟨c2, c3, c4, c6, c7, c8, zs, us, e, g, al, hl⟩
      · obtain ⟨c2, c3, c4, c6, c7, c8, zs, us, rfl, g, al, hl⟩ := hh
        exact ⟨.ref Lf, rfl, q Lf zs us H' ⟨g.hF, prd_imp (fun _ _ h => h.imp fun L hL => ⟨hL.1, hL.2.1⟩) g.dr, ⟨D0.nea g.nf, D0.neb g.nf⟩, g.gd, by omega⟩ al g.kp g.D⟩
end
end Ov


namespace Ov
open PySem PySem.Spec PyProof.Rows L2
open Evl (pss_cut tCut Ex Ev EvT EvL EvA EvU)
/-! ### k16's law -/
def spLaw (K : PySem.W.Frag) : Sp := fun vs H Q _ => ∃ (a : Addr) (ns : List Int), vs = [.ref a] ∧ SqL K H a (ns.map V.int) ∧ ns.length ≤ 63 ∧ ∀ H', Q (.bl true) H'
/-- drawn rules, as data -/
def dR (r : RuleD) : PyData := .tuple [.str r.k, .list (r.ts.map PyData.str), .list (r.ds.map PyData.str)]
section
variable {P : Program} {w : World} {K : PySem.W.Frag} {mg : Str → Option Value} {base : Heap} {CR CP CD df0 df1 : Addr}
abbrev sLaw : Stmt := topS 77
theorem scLaw : FnScope ["_law_script", "_law_deal_here", "_law_turn", "_law_raising_here", "_law_some", "_law_one", "_law_two", "_law_acts_here", "_law_world_here", "_law_words", "_law_at", "_law_event"] ["_law_script"] (defScope sLaw) := ⟨rfl, rfl, rfl, by decide +kernel, rfl, by decide +kernel, by decide +kernel⟩
theorem dpa_drawn {S : Addr → Prop} {H : Hp} : ∀ {xs : List V} {rs : List RuleD}, Paired (Dr S H) xs rs → DpAll K H xs (rs.map dR)
  | _, _, .nil => .nil
  | _, _, .cons h t => by
    obtain ⟨t1, l1, l2, rfl, h1, h2, h3, _, _⟩ := h
    exact .cons (.tup (Evl.st_of h1) (.cons (.str _) (.cons (.lst (Evl.sq_of h2) (dp_strs _)) (.cons (.lst (Evl.sq_of h3) (dp_strs _)) .nil)))) (dpa_drawn t)
theorem GD.drawn {rs : List RuleD} (h : ∀ r ∈ rs, r.Good) : GD (.list (rs.map dR)) 3 := GD.lst (n := 2) fun d hd => by
  obtain ⟨r, hr, rfl⟩ := List.mem_map.mp hd
  have g := h r hr
  have a : ∀ k ∈ kindsAll, PyData.canLay0 (.str k) = true := by decide +kernel
  refine GD.tup (n := 1) fun e he => ?_
  simp only [List.mem_cons, List.not_mem_nil, or_false] at he
  rcases he with rfl | rfl | rfl
  · exact GD.str (a _ g.k) 1
  · exact GD.lstr g.pt
  · exact GD.lstr g.pd
/-- drawn rules against none -/
theorem ev_rulesNil {ta : TE} {σ : L2.St} {H : Hp} {S : Addr → Prop} {F : Addr} {xs : List V} {rs : List RuleD} (ha : Ev ta σ H (.ref F)) (hF : H F = some (.lst xs)) (dr : Paired (Dr S H) xs rs) (gd : ∀ r ∈ rs, r.Good) : Ev (tOp (rEqD K) ta (tLst tNil)) σ H (.bl (decide (rs = []))) :=
  Evl.ev_opL (xs := []) ha (Evl.el_lst Evl.ea_nil (Nat.zero_le _)) fun q H1 hq1 e1 => fun H2 e2 Q k => ⟨_, _, .lst (Evl.sq_of ((e1.trans e2) _ _ hF)) (dpa_drawn (prd_imp (fun _ _ h => h.ex (e1.trans e2)) dr)), .lst (Evl.sq_of (e2 _ _ hq1)) .nil, (GD.drawn gd).shaped (by decide), by decide +kernel, by
    have e : PyData.eqv (.list (rs.map dR)) (.list []) = decide (rs = []) := by
      cases rs with
      | nil => rfl
      | cons r rs =>
        rw [decide_eq_false (by simp)]
        rfl
    rw [e]
    exact k H2 (Ex.refl _)⟩
theorem evl_nil {te : TE} {σ : L2.St} {H : Hp} {l : List V} (e : l = []) (h : EvL te σ H l) : EvL te σ H [] := e ▸ h
theorem nil_go {σ : L2.St} {H : Hp} {Q : List V → Hp → Prop} (h : Q [] H) : tNil σ H Q := h
/-- Plan.read, where its text stands -/
theorem read_at {ks : List Str} {rs : List RuleD} {H2 : Hp} {Q : VK} (o : PlanOk ks rs) (q : ∀ p H3, Ex H2 H3 → PlanIs K CR CP ks rs p H3 → Q (.ref p) H3) : spPlanReadG K CR CP sortedOf [V.ref CP, .str (planText ks rs)] H2 Q E0 := by
  have gk := sub_good o.sl
  have hz := o.hz
  refine ⟨planText ks rs, firstLine ks, ks, rs, rfl, lines_read gk.2.2 o.g, first_read gk.2.2, Nat.le_trans (plan_len gk.1 gk.2.2 o.g o.hz) (by decide), Nat.le_trans (raises_len gk.1 gk.2.2).2 (by decide), by omega, o.g, gk.1, gk.2.1, gk.2.2, fun p H3 ys xs so e3 po ro => ?_⟩
  rw [sorted_one gk (sub_asc o.sl) so] at po
  exact q p H3 e3 ⟨xs, po, ro⟩
theorem evP_rulesP {te : TE} {σ : L2.St} {H : Hp} {m : CM} (TD : TxD K mg CD) (h : EvP te σ H (fun o H2 => PlayedAt K CD H2 o m)) : EvP (tFld K te "rules") σ H (fun t H2 => SqT K H2 t (m.rules.map ov)) := fun H1 e1 Q q =>
  h H1 e1 _ fun o H2 e2 po => by
    obtain ⟨dx, y1, y2, y3, y4, y5, ys1, u1, u2, u3, u4, u5, u6, u7⟩ := po
    exact ⟨o, CD, dx, _, _, rfl, u1, TD.cl, TD.rules, pd_rules, q y4 H2 e2 u6⟩
/-- over a tuple of what is made, some of it -/
theorem el_lcPf {tl te : TE} {tt : TT} {σ : L2.St} {H : Hp} {xs : List V} {j : Nat} {vs : List Nat} (f : Nat → Bool) (v : Nat → V) (h : EvP tl σ H (fun t H2 => SqT K H2 t xs)) (hz : xs.length ≤ 40000) (hw : ∀ x, wipe ((wipe σ vs).set j (some x)) vs = wipe σ vs)
    (ht : ∀ (i : Nat) (x : V) H1, Ex H H1 → xs[i]? = some x → EvT tt ((wipe σ vs).set j (some x)) H1 (f i)) (he : ∀ (i : Nat) (x : V) H1, Ex H H1 → xs[i]? = some x → f i = true → Ev te ((wipe σ vs).set j (some x)) H1 (v i)) : EvL (tLc (iTup K tl) (gName j) tt te vs) σ H (Evl.given xs.length f v) := fun H0 e Q q => h H0 e _ fun a H1 e1 ha => ⟨a, rfl, ⟨xs, ha⟩, fun L hL =>
  lc_tup (xs := xs) (Evl.Cw H1 f v L) ⟨hL, Ex.new hL, upd_same⟩ (fun i H' _ p => Evl.ex_t p.2.1 ha)
    (fun i x H' hi p => ⟨hw x, Evl.cw_turn p (by have := (List.getElem?_eq_some_iff.mp hi).1; omega) (ht i x H1 (e.trans e1) hi) (fun hf => he i x H1 (e.trans e1) hi hf)⟩)
    (fun H' p => q L H' (Evl.fresh_back e1 p.1) (e1.trans p.2.1) p.2.2)⟩
namespace CM
variable {m : CM} {rs : List RuleD} {ru : List (Option Nat)}
theorem put_wf (w : m.WF) (g : ∀ r ∈ rs, r.Good) (hz : rs.length ≤ 1000) : (m.put rs ru).WF := ⟨w.ne, w.newest, w.whole, w.own, w.off, w.ans, w.counted, w.shows, w.sne, w.kinds, g, hz, w.gw, w.gn⟩
theorem put_few (f : m.Few) (R : RuOk m.rs rs m.rules ru) (h : rs.length ≤ 100) : (m.put rs ru).Few := ⟨f.ll, f.nb, f.sl, f.al, by
  have e := congrArg List.length R.nn
  rw [List.length_map, List.length_map] at e
  show ru.length ≤ 100
  rw [e]
  exact f.rl, fun r hr i e => by have := R.lt r hr i e; omega⟩
theorem put_data (R : RuOk m.rs rs m.rules ru) : data16 (m.put rs ru) = data16 m := by
  unfold data16
  show PyData.list [_, _, _, _, _, _, _, .list ((ru.map Option.isNone).map PyData.bool)] = _
  rw [R.nn]
  rfl
end CM
theorem ok_law {f fDeal fDraw fPi fTe fRu fWi fRs fRa fTx fWo fVi fHo fCo fHe fCa fGo fNo fSa fAc fAs fTo fRt fOt fPl fPL pP gP : Addr} {fd fdDeal fdDraw fdPi fdTe fdRu fdWi fdRs fdRa fdTx fdWo fdVi fdHo fdCo fdHe fdCa fdGo fdNo fdSa fdAc fdAs fdTo fdRt fdOt fdPl fdPL : FuncData} {mcP : Value}
    (F : Fun K "law" "law" sLaw f fd) (T : TxB mg) (TP : TxP K mg CP) (TD : TxD K mg CD) (n_str : mg "str" = none) (n_repr : mg "repr" = none) (n_enumerate : mg "enumerate" = none)
    (D_deal : Df K mg "_law_deal" sDeal ["_law_script", "_law_base"] fDeal fdDeal) (D_draw : Df K mg "_law_draw" sDraw ["_law_deal_here", "_law_many"] fDraw fdDraw) (D_pick : Df K mg "_law_pick" sPick ["_law_deal_here", "_law_some"] fPi fdPi)
    (D_test : Df K mg "_law_test" sTest ["_law_deal_here", "_law_sort"] fTe fdTe) (D_rule : Df K mg "_law_rule" sRule ["_law_deal_here"] fRu fdRu) (D_wise : Df K mg "_law_wise" sWise ["_law_deal_here"] fWi fdWi)
    (D_rules : Df K mg "_law_rules" sRules ["_law_deal_here", "_law_most"] fRs fdRs) (D_raising : Df K mg "_law_raising" sRaising ["_law_deal_here"] fRa fdRa) (D_text : Df K mg "_law_text" sText ["_law_raising_here", "_law_some"] fTx fdTx)
    (D_world : Df K mg "_law_world" sWorld ["_law_raising_here", "_law_some"] fWo fdWo) (D_view : Df K mg "_law_view" sView ["_law_world_here"] fVi fdVi) (D_law_holds : Df K mg "_law_holds" sLawHolds ["_law_world_here", "_law_test_here", "_law_place"] fHo fdHo)
    (D_come : Df K mg "_law_come" sCome ["_law_world_here", "_law_place"] fCo fdCo) (D_hear : Df K mg "_law_hear" sHear ["_law_world_here", "_law_number"] fHe fdHe) (D_can : Df K mg "_law_can" sCan ["_law_world_here", "_law_event"] fCa fdCa)
    (D_go : Df K mg "_law_go" sGo ["_law_world_here", "_law_event"] fGo fdGo) (D_note : Df K mg "_law_note" sNote ["_law_world_here"] fNo fdNo) (D_said : Df K mg "_law_said" sSaid ["_law_event"] fSa fdSa)
    (D_act : Df K mg "_law_act" sAct ["_law_deal_here", "_law_world_here", "_law_most"] fAc fdAc) (D_acts : Df K mg "_law_acts" sActs ["_law_deal_here", "_law_raising_here", "_law_some", "_law_many", "_law_most"] fAs fdAs)
    (D_told : Df K mg "_law_told" sTold ["_law_played"] fTo fdTo) (D_rule_tests : Df K mg "_law_rule_tests" sRuleTests ["_law_deal_here", "_law_sort"] fRt fdRt) (D_otherwise : Df K mg "_law_otherwise" sOtherwise ["_law_deal_here", "_law_some"] fOt fdOt)
    (D_play : Df K mg "play" sPlay ["plan", "weaving"] fPl fdPl) (G_play : FnOk P w K mg base CX0 6 fPl fdPl ["plan", "weaving"] (spPlay K CR CP CD))
    (rdP : ClX.CRead K CP mcP) (cmP : ClX.CMet K CP mcP "read" pP gP) (G_readP : FnR P w K mg base CX0 6 gP (spPlanReadG K CR CP sortedOf))
    (lnP : PySem.W.findIn K (.ref CP) "__len__" = some (some (.ref fPL))) (isPL : PySem.W.isFn K (.ref fPL) = true) (G_plen : FnOk P w K mg base CX0 1 fPL fdPL ["self"] (spPlanLen K CP)) (b_plen : Binds K fdPL ["self"] []) :
    FnC P w K mg base 8 f fd ["_law_script"] (spLaw K) := by
  have G_deal : FnOk P w K mg base CX0 1 fDeal fdDeal ["_law_script", "_law_base"] (spDeal K) := ok_deal D_deal.F T
  have G_raising : FnOk P w K mg base CX0 2 fRa fdRa ["_law_deal_here"] spRaisingD := ok_raising D_raising.F T D_draw
  have G_rules : FnOk P w K mg base CX0 5 fRs fdRs ["_law_deal_here", "_law_most"] spRules := ok_rules D_rules.F T D_draw D_pick D_test D_rule D_wise
  have G_text : FnOk P w K mg base CX0 1 fTx fdTx ["_law_raising_here", "_law_some"] spTextW := ok_textW D_text.F T
  have G_come : FnOk P w K mg base CX0 3 fCo fdCo ["_law_world_here", "_law_place"] spComeW := ok_comeW D_come.F T n_enumerate D_law_holds
  have G_hear : FnOk P w K mg base CX0 1 fHe fdHe ["_law_world_here", "_law_number"] spHearW := ok_hearW D_hear.F T n_enumerate
  have G_note : FnOk P w K mg base CX0 2 fNo fdNo ["_law_world_here"] spNoteW := ok_noteW D_note.F T D_view
  have G_go : FnOk P w K mg base CX0 4 fGo fdGo ["_law_world_here", "_law_event"] spGoW := ok_goW D_go.F T D_view D_come G_come D_hear G_hear D_note G_note
  have G_acts : FnOk P w K mg base CX0 5 fAs fdAs ["_law_deal_here", "_law_raising_here", "_law_some", "_law_many", "_law_most"] spActs := ok_acts D_acts.F T n_enumerate D_draw D_pick D_view D_can D_world D_act D_go G_go
  have G_said : FnOk P w K mg base CX0 1 fSa fdSa ["_law_event"] spSaid := ok_said D_said.F n_str
  have G_otherwise : FnOk P w K mg base CX0 5 fOt fdOt ["_law_deal_here", "_law_some"] spOther := ok_otherwise D_otherwise.F T D_draw D_pick D_test D_rule_tests
  have G_told : FnC P w K mg base 2 fTo fdTo ["_law_played"] (spTold16 K CD) := ok_told D_told.F T TD n_repr
  have lenTold : ∀ vs H Q E, spTold16 K CD vs H Q E → vs.length = (["_law_played"] : List Str).length := fun vs H Q E h => by
    obtain ⟨q, m, rfl, _⟩ := h
    rfl
  refine okC (k := 7) F scLaw (fun vs H Q E h => ?_) (fun cdv A outer s H vs Q hg hr h => ?_)
  · obtain ⟨a, ns, rfl, _⟩ := h
    rfl
  · obtain ⟨sa, ns, rfl, hS, hlen, kq⟩ := h
    have hr2 : Room 2 (A.deeper (envOfC "law" (defScope sLaw) s.heap.objs.size f cdv)) := hr.mono (by decide)
    refine ⟨_, pss_cons (ps_set (i := 1) scLaw.nd rfl (.inl rfl) (pe_call (E := E0) G_deal (hr.mono (by decide)) rfl D_deal.g D_deal.F.kp D_deal.b .nil pass0 (pa_cons (pv 0) (pa_cons pe_int pa_nil))))
      (pss_cut (ps_for PassesOwn.never rfl (pi_range1 rfl T.n_range (pa_cons pe_int pa_nil)) (pg_name (i := 2) scLaw.nd rfl (Or.inl rfl)) (pss_cons (ps_par (i := 3) (j := 4) (by rfl) scLaw.nd rfl rfl (by decide) rfl rfl (pa_cons (pe_call (E := E0) G_raising (hr.mono (by decide)) rfl D_raising.g D_raising.F.kp D_raising.b .nil pass0 (pa_cons (pv 1) pa_nil)) (pa_cons (pe_call (E := E0) G_rules (hr.mono (by decide)) rfl D_rules.g D_rules.F.kp D_rules.b .nil pass0 (pa_cons (pv 1) (pa_cons pe_int pa_nil))) pa_nil)) (by rfl))
      (pss_cut (ps_if (pt_cmpR (op_eqD hr.units) (pv 4) (pe_lst pa_nil) (nomark _)) (pss_one (ps_set (i := 4) scLaw.nd rfl (.inl rfl) (pe_lst (pa_cons (pe_tup (pa_cons pe_str (pa_cons (pe_lst pa_nil) (pa_cons (pe_lst (pa_cons pe_str pa_nil)) pa_nil)))) pa_nil)))) pss_nil)
      (pss_cons (ps_set (i := 5) scLaw.nd rfl (.inl rfl) (ClX.pe_cmeth (E := E0) (pe_glob (v := .ref CP) rfl TP.g_Plan rfl) rdP cmP G_readP (hr.mono (by decide)) pass0 (pa_cons (pe_call (E := E0) G_text (hr.mono (by decide)) rfl D_text.g D_text.F.kp D_text.b .nil pass0 (pa_cons (pv 3) (pa_cons (pv 4) pa_nil))) pa_nil)))
      (pss_cons (ps_set (i := 6) scLaw.nd rfl (.inr rfl) (ClX.pe_cmeth (E := E0) (pe_glob (v := .ref CP) rfl TP.g_Plan rfl) rdP cmP G_readP (hr.mono (by decide)) pass0 (pa_cons (pe_call (E := E0) G_text (hr.mono (by decide)) rfl D_text.g D_text.F.kp D_text.b .nil pass0 (pa_cons (pv 3) (pa_cons (pe_call (E := E0) G_otherwise (hr.mono (by decide)) rfl D_otherwise.g D_otherwise.F.kp D_otherwise.b .nil pass0 (pa_cons (pv 1) (pa_cons (pv 4) pa_nil))) pa_nil))) pa_nil)))
      (pss_cons (ps_asg (pe_call (E := E0) G_acts (hr.mono (by decide)) rfl D_acts.g D_acts.F.kp D_acts.b .nil pass0 (pa_cons (pv 1) (pa_cons (pv 3) (pa_cons (pv 4) (pa_cons pe_int (pa_cons pe_int pa_nil)))))) (pg_tup (by rfl) (pgs_cons (pg_name (i := 7) scLaw.nd rfl (Or.inl rfl)) (pgs_cons (pg_name (i := 8) scLaw.nd rfl (Or.inl rfl)) pgs_nil))))
      (pss_cons (ps_setLc (i := 9) (own := [("_law_event", 11)]) (g := gName 11) (tt := tYes) rfl scLaw.nd rfl rfl (sw_true rfl rfl rfl (by decide +kernel)) (pi_list (pv 7)) (blkOk_by (own := [("_law_event", 11)]) (N := ["_law_script", "_law_deal_here", "_law_turn", "_law_raising_here", "_law_some", "_law_one", "_law_two", "_law_acts_here", "_law_world_here", "_law_words", "_law_at", "_law_event"]) (sc := defScope sLaw) (by decide +kernel)) (fun _ _ _ _ _ => (pg_name (i := 11) scLaw.nd rfl (Or.inl rfl))) (fun _ _ _ _ _ => pts_nil) (fun _ _ _ _ _ => (pe_call (E := E0) G_said (hr.mono (by decide)) rfl D_said.g D_said.F.kp D_said.b .nil pass0 (pa_cons (pv 11) pa_nil))))
      (pss_cons (ps_if (pt_cmpR op_ne (pe_callC G_told lenTold hg (hr.mono (by decide)) rfl D_told.g D_told.F.kp D_told.b .nil (pa_cons (pe_call (E := E0) G_play (hr.mono (by decide)) rfl D_play.g D_play.F.kp D_play.b .nil pass0 (pa_cons (pv 5) (pa_cons (pv 9) pa_nil))) pa_nil)) (pe_callC G_told lenTold hg (hr.mono (by decide)) rfl D_told.g D_told.F.kp D_told.b .nil (pa_cons (pe_call (E := E0) G_play (hr.mono (by decide)) rfl D_play.g D_play.F.kp D_play.b .nil pass0 (pa_cons (pv 6) (pa_cons (pv 9) pa_nil))) pa_nil)) (nomark _)) (pss_one (ps_ret pe_bl)) pss_nil)
      (pss_one (ps_if (pt_cmpR (op_neD hr.units) (pe_lc (own := [("_law_at", 10)]) (g := gName 10) rfl scLaw.nd (pi_tup (pe_fld (pe_call (E := E0) G_play (hr.mono (by decide)) rfl D_play.g D_play.F.kp D_play.b .nil pass0 (pa_cons (pv 6) (pa_cons (pv 9) pa_nil))) rfl)) (blkOk_by (own := [("_law_at", 10)]) (N := ["_law_script", "_law_deal_here", "_law_turn", "_law_raising_here", "_law_some", "_law_one", "_law_two", "_law_acts_here", "_law_world_here", "_law_words", "_law_at", "_law_event"]) (sc := defScope sLaw) (by decide +kernel)) (fun _ _ _ _ _ => (pg_name (i := 10) scLaw.nd rfl (Or.inl rfl))) (fun _ _ _ _ _ => (pts_one (PW.pt (pw_and (pt_cmpR op_notN (pv 10) pe_non (nomark _)) (pw_and1 (pt_cmpR op_ge (pv 10) (pe_callB (r := rLenI CP (spPlanLen K CP) E0) (call_lenI G_plen hr2 lnP isPL b_plen pass0) (by rfl) T.n_len (by decide +kernel) (pa_cons (pv 6) pa_nil)) (nomark _))))))) (fun _ _ _ _ _ => (pv 10))) (pe_lst pa_nil) (nomark _)) (pss_one (ps_ret pe_bl)) pss_nil))))))))))
      (pss_one (ps_ret pe_bl))), ?_⟩
    refine q_put ?_
    refine ⟨_, rfl, sa, ns, 0, rfl, hS, hlen, by decide, fun a b H1 s1 na nb D1 => ?_⟩
    have sz : ∀ {n : Nat}, n ≤ 5 → n ≤ sizeLine := fun h => size_of (by omega)
    -- four times
    refine Evl.q_cut (M := fun _ _ => True) ?_ (fun σ' H' _ => Evl.s_ret (v := .bl true) Evl.ev_c fun H2 _ => kq H2)
    refine Evl.s_forR1 (n := 4) (Evl.ea_cons Evl.ev_c Evl.ea_nil) (by decide) (fun _ σ' H' => ∃ b2 b3 b4 b5 b6 b7 b8 b9 b10 b11 : Option V, σ' = [some (.ref sa), some (.ref a), b2, b3, b4, b5, b6, b7, b8, b9, b10, b11] ∧ Kp a b H1 H' ∧ Deal H' a b) ?_ ?_ (fun _ _ _ => trivial)
    · intro H2 e2
      exact ⟨_, _, _, _, _, _, _, _, _, _, rfl, Kp.same (ex_same e2), D1.keep (ex_same e2)⟩
    rintro i σ' H2 hi ⟨b2, b3, b4, b5, b6, b7, b8, b9, b10, b11, rfl, k2, D2⟩
    -- kinds, rules
    refine par_go ?_
    refine ⟨_, rfl, a, b, rfl, D2, fun L ks H3 sl k3 D3 nL hL => ?_⟩
    refine ⟨_, rfl, a, b, 5, rfl, by decide, D3, fun F0 xs0 rs0 H4 g4 hl0 => ⟨_, _, rfl, ?_⟩⟩
    have La := D2.nea nL
    have Lb := D2.neb nL
    have hL4 := g4.kp _ _ La Lb hL
    have t4 : ∀ r ∈ rs0, r.ts.length ≤ 4 := by
      have go : ∀ {xs : List V} {rs : List RuleD}, Paired (DrG (fun L => H3 L = none ∧ L ≠ F0) 4 H4) xs rs → ∀ r ∈ rs, r.ts.length ≤ 4 := by
        intro xs rs h
        induction h with
        | nil => exact fun r hr => nomatch hr
        | cons h t ih =>
          intro r hr
          rcases List.mem_cons.mp hr with rfl | hr
          · exact h.2.2
          · exact ih r hr
      exact go g4.dr
    -- at least one rule
    refine Evl.q_cut (M := fun σ' H' => ∃ (F1 : Addr) (xs : List V) (rs : List RuleD), σ' = [some (.ref sa), some (.ref a), some (.int (i : Int)), some (.ref L), some (.ref F1), b5, b6, b7, b8, b9, b10, b11] ∧ RsAt a b F1 H' xs rs ∧ 1 ≤ rs.length ∧ rs.length ≤ 5 ∧ (∀ r ∈ rs, r.ts.length ≤ 4) ∧ Ex H4 H') ?_ (fun σ' H5 hh => ?_)
    · refine Evl.s_when (b := decide (rs0 = [])) (Evl.et_test (ev_rulesNil (Evl.ev_var rfl) g4.hF (g4.drA D3) g4.good)) (fun hb H5 e5 => ?_) (fun hb H5 e5 => ?_)
      · have D5 := g4.D.keep (ex_same e5)
        refine asg_go ?_
        refine ⟨sz (by show 0 ≤ 5; decide), fun l1 n1 => ⟨sz (by show 1 ≤ 5; decide), fun l2 n2 => ⟨sz (by show 3 ≤ 5; decide), fun t nt => ⟨sz (by show 1 ≤ 5; decide), fun F1 nF => ?_⟩⟩⟩⟩
        have e1 := Ex.new (o := .lst []) n1
        have e2 := Ex.new (o := .lst [.str "take"]) n2
        have e3 := Ex.new (o := .tup [.str "ask", .ref l1, .ref l2]) nt
        have e4 := Ex.new (o := .lst [.ref t]) nF
        have D51 := D5.keep (ex_same e1)
        have D52 := D51.keep (ex_same e2)
        have D53 := D52.keep (ex_same e3)
        refine ⟨F1, [.ref t], [⟨"ask", [], ["take"]⟩], rfl, ⟨upd_same, .cons ⟨t, l1, l2, rfl, e4 _ _ upd_same, ((e2.trans e3).trans e4) _ _ upd_same, (e3.trans e4) _ _ upd_same, ⟨D5.nea n1, D5.neb n1⟩, ⟨D51.nea n2, D51.neb n2⟩⟩ .nil, ⟨D53.nea nF, D53.neb nF⟩, fun r hr => ?_, by show 1 ≤ 10; decide⟩, Nat.le_refl _, by show 1 ≤ 5; decide, fun r hr => ?_, (((e5.trans e1).trans e2).trans e3).trans e4⟩
        · rw [List.mem_singleton.mp hr]
          exact ⟨by show ("ask" : Str) ∈ kindsAll; decide, fun t ht => (by cases ht), fun d hd => by rw [List.mem_singleton.mp hd]; show ("take" : Str) ∈ deedsOf "ask"; decide +kernel, Nat.zero_le _, by show 1 ≤ 1000; decide⟩
        · rw [List.mem_singleton.mp hr]
          exact Nat.zero_le _
      · refine ⟨F0, xs0, rs0, rfl, (g4.rs D3 (by omega)).ex e5, ?_, hl0, t4, e5⟩
        cases rs0 with
        | nil => exact absurd rfl (of_decide_eq_false hb)
        | cons r rs => exact Nat.succ_le_succ (Nat.zero_le _)
    obtain ⟨F1, xs, rs, rfl, r5, l1, l5, l4, e45⟩ := hh
    have D5 := g4.D.keep (ex_same e45)
    have hL5 := e45 _ _ hL4
    have ok1 : PlanOk ks rs := ⟨sl, r5.gd, r5.hl⟩
    have k15 : Kp a b H1 H5 := ((k2.trans k3).trans g4.kp).trans (Kp.same (ex_same e45))
    -- a plan
    refine q_put ?_
    refine (evP_read (ks := ks) (rs := rs) (ev_textW (Evl.ev_var rfl) (Evl.ev_var rfl) hL5 r5 sl) ok1) H5 (Ex.refl _) _ fun p1 H6 e6 pu6 => ?_
    have D6 := D5.keep (ex_same e6)
    -- the same said otherwise
    refine q_put ?_
    refine ⟨rfl, ?_⟩
    refine ⟨_, rfl, _, rfl, _, rfl, a, b, F1, xs, rs, rfl, D6, r5.ex e6, l1, l5, l4, fun F2 xs2 us H7 r7 al k7 D7 => ?_⟩
    have ok2 : PlanOk ks us := ⟨sl, r7.gd, r7.hl⟩
    have hL7 := k7 _ _ La Lb (e6 _ _ hL5)
    refine ⟨L, F2, ks, xs2, us, rfl, hL7, r7.hF, prd_imp (fun _ _ h => h.imp fun _ _ => trivial) r7.dr, sl, r7.gd, r7.hl, fun H8 e8 => ?_⟩
    refine nil_go ?_
    refine read_at ok2 fun p2 H9 e9 pu9 => ?_
    have e79 := e8.trans e9
    have D9 := D7.keep (ex_same e79)
    have k59 : Kp a b H5 H9 := ((Kp.same (ex_same e6)).trans k7).trans (Kp.same (ex_same e79))
    have r9 := r5.kp k59 D5
    have pu19 := pu6.kp (k7.trans (Kp.same (ex_same e79))) D6
    -- a weaving
    refine q_put ?_
    refine ⟨_, rfl, _, rfl, _, rfl, a, b, L, F1, ks, xs, rs, 30, 10, rfl, D9, e79 _ _ hL7, r9.hF, r9.dr, ⟨La, Lb⟩, r9.na, r9.gd, r9.hl, by decide, fun t Fe wa Aw ys es W m H10 wk hes ht => ?_⟩
    refine ⟨t, _, rfl, Evl.st_of ht, rfl, _, _, rfl, _, _, rfl, rfl, ?_⟩
    have G := wk.gn
    have wf := G.I.wf
    have few := G.few (by omega)
    have fm := G.forms
    have pu1 := pu19.kp wk.kp D9
    have pu2 := pu9.kp wk.kp D9
    have k110 : Kp a b H1 H10 := (k15.trans k59).trans wk.kp
    -- its texts
    refine Evl.q_asgL (xs := (es.map Evt.text).map V.str) (el_words (Evl.ev_var rfl) wk.hF wk.ev G.sm (by omega) (fun _ => rfl) (fun _ => rfl)) fun Wl H11 nW e11 hW => ?_
    have zl : (es.map Evt.text).length = 30 := by rw [List.length_map]; exact hes
    have go := G.go
    generalize hzs : es.map Evt.text = zs at go fm zl hW
    have evs := form_evs fm
    obtain ⟨ru, go2, R⟩ := CM.put_go (ru := []) (rs := us) (show AlikeR (CM.start ks rs).rs us from al) ⟨rfl, fun r hr => (nomatch hr)⟩ (CM.Sized.start ks rs) (by omega) fm go
    have wf2 : (m.put us ru).WF := CM.put_wf wf r7.gd (by have := r7.hl; omega)
    have few2 : (m.put us ru).Few := CM.put_few few R (by have := r7.hl; omega)
    have told : ∀ {H' : Hp} {σ : L2.St} {n : Nat} {pn : Addr} {us : List RuleD} {m2 : CM}, Ex H10 H' → σ[n]? = some (some (.ref pn)) → σ[9]? = some (some (.ref Wl)) → H' Wl = some (.lst (zs.map V.str)) → PlanIs K CR CP ks us pn H10 → (∀ r ∈ us, r.Good) → us.length ≤ 10 → (CM.start ks us).goAll zs = some m2 → m2.WF → m2.Few → Ev (tCall (spTold16 K CD) [] E0 (tCons (tCall (spPlay K CR CP CD) [] E0 (tCons (tVar n) (tCons (tVar 9) tNil))) tNil)) σ H' (.str (data16 m2).shown) := by
      intro H' σ n pn us m2 e hσ h9 hw pu gd hl go wf few H12 e12 Q12 q12
      refine (evP_play (Evl.ev_var hσ) (pu.ex e) gd (by omega) (EvP.of (p := Wl) (Evl.ev_var h9) fun H2 e2 => .inl (Evl.sq_of (e2 _ _ hw))) (by omega) evs go) H12 e12 _ fun o H13 e13 po => ?_
      exact ⟨o, m2, rfl, po, wf, few, fun H14 e14 => q12 H14 (e13.trans e14)⟩
    -- all is told alike
    refine Evl.q_when (b := false) (Evl.et_test (Evl.ev_is (Evl.ev_op (x := .str (data16 m).shown) (y := .str (data16 (m.put us ru)).shown) (told e11 rfl rfl hW pu1 r9.gd r9.hl go wf few) (told e11 rfl rfl hW pu2 r7.gd r7.hl go2 wf2 few2) (Evl.rv_ne rfl)) ?_)) (fun z => nomatch z) (fun _ H12 e12 => ?_)
    · rw [CM.put_data R, decide_eq_true rfl]
      rfl
    -- the rules' indexes
    have e1112 := e11.trans e12
    refine Evl.s_when (b := false) (Evl.et_test (ev_neNone ?_)) (fun z => nomatch z) (fun _ H13 e13 => ?_)
    · refine evl_nil (given_none (ru.map ov).length (fun _ => V.non)) ?_
      refine el_lcPf (xs := ru.map ov) (fun _ => false) (fun _ => V.non) ?_ (by rw [List.length_map]; have := few2.rl; show ru.length ≤ 40000; exact Nat.le_trans this (by decide)) (fun _ => rfl) (fun j x Ha ea hx => ?_) (fun _ _ _ _ _ z => nomatch z)
      · refine evP_rulesP (m := m.put us ru) TD (evP_play (m := m.put us ru) (Evl.ev_var rfl) (pu2.ex e1112) r7.gd (by have := r7.hl; omega) ?_ (by omega) evs go2)
        exact EvP.of (p := Wl) (Evl.ev_var rfl) fun H2 e2 => .inl (Evl.sq_of ((e12.trans e2) _ _ hW))
      · rw [List.getElem?_map] at hx
        obtain ⟨r, hr, rfl⟩ := Option.map_eq_some_iff.mp hx
        cases r with
        | none => exact Evl.et_is (Evl.et_and (a := false) (b := false) (Evl.et_test (Evl.ev_op (x := .non) (Evl.ev_var rfl) Evl.ev_c rv_notN)) (fun z => nomatch z)) rfl
        | some n =>
          have ln := R.lt _ (List.mem_of_getElem? hr) n rfl
          refine Evl.et_is (Evl.et_and (a := true) (b := false) (Evl.et_test (Evl.ev_op (x := .int (n : Int)) (Evl.ev_var rfl) Evl.ev_c rv_notN)) (fun _ => Evl.et_test (Evl.ev_is (Evl.ev_op (x := .int (n : Int)) (y := .int (us.length : Int)) (Evl.ev_var rfl) (ev_lenP (EvP.of (p := p2) (Evl.ev_var rfl) fun H2 e2 => pu2.ex ((e1112.trans ea).trans e2)) r7.hl) Evl.rv_I0) ?_))) rfl
          rw [decide_eq_false (by omega)]
    · exact ⟨_, _, _, _, _, _, _, _, _, _, rfl, k110.trans (Kp.same (ex_same (e1112.trans e13))), wk.D.keep (ex_same (e1112.trans e13))⟩
end
end Ov


namespace Ov
open PySem PySem.Spec PyProof.Rows L2
/-- the tuple at an address of the known heap; what the table HOLDS tells -/
def tupAtB (K : PySem.W.Frag) (a : Addr) (vs : List V) : Bool := match K.lookup a with
  | some ⟨.type c, _, .seq its _, _⟩ => decide (c = "tuple") && (decide (its.size ≤ sizeLine) && He.relAll vs its.toList)
  | _ => false
theorem tupAtB_ok {K : PySem.W.Frag} {a : Addr} {vs : List V} (h : tupAtB K a vs = true) (H : Hp) : SqT K H a vs := by
  unfold tupAtB at h
  cases q : K.lookup a with
  | none =>
    rw [q] at h
    cases h
  | some o =>
    obtain ⟨oc, od, dt, osl⟩ := o
    rw [q] at h
    cases oc with
    | type c =>
      cases dt with
      | seq its n =>
        obtain ⟨h1, h2⟩ := Bool.and_eq_true_iff.mp (show (decide (c = "tuple") && (decide (its.size ≤ sizeLine) && He.relAll vs its.toList)) = true from h)
        obtain ⟨h3, h4⟩ := Bool.and_eq_true_iff.mp h2
        exact .inr ⟨_, its, n, q, congrArg Value.type (of_decide_eq_true h1), rfl, of_decide_eq_true h3, He.relAll_ok h4⟩
      | _ => cases h
    | _ => cases dt <;> cases h
def holdKeys : List Str := holdsD.map Prod.fst
def holdB (K : PySem.W.Frag) (x : Str) (l : List Str) : Bool := match PySem.W.nsIn K (He.ga K "HOLDS") x with
  | some (some (.ref q)) => tupAtB K q (l.map V.str)
  | _ => false
def holdsB (K : PySem.W.Frag) : Bool := holdsD.all fun p => holdB K p.1 p.2
theorem holdsB_ok {K : PySem.W.Frag} {w : World} (h : holdsB K = true) (d : He.dicW K (He.ga K "HOLDS") = some (He.keysIn w.params holdKeys)) (z : Str) (l : List Str) (e : holdsD.lookup z = some l) : ∃ q, KDct K w (He.ga K "HOLDS") z (.ref q) ∧ ∀ H, SqT K H q (l.map V.str) := by
  obtain ⟨es, n, D⟩ := He.dicW_ok d
  have h1 : holdB K z l = true := List.all_eq_true.mp h (z, l) (PySem.mem_of_lookup e)
  unfold holdB at h1
  cases q : PySem.W.nsIn K (He.ga K "HOLDS") z with
  | none =>
    rw [q] at h1
    cases h1
  | some r =>
    rw [q] at h1
    cases r with
    | none => cases h1
    | some u =>
      cases u with
      | ref a => exact ⟨a, ⟨es, n, .ref a, D.at_, D.lit, q, rfl⟩, fun H => tupAtB_ok h1 H⟩
      | _ => cases h1
def dA (x : Str) (st : Stmt) : He5.DefA := ⟨fun K => He.ga K x, x, x, defArgs st, defBody st, defScope st, [], []⟩
def dM (c m q : Str) (st : Stmt) (dfl : List He.Dv) : He5.DefA := ⟨fun K => He.ma K (He.ga K c) m, m, q, defArgs st, defBody st, defScope st, dfl, []⟩
def dC (c m q : Str) (st : Stmt) : He5.DefA := ⟨fun K => He5.wf K (He.ga K c) "classmethod" m, m, q, defArgs st, defBody st, defScope st, [], []⟩
def fn : List He5.DefA := [dA "_law_deal" sDeal, dA "_law_draw" sDraw, dA "_law_pick" sPick, dA "_law_test" sTest, dA "_law_rule" sRule, dA "_law_wise" sWise, dA "_law_rules" sRules, dA "_law_raising" sRaising, dA "_law_text" sText, dA "_law_world" sWorld, dA "_law_view" sView, dA "_law_holds" sLawHolds, dA "_law_come" sCome, dA "_law_hear" sHear, dA "_law_can" sCan, dA "_law_go" sGo, dA "_law_note" sNote, dA "_law_said" sSaid, dA "_law_act" sAct, dA "_law_acts" sActs, dA "_law_told" sTold, dA "_law_rule_tests" sRuleTests, dA "_law_otherwise" sOtherwise, dA "law" sLaw, dA "is_sequence" sIsSequence, dA "is_kind" sIsKind, dA "is_test" sIsTest, dA "is_deed" sIsDeed, dA "split_part" sSplitPart, dA "are_raises" sAreRaises, dA "are_rules" sAreRules, dA "read_rule" sReadRule, dA "read_place" sReadPlace, dA "relation" sRelation, dA "holds" sHolds, dA "letter_rule" sLetterRule, dA "answer_rule" sAnswerRule, dA "deeds_of" sDeedsOf, dA "is_whole_kind" sIsWholeKind, dA "effect" sEffect, dA "letter_to_come" sLetterToCome, dA "can_answer" sCanAnswer, dA "go_on" sGoOn, dA "play" sPlay, dM "Rule" "__init__" "Rule.__init__" sRuleInit [.adr (He.dflAt ("Rule", some "__init__") 0), .adr (He.dflAt ("Rule", some "__init__") 1)], dM "Plan" "__init__" "Plan.__init__" sPlanInit [.adr (He.dflAt ("Plan", some "__init__") 0), .adr (He.dflAt ("Plan", some "__init__") 1)], dM "Course" "__init__" "Course.__init__" sCourseInit [], dM "Played" "__init__" "Played.__init__" sPlayedInit [], dM "Course" "showing" "Course.showing" sCourseShowing [], dM "Course" "send" "Course.send" sCourseSend [], dM "Course" "standing_to" "Course.standing_to" sCourseStandingTo [], dM "Course" "come" "Course.come" sCourseCome [], dM "Course" "hear" "Course.hear" sCourseHear [], dM "Course" "look" "Course.look" sCourseLook [], dM "Course" "judge" "Course.judge" sCourseJudge [], dM "Course" "is_back" "Course.is_back" sCourseIsBack [], dM "Plan" "__len__" "Plan.__len__" sPlanLen [], dC "Rule" "read" "Rule.read" sRuleRead, dC "Plan" "read" "Plan.read" sPlanRead]
def fa : List He.Fa := [.glo "_law_deal", .glo "_law_draw", .glo "_law_pick", .glo "_law_test", .glo "_law_rule", .glo "_law_wise", .glo "_law_rules", .glo "_law_raising", .glo "_law_text", .glo "_law_world", .glo "_law_view", .glo "_law_holds", .glo "_law_come", .glo "_law_hear", .glo "_law_can", .glo "_law_go", .glo "_law_note", .glo "_law_said", .glo "_law_act", .glo "_law_acts", .glo "_law_told", .glo "_law_rule_tests", .glo "_law_otherwise", .glo "law", .glo "is_sequence", .glo "is_kind", .glo "is_test", .glo "is_deed", .glo "split_part", .glo "are_raises", .glo "are_rules", .glo "read_rule", .glo "read_place", .glo "relation", .glo "holds", .glo "letter_rule", .glo "answer_rule", .glo "deeds_of", .glo "is_whole_kind", .glo "effect", .glo "letter_to_come", .glo "can_answer", .glo "go_on", .glo "play", .glo "Rule", .glo "Plan", .glo "Course", .glo "Played", .glo "LETTERS", .glo "LETTER_TESTS", .glo "LETTER_DEEDS", .glo "ANSWER_TESTS", .glo "ANSWER_DEEDS", .glo "HOLDS", .glo "DEEDS", .free "int", .free "abs", .free "len", .free "range", .free "max", .free "min", .free "list", .free "tuple", .free "isinstance", .free "str", .free "all", .free "sorted", .free "set", .free "bool", .free "enumerate", .free "repr", .str "ANSWER" "answer", .str "NOT" "not ", .str "OTHER" "other", .str "COME" "come ", .str "HEARD" "heard ", .str "ANSWERING" "answer", .cls "Rule", .cls "Plan", .cls "Course", .cls "Played", .noat "Rule" "kind", .noat "Rule" "tests", .noat "Rule" "deeds", .noat "Plan" "raises", .noat "Plan" "rules", .noat "Course" "plan", .noat "Course" "letters", .noat "Course" "newest", .noat "Course" "whole", .noat "Course" "own", .noat "Course" "came", .noat "Course" "shown", .noat "Course" "called_off", .noat "Course" "answers", .noat "Course" "counted", .noat "Course" "shows", .noat "Course" "rules", .noat "Course" "goals", .noat "Played" "letters", .noat "Played" "shows", .noat "Played" "whole", .noat "Played" "own", .noat "Played" "answers", .noat "Played" "counted", .noat "Played" "rules", .noat "Played" "goals", .meth "Course" "showing", .meth "Course" "send", .meth "Course" "standing_to", .meth "Course" "come", .meth "Course" "hear", .meth "Course" "look", .meth "Course" "judge", .meth "Course" "is_back", .meth "Plan" "__len__", .mkr "Rule", .mkr "Plan", .mkr "Course", .mkr "Played"]
def exL (K : PySem.W.Frag) : List Bool := [He.tupB K "LETTERS" [.str "ask", .str "day", .str "off", .str "stop"], He.tupB K "LETTER_TESTS" [.str "whole", .str "own", .str "above whole", .str "above own", .str "level whole", .str "level own", .str "later whole", .str "later own"], He.tupB K "LETTER_DEEDS" [.str "take", .str "wipe"], He.tupB K "ANSWER_TESTS" [.str "level"], He.tupB K "ANSWER_DEEDS" [.str "count", .str "drop"], He.tupB K "DEEDS" [.str "ask", .str "day", .str "stop", .str "off", .str "other day", .str "other off"], decide (PySem.W.mroIn K (He.ga K "Rule") (.type "object") = some true), He.eqO (PySem.W.findIn K (.ref (He.ga K "Rule")) "__class__") (some (some (.builtin "object.__class__"))), He.eqO (PySem.W.specialIn K (.builtin "object.__class__") "__get__") (some (some (.builtin "getset_descriptor.__get__"))), decide (PySem.W.takesIn K (.builtin "object.__class__") = some true), PySem.W.readsIn K (He.ga K "Rule") (.type "type"), He.eqO (PySem.W.specialIn K (.ref (He.ga K "Rule")) "__getattribute__") (some (some (.builtin "type.__getattribute__"))), He5.wrapB K (He.ga K "Rule") "classmethod" "classmethod.__get__" "read", PySem.W.fnIn K (He5.wf K (He.ga K "Rule") "classmethod" "read"), PySem.W.readsIn K (He.ga K "Plan") (.type "type"), He.eqO (PySem.W.specialIn K (.ref (He.ga K "Plan")) "__getattribute__") (some (some (.builtin "type.__getattribute__"))), He5.wrapB K (He.ga K "Plan") "classmethod" "classmethod.__get__" "read", PySem.W.fnIn K (He5.wf K (He.ga K "Plan") "classmethod" "read"), holdsB K]
def ex (K : PySem.W.Frag) : Bool := (exL K).all id
theorem ex_at {K : PySem.W.Frag} (h : ex K = true) (i : Nat) {b : Bool} (e : (exL K)[i]? = some b) : b = true := List.all_eq_true.mp h b (List.mem_of_getElem? e)
def names : List Str := (["_wall", "__name__", "LetterError", "InvalidRule", "InvalidPlan", "InvalidText", "InvalidWeaving", "NoRule", "is_sequence", "is_integer", "is_place", "read_place", "LETTERS", "ANSWER", "LETTER_TESTS", "LETTER_DEEDS", "ANSWER_TESTS", "ANSWER_DEEDS", "NOT", "is_kind", "is_test", "is_deed", "split_part", "Rule", "HOLDS"] : List Str) ++ (["relation", "holds", "letter_rule", "answer_rule", "deeds_of", "is_whole_kind", "effect", "DEEDS", "OTHER", "COME", "ANSWERING", "HEARD", "Course", "letter_to_come", "can_answer", "go_on", "Played", "play", "are_raises", "are_rules", "read_rule", "Plan", "_law_deal", "_law_draw", "_law_pick"] : List Str) ++ (["_law_test", "_law_rule", "_law_wise", "_law_rules", "_law_raising", "_law_text", "_law_world", "_law_view", "_law_holds", "_law_come", "_law_hear", "_law_can", "_law_go", "_law_note", "_law_said", "_law_goals", "_law_act", "_law_acts", "_law_told", "_law_otherwise", "_law_rule_tests"] : List Str)
abbrev R : PySem.W.OpenRow := PySem.W.OpenLaw.row PySem.Challenge.rw_overtaken_k16_whole_rules_that_do_nothin
def addNew : List Addr → List Addr → Nat → List Addr × Nat
  | [], acc, v => (acc, v)
  | a :: r, acc, v => match Nat.beq (Nat.land (Nat.shiftRight v a) 1) 1 with
    | true => addNew r acc v
    | false => HandSHeadRun.frNat (Nat.lor v (Nat.shiftLeft 1 a)) fun v' => addNew r (a :: acc) v'
def reach (g : Addr → Option Obj) : Nat → List Addr → Nat → List Addr
  | 0, fr, _ => fr
  | n + 1, fr, v => match addNew (fr.flatMap fun a => match g a with | some o => He.refsD o | none => []) [] v with
    | (new, v') => fr ++ reach g n new v'
def part (n : Nat) (g : Addr → Option Obj) : PySem.W.Frag := He.frG g (reach g n [mainGlobals] (Nat.shiftLeft 1 mainGlobals) ++ [cStatics])
def seen (n : Nat) (g : Addr → Option Obj) : He.AlD × (Bool × Option (List (Option (Str × Int)))) := (He5.obsA fa fn (part n g), (ex (part n g), He.dicW (part n g) (He.ga (part n g) "HOLDS")))
structure Says (w : World) (K : PySem.W.Frag) : Prop where
  d : He5.SaysA fa fn K
  more : ex K = true
  tab : He.dicW K (He.ga K "HOLDS") = some (He.keysIn w.params holdKeys)
theorem says_of {w : World} {K : PySem.W.Frag} (e : ((He5.obsA fa fn K, (ex K, He.dicW K (He.ga K "HOLDS"))) : He.AlD × (Bool × Option (List (Option (Str × Int))))) = (He5.valA fn, (true, some (He.keysIn w.params holdKeys)))) : Says w K := ⟨(Prod.mk.inj e).1, (Prod.mk.inj (Prod.mk.inj e).2).1, (Prod.mk.inj (Prod.mk.inj e).2).2⟩
def hk : PySem.W.Hook where
  α := He.AlD × (Bool × Option (List (Option (Str × Int))))
  obs := fun s => seen 6 s.heap.get?
  val := fun w => (He5.valA fn, (true, some (He.keysIn w.params holdKeys)))
  says := fun w h => ∃ K : PySem.W.Frag, K.In h ∧ Says w K
  of := fun w s e => ⟨part 6 s.heap.get?, He.frG_in, says_of e⟩
  keeps := fun _ _ _ ⟨K, hK, c⟩ k => ⟨K, PySem.W.Frag.In.keeps hK k, c⟩
def ob (s : PySem.W.SharedT) : He.AlD × (Bool × Option (List (Option (Str × Int)))) := seen 6 (HandSHeadRun.getT s)
theorem ob_eq (s : PySem.W.SharedT) : ob s = hk.obs s.abs := by
  have e : HandSHeadRun.getT s = s.abs.heap.get? := funext fun a => HandSHeadRun.getT_eq s a
  show seen 6 (HandSHeadRun.getT s) = seen 6 s.abs.heap.get?
  rw [e] <;> rfl
theorem run_false (w : World) : HandSHeadRun.RunEq R (PySem.W.view R.prog [77]) hk ob 12000 names (w.withFollow "special-get-raises" false) := by
  intro os
  kernel_rfl
theorem run_true (w : World) : HandSHeadRun.RunEq R (PySem.W.view R.prog [77]) hk ob 12000 names (w.withFollow "special-get-raises" true) := by
  intro os
  kernel_rfl
theorem run (w : World) : HandSHeadRun.RunEq R (PySem.W.view R.prog [77]) hk ob 12000 names w := PySem.W.byRow2 "special-get-raises" (P := fun w => HandSHeadRun.RunEq R (PySem.W.view R.prog [77]) hk ob 12000 names w) run_false run_true w
section
variable {w : World} {K : PySem.W.Frag} {h : Heap} {mg : Str → Option Value}
theorem df_law_deal (X : K.In h) (G : h.Ns mainGlobals mg) (c : Says w K) : ∃ fd, Df K mg "_law_deal" sDeal ["_law_script", "_law_base"] (He.ga K "_law_deal") fd := by
  obtain ⟨fd, F⟩ := c.d.def_ 0 (d := dA "_law_deal" sDeal) rfl
  exact ⟨fd, He5.fun_of F, He.glo_ok X G (c.d.fact 0 (f := .glo "_law_deal") rfl), FunD.bindsN (ps := ["_law_script", "_law_base"]) F fun _ _ _ _ _ _ us hl => match us, hl with | [_, _], _ => rfl⟩
theorem df_law_draw (X : K.In h) (G : h.Ns mainGlobals mg) (c : Says w K) : ∃ fd, Df K mg "_law_draw" sDraw ["_law_deal_here", "_law_many"] (He.ga K "_law_draw") fd := by
  obtain ⟨fd, F⟩ := c.d.def_ 1 (d := dA "_law_draw" sDraw) rfl
  exact ⟨fd, He5.fun_of F, He.glo_ok X G (c.d.fact 1 (f := .glo "_law_draw") rfl), FunD.bindsN (ps := ["_law_deal_here", "_law_many"]) F fun _ _ _ _ _ _ us hl => match us, hl with | [_, _], _ => rfl⟩
theorem df_law_pick (X : K.In h) (G : h.Ns mainGlobals mg) (c : Says w K) : ∃ fd, Df K mg "_law_pick" sPick ["_law_deal_here", "_law_some"] (He.ga K "_law_pick") fd := by
  obtain ⟨fd, F⟩ := c.d.def_ 2 (d := dA "_law_pick" sPick) rfl
  exact ⟨fd, He5.fun_of F, He.glo_ok X G (c.d.fact 2 (f := .glo "_law_pick") rfl), FunD.bindsN (ps := ["_law_deal_here", "_law_some"]) F fun _ _ _ _ _ _ us hl => match us, hl with | [_, _], _ => rfl⟩
theorem df_law_test (X : K.In h) (G : h.Ns mainGlobals mg) (c : Says w K) : ∃ fd, Df K mg "_law_test" sTest ["_law_deal_here", "_law_sort"] (He.ga K "_law_test") fd := by
  obtain ⟨fd, F⟩ := c.d.def_ 3 (d := dA "_law_test" sTest) rfl
  exact ⟨fd, He5.fun_of F, He.glo_ok X G (c.d.fact 3 (f := .glo "_law_test") rfl), FunD.bindsN (ps := ["_law_deal_here", "_law_sort"]) F fun _ _ _ _ _ _ us hl => match us, hl with | [_, _], _ => rfl⟩
theorem df_law_rule (X : K.In h) (G : h.Ns mainGlobals mg) (c : Says w K) : ∃ fd, Df K mg "_law_rule" sRule ["_law_deal_here"] (He.ga K "_law_rule") fd := by
  obtain ⟨fd, F⟩ := c.d.def_ 4 (d := dA "_law_rule" sRule) rfl
  exact ⟨fd, He5.fun_of F, He.glo_ok X G (c.d.fact 4 (f := .glo "_law_rule") rfl), FunD.bindsN (ps := ["_law_deal_here"]) F fun _ _ _ _ _ _ us hl => match us, hl with | [_], _ => rfl⟩
theorem df_law_wise (X : K.In h) (G : h.Ns mainGlobals mg) (c : Says w K) : ∃ fd, Df K mg "_law_wise" sWise ["_law_deal_here"] (He.ga K "_law_wise") fd := by
  obtain ⟨fd, F⟩ := c.d.def_ 5 (d := dA "_law_wise" sWise) rfl
  exact ⟨fd, He5.fun_of F, He.glo_ok X G (c.d.fact 5 (f := .glo "_law_wise") rfl), FunD.bindsN (ps := ["_law_deal_here"]) F fun _ _ _ _ _ _ us hl => match us, hl with | [_], _ => rfl⟩
theorem df_law_rules (X : K.In h) (G : h.Ns mainGlobals mg) (c : Says w K) : ∃ fd, Df K mg "_law_rules" sRules ["_law_deal_here", "_law_most"] (He.ga K "_law_rules") fd := by
  obtain ⟨fd, F⟩ := c.d.def_ 6 (d := dA "_law_rules" sRules) rfl
  exact ⟨fd, He5.fun_of F, He.glo_ok X G (c.d.fact 6 (f := .glo "_law_rules") rfl), FunD.bindsN (ps := ["_law_deal_here", "_law_most"]) F fun _ _ _ _ _ _ us hl => match us, hl with | [_, _], _ => rfl⟩
theorem df_law_raising (X : K.In h) (G : h.Ns mainGlobals mg) (c : Says w K) : ∃ fd, Df K mg "_law_raising" sRaising ["_law_deal_here"] (He.ga K "_law_raising") fd := by
  obtain ⟨fd, F⟩ := c.d.def_ 7 (d := dA "_law_raising" sRaising) rfl
  exact ⟨fd, He5.fun_of F, He.glo_ok X G (c.d.fact 7 (f := .glo "_law_raising") rfl), FunD.bindsN (ps := ["_law_deal_here"]) F fun _ _ _ _ _ _ us hl => match us, hl with | [_], _ => rfl⟩
theorem df_law_text (X : K.In h) (G : h.Ns mainGlobals mg) (c : Says w K) : ∃ fd, Df K mg "_law_text" sText ["_law_raising_here", "_law_some"] (He.ga K "_law_text") fd := by
  obtain ⟨fd, F⟩ := c.d.def_ 8 (d := dA "_law_text" sText) rfl
  exact ⟨fd, He5.fun_of F, He.glo_ok X G (c.d.fact 8 (f := .glo "_law_text") rfl), FunD.bindsN (ps := ["_law_raising_here", "_law_some"]) F fun _ _ _ _ _ _ us hl => match us, hl with | [_, _], _ => rfl⟩
theorem df_law_world (X : K.In h) (G : h.Ns mainGlobals mg) (c : Says w K) : ∃ fd, Df K mg "_law_world" sWorld ["_law_raising_here", "_law_some"] (He.ga K "_law_world") fd := by
  obtain ⟨fd, F⟩ := c.d.def_ 9 (d := dA "_law_world" sWorld) rfl
  exact ⟨fd, He5.fun_of F, He.glo_ok X G (c.d.fact 9 (f := .glo "_law_world") rfl), FunD.bindsN (ps := ["_law_raising_here", "_law_some"]) F fun _ _ _ _ _ _ us hl => match us, hl with | [_, _], _ => rfl⟩
theorem df_law_view (X : K.In h) (G : h.Ns mainGlobals mg) (c : Says w K) : ∃ fd, Df K mg "_law_view" sView ["_law_world_here"] (He.ga K "_law_view") fd := by
  obtain ⟨fd, F⟩ := c.d.def_ 10 (d := dA "_law_view" sView) rfl
  exact ⟨fd, He5.fun_of F, He.glo_ok X G (c.d.fact 10 (f := .glo "_law_view") rfl), FunD.bindsN (ps := ["_law_world_here"]) F fun _ _ _ _ _ _ us hl => match us, hl with | [_], _ => rfl⟩
theorem df_law_holds (X : K.In h) (G : h.Ns mainGlobals mg) (c : Says w K) : ∃ fd, Df K mg "_law_holds" sLawHolds ["_law_world_here", "_law_test_here", "_law_place"] (He.ga K "_law_holds") fd := by
  obtain ⟨fd, F⟩ := c.d.def_ 11 (d := dA "_law_holds" sLawHolds) rfl
  exact ⟨fd, He5.fun_of F, He.glo_ok X G (c.d.fact 11 (f := .glo "_law_holds") rfl), FunD.bindsN (ps := ["_law_world_here", "_law_test_here", "_law_place"]) F fun _ _ _ _ _ _ us hl => match us, hl with | [_, _, _], _ => rfl⟩
theorem df_law_come (X : K.In h) (G : h.Ns mainGlobals mg) (c : Says w K) : ∃ fd, Df K mg "_law_come" sCome ["_law_world_here", "_law_place"] (He.ga K "_law_come") fd := by
  obtain ⟨fd, F⟩ := c.d.def_ 12 (d := dA "_law_come" sCome) rfl
  exact ⟨fd, He5.fun_of F, He.glo_ok X G (c.d.fact 12 (f := .glo "_law_come") rfl), FunD.bindsN (ps := ["_law_world_here", "_law_place"]) F fun _ _ _ _ _ _ us hl => match us, hl with | [_, _], _ => rfl⟩
theorem df_law_hear (X : K.In h) (G : h.Ns mainGlobals mg) (c : Says w K) : ∃ fd, Df K mg "_law_hear" sHear ["_law_world_here", "_law_number"] (He.ga K "_law_hear") fd := by
  obtain ⟨fd, F⟩ := c.d.def_ 13 (d := dA "_law_hear" sHear) rfl
  exact ⟨fd, He5.fun_of F, He.glo_ok X G (c.d.fact 13 (f := .glo "_law_hear") rfl), FunD.bindsN (ps := ["_law_world_here", "_law_number"]) F fun _ _ _ _ _ _ us hl => match us, hl with | [_, _], _ => rfl⟩
theorem df_law_can (X : K.In h) (G : h.Ns mainGlobals mg) (c : Says w K) : ∃ fd, Df K mg "_law_can" sCan ["_law_world_here", "_law_event"] (He.ga K "_law_can") fd := by
  obtain ⟨fd, F⟩ := c.d.def_ 14 (d := dA "_law_can" sCan) rfl
  exact ⟨fd, He5.fun_of F, He.glo_ok X G (c.d.fact 14 (f := .glo "_law_can") rfl), FunD.bindsN (ps := ["_law_world_here", "_law_event"]) F fun _ _ _ _ _ _ us hl => match us, hl with | [_, _], _ => rfl⟩
theorem df_law_go (X : K.In h) (G : h.Ns mainGlobals mg) (c : Says w K) : ∃ fd, Df K mg "_law_go" sGo ["_law_world_here", "_law_event"] (He.ga K "_law_go") fd := by
  obtain ⟨fd, F⟩ := c.d.def_ 15 (d := dA "_law_go" sGo) rfl
  exact ⟨fd, He5.fun_of F, He.glo_ok X G (c.d.fact 15 (f := .glo "_law_go") rfl), FunD.bindsN (ps := ["_law_world_here", "_law_event"]) F fun _ _ _ _ _ _ us hl => match us, hl with | [_, _], _ => rfl⟩
theorem df_law_note (X : K.In h) (G : h.Ns mainGlobals mg) (c : Says w K) : ∃ fd, Df K mg "_law_note" sNote ["_law_world_here"] (He.ga K "_law_note") fd := by
  obtain ⟨fd, F⟩ := c.d.def_ 16 (d := dA "_law_note" sNote) rfl
  exact ⟨fd, He5.fun_of F, He.glo_ok X G (c.d.fact 16 (f := .glo "_law_note") rfl), FunD.bindsN (ps := ["_law_world_here"]) F fun _ _ _ _ _ _ us hl => match us, hl with | [_], _ => rfl⟩
theorem df_law_said (X : K.In h) (G : h.Ns mainGlobals mg) (c : Says w K) : ∃ fd, Df K mg "_law_said" sSaid ["_law_event"] (He.ga K "_law_said") fd := by
  obtain ⟨fd, F⟩ := c.d.def_ 17 (d := dA "_law_said" sSaid) rfl
  exact ⟨fd, He5.fun_of F, He.glo_ok X G (c.d.fact 17 (f := .glo "_law_said") rfl), FunD.bindsN (ps := ["_law_event"]) F fun _ _ _ _ _ _ us hl => match us, hl with | [_], _ => rfl⟩
theorem df_law_act (X : K.In h) (G : h.Ns mainGlobals mg) (c : Says w K) : ∃ fd, Df K mg "_law_act" sAct ["_law_deal_here", "_law_world_here", "_law_most"] (He.ga K "_law_act") fd := by
  obtain ⟨fd, F⟩ := c.d.def_ 18 (d := dA "_law_act" sAct) rfl
  exact ⟨fd, He5.fun_of F, He.glo_ok X G (c.d.fact 18 (f := .glo "_law_act") rfl), FunD.bindsN (ps := ["_law_deal_here", "_law_world_here", "_law_most"]) F fun _ _ _ _ _ _ us hl => match us, hl with | [_, _, _], _ => rfl⟩
theorem df_law_acts (X : K.In h) (G : h.Ns mainGlobals mg) (c : Says w K) : ∃ fd, Df K mg "_law_acts" sActs ["_law_deal_here", "_law_raising_here", "_law_some", "_law_many", "_law_most"] (He.ga K "_law_acts") fd := by
  obtain ⟨fd, F⟩ := c.d.def_ 19 (d := dA "_law_acts" sActs) rfl
  exact ⟨fd, He5.fun_of F, He.glo_ok X G (c.d.fact 19 (f := .glo "_law_acts") rfl), FunD.bindsN (ps := ["_law_deal_here", "_law_raising_here", "_law_some", "_law_many", "_law_most"]) F fun _ _ _ _ _ _ us hl => match us, hl with | [_, _, _, _, _], _ => rfl⟩
theorem df_law_told (X : K.In h) (G : h.Ns mainGlobals mg) (c : Says w K) : ∃ fd, Df K mg "_law_told" sTold ["_law_played"] (He.ga K "_law_told") fd := by
  obtain ⟨fd, F⟩ := c.d.def_ 20 (d := dA "_law_told" sTold) rfl
  exact ⟨fd, He5.fun_of F, He.glo_ok X G (c.d.fact 20 (f := .glo "_law_told") rfl), FunD.bindsN (ps := ["_law_played"]) F fun _ _ _ _ _ _ us hl => match us, hl with | [_], _ => rfl⟩
theorem df_law_rule_tests (X : K.In h) (G : h.Ns mainGlobals mg) (c : Says w K) : ∃ fd, Df K mg "_law_rule_tests" sRuleTests ["_law_deal_here", "_law_sort"] (He.ga K "_law_rule_tests") fd := by
  obtain ⟨fd, F⟩ := c.d.def_ 21 (d := dA "_law_rule_tests" sRuleTests) rfl
  exact ⟨fd, He5.fun_of F, He.glo_ok X G (c.d.fact 21 (f := .glo "_law_rule_tests") rfl), FunD.bindsN (ps := ["_law_deal_here", "_law_sort"]) F fun _ _ _ _ _ _ us hl => match us, hl with | [_, _], _ => rfl⟩
theorem df_law_otherwise (X : K.In h) (G : h.Ns mainGlobals mg) (c : Says w K) : ∃ fd, Df K mg "_law_otherwise" sOtherwise ["_law_deal_here", "_law_some"] (He.ga K "_law_otherwise") fd := by
  obtain ⟨fd, F⟩ := c.d.def_ 22 (d := dA "_law_otherwise" sOtherwise) rfl
  exact ⟨fd, He5.fun_of F, He.glo_ok X G (c.d.fact 22 (f := .glo "_law_otherwise") rfl), FunD.bindsN (ps := ["_law_deal_here", "_law_some"]) F fun _ _ _ _ _ _ us hl => match us, hl with | [_, _], _ => rfl⟩
theorem df_is_sequence (X : K.In h) (G : h.Ns mainGlobals mg) (c : Says w K) : ∃ fd, Df K mg "is_sequence" sIsSequence ["value"] (He.ga K "is_sequence") fd := by
  obtain ⟨fd, F⟩ := c.d.def_ 24 (d := dA "is_sequence" sIsSequence) rfl
  exact ⟨fd, He5.fun_of F, He.glo_ok X G (c.d.fact 24 (f := .glo "is_sequence") rfl), FunD.bindsN (ps := ["value"]) F fun _ _ _ _ _ _ us hl => match us, hl with | [_], _ => rfl⟩
theorem df_is_kind (X : K.In h) (G : h.Ns mainGlobals mg) (c : Says w K) : ∃ fd, Df K mg "is_kind" sIsKind ["value"] (He.ga K "is_kind") fd := by
  obtain ⟨fd, F⟩ := c.d.def_ 25 (d := dA "is_kind" sIsKind) rfl
  exact ⟨fd, He5.fun_of F, He.glo_ok X G (c.d.fact 25 (f := .glo "is_kind") rfl), FunD.bindsN (ps := ["value"]) F fun _ _ _ _ _ _ us hl => match us, hl with | [_], _ => rfl⟩
theorem df_is_test (X : K.In h) (G : h.Ns mainGlobals mg) (c : Says w K) : ∃ fd, Df K mg "is_test" sIsTest ["kind", "value"] (He.ga K "is_test") fd := by
  obtain ⟨fd, F⟩ := c.d.def_ 26 (d := dA "is_test" sIsTest) rfl
  exact ⟨fd, He5.fun_of F, He.glo_ok X G (c.d.fact 26 (f := .glo "is_test") rfl), FunD.bindsN (ps := ["kind", "value"]) F fun _ _ _ _ _ _ us hl => match us, hl with | [_, _], _ => rfl⟩
theorem df_is_deed (X : K.In h) (G : h.Ns mainGlobals mg) (c : Says w K) : ∃ fd, Df K mg "is_deed" sIsDeed ["kind", "value"] (He.ga K "is_deed") fd := by
  obtain ⟨fd, F⟩ := c.d.def_ 27 (d := dA "is_deed" sIsDeed) rfl
  exact ⟨fd, He5.fun_of F, He.glo_ok X G (c.d.fact 27 (f := .glo "is_deed") rfl), FunD.bindsN (ps := ["kind", "value"]) F fun _ _ _ _ _ _ us hl => match us, hl with | [_, _], _ => rfl⟩
theorem df_split_part (X : K.In h) (G : h.Ns mainGlobals mg) (c : Says w K) : ∃ fd, Df K mg "split_part" sSplitPart ["sign", "text", "between"] (He.ga K "split_part") fd := by
  obtain ⟨fd, F⟩ := c.d.def_ 28 (d := dA "split_part" sSplitPart) rfl
  exact ⟨fd, He5.fun_of F, He.glo_ok X G (c.d.fact 28 (f := .glo "split_part") rfl), FunD.bindsN (ps := ["sign", "text", "between"]) F fun _ _ _ _ _ _ us hl => match us, hl with | [_, _, _], _ => rfl⟩
theorem df_are_raises (X : K.In h) (G : h.Ns mainGlobals mg) (c : Says w K) : ∃ fd, Df K mg "are_raises" sAreRaises ["value"] (He.ga K "are_raises") fd := by
  obtain ⟨fd, F⟩ := c.d.def_ 29 (d := dA "are_raises" sAreRaises) rfl
  exact ⟨fd, He5.fun_of F, He.glo_ok X G (c.d.fact 29 (f := .glo "are_raises") rfl), FunD.bindsN (ps := ["value"]) F fun _ _ _ _ _ _ us hl => match us, hl with | [_], _ => rfl⟩
theorem df_are_rules (X : K.In h) (G : h.Ns mainGlobals mg) (c : Says w K) : ∃ fd, Df K mg "are_rules" sAreRules ["value"] (He.ga K "are_rules") fd := by
  obtain ⟨fd, F⟩ := c.d.def_ 30 (d := dA "are_rules" sAreRules) rfl
  exact ⟨fd, He5.fun_of F, He.glo_ok X G (c.d.fact 30 (f := .glo "are_rules") rfl), FunD.bindsN (ps := ["value"]) F fun _ _ _ _ _ _ us hl => match us, hl with | [_], _ => rfl⟩
theorem df_read_rule (X : K.In h) (G : h.Ns mainGlobals mg) (c : Says w K) : ∃ fd, Df K mg "read_rule" sReadRule ["line", "at"] (He.ga K "read_rule") fd := by
  obtain ⟨fd, F⟩ := c.d.def_ 31 (d := dA "read_rule" sReadRule) rfl
  exact ⟨fd, He5.fun_of F, He.glo_ok X G (c.d.fact 31 (f := .glo "read_rule") rfl), FunD.bindsN (ps := ["line", "at"]) F fun _ _ _ _ _ _ us hl => match us, hl with | [_, _], _ => rfl⟩
theorem df_read_place (X : K.In h) (G : h.Ns mainGlobals mg) (c : Says w K) : ∃ fd, Df K mg "read_place" sReadPlace ["value", "word", "many"] (He.ga K "read_place") fd := by
  obtain ⟨fd, F⟩ := c.d.def_ 32 (d := dA "read_place" sReadPlace) rfl
  exact ⟨fd, He5.fun_of F, He.glo_ok X G (c.d.fact 32 (f := .glo "read_place") rfl), FunD.bindsN (ps := ["value", "word", "many"]) F fun _ _ _ _ _ _ us hl => match us, hl with | [_, _, _], _ => rfl⟩
theorem df_relation (X : K.In h) (G : h.Ns mainGlobals mg) (c : Says w K) : ∃ fd, Df K mg "relation" sRelation ["letter", "part"] (He.ga K "relation") fd := by
  obtain ⟨fd, F⟩ := c.d.def_ 33 (d := dA "relation" sRelation) rfl
  exact ⟨fd, He5.fun_of F, He.glo_ok X G (c.d.fact 33 (f := .glo "relation") rfl), FunD.bindsN (ps := ["letter", "part"]) F fun _ _ _ _ _ _ us hl => match us, hl with | [_, _], _ => rfl⟩
theorem df_holds (X : K.In h) (G : h.Ns mainGlobals mg) (c : Says w K) : ∃ fd, Df K mg "holds" sHolds ["test", "to_whole", "to_own"] (He.ga K "holds") fd := by
  obtain ⟨fd, F⟩ := c.d.def_ 34 (d := dA "holds" sHolds) rfl
  exact ⟨fd, He5.fun_of F, He.glo_ok X G (c.d.fact 34 (f := .glo "holds") rfl), FunD.bindsN (ps := ["test", "to_whole", "to_own"]) F fun _ _ _ _ _ _ us hl => match us, hl with | [_, _, _], _ => rfl⟩
theorem df_letter_rule (X : K.In h) (G : h.Ns mainGlobals mg) (c : Says w K) : ∃ fd, Df K mg "letter_rule" sLetterRule ["plan", "kind", "to_whole", "to_own"] (He.ga K "letter_rule") fd := by
  obtain ⟨fd, F⟩ := c.d.def_ 35 (d := dA "letter_rule" sLetterRule) rfl
  exact ⟨fd, He5.fun_of F, He.glo_ok X G (c.d.fact 35 (f := .glo "letter_rule") rfl), FunD.bindsN (ps := ["plan", "kind", "to_whole", "to_own"]) F fun _ _ _ _ _ _ us hl => match us, hl with | [_, _, _, _], _ => rfl⟩
theorem df_answer_rule (X : K.In h) (G : h.Ns mainGlobals mg) (c : Says w K) : ∃ fd, Df K mg "answer_rule" sAnswerRule ["plan", "level"] (He.ga K "answer_rule") fd := by
  obtain ⟨fd, F⟩ := c.d.def_ 36 (d := dA "answer_rule" sAnswerRule) rfl
  exact ⟨fd, He5.fun_of F, He.glo_ok X G (c.d.fact 36 (f := .glo "answer_rule") rfl), FunD.bindsN (ps := ["plan", "level"]) F fun _ _ _ _ _ _ us hl => match us, hl with | [_, _], _ => rfl⟩
theorem df_deeds_of (X : K.In h) (G : h.Ns mainGlobals mg) (c : Says w K) : ∃ fd, Df K mg "deeds_of" sDeedsOf ["plan", "at"] (He.ga K "deeds_of") fd := by
  obtain ⟨fd, F⟩ := c.d.def_ 37 (d := dA "deeds_of" sDeedsOf) rfl
  exact ⟨fd, He5.fun_of F, He.glo_ok X G (c.d.fact 37 (f := .glo "deeds_of") rfl), FunD.bindsN (ps := ["plan", "at"]) F fun _ _ _ _ _ _ us hl => match us, hl with | [_, _], _ => rfl⟩
theorem df_is_whole_kind (X : K.In h) (G : h.Ns mainGlobals mg) (c : Says w K) : ∃ fd, Df K mg "is_whole_kind" sIsWholeKind ["kind"] (He.ga K "is_whole_kind") fd := by
  obtain ⟨fd, F⟩ := c.d.def_ 38 (d := dA "is_whole_kind" sIsWholeKind) rfl
  exact ⟨fd, He5.fun_of F, He.glo_ok X G (c.d.fact 38 (f := .glo "is_whole_kind") rfl), FunD.bindsN (ps := ["kind"]) F fun _ _ _ _ _ _ us hl => match us, hl with | [_], _ => rfl⟩
theorem df_effect (X : K.In h) (G : h.Ns mainGlobals mg) (c : Says w K) : ∃ fd, Df K mg "effect" sEffect ["kind", "deeds"] (He.ga K "effect") fd := by
  obtain ⟨fd, F⟩ := c.d.def_ 39 (d := dA "effect" sEffect) rfl
  exact ⟨fd, He5.fun_of F, He.glo_ok X G (c.d.fact 39 (f := .glo "effect") rfl), FunD.bindsN (ps := ["kind", "deeds"]) F fun _ _ _ _ _ _ us hl => match us, hl with | [_, _], _ => rfl⟩
theorem df_letter_to_come (X : K.In h) (G : h.Ns mainGlobals mg) (c : Says w K) : ∃ fd, Df K mg "letter_to_come" sLetterToCome ["course", "event"] (He.ga K "letter_to_come") fd := by
  obtain ⟨fd, F⟩ := c.d.def_ 40 (d := dA "letter_to_come" sLetterToCome) rfl
  exact ⟨fd, He5.fun_of F, He.glo_ok X G (c.d.fact 40 (f := .glo "letter_to_come") rfl), FunD.bindsN (ps := ["course", "event"]) F fun _ _ _ _ _ _ us hl => match us, hl with | [_, _], _ => rfl⟩
theorem df_can_answer (X : K.In h) (G : h.Ns mainGlobals mg) (c : Says w K) : ∃ fd, Df K mg "can_answer" sCanAnswer ["course"] (He.ga K "can_answer") fd := by
  obtain ⟨fd, F⟩ := c.d.def_ 41 (d := dA "can_answer" sCanAnswer) rfl
  exact ⟨fd, He5.fun_of F, He.glo_ok X G (c.d.fact 41 (f := .glo "can_answer") rfl), FunD.bindsN (ps := ["course"]) F fun _ _ _ _ _ _ us hl => match us, hl with | [_], _ => rfl⟩
theorem df_go_on (X : K.In h) (G : h.Ns mainGlobals mg) (c : Says w K) : ∃ fd, Df K mg "go_on" sGoOn ["course", "event", "at"] (He.ga K "go_on") fd := by
  obtain ⟨fd, F⟩ := c.d.def_ 42 (d := dA "go_on" sGoOn) rfl
  exact ⟨fd, He5.fun_of F, He.glo_ok X G (c.d.fact 42 (f := .glo "go_on") rfl), FunD.bindsN (ps := ["course", "event", "at"]) F fun _ _ _ _ _ _ us hl => match us, hl with | [_, _, _], _ => rfl⟩
theorem df_play (X : K.In h) (G : h.Ns mainGlobals mg) (c : Says w K) : ∃ fd, Df K mg "play" sPlay ["plan", "weaving"] (He.ga K "play") fd := by
  obtain ⟨fd, F⟩ := c.d.def_ 43 (d := dA "play" sPlay) rfl
  exact ⟨fd, He5.fun_of F, He.glo_ok X G (c.d.fact 43 (f := .glo "play") rfl), FunD.bindsN (ps := ["plan", "weaving"]) F fun _ _ _ _ _ _ us hl => match us, hl with | [_, _], _ => rfl⟩
theorem dm_Rule_init (c : Says w K) : ∃ fd, FunD K "__init__" "Rule.__init__" (defArgs sRuleInit) (defBody sRuleInit) (defScope sRuleInit) [V.ref (He.dflAt ("Rule", some "__init__") 0 K), V.ref (He.dflAt ("Rule", some "__init__") 1 K)] [] (He.ma K (He.ga K "Rule") "__init__") fd ∧ Binds K fd ["self", "kind", "tests", "deeds"] [] := by
  obtain ⟨fd, F⟩ := c.d.def_ 44 (d := dM "Rule" "__init__" "Rule.__init__" sRuleInit [.adr (He.dflAt ("Rule", some "__init__") 0), .adr (He.dflAt ("Rule", some "__init__") 1)]) rfl
  obtain ⟨ds, hv, hb⟩ := FunD.binds1 (ps := ["self", "kind", "tests", "deeds"]) F 4 2 (fun z => nomatch z) rfl fun _ _ _ _ _ _ _ us its h1 h2 => match us, its, h1, h2 with | [_, _, _, _], [_, _], _, _ => ⟨_, rfl, rfl⟩
  cases hv
  exact ⟨fd, F, hb⟩
theorem dm_Plan_init (c : Says w K) : ∃ fd, FunD K "__init__" "Plan.__init__" (defArgs sPlanInit) (defBody sPlanInit) (defScope sPlanInit) [V.ref (He.dflAt ("Plan", some "__init__") 0 K), V.ref (He.dflAt ("Plan", some "__init__") 1 K)] [] (He.ma K (He.ga K "Plan") "__init__") fd ∧ Binds K fd ["self", "raises", "rules"] [] := by
  obtain ⟨fd, F⟩ := c.d.def_ 45 (d := dM "Plan" "__init__" "Plan.__init__" sPlanInit [.adr (He.dflAt ("Plan", some "__init__") 0), .adr (He.dflAt ("Plan", some "__init__") 1)]) rfl
  obtain ⟨ds, hv, hb⟩ := FunD.binds1 (ps := ["self", "raises", "rules"]) F 3 2 (fun z => nomatch z) rfl fun _ _ _ _ _ _ _ us its h1 h2 => match us, its, h1, h2 with | [_, _, _], [_, _], _, _ => ⟨_, rfl, rfl⟩
  cases hv
  exact ⟨fd, F, hb⟩
theorem dm_Course_init (c : Says w K) : ∃ fd, Fun K "__init__" "Course.__init__" sCourseInit (He.ma K (He.ga K "Course") "__init__") fd ∧ Binds K fd ["self", "plan"] [] := by
  obtain ⟨fd, F⟩ := c.d.def_ 46 (d := dM "Course" "__init__" "Course.__init__" sCourseInit []) rfl
  exact ⟨fd, He5.fun_of F, FunD.bindsN (ps := ["self", "plan"]) F fun _ _ _ _ _ _ us hl => match us, hl with | [_, _], _ => rfl⟩
theorem dm_Played_init (c : Says w K) : ∃ fd, Fun K "__init__" "Played.__init__" sPlayedInit (He.ma K (He.ga K "Played") "__init__") fd ∧ Binds K fd ["self", "course"] [] := by
  obtain ⟨fd, F⟩ := c.d.def_ 47 (d := dM "Played" "__init__" "Played.__init__" sPlayedInit []) rfl
  exact ⟨fd, He5.fun_of F, FunD.bindsN (ps := ["self", "course"]) F fun _ _ _ _ _ _ us hl => match us, hl with | [_, _], _ => rfl⟩
theorem dm_Course_showing (c : Says w K) : ∃ fd, Fun K "showing" "Course.showing" sCourseShowing (He.ma K (He.ga K "Course") "showing") fd ∧ Binds K fd ["self"] [] := by
  obtain ⟨fd, F⟩ := c.d.def_ 48 (d := dM "Course" "showing" "Course.showing" sCourseShowing []) rfl
  exact ⟨fd, He5.fun_of F, FunD.bindsN (ps := ["self"]) F fun _ _ _ _ _ _ us hl => match us, hl with | [_], _ => rfl⟩
theorem dm_Course_send (c : Says w K) : ∃ fd, Fun K "send" "Course.send" sCourseSend (He.ma K (He.ga K "Course") "send") fd ∧ Binds K fd ["self", "deed"] [] := by
  obtain ⟨fd, F⟩ := c.d.def_ 49 (d := dM "Course" "send" "Course.send" sCourseSend []) rfl
  exact ⟨fd, He5.fun_of F, FunD.bindsN (ps := ["self", "deed"]) F fun _ _ _ _ _ _ us hl => match us, hl with | [_, _], _ => rfl⟩
theorem dm_Course_standing_to (c : Says w K) : ∃ fd, Fun K "standing_to" "Course.standing_to" sCourseStandingTo (He.ma K (He.ga K "Course") "standing_to") fd ∧ Binds K fd ["self", "place", "part"] [] := by
  obtain ⟨fd, F⟩ := c.d.def_ 50 (d := dM "Course" "standing_to" "Course.standing_to" sCourseStandingTo []) rfl
  exact ⟨fd, He5.fun_of F, FunD.bindsN (ps := ["self", "place", "part"]) F fun _ _ _ _ _ _ us hl => match us, hl with | [_, _, _], _ => rfl⟩
theorem dm_Course_come (c : Says w K) : ∃ fd, Fun K "come" "Course.come" sCourseCome (He.ma K (He.ga K "Course") "come") fd ∧ Binds K fd ["self", "place"] [] := by
  obtain ⟨fd, F⟩ := c.d.def_ 51 (d := dM "Course" "come" "Course.come" sCourseCome []) rfl
  exact ⟨fd, He5.fun_of F, FunD.bindsN (ps := ["self", "place"]) F fun _ _ _ _ _ _ us hl => match us, hl with | [_, _], _ => rfl⟩
theorem dm_Course_hear (c : Says w K) : ∃ fd, Fun K "hear" "Course.hear" sCourseHear (He.ma K (He.ga K "Course") "hear") fd ∧ Binds K fd ["self", "answer"] [] := by
  obtain ⟨fd, F⟩ := c.d.def_ 52 (d := dM "Course" "hear" "Course.hear" sCourseHear []) rfl
  exact ⟨fd, He5.fun_of F, FunD.bindsN (ps := ["self", "answer"]) F fun _ _ _ _ _ _ us hl => match us, hl with | [_, _], _ => rfl⟩
theorem dm_Course_look (c : Says w K) : ∃ fd, Fun K "look" "Course.look" sCourseLook (He.ma K (He.ga K "Course") "look") fd ∧ Binds K fd ["self"] [] := by
  obtain ⟨fd, F⟩ := c.d.def_ 53 (d := dM "Course" "look" "Course.look" sCourseLook []) rfl
  exact ⟨fd, He5.fun_of F, FunD.bindsN (ps := ["self"]) F fun _ _ _ _ _ _ us hl => match us, hl with | [_], _ => rfl⟩
theorem dm_Course_judge (c : Says w K) : ∃ fd, Fun K "judge" "Course.judge" sCourseJudge (He.ma K (He.ga K "Course") "judge") fd ∧ Binds K fd ["self", "heard"] [] := by
  obtain ⟨fd, F⟩ := c.d.def_ 54 (d := dM "Course" "judge" "Course.judge" sCourseJudge []) rfl
  exact ⟨fd, He5.fun_of F, FunD.bindsN (ps := ["self", "heard"]) F fun _ _ _ _ _ _ us hl => match us, hl with | [_, _], _ => rfl⟩
theorem dm_Course_is_back (c : Says w K) : ∃ fd, Fun K "is_back" "Course.is_back" sCourseIsBack (He.ma K (He.ga K "Course") "is_back") fd ∧ Binds K fd ["self", "place"] [] := by
  obtain ⟨fd, F⟩ := c.d.def_ 55 (d := dM "Course" "is_back" "Course.is_back" sCourseIsBack []) rfl
  exact ⟨fd, He5.fun_of F, FunD.bindsN (ps := ["self", "place"]) F fun _ _ _ _ _ _ us hl => match us, hl with | [_, _], _ => rfl⟩
theorem dm_Plan_len (c : Says w K) : ∃ fd, Fun K "__len__" "Plan.__len__" sPlanLen (He.ma K (He.ga K "Plan") "__len__") fd ∧ Binds K fd ["self"] [] := by
  obtain ⟨fd, F⟩ := c.d.def_ 56 (d := dM "Plan" "__len__" "Plan.__len__" sPlanLen []) rfl
  exact ⟨fd, He5.fun_of F, FunD.bindsN (ps := ["self"]) F fun _ _ _ _ _ _ us hl => match us, hl with | [_], _ => rfl⟩
theorem dm_Rule_read (c : Says w K) : ∃ fd, Fun K "read" "Rule.read" sRuleRead (He5.wf K (He.ga K "Rule") "classmethod" "read") fd ∧ Binds K fd ["cls", "text"] [] := by
  obtain ⟨fd, F⟩ := c.d.def_ 57 (d := dC "Rule" "read" "Rule.read" sRuleRead) rfl
  exact ⟨fd, He5.fun_of F, FunD.bindsN (ps := ["cls", "text"]) F fun _ _ _ _ _ _ us hl => match us, hl with | [_, _], _ => rfl⟩
theorem dm_Plan_read (c : Says w K) : ∃ fd, Fun K "read" "Plan.read" sPlanRead (He5.wf K (He.ga K "Plan") "classmethod" "read") fd ∧ Binds K fd ["cls", "text"] [] := by
  obtain ⟨fd, F⟩ := c.d.def_ 58 (d := dC "Plan" "read" "Plan.read" sPlanRead) rfl
  exact ⟨fd, He5.fun_of F, FunD.bindsN (ps := ["cls", "text"]) F fun _ _ _ _ _ _ us hl => match us, hl with | [_, _], _ => rfl⟩
end
theorem facts {P : Program} {w : World} {K : PySem.W.Frag} {h : Heap} {mg : Str → Option Value} {f : Addr} (X : K.In h) (G : h.Ns mainGlobals mg) (hfa : mg ("law" : Str) = some (.ref f)) (c : Says w K) :
    ∃ fd : FuncData, (∀ (s : Shared) (v : Value), BindsTo s fd ⟨[v], []⟩ [("_law_script", v)]) ∧ ∀ base : Heap, K.In base → base.Ns mainGlobals mg → FnC P w K mg base 8 f fd ["_law_script"] (spLaw K) := by
  obtain ⟨fd, F⟩ := c.d.def_ 23 (d := dA "law" sLaw) rfl
  have e := hfa.symm.trans (He.glo_ok X G (c.d.fact 23 (f := .glo "law") rfl))
  cases e
  have b := FunD.bindsA (ps := ["_law_script"]) F fun _ _ _ _ _ _ us hl => match us, hl with | [_], _ => rfl
  obtain ⟨d_deal, D_deal⟩ := df_law_deal X G c
  obtain ⟨d_draw, D_draw⟩ := df_law_draw X G c
  obtain ⟨d_pick, D_pick⟩ := df_law_pick X G c
  obtain ⟨d_test, D_test⟩ := df_law_test X G c
  obtain ⟨d_rule, D_rule⟩ := df_law_rule X G c
  obtain ⟨d_wise, D_wise⟩ := df_law_wise X G c
  obtain ⟨d_rules, D_rules⟩ := df_law_rules X G c
  obtain ⟨d_raising, D_raising⟩ := df_law_raising X G c
  obtain ⟨d_text, D_text⟩ := df_law_text X G c
  obtain ⟨d_world, D_world⟩ := df_law_world X G c
  obtain ⟨d_view, D_view⟩ := df_law_view X G c
  obtain ⟨d_law_holds, D_law_holds⟩ := df_law_holds X G c
  obtain ⟨d_come, D_come⟩ := df_law_come X G c
  obtain ⟨d_hear, D_hear⟩ := df_law_hear X G c
  obtain ⟨d_can, D_can⟩ := df_law_can X G c
  obtain ⟨d_go, D_go⟩ := df_law_go X G c
  obtain ⟨d_note, D_note⟩ := df_law_note X G c
  obtain ⟨d_said, D_said⟩ := df_law_said X G c
  obtain ⟨d_act, D_act⟩ := df_law_act X G c
  obtain ⟨d_acts, D_acts⟩ := df_law_acts X G c
  obtain ⟨d_told, D_told⟩ := df_law_told X G c
  obtain ⟨d_rule_tests, D_rule_tests⟩ := df_law_rule_tests X G c
  obtain ⟨d_otherwise, D_otherwise⟩ := df_law_otherwise X G c
  obtain ⟨d_is_sequence, D_is_sequence⟩ := df_is_sequence X G c
  obtain ⟨d_is_kind, D_is_kind⟩ := df_is_kind X G c
  obtain ⟨d_is_test, D_is_test⟩ := df_is_test X G c
  obtain ⟨d_is_deed, D_is_deed⟩ := df_is_deed X G c
  obtain ⟨d_split_part, D_split_part⟩ := df_split_part X G c
  obtain ⟨d_are_raises, D_are_raises⟩ := df_are_raises X G c
  obtain ⟨d_are_rules, D_are_rules⟩ := df_are_rules X G c
  obtain ⟨d_read_rule, D_read_rule⟩ := df_read_rule X G c
  obtain ⟨d_read_place, D_read_place⟩ := df_read_place X G c
  obtain ⟨d_relation, D_relation⟩ := df_relation X G c
  obtain ⟨d_holds, D_holds⟩ := df_holds X G c
  obtain ⟨d_letter_rule, D_letter_rule⟩ := df_letter_rule X G c
  obtain ⟨d_answer_rule, D_answer_rule⟩ := df_answer_rule X G c
  obtain ⟨d_deeds_of, D_deeds_of⟩ := df_deeds_of X G c
  obtain ⟨d_is_whole_kind, D_is_whole_kind⟩ := df_is_whole_kind X G c
  obtain ⟨d_effect, D_effect⟩ := df_effect X G c
  obtain ⟨d_letter_to_come, D_letter_to_come⟩ := df_letter_to_come X G c
  obtain ⟨d_can_answer, D_can_answer⟩ := df_can_answer X G c
  obtain ⟨d_go_on, D_go_on⟩ := df_go_on X G c
  obtain ⟨d_play, D_play⟩ := df_play X G c
  obtain ⟨d_Rule_init, F_Rule_init, b_Rule_init⟩ := dm_Rule_init c
  obtain ⟨d_Plan_init, F_Plan_init, b_Plan_init⟩ := dm_Plan_init c
  obtain ⟨d_Course_init, F_Course_init, b_Course_init⟩ := dm_Course_init c
  obtain ⟨d_Played_init, F_Played_init, b_Played_init⟩ := dm_Played_init c
  obtain ⟨d_Course_showing, F_Course_showing, b_Course_showing⟩ := dm_Course_showing c
  obtain ⟨d_Course_send, F_Course_send, b_Course_send⟩ := dm_Course_send c
  obtain ⟨d_Course_standing_to, F_Course_standing_to, b_Course_standing_to⟩ := dm_Course_standing_to c
  obtain ⟨d_Course_come, F_Course_come, b_Course_come⟩ := dm_Course_come c
  obtain ⟨d_Course_hear, F_Course_hear, b_Course_hear⟩ := dm_Course_hear c
  obtain ⟨d_Course_look, F_Course_look, b_Course_look⟩ := dm_Course_look c
  obtain ⟨d_Course_judge, F_Course_judge, b_Course_judge⟩ := dm_Course_judge c
  obtain ⟨d_Course_is_back, F_Course_is_back, b_Course_is_back⟩ := dm_Course_is_back c
  obtain ⟨d_Plan_len, F_Plan_len, b_Plan_len⟩ := dm_Plan_len c
  obtain ⟨d_Rule_read, F_Rule_read, b_Rule_read⟩ := dm_Rule_read c
  obtain ⟨d_Plan_read, F_Plan_read, b_Plan_read⟩ := dm_Plan_read c
  obtain ⟨tA, gA⟩ := He.str_ok X G (c.d.fact 71 (f := .str "ANSWER" "answer") rfl)
  obtain ⟨tN, gN⟩ := He.str_ok X G (c.d.fact 72 (f := .str "NOT" "not ") rfl)
  obtain ⟨tO, gO⟩ := He.str_ok X G (c.d.fact 73 (f := .str "OTHER" "other") rfl)
  obtain ⟨tCm, gCm⟩ := He.str_ok X G (c.d.fact 74 (f := .str "COME" "come ") rfl)
  obtain ⟨tHd, gHd⟩ := He.str_ok X G (c.d.fact 75 (f := .str "HEARD" "heard ") rfl)
  obtain ⟨tAn, gAn⟩ := He.str_ok X G (c.d.fact 76 (f := .str "ANSWERING" "answer") rfl)
  have TB : TxB mg := ⟨He.free_ok X G (c.d.fact 55 (f := .free "int") rfl), He.free_ok X G (c.d.fact 56 (f := .free "abs") rfl), He.free_ok X G (c.d.fact 57 (f := .free "len") rfl), He.free_ok X G (c.d.fact 58 (f := .free "range") rfl), He.free_ok X G (c.d.fact 59 (f := .free "max") rfl), He.free_ok X G (c.d.fact 60 (f := .free "min") rfl), He.free_ok X G (c.d.fact 61 (f := .free "list") rfl), He.free_ok X G (c.d.fact 62 (f := .free "tuple") rfl)⟩
  have T : TxR K mg (He.ga K "LETTERS") (He.ga K "LETTER_TESTS") (He.ga K "LETTER_DEEDS") (He.ga K "ANSWER_TESTS") (He.ga K "ANSWER_DEEDS") (He.ga K "Rule") tA tN :=
    { toTxB := TB, g_ANSWER := gA, g_NOT := gN, g_LETTERS := He.glo_ok X G (c.d.fact 48 (f := .glo "LETTERS") rfl), s_LETTERS := He.tupB_ok (ex_at c.more 0 rfl), g_LETTER_TESTS := He.glo_ok X G (c.d.fact 49 (f := .glo "LETTER_TESTS") rfl), s_LETTER_TESTS := He.tupB_ok (ex_at c.more 1 rfl), g_LETTER_DEEDS := He.glo_ok X G (c.d.fact 50 (f := .glo "LETTER_DEEDS") rfl), s_LETTER_DEEDS := He.tupB_ok (ex_at c.more 2 rfl), g_ANSWER_TESTS := He.glo_ok X G (c.d.fact 51 (f := .glo "ANSWER_TESTS") rfl), s_ANSWER_TESTS := He.tupB_ok (ex_at c.more 3 rfl), g_ANSWER_DEEDS := He.glo_ok X G (c.d.fact 52 (f := .glo "ANSWER_DEEDS") rfl), s_ANSWER_DEEDS := He.tupB_ok (ex_at c.more 4 rfl), g_Rule := He.glo_ok X G (c.d.fact 44 (f := .glo "Rule") rfl), n_isinstance := He.free_ok X G (c.d.fact 63 (f := .free "isinstance") rfl), n_str := He.free_ok X G (c.d.fact 64 (f := .free "str") rfl), n_all := He.free_ok X G (c.d.fact 65 (f := .free "all") rfl), cl := He.cls_ok (c.d.fact 77 (f := .cls "Rule") rfl), nK := He.noat_ok (c.d.fact 81 (f := .noat "Rule" "kind") rfl), nT := He.noat_ok (c.d.fact 82 (f := .noat "Rule" "tests") rfl), nD := He.noat_ok (c.d.fact 83 (f := .noat "Rule" "deeds") rfl), ci := He.eqO_ok (ex_at c.more 7 rfl), cs := He.eqO_ok (ex_at c.more 8 rfl), ct := of_decide_eq_true (ex_at c.more 9 rfl), co := of_decide_eq_true (ex_at c.more 6 rfl) }
  have TP : TxP K mg (He.ga K "Plan") := { g_Plan := He.glo_ok X G (c.d.fact 45 (f := .glo "Plan") rfl), n_sorted := He.free_ok X G (c.d.fact 66 (f := .free "sorted") rfl), n_set := He.free_ok X G (c.d.fact 67 (f := .free "set") rfl), n_bool := He.free_ok X G (c.d.fact 68 (f := .free "bool") rfl), n_isinstance := He.free_ok X G (c.d.fact 63 (f := .free "isinstance") rfl), n_int := He.free_ok X G (c.d.fact 55 (f := .free "int") rfl), n_len := He.free_ok X G (c.d.fact 57 (f := .free "len") rfl), n_tuple := He.free_ok X G (c.d.fact 62 (f := .free "tuple") rfl), cl := He.cls_ok (c.d.fact 78 (f := .cls "Plan") rfl), nR := He.noat_ok (c.d.fact 84 (f := .noat "Plan" "raises") rfl), nU := He.noat_ok (c.d.fact 85 (f := .noat "Plan" "rules") rfl) }
  have TW : TxW K w mg (He.ga K "HOLDS") := ⟨He.glo_ok X G (c.d.fact 53 (f := .glo "HOLDS") rfl), holdsB_ok (ex_at c.more 18 rfl) c.tab, He.free_ok X G (c.d.fact 69 (f := .free "enumerate") rfl), He.free_ok X G (c.d.fact 65 (f := .free "all") rfl)⟩
  have TC : TxC K mg (He.ga K "Course") tO := { g_Course := He.glo_ok X G (c.d.fact 46 (f := .glo "Course") rfl), g_OTHER := gO, cl := He.cls_ok (c.d.fact 79 (f := .cls "Course") rfl), plan := He.noat_ok (c.d.fact 86 (f := .noat "Course" "plan") rfl), letters := He.noat_ok (c.d.fact 87 (f := .noat "Course" "letters") rfl), newest := He.noat_ok (c.d.fact 88 (f := .noat "Course" "newest") rfl), whole := He.noat_ok (c.d.fact 89 (f := .noat "Course" "whole") rfl), own := He.noat_ok (c.d.fact 90 (f := .noat "Course" "own") rfl), came := He.noat_ok (c.d.fact 91 (f := .noat "Course" "came") rfl), shown := He.noat_ok (c.d.fact 92 (f := .noat "Course" "shown") rfl), off := He.noat_ok (c.d.fact 93 (f := .noat "Course" "called_off") rfl), answers := He.noat_ok (c.d.fact 94 (f := .noat "Course" "answers") rfl), counted := He.noat_ok (c.d.fact 95 (f := .noat "Course" "counted") rfl), shows := He.noat_ok (c.d.fact 96 (f := .noat "Course" "shows") rfl), rules := He.noat_ok (c.d.fact 97 (f := .noat "Course" "rules") rfl), goals := He.noat_ok (c.d.fact 98 (f := .noat "Course" "goals") rfl) }
  have TD : TxD K mg (He.ga K "Played") := { g_Played := He.glo_ok X G (c.d.fact 47 (f := .glo "Played") rfl), cl := He.cls_ok (c.d.fact 80 (f := .cls "Played") rfl), letters := He.noat_ok (c.d.fact 99 (f := .noat "Played" "letters") rfl), shows := He.noat_ok (c.d.fact 100 (f := .noat "Played" "shows") rfl), whole := He.noat_ok (c.d.fact 101 (f := .noat "Played" "whole") rfl), own := He.noat_ok (c.d.fact 102 (f := .noat "Played" "own") rfl), answers := He.noat_ok (c.d.fact 103 (f := .noat "Played" "answers") rfl), counted := He.noat_ok (c.d.fact 104 (f := .noat "Played" "counted") rfl), rules := He.noat_ok (c.d.fact 105 (f := .noat "Played" "rules") rfl), goals := He.noat_ok (c.d.fact 106 (f := .noat "Played" "goals") rfl) }
  have TG : TxG K mg (He.ga K "DEEDS") tCm tHd tAn := ⟨He.glo_ok X G (c.d.fact 54 (f := .glo "DEEDS") rfl), He.tupB_ok (ex_at c.more 5 rfl), gCm, gHd, gAn⟩
  have M_showing := He.meth_ok (c.d.fact 107 (f := .meth "Course" "showing") rfl)
  have M_send := He.meth_ok (c.d.fact 108 (f := .meth "Course" "send") rfl)
  have M_standing_to := He.meth_ok (c.d.fact 109 (f := .meth "Course" "standing_to") rfl)
  have M_come := He.meth_ok (c.d.fact 110 (f := .meth "Course" "come") rfl)
  have M_hear := He.meth_ok (c.d.fact 111 (f := .meth "Course" "hear") rfl)
  have M_look := He.meth_ok (c.d.fact 112 (f := .meth "Course" "look") rfl)
  have M_judge := He.meth_ok (c.d.fact 113 (f := .meth "Course" "judge") rfl)
  have M_is_back := He.meth_ok (c.d.fact 114 (f := .meth "Course" "is_back") rfl)
  have cmR := He5.cmet_of (ex_at c.more 12 rfl) (ex_at c.more 13 rfl)
  have rdR : ClX.CRead K (He.ga K "Rule") (.type "type") := ⟨(ex_at c.more 10 rfl), He.eqO_ok (ex_at c.more 11 rfl)⟩
  have cmP := He5.cmet_of (ex_at c.more 16 rfl) (ex_at c.more 17 rfl)
  have rdP : ClX.CRead K (He.ga K "Plan") (.type "type") := ⟨(ex_at c.more 14 rfl), He.eqO_ok (ex_at c.more 15 rfl)⟩
  have mkR := He.mkr_ok (c.d.fact 116 (f := .mkr "Rule") rfl)
  have mkP := He.mkr_ok (c.d.fact 117 (f := .mkr "Plan") rfl)
  have mkC := He.mkr_ok (c.d.fact 118 (f := .mkr "Course") rfl)
  have mkD := He.mkr_ok (c.d.fact 119 (f := .mkr "Played") rfl)
  refine ⟨fd, fun s v => b s [v] rfl, fun base _ _ => ?_⟩
  have G_rinit := ok_rule_init (P := P) (w := w) (base := base) F_Rule_init T D_is_sequence D_is_kind D_is_test D_is_deed
  have G_are := ok_are_raisesG (P := P) (w := w) (base := base) D_are_raises.F T TP.n_set D_is_sequence
  have G_init := ok_plan_initG (P := P) (w := w) (base := base) F_Plan_init T TP D_is_sequence D_are_raises G_are D_are_rules
  have G_readR0 := ok_rule_read (P := P) (w := w) (base := base) F_Rule_read T D_split_part mkR G_rinit b_Rule_init
  have G_readR : FnR P w K mg base CX0 4 (He5.wf K (He.ga K "Rule") "classmethod" "read") (spRuleReadG K (He.ga K "Rule")) := (G_readR0.raw b_Rule_read .nil).imp fun vs H Q E h => by rw [List.append_nil]; exact h
  have G_read_rule := ok_read_rule (P := P) (w := w) (base := base) D_read_rule.F T.g_Rule rdR cmR G_readR
  have G_readP0 := ok_plan_read (P := P) (w := w) (base := base) F_Plan_read (He.free_ok X G (c.d.fact 69 (f := .free "enumerate") rfl)) D_are_raises D_read_rule G_are G_read_rule mkP G_init b_Plan_init
  have G_readP : FnR P w K mg base CX0 6 (He5.wf K (He.ga K "Plan") "classmethod" "read") (spPlanReadG K (He.ga K "Rule") (He.ga K "Plan") sortedOf) := (G_readP0.raw b_Plan_read .nil).imp fun vs H Q E h => by rw [List.append_nil]; exact h
  have G_letter_rule := ok_letter_rule (P := P) (w := w) (base := base) D_letter_rule.F T TW TP D_holds
  have G_answer_rule := ok_answer_rule (P := P) (w := w) (base := base) D_answer_rule.F T TW TP
  have G_deeds_of := ok_deedsM (P := P) (w := w) (mg := mg) (base := base) D_deeds_of.F T.cl T.nD TP.cl TP.nU
  have G_effect := ok_effect (P := P) (w := w) (base := base) D_effect.F D_is_whole_kind
  have G_showing := ok_showing (P := P) (w := w) (base := base) (CR := He.ga K "Rule") (CP := He.ga K "Plan") F_Course_showing TC
  have G_send := ok_send (P := P) (w := w) (base := base) F_Course_send T TP TC
  have G_standing := ok_standing_to (P := P) (w := w) (base := base) (CR := He.ga K "Rule") (CP := He.ga K "Plan") F_Course_standing_to TC D_relation
  have G_come := ok_come (P := P) (w := w) (base := base) F_Course_come TC M_standing_to G_standing b_Course_standing_to D_letter_rule G_letter_rule D_effect G_effect D_deeds_of G_deeds_of D_is_whole_kind
  have G_hear := ok_hear (P := P) (w := w) (base := base) F_Course_hear TC D_answer_rule G_answer_rule D_deeds_of G_deeds_of
  have G_look := ok_look (P := P) (w := w) (base := base) F_Course_look TC M_showing G_showing b_Course_showing
  have G_is_back := ok_is_back (P := P) (w := w) (base := base) (CR := He.ga K "Rule") (CP := He.ga K "Plan") F_Course_is_back TC
  have G_judge := ok_judge (P := P) (w := w) (base := base) F_Course_judge TC M_is_back G_is_back b_Course_is_back
  have G_read_place := ok_read_place (P := P) (w := w) (base := base) D_read_place.F T
  have G_to_come := ok_to_come (P := P) (w := w) (base := base) (CP := He.ga K "Plan") D_letter_to_come.F T TC TG D_read_place G_read_place
  have G_can_answer := ok_can_answer (P := P) (w := w) (base := base) D_can_answer.F TC M_showing G_showing b_Course_showing
  have G_go_on := ok_go_on (P := P) (w := w) (base := base) D_go_on.F T TC TG D_letter_to_come G_to_come D_read_place G_read_place D_can_answer G_can_answer M_send G_send b_Course_send M_come G_come b_Course_come M_hear G_hear b_Course_hear M_look G_look b_Course_look M_judge G_judge b_Course_judge M_showing G_showing b_Course_showing
  have G_cinit := ok_course_init (P := P) (w := w) (base := base) (CR := He.ga K "Rule") (CP := He.ga K "Plan") F_Course_init TC
  have G_pinit := ok_played_init (P := P) (w := w) (base := base) F_Played_init T TP TC TD
  have G_play := ok_play (P := P) (w := w) (base := base) D_play.F T TW TC TD D_is_sequence mkC G_cinit b_Course_init D_go_on G_go_on mkD G_pinit b_Played_init
  have mP_len := He.meth_ok (c.d.fact 115 (f := .meth "Plan" "__len__") rfl)
  exact ok_law (He5.fun_of F) T.toTxB TP TD (He.free_ok X G (c.d.fact 64 (f := .free "str") rfl)) (He.free_ok X G (c.d.fact 70 (f := .free "repr") rfl)) (He.free_ok X G (c.d.fact 69 (f := .free "enumerate") rfl)) D_deal D_draw D_pick D_test D_rule D_wise D_rules D_raising D_text D_world D_view D_law_holds D_come D_hear D_can D_go D_note D_said D_act D_acts D_told D_rule_tests D_otherwise D_play G_play rdP cmP G_readP mP_len.at_ mP_len.fn (ok_plan_len F_Plan_len TP) b_Plan_len
end Ov
open PySem PySem.W PySem.Calls PyProof.Rows
theorem PySem.Challenge.cw_overtaken_k16_whole_rules_that_do_nothin_holds : PySem.Challenge.rw_overtaken_k16_whole_rules_that_do_nothin.Holds := by
  w_on; o_law
  refine HandSHeadRun.head_any (r := OpenLaw.row PySem.Challenge.rw_overtaken_k16_whole_rules_that_do_nothin) (q := view (OpenLaw.row PySem.Challenge.rw_overtaken_k16_whole_rules_that_do_nothin).prog [77]) (H := Ov.hk) (ob := Ov.ob) (M := 12000) (loose := Ov.names) (d := HandSHeadRun.topDef (OpenLaw.row PySem.Challenge.rw_overtaken_k16_whole_rules_that_do_nothin).prog 77) (kwd := []) Ov.ob_eq
    (by kernel_rfl) (fun s => by kernel_rfl) Ov.run (by kernel_rfl) (by kernel_rfl) (by kernel_rfl) (by rfl) (by first | assumption | decide +kernel) (by decide +kernel) ⟨rfl, rfl, rfl, rfl, rfl, by decide +kernel⟩ ?hw ?hc
  case hw => w_witness2
  case hc =>
    refine Ov.walkC (l := PySem.Challenge.rw_overtaken_k16_whole_rules_that_do_nothin) (n := 63) (k := 8) (x := "_law_script") rfl (by decide) (by kernel_rfl) ⟨rfl, by decide, by decide⟩ ?F
    intro w mg fa h Y G hmg0
    obtain ⟨K, KX, c⟩ := Y
    have hmg : mg ("law" : PySem.Str) = some (.ref fa) := by
      have e : (HandSHeadRun.topDef (OpenLaw.row PySem.Challenge.rw_overtaken_k16_whole_rules_that_do_nothin).prog 77).name = ("law" : PySem.Str) := by kernel_rfl
      rw [← e]
      exact hmg0
    obtain ⟨fd, hb, hF⟩ := Ov.facts (P := (PySem.Challenge.rw_overtaken_k16_whole_rules_that_do_nothin).prog) (w := w) KX G hmg c
    exact ⟨K, fd, Ov.spLaw K, KX, hb, fun H a ns hl hS => ⟨a, ns, rfl, hS, hl, fun _ => rfl⟩, hF⟩

