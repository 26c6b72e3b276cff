import PyProof.Rows.All
import Wide.All
import OpenK.AllK
import Wide.FinOn
import KE.RegKCallOwn
import PyProof.InstNe
import HandS.ForMost
import HandS.OwnEq
import HandS.Evl
import HandS.IsInst
import HandS.FStr
import HandS.StrMore
import HandS.Defaults
import KE.KRevSl
import HandS.Wide
import HandS.Style
import PySem.Challenge.RW_overtaken_k02_rules_made
import HandS.Strs
import HandS.Zip
import HandS.ClsMeth
import HandS.Exc
import PyProof.ReprRoads
import HandS.More
import HandS.Ends
import HandS.Words
import PyProof.ReprBulk
import KE.KStateDown
import Lean
import HandS.Head0
import HandS.Head1
import HandS.Head2
import HandS.HeadEnd
import HandS.HeadHook1
import HandS.HeadHook2
import HandS.HeadHook3
import HandS.HeadHook4
import HandS.HeadNt
import HandS.MakeKw
set_option Elab.async false
set_option linter.all false
set_option maxRecDepth 100000
set_option maxHeartbeats 0
namespace Ov
open PySem PySem.Spec PyProof.Rows L2
/-! ### object's __ne__ over an own __eq__ -/
section
variable {M : Model} {prog : Program} {w : World} {A : Around} {E : Value → Shared → Prop} {s : Shared} {K : PySem.W.Frag} {x C f : Addr} {ox : Obj} {od : Option Obj}
theorem bound_ne {rest : List Value} {Q : Option Value → Shared → Prop} (kin : K.In s.heap) (J : PySem.W.InstAt s.heap x ox C od) (hn : PySem.W.findIn K (.ref C) "__ne__" = some (some (.builtin "object.__ne__")))
    (run : wpAny M A (call (.builtin "object.__ne__") (.ref x :: rest)) (fun r => Q (some r)) E s) : wpAny M A (callSpecialIfBound? (.ref x) "__ne__" rest) Q E s := by
  simp only [callSpecialIfBound?, bindSpecialIfBound?]
  refine wpAny_holding (wpAny_bind (wpAny_bind (wpAny_bind (J.type.here ((PySem.W.looks_findIn kin hn).here ?_)))))
  refine wpAny_bind (wpAny_askSetting (wpAny_ite ?_))
  have last : wpAny M A (call (.builtin "object.__ne__") ([.ref x] ++ rest) >>= fun r => pure (some r)) Q E s := wpAny_bind (wpAny_mono run (fun r s1 h1 => wpAny_pure h1) fun _ _ h1 => h1)
  split
  · exact wpAny_bind (wpAny_of_eq (F.cmp_object.ne.bind _) (wpAny_pure (by exact last)))
  · exact wpAny_tryCatch (wpAny_bind (wpAny_of_eq (F.cmp_object.ne.bind _) (wpAny_pure (by exact last))))
theorem objNe_run {y : Addr} {Q : Fin → Shared → Prop} (hu : A.units < cLine) (kin : K.In s.heap) (J : PySem.W.InstAt s.heap x ox C od) (hs : PySem.W.findIn K (.ref C) "__eq__" = some (some (.ref f))) (hf : PySem.W.isFn K (.ref f) = true)
    (run : wpAny (model prog w) A (call (.ref f) [.ref x, .ref y]) (fun v s1 => ∃ b, v = .bool b ∧ Q (.done (.ret (.bool (!b)))) s1) E s) : wpAny (model prog w) A (Builtin.«object.__ne__» ⟨[.ref x, .ref y], []⟩) Q E s := by
  unfold Builtin.«object.__ne__»
  refine wpAny_bind (m := slotArgs "__ne__" 1 _) (wpAny_pure ?_)
  refine wpAny_bind (m := cRoomFor _ _) (wpAny_cRoomFor hu ?_)
  refine wpAny_bind (m := callSpecialIfBound? (.ref x) (Str.ofString "__eq__") _) (PySem.W.ifBound_K kin J hs hf (wpAny_mono run (fun r s1 h1 => ?_) fun _ _ z => z))
  obtain ⟨b, rfl, q⟩ := h1
  exact wpAny_bind (wpAny_truthy_bool (wpAny_pure q))
end
section
variable {X : Cx} {CX : CXT} {k : Nat} {f C : Addr} {fd : FuncData} {ps : List Str} {sp : Sp} {E : XK}
/-- a def run somewhere below the body -/
theorem run_sub {A : Around} (F : FnOk X.prog X.w X.K X.mg X.base CX k f fd ps sp) (sb : Sub X k A) (hb : Binds X.K fd ps []) (hx : Passes CX X E) {pins : List (Addr × Obj)} {σ : L2.St} {H : Hp} {s : Shared} {vs : List V} {us : List Value} {Q : VK}
    (I : Inv X pins σ H s) (r : Vals vs us) (h : sp vs H Q E) : wpAny (model X.prog X.w) A (call (.ref f) us) (EP X pins σ Q) X.xe s := by
  have e0 : Env0 X.prog X.w X.K X.mg X.base A X.stack s H := by
    have e := I.env0
    exact ⟨by rw [sb.fr]; exact e.frames, e.mod, e.bs, e.bsz, e.funs, e.frf, e.hok, e.bare⟩
  have hl : (us ++ []).length = ps.length := by rw [List.append_nil, ← r.length]; exact F.len _ _ _ _ h
  refine wpAny_call (codeAny_mono (F.run A X.stack s H ⟨us, []⟩ us vs Q E sb.room e0 (by
    have := hb s us I.kIn hl
    simpa using this) r h) fun r s' hq => ?_)
  cases r with
  | error e => exact hx pins σ H s e s' I hq
  | ok fl =>
    cases fl with
    | ret u => exact I.after hq
    | next => exact False.elim hq
    | brk => exact False.elim hq
    | cont => exact False.elim hq
theorem sub0 (hr : Room k X.A) : Sub X k X.A := ⟨hr, rfl⟩
theorem sub1 (hr : Room (k + 1) X.A) : Sub X k X.A.in1 := Sub.in1 ⟨hr, rfl⟩
theorem sub2 (hr : Room (k + 2) X.A) : Sub X k X.A.in1.in1 := Sub.in1 (Sub.in1 (n := k + 1) ⟨hr, rfl⟩)

/-- x == y of two instances of the class at C by its own __eq__ -/
def rEqI (C : Addr) (sp : Sp) (E : XK) : R2 := fun x y H Q => ∃ a b dx dy fs gs, x = .ref a ∧ y = .ref b ∧ H a = some (.ins C dx fs) ∧ H b = some (.ins C dy gs) ∧ sp [x, y] H (fun v H' => ∃ b, v = .bl b ∧ Q (.bl b) H') E
theorem op_eqI (F : FnOk X.prog X.w X.K X.mg X.base CX k f fd ps sp) (hr : Room k X.A) (hs : PySem.W.findIn X.K (.ref C) "__eq__" = some (some (.ref f))) (hf : PySem.W.isFn X.K (.ref f) = true) (hb : Binds X.K fd ps []) (hx : Passes CX X E) :
    OpR X (compareOp .Eq) (rEqI C sp E) := by
  intro pins s σ H x y v u Q I rx ry h
  obtain ⟨a, b, dx, dy, fs, gs, rfl, rfl, ha, hb', hq⟩ := h
  cases rx
  cases ry
  obtain ⟨mA, J, _⟩ := ins_get I.hok ha
  obtain ⟨mB, J', _⟩ := ins_get I.hok hb'
  obtain ⟨od, J, _⟩ := J.look
  obtain ⟨od', J', _⟩ := J'.look
  obtain ⟨m, hF⟩ := I.fr
  show wpAny (model X.prog X.w) X.A (richCompare .Eq (.ref a) (.ref b)) _ _ s
  refine PySem.W.cmp_K (op := .Eq) (tb := .ref C) hr.units0 hF I.ok.mod.kin J J'.type (by simp [PySem.W.notFirst]) hs hf ?_
  refine wpAny_mono (run_sub F (sub0 hr) hb hx I (vs := [.ref a, .ref b]) (us := [.ref a, .ref b]) (.cons rfl (.cons rfl .nil)) hq) (fun v s' hv => ?_) fun _ _ z => z
  obtain ⟨z, H', I', rz, c, rfl, q⟩ := hv
  cases rz
  exact ⟨.bl c, H', I', rfl, q⟩

/-- str(x) by the class's own __str__ -/
def rStrI (C : Addr) (sp : Sp) (E : XK) : List V → Hp → VK → Prop := fun xs H Q => ∃ a dx fs, xs = [.ref a] ∧ H a = some (.ins C dx fs) ∧ sp [.ref a] H (fun v H' => ∃ z, v = .str z ∧ Q (.str z) H') E
theorem call_strI (F : FnOk X.prog X.w X.K X.mg X.base CX k f fd ps sp) (hr : Room (k + 2) X.A) (hs : PySem.W.findIn X.K (.ref C) "__str__" = some (some (.ref f))) (hf : PySem.W.isFn X.K (.ref f) = true) (hb : Binds X.K fd ps []) (hx : Passes CX X E) :
    CallR X (.type "str") (rStrI C sp E) := by
  intro pins s σ H xs us Q I r h
  obtain ⟨a, dx, fs, rfl, ha, hq⟩ := h
  obtain ⟨u, rfl, rx⟩ := vals1 r
  cases rx
  obtain ⟨mA, J, _⟩ := ins_get I.hok ha
  obtain ⟨od, J, _⟩ := J.look
  refine PySem.W.kso_call (sub2 hr).room.units0 I.kIn J hs hf ?_
  refine wpAny_mono (run_sub F (sub2 hr) hb hx I (vs := [.ref a]) (us := [.ref a]) (.cons rfl .nil) hq) (fun v s' hv => ?_) fun _ _ z => z
  obtain ⟨z, H', I', rz, c, rfl, q⟩ := hv
  obtain ⟨t, rfl⟩ := rz
  exact ⟨.str c, H', I', ⟨t, rfl⟩, q⟩
/-- x != y of two instances of the class at C, by its own __eq__ and object's __ne__ -/
def rNeI (C : Addr) (sp : Sp) (E : XK) : R2 := fun x y H Q => ∃ a b dx dy fs gs, x = .ref a ∧ y = .ref b ∧ H a = some (.ins C dx fs) ∧ H b = some (.ins C dy gs) ∧ sp [x, y] H (fun v H' => ∃ b, v = .bl b ∧ Q (.bl (!b)) H') E
theorem op_neI (F0 : FnOk X.prog X.w X.K X.mg X.base CX k f fd ps sp) (hr : Room (k + 1) X.A) (hs : PySem.W.findIn X.K (.ref C) "__eq__" = some (some (.ref f))) (hn : PySem.W.findIn X.K (.ref C) "__ne__" = some (some (.builtin "object.__ne__")))
    (hm : PySem.W.mroIn X.K C (.type "object") = some true) (hf : PySem.W.isFn X.K (.ref f) = true) (hb : Binds X.K fd ps []) (hx : Passes CX X E) :
    OpR X (compareOp .NotEq) (rNeI C sp E) := by
  intro pins s σ H x y v u Q I rx ry h
  obtain ⟨a, b, dx, dy, fs, gs, rfl, rfl, ha, hb', hq⟩ := h
  cases rx
  cases ry
  obtain ⟨mA, J, _⟩ := ins_get I.hok ha
  obtain ⟨mB, J', _⟩ := ins_get I.hok hb'
  obtain ⟨od, J, _⟩ := J.look
  obtain ⟨od', J', _⟩ := J'.look
  obtain ⟨m, hF⟩ := I.fr
  have hu := hr.units
  show wpAny (model X.prog X.w) X.A (richCompare .NotEq (.ref a) (.ref b)) _ _ s
  unfold richCompare
  simp only [oneThing_ref]
  refine wpAny_holding (wpAny_bind (wpAny_cRoomFor hr.units0 ?_))
  rw [cmpInfo_NotEq]
  dsimp only
  refine wpAny_bind (J.type.here (wpAny_bind (J'.type.here ?_)))
  rw [show (Value.ref C != Value.ref C) = false from by simp]
  simp only [Bool.false_eq_true, if_false]
  refine wpAny_bind (wpAny_pure ?_)
  simp only [Bool.false_eq_true, if_false]
  simp only [tryCompare]
  refine wpAny_bind (wpAny_bind (bound_ne I.kIn J hn (wpAny_call (codeAny_call_builtin F.cmp_object.ne.plain F.cmpEntry_ne (PySem.W.check_slot F.cmpKind_ne F.cmpSplit_ne (J.type.andThen (PySem.W.looks_mroIn I.kIn hm)) (F.cmpArgs_ne _ _) ?_)))))
  refine objNe_run (by show X.A.units + 1 < cLine; omega) I.kIn J hs hf (wpAny_mono (run_sub F0 (sub1 hr) hb hx I (vs := [.ref a, .ref b]) (us := [.ref a, .ref b]) (.cons rfl (.cons rfl .nil)) hq) (fun v s' hv => ?_) fun _ _ z => z)
  obtain ⟨z, H', I', rz, c, rfl, q⟩ := hv
  cases rz
  exact ⟨c, rfl, wpAny_pure (wpAny_pure ⟨.bl (!c), H', I', rfl, q⟩)⟩
/-- x[i] of an instance of the class at C, by its own __getitem__ -/
def rIxI (C : Addr) (sp : Sp) (E : XK) : R2 := fun x y H Q => ∃ a dx fs, x = .ref a ∧ H a = some (.ins C dx fs) ∧ sp [x, y] H Q E
theorem pe_ixI {e i : Expr} {pos : Pos} {ta tb : TE} (F0 : FnOk X.prog X.w X.K X.mg X.base CX k f fd ps sp) (hr : Room (k + 1) X.A) (hs : PySem.W.findIn X.K (.ref C) "__getitem__" = some (some (.ref f))) (hfn : PySem.W.fnIn X.K f = true) (hf : PySem.W.isFn X.K (.ref f) = true)
    (hb : Binds X.K fd ps []) (hx : Passes CX X E) (he : PE X e ta) (hi : PE X i tb) (hsl : ∀ (a : Addr) (v : Value), subscripted i true (.ref a) v = runValue (.builtin "lifetime.subscript" ⟨[.ref a, v], []⟩) := by intro _ _; with_unfolding_all rfl) :
    PE X (.Subscript e i pos) (tOp (rIxI C sp E) ta tb) := by
  refine ⟨fun pins s σ H Q I h => ?_⟩
  refine Subscript_ (binT he hi I h fun v u s2 x y H2 I2 rx ry q => ?_)
  obtain ⟨a, dx, fs, rfl, ha, hq⟩ := q
  cases rx
  obtain ⟨mA, J, _⟩ := ins_get I2.hok ha
  obtain ⟨od, J, _⟩ := J.look
  obtain ⟨m, hF⟩ := I2.fr
  exact PySem.W.sub_K hF I2.ok.mod.kin J hs hfn hf (run_sub F0 (sub1 hr) hb hx I2 (vs := [.ref a, y]) (us := [.ref a, u]) (.cons rfl (.cons ry .nil)) hq) (hsl a u)
end
/-! ### what is walked is a list or a tuple -/
section
variable {X : Cx}
theorem pi_alt {tg it : Expr} {w1 w2 : TI} (h1 : PI X tg it w1) (h2 : PI X tg it w2) : PI X tg it (fun σ H R => w1 σ H R ∨ w2 σ H R) :=
  ⟨fun pins s σ H R I h => h.elim (h1.run pins s σ H R I) (h2.run pins s σ H R I)⟩
def iBoth (K : PySem.W.Frag) (te : TE) : TI := fun σ H R => iList K te σ H R ∨ iTup K te σ H R
theorem pi_both {tg e : Expr} {te : TE} (he : PE X e te) : PI X tg e (iBoth X.K te) := pi_alt (pi_list he) (pi_tup he)
end
section
open Evl
variable {K : PySem.W.Frag} {σ : L2.St} {H : Hp} {te tl : TE} {D : Ends}
theorem given_all (n : Nat) (v : Nat → V) : given n (fun _ => true) v = (List.range n).map v := by
  unfold given
  rw [List.filter_eq_self.mpr fun _ _ => rfl]
theorem et_yes : EvT tYes σ H true := fun H1 _ _ q => q H1 (Ex.refl H1)
theorem el_lcT {a : Addr} {xs : List V} {j : Nat} {vs : List Nat} (v : Nat → V) (h : Ev tl σ H (.ref a)) (hx : SqT K H a xs) (hz : xs.length ≤ 40000) (hw : ∀ x, wipe ((wipe σ vs).set j (some x)) vs = wipe σ vs)
    (he : ∀ (i : Nat) (x : V) H1, Ex H H1 → xs[i]? = some x → Ev te ((wipe σ vs).set j (some x)) H1 (v i)) : EvL (tLc (iTup K tl) (gName j) tYes te vs) σ H ((List.range xs.length).map v) := fun H0 e Q q => h H0 e _ fun H1 e1 => ⟨a, rfl, ⟨xs, ex_t (e.trans e1) hx⟩, fun L hL =>
  lc_tup (xs := xs) (Cw H1 (fun _ => true) v L) ⟨hL, Ex.new hL, upd_same⟩ (fun i H' _ p => ex_t ((e.trans e1).trans p.2.1) hx)
    (fun i x H' hi p => ⟨hw x, cw_turn p (by have := (List.getElem?_eq_some_iff.mp hi).1; omega) et_yes (fun _ => he i x H1 (e.trans e1) hi)⟩)
    (fun H' p => q L H' (fresh_back e1 p.1) (e1.trans p.2.1) (by rw [← given_all]; exact p.2.2))⟩
theorem el_lcB {a : Addr} {xs : List V} {j : Nat} {vs : List Nat} (v : Nat → V) (h : Ev tl σ H (.ref a)) (hx : SqL K H a xs ∨ SqT K H a xs) (hz : xs.length ≤ 40000) (hw : ∀ x, wipe ((wipe σ vs).set j (some x)) vs = wipe σ vs)
    (he : ∀ (i : Nat) (x : V) H1, Ex H H1 → xs[i]? = some x → Ev te ((wipe σ vs).set j (some x)) H1 (v i)) : EvL (tLc (iBoth K tl) (gName j) tYes te vs) σ H ((List.range xs.length).map v) := fun H0 e Q q => by
  rcases hx with hx | hx
  · refine .inl (el_lcL (f := fun _ => true) (v := v) h hx hz hw (fun _ _ _ _ _ => et_yes) (fun i x H1 e1 hi _ => he i x H1 e1 hi) H0 e Q fun p H2 h1 h2 h3 => q p H2 h1 h2 ?_)
    rw [given_all] at h3
    exact h3
  · exact .inr (el_lcT v h hx hz hw he H0 e Q q)
theorem range_map {α : Type} (xs : List V) (g : V → α) (v : Nat → α) (h : ∀ i x, xs[i]? = some x → v i = g x) : (List.range xs.length).map v = xs.map g := by
  refine List.ext_getElem? fun i => ?_
  rw [List.getElem?_map, List.getElem?_map]
  by_cases hi : i < xs.length
  · rw [List.getElem?_range hi, List.getElem?_eq_getElem hi]
    exact congrArg some (h i _ (List.getElem?_eq_getElem hi))
  · rw [List.getElem?_eq_none (by rw [List.length_range]; omega), List.getElem?_eq_none (by omega)]
    rfl
end
section
open Evl
variable {P : Program} {w : World} {K : PySem.W.Frag} {mg : Str → Option Value} {base : Heap} {σ : L2.St} {H : Hp} {te : TE}
/-- a def with defaults that raises nothing -/
theorem FunD_ok0 {x qual : Str} {params : Arguments} {body : List Stmt} {scope : Scope} {dvs : List V} {kws : List (Str × V)} {f : Addr} {fd : FuncData} {N ps : List Str} {k : Nat} {sp : Sp} (F : FunD K x qual params body scope dvs kws f fd) (S : FnScope N ps scope)
    (len : ∀ vs H Q E, sp vs H Q E → vs.length = ps.length)
    (hbody : ∀ (cdv : Value) (A : Around) (outer : List Env) (s : Shared) (H : Hp) (vs : List V) (Q : VK) (E : XK), Room k (A.deeper (envOfC qual scope s.heap.objs.size f cdv)) → sp vs H Q E →
      ∃ t, PSs (cxOf CX0 P w K mg base N qual scope f cdv A outer s H E).nox body t ∧ t { nx := fun _ H' => Q .non H', rt := Q } (start N vs) H) : FnOk P w K mg base CX0 (k + 1) f fd ps sp :=
  F.ok S len fun cdv A outer s H vs Q E hr hsp => by
    obtain ⟨t, h, q⟩ := hbody cdv A outer s H vs Q E hr hsp
    exact ⟨t, h.nox, q⟩
theorem ev_all {bs : List Bool} (h : EvL te σ H (bs.map V.bl)) : Ev (tCB (rAll K) (tCons te tNil)) σ H (.bl (bs.all id)) := fun H1 e _ q =>
  h H1 e _ fun p H2 _ e2 hp => ⟨p, bs, rfl, sq_of hp, q H2 e2⟩
/-- a promise of one value, as an evaluation -/
theorem ev_call {sp : Sp} {ta : TA} {vs : List V} {v : V} (ha : EvA ta σ H vs) (h : ∀ H1, Ex H H1 → ∀ Q : VK, (∀ H2, Ex H1 H2 → Q v H2) → sp vs H1 Q E0) : Ev (tCall sp [] E0 ta) σ H v := fun H1 e Q q =>
  ha H1 e _ fun H2 e2 => by
    rw [List.append_nil]
    exact h H2 (e.trans e2) Q fun H3 e3 => q H3 (e2.trans e3)
theorem all_true (n : Nat) : (List.replicate n true).all id = true := by
  rw [List.all_eq_true]
  intro x hx
  exact (List.mem_replicate.mp hx).2
theorem range_true (n : Nat) : (List.range n).map (fun _ => V.bl true) = (List.replicate n true).map V.bl := by
  rw [List.map_const', List.length_range, List.map_replicate]
end
/-- tuple(x) of a list or a tuple: some tuple of the same items -/
def rTupAny (K : PySem.W.Frag) : List V → Hp → VK → Prop := fun xs H Q => ∃ p ys, xs = [.ref p] ∧ (SqL K H p ys ∨ SqT K H p ys) ∧ ∀ a H', Evl.Ex H H' → SqT K H' a ys → Q (.ref a) H'
theorem call_tuple_any {X : Cx} : CallR X (.type "tuple") (rTupAny X.K) := fun pins s σ H xs us Q I r h => by
  obtain ⟨p, ys, e, h1, h2⟩ := h
  refine call_tuple_of pins s σ H xs us Q I r ⟨p, ys, e, ?_⟩
  rcases h1 with h1 | h1
  · exact .inl ⟨h1, fun l hl => h2 l _ (Evl.Ex.new hl) (Evl.st_of upd_same)⟩
  · exact .inr ⟨h1, h2 p H (Evl.Ex.refl H) h1⟩
/-! ### tuples of texts compared -/
section
open Evl
theorem dp_strs {K : PySem.W.Frag} {H : Hp} : ∀ l : List Str, DpAll K H (l.map V.str) (l.map PyData.str)
  | [] => .nil
  | n :: r => .cons (.str n) (dp_strs r)
/-- texts of plain signs -/
def Plain (l : List Str) : Prop := ∀ x ∈ l, PyData.canLay0 (.str x) = true
theorem canLay_strs : ∀ l : List Str, Plain l → PyData.canLayAll0 (l.map PyData.str) = true
  | [], _ => rfl
  | n :: r, h => by
    show (PyData.canLay0 (.str n) && PyData.canLayAll0 (r.map PyData.str)) = true
    rw [canLay_strs r fun x hx => h x (List.mem_cons_of_mem _ hx), h n (List.mem_cons_self ..)]
    rfl
theorem depth_strs : ∀ l : List Str, PyData.depthAll (l.map PyData.str) = 0
  | [] => rfl
  | n :: r => by
    show max (PyData.depth (.str n)) (PyData.depthAll (r.map PyData.str)) = 0
    rw [depth_strs r]
    rfl
theorem shaped_strsT (l : List Str) (ok : Plain l) : SeqAt.shaped (.tuple (l.map PyData.str)) = true := by
  show (PyData.canLay0 (.tuple (l.map PyData.str)) && decide ((PyData.tuple (l.map PyData.str)).depth ≤ 64)) = true
  have h1 : PyData.canLay0 (.tuple (l.map PyData.str)) = true := canLay_strs l ok
  have h2 : (PyData.tuple (l.map PyData.str)).depth = 0 + 1 := by
    show PyData.depthAll (l.map PyData.str) + 1 = 0 + 1
    rw [depth_strs]
  rw [h1, h2]
  rfl
theorem shaped_strsL (l : List Str) (ok : Plain l) : SeqAt.shaped (.list (l.map PyData.str)) = true := by
  show (PyData.canLay0 (.list (l.map PyData.str)) && decide ((PyData.list (l.map PyData.str)).depth ≤ 64)) = true
  have h1 : PyData.canLay0 (.list (l.map PyData.str)) = true := canLay_strs l ok
  have h2 : (PyData.list (l.map PyData.str)).depth = 0 + 1 := by
    show PyData.depthAll (l.map PyData.str) + 1 = 0 + 1
    rw [depth_strs]
  rw [h1, h2]
  rfl
theorem eqvAll_strs : ∀ l m : List Str, PyData.eqvAll (l.map PyData.str) (m.map PyData.str) = decide (l = m)
  | [], [] => rfl
  | [], _ :: _ => rfl
  | _ :: _, [] => rfl
  | x :: l, y :: m => by
    show (x == y && PyData.eqvAll (l.map PyData.str) (m.map PyData.str)) = decide (x :: l = y :: m)
    rw [eqvAll_strs l m]
    by_cases h : x = y
    · subst h
      by_cases h2 : l = m
      · subst h2
        simp
      · simp [h2]
    · simp [h]
theorem eqv_strsT (l m : List Str) : PyData.eqv (.tuple (l.map PyData.str)) (.tuple (m.map PyData.str)) = decide (l = m) := eqvAll_strs l m
theorem eqv_strsL (l m : List Str) : PyData.eqv (.list (l.map PyData.str)) (.list (m.map PyData.str)) = decide (l = m) := eqvAll_strs l m
theorem rv_eqT {K : PySem.W.Frag} {H : Hp} {a b : Addr} {l m : List Str} (ol : Plain l) (om : Plain m) (ha : SqT K H a (l.map V.str)) (hb : SqT K H b (m.map V.str)) : RV (rEqD K) (.ref a) (.ref b) H (.bl (decide (l = m))) := fun H1 e _ q =>
  ⟨_, _, .tup (ex_t e ha) (dp_strs l), .tup (ex_t e hb) (dp_strs m), shaped_strsT l ol, shaped_strsT m om, by rw [eqv_strsT]; exact q H1 (Ex.refl H1)⟩
theorem rv_neT {K : PySem.W.Frag} {H : Hp} {a b : Addr} {l m : List Str} (ol : Plain l) (om : Plain m) (ha : SqT K H a (l.map V.str)) (hb : SqT K H b (m.map V.str)) : RV (rNeD K) (.ref a) (.ref b) H (.bl (!decide (l = m))) := fun H1 e _ q =>
  ⟨_, _, .tup (ex_t e ha) (dp_strs l), .tup (ex_t e hb) (dp_strs m), shaped_strsT l ol, shaped_strsT m om, by rw [eqv_strsT]; exact q H1 (Ex.refl H1)⟩
theorem ev_fld {K : PySem.W.Frag} {σ : L2.St} {H : Hp} {ta : TE} {a C dx : Addr} {fs : List (Str × V)} {f : Str} {v : V} (ha : Ev ta σ H (.ref a)) (ho : H a = some (.ins C dx fs)) (hc : Cls K C) (hn : NoAttr K C f) (hl : fs.lookup f = some v) :
    Ev (tFld K ta f) σ H v := fun H1 e _ q => ha H1 e _ fun H2 e2 => ⟨a, C, dx, fs, v, rfl, e2 _ _ (e _ _ ho), hc, hn, hl, q H2 e2⟩
theorem ev_isi {K : PySem.W.Frag} {σ : L2.St} {H : Hp} {ta : TA} {x c : V} {t u : Value} {b : Bool} (h : EvA ta σ H [x, c]) (k : ClsV c u) (ty : ∀ H1, Ex H H1 → TyX K H1 x t) (e : PySem.W.kitOne K t u = some b) : Ev (tCB (rIsi K) ta) σ H (.bl b) := fun H1 e1 _ q =>
  h H1 e1 _ fun H2 e2 => ⟨x, c, t, u, b, rfl, k, ty H2 (e1.trans e2), e, q H2 e2⟩
end
section
open Evl
variable {K : PySem.W.Frag} {σ : L2.St} {H : Hp} {ta tb to te : TE}
theorem ev_adds {x y : Str} (ha : Ev ta σ H (.str x)) (hb : Ev tb σ H (.str y)) (hz : x.length + y.length ≤ sizeLine) : Ev (tOp (fun x y H Q => ∃ i j, x = V.str i ∧ y = V.str j ∧ i.length + j.length ≤ sizeLine ∧ Q (V.str (i ++ j)) H) ta tb) σ H (.str (x ++ y)) :=
  ev_op ha hb fun H1 _ _ q => ⟨x, y, rfl, rfl, hz, q H1 (Ex.refl H1)⟩
theorem ev_join {x : Str} {a : Addr} {l : List Str} (ho : Ev to σ H (.str x)) (he : Ev te σ H (.ref a)) (hl : SqL K H a (l.map V.str) ∨ SqT K H a (l.map V.str)) (hz : (l.map (·.length)).sum + l.length * x.length ≤ 16777216) :
    Ev (tM1 (fun x xs H Q => ∃ a p, ∃ ys : List Str, x = .str a ∧ xs = [.ref p] ∧ (SqL K H p (ys.map V.str) ∨ SqT K H p (ys.map V.str)) ∧ (ys.map (·.length)).sum + ys.length * a.length ≤ 16777216 ∧ Q (.str (Txt.join a ys)) H) to te) σ H (.str (Str.join x l)) := fun H1 e Q q => by
  refine ho H1 e _ fun H2 e2 => ⟨⟨x, rfl⟩, he H2 (e.trans e2) _ fun H3 e3 => ⟨x, a, l, rfl, rfl, hl.imp (ex_l ((e.trans e2).trans e3)) (ex_t ((e.trans e2).trans e3)), hz, ?_⟩⟩
  rw [TL.join_eq]
  exact q H3 (e2.trans e3)
theorem ev_ixT {p : Addr} {xs : List V} {j : Nat} {v : V} (ha : Ev ta σ H (.ref p)) (hb : Ev tb σ H (.int (j : Int))) (hx : SqT K H p xs) (hj : xs[j]? = some v) : Ev (tOp (rIxT K) ta tb) σ H v := ev_op ha hb (rv_ixT hx (atI_nat hj))
end
/-! ### sorted of a list or a tuple of texts -/
section
variable {X : Cx}
def rSortedB (K : PySem.W.Frag) : List V → Hp → VK → Prop := fun vs H Q => ∃ (a : Addr) (xs : List Str), vs = [V.ref a] ∧ (SqL K H a (xs.map V.str) ∨ SqT K H a (xs.map V.str)) ∧ xs.length < 64 ∧ ∀ (ys : List Str) (p : Addr), ys.Perm xs → sortedS ys = true → H p = none → Q (.ref p) (upd H p (.lst (ys.map V.str)))
theorem cr_sortedB : CallR X (.builtin "sorted") (rSortedB X.K) := by
  intro pins s σ H vs us Q I r h
  obtain ⟨a, xs, rfl, hs, h64, q⟩ := h
  rw [Vals.ref1 r]
  obtain ⟨its, T, o, n, rv, hT, ho, hc, hd⟩ : ∃ (its : List Value) (T : String) (o : Obj) (n : Nat), Vals (xs.map V.str) its ∧ (T = "list" ∨ T = "tuple") ∧ s.heap.get? a = some o ∧ o.cls = .type T ∧ o.data = .seq its.toArray n := by
    rcases hs with hs | hs
    · obtain ⟨its, r', pl, _⟩ := I.list hs
      obtain ⟨o, ho, hc, n, hd⟩ := pl.isList
      exact ⟨its, "list", o, n, r', .inl rfl, ho, hc, hd⟩
    · obtain ⟨its, r', ⟨o, ho, hc, n, hd⟩, _⟩ := I.tuple hs
      exact ⟨its, "tuple", o, n, r', .inr rfl, ho, hc, hd⟩
  have hl : its.length = xs.length := by
    have := rv.length
    rw [List.length_map] at this
    exact this.symm
  have hS := rv.strs
  refine Calls.call_function_entry PyProof.Rows.kind_sorted PyProof.Rows.plain_sorted PyProof.Rows.entry_sorted (PyProof.Rows.args_sorted1 _) ?_
  unfold Builtin.«sorted»
  refine wpAny_bind (m := checkCount "sorted" 1 1 _) (wpAny_pure ?_)
  refine wpAny_bind (wpAny_collect_seq a hT ho hc hd (fun h' hk => ?_) (by rw [List.size_toArray, hl, sizeLine_eq]; omega))
  have I1 : Inv X pins σ H { s with heap := h' } := I.kept (t' := s.toks) hk
  show wpAny _ _ _ _ _ { s with heap := h' }
  have eT : its.toArray.toList = its := by simp
  rw [eT]
  refine wpAny_bind (wpAny_newList ?_ (by rw [hl, sizeLine_eq]; omega))
  have hoL : (h'.push (seqObj "list" its.toArray 0)).get? h'.objs.size = some (seqObj "list" its.toArray 0) := Heap.get?_push_size _ rfl
  show wpAny _ _ _ _ _ { s with heap := h'.push (seqObj "list" its.toArray 0) }
  refine wpAny_bind (wpAny_holding (wpAny_call_entry PyProof.Rows.slot_list_sort ⟨_, hoL, rfl⟩ PyProof.Rows.entry_list_sort
    (list_sort_treeK strKind_oneLt (s := { s with heap := h'.push (seqObj "list" its.toArray 0) }) hoL hS.keysOf (fun v₁ v₂ rest e => keyKind_strs (by rw [← e]; exact hS)) (by rw [hl]; exact h64) fun st' hp hs => ⟨_, rfl, ?_⟩)
    (PyProof.Rows.args_list_sort _)))
  obtain ⟨ys, g1, g2, g3⟩ := sorted_out_str hS hp hs
  obtain ⟨e', he'⟩ := PyProof.Rows.sortedHeap_at (vs := its) (out := (arrOf st').map (·.2)) hoL
  have hlen : (ys.map V.str).length ≤ sizeLine := by
    rw [List.length_map, g2.length_eq]
    exact Nat.le_trans (Nat.le_of_lt h64) (by decide)
  refine wpAny_pure ⟨_, rfl, .ref h'.objs.size, upd H h'.objs.size (.lst (ys.map V.str)), I1.laid (t' := s.toks) (fun b u e => ?_) (Nat.le_refl _)
    (show ObjOk X.prog X.w _ _ _ (.lst (ys.map V.str)) from ⟨hlen, ((arrOf st').map (·.2)).toList, e', vals_of_strs g1, by rw [Array.toArray_toList]; exact he'⟩), rfl, q ys _ g2 g3 (I1.hok.fresh (Nat.le_refl _))⟩
  have hb : b < h'.objs.size := Heap.lt_size e
  rw [PyProof.Rows.sortedHeap_old (Nat.ne_of_lt hb) (by rw [size_push']; exact Nat.lt_succ_of_lt hb)]
  exact Heap.get?_push_of_some _ e
end
end Ov

namespace Ov
open PySem PySem.Spec PyProof.Rows L2
/-! ### t[::-1] of a tuple, the step told by an expression -/
section
variable {prog : Program} {w : World} {A : Around} {E : Value → Shared → Prop} {s : Shared}
theorem cut_back {sl : Addr} {vl vu vs : Value} {n : Nat} {Q : Int × Int × Nat → Shared → Prop} (hs : s.heap.IsSliceOf sl vl vu vs) (pl : IsPart vl none) (pu : IsPart vu none) (ps : IsPart vs (some (-1))) (h : Q ((n : Int) - 1, -1, n) s) :
    wpAny (model prog w) A (Builtin.Slice.sliceApplied (.ref sl) (pure (n : Int))) Q E s := by
  obtain ⟨os, hos, hcs, hds⟩ := id hs
  unfold Builtin.Slice.sliceApplied Builtin.Slice.sliceFields
  refine wpAny_bind (wpAny_bind (wpAny_field hos hds (x := vl) rfl (wpAny_bind (wpAny_field hos hds (x := vu) rfl (wpAny_bind (wpAny_field hos hds (x := vs) rfl (wpAny_pure ?_)))))))
  refine wpAny_bind (HT.slicePart_ ps ?_)
  show wpAny _ _ (if ((-1 : Int) == 0) = true then _ else _) _ _ s
  rw [if_neg (by decide)]
  refine wpAny_bind (HT.slicePart_ pl (wpAny_bind (HT.slicePart_ pu (wpAny_bind (wpAny_pure ?_)))))
  have e1 : Builtin.Slice.sliceAdjust none none (-1) (n : Int) = ((n : Int) - 1, -1) := rfl
  have e2 : Builtin.Slice.slicePlaces ((n : Int) - 1) (-1) (-1) = n := by
    unfold Builtin.Slice.slicePlaces
    rw [if_neg (by decide)]
    by_cases h0 : n = 0
    · subst h0
      decide
    · rw [if_pos (by omega)]
      have e3 : (-(-1) : Int) = 1 := by decide
      rw [e3, Int.ediv_one]
      omega
  show wpAny _ _ (match Builtin.Slice.sliceAdjust none none (-1) (n : Int) with | (lo, hi) => pure (lo, (-1 : Int), Builtin.Slice.slicePlaces lo hi (-1))) _ _ s
  rw [e1]
  show wpAny _ _ (pure ((n : Int) - 1, (-1 : Int), Builtin.Slice.slicePlaces ((n : Int) - 1) (-1) (-1))) _ _ s
  rw [e2]
  exact wpAny_pure h
theorem fm_range {α : Type} {f : Nat → Option α} {g : Nat → α} : ∀ {n : Nat}, (∀ m, m < n → f m = some (g m)) → (List.range n).filterMap f = (List.range n).map g
  | 0, _ => rfl
  | n + 1, h => by
    rw [List.range_succ, List.filterMap_append, List.map_append, fm_range fun m hm => h m (by omega)]
    congr 1
    show List.filterMap f [n] = [g n]
    rw [List.filterMap_cons, h n (by omega)]
    rfl
theorem pick_back (xs : Array Value) : ((List.range xs.size).filterMap fun (m : Nat) => xs[((xs.size : Int) - 1 + (m : Int) * -1).toNat]?).toArray = xs.toList.reverse.toArray := by
  have e : (List.range xs.size).filterMap (fun (m : Nat) => xs[((xs.size : Int) - 1 + (m : Int) * -1).toNat]?) = (List.range xs.size).map fun m => (xs.toList.reverse)[m]?.getD .none := by
    refine fm_range fun m hlt => ?_
    have e1 : ((xs.size : Int) - 1 + (m : Int) * -1).toNat = xs.size - 1 - m := by omega
    rw [e1]
    have h1 : xs.size - 1 - m < xs.size := by omega
    have h2 : m < xs.toList.reverse.length := by rw [List.length_reverse, Array.length_toList]; exact hlt
    rw [Array.getElem?_eq_getElem h1]
    show some xs[xs.size - 1 - m] = some (xs.toList.reverse[m]?.getD .none)
    rw [List.getElem?_eq_getElem h2, Option.getD_some, List.getElem_reverse]
    simp
  rw [e]
  congr 1
  refine List.ext_getElem? fun i => ?_
  rw [List.getElem?_map]
  by_cases hi : i < xs.size
  · have h2 : i < xs.toList.reverse.length := by rw [List.length_reverse, Array.length_toList]; exact hi
    rw [List.getElem?_range hi]
    show some (xs.toList.reverse[i]?.getD .none) = _
    rw [List.getElem?_eq_getElem h2, Option.getD_some]
  · rw [List.getElem?_eq_none (by rw [List.length_range]; omega), List.getElem?_eq_none (by rw [List.length_reverse, Array.length_toList]; omega)]
    rfl
theorem getItem_back {t sl : Addr} {items : Array Value} {vl vu vs : Value} {Q : Value → Shared → Prop} (ht : IsTup s.heap t items) (hs : s.heap.IsSliceOf sl vl vu vs) (pl : IsPart vl none) (pu : IsPart vu none) (ps : IsPart vs (some (-1)))
    (h : Q (.ref s.heap.objs.size) { s with heap := s.heap.push { cls := .type "tuple", data := .seq items.toList.reverse.toArray } }) (hsz : items.size ≤ sizeLine) : wpAny (model prog w) A (getItem (.ref t) (.ref sl)) Q E s := by
  obtain ⟨os, hos, hcs, hds⟩ := id hs
  have hTs : s.TypeIs (.ref sl) "slice" := ⟨os, hos, hcs⟩
  have hok : sizeOk (.seq items.toList.reverse.toArray) := by
    show items.toList.reverse.toArray.size ≤ sizeLine
    rw [List.size_toArray, List.length_reverse, Array.length_toList]
    exact hsz
  unfold getItem
  try with_reducible refine wpAny_holding ?_
  first | refine wpAny_bind (wpAny_pure ?_) | skip
  refine wpAny_bind (wpAny_sequenceKey ht.typeIs (by decide) ?_)
  refine wpAny_bind (wpAny_callSpecial?_slot (name := Str.ofString "__getitem__") ht.typeIs PyProof.Rows.slot_tuple_getitem
    (wpAny_call_entry PyProof.Rows.slot_tuple_getitem ht.typeIs PyProof.Rows.entry_tuple_getitem ?_ (PyProof.Rows.args_tuple_getitem _ _)))
  show wpAny _ _ (Builtin.Tuple.tupleItemsOf (.ref t) >>= _) _ _ s
  refine wpAny_bind (tupleItemsOf_ ht (wpAny_bind (wpAny_typeOf hTs ?_)))
  rw [if_pos (by decide)]
  refine wpAny_bind (cut_back hs pl pu ps ?_)
  have hno : ¬ ((((items.size : Int) - 1) == 0 && (-1 : Int) == 1 && items.size == items.size) = true) := by
    intro q
    rw [Bool.and_eq_true, Bool.and_eq_true] at q
    exact absurd q.1.2 (by decide)
  show wpAny _ _ (if (((items.size : Int) - 1) == 0 && (-1 : Int) == 1 && items.size == items.size) = true then _ else _) _ _ s
  rw [if_neg hno, pick_back]
  first
    | exact wpAny_bind (m := Builtin.Tuple.tupleExact _) (wpAny_newObj_type (wpAny_pure ⟨_, rfl, wpAny_pure h⟩) hok)
    | exact wpAny_bind (m := Builtin.Tuple.tupleExact _) (wpAny_newObj_type (wpAny_bind (wpAny_pure (wpAny_pure ⟨_, rfl, wpAny_pure h⟩))) hok)
    | exact wpAny_bind (wpAny_bind (m := Builtin.Tuple.tupleExact _) (wpAny_newObj_type (wpAny_pure (wpAny_pure ⟨_, rfl, wpAny_pure h⟩)) hok))
    | exact wpAny_bind (wpAny_bind (m := Builtin.Tuple.tupleExact _) (wpAny_newObj_type (wpAny_pure ⟨_, rfl, wpAny_pure h⟩) hok))
end
section
variable {X : Cx}
def tBackT (K : PySem.W.Frag) (te ts : TE) : TE := fun σ H Q => te σ H fun x H1 => ts σ H1 fun y H2 => ∃ i, y = .int i ∧ some i = some (-1 : Int) ∧ ∃ a xs, x = .ref a ∧ SqT K H2 a xs ∧ ∀ p, H2 p = none → Q (.ref p) (upd H2 p (.tup xs.reverse))
theorem pe_backT {e st : Expr} {te ts : TE} {p3 pos : Pos} (he : PE X e te) (hs : PE X st ts) (hty : ∀ v i, subscripted (.Slice none none (some st) p3) false v i = operate [v, i] (getItem v i) := by intro _ _; rfl) :
    PE X (.Subscript e (.Slice none none (some st) p3) pos) (tBackT X.K te ts) := by
  refine ⟨fun pins s σ H Q I h => ?_⟩
  refine Subscript_ (thn (he.run pins s σ H _ I h) fun v s1 ⟨x, H1, I1, r1, q1⟩ => ?_)
  refine wpAny_Slice (thn (po_none.run pins s1 σ H1 (fun o H2 => o = none ∧ H2 = H1) I1 ⟨rfl, rfl⟩) fun vl s2 ⟨l, H2, I2, pl, el, e2⟩ => ?_)
  subst el e2
  refine thn (po_none.run pins s2 σ H2 (fun o H3 => o = none ∧ H3 = H2) I2 ⟨rfl, rfl⟩) fun vu s3 ⟨u, H3, I3, pu, eu, e3⟩ => ?_
  subst eu e3
  refine thn ((po_some hs).run pins s3 σ H3 (fun o H4 => o = some (-1) ∧ ∃ a xs, x = .ref a ∧ SqT X.K H4 a xs ∧ ∀ p, H4 p = none → Q (.ref p) (upd H4 p (.tup xs.reverse))) I3 q1) fun vs s4 ⟨o, H4, I4, ps, eo, a, xs, ex, hx, q⟩ => ?_
  subst eo ex
  cases r1
  have I5 : Inv X pins σ H4 { s4 with heap := s4.heap.push { cls := .type "slice", data := .fields #[vl, vu, vs] } } := I4.kept (t' := s4.toks) fun b ob q => Heap.get?_push_of_some _ q
  obtain ⟨its, r, ht, hz⟩ := I5.tuple hx
  have hlen := r.length
  refine tail_any (ops := [.ref a, .ref s4.heap.objs.size]) ht.typeIs (PyProof.Rows.slot_tuple_getitem.lookup) ?_ (hty _ _)
  refine getItem_back ht (Heap.IsSliceOf.new _ vl vu vs) pl pu ps ?_ (by rw [List.size_toArray]; omega)
  refine ⟨.ref _, _, I5.laid (t' := s4.toks) (o := .tup xs.reverse) (fun b ob q => Heap.get?_push_of_some _ q) (Nat.le_refl _) ?_, rfl, q _ (I5.hok.fresh (Nat.le_refl _))⟩
  exact ⟨by rw [List.length_reverse]; exact hz, _, r.reverse, IsTup.new _ _⟩
end
end Ov

namespace Ov
open PySem PySem.Spec PyProof.Rows L2
open Evl (pss_cut tCut)

/-! ### the text by places -/
def topS (i : Nat) : Stmt := PySem.Challenge.pw_overtaken_k02_rules_made.main.body.getD i (.Pass ⟨0, 0, 0, 0⟩)
abbrev sDeal : Stmt := topS 20
theorem scDeal : FnScope ["_law_script", "_law_base", "_law_cell", "_law_cells", "_law_mixed_here"] ["_law_script", "_law_base"] (defScope sDeal) := ⟨rfl, rfl, rfl, by decide +kernel, rfl, by decide +kernel, by decide +kernel⟩
abbrev sDraw : Stmt := topS 21
theorem scDraw : FnScope ["_law_deal_here", "_law_many", "_law_left"] ["_law_deal_here", "_law_many"] (defScope sDraw) := ⟨rfl, rfl, rfl, by decide +kernel, rfl, by decide +kernel, by decide +kernel⟩

/-! ### heaps: all but two places stays -/
def Kp (a b : Addr) (H H' : Hp) : Prop := ∀ x o, x ≠ a → x ≠ b → H x = some o → H' x = some o
theorem Kp.refl (a b : Addr) (H : Hp) : Kp a b H H := fun _ _ _ _ h => h
theorem Kp.trans {a b : Addr} {H H1 H2 : Hp} (x : Kp a b H H1) (y : Kp a b H1 H2) : Kp a b H H2 := fun c o h1 h2 h => y c o h1 h2 (x c o h1 h2 h)
theorem Kp.at_a {a b : Addr} {H : Hp} {o : HO} : Kp a b H (upd H a o) := fun c u h1 _ h => by rw [upd_ne h1]; exact h
theorem Kp.at_b {a b : Addr} {H : Hp} {o : HO} : Kp a b H (upd H b o) := fun c u _ h2 h => by rw [upd_ne h2]; exact h
theorem Kp.new {a b : Addr} {H : Hp} {p : Addr} {o : HO} (h : H p = none) : Kp a b H (upd H p o) := fun c u _ _ e => by rw [upd_ne (ne_of_none e h)]; exact e
theorem Kp.same {a b : Addr} {H H' : Hp} (h : Same H H') : Kp a b H H' := fun c u _ _ e => h c u e

/-! ### a deal: its great cells, its mixed number -/
structure Deal (H : Hp) (a b : Addr) : Prop where
  ex : ∃ (ns : List Int) (m : Int), H a = some (.lst [.ref b, .int m]) ∧ H b = some (.lst (ns.map V.int)) ∧ ns.length ≤ 63 ∧ 0 ≤ m ∧ m < 2147483647
theorem Deal.ne {H : Hp} {a b : Addr} (D : Deal H a b) : a ≠ b := by
  obtain ⟨ns, m, h1, h2, _⟩ := D.ex
  refine ne_of h1 h2 fun z => ?_
  cases ns with
  | nil => cases z
  | cons n r => cases z
theorem Deal.is {H : Hp} {a b : Addr} (D : Deal H a b) : (H a ≠ none) ∧ (H b ≠ none) := by
  obtain ⟨ns, m, h1, h2, _⟩ := D.ex
  exact ⟨by rw [h1]; exact fun z => (by cases z), by rw [h2]; exact fun z => (by cases z)⟩
theorem Deal.nea {H : Hp} {a b p : Addr} (D : Deal H a b) (h : H p = none) : p ≠ a := fun z => D.is.1 (by rw [← z]; exact h)
theorem Deal.neb {H : Hp} {a b p : Addr} (D : Deal H a b) (h : H p = none) : p ≠ b := fun z => D.is.2 (by rw [← z]; exact h)
theorem Deal.new {H : Hp} {a b p : Addr} {o : HO} (D : Deal H a b) (h : H p = none) : Deal (upd H p o) a b := by
  have na := D.nea h
  have nb := D.neb h
  obtain ⟨ns, m, h1, h2, r⟩ := D.ex
  exact ⟨ns, m, by rw [upd_ne na.symm]; exact h1, by rw [upd_ne nb.symm]; exact h2, r⟩
theorem Deal.keep {H H' : Hp} {a b : Addr} (D : Deal H a b) (s : Same H H') : Deal H' a b := by
  obtain ⟨ns, m, h1, h2, r⟩ := D.ex
  exact ⟨ns, m, s _ _ h1, s _ _ h2, r⟩
/-- a new object behind a drawing is new before it -/
theorem Kp.none {H H' : Hp} {a b p : Addr} (k : Kp a b H H') (D : Deal H' a b) (h : H' p = none) : H p = none := by
  cases e : H p with
  | none => rfl
  | some o =>
    have q := k p o (D.nea h) (D.neb h) e
    rw [h] at q
    cases q

theorem same_upd {H : Hp} {p : Addr} {o : HO} (h : H p = none) : Same H (upd H p o) := fun b x e => by
  rw [upd_ne (ne_of_none e h)]
  exact e
/-- a place that wasn't tracked may be written again -/
theorem _root_.L2.Same.put {H H' : Hp} {p : Addr} {o : HO} (s : Same H H') (h : H p = none) : Same H (upd H' p o) := fun b x e => by
  rw [upd_ne (ne_of_none e h)]
  exact s b x e
theorem get_ints {ns : List Int} {i : Nat} {x : V} (h : (ns.map V.int)[i]? = some x) : ∃ n, x = .int n := by
  rw [List.getElem?_map] at h
  cases e : ns[i]? with
  | none =>
    rw [e] at h
    cases h
  | some n =>
    rw [e] at h
    exact ⟨n, (Option.some.inj h).symm⟩
theorem cut_ints (ns : List Int) (lo hi : Option Int) : ∃ cs : List Int, cutV (ns.map V.int) lo hi = cs.map V.int ∧ cs.length ≤ ns.length := by
  refine ⟨(ns.drop (HT.sIx ns.length 0 lo)).take (HT.sIx ns.length ns.length hi - HT.sIx ns.length 0 lo), ?_, ?_⟩
  · unfold cutV
    rw [List.length_map, ← List.map_drop, ← List.map_take]
  · rw [List.length_take, List.length_drop]
    omega
theorem fmod_lt {x k : Int} (h : 0 < k) : 0 ≤ x.fmod k ∧ x.fmod k < k := by
  rw [Int.fmod_eq_emod_of_nonneg x (Int.le_of_lt h)]
  exact ⟨Int.emod_nonneg x (by omega), Int.emod_lt_of_pos x h⟩

def spDraw : Sp := fun vs H Q _ => ∃ (a b : Addr) (k : Int), vs = [.ref a, .int k] ∧ Deal H a b ∧ 0 < k ∧ k < 1000000 ∧
  ∀ r H', 0 ≤ r → r < k → Kp a b H H' → Deal H' a b → Q (.int r) H'

section
variable {P : Program} {w : World} {K : PySem.W.Frag} {mg : Str → Option Value} {base : Heap}
theorem dp_ints {K : PySem.W.Frag} {H : Hp} : ∀ ns : List Int, DpAll K H (ns.map V.int) (ns.map PyData.int)
  | [] => .nil
  | n :: r => .cons (.int n) (dp_ints r)
theorem canLay_ints : ∀ ns : List Int, PyData.canLayAll0 (ns.map PyData.int) = true
  | [] => rfl
  | n :: r => by
    show (PyData.canLay0 (.int n) && PyData.canLayAll0 (r.map PyData.int)) = true
    rw [canLay_ints r]
    rfl
theorem depth_ints : ∀ ns : List Int, PyData.depthAll (ns.map PyData.int) = 0
  | [] => rfl
  | n :: r => by
    show max (PyData.depth (.int n)) (PyData.depthAll (r.map PyData.int)) = 0
    rw [depth_ints r]
    rfl
theorem shaped_ints (ns : List Int) : SeqAt.shaped (.list (ns.map PyData.int)) = true := by
  show (PyData.canLay0 (.list (ns.map PyData.int)) && decide ((PyData.list (ns.map PyData.int)).depth ≤ 64)) = true
  have h1 : PyData.canLay0 (.list (ns.map PyData.int)) = true := canLay_ints ns
  have h2 : (PyData.list (ns.map PyData.int)).depth = 0 + 1 := by
    show PyData.depthAll (ns.map PyData.int) + 1 = 0 + 1
    rw [depth_ints]
  rw [h1, h2]
  rfl
theorem eqv_nil (ns : List Int) : PyData.eqv (.list (ns.map PyData.int)) (.list []) = ns.isEmpty := by
  cases ns with
  | nil => rfl
  | cons n r => rfl
theorem atI_lastInt (ns : List Int) (n : Int) : atI ((ns ++ [n]).map V.int) (-1) = some (.int n) := by
  rw [List.map_append]
  exact atI_last _ _
theorem ok_draw {f : Addr} {fd : FuncData} (F : Fun K "_law_draw" "_law_draw" sDraw f fd) (nInt : mg "int" = none) : FnOk P w K mg base CX0 1 f fd ["_law_deal_here", "_law_many"] spDraw := by
  refine F.ok scDraw (fun vs H Q E h => ?_) (fun cdv A outer s H vs Q E hr h => ?_)
  · obtain ⟨a, b, k, rfl, _⟩ := h
    rfl
  · obtain ⟨a, b, k, rfl, D, k0, k1, q⟩ := h
    refine ⟨_, pss_cut (ps_while PassesOwn.never (PW.pt (pw_and (pt_cmpR (op_neD hr.units) (pe_ix ix_list (pv 0) pe_int (fun _ _ => rfl)) (pe_lst pa_nil) (nomark _)) (pw_and1 (pt_cmpR op_eq (pe_ix ix_list (pe_ix ix_list (pv 0) pe_int (fun _ _ => rfl)) (pe_un un_neg pe_int) (fun _ _ => rfl)) pe_int (nomark _))))) (pss_one (ps_expr (pe_bm0 PySem.F.plainAttrs_list PySem.F.slot_list_pop PySem.F.type_list_pop mt_pop (pe_ix ix_list (pv 0) pe_int (fun _ _ => rfl))))))
      (pss_cons (ps_if (pt_cmpR (op_neD hr.units) (pe_ix ix_list (pv 0) pe_int (fun _ _ => rfl)) (pe_lst pa_nil) (nomark _)) (pss_cons (ps_set (i := 2) scDraw.nd rfl (.inl rfl) (pe_bm0 PySem.F.plainAttrs_list PySem.F.slot_list_pop PySem.F.type_list_pop mt_pop (pe_ix ix_list (pv 0) pe_int (fun _ _ => rfl))))
      (pss_cons (ps_expr (pe_bm PySem.F.plainAttrs_list PySem.F.slot_list_append PySem.F.type_list_append mt_append (pe_ix ix_list (pv 0) pe_int (fun _ _ => rfl)) (pa_cons (pe_op op_fdivN (pv 2) (pv 1)) pa_nil)))
      (pss_one (ps_ret (pe_op op_modN (pe_callTy call_int1 (by rfl) nInt (by decide +kernel) (pa_cons (pv 2) pa_nil)) (pv 1)))))) pss_nil)
      (pss_cons (ps_asg (pe_op op_modN (pe_callTy call_int1 (by rfl) nInt (by decide +kernel) (pa_cons (pe_op op_add (pe_op op_mul (pe_ix ix_list (pv 0) pe_int (fun _ _ => rfl)) pe_int) pe_int) pa_nil)) pe_int) (pg_sub (pv 0) pe_int set_list))
      (pss_one (ps_ret (pe_op op_modN (pe_callTy call_int1 (by rfl) nInt (by decide +kernel) (pa_cons (pe_op op_fdivN (pe_ix ix_list (pv 0) pe_int (fun _ _ => rfl)) pe_int) pa_nil)) (pv 1)))))), ?_⟩
    refine ⟨fun σ H' => σ = [some (.ref a), some (.int k), none] ∧ Kp a b H H' ∧ Deal H' a b, ?_, ?_⟩
    -- the while: zeros at the end are dropped
    · refine ⟨fun m σ H' => ∃ (ns : List Int) (mm : Int), σ = [some (.ref a), some (.int k), none] ∧ m = ns.length ∧ Kp a b H H' ∧ H' a = some (.lst [.ref b, .int mm]) ∧ H' b = some (.lst (ns.map V.int)) ∧ ns.length ≤ 63 ∧ 0 ≤ mm ∧ mm < 2147483647,
        ?_, ?_⟩
      · obtain ⟨ns, mm, h1, h2, h3, h4, h5⟩ := D.ex
        exact ⟨ns.length, ns, mm, rfl, rfl, Kp.refl _ _ _, h1, h2, h3, h4, h5⟩
      · rintro m σ H1 ⟨ns, mm, rfl, rfl, kp, h1, h2, h3, h4, h5⟩
        refine ⟨_, rfl, _, _, _, _, rfl, rfl, SqL.of h1, rfl, Nat.zero_le _, fun p np => ?_⟩
        have nb : b ≠ p := ne_of_none h2 np
        have na : a ≠ p := ne_of_none h1 np
        refine ⟨_, .list [], .lst (SqL.of (by rw [upd_ne nb]; exact h2)) (dp_ints ns), .lst (SqL.of upd_same) .nil, shaped_ints ns, shaped_ints [], _, rfl, ?_⟩
        rw [eqv_nil]
        have kp2 : Kp a b H (upd H1 p (.lst [])) := kp.trans (Kp.new np)
        have a2 : (upd H1 p (.lst [])) a = some (.lst [.ref b, .int mm]) := by rw [upd_ne na]; exact h1
        have b2 : (upd H1 p (.lst [])) b = some (.lst (ns.map V.int)) := by rw [upd_ne nb]; exact h2
        rcases List.eq_nil_or_concat ns with rfl | ⟨ns', n, rfl⟩
        · exact iteF (iteF ⟨rfl, kp2, ⟨[], mm, a2, b2, h3, h4, h5⟩⟩)
        · rw [List.concat_eq_append] at b2 h3 ⊢
          rw [show (ns' ++ [n]).isEmpty = false by simp]
          refine iteT ?_
          refine ⟨_, rfl, _, _, _, _, rfl, rfl, SqL.of a2, rfl, 1, rfl, _, _, _, _, rfl, rfl, SqL.of b2, atI_lastInt ns' n, rfl, _, rfl, ?_⟩
          refine ite2 (fun _ => ?_) (fun _ => ?_)
          · refine ⟨fun σ H' => ∃ (mm : Int), σ = [some (.ref a), some (.int k), none] ∧ Kp a b H H' ∧ H' a = some (.lst [.ref b, .int mm]) ∧ H' b = some (.lst (ns'.map V.int)) ∧ ns'.length ≤ 63 ∧ 0 ≤ mm ∧ mm < 2147483647,
              fun σ' H' ⟨mm, e1, e2, e3, e4, e5, e6⟩ => ⟨ns'.length, by simp, ns', mm, e1, rfl, e2, e3, e4, e5, e6⟩, ?_⟩
            refine ⟨_, rfl, _, _, _, _, rfl, rfl, SqL.of a2, rfl, .inl ⟨rfl, _, SqL.of b2⟩, b, _, .int n, rfl, rfl, b2, ?_, ?_⟩
            · rw [List.map_append, List.length_append]
              show (List.map V.int ns' ++ [V.int n])[(List.map V.int ns').length + 1 - 1]? = some (V.int n)
              simp
            · refine ⟨mm, rfl, kp2.trans Kp.at_b, ?_, ?_, ?_, h4, h5⟩
              · rw [upd_ne D.ne]
                exact a2
              · rw [upd_same, List.map_append]
                show some (HO.lst (List.map V.int ns' ++ [V.int n]).dropLast) = _
                rw [List.dropLast_concat]
              · rw [List.length_append, List.length_singleton] at h3
                omega
          · exact ⟨rfl, kp2, ⟨ns' ++ [n], mm, a2, b2, h3, h4, h5⟩⟩
    · rintro σ H1 ⟨rfl, kp, D1⟩
      obtain ⟨ns, mm, h1, h2, h3, h4, h5⟩ := D1.ex
      -- if deal[0] != []
      refine ⟨_, rfl, _, _, _, _, rfl, rfl, SqL.of h1, rfl, Nat.zero_le _, fun p np => ?_⟩
      have nb : b ≠ p := ne_of_none h2 np
      have na : a ≠ p := ne_of_none h1 np
      refine ⟨_, .list [], .lst (SqL.of (by rw [upd_ne nb]; exact h2)) (dp_ints ns), .lst (SqL.of upd_same) .nil, shaped_ints ns, shaped_ints [], _, rfl, ?_⟩
      rw [eqv_nil]
      have kp2 : Kp a b H (upd H1 p (.lst [])) := kp.trans (Kp.new np)
      have a2 : (upd H1 p (.lst [])) a = some (.lst [.ref b, .int mm]) := by rw [upd_ne na]; exact h1
      have b2 : (upd H1 p (.lst [])) b = some (.lst (ns.map V.int)) := by rw [upd_ne nb]; exact h2
      rcases List.eq_nil_or_concat ns with rfl | ⟨ns', n, rfl⟩
      · refine iteF ?_
        -- deal[1] = int(deal[1] * 69621 + 40961) % 2147483647
        refine ⟨_, rfl, _, _, _, _, rfl, rfl, SqL.of a2, rfl, _, _, rfl, rfl, .inl (by omega), _, _, rfl, rfl, .inl ⟨_, rfl, _, _, rfl, rfl, (by show (2147483647 : Int) ≠ 0; decide), ?_⟩⟩
        refine ⟨_, rfl, a, _, 1, 1, rfl, rfl, a2, rfl, ?_⟩
        -- return int(deal[1] // 16) % many
        obtain ⟨m0, m1⟩ := fmod_lt (x := mm * 69621 + 40961) (k := 2147483647) (by decide)
        refine ⟨_, rfl, _, _, _, _, rfl, rfl, SqL.of upd_same, rfl, _, _, rfl, rfl, ⟨by show (16 : Int) ≠ 0; decide, by show (16 : Int).natAbs < 1073741824; decide⟩, .inl ⟨_, rfl, _, rfl, _, _, rfl, rfl, by omega, ?_⟩⟩
        obtain ⟨r0, r1⟩ := fmod_lt (x := ((mm * 69621 + 40961).fmod 2147483647).fdiv 16) k0
        exact q _ _ r0 r1 (kp2.trans Kp.at_a) ⟨[], _, upd_same, by rw [upd_ne D.ne.symm]; exact b2, h3, m0, m1⟩
      · rw [List.concat_eq_append] at b2 h3 ⊢
        rw [show (ns' ++ [n]).isEmpty = false by simp]
        refine iteT ?_
        refine ⟨_, rfl, _, _, _, _, rfl, rfl, SqL.of a2, rfl, .inl ⟨rfl, _, SqL.of b2⟩, b, _, .int n, rfl, rfl, b2, ?_, ?_⟩
        · rw [List.map_append, List.length_append]
          show (List.map V.int ns' ++ [V.int n])[(List.map V.int ns').length + 1 - 1]? = some (V.int n)
          simp
        · have b3 : upd (upd H1 p (.lst [])) b (.lst (List.map V.int (ns' ++ [n])).dropLast) = upd (upd H1 p (.lst [])) b (.lst (ns'.map V.int)) := by
            rw [List.map_append]
            show upd _ b (.lst (List.map V.int ns' ++ [V.int n]).dropLast) = _
            rw [List.dropLast_concat]
          rw [b3]
          have a3 : (upd (upd H1 p (.lst [])) b (.lst (ns'.map V.int))) a = some (.lst [.ref b, .int mm]) := by rw [upd_ne D.ne]; exact a2
          refine ⟨_, rfl, _, _, _, _, rfl, rfl, SqL.of a3, rfl, .inl ⟨rfl, _, SqL.of upd_same⟩, _, rfl, _, rfl, _, _, rfl, rfl, ⟨by omega, by omega⟩, b, _, _, rfl, rfl, upd_same, ?_, ?_⟩
          · rw [List.length_map]
            rw [List.length_append, List.length_singleton] at h3
            exact small1000 (by omega)
          · refine ⟨_, rfl, .inl ⟨_, rfl, _, rfl, _, _, rfl, rfl, by omega, ?_⟩⟩
            obtain ⟨r0, r1⟩ := fmod_lt (x := n) k0
            refine q _ _ r0 r1 ((kp2.trans Kp.at_b).trans Kp.at_b) ⟨ns' ++ [n.fdiv k], mm, ?_, ?_, ?_, h4, h5⟩
            · rw [upd_ne D.ne]
              exact a3
            · rw [upd_same, List.map_append]
              rfl
            · rw [List.length_append] at h3 ⊢
              exact h3

/-! ### _law_deal -/
structure TxB (mg : Str → Option Value) : Prop where
  n_int : mg "int" = none
  n_abs : mg "abs" = none
  n_len : mg "len" = none
  n_range : mg "range" = none
  n_max : mg "max" = none
  n_min : mg "min" = none
  n_list : mg "list" = none
  n_tuple : mg "tuple" = none
def spDeal (K : PySem.W.Frag) : Sp := fun vs H Q _ => ∃ (s : Addr) (ns : List Int) (k : Nat), vs = [.ref s, .int (k : Int)] ∧ SqL K H s (ns.map V.int) ∧ ns.length ≤ 63 ∧ k ≤ 60 ∧
  ∀ (a b : Addr) (H' : Hp), Same H H' → H a = none → H b = none → Deal H' a b → Q (.ref a) H'
theorem ok_deal {f : Addr} {fd : FuncData} (F : Fun K "_law_deal" "_law_deal" sDeal f fd) (T : TxB mg) : FnOk P w K mg base CX0 1 f fd ["_law_script", "_law_base"] (spDeal K) := by
  refine F.ok scDeal (fun vs H Q E h => ?_) (fun cdv A outer s H vs Q E hr h => ?_)
  · obtain ⟨a, ns, k, rfl, _⟩ := h
    rfl
  · obtain ⟨sa, ns, k, rfl, hS, hlen, hk, q⟩ := h
    refine ⟨_, pss_cons (ps_setLc (i := 3) (own := [("_law_cell", 2)]) (g := gName 2) (tt := tYes) rfl scDeal.nd rfl rfl (sw_true rfl rfl rfl (by decide +kernel)) (pi_list (pe_slice sl_list (pv 0) (po_some (pv 1)) (po_some pe_int))) (blkOk_by (own := [("_law_cell", 2)]) (N := ["_law_script", "_law_base", "_law_cell", "_law_cells", "_law_mixed_here"]) (sc := defScope sDeal) (by decide +kernel)) (fun _ _ _ _ _ => (pg_name (i := 2) scDeal.nd rfl (Or.inl rfl))) (fun _ _ _ _ _ => pts_nil) (fun _ _ _ _ _ => (pe_callB call_abs (by rfl) T.n_abs (by decide +kernel) (pa_cons (pv 2) pa_nil))))
      (pss_cons (ps_set (i := 4) scDeal.nd rfl (.inl rfl) (pe_op op_add pe_int (pe_op op_mul pe_int (pv 1))))
      (pss_cut (ps_for PassesOwn.never rfl (pi_list (pv 3)) (pg_name (i := 2) scDeal.nd rfl (Or.inl rfl)) (pss_one (ps_set (i := 4) scDeal.nd rfl (.inl rfl) (pe_op op_modN (pe_callTy call_int1 (by rfl) T.n_int (by decide +kernel) (pa_cons (pe_op op_add (pe_op op_mul (pv 4) pe_int) (pe_op op_modN (pe_callTy call_int1 (by rfl) T.n_int (by decide +kernel) (pa_cons (pv 2) pa_nil)) pe_int)) pa_nil)) pe_int))))
      (pss_one (ps_ret (pe_lst (pa_cons (pe_revL (pe_lc (own := [("_law_cell", 2)]) (g := gName 2) rfl scDeal.nd (pi_list (pv 3)) (blkOk_by (own := [("_law_cell", 2)]) (N := ["_law_script", "_law_base", "_law_cell", "_law_cells", "_law_mixed_here"]) (sc := defScope sDeal) (by decide +kernel)) (fun _ _ _ _ _ => (pg_name (i := 2) scDeal.nd rfl (Or.inl rfl))) (fun _ _ _ _ _ => (pts_one (pt_cmpR op_ge (pv 2) (pe_op op_pow pe_int pe_int) (nomark _)))) (fun _ _ _ _ _ => (pv 2)))) (pa_cons (pv 4) pa_nil))))))), ?_⟩
    obtain ⟨cs, ec, lc⟩ := cut_ints ns (some (k : Int)) (some 63)
    refine ⟨_, rfl, _, rfl, _, rfl, _, rfl, sa, _, rfl, hS, fun p np => ⟨p, rfl, ⟨_, SqL.of upd_same⟩, fun L nL => ?_⟩⟩
    rw [ec] at nL ⊢
    have sp : Same H (upd H p (.lst (cs.map V.int))) := same_upd np
    refine lc_list (xs := cs.map V.int) (fun i H' => Same (upd H p (.lst (cs.map V.int))) H' ∧ ∃ ds : List Int, ds.length = i ∧ H' L = some (.lst (ds.map V.int)))
      ⟨same_upd nL, [], rfl, upd_same⟩ (fun i H' _ h => SqL.of (h.1 _ _ upd_same)) (fun i x H' hx h => ?_) (fun H1 h1 => ?_)
    · obtain ⟨n, rfl⟩ := get_ints hx
      obtain ⟨sm, ds, dl, hd⟩ := h
      refine ⟨rfl, _, rfl, n, rfl, _, hd, ?_, ?_, ds ++ [if n < 0 then -n else n], ?_, ?_⟩
      · have := (List.getElem?_eq_some_iff.mp hx).1
        rw [List.length_map] at this ⊢
        exact small1000 (by omega)
      · exact sm.put nL
      · rw [List.length_append, dl]
        rfl
      · rw [upd_same, List.map_append]
        rfl
    · obtain ⟨sm, ds, dl, hd⟩ := h1
      rw [List.length_map] at dl
      have sH : Same H H1 := sp.trans sm
      -- 16127 + 7919 * base
      refine ⟨_, rfl, _, _, rfl, rfl, .inl (by omega), _, _, rfl, rfl, ?_⟩
      refine ⟨fun σ H2 => ∃ (v : Option V) (m : Int), σ = [some (.ref sa), some (.int (k : Int)), v, some (.ref L), some (.int m)] ∧ 0 ≤ m ∧ m < 2147483647 ∧ H2 = H1, ?_, ?_⟩
      · refine ⟨.ref L, rfl, L, rfl, ⟨_, SqL.of hd⟩, for_list (K := K) (a := L) (xs := ds.map V.int) (fun i σ H2 => ∃ (v : Option V) (m : Int), σ = [some (.ref sa), some (.int (k : Int)), v, some (.ref L), some (.int m)] ∧ 0 ≤ m ∧ m < 2147483647 ∧ H2 = H1)
          ⟨_, _, rfl, by omega, by omega, rfl⟩ (fun i σ H2 _ ⟨_, _, _, _, _, e⟩ => by rw [e]; exact SqL.of hd) ?_ ?_⟩
        · rintro i x σ H2 hx ⟨v, m, rfl, m0, m1, rfl⟩
          obtain ⟨n, rfl⟩ := get_ints hx
          obtain ⟨r0, r1⟩ := fmod_lt (x := n) (k := 2147483629) (by decide)
          refine ⟨_, rfl, _, _, rfl, rfl, .inl (by omega), _, rfl, .inl ⟨_, rfl, _, _, rfl, rfl, (by show (2147483629 : Int) ≠ 0; decide), _, _, rfl, rfl, .inl ⟨_, rfl, _, _, rfl, rfl, (by show (2147483647 : Int) ≠ 0; decide), ?_⟩⟩⟩
          obtain ⟨t0, t1⟩ := fmod_lt (x := m * 48271 + n.fmod 2147483629) (k := 2147483647) (by decide)
          exact ⟨_, _, rfl, t0, t1, rfl⟩
        · rintro σ H2 ⟨v, m, rfl, m0, m1, rfl⟩
          exact ⟨_, _, rfl, m0, m1, rfl⟩
      · rintro σ H2 ⟨v, m, rfl, m0, m1, rfl⟩
        refine ⟨.ref L, rfl, L, rfl, ⟨_, SqL.of hd⟩, fun D nD => ?_⟩
        refine lc_list (xs := ds.map V.int) (fun i H' => Same H2 H' ∧ ∃ es : List Int, es.length ≤ i ∧ H' D = some (.lst (es.map V.int)))
          ⟨same_upd nD, [], Nat.le_refl _, upd_same⟩ (fun i H' _ h => SqL.of (h.1 _ _ hd)) (fun i x H' hx h => ?_) (fun H3 h3 => ?_)
        · obtain ⟨n, rfl⟩ := get_ints hx
          obtain ⟨sm3, es, el, he⟩ := h
          have hi := (List.getElem?_eq_some_iff.mp hx).1
          rw [List.length_map] at hi
          refine ⟨rfl, _, rfl, _, _, rfl, rfl, ⟨by decide, by decide, by decide⟩, _, _, rfl, rfl, _, rfl, ite2 (fun _ => ?_) (fun _ => ?_)⟩
          · refine ⟨_, rfl, _, he, ?_, sm3.put nD, es ++ [n], ?_, ?_⟩
            · rw [List.length_map]
              exact small1000 (by omega)
            · rw [List.length_append]
              exact Nat.succ_le_succ el
            · rw [upd_same, List.map_append]
              rfl
          · exact ⟨sm3, es, by omega, he⟩
        · obtain ⟨sm3, es, el, he⟩ := h3
          rw [List.length_map] at el
          have s3 : Same H H3 := sH.trans sm3
          refine ⟨D, _, rfl, SqL.of he, fun b nb => ⟨_, rfl, (by show 2 ≤ sizeLine; decide), fun a na => ?_⟩⟩
          have sb : Same H (upd H3 b (.lst (es.map V.int).reverse)) := s3.trans (same_upd nb)
          have nab : b ≠ a := fun z => by
            rw [← z, upd_same] at na
            cases na
          refine q a b _ (sb.trans (same_upd na)) (sb.free na) (s3.free nb) ⟨es.reverse, m, upd_same, ?_, ?_, m0, m1⟩
          · rw [upd_ne nab, upd_same, List.map_reverse]
          · rw [List.length_reverse]
            omega
end
end Ov

namespace Ov
open PySem PySem.Spec PyProof.Rows L2
open Evl (pss_cut tCut)

/-- a def of the text: where it stands, its name, how its arguments bind -/
structure Df (K : PySem.W.Frag) (mg : Str → Option Value) (x : Str) (st : Stmt) (ps : List Str) (f : Addr) (fd : FuncData) : Prop where
  F : Fun K x x st f fd
  g : mg x = some (.ref f)
  b : Binds K fd ps []

/-! ### what stands apart from a deal -/
theorem Kp.put {a b : Addr} {H H' : Hp} {p : Addr} {o : HO} (k : Kp a b H H') (h : H p = Option.none) : Kp a b H (upd H' p o) := fun c u h1 h2 e => by
  rw [upd_ne (ne_of_none e h)]
  exact k c u h1 h2 e
theorem Kp.sqL {K : PySem.W.Frag} {a b : Addr} {H H' : Hp} {l : Addr} {xs : List V} (k : Kp a b H H') (h1 : l ≠ a) (h2 : l ≠ b) (h : SqL K H l xs) : SqL K H' l xs := by
  rcases h with (h | ⟨o, h⟩) | h
  · exact .inl (.inl (k _ _ h1 h2 h))
  · exact .inl (.inr ⟨o, k _ _ h1 h2 h⟩)
  · exact .inr h
theorem Kp.sqT {K : PySem.W.Frag} {a b : Addr} {H H' : Hp} {l : Addr} {xs : List V} (k : Kp a b H H') (h1 : l ≠ a) (h2 : l ≠ b) (h : SqT K H l xs) : SqT K H' l xs := by
  rcases h with (h | ⟨o, h⟩) | h
  · exact .inl (.inl (k _ _ h1 h2 h))
  · exact .inl (.inr ⟨o, k _ _ h1 h2 h⟩)
  · exact .inr h
theorem Deal.netup {H : Hp} {a b p : Addr} {xs : List V} (D : Deal H a b) (h : H p = some (.tup xs)) : p ≠ a ∧ p ≠ b := by
  obtain ⟨ns, m, h1, h2, _⟩ := D.ex
  exact ⟨ne_of h h1 (fun z => nomatch z), ne_of h h2 (fun z => nomatch z)⟩
theorem Deal.put {H : Hp} {a b p : Addr} {o : HO} (D : Deal H a b) (na : p ≠ a) (nb : p ≠ b) : Deal (upd H p o) a b := by
  obtain ⟨ns, m, h1, h2, r⟩ := D.ex
  exact ⟨ns, m, by rw [upd_ne na.symm]; exact h1, by rw [upd_ne nb.symm]; exact h2, r⟩

/-! ### rules as data -/
def kindsAll : List Str := ["ask", "day", "off", "stop", "answer"]
def testsL : List Str := ["whole", "own", "above whole", "above own", "level whole", "level own", "later whole", "later own"]
def testsOf (k : Str) : List Str := if k = "answer" then ["level"] else testsL
def deedsOf (k : Str) : List Str := if k = "answer" then ["count", "count", "drop"] else ["take", "take", "wipe"]
def testsNot (k : Str) : List Str := testsOf k ++ (testsOf k).map (("not " : Str) ++ ·)
structure RuleD where
  k : Str
  ts : List Str
  ds : List Str
structure RuleD.Ok (r : RuleD) : Prop where
  k : r.k ∈ kindsAll
  ts : ∀ t ∈ r.ts, t ∈ testsNot r.k
  ds : ∀ d ∈ r.ds, d ∈ deedsOf r.k
  nt : r.ts.length ≤ 4
  nd : r.ds.length ≤ 4
/-- a drawn rule: a tuple of its kind, tests, deeds -/
def RuleAt (H : Hp) (p : Addr) (r : RuleD) : Prop := ∃ t d : Addr, H p = some (.tup [.str r.k, .ref t, .ref d]) ∧ H t = some (.tup (r.ts.map V.str)) ∧ H d = some (.tup (r.ds.map V.str))
theorem RuleAt.same {H H' : Hp} {p : Addr} {r : RuleD} (h : RuleAt H p r) (s : Same H H') : RuleAt H' p r := by
  obtain ⟨t, d, h1, h2, h3⟩ := h
  exact ⟨t, d, s _ _ h1, s _ _ h2, s _ _ h3⟩
theorem RuleAt.kp {H H' : Hp} {a b p : Addr} {r : RuleD} (h : RuleAt H p r) (k : Kp a b H H') (D : Deal H a b) : RuleAt H' p r := by
  obtain ⟨t, d, h1, h2, h3⟩ := h
  have n1 := D.netup h1
  have n2 := D.netup h2
  have n3 := D.netup h3
  exact ⟨t, d, k _ _ n1.1 n1.2 h1, k _ _ n2.1 n2.2 h2, k _ _ n3.1 n3.2 h3⟩
theorem str_nil_app (y : Str) : (("" : Str) ++ y) = y := by
  have e : ("" : Str) = Str.empty := by decide +kernel
  rw [e]
  exact Str.empty_append y
theorem mem_len {l : List Str} (n : Nat) (h : ∀ x ∈ l, x.length ≤ n) {x : Str} (hx : x ∈ l) : x.length ≤ n := h x hx
theorem testsNot_len {k t : Str} (h : t ∈ testsNot k) : t.length ≤ 16 := by
  have h1 : ∀ t ∈ testsL ++ testsL.map (("not " : Str) ++ ·), t.length ≤ 16 := by decide +kernel
  have h2 : ∀ t ∈ (["level"] : List Str) ++ (["level"] : List Str).map (("not " : Str) ++ ·), t.length ≤ 16 := by decide +kernel
  unfold testsNot testsOf at h
  split at h
  · exact h2 t h
  · exact h1 t h
theorem deedsOf_len {k t : Str} (h : t ∈ deedsOf k) : t.length ≤ 16 := by
  have h1 : ∀ t ∈ (["count", "count", "drop"] : List Str), t.length ≤ 16 := by decide +kernel
  have h2 : ∀ t ∈ (["take", "take", "wipe"] : List Str), t.length ≤ 16 := by decide +kernel
  unfold deedsOf at h
  split at h
  · exact h1 t h
  · exact h2 t h
theorem testsOf_len {k t : Str} (h : t ∈ testsOf k) : t.length ≤ 16 := testsNot_len (List.mem_append_left _ h)
theorem kinds_len {k : Str} (h : k ∈ kindsAll) : k.length ≤ 16 := by
  have h1 : ∀ t ∈ kindsAll, t.length ≤ 16 := by decide +kernel
  exact h1 k h
theorem size_of {n : Nat} (h : n ≤ 100000) : n ≤ sizeLine := Nat.le_trans h (by decide)

def spPick (K : PySem.W.Frag) : Sp := fun vs H Q _ => ∃ (a b l : Addr) (xs : List V), vs = [.ref a, .ref l] ∧ Deal H a b ∧ l ≠ a ∧ l ≠ b ∧ (SqL K H l xs ∨ SqT K H l xs) ∧ 0 < xs.length ∧ xs.length < 1000000 ∧
  ∀ x H', x ∈ xs → Kp a b H H' → Deal H' a b → Q x H'
def spTestsOf : Sp := fun vs H Q _ => ∃ k : Str, vs = [.str k] ∧ ∀ l H', Same H H' → H l = none → H' l = some (.lst ((testsOf k).map V.str)) → Q (.ref l) H'
def spDeedsOf : Sp := fun vs H Q _ => ∃ k : Str, vs = [.str k] ∧ ∀ l H', Same H H' → H l = none → H' l = some (.lst ((deedsOf k).map V.str)) → Q (.ref l) H'
def spWideRule : Sp := fun vs H Q _ => ∃ (a b : Addr), vs = [.ref a] ∧ Deal H a b ∧ ∀ p (r : RuleD) H', r.Ok → Kp a b H H' → Deal H' a b → RuleAt H' p r → Q (.ref p) H'

section
variable {P : Program} {w : World} {K : PySem.W.Frag} {mg : Str → Option Value} {base : Heap}
abbrev sPick : Stmt := topS 22
theorem scPick : FnScope ["_law_deal_here", "_law_some"] ["_law_deal_here", "_law_some"] (defScope sPick) := ⟨rfl, rfl, rfl, by decide +kernel, rfl, by decide +kernel, by decide +kernel⟩
abbrev sTestsOf : Stmt := topS 24
theorem scTestsOf : FnScope ["_law_kind", "_law_found", "_law_word"] ["_law_kind"] (defScope sTestsOf) := ⟨rfl, rfl, rfl, by decide +kernel, rfl, by decide +kernel, by decide +kernel⟩
abbrev sDeedsOf : Stmt := topS 25
theorem scDeedsOf : FnScope ["_law_kind"] ["_law_kind"] (defScope sDeedsOf) := ⟨rfl, rfl, rfl, by decide +kernel, rfl, by decide +kernel, by decide +kernel⟩
abbrev sWideRule : Stmt := topS 32
theorem scWideRule : FnScope ["_law_deal_here", "_law_kind", "_law_found", "_law_done", "_law_turn"] ["_law_deal_here"] (defScope sWideRule) := ⟨rfl, rfl, rfl, by decide +kernel, rfl, by decide +kernel, by decide +kernel⟩
theorem ok_pick {f fDraw : Addr} {fd fdDraw : FuncData} (F : Fun K "_law_pick" "_law_pick" sPick f fd) (T : TxB mg) (D_draw : Df K mg "_law_draw" sDraw ["_law_deal_here", "_law_many"] fDraw fdDraw) :
    FnOk P w K mg base CX0 2 f fd ["_law_deal_here", "_law_some"] (spPick K) := by
  have G_draw : FnOk P w K mg base CX0 1 fDraw fdDraw ["_law_deal_here", "_law_many"] spDraw := ok_draw D_draw.F T.n_int
  refine F.ok scPick (fun vs H Q E h => ?_) (fun cdv A outer s H vs Q E hr h => ?_)
  · obtain ⟨a, b, l, xs, rfl, _⟩ := h
    rfl
  · obtain ⟨a, b, l, xs, rfl, D, na, nb, hS, h0, h1, q⟩ := h
    refine ⟨_, pss_one (ps_ret (pe_ix ix_seq (pv 1) (pe_call G_draw (hr.mono (by decide)) rfl D_draw.g D_draw.F.kp D_draw.b .nil pass0 (pa_cons (pv 0) (pa_cons (pe_callB call_len_seq (by rfl) T.n_len (by decide +kernel) (pa_cons (pv 1) pa_nil)) pa_nil))) (fun _ _ => rfl))), ?_⟩
    refine ⟨_, rfl, _, rfl, _, rfl, l, xs, rfl, hS, a, b, _, rfl, D, by omega, by omega, fun r H1 r0 r1 kp D1 => ?_⟩
    obtain ⟨i, rfl⟩ := Int.eq_ofNat_of_zero_le r0
    have hi : i < xs.length := by omega
    have e := List.getElem?_eq_getElem hi
    have m := List.getElem_mem hi
    rcases hS with hS | hS
    · exact .inl ⟨l, xs, _, _, rfl, rfl, kp.sqL na nb hS, atI_nat e, q _ _ m kp D1⟩
    · exact .inr (.inl ⟨l, xs, _, _, rfl, rfl, kp.sqT na nb hS, atI_nat e, q _ _ m kp D1⟩)
theorem ok_tests_of {f : Addr} {fd : FuncData} (F : Fun K "_law_tests_of" "_law_tests_of" sTestsOf f fd) : FnOk P w K mg base CX0 1 f fd ["_law_kind"] spTestsOf := by
  refine F.ok scTestsOf (fun vs H Q E h => ?_) (fun cdv A outer s H vs Q E hr h => ?_)
  · obtain ⟨k, rfl, _⟩ := h
    rfl
  · obtain ⟨k, rfl, q⟩ := h
    refine ⟨_, pss_cons (ps_if (pt_cmpR op_eq (pv 0) pe_str (nomark _)) (pss_one (ps_ret (pe_lst (pa_cons pe_str pa_nil)))) pss_nil)
      (pss_cons (ps_set (i := 1) scTestsOf.nd rfl (.inl rfl) (pe_lst (pa_cons pe_str (pa_cons pe_str pa_nil))))
      (pss_cut (ps_for PassesOwn.never rfl (pi_tup (pe_tup (pa_cons pe_str (pa_cons pe_str (pa_cons pe_str pa_nil))))) (pg_name (i := 2) scTestsOf.nd rfl (Or.inl rfl)) (pss_one (ps_expr (pe_bm PySem.F.plainAttrs_list PySem.F.slot_list_extend PySem.F.type_list_extend mt_extend (pv 1) (pa_cons (pe_lst (pa_cons (pe_op op_add_str (pv 2) pe_str) (pa_cons (pe_op op_add_str (pv 2) pe_str) pa_nil))) pa_nil)))))
      (pss_one (ps_ret (pv 1))))), ?_⟩
    refine ⟨_, rfl, rfl, _, rfl, ite2 (fun e => ?_) (fun e => ?_)⟩
    · refine ⟨by show 1 ≤ sizeLine; decide, fun p np => ?_⟩
      have ek : k = "answer" := by
        have := of_decide_eq_true e
        injection this
      refine q p _ (same_upd np) np ?_
      rw [upd_same, ek]
      rfl
    · refine ⟨by show 2 ≤ sizeLine; decide, fun l nl => ?_⟩
      have ek : ¬ k = "answer" := fun z => e (decide_eq_true (by rw [z]))
      have s1 : Same H (upd H l (.lst [.str "whole", .str "own"])) := same_upd nl
      refine ⟨fun σ H' => ∃ v, σ = [some (.str k), some (.ref l), v] ∧ Same H H' ∧ H' l = some (.lst (testsL.map V.str)), ?_, ?_⟩
      · refine ⟨by show 3 ≤ sizeLine; decide, fun t nt => ⟨t, rfl, ⟨_, SqT.of upd_same⟩, ?_⟩⟩
        have ntl : t ≠ l := fun z => by
          rw [z, upd_same] at nt
          cases nt
        refine for_tup (K := K) (a := t) (xs := [.str "above", .str "level", .str "later"]) (fun i σ H' => ∃ v, σ = [some (.str k), some (.ref l), v] ∧ Same H H' ∧ H' t = some (.tup [.str "above", .str "level", .str "later"]) ∧ H' l = some (.lst ((testsL.take (2 + 2 * i)).map V.str)))
          ⟨_, rfl, s1.trans (same_upd nt), upd_same, by rw [upd_ne ntl.symm, upd_same]; rfl⟩ (fun i σ H' _ ⟨_, _, _, e, _⟩ => SqT.of e) ?_ ?_
        · rintro i x σ H' hx ⟨v, rfl, sm, ht, hl⟩
          obtain ⟨y, rfl, ey⟩ : ∃ y : Str, x = .str y ∧ testsL.take (2 + 2 * i) ++ [y ++ " whole", y ++ " own"] = testsL.take (2 + 2 * (i + 1)) ∧ y.length ≤ 5 := by
            match i, hx with
            | 0, hx => exact ⟨_, (Option.some.inj hx).symm, by decide +kernel⟩
            | 1, hx => exact ⟨_, (Option.some.inj hx).symm, by decide +kernel⟩
            | 2, hx => exact ⟨_, (Option.some.inj hx).symm, by decide +kernel⟩
            | i + 3, hx => cases hx
          have hy : ∀ z : Str, z.length ≤ 6 → y.length + z.length ≤ sizeLine := fun z hz => size_of (by omega)
          refine ⟨_, rfl, .inl ⟨rfl, _, SqL.of hl⟩, _, rfl, _, _, rfl, rfl, hy _ (by decide +kernel), _, rfl, _, _, rfl, rfl, hy _ (by decide +kernel), by show 2 ≤ sizeLine; decide, fun m nm => ?_⟩
          have nml : l ≠ m := ne_of_none hl nm
          have nmt : t ≠ m := ne_of_none ht nm
          refine ⟨l, m, _, _, rfl, rfl, by rw [upd_ne nml]; exact hl, upd_same, ?_, ?_⟩
          · rw [List.length_map, List.length_take]
            show _ + 2 ≤ sizeLine
            have e8 : testsL.length = 8 := rfl
            exact size_of (by omega)
          · refine ⟨_, rfl, (sm.trans (same_upd nm)).put nl, ?_, ?_⟩
            · rw [upd_ne ntl, upd_ne nmt]
              exact ht
            · rw [upd_same, ← ey.1, List.map_append]
              rfl
        · rintro σ H' ⟨v, rfl, sm, ht, hl⟩
          exact ⟨_, rfl, sm, hl⟩
      · rintro σ H' ⟨v, rfl, sm, hl⟩
        refine ⟨_, rfl, q l H' sm nl ?_⟩
        rw [hl]
        unfold testsOf
        rw [if_neg ek]
theorem ok_deeds_of {f : Addr} {fd : FuncData} (F : Fun K "_law_deeds_of" "_law_deeds_of" sDeedsOf f fd) : FnOk P w K mg base CX0 1 f fd ["_law_kind"] spDeedsOf := by
  refine F.ok scDeedsOf (fun vs H Q E h => ?_) (fun cdv A outer s H vs Q E hr h => ?_)
  · obtain ⟨k, rfl, _⟩ := h
    rfl
  · obtain ⟨k, rfl, q⟩ := h
    refine ⟨_, pss_one (ps_ret (pe_ifExp (pt_cmpR op_eq (pv 0) pe_str (nomark _)) (pe_lst (pa_cons pe_str (pa_cons pe_str (pa_cons pe_str pa_nil)))) (pe_lst (pa_cons pe_str (pa_cons pe_str (pa_cons pe_str pa_nil)))))), ?_⟩
    refine ⟨_, rfl, rfl, _, rfl, ite2 (fun e => ?_) (fun e => ?_)⟩
    · refine ⟨by show 3 ≤ sizeLine; decide, fun p np => ?_⟩
      have ek : k = "answer" := by
        have := of_decide_eq_true e
        injection this
      refine q p _ (same_upd np) np ?_
      rw [upd_same, ek]
      rfl
    · refine ⟨by show 3 ≤ sizeLine; decide, fun p np => ?_⟩
      have ek : ¬ k = "answer" := fun z => e (decide_eq_true (by rw [z]))
      refine q p _ (same_upd np) np ?_
      rw [upd_same]
      unfold deedsOf
      rw [if_neg ek]
      rfl
theorem ok_wide_rule {f fDraw fPick fTests fDeeds : Addr} {fd fdDraw fdPick fdTests fdDeeds : FuncData} (F : Fun K "_law_wide_rule" "_law_wide_rule" sWideRule f fd) (T : TxB mg)
    (D_draw : Df K mg "_law_draw" sDraw ["_law_deal_here", "_law_many"] fDraw fdDraw) (D_pick : Df K mg "_law_pick" sPick ["_law_deal_here", "_law_some"] fPick fdPick)
    (D_tests_of : Df K mg "_law_tests_of" sTestsOf ["_law_kind"] fTests fdTests) (D_deeds_of : Df K mg "_law_deeds_of" sDeedsOf ["_law_kind"] fDeeds fdDeeds) : FnOk P w K mg base CX0 3 f fd ["_law_deal_here"] spWideRule := by
  have G_draw : FnOk P w K mg base CX0 1 fDraw fdDraw ["_law_deal_here", "_law_many"] spDraw := ok_draw D_draw.F T.n_int
  have G_pick : FnOk P w K mg base CX0 2 fPick fdPick ["_law_deal_here", "_law_some"] (spPick K) := ok_pick D_pick.F T D_draw
  have G_tests_of : FnOk P w K mg base CX0 1 fTests fdTests ["_law_kind"] spTestsOf := ok_tests_of D_tests_of.F
  have G_deeds_of : FnOk P w K mg base CX0 1 fDeeds fdDeeds ["_law_kind"] spDeedsOf := ok_deeds_of D_deeds_of.F
  refine F.ok scWideRule (fun vs H Q E h => ?_) (fun cdv A outer s H vs Q E hr h => ?_)
  · obtain ⟨a, b, rfl, _⟩ := h
    rfl
  · obtain ⟨a, b, rfl, D, q⟩ := h
    refine ⟨_, pss_cons (ps_set (i := 1) scWideRule.nd rfl (.inl rfl) (pe_call G_pick (hr.mono (by decide)) rfl D_pick.g D_pick.F.kp D_pick.b .nil pass0 (pa_cons (pv 0) (pa_cons (pe_lst (pa_cons pe_str (pa_cons pe_str (pa_cons pe_str (pa_cons pe_str (pa_cons pe_str pa_nil)))))) pa_nil))))
      (pss_cons (ps_par (i := 2) (j := 3) (by rfl) scWideRule.nd rfl rfl (by decide) rfl rfl (pa_cons (pe_lst pa_nil) (pa_cons (pe_lst pa_nil) pa_nil)) (by rfl))
      (pss_cut (ps_for PassesOwn.never rfl (pi_range1 rfl T.n_range (pa_cons (pe_call G_draw (hr.mono (by decide)) rfl D_draw.g D_draw.F.kp D_draw.b .nil pass0 (pa_cons (pv 0) (pa_cons pe_int pa_nil))) pa_nil)) (pg_name (i := 4) scWideRule.nd rfl (Or.inl rfl)) (pss_one (ps_expr (pe_bm PySem.F.plainAttrs_list PySem.F.slot_list_append PySem.F.type_list_append mt_append (pv 2) (pa_cons (pe_op op_add_str (pe_call G_pick (hr.mono (by decide)) rfl D_pick.g D_pick.F.kp D_pick.b .nil pass0 (pa_cons (pv 0) (pa_cons (pe_lst (pa_cons pe_str (pa_cons pe_str pa_nil))) pa_nil))) (pe_call G_pick (hr.mono (by decide)) rfl D_pick.g D_pick.F.kp D_pick.b .nil pass0 (pa_cons (pv 0) (pa_cons (pe_call G_tests_of (hr.mono (by decide)) rfl D_tests_of.g D_tests_of.F.kp D_tests_of.b .nil pass0 (pa_cons (pv 1) pa_nil)) pa_nil)))) pa_nil)))))
      (pss_cut (ps_for PassesOwn.never rfl (pi_range1 rfl T.n_range (pa_cons (pe_call G_draw (hr.mono (by decide)) rfl D_draw.g D_draw.F.kp D_draw.b .nil pass0 (pa_cons (pv 0) (pa_cons pe_int pa_nil))) pa_nil)) (pg_name (i := 4) scWideRule.nd rfl (Or.inl rfl)) (pss_one (ps_expr (pe_bm PySem.F.plainAttrs_list PySem.F.slot_list_append PySem.F.type_list_append mt_append (pv 3) (pa_cons (pe_call G_pick (hr.mono (by decide)) rfl D_pick.g D_pick.F.kp D_pick.b .nil pass0 (pa_cons (pv 0) (pa_cons (pe_call G_deeds_of (hr.mono (by decide)) rfl D_deeds_of.g D_deeds_of.F.kp D_deeds_of.b .nil pass0 (pa_cons (pv 1) pa_nil)) pa_nil))) pa_nil)))))
      (pss_one (ps_ret (pe_tup (pa_cons (pv 1) (pa_cons (pe_callTy call_tuple_of (by rfl) T.n_tuple (by decide +kernel) (pa_cons (pv 2) pa_nil)) (pa_cons (pe_callTy call_tuple_of (by rfl) T.n_tuple (by decide +kernel) (pa_cons (pv 3) pa_nil)) pa_nil))))))))), ?_⟩
    refine ⟨_, rfl, by show 5 ≤ sizeLine; decide, fun l nl => ⟨a, b, l, _, rfl, D.new nl, D.nea nl, D.neb nl, .inl (SqL.of upd_same), by decide, by decide, fun x H1 hx kp1 D1 => ?_⟩⟩
    obtain ⟨kd, rfl, hk⟩ : ∃ kd : Str, x = .str kd ∧ kd ∈ kindsAll := by
      have h2 : x ∈ kindsAll.map V.str := hx
      obtain ⟨kd, h3, h4⟩ := List.mem_map.mp h2
      exact ⟨kd, h4.symm, h3⟩
    have k1 : Kp a b H H1 := (Kp.new nl).trans kp1
    -- found, done = [], []
    refine ⟨Nat.zero_le _, fun F1 nF => ⟨Nat.zero_le _, fun G1 nG => ⟨_, _, rfl, ?_⟩⟩⟩
    have nG1 : H1 G1 = none := (same_upd nF).free nG
    have nGF : G1 ≠ F1 := fun z => by
      rw [z, upd_same] at nG
      cases nG
    have k2 : Kp a b H (upd (upd H1 F1 (.lst [])) G1 (.lst [])) := (k1.trans (Kp.new nF)).trans (Kp.new nG)
    have D2 : Deal (upd (upd H1 F1 (.lst [])) G1 (.lst [])) a b := (D1.new nF).new nG
    have zF : H F1 = none := k1.none D1 nF
    have zG : H G1 = none := k1.none D1 nG1
    have Fa := D1.nea nF
    have Fb := D1.neb nF
    have Ga := D1.nea nG1
    have Gb := D1.neb nG1
    -- the tests
    refine ⟨fun σ H' => ∃ (v : Option V) (ts : List Str), σ = [some (.ref a), some (.str kd), some (.ref F1), some (.ref G1), v] ∧ Kp a b H H' ∧ Deal H' a b ∧ H' F1 = some (.lst (ts.map V.str)) ∧ H' G1 = some (.lst []) ∧ (∀ t ∈ ts, t ∈ testsNot kd) ∧ ts.length ≤ 4, ?_, ?_⟩
    · refine ⟨_, rfl, a, b, 5, rfl, D2, by decide, by decide, fun r H2 r0 r1 kp2 D3 => ⟨r, rfl, by omega, by omega, ?_⟩⟩
      refine for_range (lo := 0) (n := r.toNat) (fun i σ H' => ∃ (v : Option V) (ts : List Str), σ = [some (.ref a), some (.str kd), some (.ref F1), some (.ref G1), v] ∧ Kp a b H H' ∧ Deal H' a b ∧ H' F1 = some (.lst (ts.map V.str)) ∧ H' G1 = some (.lst []) ∧ (∀ t ∈ ts, t ∈ testsNot kd) ∧ ts.length = i)
        ⟨_, [], rfl, k2.trans kp2, D3, kp2 _ _ Fa Fb (by rw [upd_ne nGF.symm]; exact upd_same), kp2 _ _ Ga Gb upd_same, fun t ht => absurd ht List.not_mem_nil, rfl⟩ ?_ ?_
      · rintro i σ H3 hi ⟨v, ts, rfl, k3, D3, hF, hG, hts, hlen⟩
        refine ⟨_, rfl, .inl ⟨rfl, _, SqL.of hF⟩, _, rfl, by show 2 ≤ sizeLine; decide, fun l1 n1 => ⟨a, b, l1, _, rfl, D3.new n1, D3.nea n1, D3.neb n1, .inl (SqL.of upd_same), by decide, by decide, fun x H4 hx kp4 D4 => ?_⟩⟩
        obtain ⟨x', rfl, hx'⟩ : ∃ z : Str, x = .str z ∧ z ∈ (["", "not "] : List Str) := by
          have h2 : x ∈ (["", "not "] : List Str).map V.str := hx
          obtain ⟨z, h3, h4⟩ := List.mem_map.mp h2
          exact ⟨z, h4.symm, h3⟩
        refine ⟨_, rfl, _, rfl, kd, rfl, fun l2 H5 s5 n5 h5 => ?_⟩
        have t0 : 0 < (testsOf kd).length ∧ (testsOf kd).length < 1000000 := by
          unfold testsOf
          split
          · decide
          · decide
        refine ⟨a, b, l2, _, rfl, D4.keep s5, D4.nea n5, D4.neb n5, .inl (SqL.of h5), by rw [List.length_map]; exact t0.1, by rw [List.length_map]; exact t0.2, fun y H6 hy kp6 D6 => ?_⟩
        obtain ⟨y', hy', rfl⟩ := List.mem_map.mp hy
        have m : x' ++ y' ∈ testsNot kd := by
          unfold testsNot
          rcases List.mem_cons.mp hx' with e | hx'
          · rw [e]
            refine List.mem_append_left _ ?_
            have e2 : (("" : Str) ++ y') = y' := str_nil_app y'
            rw [e2]
            exact hy'
          · rw [List.mem_singleton.mp hx']
            exact List.mem_append_right _ (List.mem_map_of_mem hy')
        have kk : Kp a b H3 H6 := (((Kp.new n1).trans kp4).trans (Kp.same s5)).trans kp6
        have lx : x'.length ≤ 4 := by
          have h0 : ∀ z ∈ (["", "not "] : List Str), z.length ≤ 4 := by decide +kernel
          exact h0 _ hx'
        have ly := testsOf_len hy'
        refine ⟨_, _, rfl, rfl, size_of (by omega), F1, _, _, rfl, rfl, kk _ _ Fa Fb hF, ?_, ?_⟩
        · rw [List.length_map]
          exact small1000 (by omega)
        · refine ⟨_, ts ++ [x' ++ y'], rfl, (k3.trans kk).put zF, D6.put Fa Fb, ?_, ?_, ?_, ?_⟩
          · rw [upd_same, List.map_append]
            rfl
          · rw [upd_ne nGF]
            exact kk _ _ Ga Gb hG
          · intro t ht
            rcases List.mem_append.mp ht with ht | ht
            · exact hts t ht
            · rw [List.mem_singleton.mp ht]
              exact m
          · rw [List.length_append, hlen]
            rfl
      · rintro σ H3 ⟨v, ts, rfl, k3, D3, hF, hG, hts, hlen⟩
        exact ⟨v, ts, rfl, k3, D3, hF, hG, hts, by omega⟩
    · rintro σ H2 ⟨v, ts, rfl, k2, D2, hF, hG, hts, hlen⟩
      -- the deeds
      refine ⟨fun σ H' => ∃ (v : Option V) (ds : List Str), σ = [some (.ref a), some (.str kd), some (.ref F1), some (.ref G1), v] ∧ Kp a b H H' ∧ Deal H' a b ∧ H' F1 = some (.lst (ts.map V.str)) ∧ H' G1 = some (.lst (ds.map V.str)) ∧ (∀ t ∈ ds, t ∈ deedsOf kd) ∧ ds.length ≤ 4, ?_, ?_⟩
      · refine ⟨_, rfl, a, b, 5, rfl, D2, by decide, by decide, fun r H3 r0 r1 kp2 D3 => ⟨r, rfl, by omega, by omega, ?_⟩⟩
        refine for_range (lo := 0) (n := r.toNat) (fun i σ H' => ∃ (v : Option V) (ds : List Str), σ = [some (.ref a), some (.str kd), some (.ref F1), some (.ref G1), v] ∧ Kp a b H H' ∧ Deal H' a b ∧ H' F1 = some (.lst (ts.map V.str)) ∧ H' G1 = some (.lst (ds.map V.str)) ∧ (∀ t ∈ ds, t ∈ deedsOf kd) ∧ ds.length = i)
          ⟨_, [], rfl, k2.trans kp2, D3, kp2 _ _ Fa Fb hF, kp2 _ _ Ga Gb hG, fun t ht => absurd ht List.not_mem_nil, rfl⟩ ?_ ?_
        · rintro i σ H3 hi ⟨v, ds, rfl, k3, D3, hF, hG, hds, hl⟩
          refine ⟨_, rfl, .inl ⟨rfl, _, SqL.of hG⟩, _, rfl, _, rfl, kd, rfl, fun l2 H5 s5 n5 h5 => ?_⟩
          have t0 : 0 < (deedsOf kd).length ∧ (deedsOf kd).length < 1000000 := by
            unfold deedsOf
            split
            · decide
            · decide
          refine ⟨a, b, l2, _, rfl, D3.keep s5, D3.nea n5, D3.neb n5, .inl (SqL.of h5), by rw [List.length_map]; exact t0.1, by rw [List.length_map]; exact t0.2, fun y H6 hy kp6 D6 => ?_⟩
          obtain ⟨y', hy', rfl⟩ := List.mem_map.mp hy
          have kk : Kp a b H3 H6 := (Kp.same s5).trans kp6
          refine ⟨G1, _, _, rfl, rfl, kk _ _ Ga Gb hG, ?_, ?_⟩
          · rw [List.length_map]
            exact small1000 (by omega)
          · refine ⟨_, ds ++ [y'], rfl, (k3.trans kk).put zG, D6.put Ga Gb, ?_, ?_, ?_, ?_⟩
            · rw [upd_ne nGF.symm]
              exact kk _ _ Fa Fb hF
            · rw [upd_same, List.map_append]
              rfl
            · intro t ht
              rcases List.mem_append.mp ht with ht | ht
              · exact hds t ht
              · rw [List.mem_singleton.mp ht]
                exact hy'
            · rw [List.length_append, hl]
              rfl
        · rintro σ H3 ⟨v, ds, rfl, k3, D3, hF, hG, hds, hl⟩
          exact ⟨v, ds, rfl, k3, D3, hF, hG, hds, by omega⟩
      · rintro σ H3 ⟨v, ds, rfl, k3, D3, hF, hG, hds, hl⟩
        -- (kind, tuple(found), tuple(done))
        refine ⟨_, rfl, _, rfl, F1, _, rfl, .inl ⟨SqL.of hF, fun t nt => ⟨_, rfl, G1, _, rfl, .inl ⟨SqL.of (by rw [upd_ne (ne_of_none hG nt)]; exact hG), fun d nd => ⟨by show 3 ≤ sizeLine; decide, fun p np => ?_⟩⟩⟩⟩⟩
        have s1 := same_upd (o := HO.tup (ts.map V.str)) nt
        have s2 := same_upd (o := HO.tup (ds.map V.str)) nd
        have s3 := same_upd (o := HO.tup [V.str kd, .ref t, .ref d]) np
        refine q p ⟨kd, ts, ds⟩ _ ⟨hk, hts, hds, hlen, hl⟩ (((k3.trans (Kp.same s1)).trans (Kp.same s2)).trans (Kp.same s3)) (((D3.keep s1).keep s2).keep s3) ⟨t, d, upd_same, s3 _ _ (s2 _ _ upd_same), s3 _ _ upd_same⟩
end
end Ov

namespace Ov
open PySem PySem.Spec PyProof.Rows L2
open Evl (pss_cut tCut Ex Ev EvT EvL EvA EvU)

/-! ### what the text has at its top -/
structure TxR (K : PySem.W.Frag) (mg : Str → Option Value) (a_LETTERS a_LETTER_TESTS a_LETTER_DEEDS a_ANSWER_TESTS a_ANSWER_DEEDS CR : Addr) (tA tN : Tok) : Prop extends TxB mg where
  g_LETTERS : mg "LETTERS" = some (.ref a_LETTERS)
  s_LETTERS : ∀ H, SqT K H a_LETTERS ((["ask", "day", "off", "stop"] : List Str).map V.str)
  g_ANSWER : mg "ANSWER" = some (.str "answer" tA)
  g_NOT : mg "NOT" = some (.str "not " tN)
  g_LETTER_TESTS : mg "LETTER_TESTS" = some (.ref a_LETTER_TESTS)
  s_LETTER_TESTS : ∀ H, SqT K H a_LETTER_TESTS (testsL.map V.str)
  g_LETTER_DEEDS : mg "LETTER_DEEDS" = some (.ref a_LETTER_DEEDS)
  s_LETTER_DEEDS : ∀ H, SqT K H a_LETTER_DEEDS ((["take", "wipe"] : List Str).map V.str)
  g_ANSWER_TESTS : mg "ANSWER_TESTS" = some (.ref a_ANSWER_TESTS)
  s_ANSWER_TESTS : ∀ H, SqT K H a_ANSWER_TESTS ((["level"] : List Str).map V.str)
  g_ANSWER_DEEDS : mg "ANSWER_DEEDS" = some (.ref a_ANSWER_DEEDS)
  s_ANSWER_DEEDS : ∀ H, SqT K H a_ANSWER_DEEDS ((["count", "drop"] : List Str).map V.str)
  g_Rule : mg "Rule" = some (.ref CR)
  n_isinstance : mg "isinstance" = none
  n_str : mg "str" = none
  n_all : mg "all" = none
  cl : Cls K CR
  nK : NoAttr K CR "kind"
  nT : NoAttr K CR "tests"
  nD : NoAttr K CR "deeds"
  ci : PySem.W.findIn K (.ref CR) "__class__" = some (some (.builtin "object.__class__"))
  cs : PySem.W.specialIn K (.builtin "object.__class__") "__get__" = some (some (.builtin "getset_descriptor.__get__"))
  ct : PySem.W.takesIn K (.builtin "object.__class__") = some true
  co : PySem.W.mroIn K CR (.type "object") = some true

/-! ### a value's membership among texts -/
theorem inV_strs (k : Str) : ∀ l : List Str, inV (.str k) (l.map V.str) = decide (k ∈ l)
  | [] => rfl
  | x :: r => by
    have ih := inV_strs k r
    unfold inV at ih ⊢
    rw [List.map_cons, List.any_cons, ih]
    show (x == k || decide (k ∈ r)) = decide (k ∈ x :: r)
    by_cases h : x = k
    · rw [h]
      simp
    · have h2 : ¬ k = x := fun z => h z.symm
      simp [h, h2]
theorem flat_strs (l : List Str) : (l.map V.str).all flatV = true := by
  rw [List.all_eq_true]
  intro x hx
  obtain ⟨y, _, rfl⟩ := List.mem_map.mp hx
  rfl
theorem strs_at {l : List Str} {i : Nat} {x : V} (h : (l.map V.str)[i]? = some x) : ∃ y, x = .str y ∧ l[i]? = some y := by
  rw [List.getElem?_map] at h
  cases e : l[i]? with
  | none =>
    rw [e] at h
    cases h
  | some y =>
    rw [e] at h
    exact ⟨y, (Option.some.inj h).symm, rfl⟩
theorem ex_same {H H' : Hp} (h : Ex H H') : Same H H' := fun b o e => h b o e
theorem tyx_list {K : PySem.W.Frag} {H : Hp} {a : Addr} {xs : List V} (h : SqL K H a xs) : TyX K H (.ref a) (.type "list") := by
  rcases h with (h | ⟨o, h⟩) | ⟨o, its, n, h, c, _⟩
  · exact .base (.lst h)
  · exact .base (.frz h)
  · exact .kList h c
theorem tyx_tuple {K : PySem.W.Frag} {H : Hp} {a : Addr} {xs : List V} (h : SqT K H a xs) : TyX K H (.ref a) (.type "tuple") := by
  rcases h with (h | ⟨o, h⟩) | ⟨o, its, n, h, c, _⟩
  · exact .base (.tup h)
  · exact .fTuple h
  · exact .kTuple h c

/-! ### promises -/
def spIsSeq (K : PySem.W.Frag) : Sp := fun vs H Q _ => ∃ (a : Addr) (xs : List V), vs = [.ref a] ∧ (SqL K H a xs ∨ SqT K H a xs) ∧ ∀ H', Ex H H' → Q (.bl true) H'
def spIsKind : Sp := fun vs H Q _ => ∃ k : Str, vs = [.str k] ∧ Q (.bl (decide (k ∈ kindsAll))) H
def spIsTest : Sp := fun vs H Q _ => ∃ k t : Str, vs = [.str k, .str t] ∧ k ∈ kindsAll ∧ t ∈ testsNot k ∧ Q (.bl true) H
def spIsDeed : Sp := fun vs H Q _ => ∃ k t : Str, vs = [.str k, .str t] ∧ k ∈ kindsAll ∧ t ∈ deedsOf k ∧ Q (.bl true) H
/-- a rule's fields -/
def rf (k : Str) (t d : Addr) : List (Str × V) := putF "deeds" (.ref d) (putF "tests" (.ref t) (putF "kind" (.str k) []))
/-- at p a Rule of the class at C -/
def RuleObj (K : PySem.W.Frag) (C : Addr) (H : Hp) (p : Addr) (r : RuleD) : Prop := ∃ (dx t d : Addr), H p = some (.ins C dx (rf r.k t d)) ∧ SqT K H t (r.ts.map V.str) ∧ SqT K H d (r.ds.map V.str)
theorem RuleObj.ex {K : PySem.W.Frag} {C : Addr} {H H' : Hp} {p : Addr} {r : RuleD} (h : RuleObj K C H p r) (e : Ex H H') : RuleObj K C H' p r := by
  obtain ⟨dx, t, d, h1, h2, h3⟩ := h
  exact ⟨dx, t, d, e _ _ h1, Evl.ex_t e h2, Evl.ex_t e h3⟩
/-- its parts are good (the lengths are bounded far above what is drawn) -/
structure RuleD.Good (r : RuleD) : Prop where
  k : r.k ∈ kindsAll
  ts : ∀ t ∈ r.ts, t ∈ testsNot r.k
  ds : ∀ d ∈ r.ds, d ∈ deedsOf r.k
  nt : r.ts.length ≤ 1000
  nd : r.ds.length ≤ 1000
theorem RuleD.Good.pt {r : RuleD} (g : r.Good) : Plain r.ts := fun t ht => by
  have h1 : ∀ t ∈ testsL ++ testsL.map (("not " : Str) ++ ·), PyData.canLay0 (.str t) = true := by decide +kernel
  have h2 : ∀ t ∈ (["level"] : List Str) ++ (["level"] : List Str).map (("not " : Str) ++ ·), PyData.canLay0 (.str t) = true := by decide +kernel
  have h := g.ts t ht
  unfold testsNot testsOf at h
  split at h
  · exact h2 t h
  · exact h1 t h
theorem RuleD.Good.pd {r : RuleD} (g : r.Good) : Plain r.ds := fun t ht => by
  have h1 : ∀ t ∈ (["count", "count", "drop"] : List Str), PyData.canLay0 (.str t) = true := by decide +kernel
  have h2 : ∀ t ∈ (["take", "take", "wipe"] : List Str), PyData.canLay0 (.str t) = true := by decide +kernel
  have h := g.ds t ht
  unfold deedsOf at h
  split at h
  · exact h1 t h
  · exact h2 t h
theorem RuleD.Ok.good {r : RuleD} (h : r.Ok) : r.Good := ⟨h.k, h.ts, h.ds, Nat.le_trans h.nt (by decide), Nat.le_trans h.nd (by decide)⟩
def spRuleInit (K : PySem.W.Frag) (C : Addr) : Sp := fun vs H Q _ => ∃ (p t d dx : Addr) (r : RuleD), vs = [.ref p, .str r.k, .ref t, .ref d] ∧ H p = some (.ins C dx []) ∧ (SqL K H t (r.ts.map V.str) ∨ SqT K H t (r.ts.map V.str)) ∧ (SqL K H d (r.ds.map V.str) ∨ SqT K H d (r.ds.map V.str)) ∧ r.Good ∧
  ∀ H', (∀ b o, b ≠ p → H b = some o → H' b = some o) → RuleObj K C H' p r → Q .non H'

section
variable {P : Program} {w : World} {K : PySem.W.Frag} {mg : Str → Option Value} {base : Heap} {a_LETTERS a_LETTER_TESTS a_LETTER_DEEDS a_ANSWER_TESTS a_ANSWER_DEEDS CR : Addr} {tA tN : Tok}
abbrev sIsSequence : Stmt := topS 5
theorem scIsSequence : FnScope ["value"] ["value"] (defScope sIsSequence) := ⟨rfl, rfl, rfl, by decide +kernel, rfl, by decide +kernel, by decide +kernel⟩
abbrev sIsKind : Stmt := topS 14
theorem scIsKind : FnScope ["value"] ["value"] (defScope sIsKind) := ⟨rfl, rfl, rfl, by decide +kernel, rfl, by decide +kernel, by decide +kernel⟩
abbrev sIsTest : Stmt := topS 15
theorem scIsTest : FnScope ["kind", "value", "known"] ["kind", "value"] (defScope sIsTest) := ⟨rfl, rfl, rfl, by decide +kernel, rfl, by decide +kernel, by decide +kernel⟩
abbrev sIsDeed : Stmt := topS 16
theorem scIsDeed : FnScope ["kind", "value", "known"] ["kind", "value"] (defScope sIsDeed) := ⟨rfl, rfl, rfl, by decide +kernel, rfl, by decide +kernel, by decide +kernel⟩
abbrev sRuleInit : Stmt := inClass (topS 18) 0
theorem scRuleInit : FnScope ["self", "kind", "tests", "deeds", "deed", "test"] ["self", "kind", "tests", "deeds"] (defScope sRuleInit) := ⟨rfl, rfl, rfl, by decide +kernel, rfl, by decide +kernel, by decide +kernel⟩
theorem ok_is_sequence {f : Addr} {fd : FuncData} (F : Fun K "is_sequence" "is_sequence" sIsSequence f fd) (T : TxR K mg a_LETTERS a_LETTER_TESTS a_LETTER_DEEDS a_ANSWER_TESTS a_ANSWER_DEEDS CR tA tN) : FnOk P w K mg base CX0 1 f fd ["value"] (spIsSeq K) := by
  refine F.ok scIsSequence (fun vs H Q E h => ?_) (fun cdv A outer s H vs Q E hr h => ?_)
  · obtain ⟨a, xs, rfl, _⟩ := h
    rfl
  · obtain ⟨a, xs, rfl, hS, q⟩ := h
    refine ⟨_, pss_one (ps_ret (pe_callB call_isiT (by rfl) T.n_isinstance (by decide +kernel) (pa_cons (pv 0) (pa_cons (pe_tup (pa_cons (pe_bltn (v := .ty "list") (by rfl) T.n_list (by decide +kernel) rfl) (pa_cons (pe_bltn (v := .ty "tuple") (by rfl) T.n_tuple (by decide +kernel) rfl) pa_nil))) pa_nil)))), ?_⟩
    refine ⟨_, rfl, by show 2 ≤ sizeLine; decide, fun p np => ?_⟩
    have e1 : Ex H (upd H p (.tup [.ty "list", .ty "tuple"])) := Ex.new np
    rcases hS with hS | hS
    · exact ⟨_, p, _, _, [.type "list", .type "tuple"], true, rfl, upd_same, .cons (.ty _) (.cons (.ty _) .nil), tyx_list (Evl.ex_l e1 hS), kitAny_cons (kit_ty (r := true) (by decide +kernel)) (fun z => nomatch z) (fun _ => rfl), q _ e1⟩
    · exact ⟨_, p, _, _, [.type "list", .type "tuple"], true, rfl, upd_same, .cons (.ty _) (.cons (.ty _) .nil), tyx_tuple (Evl.ex_t e1 hS), kitAny_cons (kit_ty (r := false) (by decide +kernel)) (fun _ => kitAny_cons (kit_ty (r := true) (by decide +kernel)) (fun z => nomatch z) (fun _ => rfl)) (fun z => nomatch z), q _ e1⟩
theorem ok_is_kind {f : Addr} {fd : FuncData} (F : Fun K "is_kind" "is_kind" sIsKind f fd) (T : TxR K mg a_LETTERS a_LETTER_TESTS a_LETTER_DEEDS a_ANSWER_TESTS a_ANSWER_DEEDS CR tA tN) : FnOk P w K mg base CX0 1 f fd ["value"] spIsKind := by
  refine F.ok scIsKind (fun vs H Q E h => ?_) (fun cdv A outer s H vs Q E hr h => ?_)
  · obtain ⟨k, rfl, _⟩ := h
    rfl
  · obtain ⟨k, rfl, q⟩ := h
    refine ⟨_, pss_one (ps_ret (pe_or (pe_cmpR op_in_seq (pv 0) (pe_glob (v := .ref a_LETTERS) rfl T.g_LETTERS rfl) (by rfl)) (pe_one (pe_cmpR op_eq (pv 0) (pe_glob (v := .str "answer") rfl T.g_ANSWER ⟨_, rfl⟩) (nomark _))))), ?_⟩
    refine ⟨_, rfl, _, _, rfl, .inr (T.s_LETTERS _), rfl, flat_strs _, _, rfl, ?_⟩
    rw [inV_strs]
    refine ite2 (fun e => ?_) (fun e => ?_)
    · have h1 : k ∈ (["ask", "day", "off", "stop"] : List Str) := of_decide_eq_true e
      have h2 : k ∈ kindsAll := List.mem_append_left (["answer"] : List Str) h1
      rw [decide_eq_true h2] at q
      exact q
    · refine ⟨_, rfl, rfl, ?_⟩
      have h1 : ¬ k ∈ (["ask", "day", "off", "stop"] : List Str) := fun z => e (decide_eq_true z)
      have h2 : decide (V.str k = V.str "answer") = decide (k ∈ kindsAll) := by
        by_cases hk : k = "answer"
        · rw [hk]
          decide +kernel
        · rw [decide_eq_false (fun z => hk (V.str.inj z)), decide_eq_false]
          intro z
          rcases List.mem_append.mp (show k ∈ (["ask", "day", "off", "stop"] : List Str) ++ (["answer"] : List Str) from z) with z | z
          · exact h1 z
          · exact hk (List.mem_singleton.mp z)
      rw [h2]
      exact q
theorem ok_is_test {f : Addr} {fd : FuncData} (F : Fun K "is_test" "is_test" sIsTest f fd) (T : TxR K mg a_LETTERS a_LETTER_TESTS a_LETTER_DEEDS a_ANSWER_TESTS a_ANSWER_DEEDS CR tA tN) : FnOk P w K mg base CX0 1 f fd ["kind", "value"] spIsTest := by
  refine F.ok scIsTest (fun vs H Q E h => ?_) (fun cdv A outer s H vs Q E hr h => ?_)
  · obtain ⟨k, t, rfl, _⟩ := h
    rfl
  · obtain ⟨k, t, rfl, hk, ht, q⟩ := h
    refine ⟨_, pss_cons (ps_set (i := 2) scIsTest.nd rfl (.inl rfl) (pe_ifExp (pt_cmpR op_eq (pv 0) (pe_glob (v := .str "answer") rfl T.g_ANSWER ⟨_, rfl⟩) (nomark _)) (pe_glob (v := .ref a_ANSWER_TESTS) rfl T.g_ANSWER_TESTS rfl) (pe_glob (v := .ref a_LETTER_TESTS) rfl T.g_LETTER_TESTS rfl)))
      (pss_one (ps_ret (pe_and (pe_callB call_isi (by rfl) T.n_isinstance (by decide +kernel) (pa_cons (pv 1) (pa_cons (pe_bltn (v := .ty "str") (by rfl) T.n_str (by decide +kernel) rfl) pa_nil))) (pe_one (pe_cmpR op_in_seq (pe_bm PySem.F.plainAttrs_str PySem.F.slot_str_removeprefix PySem.F.type_str_removeprefix mt_removeprefix (pv 1) (pa_cons (pe_glob (v := .str "not ") rfl T.g_NOT ⟨_, rfl⟩) pa_nil)) (pv 2) (by rfl)))))), ?_⟩
    have lt := testsNot_len ht
    have h1 : ∀ t ∈ testsL ++ testsL.map (("not " : Str) ++ ·), Txt.removeprefix t "not " ∈ testsL := by decide +kernel
    have h2 : ∀ t ∈ (["level"] : List Str) ++ (["level"] : List Str).map (("not " : Str) ++ ·), Txt.removeprefix t "not " ∈ (["level"] : List Str) := by decide +kernel
    refine ⟨_, rfl, rfl, _, rfl, ite2 (fun e => ?_) (fun e => ?_)⟩
    · have ek : k = "answer" := V.str.inj (of_decide_eq_true e)
      have ht2 : Txt.removeprefix t "not " ∈ (["level"] : List Str) := h2 t (by
        unfold testsNot testsOf at ht
        rw [if_pos ek] at ht
        exact ht)
      refine ⟨_, rfl, _, _, _, _, true, rfl, .ty _, .base (.str _), kit_ty (by decide +kernel), _, rfl, iteT ?_⟩
      refine ⟨_, rfl, rfl, _, _, rfl, rfl, size_of (by omega), _, rfl, _, _, rfl, .inr (T.s_ANSWER_TESTS _), rfl, flat_strs _, ?_⟩
      rw [inV_strs, decide_eq_true ht2]
      exact q
    · have ek : ¬ k = "answer" := fun z => e (decide_eq_true (by rw [z]))
      have ht2 : Txt.removeprefix t "not " ∈ testsL := h1 t (by
        unfold testsNot testsOf at ht
        rw [if_neg ek] at ht
        exact ht)
      refine ⟨_, rfl, _, _, _, _, true, rfl, .ty _, .base (.str _), kit_ty (by decide +kernel), _, rfl, iteT ?_⟩
      refine ⟨_, rfl, rfl, _, _, rfl, rfl, size_of (by omega), _, rfl, _, _, rfl, .inr (T.s_LETTER_TESTS _), rfl, flat_strs _, ?_⟩
      rw [inV_strs, decide_eq_true ht2]
      exact q
theorem ok_is_deed {f : Addr} {fd : FuncData} (F : Fun K "is_deed" "is_deed" sIsDeed f fd) (T : TxR K mg a_LETTERS a_LETTER_TESTS a_LETTER_DEEDS a_ANSWER_TESTS a_ANSWER_DEEDS CR tA tN) : FnOk P w K mg base CX0 1 f fd ["kind", "value"] spIsDeed := by
  refine F.ok scIsDeed (fun vs H Q E h => ?_) (fun cdv A outer s H vs Q E hr h => ?_)
  · obtain ⟨k, t, rfl, _⟩ := h
    rfl
  · obtain ⟨k, t, rfl, hk, ht, q⟩ := h
    refine ⟨_, pss_cons (ps_set (i := 2) scIsDeed.nd rfl (.inl rfl) (pe_ifExp (pt_cmpR op_eq (pv 0) (pe_glob (v := .str "answer") rfl T.g_ANSWER ⟨_, rfl⟩) (nomark _)) (pe_glob (v := .ref a_ANSWER_DEEDS) rfl T.g_ANSWER_DEEDS rfl) (pe_glob (v := .ref a_LETTER_DEEDS) rfl T.g_LETTER_DEEDS rfl)))
      (pss_one (ps_ret (pe_cmpR op_in_seq (pv 1) (pv 2) (by rfl)))), ?_⟩
    have h1 : ∀ t ∈ (["take", "take", "wipe"] : List Str), t ∈ (["take", "wipe"] : List Str) := by decide +kernel
    have h2 : ∀ t ∈ (["count", "count", "drop"] : List Str), t ∈ (["count", "drop"] : List Str) := by decide +kernel
    refine ⟨_, rfl, rfl, _, rfl, ite2 (fun e => ?_) (fun e => ?_)⟩
    · have ek : k = "answer" := V.str.inj (of_decide_eq_true e)
      have ht2 : t ∈ (["count", "drop"] : List Str) := h2 t (by
        unfold deedsOf at ht
        rw [if_pos ek] at ht
        exact ht)
      refine ⟨_, rfl, _, rfl, _, _, rfl, .inr (T.s_ANSWER_DEEDS _), rfl, flat_strs _, ?_⟩
      rw [inV_strs, decide_eq_true ht2]
      exact q
    · have ek : ¬ k = "answer" := fun z => e (decide_eq_true (by rw [z]))
      have ht2 : t ∈ (["take", "wipe"] : List Str) := h1 t (by
        unfold deedsOf at ht
        rw [if_neg ek] at ht
        exact ht)
      refine ⟨_, rfl, _, rfl, _, _, rfl, .inr (T.s_LETTER_DEEDS _), rfl, flat_strs _, ?_⟩
      rw [inV_strs, decide_eq_true ht2]
      exact q
theorem ok_rule_init {f fSeq fKind fTest fDeed : Addr} {fd fdSeq fdKind fdTest fdDeed : FuncData} {dvs : List V} {kws : List (Str × V)} (F : FunD K "__init__" "Rule.__init__" (defArgs sRuleInit) (defBody sRuleInit) (defScope sRuleInit) dvs kws f fd) (T : TxR K mg a_LETTERS a_LETTER_TESTS a_LETTER_DEEDS a_ANSWER_TESTS a_ANSWER_DEEDS CR tA tN)
    (D_is_sequence : Df K mg "is_sequence" sIsSequence ["value"] fSeq fdSeq) (D_is_kind : Df K mg "is_kind" sIsKind ["value"] fKind fdKind) (D_is_test : Df K mg "is_test" sIsTest ["kind", "value"] fTest fdTest) (D_is_deed : Df K mg "is_deed" sIsDeed ["kind", "value"] fDeed fdDeed) :
    FnOk P w K mg base CX0 2 f fd ["self", "kind", "tests", "deeds"] (spRuleInit K CR) := by
  have G_is_sequence : FnOk P w K mg base CX0 1 fSeq fdSeq ["value"] (spIsSeq K) := ok_is_sequence D_is_sequence.F T
  have G_is_kind : FnOk P w K mg base CX0 1 fKind fdKind ["value"] spIsKind := ok_is_kind D_is_kind.F T
  have G_is_test : FnOk P w K mg base CX0 1 fTest fdTest ["kind", "value"] spIsTest := ok_is_test D_is_test.F T
  have G_is_deed : FnOk P w K mg base CX0 1 fDeed fdDeed ["kind", "value"] spIsDeed := ok_is_deed D_is_deed.F T
  refine FunD_ok0 F scRuleInit (fun vs H Q E h => ?_) (fun cdv A outer s H vs Q E hr h => ?_)
  · obtain ⟨p, t, d, dx, r, rfl, _⟩ := h
    rfl
  · obtain ⟨p, t, d, dx, r, rfl, hp, hT, hD, G, q⟩ := h
    refine ⟨_, pss_cons (ps_if (pt_not (pt_val (pe_call G_is_kind (hr.mono (by decide)) rfl D_is_kind.g D_is_kind.F.kp D_is_kind.b .nil pass0 (pa_cons (pv 1) pa_nil)))) (pss_one ps_never) pss_nil)
      (pss_cons (ps_if (PW.pt (pw_or (pt_not (pt_val (pe_call G_is_sequence (hr.mono (by decide)) rfl D_is_sequence.g D_is_sequence.F.kp D_is_sequence.b .nil pass0 (pa_cons (pv 2) pa_nil)))) (pw_or1 (pt_not (pt_val (pe_callB (cr_all rfl) (by rfl) T.n_all (by decide +kernel) (pa_cons (pe_lc (own := [("test", 5)]) (g := gName 5) (tt := tYes) rfl scRuleInit.nd (pi_both (pv 2)) (blkOk_by (own := [("test", 5)]) (N := ["self", "kind", "tests", "deeds", "deed", "test"]) (sc := defScope sRuleInit) (by decide +kernel)) (fun _ _ _ _ _ => (pg_name (i := 5) scRuleInit.nd rfl (Or.inl rfl))) (fun _ _ _ _ _ => pts_nil) (fun _ _ _ _ _ => (pe_call G_is_test (hr.mono (by decide)) rfl D_is_test.g D_is_test.F.kp D_is_test.b .nil pass0 (pa_cons (pv 1) (pa_cons (pv 5) pa_nil))))) pa_nil))))))) (pss_one ps_never) pss_nil)
      (pss_cons (ps_if (PW.pt (pw_or (pt_not (pt_val (pe_call G_is_sequence (hr.mono (by decide)) rfl D_is_sequence.g D_is_sequence.F.kp D_is_sequence.b .nil pass0 (pa_cons (pv 3) pa_nil)))) (pw_or1 (pt_not (pt_val (pe_callB (cr_all rfl) (by rfl) T.n_all (by decide +kernel) (pa_cons (pe_lc (own := [("deed", 4)]) (g := gName 4) (tt := tYes) rfl scRuleInit.nd (pi_both (pv 3)) (blkOk_by (own := [("deed", 4)]) (N := ["self", "kind", "tests", "deeds", "deed", "test"]) (sc := defScope sRuleInit) (by decide +kernel)) (fun _ _ _ _ _ => (pg_name (i := 4) scRuleInit.nd rfl (Or.inl rfl))) (fun _ _ _ _ _ => pts_nil) (fun _ _ _ _ _ => (pe_call G_is_deed (hr.mono (by decide)) rfl D_is_deed.g D_is_deed.F.kp D_is_deed.b .nil pass0 (pa_cons (pv 1) (pa_cons (pv 4) pa_nil))))) pa_nil))))))) (pss_one ps_never) pss_nil)
      (pss_cons (ps_fld (pv 0) (pv 1) rfl)
      (pss_cons (ps_fld (pv 0) (pe_callTy call_tuple_any (by rfl) T.n_tuple (by decide +kernel) (pa_cons (pv 2) pa_nil)) rfl)
      (pss_one (ps_fld (pv 0) (pe_callTy call_tuple_any (by rfl) T.n_tuple (by decide +kernel) (pa_cons (pv 3) pa_nil)) rfl)))))), ?_⟩
    refine ⟨_, rfl, _, rfl, _, rfl, ?_⟩
    rw [decide_eq_true G.k]
    refine iteF ?_
    have lT : (r.ts.map V.str).length ≤ 40000 := by rw [List.length_map]; exact Nat.le_trans G.nt (by decide)
    have lD : (r.ds.map V.str).length ≤ 40000 := by rw [List.length_map]; exact Nat.le_trans G.nd (by decide)
    have exB : ∀ {H H' : Hp} {a : Addr} {xs : List V}, Ex H H' → (SqL K H a xs ∨ SqT K H a xs) → (SqL K H' a xs ∨ SqT K H' a xs) := fun e h => h.imp (Evl.ex_l e) (Evl.ex_t e)
    refine Evl.q_when (b := false) (Evl.et_is (Evl.et_or (Evl.et_not (Evl.et_B (ev_call (v := .bl true) (Evl.ea_cons (Evl.ev_var rfl) Evl.ea_nil) fun H1 e1 Q1 q1 => ⟨t, _, rfl, exB e1 hT, fun H2 e2 => q1 H2 e2⟩)))
      (fun _ => Evl.et_not (Evl.et_B (ev_all (bs := List.replicate (r.ts.map V.str).length true) ?_)))) (by rw [all_true]; rfl)) (fun z => nomatch z) (fun _ H1 e1 => ?_)
    · rw [← range_true]
      refine el_lcB (fun _ => .bl true) (Evl.ev_var rfl) hT lT (fun x => rfl) (fun i x H2 e2 hi => ?_)
      obtain ⟨y, rfl, hy⟩ := strs_at hi
      exact ev_call (Evl.ea_cons (Evl.ev_var rfl) (Evl.ea_cons (Evl.ev_var rfl) Evl.ea_nil)) fun H3 e3 Q3 q3 => ⟨r.k, y, rfl, G.k, G.ts y (List.mem_of_getElem? hy), q3 H3 (Ex.refl _)⟩
    refine Evl.q_when (b := false) (Evl.et_is (Evl.et_or (Evl.et_not (Evl.et_B (ev_call (v := .bl true) (Evl.ea_cons (Evl.ev_var rfl) Evl.ea_nil) fun H2 e2 Q1 q1 => ⟨d, _, rfl, exB (e1.trans e2) hD, fun H3 e3 => q1 H3 e3⟩)))
      (fun _ => Evl.et_not (Evl.et_B (ev_all (bs := List.replicate (r.ds.map V.str).length true) ?_)))) (by rw [all_true]; rfl)) (fun z => nomatch z) (fun _ H2 e2 => ?_)
    · rw [← range_true]
      refine el_lcB (fun _ => .bl true) (Evl.ev_var rfl) (exB e1 hD) lD (fun x => rfl) (fun i x H2 e2 hi => ?_)
      obtain ⟨y, rfl, hy⟩ := strs_at hi
      exact ev_call (Evl.ea_cons (Evl.ev_var rfl) (Evl.ea_cons (Evl.ev_var rfl) Evl.ea_nil)) fun H3 e3 Q3 q3 => ⟨r.k, y, rfl, G.k, G.ds y (List.mem_of_getElem? hy), q3 H3 (Ex.refl _)⟩
    -- the fields
    have e12 := e1.trans e2
    have ntp : ∀ {H' : Hp} {a : Addr} {xs : List V} {fs : List (Str × V)}, H' p = some (.ins CR dx fs) → SqT K H' a xs → ∀ o, SqT K (upd H' p o) a xs := by
      intro H' a xs fs hp' h o
      rcases h with (h | ⟨u, h⟩) | h
      · exact .inl (.inl (by rw [upd_ne (ne_of h hp' (fun z => nomatch z))]; exact h))
      · exact .inl (.inr ⟨u, by rw [upd_ne (ne_of h hp' (fun z => nomatch z))]; exact h⟩)
      · exact .inr h
    have ntl : ∀ {H' : Hp} {a : Addr} {xs : List V} {fs : List (Str × V)}, H' p = some (.ins CR dx fs) → SqL K H' a xs → ∀ o, SqL K (upd H' p o) a xs := by
      intro H' a xs fs hp' h o
      rcases h with (h | ⟨u, h⟩) | h
      · exact .inl (.inl (by rw [upd_ne (ne_of h hp' (fun z => nomatch z))]; exact h))
      · exact .inl (.inr ⟨u, by rw [upd_ne (ne_of h hp' (fun z => nomatch z))]; exact h⟩)
      · exact .inr h
    have hp2 := e12 _ _ hp
    refine ⟨_, rfl, _, rfl, p, CR, dx, _, rfl, hp2, T.cl, T.nK, (by show 0 < 1000; decide), ?_⟩
    have hT2 := (exB e12 hT).imp (fun h => ntl hp2 h (.ins CR dx (putF "kind" (.str r.k) []))) (fun h => ntp hp2 h (.ins CR dx (putF "kind" (.str r.k) [])))
    have hD2 := (exB e12 hD).imp (fun h => ntl hp2 h (.ins CR dx (putF "kind" (.str r.k) []))) (fun h => ntp hp2 h (.ins CR dx (putF "kind" (.str r.k) [])))
    refine ⟨_, rfl, t, _, rfl, hT2, fun t2 H3 e3 s3 => ?_⟩
    have hp3 := e3 _ _ upd_same
    refine ⟨_, rfl, p, CR, dx, _, rfl, hp3, T.cl, T.nT, (by show 1 < 1000; decide), ?_⟩
    have hD3 := (exB e3 hD2).imp (fun h => ntl hp3 h (.ins CR dx (putF "tests" (.ref t2) (putF "kind" (.str r.k) [])))) (fun h => ntp hp3 h (.ins CR dx (putF "tests" (.ref t2) (putF "kind" (.str r.k) []))))
    have s3' := ntp hp3 s3 (.ins CR dx (putF "tests" (.ref t2) (putF "kind" (.str r.k) [])))
    refine ⟨_, rfl, d, _, rfl, hD3, fun d2 H4 e4 s4 => ?_⟩
    have hp4 := e4 _ _ upd_same
    refine ⟨_, rfl, p, CR, dx, _, rfl, hp4, T.cl, T.nD, (by show 2 < 1000; decide), ?_⟩
    refine q _ (fun b o hb hh => ?_) ⟨dx, t2, d2, upd_same, ntp hp4 (Evl.ex_t e4 s3') _, ntp hp4 s4 _⟩
    rw [upd_ne hb]
    refine e4 _ _ ?_
    rw [upd_ne hb]
    refine e3 _ _ ?_
    rw [upd_ne hb]
    exact e12 _ _ hh
/-! ### rules as texts, rules compared -/
theorem rf_k (k : Str) (t d : Addr) : (rf k t d).lookup ("kind" : Str) = some (.str k) := by
  unfold rf
  rw [lookup_putF, if_neg (by decide +kernel), lookup_putF, if_neg (by decide +kernel), lookup_putF, if_pos rfl]
theorem rf_t (k : Str) (t d : Addr) : (rf k t d).lookup ("tests" : Str) = some (.ref t) := by
  unfold rf
  rw [lookup_putF, if_neg (by decide +kernel), lookup_putF, if_pos rfl]
theorem rf_d (k : Str) (t d : Addr) : (rf k t d).lookup ("deeds" : Str) = some (.ref d) := by
  unfold rf
  rw [lookup_putF, if_pos rfl]
theorem sum_small : ∀ (l : List Str) (n : Nat), (∀ x ∈ l, x.length ≤ n) → (l.map (·.length)).sum ≤ l.length * n
  | [], _, _ => Nat.zero_le _
  | x :: r, n, h => by
    have ih := sum_small r n fun y hy => h y (List.mem_cons_of_mem _ hy)
    have hx := h x (List.mem_cons_self ..)
    rw [List.map_cons, List.sum_cons, List.length_cons, Nat.succ_mul]
    omega
theorem join_len (sep : Str) : ∀ l : List Str, (Str.join sep l).length ≤ (l.map (·.length)).sum + l.length * sep.length
  | [] => Nat.zero_le _
  | [x] => by
    show x.length ≤ ([x].map (·.length)).sum + 1 * sep.length
    rw [List.map_cons, List.sum_cons]
    omega
  | x :: y :: r => by
    have ih := join_len sep (y :: r)
    show (x ++ sep ++ Str.join sep (y :: r)).length ≤ _
    rw [Str.length_append, Str.length_append, List.map_cons, List.sum_cons, List.length_cons, Nat.succ_mul]
    omega
theorem join_small {sep : Str} {l : List Str} (h : ∀ x ∈ l, x.length ≤ 16) (hs : sep.length ≤ 6) (hl : l.length ≤ 1000) : (l.map (·.length)).sum + l.length * sep.length ≤ 16777216 ∧ (Str.join sep l).length ≤ 30000 := by
  have h1 := sum_small l 16 h
  have h2 := join_len sep l
  have h3 : l.length * 16 ≤ 1000 * 16 := Nat.mul_le_mul_right _ hl
  have h4 : l.length * sep.length ≤ 1000 * 6 := Nat.mul_le_mul hl hs
  omega
def tText (ts : List Str) : Str := if ts = [] then "" else (" if " : Str) ++ Str.join " and " ts
def dText (ds : List Str) : Str := if ds = [] then "" else (" do " : Str) ++ Str.join " then " ds
def ruleText (r : RuleD) : Str := ("on " : Str) ++ r.k ++ tText r.ts ++ dText r.ds
theorem rule_text_eq (r : RuleD) : Str.join " " ((("on " : Str) ++ r.k) :: ((if r.ts = [] then [] else [("if " : Str) ++ Str.join " and " r.ts]) ++ (if r.ds = [] then [] else [("do " : Str) ++ Str.join " then " r.ds]))) = ruleText r := by
  have e1 : ∀ z : Str, (" " : Str) ++ (("if " : Str) ++ z) = (" if " : Str) ++ z := fun z => by
    rw [← Str.append_assoc]
    have : (" " : Str) ++ ("if " : Str) = (" if " : Str) := by decide +kernel
    rw [this]
  have e2 : ∀ z : Str, (" " : Str) ++ (("do " : Str) ++ z) = (" do " : Str) ++ z := fun z => by
    rw [← Str.append_assoc]
    have : (" " : Str) ++ ("do " : Str) = (" do " : Str) := by decide +kernel
    rw [this]
  have e0 : ("" : Str) = Str.empty := by decide +kernel
  unfold ruleText tText dText
  by_cases ht : r.ts = []
  · by_cases hd : r.ds = []
    · rw [if_pos ht, if_pos hd, if_pos ht, if_pos hd, e0, Str.append_empty, Str.append_empty]
      rfl
    · rw [if_pos ht, if_neg hd, if_pos ht, if_neg hd, e0, Str.append_empty]
      show ("on " : Str) ++ r.k ++ " " ++ (("do " : Str) ++ Str.join " then " r.ds) = _
      rw [Str.append_assoc, e2]
  · by_cases hd : r.ds = []
    · rw [if_neg ht, if_pos hd, if_neg ht, if_pos hd, e0, Str.append_empty]
      show ("on " : Str) ++ r.k ++ " " ++ (("if " : Str) ++ Str.join " and " r.ts) = _
      rw [Str.append_assoc, e1]
    · rw [if_neg ht, if_neg hd, if_neg ht, if_neg hd]
      show ("on " : Str) ++ r.k ++ " " ++ (("if " : Str) ++ Str.join " and " r.ts ++ " " ++ (("do " : Str) ++ Str.join " then " r.ds)) = _
      simp only [Str.append_assoc, e1, e2]
def spRuleEq (K : PySem.W.Frag) (C : Addr) : Sp := fun vs H Q _ => ∃ (p q : Addr) (r u : RuleD), vs = [.ref p, .ref q] ∧ RuleObj K C H p r ∧ RuleObj K C H q u ∧ r.Good ∧ u.Good ∧ ∀ H', Ex H H' → Q (.bl (decide (r.k = u.k) && (decide (r.ts = u.ts) && decide (r.ds = u.ds)))) H'
def spRuleStr (K : PySem.W.Frag) (C : Addr) : Sp := fun vs H Q _ => ∃ (p : Addr) (r : RuleD), vs = [.ref p] ∧ RuleObj K C H p r ∧ r.Good ∧ ∀ H', Ex H H' → Q (.str (ruleText r)) H'
abbrev sRuleEq : Stmt := inClass (topS 18) 2
theorem scRuleEq : FnScope ["self", "other"] ["self", "other"] (defScope sRuleEq) := ⟨rfl, rfl, rfl, by decide +kernel, rfl, by decide +kernel, by decide +kernel⟩
abbrev sRuleStr : Stmt := inClass (topS 18) 3
theorem scRuleStr : FnScope ["self", "parts"] ["self"] (defScope sRuleStr) := ⟨rfl, rfl, rfl, by decide +kernel, rfl, by decide +kernel, by decide +kernel⟩
theorem ok_rule_eq {f : Addr} {fd : FuncData} (F : Fun K "__eq__" "Rule.__eq__" sRuleEq f fd) (T : TxR K mg a_LETTERS a_LETTER_TESTS a_LETTER_DEEDS a_ANSWER_TESTS a_ANSWER_DEEDS CR tA tN) : FnOk P w K mg base CX0 1 f fd ["self", "other"] (spRuleEq K CR) := by
  refine F.ok scRuleEq (fun vs H Q E h => ?_) (fun cdv A outer s H vs Q E hr h => ?_)
  · obtain ⟨p, q, r, u, rfl, _⟩ := h
    rfl
  · obtain ⟨p, q, r, u, rfl, ⟨dx, t, d, hp, ht, hd⟩, ⟨dx2, t2, d2, hp2, ht2, hd2⟩, G, G2, k⟩ := h
    refine ⟨_, pss_one (ps_ret (pe_and (pe_callB call_isi (by rfl) T.n_isinstance (by decide +kernel) (pa_cons (pv 1) (pa_cons (pe_glob (v := .ref CR) rfl T.g_Rule rfl) pa_nil))) (pe_and (pe_cmpR op_eq (pe_fld (pv 0) rfl) (pe_fld (pv 1) rfl) (nomark _)) (pe_and (pe_cmpR (op_eqD hr.units) (pe_fld (pv 0) rfl) (pe_fld (pv 1) rfl) (nomark _)) (pe_one (pe_cmpR (op_eqD hr.units) (pe_fld (pv 0) rfl) (pe_fld (pv 1) rfl) (nomark _))))))), ?_⟩
    refine Evl.s_ret (v := .bl (true && (decide (r.k = u.k) && (decide (r.ts = u.ts) && decide (r.ds = u.ds))))) ?_ fun H2 e2 => k H2 e2
    refine Evl.ev_andV (ev_isi (Evl.ea_cons (Evl.ev_var rfl) (Evl.ea_cons Evl.ev_c Evl.ea_nil)) (.own CR) (fun H1 e1 => .base (.ins (e1 _ _ hp2) T.cl T.ci T.cs T.ct T.co)) (by simp [PySem.W.kitOne])) (fun _ => ?_)
    refine Evl.ev_andV (Evl.ev_is (Evl.ev_op (ev_fld (Evl.ev_var rfl) hp T.cl T.nK (rf_k _ _ _)) (ev_fld (Evl.ev_var rfl) hp2 T.cl T.nK (rf_k _ _ _)) (Evl.rv_eq (x := .str r.k) (y := .str u.k) rfl)) (by simp)) (fun _ => ?_)
    refine Evl.ev_andV (Evl.ev_op (ev_fld (Evl.ev_var rfl) hp T.cl T.nT (rf_t _ _ _)) (ev_fld (Evl.ev_var rfl) hp2 T.cl T.nT (rf_t _ _ _)) (rv_eqT G.pt G2.pt ht ht2)) (fun _ => ?_)
    exact Evl.ev_op (ev_fld (Evl.ev_var rfl) hp T.cl T.nD (rf_d _ _ _)) (ev_fld (Evl.ev_var rfl) hp2 T.cl T.nD (rf_d _ _ _)) (rv_eqT G.pd G2.pd hd hd2)
theorem ok_rule_str {f : Addr} {fd : FuncData} (F : Fun K "__str__" "Rule.__str__" sRuleStr f fd) (T : TxR K mg a_LETTERS a_LETTER_TESTS a_LETTER_DEEDS a_ANSWER_TESTS a_ANSWER_DEEDS CR tA tN) : FnOk P w K mg base CX0 1 f fd ["self"] (spRuleStr K CR) := by
  refine F.ok scRuleStr (fun vs H Q E h => ?_) (fun cdv A outer s H vs Q E hr h => ?_)
  · obtain ⟨p, r, rfl, _⟩ := h
    rfl
  · obtain ⟨p, r, rfl, ⟨dx, t, d, hp, ht, hd⟩, G, k⟩ := h
    refine ⟨_, pss_cons (ps_set (i := 1) scRuleStr.nd rfl (.inl rfl) (pe_lst (pa_cons (pe_joined (.cons pe_str (.cons (pe_fmt (pe_fld (pv 0) rfl)) .nil))) pa_nil)))
      (pss_cut (ps_if (pt_truth (pe_fld (pv 0) rfl) (by intro _; rfl)) (pss_one (ps_expr (pe_bm PySem.F.plainAttrs_list PySem.F.slot_list_append PySem.F.type_list_append mt_append (pv 1) (pa_cons (pe_op op_add_str pe_str (pe_join pe_str (pe_fld (pv 0) rfl))) pa_nil)))) pss_nil)
      (pss_cut (ps_if (pt_truth (pe_fld (pv 0) rfl) (by intro _; rfl)) (pss_one (ps_expr (pe_bm PySem.F.plainAttrs_list PySem.F.slot_list_append PySem.F.type_list_append mt_append (pv 1) (pa_cons (pe_op op_add_str pe_str (pe_join pe_str (pe_fld (pv 0) rfl))) pa_nil)))) pss_nil)
      (pss_one (ps_ret (pe_join pe_str (pv 1)))))), ?_⟩
    have lk := kinds_len G.k
    refine ⟨_, rfl, by decide, ?_⟩
    refine ⟨_, rfl, p, CR, dx, _, _, rfl, hp, T.cl, T.nK, rf_k _ _ _, .inl ⟨r.k, rfl, size_of (by omega), r.k, rfl, ?_, ?_⟩⟩
    · show (Str.empty ++ Str.ofString "on " ++ r.k).length ≤ sizeLine
      rw [Str.length_append]
      have e3 : (Str.empty ++ Str.ofString "on ").length = 3 := by decide +kernel
      exact size_of (by omega)
    refine ⟨by show 1 ≤ sizeLine; decide, fun l nl => ?_⟩
    have eo : Str.empty ++ Str.ofString "on " ++ r.k = ("on " : Str) ++ r.k := by rw [Str.empty_append]
    rw [eo]
    -- the tests
    have e2 : Ex H (upd H l (.lst [.str (("on " : Str) ++ r.k)])) := Ex.new nl
    let pT : List Str := if r.ts = [] then [] else [("if " : Str) ++ Str.join " and " r.ts]
    let pD : List Str := if r.ds = [] then [] else [("do " : Str) ++ Str.join " then " r.ds]
    refine ⟨fun σ H2 => σ = [some (.ref p), some (.ref l)] ∧ Ex H H2 ∧ H2 l = some (.lst (((("on " : Str) ++ r.k) :: pT).map V.str)), ?_, ?_⟩
    · refine ⟨_, rfl, p, CR, dx, _, _, rfl, e2 _ _ hp, T.cl, T.nT, rf_t _ _ _, !(r.ts.map V.str).isEmpty, .inr (.inl ⟨_, Evl.ex_t e2 ht, rfl⟩), ?_⟩
      by_cases h0 : r.ts = []
      · have hpT : pT = [] := if_pos h0
        rw [h0, hpT]
        exact iteF ⟨rfl, e2, upd_same⟩
      · have hpT : pT = [("if " : Str) ++ Str.join " and " r.ts] := if_neg h0
        rw [show (!(r.ts.map V.str).isEmpty) = true by simp [h0], hpT]
        refine iteT ?_
        have lj := join_small (sep := " and ") (l := r.ts) (fun x hx => testsNot_len (G.ts x hx)) (by decide) G.nt
        refine ⟨_, rfl, .inl ⟨rfl, _, SqL.of upd_same⟩, ⟨_, rfl⟩, _, rfl, p, CR, dx, _, _, rfl, e2 _ _ hp, T.cl, T.nT, rf_t _ _ _, _, t, r.ts, rfl, rfl, .inr (Evl.ex_t e2 ht), lj.1, _, _, rfl, rfl, ?_, l, _, _, rfl, rfl, upd_same, by show 1 < sizeLine; decide, ?_⟩
        · rw [TL.join_eq]
          have e3 : (Str.ofString "if ").length = 3 := by decide +kernel
          exact size_of (by omega)
        · rw [TL.join_eq]
          exact ⟨rfl, e2.mut nl, upd_same⟩
    · rintro σ H2 ⟨rfl, e3, hl⟩
      refine ⟨fun σ H3 => σ = [some (.ref p), some (.ref l)] ∧ Ex H H3 ∧ H3 l = some (.lst (((("on " : Str) ++ r.k) :: (pT ++ pD)).map V.str)), ?_, ?_⟩
      · refine ⟨_, rfl, p, CR, dx, _, _, rfl, e3 _ _ hp, T.cl, T.nD, rf_d _ _ _, !(r.ds.map V.str).isEmpty, .inr (.inl ⟨_, Evl.ex_t e3 hd, rfl⟩), ?_⟩
        by_cases h0 : r.ds = []
        · have hpD : pD = [] := if_pos h0
          rw [h0, hpD, List.append_nil]
          exact iteF ⟨rfl, e3, hl⟩
        · have hpD : pD = [("do " : Str) ++ Str.join " then " r.ds] := if_neg h0
          rw [show (!(r.ds.map V.str).isEmpty) = true by simp [h0], hpD]
          refine iteT ?_
          have lj := join_small (sep := " then ") (l := r.ds) (fun x hx => deedsOf_len (G.ds x hx)) (by decide) G.nd
          have lpT : pT.length ≤ 1 := by
            show (if r.ts = [] then [] else [("if " : Str) ++ Str.join " and " r.ts]).length ≤ 1
            split
            · decide
            · exact Nat.le_refl _
          refine ⟨_, rfl, .inl ⟨rfl, _, SqL.of hl⟩, ⟨_, rfl⟩, _, rfl, p, CR, dx, _, _, rfl, e3 _ _ hp, T.cl, T.nD, rf_d _ _ _, _, d, r.ds, rfl, rfl, .inr (Evl.ex_t e3 hd), lj.1, _, _, rfl, rfl, ?_, l, _, _, rfl, rfl, hl, ?_, ?_⟩
          · rw [TL.join_eq]
            have e3 : (Str.ofString "do ").length = 3 := by decide +kernel
            exact size_of (by omega)
          · rw [List.length_map, List.length_cons]
            exact small1000 (by omega)
          · rw [TL.join_eq]
            refine ⟨rfl, e3.mut nl, ?_⟩
            rw [upd_same, List.map_cons, List.map_cons, List.map_append]
            rfl
      · rintro σ H3 ⟨rfl, e4, hl⟩
        refine ⟨⟨_, rfl⟩, _, rfl, _, l, _, rfl, rfl, .inl (SqL.of hl), ?_, ?_⟩
        · show ((((("on " : Str) ++ r.k) :: (pT ++ pD))).map (·.length)).sum + (((("on " : Str) ++ r.k) :: (pT ++ pD))).length * (Str.ofString " ").length ≤ 16777216
          have h1 : ∀ x ∈ ((("on " : Str) ++ r.k) :: (pT ++ pD)), x.length ≤ 40000 := by
            intro x hx
            rcases List.mem_cons.mp hx with rfl | hx
            · rw [Str.length_append]
              have e3 : (Str.ofString "on ").length = 3 := by decide +kernel
              omega
            · rcases List.mem_append.mp hx with hx | hx
              · have hx' : x ∈ (if r.ts = [] then [] else [("if " : Str) ++ Str.join " and " r.ts] : List Str) := hx
                split at hx'
                · cases hx'
                · rw [List.mem_singleton.mp hx', Str.length_append]
                  have lj := join_small (sep := " and ") (l := r.ts) (fun x hx => testsNot_len (G.ts x hx)) (by decide) G.nt
                  have e3 : (Str.ofString "if ").length = 3 := by decide +kernel
                  omega
              · have hx' : x ∈ (if r.ds = [] then [] else [("do " : Str) ++ Str.join " then " r.ds] : List Str) := hx
                split at hx'
                · cases hx'
                · rw [List.mem_singleton.mp hx', Str.length_append]
                  have lj := join_small (sep := " then ") (l := r.ds) (fun x hx => deedsOf_len (G.ds x hx)) (by decide) G.nd
                  have e3 : (Str.ofString "do ").length = 3 := by decide +kernel
                  omega
          have h2 := sum_small _ 40000 h1
          have h3 : (((("on " : Str) ++ r.k) :: (pT ++ pD))).length ≤ 3 := by
            have a1 : pT.length ≤ 1 := by
              show (if r.ts = [] then [] else [("if " : Str) ++ Str.join " and " r.ts] : List Str).length ≤ 1
              split
              · decide
              · exact Nat.le_refl _
            have a2 : pD.length ≤ 1 := by
              show (if r.ds = [] then [] else [("do " : Str) ++ Str.join " then " r.ds] : List Str).length ≤ 1
              split
              · decide
              · exact Nat.le_refl _
            rw [List.length_cons, List.length_append]
            omega
          have e1 : (Str.ofString " ").length = 1 := by decide +kernel
          rw [e1]
          omega
        · rw [TL.join_eq]
          have e : Str.join " " ((("on " : Str) ++ r.k) :: (pT ++ pD)) = ruleText r := rule_text_eq r
          rw [e]
          exact k H3 e4
/-! ### a drawn rule's text, by the law's own words -/
def spRuleText (K : PySem.W.Frag) : Sp := fun vs H Q _ => ∃ (p t d : Addr) (r : RuleD), vs = [.ref p] ∧ SqT K H p [.str r.k, .ref t, .ref d] ∧ SqT K H t (r.ts.map V.str) ∧ SqT K H d (r.ds.map V.str) ∧ r.Good ∧ ∀ H', Ex H H' → Q (.str (ruleText r)) H'
abbrev sRuleText : Stmt := topS 30
theorem scRuleText : FnScope ["_law_rule", "_law_text_here"] ["_law_rule"] (defScope sRuleText) := ⟨rfl, rfl, rfl, by decide +kernel, rfl, by decide +kernel, by decide +kernel⟩
theorem tText_len {ts : List Str} (h : ∀ x ∈ ts, x.length ≤ 16) (hl : ts.length ≤ 1000) : (tText ts).length ≤ 30010 := by
  unfold tText
  split
  · decide
  · have lj := join_small (sep := " and ") h (by decide) hl
    rw [Str.length_append]
    have e3 : (Str.ofString " if ").length = 4 := by decide +kernel
    omega
theorem dText_len {ds : List Str} (h : ∀ x ∈ ds, x.length ≤ 16) (hl : ds.length ≤ 1000) : (dText ds).length ≤ 30010 := by
  unfold dText
  split
  · decide
  · have lj := join_small (sep := " then ") h (by decide) hl
    rw [Str.length_append]
    have e3 : (Str.ofString " do ").length = 4 := by decide +kernel
    omega
theorem ok_rule_text {f : Addr} {fd : FuncData} (F : Fun K "_law_rule_text" "_law_rule_text" sRuleText f fd) : FnOk P w K mg base CX0 1 f fd ["_law_rule"] (spRuleText K) := by
  refine F.ok scRuleText (fun vs H Q E h => ?_) (fun cdv A outer s H vs Q E hr h => ?_)
  · obtain ⟨p, t, d, r, rfl, _⟩ := h
    rfl
  · obtain ⟨p, t, d, r, rfl, hp, ht, hd, G, k⟩ := h
    refine ⟨_, pss_cons (ps_set (i := 1) scRuleText.nd rfl (.inl rfl) (pe_op op_add_str (pe_op op_add_str pe_str (pe_ix ix_tup (pv 0) pe_int (fun _ _ => rfl))) (pe_ifExp (pt_cmpR (op_neD hr.units) (pe_ix ix_tup (pv 0) pe_int (fun _ _ => rfl)) (pe_tup pa_nil) (nomark _)) (pe_op op_add_str pe_str (pe_join pe_str (pe_ix ix_tup (pv 0) pe_int (fun _ _ => rfl)))) pe_str)))
      (pss_one (ps_ret (pe_op op_add_str (pv 1) (pe_ifExp (pt_cmpR (op_neD hr.units) (pe_ix ix_tup (pv 0) pe_int (fun _ _ => rfl)) (pe_tup pa_nil) (nomark _)) (pe_op op_add_str pe_str (pe_join pe_str (pe_ix ix_tup (pv 0) pe_int (fun _ _ => rfl)))) pe_str)))), ?_⟩
    have lk := kinds_len G.k
    have lt := tText_len (fun x hx => testsNot_len (G.ts x hx)) G.nt
    have ld := dText_len (fun x hx => deedsOf_len (G.ds x hx)) G.nd
    have jt := join_small (sep := " and ") (fun x hx => testsNot_len (G.ts x hx)) (by decide) G.nt
    have jd := join_small (sep := " then ") (fun x hx => deedsOf_len (G.ds x hx)) (by decide) G.nd
    have n3 : (Str.ofString "on ").length = 3 := by decide +kernel
    have n4 : (Str.ofString " if ").length = 4 := by decide +kernel
    have n5 : (Str.ofString " do ").length = 4 := by decide +kernel
    have no : Plain ([] : List Str) := fun x hx => nomatch hx
    refine Evl.q_asg (v := .str (("on " : Str) ++ r.k ++ tText r.ts)) ?_ fun H1 e1 => ?_
    · refine ev_adds (ev_adds Evl.ev_c (ev_ixT (j := 0) (Evl.ev_var rfl) Evl.ev_c hp rfl) (size_of (by omega))) ?_ (size_of (by rw [Str.length_append]; omega))
      refine Evl.ev_if (b := !decide (r.ts = [])) (Evl.et_test (Evl.ev_opU (ev_ixT (j := 1) (Evl.ev_var rfl) Evl.ev_c hp rfl) (Evl.eu_tup Evl.ea_nil (Nat.zero_le _)) fun q H2 hq e2 => rv_neT G.pt no (Evl.ex_t e2 ht) (Evl.st_of hq))) (fun hb => ?_) (fun hb => ?_)
      · have h0 : ¬ r.ts = [] := fun z => by
          rw [z] at hb
          cases hb
        unfold tText
        rw [if_neg h0]
        exact ev_adds Evl.ev_c (ev_join Evl.ev_c (ev_ixT (j := 1) (Evl.ev_var rfl) Evl.ev_c hp rfl) (.inr ht) jt.1) (size_of (by omega))
      · have h0 : r.ts = [] := by simpa using hb
        unfold tText
        rw [if_pos h0]
        exact Evl.ev_c
    · refine Evl.s_ret (v := .str (ruleText r)) ?_ fun H2 e2 => k H2 (e1.trans e2)
      refine ev_adds (Evl.ev_var rfl) ?_ (size_of (by rw [Str.length_append, Str.length_append]; omega))
      refine Evl.ev_if (b := !decide (r.ds = [])) (Evl.et_test (Evl.ev_opU (ev_ixT (j := 2) (Evl.ev_var rfl) Evl.ev_c (Evl.ex_t e1 hp) rfl) (Evl.eu_tup Evl.ea_nil (Nat.zero_le _)) fun q H2 hq e2 => rv_neT G.pd no (Evl.ex_t (e1.trans e2) hd) (Evl.st_of hq))) (fun hb => ?_) (fun hb => ?_)
      · have h0 : ¬ r.ds = [] := fun z => by
          rw [z] at hb
          cases hb
        unfold dText
        rw [if_neg h0]
        exact ev_adds Evl.ev_c (ev_join Evl.ev_c (ev_ixT (j := 2) (Evl.ev_var rfl) Evl.ev_c (Evl.ex_t e1 hp) rfl) (.inr (Evl.ex_t e1 hd)) jd.1) (size_of (by omega))
      · have h0 : r.ds = [] := by simpa using hb
        unfold dText
        rw [if_pos h0]
        exact Evl.ev_c
end
end Ov

namespace Ov
open PySem L2 TL
/-! ### texts are read back: no separator begins within what stands ahead of it -/
/-- nowhere in l do these three signs stand -/
def clean3 (s a b : Nat) : List Nat → Bool
  | [] => true
  | x :: r => !(pre [s, a, b] (x :: r)) && clean3 s a b r
theorem clean3_at {s a b : Nat} : ∀ {l : List Nat}, clean3 s a b l = true → ∀ i, pre [s, a, b] (l.drop i) = false
  | [], _, i => by
    rw [List.drop_nil]
    rfl
  | x :: r, h, 0 => by
    have h1 := (Bool.and_eq_true_iff.mp h).1
    simpa using h1
  | x :: r, h, i + 1 => clean3_at (l := r) (Bool.and_eq_true_iff.mp h).2 i
theorem pre3 {s a b : Nat} {l : List Nat} : pre [s, a, b] l = true ↔ ∃ r, l = s :: a :: b :: r := by
  unfold pre
  constructor
  · intro h
    have e : l.take 3 = [s, a, b] := eq_of_beq h
    exact ⟨l.drop 3, by rw [← List.take_append_drop 3 l, e]; simp⟩
  · rintro ⟨r, rfl⟩
    simp
/-- what begins with the separator's first sign may stand behind -/
theorem clean3_app {s a b : Nat} (ha : a ≠ s) (hb : b ≠ s) : ∀ {x y : List Nat}, clean3 s a b x = true → clean3 s a b y = true → (y = [] ∨ ∃ z, y = s :: z) → clean3 s a b (x ++ y) = true
  | [], y, _, hy, _ => hy
  | c :: x, y, hx, hy, h => by
    obtain ⟨h1, h2⟩ := Bool.and_eq_true_iff.mp hx
    have ih := clean3_app ha hb h2 hy h
    show (!(pre [s, a, b] (c :: (x ++ y))) && clean3 s a b (x ++ y)) = true
    rw [ih, Bool.and_true, Bool.not_eq_true']
    cases hp : pre [s, a, b] (c :: (x ++ y)) with
    | false => rfl
    | true =>
      exfalso
      obtain ⟨r, e⟩ := pre3.mp hp
      have h1' : pre [s, a, b] (c :: x) = false := by simpa using h1
      rcases h with rfl | ⟨z, rfl⟩
      · rw [List.append_nil] at hp
        rw [hp] at h1'
        cases h1'
      · match x, e with
        | [], e =>
          injection e with _ e
          injection e with e _
          exact ha e.symm
        | [d], e =>
          injection e with _ e
          injection e with _ e
          injection e with e _
          exact hb e.symm
        | d :: g :: x, e =>
          injection e with e1 e
          injection e with e2 e
          injection e with e3 e
          have : pre [s, a, b] (c :: d :: g :: x) = true := pre3.mpr ⟨x, by rw [e1, e2, e3]⟩
          rw [this] at h1'
          cases h1'
theorem pre_of3 {s a b : Nat} {S l : List Nat} (h : pre (s :: a :: b :: S) l = true) : pre [s, a, b] l = true := by
  unfold pre at h
  have e := eq_of_beq h
  have e2 : l = (s :: a :: b :: S) ++ l.drop (s :: a :: b :: S).length := by
    have q := (List.take_append_drop (s :: a :: b :: S).length l).symm
    rw [e] at q
    exact q
  exact pre3.mpr ⟨_, by rw [e2]; rfl⟩
/-- no separator begins within p, whatever stands behind it -/
theorem free3 {s a b : Nat} {S p rest : List Nat} (ha : a ≠ s) (hb : b ≠ s) (h : clean3 s a b p = true) : ∀ i, i < p.length → pre (s :: a :: b :: S) ((p ++ ((s :: a :: b :: S) ++ rest)).drop i) = false := by
  intro i hi
  cases hp : pre (s :: a :: b :: S) ((p ++ ((s :: a :: b :: S) ++ rest)).drop i) with
  | false => rfl
  | true =>
    exfalso
    obtain ⟨r, e⟩ := pre3.mp (pre_of3 hp)
    rw [List.drop_append_of_le_length (by omega)] at e
    have hc := clean3_at h i
    match hd : p.drop i, e with
    | [], _ =>
      have := congrArg List.length hd
      rw [List.length_drop, List.length_nil] at this
      omega
    | [c], e =>
      injection e with _ e
      injection e with e _
      exact ha e.symm
    | [c, d], e =>
      injection e with _ e
      injection e with _ e
      injection e with e _
      exact hb e.symm
    | c :: d :: g :: x, e =>
      injection e with e1 e
      injection e with e2 e
      injection e with e3 e
      rw [hd, pre3.mpr ⟨x, by rw [e1, e2, e3]⟩] at hc
      cases hc
theorem free3_end {s a b : Nat} {S p : List Nat} (h : clean3 s a b p = true) : ∀ i, i < p.length → pre (s :: a :: b :: S) (p.drop i) = false := by
  intro i _
  cases hp : pre (s :: a :: b :: S) (p.drop i) with
  | false => rfl
  | true =>
    have h1 := pre_of3 hp
    rw [clean3_at h i] at h1
    cases h1
theorem partition3 {y : Str} {s a b : Nat} {S : List Nat} (ey : tl y = s :: a :: b :: S) (ha : a ≠ s) (hb : b ≠ s) {x z : Str} (h : clean3 s a b (tl x) = true) : Txt.partition (x ++ y ++ z) y = (x, y, z) := by
  rw [partition_par _ y (by rw [ey]; simp), tl_append, tl_append, List.append_assoc, ey, par_part (by simp) (free3 ha hb h)]
  show ((⟨([] ++ tl x).toArray⟩ : Str), y, (⟨(tl z).toArray⟩ : Str)) = _
  rw [List.nil_append, mk_tl, mk_tl]
theorem partition3_none {y : Str} {s a b : Nat} {S : List Nat} (ey : tl y = s :: a :: b :: S) {x : Str} (h : clean3 s a b (tl x) = true) : Txt.partition x y = (x, Str.empty, Str.empty) := by
  rw [partition_par _ y (by rw [ey]; simp), ey, par_none (free3_end h)]
theorem spl_join3 {s a b : Nat} {S : List Nat} (ha : a ≠ s) (hb : b ≠ s) : ∀ {parts : List (List Nat)}, parts ≠ [] → (∀ p ∈ parts, clean3 s a b p = true) → spl (s :: a :: b :: S) 0 [] (joinL (s :: a :: b :: S) parts) = parts
  | [], h, _ => absurd rfl h
  | [p], _, hp => by
    show spl (s :: a :: b :: S) 0 [] p = [p]
    rw [spl_last (free3_end (hp p (List.mem_singleton.mpr rfl))), List.nil_append]
  | p :: q :: r, _, hp => by
    show spl (s :: a :: b :: S) 0 [] (p ++ (s :: a :: b :: S ++ joinL (s :: a :: b :: S) (q :: r))) = p :: q :: r
    rw [spl_part (by simp) (free3 ha hb (hp p (List.mem_cons_self ..))), List.nil_append, spl_join3 ha hb (by simp) fun z hz => hp z (List.mem_cons_of_mem _ hz)]
theorem split_join3 {y : Str} {s a b : Nat} {S : List Nat} (ey : tl y = s :: a :: b :: S) (ha : a ≠ s) (hb : b ≠ s) (hk : y.cps.all (· < 256) = true) {parts : List Str} (hne : parts ≠ []) (hp : ∀ p ∈ parts, clean3 s a b (tl p) = true) :
    Txt.split (Str.join y parts) y = parts := by
  refine map_tl_inj ?_
  rw [split_spl _ y (by rw [ey]; simp) (kind_ok hk), tl_join, ey]
  refine spl_join3 ha hb (fun e => hne (List.map_eq_nil_iff.mp e)) fun p h => ?_
  obtain ⟨z, hz, rfl⟩ := List.mem_map.mp h
  exact hp z hz
/-- a joined text behind a word, part by part -/
theorem join_clean {s a b : Nat} (ha : a ≠ s) (hb : b ≠ s) (hd sep : Str) {S1 S2 : List Nat} (e1 : tl hd = s :: S1) (e2 : tl sep = s :: S2) : ∀ (l : List Str), (∀ x ∈ l, clean3 s a b (tl (hd ++ x)) = true) → (∀ x ∈ l, clean3 s a b (tl (sep ++ x)) = true) → l ≠ [] →
    clean3 s a b (tl (hd ++ Str.join sep l)) = true
  | [], _, _, h => absurd rfl h
  | [x], h1, _, _ => h1 x (List.mem_singleton.mpr rfl)
  | x :: y :: r, h1, h2, _ => by
    show clean3 s a b (tl (hd ++ (x ++ sep ++ Str.join sep (y :: r)))) = true
    have e : hd ++ (x ++ sep ++ Str.join sep (y :: r)) = (hd ++ x) ++ (sep ++ Str.join sep (y :: r)) := by simp only [Str.append_assoc]
    rw [e, tl_append]
    refine clean3_app ha hb (h1 x (List.mem_cons_self ..)) (join_clean ha hb sep sep e2 e2 (y :: r) (fun z hz => h2 z (List.mem_cons_of_mem _ hz)) (fun z hz => h2 z (List.mem_cons_of_mem _ hz)) (by simp)) (.inr ⟨S2 ++ tl (Str.join sep (y :: r)), ?_⟩)
    rw [tl_append, e2]
    rfl

/-! ### a good rule's text -/
def allTests : List Str := testsL ++ testsL.map (("not " : Str) ++ ·) ++ (["level", "not level"] : List Str)
theorem tests_all {k t : Str} (h : t ∈ testsNot k) : t ∈ allTests := by
  have h2 : ∀ t ∈ (["level"] : List Str) ++ (["level"] : List Str).map (("not " : Str) ++ ·), t ∈ allTests := by decide +kernel
  unfold testsNot testsOf at h
  split at h
  · exact h2 t h
  · exact List.mem_append_left _ h
def allDeeds : List Str := ["count", "drop", "take", "wipe"]
theorem deeds_all {k t : Str} (h : t ∈ deedsOf k) : t ∈ allDeeds := by
  have h1 : ∀ t ∈ (["count", "count", "drop"] : List Str), t ∈ allDeeds := by decide +kernel
  have h2 : ∀ t ∈ (["take", "take", "wipe"] : List Str), t ∈ allDeeds := by decide +kernel
  unfold deedsOf at h
  split at h
  · exact h1 t h
  · exact h2 t h
theorem tl_do : tl " do " = [32, 100, 111, 32] := by decide +kernel
theorem tl_if : tl " if " = [32, 105, 102, 32] := by decide +kernel
theorem tl_and : tl " and " = [32, 97, 110, 100, 32] := by decide +kernel
theorem tl_then : tl " then " = [32, 116, 104, 101, 110, 32] := by decide +kernel
theorem tText_clean {ts : List Str} (h : ∀ t ∈ ts, t ∈ allTests) : clean3 32 100 111 (tl (tText ts)) = true ∧ (tl (tText ts) = [] ∨ ∃ z, tl (tText ts) = 32 :: z) := by
  unfold tText
  split
  · exact ⟨by decide +kernel, .inl (by decide +kernel)⟩
  · rename_i h0
    have a1 : ∀ t ∈ allTests, clean3 32 100 111 (tl ((" if " : Str) ++ t)) = true := by decide +kernel
    have a2 : ∀ t ∈ allTests, clean3 32 100 111 (tl ((" and " : Str) ++ t)) = true := by decide +kernel
    refine ⟨join_clean (by decide) (by decide) " if " " and " tl_if tl_and ts (fun x hx => a1 x (h x hx)) (fun x hx => a2 x (h x hx)) h0, .inr ⟨105 :: 102 :: 32 :: tl (Str.join " and " ts), ?_⟩⟩
    rw [tl_append, tl_if]
    rfl
theorem read1 {r : RuleD} (g : r.Good) : Txt.partition (ruleText r) " do " = ((("on " : Str) ++ r.k ++ tText r.ts, (if r.ds = [] then "" else " do " : Str), (if r.ds = [] then ("" : Str) else Str.join " then " r.ds)) : Str × Str × Str) := by
  have k1 : ∀ k ∈ kindsAll, clean3 32 100 111 (tl (("on " : Str) ++ k)) = true := by decide +kernel
  have ht := tText_clean (ts := r.ts) fun t h => tests_all (g.ts t h)
  have hc : clean3 32 100 111 (tl (("on " : Str) ++ r.k ++ tText r.ts)) = true := by
    rw [tl_append]
    exact clean3_app (by decide) (by decide) (k1 _ g.k) ht.1 ht.2
  have e0 : ("" : Str) = Str.empty := by decide +kernel
  unfold ruleText dText
  by_cases hd : r.ds = []
  · rw [if_pos hd, if_pos hd, if_pos hd, e0, Str.append_empty]
    exact partition3_none tl_do hc
  · rw [if_neg hd, if_neg hd, if_neg hd, ← Str.append_assoc]
    exact partition3 tl_do (by decide) (by decide) hc
theorem read2 {r : RuleD} (g : r.Good) : Txt.partition (("on " : Str) ++ r.k ++ tText r.ts) " if " = ((("on " : Str) ++ r.k, (if r.ts = [] then "" else " if " : Str), (if r.ts = [] then ("" : Str) else Str.join " and " r.ts)) : Str × Str × Str) := by
  have k1 : ∀ k ∈ kindsAll, clean3 32 105 102 (tl (("on " : Str) ++ k)) = true := by decide +kernel
  have e0 : ("" : Str) = Str.empty := by decide +kernel
  unfold tText
  by_cases ht : r.ts = []
  · rw [if_pos ht, if_pos ht, if_pos ht, e0, Str.append_empty]
    exact partition3_none tl_if (k1 _ g.k)
  · rw [if_neg ht, if_neg ht, if_neg ht, ← Str.append_assoc]
    exact partition3 tl_if (by decide) (by decide) (k1 _ g.k)
theorem read3 (k : Str) : Txt.partition (("on " : Str) ++ k) " " = ((("on" : Str), (" " : Str), k) : Str × Str × Str) := by
  have e : ("on " : Str) = ("on" : Str) ++ " " := by decide +kernel
  rw [e]
  exact partition_app (s := 32) (S := []) (by decide +kernel) (by decide +kernel)
theorem read4 {r : RuleD} (g : r.Good) (h : r.ts ≠ []) : Txt.split (Str.join " and " r.ts) " and " = r.ts := by
  have a1 : ∀ t ∈ allTests, clean3 32 97 110 (tl t) = true := by decide +kernel
  exact split_join3 tl_and (by decide) (by decide) (by decide +kernel) h fun p hp => a1 p (tests_all (g.ts p hp))
theorem read5 {r : RuleD} (g : r.Good) (h : r.ds ≠ []) : Txt.split (Str.join " then " r.ds) " then " = r.ds := by
  have a1 : ∀ t ∈ allDeeds, clean3 32 116 104 (tl t) = true := by decide +kernel
  exact split_join3 tl_then (by decide) (by decide) (by decide +kernel) h fun p hp => a1 p (deeds_all (g.ds p hp))
/-- texts of two good rules are alike only if the rules are -/
theorem ruleText_inj {r u : RuleD} (g : r.Good) (g2 : u.Good) (e : ruleText r = ruleText u) : r.k = u.k ∧ r.ts = u.ts ∧ r.ds = u.ds := by
  have p1 := read1 g
  rw [e, read1 g2] at p1
  injection p1 with a1 p1
  injection p1 with b1 c1
  have p2 := read2 g
  rw [← a1, read2 g2] at p2
  injection p2 with a2 p2
  injection p2 with b2 c2
  have p3 := read3 r.k
  rw [← a2, read3] at p3
  injection p3 with _ p3
  injection p3 with _ a3
  have n1 : ¬ (("" : Str) = " do ") := by decide +kernel
  have n2 : ¬ (("" : Str) = " if ") := by decide +kernel
  refine ⟨a3.symm, ?_, ?_⟩
  · by_cases h1 : r.ts = []
    · by_cases h2 : u.ts = []
      · rw [h1, h2]
      · rw [if_pos h1, if_neg h2] at b2
        exact absurd b2.symm n2
    · by_cases h2 : u.ts = []
      · rw [if_neg h1, if_pos h2] at b2
        exact absurd b2 n2
      · rw [if_neg h1, if_neg h2] at c2
        rw [← read4 g h1, ← c2, read4 g2 h2]
  · by_cases h1 : r.ds = []
    · by_cases h2 : u.ds = []
      · rw [h1, h2]
      · rw [if_pos h1, if_neg h2] at b1
        exact absurd b1.symm n1
    · by_cases h2 : u.ds = []
      · rw [if_neg h1, if_pos h2] at b1
        exact absurd b1 n1
      · rw [if_neg h1, if_neg h2] at c1
        rw [← read5 g h1, ← c1, read5 g2 h2]
end Ov

namespace Ov
open PySem PySem.Spec PyProof.Rows L2
open Evl (pss_cut tCut Ex Ev EvT EvL EvA EvU)
/-! what rows without plans want of P -/
theorem exB {K : PySem.W.Frag} {H H' : Hp} {a : Addr} {xs : List V} (e : Ex H H') (h : SqL K H a xs ∨ SqT K H a xs) : SqL K H' a xs ∨ SqT K H' a xs := h.imp (Evl.ex_l e) (Evl.ex_t e)
def RulesAt (K : PySem.W.Frag) (C : Addr) (H : Hp) (xs : List V) (rs : List RuleD) : Prop := Paired (fun x r => ∃ p, x = V.ref p ∧ RuleObj K C H p r) xs rs
theorem RulesAt.ex {K : PySem.W.Frag} {C : Addr} {H H' : Hp} (e : Ex H H') : ∀ {xs : List V} {rs : List RuleD}, RulesAt K C H xs rs → RulesAt K C H' xs rs
  | _, _, .nil => .nil
  | _, _, .cons ⟨p, h1, h2⟩ t => .cons ⟨p, h1, h2.ex e⟩ (RulesAt.ex e t)
theorem RulesAt.at_ {K : PySem.W.Frag} {C : Addr} {H : Hp} : ∀ {xs : List V} {rs : List RuleD} {i : Nat} {x : V}, RulesAt K C H xs rs → xs[i]? = some x → ∃ p r, x = .ref p ∧ rs[i]? = some r ∧ RuleObj K C H p r
  | _, _, _, _, .nil, h => by simp at h
  | _, _, 0, _, .cons ⟨p, h1, h2⟩ _, h => by
    have e := Option.some.inj h
    exact ⟨p, _, by rw [← e, h1], rfl, h2⟩
  | _, _, i + 1, _, .cons _ t, h => RulesAt.at_ (i := i) t h
end Ov

namespace Ov
open PySem PySem.Spec PyProof.Rows L2
open Evl (pss_cut tCut Ex Ev EvT EvL EvA EvU)
/-- evaluates to some object of which Pp holds; what stood stays -/
def EvP (te : TE) (σ : L2.St) (H : Hp) (Pp : Addr → Hp → Prop) : Prop := ∀ H1, Ex H H1 → ∀ Q : VK, (∀ p H2, Ex H1 H2 → Pp p H2 → Q (.ref p) H2) → te σ H1 Q
def EvAs (ta : TA) (σ : L2.St) (H : Hp) (Pa : List V → Hp → Prop) : Prop := ∀ H1, Ex H H1 → ∀ Q : List V → Hp → Prop, (∀ vs H2, Ex H1 H2 → Pa vs H2 → Q vs H2) → ta σ H1 Q
def sameR (r u : RuleD) : Bool := decide (r.k = u.k) && (decide (r.ts = u.ts) && decide (r.ds = u.ds))
theorem sameR_self (r : RuleD) : sameR r r = true := by
  unfold sameR
  rw [decide_eq_true rfl, decide_eq_true rfl, decide_eq_true rfl]
  rfl
theorem sameR_text {r u : RuleD} (g : r.Good) (g2 : u.Good) : decide (ruleText r = ruleText u) = sameR r u := by
  by_cases h : ruleText r = ruleText u
  · obtain ⟨h1, h2, h3⟩ := ruleText_inj g g2 h
    unfold sameR
    rw [h1, h2, h3, decide_eq_true h, decide_eq_true rfl, decide_eq_true rfl, decide_eq_true rfl]
    rfl
  · rw [decide_eq_false h]
    symm
    by_cases hs : sameR r u = true
    · exfalso
      unfold sameR at hs
      obtain ⟨h1, h2⟩ := Bool.and_eq_true_iff.mp hs
      obtain ⟨h2, h3⟩ := Bool.and_eq_true_iff.mp h2
      refine h ?_
      unfold ruleText
      rw [of_decide_eq_true h1, of_decide_eq_true h2, of_decide_eq_true h3]
    · simpa using hs
section
variable {K : PySem.W.Frag} {CR : Addr} {σ : L2.St} {H : Hp} {ta tb te : TE} {r u : RuleD}
theorem EvP.of {p : Addr} {Pp : Addr → Hp → Prop} (h : Ev te σ H (.ref p)) (hp : ∀ H1, Ex H H1 → Pp p H1) : EvP te σ H Pp := fun H1 e Q q => h H1 e Q fun H2 e2 => q p H2 e2 (hp H2 (e.trans e2))
theorem EvP.tup {vs : List V} {Pp : Addr → Hp → Prop} (h : EvU te σ H vs) (hp : ∀ p H1, Ex H H1 → H1 p = some (.tup vs) → Pp p H1) : EvP te σ H Pp := fun H1 e Q q => h H1 e Q fun p H2 _ e2 h2 => q p H2 e2 (hp p H2 (e.trans e2) h2)
theorem EvP.lst {vs : List V} {Pp : Addr → Hp → Prop} (h : EvL te σ H vs) (hp : ∀ p H1, Ex H H1 → H1 p = some (.lst vs) → Pp p H1) : EvP te σ H Pp := fun H1 e Q q => h H1 e Q fun p H2 _ e2 h2 => q p H2 e2 (hp p H2 (e.trans e2) h2)
/-- Rule(k, tests, deeds) -/
theorem ev_rule {t3 t4 : TE} (hk : Ev ta σ H (.str r.k)) (ht : EvP t3 σ H (fun t H2 => SqL K H2 t (r.ts.map V.str) ∨ SqT K H2 t (r.ts.map V.str))) (hd : EvP t4 σ H (fun d H2 => SqL K H2 d (r.ds.map V.str) ∨ SqT K H2 d (r.ds.map V.str))) (g : r.Good) :
    EvP (tMake CR (spRuleInit K CR) [] E0 (tCons ta (tCons t3 (tCons t4 tNil)))) σ H (fun p H2 => RuleObj K CR H2 p r) := fun H1 e1 Q q => by
  refine hk H1 e1 _ fun H2 e2 => ht H2 (e1.trans e2) _ fun t H3 e3 st => hd H3 ((e1.trans e2).trans e3) _ fun d H4 e4 sd x dx nx ndx ne => ?_
  have e5 : Ex H4 (upd (upd H4 dx (.own x)) x (.ins CR dx [])) := (Ex.new ndx).trans (Ex.new (by rw [upd_ne ne.symm]; exact nx))
  refine ⟨x, t, d, dx, r, rfl, upd_same, exB e5 (exB e4 st), exB e5 sd, g, fun H5 k5 ro => ⟨rfl, q x H5 (((e2.trans e3).trans e4).trans fun b o hb => k5 b o (ne_of_none hb nx) (e5 _ _ hb)) ro⟩⟩
theorem ev_eqR (ha : EvP ta σ H (fun p H => RuleObj K CR H p r)) (hb : EvP tb σ H (fun p H => RuleObj K CR H p u)) (g : r.Good) (g2 : u.Good) : Ev (tOp (rEqI CR (spRuleEq K CR) E0) ta tb) σ H (.bl (sameR r u)) := fun H1 e1 Q q => by
  refine ha H1 e1 _ fun p H2 e2 rp => hb H2 (e1.trans e2) _ fun p2 H3 e3 rp2 => ?_
  have rp3 := rp.ex e3
  obtain ⟨dx, t, d, hp, _⟩ := id rp3
  obtain ⟨dx2, t2, d2, hp2, _⟩ := id rp2
  exact ⟨p, p2, dx, dx2, _, _, rfl, rfl, hp, hp2, p, p2, r, u, rfl, rp3, rp2, g, g2, fun H4 e4 => ⟨_, rfl, q H4 ((e2.trans e3).trans e4)⟩⟩
theorem ev_neR (ha : EvP ta σ H (fun p H => RuleObj K CR H p r)) (hb : EvP tb σ H (fun p H => RuleObj K CR H p u)) (g : r.Good) (g2 : u.Good) : Ev (tOp (rNeI CR (spRuleEq K CR) E0) ta tb) σ H (.bl (!sameR r u)) := fun H1 e1 Q q => by
  refine ha H1 e1 _ fun p H2 e2 rp => hb H2 (e1.trans e2) _ fun p2 H3 e3 rp2 => ?_
  have rp3 := rp.ex e3
  obtain ⟨dx, t, d, hp, _⟩ := id rp3
  obtain ⟨dx2, t2, d2, hp2, _⟩ := id rp2
  exact ⟨p, p2, dx, dx2, _, _, rfl, rfl, hp, hp2, p, p2, r, u, rfl, rp3, rp2, g, g2, fun H4 e4 => ⟨_, rfl, q H4 ((e2.trans e3).trans e4)⟩⟩
theorem ev_strR (ha : EvP ta σ H (fun p H => RuleObj K CR H p r)) (g : r.Good) : Ev (tCB (rStrI CR (spRuleStr K CR) E0) (tCons ta tNil)) σ H (.str (ruleText r)) := fun H1 e1 Q q => by
  refine ha H1 e1 _ fun p H2 e2 rp => ?_
  obtain ⟨dx, t, d, hp, _⟩ := id rp
  exact ⟨p, dx, _, rfl, hp, p, r, rfl, rp, g, fun H3 e3 => ⟨_, rfl, q H3 (e2.trans e3)⟩⟩
/-- the fields of a Rule -/
theorem ev_fk {T : Cls K CR} (nK : NoAttr K CR "kind") {p : Addr} (ha : Ev ta σ H (.ref p)) (rp : RuleObj K CR H p r) : Ev (tFld K ta "kind") σ H (.str r.k) := by
  obtain ⟨dx, t, d, hp, _⟩ := rp
  exact ev_fld ha hp T nK (rf_k _ _ _)
theorem ev_ft {T : Cls K CR} (nT : NoAttr K CR "tests") {p : Addr} (ha : Ev ta σ H (.ref p)) (rp : RuleObj K CR H p r) : EvP (tFld K ta "tests") σ H (fun t H2 => SqT K H2 t (r.ts.map V.str)) := by
  obtain ⟨dx, t, d, hp, ht, _⟩ := rp
  exact .of (ev_fld ha hp T nT (rf_t _ _ _)) fun H1 e1 => Evl.ex_t e1 ht
theorem ev_fd {T : Cls K CR} (nD : NoAttr K CR "deeds") {p : Addr} (ha : Ev ta σ H (.ref p)) (rp : RuleObj K CR H p r) : EvP (tFld K ta "deeds") σ H (fun t H2 => SqT K H2 t (r.ds.map V.str)) := by
  obtain ⟨dx, t, d, hp, _, hd⟩ := rp
  exact .of (ev_fld ha hp T nD (rf_d _ _ _)) fun H1 e1 => Evl.ex_t e1 hd
theorem EvP.imp {Pp Pq : Addr → Hp → Prop} (h : EvP te σ H Pp) (i : ∀ p H1, Pp p H1 → Pq p H1) : EvP te σ H Pq := fun H1 e Q q => h H1 e Q fun p H2 e2 h2 => q p H2 e2 (i p H2 h2)
theorem EvP.mono {Pp : Addr → Hp → Prop} {H' : Hp} (e : Ex H H') (h : EvP te σ H Pp) : EvP te σ H' Pp := fun H1 e1 Q q => h H1 (e.trans e1) Q q
/-- t[::-1] -/
theorem ev_back {xs : List V} (ha : EvP ta σ H (fun t H2 => SqT K H2 t xs)) (hs : Ev tb σ H (.int (-1))) : EvP (tBackT K ta tb) σ H (fun t H2 => SqT K H2 t xs.reverse) := fun H1 e1 Q q =>
  ha H1 e1 _ fun t H2 e2 st => hs H2 (e1.trans e2) _ fun H3 e3 => ⟨-1, rfl, rfl, t, xs, rfl, Evl.ex_t e3 st, fun p np => q p _ ((e2.trans e3).trans (Ex.new np)) (Evl.st_of upd_same)⟩
/-- == and != of tuples of texts, either made on the way -/
theorem ev_eqTs {l m : List Str} (ol : Plain l) (om : Plain m) (ha : EvP ta σ H (fun t H2 => SqT K H2 t (l.map V.str))) (hb : EvP tb σ H (fun t H2 => SqT K H2 t (m.map V.str))) : Ev (tOp (rEqD K) ta tb) σ H (.bl (decide (l = m))) := fun H1 e1 Q q =>
  ha H1 e1 _ fun t H2 e2 st => hb H2 (e1.trans e2) _ fun t2 H3 e3 st2 => rv_eqT ol om (Evl.ex_t e3 st) st2 H3 (Ex.refl _) Q fun H4 e4 => q H4 ((e2.trans e3).trans e4)
/-- lists of texts, of truth values, compared -/
theorem dp_bls {H : Hp} : ∀ l : List Bool, DpAll K H (l.map V.bl) (l.map PyData.bool)
  | [] => .nil
  | n :: r => .cons (.bl n) (dp_bls r)
theorem canLay_bls : ∀ l : List Bool, PyData.canLayAll0 (l.map PyData.bool) = true
  | [] => rfl
  | n :: r => by
    show (PyData.canLay0 (.bool n) && PyData.canLayAll0 (r.map PyData.bool)) = true
    rw [canLay_bls r]
    rfl
theorem depth_bls : ∀ l : List Bool, PyData.depthAll (l.map PyData.bool) = 0
  | [] => rfl
  | n :: r => by
    show max (PyData.depth (.bool n)) (PyData.depthAll (r.map PyData.bool)) = 0
    rw [depth_bls r]
    rfl
theorem shaped_bls (l : List Bool) : SeqAt.shaped (.list (l.map PyData.bool)) = true := by
  have h2 : (PyData.list (l.map PyData.bool)).depth = 0 + 1 := by
    show PyData.depthAll (l.map PyData.bool) + 1 = 0 + 1
    rw [depth_bls]
  show (PyData.canLayAll0 (l.map PyData.bool) && decide ((PyData.list (l.map PyData.bool)).depth ≤ 64)) = true
  rw [canLay_bls l, h2]
  rfl
theorem eqvAll_bls : ∀ l : List Bool, PyData.eqvAll (l.map PyData.bool) (l.map PyData.bool) = true
  | [] => rfl
  | x :: l => by
    show (x == x && PyData.eqvAll (l.map PyData.bool) (l.map PyData.bool)) = true
    rw [eqvAll_bls l, beq_self_eq_true]
    rfl
/-- two lists of the same truth values are not unequal -/
theorem ev_neBs {l : List Bool} (ha : EvL ta σ H (l.map V.bl)) (hb : EvL tb σ H (l.map V.bl)) : Ev (tOp (rNeD K) ta tb) σ H (.bl false) := Evl.ev_opLL ha hb fun p q H1 hp hq _ => fun H2 e2 Q k =>
  ⟨_, _, .lst (Evl.sq_of (e2 _ _ hp)) (dp_bls l), .lst (Evl.sq_of (e2 _ _ hq)) (dp_bls l), shaped_bls l, shaped_bls l, by
    have e : PyData.eqv (.list (l.map PyData.bool)) (.list (l.map PyData.bool)) = true := eqvAll_bls l
    rw [e]
    exact k H2 (Ex.refl _)⟩
/-- a new list of texts against a list of the same ones -/
theorem ev_neSs {l : List Str} {a : Addr} (ol : Plain l) (ha : EvL ta σ H (l.map V.str)) (hb : ∀ H1, Ex H H1 → Ev tb σ H1 (.ref a)) (hl : SqL K H a (l.map V.str)) : Ev (tOp (rNeD K) ta tb) σ H (.bl false) := Evl.ev_opL1 ha hb fun p H1 hp e1 => fun H2 e2 Q k =>
  ⟨_, _, .lst (Evl.sq_of (e2 _ _ hp)) (dp_strs l), .lst (Evl.ex_l (e1.trans e2) hl) (dp_strs l), shaped_strsL l ol, shaped_strsL l ol, by
    rw [eqv_strsL, decide_eq_true rfl]
    exact k H2 (Ex.refl _)⟩
end
/-! ### texts of rules are of plain signs -/
theorem plain_app {x y : Str} (hx : PyData.canLay0 (.str x) = true) (hy : PyData.canLay0 (.str y) = true) : PyData.canLay0 (.str (x ++ y)) = true := by
  have hx' : x.cps.all (· < 0x110000) = true := hx
  have hy' : y.cps.all (· < 0x110000) = true := hy
  show (x ++ y).cps.all (· < 0x110000) = true
  rw [Str.cps_append, Array.all_append, hx', hy']
  rfl
theorem plain_join {sep : Str} (hs : PyData.canLay0 (.str sep) = true) : ∀ {l : List Str}, Plain l → PyData.canLay0 (.str (Str.join sep l)) = true
  | [], _ => by
    show PyData.canLay0 (.str Str.empty) = true
    decide +kernel
  | [x], h => h x (List.mem_singleton.mpr rfl)
  | x :: y :: r, h => plain_app (plain_app (h x (List.mem_cons_self ..)) hs) (plain_join hs fun z hz => h z (List.mem_cons_of_mem _ hz))
theorem plain_text {r : RuleD} (g : r.Good) : PyData.canLay0 (.str (ruleText r)) = true := by
  have hk : ∀ k ∈ kindsAll, PyData.canLay0 (.str k) = true := by decide +kernel
  unfold ruleText tText dText
  refine plain_app (plain_app (plain_app (by decide +kernel) (hk _ g.k)) ?_) ?_
  · split
    · decide +kernel
    · exact plain_app (by decide +kernel) (plain_join (by decide +kernel) g.pt)
  · split
    · decide +kernel
    · exact plain_app (by decide +kernel) (plain_join (by decide +kernel) g.pd)
end Ov

namespace Ov
open PySem PySem.Spec PyProof.Rows L2
open Evl (pss_cut tCut Ex Ev EvT EvL EvA EvU)
/-! ### readings of the law's parts -/
abbrev sK : Str := Str.ofString "kind"
abbrev sT : Str := Str.ofString "tests"
abbrev sD : Str := Str.ofString "deeds"
section
variable (K : PySem.W.Frag) (CR CP : Addr)
abbrev tR (ta : TA) : TE := tMake CR (spRuleInit K CR) [] E0 ta
abbrev tBk : TE := tOp (rI0 fun i j => V.int (i - j)) (tC (V.int 0)) (tC (V.int 1))
abbrev fK : TE := tFld K (tVar 6) sK
abbrev fT : TE := tFld K (tVar 6) sT
abbrev fD : TE := tFld K (tVar 6) sD
abbrev ix5 (i : Int) : TE := tOp (rIxT K) (tVar 5) (tC (V.int i))
abbrev tStr (te : TE) : TE := tCB (rStrI CR (spRuleStr K CR) E0) (tCons te tNil)
abbrev tNo : TS := tRet (tC (V.bl false))
def rdZip : TS :=
  tSeq (tIfS (tOr (tTest (tOp (rNeI CR (spRuleEq K CR) E0) (tR K CR (tCons (fK K) (tCons (fT K) (tCons (fD K) tNil)))) (tVar 6))) (tTest (tOp (rNeD K) (fK K) (ix5 K 0)))) tNo tNext)
  (tSeq (tAsg (tR K CR (tCons (fK K) (tCons (tBackT K (fT K) tBk) (tCons (fD K) tNil)))) (gName 7))
  (tSeq (tIfS (tTest (tOp (rNeD K) (tOp (rEqI CR (spRuleEq K CR) E0) (tVar 7) (tVar 6)) (tOp (rEqD K) (tBackT K (ix5 K 1) tBk) (ix5 K 1)))) tNo tNext)
  (tSeq (tAsg (tR K CR (tCons (fK K) (tCons (tTup tNil) (tCons (fD K) tNil)))) (gName 8))
  (tIfS (tOr (tTest (tOp (rNeD K) (tOp (rEqI CR (spRuleEq K CR) E0) (tVar 8) (tVar 6)) (tOp (rEqD K) (ix5 K 1) (tTup tNil))))
    (tTest (tOp (rNeD K) (tStr K CR (tVar 8)) (tCall (spRuleText K) [] E0 (tCons (tTup (tCons (ix5 K 0) (tCons (tTup tNil) (tCons (ix5 K 2) tNil)))) tNil))))) tNo tNext))))
end
theorem q_asgP {te : TE} {σ : L2.St} {H : Hp} {D : Ends} {tz : TS} {i : Nat} {Pp : Addr → Hp → Prop} (h : EvP te σ H Pp) (k : ∀ p H1, Ex H H1 → Pp p H1 → tz D (σ.set i (some (.ref p))) H1) : tSeq (tAsg te (gName i)) tz D σ H :=
  h H (Ex.refl H) _ fun p H1 e hp => k p H1 e hp
section
variable {K : PySem.W.Frag} {σ : L2.St} {H : Hp} {ta tb : TE}
theorem ev_neB1 {a b : Bool} (ha : Ev ta σ H (.bl a)) (hb : Ev tb σ H (.bl b)) (e : a = b) : Ev (tOp (rNeD K) ta tb) σ H (.bl false) := by
  subst e
  refine Evl.ev_op ha hb fun H1 e _ q => ⟨_, _, .bl a, .bl a, rfl, rfl, ?_⟩
  rw [show PyData.eqv (.bool a) (.bool a) = (a == a) from rfl, beq_self_eq_true]
  exact q H1 (Ex.refl H1)
theorem ev_neS1 {x : Str} (ha : Ev ta σ H (.str x)) (hb : Ev tb σ H (.str x)) (hx : PyData.canLay0 (.str x) = true) : Ev (tOp (rNeD K) ta tb) σ H (.bl false) := by
  have sh : SeqAt.shaped (.str x) = true := by
    show (PyData.canLay0 (.str x) && decide ((PyData.str x).depth ≤ 64)) = true
    rw [hx]
    rfl
  refine Evl.ev_op ha hb fun H1 e _ q => ⟨_, _, .str x, .str x, sh, sh, ?_⟩
  rw [show PyData.eqv (.str x) (.str x) = (x == x) from rfl, beq_self_eq_true]
  exact q H1 (Ex.refl H1)
end
theorem RuleD.Good.rev {r : RuleD} (g : r.Good) : RuleD.Good ⟨r.k, r.ts.reverse, r.ds⟩ := ⟨g.k, fun t ht => g.ts t (List.mem_reverse.mp ht), g.ds, (by rw [List.length_reverse]; exact g.nt), g.nd⟩
theorem RuleD.Good.bare {r : RuleD} (g : r.Good) : RuleD.Good ⟨r.k, [], r.ds⟩ := ⟨g.k, (fun t ht => nomatch ht), g.ds, Nat.zero_le _, g.nd⟩
theorem same_ts {r : RuleD} {ts : List Str} : sameR ⟨r.k, ts, r.ds⟩ r = decide (ts = r.ts) := by
  unfold sameR
  simp
theorem plain_kind {k : Str} (h : k ∈ kindsAll) : PyData.canLay0 (.str k) = true := by
  have hk : ∀ k ∈ kindsAll, PyData.canLay0 (.str k) = true := by decide +kernel
  exact hk _ h
section
variable {K : PySem.W.Frag} {mg : Str → Option Value} {a_LETTERS a_LETTER_TESTS a_LETTER_DEEDS a_ANSWER_TESTS a_ANSWER_DEEDS CR CP : Addr} {tA tN : Tok}
theorem rd_zip (T : TxR K mg a_LETTERS a_LETTER_TESTS a_LETTER_DEEDS a_ANSWER_TESTS a_ANSWER_DEEDS CR tA tN) {D : Ends} {H : Hp} {r : RuleD} {p q : Addr} {a0 a1 a2 a3 a4 a7 a8 a9 a10 a11 a12 a13 a14 a15 a16 a17 : Option V} (g : r.Good) (hp : RuleAt H p r) (hq : RuleObj K CR H q r)
    (k : ∀ b7 b8 H1, Ex H H1 → D.nx [a0, a1, a2, a3, a4, some (.ref p), some (.ref q), b7, b8, a9, a10, a11, a12, a13, a14, a15, a16, a17] H1) :
    rdZip K CR D [a0, a1, a2, a3, a4, some (.ref p), some (.ref q), a7, a8, a9, a10, a11, a12, a13, a14, a15, a16, a17] H := by
  obtain ⟨t, d, h1, h2, h3⟩ := hp
  refine Evl.q_when (b := false) (Evl.et_is (Evl.et_or (Evl.et_test (ev_neR (ev_rule (r := r) (ev_fk (r := r) (T := T.cl) T.nK (Evl.ev_var rfl) hq) ((ev_ft (r := r) (T := T.cl) T.nT (Evl.ev_var rfl) hq).imp fun _ _ h => .inr h) ((ev_fd (r := r) (T := T.cl) T.nD (Evl.ev_var rfl) hq).imp fun _ _ h => .inr h) g) (EvP.of (p := q) (Evl.ev_var rfl) fun H1 e => hq.ex e) g g))
    (fun _ => Evl.et_test (ev_neS1 (ev_fk (r := r) (T := T.cl) T.nK (Evl.ev_var rfl) hq) (ev_ixT (j := 0) (Evl.ev_var rfl) Evl.ev_c (Evl.st_of h1) rfl) (plain_kind g.k)))) (by rw [sameR_self]; rfl)) (fun z => nomatch z) (fun _ H1 e1 => ?_)
  replace hq := hq.ex e1
  replace h1 := e1 _ _ h1
  replace h2 := e1 _ _ h2
  replace h3 := e1 _ _ h3
  refine q_asgP (ev_rule (r := ⟨r.k, r.ts.reverse, r.ds⟩) (ev_fk (r := r) (T := T.cl) T.nK (Evl.ev_var rfl) hq) ((ev_back (ev_ft (r := r) (T := T.cl) T.nT (Evl.ev_var rfl) hq) (Evl.ev_op Evl.ev_c Evl.ev_c Evl.rv_I0)).imp fun _ _ h => .inr (by rw [List.map_reverse]; exact h)) ((ev_fd (r := r) (T := T.cl) T.nD (Evl.ev_var rfl) hq).imp fun _ _ h => .inr h) g.rev) fun q7 H2 e2 hq7 => ?_
  replace hq := hq.ex e2
  replace h1 := e2 _ _ h1
  replace h2 := e2 _ _ h2
  replace h3 := e2 _ _ h3
  have e02 := e1.trans e2
  refine Evl.q_when (b := false) (Evl.et_test (ev_neB1 (ev_eqR (r := ⟨r.k, r.ts.reverse, r.ds⟩) (u := r) (EvP.of (p := q7) (Evl.ev_var rfl) fun H1 e => hq7.ex e) (EvP.of (p := q) (Evl.ev_var rfl) fun H1 e => hq.ex e) g.rev g)
    (ev_eqTs (l := r.ts.reverse) (m := r.ts) g.rev.pt g.pt ((ev_back (EvP.of (p := t) (ev_ixT (j := 1) (Evl.ev_var rfl) Evl.ev_c (Evl.st_of h1) rfl) fun H1 e => Evl.st_of (e _ _ h2)) (Evl.ev_op Evl.ev_c Evl.ev_c Evl.rv_I0)).imp fun _ _ h => by rw [List.map_reverse]; exact h) (EvP.of (p := t) (ev_ixT (j := 1) (Evl.ev_var rfl) Evl.ev_c (Evl.st_of h1) rfl) fun H1 e => Evl.st_of (e _ _ h2))) same_ts)) (fun z => nomatch z) (fun _ H3 e3 => ?_)
  replace hq := hq.ex e3
  replace h1 := e3 _ _ h1
  replace h2 := e3 _ _ h2
  replace h3 := e3 _ _ h3
  have e03 := e02.trans e3
  refine q_asgP (ev_rule (r := ⟨r.k, [], r.ds⟩) (ev_fk (r := r) (T := T.cl) T.nK (Evl.ev_var rfl) hq) (EvP.tup (Evl.eu_tup Evl.ea_nil (Nat.zero_le _)) fun _ _ _ h => .inr (Evl.st_of h)) ((ev_fd (r := r) (T := T.cl) T.nD (Evl.ev_var rfl) hq).imp fun _ _ h => .inr h) g.bare) fun q8 H4 e4 hq8 => ?_
  replace hq := hq.ex e4
  replace h1 := e4 _ _ h1
  replace h2 := e4 _ _ h2
  replace h3 := e4 _ _ h3
  have e04 := e03.trans e4
  refine Evl.s_when (b := false) (Evl.et_is (Evl.et_or (Evl.et_test (ev_neB1 (ev_eqR (r := ⟨r.k, [], r.ds⟩) (u := r) (EvP.of (p := q8) (Evl.ev_var rfl) fun H1 e => hq8.ex e) (EvP.of (p := q) (Evl.ev_var rfl) fun H1 e => hq.ex e) g.bare g)
    (ev_eqTs (l := r.ts) (m := []) g.pt (fun _ h => nomatch h) (EvP.of (p := t) (ev_ixT (j := 1) (Evl.ev_var rfl) Evl.ev_c (Evl.st_of h1) rfl) fun H1 e => Evl.st_of (e _ _ h2)) (EvP.tup (Evl.eu_tup Evl.ea_nil (Nat.zero_le _)) fun _ _ _ h => Evl.st_of h)) (by rw [same_ts]; exact decide_eq_decide.mpr ⟨Eq.symm, Eq.symm⟩)))
    (fun _ => Evl.et_test (ev_neS1 (x := ruleText ⟨r.k, [], r.ds⟩) (ev_strR (EvP.of (p := q8) (Evl.ev_var rfl) fun H1 e => hq8.ex e) g.bare) ?_ (plain_text g.bare)))) rfl) (fun z => nomatch z) (fun _ H5 e5 => k _ _ H5 (e04.trans e5))
  intro H5 e5 Q qq
  refine (ev_ixT (K := K) (j := 0) (v := .str r.k) (Evl.ev_var rfl) Evl.ev_c (Evl.st_of (e5 _ _ h1)) rfl) H5 (Ex.refl _) _ fun H6 e6 => ?_
  refine ⟨Nat.zero_le _, fun t0 n0 => ?_⟩
  have e7 : Ex H6 (upd H6 t0 (.tup [])) := Ex.new n0
  refine (ev_ixT (K := K) (j := 2) (v := .ref d) (Evl.ev_var rfl) Evl.ev_c (Evl.st_of (((e5.trans e6).trans e7) _ _ h1)) rfl) _ (Ex.refl _) _ fun H8 e8 => ?_
  refine ⟨by show 3 ≤ sizeLine; decide, fun p1 n1 => ?_⟩
  have e9 : Ex H8 (upd H8 p1 (.tup [.str r.k, .ref t0, .ref d])) := Ex.new n1
  exact ⟨p1, t0, d, ⟨r.k, [], r.ds⟩, rfl, Evl.st_of upd_same, Evl.st_of (e9 _ _ (e8 _ _ upd_same)), Evl.st_of (e9 _ _ (e8 _ _ (e7 _ _ (e6 _ _ (e5 _ _ h3))))), g.bare, fun H10 e10 => qq H10 ((((e6.trans e7).trans e8).trans e9).trans e10)⟩
end
end Ov

namespace Ov
open PySem PySem.Spec PyProof.Rows L2
open Evl (pss_cut tCut Ex Ev EvT EvL EvA EvU)
/-! ### a class that stands in a local is called -/
section
variable {X : Cx} {CX : CXT} {k i : Nat} {f C : Addr} {fd : FuncData} {ps : List Str} {sp : Sp} {E : XK} {x : Str} {p pos : Pos} {e : Expr} {es : List Expr} {t : TA}
def tMakeV (i : Nat) (C : Addr) (sp : Sp) (E : XK) (t : TA) : TE := fun σ H Q => σ[i]? = some (some (.ref C)) ∧ tMake C sp [] E t σ H Q
theorem pe_makeV (i : Nat) (M : Mk X.K C f) (F : FnOk X.prog X.w X.K X.mg X.base CX k f fd ps sp) (hr : Room (k + 1) X.A) (hb : Binds X.K fd ps []) (hx : Passes CX X E) (ha : PA X (e :: es) t) (hN : X.N[i]? = some x := by rfl)
    (hv : Vis X.env.scope x := by first | exact Or.inl rfl | exact Or.inr (Or.inl rfl) | exact Or.inr (Or.inr rfl)) (hd : (x == ("__debug__" : Str)) = false := by decide) (hcd : (x == ("__classdict__" : Str)) = false := by decide)
    (he : starEach (e :: es) X.env = (false, eval e X.env) :: starEach es X.env := by rfl) (hpl : (backTo pos (starEach es X.env)).any (·.1) = false := by rfl) :
    PE X (.Call (.Name x p) (e :: es) [] pos) (tMakeV i C sp E t) := by
  refine ⟨fun pins s σ H Q I h => ?_⟩
  obtain ⟨h1, h2⟩ := h
  have hp : PE X (.Name x p) (tVar i) := pv i hN hv hd hcd
  refine wpAny_Call_Name_kw (thn (hp.run pins s σ H (fun v H1 => v = .ref C ∧ tMake C sp [] E t σ H1 Q) I ⟨_, h1, rfl, h2⟩) fun v s1 hh => ?_)
  obtain ⟨y, H1, I1, r1, e1, q1⟩ := hh
  subst e1
  obtain rfl : v = Value.ref C := r1
  refine PySem.W.callWith_K (h₀ := X.base) I1.ok.mod.kin M.kp (thn (ha.run pos pins s1 σ H1 _ I1 q1) fun us s2 h3 => ?_) he hpl
  obtain ⟨vs, H2, I2, r, q⟩ := h3
  exact ⟨I2.kIn, run_make M F hr hb .nil hx I2 r q⟩
end
/-! ### a rule read from its text -/
def spSplit (K : PySem.W.Frag) : Sp := fun vs H Q _ => ∃ (g x y : Str), vs = [.str g, .str x, .str y] ∧ (y.length == 0) = false ∧ g.length ≤ 100000 ∧ x.length ≤ 99990 ∧ ∀ p H', Ex H H' → (SqL K H' p ((if g = Str.empty then [] else Txt.split x y).map V.str) ∨ SqT K H' p ((if g = Str.empty then [] else Txt.split x y).map V.str)) → Q (.ref p) H'
theorem truth_str (g : Str) : decide (g ≠ Str.empty) = ((g.length : Int) != 0) := by
  by_cases h : g = Str.empty
  · rw [h]
    rfl
  · have h2 : g.length ≠ 0 := fun z => h (TL.ext_tl (by rw [(TL.len0_tl g).mp z]; rfl))
    rw [decide_eq_true h]
    symm
    simpa using h2
abbrev rPart : V → List V → Hp → VK → Prop := fun x xs H Q => ∃ a b, x = V.str a ∧ xs = [V.str b] ∧ (b.length == 0) = false ∧ a.length ≤ sizeLine ∧ ∀ (p : Addr), H p = none → Q (V.ref p) (upd H p (HO.tup [V.str (Txt.partition a b).fst, V.str (Txt.partition a b).snd.fst, V.str (Txt.partition a b).snd.snd]))
theorem q_part {K : PySem.W.Frag} {σ : L2.St} {H : Hp} {D : Ends} {tz : TS} {n i j k : Nat} {a b x y z : Str} (e : Txt.partition a b = (x, y, z)) (h : σ[n]? = some (some (.str a))) (hb : (b.length == 0) = false) (hz : a.length ≤ sizeLine)
    (c : ∀ H1, Ex H H1 → tz D (((σ.set i (some (.str x))).set j (some (.str y))).set k (some (.str z))) H1) : tSeq (tAsg (tM1 rPart (tVar n) (tC (.str b))) (gTup K 3 (gCons (gName i) (gCons (gName j) (gCons (gName k) gNil))))) tz D σ H := by
  refine ⟨_, h, ⟨_, rfl⟩, a, b, rfl, rfl, hb, hz, fun p np => ⟨p, _, rfl, Evl.st_of upd_same, rfl, _, _, rfl, _, _, rfl, _, _, rfl, rfl, ?_⟩⟩
  rw [e]
  exact c _ (Ex.new np)
section
variable {P : Program} {w : World} {K : PySem.W.Frag} {mg : Str → Option Value} {base : Heap}
abbrev sSplitPart : Stmt := topS 17
theorem scSplitPart : FnScope ["sign", "text", "between"] ["sign", "text", "between"] (defScope sSplitPart) := ⟨rfl, rfl, rfl, by decide +kernel, rfl, by decide +kernel, by decide +kernel⟩
abbrev sRuleRead : Stmt := inClass (topS 18) 1
theorem scRuleRead : FnScope ["cls", "text", "condition", "does", "deeds", "start", "asks", "tests", "on", "_", "kind"] ["cls", "text"] (defScope sRuleRead) := ⟨rfl, rfl, rfl, by decide +kernel, rfl, by decide +kernel, by decide +kernel⟩
theorem ok_split_part {f : Addr} {fd : FuncData} (F : Fun K "split_part" "split_part" sSplitPart f fd) : FnOk P w K mg base CX0 1 f fd ["sign", "text", "between"] (spSplit K) := by
  refine F.ok scSplitPart (fun vs H Q E h => ?_) (fun cdv A outer s H vs Q E hr h => ?_)
  · obtain ⟨g, x, y, rfl, _⟩ := h
    rfl
  · obtain ⟨g, x, y, rfl, hy, hg, hx, q⟩ := h
    refine ⟨_, pss_one (ps_ret (pe_ifExp (pt_truth (pv 0) (by intro _; rfl)) (pe_split (pv 1) (pv 2)) (pe_tup pa_nil))), ?_⟩
    refine ⟨_, rfl, decide (g ≠ Str.empty), ⟨size_of hg, truth_str g⟩, ?_⟩
    by_cases h : g = Str.empty
    · rw [decide_eq_false (fun z => z h)]
      rw [if_pos h] at q
      exact iteF ⟨Nat.zero_le _, fun p np => q p _ (Ex.new np) (.inr (Evl.st_of upd_same))⟩
    · rw [decide_eq_true h]
      rw [if_neg h] at q
      exact iteT ⟨_, rfl, ⟨_, rfl⟩, _, rfl, x, y, rfl, rfl, hy, size_of (by omega), fun p np => q p _ (Ex.new np) (.inl (Evl.sq_of upd_same))⟩
end
end Ov

namespace Ov
open PySem PySem.Spec PyProof.Rows L2
open Evl (pss_cut tCut Ex Ev EvT EvL EvA EvU)
def spRuleReadG (K : PySem.W.Frag) (C : Addr) : Sp := fun vs H Q _ => ∃ (r : RuleD), vs = [.ref C, .str (ruleText r)] ∧ r.Good ∧ ∀ p H', Ex H H' → RuleObj K C H' p r → Q (.ref p) H'
theorem ev_split {K : PySem.W.Frag} {σ : L2.St} {H : Hp} {ta : TA} {g x y : Str} {l : List Str} (h : EvA ta σ H [.str g, .str x, .str y]) (hy : (y.length == 0) = false) (hg : g.length ≤ 100000) (hx : x.length ≤ 99990) (e : (if g = Str.empty then [] else Txt.split x y) = l) :
    EvP (tCall (spSplit K) [] E0 ta) σ H (fun p H2 => SqL K H2 p (l.map V.str) ∨ SqT K H2 p (l.map V.str)) := fun H1 e1 Q q => h H1 e1 _ fun H2 e2 => ⟨g, x, y, rfl, hy, hg, hx, fun p H3 e3 st => q p H3 (e2.trans e3) (by rw [← e]; exact st)⟩
section
variable {P : Program} {w : World} {K : PySem.W.Frag} {mg : Str → Option Value} {base : Heap} {a_LETTERS a_LETTER_TESTS a_LETTER_DEEDS a_ANSWER_TESTS a_ANSWER_DEEDS CR CP : Addr} {tA tN : Tok}
theorem ok_rule_read {f fSp fI : Addr} {fd fdSp fdI : FuncData} (F : Fun K "read" "Rule.read" sRuleRead f fd) (T : TxR K mg a_LETTERS a_LETTER_TESTS a_LETTER_DEEDS a_ANSWER_TESTS a_ANSWER_DEEDS CR tA tN) (D_split_part : Df K mg "split_part" sSplitPart ["sign", "text", "between"] fSp fdSp)
    (mkR : Mk K CR fI) (G_init : FnOk P w K mg base CX0 2 fI fdI ["self", "kind", "tests", "deeds"] (spRuleInit K CR)) (b_init : Binds K fdI ["self", "kind", "tests", "deeds"] []) :
    FnOk P w K mg base CX0 4 f fd ["cls", "text"] (spRuleReadG K CR) := by
  have G_split_part : FnOk P w K mg base CX0 1 fSp fdSp ["sign", "text", "between"] (spSplit K) := ok_split_part D_split_part.F
  refine F.ok scRuleRead (fun vs H Q E h => ?_) (fun cdv A outer s H vs Q E hr h => ?_)
  · obtain ⟨r, rfl, _⟩ := h
    rfl
  · obtain ⟨r, rfl, g, q⟩ := h
    refine ⟨_, pss_cons (ps_asg (pe_partition (pv 1) pe_str) (pg_tup (by rfl) (pgs_cons (pg_name (i := 2) scRuleRead.nd rfl (Or.inl rfl)) (pgs_cons (pg_name (i := 3) scRuleRead.nd rfl (Or.inl rfl)) (pgs_cons (pg_name (i := 4) scRuleRead.nd rfl (Or.inl rfl)) pgs_nil)))))
      (pss_cons (ps_asg (pe_partition (pv 2) pe_str) (pg_tup (by rfl) (pgs_cons (pg_name (i := 5) scRuleRead.nd rfl (Or.inl rfl)) (pgs_cons (pg_name (i := 6) scRuleRead.nd rfl (Or.inl rfl)) (pgs_cons (pg_name (i := 7) scRuleRead.nd rfl (Or.inl rfl)) pgs_nil)))))
      (pss_cons (ps_asg (pe_partition (pv 5) pe_str) (pg_tup (by rfl) (pgs_cons (pg_name (i := 8) scRuleRead.nd rfl (Or.inl rfl)) (pgs_cons (pg_name (i := 9) scRuleRead.nd rfl (Or.inl rfl)) (pgs_cons (pg_name (i := 10) scRuleRead.nd rfl (Or.inl rfl)) pgs_nil)))))
      (pss_cons (ps_if (pt_cmpR op_ne (pv 8) pe_str (nomark _)) (pss_one ps_never) pss_nil)
      (pss_one (ps_try_thru0 (pss_one (ps_ret (pe_makeV (sp := spRuleInit K CR) (E := E0) 0 mkR G_init (hr.mono (by decide)) b_init pass0 (pa_cons (pv 10) (pa_cons (pe_call G_split_part (hr.mono (by decide)) rfl D_split_part.g D_split_part.F.kp D_split_part.b .nil pass0 (pa_cons (pv 6) (pa_cons (pv 7) (pa_cons pe_str pa_nil)))) (pa_cons (pe_call G_split_part (hr.mono (by decide)) rfl D_split_part.g D_split_part.F.kp D_split_part.b .nil pass0 (pa_cons (pv 3) (pa_cons (pv 4) (pa_cons pe_str pa_nil)))) pa_nil))))))))))), ?_⟩
    have lk := kinds_len g.k
    have lt := tText_len (fun x hx => testsNot_len (g.ts x hx)) g.nt
    have ld := dText_len (fun x hx => deedsOf_len (g.ds x hx)) g.nd
    have jt := join_small (sep := " and ") (fun x hx => testsNot_len (g.ts x hx)) (by decide) g.nt
    have jd := join_small (sep := " then ") (fun x hx => deedsOf_len (g.ds x hx)) (by decide) g.nd
    have n3 : (Str.ofString "on ").length = 3 := by decide +kernel
    have la : (("on " : Str) ++ r.k ++ tText r.ts).length ≤ 40000 := by rw [Str.length_append, Str.length_append]; omega
    have lb : (("on " : Str) ++ r.k).length ≤ 40000 := by rw [Str.length_append]; omega
    have lr : (ruleText r).length ≤ 100000 := by
      unfold ruleText
      rw [Str.length_append]
      omega
    refine q_part (read1 g) rfl (by decide +kernel) (size_of (by omega)) fun H1 e1 => ?_
    refine q_part (read2 g) rfl (by decide +kernel) (size_of (by omega)) fun H2 e2 => ?_
    refine q_part (read3 r.k) rfl (by decide +kernel) (size_of (by omega)) fun H3 e3 => ?_
    refine Evl.q_when (b := false) (Evl.et_is (Evl.et_test (Evl.ev_op (Evl.ev_var rfl) Evl.ev_c (Evl.rv_ne rfl))) (by decide +kernel)) (fun z => nomatch z) (fun _ H4 e4 => ?_)
    have e14 := ((e1.trans e2).trans e3).trans e4
    have et : (if (if r.ts = [] then ("" : Str) else " if ") = Str.empty then [] else Txt.split (if r.ts = [] then ("" : Str) else Str.join " and " r.ts) " and ") = r.ts := by
      by_cases h : r.ts = []
      · rw [if_pos h, if_pos (by decide +kernel)]
        exact h.symm
      · rw [if_neg h, if_neg (by decide +kernel), if_neg h, read4 g h]
    have ed : (if (if r.ds = [] then ("" : Str) else " do ") = Str.empty then [] else Txt.split (if r.ds = [] then ("" : Str) else Str.join " then " r.ds) " then ") = r.ds := by
      by_cases h : r.ds = []
      · rw [if_pos h, if_pos (by decide +kernel)]
        exact h.symm
      · rw [if_neg h, if_neg (by decide +kernel), if_neg h, read5 g h]
    have z1 : (if r.ts = [] then ("" : Str) else " if ").length ≤ 100000 := by split <;> decide +kernel
    have z2 : (if r.ds = [] then ("" : Str) else " do ").length ≤ 100000 := by split <;> decide +kernel
    have z3 : (if r.ts = [] then ("" : Str) else Str.join " and " r.ts).length ≤ 99990 := by
      split
      · decide +kernel
      · have := jt.2
        omega
    have z4 : (if r.ds = [] then ("" : Str) else Str.join " then " r.ds).length ≤ 99990 := by
      split
      · decide +kernel
      · have := jd.2
        omega
    refine ⟨rfl, ev_rule (r := r) (Evl.ev_var rfl) (ev_split (Evl.ea_cons (Evl.ev_var rfl) (Evl.ea_cons (Evl.ev_var rfl) (Evl.ea_cons Evl.ev_c Evl.ea_nil))) (by decide +kernel) z1 z3 et) (ev_split (Evl.ea_cons (Evl.ev_var rfl) (Evl.ea_cons (Evl.ev_var rfl) (Evl.ea_cons Evl.ev_c Evl.ea_nil))) (by decide +kernel) z2 z4 ed) g H4 (Ex.refl _) _ fun p H5 e5 ro => q p H5 (e14.trans e5) ro⟩
end
end Ov

namespace Ov
open PySem PySem.Spec PyProof.Rows L2
open Evl (pss_cut tCut Ex Ev EvT EvL EvA EvU)
def DrawnAt (H : Hp) (xs : List V) (rs : List RuleD) : Prop := Paired (fun x r => ∃ p, x = V.ref p ∧ RuleAt H p r ∧ r.Ok) xs rs
theorem DrawnAt.kp {a b : Addr} {H H' : Hp} (k : Kp a b H H') (D : Deal H a b) : ∀ {xs : List V} {rs : List RuleD}, DrawnAt H xs rs → DrawnAt H' xs rs
  | _, _, .nil => .nil
  | _, _, .cons ⟨p, h1, h2, h3⟩ t => .cons ⟨p, h1, h2.kp k D, h3⟩ (DrawnAt.kp k D t)
theorem DrawnAt.ex {H H' : Hp} (e : Ex H H') : ∀ {xs : List V} {rs : List RuleD}, DrawnAt H xs rs → DrawnAt H' xs rs
  | _, _, .nil => .nil
  | _, _, .cons ⟨p, h1, h2, h3⟩ t => .cons ⟨p, h1, h2.same (ex_same e), h3⟩ (DrawnAt.ex e t)
theorem DrawnAt.at_ {H : Hp} : ∀ {xs : List V} {rs : List RuleD} {i : Nat} {x : V}, DrawnAt H xs rs → xs[i]? = some x → ∃ p r, x = .ref p ∧ rs[i]? = some r ∧ RuleAt H p r ∧ r.Ok
  | _, _, _, _, .nil, h => by simp at h
  | _, _, 0, _, .cons ⟨p, h1, h2, h3⟩ _, h => by
    have e := Option.some.inj h
    exact ⟨p, _, by rw [← e, h1], rfl, h2, h3⟩
  | _, _, i + 1, _, .cons _ t, h => DrawnAt.at_ (i := i) t h
theorem paired_snoc {α β : Type} {R : α → β → Prop} : ∀ {xs : List α} {ys : List β} {x : α} {y : β}, Paired R xs ys → R x y → Paired R (xs ++ [x]) (ys ++ [y])
  | _, _, _, _, .nil, h => .cons h .nil
  | _, _, _, _, .cons h t, h2 => .cons h (paired_snoc t h2)
/-- list(x) of a list or a tuple -/
abbrev rListOf (K : PySem.W.Frag) : List V → Hp → VK → Prop := fun xs H Q => ∃ p ys, xs = [.ref p] ∧ (SqL K H p ys ∨ SqT K H p ys) ∧ ∀ l, H l = none → Q (.ref l) (upd H l (.lst ys))
theorem paired_len {α β : Type} {R : α → β → Prop} : ∀ {xs : List α} {ys : List β}, Paired R xs ys → xs.length = ys.length
  | _, _, .nil => rfl
  | _, _, .cons _ t => congrArg (· + 1) (paired_len t)
theorem range_at {α β : Type} (rs : List α) {n : Nat} (hn : n = rs.length) (v : Nat → β) (g : α → β) (h : ∀ i r, rs[i]? = some r → v i = g r) : (List.range n).map v = rs.map g := by
  subst hn
  refine List.ext_getElem? fun i => ?_
  rw [List.getElem?_map, List.getElem?_map]
  by_cases hi : i < rs.length
  · rw [List.getElem?_range hi, List.getElem?_eq_getElem hi]
    exact congrArg some (h i _ (List.getElem?_eq_getElem hi))
  · rw [List.getElem?_eq_none (by rw [List.length_range]; omega), List.getElem?_eq_none (by omega)]
    rfl
theorem RuleAt.updL {H : Hp} {D p : Addr} {zs : List V} {r : RuleD} {o : HO} (hD : H D = some (.lst zs)) (h : RuleAt H p r) : RuleAt (upd H D o) p r := by
  obtain ⟨t, d, h1, h2, h3⟩ := h
  refine ⟨t, d, ?_, ?_, ?_⟩
  · rw [upd_ne (ne_of h1 hD (fun z => nomatch z))]
    exact h1
  · rw [upd_ne (ne_of h2 hD (fun z => nomatch z))]
    exact h2
  · rw [upd_ne (ne_of h3 hD (fun z => nomatch z))]
    exact h3
theorem DrawnAt.updL {H : Hp} {D : Addr} {zs : List V} {o : HO} (hD : H D = some (.lst zs)) : ∀ {xs : List V} {rs : List RuleD}, DrawnAt H xs rs → DrawnAt (upd H D o) xs rs
  | _, _, .nil => .nil
  | _, _, .cons ⟨p, h1, h2, h3⟩ t => .cons ⟨p, h1, h2.updL hD, h3⟩ (DrawnAt.updL hD t)
theorem sqt_updL {K : PySem.W.Frag} {H : Hp} {D a : Addr} {zs xs : List V} {o : HO} (hD : H D = some (.lst zs)) (h : SqT K H a xs) : SqT K (upd H D o) a xs := by
  rcases h with (h | ⟨u, h⟩) | h
  · exact .inl (.inl (by rw [upd_ne (ne_of h hD (fun z => nomatch z))]; exact h))
  · exact .inl (.inr ⟨u, by rw [upd_ne (ne_of h hD (fun z => nomatch z))]; exact h⟩)
  · exact .inr h
theorem RuleObj.updL {K : PySem.W.Frag} {C : Addr} {H : Hp} {D p : Addr} {zs : List V} {r : RuleD} {o : HO} (hD : H D = some (.lst zs)) (h : RuleObj K C H p r) : RuleObj K C (upd H D o) p r := by
  obtain ⟨dx, t, d, h1, h2, h3⟩ := h
  refine ⟨dx, t, d, ?_, sqt_updL hD h2, sqt_updL hD h3⟩
  rw [upd_ne (ne_of h1 hD (fun z => nomatch z))]
  exact h1
theorem RulesAt.updL {K : PySem.W.Frag} {C : Addr} {H : Hp} {D : Addr} {zs : List V} {o : HO} (hD : H D = some (.lst zs)) : ∀ {xs : List V} {rs : List RuleD}, RulesAt K C H xs rs → RulesAt K C (upd H D o) xs rs
  | _, _, .nil => .nil
  | _, _, .cons ⟨p, h1, h2⟩ t => .cons ⟨p, h1, h2.updL hD⟩ (RulesAt.updL hD t)
section
variable {K : PySem.W.Frag} {CR CP : Addr} {σ : L2.St} {H : Hp} {tl te : TE}
theorem el_rulesL {a : Addr} {xs : List V} {rs : List RuleD} {j : Nat} {vs : List Nat} (g : RuleD → V) (h : Ev tl σ H (.ref a)) (hx : SqL K H a xs) (hR : RulesAt K CR H xs rs) (hz : xs.length ≤ 40000) (hw : ∀ x, wipe ((wipe σ vs).set j (some x)) vs = wipe σ vs)
    (he : ∀ p r H1, Ex H H1 → r ∈ rs → RuleObj K CR H1 p r → Ev te ((wipe σ vs).set j (some (.ref p))) H1 (g r)) : EvL (tLc (iList K tl) (gName j) tYes te vs) σ H (rs.map g) := by
  have e : (List.range xs.length).map (fun i => ((rs[i]?).map g).getD .non) = rs.map g := range_at rs (paired_len hR) _ g fun i r hi => by rw [hi]; rfl
  rw [← e, ← given_all]
  refine Evl.el_lcL (fun _ => true) _ h hx hz hw (fun _ _ _ _ _ => et_yes) (fun i x H1 e1 hi _ => ?_)
  obtain ⟨p, r, rfl, hr, ho⟩ := hR.at_ hi
  show Ev te _ H1 (((rs[i]?).map g).getD .non)
  rw [hr]
  exact he p r H1 e1 (List.mem_of_getElem? hr) (ho.ex e1)
theorem el_rulesT {a : Addr} {xs : List V} {rs : List RuleD} {j : Nat} {vs : List Nat} (g : RuleD → V) (h : Ev tl σ H (.ref a)) (hx : SqT K H a xs) (hR : RulesAt K CR H xs rs) (hz : xs.length ≤ 40000) (hw : ∀ x, wipe ((wipe σ vs).set j (some x)) vs = wipe σ vs)
    (he : ∀ p r H1, Ex H H1 → r ∈ rs → RuleObj K CR H1 p r → Ev te ((wipe σ vs).set j (some (.ref p))) H1 (g r)) : EvL (tLc (iTup K tl) (gName j) tYes te vs) σ H (rs.map g) := by
  have e : (List.range xs.length).map (fun i => ((rs[i]?).map g).getD .non) = rs.map g := range_at rs (paired_len hR) _ g fun i r hi => by rw [hi]; rfl
  rw [← e]
  refine el_lcT _ h hx hz hw (fun i x H1 e1 hi => ?_)
  obtain ⟨p, r, rfl, hr, ho⟩ := hR.at_ hi
  show Ev te _ H1 (((rs[i]?).map g).getD .non)
  rw [hr]
  exact he p r H1 e1 (List.mem_of_getElem? hr) (ho.ex e1)
end
section
variable {K : PySem.W.Frag} {σ : L2.St} {H : Hp}
theorem ev_eqS {ta tb : TE} {x y : Str} (ha : Ev ta σ H (.str x)) (hb : Ev tb σ H (.str y)) (hx : PyData.canLay0 (.str x) = true) (hy : PyData.canLay0 (.str y) = true) : Ev (tOp (rEqD K) ta tb) σ H (.bl (decide (x = y))) := by
  have sh : ∀ x : Str, PyData.canLay0 (.str x) = true → SeqAt.shaped (.str x) = true := fun x hx => by
    show (PyData.canLay0 (.str x) && decide ((PyData.str x).depth ≤ 64)) = true
    rw [hx]
    rfl
  refine Evl.ev_op ha hb fun H1 e _ q => ⟨_, _, .str x, .str y, sh x hx, sh y hy, ?_⟩
  rw [show PyData.eqv (.str x) (.str y) = (x == y) from rfl, show (x == y) = decide (x = y) by by_cases h : x = y <;> simp [h]]
  exact q H1 (Ex.refl H1)
end
end Ov

namespace Ov
open PySem PySem.Spec PyProof.Rows L2
/-! repr of a tuple or list of texts, at a run whose guards are known -/
section
variable {X : Cx}
def rShow (K : PySem.W.Frag) : List V → Hp → VK → Prop := fun vs H Q => ∃ (p : Addr) (d : PyData), vs = [.ref p] ∧ Dp K H (.ref p) d ∧ d.showable = true ∧ d.hasDict = false ∧ d.depth ≤ 20 ∧ d.shown.length ≤ sizeLine ∧ Q (.str d.shown) H
theorem call_show (hg : X.A.guards = some []) (hr : Room 1 X.A) : CallR X (.builtin "repr") (rShow X.K) := by
  rintro pins s σ H _ us Q I r ⟨p, d, rfl, hd, h1, h2, h3, h4, q⟩
  obtain ⟨u, rfl, ru⟩ := vals1 r
  cases ru
  obtain ⟨as, hR⟩ := Dp.reads I d _ _ hd rfl
  have hu := hr.un
  refine repr_of_reads' hR h1 (fun e => by rw [h2] at e; cases e) hg (by omega) (fun _ _ e => e) (fun h' u tk k => ?_) h4
  exact ⟨.str d.shown, H, I.kept k, ⟨_, rfl⟩, q⟩
end
/-- a drawn rule, as data -/
def ruleData (r : RuleD) : PyData := .tuple [.str r.k, .tuple (r.ts.map .str), .tuple (r.ds.map .str)]
end Ov

namespace Ov
open PySem PySem.Spec PyProof.Rows L2
open Evl (Ex)
/-! an instance with an own __eq__ against texts, tuples, None; `in` over a tuple of these -/
section
variable {M : Model} {prog : Program} {w : World} {A : Around} {E : Value → Shared → Prop} {s : Shared} {K : PySem.W.Frag} {x C f : Addr} {ox : Obj} {od : Option Obj}
theorem rc_back {b : Value} {T id : String} {Q : Value → Shared → Prop} (hu : A.units < cLine) (kin : K.In s.heap) (J : PySem.W.InstAt s.heap x ox C od) (hs : PySem.W.findIn K (.ref C) "__eq__" = some (some (.ref f))) (hf : PySem.W.isFn K (.ref f) = true)
    (hT : s.TypeIs b T) (hm : PySem.W.mroIn K C (.type T) = some false) (slot : Slot T "__eq__" id) (hdec : ∀ Q' : Value → Shared → Prop, Q' .notImplemented s → wpAny (model prog w) A (call (.builtin id) [b, .ref x]) Q' E s)
    (run : wpAny (model prog w) A (call (.ref f) [.ref x, b]) (PySem.W.CmpBack Q) E s) : wpAny (model prog w) A (richCompare .Eq b (.ref x)) Q E s := by
  have one : wpAny (model prog w) A (tryCompare (.ref x) "__eq__" b) (fun r s' => ∃ v, r = some v ∧ Q v s') E s := by
    unfold tryCompare
    refine wpAny_bind (PySem.W.ifBound_K kin J hs hf (wpAny_mono run (fun v s' hv => ?_) fun _ _ e => e))
    cases v <;> first | exact hv.elim | exact wpAny_pure ⟨_, rfl, hv⟩
  simp only [richCompare, cmpInfo_Eq, hT.oneThing_none]
  refine wpAny_holding (wpAny_bind (wpAny_cRoomFor hu ?_))
  refine wpAny_bind (wpAny_typeOf hT (wpAny_bind (J.type.here ?_)))
  split
  · refine wpAny_bind ((PySem.W.looks_subIn kin (t := .ref C) hm).here ?_)
    simp only [Bool.false_eq_true, if_false, Bool.not_false, if_true]
    refine wpAny_bind (m := tryCompare b _ (.ref x)) (wpAny_tryCompare_declines hT slot (hdec _ ⟨rfl, ?_⟩))
    refine wpAny_bind (m := tryCompare (.ref x) _ b) (wpAny_mono one (fun r s' z => ?_) fun _ _ e => e)
    obtain ⟨v, rfl, hq⟩ := z
    exact wpAny_pure hq
  · rename_i q
    exact absurd (by simp) q
theorem str_no {t : Str} {u : Tok} {dx : Addr} {Q' : Value → Shared → Prop} (J : PySem.W.InstAt s.heap x (PySem.W.instObj C dx) C od) (h : Q' .notImplemented s) : wpAny (model prog w) A (call (.builtin "str.__eq__") [.str t u, .ref x]) Q' E s := by
  refine wpAny_call_entry F.slot_str_eq_refl (typeIs_str s t u) F.entry_str_eq ?_ (F.args_str_eq_2 _ _)
  obtain ⟨hp, g, d, tk, os⟩ := s
  have hl := J.at_
  unfold Builtin.«str.__eq__» Builtin.Str.strCompare
  wp_walk using wpAny_loadPart' hl
  exact ⟨_, rfl, h⟩
theorem none_no {Q' : Value → Shared → Prop} (h : Q' .notImplemented s) : wpAny (model prog w) A (call (.builtin "NoneType.__eq__") [.none, .ref x]) Q' E s :=
  call_gives F.slot_NoneType_eq_refl rfl F.entry_NoneType_eq (F.args_NoneType_eq_2 _ _) (PySem.SeqAt.NoneType___eq___none_ref_0 x) h
theorem tup_no {a : Addr} {its : Array Value} {Q' : Value → Shared → Prop} (kin : K.In s.heap) (J : PySem.W.InstAt s.heap x ox C od) (hm : PySem.W.mroIn K C (.type "tuple") = some false) (ha : IsTup s.heap a its) (h : Q' .notImplemented s) :
    wpAny (model prog w) A (call (.builtin "tuple.__eq__") [.ref a, .ref x]) Q' E s := by
  refine wpAny_call_entry F.slot_tuple_eq_refl ha.typeIs F.entry_tuple_eq ?_ (F.args_tuple_eq_2 _ _)
  have hL : PySem.W.Looks (model prog w) s.heap (isInstance (.ref x) (.type "tuple")) false := J.type.andThen (PySem.W.looks_subIn kin (t := .ref C) hm)
  unfold Builtin.«tuple.__eq__»
  wp_walk using hL.here
  exact ⟨_, rfl, h⟩
end
/-- a text, None or a tuple -/
def NoIns (K : PySem.W.Frag) (H : Hp) (v : V) : Prop := (∃ t, v = .str t) ∨ v = .non ∨ ∃ p xs, v = .ref p ∧ SqT K H p xs
theorem NoIns.ex {K : PySem.W.Frag} {H H' : Hp} {v : V} (e : Ex H H') (h : NoIns K H v) : NoIns K H' v :=
  h.imp id (Or.imp id fun ⟨p, xs, z, hp⟩ => ⟨p, xs, z, Evl.ex_t e hp⟩)
/-- the own __eq__ says False of these -/
def spNo (K : PySem.W.Frag) (C : Addr) : Sp := fun vs H Q _ => ∃ (a dx : Addr) (fs : List (Str × V)) (v : V), vs = [.ref a, v] ∧ H a = some (.ins C dx fs) ∧ NoIns K H v ∧ ∀ H', Ex H H' → Q (.bl false) H'
structure NoCls (K : PySem.W.Frag) (C : Addr) : Prop where
  s : PySem.W.mroIn K C (.type "str") = some false
  t : PySem.W.mroIn K C (.type "tuple") = some false
  n : PySem.W.mroIn K C (.type "NoneType") = some false
  si : PySem.W.kitOne K (.type "str") (.ref C) = some false
  ti : PySem.W.kitOne K (.type "tuple") (.ref C) = some false
  ni : PySem.W.kitOne K (.type "NoneType") (.ref C) = some false
theorem NoIns.ty {K : PySem.W.Frag} {H : Hp} {v : V} {C : Addr} (h : NoIns K H v) (n : NoCls K C) : ∃ t, (∀ H1, Ex H H1 → TyX K H1 v t) ∧ PySem.W.kitOne K t (.ref C) = some false := by
  rcases h with ⟨t, rfl⟩ | rfl | ⟨p, xs, rfl, (h | ⟨o, h⟩) | ⟨o, its, m, h, hc, _⟩⟩
  · exact ⟨_, fun _ _ => .base (.str _), n.si⟩
  · exact ⟨_, fun _ _ => .base .non, n.ni⟩
  · exact ⟨_, fun _ e => .base (.tup (e _ _ h)), n.ti⟩
  · exact ⟨_, fun _ e => .fTuple (e _ _ h), n.ti⟩
  · exact ⟨_, fun _ _ => .kTuple h hc, n.ti⟩
def rInNo (K : PySem.W.Frag) (C : Addr) : R2 := fun x y H Q => ∃ (a dx p : Addr) (fs : List (Str × V)) (xs : List V), x = .ref a ∧ y = .ref p ∧ H a = some (.ins C dx fs) ∧ SqT K H p xs ∧ (∀ v ∈ xs, NoIns K H v) ∧ ∀ H', Ex H H' → Q (.bl false) H'
section
variable {X : Cx} {CX : CXT} {k : Nat} {f C : Addr} {fd : FuncData} {ps : List Str} {E : XK}
theorem eqb_fin {prog : Program} {w : World} {A : Around} {E : Value → Shared → Prop} {s : Shared} {a : Addr} {u : Value} {Q : Bool → Shared → Prop} (hu : (∃ t k, u = .str t k) ∨ u = .none ∨ ∃ p, u = .ref p)
    (g : wpAny (model prog w) A (richCompare .Eq u (.ref a)) (fun w' s' => ∃ r, w' = .bool r ∧ Q r s') E s) (ne : u ≠ .ref a) : wpAny (model prog w) A (eqBool u (.ref a)) Q E s := by
  rcases hu with ⟨t, k, rfl⟩ | rfl | ⟨p, rfl⟩
  all_goals
    unfold eqBool
    refine wpAny_holding ?_
    refine wpAny_ite_split (fun hab => absurd (eq_of_beq hab) ne) (fun _ => ?_)
    refine wpAny_bind (wpAny_mono g (fun w' s' hw => ?_) fun _ _ z => z)
    obtain ⟨r, rfl, q⟩ := hw
    exact wpAny_truthy_bool q
theorem no_rc (F0 : FnOk X.prog X.w X.K X.mg X.base CX k f fd ps (spNo X.K C)) (hr : Room (k + 1) X.A) (hs : PySem.W.findIn X.K (.ref C) "__eq__" = some (some (.ref f))) (hf : PySem.W.isFn X.K (.ref f) = true) (hb : Binds X.K fd ps []) (hx : Passes CX X E) (hn : NoCls X.K C)
    {pins : List (Addr × Obj)} {σ : L2.St} {H : Hp} {s : Shared} {a dx : Addr} {fs : List (Str × V)} {v : V} {u : Value} (I : Inv X pins σ H s) (r : RelV v u) (ha : H a = some (.ins C dx fs)) (hv : NoIns X.K H v) {Q : Bool → Shared → Prop}
    (h : ∀ H' s', Ex H H' → Inv X pins σ H' s' → Q false s') : wpAny (model X.prog X.w) X.A.in1 (eqBool u (.ref a)) Q X.xe s := by
  obtain ⟨mA, J, _⟩ := ins_get I.hok ha
  obtain ⟨od, J, _⟩ := J.look
  have hu : X.A.in1.units < cLine := by have := hr.un; show X.A.units + 1 < cLine; omega
  have run : wpAny (model X.prog X.w) X.A.in1 (call (.ref f) [.ref a, u]) (PySem.W.CmpBack fun w' s' => ∃ r, w' = .bool r ∧ Q r s') X.xe s := by
    refine wpAny_mono (run_sub F0 (sub1 hr) hb hx I (vs := [.ref a, v]) (us := [.ref a, u]) (.cons rfl (.cons r .nil)) (Q := fun v' H' => v' = .bl false ∧ Ex H H') ⟨a, dx, fs, v, rfl, ha, hv, fun H' e => ⟨rfl, e⟩⟩) (fun w' s' hw => ?_) fun _ _ z => z
    obtain ⟨z, H', I', rz, rfl, e⟩ := hw
    cases rz
    exact ⟨false, rfl, h H' s' e I'⟩
  have fin := @eqb_fin X.prog X.w X.A.in1 X.xe s a u Q
  rcases hv with ⟨t, rfl⟩ | rfl | ⟨p, xs, rfl, hp⟩
  · obtain ⟨tk, rfl⟩ := r
    exact fin (.inl ⟨_, _, rfl⟩) (rc_back hu I.kIn J hs hf (typeIs_str s t tk) hn.s F.slot_str_eq_refl (fun Q' q => str_no J q) run) nofun
  · cases r
    exact fin (.inr (.inl rfl)) (rc_back hu I.kIn J hs hf (show s.TypeIs .none "NoneType" from rfl) hn.n F.slot_NoneType_eq_refl (fun Q' q => none_no q) run) nofun
  · cases r
    obtain ⟨its, _, ht, _⟩ := I.tuple hp
    refine fin (.inr (.inr ⟨_, rfl⟩)) (rc_back hu I.kIn J hs hf ht.typeIs hn.t F.slot_tuple_eq_refl (fun Q' q => tup_no I.kIn J hn.t ht q) run) (fun z => ?_)
    have z' : p = a := by injection z
    subst z'
    obtain ⟨o, ho, hc, _⟩ := ht
    rw [J.at_] at ho
    cases ho
    exact nomatch hc
theorem op_inNo (F0 : FnOk X.prog X.w X.K X.mg X.base CX k f fd ps (spNo X.K C)) (hr : Room (k + 1) X.A) (hs : PySem.W.findIn X.K (.ref C) "__eq__" = some (some (.ref f))) (hf : PySem.W.isFn X.K (.ref f) = true) (hb : Binds X.K fd ps []) (hx : Passes CX X E) (hn : NoCls X.K C) :
    OpR X (compareOp .In) (rInNo X.K C) := by
  intro pins s σ H x y v u Q I rx ry h
  obtain ⟨a, dx, p, fs, xs, rfl, rfl, ha, hp, hv, q⟩ := h
  cases rx
  cases ry
  obtain ⟨its, rv, ht, _⟩ := I.tuple hp
  show wpAny _ _ (do return Value.bool (← contains (.ref p) (.ref a))) _ _ s
  refine wpAny_bind ?_
  unfold contains
  refine wpAny_holding ?_
  refine wpAny_bind (wpAny_specialOf ht.typeIs F.slot_tuple_contains.lookup ?_)
  rw [if_neg (by decide)]
  refine wpAny_bind (wpAny_callSpecialUnlessNone?_slot (name := Str.ofString "__contains__") ht.typeIs F.slot_tuple_contains (wpAny_call_entry F.slot_tuple_contains ht.typeIs F.entry_tuple_contains ?_ (F.args_tuple_contains_2 _ _)))
  show wpAny _ _ (Builtin.Tuple.tupleItemsOf (.ref p) >>= _) _ _ s
  refine wpAny_bind (tupleItemsOf_ ht ?_)
  refine wpAny_bind (forIn_array_ _ (fun rest b s' => b.1 = none ∧ ∃ H' vs', Ex H H' ∧ Inv X pins σ H' s' ∧ Vals vs' rest ∧ ∀ v ∈ vs', NoIns X.K H v) _ ?_ ?_ its.toArray _ ⟨rfl, H, xs, (fun _ _ h => h), I, rv, hv⟩)
  · rintro y' rest b s' ⟨hb', H', vs', e, I', rv', hv'⟩
    cases rv' with
    | cons r1 r2 =>
      refine wpAny_bind (no_rc F0 hr hs hf hb hx hn I' r1 (e _ _ ha) (NoIns.ex e (hv' _ (List.mem_cons_self ..))) fun H2 s2 e2 I2 => ?_)
      exact wpAny_pure ⟨rfl, H2, _, e.trans e2, I2, r2, fun v hm => hv' v (List.mem_cons_of_mem _ hm)⟩
  · rintro ⟨b1, b2⟩ s' ⟨hb', H', vs', e, I', _, _⟩
    simp only at hb'
    subst hb'
    refine wpAny_pure ⟨_, rfl, wpAny_truthy_bool (wpAny_pure ⟨.bl false, H', I', rfl, q H' e⟩)⟩
end
end Ov

namespace Ov
open PySem PySem.Spec PyProof.Rows L2
open Evl (pss_cut tCut Ex Ev EvT EvL EvA EvU)
section
variable {P : Program} {w : World} {K : PySem.W.Frag} {mg : Str → Option Value} {base : Heap} {a_LETTERS a_LETTER_TESTS a_LETTER_DEEDS a_ANSWER_TESTS a_ANSWER_DEEDS CR : Addr} {tA tN : Tok}
/-- a Rule against a text, None, a tuple: not equal -/
theorem ok_rule_eqNo {f : Addr} {fd : FuncData} (F : Fun K "__eq__" "Rule.__eq__" sRuleEq f fd) (T : TxR K mg a_LETTERS a_LETTER_TESTS a_LETTER_DEEDS a_ANSWER_TESTS a_ANSWER_DEEDS CR tA tN) (n : NoCls K CR) : FnOk P w K mg base CX0 1 f fd ["self", "other"] (spNo K CR) := by
  refine F.ok scRuleEq (fun vs H Q E h => ?_) (fun cdv A outer s H vs Q E hr h => ?_)
  · obtain ⟨a, dx, fs, v, rfl, _⟩ := h
    rfl
  · obtain ⟨a, dx, fs, v, rfl, ha, hv, k⟩ := h
    refine ⟨_, pss_one (ps_ret (pe_and (pe_callB call_isi (by rfl) T.n_isinstance (by decide +kernel) (pa_cons (pv 1) (pa_cons (pe_glob (v := .ref CR) rfl T.g_Rule rfl) pa_nil))) (pe_and (pe_cmpR op_eq (pe_fld (pv 0) rfl) (pe_fld (pv 1) rfl) (nomark _)) (pe_and (pe_cmpR (op_eqD hr.units) (pe_fld (pv 0) rfl) (pe_fld (pv 1) rfl) (nomark _)) (pe_one (pe_cmpR (op_eqD hr.units) (pe_fld (pv 0) rfl) (pe_fld (pv 1) rfl) (nomark _))))))), ?_⟩
    obtain ⟨t, ty, e⟩ := hv.ty n
    refine Evl.s_ret (v := .bl (false && false)) ?_ fun H2 e2 => k H2 e2
    exact Evl.ev_andV (ev_isi (Evl.ea_cons (Evl.ev_var rfl) (Evl.ea_cons Evl.ev_c Evl.ea_nil)) (.own CR) ty e) (fun z => nomatch z)
end
end Ov

namespace Ov
open PySem PySem.Spec PyProof.Rows L2
/-! a def's promise where no repr is under way, and a law's end at its caller -/
structure FnC (P : Program) (w : World) (K : PySem.W.Frag) (mg : Str → Option Value) (base : Heap) (k : Nat) (f : Addr) (fd : FuncData) (ps : List Str) (sp : Sp) : Prop where
  go : ∀ (A : Around) (fr : List Env) (s : Shared) (H : Hp) (args : Args) (us : List Value) (vs : List V) (Q : VK), A.guards = some [] ∧ Room k A → Env0 P w K mg base A fr s H → BindsTo s fd args (ps.zip us) ∧ Vals vs us → sp vs H Q E0 →
    codeAny (model P w) A (.call (.ref f) args) (CR CX0 fr P w H s Q E0) s
section
variable {P : Program} {w : World} {K : PySem.W.Frag} {mg : Str → Option Value} {base : Heap}
theorem okC {x qual : Str} {st : Stmt} {f : Addr} {fd : FuncData} {N ps : List Str} {k : Nat} {sp : Sp} (F : Fun K x qual st f fd) (S : FnScope N ps (defScope st)) (len : ∀ vs H Q E, sp vs H Q E → vs.length = ps.length)
    (body : ∀ (cdv : Value) (A : Around) (fr : List Env) (s : Shared) (H : Hp) (vs : List V) (Q : VK), (A.deeper (envOfC qual (defScope st) s.heap.objs.size f cdv)).guards = some [] → Room k (A.deeper (envOfC qual (defScope st) s.heap.objs.size f cdv)) → sp vs H Q E0 →
      ∃ t, PSs (cxOf CX0 P w K mg base N qual (defScope st) f cdv A fr s H E0).nox (defBody st) t ∧ t { nx := fun _ H' => Q .non H', rt := Q } (start N vs) H) : FnC P w K mg base (k + 1) f fd ps sp := by
  obtain ⟨oc, od, kV, doc, pm, an, cdv, ct, osl, rfl, lk, rec0⟩ := F.ex
  constructor
  rintro A fr s H args us vs Q ⟨hg, hr⟩ e0 ⟨hb, r⟩ q
  have keep := fun b o e => (e0.bs b o e).1
  have kin : K.In s.heap := e0.mod.kin.keeps keep
  obtain ⟨t, ht, hq⟩ := body cdv A fr s H vs Q hg (hr.deeper _) q
  have pars : ∀ y ∈ ps.zip us, (defScope st).names.lookup y.1 = some .local ∨ ((defScope st).names.lookup y.1 = some .cell ∧ ((cellsFrom (s.heap.objs.size + 1) (defScope st).names []).lookup y.1).isSome = true) := by
    rintro ⟨n, v⟩ hy
    exact (S.par n (List.of_mem_zip hy).1).imp id fun z => ⟨z, PySem.W.cellsFrom_some _ _ _ (.inl z)⟩
  refine codeAny_call_function hr.depth (kin _ _ lk) rfl S.co S.gen rfl (PySem.W.codeRec_of kin rec0) (hb _ _ _ _ (wpAny_newFunctionEnv_cells S.kind pars ?_))
  rintro _ rfl s1 x
  refine ⟨(e0.mod.nolimit.keeps keep).keeps x.toInCall.keep, codeAny_func (wpAny_mono (ht.nox.run [] s1 (start N vs) H _ (inv_start S hr.hd e0 (len _ _ _ _ q) r x) hq) (fun fl s2 h => ?_) fun _ _ h => h)⟩
  cases fl with
  | next =>
    obtain ⟨_, H2, J, q2⟩ := h
    exact ⟨.non, H2, J.os, J.bare, J.base, J.hok, rfl, q2⟩
  | ret u =>
    obtain ⟨v, _, H2, J, rv, q2⟩ := h
    exact ⟨v, H2, J.os, J.bare, J.base, J.hok, rv, q2⟩
  | brk =>
    obtain ⟨_, _, _, z⟩ := h
    exact z.elim
  | cont =>
    obtain ⟨_, _, _, z⟩ := h
    exact z.elim
/-- the script's list is tracked, but where the module itself holds it -/
def trkA (K : PySem.W.Frag) (a : Addr) (o : Obj) (xs : List V) : Hp := fun b => if b = a then (match K.lookup a with | none => some (.frz o (.lst xs)) | some _ => none) else none
theorem trkA_some {a b : Addr} {o : Obj} {xs : List V} {u : HO} (h : trkA K a o xs b = some u) : b = a ∧ K.lookup a = none ∧ u = .frz o (.lst xs) := by
  unfold trkA at h
  split at h
  · rename_i e
    split at h
    · rename_i n
      cases h
      exact ⟨e, n, rfl⟩
    · cases h
  · cases h
theorem callC {mb : Str → Option Value} {k : Nat} {fa a : Addr} {fd : FuncData} {x : Str} {sp : Sp} {s : Shared} {vs : List Value} {zs : List Int} (kin : K.In s.heap) (gl : s.heap.Ns mainGlobals mg) (bl : s.heap.Ns builtinsNs mb)
    (boot : ∀ x : Str, x ≠ "__name__" → mb x = bootBuiltins x) (nl : s.heap.NoLimit) (still : s.gens = #[]) (ha : s.heap.get? a = some { cls := .type "list", data := .seq vs.toArray }) (hi : IntsAre vs zs) (hz : zs.length ≤ sizeLine) (hr : Room k callerA)
    (G : ∀ base : Heap, K.In base → base.Ns mainGlobals mg → FnC P w K mg base k fa fd [x] sp) (hb : ∀ (s : Shared) (u : Value), BindsTo s fd ⟨[u], []⟩ [(x, u)]) (hsp : ∀ H : Hp, SqL K H a (zs.map V.int) → sp [.ref a] H (fun v _ => v = .bl true) E0) :
    codeAny (model P w) callerA (.call (.ref fa) ⟨[.ref a], []⟩) (fun r s' => r = .ok (.ret (.bool true)) ∧ OldK s.heap s'.heap ∧ s'.os = s.os ∧ AllBare s'.gens) s := by
  have rv := vals_ints hi
  obtain ⟨o, ho⟩ : ∃ o : Obj, o = { cls := .type "list", data := .seq vs.toArray } := ⟨_, rfl⟩
  rw [← ho] at ha
  obtain ⟨H, hH⟩ : ∃ H, H = trkA K a o (zs.map V.int) := ⟨_, rfl⟩
  have tr : ∀ {b u}, H b = some u → b = a ∧ K.lookup a = none ∧ u = .frz o (.lst (zs.map V.int)) := fun h => trkA_some (by rw [← hH]; exact h)
  have free : ∀ {b}, (b = a → K.lookup a ≠ none) → H b = none := fun {b} n => by
    cases q : H b with
    | none => rfl
    | some u => exact absurd (tr q).2.1 (n (tr q).1)
  have sq : SqL K H a (zs.map V.int) := by
    cases q : K.lookup a with
    | none => exact .inl (.inr ⟨o, by rw [hH]; unfold trkA; rw [if_pos rfl, q]⟩)
    | some o2 =>
      have e := kin a o2 q
      rw [ha] at e
      cases e
      rw [ho] at q
      exact .inr ⟨_, vs.toArray, _, q, rfl, rfl, rfl, by rw [List.size_toArray, hi.length]; exact hz, by simpa using rv⟩
  have ok : HOk P w H s.heap := fun b u q => by
    obtain ⟨rfl, _, rfl⟩ := tr q
    have ha2 := ha
    rw [ho] at ha2
    exact ⟨ha, by rw [List.length_map]; exact hz, vs, _, rv, ha2⟩
  have up : ∀ {b : Addr} {m : Str → Option Value}, s.heap.Ns b m → (hidT s.heap H).Ns b m := fun {b m} ⟨od, es, ep, e, d, r⟩ => by
    refine ⟨od, es, ep, hidT_get e ?_, d, r⟩
    cases q : H b with
    | none => rfl
    | some u =>
      obtain ⟨rfl, _⟩ := tr q
      rw [ha] at e
      cases e
      rw [ho] at d
      cases d
  have kb : K.In (hidT s.heap H) := fun b ob e => hidT_get (kin b ob e) (free fun z n => by rw [z, n] at e; cases e)
  obtain ⟨mc, l1, l2⟩ := nl
  have e0 : Env0 P w K mg (hidT s.heap H) callerA [] s H := ⟨rfl, ⟨kb, up gl, ⟨mb, up bl, boot⟩, mc, up l1, l2⟩, fun b ob e => of_hidT e, Nat.le_of_eq (hidT_size _ _), trivial, (fun _ z => nomatch z), ok, .of_eq still⟩
  refine codeAny_mono ((G _ kb (up gl)).go callerA [] s H ⟨[.ref a], []⟩ [.ref a] [.ref a] (fun v _ => v = .bl true) ⟨rfl, hr⟩ e0 ⟨hb s (.ref a), .cons rfl .nil⟩ (hsp H sq)) fun r s2 h => ?_
  match r, h with
  | .ok (.ret u), ⟨v, H2, os, bare, un, ok2, rr, q⟩ =>
    have q' : v = .bl true := q
    subst q'
    cases (show u = Value.bool true from rr)
    refine ⟨rfl, OldK.of_keep fun b ob e => ?_, os, bare⟩
    cases q : H b with
    | none => exact un.keep b ob e q (fun z => nomatch z) (by simp)
    | some u2 =>
      obtain ⟨rfl, _, rfl⟩ := tr q
      rw [ha] at e
      cases e
      exact (ok2 b _ (un.frzs b o _ q)).1
end
theorem walkC {l : PySem.W.OpenLaw} {n k : Nat} {q : Program} {loose : List Str} {XP : (Str → Option Value) → Heap → Prop} {YP : World → Heap → Prop} {d : DefRec} {x : Str} (hn : l.most = some n) (hz : n ≤ sizeLine) (hd : d.params.defaults = []) (hr : Room k callerA)
    (T : ∀ (w : World) (mg : Str → Option Value) (fa : Addr) (h : Heap), YP w h → h.Ns mainGlobals mg → mg d.name = some (.ref fa) → ∃ (K : PySem.W.Frag) (fd : FuncData) (sp : Sp), K.In h ∧ (∀ (s : Shared) (u : Value), BindsTo s fd ⟨[u], []⟩ [(x, u)]) ∧
      (∀ (H : Hp) (a : Addr) (zs : List Int), zs.length ≤ n → SqL K H a (zs.map V.int) → sp [.ref a] H (fun v _ => v = .bl true) E0) ∧ ∀ base : Heap, K.In base → base.Ns mainGlobals mg → FnC l.prog w K mg base k fa fd [x] sp) :
    PySem.W.WalkO q loose XP YP l.row.toRowW d [] (fun f vs => PySem.call f vs) := by
  refine Att.attach_call hn hd fun w _ s mg mb fa _ _ _ _ a vs zs G Y _ _ _ hmg hobj hints hlen still => ?_
  obtain ⟨K, fd, sp, kin, hb, hsp, go⟩ := T w mg fa _ Y G.T.g hmg
  exact callC kin G.T.g G.T.b G.T.builtins G.T.nolimit still hobj hints (Nat.le_trans hlen hz) hr go hb fun H => hsp H a zs hlen
end Ov

namespace Ov
open PySem PySem.Spec PyProof.Rows L2
open Evl (pss_cut tCut Ex Ev EvT EvL EvA EvU)
/-! ### a drawn rule as data: how it is shown, compared -/
theorem small_of {r : RuleD} (g : r.Good) : r.k.cps.size ≤ 20 ∧ (∀ t ∈ r.ts, t.cps.size ≤ 20) ∧ ∀ d ∈ r.ds, d.cps.size ≤ 20 := by
  have hk : ∀ k ∈ kindsAll, k.cps.size ≤ 20 := by decide +kernel
  have h1 : ∀ t ∈ testsL ++ testsL.map (("not " : Str) ++ ·), t.cps.size ≤ 20 := by decide +kernel
  have h2 : ∀ t ∈ (["level"] : List Str) ++ (["level"] : List Str).map (("not " : Str) ++ ·), t.cps.size ≤ 20 := by decide +kernel
  have h3 : ∀ t ∈ (["count", "count", "drop"] : List Str), t.cps.size ≤ 20 := by decide +kernel
  have h4 : ∀ t ∈ (["take", "take", "wipe"] : List Str), t.cps.size ≤ 20 := by decide +kernel
  refine ⟨hk _ g.k, fun t ht => ?_, fun d hd => ?_⟩
  · have h := g.ts t ht
    unfold testsNot testsOf at h
    split at h
    · exact h2 t h
    · exact h1 t h
  · have h := g.ds d hd
    unfold deedsOf at h
    split at h
    · exact h3 d h
    · exact h4 d h
theorem showable_strs : ∀ l : List Str, PyData.showableAll (l.map PyData.str) = true
  | [] => rfl
  | x :: l => by
    show (PyData.showable (.str x) && PyData.showableAll (l.map PyData.str)) = true
    rw [showable_strs l]
    rfl
theorem noDict_strs : ∀ l : List Str, PyData.hasDictAll (l.map PyData.str) = false
  | [] => rfl
  | x :: l => by
    show (PyData.hasDict (.str x) || PyData.hasDictAll (l.map PyData.str)) = false
    rw [noDict_strs l]
    rfl
theorem depth_strs0 : ∀ l : List Str, PyData.depthAll (l.map PyData.str) = 0
  | [] => rfl
  | x :: l => by
    show max (PyData.depth (.str x)) (PyData.depthAll (l.map PyData.str)) = 0
    rw [depth_strs0 l]
    rfl
theorem bulk_strs : ∀ l : List Str, (∀ x ∈ l, x.cps.size ≤ 20) → PyData.bulkAll (l.map PyData.str) ≤ 21 * l.length
  | [], _ => Nat.le_refl _
  | x :: l, h => by
    have h1 := bulk_strs l fun y hy => h y (List.mem_cons_of_mem _ hy)
    have h2 := h x (List.mem_cons_self ..)
    show x.cps.size + 1 + PyData.bulkAll (l.map PyData.str) ≤ 21 * (l.length + 1)
    omega
theorem leaves_of {x : Str} (h : PyData.canLay0 (.str x) = true) : PyData.leavesShort 8 (.str x) = true := by
  have h' : x.cps.all (· < 0x110000) = true := h
  show (x.cps.toList.all fun c => decide (c < 16 ^ 8)) = true
  rw [List.all_eq_true]
  intro c hc
  rw [Array.all_eq_true_iff_forall_mem] at h'
  have := h' c (by simpa using hc)
  simp only [decide_eq_true_eq] at this ⊢
  omega
theorem leaves_strs : ∀ l : List Str, Plain l → PyData.leavesShortAll 8 (l.map PyData.str) = true
  | [], _ => rfl
  | x :: l, h => by
    show (PyData.leavesShort 8 (.str x) && PyData.leavesShortAll 8 (l.map PyData.str)) = true
    rw [leaves_of (h x (List.mem_cons_self ..)), leaves_strs l fun y hy => h y (List.mem_cons_of_mem _ hy)]
    rfl
theorem data_show {r : RuleD} (g : r.Good) (nt : r.ts.length ≤ 4) (nd : r.ds.length ≤ 4) : (ruleData r).showable = true ∧ (ruleData r).hasDict = false ∧ (ruleData r).depth ≤ 20 ∧ (ruleData r).shown.length ≤ sizeLine := by
  obtain ⟨s1, s2, s3⟩ := small_of g
  refine ⟨?_, ?_, ?_, ?_⟩
  · show (true && (PyData.showableAll (r.ts.map .str) && (PyData.showableAll (r.ds.map .str) && true))) = true
    rw [showable_strs, showable_strs]
    rfl
  · show (false || (PyData.hasDictAll (r.ts.map .str) || (PyData.hasDictAll (r.ds.map .str) || false))) = false
    rw [noDict_strs, noDict_strs]
    rfl
  · show max 0 (max (PyData.depthAll (r.ts.map .str) + 1) (max (PyData.depthAll (r.ds.map .str) + 1) 0)) + 1 ≤ 20
    rw [depth_strs0, depth_strs0]
    decide
  · have hl : PyData.leavesShort 8 (ruleData r) = true := by
      show (PyData.leavesShort 8 (.str r.k) && (PyData.leavesShortAll 8 (r.ts.map .str) && (PyData.leavesShortAll 8 (r.ds.map .str) && true))) = true
      rw [leaves_of (plain_kind g.k), leaves_strs _ g.pt, leaves_strs _ g.pd]
      rfl
    have h := PyData.shown_le_bulk 8 (Nat.le_refl _) (ruleData r) hl
    have b1 := bulk_strs _ s2
    have b2 := bulk_strs _ s3
    have hb : (ruleData r).bulk = r.k.cps.size + 1 + (PyData.bulkAll (r.ts.map .str) + 1 + (PyData.bulkAll (r.ds.map .str) + 1 + 0)) := rfl
    have hz : sizeLine = 16777216 := sizeLine_eq
    omega
theorem data_shaped {r : RuleD} (g : r.Good) : SeqAt.shaped (ruleData r) = true := by
  have h1 : (ruleData r).depth = 2 := by
    show max 0 (max (PyData.depthAll (r.ts.map .str) + 1) (max (PyData.depthAll (r.ds.map .str) + 1) 0)) + 1 = 2
    rw [depth_strs0, depth_strs0]
    rfl
  show ((PyData.canLay0 (.str r.k) && (PyData.canLayAll0 (r.ts.map .str) && (PyData.canLayAll0 (r.ds.map .str) && true))) && decide ((ruleData r).depth ≤ 64)) = true
  rw [plain_kind g.k, canLay_strs _ g.pt, canLay_strs _ g.pd, h1]
  rfl
theorem data_eqv (r u : RuleD) : PyData.eqv (ruleData r) (ruleData u) = sameR r u := by
  show ((r.k == u.k) && (PyData.eqv (.tuple (r.ts.map .str)) (.tuple (u.ts.map .str)) && (PyData.eqv (.tuple (r.ds.map .str)) (.tuple (u.ds.map .str)) && true))) = _
  rw [eqv_strsT, eqv_strsT, Bool.and_true]
  unfold sameR
  rw [show (r.k == u.k) = decide (r.k = u.k) by by_cases h : r.k = u.k <;> simp [h]]
section
variable {K : PySem.W.Frag} {σ : L2.St} {H : Hp} {ta tb te : TE}
theorem RuleAt.dp {p : Addr} {r : RuleD} (h : RuleAt H p r) : Dp K H (.ref p) (ruleData r) := by
  obtain ⟨t, d, h1, h2, h3⟩ := h
  exact .tup (Evl.st_of h1) (.cons (.str _) (.cons (.tup (Evl.st_of h2) (dp_strs _)) (.cons (.tup (Evl.st_of h3) (dp_strs _)) .nil)))
theorem ev_eqDat {p q : Addr} {r u : RuleD} (ha : Ev ta σ H (.ref p)) (hb : Ev tb σ H (.ref q)) (hp : RuleAt H p r) (hq : RuleAt H q u) (g : r.Good) (g2 : u.Good) : Ev (tOp (rEqD K) ta tb) σ H (.bl (sameR r u)) :=
  Evl.ev_op ha hb fun H1 e Q k => ⟨_, _, (hp.same (ex_same e)).dp, (hq.same (ex_same e)).dp, data_shaped g, data_shaped g2, by rw [data_eqv]; exact k H1 (Ex.refl _)⟩
theorem ev_neDat {p q : Addr} {r u : RuleD} (ha : Ev ta σ H (.ref p)) (hb : Ev tb σ H (.ref q)) (hp : RuleAt H p r) (hq : RuleAt H q u) (g : r.Good) (g2 : u.Good) : Ev (tOp (rNeD K) ta tb) σ H (.bl (!sameR r u)) :=
  Evl.ev_op ha hb fun H1 e Q k => ⟨_, _, (hp.same (ex_same e)).dp, (hq.same (ex_same e)).dp, data_shaped g, data_shaped g2, by rw [data_eqv]; exact k H1 (Ex.refl _)⟩
theorem ev_show {r : RuleD} (h : EvP te σ H (fun p H2 => Dp K H2 (.ref p) (ruleData r))) (g : r.Good) (nt : r.ts.length ≤ 4) (nd : r.ds.length ≤ 4) : Ev (tCB (rShow K) (tCons te tNil)) σ H (.str (ruleData r).shown) := fun H1 e Q q => by
  obtain ⟨h1, h2, h3, h4⟩ := data_show g nt nd
  exact h H1 e _ fun p H2 e2 dp => ⟨p, _, rfl, dp, h1, h2, h3, h4, q H2 e2⟩
end
end Ov

namespace Ov
open PySem PySem.Spec PyProof.Rows L2
open Evl (pss_cut tCut Ex Ev EvT EvL EvA EvU)
section
variable (K : PySem.W.Frag) (CR : Addr)
def rdFill : TS := tSeq (tPar 8 9 (tCons (tCB (rListOf K) (tCons (tVar 6) tNil)) (tCons (tCB (rListOf K) (tCons (tVar 7) tNil)) tNil)))
  (tSeq (tDrop (tBM K "list" rAppend (tVar 4) (tCons (tMake CR (spRuleInit K CR) [] E0 (tCons (tVar 5) (tCons (tIf (tTest (tOp rEq (tCall spDraw [] E0 (tCons (tVar 2) (tCons (tC (V.int 2)) tNil))) (tC (V.int 0)))) (tVar 8) (tVar 6)) (tCons (tVar 9) tNil)))) tNil)))
  (tSeq (tDrop (tBM K "list" rAppend (tVar 8) (tCons (tC (V.str "whole")) tNil))) (tDrop (tBM K "list" rAppend (tVar 9) (tCons (tC (V.str "take")) tNil)))))
def rdShow : TS := tIfS (tOr (tTest (tOp rNe (tCB (rShow K) (tCons (tTup (tCons (tFld K (tVar 8) sK) (tCons (tFld K (tVar 8) sT) (tCons (tFld K (tVar 8) sD) tNil)))) tNil)) (tCB (rShow K) (tCons (tVar 10) tNil)))) (tTest (tOp (rNeD K) (tStr K CR (tVar 8)) (tCall (spRuleText K) [] E0 (tCons (tVar 10) tNil))))) tNo tNext
def rdPair : TS := tIfS (tOr (tTest (tOp (rNeD K) (tOp (rEqI CR (spRuleEq K CR) E0) (tVar 8) (tVar 9)) (tOp (rEqD K) (tVar 10) (tVar 11)))) (tTest (tOp (rNeD K) (tOp (rNeI CR (spRuleEq K CR) E0) (tVar 8) (tVar 9)) (tOp (rNeD K) (tVar 10) (tVar 11))))) tNo tNext
def rdIn : TS := tIfS (tOr (tTest (tOp (rInNo K CR) (tVar 8) (tTup (tCons (tStr K CR (tVar 8)) (tCons (tVar 10) (tCons (tC V.non) tNil)))))) (tTest (tOp (rNeI CR (spRuleEq K CR) E0) (ClX.tCMeth CR (spRuleReadG K CR) E0 (tC (V.ref CR)) (tCons (tStr K CR (tVar 8)) tNil)) (tVar 8)))) tNo tNext
def rdOne : TS := tSeq (rdShow K CR) (tCut (tFor (iZip K (tCons (tVar 3) (tCons (tVar 4) tNil))) (gTup K 2 (gCons (gName 11) (gCons (gName 9) gNil))) (rdPair K CR)) (rdIn K CR))
def rdBody : TS := tSeq (tAsg (tCall (spDeal K) [] E0 (tCons (tVar 0) (tCons (tVar 1) tNil))) (gName 2))
  (tSeq (tAsg (tLc (iRng1 (tCons (tC (V.int 8)) tNil)) (gName 12) tYes (tCall spWideRule [] E0 (tCons (tVar 2) tNil)) [12]) (gName 3))
  (tSeq (tAsg (tLst tNil) (gName 4))
  (tCut (tFor (iList K (tVar 3)) (gTup K 3 (gCons (gName 5) (gCons (gName 6) (gCons (gName 7) gNil)))) (rdFill K CR))
  (tFor (iZip K (tCons (tVar 3) (tCons (tVar 4) tNil))) (gTup K 2 (gCons (gName 10) (gCons (gName 8) gNil))) (rdOne K CR)))))
def rdEnd (df0 df1 : Addr) : TE := tAndV (tOp (rEqD K) (tStr K CR (tMake CR (spRuleInit K CR) [V.ref df0, V.ref df1] E0 (tCons (tC (V.str "day")) tNil))) (tC (V.str "on day"))) (tAndV (tOp (rEqD K) (tFld K (tMake CR (spRuleInit K CR) [V.ref df0, V.ref df1] E0 (tCons (tC (V.str "off")) tNil)) sT) (tTup tNil)) (tOp (rEqD K) (tFld K (tMake CR (spRuleInit K CR) [V.ref df1] E0 (tCons (tC (V.str "answer")) (tCons (tLst (tCons (tC (V.str "level")) tNil)) tNil))) sD) (tTup tNil)))
end
section
variable {K : PySem.W.Frag} {mg : Str → Option Value} {a_LETTERS a_LETTER_TESTS a_LETTER_DEEDS a_ANSWER_TESTS a_ANSWER_DEEDS CR : Addr} {tA tN : Tok}
/-! ### what is shown, compared, looked for -/
theorem rd_show (T : TxR K mg a_LETTERS a_LETTER_TESTS a_LETTER_DEEDS a_ANSWER_TESTS a_ANSWER_DEEDS CR tA tN) {D : Ends} {H : Hp} {r : RuleD} {p q : Addr} {a0 a1 a2 a3 a4 a5 a6 a7 a9 a11 a12 : Option V} (ok : r.Ok) (hp : RuleAt H p r) (hq : RuleObj K CR H q r)
    (k : ∀ H1, Ex H H1 → D.nx [a0, a1, a2, a3, a4, a5, a6, a7, some (.ref q), a9, some (.ref p), a11, a12] H1) : rdShow K CR D [a0, a1, a2, a3, a4, a5, a6, a7, some (.ref q), a9, some (.ref p), a11, a12] H := by
  have g := ok.good
  obtain ⟨dx, t, d, h1, h2, h3⟩ := id hq
  obtain ⟨t2, d2, h4, h5, h6⟩ := id hp
  refine Evl.s_when (b := false) (Evl.et_is (Evl.et_or (Evl.et_test (b := false) (Evl.ev_is (Evl.ev_op (ev_show (r := r) (EvP.tup (Evl.eu_tup (Evl.ea_cons (ev_fk (r := r) (T := T.cl) T.nK (Evl.ev_var rfl) hq) (Evl.ea_cons (ev_fld (Evl.ev_var rfl) h1 T.cl T.nT (rf_t _ _ _)) (Evl.ea_cons (ev_fld (Evl.ev_var rfl) h1 T.cl T.nD (rf_d _ _ _)) Evl.ea_nil))) (by show 3 ≤ 100000; decide))
      fun u H1 e1 hu => .tup (Evl.st_of hu) (.cons (.str _) (.cons (.tup (Evl.ex_t e1 h2) (dp_strs _)) (.cons (.tup (Evl.ex_t e1 h3) (dp_strs _)) .nil)))) g ok.nt ok.nd)
      (ev_show (r := r) (EvP.of (p := p) (Evl.ev_var rfl) fun H1 e1 => (hp.same (ex_same e1)).dp) g ok.nt ok.nd) (r := rNe) (z := .bl (!decide (V.str (ruleData r).shown = V.str (ruleData r).shown))) fun H1 e1 Q kq => ⟨rfl, kq H1 (Ex.refl _)⟩) (by rw [decide_eq_true rfl]; rfl)))
    (fun _ => Evl.et_test (b := false) (ev_neS1 (x := ruleText r) (ev_strR (EvP.of (p := q) (Evl.ev_var rfl) fun H1 e => hq.ex e) g)
      (fun H1 e1 Q kq => ⟨_, rfl, p, t2, d2, r, rfl, Evl.st_of (e1 _ _ h4), Evl.st_of (e1 _ _ h5), Evl.st_of (e1 _ _ h6), g, fun H3 e3 => kq H3 e3⟩) (plain_text g)))) rfl) (fun z => nomatch z) (fun _ H1 e1 => k H1 e1)
theorem rd_pair {D : Ends} {H : Hp} {r u : RuleD} {p q p2 q2 : Addr} {a0 a1 a2 a3 a4 a5 a6 a7 a12 : Option V} (g : r.Good) (g2 : u.Good) (hp : RuleAt H p r) (hq : RuleObj K CR H q r) (hp2 : RuleAt H p2 u) (hq2 : RuleObj K CR H q2 u)
    (k : ∀ H1, Ex H H1 → D.nx [a0, a1, a2, a3, a4, a5, a6, a7, some (.ref q), some (.ref q2), some (.ref p), some (.ref p2), a12] H1) : rdPair K CR D [a0, a1, a2, a3, a4, a5, a6, a7, some (.ref q), some (.ref q2), some (.ref p), some (.ref p2), a12] H := by
  refine Evl.s_when (b := false) (Evl.et_is (Evl.et_or (Evl.et_test (b := false) (ev_neB1 (ev_eqR (r := r) (u := u) (EvP.of (p := q) (Evl.ev_var rfl) fun H1 e => hq.ex e) (EvP.of (p := q2) (Evl.ev_var rfl) fun H1 e => hq2.ex e) g g2) (ev_eqDat (Evl.ev_var rfl) (Evl.ev_var rfl) hp hp2 g g2) rfl))
    (fun _ => Evl.et_test (b := false) (ev_neB1 (ev_neR (r := r) (u := u) (EvP.of (p := q) (Evl.ev_var rfl) fun H1 e => hq.ex e) (EvP.of (p := q2) (Evl.ev_var rfl) fun H1 e => hq2.ex e) g g2) (ev_neDat (Evl.ev_var rfl) (Evl.ev_var rfl) hp hp2 g g2) rfl))) rfl) (fun z => nomatch z) (fun _ H1 e1 => k H1 e1)
theorem rd_in {D : Ends} {H : Hp} {r : RuleD} {p q : Addr} {a0 a1 a2 a3 a4 a5 a6 a7 a9 a11 a12 : Option V} (g : r.Good) (hp : RuleAt H p r) (hq : RuleObj K CR H q r)
    (k : ∀ H1, Ex H H1 → D.nx [a0, a1, a2, a3, a4, a5, a6, a7, some (.ref q), a9, some (.ref p), a11, a12] H1) : rdIn K CR D [a0, a1, a2, a3, a4, a5, a6, a7, some (.ref q), a9, some (.ref p), a11, a12] H := by
  obtain ⟨dx, t, d, h1, h2, h3⟩ := id hq
  obtain ⟨t2, d2, h4, h5, h6⟩ := id hp
  refine Evl.s_when (b := false) (Evl.et_is (Evl.et_or (Evl.et_test (b := false) (Evl.ev_opU (xs := [.str (ruleText r), .ref p, .non]) (Evl.ev_var rfl) (Evl.eu_tup (Evl.ea_cons (ev_strR (EvP.of (p := q) (Evl.ev_var rfl) fun H1 e => hq.ex e) g) (Evl.ea_cons (Evl.ev_var rfl) (Evl.ea_cons Evl.ev_c Evl.ea_nil))) (by show 3 ≤ 100000; decide)) fun u H1 hu e1 => fun H2 e2 Q kq =>
      ⟨q, dx, u, _, _, rfl, rfl, (e1.trans e2) _ _ h1, Evl.st_of (e2 _ _ hu), fun v hv => ?_, fun H3 e3 => kq H3 e3⟩))
    (fun _ => Evl.et_test (b := !sameR r r) (ev_neR (r := r) (u := r) (fun H1 e1 Q kq => ⟨rfl, ev_strR (r := r) (EvP.of (p := q) (Evl.ev_var rfl) fun H1 e => hq.ex e) g H1 e1 _ fun H2 e2 => ⟨r, rfl, g, fun p' H3 e3 ro => kq p' H3 (e2.trans e3) ro⟩⟩) (EvP.of (p := q) (Evl.ev_var rfl) fun H1 e => hq.ex e) g g))) (by rw [sameR_self]; rfl)) (fun z => nomatch z) (fun _ H1 e1 => k H1 e1)
  rcases List.mem_cons.mp hv with rfl | hv
  · exact .inl ⟨_, rfl⟩
  rcases List.mem_cons.mp hv with rfl | hv
  · exact .inr (.inr ⟨p, _, rfl, Evl.st_of ((e1.trans e2) _ _ h4)⟩)
  rcases List.mem_cons.mp hv with rfl | hv
  · exact .inr (.inl rfl)
  · exact nomatch hv
end
end Ov

namespace Ov
open PySem PySem.Spec PyProof.Rows L2
open Evl (pss_cut tCut Ex Ev EvT EvL EvA EvU)
section
variable {K : PySem.W.Frag} {CR : Addr}
theorem sqt_kp {H H' : Hp} {a b l : Addr} {xs : List V} (k : Kp a b H H') (D : Deal H a b) (h : SqT K H l xs) : SqT K H' l xs := by
  obtain ⟨ns, m, ha, hb, _⟩ := D.ex
  rcases h with (h | ⟨u, h⟩) | h
  · exact .inl (.inl (k _ _ (ne_of h ha (fun z => nomatch z)) (ne_of h hb (fun z => nomatch z)) h))
  · exact .inl (.inr ⟨u, k _ _ (ne_of h ha (fun z => nomatch z)) (ne_of h hb (fun z => nomatch z)) h⟩)
  · exact .inr h
theorem RulesAt.kp {H H' : Hp} {a b : Addr} (k : Kp a b H H') (D : Deal H a b) : ∀ {xs : List V} {rs : List RuleD}, RulesAt K CR H xs rs → RulesAt K CR H' xs rs
  | _, _, .nil => .nil
  | _, _, .cons ⟨p, h1, dx, t, d, h2, h3, h4⟩ tl => .cons ⟨p, h1, dx, t, d, (by
      obtain ⟨ns, m, ha, hb, _⟩ := D.ex
      exact k _ _ (ne_of h2 ha (fun z => nomatch z)) (ne_of h2 hb (fun z => nomatch z)) h2), sqt_kp k D h3, sqt_kp k D h4⟩ (RulesAt.kp k D tl)
/-- all but the deal and one list is as it was -/
def K3 (a b F : Addr) (H H' : Hp) : Prop := ∀ x o, x ≠ a → x ≠ b → x ≠ F → H x = some o → H' x = some o
theorem K3.trans {a b F : Addr} {H H1 H2 : Hp} (x : K3 a b F H H1) (y : K3 a b F H1 H2) : K3 a b F H H2 := fun c o h1 h2 h3 h => y c o h1 h2 h3 (x c o h1 h2 h3 h)
theorem rd_fill {D : Ends} {H : Hp} {r : RuleD} {a b F t d : Addr} {ys : List V} {rs : List RuleD} {a0 a1 a3 a8 a9 a10 a11 a12 : Option V} (dl : Deal H a b) (nFa : F ≠ a) (nFb : F ≠ b) (hF : H F = some (.lst ys)) (hR : RulesAt K CR H ys rs)
    (ht : H t = some (.tup (r.ts.map V.str))) (hd : H d = some (.tup (r.ds.map V.str))) (g : r.Good) (hz : ys.length < 1000)
    (k : ∀ q b8 b9 H1, K3 a b F H H1 → Deal H1 a b → H1 F = some (.lst (ys ++ [.ref q])) → RulesAt K CR H1 (ys ++ [.ref q]) (rs ++ [r]) → D.nx [a0, a1, some (.ref a), a3, some (.ref F), some (.str r.k), some (.ref t), some (.ref d), b8, b9, a10, a11, a12] H1) :
    rdFill K CR D [a0, a1, some (.ref a), a3, some (.ref F), some (.str r.k), some (.ref t), some (.ref d), a8, a9, a10, a11, a12] H := by
  refine ⟨.ref t, rfl, t, _, rfl, .inr (Evl.st_of ht), fun l8 n8 => ⟨.ref d, rfl, d, _, rfl, .inr (Evl.st_of (Ex.new n8 _ _ hd)), fun l9 n9 => ⟨_, _, rfl, ?_⟩⟩⟩
  have e8 : Ex H (upd H l8 (.lst (r.ts.map V.str))) := Ex.new n8
  have e9 : Ex (upd H l8 (.lst (r.ts.map V.str))) (upd (upd H l8 (.lst (r.ts.map V.str))) l9 (.lst (r.ds.map V.str))) := Ex.new n9
  have D8 := dl.new (o := .lst (r.ts.map V.str)) n8
  have D9 := D8.new (o := .lst (r.ds.map V.str)) n9
  have h8 := e9 _ _ (show (upd H l8 (.lst (r.ts.map V.str))) l8 = some (.lst (r.ts.map V.str)) from upd_same)
  have h9 : (upd (upd H l8 (.lst (r.ts.map V.str))) l9 (.lst (r.ds.map V.str))) l9 = some (.lst (r.ds.map V.str)) := upd_same
  have F9 := e9 _ _ (e8 _ _ hF)
  have e09 := e8.trans e9
  have n8a := dl.nea n8
  have n8b := dl.neb n8
  have n9a := D8.nea n9
  have n9b := D8.neb n9
  have n8F : l8 ≠ F := fun z => by rw [z, hF] at n8; cases n8
  have n9F : l9 ≠ F := fun z => by rw [z, e8 _ _ hF] at n9; cases n9
  have n98 : l9 ≠ l8 := fun z => by rw [z, upd_same] at n9; cases n9
  generalize hH9 : upd (upd H l8 (.lst (r.ts.map V.str))) l9 (.lst (r.ds.map V.str)) = H9 at *
  refine ⟨.ref F, rfl, .inl ⟨rfl, _, Evl.sq_of F9⟩, .str r.k, rfl, .ref a, rfl, a, b, 2, rfl, D9, by decide, by decide, fun c H2 _ _ kp2 D2 => ⟨rfl, _, rfl, ?_⟩⟩
  have F2 := kp2 _ _ nFa nFb F9
  have h8' := kp2 _ _ n8a n8b h8
  have h9' := kp2 _ _ n9a n9b h9
  have t2 : SqT K H2 t (r.ts.map V.str) := sqt_kp kp2 D9 (Evl.st_of (e09 _ _ ht))
  have R2 := (hR.ex e09).kp kp2 D9
  have fin : ∀ {x dx : Addr} {H5 : Hp}, H2 x = none → Ex H2 H5 → RuleObj K CR H5 x r → (tSeq (tDrop (tBM K "list" rAppend (tVar 8) (tCons (tC (V.str "whole")) tNil))) (tDrop (tBM K "list" rAppend (tVar 9) (tCons (tC (V.str "take")) tNil)))) D
      [a0, a1, some (.ref a), a3, some (.ref F), some (.str r.k), some (.ref t), some (.ref d), some (.ref l8), some (.ref l9), a10, a11, a12] (upd H5 F (.lst (ys ++ [.ref x]))) := by
    intro x dx H5 nx e5 ro
    have F5 := e5 _ _ F2
    have h85 := e5 _ _ h8'
    have h95 := e5 _ _ h9'
    have R5 := ((R2.ex e5).updL (o := .lst (ys ++ [.ref x])) F5)
    have ro5 := ro.updL (o := .lst (ys ++ [.ref x])) F5
    have D5 : Deal H5 a b := D2.keep (fun c o h => e5 c o h)
    refine Evl.q_app (l := l8) (xs := r.ts.map V.str) (by rw [upd_ne n8F]; exact h85) (Evl.ev_var rfl) Evl.ev_c (by rw [List.length_map]; have := g.nt; omega) fun H6 e6 => ?_
    have h86 := e6 _ _ (by rw [upd_ne n8F]; exact h85)
    have h96 : upd H6 l8 (.lst (r.ts.map V.str ++ [.str "whole"])) l9 = some (.lst (r.ds.map V.str)) := by
      rw [upd_ne n98]
      exact e6 _ _ (by rw [upd_ne n9F]; exact h95)
    refine Evl.s_app (l := l9) (xs := r.ds.map V.str) h96 (Evl.ev_var rfl) Evl.ev_c (by rw [List.length_map]; have := g.nd; omega) fun H7 e7 => ?_
    have h97 := e7 _ _ h96
    refine k x _ _ _ (fun c o c1 c2 c3 hc => ?_) ?_ ?_ ?_
    · have c8 : c ≠ l8 := fun z => by rw [z, n8] at hc; cases hc
      have c9 : c ≠ l9 := fun z => by
        have := e8 _ _ hc
        rw [z, n9] at this
        cases this
      rw [upd_ne c9]
      refine e7 _ _ ?_
      rw [upd_ne c8]
      refine e6 _ _ ?_
      rw [upd_ne c3]
      exact e5 _ _ (kp2 _ _ c1 c2 (e09 _ _ hc))
    · have D6 : Deal H6 a b := ((D5.put (o := .lst (ys ++ [.ref x])) nFa nFb).keep (fun c o h => e6 c o h))
      have D7 : Deal H7 a b := ((D6.put (o := .lst (r.ts.map V.str ++ [.str "whole"])) n8a n8b).keep (fun c o h => e7 c o h))
      exact D7.put n9a n9b
    · rw [upd_ne n9F.symm]
      refine e7 _ _ ?_
      rw [upd_ne n8F.symm]
      exact e6 _ _ upd_same
    · exact ((paired_snoc ((((R5.ex e6).updL h86).ex e7).updL h97) ⟨x, rfl, (((ro5.ex e6).updL h86).ex e7).updL h97⟩))
  refine ite2 (fun _ => ⟨_, rfl, ?_⟩) (fun _ => ⟨_, rfl, ?_⟩)
  all_goals
    refine ⟨_, rfl, fun x dx nx ndx ne => ?_⟩
    have e5 : Ex H2 (upd (upd H2 dx (.own x)) x (.ins CR dx [])) := (Ex.new ndx).trans (Ex.new (by rw [upd_ne ne.symm]; exact nx))
    refine ⟨x, _, l9, dx, r, rfl, upd_same, ?_, .inl (Evl.sq_of (e5 _ _ h9')), g, fun H5 k5 ro => ?_⟩
  · exact .inl (Evl.sq_of (e5 _ _ h8'))
  · have e25 : Ex H2 H5 := fun c o hc => k5 c o (ne_of_none hc nx) (e5 _ _ hc)
    exact ⟨rfl, F, ys, .ref x, rfl, rfl, e25 _ _ F2, Nat.lt_of_lt_of_le hz (by decide), fin (dx := dx) nx e25 ro⟩
  · exact .inr (Evl.ex_t e5 t2)
  · have e25 : Ex H2 H5 := fun c o hc => k5 c o (ne_of_none hc nx) (e5 _ _ hc)
    exact ⟨rfl, F, ys, .ref x, rfl, rfl, e25 _ _ F2, Nat.lt_of_lt_of_le hz (by decide), fin (dx := dx) nx e25 ro⟩
end
end Ov

namespace Ov
open PySem PySem.Spec PyProof.Rows L2
open Evl (pss_cut tCut Ex Ev EvT EvL EvA EvU)
section
variable {K : PySem.W.Frag} {CR : Addr}
theorem rd_some8 {a b : Addr} {H : Hp} {σ : L2.St} {Q : VK} (h2 : ∀ x, ((wipe σ [12]).set 12 (some x))[2]? = some (some (.ref a))) (hw : ∀ x, wipe ((wipe σ [12]).set 12 (some x)) [12] = wipe σ [12]) (hd : Deal H a b)
    (q : ∀ L H' xs rs, L ≠ a → L ≠ b → Kp a b H H' → Deal H' a b → H' L = some (.lst xs) → xs.length = 8 → DrawnAt H' xs rs → Q (.ref L) H') : tLc (iRng1 (tCons (tC (V.int 8)) tNil)) (gName 12) tYes (tCall spWideRule [] E0 (tCons (tVar 2) tNil)) [12] σ H Q := by
  refine ⟨8, rfl, by decide, by decide, fun L hL => ?_⟩
  have na := hd.nea hL
  have nb := hd.neb hL
  refine lc_range (lo := 0) (n := 8) (fun i H' => Kp a b H H' ∧ Deal H' a b ∧ ∃ xs rs, H' L = some (.lst xs) ∧ xs.length = i ∧ DrawnAt H' xs rs) ⟨(Kp.refl _ _ _).put hL, hd.new hL, [], [], upd_same, rfl, .nil⟩ ?_ ?_
  · rintro i H' hi ⟨k, d, xs, rs, h3, h4, h5⟩
    refine ⟨hw _, ?_⟩
    simp only [tYes, eq_self, if_true]
    refine ⟨_, h2 _, a, b, rfl, d, fun p r H4 ok k4 d4 at4 => ?_⟩
    have h3' := k4 _ _ na nb h3
    exact ⟨xs, h3', by rw [h4]; exact Nat.lt_of_lt_of_le hi (by decide), (k.trans k4).put hL, d4.put na nb, _, rs ++ [r], upd_same, by rw [List.length_append, h4]; rfl, paired_snoc ((h5.kp k4 d).updL h3') ⟨p, rfl, at4.updL h3', ok⟩⟩
  · rintro H' ⟨k, d, xs, rs, h3, h4, h5⟩
    exact q L H' xs rs na nb k d h3 h4 h5
theorem RuleAt.k3 {H H' : Hp} {a b F p : Addr} {zs : List V} {r : RuleD} (k : K3 a b F H H') (D : Deal H a b) (hF : H F = some (.lst zs)) (h : RuleAt H p r) : RuleAt H' p r := by
  obtain ⟨ns, m, ha, hb, _⟩ := D.ex
  obtain ⟨t, d, h1, h2, h3⟩ := h
  exact ⟨t, d, k _ _ (ne_of h1 ha (fun z => nomatch z)) (ne_of h1 hb (fun z => nomatch z)) (ne_of h1 hF (fun z => nomatch z)) h1, k _ _ (ne_of h2 ha (fun z => nomatch z)) (ne_of h2 hb (fun z => nomatch z)) (ne_of h2 hF (fun z => nomatch z)) h2,
    k _ _ (ne_of h3 ha (fun z => nomatch z)) (ne_of h3 hb (fun z => nomatch z)) (ne_of h3 hF (fun z => nomatch z)) h3⟩
theorem DrawnAt.k3 {H H' : Hp} {a b F : Addr} {zs : List V} (k : K3 a b F H H') (D : Deal H a b) (hF : H F = some (.lst zs)) : ∀ {xs : List V} {rs : List RuleD}, DrawnAt H xs rs → DrawnAt H' xs rs
  | _, _, .nil => .nil
  | _, _, .cons ⟨p, h1, h2, h3⟩ t => .cons ⟨p, h1, h2.k3 k D hF, h3⟩ (DrawnAt.k3 k D hF t)
theorem rd_fills {D : Ends} {H : Hp} {a b L F : Addr} {xs : List V} {rs : List RuleD} {a0 a1 a5 a6 a7 a8 a9 a10 a11 a12 : Option V} (dl : Deal H a b) (nLa : L ≠ a) (nLb : L ≠ b) (nLF : L ≠ F) (nFa : F ≠ a) (nFb : F ≠ b) (hL : H L = some (.lst xs)) (hF : H F = some (.lst []))
    (hz : xs.length = 8) (hD : DrawnAt H xs rs)
    (k : ∀ b5 b6 b7 b8 b9 ys H1, K3 a b F H H1 → H1 L = some (.lst xs) → DrawnAt H1 xs rs → H1 F = some (.lst ys) → RulesAt K CR H1 ys rs → D.nx [a0, a1, some (.ref a), some (.ref L), some (.ref F), b5, b6, b7, b8, b9, a10, a11, a12] H1) :
    tFor (iList K (tVar 3)) (gTup K 3 (gCons (gName 5) (gCons (gName 6) (gCons (gName 7) gNil)))) (rdFill K CR) D [a0, a1, some (.ref a), some (.ref L), some (.ref F), a5, a6, a7, a8, a9, a10, a11, a12] H := by
  refine Evl.s_forL (xs := xs) (a := L) (Evl.ev_var rfl) (Evl.sq_of hL) (fun i σ' H' => ∃ b5 b6 b7 b8 b9 ys, σ' = [a0, a1, some (.ref a), some (.ref L), some (.ref F), b5, b6, b7, b8, b9, a10, a11, a12] ∧ K3 a b F H H' ∧ Deal H' a b ∧ H' F = some (.lst ys) ∧ RulesAt K CR H' ys (rs.take i)) ?_ ?_ ?_ ?_
  · intro H1 e1
    exact ⟨_, _, _, _, _, [], rfl, fun x o _ _ _ h => e1 x o h, dl.keep (fun x o h => e1 x o h), e1 _ _ hF, by rw [List.take_zero]; exact .nil⟩
  · rintro i σ' H' hi ⟨b5, b6, b7, b8, b9, ys, rfl, k3, d3, f3, r3⟩
    exact Evl.sq_of (k3 _ _ nLa nLb nLF hL)
  · rintro i x σ' H' hx ⟨b5, b6, b7, b8, b9, ys, rfl, k3, d3, f3, r3⟩
    obtain ⟨p, r, rfl, hr, hp, ok⟩ := hD.at_ hx
    obtain ⟨t, d, h1, h2, h3⟩ := hp.k3 k3 dl hF
    refine ⟨p, _, rfl, Evl.st_of h1, rfl, _, _, rfl, _, _, rfl, _, _, rfl, rfl, ?_⟩
    have hy : ys.length < 1000 := by
      rw [paired_len r3, List.length_take]
      have := paired_len hD
      omega
    refine rd_fill d3 nFa nFb f3 r3 h2 h3 ok.good hy fun q b8 b9 H4 k4 d4 f4 r4 => ⟨_, _, _, _, _, _, rfl, k3.trans k4, d4, f4, ?_⟩
    rw [List.take_add_one, hr]
    exact r4
  · rintro σ' H' ⟨b5, b6, b7, b8, b9, ys, rfl, k3, d3, f3, r3⟩
    rw [paired_len hD, List.take_length] at r3
    exact k _ _ _ _ _ ys H' k3 (k3 _ _ nLa nLb nLF hL) (hD.k3 k3 dl hF) f3 r3
theorem DrawnAt.ok {H : Hp} {r : RuleD} : ∀ {xs : List V} {rs : List RuleD}, DrawnAt H xs rs → r ∈ rs → r.Ok
  | _, _, .nil, h => nomatch h
  | _, _, .cons ⟨_, _, _, ok⟩ t, h => by
    rcases List.mem_cons.mp h with rfl | h
    · exact ok
    · exact DrawnAt.ok t h
theorem rd_pairs {D : Ends} {H : Hp} {L F p q : Addr} {xs ys : List V} {rs : List RuleD} {r : RuleD} {a0 a1 a2 a5 a6 a7 a9 a11 a12 : Option V} (hL : H L = some (.lst xs)) (hF : H F = some (.lst ys)) (hD : DrawnAt H xs rs) (hR : RulesAt K CR H ys rs) (g : r.Good) (hp : RuleAt H p r) (hq : RuleObj K CR H q r)
    (k : ∀ b9 b11 H1, Ex H H1 → D.nx [a0, a1, a2, some (.ref L), some (.ref F), a5, a6, a7, some (.ref q), b9, some (.ref p), b11, a12] H1) :
    tFor (iZip K (tCons (tVar 3) (tCons (tVar 4) tNil))) (gTup K 2 (gCons (gName 11) (gCons (gName 9) gNil))) (rdPair K CR) D [a0, a1, a2, some (.ref L), some (.ref F), a5, a6, a7, some (.ref q), a9, some (.ref p), a11, a12] H := by
  have hlY : xs.length = ys.length := (paired_len hD).trans (paired_len hR).symm
  refine ⟨_, rfl, _, rfl, L, F, xs, ys, rfl, Evl.sq_of hL, Evl.sq_of hF, RZ.for_zipL hlY (fun _ σ H4 => ∃ b9 b11 : Option V, σ = [a0, a1, a2, some (.ref L), some (.ref F), a5, a6, a7, some (.ref q), b9, some (.ref p), b11, a12] ∧ Ex H H4) ⟨_, _, rfl, Ex.refl _⟩ ?_ ?_ ?_⟩
  · rintro j σ H4 ⟨_, _, _, e4⟩
    exact ⟨Evl.sq_of (e4 _ _ hL), Evl.sq_of (e4 _ _ hF)⟩
  · rintro j x y A σ H4 hx hy ⟨b9, b11, rfl, e4⟩ hA
    obtain ⟨p2, u, rfl, hu, hp2, ok2⟩ := hD.at_ hx
    obtain ⟨q2, u2, rfl, hu2, hq2⟩ := hR.at_ hy
    rw [hu] at hu2
    obtain rfl := Option.some.inj hu2
    have e5 := e4.trans (Ex.new (o := .tup [.ref p2, .ref q2]) hA)
    refine ⟨A, _, rfl, Evl.st_of upd_same, rfl, _, _, rfl, _, _, rfl, rfl, ?_⟩
    exact rd_pair g ok2.good (hp.same (ex_same e5)) (hq.ex e5) (hp2.same (ex_same e5)) (hq2.ex e5) fun H6 e6 => ⟨_, _, rfl, e5.trans e6⟩
  · rintro σ H4 ⟨b9, b11, rfl, e4⟩
    exact k _ _ H4 e4
end
section
variable {K : PySem.W.Frag} {mg : Str → Option Value} {a_LETTERS a_LETTER_TESTS a_LETTER_DEEDS a_ANSWER_TESTS a_ANSWER_DEEDS CR : Addr} {tA tN : Tok}
theorem rd_ones (T : TxR K mg a_LETTERS a_LETTER_TESTS a_LETTER_DEEDS a_ANSWER_TESTS a_ANSWER_DEEDS CR tA tN) {D : Ends} {H : Hp} {L F : Addr} {xs ys : List V} {rs : List RuleD} {a0 a1 a2 a5 a6 a7 a8 a9 a10 a11 a12 : Option V} (hL : H L = some (.lst xs)) (hF : H F = some (.lst ys)) (hD : DrawnAt H xs rs) (hR : RulesAt K CR H ys rs)
    (k : ∀ b8 b9 b10 b11 H1, Ex H H1 → D.nx [a0, a1, a2, some (.ref L), some (.ref F), a5, a6, a7, b8, b9, b10, b11, a12] H1) :
    tFor (iZip K (tCons (tVar 3) (tCons (tVar 4) tNil))) (gTup K 2 (gCons (gName 10) (gCons (gName 8) gNil))) (rdOne K CR) D [a0, a1, a2, some (.ref L), some (.ref F), a5, a6, a7, a8, a9, a10, a11, a12] H := by
  have hlY : xs.length = ys.length := (paired_len hD).trans (paired_len hR).symm
  refine ⟨_, rfl, _, rfl, L, F, xs, ys, rfl, Evl.sq_of hL, Evl.sq_of hF, RZ.for_zipL hlY (fun _ σ H4 => ∃ b8 b9 b10 b11 : Option V, σ = [a0, a1, a2, some (.ref L), some (.ref F), a5, a6, a7, b8, b9, b10, b11, a12] ∧ Ex H H4) ⟨_, _, _, _, rfl, Ex.refl _⟩ ?_ ?_ ?_⟩
  · rintro j σ H4 ⟨_, _, _, _, _, e4⟩
    exact ⟨Evl.sq_of (e4 _ _ hL), Evl.sq_of (e4 _ _ hF)⟩
  · rintro j x y A σ H4 hx hy ⟨b8, b9, b10, b11, rfl, e4⟩ hA
    obtain ⟨p, r, rfl, hr, hp, ok⟩ := hD.at_ hx
    obtain ⟨q, u2, rfl, hu2, hq⟩ := hR.at_ hy
    rw [hr] at hu2
    obtain rfl := Option.some.inj hu2
    have e5 := e4.trans (Ex.new (o := .tup [.ref p, .ref q]) hA)
    refine ⟨A, _, rfl, Evl.st_of upd_same, rfl, _, _, rfl, _, _, rfl, rfl, ?_⟩
    refine rd_show T ok (hp.same (ex_same e5)) (hq.ex e5) fun H6 e6 => ?_
    have e06 := e5.trans e6
    refine Evl.q_cut (M := fun σ H7 => ∃ b9 b11, σ = [a0, a1, a2, some (.ref L), some (.ref F), a5, a6, a7, some (.ref q), b9, some (.ref p), b11, a12] ∧ Ex H H7) ?_ ?_
    · exact rd_pairs (e06 _ _ hL) (e06 _ _ hF) (hD.ex e06) (hR.ex e06) ok.good (hp.same (ex_same e06)) (hq.ex e06) fun b9 b11 H7 e7 => ⟨_, _, rfl, e06.trans e7⟩
    · rintro σ H7 ⟨c9, c11, rfl, e7⟩
      exact rd_in ok.good (hp.same (ex_same e7)) (hq.ex e7) fun H8 e8 => ⟨_, _, _, _, rfl, e7.trans e8⟩
  · rintro σ H4 ⟨b8, b9, b10, b11, rfl, e4⟩
    exact k _ _ _ _ H4 e4
theorem q_any2 {te : TE} {σ : L2.St} {H : Hp} {D : Ends} {tz : TS} {i : Nat} (h : te σ H fun x H1 => tz D (σ.set i (some x)) H1) : tSeq (tAsg te (gName i)) tz D σ H := h
theorem rd_body (T : TxR K mg a_LETTERS a_LETTER_TESTS a_LETTER_DEEDS a_ANSWER_TESTS a_ANSWER_DEEDS CR tA tN) {D : Ends} {H : Hp} {sa : Addr} {ns : List Int} {i : Nat} {a2 a3 a4 a5 a6 a7 a8 a9 a10 a11 a12 : Option V}
    (hS : SqL K H sa (ns.map V.int)) (hlen : ns.length ≤ 63) (hi : i ≤ 60)
    (k : ∀ b2 b3 b4 b5 b6 b7 b8 b9 b10 b11 H1, Ex H H1 → D.nx [some (.ref sa), some (.int (i : Int)), b2, b3, b4, b5, b6, b7, b8, b9, b10, b11, a12] H1) :
    rdBody K CR D [some (.ref sa), some (.int (i : Int)), a2, a3, a4, a5, a6, a7, a8, a9, a10, a11, a12] H := by
  refine q_any2 ?_
  refine ⟨_, rfl, _, rfl, sa, ns, i, rfl, hS, hlen, hi, fun a b H1 sm na nb dl => ?_⟩
  refine q_any2 ?_
  refine rd_some8 (a := a) (b := b) (fun _ => rfl) (fun _ => rfl) dl ?_
  intro L H2 xs rs nLa nLb k2 d2 h3 h4 h5
  have e2 : Ex H H2 := fun x o hx => k2 x o (ne_of_none hx na) (ne_of_none hx nb) (sm x o hx)
  refine Evl.q_asgL (xs := []) (Evl.el_lst Evl.ea_nil (Nat.zero_le _)) fun F H3 nF e3 hF => ?_
  have nLF : L ≠ F := fun z => by rw [← z, h3] at nF; cases nF
  have d3 : Deal H3 a b := d2.keep (fun x o h => e3 x o h)
  have nHF : H F = none := by
    cases q : H F with
    | none => rfl
    | some o =>
      have := e2 _ _ q
      rw [nF] at this
      cases this
  refine Evl.q_cut (M := fun σ H4 => ∃ b5 b6 b7 b8 b9 ys, σ = [some (.ref sa), some (.int (i : Int)), some (.ref a), some (.ref L), some (.ref F), b5, b6, b7, b8, b9, a10, a11, a12] ∧ Ex H H4 ∧ H4 L = some (.lst xs) ∧ DrawnAt H4 xs rs ∧ H4 F = some (.lst ys) ∧ RulesAt K CR H4 ys rs) ?_ ?_
  · refine rd_fills d3 nLa nLb nLF (d2.nea nF) (d2.neb nF) (e3 _ _ h3) hF h4 (h5.ex e3) fun b5 b6 b7 b8 b9 ys H4 k4 l4 r4 f4 q4 => ⟨_, _, _, _, _, ys, rfl, fun x o hx => ?_, l4, r4, f4, q4⟩
    exact k4 x o (ne_of_none hx na) (ne_of_none hx nb) (ne_of_none hx nHF) (e3 _ _ (e2 _ _ hx))
  · rintro σ H4 ⟨b5, b6, b7, b8, b9, ys, rfl, e4, l4, r4, f4, q4⟩
    exact rd_ones T l4 f4 r4 q4 fun b8 b9 b10 b11 H5 e5 => k _ _ _ _ _ _ _ _ _ _ H5 (e4.trans e5)
end
end Ov

namespace Ov
open PySem PySem.Spec PyProof.Rows L2
open Evl (pss_cut tCut Ex Ev EvT EvL EvA EvU)
section
variable {K : PySem.W.Frag} {mg : Str → Option Value} {a_LETTERS a_LETTER_TESTS a_LETTER_DEEDS a_ANSWER_TESTS a_ANSWER_DEEDS CR : Addr} {tA tN : Tok} {σ : L2.St} {H : Hp} {ta te : TE}
theorem good_bare {k : Str} (h : k ∈ kindsAll) : RuleD.Good ⟨k, [], []⟩ := ⟨h, (fun _ z => nomatch z), (fun _ z => nomatch z), Nat.zero_le _, Nat.zero_le _⟩
theorem good_level : RuleD.Good ⟨"answer", ["level"], []⟩ := ⟨by decide, by decide, (fun _ z => nomatch z), (by decide), Nat.zero_le _⟩
theorem ev_mk2 {k : Str} {df0 df1 : Addr} (h : k ∈ kindsAll) (d0 : ∀ H, SqT K H df0 []) (d1 : ∀ H, SqT K H df1 []) : EvP (tMake CR (spRuleInit K CR) [V.ref df0, V.ref df1] E0 (tCons (tC (V.str k)) tNil)) σ H (fun p H2 => RuleObj K CR H2 p ⟨k, [], []⟩) := fun H1 e1 Q q => by
  intro x dx nx ndx ne
  have e5 : Ex H1 (upd (upd H1 dx (.own x)) x (.ins CR dx [])) := (Ex.new ndx).trans (Ex.new (by rw [upd_ne ne.symm]; exact nx))
  exact ⟨x, df0, df1, dx, ⟨k, [], []⟩, rfl, upd_same, .inr (d0 _), .inr (d1 _), good_bare h, fun H5 k5 ro => ⟨rfl, q x H5 (fun b o hb => k5 b o (ne_of_none hb nx) (e5 _ _ hb)) ro⟩⟩
theorem ev_mk1 {df1 : Addr} (d1 : ∀ H, SqT K H df1 []) : EvP (tMake CR (spRuleInit K CR) [V.ref df1] E0 (tCons (tC (V.str "answer")) (tCons (tLst (tCons (tC (V.str "level")) tNil)) tNil))) σ H (fun p H2 => RuleObj K CR H2 p ⟨"answer", ["level"], []⟩) := fun H1 e1 Q q => by
  refine ⟨by show 1 ≤ sizeLine; decide, fun l nl x dx nx ndx ne => ?_⟩
  have e4 : Ex H1 (upd H1 l (.lst [.str "level"])) := Ex.new nl
  have e5 : Ex (upd H1 l (.lst [.str "level"])) (upd (upd (upd H1 l (.lst [.str "level"])) dx (.own x)) x (.ins CR dx [])) := (Ex.new ndx).trans (Ex.new (by rw [upd_ne ne.symm]; exact nx))
  exact ⟨x, l, df1, dx, ⟨"answer", ["level"], []⟩, rfl, upd_same, .inl (Evl.sq_of (e5 _ _ upd_same)), .inr (d1 _), good_level, fun H5 k5 ro => ⟨rfl, q x H5 (e4.trans fun b o hb => k5 b o (ne_of_none hb nx) (e5 _ _ hb)) ro⟩⟩
theorem evP_ft {r : RuleD} (T : Cls K CR) (n : NoAttr K CR "tests") (h : EvP ta σ H (fun p H2 => RuleObj K CR H2 p r)) : EvP (tFld K ta sT) σ H (fun t H2 => SqT K H2 t (r.ts.map V.str)) := fun H1 e1 Q q =>
  h H1 e1 _ fun p H2 e2 ⟨dx, t, d, h1, h2, h3⟩ => ⟨p, CR, dx, _, .ref t, rfl, h1, T, n, rf_t _ _ _, q t H2 e2 h2⟩
theorem evP_fd {r : RuleD} (T : Cls K CR) (n : NoAttr K CR "deeds") (h : EvP ta σ H (fun p H2 => RuleObj K CR H2 p r)) : EvP (tFld K ta sD) σ H (fun t H2 => SqT K H2 t (r.ds.map V.str)) := fun H1 e1 Q q =>
  h H1 e1 _ fun p H2 e2 ⟨dx, t, d, h1, h2, h3⟩ => ⟨p, CR, dx, _, .ref d, rfl, h1, T, n, rf_d _ _ _, q d H2 e2 h3⟩
theorem ev_end (T : TxR K mg a_LETTERS a_LETTER_TESTS a_LETTER_DEEDS a_ANSWER_TESTS a_ANSWER_DEEDS CR tA tN) {df0 df1 : Addr} (d0 : ∀ H, SqT K H df0 []) (d1 : ∀ H, SqT K H df1 []) : Ev (rdEnd K CR df0 df1) σ H (.bl true) := by
  have e : ruleText ⟨"day", [], []⟩ = "on day" := by decide +kernel
  have no : EvP (tTup tNil) σ H (fun t H2 => SqT K H2 t ((([] : List Str)).map V.str)) := EvP.tup (Evl.eu_tup Evl.ea_nil (Nat.zero_le _)) fun _ _ _ h => Evl.st_of h
  refine Evl.ev_is (Evl.ev_andV (a := true) (Evl.ev_is (ev_eqS (ev_strR (ev_mk2 (k := "day") (by decide) d0 d1) (good_bare (by decide))) Evl.ev_c (plain_text (good_bare (by decide))) (by decide +kernel)) (by rw [e]; decide)) fun _ =>
    Evl.ev_andV (a := true) (b := true) (Evl.ev_is (ev_eqTs (l := []) (m := []) (fun _ h => nomatch h) (fun _ h => nomatch h) (evP_ft T.cl T.nT (ev_mk2 (k := "off") (by decide) d0 d1)) no) rfl) fun _ => Evl.ev_is (ev_eqTs (l := []) (m := []) (fun _ h => nomatch h) (fun _ h => nomatch h) (evP_fd T.cl T.nD (ev_mk1 d1)) no) rfl) rfl
end
section
variable {P : Program} {w : World} {K : PySem.W.Frag} {mg : Str → Option Value} {base : Heap} {a_LETTERS a_LETTER_TESTS a_LETTER_DEEDS a_ANSWER_TESTS a_ANSWER_DEEDS CR : Addr} {tA tN : Tok}
abbrev sLaw : Stmt := topS 34
theorem scLaw : FnScope ["_law_script", "_law_spot", "_law_deal_here", "_law_some", "_law_found", "_law_first", "_law_second", "_law_third", "_law_one", "_law_two", "_law_drawn", "_law_other", "_law_turn"] ["_law_script"] (defScope sLaw) := ⟨rfl, rfl, rfl, by decide +kernel, rfl, by decide +kernel, by decide +kernel⟩
/-- what the law's own class is -/
structure TxL (K : PySem.W.Frag) (CR fE fS : Addr) : Prop where
  eqR : PySem.W.findIn K (.ref CR) "__eq__" = some (some (.ref fE))
  neR : PySem.W.findIn K (.ref CR) "__ne__" = some (some (.builtin "object.__ne__"))
  mrR : PySem.W.mroIn K CR (.type "object") = some true
  stR : PySem.W.findIn K (.ref CR) "__str__" = some (some (.ref fS))
  isE : PySem.W.isFn K (.ref fE) = true
  isS : PySem.W.isFn K (.ref fS) = true
  no : NoCls K CR
def spLaw (K : PySem.W.Frag) : Sp := fun vs H Q _ => ∃ (a : Addr) (ns : List Int), vs = [.ref a] ∧ SqL K H a (ns.map V.int) ∧ ns.length ≤ 63 ∧ ∀ H', Q (.bl true) H'
theorem ok_law {f fDeal fDraw fWide fRT fI fE fS pR gR df1 df0 : Addr} {fd fdDeal fdDraw fdWide fdRT fdI fdE fdS : FuncData} {mcR : Value} {ds1 ds2 : List Value} (F : Fun K "law" "law" sLaw f fd) (T : TxR K mg a_LETTERS a_LETTER_TESTS a_LETTER_DEEDS a_ANSWER_TESTS a_ANSWER_DEEDS CR tA tN) (TL : TxL K CR fE fS) (n_zip : mg "zip" = none) (n_repr : mg "repr" = none)
    (dfT0 : ∀ H, SqT K H df0 []) (dfT1 : ∀ H, SqT K H df1 [])
    (D_deal : Df K mg "_law_deal" sDeal ["_law_script", "_law_base"] fDeal fdDeal) (D_draw : Df K mg "_law_draw" sDraw ["_law_deal_here", "_law_many"] fDraw fdDraw) (D_wide_rule : Df K mg "_law_wide_rule" sWideRule ["_law_deal_here"] fWide fdWide) (D_rule_text : Df K mg "_law_rule_text" sRuleText ["_law_rule"] fRT fdRT)
    (G_wide_rule : FnOk P w K mg base CX0 3 fWide fdWide ["_law_deal_here"] spWideRule)
    (mkR : Mk K CR fI) (G_init : FnOk P w K mg base CX0 2 fI fdI ["self", "kind", "tests", "deeds"] (spRuleInit K CR)) (b_init : Binds K fdI ["self", "kind", "tests", "deeds"] []) (b_init1 : Binds K fdI ["self", "kind", "tests", "deeds"] ds1) (dv1 : Vals [V.ref df0, V.ref df1] ds1) (b_init2 : Binds K fdI ["self", "kind", "tests", "deeds"] ds2) (dv2 : Vals [V.ref df1] ds2)
    (G_eq : FnOk P w K mg base CX0 1 fE fdE ["self", "other"] (spRuleEq K CR)) (G_no : FnOk P w K mg base CX0 1 fE fdE ["self", "other"] (spNo K CR)) (b_eq : Binds K fdE ["self", "other"] [])
    (G_str : FnOk P w K mg base CX0 1 fS fdS ["self"] (spRuleStr K CR)) (b_str : Binds K fdS ["self"] [])
    (rdR : ClX.CRead K CR mcR) (cmR : ClX.CMet K CR mcR "read" pR gR) (G_readR : FnR P w K mg base CX0 4 gR (spRuleReadG K CR)) :
    FnC P w K mg base 7 f fd ["_law_script"] (spLaw K) := by
  have G_deal : FnOk P w K mg base CX0 1 fDeal fdDeal ["_law_script", "_law_base"] (spDeal K) := ok_deal D_deal.F T.toTxB
  have G_draw : FnOk P w K mg base CX0 1 fDraw fdDraw ["_law_deal_here", "_law_many"] spDraw := ok_draw D_draw.F T.n_int
  have G_rule_text : FnOk P w K mg base CX0 1 fRT fdRT ["_law_rule"] (spRuleText K) := ok_rule_text D_rule_text.F
  refine okC F scLaw (fun vs H Q E h => ?_) (fun cdv A outer s H vs Q hg hr h => ?_)
  · obtain ⟨a, ns, rfl, _⟩ := h
    rfl
  · obtain ⟨sa, ns, rfl, hS, hlen, q⟩ := h
    have hr1 : Room 1 (A.deeper (envOfC "law" (defScope sLaw) s.heap.objs.size f cdv)) := hr.mono (by decide)
    have hr2 : Room 2 (A.deeper (envOfC "law" (defScope sLaw) s.heap.objs.size f cdv)) := hr.mono (by decide)
    have hr3 : Room 3 (A.deeper (envOfC "law" (defScope sLaw) s.heap.objs.size f cdv)) := hr.mono (by decide)
    refine ⟨_, pss_cut (ps_for PassesOwn.never rfl (pi_range1 rfl T.n_range (pa_cons (pe_callB (call_max2 rfl) (by rfl) T.n_max (by decide +kernel) (pa_cons pe_int (pa_cons (pe_callB (call_min2 rfl) (by rfl) T.n_min (by decide +kernel) (pa_cons pe_int (pa_cons (pe_callB call_len_seq (by rfl) T.n_len (by decide +kernel) (pa_cons (pv 0) pa_nil)) pa_nil))) pa_nil))) pa_nil)) (pg_name (i := 1) scLaw.nd rfl (Or.inl rfl)) (pss_cons (ps_set (i := 2) scLaw.nd rfl (.inr rfl) (pe_call (E := E0) G_deal (hr.mono (by decide)) rfl D_deal.g D_deal.F.kp D_deal.b .nil pass0 (pa_cons (pv 0) (pa_cons (pv 1) pa_nil))))
      (pss_cons (ps_setLc (i := 3) (own := [("_law_turn", 12)]) (g := gName 12) (tt := tYes) rfl scLaw.nd rfl rfl (sw_true rfl rfl rfl (by decide +kernel)) (pi_range1 rfl T.n_range (pa_cons pe_int pa_nil)) (blkOk_by (own := [("_law_turn", 12)]) (N := ["_law_script", "_law_spot", "_law_deal_here", "_law_some", "_law_found", "_law_first", "_law_second", "_law_third", "_law_one", "_law_two", "_law_drawn", "_law_other", "_law_turn"]) (sc := defScope sLaw) (by decide +kernel)) (fun _ _ _ _ _ => (pg_name (i := 12) scLaw.nd rfl (Or.inl rfl))) (fun _ _ _ _ _ => pts_nil) (fun _ _ _ _ _ => (pe_call (E := E0) G_wide_rule (hr.mono (by decide)) rfl D_wide_rule.g D_wide_rule.F.kp D_wide_rule.b .nil pass0 (pa_cons (pv 2) pa_nil))))
      (pss_cons (ps_set (i := 4) scLaw.nd rfl (.inl rfl) (pe_lst pa_nil))
      (pss_cut (ps_for PassesOwn.never rfl (pi_list (pv 3)) (pg_tup (by rfl) (pgs_cons (pg_name (i := 5) scLaw.nd rfl (Or.inl rfl)) (pgs_cons (pg_name (i := 6) scLaw.nd rfl (Or.inl rfl)) (pgs_cons (pg_name (i := 7) scLaw.nd rfl (Or.inl rfl)) pgs_nil)))) (pss_cons (ps_par (i := 8) (j := 9) (by rfl) scLaw.nd rfl rfl (by decide) rfl rfl (pa_cons (pe_callTy (T := "list") (r := rListOf K) call_list_of (by rfl) T.n_list (by decide +kernel) (pa_cons (pv 6) pa_nil)) (pa_cons (pe_callTy (T := "list") (r := rListOf K) call_list_of (by rfl) T.n_list (by decide +kernel) (pa_cons (pv 7) pa_nil)) pa_nil)) (by rfl))
      (pss_cons (ps_expr (pe_bm PySem.F.plainAttrs_list PySem.F.slot_list_append PySem.F.type_list_append mt_append (pv 4) (pa_cons (pe_make (sp := spRuleInit K CR) (E := E0) mkR G_init hr3 rfl T.g_Rule b_init .nil pass0 (pa_cons (pv 5) (pa_cons (pe_ifExp (pt_cmpR op_eq (pe_call (E := E0) G_draw (hr.mono (by decide)) rfl D_draw.g D_draw.F.kp D_draw.b .nil pass0 (pa_cons (pv 2) (pa_cons pe_int pa_nil))) pe_int (nomark _)) (pv 8) (pv 6)) (pa_cons (pv 9) pa_nil)))) pa_nil)))
      (pss_cons (ps_expr (pe_bm PySem.F.plainAttrs_list PySem.F.slot_list_append PySem.F.type_list_append mt_append (pv 8) (pa_cons pe_str pa_nil)))
      (pss_one (ps_expr (pe_bm PySem.F.plainAttrs_list PySem.F.slot_list_append PySem.F.type_list_append mt_append (pv 9) (pa_cons pe_str pa_nil))))))))
      (pss_one (ps_for PassesOwn.never rfl (pi_zip (by rfl) n_zip (pa_cons (pv 3) (pa_cons (pv 4) pa_nil))) (pg_tup (by rfl) (pgs_cons (pg_name (i := 10) scLaw.nd rfl (Or.inl rfl)) (pgs_cons (pg_name (i := 8) scLaw.nd rfl (Or.inl rfl)) pgs_nil))) (pss_cons (ps_if (PW.pt (pw_or (pt_cmpR op_ne (pe_callB (r := rShow K) (call_show hg hr1) (by rfl) n_repr (by decide +kernel) (pa_cons (pe_tup (pa_cons (pe_fld (pv 8) rfl) (pa_cons (pe_fld (pv 8) rfl) (pa_cons (pe_fld (pv 8) rfl) pa_nil)))) pa_nil)) (pe_callB (r := rShow K) (call_show hg hr1) (by rfl) n_repr (by decide +kernel) (pa_cons (pv 10) pa_nil)) (nomark _)) (pw_or1 (pt_cmpR (op_neD hr.units) (pe_callTy (T := "str") (r := rStrI CR (spRuleStr K CR) E0) (call_strI G_str hr3 TL.stR TL.isS b_str pass0) (by rfl) T.n_str (by decide +kernel) (pa_cons (pv 8) pa_nil)) (pe_call (E := E0) G_rule_text (hr.mono (by decide)) rfl D_rule_text.g D_rule_text.F.kp D_rule_text.b .nil pass0 (pa_cons (pv 10) pa_nil)) (nomark _))))) (pss_one (ps_ret pe_bl)) pss_nil)
      (pss_cut (ps_for PassesOwn.never rfl (pi_zip (by rfl) n_zip (pa_cons (pv 3) (pa_cons (pv 4) pa_nil))) (pg_tup (by rfl) (pgs_cons (pg_name (i := 11) scLaw.nd rfl (Or.inl rfl)) (pgs_cons (pg_name (i := 9) scLaw.nd rfl (Or.inl rfl)) pgs_nil))) (pss_one (ps_if (PW.pt (pw_or (pt_cmpR (op_neD hr.units) (pe_cmpR (op_eqI (C := CR) (sp := spRuleEq K CR) (E := E0) G_eq hr1 TL.eqR TL.isE b_eq pass0) (pv 8) (pv 9) (nomark _)) (pe_cmpR (op_eqD hr.units) (pv 10) (pv 11) (nomark _)) (nomark _)) (pw_or1 (pt_cmpR (op_neD hr.units) (pe_cmpR (op_neI (C := CR) (sp := spRuleEq K CR) (E := E0) G_eq hr2 TL.eqR TL.neR TL.mrR TL.isE b_eq pass0) (pv 8) (pv 9) (nomark _)) (pe_cmpR (op_neD hr.units) (pv 10) (pv 11) (nomark _)) (nomark _))))) (pss_one (ps_ret pe_bl)) pss_nil)))
      (pss_one (ps_if (PW.pt (pw_or (pt_cmpR (op_inNo (C := CR) G_no hr2 TL.eqR TL.isE b_eq pass0 TL.no) (pv 8) (pe_tup (pa_cons (pe_callTy (T := "str") (r := rStrI CR (spRuleStr K CR) E0) (call_strI G_str hr3 TL.stR TL.isS b_str pass0) (by rfl) T.n_str (by decide +kernel) (pa_cons (pv 8) pa_nil)) (pa_cons (pv 10) (pa_cons pe_non pa_nil)))) (by rfl)) (pw_or1 (pt_cmpR (op_neI (C := CR) (sp := spRuleEq K CR) (E := E0) G_eq hr2 TL.eqR TL.neR TL.mrR TL.isE b_eq pass0) (ClX.pe_cmeth (E := E0) (pe_glob (v := .ref CR) rfl T.g_Rule rfl) rdR cmR G_readR (hr.mono (by decide)) pass0 (pa_cons (pe_callTy (T := "str") (r := rStrI CR (spRuleStr K CR) E0) (call_strI G_str hr3 TL.stR TL.isS b_str pass0) (by rfl) T.n_str (by decide +kernel) (pa_cons (pv 8) pa_nil)) pa_nil)) (pv 8) (nomark _))))) (pss_one (ps_ret pe_bl)) pss_nil)))))))))))
      (pss_one (ps_ret (pe_and (pe_cmpR (op_eqD hr.units) (pe_callTy (T := "str") (r := rStrI CR (spRuleStr K CR) E0) (call_strI G_str hr3 TL.stR TL.isS b_str pass0) (by rfl) T.n_str (by decide +kernel) (pa_cons (pe_make (sp := spRuleInit K CR) (E := E0) mkR G_init hr3 rfl T.g_Rule b_init1 dv1 pass0 (pa_cons pe_str pa_nil)) pa_nil)) pe_str (nomark _)) (pe_and (pe_cmpR (op_eqD hr.units) (pe_fld (pe_make (sp := spRuleInit K CR) (E := E0) mkR G_init hr3 rfl T.g_Rule b_init1 dv1 pass0 (pa_cons pe_str pa_nil)) rfl) (pe_tup pa_nil) (nomark _)) (pe_one (pe_cmpR (op_eqD hr.units) (pe_fld (pe_make (sp := spRuleInit K CR) (E := E0) mkR G_init hr3 rfl T.g_Rule b_init2 dv2 pass0 (pa_cons pe_str (pa_cons (pe_lst (pa_cons pe_str pa_nil)) pa_nil))) rfl) (pe_tup pa_nil) (nomark _))))))), ?_⟩
    have hm : ∃ n : Int, (if (if ((ns.map V.int).length : Int) < 5 then ((ns.map V.int).length : Int) else 5) > 2 then (if ((ns.map V.int).length : Int) < 5 then ((ns.map V.int).length : Int) else 5) else 2) = n ∧ 0 ≤ n ∧ n ≤ 5 := ⟨_, rfl, by split <;> split <;> omega, by split <;> split <;> omega⟩
    obtain ⟨n, hn, n0, n5⟩ := hm
    refine Evl.q_cut (M := fun _ _ => True) ?_ (fun σ' H' _ => Evl.s_ret (v := .bl true) (ev_end T dfT0 dfT1) fun H2 _ => q H2)
    refine Evl.s_forR1 (n := n) ?_ ⟨n0, Int.le_trans n5 (by decide)⟩ (fun _ σ' H' => ∃ b1 b2 b3 b4 b5 b6 b7 b8 b9 b10 b11 b12 : Option V, σ' = [some (.ref sa), b1, b2, b3, b4, b5, b6, b7, b8, b9, b10, b11, b12] ∧ Ex H H') ?_ ?_ ?_
    · intro H1 e1 Q2 q2
      refine ⟨_, rfl, sa, _, rfl, .inl (Evl.ex_l e1 hS), 5, _, rfl, 2, _, rfl, ?_⟩
      have q3 := q2 H1 (Ex.refl _)
      rw [← hn] at q3
      exact q3
    · intro H1 e1
      exact ⟨_, _, _, _, _, _, _, _, _, _, _, _, rfl, e1⟩
    · rintro i σ' H' hi ⟨b1, b2, b3, b4, b5, b6, b7, b8, b9, b10, b11, b12, rfl, e1⟩
      exact rd_body T (Evl.ex_l e1 hS) hlen (by omega) fun _ _ _ _ _ _ _ _ _ _ H2 e2 => ⟨_, _, _, _, _, _, _, _, _, _, _, _, rfl, e1.trans e2⟩
    · exact fun _ _ _ => trivial
end
end Ov

namespace Ov
open PySem PySem.Spec PyProof.Rows L2
/-- an empty tuple of the known heap -/
def emB (K : PySem.W.Frag) (a : Addr) : Bool := match K.lookup a with
  | some ⟨.type c, _, .seq its _, _⟩ => decide (c = "tuple") && decide (its = #[])
  | _ => false
theorem emB_ok {K : PySem.W.Frag} {a : Addr} (h : emB K a = true) (H : Hp) : SqT K H a [] := by
  unfold emB at h
  split at h
  · rename_i q
    obtain ⟨h1, h2⟩ := Bool.and_eq_true_iff.mp h
    have e := of_decide_eq_true h2
    subst e
    exact .inr ⟨_, _, _, q, congrArg Value.type (of_decide_eq_true h1), rfl, Nat.zero_le _, .nil⟩
  · cases h
def dA (x : Str) (st : Stmt) : He5.DefA := ⟨fun K => He.ga K x, x, x, defArgs st, defBody st, defScope st, [], []⟩
def dM (c m q : Str) (st : Stmt) (dfl : List He.Dv) : He5.DefA := ⟨fun K => He.ma K (He.ga K c) m, m, q, defArgs st, defBody st, defScope st, dfl, []⟩
def dC (c m q : Str) (st : Stmt) : He5.DefA := ⟨fun K => He5.wf K (He.ga K c) "classmethod" m, m, q, defArgs st, defBody st, defScope st, [], []⟩
def fn : List He5.DefA := [dA "_law_deal" sDeal, dA "_law_draw" sDraw, dA "_law_pick" sPick, dA "_law_tests_of" sTestsOf, dA "_law_deeds_of" sDeedsOf, dA "_law_wide_rule" sWideRule, dA "_law_rule_text" sRuleText, dA "law" sLaw, dA "is_sequence" sIsSequence, dA "is_kind" sIsKind, dA "is_test" sIsTest, dA "is_deed" sIsDeed, dA "split_part" sSplitPart, dM "Rule" "__init__" "Rule.__init__" sRuleInit [.adr (He.dflAt ("Rule", some "__init__") 0), .adr (He.dflAt ("Rule", some "__init__") 1)], dM "Rule" "__eq__" "Rule.__eq__" sRuleEq [], dM "Rule" "__str__" "Rule.__str__" sRuleStr [], dC "Rule" "read" "Rule.read" sRuleRead]
def fa : List He.Fa := [.glo "_law_deal", .glo "_law_draw", .glo "_law_pick", .glo "_law_tests_of", .glo "_law_deeds_of", .glo "_law_wide_rule", .glo "_law_rule_text", .glo "law", .glo "is_sequence", .glo "is_kind", .glo "is_test", .glo "is_deed", .glo "split_part", .glo "Rule", .glo "LETTERS", .glo "LETTER_TESTS", .glo "LETTER_DEEDS", .glo "ANSWER_TESTS", .glo "ANSWER_DEEDS", .free "int", .free "abs", .free "len", .free "range", .free "max", .free "min", .free "list", .free "tuple", .free "isinstance", .free "str", .free "all", .free "zip", .free "repr", .str "ANSWER" "answer", .str "NOT" "not ", .cls "Rule", .noat "Rule" "kind", .noat "Rule" "tests", .noat "Rule" "deeds", .meth "Rule" "__eq__", .meth "Rule" "__str__", .mkr "Rule"]
def exL (K : PySem.W.Frag) : List Bool := [He.tupB K "LETTERS" [.str "ask", .str "day", .str "off", .str "stop"], He.tupB K "LETTER_TESTS" [.str "whole", .str "own", .str "above whole", .str "above own", .str "level whole", .str "level own", .str "later whole", .str "later own"], He.tupB K "LETTER_DEEDS" [.str "take", .str "wipe"], He.tupB K "ANSWER_TESTS" [.str "level"], He.tupB K "ANSWER_DEEDS" [.str "count", .str "drop"], decide (PySem.W.mroIn K (He.ga K "Rule") (.type "object") = some true), He.eqO (PySem.W.findIn K (.ref (He.ga K "Rule")) "__class__") (some (some (.builtin "object.__class__"))), He.eqO (PySem.W.specialIn K (.builtin "object.__class__") "__get__") (some (some (.builtin "getset_descriptor.__get__"))), decide (PySem.W.takesIn K (.builtin "object.__class__") = some true), He.eqO (PySem.W.findIn K (.ref (He.ga K "Rule")) "__ne__") (some (some (.builtin "object.__ne__"))), PySem.W.readsIn K (He.ga K "Rule") (.type "type"), He.eqO (PySem.W.specialIn K (.ref (He.ga K "Rule")) "__getattribute__") (some (some (.builtin "type.__getattribute__"))), He5.wrapB K (He.ga K "Rule") "classmethod" "classmethod.__get__" "read", PySem.W.fnIn K (He5.wf K (He.ga K "Rule") "classmethod" "read"), emB K (He.dflAt ("Rule", some "__init__") 0 K), emB K (He.dflAt ("Rule", some "__init__") 1 K), decide (PySem.W.mroIn K (He.ga K "Rule") (.type "str") = some false), decide (PySem.W.mroIn K (He.ga K "Rule") (.type "tuple") = some false), decide (PySem.W.mroIn K (He.ga K "Rule") (.type "NoneType") = some false), decide (PySem.W.kitOne K (.type "str") (.ref (He.ga K "Rule")) = some false), decide (PySem.W.kitOne K (.type "tuple") (.ref (He.ga K "Rule")) = some false), decide (PySem.W.kitOne K (.type "NoneType") (.ref (He.ga K "Rule")) = some false)]
def ex (K : PySem.W.Frag) : Bool := (exL K).all id
theorem ex_at {K : PySem.W.Frag} (h : ex K = true) (i : Nat) {b : Bool} (e : (exL K)[i]? = some b) : b = true := List.all_eq_true.mp h b (List.mem_of_getElem? e)
def names : List Str := (["__name__", "LetterError", "InvalidRule", "InvalidText", "is_sequence", "LETTERS", "ANSWER", "LETTER_TESTS", "LETTER_DEEDS", "ANSWER_TESTS", "ANSWER_DEEDS", "NOT", "is_kind", "is_test", "is_deed", "split_part", "Rule", "_law_deal", "_law_draw", "_law_pick", "_law_mixed", "_law_tests_of", "_law_deeds_of", "_law_any_rule", "_law_usual_rules"] : List Str) ++ (["_law_raised", "_law_plan", "_law_rule_text", "_law_text", "_law_wide_rule", "_law_wide_plan"] : List Str)
abbrev R : PySem.W.OpenRow := PySem.W.OpenLaw.row PySem.Challenge.rw_overtaken_k02_rules_made
def part (n : Nat) (g : Addr → Option Obj) : PySem.W.Frag := He.frG g (He5.asA g n)
def seen (n : Nat) (g : Addr → Option Obj) : He.AlD × Bool := (He5.obsA fa fn (part n g), ex (part n g))
structure Says (K : PySem.W.Frag) : Prop where
  d : He5.SaysA fa fn K
  more : ex K = true
def hk : PySem.W.Hook where
  α := He.AlD × Bool
  obs := fun s => seen 6 s.heap.get?
  val := fun _ => (He5.valA fn, true)
  says := fun _ h => ∃ K : PySem.W.Frag, K.In h ∧ Says K
  of := fun _ _ e => ⟨_, He.frG_in, ⟨congrArg (fun z : He.AlD × Bool => z.1) e, congrArg (fun z : He.AlD × Bool => z.2) e⟩⟩
  keeps := fun _ _ _ ⟨K, hK, c⟩ k => ⟨K, PySem.W.Frag.In.keeps hK k, c⟩
def ob (s : PySem.W.SharedT) : He.AlD × Bool := seen 6 (HandSHeadRun.getT s)
theorem ob_eq (s : PySem.W.SharedT) : ob s = hk.obs s.abs := by
  have e : HandSHeadRun.getT s = s.abs.heap.get? := funext fun a => HandSHeadRun.getT_eq s a
  show seen 6 (HandSHeadRun.getT s) = seen 6 s.abs.heap.get?
  rw [e] <;> rfl
theorem run (w : World) : HandSHeadRun.RunEq R (PySem.W.view R.prog [34]) hk ob 6000 names w := by
  intro os
  kernel_rfl
section
variable {K : PySem.W.Frag} {h : Heap} {mg : Str → Option Value}
theorem df_law_deal (X : K.In h) (G : h.Ns mainGlobals mg) (c : Says K) : ∃ fd, Df K mg "_law_deal" sDeal ["_law_script", "_law_base"] (He.ga K "_law_deal") fd := by
  obtain ⟨fd, F⟩ := c.d.def_ 0 (d := dA "_law_deal" sDeal) rfl
  exact ⟨fd, He5.fun_of F, He.glo_ok X G (c.d.fact 0 (f := .glo "_law_deal") rfl), FunD.bindsN (ps := ["_law_script", "_law_base"]) F fun _ _ _ _ _ _ us hl => match us, hl with | [_, _], _ => rfl⟩
theorem df_law_draw (X : K.In h) (G : h.Ns mainGlobals mg) (c : Says K) : ∃ fd, Df K mg "_law_draw" sDraw ["_law_deal_here", "_law_many"] (He.ga K "_law_draw") fd := by
  obtain ⟨fd, F⟩ := c.d.def_ 1 (d := dA "_law_draw" sDraw) rfl
  exact ⟨fd, He5.fun_of F, He.glo_ok X G (c.d.fact 1 (f := .glo "_law_draw") rfl), FunD.bindsN (ps := ["_law_deal_here", "_law_many"]) F fun _ _ _ _ _ _ us hl => match us, hl with | [_, _], _ => rfl⟩
theorem df_law_pick (X : K.In h) (G : h.Ns mainGlobals mg) (c : Says K) : ∃ fd, Df K mg "_law_pick" sPick ["_law_deal_here", "_law_some"] (He.ga K "_law_pick") fd := by
  obtain ⟨fd, F⟩ := c.d.def_ 2 (d := dA "_law_pick" sPick) rfl
  exact ⟨fd, He5.fun_of F, He.glo_ok X G (c.d.fact 2 (f := .glo "_law_pick") rfl), FunD.bindsN (ps := ["_law_deal_here", "_law_some"]) F fun _ _ _ _ _ _ us hl => match us, hl with | [_, _], _ => rfl⟩
theorem df_law_tests_of (X : K.In h) (G : h.Ns mainGlobals mg) (c : Says K) : ∃ fd, Df K mg "_law_tests_of" sTestsOf ["_law_kind"] (He.ga K "_law_tests_of") fd := by
  obtain ⟨fd, F⟩ := c.d.def_ 3 (d := dA "_law_tests_of" sTestsOf) rfl
  exact ⟨fd, He5.fun_of F, He.glo_ok X G (c.d.fact 3 (f := .glo "_law_tests_of") rfl), FunD.bindsN (ps := ["_law_kind"]) F fun _ _ _ _ _ _ us hl => match us, hl with | [_], _ => rfl⟩
theorem df_law_deeds_of (X : K.In h) (G : h.Ns mainGlobals mg) (c : Says K) : ∃ fd, Df K mg "_law_deeds_of" sDeedsOf ["_law_kind"] (He.ga K "_law_deeds_of") fd := by
  obtain ⟨fd, F⟩ := c.d.def_ 4 (d := dA "_law_deeds_of" sDeedsOf) rfl
  exact ⟨fd, He5.fun_of F, He.glo_ok X G (c.d.fact 4 (f := .glo "_law_deeds_of") rfl), FunD.bindsN (ps := ["_law_kind"]) F fun _ _ _ _ _ _ us hl => match us, hl with | [_], _ => rfl⟩
theorem df_law_wide_rule (X : K.In h) (G : h.Ns mainGlobals mg) (c : Says K) : ∃ fd, Df K mg "_law_wide_rule" sWideRule ["_law_deal_here"] (He.ga K "_law_wide_rule") fd := by
  obtain ⟨fd, F⟩ := c.d.def_ 5 (d := dA "_law_wide_rule" sWideRule) rfl
  exact ⟨fd, He5.fun_of F, He.glo_ok X G (c.d.fact 5 (f := .glo "_law_wide_rule") rfl), FunD.bindsN (ps := ["_law_deal_here"]) F fun _ _ _ _ _ _ us hl => match us, hl with | [_], _ => rfl⟩
theorem df_law_rule_text (X : K.In h) (G : h.Ns mainGlobals mg) (c : Says K) : ∃ fd, Df K mg "_law_rule_text" sRuleText ["_law_rule"] (He.ga K "_law_rule_text") fd := by
  obtain ⟨fd, F⟩ := c.d.def_ 6 (d := dA "_law_rule_text" sRuleText) rfl
  exact ⟨fd, He5.fun_of F, He.glo_ok X G (c.d.fact 6 (f := .glo "_law_rule_text") rfl), FunD.bindsN (ps := ["_law_rule"]) F fun _ _ _ _ _ _ us hl => match us, hl with | [_], _ => rfl⟩
theorem df_is_sequence (X : K.In h) (G : h.Ns mainGlobals mg) (c : Says K) : ∃ fd, Df K mg "is_sequence" sIsSequence ["value"] (He.ga K "is_sequence") fd := by
  obtain ⟨fd, F⟩ := c.d.def_ 8 (d := dA "is_sequence" sIsSequence) rfl
  exact ⟨fd, He5.fun_of F, He.glo_ok X G (c.d.fact 8 (f := .glo "is_sequence") rfl), FunD.bindsN (ps := ["value"]) F fun _ _ _ _ _ _ us hl => match us, hl with | [_], _ => rfl⟩
theorem df_is_kind (X : K.In h) (G : h.Ns mainGlobals mg) (c : Says K) : ∃ fd, Df K mg "is_kind" sIsKind ["value"] (He.ga K "is_kind") fd := by
  obtain ⟨fd, F⟩ := c.d.def_ 9 (d := dA "is_kind" sIsKind) rfl
  exact ⟨fd, He5.fun_of F, He.glo_ok X G (c.d.fact 9 (f := .glo "is_kind") rfl), FunD.bindsN (ps := ["value"]) F fun _ _ _ _ _ _ us hl => match us, hl with | [_], _ => rfl⟩
theorem df_is_test (X : K.In h) (G : h.Ns mainGlobals mg) (c : Says K) : ∃ fd, Df K mg "is_test" sIsTest ["kind", "value"] (He.ga K "is_test") fd := by
  obtain ⟨fd, F⟩ := c.d.def_ 10 (d := dA "is_test" sIsTest) rfl
  exact ⟨fd, He5.fun_of F, He.glo_ok X G (c.d.fact 10 (f := .glo "is_test") rfl), FunD.bindsN (ps := ["kind", "value"]) F fun _ _ _ _ _ _ us hl => match us, hl with | [_, _], _ => rfl⟩
theorem df_is_deed (X : K.In h) (G : h.Ns mainGlobals mg) (c : Says K) : ∃ fd, Df K mg "is_deed" sIsDeed ["kind", "value"] (He.ga K "is_deed") fd := by
  obtain ⟨fd, F⟩ := c.d.def_ 11 (d := dA "is_deed" sIsDeed) rfl
  exact ⟨fd, He5.fun_of F, He.glo_ok X G (c.d.fact 11 (f := .glo "is_deed") rfl), FunD.bindsN (ps := ["kind", "value"]) F fun _ _ _ _ _ _ us hl => match us, hl with | [_, _], _ => rfl⟩
theorem df_split_part (X : K.In h) (G : h.Ns mainGlobals mg) (c : Says K) : ∃ fd, Df K mg "split_part" sSplitPart ["sign", "text", "between"] (He.ga K "split_part") fd := by
  obtain ⟨fd, F⟩ := c.d.def_ 12 (d := dA "split_part" sSplitPart) rfl
  exact ⟨fd, He5.fun_of F, He.glo_ok X G (c.d.fact 12 (f := .glo "split_part") rfl), FunD.bindsN (ps := ["sign", "text", "between"]) F fun _ _ _ _ _ _ us hl => match us, hl with | [_, _, _], _ => rfl⟩
theorem dm_Rule_init (c : Says K) : ∃ fd, FunD K "__init__" "Rule.__init__" (defArgs sRuleInit) (defBody sRuleInit) (defScope sRuleInit) [V.ref (He.dflAt ("Rule", some "__init__") 0 K), V.ref (He.dflAt ("Rule", some "__init__") 1 K)] [] (He.ma K (He.ga K "Rule") "__init__") fd ∧ Binds K fd ["self", "kind", "tests", "deeds"] [] := by
  obtain ⟨fd, F⟩ := c.d.def_ 13 (d := dM "Rule" "__init__" "Rule.__init__" sRuleInit [.adr (He.dflAt ("Rule", some "__init__") 0), .adr (He.dflAt ("Rule", some "__init__") 1)]) rfl
  obtain ⟨ds, hv, hb⟩ := FunD.binds1 (ps := ["self", "kind", "tests", "deeds"]) F 4 2 (fun z => nomatch z) rfl fun _ _ _ _ _ _ _ us its h1 h2 => match us, its, h1, h2 with | [_, _, _, _], [_, _], _, _ => ⟨_, rfl, rfl⟩
  cases hv
  exact ⟨fd, F, hb⟩
theorem dm_Rule_eq (c : Says K) : ∃ fd, Fun K "__eq__" "Rule.__eq__" sRuleEq (He.ma K (He.ga K "Rule") "__eq__") fd ∧ Binds K fd ["self", "other"] [] := by
  obtain ⟨fd, F⟩ := c.d.def_ 14 (d := dM "Rule" "__eq__" "Rule.__eq__" sRuleEq []) rfl
  exact ⟨fd, He5.fun_of F, FunD.bindsN (ps := ["self", "other"]) F fun _ _ _ _ _ _ us hl => match us, hl with | [_, _], _ => rfl⟩
theorem dm_Rule_str (c : Says K) : ∃ fd, Fun K "__str__" "Rule.__str__" sRuleStr (He.ma K (He.ga K "Rule") "__str__") fd ∧ Binds K fd ["self"] [] := by
  obtain ⟨fd, F⟩ := c.d.def_ 15 (d := dM "Rule" "__str__" "Rule.__str__" sRuleStr []) rfl
  exact ⟨fd, He5.fun_of F, FunD.bindsN (ps := ["self"]) F fun _ _ _ _ _ _ us hl => match us, hl with | [_], _ => rfl⟩
theorem dm_Rule_read (c : Says K) : ∃ fd, Fun K "read" "Rule.read" sRuleRead (He5.wf K (He.ga K "Rule") "classmethod" "read") fd ∧ Binds K fd ["cls", "text"] [] := by
  obtain ⟨fd, F⟩ := c.d.def_ 16 (d := dC "Rule" "read" "Rule.read" sRuleRead) rfl
  exact ⟨fd, He5.fun_of F, FunD.bindsN (ps := ["cls", "text"]) F fun _ _ _ _ _ _ us hl => match us, hl with | [_, _], _ => rfl⟩
end
theorem facts {P : Program} {w : World} {K : PySem.W.Frag} {h : Heap} {mg : Str → Option Value} {f : Addr} (X : K.In h) (G : h.Ns mainGlobals mg) (hfa : mg ("law" : Str) = some (.ref f)) (c : Says K) :
    ∃ fd : FuncData, (∀ (s : Shared) (v : Value), BindsTo s fd ⟨[v], []⟩ [("_law_script", v)]) ∧ ∀ base : Heap, K.In base → base.Ns mainGlobals mg → FnC P w K mg base 7 f fd ["_law_script"] (spLaw K) := by
  obtain ⟨fd, F⟩ := c.d.def_ 7 (d := dA "law" sLaw) rfl
  have e := hfa.symm.trans (He.glo_ok X G (c.d.fact 7 (f := .glo "law") rfl))
  cases e
  have b := FunD.bindsA (ps := ["_law_script"]) F fun _ _ _ _ _ _ us hl => match us, hl with | [_], _ => rfl
  obtain ⟨d_deal, D_deal⟩ := df_law_deal X G c
  obtain ⟨d_draw, D_draw⟩ := df_law_draw X G c
  obtain ⟨d_pick, D_pick⟩ := df_law_pick X G c
  obtain ⟨d_tests_of, D_tests_of⟩ := df_law_tests_of X G c
  obtain ⟨d_deeds_of, D_deeds_of⟩ := df_law_deeds_of X G c
  obtain ⟨d_wide_rule, D_wide_rule⟩ := df_law_wide_rule X G c
  obtain ⟨d_rule_text, D_rule_text⟩ := df_law_rule_text X G c
  obtain ⟨d_is_sequence, D_is_sequence⟩ := df_is_sequence X G c
  obtain ⟨d_is_kind, D_is_kind⟩ := df_is_kind X G c
  obtain ⟨d_is_test, D_is_test⟩ := df_is_test X G c
  obtain ⟨d_is_deed, D_is_deed⟩ := df_is_deed X G c
  obtain ⟨d_split_part, D_split_part⟩ := df_split_part X G c
  obtain ⟨d_Rule_init, F_Rule_init, b_Rule_init⟩ := dm_Rule_init c
  obtain ⟨d_Rule_eq, F_Rule_eq, b_Rule_eq⟩ := dm_Rule_eq c
  obtain ⟨d_Rule_str, F_Rule_str, b_Rule_str⟩ := dm_Rule_str c
  obtain ⟨d_Rule_read, F_Rule_read, b_Rule_read⟩ := dm_Rule_read c
  obtain ⟨tA, gA⟩ := He.str_ok X G (c.d.fact 32 (f := .str "ANSWER" "answer") rfl)
  obtain ⟨tN, gN⟩ := He.str_ok X G (c.d.fact 33 (f := .str "NOT" "not ") rfl)
  have TB : TxB mg := ⟨He.free_ok X G (c.d.fact 19 (f := .free "int") rfl), He.free_ok X G (c.d.fact 20 (f := .free "abs") rfl), He.free_ok X G (c.d.fact 21 (f := .free "len") rfl), He.free_ok X G (c.d.fact 22 (f := .free "range") rfl), He.free_ok X G (c.d.fact 23 (f := .free "max") rfl), He.free_ok X G (c.d.fact 24 (f := .free "min") rfl), He.free_ok X G (c.d.fact 25 (f := .free "list") rfl), He.free_ok X G (c.d.fact 26 (f := .free "tuple") rfl)⟩
  have T : TxR K mg (He.ga K "LETTERS") (He.ga K "LETTER_TESTS") (He.ga K "LETTER_DEEDS") (He.ga K "ANSWER_TESTS") (He.ga K "ANSWER_DEEDS") (He.ga K "Rule") tA tN :=
    { toTxB := TB, g_ANSWER := gA, g_NOT := gN, g_LETTERS := He.glo_ok X G (c.d.fact 14 (f := .glo "LETTERS") rfl), s_LETTERS := He.tupB_ok (ex_at c.more 0 rfl), g_LETTER_TESTS := He.glo_ok X G (c.d.fact 15 (f := .glo "LETTER_TESTS") rfl), s_LETTER_TESTS := He.tupB_ok (ex_at c.more 1 rfl), g_LETTER_DEEDS := He.glo_ok X G (c.d.fact 16 (f := .glo "LETTER_DEEDS") rfl), s_LETTER_DEEDS := He.tupB_ok (ex_at c.more 2 rfl), g_ANSWER_TESTS := He.glo_ok X G (c.d.fact 17 (f := .glo "ANSWER_TESTS") rfl), s_ANSWER_TESTS := He.tupB_ok (ex_at c.more 3 rfl), g_ANSWER_DEEDS := He.glo_ok X G (c.d.fact 18 (f := .glo "ANSWER_DEEDS") rfl), s_ANSWER_DEEDS := He.tupB_ok (ex_at c.more 4 rfl), g_Rule := He.glo_ok X G (c.d.fact 13 (f := .glo "Rule") rfl), n_isinstance := He.free_ok X G (c.d.fact 27 (f := .free "isinstance") rfl), n_str := He.free_ok X G (c.d.fact 28 (f := .free "str") rfl), n_all := He.free_ok X G (c.d.fact 29 (f := .free "all") rfl), cl := He.cls_ok (c.d.fact 34 (f := .cls "Rule") rfl), nK := He.noat_ok (c.d.fact 35 (f := .noat "Rule" "kind") rfl), nT := He.noat_ok (c.d.fact 36 (f := .noat "Rule" "tests") rfl), nD := He.noat_ok (c.d.fact 37 (f := .noat "Rule" "deeds") rfl), ci := He.eqO_ok (ex_at c.more 6 rfl), cs := He.eqO_ok (ex_at c.more 7 rfl), ct := of_decide_eq_true (ex_at c.more 8 rfl), co := of_decide_eq_true (ex_at c.more 5 rfl) }
  have mR_eq := He.meth_ok (c.d.fact 38 (f := .meth "Rule" "__eq__") rfl)
  have mR_str := He.meth_ok (c.d.fact 39 (f := .meth "Rule" "__str__") rfl)
  have no : NoCls K (He.ga K "Rule") := ⟨of_decide_eq_true (ex_at c.more 16 rfl), of_decide_eq_true (ex_at c.more 17 rfl), of_decide_eq_true (ex_at c.more 18 rfl), of_decide_eq_true (ex_at c.more 19 rfl), of_decide_eq_true (ex_at c.more 20 rfl), of_decide_eq_true (ex_at c.more 21 rfl)⟩
  have TL : TxL K (He.ga K "Rule") (He.ma K (He.ga K "Rule") "__eq__") (He.ma K (He.ga K "Rule") "__str__") := { eqR := mR_eq.at_, neR := He.eqO_ok (ex_at c.more 9 rfl), mrR := T.co, stR := mR_str.at_, isE := mR_eq.fn, isS := mR_str.fn, no := no }
  have cmR := He5.cmet_of (ex_at c.more 12 rfl) (ex_at c.more 13 rfl)
  have rdR : ClX.CRead K (He.ga K "Rule") (.type "type") := ⟨(ex_at c.more 10 rfl), He.eqO_ok (ex_at c.more 11 rfl)⟩
  have mkR := He.mkr_ok (c.d.fact 40 (f := .mkr "Rule") rfl)
  obtain ⟨ds1, hv1, b_init1⟩ := FunD.binds1 (ps := ["self", "kind", "tests", "deeds"]) F_Rule_init 2 0 (fun z => nomatch z) rfl fun _ _ _ _ _ _ _ us its h1 h2 => match us, its, h1, h2 with | [_, _], [_, _], _, _ => ⟨_, rfl, rfl⟩
  obtain ⟨ds2, hv2, b_init2⟩ := FunD.binds1 (ps := ["self", "kind", "tests", "deeds"]) F_Rule_init 3 1 (fun z => nomatch z) rfl fun _ _ _ _ _ _ _ us its h1 h2 => match us, its, h1, h2 with | [_, _, _], [_, _], _, _ => ⟨_, rfl, rfl⟩
  have dfT0 := emB_ok (ex_at c.more 14 rfl)
  have dfT1 := emB_ok (ex_at c.more 15 rfl)
  have n_zip := He.free_ok X G (c.d.fact 30 (f := .free "zip") rfl)
  have n_repr := He.free_ok X G (c.d.fact 31 (f := .free "repr") rfl)
  refine ⟨fd, fun s v => b s [v] rfl, fun base _ _ => ?_⟩
  have G_wide_rule := ok_wide_rule (P := P) (w := w) (base := base) D_wide_rule.F TB D_draw D_pick D_tests_of D_deeds_of
  have G_rinit := ok_rule_init (P := P) (w := w) (base := base) F_Rule_init T D_is_sequence D_is_kind D_is_test D_is_deed
  have G_readR0 := ok_rule_read (P := P) (w := w) (base := base) F_Rule_read T D_split_part mkR G_rinit b_Rule_init
  have G_readR : FnR P w K mg base CX0 4 (He5.wf K (He.ga K "Rule") "classmethod" "read") (spRuleReadG K (He.ga K "Rule")) := (G_readR0.raw b_Rule_read .nil).imp fun vs H Q E h => by rw [List.append_nil]; exact h
  exact ok_law (fdE := d_Rule_eq) (He5.fun_of F) T TL n_zip n_repr dfT0 dfT1 D_deal D_draw D_wide_rule D_rule_text G_wide_rule mkR G_rinit b_Rule_init b_init1 hv1 b_init2 hv2
    (ok_rule_eq F_Rule_eq T) (ok_rule_eqNo F_Rule_eq T no) b_Rule_eq (ok_rule_str F_Rule_str T) b_Rule_str rdR cmR G_readR
end Ov
open PySem PySem.W PySem.Calls PyProof.Rows
theorem PySem.Challenge.cw_overtaken_k02_rules_made_holds : PySem.Challenge.rw_overtaken_k02_rules_made.Holds := by
  w_on; o_law
  refine HandSHeadRun.head_any (r := OpenLaw.row PySem.Challenge.rw_overtaken_k02_rules_made) (q := view (OpenLaw.row PySem.Challenge.rw_overtaken_k02_rules_made).prog [34]) (H := Ov.hk) (ob := Ov.ob) (M := 6000) (loose := Ov.names) (d := HandSHeadRun.topDef (OpenLaw.row PySem.Challenge.rw_overtaken_k02_rules_made).prog 34) (kwd := []) Ov.ob_eq
    (by kernel_rfl) (fun s => by kernel_rfl) Ov.run (by kernel_rfl) (by kernel_rfl) (by kernel_rfl) (by rfl) (by first | assumption | decide +kernel) (by decide +kernel) ⟨rfl, rfl, rfl, rfl, rfl, by decide +kernel⟩ ?hw ?hc
  case hw => w_witness2
  case hc =>
    refine Ov.walkC (l := PySem.Challenge.rw_overtaken_k02_rules_made) (n := 63) (k := 7) (x := "_law_script") rfl (by decide) (by kernel_rfl) ⟨rfl, by decide, by decide⟩ ?F
    intro w mg fa h Y G hmg0
    obtain ⟨K, KX, c⟩ := Y
    have hmg : mg ("law" : PySem.Str) = some (.ref fa) := by
      have e : (HandSHeadRun.topDef (OpenLaw.row PySem.Challenge.rw_overtaken_k02_rules_made).prog 34).name = ("law" : PySem.Str) := by kernel_rfl
      rw [← e]
      exact hmg0
    obtain ⟨fd, hb, hF⟩ := Ov.facts (P := (PySem.Challenge.rw_overtaken_k02_rules_made).prog) (w := w) KX G hmg c
    exact ⟨K, fd, Ov.spLaw K, KX, hb, fun H a zs hl hS => ⟨a, zs, rfl, hS, hl, fun _ => rfl⟩, hF⟩
