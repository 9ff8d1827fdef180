import PyProof.Rows.All
import Wide.All
import OpenK.AllK
import Wide.FinOn
import HandS.ForMost
import HandS.Star
import HandS.Property
import HandS.OwnEq
import HandS.Wide
import HandS.WideBits
import HandS.Flow
import HandS.Defaults
import HandS.MakeKw
import HandS.MapObj
import HandS.SetFor
import PyProof.Rows.CountFlat
import HandS.TupSets
import HandS.Deep
import KE.OsSort
import HandS.Comp
import HandS.SetBool
import HandS.Dict
import HandS.Conv
import HandS.Iter
import HandS.Walk
import KE.KDictWalk
import HandS.IsInst
import HandS.TryOnly
import HandS.Small
import HandS.Text
import HandS.Exc
import HandS.TryMany
import HandS.ExcInit
import HandS.ExcField
import HandS.ExcIs
import HandS.WordsExc
import HandS.ExcOwn
import KE.KExcIs
import PyProof.ReprBulk
import PyProof.Rows.RegStrFacts
import HandS.Style
import PySem.Challenge.RW_squareloops_k24_sizes_and_cells_refused
set_option Elab.async false
set_option maxRecDepth 100000
set_option maxHeartbeats 16000000
namespace Sq
open PySem L2 PySem.Spec PyProof.Rows

/-- a promise that is kept where no repr is under way -/
def FnG (P : Program) (w : World) (K : PySem.W.Frag) (mg : Str → Option Value) (base : Heap) (k : Nat) (f : Addr) (sp : Sp) : Prop :=
  ∀ (A : Around) (fr : List Env) (s : Shared) (H : Hp) (us : List Value) (vs : List V) (Q : VK), A.guards = some [] → Room k A →
    Env0 P w K mg base A fr s H → Vals vs us → sp vs H Q E0 → codeAny (model P w) A (.call (.ref f) ⟨us, []⟩) (CR CX0 fr P w H s Q E0) s

section
variable {P : Program} {w : World} {K : PySem.W.Frag} {mg : Str → Option Value} {base : Heap} {k : Nat} {f : Addr} {fd : FuncData} {sp : Sp} {x qual : Str} {st : Stmt} {N ps : List Str}

theorem FnG.of (F : Fun K x qual st f fd) (S : FnScope N ps (defScope st)) (b : Binds K fd ps []) (len : ∀ vs H Q, sp vs H Q E0 → vs.length = ps.length)
    (hbody : ∀ (cdv : Value) (A : Around) (fr : List Env) (s : Shared) (H : Hp) (vs : List V) (Q : VK),
      (A.deeper (envOfC qual (defScope st) s.heap.objs.size f cdv)).guards = some [] →
      Room k (A.deeper (envOfC qual (defScope st) s.heap.objs.size f cdv)) → sp vs H Q E0 →
      ∃ t, PSs (cxOf CX0 P w K mg base N qual (defScope st) f cdv A fr s H E0).nox (defBody st) t ∧
        t { nx := fun _ H' => Q .non H', rt := Q } (L2.start N vs) H) : FnG P w K mg base (k + 1) f sp := by
  intro A fr s H us vs Q hg hr e0 r hs
  obtain ⟨oc, od, kV, doc, pm, an, cdv, ct, osl, rfl, lk, hcd⟩ := F.ex
  have hin : K.In s.heap := e0.mod.kin.keeps fun b o e => (e0.bs b o e).1
  have hl : vs.length = ps.length := len vs H Q hs
  have hu : (us ++ []).length = ps.length := by
    rw [List.append_nil, ← r.length]
    exact hl
  refine StX.run_bnd lk hcd S hr e0 (G := fun vs' H2 => vs' = vs ∧ H2 = H) (fun A' Ex Q' h => ?_) fun s2 H2 vs' hv hr' => ?_
  · have z := b s us hin hu
    rw [List.append_nil] at z
    exact z (model P w) A' Ex Q' (h s H vs us e0 Un.refl rfl (fun _ _ q => q) r hl ⟨rfl, rfl⟩)
  · obtain ⟨e1, e2⟩ := hv
    subst e1 e2
    obtain ⟨t, ht, q⟩ := hbody cdv A fr s2 _ _ Q hg hr' hs
    exact ⟨t, ht.nox, q⟩
theorem FnG.ofR (F : FnR P w K mg base CX0 k f sp) : FnG P w K mg base k f sp := fun A fr s H us vs Q _ hr e0 r h => F A fr s H us vs Q E0 hr e0 r h
end

section
variable {X : Cx} {k : Nat} {f : Addr} {sp : Sp} {x : Str} {p pos : Pos} {e : Expr} {es : List Expr} {t : TA}
theorem run_fnG {pins : List (Addr × Obj)} {σ : L2.St} {H : Hp} {s : Shared} {Q : VK} {us : List Value} {vs : List V} (F : FnG X.prog X.w X.K X.mg X.base k f sp)
    (hg : X.A.guards = some []) (hr : Room k X.A) (I : Inv X pins σ H s) (r : Vals vs us) (h : sp vs H Q E0) :
    wpAny (model X.prog X.w) X.A (call (.ref f) us) (EP X pins σ Q) X.xe s := by
  refine wpAny_call (codeAny_mono (F X.A X.stack s H us vs Q hg hr I.env0 r h) fun z s' hz => ?_)
  match z, hz with
  | .error _, hz => exact False.elim hz
  | .ok (.ret _), hz => exact I.after hz
  | .ok .next, hz => exact False.elim hz
  | .ok .brk, hz => exact False.elim hz
  | .ok .cont, hz => exact False.elim hz
def tCallG (sp : Sp) (t : TA) : TE := fun σ H Q => t σ H fun vs H1 => sp vs H1 Q E0
/-- f(e, ..) by such a promise -/
theorem pe_callG (F : FnG X.prog X.w X.K X.mg X.base k f sp) (hg : X.A.guards = some []) (hr : Room k X.A) (hgl : Gl X x) (hm : X.mg x = some (.ref f))
    (hk : PySem.W.keepIn X.K (.ref f) = true) (ha : PA X (e :: es) t) (hdb : (x == ("__debug__" : Str)) = false := by decide)
    (he : starEach (e :: es) X.env = (false, eval e X.env) :: starEach es X.env := by rfl)
    (hpl : (backTo pos (starEach es X.env)).any (·.1) = false := by rfl) : PE X (.Call (.Name x p) (e :: es) [] pos) (tCallG sp t) := by
  constructor
  intro pins s σ H Q I h
  apply wpAny_Call_Name_kw
  refine ld_glob I hgl hm (PySem.W.callWith_K (h₀ := X.base) I.ok.mod.kin hk ?_ he hpl) hdb
  refine thn (ha.run pos pins s σ H _ I h) ?_
  rintro us s1 ⟨vs, H1, I1, r, q⟩
  exact ⟨I1.kIn, run_fnG F hg hr I1 r q⟩

/-- repr of data: what is shown, exactly -/
def rRepr (K : PySem.W.Frag) : List V → Hp → VK → Prop := fun xs H Q => ∃ (a : Addr) (d : PyData), xs = [.ref a] ∧ Dp K H (.ref a) d ∧ d.showable = true ∧ d.hasDict = false ∧ d.depth ≤ 20 ∧ d.shown.length ≤ sizeLine ∧ Q (.str d.shown) H
theorem call_repr (hg : X.A.guards = some []) (hr : Room k X.A) : CallR X (.builtin "repr") (rRepr X.K) := by
  intro pins s σ H xs us Q I r h
  obtain ⟨a, d, rfl, hd, h1, h2, h3, h4, q⟩ := h
  obtain ⟨u, rfl, r1⟩ := vals1 r
  obtain ⟨as, rd⟩ := Dp.reads I d _ u hd r1
  cases r1
  have hu := hr.units
  refine repr_of_reads' rd h1 (fun z => by rw [h2] at z; cases z) hg (by omega) (fun _ _ z => z) (fun h' u' tk kp => ?_) h4
  exact ⟨.str d.shown, H, I.kept kp, ⟨u', rfl⟩, q⟩
end
end Sq
namespace Sq
open PySem L2 PySem.Spec PyProof.Rows

section
variable {P : Program} {w : World} {K : PySem.W.Frag} {mg mb : Str → Option Value} {k : Nat} {fa a : Addr} {sp : Sp} {s1 : Shared} {vs : List Value} {ns : List Int}
/-- the law's own call, from such a promise of it, over one abstract heap -/
theorem end_core (KX : K.In s1.heap) (hns : s1.heap.Ns mainGlobals mg) (hb : s1.heap.Ns builtinsNs mb) (hbb : ∀ x : Str, x ≠ "__name__" → mb x = bootBuiltins x)
    (hlim : s1.heap.NoLimit) (hg : s1.gens = #[]) (ha : s1.heap.get? a = some { cls := .type "list", data := .seq vs.toArray }) (hr : Room k callerA)
    (F : ∀ base : Heap, K.In base → base.Ns mainGlobals mg → FnG P w K mg base k fa sp)
    (H : Hp) (hO : Only H) (hsp : sp [.ref a] H (fun v _ => v = .bl true) E0) (hok : HOk P w H s1.heap) (hA : ∀ b, H b ≠ none → b = a) (hK : H a ≠ none → K.lookup a = none) :
    codeAny (model P w) callerA (.call (.ref fa) ⟨[.ref a], []⟩) (fun r s' => r = .ok (.ret (.bool true)) ∧ OldK s1.heap s'.heap ∧ s'.os = s1.os ∧ AllBare s'.gens) s1 := by
  have free : ∀ {b : Addr} {o : Obj}, s1.heap.get? b = some o → o ≠ { cls := .type "list", data := .seq vs.toArray } → H b = none := by
    intro b o e n
    refine Classical.byContradiction fun q => n ?_
    have eb := hA b q
    rw [eb, ha] at e
    exact (Option.some.inj e).symm
  have ns1 : ∀ {b : Addr} {m : Str → Option Value}, s1.heap.Ns b m → (hidT s1.heap H).Ns b m := by
    rintro b m ⟨o, es, ep, e, d, r⟩
    refine ⟨o, es, ep, hidT_get e (free e fun q => ?_), d, r⟩
    rw [q] at d
    cases d
  have kin : K.In (hidT s1.heap H) := by
    intro b o e
    refine hidT_get (KX b o e) (Classical.byContradiction fun q => ?_)
    have eb := hA b q
    rw [eb] at e q
    rw [hK q] at e
    cases e
  have md : Mod K mg (hidT s1.heap H) := by
    obtain ⟨mc, h1, h2⟩ := hlim
    exact ⟨kin, ns1 hns, ⟨mb, ns1 hb, hbb⟩, ⟨mc, ns1 h1, h2⟩⟩
  have e0 : Env0 P w K mg (hidT s1.heap H) callerA [] s1 H :=
    { frames := rfl, mod := md, bs := fun b o e => of_hidT e, bsz := Nat.le_of_eq (hidT_size _ _), funs := trivial, frf := fun b hb => (by cases hb), hok := hok, bare := .of_eq hg }
  have run := F _ kin (ns1 hns) callerA [] s1 H [.ref a] [.ref a] (fun v _ => v = .bl true) rfl hr e0 (.cons rfl .nil) hsp
  refine codeAny_mono run fun r s' h => ?_
  match r, h with
  | .error _, h => exact False.elim h
  | .ok .next, h => exact False.elim h
  | .ok .brk, h => exact False.elim h
  | .ok .cont, h => exact False.elim h
  | .ok (.ret u), h =>
    obtain ⟨v, H', os, bare, un, hok', r', q⟩ := h
    cases (show v = .bl true from q)
    cases (show u = Value.bool true from r')
    refine ⟨rfl, OldK.of_keep fun b o e => ?_, os, bare⟩
    rcases hO b with z | ⟨ob, xs, z⟩
    · exact un.keep b o e z (fun q => by cases q) (fun q => by cases q)
    · have e1 := (hok b _ z).1
      have e2 := (hok' b _ (un.frzs b ob _ z)).1
      exact e2.trans (e1.symm.trans e)

theorem end_call (KX : K.In s1.heap) (hns : s1.heap.Ns mainGlobals mg) (hb : s1.heap.Ns builtinsNs mb) (hbb : ∀ x : Str, x ≠ "__name__" → mb x = bootBuiltins x)
    (hlim : s1.heap.NoLimit) (hg : s1.gens = #[]) (ha : s1.heap.get? a = some { cls := .type "list", data := .seq vs.toArray }) (hi : IntsAre vs ns) (hl : ns.length ≤ sizeLine)
    (hr : Room k callerA) (F : ∀ base : Heap, K.In base → base.Ns mainGlobals mg → FnG P w K mg base k fa sp)
    (hsp : ∀ H : Hp, Only H → SqL K H a (ns.map V.int) → sp [.ref a] H (fun v _ => v = .bl true) E0) :
    codeAny (model P w) callerA (.call (.ref fa) ⟨[.ref a], []⟩) (fun r s' => r = .ok (.ret (.bool true)) ∧ OldK s1.heap s'.heap ∧ s'.os = s1.os ∧ AllBare s'.gens) s1 := by
  have rv := vals_ints hi
  have ez : vs.toArray.size ≤ sizeLine := by
    rw [List.size_toArray, hi.length]
    exact hl
  by_cases hk : K.lookup a = none
  · let H : Hp := fun b => if b = a then some (.frz { cls := .type "list", data := .seq vs.toArray } (.lst (ns.map V.int))) else none
    have at_a : H a = some (.frz { cls := .type "list", data := .seq vs.toArray } (.lst (ns.map V.int))) := if_pos rfl
    have off : ∀ {b : Addr}, b ≠ a → H b = none := fun q => if_neg q
    have only : Only H := fun b => by
      by_cases q : b = a
      · exact .inr ⟨_, _, q ▸ at_a⟩
      · exact .inl (off q)
    refine end_core KX hns hb hbb hlim hg ha hr F H only (hsp H only (.inl (.inr ⟨_, at_a⟩))) (fun b u z => ?_) (fun b z => Classical.byContradiction fun q => z (off q)) fun _ => hk
    by_cases q : b = a
    · subst q
      cases at_a.symm.trans z
      exact ⟨ha, by rw [List.length_map]; exact hl, vs, _, rv, ha⟩
    · cases (off q).symm.trans z
  · obtain ⟨o, ho⟩ := Option.ne_none_iff_exists'.mp hk
    have e := (KX a o ho).symm.trans ha
    cases e
    refine end_core KX hns hb hbb hlim hg ha hr F (fun _ => none) (fun _ => .inl rfl) (hsp _ (fun _ => .inl rfl) (.inr ⟨_, vs.toArray, _, ho, rfl, rfl, rfl, ez, by simpa using rv⟩)) (fun b u z => by cases z) (fun b z => absurd rfl z) fun z => absurd rfl z
end

/-- the goal that k_head leaves, from such a promise of the law -/
theorem walkG {l : PySem.W.OpenLaw} {n k : Nat} {q : Program} {loose : List Str} {XP : (Str → Option Value) → Heap → Prop} {YP : World → Heap → Prop} {d : DefRec} {K : Params → PySem.W.Frag} {sp : PySem.W.Frag → Sp}
    (hn : l.most = some n) (hn2 : n ≤ sizeLine) (hdf : d.params.defaults = []) (hr : Room k callerA) (hY : ∀ (w : World) (h : Heap), YP w h → (K w.params).In h)
    (F : ∀ (w : World) (mg : Str → Option Value) (fa : Addr) (h : Heap), (K w.params).In h → h.Ns mainGlobals mg → mg d.name = some (.ref fa) →
      ∀ base : Heap, (K w.params).In base → base.Ns mainGlobals mg → FnG l.prog w (K w.params) mg base k fa (sp (K w.params)))
    (hsp : ∀ (K : PySem.W.Frag) (H : Hp) (a : Addr) (ns : List Int), ns.length ≤ n → Only H → SqL K H a (ns.map V.int) → sp K [.ref a] H (fun v _ => v = .bl true) E0) :
    PySem.W.WalkO q loose XP YP l.row.toRowW d [] (fun f vs => PySem.call f vs) := by
  refine Att.attach_call hn hdf ?_
  intro w s0 s1 mg mb fa o pm cd doc a vs ns G Y _ _ _ hmg hobj hints hlen hg
  have KX := hY w _ Y
  exact end_call KX G.T.g G.T.b G.T.builtins G.T.nolimit hg hobj hints (Nat.le_trans hlen hn2) hr (F w mg fa _ KX G.T.g hmg) fun H hO hS => hsp _ H a ns hlen hO hS
end Sq
namespace Sq
open PySem L2 PySem.Spec PyProof.Rows
section
variable {prog : Program} {w : World}
theorem meets_boolO (a : Addr) : MeetsIn prog w (Builtin.«bool.__new__» ⟨[.type "bool", .ref a], []⟩)
    (fun A R s => wpAny (model prog w) A.in1 (truthy (.ref a)) (fun b s1 => R (.ok (.ret (.bool b))) s1) (fun e s1 => R (.error e) s1) s) :=
  MeetsIn.of_wp fun A R s h => by
    have f1 := F.conv_sub_bool
    unfold Builtin.«bool.__new__»
    repeat (any_goals (first | assumption | (with_reducible refine wpAny_bind (wpAny_mono h (fun b s1 hb => ?_) fun _ _ z => z)) | wp_step))
    all_goals exact ⟨_, rfl, hb⟩
end
theorem rel1 (a : Addr) : Vals [V.ref a] [Value.ref a] := .cons rfl .nil
theorem rel2 (a b : Addr) : Vals [V.ref a, V.ref b] [Value.ref a, Value.ref b] := .cons rfl (.cons rfl .nil)
section
variable {X : Cx} {k : Nat} {f C : Addr} {sp : Sp}
/-- a def of the text run below the body -/
theorem run_below {A : Around} {pins : List (Addr × Obj)} {σ : L2.St} {H : Hp} {s : Shared} {Q : VK} {us : List Value} {vs : List V} {E : Value → Shared → Prop} (F : FnR X.prog X.w X.K X.mg X.base CX0 k f sp)
    (hr : Room k A) (fr : A.frames = X.A.frames) (I : Inv X pins σ H s) (r : Vals vs us) (h : sp vs H Q E0) :
    wpAny (model X.prog X.w) A (call (.ref f) us) (EP X pins σ Q) E s := by
  have e := I.env0
  have e1 : Env0 X.prog X.w X.K X.mg X.base A X.stack s H := { frames := fr.trans e.frames, mod := e.mod, bs := e.bs, bsz := e.bsz, funs := e.funs, frf := e.frf, hok := e.hok, bare := e.bare }
  refine wpAny_call (codeAny_mono (F A X.stack s H us vs Q E0 hr e1 r h) fun z s' hz => ?_)
  match z, hz with
  | .error _, hz => exact False.elim hz
  | .ok (.ret _), hz => exact I.after hz
  | .ok .next, hz => exact False.elim hz
  | .ok .brk, hz => exact False.elim hz
  | .ok .cont, hz => exact False.elim hz
/-- bool(o), o an instance of a class of the text that has a __bool__ -/
theorem call_boolO (hs : PySem.W.findIn X.K (.ref C) "__bool__" = some (some (.ref f))) (hf : PySem.W.isFn X.K (.ref f) = true) (F : FnR X.prog X.w X.K X.mg X.base CX0 k f sp) (hr : Room (k + 2) X.A) :
    CallR X (.type "bool") (fun xs H Q => ∃ a dx fs, xs = [.ref a] ∧ H a = some (.ins C dx fs) ∧ sp [.ref a] H (fun v H' => ∃ b, v = .bl b ∧ Q (.bl b) H') E0) := by
  intro pins s σ H xs us Q I r h
  obtain ⟨a, dx, fs, rfl, ha, q⟩ := h
  obtain ⟨u, rfl, r1⟩ := vals1 r
  cases r1
  obtain ⟨mA, J, _⟩ := ins_get I.hok ha
  obtain ⟨od, J, _⟩ := J.look
  obtain ⟨m, hF⟩ := I.fr
  refine callType_newIn PySem.F.called_bool PySem.F.newNe_bool (PySem.F.typeCall_bool_1 _) (PySem.F.newCall_bool_1 _) (fun obj => PySem.F.args_object_init_2 obj _) PySem.F.entry_bool_new (meets_boolO a) ?_
  show wpAny (model X.prog X.w) X.A.in1.in1 (truthy (.ref a)) _ _ s
  refine PySem.W.truthy_K hF I.ok.mod.kin J hs hf ?_
  refine wpAny_mono (run_below F hr.in1.in1 rfl I (rel1 a) q) (fun v s' hv => ?_) fun _ _ z => z
  obtain ⟨y, H', I', ry, b, ey, q'⟩ := hv
  subst ey
  cases ry
  exact ⟨PySem.typeIs_bool _ _, ⟨.bl b, H', I', rfl, q'⟩⟩

def rOwn2 (C : Addr) (sp : Sp) (g : Bool → Bool) : R2 := fun x y H Q => ∃ a b dx dy fs gs, x = .ref a ∧ y = .ref b ∧ H a = some (.ins C dx fs) ∧ H b = some (.ins C dy gs) ∧
  sp [.ref a, .ref b] H (fun v H' => ∃ r, v = .bl r ∧ Q (.bl (g r)) H') E0
/-- a == b, both instances of a class of the text with an __eq__ -/
theorem op_eqO (hs : PySem.W.findIn X.K (.ref C) "__eq__" = some (some (.ref f))) (hf : PySem.W.isFn X.K (.ref f) = true) (F : FnR X.prog X.w X.K X.mg X.base CX0 k f sp) (hr : Room k X.A) :
    OpR X (compareOp .Eq) (rOwn2 C sp id) := by
  intro pins s σ H x y v u Q I rx ry h
  obtain ⟨a, b, dx, dy, fs, gs, rfl, rfl, ha, hb, q⟩ := h
  cases rx
  cases ry
  obtain ⟨mA, J, _⟩ := ins_get I.hok ha
  obtain ⟨mB, J', _⟩ := ins_get I.hok hb
  obtain ⟨od, J, _⟩ := J.look
  obtain ⟨od', J', _⟩ := J'.look
  obtain ⟨m, hF⟩ := I.fr
  show wpAny (model X.prog X.w) X.A (richCompare .Eq (.ref a) (.ref b)) _ _ s
  refine PySem.W.cmp_K (op := .Eq) (tb := .ref C) hr.units0 hF I.ok.mod.kin J J'.type (by simp [PySem.W.notFirst]) hs hf ?_
  refine wpAny_mono (run_below F hr rfl I (rel2 a b) q) (fun v s' hv => ?_) fun _ _ z => z
  obtain ⟨y, H', I', ry, r, ey, q'⟩ := hv
  subst ey
  cases ry
  exact ⟨.bl r, H', I', rfl, q'⟩
end
section
variable {M : Model} {A : Around} {E : Value → Shared → Prop} {s : Shared} {K : PySem.W.Frag} {x C : Addr} {ox : Obj} {od : Option Obj}
/-- a method of object's own that a class of the text inherits -/
theorem ifBound_obj {name : Str} {id : String} {args : List Value} {Q : Option Value → Shared → Prop} (S : Slot "object" name id) (X : K.In s.heap) (I : PySem.W.InstAt s.heap x ox C od)
    (hs : PySem.W.findIn K (.ref C) name = some (some (.builtin id))) (h : wpAny M A (call (.builtin id) (.ref x :: args)) (fun v => Q (some v)) E s) :
    wpAny M A (callSpecialIfBound? (.ref x) name args) Q E s := by
  simp only [callSpecialIfBound?, bindSpecialIfBound?]
  refine wpAny_holding (wpAny_bind (wpAny_bind (wpAny_bind (I.type.here ((PySem.W.looks_findIn X hs).here ?_)))))
  simp only [S.bind]
  refine wpAny_bind (wpAny_askSetting (wpAny_ite ?_))
  have go : wpAny M A (call (.builtin id) ([.ref x] ++ args) >>= fun v => pure (some v)) Q E s := wpAny_bind (wpAny_mono h (fun _ _ q => wpAny_pure q) fun _ _ q => q)
  split
  · exact wpAny_bind (wpAny_pure (wpAny_pure go))
  · exact wpAny_tryCatch (wpAny_bind (wpAny_pure (wpAny_pure go)))
end
section
variable {prog : Program} {w : World} {A : Around} {E : Value → Shared → Prop} {s : Shared} {K : PySem.W.Frag} {x C : Addr} {ox : Obj} {od : Option Obj}
theorem checked_ne {y : Value} {Q : Unit → Shared → Prop} (X : K.In s.heap) (I : PySem.W.InstAt s.heap x ox C od) (ho : PySem.W.subIn K (.ref C) (.type "object") = some true) (h : Q () s) :
    wpAny (model prog w) A (checkBuiltinCall "object.__ne__" ⟨[.ref x, y], []⟩) Q E s := by
  simp only [checkBuiltinCall, F.cmpKind_ne, F.cmpSplit_ne]
  unfold isInstance
  refine wpAny_bind (wpAny_bind (I.type.here ((PySem.W.looks_subIn X ho).here ?_)))
  have z := F.cmpArgs_ne (.ref x) y
  cases hsig : Manifest.signature? "object.__ne__" with
  | none => exact wpAny_pure h
  | some sig =>
    simp only [argsOk, hsig] at z
    have z2 : Bind.checkArgs "object.__ne__" sig ⟨[.ref x, y], []⟩ = pure () := z
    show wpAny _ A (Bind.checkArgs "object.__ne__" sig ⟨[.ref x, y], []⟩) Q E s
    rw [z2]
    exact wpAny_pure h
theorem ne_entry {f : Addr} {y : Value} {Q : PySem.Fin → Shared → Prop} (hu : A.units < cLine) (X : K.In s.heap) (I : PySem.W.InstAt s.heap x ox C od) (hs : PySem.W.findIn K (.ref C) "__eq__" = some (some (.ref f)))
    (hf : PySem.W.isFn K (.ref f) = true) (h : wpAny (model prog w) A (call (.ref f) [.ref x, y]) (fun v s' => ∃ b, v = .bool b ∧ Q (.done (.ret (.bool (!b)))) s') E s) :
    wpAny (model prog w) A (Builtin.«object.__ne__» ⟨[.ref x, y], []⟩) Q E s := by
  unfold Builtin.«object.__ne__»
  repeat (first
    | with_reducible refine wpAny_cRoomFor hu ?_
    | (refine wpAny_bind (m := callSpecialIfBound? (.ref x) (Str.ofString "__eq__") [y])
        (PySem.W.ifBound_K X I hs hf (wpAny_mono h (fun r s' hr => by
          obtain ⟨b, rfl, hq⟩ := hr
          repeat (first | exact hq | exact wpAny_pure hq | (refine wpAny_bind (m := truthy (.bool _)) (wpAny_truthy_bool ?_)) | wp_step)) fun _ _ e => e)))
    | wp_step)
theorem rich_ne {f b : Addr} {Q : Value → Shared → Prop} (hu : A.units + 1 < cLine) (X : K.In s.heap) (I : PySem.W.InstAt s.heap x ox C od) (hb : PySem.W.Looks (model prog w) s.heap (typeOf (.ref b)) (.ref C))
    (hn : PySem.W.findIn K (.ref C) "__ne__" = some (some (.builtin "object.__ne__"))) (ho : PySem.W.subIn K (.ref C) (.type "object") = some true)
    (hs : PySem.W.findIn K (.ref C) "__eq__" = some (some (.ref f))) (hf : PySem.W.isFn K (.ref f) = true)
    (h : wpAny (model prog w) A.in1 (call (.ref f) [.ref x, .ref b]) (fun v s' => ∃ r, v = .bool r ∧ Q (.bool (!r)) s') E s) :
    wpAny (model prog w) A (richCompare .NotEq (.ref x) (.ref b)) Q E s := by
  have one : wpAny (model prog w) A (tryCompare (.ref x) "__ne__" (.ref b)) (fun r s' => ∃ z, r = some (.bool z) ∧ Q (.bool z) s') E s := by
    unfold tryCompare
    refine wpAny_bind (ifBound_obj F.cmp_object.ne X I hn (wpAny_call (codeAny_call_builtin F.cmp_object.ne.plain F.cmpEntry_ne (checked_ne X I ho (ne_entry (A := A.in1) hu X I hs hf (wpAny_mono h (fun v s' hv => ?_) fun _ _ z => z))))))
    obtain ⟨r, rfl, q⟩ := hv
    exact ⟨r, rfl, wpAny_pure ⟨_, rfl, q⟩⟩
  unfold richCompare
  simp only [PySem.oneThing_ref]
  refine wpAny_holding (wpAny_bind (wpAny_cRoomFor (Nat.lt_of_succ_lt hu) ?_))
  rw [cmpInfo_NotEq]
  dsimp only
  refine wpAny_bind (I.type.here (wpAny_bind (hb.here ?_)))
  rw [show (Value.ref C != Value.ref C) = false from by simp]
  simp only [Bool.false_eq_true, if_false]
  refine wpAny_bind (wpAny_pure ?_)
  simp only [Bool.false_eq_true, if_false]
  refine wpAny_bind (wpAny_mono one (fun r s' hz => ?_) fun _ _ z => z)
  obtain ⟨z, rfl, q⟩ := hz
  exact wpAny_pure q
end
section
variable {X : Cx} {k : Nat} {f C : Addr} {sp : Sp}
/-- a != b, by the text's __eq__ alone -/
theorem op_neO (hn : PySem.W.findIn X.K (.ref C) "__ne__" = some (some (.builtin "object.__ne__"))) (ho : PySem.W.subIn X.K (.ref C) (.type "object") = some true)
    (hs : PySem.W.findIn X.K (.ref C) "__eq__" = some (some (.ref f))) (hf : PySem.W.isFn X.K (.ref f) = true) (F : FnR X.prog X.w X.K X.mg X.base CX0 k f sp) (hr : Room (k + 1) X.A) :
    OpR X (compareOp .NotEq) (rOwn2 C sp (!·)) := by
  intro pins s σ H x y v u Q I rx ry h
  obtain ⟨a, b, dx, dy, fs, gs, rfl, rfl, ha, hb, q⟩ := h
  cases rx
  cases ry
  obtain ⟨mA, J, _⟩ := ins_get I.hok ha
  obtain ⟨mB, J', _⟩ := ins_get I.hok hb
  obtain ⟨od, J, _⟩ := J.look
  obtain ⟨od', J', _⟩ := J'.look
  show wpAny (model X.prog X.w) X.A (richCompare .NotEq (.ref a) (.ref b)) _ _ s
  refine rich_ne (hu_of hr) I.kIn J J'.type hn ho hs hf ?_
  refine wpAny_mono (run_below F hr.in1 rfl I (rel2 a b) q) (fun v s' hv => ?_) fun _ _ z => z
  obtain ⟨y, H', I', ry, r, ey, q'⟩ := hv
  subst ey
  cases ry
  exact ⟨r, rfl, .bl (!r), H', I', rfl, q'⟩
end
end Sq
namespace Sq
open PySem L2 PySem.Spec PyProof.Rows
/-- the built-ins that the text calls are still so -/
structure Bt (mg : Str → Option Value) : Prop where
  len : mg "len" = none
  int : mg "int" = none
  abs : mg "abs" = none
  divmod : mg "divmod" = none
  range : mg "range" = none
  isinstance : mg "isinstance" = none
  bool : mg "bool" = none
  tuple : mg "tuple" = none
  str : mg "str" = none
  list : mg "list" = none
  min : mg "min" = none
  max : mg "max" = none
  all : mg "all" = none
  any : mg "any" = none
  sum : mg "sum" = none
  sorted : mg "sorted" = none
  enumerate : mg "enumerate" = none
/-- a promise of a top function, with all that a call of it asks -/
structure FB (P : Program) (w : World) (K : PySem.W.Frag) (mg : Str → Option Value) (base : Heap) (x : Str) (k : Nat) (ps : List Str) (sp : Sp) : Prop where
  ex : ∃ (f : Addr) (fd : FuncData), FnOk P w K mg base CX0 k f fd ps sp ∧ mg x = some (.ref f) ∧ PySem.W.keepIn K (.ref f) = true ∧ Binds K fd ps []
section
variable {X : Cx} {j k : Nat} {x : Str} {p pos : Pos} {e : Expr} {es : List Expr} {t : TA} {ps : List Str} {sp : Sp}
theorem pe_fb (F : FB X.prog X.w X.K X.mg X.base x k ps sp) (hr : Room j X.A) (hk : k ≤ j) (hg : Gl X x) (ha : PA X (e :: es) t) (hdb : (x == ("__debug__" : Str)) = false := by decide)
    (he : starEach (e :: es) X.env = (false, eval e X.env) :: starEach es X.env := by rfl) (hpl : (backTo pos (starEach es X.env)).any (·.1) = false := by rfl) :
    PE X (.Call (.Name x p) (e :: es) [] pos) (tCall sp [] E0 t) := by
  obtain ⟨f, fd, G, hm, kk, b⟩ := F.ex
  exact pe_call G (hr.mono hk) hg hm kk b .nil pass0 ha hdb he hpl
theorem pe_fb0 (F : FB X.prog X.w X.K X.mg X.base x k ps sp) (hr : Room j X.A) (hk : k ≤ j) (hg : Gl X x) (hdb : (x == ("__debug__" : Str)) = false := by decide) :
    PE X (.Call (.Name x p) [] [] pos) (tCall sp [] E0 tNil) := by
  obtain ⟨f, fd, G, hm, kk, b⟩ := F.ex
  exact pe_call0 G (hr.mono hk) hg hm kk b .nil pass0 hdb
end
/-! ### list.count of truths -/
def rCntB (K : PySem.W.Frag) : V → List V → Hp → VK → Prop := fun x xs H Q => ∃ (p : Addr) (bs : List Bool) (k : Bool), x = .ref p ∧ xs = [.bl k] ∧ SqL K H p (bs.map V.bl) ∧ Q (.int (bs.count k : Nat)) H
theorem cnt_bools (k : Bool) : ∀ {bs : List Bool} {vs : List Value}, Vals (bs.map V.bl) vs → vs.countP (isBoolOf k) = bs.count k
  | [], _, h => by cases h; rfl
  | b :: r, _, h => by
    cases h with
    | cons r1 rr =>
      cases r1
      rw [List.countP_cons, List.count_cons, cnt_bools k rr]
      cases b <;> cases k <;> rfl
theorem eq_bools (k : Bool) : ∀ {bs : List Bool} {vs : List Value}, Vals (bs.map V.bl) vs → ∀ y, y ∈ vs → ∀ (A : Around) (s : Shared), PySem.SeqAt.EqAt A s y (.bool k) (isBoolOf k y)
  | [], _, h, y, hy, _, _ => by cases h; cases hy
  | b :: r, _, h, y, hy, A, s => by
    cases h with
    | cons r1 rr =>
      cases r1
      rcases List.mem_cons.mp hy with e | hy
      · rw [e]; exact PySem.SeqAt.EqAt.bool_bool b k
      · exact eq_bools k rr y hy A s
theorem mt_bcount {X : Cx} : MtR X "list.count" (rCntB X.K) := by
  intro pins s σ H x xs v us Q I rx rxs h
  obtain ⟨p, bs, k, rfl, rfl, hs, q⟩ := h
  cases rx
  obtain ⟨u, rfl, ru⟩ := rxs.one
  cases ru
  obtain ⟨its, rv, ⟨⟨cls, dd, data, sl⟩, n, ho, hc, hdn, hd⟩, hlen⟩ := I.list hs
  simp only at hc hd
  subst hc hd
  refine call_meets PySem.F.slot_list_count ⟨_, ho, rfl⟩ PySem.F.entry_list_count (PySem.F.args_list_count_2 _ _)
    (PySem.SeqAt.list_countAt p its.toArray n dd sl (.bool k) (isBoolOf k)) ⟨ho, fun y hy => eq_bools k rv y (by simpa using hy) _ _, ?_⟩
  refine ⟨.int (bs.count k : Nat), H, I.tok _, ⟨s.toks, ?_⟩, q⟩
  rw [show its.toArray.toList = its from rfl, cnt_bools k rv]
/-! ### the draws -/
/-- all but what stands at p is as it was -/
def Off (p : Addr) (H H' : Hp) : Prop := ∀ b o, b ≠ p → H b = some o → H' b = some o
theorem Off.trans {p : Addr} {H H1 H2 : Hp} (a : Off p H H1) (b : Off p H1 H2) : Off p H H2 := fun c o n h => b c o n (a c o n h)
theorem Same.off {p : Addr} {H H1 : Hp} (a : Same H H1) : Off p H H1 := fun c o _ h => a c o h
theorem Off.refl {p : Addr} {H : Hp} : Off p H H := fun _ _ _ h => h
theorem same_new {H : Hp} {p : Addr} {o : HO} (h : H p = none) : Same H (upd H p o) := fun b u e => by
  rw [upd_ne (ne_of_none e h)]
  exact e
def PurlAt (H : Hp) (p : Addr) : Prop := ∃ m d : Int, H p = some (.lst [.int m, .int d])
theorem PurlAt.same {H H' : Hp} {p : Addr} (h : PurlAt H p) (s : Same H H') : PurlAt H' p := by
  obtain ⟨m, d, e⟩ := h
  exact ⟨m, d, s _ _ e⟩
def spPurl (K : PySem.W.Frag) : Sp := fun vs H Q _ => ∃ (a : Addr) (ns : List Int) (k : Nat), vs = [.ref a, .int (k : Int)] ∧ SqL K H a (ns.map V.int) ∧ ns.length ≤ 63 ∧ k ≤ 63 ∧
  ∀ p H', H p = none → PurlAt H' p → Same H H' → Q (.ref p) H'
def spDig : Sp := fun vs H Q _ => ∃ (p : Addr) (k : Int), vs = [.ref p, .int k] ∧ PurlAt H p ∧ 0 < k ∧ k < 1073741824 ∧
  ∀ (r : Int) (H' : Hp), 0 ≤ r → r < k → PurlAt H' p → Off p H H' → Q (.int r) H'
def spFar : Sp := fun vs H Q _ => ∃ p : Addr, vs = [.ref p] ∧ PurlAt H p ∧
  ∀ (r : Int) (H' : Hp), 1 ≤ r → r ≤ 1000000000000000000000000000000 → PurlAt H' p → Off p H H' → Q (.int r) H'
theorem nx_seq {t u : TS} {D' : Ends} {rt : VK} {bk ct : L2.St → Hp → Prop} {σ : L2.St} {H : Hp} (h : t { D' with nx := u D' } σ H) : tNext ⟨tSeq t u D', rt, bk, ct⟩ σ H := h
theorem nx_one {t : TS} {D' : Ends} {rt : VK} {bk ct : L2.St → Hp → Prop} {σ : L2.St} {H : Hp} (h : t D' σ H) : tNext ⟨t D', rt, bk, ct⟩ σ H := h
theorem nm_seq {t u : TS} {D' : Ends} {rt : VK} {bk ct : L2.St → Hp → Prop} {σ : L2.St} {H : Hp} {i : Nat} {v : V} (h : t { D' with nx := u D' } (σ.set i (some v)) H) : gName i v σ H (Ends.nx ⟨tSeq t u D', rt, bk, ct⟩) := h
theorem nm_one {t : TS} {D' : Ends} {rt : VK} {bk ct : L2.St → Hp → Prop} {σ : L2.St} {H : Hp} {i : Nat} {v : V} (h : t D' (σ.set i (some v)) H) : gName i v σ H (Ends.nx ⟨t D', rt, bk, ct⟩) := h
theorem pr_seq {t u : TS} {D' : Ends} {rt : VK} {bk ct : L2.St → Hp → Prop} {σ : L2.St} {H : Hp} (h : t { D' with nx := u D' } σ H) : Ends.nx ⟨tSeq t u D', rt, bk, ct⟩ σ H := h
theorem pr_one {t : TS} {D' : Ends} {rt : VK} {bk ct : L2.St → Hp → Prop} {σ : L2.St} {H : Hp} (h : t D' σ H) : Ends.nx ⟨t D', rt, bk, ct⟩ σ H := h
theorem st_of {t : TS} {D : Ends} {σ : L2.St} {H : Hp} (J : L2.St → Hp → Prop) (h : ∀ D' : Ends, (∀ σ' H', J σ' H' → D'.nx σ' H') → t D' σ H) (k : ∀ σ' H', J σ' H' → D.nx σ' H') : t D σ H := h D k
theorem un65 {k : Nat} {A : Around} (h : Room k A) : A.units + 65 < cLine := by
  have := h.un
  omega
theorem gen_of {t : TE} {σ : L2.St} {H : Hp} {Q : VK} (J : V → Hp → Prop) (h : ∀ Q' : VK, (∀ v H', J v H' → Q' v H') → t σ H Q') (k : ∀ v H', J v H' → Q v H') : t σ H Q := h Q k
theorem un1 {k : Nat} {A : Around} (h : Room k A) : A.units + 1 < cLine := by
  have := h.un
  omega
theorem un3 {k : Nat} {A : Around} (h : Room k A) : A.units + 3 < cLine := by
  have := h.un
  omega
theorem nm_q {i : Nat} {v : V} {σ : L2.St} {H : Hp} {Q : L2.St → Hp → Prop} (h : Q (σ.set i (some v)) H) : gName i v σ H Q := h
theorem sq_ {t u : TS} {D : Ends} {σ : L2.St} {H : Hp} (h : t { D with nx := u D } σ H) : tSeq t u D σ H := h
theorem if_ {tc : TT} {t u : TS} {D : Ends} {σ : L2.St} {H : Hp} (h : tc σ H fun b H1 => if b = true then t D σ H1 else u D σ H1) : tIfS tc t u D σ H := h
theorem asg_ {te : TE} {g : TG} {D : Ends} {σ : L2.St} {H : Hp} (h : te σ H fun x H1 => g x σ H1 D.nx) : tAsg te g D σ H := h
theorem ret_ {te : TE} {D : Ends} {σ : L2.St} {H : Hp} (h : te σ H D.rt) : tRet te D σ H := h
theorem val_of {t : TE} {σ : L2.St} {H : Hp} {Q : VK} (v : V) (h : ∀ Q' : VK, Q' v H → t σ H Q') (k : Q v H) : t σ H Q := h Q k
theorem valS_of {t : TE} {σ : L2.St} {H : Hp} {Q : VK} (v : V) (h : ∀ Q' : VK, (∀ H', Same H H' → Q' v H') → t σ H Q') (k : ∀ H', Same H H' → Q v H') : t σ H Q := h Q k
theorem tst_of {t : TT} {σ : L2.St} {H : Hp} {Q : Bool → Hp → Prop} (b : Bool) (h : ∀ Q' : Bool → Hp → Prop, (∀ H', Same H H' → Q' b H') → t σ H Q') (k : ∀ H', Same H H' → Q b H') : t σ H Q := h Q k
theorem sp_eta (sp : Sp) : (fun vs H Q E => sp (vs ++ []) H Q E) = sp := by
  funext vs H Q E
  rw [List.append_nil]
theorem FnOk.asR {P : Program} {w : World} {K : PySem.W.Frag} {mg : Str → Option Value} {base : Heap} {CX : CXT} {k : Nat} {f : Addr} {fd : FuncData} {ps : List Str} {sp : Sp} (F : FnOk P w K mg base CX k f fd ps sp) (b : Binds K fd ps []) : FnR P w K mg base CX k f sp := by
  have z := FnOk.raw F b (dvs := []) .nil
  rw [sp_eta] at z
  exact z
def spRight : Sp := fun vs H Q _ => ∃ p : Addr, vs = [.ref p] ∧ PurlAt H p ∧ ∀ H', Off p H H' → Q (.bl true) H'
def spLaw (K : PySem.W.Frag) : Sp := fun vs H Q _ => ∃ (a : Addr) (ns : List Int), vs = [.ref a] ∧ SqL K H a (ns.map V.int) ∧ ns.length ≤ 63 ∧ ∀ H', Q (.bl true) H'
end Sq
namespace Sq
open PySem L2 TL
def top (i : Nat) : Stmt := PySem.Challenge.pw_squareloops_k24_sizes_and_cells_refused.main.body.getD i (.Pass ⟨0, 0, 0, 0⟩)
section
variable {P : Program} {w : World} {K : PySem.W.Frag} {mg : Str → Option Value} {base : Heap}
abbrev s__law_purl : Stmt := top 28
theorem sc__law_purl : FnScope ["_law_script", "_law_spot_here", "_law_mixed", "_law_cell", "_law_own"] ["_law_script", "_law_spot_here"] (defScope s__law_purl) := ⟨rfl, rfl, rfl, by decide +kernel, rfl, by decide +kernel, by decide +kernel⟩
theorem ok__law_purl {f : Addr} {fd : FuncData} (F : Fun K "_law_purl" "_law_purl" s__law_purl f fd) (T : Bt mg)  : FnOk P w K mg base CX0 1 f fd ["_law_script", "_law_spot_here"] (spPurl K) := by
  refine F.ok sc__law_purl (fun vs H Q E h => ?_) (fun cdv A outer s H vs Q E hr h => ?_)
  · obtain ⟨a, ns, k, rfl, _⟩ := h
    rfl
  · obtain ⟨a, ns, k, rfl, hS, hl, k1, q⟩ := h
    refine ⟨_, (pss_cons (ps_set (i := 2) sc__law_purl.nd rfl (by first | exact .inl rfl | exact .inr rfl) (pe_op op_add pe_int (pe_op op_mul pe_int (pv 1))))
        (pss_cons (ps_for PassesOwn.never rfl (pi_list (pe_op op_cat (pe_slice sl_list (pv 0) po_none (po_some pe_int)) (pe_slice sl_list (pv 0) (po_some (pv 1)) (po_some (pe_op op_add (pv 1) pe_int))))) (pg_name (i := 3) sc__law_purl.nd rfl (by first | exact .inl rfl | exact .inr rfl))
        (pss_one (ps_set (i := 2) sc__law_purl.nd rfl (by first | exact .inl rfl | exact .inr rfl) (pe_op op_mod (pe_callTy call_int1 (by rfl) T.int (by decide +kernel) (pa_cons (pe_op op_add (pe_op op_add (pe_op op_mul (pv 2) pe_int) (pv 3)) pe_int) pa_nil)) pe_int))))
        (pss_cons (ps_set (i := 4) sc__law_purl.nd rfl (by first | exact .inl rfl | exact .inr rfl) (pe_ifExp (pt_cmpR op_lt (pv 1) (pe_callB call_len_seq (by rfl) T.len PySem.boot_len (pa_cons (pv 0) pa_nil)) (nomark _)) (pe_ix ix_list (pv 0) (pv 1) (fun _ _ => rfl)) pe_int))
        (pss_one (ps_ret (pe_lst (pa_cons (pv 2) (pa_cons (pe_ifExp (pt_cmpR op_ge (pe_callB call_abs (by rfl) T.abs (by decide +kernel) (pa_cons (pv 4) pa_nil)) (pe_op op_pow pe_int pe_int) (nomark _)) (pe_callB call_abs (by rfl) T.abs (by decide +kernel) (pa_cons (pv 4) pa_nil)) pe_int) pa_nil)))))))), ?_⟩
    refine ⟨_, rfl, _, _, rfl, rfl, .inl ⟨by decide, by decide⟩, _, _, rfl, rfl, ?_⟩
    refine ⟨_, rfl, _, rfl, a, _, rfl, hS, fun p np => ?_⟩
    have s1 := same_new (o := .lst (cutV (ns.map V.int) none (some 2))) np
    refine ⟨_, rfl, _, rfl, _, rfl, _, rfl, _, _, rfl, rfl, _, rfl, a, _, rfl, hS.ext s1, fun p2 np2 => ?_⟩
    have s2 := same_new (o := .lst (cutV (ns.map V.int) (some (k : Int)) (some ((k : Int) + 1)))) np2
    refine ⟨p, p2, _, _, rfl, rfl, s2 _ _ upd_same, upd_same, ?_, fun p3 np3 => ?_⟩
    · have h1 := cutV_length (ns.map V.int) none (some 2)
      have h2 := cutV_length (ns.map V.int) (some (k : Int)) (some ((k : Int) + 1))
      rw [List.length_map] at h1 h2
      have h3 : (126 : Nat) ≤ sizeLine := by decide
      omega
    have s3 := same_new (o := .lst (cutV (ns.map V.int) none (some 2) ++ cutV (ns.map V.int) (some (k : Int)) (some ((k : Int) + 1)))) np3
    have sm := (s1.trans s2).trans s3
    have allI : ∀ x ∈ cutV (ns.map V.int) none (some 2) ++ cutV (ns.map V.int) (some (k : Int)) (some ((k : Int) + 1)), ∃ i, x = V.int i := fun x hx => by
      have h0 : x ∈ ns.map V.int := by
        rcases List.mem_append.mp hx with hx | hx
        · unfold cutV at hx
          exact List.mem_of_mem_drop (List.mem_of_mem_take hx)
        · unfold cutV at hx
          exact List.mem_of_mem_drop (List.mem_of_mem_take hx)
      obtain ⟨i, _, e⟩ := List.mem_map.mp h0
      exact ⟨i, e.symm⟩
    refine ⟨p3, rfl, ⟨_, SqL.of upd_same⟩, ?_⟩
    refine for_list (K := K) (a := p3) (xs := cutV (ns.map V.int) none (some 2) ++ cutV (ns.map V.int) (some (k : Int)) (some ((k : Int) + 1))) (fun _ σ H' => (∃ m v v2, σ = [some (.ref a), some (.int (k : Int)), some (.int m), v, v2]) ∧ Same H H' ∧ H' p3 = some (.lst (cutV (ns.map V.int) none (some 2) ++ cutV (ns.map V.int) (some (k : Int)) (some ((k : Int) + 1)))))
      ⟨⟨_, _, _, rfl⟩, sm, upd_same⟩ (fun i σ H' _ h => SqL.of h.2.2) (fun i x σ H' hx h => ?_) (fun σ H' h => ?_)
    · obtain ⟨⟨m, v, v2, rfl⟩, sh, hp3⟩ := h
      obtain ⟨z, rfl⟩ := allI x (List.mem_of_getElem? hx)
      refine ⟨_, rfl, _, _, rfl, rfl, .inr ⟨by decide, by decide⟩, _, rfl, _, _, rfl, rfl, _, _, rfl, rfl, .inl ⟨_, rfl, _, _, rfl, rfl, (by show (0 : Int) < 2147483629; decide), ?_⟩⟩
      exact ⟨⟨_, _, _, rfl⟩, sh, hp3⟩
    · obtain ⟨⟨m, v, v2, rfl⟩, sh, hp3⟩ := h
      have fin : ∀ n : Int, ∀ p, H' p = none → Q (.ref p) (upd H' p (.lst [.int m, .int n])) := fun n p np => q _ _ (by
        cases e : H p with
        | none => rfl
        | some o => rw [sh _ _ e] at np; cases np) ⟨m, n, upd_same⟩ (sh.trans (same_new np))
      have last : ∀ j : Int, (∃ i, V.int j = V.int i ∧ ∃ i' j', V.int (if i < 0 then -i else i) = V.int i' ∧ V.int ((10 : Int) ^ (18 : Int).toNat) = V.int j' ∧ True) := fun j => ⟨_, rfl, _, _, rfl, rfl, trivial⟩
      have own : ∀ j : Int, tLst (tCons (tVar 2) (tCons (tIf (tTest (tOp (rI0 fun i j => .bl (decide (j ≤ i))) (tCB (fun xs H Q => ∃ i, xs = [.int i] ∧ Q (.int (if i < 0 then -i else i)) H) (tCons (tVar 4) tNil)) (tOp (rI CPow fun i j => .int (i ^ j.toNat)) (tC (.int 10)) (tC (.int 18)))))
          (tCB (fun xs H Q => ∃ i, xs = [.int i] ∧ Q (.int (if i < 0 then -i else i)) H) (tCons (tVar 4) tNil)) (tC (.int 0))) tNil)) [some (.ref a), some (.int (k : Int)), some (.int m), v, some (.int j)] H' Q := fun j => by
        refine ⟨_, rfl, _, rfl, _, rfl, _, _, rfl, rfl, ⟨by decide, by decide, by decide⟩, _, _, rfl, rfl, _, rfl, ?_⟩
        refine ite2 (fun _ => ?_) (fun _ => ?_)
        · exact ⟨_, rfl, _, rfl, (by show 2 ≤ sizeLine; decide), fun p np => fin _ p np⟩
        · exact ⟨(by show 2 ≤ sizeLine; decide), fun p np => fin _ p np⟩
      refine ⟨_, rfl, _, rfl, a, _, rfl, .inl (hS.ext sh), _, _, rfl, rfl, _, rfl, ?_⟩
      rw [List.length_map]
      refine ite2 (fun hk => ?_) (fun hk => ?_)
      · have hlt : k < ns.length := Int.ofNat_lt.mp (of_decide_eq_true hk)
        refine ⟨_, rfl, _, rfl, a, _, _, _, rfl, rfl, hS.ext sh, atI_nat (by rw [List.getElem?_map, List.getElem?_eq_getElem hlt]; rfl), ?_⟩
        exact own _
      · exact own _
abbrev s__law_dig : Stmt := top 29
theorem sc__law_dig : FnScope ["_law_purl_here", "_law_many", "_law_digit"] ["_law_purl_here", "_law_many"] (defScope s__law_dig) := ⟨rfl, rfl, rfl, by decide +kernel, rfl, by decide +kernel, by decide +kernel⟩
theorem ok__law_dig {f : Addr} {fd : FuncData} (F : Fun K "_law_dig" "_law_dig" s__law_dig f fd) (T : Bt mg)  : FnOk P w K mg base CX0 1 f fd ["_law_purl_here", "_law_many"] spDig := by
  refine F.ok sc__law_dig (fun vs H Q E h => ?_) (fun cdv A outer s H vs Q E hr h => ?_)
  · obtain ⟨p, k, rfl, _⟩ := h
    rfl
  · obtain ⟨p, k, rfl, ⟨m, d, hp⟩, k0, k1, q⟩ := h
    refine ⟨_, (pss_cons (ps_if (pt_cmpR op_gt (pe_ix ix_list (pv 0) pe_int (fun _ _ => rfl)) pe_int (nomark _))
        (pss_cons (ps_asg (pe_callB call_divmod (by rfl) T.divmod (by decide +kernel) (pa_cons (pe_ix ix_list (pv 0) pe_int (fun _ _ => rfl)) (pa_cons (pv 1) pa_nil))) (pg_tup (by rfl) (pgs_cons (pg_sub (pv 0) pe_int set_list) (pgs_cons (pg_name (i := 2) sc__law_dig.nd rfl (by first | exact .inl rfl | exact .inr rfl)) pgs_nil))))
        (pss_one (ps_ret (pv 2))))
        pss_nil)
        (pss_cons (ps_asg (pe_op op_mod (pe_callTy call_int1 (by rfl) T.int (by decide +kernel) (pa_cons (pe_op op_add (pe_op op_mul (pe_ix ix_list (pv 0) pe_int (fun _ _ => rfl)) pe_int) pe_int) pa_nil)) pe_int) (pg_sub (pv 0) pe_int set_list))
        (pss_one (ps_ret (pe_op op_mod (pe_callTy call_int1 (by rfl) T.int (by decide +kernel) (pa_cons (pe_op op_fdiv (pe_ix ix_list (pv 0) pe_int (fun _ _ => rfl)) pe_int) pa_nil)) (pv 1)))))), ?_⟩
    refine ⟨_, rfl, p, _, 1, _, rfl, rfl, SqL.of hp, rfl, _, _, rfl, rfl, _, rfl, ?_⟩
    refine ite2 (fun hd => ?_) (fun hd => ?_)
    · refine ⟨_, rfl, p, _, 1, _, rfl, rfl, SqL.of hp, rfl, _, rfl, d, k, rfl, ⟨k0, k1⟩, fun t nt => ?_⟩
      have ntp : p ≠ t := fun e => by
        rw [← e, hp] at nt
        cases nt
      refine ⟨t, _, rfl, SqT.of upd_same, rfl, _, _, rfl, _, rfl, p, _, 1, 1, rfl, rfl, (by rw [upd_ne ntp]; exact hp), rfl, _, _, rfl, rfl, _, rfl, ?_⟩
      refine q _ _ (Int.emod_nonneg _ (by omega)) (Int.emod_lt_of_pos _ k0) ⟨_, _, upd_same⟩ fun b o hb e => ?_
      have nbt : b ≠ t := fun z => by
        rw [← z, e] at nt
        cases nt
      rw [upd_ne hb, upd_ne nbt]
      exact e
    · refine ⟨_, rfl, p, _, 0, _, rfl, rfl, SqL.of hp, rfl, _, _, rfl, rfl, .inr ⟨by decide, by decide⟩, _, _, rfl, rfl, .inl ⟨_, rfl, _, _, rfl, rfl, (by show (0 : Int) < 2147483629; decide), ?_⟩⟩
      refine ⟨_, rfl, p, _, 0, 0, rfl, rfl, hp, rfl, ?_⟩
      refine ⟨_, rfl, p, _, 0, _, rfl, rfl, SqL.of upd_same, rfl, _, _, rfl, rfl, ⟨by decide, by decide⟩, .inl ⟨_, rfl, _, rfl, _, _, rfl, rfl, k0, ?_⟩⟩
      exact q _ _ (Int.emod_nonneg _ (by omega)) (Int.emod_lt_of_pos _ k0) ⟨_, _, upd_same⟩ fun b o hb e => by rw [upd_ne hb]; exact e
abbrev s__law_far : Stmt := top 30
theorem sc__law_far : FnScope ["_law_purl_here", "_law_figures", "_law_found", "_law_k"] ["_law_purl_here"] (defScope s__law_far) := ⟨rfl, rfl, rfl, by decide +kernel, rfl, by decide +kernel, by decide +kernel⟩
theorem ok__law_far {f : Addr} {fd : FuncData} (F : Fun K "_law_far" "_law_far" s__law_far f fd) (T : Bt mg) (G__law_dig : FB P w K mg base "_law_dig" 1 ["_law_purl_here", "_law_many"] spDig) : FnOk P w K mg base CX0 2 f fd ["_law_purl_here"] spFar := by
  refine F.ok sc__law_far (fun vs H Q E h => ?_) (fun cdv A outer s H vs Q E hr h => ?_)
  · obtain ⟨p, rfl, _⟩ := h
    rfl
  · obtain ⟨p, rfl, hp, q⟩ := h
    refine ⟨_, (pss_cons (ps_if (pt_cmpR op_eq (pe_fb G__law_dig hr (by decide) (by rfl) (pa_cons (pv 0) (pa_cons pe_int pa_nil))) pe_int (nomark _))
        (pss_one (ps_ret (pe_op op_add pe_int (pe_fb G__law_dig hr (by decide) (by rfl) (pa_cons (pv 0) (pa_cons pe_int pa_nil))))))
        pss_nil)
        (pss_cons (ps_par (i := 1) (j := 2) (by rfl) sc__law_far.nd rfl rfl (by decide) rfl rfl (pa_cons (pe_op op_add pe_int (pe_fb G__law_dig hr (by decide) (by rfl) (pa_cons (pv 0) (pa_cons pe_int pa_nil)))) (pa_cons pe_int pa_nil)) (by rfl))
        (pss_cons (ps_for PassesOwn.never rfl (pi_range1 (by rfl) T.range (pa_cons (pv 1) pa_nil)) (pg_name (i := 3) sc__law_far.nd rfl (by first | exact .inl rfl | exact .inr rfl))
        (pss_one (ps_set (i := 2) sc__law_far.nd rfl (by first | exact .inl rfl | exact .inr rfl) (pe_op op_add (pe_op op_mul (pv 2) pe_int) (pe_fb G__law_dig hr (by decide) (by rfl) (pa_cons (pv 0) (pa_cons pe_int pa_nil)))))))
        (pss_one (ps_ret (pe_op op_add pe_int (pe_op op_mod (pe_callTy call_int1 (by rfl) T.int (by decide +kernel) (pa_cons (pv 2) pa_nil)) (pe_op op_pow pe_int pe_int)))))))), ?_⟩
    refine ⟨_, rfl, p, 3, rfl, hp, by decide, by decide, fun r H1 r0 r1 hp1 o1 => ?_⟩
    refine ⟨rfl, _, rfl, ?_⟩
    refine ite2 (fun _ => ?_) (fun _ => ?_)
    · refine ⟨_, rfl, p, 13, rfl, hp1, by decide, by decide, fun r2 H2 r20 r21 hp2 o2 => ?_⟩
      refine ⟨_, _, rfl, rfl, ?_⟩
      exact q _ _ (by omega) (by omega) hp2 (o1.trans o2)
    · refine ⟨_, rfl, p, 29, rfl, hp1, by decide, by decide, fun r2 H2 r20 r21 hp2 o2 => ?_⟩
      refine ⟨_, _, rfl, rfl, _, _, rfl, ?_⟩
      have ez : (2 + r2).toNat ≤ 30 := by omega
      refine ⟨_, rfl, _, rfl, (by omega), (by omega), ?_⟩
      refine for_range (n := (2 + r2).toNat) (fun _ σ H' => (∃ m v, σ = [some (.ref p), some (.int (2 + r2)), some (.int m), v]) ∧ PurlAt H' p ∧ Off p H H') ⟨⟨_, _, rfl⟩, hp2, o1.trans o2⟩ (fun i σ H' _ h => ?_) (fun σ H' h => ?_)
      · obtain ⟨⟨m, v, rfl⟩, hq, off⟩ := h
        refine ⟨_, rfl, _, _, rfl, rfl, .inr ⟨by decide, by decide⟩, ?_⟩
        refine ⟨_, rfl, p, 10, rfl, hq, by decide, by decide, fun r3 H3 _ _ hp3 o3 => ?_⟩
        refine ⟨_, _, rfl, rfl, ?_⟩
        exact ⟨⟨_, _, rfl⟩, hp3, off.trans o3⟩
      · obtain ⟨⟨m, v, rfl⟩, hq, off⟩ := h
        refine ⟨_, rfl, .inl ⟨_, rfl, _, _, rfl, rfl, ⟨by decide, by decide, by decide⟩, ?_⟩⟩
        have e30 : ((10 : Int) ^ (30 : Int).toNat) = 1000000000000000000000000000000 := by decide
        refine ⟨_, (1000000000000000000000000000000 : Int), rfl, congrArg V.int e30, (by show (0 : Int) < 1000000000000000000000000000000; decide), _, _, rfl, rfl, ?_⟩
        have h1 := Int.emod_nonneg m (show (1000000000000000000000000000000 : Int) ≠ 0 by decide)
        have h2 := Int.emod_lt_of_pos m (show (0 : Int) < 1000000000000000000000000000000 by decide)
        exact q _ _ (by omega) (by omega) hq off
end
end Sq
namespace Sq
open PySem L2
/-! ### numbers of orbits -/
def big : Int := 1000000000000000000000000000000
def leastN (a b c : Int) : Int := 2 * a + 2 * b + c + 1
def waysN (p : Nat) (t : Int) : Int := if p = 0 then (if t = 0 then 1 else 0) else if p = 1 then 1 else if p = 2 then t + 1 else (t + 1) * (t + 2) / 2
def openN (a b : Int) : Nat := [decide (a = 1), decide (b = 2)].count true
def grpN (n a b c : Int) : Int := if n - leastN a b c < 0 then 0 else if c = 3 then waysN (openN a b + 1) ((n - leastN a b c) / 2) else if (n - leastN a b c) % 2 = 0 then waysN (openN a b) ((n - leastN a b c) / 2) else 0
def imgN (b c : Int) : Int := if b = 0 ∧ c = 0 then 1 else if b = 0 ∨ c = 0 then 4 else 8
def cntN (n a b c : Int) : Int := grpN n a b c * imgN b c
theorem openN_le (a b : Int) : openN a b ≤ 2 := by
  unfold openN
  exact Nat.le_trans List.count_le_length (by simp)
/-! ### what the functions promise -/
def spWhole : Sp := fun vs H Q _ => ∃ n : Int, vs = [.int n] ∧ Q (.bl true) H
def spWithin : Sp := fun vs H Q _ => ∃ n a b : Int, vs = [.int n, .int a, .int b] ∧ Q (.bl (decide (a ≤ n) && decide (n ≤ b))) H
def spSize : Sp := fun vs H Q _ => ∃ n : Int, vs = [.int n] ∧ 1 ≤ n ∧ n ≤ big ∧ Q .non H
def KindAt (H : Hp) (t : Addr) (a b c : Int) : Prop := H t = some (.tup [.int a, .int b, .int c])
def KindR (a b c : Int) : Prop := (0 ≤ a ∧ a ≤ 1) ∧ (0 ≤ b ∧ b ≤ 2) ∧ (0 ≤ c ∧ c ≤ 3)
def spIsKind : Sp := fun vs H Q _ => ∃ (t : Addr) (a b c : Int), vs = [.ref t] ∧ KindAt H t a b c ∧ KindR a b c ∧ Q (.bl true) H
def spLeast : Sp := fun vs H Q _ => ∃ (t : Addr) (a b c : Int), vs = [.ref t] ∧ KindAt H t a b c ∧ Q (.int (leastN a b c)) H
def spImgN : Sp := fun vs H Q _ => ∃ (t : Addr) (a b c : Int), vs = [.ref t] ∧ KindAt H t a b c ∧ Q (.int (imgN b c)) H
def spWays : Sp := fun vs H Q _ => ∃ (p : Nat) (t : Int), vs = [.int (p : Int), .int t] ∧ 0 ≤ t ∧ t ≤ big ∧ Q (.int (waysN p t)) H
def spGroup : Sp := fun vs H Q _ => ∃ (n : Int) (t : Addr) (a b c : Int), vs = [.int n, .ref t] ∧ KindAt H t a b c ∧ KindR a b c ∧ n ≤ big ∧ ∀ H', Same H H' → Q (.int (grpN n a b c)) H'
def spCount : Sp := fun vs H Q _ => ∃ (n : Int) (t : Addr) (a b c : Int), vs = [.int n, .ref t] ∧ KindAt H t a b c ∧ KindR a b c ∧ 1 ≤ n ∧ n ≤ big ∧ ∀ H', Same H H' → Q (.int (cntN n a b c)) H'
end Sq
namespace Sq
open PySem L2 PySem.Spec PyProof.Rows
/-! ### x is not True, x is not False -/
def plainV : V → Bool
  | .int _ => true
  | .str _ => true
  | .non => true
  | .bl _ => true
  | .ref _ => true
  | _ => false
def rNotTF : R2 := fun x y H Q => ∃ b, y = .bl b ∧ plainV x = true ∧ Q (.bl (!decide (x = .bl b))) H
theorem op_notTF {X : Cx} : OpR X (compareOp .IsNot) rNotTF := by
  intro pins s σ H x y v u Q I rx ry h
  obtain ⟨b, rfl, pv, q⟩ := h
  cases (show u = Value.bool b from ry)
  cases x with
  | int n =>
    obtain ⟨t, rfl⟩ := rx
    exact wpAny_isNot_other rfl (fun z => nomatch z) ⟨.bl true, H, I, rfl, by simpa using q⟩
  | str n =>
    obtain ⟨t, rfl⟩ := rx
    exact wpAny_isNot_other rfl (fun z => nomatch z) ⟨.bl true, H, I, rfl, by simpa using q⟩
  | non =>
    cases rx
    exact wpAny_isNot_other rfl (fun z => nomatch z) ⟨.bl true, H, I, rfl, by simpa using q⟩
  | ref a =>
    cases rx
    exact wpAny_isNot_other rfl (fun z => nomatch z) ⟨.bl true, H, I, rfl, by simpa using q⟩
  | bl a =>
    cases (show v = Value.bool a from rx)
    by_cases e : a = b
    · subst e
      exact wpAny_isNot_self rfl ⟨.bl false, H, I, rfl, by simpa using q⟩
    · exact wpAny_isNot_other rfl (fun z => e (Value.bool.inj z)) ⟨.bl true, H, I, rfl, by simpa [e] using q⟩
  | _ => cases pv
end Sq
namespace Sq
open PySem L2
abbrev Cell := Int × Int
def lexlt (a b : Cell) : Prop := a.1 < b.1 ∨ (a.1 = b.1 ∧ a.2 < b.2)
def lexle (a b : Cell) : Prop := a.1 < b.1 ∨ (a.1 = b.1 ∧ a.2 ≤ b.2)
def cells8 (n r c : Int) : List Cell := [(r, c), (c, r), (r, n - 1 - c), (n - 1 - c, r), (n - 1 - r, c), (c, n - 1 - r), (n - 1 - r, n - 1 - c), (n - 1 - c, n - 1 - r)]
def InN (n : Int) (q : Cell) : Prop := (0 ≤ q.1 ∧ q.1 < n) ∧ (0 ≤ q.2 ∧ q.2 < n)
theorem cells8_in {n r c : Int} (h : InN n (r, c)) : ∀ q ∈ cells8 n r c, InN n q := by
  obtain ⟨⟨h1, h2⟩, h3, h4⟩ := h
  simp only at h1 h2 h3 h4
  intro q hq
  unfold cells8 at hq
  simp only [List.mem_cons, List.not_mem_nil, or_false] at hq
  rcases hq with rfl | rfl | rfl | rfl | rfl | rfl | rfl | rfl <;> exact ⟨⟨by simp only; omega, by simp only; omega⟩, by simp only; omega, by simp only; omega⟩
/-- the cells L stand at their places -/
def PL (H : Hp) (L : List (Addr × Cell)) : Prop := ∀ q ∈ L, H q.1 = some (.tup [.int q.2.1, .int q.2.2])
def refs (L : List (Addr × Cell)) : List V := L.map fun q => V.ref q.1
theorem PL.same {H H' : Hp} {L : List (Addr × Cell)} (h : PL H L) (s : Same H H') : PL H' L := fun q hq => s _ _ (h q hq)
theorem perm_refs : ∀ {ys xs : List V}, ys.Perm xs → ∀ L, xs = refs L → ∃ L', L'.Perm L ∧ ys = refs L' := by
  intro ys xs h
  induction h with
  | nil => exact fun L e => ⟨L, .refl _, e⟩
  | @cons x l1 l2 p ih =>
    intro L e
    match L, e with
    | q :: L, e =>
      obtain ⟨e1, e2⟩ := List.cons.inj e
      obtain ⟨L', p', e'⟩ := ih L e2
      exact ⟨q :: L', p'.cons q, by rw [e1, e']; rfl⟩
  | swap x y l =>
    intro L e
    match L, e with
    | q :: r :: L, e =>
      obtain ⟨e1, e2⟩ := List.cons.inj e
      obtain ⟨e3, e4⟩ := List.cons.inj e2
      exact ⟨r :: q :: L, .swap _ _ _, by rw [e1, e3, e4]; rfl⟩
  | trans p1 p2 i1 i2 =>
    intro L e
    obtain ⟨L1, q1, e1⟩ := i2 L e
    obtain ⟨L2, q2, e2⟩ := i1 L1 e1
    exact ⟨L2, q2.trans q1, e2⟩
theorem code_lex {B : Int} {a b : Cell} (ha : InN B a) (hb : InN B b) (h : TS.code B [a.1, a.2] ≤ TS.code B [b.1, b.2]) : lexle a b := by
  have e : ∀ q : Cell, TS.code B [q.1, q.2] = q.1 * B + q.2 := fun q => by
    show q.1 * B ^ 1 + (q.2 * B ^ 0 + 0) = _
    rw [Int.pow_succ, Int.pow_zero, Int.one_mul, Int.mul_one, Int.add_zero]
  rw [e a, e b] at h
  obtain ⟨⟨_, _⟩, a3, a4⟩ := ha
  obtain ⟨⟨_, _⟩, b3, b4⟩ := hb
  unfold lexle
  by_cases h1 : a.1 < b.1
  · exact .inl h1
  by_cases h2 : a.1 = b.1
  · rw [h2] at h
    exact .inr ⟨h2, by omega⟩
  exfalso
  have h3 : b.1 + 1 ≤ a.1 := by omega
  have h4 := Int.mul_le_mul_of_nonneg_right h3 (show 0 ≤ B by omega)
  rw [Int.add_mul, Int.one_mul] at h4
  omega
theorem lexlt_of {a b : Cell} (h : lexle a b) (n : a ≠ b) : lexlt a b := by
  rcases h with h | ⟨h1, h2⟩
  · exact .inl h
  · refine .inr ⟨h1, ?_⟩
    by_cases e : a.2 = b.2
    · exact absurd (Prod.ext h1 e) n
    · omega
theorem tupD {K : PySem.W.Frag} {H : Hp} {t : Addr} {i j : Int} (h : H t = some (.tup [.int i, .int j])) : Dp K H (.ref t) (.tuple [.int i, .int j]) := .tup (SqT.of h) (.cons (.int _) (.cons (.int _) .nil))
def cellD (q : Cell) : PyData := .tuple [.int q.1, .int q.2]
theorem listD {K : PySem.W.Frag} {H : Hp} : ∀ {L : List (Addr × Cell)}, PL H L → DpAll K H (refs L) (L.map fun q => cellD q.2)
  | [], _ => .nil
  | q :: L, h => .cons (tupD (h q (List.mem_cons_self ..))) (listD fun x hx => h x (List.mem_cons_of_mem _ hx))
theorem cell_eqv (a b : Cell) : PyData.eqv (cellD a) (cellD b) = decide (a = b) := by
  have e : PyData.eqv (cellD a) (cellD b) = ((a.1 == b.1) && ((a.2 == b.2) && true)) := rfl
  rw [e, Bool.and_true, Bool.eq_iff_iff]
  simp [Prod.ext_iff]
theorem cell_shaped (a : Cell) : PySem.SeqAt.shaped (cellD a) = true := rfl
theorem any_cell (L : List (Addr × Cell)) (a : Cell) : ((L.map fun q => cellD q.2).any fun z => PyData.eqv z (cellD a)) = decide (a ∈ L.map (·.2)) := by
  rw [Bool.eq_iff_iff, List.any_map, List.any_eq_true, decide_eq_true_eq, List.mem_map]
  constructor
  · rintro ⟨q, hq, e⟩
    refine ⟨q, hq, ?_⟩
    have e : PyData.eqv (cellD q.2) (cellD a) = true := e
    rw [cell_eqv] at e
    exact of_decide_eq_true e
  · rintro ⟨q, hq, e⟩
    refine ⟨q, hq, ?_⟩
    show PyData.eqv (cellD q.2) (cellD a) = true
    rw [cell_eqv]
    exact decide_eq_true e
theorem layAll_of : ∀ {ds : List PyData}, (∀ d ∈ ds, d.canLay0 = true ∧ d.depth ≤ 60) → PyData.canLayAll0 ds = true ∧ PyData.depthAll ds ≤ 60
  | [], _ => ⟨by simp [PyData.canLayAll0], by simp [PyData.depthAll]⟩
  | d :: ds, h => by
    obtain ⟨h1, h2⟩ := h d (List.mem_cons_self ..)
    obtain ⟨h3, h4⟩ := layAll_of fun x hx => h x (List.mem_cons_of_mem _ hx)
    refine ⟨by simp [PyData.canLayAll0, h1, h3], ?_⟩
    simp only [PyData.depthAll]
    omega
theorem shaped_lst {ds : List PyData} (h : ∀ d ∈ ds, d.canLay0 = true ∧ d.depth ≤ 60) : PySem.SeqAt.shaped (.list ds) = true := by
  obtain ⟨h1, h2⟩ := layAll_of h
  show (PyData.canLay0 (.list ds) && decide (PyData.depth (.list ds) ≤ 64)) = true
  rw [Bool.and_eq_true]
  refine ⟨by simp only [PyData.canLay0]; exact h1, decide_eq_true ?_⟩
  simp only [PyData.depth]
  omega
theorem shaped_tup {ds : List PyData} (h : ∀ d ∈ ds, d.canLay0 = true ∧ d.depth ≤ 60) : PySem.SeqAt.shaped (.tuple ds) = true := by
  obtain ⟨h1, h2⟩ := layAll_of h
  show (PyData.canLay0 (.tuple ds) && decide (PyData.depth (.tuple ds) ≤ 64)) = true
  rw [Bool.and_eq_true]
  refine ⟨by simp only [PyData.canLay0]; exact h1, decide_eq_true ?_⟩
  simp only [PyData.depth]
  omega
theorem cell_lay (q : Cell) : (cellD q).canLay0 = true ∧ (cellD q).depth ≤ 60 := by
  refine ⟨by simp [cellD, PyData.canLay0, PyData.canLayAll0], ?_⟩
  simp [cellD, PyData.depth, PyData.depthAll]
theorem cells_lay (L : List (Addr × Cell)) : ∀ d ∈ L.map (fun q => cellD q.2), d.canLay0 = true ∧ d.depth ≤ 60 := fun d hd => by
  obtain ⟨q, _, rfl⟩ := List.mem_map.mp hd
  exact cell_lay _
/-! ### the kind of a cell -/
def srt (l : List Int) : List Int := l.mergeSort fun x y => decide (x ≤ y)
theorem srt_of {a b : List Int} (h : a.Perm b) (s : a.Pairwise (· ≤ ·)) : a = srt b := PySem.W.os_sorted_mergeSort h s
theorem srt_perm (l : List Int) : (srt l).Perm l := List.mergeSort_perm _ _
theorem srt_le (l : List Int) : (srt l).Pairwise (· ≤ ·) := by
  have hs := List.pairwise_mergeSort (le := fun x y : Int => decide (x ≤ y)) (by intro x y z hxy hyz; simp only [decide_eq_true_eq] at *; omega) (by intro x y; simp only [Bool.or_eq_true, decide_eq_true_eq]; omega) l
  simpa [srt] using hs
theorem srt_congr {a b : List Int} (h : a.Perm b) : srt a = srt b := srt_of ((srt_perm a).trans h) (srt_le a)
theorem srt_add (l : List Int) (d : Int) : srt (l.map (· + d)) = (srt l).map (· + d) := by
  refine (srt_of ((srt_perm l).map _) ?_).symm
  rw [List.pairwise_map]
  exact (srt_le l).imp fun h => by omega
def nums (n r c : Int) : List Int := [r, c, n - 1 - r, n - 1 - c]
theorem four_of (n r c : Int) : ∃ x y z w, srt (nums n r c) = [x, y, z, w] := by
  have h : (srt (nums n r c)).length = 4 := by rw [(srt_perm _).length_eq]; rfl
  match srt (nums n r c), h with
  | [x, y, z, w], _ => exact ⟨x, y, z, w, rfl⟩
def mn (a m : Int) : Int := if m < a then m else a
def kindL : List Int → Int × Int × Int
  | [x, y, z, _] => (mn x 1, mn (y - x) 2, mn (z - y) 3)
  | _ => (0, 0, 0)
def kindN (n r c : Int) : Int × Int × Int := kindL (srt (nums n r c))
theorem kind_img {n r c : Int} : ∀ q ∈ cells8 n r c, kindN n q.1 q.2 = kindN n r c := by
  intro q hq
  unfold cells8 at hq
  simp only [List.mem_cons, List.not_mem_nil, or_false] at hq
  have e : ∀ x : Int, n - 1 - (n - 1 - x) = x := fun x => by omega
  unfold kindN
  refine congrArg kindL (srt_congr ?_)
  unfold nums
  have sw : ∀ (a b c d : Int), [b, a, d, c].Perm [a, b, c, d] := fun a b c d => (List.Perm.swap _ _ _).trans (((List.Perm.swap _ _ _).cons _).cons _)
  have s1 : ∀ (a b c d : Int), [a, d, c, b].Perm [a, b, c, d] := fun a b c d => by
    refine .cons _ ?_
    exact (List.Perm.swap _ _ _).trans (((List.Perm.swap _ _ _).cons _).trans (List.Perm.swap _ _ _))
  have s2 : ∀ (a b c d : Int), [c, b, a, d].Perm [a, b, c, d] := fun a b c d => (sw _ _ _ _).symm.trans ((s1 _ _ _ _).trans (sw _ _ _ _))
  rcases hq with rfl | rfl | rfl | rfl | rfl | rfl | rfl | rfl <;> simp only [e]
  · exact .refl _
  · exact sw _ _ _ _
  · exact s1 _ _ _ _
  · exact (sw _ _ _ _).trans (s1 _ _ _ _)
  · exact s2 _ _ _ _
  · exact (sw _ _ _ _).trans (s2 _ _ _ _)
  · exact (s1 _ _ _ _).trans (s2 _ _ _ _)
  · exact (sw _ _ _ _).trans ((s1 _ _ _ _).trans (s2 _ _ _ _))
theorem kind_ring {n r c : Int} (h : InN n (r, c)) : kindN (n + 2) (r + 1) (c + 1) = (1, (kindN n r c).2.1, (kindN n r c).2.2) := by
  have e : nums (n + 2) (r + 1) (c + 1) = (nums n r c).map (· + 1) := by
    show [r + 1, c + 1, n + 2 - 1 - (r + 1), n + 2 - 1 - (c + 1)] = [r + 1, c + 1, n - 1 - r + 1, n - 1 - c + 1]
    have e1 : ∀ x : Int, n + 2 - 1 - (x + 1) = n - 1 - x + 1 := fun x => by omega
    rw [e1, e1]
  unfold kindN
  rw [e, srt_add]
  obtain ⟨x, y, z, w, e4⟩ := four_of n r c
  have hx : 0 ≤ x := by
    have m : x ∈ nums n r c := (srt_perm (nums n r c)).mem_iff.mp (by rw [e4]; exact List.mem_cons_self ..)
    obtain ⟨⟨h1, h2⟩, h3, h4⟩ := h
    simp only at h1 h2 h3 h4
    unfold nums at m
    simp only [List.mem_cons, List.not_mem_nil, or_false] at m
    omega
  rw [e4]
  show (mn (x + 1) 1, mn (y + 1 - (x + 1)) 2, mn (z + 1 - (y + 1)) 3) = (1, mn (y - x) 2, mn (z - y) 3)
  have e1 : y + 1 - (x + 1) = y - x := by omega
  have e2 : z + 1 - (y + 1) = z - y := by omega
  have e3 : mn (x + 1) 1 = 1 := by
    unfold mn
    split <;> omega
  rw [e1, e2, e3]
def triD (k : Int × Int × Int) : PyData := .tuple [.int k.1, .int k.2.1, .int k.2.2]
theorem tri_eqv (a b : Int × Int × Int) : PyData.eqv (triD a) (triD b) = decide (a = b) := by
  have e : PyData.eqv (triD a) (triD b) = ((a.1 == b.1) && ((a.2.1 == b.2.1) && ((a.2.2 == b.2.2) && true))) := rfl
  rw [e, Bool.and_true, Bool.eq_iff_iff]
  simp [Prod.ext_iff]
theorem tri_lay (k : Int × Int × Int) : (triD k).canLay0 = true ∧ (triD k).depth ≤ 60 := by
  refine ⟨by simp [triD, PyData.canLay0, PyData.canLayAll0], ?_⟩
  simp [triD, PyData.depth, PyData.depthAll]
theorem tri_shaped (k : Int × Int × Int) : PySem.SeqAt.shaped (triD k) = true := rfl
theorem triDp {K : PySem.W.Frag} {H : Hp} {t : Addr} {k : Int × Int × Int} (h : H t = some (.tup [.int k.1, .int k.2.1, .int k.2.2])) : Dp K H (.ref t) (triD k) := .tup (SqT.of h) (.cons (.int _) (.cons (.int _) (.cons (.int _) .nil)))
/-! ### promises -/
def spCell : Sp := fun vs H Q _ => ∃ (n : Int) (t : Addr) (q : Cell), vs = [.int n, .ref t] ∧ H t = some (.tup [.int q.1, .int q.2]) ∧ InN n q ∧ ∀ H', Same H H' → Q (.bl true) H'
def spCellOk : Sp := fun vs H Q _ => ∃ (n : Int) (t : Addr) (q : Cell), vs = [.int n, .ref t] ∧ H t = some (.tup [.int q.1, .int q.2]) ∧ InN n q ∧ ∀ H', Same H H' → Q .non H'
def Tup3 (H : Hp) (t : Addr) (k : Int × Int × Int) : Prop := H t = some (.tup [.int k.1, .int k.2.1, .int k.2.2])
def spKindOf : Sp := fun vs H Q _ => ∃ (n : Int) (t : Addr) (q : Cell), vs = [.int n, .ref t] ∧ H t = some (.tup [.int q.1, .int q.2]) ∧ InN n q ∧ n ≤ big ∧ ∀ t' H', Same H H' → Tup3 H' t' (kindN n q.1 q.2) → Q (.ref t') H'
def spSort : Sp := fun vs H Q _ => ∃ n r c : Int, vs = [.int n, .int r, .int c] ∧ ∀ t' H', Same H H' → Tup3 H' t' (kindN n r c) → Q (.ref t') H'
def spSpot : Sp := fun vs H Q _ => ∃ (p : Addr) (n : Int), vs = [.ref p, .int n] ∧ PurlAt H p ∧ 1 ≤ n ∧ ∀ (t : Addr) (q : Cell) (H' : Hp), InN n q → H' t = some (.tup [.int q.1, .int q.2]) → t ≠ p → PurlAt H' p → Off p H H' → Q (.ref t) H'
def spCells : Sp := fun vs H Q _ => ∃ n r c : Int, vs = [.int n, .int r, .int c] ∧ ∀ (p : Addr) (L : List (Addr × Cell)) (H' : Hp), Same H H' → H' p = some (.lst (refs L)) → PL H' L → L.map (·.2) = cells8 n r c → Q (.ref p) H'
def spOrbit : Sp := fun vs H Q _ => ∃ n r c : Int, vs = [.int n, .int r, .int c] ∧ InN n (r, c) ∧ ∀ (p : Addr) (L : List (Addr × Cell)) (H' : Hp), Same H H' → H' p = some (.lst (refs L)) → PL H' L → L.length ≤ 8 → (L.map (·.2)).Pairwise lexlt → (∀ q, q ∈ L.map (·.2) ↔ q ∈ cells8 n r c) → Q (.ref p) H'
end Sq
namespace Sq
open PySem L2 PySem.Spec PyProof.Rows
/-! ### comprehensions of any number of clauses: clause by clause -/
/-- what stands behind a clause's tests: a next clause, or what is kept of the turn -/
abbrev TCl := L2.St → Hp → (Hp → Prop) → Prop
/-- the turns over what an iterator gives, then Nx -/
def JLoop (J : It) (g : TG) (tt : TT) (vs : List Nat) (ti : TCl) (σ : L2.St) (H : Hp) (Nx : Hp → Prop) : Prop :=
  ∃ W : Nat → Nat → Hp → Prop, (∃ m, W 0 m H) ∧ ∀ i m H1, W i m H1 →
    (J.stop i H1 ∧ Nx H1) ∨ (J.go i H1 ∧ ∃ N1 : Hp → Prop, (∀ H', N1 H' → ∃ m', m' < m ∧ W (i + 1) m' H') ∧
      ∀ x H', J.yld i H1 x H' → g x (wipe σ vs) H' fun σ2 H2 => wipe σ2 vs = wipe σ vs ∧ tt σ2 H2 fun b H3 => if b = true then ti σ2 H3 N1 else N1 H3)
/-- a clause: its source, then the turns -/
def tClause (wi : TI) (g : TG) (tt : TT) (vs : List Nat) (ti : TCl) : TCl := fun σ H Nx => wi σ H fun J H1 => JLoop J g tt vs ti σ H1 Nx
/-- what σ' knows of what is behind the block's names -/
def Kn (vs : List Nat) (σ σ' : L2.St) : Prop := σ'.length = σ.length ∧ ∀ (j : Nat) v, (wipe σ vs)[j]? = some (some v) → σ'[j]? = some (some v)
abbrev noX : Value → Shared → Prop := fun _ _ => False
/-- how one turn of a comprehension's loop goes: IN is what stands behind the tests -/
def TurnsSo (M : Model) (A : Around) (env : Env) (e : Expr) (d : Nat) (acc : Value) (tg : Expr) (ifs : List Expr) (IN : (Shared → Prop) → Shared → Prop) : Prop :=
  ∀ (it : Value) (k1 k2 : Shared → Prop) (s : Shared),
    wpAny M A (pyNext it) (fun r s1 => match r with
      | none => k1 s1
      | some v => wpAny M A (letOwnedTupleGo tg it v) (fun _ s2 => wpAny M A (assign tg env v) (fun _ s3 =>
          wpAny M A (forIn ifs true fun c r => if r = true then do let ok ← isTrue c env (eval c env); pure (ForInStep.yield ok) else pure (ForInStep.yield r)) (fun ok s4 =>
            if ok = true then IN k2 s4 else k2 s4) noX s3) noX s2) noX s1) noX s →
    wpAny M (A.under (.compLoop e d it acc env)) (M.den (.compLoop e d it acc env))
      (fun fin s' => match fin with | .done f => f = .next ∧ k1 s' | .again c' => c' = .compLoop e d it acc env ∧ k2 s') noX s
/-- what stands behind the tests keeps to its reading -/
def KeepsTo (Y : Cx) (vs : List Nat) (IN : (Shared → Prop) → Shared → Prop) (ti : TCl) : Prop :=
  ∀ (pins : List (Addr × Obj)) (s : Shared) (σ : L2.St) (H : Hp) (Nx : Hp → Prop) (k : Shared → Prop), Inv Y pins σ H s → ti σ H Nx →
    (∀ s' σ' H', Inv Y pins σ' H' s' → Kn vs σ σ' → Nx H' → k s') → IN k s
theorem thnY {α : Type} {t : Sem α} {Q Q' : α → Shared → Prop} {M : Model} {A : Around} {E X : Value → Shared → Prop} {s : Shared} (hx : X = noX) (h : wpAny M A t Q X s) (hQ : ∀ a s, Q a s → Q' a s) : wpAny M A t Q' E s :=
  wpAny_mono h hQ fun _ _ z => by
    rw [hx] at z
    exact z.elim
section
variable {Y : Cx} {e : Expr} {d : Nat} {acc : Value} {tg : Expr} {ifs : List Expr} {IN : (Shared → Prop) → Shared → Prop} {g : TG} {tt : TT} {ti : TCl} {vs vi : List Nat}
/-- one clause's loop, in the block -/
theorem lev (hc : Y.calm = true) (hxe : Y.xe = noX) (hq : ∀ it, (Code.compLoop e d it acc Y.env).quiet = true) (ht : TurnsSo (model Y.prog Y.w) Y.A Y.env e d acc tg ifs IN)
    (pg : PG Y tg g) (pt : PTs Y ifs tt) (hin : KeepsTo Y vi IN ti) (hvi : ∀ j ∈ vi, j ∈ vs)
    {pins : List (Addr × Obj)} {s : Shared} {σ : L2.St} {H : Hp} {Nx : Hp → Prop} (I : Inv Y pins (wipe σ vs) H s) {it : Addr} {fp : List Addr} {tn : Nat → Heap → Prop} {J : It}
    (T : Turn Y.prog Y.w Y.K tg J fp it tn) (st : tn 0 s.heap) (hf : ∀ b ∈ fp, FpOk Y pins H b) (h : JLoop J g tt vs ti σ H Nx) :
    codeAny (model Y.prog Y.w) Y.A (.compLoop e d (.ref it) acc Y.env) (fun r s' => r = .ok .next ∧ ∃ H', Inv Y pins (wipe σ vs) H' s' ∧ Nx H') s := by
  obtain ⟨W, ⟨m0, w0⟩, turn⟩ := h
  refine codeAny_loop (hq _) (fun n s' => ∃ i H', Inv Y pins (wipe σ vs) H' s' ∧ tn i s'.heap ∧ (∀ b ∈ fp, H' b = none) ∧ W i n H') ?_ m0
    ⟨0, H, I, st, fun b hb => (hf b hb).1, w0⟩
  rintro n s1 ⟨i, H1, I1, st1, n1, w1⟩
  have fpo : ∀ {H' : Hp}, (∀ b ∈ fp, H' b = none) → ∀ b ∈ fp, FpOk Y pins H' b := fun hn b hb => ⟨hn b hb, (hf b hb).2⟩
  refine wpAny_mono (ht (.ref it) (fun s' => ∃ H', Inv Y pins (wipe σ vs) H' s' ∧ Nx H') (fun s' => ∃ m, m < n ∧ ∃ i H', Inv Y pins (wipe σ vs) H' s' ∧ tn i s'.heap ∧ (∀ b ∈ fp, H' b = none) ∧ W i m H') s1 ?_) (fun fin s' q => ?_) fun _ _ z => False.elim z
  case refine_2 =>
    cases fin with
    | done f => exact ⟨by rw [q.1], q.2⟩
    | again c => exact q
  rcases turn i n H1 w1 with ⟨stop, nx⟩ | ⟨go, N1, hN1, step⟩
  · refine thnF (T.done Y rfl rfl rfl hc i pins s1 _ H1 noX I1 (fpo n1) st1 stop) fun r s2 q => ?_
    obtain ⟨rfl, I2⟩ := q
    exact ⟨H1, I2, nx⟩
  refine thnF (T.item Y rfl rfl rfl hc i pins s1 _ H1 noX I1 (fpo n1) st1 go) fun r s2 q => ?_
  obtain ⟨u, rfl, q⟩ := q
  refine thnF q fun _ s3 z => ?_
  obtain ⟨x, H3, I3, r3, y3, st3, n3⟩ := z
  have P3 := I3.pinned (fpo n3) (T.obj _ _ st3)
  refine thnY hxe (pg.run _ s3 _ H3 x u _ P3 r3 (step x H3 y3)) fun _ s4 z => ?_
  obtain ⟨σ4, H4, I4, hw, q4⟩ := z
  refine thnY hxe (pt.run _ s4 σ4 H4 _ I4 q4) fun b s5 z => ?_
  obtain ⟨H5, I5, q5⟩ := z
  -- the turn's end
  have fin : ∀ {σ' : L2.St} {s' : Shared} {H' : Hp}, Inv Y (pins ++ pinsAt fp s3.heap) σ' H' s' → Kn vs σ4 σ' → N1 H' →
      ∃ m, m < n ∧ ∃ i H', Inv Y pins (wipe σ vs) H' s' ∧ tn i s'.heap ∧ (∀ b ∈ fp, H' b = none) ∧ W i m H' := fun {σ' s' H'} I' kn nx => by
    obtain ⟨m', hm, w'⟩ := hN1 H' nx
    have held : ∀ b ∈ fp, ∀ o, s3.heap.get? b = some o → s'.heap.get? b = some o ∧ H' b = none := fun b hb o z =>
      ⟨(I'.pin (b, o) (List.mem_append_right _ (List.mem_append_right _ (mem_pinsAt hb z)))).1, (I'.pin (b, o) (List.mem_append_right _ (List.mem_append_right _ (mem_pinsAt hb z)))).2.1⟩
    refine ⟨m', hm, i + 1, H', I'.unpinned.weak ?_ (fun j v z => ?_), T.keep _ _ _ st3 (fun b hb o z => (held b hb o z).1), fun b hb => ?_, w'⟩
    · rw [kn.1, ← hw, wipe_length]
    · rw [← hw] at z
      exact kn.2 j v z
    · obtain ⟨o, z, _⟩ := T.obj _ _ st3 b hb
      exact (held b hb o z).2
  cases b with
  | false => exact fin I5 ⟨rfl, fun j v z => (wipe_some z).1⟩ q5
  | true =>
    refine hin _ s5 σ4 H5 N1 _ I5 q5 fun s' σ' H' I' kn nx => fin I' ⟨kn.1, fun j v z => ?_⟩ nx
    obtain ⟨z1, z2⟩ := wipe_some z
    refine kn.2 j v ?_
    rw [wipe_out fun y => z2 (hvi j y)]
    exact z1
end
/-! ### what stands behind the tests -/
/-- the next clause: its source, its iterator, its loop -/
def inClause (M : Model) (A : Around) (env : Env) (e : Expr) (d : Nat) (acc : Value) (iter : Expr) : (Shared → Prop) → Shared → Prop := fun k s =>
  wpAny M A (eval iter env) (fun x s1 => wpAny M A (pyIter x) (fun it s2 => codeAny M A (.compStart e d it acc env) (fun r s' => match r with | .ok _ => k s' | .error _ => False) s2) noX s1) noX s
/-- an element more in the list -/
def inList (M : Model) (A : Around) (env : Env) (elt : Expr) (acc : Value) : (Shared → Prop) → Shared → Prop := fun k s =>
  wpAny M A (eval elt env) (fun x s1 => wpAny M A (call (.builtin "list.append") [acc, x]) (fun _ s2 => k s2) noX s1) noX s
def tKeep (te : TE) (D : Addr) : TCl := fun σ H Nx => te σ H fun y H1 => ∃ xs, H1 D = some (.lst xs) ∧ xs.length < sizeLine ∧ Nx (upd H1 D (.lst (xs ++ [y])))
theorem keeps_list {Y : Cx} {elt : Expr} {te : TE} {D : Addr} {vs : List Nat} (hxe : Y.xe = noX) (pe : PE Y elt te) : KeepsTo Y vs (inList (model Y.prog Y.w) Y.A Y.env elt (.ref D)) (tKeep te D) := by
  intro pins s σ H Nx k I h hk
  refine thnY hxe (pe.run pins s σ H _ I h) fun u s1 z => ?_
  obtain ⟨y, H1, I1, r1, xs, hD, hz, nx⟩ := z
  exact app_ok I1 hD hz r1 fun s2 I2 => hk s2 σ _ I2 ⟨rfl, fun j v z => (wipe_some z).1⟩ nx
theorem keeps_clause {Y : Cx} {e : Expr} {d : Nat} {acc : Value} {tg iter : Expr} {ifs : List Expr} {IN : (Shared → Prop) → Shared → Prop} {wi : TI} {g : TG} {tt : TT} {ti : TCl} {vs vi : List Nat}
    (hc : Y.calm = true) (hxe : Y.xe = noX) (hq : ∀ it, (Code.compLoop e d it acc Y.env).quiet = true) (ht : TurnsSo (model Y.prog Y.w) Y.A Y.env e d acc tg ifs IN)
    (hst : ∀ (it : Value) (R : Result → Shared → Prop) (s : Shared), codeAny (model Y.prog Y.w) Y.A (.compLoop e d it acc Y.env) R s →
      wpAny (model Y.prog Y.w) Y.A (pyIter it) (fun it' s' => codeAny (model Y.prog Y.w) Y.A (.compLoop e d it' acc Y.env) R s') (notedBy (model Y.prog Y.w) Y.A Y.env fun x s' => R (.error x) s') s → codeAny (model Y.prog Y.w) Y.A (.compStart e d it acc Y.env) R s)
    (pi : PI Y tg iter wi) (pg : PG Y tg g) (pt : PTs Y ifs tt) (hin : KeepsTo Y vi IN ti) (hvi : ∀ j ∈ vi, j ∈ vs) :
    KeepsTo Y vs (inClause (model Y.prog Y.w) Y.A Y.env e d acc iter) (tClause wi g tt vs ti) := by
  intro pins s σ H Nx k I h hk
  refine thnY hxe (pi.run pins s σ H _ I h) fun x s1 hx => thnY hxe hx fun itv s2 z => ?_
  obtain ⟨it, fp, tn, J, H2, rfl, I2, T, st, hf, hl⟩ := z
  have run : codeAny (model Y.prog Y.w) Y.A (.compLoop e d (.ref it) acc Y.env) (fun r s' => match r with | .ok _ => k s' | .error _ => False) s2 := codeAny_mono (lev hc hxe hq ht pg pt hin hvi (I2.weak (wipe_length _ _) (fun j v z => (wipe_some z).1)) T st hf hl) fun r s' z => by
    obtain ⟨rfl, H', I', nx⟩ := z
    exact hk s' _ H' I' ⟨wipe_length _ _, fun j v z => z⟩ nx
  exact hst _ _ _ run (T.self Y.A 0 _ _ _ st run)
/-! ### three clauses -/
section
variable {P : Program} {w : World} {A : Around} {elt t0 i0 t1 i1 t2 i2 : Expr} {f0 f1 f2 : List Expr} {scope : Scope} {pos : Pos} {it acc : Value} {env : Env}
theorem turn3_0 : compTurn (.ListComp elt [⟨t0, i0, f0, 0⟩, ⟨t1, i1, f1, 0⟩, ⟨t2, i2, f2, 0⟩] scope pos) 0 it acc env = (do
    standAt i0.pos
    match ← pyNext it with
    | none => pure (.done .next)
    | some v =>
      letOwnedTupleGo t0 it v
      assign t0 env v
      let mut go := true
      for q in f0 do
        if go then go ← isTrue q env (eval q env)
      if go then
        let y ← eval i1 env
        standAt i1.pos
        let y ← foldedSetIterable i1 env y
        let _ ← runOwn (.compStart (.ListComp elt [⟨t0, i0, f0, 0⟩, ⟨t1, i1, f1, 0⟩, ⟨t2, i2, f2, 0⟩] scope pos) 1 (← holding [y] (pyIter y)) acc env) env
      again (.compLoop (.ListComp elt [⟨t0, i0, f0, 0⟩, ⟨t1, i1, f1, 0⟩, ⟨t2, i2, f2, 0⟩] scope pos) 0 it acc env)) := by rfl
theorem turn3_1 : compTurn (.ListComp elt [⟨t0, i0, f0, 0⟩, ⟨t1, i1, f1, 0⟩, ⟨t2, i2, f2, 0⟩] scope pos) 1 it acc env = (do
    standAt i1.pos
    match ← pyNext it with
    | none => pure (.done .next)
    | some v =>
      letOwnedTupleGo t1 it v
      assign t1 env v
      let mut go := true
      for q in f1 do
        if go then go ← isTrue q env (eval q env)
      if go then
        let y ← eval i2 env
        standAt i2.pos
        let y ← foldedSetIterable i2 env y
        let _ ← runOwn (.compStart (.ListComp elt [⟨t0, i0, f0, 0⟩, ⟨t1, i1, f1, 0⟩, ⟨t2, i2, f2, 0⟩] scope pos) 2 (← holding [y] (pyIter y)) acc env) env
      again (.compLoop (.ListComp elt [⟨t0, i0, f0, 0⟩, ⟨t1, i1, f1, 0⟩, ⟨t2, i2, f2, 0⟩] scope pos) 1 it acc env)) := by rfl
theorem turn3_2 : compTurn (.ListComp elt [⟨t0, i0, f0, 0⟩, ⟨t1, i1, f1, 0⟩, ⟨t2, i2, f2, 0⟩] scope pos) 2 it acc env = (do
    standAt i2.pos
    match ← pyNext it with
    | none => pure (.done .next)
    | some v =>
      letOwnedTupleGo t2 it v
      assign t2 env v
      let mut go := true
      for q in f2 do
        if go then go ← isTrue q env (eval q env)
      if go then
        (do let _ ← call (.builtin "list.append") [acc, ← eval elt env])
      again (.compLoop (.ListComp elt [⟨t0, i0, f0, 0⟩, ⟨t1, i1, f1, 0⟩, ⟨t2, i2, f2, 0⟩] scope pos) 2 it acc env)) := by rfl
theorem so3_0 (hs : ∀ x, foldedSetIterable i1 env x = pure x) : TurnsSo (model P w) A env (.ListComp elt [⟨t0, i0, f0, 0⟩, ⟨t1, i1, f1, 0⟩, ⟨t2, i2, f2, 0⟩] scope pos) 0 acc t0 f0 (inClause (model P w) A env (.ListComp elt [⟨t0, i0, f0, 0⟩, ⟨t1, i1, f1, 0⟩, ⟨t2, i2, f2, 0⟩] scope pos) 1 acc i1) := by
  intro it k1 k2 s h
  show wpAny _ A ((compTurn (.ListComp elt [⟨t0, i0, f0, 0⟩, ⟨t1, i1, f1, 0⟩, ⟨t2, i2, f2, 0⟩] scope pos) 0 it acc env).onRaise (fun x => do noteFrame x env; theTreesLotGoes x)) _ _ s
  refine wpAny_noted ?_
  rw [turn3_0]
  refine wpAny_bind (wpAny_standAt (wpAny_bind (thnF h fun r s1 h1 => ?_)))
  cases r with
  | none => exact wpAny_pure ⟨rfl, h1⟩
  | some v =>
    refine wpAny_bind (thnF h1 fun _ s2 h2 => wpAny_bind (thnF h2 fun _ s3 h3 => wpAny_bind (thnF h3 fun go s4 h4 => ?_)))
    cases go with
    | false => exact wpAny_pure ⟨rfl, h4⟩
    | true =>
      refine wpAny_bind (thnF h4 fun y s5 h5 => ?_)
      refine wpAny_bind (wpAny_standAt (wpAny_bind (wpAny_of_eq (hs y) (wpAny_bind (wpAny_holding (thnF h5 fun it1 s6 h6 => wpAny_bind (wpAny_runOwn ?_)))))))
      rw [Around.mark_none]
      refine codeAny_mono h6 fun r s' hr => ?_
      cases r with
      | ok f => exact wpAny_pure ⟨rfl, hr⟩
      | error x => exact hr.elim
theorem so3_1 (hs : ∀ x, foldedSetIterable i2 env x = pure x) : TurnsSo (model P w) A env (.ListComp elt [⟨t0, i0, f0, 0⟩, ⟨t1, i1, f1, 0⟩, ⟨t2, i2, f2, 0⟩] scope pos) 1 acc t1 f1 (inClause (model P w) A env (.ListComp elt [⟨t0, i0, f0, 0⟩, ⟨t1, i1, f1, 0⟩, ⟨t2, i2, f2, 0⟩] scope pos) 2 acc i2) := by
  intro it k1 k2 s h
  show wpAny _ A ((compTurn (.ListComp elt [⟨t0, i0, f0, 0⟩, ⟨t1, i1, f1, 0⟩, ⟨t2, i2, f2, 0⟩] scope pos) 1 it acc env).onRaise (fun x => do noteFrame x env; theTreesLotGoes x)) _ _ s
  refine wpAny_noted ?_
  rw [turn3_1]
  refine wpAny_bind (wpAny_standAt (wpAny_bind (thnF h fun r s1 h1 => ?_)))
  cases r with
  | none => exact wpAny_pure ⟨rfl, h1⟩
  | some v =>
    refine wpAny_bind (thnF h1 fun _ s2 h2 => wpAny_bind (thnF h2 fun _ s3 h3 => wpAny_bind (thnF h3 fun go s4 h4 => ?_)))
    cases go with
    | false => exact wpAny_pure ⟨rfl, h4⟩
    | true =>
      refine wpAny_bind (thnF h4 fun y s5 h5 => ?_)
      refine wpAny_bind (wpAny_standAt (wpAny_bind (wpAny_of_eq (hs y) (wpAny_bind (wpAny_holding (thnF h5 fun it1 s6 h6 => wpAny_bind (wpAny_runOwn ?_)))))))
      rw [Around.mark_none]
      refine codeAny_mono h6 fun r s' hr => ?_
      cases r with
      | ok f => exact wpAny_pure ⟨rfl, hr⟩
      | error x => exact hr.elim
theorem so3_2 : TurnsSo (model P w) A env (.ListComp elt [⟨t0, i0, f0, 0⟩, ⟨t1, i1, f1, 0⟩, ⟨t2, i2, f2, 0⟩] scope pos) 2 acc t2 f2 (inList (model P w) A env elt acc) := by
  intro it k1 k2 s h
  show wpAny _ A ((compTurn (.ListComp elt [⟨t0, i0, f0, 0⟩, ⟨t1, i1, f1, 0⟩, ⟨t2, i2, f2, 0⟩] scope pos) 2 it acc env).onRaise (fun x => do noteFrame x env; theTreesLotGoes x)) _ _ s
  refine wpAny_noted ?_
  rw [turn3_2]
  refine wpAny_bind (wpAny_standAt (wpAny_bind (thnF h fun r s1 h1 => ?_)))
  cases r with
  | none => exact wpAny_pure ⟨rfl, h1⟩
  | some v =>
    refine wpAny_bind (thnF h1 fun _ s2 h2 => wpAny_bind (thnF h2 fun _ s3 h3 => wpAny_bind (thnF h3 fun go s4 h4 => ?_)))
    cases go with
    | false => exact wpAny_pure ⟨rfl, h4⟩
    | true => exact wpAny_bind (wpAny_bind (thnF h4 fun y s5 h5 => wpAny_bind (thnF h5 fun _ s6 h6 => wpAny_pure (wpAny_pure ⟨rfl, h6⟩))))
end
section
variable {P : Program} {w : World} {A : Around} {elt t0 i0 t1 i1 t2 i2 : Expr} {f0 f1 f2 : List Expr} {scope : Scope} {pos : Pos} {it acc : Value} {env : Env}
theorem start3_1 {R : Result → Shared → Prop} {s : Shared} (h0 : codeAny (model P w) A (.compLoop (.ListComp elt [⟨t0, i0, f0, 0⟩, ⟨t1, i1, f1, 0⟩, ⟨t2, i2, f2, 0⟩] scope pos) 1 it acc env) R s)
    (h : wpAny (model P w) A (pyIter it) (fun it' s' => codeAny (model P w) A (.compLoop (.ListComp elt [⟨t0, i0, f0, 0⟩, ⟨t1, i1, f1, 0⟩, ⟨t2, i2, f2, 0⟩] scope pos) 1 it' acc env) R s') (notedBy (model P w) A env fun x s' => R (.error x) s') s) :
    codeAny (model P w) A (.compStart (.ListComp elt [⟨t0, i0, f0, 0⟩, ⟨t1, i1, f1, 0⟩, ⟨t2, i2, f2, 0⟩] scope pos) 1 it acc env) R s := by
  refine codeAny_of_tree (show wpAny _ _ ((compStart (.ListComp elt [⟨t0, i0, f0, 0⟩, ⟨t1, i1, f1, 0⟩, ⟨t2, i2, f2, 0⟩] scope pos) 1 it acc env).onRaise (fun x => do noteFrame x env; standAt theWindowsPlace)) _ _ s from wpAny_notedAt ?_)
  unfold compStart
  refine (show wpAny _ _ (ask >>= _) _ _ s from wpAny_bind (wpAny_askSetting (wpAny_ite ?_)))
  split
  · exact wpAny_pure (And.intro rfl h0)
  · refine wpAny_bind (wpAny_rule ?_)
    show wpAny _ _ (standAt i1.pos >>= _) _ _ s
    exact wpAny_bind (wpAny_standAt (wpAny_bind (thn h fun _ _ z => wpAny_pure (And.intro rfl z))))
theorem start3_2 {R : Result → Shared → Prop} {s : Shared} (h0 : codeAny (model P w) A (.compLoop (.ListComp elt [⟨t0, i0, f0, 0⟩, ⟨t1, i1, f1, 0⟩, ⟨t2, i2, f2, 0⟩] scope pos) 2 it acc env) R s)
    (h : wpAny (model P w) A (pyIter it) (fun it' s' => codeAny (model P w) A (.compLoop (.ListComp elt [⟨t0, i0, f0, 0⟩, ⟨t1, i1, f1, 0⟩, ⟨t2, i2, f2, 0⟩] scope pos) 2 it' acc env) R s') (notedBy (model P w) A env fun x s' => R (.error x) s') s) :
    codeAny (model P w) A (.compStart (.ListComp elt [⟨t0, i0, f0, 0⟩, ⟨t1, i1, f1, 0⟩, ⟨t2, i2, f2, 0⟩] scope pos) 2 it acc env) R s := by
  refine codeAny_of_tree (show wpAny _ _ ((compStart (.ListComp elt [⟨t0, i0, f0, 0⟩, ⟨t1, i1, f1, 0⟩, ⟨t2, i2, f2, 0⟩] scope pos) 2 it acc env).onRaise (fun x => do noteFrame x env; standAt theWindowsPlace)) _ _ s from wpAny_notedAt ?_)
  unfold compStart
  refine (show wpAny _ _ (ask >>= _) _ _ s from wpAny_bind (wpAny_askSetting (wpAny_ite ?_)))
  split
  · exact wpAny_pure (And.intro rfl h0)
  · refine wpAny_bind (wpAny_rule ?_)
    show wpAny _ _ (standAt i2.pos >>= _) _ _ s
    exact wpAny_bind (wpAny_standAt (wpAny_bind (thn h fun _ _ z => wpAny_pure (And.intro rfl z))))
end
/-! ### the whole -/
section
variable {X : Cx}
def tWhole (ob : Addr → HO) (wi : TI) (g : TG) (tt : TT) (vs : List Nat) (ti : Addr → TCl) : TE := fun σ H Q => wi σ H fun J H1 => ∀ D, H1 D = none → JLoop J g tt vs (ti D) σ (upd H1 D (ob D)) fun H' => Q (.ref D) H'
theorem top_comp {e tg iter : Expr} {ifs : List Expr} {rest : List Comprehension} {newAcc : Sem Value} {O : Obj} {ob : Addr → HO} {scope : Scope} {own : List (Str × Nat)} {pos' : Pos} {wi : TI} {g : TG} {tt : TT} {ti : Addr → TCl}
    {pins : List (Addr × Obj)} {s : Shared} {σ : L2.St} {H : Hp} {Q : VK}
    (hcl : clausesOf e = ⟨tg, iter, ifs, 0⟩ :: rest)
    (hnew : ∀ (s : Shared) (Q : Value → Shared → Prop) (E : Value → Shared → Prop), Q (.ref s.heap.objs.size) { s with heap := s.heap.push O } → wpAny (model X.prog X.w) X.A newAcc Q E s)
    (hlaid : ∀ (H : Hp) (h : Heap), ObjOk X.prog X.w (upd H h.objs.size (ob h.objs.size)) (h.push O) h.objs.size (ob h.objs.size))
    (hst : ∀ (it acc : Value) (env : Env) (R : Result → Shared → Prop) (s : Shared), codeAny (model X.prog X.w) X.A (.compLoop e 0 it acc env) R s →
      wpAny (model X.prog X.w) X.A (pyIter it) (fun it' s' => codeAny (model X.prog X.w) X.A (.compLoop e 0 it' acc env) R s') (notedBy (model X.prog X.w) X.A env fun x s' => R (.error x) s') s → codeAny (model X.prog X.w) X.A (.compStart e 0 it acc env) R s)
    (hq : ∀ it acc env, (Code.compLoop e 0 it acc env).quiet = true)
    (hc : X.calm = true) (hN : X.N.Nodup) (I : Inv X pins σ H s) (hi : PI X tg iter wi) (ok : BlkOk X.N X.env.scope scope own) (hs : ∀ x, foldedSetIterable iter X.env x = pure x)
    (blk : ∀ (s : Shared) (H : Hp) (C : Addr) (cl : List (Str × Addr)) (fp : List Addr) (D : Addr), ∃ (IN : (Shared → Prop) → Shared → Prop) (vi : List Nat),
      TurnsSo (model X.prog X.w) X.A (compEnvC scope cl C X.env) e 0 (.ref D) tg ifs IN ∧ PG (X.blk s H scope (compEnvC scope cl C X.env) fp) tg g ∧ PTs (X.blk s H scope (compEnvC scope cl C X.env) fp) ifs tt ∧
      KeepsTo (X.blk s H scope (compEnvC scope cl C X.env) fp) vi IN (ti D) ∧ ∀ j ∈ vi, j ∈ own.map (·.2))
    (h : tWhole ob wi g tt (own.map (·.2)) ti σ H Q) :
    wpAny (model X.prog X.w) X.A (comprehension e scope X.env pos' newAcc false (eval iter X.env) none) (EP X pins σ Q) X.xe s := by
  have held : ∀ y ∈ scope.names, y.2 = .free → ∃ c, X.env.cells.lookup y.1 = some c := fun y hy z => (ok.free y hy z).elim (fun k => I.ok.has _ (.inl k)) fun k => I.ok.has _ (.inr k)
  refine wpAny_comprehension_free (use := none) hcl hs (closure_ok held) ok.kind (fun y hy z => (ok.uniq y hy).trans (congrArg some z)) (thn (hi.run pins s σ H _ I h) fun xv s1 hx => thn hx fun itv s2 z => ?_)
  obtain ⟨it, fp, tn, J, H2, rfl, I2, T, st2, f2, q⟩ := z
  refine hnew s2 _ _ (newEnv_comp ?_)
  have hDn : H2 s2.heap.objs.size = none := I2.hok.fresh (Nat.le_refl _)
  have loops := q _ hDn
  have I3 : Inv X pins σ (upd H2 s2.heap.objs.size (ob s2.heap.objs.size)) { s2 with heap := s2.heap.push O } :=
    I2.laid (t' := s2.toks) (fun b o z => Heap.get?_push_of_some _ z) (Nat.le_refl _) (hlaid H2 s2.heap)
  have low : ∀ b ∈ fp, b < s2.heap.objs.size := fun b hb => by
    obtain ⟨o, z, _⟩ := T.obj _ _ st2 b hb
    exact Heap.lt_size z
  have f3 : ∀ b ∈ fp, FpOk X pins (upd H2 s2.heap.objs.size (ob s2.heap.objs.size)) b ∧ b < (s2.heap.push O).objs.size := fun b hb =>
    ⟨⟨by rw [upd_ne (Nat.ne_of_lt (low b hb))]; exact (f2 b hb).1, (f2 b hb).2⟩, by rw [Heap.size_push]; exact Nat.lt_succ_of_lt (low b hb)⟩
  have st3 : tn 0 (s2.heap.push O) := T.keep _ _ _ st2 fun b _ o z => Heap.get?_push_of_some _ z
  generalize hs3 : ({ s2 with heap := s2.heap.push O } : Shared) = s3 at I3 ⊢
  have h3 : s3.heap = s2.heap.push O := by rw [← hs3]
  rw [← h3] at f3 st3
  generalize s2.heap.objs.size = D at I3 f3 loops ⊢
  have I4 := block_start I3 ok hN f3
  obtain ⟨IN, vi, hts, pg, pt, hin, hvi⟩ := blk s3 (upd H2 D (ob D)) s3.heap.objs.size (cellsFrom (s3.heap.objs.size + 1) scope.names (cloFrom X.env.cells scope.names [])) fp D
  show codeAny _ _ (.compStart e 0 (.ref it) (.ref D) (compEnvC scope (cellsFrom (s3.heap.objs.size + 1) scope.names (cloFrom X.env.cells scope.names [])) s3.heap.objs.size X.env)) (compPost (model X.prog X.w) X.A X.xe none (EP X pins σ Q) (.ref D) s3.heap.objs.size) { s3 with heap := pushCells (s3.heap.push { cls := .type "dict", data := .dict #[] }) scope.names }
  have st4 : tn 0 (pushCells (s3.heap.push { cls := .type "dict", data := .dict #[] }) scope.names) := T.keep _ _ _ st3 fun b _ o z => pushCells_keeps _ _ _ _ (Heap.get?_push_of_some _ z)
  have f4 : ∀ b ∈ fp, FpOk (X.blk s3 (upd H2 D (ob D)) scope (compEnvC scope (cellsFrom (s3.heap.objs.size + 1) scope.names (cloFrom X.env.cells scope.names [])) s3.heap.objs.size X.env) fp) [] (upd H2 D (ob D)) b := fun b hb =>
    ⟨(f3 b hb).1.1, (I4.ok.exf b hb).1, I4.ok.exfs b hb, .inl hb, fun x c z => (I4.ok.exf b hb).2 x c z, fun p hp => absurd (show p ∈ ([] : List (Addr × Obj)) ++ [] from hp) (by simp)⟩
  have run := codeAny_mono (lev (Y := X.blk s3 (upd H2 D (ob D)) scope (compEnvC scope (cellsFrom (s3.heap.objs.size + 1) scope.names (cloFrom X.env.cells scope.names [])) s3.heap.objs.size X.env) fp) hc rfl (fun it => hq it _ _) hts pg pt hin hvi I4 T st4 f4 loops) (R' := compPost (model X.prog X.w) X.A X.xe none (EP X pins σ Q) (.ref D) s3.heap.objs.size) fun r s6 z => by
    obtain ⟨rfl, H6, I6, q6⟩ := z
    have I7 : Inv X pins σ H6 s6 := I3.call' (ch := fp) I6.os I6.base I6.hok I6.bare fun b hb => ⟨(f3 b hb).1.2.2.2.1, (f3 b hb).1.2.1, (f3 b hb).1.2.2.2.2.1, (f3 b hb).1.2.2.2.2.2⟩
    obtain ⟨m, hn, _⟩ := I6.loc
    obtain ⟨a0, a1, a2, a3, a4, a5⟩ := I3.fpOk (Nat.le_refl _) (show H6 s3.heap.objs.size = none from I6.free)
    exact ⟨m, hn, fun h'' sb => ⟨.ref D, H6, I7.turned (t' := s6.toks) (fun b o hb z => (sb.2 b hb).trans z) a0 a1 a3 a4 a5, rfl, q6⟩⟩
  exact hst _ _ _ _ _ run (T.self X.A 0 _ _ _ st4 run)
end
end Sq
namespace Sq
open PySem L2 PySem.Spec PyProof.Rows
/-! ### [elt for t0 in i0 for t1 in i1 for t2 in i2] -/
section
variable {X : Cx}
def tLc3 (wi : TI) (g : TG) (tt : TT) (vs : List Nat) (ti : Addr → TCl) : TE := tWhole (fun _ => .lst []) wi g tt vs ti
theorem pe_lc3 {elt t0 i0 t1 i1 t2 i2 : Expr} {f0 f1 f2 : List Expr} {scope : Scope} {own : List (Str × Nat)} {v1 v2 : List Nat} {pos : Pos} {w0 w1 w2 : TI} {g0 g1 g2 : TG} {r0 r1 r2 : TT} {te : TE}
    (hc : X.calm = true) (hN : X.N.Nodup) (hi : PI X t0 i0 w0) (ok : BlkOk X.N X.env.scope scope own) (hv1 : ∀ j ∈ v1, j ∈ own.map (·.2)) (hv2 : ∀ j ∈ v2, j ∈ v1)
    (blk : ∀ (s : Shared) (H : Hp) (C : Addr) (cl : List (Str × Addr)) (fp : List Addr),
      (PG (X.blk s H scope (compEnvC scope cl C X.env) fp) t0 g0 ∧ PTs (X.blk s H scope (compEnvC scope cl C X.env) fp) f0 r0) ∧
      (PI (X.blk s H scope (compEnvC scope cl C X.env) fp) t1 i1 w1 ∧ PG (X.blk s H scope (compEnvC scope cl C X.env) fp) t1 g1 ∧ PTs (X.blk s H scope (compEnvC scope cl C X.env) fp) f1 r1) ∧
      (PI (X.blk s H scope (compEnvC scope cl C X.env) fp) t2 i2 w2 ∧ PG (X.blk s H scope (compEnvC scope cl C X.env) fp) t2 g2 ∧ PTs (X.blk s H scope (compEnvC scope cl C X.env) fp) f2 r2) ∧
      PE (X.blk s H scope (compEnvC scope cl C X.env) fp) elt te)
    (hs : ∀ x, foldedSetIterable i0 X.env x = pure x := by intro _; rfl) (hs1 : ∀ env x, foldedSetIterable i1 env x = pure x := by intro _ _; rfl) (hs2 : ∀ env x, foldedSetIterable i2 env x = pure x := by intro _ _; rfl) :
    PE X (.ListComp elt [⟨t0, i0, f0, 0⟩, ⟨t1, i1, f1, 0⟩, ⟨t2, i2, f2, 0⟩] scope pos) (tLc3 w0 g0 r0 (own.map (·.2)) fun D => tClause w1 g1 r1 v1 (tClause w2 g2 r2 v2 (tKeep te D))) := by
  refine ⟨fun pins s σ H Q I h => ?_⟩
  rw [eval_ListComp]
  refine top_comp (ob := fun _ => .lst []) (O := { cls := .type "list", data := .seq ([] : List Value).toArray }) rfl (fun s Q E q => wpAny_newObj_type q (by show 0 ≤ sizeLine; decide)) (fun H h => ⟨Nat.zero_le _, [], 0, .nil, Heap.get?_push_size _ rfl⟩)
    (fun it acc env R s h0 h1 => codeAny_compStart_list h0 h1) (fun _ _ _ => rfl) hc hN I hi ok hs (fun s' H' C cl fp D => ?_) h
  obtain ⟨⟨pg0, pt0⟩, ⟨pi1, pg1, pt1⟩, ⟨pi2, pg2, pt2⟩, pe⟩ := blk s' H' C cl fp
  have k3 := keeps_list (Y := X.blk s' H' scope (compEnvC scope cl C X.env) fp) (D := D) (vs := v2) rfl pe
  have k2 := keeps_clause (e := .ListComp elt [⟨t0, i0, f0, 0⟩, ⟨t1, i1, f1, 0⟩, ⟨t2, i2, f2, 0⟩] scope pos) (Y := X.blk s' H' scope (compEnvC scope cl C X.env) fp) hc rfl (fun _ => rfl) (so3_2 (scope := scope) (pos := pos)) (fun it R s h0 h1 => start3_2 (t0 := t0) (i0 := i0) (f0 := f0) (t1 := t1) (i1 := i1) (f1 := f1) h0 h1) pi2 pg2 pt2 k3 (vs := v2) (fun _ z => z)
  have k1 := keeps_clause (e := .ListComp elt [⟨t0, i0, f0, 0⟩, ⟨t1, i1, f1, 0⟩, ⟨t2, i2, f2, 0⟩] scope pos) (Y := X.blk s' H' scope (compEnvC scope cl C X.env) fp) hc rfl (fun _ => rfl) (so3_1 (t0 := t0) (i0 := i0) (f0 := f0) (hs2 _)) (fun it R s h0 h1 => start3_1 (t0 := t0) (i0 := i0) (f0 := f0) h0 h1) pi1 pg1 pt1 k2 hv2
  exact ⟨_, _, so3_0 (hs1 _), pg0, pt0, k1, hv1⟩
end
/-! ### {elt for tg in iter}: tuples of ints -/
section
variable {P : Program} {w : World} {A : Around} {elt tg iter : Expr} {ifs : List Expr} {scope : Scope} {pos : Pos} {it acc : Value} {env : Env}
def inSet (M : Model) (A : Around) (env : Env) (elt : Expr) (acc : Value) : (Shared → Prop) → Shared → Prop := fun k s =>
  wpAny M A (eval elt env) (fun x s1 => wpAny M A (call (.builtin "set.add") [acc, x]) (fun _ s2 => k s2) noX s1) noX s
theorem turnS : compTurn (.SetComp elt [⟨tg, iter, ifs, 0⟩] scope pos) 0 it acc env = (do
    standAt iter.pos
    match ← pyNext it with
    | none => pure (.done .next)
    | some v =>
      letOwnedTupleGo tg it v
      assign tg env v
      let mut go := true
      for q in ifs do
        if go then go ← isTrue q env (eval q env)
      if go then
        (do let y ← eval elt env; standAt elt.pos; let _ ← call (.builtin "set.add") [acc, y])
      again (.compLoop (.SetComp elt [⟨tg, iter, ifs, 0⟩] scope pos) 0 it acc env)) := by rfl
theorem soS : TurnsSo (model P w) A env (.SetComp elt [⟨tg, iter, ifs, 0⟩] scope pos) 0 acc tg ifs (inSet (model P w) A env elt acc) := by
  intro it k1 k2 s h
  show wpAny _ A ((compTurn (.SetComp elt [⟨tg, iter, ifs, 0⟩] scope pos) 0 it acc env).onRaise (fun x => do noteFrame x env; theTreesLotGoes x)) _ _ s
  refine wpAny_noted ?_
  rw [turnS]
  refine wpAny_bind (wpAny_standAt (wpAny_bind (thnF h fun r s1 h1 => ?_)))
  cases r with
  | none => exact wpAny_pure ⟨rfl, h1⟩
  | some v =>
    refine wpAny_bind (thnF h1 fun _ s2 h2 => wpAny_bind (thnF h2 fun _ s3 h3 => wpAny_bind (thnF h3 fun go s4 h4 => ?_)))
    cases go with
    | false => exact wpAny_pure ⟨rfl, h4⟩
    | true => exact wpAny_bind (wpAny_bind (thnF h4 fun y s5 h5 => wpAny_bind (wpAny_standAt (wpAny_bind (thnF h5 fun _ s6 h6 => wpAny_pure (wpAny_pure ⟨rfl, h6⟩))))))
end
section
variable {X : Cx}
/-- set.add of a tuple of ints -/
theorem addT_ok {pins : List (Addr × Obj)} {σ : L2.St} {H : Hp} {s : Shared} {E : Value → Shared → Prop} {D t : Addr} {k : List Int} {L : List (Addr × List Int)} {Q : Value → Shared → Prop} (hu : X.A.units + 3 < cLine) (I : Inv X pins σ H s)
    (hD : H D = some (SetTO X.prog X.w D L)) (hL : ∀ p ∈ L, SqT X.K H p.1 (p.2.map V.int)) (ht : SqT X.K H t (k.map V.int)) (few : L.length + 1 < 64)
    (h : ∀ s' L', Inv X pins σ (upd H D (SetTO X.prog X.w D L')) s' → (k ∈ L.map (·.2) → L' = L) → (k ∉ L.map (·.2) → L'.Perm ((t, k) :: L)) → Q .none s') : wpAny (model X.prog X.w) X.A (call (.builtin "set.add") [.ref D, .ref t]) Q E s := by
  have R0 : SetT0 X.prog X.w s.heap D L := (I.hok D _ hD).1
  obtain ⟨es, ep, tb, R⟩ := R0.full fun p hp => I.isT (hL p hp)
  have hx := I.isT ht
  have ty : s.TypeIs (.ref D) "set" := by
    obtain ⟨o, ho, hex, _⟩ := R.ob
    exact ⟨o, ho, hex.1⟩
  refine wpAny_call_entry PySem.F.slot_set_add ty PySem.F.entry_set_add ?_ (PySem.F.args_set_add_2 _ _)
  unfold Builtin.«set.add» Builtin.Frozenset.oneOther
  simp only [List.isEmpty_nil, bind_assoc]
  unfold Builtin.Frozenset.addrOf setAdd
  refine wpAny_bind (wpAny_pure ?_)
  try dsimp only
  refine wpAny_bind (wpAny_pure ?_)
  try dsimp only
  refine wpAny_bind (wpAny_holding (wpAny_bind (wpAny_pyHash_tuple (by show X.A.units + 1 < cLine; omega) hx ?_)))
  refine add_at (s := { s with toks := s.toks + (k.length + 1) }) R hx (by show X.A.units + 1 < cLine; omega) few fun b h' L' es' ep' t' sb R' c1 c2 => ?_
  show wpAny _ _ (ret Value.none) _ _ _
  refine wpAny_pure ⟨_, rfl, ?_⟩
  have he : ∃ u, h'.get? D = some u := by
    obtain ⟨o, ho, _⟩ := R'.ob
    exact ⟨o, ho⟩
  exact h _ L' (I.write (e := D) (t' := s.toks + (k.length + 1)) (by rw [hD]; trivial) (.inl rfl) (fun b u hb hu => (sb.2 b hb).trans hu) he (setTO_new R'.t0)) c1 c2
end
section
variable {X : Cx}
def tKeepS (K : PySem.W.Frag) (P : Program) (w : World) (te : TE) (D : Addr) : TCl := fun σ H Nx => te σ H fun y H1 => ∃ (t : Addr) (k : List Int) (L : List (Addr × List Int)), y = .ref t ∧ H1 D = some (SetTO P w D L) ∧
  (∀ p ∈ L, SqT K H1 p.1 (p.2.map V.int)) ∧ SqT K H1 t (k.map V.int) ∧ L.length + 1 < 64 ∧ ∀ L', (k ∈ L.map (·.2) → L' = L) → (k ∉ L.map (·.2) → L'.Perm ((t, k) :: L)) → Nx (upd H1 D (SetTO P w D L'))
theorem keeps_set {Y : Cx} {elt : Expr} {te : TE} {D : Addr} {vs : List Nat} (hxe : Y.xe = noX) (hu : Y.A.units + 3 < cLine) (pe : PE Y elt te) : KeepsTo Y vs (inSet (model Y.prog Y.w) Y.A Y.env elt (.ref D)) (tKeepS Y.K Y.prog Y.w te D) := by
  intro pins s σ H Nx k I h hk
  refine thnY hxe (pe.run pins s σ H _ I h) fun u s1 z => ?_
  obtain ⟨y, H1, I1, r1, t, ks, L, rfl, hD, hL, ht, few, nx⟩ := z
  cases r1
  exact addT_ok hu I1 hD hL ht few fun s2 L' I2 c1 c2 => hk s2 σ _ I2 ⟨rfl, fun j v z => (wipe_some z).1⟩ (nx L' c1 c2)
theorem pe_scT {elt tg iter : Expr} {ifs : List Expr} {scope : Scope} {own : List (Str × Nat)} {pos : Pos} {wi : TI} {g : TG} {tt : TT} {te : TE}
    (hc : X.calm = true) (hu : X.A.units + 3 < cLine) (hN : X.N.Nodup) (hi : PI X tg iter wi) (ok : BlkOk X.N X.env.scope scope own)
    (blk : ∀ (s : Shared) (H : Hp) (C : Addr) (cl : List (Str × Addr)) (fp : List Addr),
      PG (X.blk s H scope (compEnvC scope cl C X.env) fp) tg g ∧ PTs (X.blk s H scope (compEnvC scope cl C X.env) fp) ifs tt ∧ PE (X.blk s H scope (compEnvC scope cl C X.env) fp) elt te)
    (hs : ∀ x, foldedSetIterable iter X.env x = pure x := by intro _; rfl) :
    PE X (.SetComp elt [⟨tg, iter, ifs, 0⟩] scope pos) (tWhole (fun D => SetTO X.prog X.w D []) wi g tt (own.map (·.2)) fun D => tKeepS X.K X.prog X.w te D) := by
  refine ⟨fun pins s σ H Q I h => ?_⟩
  rw [PpSet.eval_SetComp]
  refine top_comp (ob := fun D => SetTO X.prog X.w D []) (O := { cls := .type "set", dict := none, data := .set #[] 0 (.fresh 0 0 (!X.w.params.followText "set-order")) }) rfl (fun s Q E q => PpSet.newSet_ok q)
    (fun H h => setTO_new (setTR_fresh (Heap.get?_push_size _ rfl)).t0)
    (fun it acc env R s h0 h1 => PpSet.codeAny_compStart_set h0 h1) (fun _ _ _ => rfl) hc hN I hi ok hs (fun s' H' C cl fp D => ?_) h
  obtain ⟨pg, pt, pe⟩ := blk s' H' C cl fp
  exact ⟨_, [], soS, pg, pt, keeps_set (Y := X.blk s' H' scope (compEnvC scope cl C X.env) fp) rfl hu pe, fun _ z => nomatch z⟩
end
/-! ### the turns of a clause, by what holds ahead of each -/
section
variable {g : TG} {tt : TT} {vs : List Nat} {ti : TCl} {σ : L2.St} {H : Hp} {Nx : Hp → Prop}
theorem jl_range {lo : Int} {n : Nat} (Pv : Nat → Hp → Prop) (h0 : Pv 0 H)
    (hs : ∀ i H, i < n → Pv i H → g (.int (lo + i)) (wipe σ vs) H fun σ2 H2 => wipe σ2 vs = wipe σ vs ∧ tt σ2 H2 fun b H3 => if b = true then ti σ2 H3 (Pv (i + 1)) else Pv (i + 1) H3)
    (hd : ∀ H, Pv n H → Nx H) : JLoop (Itr lo n) g tt vs ti σ H Nx := by
  refine ⟨fun i m H => i ≤ n ∧ m = n - i ∧ Pv i H, ⟨n, Nat.zero_le _, rfl, h0⟩, fun i m H1 z => ?_⟩
  obtain ⟨h1, rfl, h2⟩ := z
  rcases Nat.lt_or_ge i n with h | h
  · refine .inr ⟨h, Pv (i + 1), fun H' p => ⟨n - (i + 1), by omega, by omega, rfl, p⟩, fun x H' y => ?_⟩
    obtain ⟨rfl, rfl⟩ := y
    exact hs i _ h h2
  · have e : i = n := by omega
    subst e
    exact .inl ⟨Nat.le_refl _, hd _ h2⟩
theorem jl_tup {K : PySem.W.Frag} {a : Addr} {xs : List V} (Pv : Nat → Hp → Prop) (h0 : Pv 0 H) (hl : ∀ i H, i ≤ xs.length → Pv i H → SqT K H a xs)
    (hs : ∀ i x H, xs[i]? = some x → Pv i H → g x (wipe σ vs) H fun σ2 H2 => wipe σ2 vs = wipe σ vs ∧ tt σ2 H2 fun b H3 => if b = true then ti σ2 H3 (Pv (i + 1)) else Pv (i + 1) H3)
    (hd : ∀ H, Pv xs.length H → Nx H) : JLoop (Itt K a) g tt vs ti σ H Nx := by
  refine ⟨fun i m H => i ≤ xs.length ∧ m = xs.length - i ∧ Pv i H, ⟨xs.length, Nat.zero_le _, rfl, h0⟩, fun i m H1 z => ?_⟩
  obtain ⟨h1, rfl, h2⟩ := z
  have hq := hl i H1 h1 h2
  rcases Nat.lt_or_ge i xs.length with h | h
  · refine .inr ⟨⟨xs, xs[i], hq, List.getElem?_eq_getElem h⟩, Pv (i + 1), fun H' p => ⟨xs.length - (i + 1), by omega, by omega, rfl, p⟩, fun x H' y => ?_⟩
    obtain ⟨rfl, y⟩ := y
    exact hs i x _ (y xs hq) h2
  · have e : i = xs.length := by omega
    subst e
    exact .inl ⟨⟨xs, hq, Nat.le_refl _⟩, hd _ h2⟩
end
end Sq
namespace Sq
open PySem L2
def placesS : List Str := ["i,j", "j,i", "i,~j", "~j,i", "~i,j", "j,~i", "~i,~j", "~j,~i"]
/-- the numbers of a round by their names -/
def numK (n r c : Int) : List (L2.Key × V) := [(.inr "i", .int r), (.inr "j", .int c), (.inr "~i", .int (n - 1 - r)), (.inr "~j", .int (n - 1 - c))]
def pName (k : Nat) : Str := ["i", "j", "~i", "~j"].getD k ""
def pIx : List (Nat × Nat) := [(0, 1), (1, 0), (0, 3), (3, 0), (2, 1), (1, 2), (2, 3), (3, 2)]
theorem split_place : ∀ k : _root_.Fin 8, Txt.split (placesS.getD k.val "") "," = [pName (pIx.getD k.val (0, 0)).1, pName (pIx.getD k.val (0, 0)).2] := by decide +kernel
theorem len_place : ∀ k : _root_.Fin 8, (placesS.getD k.val "").length + 2 ≤ 100 := by decide +kernel
def numN (n r c : Int) (k : Nat) : Int := [r, c, n - 1 - r, n - 1 - c].getD k 0
theorem name_val (n r c : Int) : ∀ k, k < 4 → valV (numK n r c) (.inr (pName k)) = some (.int (numN n r c k))
  | 0, _ => rfl
  | 1, _ => rfl
  | 2, _ => rfl
  | 3, _ => rfl
  | k + 4, h => by omega
theorem cell_ix (n r c : Int) : ∀ k, k < 8 → (cells8 n r c)[k]? = some (numN n r c (pIx.getD k (0, 0)).1, numN n r c (pIx.getD k (0, 0)).2)
  | 0, _ => rfl
  | 1, _ => rfl
  | 2, _ => rfl
  | 3, _ => rfl
  | 4, _ => rfl
  | 5, _ => rfl
  | 6, _ => rfl
  | 7, _ => rfl
  | k + 8, h => by omega
theorem ix_lt : ∀ k, k < 8 → (pIx.getD k (0, 0)).1 < 4 ∧ (pIx.getD k (0, 0)).2 < 4 := by decide
/-- two ascending lists with the same members -/
theorem asc_one : ∀ {a b : List Cell}, a.Pairwise lexlt → b.Pairwise lexlt → (∀ q, q ∈ a ↔ q ∈ b) → a = b
  | [], [], _, _, _ => rfl
  | [], y :: b, _, _, h => absurd ((h y).mpr (List.mem_cons_self ..)) (by simp)
  | x :: a, [], _, _, h => absurd ((h x).mp (List.mem_cons_self ..)) (by simp)
  | x :: a, y :: b, ha, hb, h => by
    obtain ⟨xa, ha'⟩ := List.pairwise_cons.mp ha
    obtain ⟨yb, hb'⟩ := List.pairwise_cons.mp hb
    have irr : ∀ p q : Cell, lexlt p q → ¬ lexlt q p := fun p q u v => by
      unfold lexlt at u v
      omega
    have self : ∀ p : Cell, ¬ lexlt p p := fun p u => irr p p u u
    have e : x = y := by
      rcases List.mem_cons.mp ((h x).mp (List.mem_cons_self ..)) with e | mx
      · exact e
      · rcases List.mem_cons.mp ((h y).mpr (List.mem_cons_self ..)) with e | my
        · exact e.symm
        · exact absurd (yb x mx) (irr _ _ (xa y my))
    subst e
    have t : a = b := asc_one ha' hb' fun q => by
      constructor
      · intro m
        rcases List.mem_cons.mp ((h q).mp (List.mem_cons_of_mem _ m)) with e | m'
        · exact absurd (e ▸ xa q m) (self _)
        · exact m'
      · intro m
        rcases List.mem_cons.mp ((h q).mpr (List.mem_cons_of_mem _ m)) with e | m'
        · exact absurd (e ▸ yb q m) (self _)
        · exact m'
    rw [t]
theorem eqv_cells : ∀ M : List (Addr × Cell), PyData.eqv (.tuple (M.map fun q => cellD q.2)) (.tuple (M.map fun q => cellD q.2)) = true := fun M => by
  have all : ∀ M : List (Addr × Cell), PyData.eqvAll (M.map fun q => cellD q.2) (M.map fun q => cellD q.2) = true := fun M => by
    induction M with
    | nil => rfl
    | cons q M ih =>
      show (PyData.eqv (cellD q.2) (cellD q.2) && PyData.eqvAll (M.map fun q => cellD q.2) (M.map fun q => cellD q.2)) = true
      rw [ih, cell_eqv, decide_eq_true rfl]
      rfl
  exact all M
theorem cells8_img {n r c : Int} (y : Cell) (hy : y ∈ cells8 n r c) (z : Cell) : z ∈ cells8 n y.1 y.2 ↔ z ∈ cells8 n r c := by
  unfold cells8 at hy ⊢
  have inv : ∀ x : Int, n - 1 - (n - 1 - x) = x := fun x => by omega
  simp only [List.mem_cons, List.not_mem_nil, or_false] at hy
  rcases hy with rfl | rfl | rfl | rfl | rfl | rfl | rfl | rfl <;> simp only [inv, List.mem_cons, List.not_mem_nil, or_false] <;> constructor <;> (intro h; rcases h with h | h | h | h | h | h | h | h <;> simp [h])
def spNums : Sp := fun vs H Q _ => ∃ n i j : Int, vs = [.int n, .int i, .int j] ∧ ∀ d H', Same H H' → H' d = some (.dK (numK n i j)) → Q (.ref d) H'
def spCellAt : Sp := fun vs H Q _ => ∃ (k : Nat) (d : Addr) (n r c : Int) (q : Cell), vs = [.str (placesS.getD k ""), .ref d] ∧ k < 8 ∧ H d = some (.dK (numK n r c)) ∧ (cells8 n r c)[k]? = some q ∧
  ∀ t H', Same H H' → H' t = some (.tup [.int q.1, .int q.2]) → Q (.ref t) H'
def spImages : Sp := fun vs H Q _ => ∃ (n : Int) (t : Addr) (q : Cell), vs = [.int n, .ref t] ∧ H t = some (.tup [.int q.1, .int q.2]) ∧ InN n q ∧ n ≤ big ∧
  ∀ (p : Addr) (L : List (Addr × Cell)) (H' : Hp), Same H H' → H' p = some (.tup (refs L)) → PL H' L → L.length ≤ 8 → (L.map (·.2)).Pairwise lexlt → (∀ c, c ∈ L.map (·.2) ↔ c ∈ cells8 n q.1 q.2) → Q (.ref p) H'
end Sq
namespace Sq
open PySem
/-- the four numbers, ascending: the first and the last add up to n - 1, so do the two between -/
theorem four_sum {n r c x y z w : Int} (p : [x, y, z, w].Perm [r, c, n - 1 - r, n - 1 - c]) (h1 : x ≤ y) (h2 : y ≤ z) (h3 : z ≤ w) : x + w = n - 1 ∧ y + z = n - 1 := by
  have mx : x ∈ [r, c, n - 1 - r, n - 1 - c] := p.mem_iff.mp (by simp)
  have my : y ∈ [r, c, n - 1 - r, n - 1 - c] := p.mem_iff.mp (by simp)
  have mz : z ∈ [r, c, n - 1 - r, n - 1 - c] := p.mem_iff.mp (by simp)
  have mw : w ∈ [r, c, n - 1 - r, n - 1 - c] := p.mem_iff.mp (by simp)
  have nr : r ∈ [x, y, z, w] := p.mem_iff.mpr (by simp)
  have nc : c ∈ [x, y, z, w] := p.mem_iff.mpr (by simp)
  have nr' : n - 1 - r ∈ [x, y, z, w] := p.mem_iff.mpr (by simp)
  have nc' : n - 1 - c ∈ [x, y, z, w] := p.mem_iff.mpr (by simp)
  have s : x + (y + (z + (w + 0))) = r + (c + ((n - 1 - r) + ((n - 1 - c) + 0))) := by
    exact p.foldr_eq' (f := fun a b : Int => a + b) (fun a _ b _ z => by omega) 0
  simp only [List.mem_cons, List.not_mem_nil, or_false] at mx my mz mw nr nc nr' nc'
  rcases mx with e1 | e1 | e1 | e1 <;> rcases mw with e2 | e2 | e2 | e2 <;> omega
theorem four_who {n r c x y z w : Int} (p : [x, y, z, w].Perm [r, c, n - 1 - r, n - 1 - c]) (h1 : x ≤ y) (h2 : y ≤ z) (h3 : z ≤ w) :
    ((r = x ∨ r = w) ∧ (c = y ∨ c = z)) ∨ ((r = y ∨ r = z) ∧ (c = x ∨ c = w)) := by
  obtain ⟨s1, s2⟩ := four_sum p h1 h2 h3
  have my : y ∈ [r, c, n - 1 - r, n - 1 - c] := p.mem_iff.mp (by simp)
  have mx : x ∈ [r, c, n - 1 - r, n - 1 - c] := p.mem_iff.mp (by simp)
  have nr : r ∈ [x, y, z, w] := p.mem_iff.mpr (by simp)
  have nc : c ∈ [x, y, z, w] := p.mem_iff.mpr (by simp)
  simp only [List.mem_cons, List.not_mem_nil, or_false] at mx my nr nc
  rcases nr with e1 | e1 | e1 | e1 <;> rcases nc with e2 | e2 | e2 | e2 <;> omega
theorem cells_sorted {n r c x y z w : Int} (p : [x, y, z, w].Perm [r, c, n - 1 - r, n - 1 - c]) (h1 : x ≤ y) (h2 : y ≤ z) (h3 : z ≤ w) (q : Cell) :
    q ∈ [(x, y), (x, z), (y, x), (y, w), (z, x), (z, w), (w, y), (w, z)] ↔ q ∈ cells8 n r c := by
  obtain ⟨s1, s2⟩ := four_sum p h1 h2 h3
  have ew : w = n - 1 - x := by omega
  have ez : z = n - 1 - y := by omega
  have who := four_who p h1 h2 h3
  clear p h1 h2 h3 s1 s2
  subst ew ez
  have inv : ∀ x : Int, n - 1 - (n - 1 - x) = x := fun x => by omega
  unfold cells8
  rcases who with ⟨e1 | e1, e2 | e2⟩ | ⟨e1 | e1, e2 | e2⟩ <;> subst e1 e2 <;> simp only [inv, List.mem_cons, List.not_mem_nil, or_false] <;> constructor <;> (intro h; rcases h with h | h | h | h | h | h | h | h <;> simp [h])
end Sq
namespace Sq
open PySem L2
/-- what images_of answers: a new tuple of the cell's different images, ascending -/
def spImOf : Sp := fun vs H Q _ => ∃ (n r c : Int), vs = [.int n, .int r, .int c] ∧ InN n (r, c) ∧ n ≤ big ∧
  ∀ (p : Addr) (L : List (Addr × Cell)) (H' : Hp), Same H H' → H' p = some (.tup (refs L)) → PL H' L → L.length ≤ 8 → (L.map (·.2)).Pairwise lexlt → (∀ q, q ∈ L.map (·.2) ↔ q ∈ cells8 n r c) → Q (.ref p) H'
section
variable {n r c x y z w : Int}
theorem asc8 (s : x + w = y + z) (h1 : x < y) (h2 : y < z) : [(x, y), (x, z), (y, x), (y, w), (z, x), (z, w), (w, y), (w, z)].Pairwise lexlt := by
  refine List.Pairwise.cons (fun q hq => ?_) ?_
  · simp only [List.mem_cons, List.not_mem_nil, or_false] at hq
    rcases hq with rfl | rfl | rfl | rfl | rfl | rfl | rfl <;> (unfold lexlt; dsimp only; omega)
  refine List.Pairwise.cons (fun q hq => ?_) ?_
  · simp only [List.mem_cons, List.not_mem_nil, or_false] at hq
    rcases hq with rfl | rfl | rfl | rfl | rfl | rfl <;> (unfold lexlt; dsimp only; omega)
  refine List.Pairwise.cons (fun q hq => ?_) ?_
  · simp only [List.mem_cons, List.not_mem_nil, or_false] at hq
    rcases hq with rfl | rfl | rfl | rfl | rfl <;> (unfold lexlt; dsimp only; omega)
  refine List.Pairwise.cons (fun q hq => ?_) ?_
  · simp only [List.mem_cons, List.not_mem_nil, or_false] at hq
    rcases hq with rfl | rfl | rfl | rfl <;> (unfold lexlt; dsimp only; omega)
  refine List.Pairwise.cons (fun q hq => ?_) ?_
  · simp only [List.mem_cons, List.not_mem_nil, or_false] at hq
    rcases hq with rfl | rfl | rfl <;> (unfold lexlt; dsimp only; omega)
  refine List.Pairwise.cons (fun q hq => ?_) ?_
  · simp only [List.mem_cons, List.not_mem_nil, or_false] at hq
    rcases hq with rfl | rfl <;> (unfold lexlt; dsimp only; omega)
  refine List.Pairwise.cons (fun q hq => ?_) ?_
  · simp only [List.mem_cons, List.not_mem_nil, or_false] at hq
    rcases hq with rfl <;> (unfold lexlt; dsimp only; omega)
  refine List.Pairwise.cons (fun q hq => by cases hq) ?_
  exact .nil
theorem asc4m (s : x + w = y + y) (h1 : x < y) : [(x, y), (y, x), (y, w), (w, y)].Pairwise lexlt := by
  refine List.Pairwise.cons (fun q hq => ?_) ?_
  · simp only [List.mem_cons, List.not_mem_nil, or_false] at hq
    rcases hq with rfl | rfl | rfl <;> (unfold lexlt; dsimp only; omega)
  refine List.Pairwise.cons (fun q hq => ?_) ?_
  · simp only [List.mem_cons, List.not_mem_nil, or_false] at hq
    rcases hq with rfl | rfl <;> (unfold lexlt; dsimp only; omega)
  refine List.Pairwise.cons (fun q hq => ?_) ?_
  · simp only [List.mem_cons, List.not_mem_nil, or_false] at hq
    rcases hq with rfl <;> (unfold lexlt; dsimp only; omega)
  refine List.Pairwise.cons (fun q hq => by cases hq) ?_
  exact .nil
theorem asc4d (h1 : x < w) : [(x, x), (x, w), (w, x), (w, w)].Pairwise lexlt := by
  refine List.Pairwise.cons (fun q hq => ?_) ?_
  · simp only [List.mem_cons, List.not_mem_nil, or_false] at hq
    rcases hq with rfl | rfl | rfl <;> (unfold lexlt; dsimp only; omega)
  refine List.Pairwise.cons (fun q hq => ?_) ?_
  · simp only [List.mem_cons, List.not_mem_nil, or_false] at hq
    rcases hq with rfl | rfl <;> (unfold lexlt; dsimp only; omega)
  refine List.Pairwise.cons (fun q hq => ?_) ?_
  · simp only [List.mem_cons, List.not_mem_nil, or_false] at hq
    rcases hq with rfl <;> (unfold lexlt; dsimp only; omega)
  refine List.Pairwise.cons (fun q hq => by cases hq) ?_
  exact .nil
theorem mem4m (p : [x, y, y, w].Perm [r, c, n - 1 - r, n - 1 - c]) (h1 : x ≤ y) (h3 : y ≤ w) (q : Cell) : q ∈ [(x, y), (y, x), (y, w), (w, y)] ↔ q ∈ cells8 n r c := by
  rw [← cells_sorted p h1 (Int.le_refl _) h3]
  simp only [List.mem_cons, List.not_mem_nil, or_false]
  constructor
  · intro h
    rcases h with h | h | h | h <;> simp [h]
  · intro h
    rcases h with h | h | h | h | h | h | h | h <;> simp [h]
theorem mem4d (p : [x, x, w, w].Perm [r, c, n - 1 - r, n - 1 - c]) (h2 : x ≤ w) (q : Cell) : q ∈ [(x, x), (x, w), (w, x), (w, w)] ↔ q ∈ cells8 n r c := by
  rw [← cells_sorted p (Int.le_refl _) h2 (Int.le_refl _)]
  simp only [List.mem_cons, List.not_mem_nil, or_false]
  constructor
  · intro h
    rcases h with h | h | h | h <;> simp [h]
  · intro h
    rcases h with h | h | h | h | h | h | h | h <;> simp [h]
theorem mem1 (p : [x, x, x, x].Perm [r, c, n - 1 - r, n - 1 - c]) (q : Cell) : q ∈ [(x, x)] ↔ q ∈ cells8 n r c := by
  rw [← cells_sorted p (Int.le_refl _) (Int.le_refl _) (Int.le_refl _)]
  simp only [List.mem_cons, List.not_mem_nil, or_false]
  constructor
  · intro h
    simp [h]
  · intro h
    rcases h with h | h | h | h | h | h | h | h <;> exact h
end
end Sq
namespace Sq
open PySem L2
def rowS (n : Int) (b : Nat) : Nat → Int
  | 0 => 0
  | c + 1 => rowS n b c + cntN n 0 (b : Int) (c : Int)
def allS (n : Int) : Nat → Int
  | 0 => 0
  | b + 1 => allS n b + rowS n b 4
theorem tri (t : Int) : (t + 1) * (t + 2) / 2 = t * (t + 1) / 2 + (t + 1) := by
  have e : (t + 1) * (t + 2) = t * (t + 1) + (t + 1) * 2 := by
    rw [Int.mul_comm t (t + 1), ← Int.mul_add]
  rw [e]
  omega
theorem ring (n : Int) (hn : 1 ≤ n) (b c : Nat) (hb : b < 3) (hc : c < 4) : cntN (n + 2) 1 b c = cntN n 0 b c + cntN n 1 b c := by
  have hb' : b = 0 ∨ b = 1 ∨ b = 2 := by omega
  have hc' : c = 0 ∨ c = 1 ∨ c = 2 ∨ c = 3 := by omega
  have key : grpN (n + 2) 1 b c = grpN n 0 b c + grpN n 1 b c := by
    rcases hb' with rfl | rfl | rfl <;> rcases hc' with rfl | rfl | rfl | rfl
    all_goals unfold grpN leastN waysN openN
    all_goals simp [-Int.reduceNeg, List.count_cons]
    all_goals try (repeat' split) <;> omega
    by_cases h8 : n - 8 < 0
    · rw [if_pos (by omega), if_pos h8, if_pos (by omega)]
      rfl
    rw [if_neg (by omega), if_neg h8]
    by_cases h10 : n - 10 < 0
    · rw [if_pos h10]
      have h : n = 8 ∨ n = 9 := by omega
      rcases h with rfl | rfl <;> decide
    rw [if_neg h10]
    have e1 : (n + 2 - 10) / 2 = (n - 10) / 2 + 1 := by omega
    have e2 : (n - 8) / 2 = (n - 10) / 2 + 1 := by omega
    rw [e1, e2]
    have t := tri ((n - 10) / 2 + 1)
    have e3 : (n - 10) / 2 + 1 + 1 = (n - 10) / 2 + 2 := by omega
    rw [t, e3]
    omega
  unfold cntN
  rw [key, Int.add_mul]
theorem at_big {n : Int} (h : 9 ≤ n) : cntN n 0 0 0 = 0 ∧ cntN n 0 0 1 = 0 ∧ cntN n 0 0 2 = 0 ∧ cntN n 0 0 3 = 4 ∧ cntN n 0 1 0 = 0 ∧ cntN n 0 1 1 = 0 ∧ cntN n 0 1 2 = 0 ∧ cntN n 0 1 3 = 8 ∧
    cntN n 0 2 0 = (if n % 2 = 1 then 4 else 0) ∧ cntN n 0 2 1 = (if n % 2 = 1 then 0 else 8) ∧ cntN n 0 2 2 = (if n % 2 = 1 then 8 else 0) ∧ cntN n 0 2 3 = ((n - 8) / 2 + 1) * 8 := by
  unfold cntN grpN leastN waysN openN imgN
  simp
  refine ⟨?_, ?_, ?_, ?_, ?_, ?_, ?_, ?_, ?_, ?_, ?_, ?_⟩
  all_goals (repeat' split) <;> omega
theorem small_of {n : Int} (h1 : 1 ≤ n) (h2 : n < 9) : n = 1 ∨ n = 2 ∨ n = 3 ∨ n = 4 ∨ n = 5 ∨ n = 6 ∨ n = 7 ∨ n = 8 := by omega
theorem border (n : Int) (hn : 1 ≤ n) : allS n 3 = if 1 < n then 4 * n - 4 else 1 := by
  by_cases h : n < 9
  · rcases small_of hn h with rfl | rfl | rfl | rfl | rfl | rfl | rfl | rfl <;> decide
  · obtain ⟨h1, h2, h3, h4, h5, h6, h7, h8, h9, h10, h11, h12⟩ := at_big (n := n) (by omega)
    show 0 + (0 + cntN n 0 0 0 + cntN n 0 0 1 + cntN n 0 0 2 + cntN n 0 0 3) + (0 + cntN n 0 1 0 + cntN n 0 1 1 + cntN n 0 1 2 + cntN n 0 1 3) + (0 + cntN n 0 2 0 + cntN n 0 2 1 + cntN n 0 2 2 + cntN n 0 2 3) = _
    rw [h1, h2, h3, h4, h5, h6, h7, h8, h9, h10, h11, h12]
    split <;> split <;> omega
theorem c003 {n : Int} (h : 3 < n) : cntN n 0 0 3 = 4 := by
  by_cases g : n < 9
  · rcases small_of (by omega) g with rfl | rfl | rfl | rfl | rfl | rfl | rfl | rfl <;> first | decide | omega
  · exact (at_big (by omega)).2.2.2.1
theorem c020 {n : Int} (h : 4 < n) : cntN n 0 2 0 = if n % 2 = 1 then 4 else 0 := by
  by_cases g : n < 9
  · rcases small_of (by omega) g with rfl | rfl | rfl | rfl | rfl | rfl | rfl | rfl <;> first | decide | omega
  · exact (at_big (by omega)).2.2.2.2.2.2.2.2.1
theorem c021 {n : Int} (h : 8 ≤ n) : cntN n 0 2 1 = if n % 2 = 1 then 0 else 8 := by
  by_cases g : n < 9
  · rcases small_of (by omega) g with rfl | rfl | rfl | rfl | rfl | rfl | rfl | rfl <;> first | decide | omega
  · exact (at_big (by omega)).2.2.2.2.2.2.2.2.2.1
theorem c022 {n : Int} (h : 8 ≤ n) : cntN n 0 2 2 = if n % 2 = 1 then 8 else 0 := by
  by_cases g : n < 9
  · rcases small_of (by omega) g with rfl | rfl | rfl | rfl | rfl | rfl | rfl | rfl <;> first | decide | omega
  · exact (at_big (by omega)).2.2.2.2.2.2.2.2.2.2.1
theorem c013 {n : Int} (h : 8 ≤ n) : cntN n 0 1 3 = 8 := by
  by_cases g : n < 9
  · rcases small_of (by omega) g with rfl | rfl | rfl | rfl | rfl | rfl | rfl | rfl <;> first | decide | omega
  · exact (at_big (by omega)).2.2.2.2.2.2.2.1
end Sq
namespace Sq
open PySem L2
abbrev Kind := Int × Int × Int
def keyOf (k : Kind) : List L2.Key := [.inl k.1, .inl k.2.1, .inl k.2.2]
theorem keyOf_inj {a b : Kind} (h : keyOf a = keyOf b) : a = b := by
  unfold keyOf at h
  simp only [List.cons.injEq, Sum.inl.injEq, and_true] at h
  exact Prod.ext h.1 (Prod.ext h.2.1 h.2.2)
/-- the kind of a cell, reckoned out -/
def lo (a b : Int) : Int := if a ≤ b then a else b
def hi (a b : Int) : Int := if a ≤ b then b else a
def kindF (n r c : Int) : Kind :=
  (mn (lo (lo r (n - 1 - r)) (lo c (n - 1 - c))) 1, mn (hi (lo r (n - 1 - r)) (lo c (n - 1 - c)) - lo (lo r (n - 1 - r)) (lo c (n - 1 - c))) 2, mn (n - 1 - hi (lo r (n - 1 - r)) (lo c (n - 1 - c)) - hi (lo r (n - 1 - r)) (lo c (n - 1 - c))) 3)
theorem kindF_eq (n r c : Int) : kindN n r c = kindF n r c := by
  have main : ∀ a b : Int, a ≤ n - 1 - a → b ≤ n - 1 - b → [a, b, n - 1 - a, n - 1 - b].Perm (nums n r c) → kindN n r c = (mn (lo a b) 1, mn (hi a b - lo a b) 2, mn (n - 1 - hi a b - hi a b) 3) := fun a b ha hb pm => by
    unfold kindN
    by_cases h : a ≤ b
    · have e : srt (nums n r c) = [a, b, n - 1 - b, n - 1 - a] := by
        refine (srt_of (((List.Perm.swap _ _ _).cons _ |>.cons _).trans pm) ?_).symm
        simp only [List.pairwise_cons, List.mem_cons, List.not_mem_nil, or_false, forall_eq_or_imp, forall_eq, false_imp_iff, implies_true, List.Pairwise.nil, and_true]
        omega
      rw [e]
      unfold kindL lo hi
      rw [if_pos h, if_pos h]
    · have e : srt (nums n r c) = [b, a, n - 1 - a, n - 1 - b] := by
        refine (srt_of ((List.Perm.swap _ _ _).trans pm) ?_).symm
        simp only [List.pairwise_cons, List.mem_cons, List.not_mem_nil, or_false, forall_eq_or_imp, forall_eq, false_imp_iff, implies_true, List.Pairwise.nil, and_true]
        omega
      rw [e]
      unfold kindL lo hi
      rw [if_neg h, if_neg h]
  unfold kindF
  have inv : ∀ x : Int, n - 1 - (n - 1 - x) = x := fun x => by omega
  have s1 : ∀ (a b c d : Int), [a, d, c, b].Perm [a, b, c, d] := fun a b c d => by
    refine .cons _ ?_
    exact (List.Perm.swap _ _ _).trans (((List.Perm.swap _ _ _).cons _).trans (List.Perm.swap _ _ _))
  have s2 : ∀ (a b c d : Int), [c, b, a, d].Perm [a, b, c, d] := fun a b c d => by
    exact (List.Perm.swap _ _ _).trans (((List.Perm.swap _ _ _).cons _).trans (List.Perm.swap _ _ _))
  by_cases hr : r ≤ n - 1 - r
  · have e1 : lo r (n - 1 - r) = r := if_pos hr
    rw [e1]
    by_cases hc : c ≤ n - 1 - c
    · have e2 : lo c (n - 1 - c) = c := if_pos hc
      rw [e2]
      exact main r c hr hc (.refl _)
    · have e2 : lo c (n - 1 - c) = n - 1 - c := if_neg hc
      rw [e2]
      refine main r (n - 1 - c) hr (by rw [inv]; omega) ?_
      rw [inv]
      exact s1 _ _ _ _
  · have e1 : lo r (n - 1 - r) = n - 1 - r := if_neg hr
    rw [e1]
    by_cases hc : c ≤ n - 1 - c
    · have e2 : lo c (n - 1 - c) = c := if_pos hc
      rw [e2]
      refine main (n - 1 - r) c (by rw [inv]; omega) hc ?_
      rw [inv]
      exact s2 _ _ _ _
    · have e2 : lo c (n - 1 - c) = n - 1 - c := if_neg hc
      rw [e2]
      refine main (n - 1 - r) (n - 1 - c) (by rw [inv]; omega) (by rw [inv]; omega) ?_
      rw [inv, inv]
      exact (s1 _ _ _ _).trans (s2 _ _ _ _)
/-- the cells of a table up to row i, and of row i up to column j -/
def rowC (i j : Nat) : List Cell := (List.range j).map fun c : Nat => ((i : Int), (c : Int))
def tabC (N i j : Nat) : List Cell := (List.range i).flatMap (fun r => rowC r N) ++ rowC i j
theorem rowC_succ (i j : Nat) : rowC i (j + 1) = rowC i j ++ [((i : Int), (j : Int))] := by
  unfold rowC
  rw [List.range_succ, List.map_append]
  rfl
theorem tabC_succ (N i j : Nat) : tabC N i (j + 1) = tabC N i j ++ [((i : Int), (j : Int))] := by
  unfold tabC
  rw [rowC_succ, List.append_assoc]
theorem tabC_row (N i : Nat) : tabC N (i + 1) 0 = tabC N i N := by
  unfold tabC
  rw [List.range_succ, List.flatMap_append]
  show (_ ++ (rowC i N ++ [])) ++ [] = _
  rw [List.append_nil, List.append_nil]
def cntC (n : Int) (cs : List Cell) (k : Kind) : Int := (cs.countP (fun q => decide (kindN n q.1 q.2 = k)) : Nat)
theorem cntC_snoc (n : Int) (cs : List Cell) (q : Cell) (k : Kind) : cntC n (cs ++ [q]) k = cntC n cs k + (if kindN n q.1 q.2 = k then 1 else 0) := by
  unfold cntC
  rw [List.countP_append, List.countP_singleton]
  by_cases h : kindN n q.1 q.2 = k
  · rw [decide_eq_true h, if_pos h, if_pos rfl]
    omega
  · rw [decide_eq_false h, if_neg h, if_neg (by decide)]
    omega
/-- a dict that tells how many cells there are of each kind -/
def Met (n : Int) (kvs : List (List L2.Key × V)) (cs : List Cell) : Prop := ∀ k : Kind, (valV kvs (keyOf k)).getD (.int 0) = .int (cntC n cs k)
theorem met_nil (n : Int) : Met n [] [] := fun _ => rfl
theorem met_put {n : Int} {kvs : List (List L2.Key × V)} {cs : List Cell} (h : Met n kvs cs) (q : Cell) : Met n (putK kvs (keyOf (kindN n q.1 q.2)) (.int (cntC n cs (kindN n q.1 q.2) + 1))) (cs ++ [q]) := fun k => by
  rw [valV_put, cntC_snoc]
  by_cases e : kindN n q.1 q.2 = k
  · rw [if_pos (congrArg keyOf e.symm), if_pos e, e]
    rfl
  · rw [if_neg (fun z => e (keyOf_inj z).symm), if_neg e, Int.add_zero]
    exact h k
def all24 : List Kind := [(0,0,0),(0,0,1),(0,0,2),(0,0,3),(0,1,0),(0,1,1),(0,1,2),(0,1,3),(0,2,0),(0,2,1),(0,2,2),(0,2,3),(1,0,0),(1,0,1),(1,0,2),(1,0,3),(1,1,0),(1,1,1),(1,1,2),(1,1,3),(1,2,0),(1,2,1),(1,2,2),(1,2,3)]
theorem all24_R : ∀ k ∈ all24, KindR k.1 k.2.1 k.2.2 := by
  unfold KindR
  decide
def cntF (n : Int) (cs : List Cell) (k : Kind) : Nat := cs.countP fun q => decide (kindF n q.1 q.2 = k)
theorem cntF_eq (n : Int) (cs : List Cell) (k : Kind) : cntC n cs k = (cntF n cs k : Int) := by
  unfold cntC cntF
  refine congrArg Int.ofNat (congrArg (fun f => List.countP f cs) ?_)
  funext q
  rw [kindF_eq]
theorem small_all : ∀ N : _root_.Fin 15, N.val = 0 ∨ ∀ k ∈ all24, (cntF (N.val : Int) (tabC N.val N.val 0) k : Int) = cntN (N.val : Int) k.1 k.2.1 k.2.2 := by decide +kernel
theorem small_cnt {N : Nat} (h1 : 1 ≤ N) (h2 : N < 15) : ∀ k ∈ all24, cntC (N : Int) (tabC N N 0) k = cntN (N : Int) k.1 k.2.1 k.2.2 := fun k hk => by
  rw [cntF_eq]
  rcases small_all ⟨N, h2⟩ with h | h
  · have h : N = 0 := h
    omega
  · exact h k hk
/-- all the cells of a table -/
def total (n : Int) : Int := (all24.map fun k => cntN n k.1 k.2.1 k.2.2).sum
def inner (n : Int) : Int := ((all24.drop 12).map fun k => cntN n k.1 k.2.1 k.2.2).sum
theorem total_eq (n : Int) : total n = allS n 3 + inner n := by
  have e : ∀ a b c d e f g h i j k l m : Int, a + (b + (c + (d + (e + (f + (g + (h + (i + (j + (k + (l + m))))))))))) = 0 + (0 + a + b + c + d) + (0 + e + f + g + h) + (0 + i + j + k + l) + m := by
    intro a b c d e f g h i j k l m
    omega
  exact e _ _ _ _ _ _ _ _ _ _ _ _ _
theorem inner_step (n : Int) (hn : 1 ≤ n) : inner (n + 2) = total n := by
  have r : ∀ b c : Nat, b < 3 → c < 4 → cntN (n + 2) 1 b c = cntN n 0 b c + cntN n 1 b c := fun b c hb hc => ring n hn b c hb hc
  show cntN (n + 2) 1 0 0 + (cntN (n + 2) 1 0 1 + (cntN (n + 2) 1 0 2 + (cntN (n + 2) 1 0 3 + (cntN (n + 2) 1 1 0 + (cntN (n + 2) 1 1 1 + (cntN (n + 2) 1 1 2 + (cntN (n + 2) 1 1 3 + (cntN (n + 2) 1 2 0 + (cntN (n + 2) 1 2 1 + (cntN (n + 2) 1 2 2 + (cntN (n + 2) 1 2 3 + 0))))))))))) =
    cntN n 0 0 0 + (cntN n 0 0 1 + (cntN n 0 0 2 + (cntN n 0 0 3 + (cntN n 0 1 0 + (cntN n 0 1 1 + (cntN n 0 1 2 + (cntN n 0 1 3 + (cntN n 0 2 0 + (cntN n 0 2 1 + (cntN n 0 2 2 + (cntN n 0 2 3 + (
    cntN n 1 0 0 + (cntN n 1 0 1 + (cntN n 1 0 2 + (cntN n 1 0 3 + (cntN n 1 1 0 + (cntN n 1 1 1 + (cntN n 1 1 2 + (cntN n 1 1 3 + (cntN n 1 2 0 + (cntN n 1 2 1 + (cntN n 1 2 2 + (cntN n 1 2 3 + 0)))))))))))))))))))))))
  have h1 : cntN (n + 2) 1 0 0 = cntN n 0 0 0 + cntN n 1 0 0 := r 0 0 (by decide) (by decide)
  have h2 : cntN (n + 2) 1 0 1 = cntN n 0 0 1 + cntN n 1 0 1 := r 0 1 (by decide) (by decide)
  have h3 : cntN (n + 2) 1 0 2 = cntN n 0 0 2 + cntN n 1 0 2 := r 0 2 (by decide) (by decide)
  have h4 : cntN (n + 2) 1 0 3 = cntN n 0 0 3 + cntN n 1 0 3 := r 0 3 (by decide) (by decide)
  have h5 : cntN (n + 2) 1 1 0 = cntN n 0 1 0 + cntN n 1 1 0 := r 1 0 (by decide) (by decide)
  have h6 : cntN (n + 2) 1 1 1 = cntN n 0 1 1 + cntN n 1 1 1 := r 1 1 (by decide) (by decide)
  have h7 : cntN (n + 2) 1 1 2 = cntN n 0 1 2 + cntN n 1 1 2 := r 1 2 (by decide) (by decide)
  have h8 : cntN (n + 2) 1 1 3 = cntN n 0 1 3 + cntN n 1 1 3 := r 1 3 (by decide) (by decide)
  have h9 : cntN (n + 2) 1 2 0 = cntN n 0 2 0 + cntN n 1 2 0 := r 2 0 (by decide) (by decide)
  have h10 : cntN (n + 2) 1 2 1 = cntN n 0 2 1 + cntN n 1 2 1 := r 2 1 (by decide) (by decide)
  have h11 : cntN (n + 2) 1 2 2 = cntN n 0 2 2 + cntN n 1 2 2 := r 2 2 (by decide) (by decide)
  have h12 : cntN (n + 2) 1 2 3 = cntN n 0 2 3 + cntN n 1 2 3 := r 2 3 (by decide) (by decide)
  rw [h1, h2, h3, h4, h5, h6, h7, h8, h9, h10, h11, h12]
  omega
theorem total_sq : ∀ m : Nat, total ((m + 1 : Nat) : Int) = ((m + 1 : Nat) : Int) * ((m + 1 : Nat) : Int) ∧ total ((m + 2 : Nat) : Int) = ((m + 2 : Nat) : Int) * ((m + 2 : Nat) : Int)
  | 0 => by decide +kernel
  | m + 1 => by
    obtain ⟨h1, h2⟩ := total_sq m
    refine ⟨h2, ?_⟩
    have e : ((m + 1 + 2 : Nat) : Int) = ((m + 1 : Nat) : Int) + 2 := by omega
    rw [e, total_eq, inner_step _ (by omega), border _ (by omega), h1, if_pos (by omega)]
    have e2 : ∀ x : Int, (x + 2) * (x + 2) = x * x + (4 * x + 4) := fun x => by
      rw [Int.add_mul, Int.mul_add, Int.mul_comm x 2]
      omega
    rw [e2]
    omega
theorem total_of {n : Int} (h : 1 ≤ n) : total n = n * n := by
  obtain ⟨m, rfl⟩ := Int.eq_ofNat_of_zero_le (show 0 ≤ n - 1 by omega) |>.imp fun m e => (show n = ((m + 1 : Nat) : Int) by omega)
  exact (total_sq m).1
theorem waysN_nn {p : Nat} {t : Int} (h : 0 ≤ t) : 0 ≤ waysN p t := by
  unfold waysN
  have h2 : 0 ≤ (t + 1) * (t + 2) := Int.mul_nonneg (by omega) (by omega)
  split
  · split <;> decide
  · split
    · decide
    · split <;> omega
theorem cntN_nn (n a b c : Int) : 0 ≤ cntN n a b c := by
  unfold cntN
  refine Int.mul_nonneg ?_ ?_
  · unfold grpN
    split
    · decide
    · split
      · exact waysN_nn (by omega)
      · split
        · exact waysN_nn (by omega)
        · decide
  · unfold imgN
    split
    · decide
    · split <;> decide
/-- kinds that stand at their places -/
def PK (H : Hp) (L : List (Addr × Kind)) : Prop := ∀ q ∈ L, KindAt H q.1 q.2.1 q.2.2.1 q.2.2.2
def refK (L : List (Addr × Kind)) : List V := L.map fun q => V.ref q.1
theorem PK.same {H H' : Hp} {L : List (Addr × Kind)} (h : PK H L) (s : Same H H') : PK H' L := fun q hq => s _ _ (h q hq)
def spAllK : Sp := fun vs H Q _ => vs = [] ∧ ∀ (p : Addr) (L : List (Addr × Kind)) (H' : Hp), Same H H' → H' p = some (.lst (refK L)) → PK H' L → L.map (·.2) = all24 → Q (.ref p) H'
end Sq
namespace Sq
open PySem L2
/-- the kinds of a table's cells, ascending -/
def kindsN (n : Int) : List Kind := all24.filter fun k => decide (0 < grpN n k.1 k.2.1 k.2.2)
theorem waysN_pos {p : Nat} {t : Int} (h : 0 ≤ t) : 0 < waysN (p + 1) t := by
  unfold waysN
  rw [if_neg (Nat.succ_ne_zero p)]
  split
  · decide
  · split
    · omega
    · have h2 : 2 ≤ (t + 1) * (t + 2) := by
        have h3 : (0 + 1) * (0 + 2) ≤ (t + 1) * (t + 2) := Int.mul_le_mul (by omega) (by omega) (by decide) (by omega)
        exact h3
      omega
/-- whether there are such cells -/
def hasK (n a b c : Int) : Prop := 0 ≤ n - leastN a b c ∧ (c = 3 ∨ ((n - leastN a b c) % 2 = 0 ∧ (a = 1 ∨ b = 2 ∨ n - leastN a b c < 2)))
theorem grp_pos (n a b c : Int) : 0 < grpN n a b c ↔ hasK n a b c := by
  unfold grpN hasK
  generalize n - leastN a b c = r
  by_cases h0 : r < 0
  · rw [if_pos h0]
    constructor
    · intro h
      omega
    · intro h
      omega
  rw [if_neg h0]
  by_cases h3 : c = 3
  · rw [if_pos h3]
    constructor
    · exact fun _ => ⟨by omega, .inl h3⟩
    · exact fun _ => waysN_pos (by omega)
  rw [if_neg h3]
  by_cases h2 : r % 2 = 0
  · rw [if_pos h2]
    by_cases ho : a = 1 ∨ b = 2
    · have e : ∃ m, openN a b = m + 1 := by
        unfold openN
        by_cases ha : a = 1 <;> by_cases hb : b = 2
        · exact ⟨1, by simp [ha, hb]⟩
        · exact ⟨0, by simp [ha, hb]⟩
        · exact ⟨0, by simp [ha, hb]⟩
        · exact absurd ho (fun z => z.elim ha hb)
      obtain ⟨m, e⟩ := e
      rw [e]
      constructor
      · exact fun _ => ⟨by omega, .inr ⟨h2, ho.elim .inl fun z => .inr (.inl z)⟩⟩
      · exact fun _ => waysN_pos (by omega)
    · have e : openN a b = 0 := by
        unfold openN
        simp [not_or.mp ho]
      rw [e]
      unfold waysN
      rw [if_pos rfl]
      constructor
      · intro h
        by_cases z : r / 2 = 0
        · exact ⟨by omega, .inr ⟨h2, .inr (.inr (by omega))⟩⟩
        · rw [if_neg z] at h
          omega
      · rintro ⟨_, z | ⟨_, z | z | z⟩⟩
        · exact absurd z h3
        · exact absurd (.inl z) ho
        · exact absurd (.inr z) ho
        · rw [if_pos (by omega)]
          decide
  · rw [if_neg h2]
    constructor
    · intro h
      omega
    · rintro ⟨_, z | z⟩
      · exact absurd z h3
      · exact absurd z.1 h2
theorem kinds_far {n : Int} (h : 12 ≤ n) : kindsN n = kindsN (10 + n % 2) := by
  unfold kindsN
  refine List.filter_congr fun k hk => ?_
  have e : hasK n k.1 k.2.1 k.2.2 ↔ hasK (10 + n % 2) k.1 k.2.1 k.2.2 := by
    obtain ⟨⟨a0, a1⟩, ⟨b0, b1⟩, c0, c1⟩ := all24_R k hk
    unfold hasK leastN
    omega
  by_cases h1 : 0 < grpN n k.1 k.2.1 k.2.2
  · rw [decide_eq_true h1, decide_eq_true ((grp_pos _ _ _ _).mpr (e.mp ((grp_pos _ _ _ _).mp h1)))]
  · rw [decide_eq_false h1, decide_eq_false (fun z => h1 ((grp_pos _ _ _ _).mpr (e.mpr ((grp_pos _ _ _ _).mp z))))]
/-- the kinds met on the way through some cells -/
def metL (n : Int) (cs : List Cell) : List Kind := cs.foldl (fun acc q => if kindN n q.1 q.2 ∈ acc then acc else acc ++ [kindN n q.1 q.2]) []
def metLF (n : Int) (cs : List Cell) : List Kind := cs.foldl (fun acc q => if kindF n q.1 q.2 ∈ acc then acc else acc ++ [kindF n q.1 q.2]) []
theorem metL_eq (n : Int) (cs : List Cell) : metL n cs = metLF n cs := by
  unfold metL metLF
  refine congrArg (fun f => List.foldl f [] cs) ?_
  funext acc q
  rw [kindF_eq]
theorem metL_snoc (n : Int) (cs : List Cell) (q : Cell) : metL n (cs ++ [q]) = if kindN n q.1 q.2 ∈ metL n cs then metL n cs else metL n cs ++ [kindN n q.1 q.2] := by
  unfold metL
  rw [List.foldl_append]
  rfl
theorem snoc_ind {P : List Cell → Prop} (h0 : P []) (hs : ∀ cs q, P cs → P (cs ++ [q])) (cs : List Cell) : P cs := by
  have z : ∀ n, ∀ cs : List Cell, cs.length = n → P cs := fun n => by
    induction n with
    | zero => exact fun cs h => by rw [List.length_eq_zero_iff.mp h]; exact h0
    | succ n ih =>
      intro cs h
      have ne : cs ≠ [] := fun e => by rw [e] at h; cases h
      rw [← List.dropLast_concat_getLast ne]
      exact hs _ _ (ih _ (by rw [List.length_dropLast, h]; rfl))
  exact z _ cs rfl
theorem metL_len (n : Int) (cs : List Cell) : (metL n cs).length ≤ cs.length := by
  refine snoc_ind (P := fun cs => (metL n cs).length ≤ cs.length) (Nat.le_refl _) (fun cs q ih => ?_) cs
  rw [metL_snoc, List.length_append, List.length_singleton]
  split
  · omega
  · rw [List.length_append, List.length_singleton]
    omega
theorem metL_in (n : Int) (cs : List Cell) : ∀ k ∈ metL n cs, ∃ y ∈ cs, kindN n y.1 y.2 = k := by
  refine snoc_ind (P := fun cs => ∀ k ∈ metL n cs, ∃ y ∈ cs, kindN n y.1 y.2 = k) (fun k h => by cases h) (fun cs q ih k hk => ?_) cs
  rw [metL_snoc] at hk
  have old : k ∈ metL n cs → ∃ y ∈ cs ++ [q], kindN n y.1 y.2 = k := fun m => by
    obtain ⟨y, hy, e⟩ := ih k m
    exact ⟨y, List.mem_append_left _ hy, e⟩
  split at hk
  · exact old hk
  · rcases List.mem_append.mp hk with hk | hk
    · exact old hk
    · exact ⟨q, List.mem_append_right _ (List.mem_singleton.mpr rfl), (List.mem_singleton.mp hk).symm⟩
theorem tabC_len (N : Nat) : ∀ i j : Nat, (tabC N i j).length = N * i + j
  | i, j + 1 => by
    rw [tabC_succ, List.length_append, List.length_singleton, tabC_len N i j]
    omega
  | 0, 0 => rfl
  | i + 1, 0 => by
    rw [tabC_row, tabC_len N i N, Nat.mul_add, Nat.mul_one]
    omega
termination_by i j => (i, j)
theorem met_small : ∀ N : _root_.Fin 12, N.val = 0 ∨ (metLF (N.val : Int) (tabC N.val N.val 0)).isPerm (kindsN (N.val : Int)) = true := by decide +kernel
theorem met_perm {N : Nat} (h1 : 1 ≤ N) (h2 : N < 12) : (metL (N : Int) (tabC N N 0)).Perm (kindsN (N : Int)) := by
  rw [metL_eq]
  rcases met_small ⟨N, h2⟩ with h | h
  · have h : N = 0 := h
    omega
  · exact List.isPerm_iff.mp h
theorem edge_small : ∀ N : _root_.Fin 14, N.val = 0 ∨ kindF (N.val : Int) 0 ((N.val : Int) - 1) ∈ kindsN (N.val : Int) := by decide +kernel
theorem edge_in {n : Int} (h1 : 1 ≤ n) (h2 : n < 14) : kindN n 0 (n - 1) ∈ kindsN n := by
  obtain ⟨N, rfl⟩ := Int.eq_ofNat_of_zero_le (show 0 ≤ n by omega)
  rw [kindF_eq]
  rcases edge_small ⟨N, by omega⟩ with h | h
  · have h : N = 0 := h
    omega
  · exact h
def kcode (k : Kind) : Int := TS.code 4 [k.1, k.2.1, k.2.2]
theorem code_all : (all24.map kcode).Pairwise (· < ·) := by decide
theorem kcode_inj {a b : Kind} (ha : a ∈ all24) (hb : b ∈ all24) (h : kcode a = kcode b) : a = b := by
  have z : ∀ a ∈ all24, ∀ b ∈ all24, kcode a = kcode b → a = b := by decide
  exact z a ha b hb h
theorem kinds_sub (n : Int) : ∀ k ∈ kindsN n, k ∈ all24 := fun k hk => (List.mem_filter.mp hk).1
theorem kinds_len (n : Int) : (kindsN n).length ≤ 24 := List.length_filter_le _ _
theorem map_inj_on {f : Kind → Int} : ∀ {a b : List Kind}, (∀ x ∈ a, x ∈ all24) → (∀ x ∈ b, x ∈ all24) → (∀ x ∈ all24, ∀ y ∈ all24, f x = f y → x = y) → a.map f = b.map f → a = b
  | [], [], _, _, _, _ => rfl
  | [], _ :: _, _, _, _, h => by cases h
  | _ :: _, [], _, _, _, h => by cases h
  | x :: a, y :: b, ha, hb, hf, h => by
    obtain ⟨e1, e2⟩ := List.cons.inj h
    rw [hf x (ha x (List.mem_cons_self ..)) y (hb y (List.mem_cons_self ..)) e1, map_inj_on (fun z hz => ha z (List.mem_cons_of_mem _ hz)) (fun z hz => hb z (List.mem_cons_of_mem _ hz)) hf e2]
/-- the one ascending list of these kinds -/
theorem kinds_one {ys : List Kind} {n : Int} (pm : ys.Perm (kindsN n)) (pw : ys.Pairwise fun a b => kcode a ≤ kcode b) : ys = kindsN n := by
  have s2 : ((kindsN n).map kcode).Pairwise (· ≤ ·) := by
    have z : ((kindsN n).map kcode).Pairwise (· < ·) := (code_all).sublist ((List.filter_sublist (l := all24)).map kcode)
    exact z.imp fun h => Int.le_of_lt h
  have e := PySem.W.os_sorted_one (pm.map kcode) (List.pairwise_map.mpr pw) s2
  exact map_inj_on (fun x hx => kinds_sub n x (pm.mem_iff.mp hx)) (kinds_sub n) (fun x hx y hy => kcode_inj hx hy) e
theorem refs_of {ys xs : List V} (h : ys.Perm xs) : ∀ L : List (Addr × Kind), xs = refK L → ∃ L', L'.Perm L ∧ ys = refK L' := by
  induction h with
  | nil => exact fun L e => ⟨L, .refl _, e⟩
  | @cons x l1 l2 p ih =>
    intro L e
    match L, e with
    | q :: L, e =>
      obtain ⟨e1, e2⟩ := List.cons.inj e
      obtain ⟨L', p', e'⟩ := ih L e2
      exact ⟨q :: L', p'.cons q, by rw [e1, e']; rfl⟩
  | swap x y l =>
    intro L e
    match L, e with
    | q :: r :: L, e =>
      obtain ⟨e1, e2⟩ := List.cons.inj e
      obtain ⟨e3, e4⟩ := List.cons.inj e2
      exact ⟨r :: q :: L, .swap _ _ _, by rw [e1, e3, e4]; rfl⟩
  | trans p1 p2 i1 i2 =>
    intro L e
    obtain ⟨L1, q1, e1⟩ := i2 L e
    obtain ⟨L2, q2, e2⟩ := i1 L1 e1
    exact ⟨L2, q2.trans q1, e2⟩
/-- kinds as data -/
theorem kindsD {K : PySem.W.Frag} {H : Hp} : ∀ {L : List (Addr × Kind)}, PK H L → DpAll K H (refK L) (L.map fun q => triD q.2)
  | [], _ => .nil
  | q :: L, h => .cons (triDp (h q (List.mem_cons_self ..))) (kindsD fun x hx => h x (List.mem_cons_of_mem _ hx))
theorem kinds_lay (L : List (Addr × Kind)) : ∀ d ∈ L.map (fun q => triD q.2), d.canLay0 = true ∧ d.depth ≤ 60 := fun d hd => by
  obtain ⟨q, _, rfl⟩ := List.mem_map.mp hd
  exact tri_lay _
theorem any_kind (L : List (Addr × Kind)) (a : Kind) : ((L.map fun q => triD q.2).any fun z => PyData.eqv z (triD a)) = decide (a ∈ L.map (·.2)) := by
  rw [Bool.eq_iff_iff, List.any_map, List.any_eq_true, decide_eq_true_eq, List.mem_map]
  constructor
  · rintro ⟨q, hq, e⟩
    refine ⟨q, hq, ?_⟩
    have e : PyData.eqv (triD q.2) (triD a) = true := e
    rw [tri_eqv] at e
    exact of_decide_eq_true e
  · rintro ⟨q, hq, e⟩
    refine ⟨q, hq, ?_⟩
    show PyData.eqv (triD q.2) (triD a) = true
    rw [tri_eqv]
    exact decide_eq_true e
theorem eqv_kinds (M : List (Addr × Kind)) : PyData.eqv (.tuple (M.map fun q => triD q.2)) (.tuple (M.map fun q => triD q.2)) = true := by
  have all : ∀ M : List (Addr × Kind), PyData.eqvAll (M.map fun q => triD q.2) (M.map fun q => triD q.2) = true := fun M => by
    induction M with
    | nil => rfl
    | cons q M ih =>
      show (PyData.eqv (triD q.2) (triD q.2) && PyData.eqvAll (M.map fun q => triD q.2) (M.map fun q => triD q.2)) = true
      rw [ih, tri_eqv, decide_eq_true rfl]
      rfl
  exact all M
/-! ### x not in a tuple of data -/
def rNotInTu (K : PySem.W.Frag) : R2 := fun x y H Q => ∃ d ds, Dp K H x d ∧ Dp K H y (.tuple ds) ∧ PySem.SeqAt.shaped d = true ∧ PySem.SeqAt.shaped (.tuple ds) = true ∧ Q (.bl (!ds.any fun z => PyData.eqv z d)) H
theorem op_notInTu {X : Cx} (hu : X.A.units + 65 < cLine) : OpR X (compareOp .NotIn) (rNotInTu X.K) := by
  intro pins s σ H x y v u Q I rx ry h
  obtain ⟨d, ds, hd, he, sd, se, q⟩ := h
  obtain ⟨as, r1⟩ := Dp.reads I d x v hd rx
  obtain ⟨bs, r2⟩ := Dp.reads I (.tuple ds) y u he ry
  have l2 := PySem.SeqAt.canLay_of_shaped se
  have dp := PySem.SeqAt.depth_of_shaped sd
  refine PySem.SeqAt.notIn_tuple_reads r2 r1 (by simpa [PyData.canLay0] using l2) (PySem.SeqAt.canLay_of_shaped sd) ?_ ⟨.bl _, H, I, rfl, q⟩
  have h1 : min (PyData.depthAll ds) d.depth ≤ d.depth := Nat.min_le_right _ _
  omega
/-! ### promises -/
def spKindsOf : Sp := fun vs H Q _ => ∃ n : Int, vs = [.int n] ∧ 1 ≤ n ∧ n ≤ big ∧ ∀ (t : Addr) (M : List (Addr × Kind)) (H' : Hp), Same H H' → H' t = some (.tup (refK M)) → PK H' M → M.map (·.2) = kindsN n → Q (.ref t) H'
def spMet : Sp := fun vs H Q _ => ∃ N : Nat, vs = [.int (N : Int)] ∧ 1 ≤ N ∧ N < 12 ∧ ∀ (t : Addr) (M : List (Addr × Kind)) (H' : Hp), Same H H' → H' t = some (.tup (refK M)) → PK H' M → M.map (·.2) = kindsN (N : Int) → Q (.ref t) H'
end Sq
namespace Sq
open PySem L2 PySem.Spec PyProof.Rows
/-! ### for k in d, d a dict of the written part, whatever its keys are -/
/-- the dict at d is written, plain, and its keys are those values -/
structure WDict (K : PySem.W.Frag) (d : Addr) (es : Array DictEntry) (ep : Nat) (ks : List V) : Prop where
  lk : ∃ o, K.lookup d = some o ∧ o.ExactDict ∧ o.data = .dict es ep
  sys : (d == sysModules) = false
  keys : Vals ks (es.toList.map (·.key))
/-- its keys, one behind the other -/
def Itw (ks : List V) : It := ⟨fun i _ => i < ks.length, fun i H x H' => H' = H ∧ ks[i]? = some x, fun i _ => ks.length ≤ i⟩
theorem walk_kw {ks : List V} : Walk (Itw ks) ks.length (fun _ => True) (YAt ks) :=
  ⟨fun _ _ hi _ => hi, fun _ _ => Nat.le_refl _, fun _ _ _ _ _ _ y => y⟩
section
variable {K : PySem.W.Frag} {d : Addr} {es : Array DictEntry} {ep : Nat} {ks : List V}
theorem WDict.raw (D : WDict K d es ep ks) {h : Heap} (X : K.In h) : h.DictRaw d es ep := by
  obtain ⟨o, l, e, q⟩ := D.lk
  exact ⟨o, X _ _ l, e, q⟩
theorem WDict.len (D : WDict K d es ep ks) : ks.length = es.size := by
  have z := D.keys.length
  rw [List.length_map, Array.length_toList] at z
  exact z
theorem WDict.key (D : WDict K d es ep ks) {i : Nat} (hi : i < es.size) : ∃ x, ks[i]? = some x ∧ RelV x es[i].key := by
  have hk : i < ks.length := by rw [D.len]; exact hi
  refine ⟨ks[i], List.getElem?_eq_getElem hk, ?_⟩
  obtain ⟨u, hu, ru⟩ := D.keys.get (List.getElem?_eq_getElem hk)
  rw [List.getElem?_map, Array.getElem?_toList, Array.getElem?_eq_getElem hi] at hu
  cases hu
  exact ru
theorem turn_kw {P : Program} {w : World} {tg : Expr} (D : WDict K d es ep ks) (it : Addr) : Turn P w K tg (Itw ks) [it] it (fun i h => h.IsKeyIter it d i es.size ep) where
  mem := by simp
  obj := fun i h st b hb => by
    have e : b = it := by simpa using hb
    subst e
    obtain ⟨oi, e, c, dd⟩ := st
    exact ⟨oi, e, fun v z => by rw [dd] at z; cases z⟩
  keep := fun i h h' st k => by
    obtain ⟨oi, e, c⟩ := st
    exact ⟨oi, k it (by simp) _ e, c⟩
  item := by
    intro X hP hw hK hc i pins s σ H E I hf st hg
    subst hP hw hK
    have hi : i < es.size := by rw [← D.len]; exact hg
    obtain ⟨f0, f1, f2, f3, f4, f5⟩ := hf it (by simp)
    obtain ⟨x, hx, rx⟩ := D.key hi
    refine wpAny_pyNext_keys_item_raw st (D.raw I.kIn) hi fun h' st' sb => ?_
    have I1 : Inv X pins σ H { s with heap := h' } := I.turned (t' := s.toks) (fun b ob hb e => (sb.2 b hb).trans e) f0 f1 f3 f4 f5
    obtain ⟨oi, e, c, dd⟩ := id st'
    exact ⟨_, rfl, go_of (s := { s with heap := h' }) e c dd (by decide) ⟨x, H, I1, rx, ⟨rfl, hx⟩, st', fun b hb => (hf b hb).1⟩⟩
  done := by
    intro X hP hw hK hc i pins s σ H E I hf st hg
    subst hP hw hK
    obtain ⟨f0, f1, f2, f3, f4, f5⟩ := hf it (by simp)
    have hge : es.size ≤ i := by rw [← D.len]; exact hg
    exact wpAny_pyNext_keys_end_raw (I.ok.hd hc) st (D.raw I.kIn) hge fun h' eb => ⟨rfl, I.turned (t' := s.toks) (fun b ob hb e => eb b ob hb e) f0 f1 f3 f4 f5⟩
  self := fun A i s Q E st h => wpAny_pyIter_keyiter st h
def iKeysW (d : Addr) (ks : List V) (td : TE) : TI := fun σ H R => td σ H fun x H1 => x = .ref d ∧ R (Itw ks) H1
theorem pi_keysW {X : Cx} {tg e : Expr} {td : TE} (D : WDict X.K d es ep ks) (he : PE X e td) : PI X tg e (iKeysW d ks td) := by
  refine ⟨fun pins s σ H R I h => ?_⟩
  refine thn (he.run pins s σ H _ I h) fun u s1 ⟨x, H1, I1, rx, ex, q⟩ => ?_
  subst ex
  obtain rfl : u = Value.ref d := rx
  refine wpAny_pyIter_dict_raw D.sys (D.raw I1.kIn) ?_
  have st : (s1.heap.push { cls := .type "dict_keyiterator", data := .fields #[.ref d, .int 0 0, .int es.size 0, .int ep 0] }).IsKeyIter s1.heap.objs.size d 0 es.size ep := ⟨_, Heap.get?_push_size _ rfl, rfl, rfl⟩
  exact pi_one (tk := s1.toks) I1 _ (turn_kw D _) st q
end
/-- a written tuple of numbers, told -/
def tupW (K : PySem.W.Frag) (v : Value) : Option (List Int) := match v with
  | .ref a => match K.lookup a with
    | some ⟨.type "tuple", _, .seq its _, _⟩ => its.toList.mapM fun u => match u with | .int i _ => some i | _ => none
    | _ => none
  | _ => none
end Sq
namespace Sq
open PySem L2
/-- kinds that stand at their places, written ones too -/
def PKS (K : PySem.W.Frag) (H : Hp) (L : List (Addr × Kind)) : Prop := ∀ q ∈ L, SqT K H q.1 [.int q.2.1, .int q.2.2.1, .int q.2.2.2]
theorem PKS.same {K : PySem.W.Frag} {H H' : Hp} {L : List (Addr × Kind)} (h : PKS K H L) (s : Same H H') : PKS K H' L := fun q hq => (h q hq).ext s
theorem kindsDS {K : PySem.W.Frag} {H : Hp} : ∀ {L : List (Addr × Kind)}, PKS K H L → DpAll K H (refK L) (L.map fun q => triD q.2)
  | [], _ => .nil
  | q :: L, h => .cons (.tup (h q (List.mem_cons_self ..)) (.cons (.int _) (.cons (.int _) (.cons (.int _) .nil)))) (kindsDS fun x hx => h x (List.mem_cons_of_mem _ hx))
def spLeastS (K : PySem.W.Frag) : Sp := fun vs H Q _ => ∃ (t : Addr) (a b c : Int), vs = [.ref t] ∧ SqT K H t [.int a, .int b, .int c] ∧ Q (.int (leastN a b c)) H
def spGroupS (K : PySem.W.Frag) : Sp := fun vs H Q _ => ∃ (n : Int) (t : Addr) (a b c : Int), vs = [.int n, .ref t] ∧ SqT K H t [.int a, .int b, .int c] ∧ KindR a b c ∧ n ≤ big ∧ ∀ H', Same H H' → Q (.int (grpN n a b c)) H'
def spKindsOfS (K : PySem.W.Frag) : Sp := fun vs H Q _ => ∃ n : Int, vs = [.int n] ∧ 1 ≤ n ∧ n ≤ big ∧ ∀ (t : Addr) (M : List (Addr × Kind)) (H' : Hp), Same H H' → H' t = some (.tup (refK M)) → PKS K H' M → M.map (·.2) = kindsN n → Q (.ref t) H'
theorem vals_mapM : ∀ {us : List Value} {is : List Int}, (us.mapM fun u => match u with | .int i _ => some i | _ => none) = some is → Vals (is.map V.int) us
  | [], is, h => by
    cases h
    exact .nil
  | u :: us, is, h => by
    rw [List.mapM_cons] at h
    cases u with
    | int i t =>
      cases e : (us.mapM fun u => match u with | .int i _ => some i | _ => none) with
      | none =>
        rw [e] at h
        cases h
      | some js =>
        rw [e] at h
        cases h
        exact .cons ⟨t, rfl⟩ (vals_mapM e)
    | _ => cases h
theorem tupW_at {K : PySem.W.Frag} {v : Value} {is : List Int} (h : tupW K v = some is) (hl : is.length ≤ 3) : ∃ a, v = .ref a ∧ ∀ H, SqT K H a (is.map V.int) := by
  unfold tupW at h
  split at h
  case h_2 => cases h
  rename_i a
  split at h
  case h_2 => cases h
  rename_i d its n sl e
  have z := vals_mapM h
  refine ⟨a, rfl, fun H => .inr ⟨_, its, n, e, rfl, rfl, ?_, z⟩⟩
  have y := z.length
  rw [List.length_map] at y
  have y2 : its.toList.length = its.size := Array.length_toList
  have h3 : 3 ≤ sizeLine := by decide
  omega
theorem keys_of {K : PySem.W.Frag} : ∀ {es : List DictEntry} {ks : List Kind}, es.map (fun e => tupW K e.key) = ks.map (fun k => some [k.1, k.2.1, k.2.2]) → ∃ LK : List (Addr × Kind), Vals (refK LK) (es.map (·.key)) ∧ (∀ H, PKS K H LK) ∧ LK.map (·.2) = ks
  | [], [], _ => ⟨[], .nil, (fun H q hq => by cases hq), rfl⟩
  | [], _ :: _, h => by cases h
  | _ :: _, [], h => by cases h
  | e :: es, k :: ks, h => by
    obtain ⟨h1, h2⟩ := List.cons.inj h
    obtain ⟨LK, a1, a2, a3⟩ := keys_of h2
    obtain ⟨a, ea, ha⟩ := tupW_at h1 (Nat.le_refl _)
    refine ⟨(a, k) :: LK, .cons (by show RelV (V.ref a) e.key; rw [ea]; rfl) a1, fun H q hq => ?_, by rw [List.map_cons, a3]⟩
    rcases List.mem_cons.mp hq with e2 | hq
    · rw [e2]
      exact ha H
    · exact a2 H q hq
/-- the written dict of the kinds -/
structure WKinds (K : PySem.W.Frag) (d : Addr) : Prop where
  ex : ∃ (es : Array DictEntry) (ep : Nat) (LK : List (Addr × Kind)), WDict K d es ep (refK LK) ∧ (∀ H, PKS K H LK) ∧ LK.map (·.2) = all24
theorem WKinds.of {K : PySem.W.Frag} {d : Addr} {es : Array DictEntry} {ep : Nat} (lk : K.lookup d = some ⟨.type "dict", none, .dict es ep, #[]⟩) (hs : (d == sysModules) = false)
    (hk : es.toList.map (fun e => tupW K e.key) = all24.map (fun k => some [k.1, k.2.1, k.2.2])) : WKinds K d := by
  obtain ⟨LK, a1, a2, a3⟩ := keys_of hk
  exact ⟨es, ep, LK, ⟨⟨_, lk, ⟨rfl, rfl, rfl⟩, rfl⟩, hs, a1⟩, a2, a3⟩
end Sq
namespace Sq
open PySem L2 TL
section
variable {P : Program} {w : World} {K : PySem.W.Frag} {mg : Str → Option Value} {base : Heap}
abbrev s_is_whole : Stmt := top 8
theorem sc_is_whole : FnScope ["value"] ["value"] (defScope s_is_whole) := ⟨rfl, rfl, rfl, by decide +kernel, rfl, by decide +kernel, by decide +kernel⟩
theorem ok_is_whole {f : Addr} {fd : FuncData} (F : Fun K "is_whole" "is_whole" s_is_whole f fd) (T : Bt mg)  : FnOk P w K mg base CX0 1 f fd ["value"] spWhole := by
  refine F.ok sc_is_whole (fun vs H Q E h => ?_) (fun cdv A outer s H vs Q E hr h => ?_)
  · obtain ⟨n, rfl, _⟩ := h
    rfl
  · obtain ⟨n, rfl, q⟩ := h
    refine ⟨_, (pss_one (ps_ret (pe_and (pe_callB call_isi (by rfl) T.isinstance (by decide +kernel) (pa_cons (pv 0) (pa_cons (pe_bltn (v := .ty "int") (by rfl) T.int (by decide +kernel) rfl) pa_nil)))
            (pe_and (pe_cmpR op_notTF (pv 0) pe_bl (nomark _))
            (pe_one (pe_cmpR op_notTF (pv 0) pe_bl (nomark _))))))), ?_⟩
    refine ⟨_, rfl, _, _, .type "int", _, true, rfl, .ty "int", .base (.int n), kit_ty (by decide +kernel), true, rfl, ?_⟩
    refine iteT ?_
    refine ⟨_, rfl, _, rfl, rfl, _, rfl, ?_⟩
    refine iteT ?_
    exact ⟨_, rfl, _, rfl, rfl, q⟩
abbrev s_is_within : Stmt := top 9
theorem sc_is_within : FnScope ["value", "least", "most"] ["value", "least", "most"] (defScope s_is_within) := ⟨rfl, rfl, rfl, by decide +kernel, rfl, by decide +kernel, by decide +kernel⟩
theorem ok_is_within {f : Addr} {fd : FuncData} (F : Fun K "is_within" "is_within" s_is_within f fd) (T : Bt mg) (G_is_whole : FB P w K mg base "is_whole" 1 ["value"] spWhole) : FnOk P w K mg base CX0 2 f fd ["value", "least", "most"] spWithin := by
  refine F.ok sc_is_within (fun vs H Q E h => ?_) (fun cdv A outer s H vs Q E hr h => ?_)
  · obtain ⟨n, a, b, rfl, _⟩ := h
    rfl
  · obtain ⟨n, a, b, rfl, q⟩ := h
    refine ⟨_, (pss_one (ps_ret (pe_and (pe_fb G_is_whole hr (by decide) (by rfl) (pa_cons (pv 0) pa_nil))
            (pe_one (pe_chain op_le op_le (pv 1) (pv 0) (pv 2)))))), ?_⟩
    refine ⟨_, rfl, n, rfl, true, rfl, ?_⟩
    refine iteT ?_
    refine ⟨_, rfl, _, rfl, _, _, rfl, rfl, _, rfl, ?_⟩
    by_cases h : a ≤ n
    · rw [decide_eq_true h] at q ⊢
      exact iteT ⟨_, rfl, _, _, rfl, rfl, q⟩
    · rw [decide_eq_false h] at q ⊢
      exact iteF q
abbrev s_check_size : Stmt := top 11
theorem sc_check_size : FnScope ["size"] ["size"] (defScope s_check_size) := ⟨rfl, rfl, rfl, by decide +kernel, rfl, by decide +kernel, by decide +kernel⟩
theorem ok_check_size {f : Addr} {fd : FuncData} (F : Fun K "check_size" "check_size" s_check_size f fd) (T : Bt mg) (G_is_within : FB P w K mg base "is_within" 2 ["value", "least", "most"] spWithin) {u : Tok} (mMS : mg "MOST_SIZE" = some (.int big u)) : FnOk P w K mg base CX0 3 f fd ["size"] spSize := by
  refine F.ok sc_check_size (fun vs H Q E h => ?_) (fun cdv A outer s H vs Q E hr h => ?_)
  · obtain ⟨n, rfl, _⟩ := h
    rfl
  · obtain ⟨n, rfl, h1, h2, q⟩ := h
    refine ⟨_, (pss_one (ps_if (pt_not (pt_val (pe_fb G_is_within hr (by decide) (by rfl) (pa_cons (pv 0) (pa_cons pe_int (pa_cons (pe_glob (v := .int big) (by rfl) mMS ⟨_, rfl⟩) pa_nil))))))
        (pss_one ps_never)
        pss_nil)), ?_⟩
    refine ⟨_, rfl, n, 1, big, rfl, _, rfl, ?_⟩
    rw [decide_eq_true h1, decide_eq_true h2]
    exact iteF q
abbrev s_is_cell : Stmt := top 10
theorem sc_is_cell : FnScope ["size", "value", "number"] ["size", "value"] (defScope s_is_cell) := ⟨rfl, rfl, rfl, by decide +kernel, rfl, by decide +kernel, by decide +kernel⟩
theorem ok_is_cell {f : Addr} {fd : FuncData} (F : Fun K "is_cell" "is_cell" s_is_cell f fd) (T : Bt mg) (G_is_within : FB P w K mg base "is_within" 2 ["value", "least", "most"] spWithin) : FnOk P w K mg base CX0 3 f fd ["size", "value"] spCell := by
  refine F.ok sc_is_cell (fun vs H Q E h => ?_) (fun cdv A outer s H vs Q E hr h => ?_)
  · obtain ⟨n, t, q, rfl, _⟩ := h
    rfl
  · obtain ⟨n, t, q, rfl, ht, ⟨⟨a0, a1⟩, b0, b1⟩, q'⟩ := h
    refine ⟨_, (pss_one (ps_ret (pe_and (pe_callB call_isi (by rfl) T.isinstance (by decide +kernel) (pa_cons (pv 1) (pa_cons (pe_bltn (v := .ty "tuple") (by rfl) T.tuple (by decide +kernel) rfl) pa_nil)))
            (pe_and (pe_cmpR op_eq (pe_callB call_len_seq (by rfl) T.len PySem.boot_len (pa_cons (pv 1) pa_nil)) pe_int (nomark _))
            (pe_one (pe_callB (cr_all (by rfl)) (by rfl) T.all (by decide +kernel) (pa_cons (pe_lc (own := [("number", 2)]) (g := gName 2) (by rfl) sc_is_cell.nd (pi_tup (pv 1)) (blkOk_by (own := [("number", 2)]) (N := ["size", "value", "number"]) (sc := defScope s_is_cell) (by decide +kernel))
            (fun _ _ _ _ _ => (pg_name (i := 2) sc_is_cell.nd rfl (by first | exact .inl rfl | exact .inr rfl))) (fun _ _ _ _ _ => pts_nil) (fun _ _ _ _ _ => (pe_fb G_is_within hr (by decide) (by rfl) (pa_cons (pv 2) (pa_cons pe_int (pa_cons (pe_op op_sub (pv 0) pe_int) pa_nil)))))) pa_nil))))))), ?_⟩
    refine ⟨_, rfl, _, _, .type "tuple", _, true, rfl, .ty "tuple", .base (.tup ht), kit_ty (by decide +kernel), true, rfl, ?_⟩
    refine iteT ?_
    refine ⟨_, rfl, t, _, rfl, .inr (SqT.of ht), rfl, _, rfl, ?_⟩
    refine iteT ?_
    refine ⟨_, rfl, t, rfl, ⟨_, SqT.of ht⟩, fun D nD => ?_⟩
    refine lc_tup (K := K) (a := t) (xs := [.int q.1, .int q.2]) (fun j H' => Same H H' ∧ ∃ bs : List Bool, H' D = some (.lst (bs.map V.bl)) ∧ bs.all id = true ∧ bs.length = j)
      ⟨same_new nD, [], upd_same, rfl, rfl⟩ (fun j H' _ h => SqT.of (h.1 _ _ ht)) (fun j x H' hj h => ?_) (fun H' h => ?_)
    · obtain ⟨s3, bs, hD, hall', hlen⟩ := h
      refine ⟨rfl, ?_⟩
      have hx : ∃ i : Int, x = .int i ∧ 0 ≤ i ∧ i ≤ n - 1 := by
        match j, hj with
        | 0, hj => cases hj; exact ⟨_, rfl, a0, by omega⟩
        | 1, hj => cases hj; exact ⟨_, rfl, b0, by omega⟩
      obtain ⟨i, rfl, i0, i1⟩ := hx
      have hj2 : j < 2 := by
        obtain ⟨h, _⟩ := List.getElem?_eq_some_iff.mp hj
        exact h
      refine ⟨_, rfl, _, rfl, _, _, rfl, rfl, i, 0, n - 1, rfl, ?_⟩
      rw [decide_eq_true i0, decide_eq_true i1]
      refine ⟨bs.map V.bl, hD, ?_, ?_, bs ++ [true], ?_, ?_, ?_⟩
      · rw [List.length_map, hlen]
        have h6 : 2 ≤ sizeLine := by decide
        omega
      · intro c o hx
        rw [upd_ne (fun e => by rw [e, nD] at hx; cases hx)]
        exact s3 c o hx
      · rw [upd_same, List.map_append]
        all_goals rfl
      · rw [List.all_append, hall']
        rfl
      · rw [List.length_append, hlen]
        rfl
    · obtain ⟨s3, bs, hD, hall', _⟩ := h
      refine ⟨D, bs, rfl, SqL.of hD, ?_⟩
      rw [hall']
      exact q' _ s3
abbrev s_check_cell : Stmt := top 12
theorem sc_check_cell : FnScope ["size", "cell"] ["size", "cell"] (defScope s_check_cell) := ⟨rfl, rfl, rfl, by decide +kernel, rfl, by decide +kernel, by decide +kernel⟩
theorem ok_check_cell {f : Addr} {fd : FuncData} (F : Fun K "check_cell" "check_cell" s_check_cell f fd) (T : Bt mg) (G_is_cell : FB P w K mg base "is_cell" 3 ["size", "value"] spCell) : FnOk P w K mg base CX0 4 f fd ["size", "cell"] spCellOk := by
  refine F.ok sc_check_cell (fun vs H Q E h => ?_) (fun cdv A outer s H vs Q E hr h => ?_)
  · obtain ⟨n, t, q, rfl, _⟩ := h
    rfl
  · obtain ⟨n, t, q, rfl, ht, hi, q'⟩ := h
    refine ⟨_, (pss_one (ps_if (pt_not (pt_val (pe_fb G_is_cell hr (by decide) (by rfl) (pa_cons (pv 0) (pa_cons (pv 1) pa_nil)))))
        (pss_one ps_never)
        pss_nil)), ?_⟩
    refine ⟨_, rfl, _, rfl, n, t, q, rfl, ht, hi, fun H' sm => ⟨_, rfl, ?_⟩⟩
    exact iteF (q' _ sm)
abbrev s_kind_at : Stmt := top 18
theorem sc_kind_at : FnScope ["size", "row", "column", "first", "second", "third", "_"] ["size", "row", "column"] (defScope s_kind_at) := ⟨rfl, rfl, rfl, by decide +kernel, rfl, by decide +kernel, by decide +kernel⟩
theorem ok_kind_at {f : Addr} {fd : FuncData} (F : Fun K "kind_at" "kind_at" s_kind_at f fd) (T : Bt mg)  : FnOk P w K mg base CX0 1 f fd ["size", "row", "column"] spSort := by
  refine F.ok sc_kind_at (fun vs H Q E h => ?_) (fun cdv A outer s H vs Q E hr h => ?_)
  · obtain ⟨n, r, c, rfl, _⟩ := h
    rfl
  · obtain ⟨n, r, c, rfl, q'⟩ := h
    refine ⟨_, (pss_cons (ps_asg (pe_callB cr_sorted (by rfl) T.sorted (by decide +kernel) (pa_cons (pe_lst (pa_cons (pv 1) (pa_cons (pv 2) (pa_cons (pe_op op_sub (pe_op op_sub (pv 0) pe_int) (pv 1)) (pa_cons (pe_op op_sub (pe_op op_sub (pv 0) pe_int) (pv 2)) pa_nil))))) pa_nil)) (pg_lst (by rfl) (pgs_cons (pg_name (i := 3) sc_kind_at.nd rfl (by first | exact .inl rfl | exact .inr rfl)) (pgs_cons (pg_name (i := 4) sc_kind_at.nd rfl (by first | exact .inl rfl | exact .inr rfl)) (pgs_cons (pg_name (i := 5) sc_kind_at.nd rfl (by first | exact .inl rfl | exact .inr rfl)) (pgs_cons (pg_name (i := 6) sc_kind_at.nd rfl (by first | exact .inl rfl | exact .inr rfl)) pgs_nil))))))
        (pss_one (ps_ret (pe_tup (pa_cons (pe_callB (call_min2 rfl) (by rfl) T.min (by decide +kernel) (pa_cons (pv 3) (pa_cons pe_int pa_nil))) (pa_cons (pe_callB (call_min2 rfl) (by rfl) T.min (by decide +kernel) (pa_cons (pe_op op_sub (pv 4) (pv 3)) (pa_cons pe_int pa_nil))) (pa_cons (pe_callB (call_min2 rfl) (by rfl) T.min (by decide +kernel) (pa_cons (pe_op op_sub (pv 5) (pv 4)) (pa_cons pe_int pa_nil))) pa_nil))))))), ?_⟩
    refine ⟨_, rfl, _, rfl, _, rfl, _, _, rfl, rfl, _, rfl, _, _, rfl, rfl, _, rfl, _, _, rfl, rfl, _, rfl, _, _, rfl, rfl, ?_⟩

    refine ⟨by show 4 ≤ sizeLine; decide, fun p np => ?_⟩
    have s1 := same_new (o := .lst ((nums n r c).map V.int)) np
    refine ⟨p, nums n r c, rfl, SqL.of upd_same, by show 4 < 64; decide, fun ns' p2 pm pw np2 => ?_⟩
    have e := srt_of pm pw
    subst e
    obtain ⟨x, y, z, w', e4⟩ := four_of n r c
    have ek : kindN n r c = (mn x 1, mn (y - x) 2, mn (z - y) 3) := by
      unfold kindN
      rw [e4]
      rfl
    rw [e4]
    have s2 := same_new (o := .lst ([x, y, z, w'].map V.int)) np2
    refine ⟨p2, _, rfl, SqL.of upd_same, rfl, _, _, rfl, _, _, rfl, _, _, rfl, _, _, rfl, rfl, ?_⟩
    refine ⟨_, rfl, _, _, rfl, _, rfl, _, rfl, _, _, rfl, rfl, _, _, rfl, _, rfl, _, rfl, _, _, rfl, rfl, _, _, rfl, by show 3 ≤ sizeLine; decide, fun t' nt' => ?_⟩
    have s3 := same_new (o := .tup [.int (mn x 1), .int (mn (y - x) 2), .int (mn (z - y) 3)]) nt'

    exact q' t' _ ((s1.trans s2).trans s3) (by unfold Tup3; rw [ek]; exact upd_same)
abbrev s_kind_of : Stmt := top 17
theorem sc_kind_of : FnScope ["size", "cell"] ["size", "cell"] (defScope s_kind_of) := ⟨rfl, rfl, rfl, by decide +kernel, rfl, by decide +kernel, by decide +kernel⟩
theorem ok_kind_of {f : Addr} {fd : FuncData} (F : Fun K "kind_of" "kind_of" s_kind_of f fd) (T : Bt mg) (G_check_size : FB P w K mg base "check_size" 3 ["size"] spSize) (G_check_cell : FB P w K mg base "check_cell" 4 ["size", "cell"] spCellOk) (G_kind_at : FB P w K mg base "kind_at" 1 ["size", "row", "column"] spSort) : FnOk P w K mg base CX0 5 f fd ["size", "cell"] spKindOf := by
  refine F.ok sc_kind_of (fun vs H Q E h => ?_) (fun cdv A outer s H vs Q E hr h => ?_)
  · obtain ⟨n, t, q, rfl, _⟩ := h
    rfl
  · obtain ⟨n, t, q, rfl, ht, hi, n1, q'⟩ := h
    obtain ⟨fA, dA, GA, mA, kA, bA⟩ := G_kind_at
    refine ⟨_, (pss_cons (ps_expr (pe_fb G_check_size hr (by decide) (by rfl) (pa_cons (pv 0) pa_nil)))
        (pss_cons (ps_expr (pe_fb G_check_cell hr (by decide) (by rfl) (pa_cons (pv 0) (pa_cons (pv 1) pa_nil))))
        (pss_one (ps_ret (StX.pe_callS2 (Sq.FnOk.asR GA bA) (hr.mono (by decide)) kA (by rfl) mA pass0 (pa_cons (pv 0) (StX.pa_star (pv 1) pa_nil))))))), ?_⟩
    obtain ⟨r, c⟩ := q
    have hi' := hi
    obtain ⟨⟨a0, a1⟩, b0, b1⟩ := hi'
    simp only at a0 a1 b0 b1
    refine ⟨_, rfl, n, rfl, by omega, n1, ?_⟩
    refine ⟨_, rfl, _, rfl, n, t, (r, c), rfl, ht, hi, fun H1 k1 => ?_⟩
    refine ⟨_, rfl, _, rfl, t, _, rfl, .inl (SqT.of (k1 _ _ ht)), n, r, c, rfl, fun t' H' sm h3 => ?_⟩
    exact q' t' _ (k1.trans sm) h3
abbrev s__law_spot : Stmt := top 31
theorem sc__law_spot : FnScope ["_law_purl_here", "_law_size", "_law_kind", "_law_row", "_law_column"] ["_law_purl_here", "_law_size"] (defScope s__law_spot) := ⟨rfl, rfl, rfl, by decide +kernel, rfl, by decide +kernel, by decide +kernel⟩
theorem ok__law_spot {f : Addr} {fd : FuncData} (F : Fun K "_law_spot" "_law_spot" s__law_spot f fd) (T : Bt mg) (G__law_dig : FB P w K mg base "_law_dig" 1 ["_law_purl_here", "_law_many"] spDig) : FnOk P w K mg base CX0 2 f fd ["_law_purl_here", "_law_size"] spSpot := by
  refine F.ok sc__law_spot (fun vs H Q E h => ?_) (fun cdv A outer s H vs Q E hr h => ?_)
  · obtain ⟨p, n, rfl, _⟩ := h
    rfl
  · obtain ⟨p, n, rfl, hp, n1, q⟩ := h
    refine ⟨_, (pss_cons (ps_set (i := 2) sc__law_spot.nd rfl (by first | exact .inl rfl | exact .inr rfl) (pe_fb G__law_dig hr (by decide) (by rfl) (pa_cons (pv 0) (pa_cons pe_int pa_nil))))
        (pss_cons (ps_set (i := 3) sc__law_spot.nd rfl (by first | exact .inl rfl | exact .inr rfl) (pe_op op_mod (pe_callTy call_int1 (by rfl) T.int (by decide +kernel) (pa_cons (pe_op op_add (pe_op op_mul (pe_fb G__law_dig hr (by decide) (by rfl) (pa_cons (pv 0) (pa_cons pe_int pa_nil))) (pe_op op_pow pe_int pe_int)) (pe_fb G__law_dig hr (by decide) (by rfl) (pa_cons (pv 0) (pa_cons pe_int pa_nil)))) pa_nil)) (pv 1)))
        (pss_cons (ps_set (i := 4) sc__law_spot.nd rfl (by first | exact .inl rfl | exact .inr rfl) (pe_op op_mod (pe_callTy call_int1 (by rfl) T.int (by decide +kernel) (pa_cons (pe_op op_add (pe_op op_mul (pe_fb G__law_dig hr (by decide) (by rfl) (pa_cons (pv 0) (pa_cons pe_int pa_nil))) (pe_op op_pow pe_int pe_int)) (pe_fb G__law_dig hr (by decide) (by rfl) (pa_cons (pv 0) (pa_cons pe_int pa_nil)))) pa_nil)) (pv 1)))
        (pss_cons (ps_if (pt_cmpR op_eq (pv 2) pe_int (nomark _))
        (pss_one (ps_par (i := 3) (j := 4) (by rfl) sc__law_spot.nd rfl rfl (by decide) rfl rfl (pa_cons (pe_op op_mod (pe_callTy call_int1 (by rfl) T.int (by decide +kernel) (pa_cons (pe_fb G__law_dig hr (by decide) (by rfl) (pa_cons (pv 0) (pa_cons pe_int pa_nil))) pa_nil)) (pv 1)) (pa_cons (pe_op op_mod (pe_callTy call_int1 (by rfl) T.int (by decide +kernel) (pa_cons (pe_fb G__law_dig hr (by decide) (by rfl) (pa_cons (pv 0) (pa_cons pe_int pa_nil))) pa_nil)) (pv 1)) pa_nil)) (by rfl)))
        pss_nil)
        (pss_cons (ps_if (pt_cmpR op_eq (pv 2) pe_int (nomark _))
        (pss_cons (ps_set (i := 3) sc__law_spot.nd rfl (by first | exact .inl rfl | exact .inr rfl) (pe_op op_mod (pe_callTy call_int1 (by rfl) T.int (by decide +kernel) (pa_cons (pe_op op_add (pe_op op_fdiv (pv 1) pe_int) (pe_fb G__law_dig hr (by decide) (by rfl) (pa_cons (pv 0) (pa_cons pe_int pa_nil)))) pa_nil)) (pv 1)))
        (pss_one (ps_set (i := 4) sc__law_spot.nd rfl (by first | exact .inl rfl | exact .inr rfl) (pe_op op_mod (pe_callTy call_int1 (by rfl) T.int (by decide +kernel) (pa_cons (pe_op op_add (pe_op op_fdiv (pv 1) pe_int) (pe_fb G__law_dig hr (by decide) (by rfl) (pa_cons (pv 0) (pa_cons pe_int pa_nil)))) pa_nil)) (pv 1)))))
        pss_nil)
        (pss_cons (ps_if (pt_cmpR op_eq (pv 2) pe_int (nomark _))
        (pss_one (ps_set (i := 4) sc__law_spot.nd rfl (by first | exact .inl rfl | exact .inr rfl) (pe_op op_mod (pe_callTy call_int1 (by rfl) T.int (by decide +kernel) (pa_cons (pe_op op_add (pv 3) (pe_fb G__law_dig hr (by decide) (by rfl) (pa_cons (pv 0) (pa_cons pe_int pa_nil)))) pa_nil)) (pv 1))))
        pss_nil)
        (pss_cons (ps_if (pt_cmpR op_eq (pe_fb G__law_dig hr (by decide) (by rfl) (pa_cons (pv 0) (pa_cons pe_int pa_nil))) pe_int (nomark _))
        (pss_one (ps_set (i := 3) sc__law_spot.nd rfl (by first | exact .inl rfl | exact .inr rfl) (pe_op op_sub (pe_op op_sub (pv 1) pe_int) (pv 3))))
        pss_nil)
        (pss_one (ps_ret (pe_tup (pa_cons (pv 3) (pa_cons (pv 4) pa_nil)))))))))))), ?_⟩
    have n0 : 0 < n := by omega
    have md : ∀ x : Int, 0 ≤ x % n ∧ x % n < n := fun x => ⟨Int.emod_nonneg _ (by omega), Int.emod_lt_of_pos _ n0⟩
    refine ⟨_, rfl, p, 4, rfl, hp, by decide, by decide, fun k H1 k0 k1 hp1 o1 => ?_⟩
    refine ⟨_, rfl, p, 1000003, rfl, hp1, by decide, by decide, fun a2 H2 a20 a21 hp2 o2 => ⟨_, _, rfl, rfl, ⟨by decide, by decide, by decide⟩, _, _, rfl, rfl, .inl ⟨by omega, by omega⟩, _, rfl, p, 1000003, rfl, hp2, by decide, by decide, fun b3 H3 b30 b31 hp3 o3 => ⟨_, _, rfl, rfl, .inl ⟨_, rfl, _, rfl, _, _, rfl, rfl, n0, ?_⟩⟩⟩⟩
    refine ⟨_, rfl, p, 1000003, rfl, hp3, by decide, by decide, fun a4 H4 a40 a41 hp4 o4 => ⟨_, _, rfl, rfl, ⟨by decide, by decide, by decide⟩, _, _, rfl, rfl, .inl ⟨by omega, by omega⟩, _, rfl, p, 1000003, rfl, hp4, by decide, by decide, fun b5 H5 b50 b51 hp5 o5 => ⟨_, _, rfl, rfl, .inl ⟨_, rfl, _, rfl, _, _, rfl, rfl, n0, ?_⟩⟩⟩⟩
    have off5 : Off p H H5 := o1.trans (o2.trans (o3.trans (o4.trans o5)))
    refine nm_seq (st_of (fun σ' H' => ∃ r c : Int, σ' = [some (.ref p), some (.int n), some (.int k), some (.int r), some (.int c)] ∧ InN n (r, c) ∧ PurlAt H' p ∧ Off p H H') (fun D' nx => ?_) fun σ6 H6 h6 => ?_)
    · refine ⟨_, rfl, rfl, _, rfl, ?_⟩
      refine ite2 (fun _ => ?_) (fun _ => ?_)
      · refine ⟨_, rfl, p, 4, rfl, hp5, by decide, by decide, fun a6 H6 a60 a61 hp6 o6 => .inl ⟨_, rfl, _, rfl, _, _, rfl, rfl, n0, ?_⟩⟩
        refine ⟨_, rfl, p, 4, rfl, hp6, by decide, by decide, fun a7 H7 a70 a71 hp7 o7 => .inl ⟨_, rfl, _, rfl, _, _, rfl, rfl, n0, ?_⟩⟩
        refine ⟨_, _, rfl, ?_⟩
        exact nx _ _ ⟨_, _, rfl, ⟨md _, md _⟩, hp7, off5.trans (o6.trans o7)⟩
      · exact nx _ _ ⟨_, _, rfl, ⟨md _, md _⟩, hp5, off5⟩
    obtain ⟨r6, c6, rfl, in6, hp6, o6⟩ := h6
    refine pr_seq (st_of (fun σ' H' => ∃ r c : Int, σ' = [some (.ref p), some (.int n), some (.int k), some (.int r), some (.int c)] ∧ InN n (r, c) ∧ PurlAt H' p ∧ Off p H H') (fun D' nx => ?_) fun σ7 H7 h7 => ?_)
    · refine ⟨_, rfl, rfl, _, rfl, ?_⟩
      refine ite2 (fun _ => ?_) (fun _ => ?_)
      · refine ⟨_, rfl, _, _, rfl, rfl, ⟨by decide, by decide⟩, _, rfl, p, 4, rfl, hp6, by decide, by decide, fun a7 H7 a70 a71 hp7 o7 => ⟨_, _, rfl, rfl, .inl ⟨_, rfl, _, rfl, _, _, rfl, rfl, n0, ?_⟩⟩⟩
        refine ⟨_, rfl, _, _, rfl, rfl, ⟨by decide, by decide⟩, _, rfl, p, 4, rfl, hp7, by decide, by decide, fun a8 H8 a80 a81 hp8 o8 => ⟨_, _, rfl, rfl, .inl ⟨_, rfl, _, rfl, _, _, rfl, rfl, n0, ?_⟩⟩⟩
        exact nx _ _ ⟨_, _, rfl, ⟨md _, md _⟩, hp8, o6.trans (o7.trans o8)⟩
      · exact nx _ _ ⟨_, _, rfl, in6, hp6, o6⟩
    obtain ⟨r7, c7, rfl, in7, hp7, o7⟩ := h7
    refine pr_seq (st_of (fun σ' H' => ∃ r c : Int, σ' = [some (.ref p), some (.int n), some (.int k), some (.int r), some (.int c)] ∧ InN n (r, c) ∧ PurlAt H' p ∧ Off p H H') (fun D' nx => ?_) fun σ8 H8 h8 => ?_)
    · refine ⟨_, rfl, rfl, _, rfl, ?_⟩
      refine ite2 (fun _ => ?_) (fun _ => ?_)
      · refine ⟨_, rfl, _, rfl, p, 3, rfl, hp7, by decide, by decide, fun a8 H8 a80 a81 hp8 o8 => ⟨_, _, rfl, rfl, .inl ⟨_, rfl, _, rfl, _, _, rfl, rfl, n0, ?_⟩⟩⟩
        exact nx _ _ ⟨_, _, rfl, ⟨in7.1, md _⟩, hp8, o7.trans o8⟩
      · exact nx _ _ ⟨_, _, rfl, in7, hp7, o7⟩
    obtain ⟨r8, c8, rfl, in8, hp8, o8⟩ := h8
    refine pr_seq (st_of (fun σ' H' => ∃ r c : Int, σ' = [some (.ref p), some (.int n), some (.int k), some (.int r), some (.int c)] ∧ InN n (r, c) ∧ PurlAt H' p ∧ Off p H H') (fun D' nx => ?_) fun σ9 H9 h9 => ?_)
    · refine ⟨_, rfl, p, 2, rfl, hp8, by decide, by decide, fun a9 H9 a90 a91 hp9 o9 => ⟨rfl, _, rfl, ?_⟩⟩
      refine ite2 (fun _ => ?_) (fun _ => ?_)
      · refine ⟨_, rfl, _, _, rfl, rfl, _, rfl, _, _, rfl, rfl, ?_⟩
        refine nx _ _ ⟨_, _, rfl, ⟨?_, in8.2⟩, hp9, o8.trans o9⟩
        have h := in8.1
        simp only at h ⊢
        omega
      · exact nx _ _ ⟨_, _, rfl, in8, hp9, o8.trans o9⟩
    obtain ⟨r9, c9, rfl, in9, hp9, o9⟩ := h9
    refine ⟨_, rfl, _, rfl, by show 2 ≤ sizeLine; decide, fun t nt => ?_⟩
    have ntp : t ≠ p := fun e => by
      obtain ⟨_, _, e2⟩ := hp9
      rw [e, e2] at nt
      cases nt
    exact q t (r9, c9) _ in9 upd_same ntp (hp9.same (same_new nt)) (o9.trans (Same.off (same_new nt)))
end
end Sq
namespace Sq
open PySem L2 PySem.Spec PyProof.Rows
/-! ### try with several except clauses, each with a name or without -/
/-- a clause: its class, the slot of its name, what its suite does -/
structure Clause where
  c : Value
  i : Option Nat
  ts : Addr → Value → Option Addr → TS
def Clause.ends (l : Clause) (D : Ends) : Ends := match l.i with
  | none => D
  | some i => ⟨fun σ H => D.nx (σ.set i none) H, D.rt, fun σ H => D.bk (σ.set i none) H, fun σ H => D.ct (σ.set i none) H⟩
def Clause.start (l : Clause) (a : Addr) (σ : L2.St) : L2.St := match l.i with
  | none => σ
  | some i => σ.set i (some (.ref a))
/-- what the clauses wish of an exception of the body, one behind the other -/
def wCl (K : PySem.W.Frag) (Wout : WX) (D : Ends) : List Clause → WX
  | [] => Wout
  | l :: r => fun cls d σ H => ∃ b, PySem.W.exmOne K cls l.c = some b ∧ (b = true → ∀ a, H a = none → l.ts a cls d (l.ends D) (l.start a σ) H) ∧ (b = false → wCl K Wout D r cls d σ H)
def SuiteOk (X : Cx) (sts : List Stmt) (ts : Addr → Value → Option Addr → TS) : Prop :=
  ∀ (a : Addr) (oe : Obj) (cls : Value) (d : Option Addr) (pn : List (Addr × Obj)), Zc cls d oe → (∃ vs, oe.data = .fields vs) → PSs (X.suite a ((a, oe) :: pn)) sts (ts a cls d)
inductive Clauses (X : Cx) : List ExceptHandler → List Clause → Prop
  | nil : Clauses X [] []
  | bare {x : Str} {c : Value} {ts : Addr → Value → Option Addr → TS} {b₀ : Stmt} {suite : List Stmt} {np pos : Pos} {hds : List ExceptHandler} {l : List Clause} (hc : Names X x c) (hsu : SuiteOk X (b₀ :: suite) ts) (r : Clauses X hds l) :
      Clauses X (.ExceptHandler (some (.Name x np)) none (b₀ :: suite) pos :: hds) (⟨c, none, ts⟩ :: l)
  | named {x n : Str} {i : Nat} {c : Value} {ts : Addr → Value → Option Addr → TS} {b₀ : Stmt} {suite : List Stmt} {np pos : Pos} {hds : List ExceptHandler} {l : List Clause} (hi : X.N[i]? = some n) (hn : X.env.kindOf n = some .local)
      (hc : Names X x c) (hsu : SuiteOk X (b₀ :: suite) ts) (r : Clauses X hds l) :
      Clauses X (.ExceptHandler (some (.Name x np)) (some n) (b₀ :: suite) pos :: hds) (⟨c, some i, ts⟩ :: l)
section
variable {X : Cx} {Wout : WX}
/-- the clauses, over an exception that has landed at a -/
theorem clauses_ok (hN : X.N.Nodup) (hs : X.stack = X.env :: X.outer) (hf : X.env.frame = some X.env.locals) (tk : Takes X Wout) {D : Ends} {pins : List (Addr × Obj)} {σ : L2.St} {H : Hp} {sI s' : Shared} {B h3 : Heap} {a : Addr} {cls : Value} {d : Option Addr}
    (ok : X.Ok) (J : Inv X pins σ H sI) (nb : ∀ b o, sI.heap.get? b = some o → b ∉ frs X.stack → B.get? b = some o) (up : sI.heap.UpToSlots h3) (na : H a = none) (os : s'.os = sI.os) (ag : AllBare s'.gens)
    (fl : HandSPX.FlyingZ B (X.env :: X.outer) a (Zc cls d) h3) {hds : List ExceptHandler} {l : List Clause} (hk : Clauses X hds l) :
    wCl X.K Wout D l cls d σ H → wpAny (model X.prog X.w) X.A (handleBy (.ref a) X.env hds) (SP X pins D) X.xe { s' with heap := h3 } := by
  have J3 : Inv X pins σ H { s' with heap := h3 } := J.landed nb fl.1 up os ag
  obtain ⟨o3, v3, e3, z3, d3⟩ := fl.there
  have away : a ∉ frs (X.env :: X.outer) := fun hm => by
    obtain ⟨_, o', e', hnf⟩ := fl.2.2.1.mem hm
    exact hnf _ ((Option.some.inj (e3.symm.trans e')) ▸ d3)
  have nL : a ≠ X.env.locals := fun z => away (List.mem_filterMap.mpr ⟨X.env, List.mem_cons_self, by rw [hf, z]⟩)
  have nF : a ∉ X.fs := fun hm => by
    obtain ⟨y, hy, q⟩ := List.mem_filterMap.mp hm
    exact away (List.mem_filterMap.mpr ⟨y, List.mem_cons_of_mem _ hy, q⟩)
  have S3 := J3.suite e3 d3 na nL nF
  have LT : PySem.W.Looks (model X.prog X.w) h3 (typeOf (.ref a)) cls := fun A Q E s k q => wpAny_typeOf_ref (k _ _ e3) (by rw [z3.1]; exact q)
  have asked : ∀ {x : Str} {c : Value} {np : Pos}, Names X x c → ∀ {Q E : Value → Shared → Prop}, Q c { s' with heap := h3 } → wpAny (model X.prog X.w) (X.A.mark (some (.ref a))) (eval (.Name x np) X.env) Q E { s' with heap := h3 } := fun {x c np} hc {Q E} q => by
    obtain ⟨hg, hd, hm | ⟨hm, hv, hn⟩⟩ := hc
    · exact ld_glob (X := X.suite a ((a, o3) :: (X.pn ++ pins))) S3 hg hm q hd
    · exact ld_blt (X := X.suite a ((a, o3) :: (X.pn ++ pins))) S3 hg hm hv q hn hd
  induction hk with
  | nil =>
    intro w
    refine wpAny_handleBy_nil ?_
    obtain ⟨_, _, _, oe, vs, T, oT, _, he, _, hd, h1, _⟩ := id fl
    unfold PySem.passOn
    refine wpAny_bind (wpAny_field he hd h1 ?_)
    rw [if_neg (show ¬ ((Value.ref T == Value.none) = true) from by simp)]
    have gone : wpAny (model X.prog X.w) X.A (setFlight (.ref a) X.env.frame) (fun _ s4 => wpAny (model X.prog X.w) X.A (throw (.ref a) : Sem Flow) (SP X pins D) X.xe s4) X.xe { s' with heap := h3 } := by
      rw [hf]
      exact HandSPX.setFlight_upZ fl fun h4 hh4 up4 => wpAny_throw (tk _ _ ⟨a, B, sI, pins, σ, H, cls, d, rfl, J, nb, up.trans up4, .inr (.inr (by rw [hs]; exact hh4)), na, os, ag, w⟩)
    first
      | exact wpAny_bind (wpAny_pure (wpAny_bind gone))
      | exact wpAny_bind gone
  | @bare x c ts b₀ suite np pos hds l hc hsu r ih =>
    intro w
    obtain ⟨b, hb, yes, no⟩ := w
    refine wpAny_handleBy_cons (codeAny_handlers_test (asked hc ((PySem.W.exm_one (M := model X.prog X.w) J3.kIn LT hb).here ?_))) (fun q => nomatch q)
    cases b with
    | false => exact ih (no rfl)
    | true =>
      refine codeAny_handlers_suite (HandSPX.lands_againZ fl fun h4 fl4 up4 => ?_)
      obtain ⟨o4, v4, e4, z4, d4⟩ := fl4.there
      have S4 := (J.landed (s' := { s' with heap := h4 }) nb fl4.1 (up.trans up4) os ag).suite e4 d4 na nL nF
      refine wpAny_mono ((hsu a o4 cls d (X.pn ++ pins) z4 ⟨_, d4⟩).run [] _ _ H _ S4 (yes rfl a na)) (fun f s6 q => ?_) (fun _ _ z => False.elim z)
      match f, q with
      | .next, ⟨σ6, H6, S6, q6⟩ => exact ⟨_, _, S6.unsuite ok, q6⟩
      | .brk, ⟨σ6, H6, S6, q6⟩ => exact ⟨_, _, S6.unsuite ok, q6⟩
      | .cont, ⟨σ6, H6, S6, q6⟩ => exact ⟨_, _, S6.unsuite ok, q6⟩
      | .ret u, ⟨v6, σ6, H6, S6, r6, q6⟩ => exact ⟨_, _, _, S6.unsuite ok, r6, q6⟩
  | @named x n i c ts b₀ suite np pos hds l hi hn hc hsu r ih =>
    intro w
    obtain ⟨b, hb, yes, no⟩ := w
    refine wpAny_handleBy_cons (codeAny_handlers_test (asked hc ((PySem.W.exm_one (M := model X.prog X.w) J3.kIn LT hb).here ?_))) (fun q => nomatch q)
    cases b with
    | false => exact ih (no rfl)
    | true =>
      refine codeAny_handlers_suite_as (HandSPX.lands_againZ fl fun h4 fl4 up4 => ?_)
      obtain ⟨o4, v4, e4, z4, d4⟩ := fl4.there
      have S4 := (J.landed (s' := { s' with heap := h4 }) nb fl4.1 (up.trans up4) os ag).suite e4 d4 na nL nF
      refine store_ok (X := X.suite a ((a, o4) :: (X.pn ++ pins))) (v := .ref a) S4 hN hi (.inl hn) rfl (fun s5 S5 => ?_) (.inr hn)
      refine wpAny_mono ((hsu a o4 cls d (X.pn ++ pins) z4 ⟨_, d4⟩).run [] s5 _ H _ S5 (yes rfl a na)) (fun f s6 q => ?_) (fun _ _ z => False.elim z)
      match f, q with
      | .next, ⟨σ6, H6, S6, q6⟩ => exact gone_ok (S6.unsuite ok) hN hi hn fun s7 J7 => ⟨_, _, J7, q6⟩
      | .brk, ⟨σ6, H6, S6, q6⟩ => exact gone_ok (S6.unsuite ok) hN hi hn fun s7 J7 => ⟨_, _, J7, q6⟩
      | .cont, ⟨σ6, H6, S6, q6⟩ => exact gone_ok (S6.unsuite ok) hN hi hn fun s7 J7 => ⟨_, _, J7, q6⟩
      | .ret u, ⟨v6, σ6, H6, S6, r6, q6⟩ => exact gone_ok (S6.unsuite ok) hN hi hn fun s7 J7 => ⟨_, _, _, J7, r6, q6⟩
/-- try: body, except C1 [as n1]: .., except C2 [as n2]: .. -/
theorem ps_tryC {body : List Stmt} {h₀ : ExceptHandler} {hds : List ExceptHandler} {l : List Clause} {pos : Pos} {tb : WX → TS} (hN : X.N.Nodup) (hs : X.stack = X.env :: X.outer) (hf : X.env.frame = some X.env.locals) (tk : Takes X Wout)
    (hb : ∀ (W : WX) (pn : List (Addr × Obj)) (xe : Value → Shared → Prop), Takes (X.tr pn xe) W → PassesOwn (model X.prog X.w) X.A X.env xe → PSs (X.tr pn xe) body (tb W))
    (hh : Clauses X (h₀ :: hds) l) : PS X (.Try body (h₀ :: hds) [] [] pos) (fun D σ H => tb (wCl X.K Wout D l) D σ H) := by
  refine ⟨fun pins s σ H D I h => wpAny_Try_except ?_⟩
  have ok := I.ok
  have hfr : X.A.frames = some (X.env :: X.outer) := by rw [ok.frames, hs]
  have run := (hb (wCl X.K Wout D l) (X.pn ++ pins) (fun e s₁ => wpAny (model X.prog X.w) X.A (noteFrame e X.env) (fun _ s₂ => wpAny (model X.prog X.w) X.A (setFlight e none) (fun _ s₃ => wpAny (model X.prog X.w) X.A (handleBy e X.env (h₀ :: hds)) (SP X pins D) X.xe s₃) X.xe s₂) X.xe s₁)
    (fun u s' x => by
      obtain ⟨a, B, sI, pins', σ', H', cls, d, rfl, J', nb, up, sky, na, os, ag, w⟩ := x
      have sky' : Sky B (X.env :: X.outer) a (Zc cls d) X.env.locals s'.heap := by rw [← hs]; exact sky
      show wpAny (model X.prog X.w) X.A (noteFrame (.ref a) X.env) _ _ _
      exact Sky.land Zc.steady hfr hf sky' fun h3 fl3 up3 => clauses_ok hN hs hf tk ok (J'.ofTry ok) nb (up.trans up3) na os ag fl3 hh w) PassesOwn.looking).run [] s σ H D (I.toTry _) h
  refine wpAny_mono run (fun f s1 q => ?_) (fun _ _ z => z)
  match f, q with
  | .next, ⟨σ', H', J', q⟩ => exact wpAny_execs_nil ⟨σ', H', J'.ofTry ok, q⟩
  | .brk, ⟨σ', H', J', q⟩ => exact ⟨σ', H', J'.ofTry ok, q⟩
  | .cont, ⟨σ', H', J', q⟩ => exact ⟨σ', H', J'.ofTry ok, q⟩
  | .ret u, ⟨v, σ', H', J', r, q⟩ => exact ⟨v, σ', H', J'.ofTry ok, r, q⟩
end
end Sq
namespace Sq
open PySem L2 PySem.Spec PyProof.Rows
/-! ### an own error class with one field, set by its __init__ -/
def spErrInit (C : Addr) (f : Str) : Sp := fun vs H Q _ => ∃ (a : Addr) (v : V), vs = [.ref a, v] ∧ H a = some (exo a C none) ∧ ∀ dx, H dx = none → dx ≠ a → Q .non (upd (upd H dx (exd dx [(f, v)])) a (exo a C (some dx)))
structure ErrC (P : Program) (w : World) (K : PySem.W.Frag) (mg : Str → Option Value) (base : Heap) (x f : Str) (C : Addr) : Prop where
  oex : OexC K C
  xf : XfC K C
  no : PySem.W.findIn K (.ref C) f = some none
  m : mg x = some (.ref C)
  ex : ∃ (fI : Addr) (fd : FuncData) (ps : List Str), PySem.W.findIn K (.ref C) "__init__" = some (some (.ref fI)) ∧ PySem.W.typeIn K (.ref fI) = some (.type "function") ∧ FnOk P w K mg base CX0 1 fI fd ps (spErrInit C f) ∧ Binds K fd ps []
section
variable {X : Cx} {W : WX} {x f : Str} {C : Addr} {e : Expr} {te : TE} {k : Nat} {p pos pos2 : Pos}
theorem err_heap {H : Hp} {a d : Addr} {u u' o : HO} (ha : H a = none) (hd : H d = none) (n : d ≠ a) : upd (del (upd (upd (upd H a u) d o) a u') a) d (.xd l) = upd H d (.xd l) := by
  funext b
  by_cases h1 : b = d
  · subst h1
    rw [upd_same, upd_same]
  rw [upd_ne h1, upd_ne h1]
  by_cases h2 : b = a
  · subst h2
    rw [del_same, ha]
  · rw [del_ne h2, upd_ne h2, upd_ne h1, upd_ne h2]
/-- raise C(e) -/
theorem ps_err (T : ErrC X.prog X.w X.K X.mg X.base x f C) (hc : X.calm = true) (tk : Takes X W) (hr : Room k X.A) (hk : 2 ≤ k) (hg : Gl X x) (he : PE X e te)
    (hdb : (x == ("__debug__" : Str)) = false := by decide) (hst : starEach (e :: []) X.env = (false, eval e X.env) :: starEach [] X.env := by rfl) (hpl : (backTo pos (starEach [] X.env)).any (·.1) = false := by rfl) :
    PS X (.Raise (some (.Call (.Name x p) [e] [] pos)) none pos2) (fun _ σ H => tMkO C (spErrInit C f) [] (tCons te tNil) σ H fun cls d H' => W cls d σ H') := by
  obtain ⟨fI, fd, ps, iC, tI, F, b⟩ := T.ex
  exact ps_raise (pos := pos2) hc tk (pmk_oex (p := p) (pos := pos) T.oex iC tI F (hr.mono hk) b .nil pass0 hg T.m (pa_cons he pa_nil (hs := hst)) hdb hst hpl)
/-- what its reading asks, once the value is there -/
theorem err_go {H1 : Hp} {v : V} {Q : XK} (h : ∀ d, H1 d = none → Q (.ref C) (some d) (upd H1 d (.xd [(f, v)]))) :
    [v].length ≤ 1000 ∧ ∀ a, H1 a = none → spErrInit C f (.ref a :: ([v] ++ [])) (upd H1 a (exo a C none))
      (fun u H2 => u = .non ∧ ∃ (d : Addr) (fs : List (Str × V)), H2 a = some (exo a C (some d)) ∧ H2 d = some (exd d fs) ∧ H1 d = none ∧ Q (.ref C) (some d) (upd (del H2 a) d (.xd fs))) (fun _ _ _ => False) := by
  refine ⟨by show 1 ≤ 1000; decide, fun a na => ⟨a, v, rfl, upd_same, fun dx nd ne => ⟨rfl, dx, [(f, v)], upd_same, ?_, ?_, ?_⟩⟩⟩
  · rw [upd_ne ne, upd_same]
  · rw [upd_ne ne] at nd
    exact nd
  · rw [upd_ne ne] at nd
    rw [err_heap na nd ne]
    exact h dx nd
end
end Sq
namespace Sq
open PySem L2 PySem.Spec PyProof.Rows
/-! ### calls of functions that may raise -/
/-- a promise of a top function that may raise, with all that a call of it asks -/
structure FBX (P : Program) (w : World) (K : PySem.W.Frag) (mg : Str → Option Value) (base : Heap) (x : Str) (k : Nat) (ps : List Str) (sp : Sp) : Prop where
  ex : ∃ (f : Addr) (fd : FuncData), FnOk P w K mg base (L2.CX P w) k f fd ps sp ∧ mg x = some (.ref f) ∧ PySem.W.keepIn K (.ref f) = true ∧ Binds K fd ps []
section
variable {X : Cx} {W : WX} {j k : Nat} {x : Str} {p pos : Pos} {e : Expr} {es : List Expr} {t : TA} {ps : List Str} {sp : Sp}
theorem pe_fbX (F : FBX X.prog X.w X.K X.mg X.base x k ps sp) (tk : Takes X W) (hr : Room j X.A) (hk : k ≤ j) (hg : Gl X x) (ha : PA X (e :: es) t) (hdb : (x == ("__debug__" : Str)) = false := by decide)
    (he : starEach (e :: es) X.env = (false, eval e X.env) :: starEach es X.env := by rfl) (hpl : (backTo pos (starEach es X.env)).any (·.1) = false := by rfl) :
    PE X (.Call (.Name x p) (e :: es) [] pos) (tCallS sp (WE W) t) := by
  obtain ⟨f, fd, G, hm, kk, b⟩ := F.ex
  exact pe_callS G (hr.mono hk) hg hm kk b (fun σ => passAt tk σ) ha hdb he hpl
end
/-! ### isinstance(e, C), e a caught exception that has a dict -/
def rIsX (K : PySem.W.Frag) (a : Addr) (cls : Value) (d : Option Addr) : List V → Hp → VK → Prop := fun xs H Q => ∃ (D dd : Addr) (fs : List (Str × V)) (c : V) (cv : Value) (b : Bool), cls = .ref D ∧ ExcC K D ∧ d = some dd ∧ H dd = some (.xd fs) ∧ xs = [.ref a, c] ∧
  (∀ u, RelV c u → u = cv) ∧ PySem.W.kitOne K (.ref D) cv = some b ∧ Q (.bl b) H
theorem call_isX {X : Cx} {a : Addr} {oe : Obj} {cls : Value} {d : Option Addr} {pn : List (Addr × Obj)} (hz : Zc cls d oe) (hf : ∃ vs, oe.data = .fields vs) : CallR (X.suite a ((a, oe) :: pn)) (.builtin "isinstance") (rIsX X.K a cls d) := by
  intro pins s σ H xs us Q I r h
  obtain ⟨D, dd, fs, c, cv, b, rfl, C, rfl, ea, rfl, hcv, e, q⟩ := h
  obtain ⟨u1, u2, rfl, r1, r2⟩ := vals2 r
  cases (show u1 = Value.ref a from r1)
  have ec := hcv _ r2
  subst ec
  obtain ⟨hget, _⟩ := I.pin (a, oe) (List.mem_append.mpr (.inl List.mem_cons_self))
  obtain ⟨vs, hv⟩ := hf
  have hx : ObjOk X.prog X.w H s.heap dd (.xd fs) := I.hok dd _ ea
  obtain ⟨mA, hns, hr⟩ := hx
  obtain ⟨od, ho, hl⟩ := lookIn_ns hns
  have J : PySem.W.InstAt s.heap a oe D (some od) := ⟨hget, hz.1, by unfold PySem.W.notCls; rw [hv] <;> rfl, by rw [hz.2]; exact ho⟩
  obtain ⟨cd, hcd, _⟩ := PySem.W.any_some C.hd
  exact PySem.W.kia_one (PySem.W.kitx_exc (by rw [hcd]; rfl) C.hg C.hk C.hs C.ha C.hn C.ht C.hm) I.kIn J e (fun z => nomatch z) fun tk => ⟨.bl b, H, I.kept (t' := tk) fun _ _ z => z, rfl, q⟩
/-! ### what a class of errors with the one field given says -/
structure GivenC (P : Program) (w : World) (K : PySem.W.Frag) (mg : Str → Option Value) (base : Heap) (x : Str) (C : Addr) : Prop where
  err : ErrC P w K mg base x "given" C
  exc : ExcC K C
  cls : PySem.W.hasDictIn K C = true
  ty : PySem.W.typeIn K (.ref C) = some (.type "type")
def einitBody (q1 q2 q3 q4 : Pos) : List Stmt := [.Assign [.Attribute (.Name "self" q1) "given" q2] (.Name "given" q3) q4]
theorem ok_einit {P : Program} {w : World} {K : PySem.W.Frag} {mg : Str → Option Value} {base : Heap} {f C : Addr} {fd : FuncData} {q : Str} {st : Stmt} {q1 q2 q3 q4 : Pos} (F : Fun K "__init__" q st f fd) (S : FnScope ["self", "given"] ["self", "given"] (defScope st)) (hb : defBody st = einitBody q1 q2 q3 q4) (h0 : (defScope st).names.lookup ("self" : Str) = some .local) (h1 : (defScope st).names.lookup ("given" : Str) = some .local)
    (T : OexC K C) (no : PySem.W.findIn K (.ref C) "given" = some none) : FnOk P w K mg base CX0 1 f fd ["self", "given"] (spErrInit C "given") := by
  refine F.ok S (fun vs H Q E h => ?_) (fun cdv A outer s H vs Q E hr h => ?_)
  · obtain ⟨a, v, rfl, _⟩ := h
    rfl
  · obtain ⟨a, v, rfl, ha, q⟩ := h
    rw [hb]
    refine ⟨_, pss_one (ps_ost (pv 0 (hv := .inl h0)) (pv 1 (hv := .inl h1))), ?_⟩
    refine ⟨_, rfl, _, rfl, a, C, rfl, T, no, .inl ⟨ha, fun dx n ne => q dx n ne⟩⟩
/-- the classes C and D, asked whether an error of the class C is caught by 'except D' -/
theorem GivenC.exm {P : Program} {w : World} {K : PySem.W.Frag} {mg : Str → Option Value} {base : Heap} {x : Str} {C : Addr} {cls : Value} {b : Bool} (G : GivenC P w K mg base x C) (h : PySem.W.subIn K cls (.ref C) = some b) : PySem.W.exmOne K cls (.ref C) = some b :=
  PySem.W.exm_ref G.err.oex.exC G.cls G.ty h
end Sq
namespace Sq
open PySem L2 PySem.Spec PyProof.Rows
/-! ### repr of plain values, scalars too -/
inductive Sh (K : PySem.W.Frag) (H : Hp) : V → PyData → Prop
  | dat {v : V} {d : PyData} : Dp K H v d → d.hasDict = false → Sh K H v d
  | emp {a : Addr} : H a = some (.dK []) → Sh K H (.ref a) (.dict [])
theorem Dp.same {K : PySem.W.Frag} {H H' : Hp} (s : Same H H') : ∀ {d : PyData} {v : V}, Dp K H v d → Dp K H' v d := fun {d v} h => by
  exact Dp.rec (K := K) (H := H) (motive_1 := fun v d _ => Dp K H' v d) (motive_2 := fun vs ds _ => DpAll K H' vs ds)
    .non (fun b => .bl b) (fun i => .int i) (fun x => .str x) (fun hs _ ih => .lst (hs.ext s) ih) (fun hs _ ih => .tup (hs.ext s) ih) .nil (fun _ _ h1 h2 => .cons h1 h2) h
theorem Sh.same {K : PySem.W.Frag} {H H' : Hp} (s : Same H H') {d : PyData} {v : V} (h : Sh K H v d) : Sh K H' v d := by
  cases h with
  | dat h e => exact .dat (Dp.same s h) e
  | emp h => exact .emp (s _ _ h)
def reprD : PyData → Str
  | .none => "None"
  | .bool b => if b then "True" else "False"
  | .int i => toString i
  | .str x => reprText x
  | d => d.shown
/-- what repr needs -/
def Fits (d : PyData) : Prop := d.showable = true ∧ d.depth ≤ 20 ∧ d.shown.length ≤ sizeLine ∧ (∀ i, d = .int i → i.natAbs.log2 < 1920) ∧ (∀ x, d = .str x → (reprText x).length ≤ sizeLine)
def rRepr2 (K : PySem.W.Frag) : List V → Hp → VK → Prop := fun xs H Q => ∃ (v : V) (d : PyData), xs = [v] ∧ Sh K H v d ∧ Fits d ∧ Q (.str (reprD d)) H
theorem call_repr2 {X : Cx} {k : Nat} (hg : X.A.guards = some []) (hr : Room k X.A) : CallR X (.builtin "repr") (rRepr2 X.K) := by
  intro pins s σ H xs us Q I r h
  obtain ⟨v, d, rfl, hd, ⟨h1, h3, h4, h5, h6⟩, q⟩ := h
  obtain ⟨u, rfl, r1⟩ := vals1 r
  have hu := hr.units
  cases hd with
  | dat hd h2 =>
    obtain ⟨as, rd⟩ := Dp.reads I d _ u hd r1
    cases hd with
    | non =>
      cases r1
      exact PySem.P.repr_of_none ⟨.str _, H, I.tok _, ⟨_, rfl⟩, q⟩
    | bl b =>
      cases r1
      exact PySem.P.repr_of_bool ⟨.str _, H, I.tok _, ⟨_, rfl⟩, q⟩
    | int i =>
      obtain ⟨t, rfl⟩ := r1
      exact PySem.P.repr_of_int (h5 i rfl) ⟨.str _, H, I.tok _, ⟨_, rfl⟩, q⟩
    | str x =>
      obtain ⟨t, rfl⟩ := r1
      exact PySem.P.repr_of_str ⟨.str _, H, I.tok _, ⟨_, rfl⟩, q⟩ (h6 x rfl)
    | lst hs ha =>
      cases r1
      refine repr_of_reads' rd h1 (fun z => by rw [h2] at z; cases z) hg (by omega) (fun _ _ z => z) (fun h' u' tk kp => ?_) h4
      exact ⟨.str _, H, I.kept kp, ⟨u', rfl⟩, q⟩
    | tup hs ha =>
      cases r1
      refine repr_of_reads' rd h1 (fun z => by rw [h2] at z; cases z) hg (by omega) (fun _ _ z => z) (fun h' u' tk kp => ?_) h4
      exact ⟨.str _, H, I.kept kp, ⟨u', rfl⟩, q⟩
  | @emp a ha =>
    cases r1
    have hx : ObjOk X.prog X.w H s.heap a (.dK []) := I.hok a _ ha
    obtain ⟨z, hsm, vs, kv, hD⟩ := dk_of I.hok ha
    cases kv
    obtain ⟨o, es, ep, e1, e2, e3, _, e4, _⟩ := hD
    have e5 : es = #[] := by
      cases es with
      | mk l =>
        cases e4
        rfl
    subst e5
    have rd : Reads s.heap (.ref a) (.dict []) (a :: [] ++ []) := .dict e1 e2.1 e3 .nil .nil
    refine repr_of_reads' rd h1 (fun _ z => ?_) hg (by omega) (fun _ _ z => z) (fun h' u' tk kp => ?_) h4
    · have z1 : sysModules ∈ [a] := z
      rw [List.mem_singleton] at z1
      rw [← z1] at hsm
      cases hsm
    · exact ⟨.str _, H, I.kept kp, ⟨u', rfl⟩, q⟩
/-! ### plain values -/
def Pl (K : PySem.W.Frag) (H : Hp) (v : V) : Prop := (∃ n, v = .int n) ∨ ((∀ n, v ≠ .int n) ∧ ∃ t : String, TyX K H v (.type t) ∧ ∃ b, kitB t "int" = some b ∧ (b = true → kitB t "bool" = some true))
theorem pl_int {K : PySem.W.Frag} {H : Hp} (n : Int) : Pl K H (.int n) := .inl ⟨n, rfl⟩
theorem pl_bl {K : PySem.W.Frag} {H : Hp} (b : Bool) : Pl K H (.bl b) := .inr ⟨(fun n z => V.noConfusion z), "bool", .base (.bl b), true, (by decide +kernel), fun _ => by decide +kernel⟩
theorem pl_str {K : PySem.W.Frag} {H : Hp} (x : Str) : Pl K H (.str x) := .inr ⟨(fun n z => V.noConfusion z), "str", .base (.str x), false, (by decide +kernel), fun z => by cases z⟩
theorem pl_non {K : PySem.W.Frag} {H : Hp} : Pl K H .non := .inr ⟨(fun n z => V.noConfusion z), "NoneType", .base .non, false, (by decide +kernel), fun z => by cases z⟩
theorem pl_lst {K : PySem.W.Frag} {H : Hp} {a : Addr} {xs : List V} (h : H a = some (.lst xs)) : Pl K H (.ref a) := .inr ⟨(fun n z => V.noConfusion z), "list", .base (.lst h), false, (by decide +kernel), fun z => by cases z⟩
theorem pl_tup {K : PySem.W.Frag} {H : Hp} {a : Addr} {xs : List V} (h : H a = some (.tup xs)) : Pl K H (.ref a) := .inr ⟨(fun n z => V.noConfusion z), "tuple", .base (.tup h), false, (by decide +kernel), fun z => by cases z⟩
theorem pl_dK {K : PySem.W.Frag} {H : Hp} {a : Addr} {xs : List (Key × V)} (h : H a = some (.dK xs)) : Pl K H (.ref a) := .inr ⟨(fun n z => V.noConfusion z), "dict", .base (.dK h), false, (by decide +kernel), fun z => by cases z⟩
/-- a value that may stand where a cell or a kind is asked for: its items, if it is a tuple -/
def TupV (K : PySem.W.Frag) (H : Hp) (v : V) : Option (List V) → Prop
  | some xs => ∃ t, v = .ref t ∧ H t = some (.tup xs) ∧ xs.length ≤ 100 ∧ ∀ x ∈ xs, Pl K H x
  | none => ∃ t : String, TyX K H v (.type t) ∧ kitB t "tuple" = some false
theorem tv_int {K : PySem.W.Frag} {H : Hp} (n : Int) : TupV K H (.int n) none := ⟨"int", .base (.int n), by decide +kernel⟩
theorem tv_bl {K : PySem.W.Frag} {H : Hp} (b : Bool) : TupV K H (.bl b) none := ⟨"bool", .base (.bl b), by decide +kernel⟩
theorem tv_str {K : PySem.W.Frag} {H : Hp} (x : Str) : TupV K H (.str x) none := ⟨"str", .base (.str x), by decide +kernel⟩
theorem tv_non {K : PySem.W.Frag} {H : Hp} : TupV K H .non none := ⟨"NoneType", .base .non, by decide +kernel⟩
theorem tv_lst {K : PySem.W.Frag} {H : Hp} {a : Addr} {xs : List V} (h : H a = some (.lst xs)) : TupV K H (.ref a) none := ⟨"list", .base (.lst h), by decide +kernel⟩
theorem tv_dK {K : PySem.W.Frag} {H : Hp} {a : Addr} {xs : List (Key × V)} (h : H a = some (.dK xs)) : TupV K H (.ref a) none := ⟨"dict", .base (.dK h), by decide +kernel⟩
def isI : V → Bool
  | .int _ => true
  | _ => false
def inI (v : V) (a b : Int) : Bool := match v with
  | .int n => decide (a ≤ n) && decide (n ≤ b)
  | _ => false
theorem isI_no {v : V} (h : ∀ n, v ≠ .int n) : isI v = false := by
  cases v with
  | int n => exact absurd rfl (h n)
  | _ => rfl
theorem inI_no {v : V} {a b : Int} (h : ∀ n, v ≠ .int n) : inI v a b = false := by
  cases v with
  | int n => exact absurd rfl (h n)
  | _ => rfl
def cellB (n : Int) : Option (List V) → Bool
  | some [x, y] => inI x 0 (n - 1) && inI y 0 (n - 1)
  | _ => false
def kindB : Option (List V) → Bool
  | some [x, y, z] => inI x 0 1 && (inI y 0 2 && inI z 0 3)
  | _ => false
/-! ### promises -/
/-- an error of the class C flies, which keeps v -/
def Fl (E : XK) (C : Addr) (v : V) (H : Hp) : Prop := ∀ d H', Same H H' → H' d = some (.xd [("given", v)]) → E (.ref C) (some d) H'
def spWholeA (K : PySem.W.Frag) : Sp := fun vs H Q _ => ∃ v, vs = [v] ∧ Pl K H v ∧ Q (.bl (isI v)) H
def spWithinA (K : PySem.W.Frag) : Sp := fun vs H Q _ => ∃ (v : V) (a b : Int), vs = [v, .int a, .int b] ∧ Pl K H v ∧ Q (.bl (inI v a b)) H
def spCellA (K : PySem.W.Frag) : Sp := fun vs H Q _ => ∃ (n : Int) (v : V) (c : Option (List V)), vs = [.int n, v] ∧ TupV K H v c ∧ ∀ H', Same H H' → Q (.bl (cellB n c)) H'
def spKindA (K : PySem.W.Frag) : Sp := fun vs H Q _ => ∃ (v : V) (c : Option (List V)), vs = [v] ∧ TupV K H v c ∧ Q (.bl (kindB c)) H
def spSizeX (K : PySem.W.Frag) (C : Addr) : Sp := fun vs H Q E => ∃ v, vs = [v] ∧ Pl K H v ∧ (inI v 1 big = true → Q .non H) ∧ (inI v 1 big = false → Fl E C v H)
def spCellX (K : PySem.W.Frag) (C : Addr) : Sp := fun vs H Q E => ∃ (n : Int) (v : V) (c : Option (List V)), vs = [.int n, v] ∧ TupV K H v c ∧ (cellB n c = true → ∀ H', Same H H' → Q .non H') ∧ (cellB n c = false → Fl E C v H)
/-- a function of a size and a cell, or a size and a kind: C2 the error of the second one, ok if it is right -/
def spAsk (K : PySem.W.Frag) (C1 C2 : Addr) (ok : Int → Option (List V) → Bool) : Sp := fun vs H Q E => ∃ (v w : V) (c : Option (List V)), vs = [v, w] ∧ Pl K H v ∧ TupV K H w c ∧ (inI v 1 big = false → Fl E C1 v H) ∧
  ∀ n, v = .int n → 1 ≤ n → n ≤ big → (ok n c = false → Fl E C2 w H) ∧ (ok n c = true → ∀ x H', Same H H' → Q x H')
def spKindsX (K : PySem.W.Frag) (C1 : Addr) : Sp := fun vs H Q E => ∃ v, vs = [v] ∧ Pl K H v ∧ (inI v 1 big = false → Fl E C1 v H) ∧ (inI v 1 big = true → ∀ x H', Same H H' → Q x H')
theorem inI_of {v : V} {a b : Int} (h : inI v a b = true) : ∃ n, v = .int n ∧ a ≤ n ∧ n ≤ b := by
  cases v with
  | int n =>
    have h : (decide (a ≤ n) && decide (n ≤ b)) = true := h
    rw [Bool.and_eq_true, decide_eq_true_eq, decide_eq_true_eq] at h
    exact ⟨n, rfl, h⟩
  | _ => cases h
def spBad (K : PySem.W.Frag) (C1 C2 : Addr) (ok : Int → Option (List V) → Bool) : Sp := fun vs H Q E => ∃ (v w : V) (c : Option (List V)), vs = [v, w] ∧ Pl K H v ∧ TupV K H w c ∧
  ((inI v 1 big = false ∧ Fl E C1 v H) ∨ ∃ n, v = .int n ∧ 1 ≤ n ∧ n ≤ big ∧ ok n c = false ∧ Fl E C2 w H)
def spBadN (K : PySem.W.Frag) (C1 : Addr) : Sp := fun vs H Q E => ∃ v, vs = [v] ∧ Pl K H v ∧ inI v 1 big = false ∧ Fl E C1 v H
theorem FnOk.use {P : Program} {w : World} {K : PySem.W.Frag} {mg : Str → Option Value} {base : Heap} {CX : CXT} {k : Nat} {f : Addr} {fd : FuncData} {ps : List Str} {sp sp' : Sp} (F : FnOk P w K mg base CX k f fd ps sp) (h : ∀ vs H Q E, sp' vs H Q E → sp vs H Q E) : FnOk P w K mg base CX k f fd ps sp' := by
  refine ⟨fun vs H Q E q => F.len vs H Q E (h vs H Q E q), ?_⟩
  intro a1 a2 a3 a4 a5 a6 a7 a8 a9 b1 b2 b3 b4 q
  exact F.run a1 a2 a3 a4 a5 a6 a7 a8 a9 b1 b2 b3 b4 (h _ _ _ _ q)
theorem TyX.same {K : PySem.W.Frag} {H H' : Hp} {v : V} {t : Value} (e : Same H H') (h : TyX K H v t) : TyX K H' v t := by
  cases h with
  | base b =>
    cases b with
    | non => exact .base .non
    | bl x => exact .base (.bl x)
    | int i => exact .base (.int i)
    | str x => exact .base (.str x)
    | flt x => exact .base (.flt x)
    | lst h => exact .base (.lst (e _ _ h))
    | frz h => exact .base (.frz (e _ _ h))
    | tup h => exact .base (.tup (e _ _ h))
    | dK h => exact .base (.dK (e _ _ h))
    | dT h => exact .base (.dT (e _ _ h))
    | ins h cl ha hn htk hm => exact .base (.ins (e _ _ h) cl ha hn htk hm)
  | byt b => exact .byt b
  | set h => exact .set (e _ _ h)
  | kList h c => exact .kList h c
  | kTuple h c => exact .kTuple h c
  | kDict h c => exact .kDict h c
  | fTuple h => exact .fTuple (e _ _ h)
  | fDict h => exact .fDict (e _ _ h)
theorem Pl.same {K : PySem.W.Frag} {H H' : Hp} {v : V} (e : Same H H') (h : Pl K H v) : Pl K H' v := by
  rcases h with h | ⟨h, t, ty, k⟩
  · exact .inl h
  · exact .inr ⟨h, t, TyX.same e ty, k⟩
theorem TupV.same {K : PySem.W.Frag} {H H' : Hp} {v : V} {c : Option (List V)} (e : Same H H') (h : TupV K H v c) : TupV K H' v c := by
  cases c with
  | none =>
    obtain ⟨t, ty, k⟩ := h
    exact ⟨t, TyX.same e ty, k⟩
  | some xs =>
    obtain ⟨t, e1, e2, e3, e4⟩ := h
    exact ⟨t, e1, e _ _ e2, e3, fun x hx => (e4 x hx).same e⟩
theorem Fl.same {E : XK} {C : Addr} {v : V} {H H' : Hp} (h : Fl E C v H) (s : Same H H') : Fl E C v H' := fun d H2 s2 e => h d H2 (s.trans s2) e
/-! ### two promises of one function -/
theorem FnOk.toCX {P : Program} {w : World} {K : PySem.W.Frag} {mg : Str → Option Value} {base : Heap} {k : Nat} {f : Addr} {fd : FuncData} {ps : List Str} {sp : Sp} (F : FnOk P w K mg base CX0 k f fd ps sp) : FnOk P w K mg base (L2.CX P w) k f fd ps sp := by
  refine ⟨F.len, ?_⟩
  intros
  refine codeAny_mono (F.run _ _ _ _ _ _ _ _ _ ‹_› ‹_› ‹_› ‹_› ‹_›) fun r s' h => ?_
  match r, h with
  | .ok (.ret _), h => exact h
  | .ok .next, h => exact h
  | .ok .brk, h => exact h
  | .ok .cont, h => exact h
  | .error _, h => exact False.elim h
theorem FnOk.either {P : Program} {w : World} {K : PySem.W.Frag} {mg : Str → Option Value} {base : Heap} {CX : CXT} {k : Nat} {f : Addr} {fd : FuncData} {ps : List Str} {sp sp' : Sp} (F : FnOk P w K mg base CX k f fd ps sp) (G : FnOk P w K mg base CX k f fd ps sp') :
    FnOk P w K mg base CX k f fd ps (fun vs H Q E => sp vs H Q E ∨ sp' vs H Q E) := by
  refine ⟨fun vs H Q E h => h.elim (F.len vs H Q E) (G.len vs H Q E), ?_⟩
  intro a1 a2 a3 a4 a5 a6 a7 a8 a9 b1 b2 b3 b4 h
  rcases h with h | h
  · exact F.run a1 a2 a3 a4 a5 a6 a7 a8 a9 b1 b2 b3 b4 h
  · exact G.run a1 a2 a3 a4 a5 a6 a7 a8 a9 b1 b2 b3 b4 h
theorem cell_of {K : PySem.W.Frag} {H : Hp} {w : V} {c : Option (List V)} {n : Int} (h : TupV K H w c) (b : cellB n c = true) : ∃ (t : Addr) (q : Cell), w = .ref t ∧ H t = some (.tup [.int q.1, .int q.2]) ∧ InN n q := by
  match c, h, b with
  | some [x, y], h, b =>
    obtain ⟨t, e1, e2, _⟩ := h
    have b : (inI x 0 (n - 1) && inI y 0 (n - 1)) = true := b
    rw [Bool.and_eq_true] at b
    obtain ⟨i, rfl, i0, i1⟩ := inI_of b.1
    obtain ⟨j, rfl, j0, j1⟩ := inI_of b.2
    exact ⟨t, (i, j), e1, e2, ⟨i0, by show i < n; omega⟩, j0, by show j < n; omega⟩
theorem kind_ofB {K : PySem.W.Frag} {H : Hp} {w : V} {c : Option (List V)} (h : TupV K H w c) (b : kindB c = true) : ∃ (t : Addr) (x y z : Int), w = .ref t ∧ KindAt H t x y z ∧ KindR x y z := by
  match c, h, b with
  | some [x, y, z], h, b =>
    obtain ⟨t, e1, e2, _⟩ := h
    have b : (inI x 0 1 && (inI y 0 2 && inI z 0 3)) = true := b
    rw [Bool.and_eq_true, Bool.and_eq_true] at b
    obtain ⟨i, rfl, i0, i1⟩ := inI_of b.1
    obtain ⟨j, rfl, j0, j1⟩ := inI_of b.2.1
    obtain ⟨k, rfl, k0, k1⟩ := inI_of b.2.2
    exact ⟨t, i, j, k, e1, e2, ⟨i0, i1⟩, ⟨j0, j1⟩, k0, k1⟩
theorem cellB_len {n : Int} : ∀ {xs : List V}, xs.length ≠ 2 → cellB n (some xs) = false
  | [], _ => rfl
  | [_], _ => rfl
  | [_, _], h => absurd rfl h
  | _ :: _ :: _ :: _, _ => rfl
theorem kindB_len : ∀ {xs : List V}, xs.length ≠ 3 → kindB (some xs) = false
  | [], _ => rfl
  | [_], _ => rfl
  | [_, _], _ => rfl
  | [_, _, _], h => absurd rfl h
  | _ :: _ :: _ :: _ :: _, _ => rfl
end Sq
namespace Sq
open PySem L2 PySem.Spec PyProof.Rows
/-- what is of a built-in type that is a bool is a truth -/
theorem bool_of {K : PySem.W.Frag} {H : Hp} {v : V} {t : String} (ty : TyX K H v (.type t)) (h : kitB t "bool" = some true) : ∃ y, v = .bl y := by
  cases ty with
  | base b =>
    cases b with
    | bl y => exact ⟨y, rfl⟩
    | _ => exact absurd h (by decide +kernel)
  | _ => exact absurd h (by decide +kernel)
end Sq
namespace Sq
open PySem L2 TL
section
variable {P : Program} {w : World} {K : PySem.W.Frag} {mg : Str → Option Value} {base : Heap}
theorem ok_is_wholeA {f : Addr} {fd : FuncData} (F : Fun K "is_whole" "is_whole" s_is_whole f fd) (T : Bt mg)  : FnOk P w K mg base CX0 1 f fd ["value"] (spWholeA K) := by
  refine F.ok sc_is_whole (fun vs H Q E h => ?_) (fun cdv A outer s H vs Q E hr h => ?_)
  · obtain ⟨v, rfl, _⟩ := h
    rfl
  · obtain ⟨v, rfl, pl, q⟩ := h
    refine ⟨_, (pss_one (ps_ret (pe_and (pe_callB call_isi (by rfl) T.isinstance (by decide +kernel) (pa_cons (pv 0) (pa_cons (pe_bltn (v := .ty "int") (by rfl) T.int (by decide +kernel) rfl) pa_nil)))
            (pe_and (pe_cmpR op_notTF (pv 0) pe_bl (nomark _))
            (pe_one (pe_cmpR op_notTF (pv 0) pe_bl (nomark _))))))), ?_⟩
    rcases pl with ⟨n, rfl⟩ | ⟨nn, t, ty, b, k1, k2⟩
    · refine ⟨_, rfl, _, _, .type "int", _, true, rfl, .ty "int", .base (.int n), kit_ty (by decide +kernel), true, rfl, ?_⟩
      refine iteT ?_
      refine ⟨_, rfl, _, rfl, rfl, _, rfl, ?_⟩
      refine iteT ?_
      exact ⟨_, rfl, _, rfl, rfl, q⟩
    · rw [isI_no nn] at q
      refine ⟨_, rfl, _, _, .type t, _, b, rfl, .ty "int", ty, kit_ty k1, b, rfl, ?_⟩
      cases b with
      | false => exact iteF q
      | true =>
        obtain ⟨y, rfl⟩ := bool_of ty (k2 rfl)
        refine iteT ?_
        refine ⟨_, rfl, _, rfl, rfl, _, rfl, ?_⟩
        cases y with
        | true => exact iteF q
        | false => exact iteT ⟨_, rfl, _, rfl, rfl, q⟩
theorem ok_is_withinA {f : Addr} {fd : FuncData} (F : Fun K "is_within" "is_within" s_is_within f fd) (T : Bt mg) (GA_is_whole : FB P w K mg base "is_whole" 1 ["value"] (spWholeA K)) : FnOk P w K mg base CX0 2 f fd ["value", "least", "most"] (spWithinA K) := by
  refine F.ok sc_is_within (fun vs H Q E h => ?_) (fun cdv A outer s H vs Q E hr h => ?_)
  · obtain ⟨v, a, b, rfl, _⟩ := h
    rfl
  · obtain ⟨v, a, b, rfl, pl, q⟩ := h
    refine ⟨_, (pss_one (ps_ret (pe_and (pe_fb GA_is_whole hr (by decide) (by rfl) (pa_cons (pv 0) pa_nil))
            (pe_one (pe_chain op_le op_le (pv 1) (pv 0) (pv 2)))))), ?_⟩
    rcases id pl with ⟨n, rfl⟩ | ⟨nn, _⟩
    · refine ⟨_, rfl, _, rfl, pl, true, rfl, ?_⟩
      refine iteT ?_
      refine ⟨_, rfl, _, rfl, _, _, rfl, rfl, _, rfl, ?_⟩
      have q : Q (.bl (decide (a ≤ n) && decide (n ≤ b))) H := q
      by_cases h : a ≤ n
      · rw [decide_eq_true h] at q ⊢
        exact iteT ⟨_, rfl, _, _, rfl, rfl, q⟩
      · rw [decide_eq_false h] at q ⊢
        exact iteF q
    · rw [inI_no nn] at q
      refine ⟨_, rfl, v, rfl, pl, ?_⟩
      rw [isI_no nn]
      exact ⟨_, rfl, iteF q⟩
theorem ok_check_sizeA {f : Addr} {fd : FuncData} (F : Fun K "check_size" "check_size" s_check_size f fd) (T : Bt mg) (GA_is_within : FB P w K mg base "is_within" 2 ["value", "least", "most"] (spWithinA K)) {u : Tok} (mMS : mg "MOST_SIZE" = some (.int big u)) {CS : Addr} (E1 : ErrC P w K mg base "InvalidSize" "given" CS) : FnOk P w K mg base (L2.CX P w) 3 f fd ["size"] (spSizeX K CS) := by
  refine F.okX sc_check_size (fun vs H Q E h => ?_) (fun cdv A outer s H vs Q E hr h => ?_)
  · obtain ⟨v, rfl, _⟩ := h
    rfl
  · obtain ⟨v, rfl, pl, q1, q2⟩ := h
    refine ⟨_, (pss_one (ps_if (pt_not (pt_val (pe_fb GA_is_within hr (by decide) (by rfl) (pa_cons (pv 0) (pa_cons pe_int (pa_cons (pe_glob (v := .int big) (by rfl) mMS ⟨_, rfl⟩) pa_nil))))))
        (pss_one (ps_err E1 rfl (takes_of rfl rfl rfl rfl) hr (by decide) (by rfl) (pv 0)))
        pss_nil)), ?_⟩
    refine ⟨_, rfl, v, 1, big, rfl, pl, _, rfl, ?_⟩
    cases hv : inI v 1 big with
    | true => exact iteF (q1 hv)
    | false =>
      refine iteT ?_
      refine ⟨_, rfl, ?_⟩
      exact err_go fun d nd => q2 hv d _ (same_new nd) upd_same
end
end Sq
namespace Sq
open PySem L2 TL
section
variable {P : Program} {w : World} {K : PySem.W.Frag} {mg : Str → Option Value} {base : Heap}
abbrev s_images_of : Stmt := top 16
theorem sc_images_of : FnScope ["size", "row", "column", "x", "y", "back_y", "back_x"] ["size", "row", "column"] (defScope s_images_of) := ⟨rfl, rfl, rfl, by decide +kernel, rfl, by decide +kernel, by decide +kernel⟩
theorem ok_images_of {f : Addr} {fd : FuncData} (F : Fun K "images_of" "images_of" s_images_of f fd) (T : Bt mg)  : FnOk P w K mg base CX0 1 f fd ["size", "row", "column"] spImOf := by
  refine F.ok sc_images_of (fun vs H Q E h => ?_) (fun cdv A outer s H vs Q E hr h => ?_)
  · obtain ⟨n, r, c, rfl, _⟩ := h
    rfl
  · obtain ⟨n, r, c, rfl, hi, n1, q'⟩ := h
    refine ⟨_, (pss_cons (ps_asg (pe_callB cr_sorted (by rfl) T.sorted (by decide +kernel) (pa_cons (pe_lst (pa_cons (pv 1) (pa_cons (pv 2) (pa_cons (pe_op op_sub (pe_op op_sub (pv 0) pe_int) (pv 1)) (pa_cons (pe_op op_sub (pe_op op_sub (pv 0) pe_int) (pv 2)) pa_nil))))) pa_nil)) (pg_lst (by rfl) (pgs_cons (pg_name (i := 3) sc_images_of.nd rfl (by first | exact .inl rfl | exact .inr rfl)) (pgs_cons (pg_name (i := 4) sc_images_of.nd rfl (by first | exact .inl rfl | exact .inr rfl)) (pgs_cons (pg_name (i := 5) sc_images_of.nd rfl (by first | exact .inl rfl | exact .inr rfl)) (pgs_cons (pg_name (i := 6) sc_images_of.nd rfl (by first | exact .inl rfl | exact .inr rfl)) pgs_nil))))))
        (pss_cons (ps_if (pt_cmpR op_eq (pv 4) (pv 5) (nomark _))
        (pss_one (ps_ret (pe_ifExp (pt_cmpR op_eq (pv 3) (pv 4) (nomark _)) (pe_tup (pa_cons (pe_tup (pa_cons (pv 3) (pa_cons (pv 3) pa_nil))) pa_nil)) (pe_tup (pa_cons (pe_tup (pa_cons (pv 3) (pa_cons (pv 4) pa_nil))) (pa_cons (pe_tup (pa_cons (pv 4) (pa_cons (pv 3) pa_nil))) (pa_cons (pe_tup (pa_cons (pv 4) (pa_cons (pv 6) pa_nil))) (pa_cons (pe_tup (pa_cons (pv 6) (pa_cons (pv 4) pa_nil))) pa_nil))))))))
        pss_nil)
        (pss_cons (ps_if (pt_cmpR op_eq (pv 3) (pv 4) (nomark _))
        (pss_one (ps_ret (pe_tup (pa_cons (pe_tup (pa_cons (pv 3) (pa_cons (pv 3) pa_nil))) (pa_cons (pe_tup (pa_cons (pv 3) (pa_cons (pv 6) pa_nil))) (pa_cons (pe_tup (pa_cons (pv 6) (pa_cons (pv 3) pa_nil))) (pa_cons (pe_tup (pa_cons (pv 6) (pa_cons (pv 6) pa_nil))) pa_nil)))))))
        pss_nil)
        (pss_one (ps_ret (pe_tup (pa_cons (pe_tup (pa_cons (pv 3) (pa_cons (pv 4) pa_nil))) (pa_cons (pe_tup (pa_cons (pv 3) (pa_cons (pv 5) pa_nil))) (pa_cons (pe_tup (pa_cons (pv 4) (pa_cons (pv 3) pa_nil))) (pa_cons (pe_tup (pa_cons (pv 4) (pa_cons (pv 6) pa_nil))) (pa_cons (pe_tup (pa_cons (pv 5) (pa_cons (pv 3) pa_nil))) (pa_cons (pe_tup (pa_cons (pv 5) (pa_cons (pv 6) pa_nil))) (pa_cons (pe_tup (pa_cons (pv 6) (pa_cons (pv 4) pa_nil))) (pa_cons (pe_tup (pa_cons (pv 6) (pa_cons (pv 5) pa_nil))) pa_nil)))))))))))))), ?_⟩
    have two : 2 ≤ sizeLine := by decide
    refine ⟨_, rfl, _, rfl, _, rfl, _, _, rfl, rfl, _, rfl, _, _, rfl, rfl, _, rfl, _, _, rfl, rfl, _, rfl, _, _, rfl, rfl, ?_⟩
    refine ⟨by show 4 ≤ sizeLine; decide, fun p np => ?_⟩
    have s1 := same_new (o := .lst ((nums n r c).map V.int)) np
    refine ⟨p, nums n r c, rfl, SqL.of upd_same, by show 4 < 64; decide, fun ns' p2 pm pw np2 => ?_⟩
    have e := srt_of pm pw
    subst e
    obtain ⟨x, y, z, w, e4⟩ := four_of n r c
    rw [e4] at pm pw
    rw [e4]
    have s2 := same_new (o := .lst ([x, y, z, w].map V.int)) np2
    refine ⟨p2, _, rfl, SqL.of upd_same, rfl, _, _, rfl, _, _, rfl, _, _, rfl, _, _, rfl, rfl, ?_⟩
    have S := s1.trans s2
    have h1 : x ≤ y := (List.pairwise_cons.mp pw).1 y (by simp)
    have h2 : y ≤ z := (List.pairwise_cons.mp (List.pairwise_cons.mp pw).2).1 z (by simp)
    have h3 : z ≤ w := (List.pairwise_cons.mp (List.pairwise_cons.mp (List.pairwise_cons.mp pw).2).2).1 w (by simp)
    have pm : [x, y, z, w].Perm [r, c, n - 1 - r, n - 1 - c] := pm
    obtain ⟨g1, g2⟩ := four_sum pm h1 h2 h3
    refine ⟨_, rfl, _, rfl, rfl, _, rfl, ?_⟩
    by_cases hyz : y = z
    · subst hyz
      rw [decide_eq_true rfl]
      refine iteT ?_
      refine ⟨_, rfl, _, rfl, rfl, _, rfl, ?_⟩
      by_cases hxy : x = y
      · subst hxy
        have ew : w = x := by omega
        subst ew
        rw [decide_eq_true rfl]
        refine iteT ?_
        refine ⟨_, rfl, _, rfl, two, fun t0 m0 => ⟨(by show 1 ≤ sizeLine; decide), fun pp np => ?_⟩⟩
        have s0 := same_new (o := .tup [.int w, .int w]) m0
        have sp := same_new (o := .tup [.ref t0]) np
        have c0 := sp
        refine q' pp [(t0, (w, w))] _ ((S.trans s0).trans c0) upd_same (fun qq hq => ?_) (by show 1 ≤ 8; decide) ?_ ?_
        · simp only [List.mem_cons, List.not_mem_nil, or_false] at hq
          subst hq
          exact c0 _ _ upd_same
        · exact List.Pairwise.cons (fun qq hq => by cases hq) .nil
        · exact fun qq => mem1 pm qq
      · rw [decide_eq_false (fun e => hxy (V.int.inj e))]
        refine iteF ?_
        refine ⟨_, rfl, _, rfl, two, fun t0 m0 => ⟨_, rfl, _, rfl, two, fun t1 m1 => ⟨_, rfl, _, rfl, two, fun t2 m2 => ⟨_, rfl, _, rfl, two, fun t3 m3 => ⟨(by show 4 ≤ sizeLine; decide), fun pp np => ?_⟩⟩⟩⟩⟩
        have s0 := same_new (o := .tup [.int x, .int y]) m0
        have s1 := same_new (o := .tup [.int y, .int x]) m1
        have s2 := same_new (o := .tup [.int y, .int w]) m2
        have s3 := same_new (o := .tup [.int w, .int y]) m3
        have sp := same_new (o := .tup [.ref t0, .ref t1, .ref t2, .ref t3]) np
        have c3 := sp
        have c2 := s3.trans c3
        have c1 := s2.trans c2
        have c0 := s1.trans c1
        refine q' pp [(t0, (x, y)), (t1, (y, x)), (t2, (y, w)), (t3, (w, y))] _ ((S.trans s0).trans c0) upd_same (fun qq hq => ?_) (by show 4 ≤ 8; decide) ?_ ?_
        · simp only [List.mem_cons, List.not_mem_nil, or_false] at hq
          rcases hq with rfl | rfl | rfl | rfl
          · exact c0 _ _ upd_same
          · exact c1 _ _ upd_same
          · exact c2 _ _ upd_same
          · exact c3 _ _ upd_same
        · exact asc4m (by omega) (by omega)
        · exact fun qq => mem4m pm h1 h3 qq
    rw [decide_eq_false (fun e => hyz (V.int.inj e))]
    refine iteF ?_
    refine ⟨_, rfl, _, rfl, rfl, _, rfl, ?_⟩
    by_cases hxy : x = y
    · subst hxy
      have ew : w = z := by omega
      subst ew
      rw [decide_eq_true rfl]
      refine iteT ?_
      refine ⟨_, rfl, _, rfl, two, fun t0 m0 => ⟨_, rfl, _, rfl, two, fun t1 m1 => ⟨_, rfl, _, rfl, two, fun t2 m2 => ⟨_, rfl, _, rfl, two, fun t3 m3 => ⟨(by show 4 ≤ sizeLine; decide), fun pp np => ?_⟩⟩⟩⟩⟩
      have s0 := same_new (o := .tup [.int x, .int x]) m0
      have s1 := same_new (o := .tup [.int x, .int w]) m1
      have s2 := same_new (o := .tup [.int w, .int x]) m2
      have s3 := same_new (o := .tup [.int w, .int w]) m3
      have sp := same_new (o := .tup [.ref t0, .ref t1, .ref t2, .ref t3]) np
      have c3 := sp
      have c2 := s3.trans c3
      have c1 := s2.trans c2
      have c0 := s1.trans c1
      refine q' pp [(t0, (x, x)), (t1, (x, w)), (t2, (w, x)), (t3, (w, w))] _ ((S.trans s0).trans c0) upd_same (fun qq hq => ?_) (by show 4 ≤ 8; decide) ?_ ?_
      · simp only [List.mem_cons, List.not_mem_nil, or_false] at hq
        rcases hq with rfl | rfl | rfl | rfl
        · exact c0 _ _ upd_same
        · exact c1 _ _ upd_same
        · exact c2 _ _ upd_same
        · exact c3 _ _ upd_same
      · exact asc4d (by omega)
      · exact fun qq => mem4d pm h2 qq
    rw [decide_eq_false (fun e => hxy (V.int.inj e))]
    refine iteF ?_
    refine ⟨_, rfl, _, rfl, two, fun t0 m0 => ⟨_, rfl, _, rfl, two, fun t1 m1 => ⟨_, rfl, _, rfl, two, fun t2 m2 => ⟨_, rfl, _, rfl, two, fun t3 m3 => ⟨_, rfl, _, rfl, two, fun t4 m4 => ⟨_, rfl, _, rfl, two, fun t5 m5 => ⟨_, rfl, _, rfl, two, fun t6 m6 => ⟨_, rfl, _, rfl, two, fun t7 m7 => ⟨(by show 8 ≤ sizeLine; decide), fun pp np => ?_⟩⟩⟩⟩⟩⟩⟩⟩⟩
    have s0 := same_new (o := .tup [.int x, .int y]) m0
    have s1 := same_new (o := .tup [.int x, .int z]) m1
    have s2 := same_new (o := .tup [.int y, .int x]) m2
    have s3 := same_new (o := .tup [.int y, .int w]) m3
    have s4 := same_new (o := .tup [.int z, .int x]) m4
    have s5 := same_new (o := .tup [.int z, .int w]) m5
    have s6 := same_new (o := .tup [.int w, .int y]) m6
    have s7 := same_new (o := .tup [.int w, .int z]) m7
    have sp := same_new (o := .tup [.ref t0, .ref t1, .ref t2, .ref t3, .ref t4, .ref t5, .ref t6, .ref t7]) np
    have c7 := sp
    have c6 := s7.trans c7
    have c5 := s6.trans c6
    have c4 := s5.trans c5
    have c3 := s4.trans c4
    have c2 := s3.trans c3
    have c1 := s2.trans c2
    have c0 := s1.trans c1
    refine q' pp [(t0, (x, y)), (t1, (x, z)), (t2, (y, x)), (t3, (y, w)), (t4, (z, x)), (t5, (z, w)), (t6, (w, y)), (t7, (w, z))] _ ((S.trans s0).trans c0) upd_same (fun qq hq => ?_) (by show 8 ≤ 8; decide) ?_ ?_
    · simp only [List.mem_cons, List.not_mem_nil, or_false] at hq
      rcases hq with rfl | rfl | rfl | rfl | rfl | rfl | rfl | rfl
      · exact c0 _ _ upd_same
      · exact c1 _ _ upd_same
      · exact c2 _ _ upd_same
      · exact c3 _ _ upd_same
      · exact c4 _ _ upd_same
      · exact c5 _ _ upd_same
      · exact c6 _ _ upd_same
      · exact c7 _ _ upd_same
    · exact asc8 (by omega) (by omega) (by omega)
    · exact fun qq => cells_sorted pm h1 h2 h3 qq
abbrev s_images : Stmt := top 15
theorem sc_images : FnScope ["size", "cell"] ["size", "cell"] (defScope s_images) := ⟨rfl, rfl, rfl, by decide +kernel, rfl, by decide +kernel, by decide +kernel⟩
theorem ok_images {f : Addr} {fd : FuncData} (F : Fun K "images" "images" s_images f fd) (T : Bt mg) (G_check_size : FB P w K mg base "check_size" 3 ["size"] spSize) (G_check_cell : FB P w K mg base "check_cell" 4 ["size", "cell"] spCellOk) (G_images_of : FB P w K mg base "images_of" 1 ["size", "row", "column"] spImOf) : FnOk P w K mg base CX0 5 f fd ["size", "cell"] spImages := by
  refine F.ok sc_images (fun vs H Q E h => ?_) (fun cdv A outer s H vs Q E hr h => ?_)
  · obtain ⟨n, t, q, rfl, _⟩ := h
    rfl
  · obtain ⟨n, t, q, rfl, ht, hi, n1, q'⟩ := h
    obtain ⟨fA, dA, GA, mA, kA, bA⟩ := G_images_of
    refine ⟨_, (pss_cons (ps_expr (pe_fb G_check_size hr (by decide) (by rfl) (pa_cons (pv 0) pa_nil)))
        (pss_cons (ps_expr (pe_fb G_check_cell hr (by decide) (by rfl) (pa_cons (pv 0) (pa_cons (pv 1) pa_nil))))
        (pss_one (ps_ret (StX.pe_callS2 (Sq.FnOk.asR GA bA) (hr.mono (by decide)) kA (by rfl) mA pass0 (pa_cons (pv 0) (StX.pa_star (pv 1) pa_nil))))))), ?_⟩
    obtain ⟨r, c⟩ := q
    obtain ⟨⟨a0, a1⟩, b0, b1⟩ := id hi
    simp only at a0 a1 b0 b1
    refine ⟨_, rfl, n, rfl, by omega, n1, ?_⟩
    refine ⟨_, rfl, _, rfl, n, t, (r, c), rfl, ht, hi, fun H1 k1 => ?_⟩
    refine ⟨_, rfl, _, rfl, t, _, rfl, .inl (SqT.of (k1 _ _ ht)), n, r, c, rfl, hi, n1, fun p M H' sm h3 h4 h5 h6 h7 => ?_⟩
    exact q' p M _ (k1.trans sm) h3 h4 h5 h6 h7
end
end Sq
namespace Sq
open PySem L2 TL

def shN (b c : Int) : Int := if c = 0 then (if b = 0 then 3 else 2) else if b = 0 then 1 else 0
def spShape : Sp := fun vs H Q _ => ∃ (t : Addr) (a b c : Int), vs = [.ref t] ∧ KindAt H t a b c ∧ Q (.int (shN b c)) H
def spImgS : Sp := fun vs H Q _ => ∃ (t : Addr) (a b c : Int), vs = [.ref t] ∧ KindAt H t a b c ∧ ∀ H', Same H H' → Q (.int (imgN b c)) H'
theorem img_at (b c : Int) : atI [V.int 8, V.int 4, V.int 4, V.int 1] (shN b c) = some (.int (imgN b c)) := by
  unfold shN imgN
  by_cases hb : b = 0
  · by_cases hc : c = 0
    · rw [if_pos hc, if_pos hb, if_pos ⟨hb, hc⟩]
      rfl
    · rw [if_neg hc, if_pos hb, if_neg (fun e => hc e.2), if_pos (.inl hb)]
      rfl
  · by_cases hc : c = 0
    · rw [if_pos hc, if_neg hb, if_neg (fun e => hb e.1), if_pos (.inr hc)]
      rfl
    · rw [if_neg hc, if_neg hb, if_neg (fun e => hb e.1), if_neg (fun e => e.elim hb hc)]
      rfl
section
variable {P : Program} {w : World} {K : PySem.W.Frag} {mg : Str → Option Value} {base : Heap}
abbrev s_is_kind : Stmt := top 21
theorem sc_is_kind : FnScope ["value"] ["value"] (defScope s_is_kind) := ⟨rfl, rfl, rfl, by decide +kernel, rfl, by decide +kernel, by decide +kernel⟩
theorem ok_is_kind {f : Addr} {fd : FuncData} (F : Fun K "is_kind" "is_kind" s_is_kind f fd) (T : Bt mg) (G_is_within : FB P w K mg base "is_within" 2 ["value", "least", "most"] spWithin) : FnOk P w K mg base CX0 3 f fd ["value"] spIsKind := by
  refine F.ok sc_is_kind (fun vs H Q E h => ?_) (fun cdv A outer s H vs Q E hr h => ?_)
  · obtain ⟨t, a, b, c, rfl, _⟩ := h
    rfl
  · obtain ⟨t, a, b, c, rfl, ht, ⟨ha, hb, hc⟩, q⟩ := h
    refine ⟨_, (pss_one (ps_ret (pe_and (pe_callB call_isi (by rfl) T.isinstance (by decide +kernel) (pa_cons (pv 0) (pa_cons (pe_bltn (v := .ty "tuple") (by rfl) T.tuple (by decide +kernel) rfl) pa_nil)))
            (pe_and (pe_cmpR op_eq (pe_callB call_len_seq (by rfl) T.len PySem.boot_len (pa_cons (pv 0) pa_nil)) pe_int (nomark _))
            (pe_and (pe_fb G_is_within hr (by decide) (by rfl) (pa_cons (pe_ix ix_tup (pv 0) pe_int (fun _ _ => rfl)) (pa_cons pe_int (pa_cons pe_int pa_nil))))
            (pe_and (pe_fb G_is_within hr (by decide) (by rfl) (pa_cons (pe_ix ix_tup (pv 0) pe_int (fun _ _ => rfl)) (pa_cons pe_int (pa_cons pe_int pa_nil))))
            (pe_one (pe_fb G_is_within hr (by decide) (by rfl) (pa_cons (pe_ix ix_tup (pv 0) pe_int (fun _ _ => rfl)) (pa_cons pe_int (pa_cons pe_int pa_nil))))))))))), ?_⟩
    refine ⟨_, rfl, _, _, .type "tuple", _, true, rfl, .ty "tuple", .base (.tup ht), kit_ty (by decide +kernel), true, rfl, ?_⟩
    refine iteT ?_
    refine ⟨_, rfl, t, _, rfl, .inr (SqT.of ht), rfl, _, rfl, ?_⟩
    refine iteT ?_
    refine ⟨_, rfl, t, _, 0, _, rfl, rfl, SqT.of ht, rfl, a, 0, 1, rfl, _, rfl, ?_⟩
    rw [decide_eq_true ha.1, decide_eq_true ha.2]
    refine iteT ?_
    refine ⟨_, rfl, t, _, 1, _, rfl, rfl, SqT.of ht, rfl, b, 0, 2, rfl, _, rfl, ?_⟩
    rw [decide_eq_true hb.1, decide_eq_true hb.2]
    refine iteT ?_
    refine ⟨_, rfl, t, _, 2, _, rfl, rfl, SqT.of ht, rfl, c, 0, 3, rfl, ?_⟩
    rw [decide_eq_true hc.1, decide_eq_true hc.2]
    exact q
abbrev s_least_size : Stmt := top 26
theorem sc_least_size : FnScope ["kind", "a", "b", "c"] ["kind"] (defScope s_least_size) := ⟨rfl, rfl, rfl, by decide +kernel, rfl, by decide +kernel, by decide +kernel⟩
theorem ok_least_size {f : Addr} {fd : FuncData} (F : Fun K "least_size" "least_size" s_least_size f fd) (T : Bt mg)  : FnOk P w K mg base CX0 1 f fd ["kind"] (spLeastS K) := by
  refine F.ok sc_least_size (fun vs H Q E h => ?_) (fun cdv A outer s H vs Q E hr h => ?_)
  · obtain ⟨t, a, b, c, rfl, _⟩ := h
    rfl
  · obtain ⟨t, a, b, c, rfl, ht, q⟩ := h
    refine ⟨_, (pss_cons (ps_asg (pv 0) (pg_tup (by rfl) (pgs_cons (pg_name (i := 1) sc_least_size.nd rfl (by first | exact .inl rfl | exact .inr rfl)) (pgs_cons (pg_name (i := 2) sc_least_size.nd rfl (by first | exact .inl rfl | exact .inr rfl)) (pgs_cons (pg_name (i := 3) sc_least_size.nd rfl (by first | exact .inl rfl | exact .inr rfl)) pgs_nil)))))
        (pss_one (ps_ret (pe_op op_add (pe_op op_add (pe_op op_add (pe_op op_mul pe_int (pv 1)) (pe_op op_mul pe_int (pv 2))) (pv 3)) pe_int)))), ?_⟩
    refine ⟨_, rfl, t, _, rfl, ht, rfl, _, _, rfl, _, _, rfl, _, _, rfl, rfl, ?_⟩
    refine ⟨_, rfl, _, _, rfl, rfl, .inl ⟨by decide, by decide⟩, _, rfl, _, _, rfl, rfl, .inl ⟨by decide, by decide⟩, _, _, rfl, rfl, _, rfl, _, _, rfl, rfl, _, _, rfl, rfl, ?_⟩
    exact q
abbrev s_shape_of : Stmt := top 22
theorem sc_shape_of : FnScope ["kind", "_", "b", "c"] ["kind"] (defScope s_shape_of) := ⟨rfl, rfl, rfl, by decide +kernel, rfl, by decide +kernel, by decide +kernel⟩
theorem ok_shape_of {f : Addr} {fd : FuncData} (F : Fun K "shape_of" "shape_of" s_shape_of f fd) (T : Bt mg)  : FnOk P w K mg base CX0 1 f fd ["kind"] spShape := by
  refine F.ok sc_shape_of (fun vs H Q E h => ?_) (fun cdv A outer s H vs Q E hr h => ?_)
  · obtain ⟨t, a, b, c, rfl, _⟩ := h
    rfl
  · obtain ⟨t, a, b, c, rfl, ht, q⟩ := h
    refine ⟨_, (pss_cons (ps_asg (pv 0) (pg_tup (by rfl) (pgs_cons (pg_name (i := 1) sc_shape_of.nd rfl (by first | exact .inl rfl | exact .inr rfl)) (pgs_cons (pg_name (i := 2) sc_shape_of.nd rfl (by first | exact .inl rfl | exact .inr rfl)) (pgs_cons (pg_name (i := 3) sc_shape_of.nd rfl (by first | exact .inl rfl | exact .inr rfl)) pgs_nil)))))
        (pss_cons (ps_if (pt_cmpR op_eq (pv 3) pe_int (nomark _))
        (pss_one (ps_ret (pe_ifExp (pt_cmpR op_eq (pv 2) pe_int (nomark _)) pe_int pe_int)))
        pss_nil)
        (pss_one (ps_ret (pe_ifExp (pt_cmpR op_eq (pv 2) pe_int (nomark _)) pe_int pe_int))))), ?_⟩
    refine ⟨_, rfl, t, _, rfl, SqT.of ht, rfl, _, _, rfl, _, _, rfl, _, _, rfl, rfl, ?_⟩
    unfold shN at q
    refine ⟨_, rfl, rfl, _, rfl, ?_⟩
    by_cases hc : c = 0
    · rw [decide_eq_true (congrArg V.int hc)]
      rw [if_pos hc] at q
      refine iteT ?_
      refine ⟨_, rfl, rfl, _, rfl, ?_⟩
      by_cases hb : b = 0
      · rw [decide_eq_true (congrArg V.int hb)]
        rw [if_pos hb] at q
        exact iteT q
      · rw [decide_eq_false (fun e => hb (V.int.inj e))]
        rw [if_neg hb] at q
        exact iteF q
    · rw [decide_eq_false (fun e => hc (V.int.inj e))]
      rw [if_neg hc] at q
      refine iteF ?_
      refine ⟨_, rfl, rfl, _, rfl, ?_⟩
      by_cases hb : b = 0
      · rw [decide_eq_true (congrArg V.int hb)]
        rw [if_pos hb] at q
        exact iteT q
      · rw [decide_eq_false (fun e => hb (V.int.inj e))]
        rw [if_neg hb] at q
        exact iteF q
abbrev s_image_count : Stmt := top 23
theorem sc_image_count : FnScope ["kind"] ["kind"] (defScope s_image_count) := ⟨rfl, rfl, rfl, by decide +kernel, rfl, by decide +kernel, by decide +kernel⟩
theorem ok_image_count {f : Addr} {fd : FuncData} (F : Fun K "image_count" "image_count" s_image_count f fd) (T : Bt mg) (G_shape_of : FB P w K mg base "shape_of" 1 ["kind"] spShape) {tIC : Addr} (mIC : mg "IMAGE_COUNTS" = some (.ref tIC)) (hIC : ∀ H, SqT K H tIC [.int 8, .int 4, .int 4, .int 1]) : FnOk P w K mg base CX0 2 f fd ["kind"] spImgS := by
  refine F.ok sc_image_count (fun vs H Q E h => ?_) (fun cdv A outer s H vs Q E hr h => ?_)
  · obtain ⟨t, a, b, c, rfl, _⟩ := h
    rfl
  · obtain ⟨t, a, b, c, rfl, ht, q⟩ := h
    refine ⟨_, (pss_one (ps_ret (pe_ix ix_tup (pe_glob (v := .ref tIC) (by rfl) mIC rfl) (pe_fb G_shape_of hr (by decide) (by rfl) (pa_cons (pv 0) pa_nil)) (fun _ _ => rfl)))), ?_⟩
    refine ⟨_, rfl, t, a, b, c, rfl, ht, ?_⟩
    exact ⟨tIC, _, _, _, rfl, rfl, hIC H, img_at b c, q _ (Same.refl _)⟩
abbrev s_ways : Stmt := top 25
theorem sc_ways : FnScope ["parts", "total"] ["parts", "total"] (defScope s_ways) := ⟨rfl, rfl, rfl, by decide +kernel, rfl, by decide +kernel, by decide +kernel⟩
theorem ok_ways {f : Addr} {fd : FuncData} (F : Fun K "ways" "ways" s_ways f fd) (T : Bt mg)  : FnOk P w K mg base CX0 1 f fd ["parts", "total"] spWays := by
  refine F.ok sc_ways (fun vs H Q E h => ?_) (fun cdv A outer s H vs Q E hr h => ?_)
  · obtain ⟨p, t, rfl, _⟩ := h
    rfl
  · obtain ⟨p, t, rfl, t0, t1, q⟩ := h
    refine ⟨_, (pss_cons (ps_if (pt_cmpR op_eq (pv 0) pe_int (nomark _))
        (pss_one (ps_ret (pe_ifExp (pt_cmpR op_eq (pv 1) pe_int (nomark _)) pe_int pe_int)))
        pss_nil)
        (pss_cons (ps_if (pt_cmpR op_eq (pv 0) pe_int (nomark _))
        (pss_one (ps_ret pe_int))
        pss_nil)
        (pss_cons (ps_if (pt_cmpR op_eq (pv 0) pe_int (nomark _))
        (pss_one (ps_ret (pe_op op_add (pv 1) pe_int)))
        pss_nil)
        (pss_one (ps_ret (pe_op op_fdiv (pe_op op_mulW (pe_op op_add (pv 1) pe_int) (pe_op op_add (pv 1) pe_int)) pe_int)))))), ?_⟩
    unfold waysN at q
    refine ⟨_, rfl, rfl, _, rfl, ?_⟩
    by_cases p0 : p = 0
    · subst p0
      rw [if_pos rfl] at q
      refine iteT ?_
      refine ⟨_, rfl, rfl, _, rfl, ?_⟩
      by_cases h : t = 0
      · rw [decide_eq_true (congrArg V.int h)]
        rw [if_pos h] at q
        exact iteT q
      · rw [decide_eq_false (fun e => h (V.int.inj e))]
        rw [if_neg h] at q
        exact iteF q
    rw [decide_eq_false (fun e => p0 (by have := V.int.inj e; omega))]
    rw [if_neg p0] at q
    refine iteF ?_
    refine ⟨_, rfl, rfl, _, rfl, ?_⟩
    by_cases p1 : p = 1
    · subst p1
      exact iteT q
    rw [decide_eq_false (fun e => p1 (by have := V.int.inj e; omega))]
    rw [if_neg p1] at q
    refine iteF ?_
    refine ⟨_, rfl, rfl, _, rfl, ?_⟩
    by_cases p2 : p = 2
    · subst p2
      exact iteT ⟨_, rfl, _, _, rfl, rfl, q⟩
    rw [decide_eq_false (fun e => p2 (by have := V.int.inj e; omega))]
    rw [if_neg p2] at q
    refine iteF ?_
    refine ⟨_, rfl, _, _, rfl, rfl, _, rfl, _, _, rfl, rfl, _, _, rfl, rfl, ?_, _, _, rfl, rfl, ⟨by decide, by decide⟩, q⟩
    refine wide_mul (a := 128) (b := 128) ?_ ?_ (by decide) (by decide) (by decide)
    · have e : (2 : Nat) ^ 128 = 340282366920938463463374607431768211456 := by decide
      unfold big at t1
      omega
    · have e : (2 : Nat) ^ 128 = 340282366920938463463374607431768211456 := by decide
      unfold big at t1
      omega
abbrev s_group_count : Stmt := top 24
theorem sc_group_count : FnScope ["size", "kind", "a", "b", "c", "rest", "open_parts"] ["size", "kind"] (defScope s_group_count) := ⟨rfl, rfl, rfl, by decide +kernel, rfl, by decide +kernel, by decide +kernel⟩
theorem ok_group_count {f : Addr} {fd : FuncData} (F : Fun K "group_count" "group_count" s_group_count f fd) (T : Bt mg) (G_least_size : FB P w K mg base "least_size" 1 ["kind"] (spLeastS K)) (G_ways : FB P w K mg base "ways" 1 ["parts", "total"] spWays) : FnOk P w K mg base CX0 2 f fd ["size", "kind"] (spGroupS K) := by
  refine F.ok sc_group_count (fun vs H Q E h => ?_) (fun cdv A outer s H vs Q E hr h => ?_)
  · obtain ⟨n, t, a, b, c, rfl, _⟩ := h
    rfl
  · obtain ⟨n, t, a, b, c, rfl, ht, hk, n1, q⟩ := h
    refine ⟨_, (pss_cons (ps_asg (pv 1) (pg_tup (by rfl) (pgs_cons (pg_name (i := 2) sc_group_count.nd rfl (by first | exact .inl rfl | exact .inr rfl)) (pgs_cons (pg_name (i := 3) sc_group_count.nd rfl (by first | exact .inl rfl | exact .inr rfl)) (pgs_cons (pg_name (i := 4) sc_group_count.nd rfl (by first | exact .inl rfl | exact .inr rfl)) pgs_nil)))))
        (pss_cons (ps_set (i := 5) sc_group_count.nd rfl (by first | exact .inl rfl | exact .inr rfl) (pe_op op_sub (pv 0) (pe_fb G_least_size hr (by decide) (by rfl) (pa_cons (pv 1) pa_nil))))
        (pss_cons (ps_if (pt_cmpR op_lt (pv 5) pe_int (nomark _))
        (pss_one (ps_ret pe_int))
        pss_nil)
        (pss_cons (ps_set (i := 6) sc_group_count.nd rfl (by first | exact .inl rfl | exact .inr rfl) (pe_bm PySem.F.plainAttrs_list PySem.F.slot_list_count PySem.F.type_list_count mt_bcount (pe_lst (pa_cons (pe_cmpR op_eq (pv 2) pe_int (nomark _)) (pa_cons (pe_cmpR op_eq (pv 3) pe_int (nomark _)) pa_nil))) (pa_cons pe_bl pa_nil)))
        (pss_cons (ps_if (pt_cmpR op_eq (pv 4) pe_int (nomark _))
        (pss_one (ps_ret (pe_fb G_ways hr (by decide) (by rfl) (pa_cons (pe_op op_add (pv 6) pe_int) (pa_cons (pe_op op_fdiv (pv 5) pe_int) pa_nil)))))
        pss_nil)
        (pss_one (ps_ret (pe_ifExp (pt_cmpR op_eq (pe_op op_mod (pv 5) pe_int) pe_int (nomark _)) (pe_fb G_ways hr (by decide) (by rfl) (pa_cons (pv 6) (pa_cons (pe_op op_fdiv (pv 5) pe_int) pa_nil))) pe_int)))))))), ?_⟩
    refine ⟨_, rfl, t, _, rfl, ht, rfl, _, _, rfl, _, _, rfl, _, _, rfl, rfl, ?_⟩
    refine ⟨_, rfl, _, rfl, t, a, b, c, rfl, ht, _, _, rfl, rfl, ?_⟩
    refine ⟨_, rfl, _, _, rfl, rfl, _, rfl, ?_⟩
    obtain ⟨⟨a0, a1⟩, ⟨b0, b1⟩, ⟨c0, c1⟩⟩ := hk
    have lb : 1 ≤ leastN a b c := by
      unfold leastN
      omega
    unfold grpN at q
    by_cases h0 : n - leastN a b c < 0
    · rw [decide_eq_true h0]
      rw [if_pos h0] at q
      exact iteT (q H (Same.refl _))
    rw [decide_eq_false h0]
    rw [if_neg h0] at q
    refine iteF ?_
    refine ⟨_, rfl, rfl, _, rfl, rfl, (by show 2 ≤ sizeLine; decide), fun p np => ?_⟩
    have sm := same_new (o := .lst [.bl (decide (V.int a = V.int 1)), .bl (decide (V.int b = V.int 2))]) np
    have ea : decide (V.int a = V.int 1) = decide (a = 1) := by
      by_cases h : a = 1
      · rw [decide_eq_true h, decide_eq_true (congrArg V.int h)]
      · rw [decide_eq_false h, decide_eq_false (fun e => h (V.int.inj e))]
    have eb : decide (V.int b = V.int 2) = decide (b = 2) := by
      by_cases h : b = 2
      · rw [decide_eq_true h, decide_eq_true (congrArg V.int h)]
      · rw [decide_eq_false h, decide_eq_false (fun e => h (V.int.inj e))]
    refine ⟨.inl ⟨rfl, _, SqL.of upd_same⟩, p, [decide (V.int a = V.int 1), decide (V.int b = V.int 2)], true, rfl, rfl, SqL.of upd_same, ?_⟩
    have ec : [decide (V.int a = V.int 1), decide (V.int b = V.int 2)].count true = openN a b := by
      rw [ea, eb]
      rfl
    rw [ec]
    have hdiv : 0 ≤ (n - leastN a b c) / 2 ∧ (n - leastN a b c) / 2 ≤ big := by
      unfold big at *
      omega
    refine ⟨_, rfl, rfl, _, rfl, ?_⟩
    by_cases h3 : c = 3
    · rw [decide_eq_true (congrArg V.int h3)]
      rw [if_pos h3] at q
      refine iteT ?_
      refine ⟨_, rfl, _, _, rfl, rfl, _, rfl, _, _, rfl, rfl, ⟨by decide, by decide⟩, openN a b + 1, _, rfl, hdiv.1, hdiv.2, ?_⟩
      exact q _ sm
    rw [decide_eq_false (fun e => h3 (V.int.inj e))]
    rw [if_neg h3] at q
    refine iteF ?_
    refine ⟨_, rfl, _, _, rfl, rfl, (by show (0 : Int) < 2; decide), rfl, _, rfl, ?_⟩
    by_cases h2 : (n - leastN a b c) % 2 = 0
    · rw [decide_eq_true (congrArg V.int h2)]
      rw [if_pos h2] at q
      refine iteT ?_
      refine ⟨_, rfl, _, rfl, _, _, rfl, rfl, ⟨by decide, by decide⟩, openN a b, _, rfl, hdiv.1, hdiv.2, ?_⟩
      exact q _ sm
    · rw [decide_eq_false (fun e => h2 (V.int.inj e))]
      rw [if_neg h2] at q
      exact iteF (q _ sm)
abbrev s_cell_count : Stmt := top 20
theorem sc_cell_count : FnScope ["size", "kind"] ["size", "kind"] (defScope s_cell_count) := ⟨rfl, rfl, rfl, by decide +kernel, rfl, by decide +kernel, by decide +kernel⟩
theorem ok_cell_count {f : Addr} {fd : FuncData} (F : Fun K "cell_count" "cell_count" s_cell_count f fd) (T : Bt mg) (G_check_size : FB P w K mg base "check_size" 3 ["size"] spSize) (G_is_kind : FB P w K mg base "is_kind" 3 ["value"] spIsKind) (G_group_count : FB P w K mg base "group_count" 2 ["size", "kind"] (spGroupS K)) (G_image_count : FB P w K mg base "image_count" 2 ["kind"] spImgS) : FnOk P w K mg base CX0 4 f fd ["size", "kind"] spCount := by
  refine F.ok sc_cell_count (fun vs H Q E h => ?_) (fun cdv A outer s H vs Q E hr h => ?_)
  · obtain ⟨n, t, a, b, c, rfl, _⟩ := h
    rfl
  · obtain ⟨n, t, a, b, c, rfl, ht, hk, n0, n1, q⟩ := h
    refine ⟨_, (pss_cons (ps_expr (pe_fb G_check_size hr (by decide) (by rfl) (pa_cons (pv 0) pa_nil)))
        (pss_cons (ps_if (pt_not (pt_val (pe_fb G_is_kind hr (by decide) (by rfl) (pa_cons (pv 1) pa_nil))))
        (pss_one ps_never)
        pss_nil)
        (pss_one (ps_ret (pe_op op_mul (pe_fb G_group_count hr (by decide) (by rfl) (pa_cons (pv 0) (pa_cons (pv 1) pa_nil))) (pe_fb G_image_count hr (by decide) (by rfl) (pa_cons (pv 1) pa_nil))))))), ?_⟩
    refine ⟨_, rfl, n, rfl, n0, n1, ?_⟩
    refine ⟨_, rfl, t, a, b, c, rfl, ht, hk, _, rfl, ?_⟩
    refine iteF ?_
    refine ⟨_, rfl, _, rfl, n, t, a, b, c, rfl, SqT.of ht, hk, n1, fun H' sm => ?_⟩
    refine ⟨_, rfl, t, a, b, c, rfl, sm _ _ ht, fun H2 s2 => ⟨_, _, rfl, rfl, .inr ?_, q H2 (sm.trans s2)⟩⟩
    unfold imgN
    split
    · exact ⟨by decide, by decide⟩
    · split <;> exact ⟨by decide, by decide⟩
abbrev s_kinds_of : Stmt := top 19
theorem sc_kinds_of : FnScope ["size", "kind"] ["size"] (defScope s_kinds_of) := ⟨rfl, rfl, rfl, by decide +kernel, rfl, by decide +kernel, by decide +kernel⟩
theorem ok_kinds_of {f : Addr} {fd : FuncData} (F : Fun K "kinds_of" "kinds_of" s_kinds_of f fd) (T : Bt mg) (G_check_size : FB P w K mg base "check_size" 3 ["size"] spSize) (G_group_count : FB P w K mg base "group_count" 2 ["size", "kind"] (spGroupS K)) {aDS : Addr} (mDS : mg "DECIDING_SIZES" = some (.ref aDS)) (WK : WKinds K aDS) : FnOk P w K mg base CX0 4 f fd ["size"] (spKindsOfS K) := by
  refine F.ok sc_kinds_of (fun vs H Q E h => ?_) (fun cdv A outer s H vs Q E hr h => ?_)
  · obtain ⟨n, rfl, _⟩ := h
    rfl
  · obtain ⟨n, rfl, n0, n1, q⟩ := h
    obtain ⟨es, ep, L, DW, pKL, eKL⟩ := WK.ex
    refine ⟨_, (pss_cons (ps_expr (pe_fb G_check_size hr (by decide) (by rfl) (pa_cons (pv 0) pa_nil)))
        (pss_one (ps_ret (pe_tupleOf (by rfl) T.tuple (pe_lc (own := [("kind", 1)]) (g := gName 1) (by rfl) sc_kinds_of.nd (pi_keysW DW (pe_glob (v := .ref aDS) (by rfl) mDS rfl)) (blkOk_by (own := [("kind", 1)]) (N := ["size", "kind"]) (sc := defScope s_kinds_of) (by decide +kernel))
            (fun _ _ _ _ _ => (pg_name (i := 1) sc_kinds_of.nd rfl (by first | exact .inl rfl | exact .inr rfl))) (fun _ _ _ _ _ => (pts_one (pt_cmpR op_gt (pe_fb G_group_count hr (by decide) (by rfl) (pa_cons (pv 0) (pa_cons (pv 1) pa_nil))) pe_int (nomark _)))) (fun _ _ _ _ _ => (pv 1))))))), ?_⟩
    refine ⟨_, rfl, n, rfl, n0, n1, ?_⟩
    refine ⟨rfl, fun D nD => ?_⟩
    have s1 : Same H H := Same.refl _
    have pK := pKL H
    have eL := eKL
    have lL : L.length = 24 := by
      have e := congrArg List.length eL
      rw [List.length_map] at e
      exact e
    refine lc_it (walk_kw (ks := refK L)) (fun i H' => Same H H' ∧ ∃ M : List (Addr × Kind), H' D = some (.lst (refK M)) ∧ PKS K H' M ∧ M.map (·.2) = (all24.take i).filter fun k => decide (0 < grpN n k.1 k.2.1 k.2.2))
      ⟨same_new nD, [], upd_same, (fun q hq => by cases hq), rfl⟩ (fun i H' _ _ => trivial) (fun i x H0 H2 hi0 h hx => ?_) (fun H2 h => ?_)
    · obtain ⟨sm, M, hM, pM, eM⟩ := h
      obtain ⟨rfl, hx⟩ := hx
      unfold refK at hx
      rw [List.getElem?_map] at hx
      have hi : i < L.length := by
        rcases Nat.lt_or_ge i L.length with h | h
        · exact h
        · rw [List.getElem?_eq_none h] at hx
          cases hx
      rw [List.getElem?_eq_getElem hi] at hx
      cases hx
      have mq : L[i] ∈ L := List.getElem_mem hi
      have my : L[i].2 ∈ all24 := by rw [← eL]; exact List.mem_map_of_mem mq
      have i24 : i < all24.length := by rw [show all24.length = 24 from rfl]; omega
      have ei : all24[i] = L[i].2 := by
        have e : (L.map (·.2))[i]? = all24[i]? := by rw [eL]
        rw [List.getElem?_map, List.getElem?_eq_getElem hi, List.getElem?_eq_getElem i24] at e
        exact (Option.some.inj e).symm
      have tk : all24.take (i + 1) = all24.take i ++ [L[i].2] := by rw [← ei]; exact (List.take_append_getElem i24).symm
      have lM : M.length ≤ 24 := by
        have e := congrArg List.length eM
        rw [List.length_map] at e
        have h1 := List.length_filter_le (fun k : Kind => decide (0 < grpN n k.1 k.2.1 k.2.2)) (all24.take i)
        rw [List.length_take] at h1
        have h24 : all24.length = 24 := rfl
        omega
      refine ⟨rfl, ?_⟩
      refine ⟨_, rfl, _, rfl, n, L[i].1, _, _, _, rfl, (pK _ mq).ext sm, all24_R _ my, n1, fun H3 s3 => ?_⟩
      refine ⟨_, _, rfl, rfl, _, rfl, ?_⟩
      have hM3 := s3 _ _ hM
      have pM3 := pM.same s3
      have hk3 := (pK _ mq).ext (sm.trans s3)
      by_cases hp : 0 < grpN n L[i].2.1 L[i].2.2.1 L[i].2.2.2
      · rw [decide_eq_true hp]
        refine iteT ?_
        refine ⟨_, rfl, refK M, hM3, ?_, fun b o hb => ?_, M ++ [L[i]], ?_, fun x hx => ?_, ?_⟩
        · unfold refK
          rw [List.length_map]
          have h6 : 24 < sizeLine := by decide
          omega
        · rw [upd_ne (fun e => by rw [e, nD] at hb; cases hb)]
          exact s3 _ _ (sm b o hb)
        · rw [upd_same]
          unfold refK
          rw [List.map_append]
          rfl
        · have off : ∀ {a : Addr} {xs : List V}, SqT K H3 a xs → SqT K (upd H3 D (.lst (refK M ++ [V.ref L[i].1]))) a xs := fun {a xs} h => by
            rcases h with h | h
            · rcases h with h | ⟨o, h⟩
              · exact .inl (.inl ((upd_ne (fun z => by rw [z, hM3] at h; cases h)).trans h))
              · exact .inl (.inr ⟨o, (upd_ne (fun z => by rw [z, hM3] at h; cases h)).trans h⟩)
            · exact .inr h
          rcases List.mem_append.mp hx with hx | hx
          · exact off (pM3 x hx)
          · rw [List.mem_singleton.mp hx]
            exact off hk3
        · rw [List.map_append, eM, tk, List.filter_append]
          refine congrArg (fun z => (all24.take i).filter (fun k : Kind => decide (0 < grpN n k.1 k.2.1 k.2.2)) ++ z) ?_
          rw [List.filter_cons_of_pos (by exact decide_eq_true hp)]
          rfl
      · rw [decide_eq_false hp]
        refine iteF ⟨sm.trans s3, M, hM3, pM3, ?_⟩
        rw [eM, tk, List.filter_append, List.filter_cons_of_neg (by rw [decide_eq_false hp]; decide)]
        exact (List.append_nil _).symm
    · obtain ⟨sm, M, hM, pM, eM⟩ := h
      have l24 : (refK L).length = 24 := by
        unfold refK
        rw [List.length_map, lL]
      rw [l24, show all24.take 24 = all24 from rfl] at eM
      refine .inl ⟨D, _, rfl, SqL.of hM, fun t nt => ?_⟩
      have st := same_new (o := .tup (refK M)) nt
      exact q t M _ (sm.trans st) upd_same (pM.same st) eM
end
end Sq
namespace Sq
open PySem L2 TL
section
variable {P : Program} {w : World} {K : PySem.W.Frag} {mg : Str → Option Value} {base : Heap}
theorem ok_is_cellA {f : Addr} {fd : FuncData} (F : Fun K "is_cell" "is_cell" s_is_cell f fd) (T : Bt mg) (GA_is_within : FB P w K mg base "is_within" 2 ["value", "least", "most"] (spWithinA K)) : FnOk P w K mg base CX0 3 f fd ["size", "value"] (spCellA K) := by
  refine F.ok sc_is_cell (fun vs H Q E h => ?_) (fun cdv A outer s H vs Q E hr h => ?_)
  · obtain ⟨n, v, c, rfl, _⟩ := h
    rfl
  · obtain ⟨n, v, c, rfl, tv, q⟩ := h
    refine ⟨_, (pss_one (ps_ret (pe_and (pe_callB call_isi (by rfl) T.isinstance (by decide +kernel) (pa_cons (pv 1) (pa_cons (pe_bltn (v := .ty "tuple") (by rfl) T.tuple (by decide +kernel) rfl) pa_nil)))
            (pe_and (pe_cmpR op_eq (pe_callB call_len_seq (by rfl) T.len PySem.boot_len (pa_cons (pv 1) pa_nil)) pe_int (nomark _))
            (pe_one (pe_callB (cr_all (by rfl)) (by rfl) T.all (by decide +kernel) (pa_cons (pe_lc (own := [("number", 2)]) (g := gName 2) (by rfl) sc_is_cell.nd (pi_tup (pv 1)) (blkOk_by (own := [("number", 2)]) (N := ["size", "value", "number"]) (sc := defScope s_is_cell) (by decide +kernel))
            (fun _ _ _ _ _ => (pg_name (i := 2) sc_is_cell.nd rfl (by first | exact .inl rfl | exact .inr rfl))) (fun _ _ _ _ _ => pts_nil) (fun _ _ _ _ _ => (pe_fb GA_is_within hr (by decide) (by rfl) (pa_cons (pv 2) (pa_cons pe_int (pa_cons (pe_op op_sub (pv 0) pe_int) pa_nil)))))) pa_nil))))))), ?_⟩
    cases c with
    | none =>
      obtain ⟨t, ty, k1⟩ := tv
      refine ⟨_, rfl, _, _, .type t, _, false, rfl, .ty "tuple", ty, kit_ty k1, false, rfl, ?_⟩
      exact iteF (q _ (Same.refl _))
    | some xs =>
      obtain ⟨t, rfl, ht, hl, pl⟩ := tv
      refine ⟨_, rfl, _, _, .type "tuple", _, true, rfl, .ty "tuple", .base (.tup ht), kit_ty (by decide +kernel), true, rfl, ?_⟩
      refine iteT ?_
      refine ⟨_, rfl, t, _, rfl, .inr (SqT.of ht), rfl, _, rfl, ?_⟩
      by_cases h2 : xs.length = 2
      · rw [decide_eq_true (by rw [h2]; rfl)]
        refine iteT ?_
        match xs, h2, q, ht, pl with
        | [x0, x1], _, q, ht, pl =>
          refine ⟨_, rfl, t, rfl, ⟨_, SqT.of ht⟩, fun D nD => ?_⟩
          refine lc_tup (K := K) (a := t) (xs := [x0, x1]) (fun j H' => Same H H' ∧ H' D = some (.lst ((([x0, x1].take j).map fun x => inI x 0 (n - 1)).map V.bl)))
            ⟨same_new nD, upd_same⟩ (fun j H' _ h => SqT.of (h.1 _ _ ht)) (fun j x H' hj h => ?_) (fun H' h => ?_)
          · obtain ⟨s3, hD⟩ := h
            refine ⟨rfl, ?_⟩
            have hj2 : j < 2 := by
              obtain ⟨h, _⟩ := List.getElem?_eq_some_iff.mp hj
              exact h
            refine ⟨_, rfl, _, rfl, _, _, rfl, rfl, x, 0, n - 1, rfl, (pl x (List.mem_of_getElem? hj)).same s3, ?_⟩
            refine ⟨_, hD, ?_, ?_, ?_⟩
            · rw [List.length_map, List.length_map, List.length_take]
              have h6 : 2 ≤ sizeLine := by decide
              omega
            · intro c o hx
              rw [upd_ne (fun e => by rw [e, nD] at hx; cases hx)]
              exact s3 c o hx
            · rw [upd_same, List.take_add_one, hj, List.map_append, List.map_append]
              all_goals rfl
          · obtain ⟨s3, hD⟩ := h
            refine ⟨D, _, rfl, SqL.of hD, ?_⟩
            have e : (([x0, x1].take [x0, x1].length).map fun x => inI x 0 (n - 1)).all id = cellB n (some [x0, x1]) := by
              show (inI x0 0 (n - 1) && (inI x1 0 (n - 1) && true)) = (inI x0 0 (n - 1) && inI x1 0 (n - 1))
              rw [Bool.and_true]
            rw [e]
            exact q _ s3
      · rw [decide_eq_false (fun e => h2 (by have := V.int.inj e; omega))]
        refine iteF ?_
        rw [cellB_len h2] at q
        exact q _ (Same.refl _)
theorem ok_check_cellA {f : Addr} {fd : FuncData} (F : Fun K "check_cell" "check_cell" s_check_cell f fd) (T : Bt mg) (GA_is_cell : FB P w K mg base "is_cell" 3 ["size", "value"] (spCellA K)) {CC : Addr} (E1 : ErrC P w K mg base "InvalidCell" "given" CC) : FnOk P w K mg base (L2.CX P w) 4 f fd ["size", "cell"] (spCellX K CC) := by
  refine F.okX sc_check_cell (fun vs H Q E h => ?_) (fun cdv A outer s H vs Q E hr h => ?_)
  · obtain ⟨n, v, c, rfl, _⟩ := h
    rfl
  · obtain ⟨n, v, c, rfl, tv, q1, q2⟩ := h
    refine ⟨_, (pss_one (ps_if (pt_not (pt_val (pe_fb GA_is_cell hr (by decide) (by rfl) (pa_cons (pv 0) (pa_cons (pv 1) pa_nil)))))
        (pss_one (ps_err E1 rfl (takes_of rfl rfl rfl rfl) hr (by decide) (by rfl) (pv 1)))
        pss_nil)), ?_⟩
    refine ⟨_, rfl, _, rfl, n, v, c, rfl, tv, fun H' sm => ⟨_, rfl, ?_⟩⟩
    cases hv : cellB n c with
    | true => exact iteF (q1 hv _ sm)
    | false =>
      refine iteT ?_
      refine ⟨_, rfl, ?_⟩
      exact err_go fun d nd => (q2 hv).same sm d _ (same_new nd) upd_same
theorem ok_is_kindA {f : Addr} {fd : FuncData} (F : Fun K "is_kind" "is_kind" s_is_kind f fd) (T : Bt mg) (GA_is_within : FB P w K mg base "is_within" 2 ["value", "least", "most"] (spWithinA K)) : FnOk P w K mg base CX0 3 f fd ["value"] (spKindA K) := by
  refine F.ok sc_is_kind (fun vs H Q E h => ?_) (fun cdv A outer s H vs Q E hr h => ?_)
  · obtain ⟨v, c, rfl, _⟩ := h
    rfl
  · obtain ⟨v, c, rfl, tv, q⟩ := h
    refine ⟨_, (pss_one (ps_ret (pe_and (pe_callB call_isi (by rfl) T.isinstance (by decide +kernel) (pa_cons (pv 0) (pa_cons (pe_bltn (v := .ty "tuple") (by rfl) T.tuple (by decide +kernel) rfl) pa_nil)))
            (pe_and (pe_cmpR op_eq (pe_callB call_len_seq (by rfl) T.len PySem.boot_len (pa_cons (pv 0) pa_nil)) pe_int (nomark _))
            (pe_and (pe_fb GA_is_within hr (by decide) (by rfl) (pa_cons (pe_ix ix_tup (pv 0) pe_int (fun _ _ => rfl)) (pa_cons pe_int (pa_cons pe_int pa_nil))))
            (pe_and (pe_fb GA_is_within hr (by decide) (by rfl) (pa_cons (pe_ix ix_tup (pv 0) pe_int (fun _ _ => rfl)) (pa_cons pe_int (pa_cons pe_int pa_nil))))
            (pe_one (pe_fb GA_is_within hr (by decide) (by rfl) (pa_cons (pe_ix ix_tup (pv 0) pe_int (fun _ _ => rfl)) (pa_cons pe_int (pa_cons pe_int pa_nil))))))))))), ?_⟩
    cases c with
    | none =>
      obtain ⟨t, ty, k1⟩ := tv
      refine ⟨_, rfl, _, _, .type t, _, false, rfl, .ty "tuple", ty, kit_ty k1, false, rfl, ?_⟩
      exact iteF q
    | some xs =>
      obtain ⟨t, rfl, ht, hl, pl⟩ := tv
      refine ⟨_, rfl, _, _, .type "tuple", _, true, rfl, .ty "tuple", .base (.tup ht), kit_ty (by decide +kernel), true, rfl, ?_⟩
      refine iteT ?_
      refine ⟨_, rfl, t, _, rfl, .inr (SqT.of ht), rfl, _, rfl, ?_⟩
      by_cases h2 : xs.length = 3
      · rw [decide_eq_true (by rw [h2]; rfl)]
        refine iteT ?_
        match xs, h2, q, ht, pl with
        | [x0, x1, x2], _, q, ht, pl =>
          have q : Q (.bl (inI x0 0 1 && (inI x1 0 2 && inI x2 0 3))) H := q
          refine ⟨_, rfl, t, _, 0, _, rfl, rfl, SqT.of ht, rfl, x0, 0, 1, rfl, pl _ (by simp), _, rfl, ?_⟩
          cases e0 : inI x0 0 1 with
          | false =>
            rw [e0] at q
            exact iteF q
          | true =>
            rw [e0] at q
            refine iteT ?_
            refine ⟨_, rfl, t, _, 1, _, rfl, rfl, SqT.of ht, rfl, x1, 0, 2, rfl, pl _ (by simp), _, rfl, ?_⟩
            cases e1 : inI x1 0 2 with
            | false =>
              rw [e1] at q
              exact iteF q
            | true =>
              rw [e1] at q
              refine iteT ?_
              exact ⟨_, rfl, t, _, 2, _, rfl, rfl, SqT.of ht, rfl, x2, 0, 3, rfl, pl _ (by simp), q⟩
      · rw [decide_eq_false (fun e => h2 (by have := V.int.inj e; omega))]
        rw [kindB_len h2] at q
        exact iteF q
end
end Sq
namespace Sq
open PySem L2 TL
section
variable {P : Program} {w : World} {K : PySem.W.Frag} {mg : Str → Option Value} {base : Heap}
theorem ok_imagesB {f : Addr} {fd : FuncData} (F : Fun K "images" "images" s_images f fd) (T : Bt mg)  {CS : Addr} (GX_check_size : FBX P w K mg base "check_size" 3 ["size"] (spSizeX K CS)) {CC : Addr} (GX_check_cell : FBX P w K mg base "check_cell" 4 ["size", "cell"] (spCellX K CC)) : FnOk P w K mg base (L2.CX P w) 5 f fd ["size", "cell"] (spBad K CS CC cellB) := by
  refine F.okX sc_images (fun vs H Q E h => ?_) (fun cdv A outer s H vs Q E hr h => ?_)
  · obtain ⟨v, w, c, rfl, _⟩ := h
    rfl
  · obtain ⟨v, w, c, rfl, pl, tv, q⟩ := h
    refine ⟨_, (pss_cons (ps_expr (pe_fbX GX_check_size (takes_of rfl rfl rfl rfl) hr (by decide) (by rfl) (pa_cons (pv 0) pa_nil)))
        (pss_cons (ps_expr (pe_fbX GX_check_cell (takes_of rfl rfl rfl rfl) hr (by decide) (by rfl) (pa_cons (pv 0) (pa_cons (pv 1) pa_nil))))
        (pss_one ps_never))), ?_⟩
    refine ⟨_, rfl, v, rfl, pl, fun h => ?_, fun h => ?_⟩
    · rcases q with ⟨h2, _⟩ | ⟨n, rfl, n0, n1, hc, q⟩
      · rw [h] at h2
        cases h2
      · refine ⟨_, rfl, _, rfl, n, w, c, rfl, tv, fun h2 => ?_, fun _ => q⟩
        rw [hc] at h2
        cases h2
    · rcases q with ⟨_, q⟩ | ⟨n, rfl, n0, n1, _⟩
      · exact q
      · exfalso
        have e : inI (.int n) 1 big = true := by
          show (decide _ && decide _) = true
          rw [decide_eq_true n0, decide_eq_true n1]
          rfl
        rw [h] at e
        cases e
theorem ok_kind_ofB {f : Addr} {fd : FuncData} (F : Fun K "kind_of" "kind_of" s_kind_of f fd) (T : Bt mg)  {CS : Addr} (GX_check_size : FBX P w K mg base "check_size" 3 ["size"] (spSizeX K CS)) {CC : Addr} (GX_check_cell : FBX P w K mg base "check_cell" 4 ["size", "cell"] (spCellX K CC)) : FnOk P w K mg base (L2.CX P w) 5 f fd ["size", "cell"] (spBad K CS CC cellB) := by
  refine F.okX sc_kind_of (fun vs H Q E h => ?_) (fun cdv A outer s H vs Q E hr h => ?_)
  · obtain ⟨v, w, c, rfl, _⟩ := h
    rfl
  · obtain ⟨v, w, c, rfl, pl, tv, q⟩ := h
    refine ⟨_, (pss_cons (ps_expr (pe_fbX GX_check_size (takes_of rfl rfl rfl rfl) hr (by decide) (by rfl) (pa_cons (pv 0) pa_nil)))
        (pss_cons (ps_expr (pe_fbX GX_check_cell (takes_of rfl rfl rfl rfl) hr (by decide) (by rfl) (pa_cons (pv 0) (pa_cons (pv 1) pa_nil))))
        (pss_one ps_never))), ?_⟩
    refine ⟨_, rfl, v, rfl, pl, fun h => ?_, fun h => ?_⟩
    · rcases q with ⟨h2, _⟩ | ⟨n, rfl, n0, n1, hc, q⟩
      · rw [h] at h2
        cases h2
      · refine ⟨_, rfl, _, rfl, n, w, c, rfl, tv, fun h2 => ?_, fun _ => q⟩
        rw [hc] at h2
        cases h2
    · rcases q with ⟨_, q⟩ | ⟨n, rfl, n0, n1, _⟩
      · exact q
      · exfalso
        have e : inI (.int n) 1 big = true := by
          show (decide _ && decide _) = true
          rw [decide_eq_true n0, decide_eq_true n1]
          rfl
        rw [h] at e
        cases e
theorem ok_cell_countB {f : Addr} {fd : FuncData} (F : Fun K "cell_count" "cell_count" s_cell_count f fd) (T : Bt mg)  {CS : Addr} (GX_check_size : FBX P w K mg base "check_size" 3 ["size"] (spSizeX K CS)) (GA_is_kind : FB P w K mg base "is_kind" 3 ["value"] (spKindA K)) {CK : Addr} (E1 : ErrC P w K mg base "InvalidKind" "given" CK) : FnOk P w K mg base (L2.CX P w) 4 f fd ["size", "kind"] (spBad K CS CK (fun _ => kindB)) := by
  refine F.okX sc_cell_count (fun vs H Q E h => ?_) (fun cdv A outer s H vs Q E hr h => ?_)
  · obtain ⟨v, w, c, rfl, _⟩ := h
    rfl
  · obtain ⟨v, w, c, rfl, pl, tv, q⟩ := h
    refine ⟨_, (pss_cons (ps_expr (pe_fbX GX_check_size (takes_of rfl rfl rfl rfl) hr (by decide) (by rfl) (pa_cons (pv 0) pa_nil)))
        (pss_cons (ps_if (pt_not (pt_val (pe_fb GA_is_kind hr (by decide) (by rfl) (pa_cons (pv 1) pa_nil))))
        (pss_one (ps_err E1 rfl (takes_of rfl rfl rfl rfl) hr (by decide) (by rfl) (pv 1)))
        pss_nil)
        (pss_one ps_never))), ?_⟩
    refine ⟨_, rfl, v, rfl, pl, fun h => ?_, fun h => ?_⟩
    · rcases q with ⟨h2, _⟩ | ⟨n, rfl, n0, n1, hc, q⟩
      · rw [h] at h2
        cases h2
      · refine ⟨_, rfl, w, c, rfl, tv, _, rfl, ?_⟩
        rw [show kindB c = false from hc]
        refine iteT ?_
        refine ⟨_, rfl, ?_⟩
        exact err_go fun d nd => q d _ (same_new nd) upd_same
    · rcases q with ⟨_, q⟩ | ⟨n, rfl, n0, n1, _⟩
      · exact q
      · exfalso
        have e : inI (.int n) 1 big = true := by
          show (decide _ && decide _) = true
          rw [decide_eq_true n0, decide_eq_true n1]
          rfl
        rw [h] at e
        cases e
theorem ok_kinds_ofB {f : Addr} {fd : FuncData} (F : Fun K "kinds_of" "kinds_of" s_kinds_of f fd) (T : Bt mg)  {CS : Addr} (GX_check_size : FBX P w K mg base "check_size" 3 ["size"] (spSizeX K CS)) : FnOk P w K mg base (L2.CX P w) 4 f fd ["size"] (spBadN K CS) := by
  refine F.okX sc_kinds_of (fun vs H Q E h => ?_) (fun cdv A outer s H vs Q E hr h => ?_)
  · obtain ⟨v, rfl, _⟩ := h
    rfl
  · obtain ⟨v, rfl, pl, e, q⟩ := h
    refine ⟨_, (pss_cons (ps_expr (pe_fbX GX_check_size (takes_of rfl rfl rfl rfl) hr (by decide) (by rfl) (pa_cons (pv 0) pa_nil)))
        (pss_one ps_never)), ?_⟩
    refine ⟨_, rfl, v, rfl, pl, fun h => ?_, fun h => q⟩
    rw [h] at e
    cases e
end
end Sq
namespace Sq
open PySem L2 TL
section
variable {P : Program} {w : World} {K : PySem.W.Frag} {mg : Str → Option Value} {base : Heap}

theorem ask_cell {k : Nat} {f : Addr} {fd : FuncData} {ps : List Str} {CS CC : Addr} {sp : Sp} (F : FnOk P w K mg base CX0 k f fd ps sp) (G : FnOk P w K mg base (L2.CX P w) k f fd ps (spBad K CS CC cellB))
    (h : ∀ (n : Int) (t : Addr) (q : Cell) (H : Hp) (Q : VK) (E : XK), H t = some (.tup [.int q.1, .int q.2]) → InN n q → n ≤ big → (∀ x H', Same H H' → Q x H') → sp [.int n, .ref t] H Q E) : FnOk P w K mg base (L2.CX P w) k f fd ps (spAsk K CS CC cellB) :=
  FnOk.use (FnOk.either (FnOk.toCX F) G) fun vs H Q E z => by
    obtain ⟨v, w', c, rfl, pl, tv, f1, f2⟩ := z
    cases hv : inI v 1 big with
    | false => exact .inr ⟨v, w', c, rfl, pl, tv, .inl ⟨hv, f1 hv⟩⟩
    | true =>
      obtain ⟨n, rfl, n0, n1⟩ := inI_of hv
      obtain ⟨g1, g2⟩ := f2 n rfl n0 n1
      cases hc : cellB n c with
      | false => exact .inr ⟨_, w', c, rfl, pl, tv, .inr ⟨n, rfl, n0, n1, hc, g1 hc⟩⟩
      | true =>
        obtain ⟨t, q, rfl, ht, hi⟩ := cell_of tv hc
        exact .inl (h n t q H Q E ht hi n1 (g2 hc))
theorem ask_images {k : Nat} {f : Addr} {fd : FuncData} {ps : List Str} {CS CC : Addr} (F : FnOk P w K mg base CX0 k f fd ps spImages) (G : FnOk P w K mg base (L2.CX P w) k f fd ps (spBad K CS CC cellB)) : FnOk P w K mg base (L2.CX P w) k f fd ps (spAsk K CS CC cellB) :=
  ask_cell F G fun n t q H Q E ht hi n1 g => ⟨n, t, q, rfl, ht, hi, n1, fun p L H' s _ _ _ _ _ => g _ _ s⟩
theorem ask_kind {k : Nat} {f : Addr} {fd : FuncData} {ps : List Str} {CS CC : Addr} (F : FnOk P w K mg base CX0 k f fd ps spKindOf) (G : FnOk P w K mg base (L2.CX P w) k f fd ps (spBad K CS CC cellB)) : FnOk P w K mg base (L2.CX P w) k f fd ps (spAsk K CS CC cellB) :=
  ask_cell F G fun n t q H Q E ht hi n1 g => ⟨n, t, q, rfl, ht, hi, n1, fun t' H' s _ => g _ _ s⟩
theorem ask_count {k : Nat} {f : Addr} {fd : FuncData} {ps : List Str} {CS CK : Addr} (F : FnOk P w K mg base CX0 k f fd ps spCount) (G : FnOk P w K mg base (L2.CX P w) k f fd ps (spBad K CS CK (fun _ => kindB))) : FnOk P w K mg base (L2.CX P w) k f fd ps (spAsk K CS CK (fun _ => kindB)) :=
  FnOk.use (FnOk.either (FnOk.toCX F) G) fun vs H Q E z => by
    obtain ⟨v, w', c, rfl, pl, tv, f1, f2⟩ := z
    cases hv : inI v 1 big with
    | false => exact .inr ⟨v, w', c, rfl, pl, tv, .inl ⟨hv, f1 hv⟩⟩
    | true =>
      obtain ⟨n, rfl, n0, n1⟩ := inI_of hv
      obtain ⟨g1, g2⟩ := f2 n rfl n0 n1
      cases hc : kindB c with
      | false => exact .inr ⟨_, w', c, rfl, pl, tv, .inr ⟨n, rfl, n0, n1, hc, g1 hc⟩⟩
      | true =>
        obtain ⟨t, x, y, z, rfl, ht, hk⟩ := kind_ofB tv hc
        exact .inl ⟨n, t, x, y, z, rfl, ht, hk, n0, n1, fun H' s => g2 hc _ _ s⟩
theorem ask_kinds {k : Nat} {f : Addr} {fd : FuncData} {ps : List Str} {CS : Addr} (F : FnOk P w K mg base CX0 k f fd ps (spKindsOfS K)) (G : FnOk P w K mg base (L2.CX P w) k f fd ps (spBadN K CS)) : FnOk P w K mg base (L2.CX P w) k f fd ps (spKindsX K CS) :=
  FnOk.use (FnOk.either (FnOk.toCX F) G) fun vs H Q E z => by
    obtain ⟨v, rfl, pl, f1, f2⟩ := z
    cases hv : inI v 1 big with
    | false => exact .inr ⟨v, rfl, pl, hv, f1 hv⟩
    | true =>
      obtain ⟨n, rfl, n0, n1⟩ := inI_of hv
      exact .inl ⟨n, rfl, n0, n1, fun t M H' s _ _ _ => f2 hv _ _ s⟩
/-- what is known of the three classes of errors and their base -/
structure Er (K : PySem.W.Frag) (mg : Str → Option Value) (CS CC CK CW : Addr) : Prop where
  nS : mg "InvalidSize" = some (.ref CS)
  nC : mg "InvalidCell" = some (.ref CC)
  nK : mg "InvalidKind" = some (.ref CK)
  nW : mg "WrongValue" = some (.ref CW)
  xS : XfC K CS
  xC : XfC K CC
  xK : XfC K CK
  eS : ExcC K CS
  eC : ExcC K CC
  gS : PySem.W.findIn K (.ref CS) "given" = some none
  gC : PySem.W.findIn K (.ref CC) "given" = some none
  gK : PySem.W.findIn K (.ref CK) "given" = some none
  m11 : PySem.W.exmOne K (.ref CS) (.ref CS) = some true
  m21 : PySem.W.exmOne K (.ref CC) (.ref CS) = some false
  m22 : PySem.W.exmOne K (.ref CC) (.ref CC) = some true
  m31 : PySem.W.exmOne K (.ref CK) (.ref CS) = some false
  m32 : PySem.W.exmOne K (.ref CK) (.ref CC) = some false
  m33 : PySem.W.exmOne K (.ref CK) (.ref CK) = some true
  i12 : PySem.W.kitOne K (.ref CS) (.ref CC) = some false
  i23 : PySem.W.kitOne K (.ref CC) (.ref CK) = some false
def tBoth : TE := tTup (tCons (tC (.str "both")) (tCons (tC (.int 0)) tNil))
def tWord (x : Str) (a : Addr) (cls : Value) (d : Option Addr) (C : Addr) : TE := tTup (tCons (tC (.str x)) (tCons (tXf a cls d C "given" (tVar 4)) tNil))
def ts1 (K : PySem.W.Frag) (x : Str) (C C' : Addr) : Addr → Value → Option Addr → TS := fun a cls d => tAsg (tIf (tNot (tB (tCB (rIsX K a cls d) (tCons (tVar 4) (tCons (tC (.ref C')) tNil))))) (tWord x a cls d C) tBoth) (gName 3)
def ts3 (x : Str) (C : Addr) : Addr → Value → Option Addr → TS := fun a cls d => tAsg (tWord x a cls d C) (gName 3)
def ts4 : Addr → Value → Option Addr → TS := fun a cls d => tAsg (tTup (tCons (tC (.str "other")) (tCons (tC (.int 0)) tNil))) (gName 3)
def cls4 (K : PySem.W.Frag) (CS CC CK CW : Addr) : List Clause := [⟨.ref CS, some 4, ts1 K "size" CS CC⟩, ⟨.ref CC, some 4, ts1 K "cell" CC CK⟩, ⟨.ref CK, some 4, ts3 "kind" CK⟩, ⟨.ref CW, none, ts4⟩]
theorem run_word {K : PySem.W.Frag} {x : Str} {a d C : Addr} {D : Ends} {o1 o2 o3 o4 : Option V} {H : Hp} {v : V} (hd : H d = some (.xd [("given", v)])) (k : ∀ t H', Same H H' → H' t = some (.tup [.str x, v]) → D.nx [o1, o2, o3, some (.ref t), some (.ref a)] H') :
    ts3 x C a (.ref C) (some d) D [o1, o2, o3, o4, some (.ref a)] H := by
  refine ⟨_, rfl, rfl, rfl, d, _, v, rfl, hd, rfl, ?_⟩
  refine ⟨by show 2 ≤ sizeLine; decide, fun t nt => ?_⟩
  exact k t _ (same_new nt) upd_same
theorem run_is {K : PySem.W.Frag} {x : Str} {a d C C' : Addr} {D : Ends} {o1 o2 o3 o4 : Option V} {H : Hp} {v : V} (e : ExcC K C) (i : PySem.W.kitOne K (.ref C) (.ref C') = some false) (hd : H d = some (.xd [("given", v)]))
    (k : ∀ t H', Same H H' → H' t = some (.tup [.str x, v]) → D.nx [o1, o2, o3, some (.ref t), some (.ref a)] H') :
    ts1 K x C C' a (.ref C) (some d) D [o1, o2, o3, o4, some (.ref a)] H := by
  refine ⟨_, rfl, C, d, _, .ref C', .ref C', false, rfl, e, rfl, hd, rfl, (fun u r => r), i, ?_⟩
  refine ⟨_, rfl, ?_⟩
  refine iteT ?_
  refine ⟨_, rfl, rfl, rfl, d, _, v, rfl, hd, rfl, ?_⟩
  refine ⟨by show 2 ≤ sizeLine; decide, fun t nt => ?_⟩
  exact k t _ (same_new nt) upd_same
section
variable {CS CC CK CW : Addr} {Wout : WX} {D : Ends} {o1 o2 o3 o4 o5 : Option V} {H : Hp} {v : V} {d : Addr}
theorem cl_S (Z : Er K mg CS CC CK CW) (hd : H d = some (.xd [("given", v)])) (k : ∀ t H', Same H H' → H' t = some (.tup [.str "size", v]) → D.nx [o1, o2, o3, some (.ref t), none] H') : wCl K Wout D (cls4 K CS CC CK CW) (.ref CS) (some d) [o1, o2, o3, o4, o5] H :=
  ⟨true, Z.m11, fun _ a na => run_is Z.eS Z.i12 hd k, fun z => by cases z⟩
theorem cl_C (Z : Er K mg CS CC CK CW) (hd : H d = some (.xd [("given", v)])) (k : ∀ t H', Same H H' → H' t = some (.tup [.str "cell", v]) → D.nx [o1, o2, o3, some (.ref t), none] H') : wCl K Wout D (cls4 K CS CC CK CW) (.ref CC) (some d) [o1, o2, o3, o4, o5] H :=
  ⟨false, Z.m21, (fun z => by cases z), fun _ => ⟨true, Z.m22, fun _ a na => run_is Z.eC Z.i23 hd k, fun z => by cases z⟩⟩
theorem cl_K (Z : Er K mg CS CC CK CW) (hd : H d = some (.xd [("given", v)])) (k : ∀ t H', Same H H' → H' t = some (.tup [.str "kind", v]) → D.nx [o1, o2, o3, some (.ref t), none] H') : wCl K Wout D (cls4 K CS CC CK CW) (.ref CK) (some d) [o1, o2, o3, o4, o5] H :=
  ⟨false, Z.m31, (fun z => by cases z), fun _ => ⟨false, Z.m32, (fun z => by cases z), fun _ => ⟨true, Z.m33, fun _ a na => run_word (K := K) hd k, fun z => by cases z⟩⟩⟩
end
end
end Sq
namespace Sq
open PySem L2 TL
section
variable {P : Program} {w : World} {K : PySem.W.Frag} {mg : Str → Option Value} {base : Heap}
def okW (way : Int) (n : Int) (c : Option (List V)) : Bool := if way = 3 then true else if way = 2 then kindB c else cellB n c
def wordW (way : Int) : Str := if way = 2 then "kind" else "cell"
def spMetE (K : PySem.W.Frag) : Sp := fun vs H Q _ => ∃ (way : Int) (v w : V) (c : Option (List V)), vs = [.int way, v, w] ∧ Pl K H v ∧ TupV K H w c ∧ (way = 0 ∨ way = 1 ∨ way = 2 ∨ way = 3) ∧
  (inI v 1 big = false → ∀ t H', Same H H' → H' t = some (.tup [.str "size", v]) → Q (.ref t) H') ∧
  ∀ n, v = .int n → 1 ≤ n → n ≤ big → (okW way n c = true → ∀ t H', Same H H' → H' t = some (.tup [.str "none", .int 0]) → Q (.ref t) H') ∧ (okW way n c = false → ∀ t H', Same H H' → H' t = some (.tup [.str (wordW way), w]) → Q (.ref t) H')
abbrev s__law_met : Stmt := top 35
theorem sc__law_met : FnScope ["_law_way", "_law_size", "_law_value", "_law_found", "e"] ["_law_way", "_law_size", "_law_value"] (defScope s__law_met) := ⟨rfl, rfl, rfl, by decide +kernel, rfl, by decide +kernel, by decide +kernel⟩
theorem ok__law_met {f : Addr} {fd : FuncData} (F : Fun K "_law_met" "_law_met" s__law_met f fd) (T : Bt mg) {CS CC CK CW : Addr} (Z : Er K mg CS CC CK CW) (GX_images : FBX P w K mg base "images" 5 ["size", "cell"] (spAsk K CS CC cellB)) (GX_kind_of : FBX P w K mg base "kind_of" 5 ["size", "cell"] (spAsk K CS CC cellB)) (GX_cell_count : FBX P w K mg base "cell_count" 4 ["size", "kind"] (spAsk K CS CK (fun _ => kindB))) (GX_kinds_of : FBX P w K mg base "kinds_of" 4 ["size"] (spKindsX K CS)) : FnOk P w K mg base CX0 6 f fd ["_law_way", "_law_size", "_law_value"] (spMetE K) := by
  refine F.ok sc__law_met (fun vs H Q E h => ?_) (fun cdv A outer s H vs Q E hr h => ?_)
  · obtain ⟨way, v, w, c, rfl, _⟩ := h
    rfl
  · obtain ⟨way, v, w, c, rfl, pl, tv, hw, qS, qN⟩ := h
    refine ⟨_, (pss_cons (ps_set (i := 3) sc__law_met.nd rfl (by first | exact .inl rfl | exact .inr rfl) (pe_tup (pa_cons pe_str (pa_cons pe_int pa_nil))))
        (pss_cons (ps_tryC (tb := (fun W => tSeq (tIfS (tTest (tOp rEq (tVar 0) (tC (.int 0)))) (tDrop (tCallS (spAsk K CS CC cellB) (WE W) (tCons (tVar 1) (tCons (tVar 2) tNil)))) tNext) (tSeq (tIfS (tTest (tOp rEq (tVar 0) (tC (.int 1)))) (tDrop (tCallS (spAsk K CS CC cellB) (WE W) (tCons (tVar 1) (tCons (tVar 2) tNil)))) tNext) (tSeq (tIfS (tTest (tOp rEq (tVar 0) (tC (.int 2)))) (tDrop (tCallS (spAsk K CS CK (fun _ => kindB)) (WE W) (tCons (tVar 1) (tCons (tVar 2) tNil)))) tNext) (tIfS (tTest (tOp rEq (tVar 0) (tC (.int 3)))) (tDrop (tCallS (spKindsX K CS) (WE W) (tCons (tVar 1) tNil))) tNext))))) (l := cls4 K CS CC CK CW) (Wout := fun _ _ _ _ => False) sc__law_met.nd rfl rfl takes0 (fun W pn xe tk _ => (pss_cons (ps_if (pt_cmpR op_eq (pv 0) pe_int (nomark _))
        (pss_one (ps_expr (pe_fbX GX_images tk hr (by decide) (by rfl) (pa_cons (pv 1) (pa_cons (pv 2) pa_nil)))))
        pss_nil)
        (pss_cons (ps_if (pt_cmpR op_eq (pv 0) pe_int (nomark _))
        (pss_one (ps_expr (pe_fbX GX_kind_of tk hr (by decide) (by rfl) (pa_cons (pv 1) (pa_cons (pv 2) pa_nil)))))
        pss_nil)
        (pss_cons (ps_if (pt_cmpR op_eq (pv 0) pe_int (nomark _))
        (pss_one (ps_expr (pe_fbX GX_cell_count tk hr (by decide) (by rfl) (pa_cons (pv 1) (pa_cons (pv 2) pa_nil)))))
        pss_nil)
        (pss_one (ps_if (pt_cmpR op_eq (pv 0) pe_int (nomark _))
        (pss_one (ps_expr (pe_fbX GX_kinds_of tk hr (by decide) (by rfl) (pa_cons (pv 1) pa_nil))))
        pss_nil))))))
          (.named (i := 4) rfl rfl ⟨rfl, by decide, .inl Z.nS⟩ (fun a oe cls d pn hz hf => (pss_one (ps_set (i := 3) sc__law_met.nd rfl (by first | exact .inl rfl | exact .inr rfl) (pe_ifExp (pt_not (pt_val (pe_callB (call_isX hz hf) (by rfl) T.isinstance (by decide +kernel) (pa_cons (pv 4) (pa_cons (pe_glob (by rfl) Z.nC rfl) pa_nil))))) (pe_tup (pa_cons pe_str (pa_cons (pe_xf Z.xS Z.gS hz hf (pv 4)) pa_nil))) (pe_tup (pa_cons pe_str (pa_cons pe_int pa_nil)))))))
          (.named (i := 4) rfl rfl ⟨rfl, by decide, .inl Z.nC⟩ (fun a oe cls d pn hz hf => (pss_one (ps_set (i := 3) sc__law_met.nd rfl (by first | exact .inl rfl | exact .inr rfl) (pe_ifExp (pt_not (pt_val (pe_callB (call_isX hz hf) (by rfl) T.isinstance (by decide +kernel) (pa_cons (pv 4) (pa_cons (pe_glob (by rfl) Z.nK rfl) pa_nil))))) (pe_tup (pa_cons pe_str (pa_cons (pe_xf Z.xC Z.gC hz hf (pv 4)) pa_nil))) (pe_tup (pa_cons pe_str (pa_cons pe_int pa_nil)))))))
          (.named (i := 4) rfl rfl ⟨rfl, by decide, .inl Z.nK⟩ (fun a oe cls d pn hz hf => (pss_one (ps_set (i := 3) sc__law_met.nd rfl (by first | exact .inl rfl | exact .inr rfl) (pe_tup (pa_cons pe_str (pa_cons (pe_xf Z.xK Z.gK hz hf (pv 4)) pa_nil))))))
          (.bare ⟨rfl, by decide, .inl Z.nW⟩ (fun a oe cls d pn hz hf => (pss_one (ps_set (i := 3) sc__law_met.nd rfl (by first | exact .inl rfl | exact .inr rfl) (pe_tup (pa_cons pe_str (pa_cons pe_int pa_nil))))))
          .nil)))))
        (pss_one (ps_ret (pv 3))))), ?_⟩
    refine ⟨by show 2 ≤ sizeLine; decide, fun t0 nt0 => ?_⟩
    have s0 := same_new (o := .tup [.str "none", .int 0]) nt0
    have h0 : upd H t0 (.tup [.str "none", .int 0]) t0 = some (.tup [.str "none", .int 0]) := upd_same
    generalize upd H t0 (.tup [.str "none", .int 0]) = H0 at s0 h0
    rcases hw with rfl | rfl | rfl | rfl
    · refine ⟨_, rfl, rfl, _, rfl, ?_⟩
      refine iteT ?_
      refine ⟨_, rfl, _, rfl, v, w, c, rfl, pl.same s0, tv.same s0, fun h => ?_, fun n e n0 n1 => ⟨fun h => ?_, fun h x H' s => ?_⟩⟩
      · intro d H' s hd
        refine cl_S Z hd fun t H2 s2 ht => ?_
        exact ⟨_, rfl, qS h t H2 (s0.trans (s.trans s2)) ht⟩
      · intro d H' s hd
        refine cl_C Z hd fun t H2 s2 ht => ?_
        exact ⟨_, rfl, (qN n e n0 n1).2 h t H2 (s0.trans (s.trans s2)) ht⟩
      · have ht0 := s _ _ h0
        refine ⟨_, rfl, rfl, _, rfl, ?_⟩
        refine iteF ?_
        refine ⟨_, rfl, rfl, _, rfl, ?_⟩
        refine iteF ?_
        refine ⟨_, rfl, rfl, _, rfl, ?_⟩
        refine iteF ?_
        exact ⟨_, rfl, (qN n e n0 n1).1 h t0 H' (s0.trans s) ht0⟩
    · refine ⟨_, rfl, rfl, _, rfl, ?_⟩
      refine iteF ?_
      refine ⟨_, rfl, rfl, _, rfl, ?_⟩
      refine iteT ?_
      refine ⟨_, rfl, _, rfl, v, w, c, rfl, pl.same s0, tv.same s0, fun h => ?_, fun n e n0 n1 => ⟨fun h => ?_, fun h x H' s => ?_⟩⟩
      · intro d H' s hd
        refine cl_S Z hd fun t H2 s2 ht => ?_
        exact ⟨_, rfl, qS h t H2 (s0.trans (s.trans s2)) ht⟩
      · intro d H' s hd
        refine cl_C Z hd fun t H2 s2 ht => ?_
        exact ⟨_, rfl, (qN n e n0 n1).2 h t H2 (s0.trans (s.trans s2)) ht⟩
      · have ht0 := s _ _ h0
        refine ⟨_, rfl, rfl, _, rfl, ?_⟩
        refine iteF ?_
        refine ⟨_, rfl, rfl, _, rfl, ?_⟩
        refine iteF ?_
        exact ⟨_, rfl, (qN n e n0 n1).1 h t0 H' (s0.trans s) ht0⟩
    · refine ⟨_, rfl, rfl, _, rfl, ?_⟩
      refine iteF ?_
      refine ⟨_, rfl, rfl, _, rfl, ?_⟩
      refine iteF ?_
      refine ⟨_, rfl, rfl, _, rfl, ?_⟩
      refine iteT ?_
      refine ⟨_, rfl, _, rfl, v, w, c, rfl, pl.same s0, tv.same s0, fun h => ?_, fun n e n0 n1 => ⟨fun h => ?_, fun h x H' s => ?_⟩⟩
      · intro d H' s hd
        refine cl_S Z hd fun t H2 s2 ht => ?_
        exact ⟨_, rfl, qS h t H2 (s0.trans (s.trans s2)) ht⟩
      · intro d H' s hd
        refine cl_K Z hd fun t H2 s2 ht => ?_
        exact ⟨_, rfl, (qN n e n0 n1).2 h t H2 (s0.trans (s.trans s2)) ht⟩
      · have ht0 := s _ _ h0
        refine ⟨_, rfl, rfl, _, rfl, ?_⟩
        refine iteF ?_
        exact ⟨_, rfl, (qN n e n0 n1).1 h t0 H' (s0.trans s) ht0⟩
    · refine ⟨_, rfl, rfl, _, rfl, ?_⟩
      refine iteF ?_
      refine ⟨_, rfl, rfl, _, rfl, ?_⟩
      refine iteF ?_
      refine ⟨_, rfl, rfl, _, rfl, ?_⟩
      refine iteF ?_
      refine ⟨_, rfl, rfl, _, rfl, ?_⟩
      refine iteT ?_
      refine ⟨_, rfl, v, rfl, pl.same s0, fun h => ?_, fun h x H' s => ?_⟩
      · intro d H' s hd
        refine cl_S Z hd fun t H2 s2 ht => ?_
        exact ⟨_, rfl, qS h t H2 (s0.trans (s.trans s2)) ht⟩
      · have ht0 := s _ _ h0
        obtain ⟨n, e, n0, n1⟩ := inI_of h
        exact ⟨_, rfl, (qN n e n0 n1).1 rfl t0 H' (s0.trans s) ht0⟩
end
end Sq
namespace Sq
open PySem L2 PySem.Spec PyProof.Rows
/-! ### data that repr shows -/
def lim40 : Int := 10000000000000000000000000000000000000000
def F0 (d : PyData) : Prop := d.showable = true ∧ d.leavesShort 1921 = true ∧ d.hasDict = false
theorem log_small {i : Int} (h1 : -lim40 ≤ i) (h2 : i ≤ lim40) : i.natAbs.log2 < 1920 := by
  by_cases h0 : i.natAbs = 0
  · rw [h0]
    decide
  · rw [Nat.log2_lt h0]
    have h3 : i.natAbs ≤ 10000000000000000000000000000000000000000 := by
      unfold lim40 at h1 h2
      omega
    have h4 : (10000000000000000000000000000000000000000 : Nat) < 2 ^ 1920 := by decide +kernel
    omega
theorem f0_int {i : Int} (h1 : -lim40 ≤ i) (h2 : i ≤ lim40) : F0 (.int i) := by
  have h := log_small h1 h2
  refine ⟨?_, ?_, ?_⟩
  · simp only [PyData.showable]
    exact decide_eq_true h
  · simp only [PyData.leavesShort]
    exact decide_eq_true (PyProof.Rows.int_text_len_1921 h)
  · simp only [PyData.hasDict]
theorem f0_bl (b : Bool) : F0 (.bool b) := ⟨by simp only [PyData.showable], by simp only [PyData.leavesShort], by simp only [PyData.hasDict]⟩
theorem f0_non : F0 .none := ⟨by simp only [PyData.showable], by simp only [PyData.leavesShort], by simp only [PyData.hasDict]⟩
theorem f0_str (x : Str) (h : (x.cps.toList.all fun c => decide (c < 16 ^ 8)) = true) : F0 (.str x) := ⟨by simp only [PyData.showable], by simp only [PyData.leavesShort]; exact h, by simp only [PyData.hasDict]⟩
theorem f0_all : ∀ {ds : List PyData}, (∀ d ∈ ds, F0 d) → PyData.showableAll ds = true ∧ PyData.leavesShortAll 1921 ds = true ∧ PyData.hasDictAll ds = false
  | [], _ => ⟨by simp only [PyData.showableAll], by simp only [PyData.leavesShortAll], by simp only [PyData.hasDictAll]⟩
  | d :: ds, h => by
    obtain ⟨a1, a2, a3⟩ := h d (List.mem_cons_self ..)
    obtain ⟨b1, b2, b3⟩ := f0_all fun x hx => h x (List.mem_cons_of_mem _ hx)
    refine ⟨by simp only [PyData.showableAll, a1, b1, Bool.and_self], by simp only [PyData.leavesShortAll, a2, b2, Bool.and_self], by simp only [PyData.hasDictAll, a3, b3, Bool.or_self]⟩
theorem f0_tup {ds : List PyData} (h : ∀ d ∈ ds, F0 d) : F0 (.tuple ds) := by
  obtain ⟨b1, b2, b3⟩ := f0_all h
  exact ⟨by simp only [PyData.showable, b1], by simp only [PyData.leavesShort, b2], by simp only [PyData.hasDict, b3]⟩
theorem f0_lst {ds : List PyData} (h : ∀ d ∈ ds, F0 d) : F0 (.list ds) := by
  obtain ⟨b1, b2, b3⟩ := f0_all h
  exact ⟨by simp only [PyData.showable, b1], by simp only [PyData.leavesShort, b2], by simp only [PyData.hasDict, b3]⟩
theorem fits_of {d : PyData} (h1 : d.showable = true) (h2 : d.leavesShort 1921 = true) (h3 : d.bulk ≤ 100) (h4 : d.depth ≤ 20) : Fits d := by
  have h5 := PyData.shown_le_bulk 1921 (by decide) d h2
  have h6 : d.shown.length ≤ sizeLine := by
    rw [sizeLine_eq]
    omega
  refine ⟨h1, h4, h6, fun i e => ?_, fun x e => ?_⟩
  · subst e
    simp only [PyData.showable] at h1
    exact of_decide_eq_true h1
  · subst e
    exact h6
theorem fits0 {d : PyData} (h : F0 d) (h3 : d.bulk ≤ 100) (h4 : d.depth ≤ 20) : Fits d := fits_of h.1 h.2.1 h3 h4
theorem fits_dict : Fits (.dict []) := fits_of (by decide) (by decide) (by decide) (by decide)
theorem inI_out {i a b : Int} (h : i < a ∨ b < i) : inI (.int i) a b = false := by
  show (decide (a ≤ i) && decide (i ≤ b)) = false
  rcases h with h | h
  · rw [decide_eq_false (by omega : ¬ a ≤ i)]
    rfl
  · rw [decide_eq_false (by omega : ¬ i ≤ b), Bool.and_false]
theorem cb1 {n : Int} {x y : V} (h : inI x 0 (n - 1) = false) : cellB n (some [x, y]) = false := by
  show (inI x 0 (n - 1) && inI y 0 (n - 1)) = false
  rw [h]
  rfl
theorem cb2 {n : Int} {x y : V} (h : inI y 0 (n - 1) = false) : cellB n (some [x, y]) = false := by
  show (inI x 0 (n - 1) && inI y 0 (n - 1)) = false
  rw [h, Bool.and_false]
theorem kb1 {x y z : V} (h : inI x 0 1 = false) : kindB (some [x, y, z]) = false := by
  show (inI x 0 1 && (inI y 0 2 && inI z 0 3)) = false
  rw [h]
  rfl
theorem kb2 {x y z : V} (h : inI y 0 2 = false) : kindB (some [x, y, z]) = false := by
  show (inI x 0 1 && (inI y 0 2 && inI z 0 3)) = false
  rw [h, Bool.false_and, Bool.and_false]
theorem kb3 {x y z : V} (h : inI z 0 3 = false) : kindB (some [x, y, z]) = false := by
  show (inI x 0 1 && (inI y 0 2 && inI z 0 3)) = false
  rw [h, Bool.and_false, Bool.and_false]
theorem fmn {α : Type} {p : α → Prop} : ∀ x ∈ ([] : List α), p x := fun _ h => by cases h
theorem fmc {α : Type} {p : α → Prop} {a : α} {l : List α} (h : p a) (r : ∀ x ∈ l, p x) : ∀ x ∈ a :: l, p x := fun x hx => by
  rcases List.mem_cons.mp hx with e | hx
  · rw [e]
    exact h
  · exact r x hx
theorem new_at {H : Hp} {p : Addr} {o : HO} (h : H p = none) : Same H (upd H p o) ∧ upd H p o p = some o := ⟨same_new h, upd_same⟩
/-! ### what the lists of odd values promise -/
def spOddS (K : PySem.W.Frag) : Sp := fun vs H Q _ => ∃ (p : Addr) (g : Int), vs = [.ref p, .int g] ∧ PurlAt H p ∧ 1 ≤ g ∧ g ≤ big ∧ ∀ v d H', (∀ H2, Off p H' H2 → Pl K H2 v ∧ Sh K H2 v d) → Fits d → inI v 1 big = false → PurlAt H' p → Off p H H' → Q v H'
def spOddC (K : PySem.W.Frag) : Sp := fun vs H Q _ => ∃ (p : Addr) (n r c : Int), vs = [.ref p, .int n, .int r, .int c] ∧ PurlAt H p ∧ InN n (r, c) ∧ n ≤ big ∧ ∀ v d cc H', (∀ H2, Off p H' H2 → TupV K H2 v cc ∧ Sh K H2 v d) → Fits d → cellB n cc = false → PurlAt H' p → Off p H H' → Q v H'
def spOddK (K : PySem.W.Frag) : Sp := fun vs H Q _ => ∃ p : Addr, vs = [.ref p] ∧ PurlAt H p ∧ ∀ v d cc H', (∀ H2, Off p H' H2 → TupV K H2 v cc ∧ Sh K H2 v d) → Fits d → kindB cc = false → PurlAt H' p → Off p H H' → Q v H'
end Sq
namespace Sq
open PySem L2 TL
section
variable {P : Program} {w : World} {K : PySem.W.Frag} {mg : Str → Option Value} {base : Heap}
theorem e30_ : ((10 : Int) ^ (30 : Int).toNat) = 1000000000000000000000000000000 := by decide
abbrev s__law_oddsize : Stmt := top 32
theorem sc__law_oddsize : FnScope ["_law_purl_here", "_law_great", "_law_odd"] ["_law_purl_here", "_law_great"] (defScope s__law_oddsize) := ⟨rfl, rfl, rfl, by decide +kernel, rfl, by decide +kernel, by decide +kernel⟩
theorem ok__law_oddsize {f : Addr} {fd : FuncData} (F : Fun K "_law_oddsize" "_law_oddsize" s__law_oddsize f fd) (T : Bt mg) (G__law_dig : FB P w K mg base "_law_dig" 1 ["_law_purl_here", "_law_many"] spDig) : FnOk P w K mg base CX0 2 f fd ["_law_purl_here", "_law_great"] (spOddS K) := by
  refine F.ok sc__law_oddsize (fun vs H Q E h => ?_) (fun cdv A outer s H vs Q E hr h => ?_)
  · obtain ⟨p, g, rfl, _⟩ := h
    rfl
  · obtain ⟨p, g, rfl, hp, g1, g2, q⟩ := h
    unfold big at g2
    refine ⟨_, (pss_cons (ps_set (i := 2) sc__law_oddsize.nd rfl (by first | exact .inl rfl | exact .inr rfl) (pe_lst (pa_cons pe_int (pa_cons (pe_un un_neg pe_int) (pa_cons (pe_op op_add (pe_op op_pow pe_int pe_int) pe_int) (pa_cons pe_bl (pa_cons pe_bl (pa_cons pe_non (pa_cons pe_str (pa_cons (pe_tup (pa_cons pe_int pa_nil)) (pa_cons (pe_lst (pa_cons pe_int pa_nil)) (pa_cons (pe_un un_neg (pv 1)) (pa_cons (pe_op op_add (pe_op op_pow pe_int pe_int) (pv 1)) (pa_cons pe_dnewK (pa_cons pe_str (pa_cons (pe_tup pa_nil) pa_nil))))))))))))))))
        (pss_one (ps_ret (pe_ix ix_list (pv 2) (pe_fb G__law_dig hr (by decide) (by rfl) (pa_cons (pv 0) (pa_cons (pe_callB call_len_seq (by rfl) T.len PySem.boot_len (pa_cons (pv 2) pa_nil)) pa_nil))) (fun _ _ => rfl))))), ?_⟩
    refine ⟨_, rfl, ?_⟩
    refine ⟨_, _, rfl, rfl, ⟨by decide, by decide, by decide⟩, ?_⟩
    refine ⟨_, _, rfl, rfl, ?_⟩
    refine ⟨by show 1 ≤ sizeLine; decide, fun t1 nt1 => ?_⟩
    obtain ⟨s1, h1⟩ := new_at (o := .tup [V.int 3]) nt1
    refine ⟨by show 1 ≤ sizeLine; decide, fun t2 nt2 => ?_⟩
    obtain ⟨s2, h2⟩ := new_at (o := .lst [V.int 3]) nt2
    refine ⟨_, rfl, ?_⟩
    refine ⟨_, rfl, ?_⟩
    refine ⟨_, _, rfl, rfl, ⟨by decide, by decide, by decide⟩, ?_⟩
    refine ⟨_, rfl, ?_⟩
    refine ⟨_, _, rfl, rfl, ?_⟩
    intro t3 nt3
    obtain ⟨s3, h3⟩ := new_at (o := .dK []) nt3
    refine ⟨by show 0 ≤ sizeLine; decide, fun t4 nt4 => ?_⟩
    obtain ⟨s4, h4⟩ := new_at (o := .tup []) nt4
    refine ⟨by show 14 ≤ sizeLine; decide, fun t5 nt5 => ?_⟩
    obtain ⟨s5, h5⟩ := new_at (o := .lst [V.int 0, V.int (-1), V.int ((10 ^ (30 : Int).toNat) + 1), V.bl true, V.bl false, V.non, V.str "3", V.ref t1, V.ref t2, V.int (-g), V.int ((10 ^ (30 : Int).toNat) + g), V.ref t3, V.str "", V.ref t4]) nt5
    obtain ⟨pm, pd, hpe⟩ := hp
    have hp0 := hpe
    have hp1 := s1 _ _ hp0
    have hp2 := s2 _ _ hp1
    have hp3 := s3 _ _ hp2
    have hp4 := s4 _ _ hp3
    have hp5 := s5 _ _ hp4
    have n1 : t1 ≠ p := fun e => by rw [e, hp0] at nt1; cases nt1
    have n2 : t2 ≠ p := fun e => by rw [e, hp1] at nt2; cases nt2
    have n3 : t3 ≠ p := fun e => by rw [e, hp2] at nt3; cases nt3
    have n4 : t4 ≠ p := fun e => by rw [e, hp3] at nt4; cases nt4
    have n5 : t5 ≠ p := fun e => by rw [e, hp4] at nt5; cases nt5
    refine ⟨_, rfl, _, rfl, _, rfl, t5, _, rfl, .inl (SqL.of h5), p, 14, rfl, ⟨pm, pd, hp5⟩, by decide, by decide, fun r1 H2 ra rb hp' o2 => ?_⟩
    obtain ⟨j, rfl⟩ := Int.eq_ofNat_of_zero_le ra
    have hj : j < 14 := by omega
    refine ⟨t5, [V.int 0, V.int (-1), V.int ((10 ^ (30 : Int).toNat) + 1), V.bl true, V.bl false, V.non, V.str "3", V.ref t1, V.ref t2, V.int (-g), V.int ((10 ^ (30 : Int).toNat) + g), V.ref t3, V.str "", V.ref t4], _, _, rfl, rfl, SqL.of (o2 t5 _ n5 h5), atI_nat (List.getElem?_eq_getElem (show j < List.length [V.int 0, V.int (-1), V.int ((10 ^ (30 : Int).toNat) + 1), V.bl true, V.bl false, V.non, V.str "3", V.ref t1, V.ref t2, V.int (-g), V.int ((10 ^ (30 : Int).toNat) + g), V.ref t3, V.str "", V.ref t4] from hj)), ?_⟩
    have sA : Same H _ := (s1.trans (s2.trans (s3.trans (s4.trans s5))))
    have all : ∀ v ∈ [V.int 0, V.int (-1), V.int ((10 ^ (30 : Int).toNat) + 1), V.bl true, V.bl false, V.non, V.str "3", V.ref t1, V.ref t2, V.int (-g), V.int ((10 ^ (30 : Int).toNat) + g), V.ref t3, V.str "", V.ref t4], ∃ d, (∀ H3, Off p H2 H3 → Pl K H3 v ∧ Sh K H3 v d) ∧ Fits d ∧ inI v 1 big = false := by
      have e30 : ((10 : Int) ^ (30 : Int).toNat) = 1000000000000000000000000000000 := by decide
      have q1 : ∀ H3, Off p H2 H3 → H3 t1 = _ := fun H3 o3 => (o2.trans o3) t1 _ n1 (s5 _ _ (s4 _ _ (s3 _ _ (s2 _ _ h1))))
      have q2 : ∀ H3, Off p H2 H3 → H3 t2 = _ := fun H3 o3 => (o2.trans o3) t2 _ n2 (s5 _ _ (s4 _ _ (s3 _ _ h2)))
      have q3 : ∀ H3, Off p H2 H3 → H3 t3 = _ := fun H3 o3 => (o2.trans o3) t3 _ n3 (s5 _ _ (s4 _ _ h3))
      have q4 : ∀ H3, Off p H2 H3 → H3 t4 = _ := fun H3 o3 => (o2.trans o3) t4 _ n4 (s5 _ _ h4)
      exact (fmc (⟨_, fun H3 o3 => ⟨(pl_int _), (.dat (.int _) ((f0_int (by unfold lim40; (first | omega | (simp only [e30_]; omega))) (by unfold lim40; (first | omega | (simp only [e30_]; omega))))).2.2)⟩, (fits0 (f0_int (by unfold lim40; (first | omega | (simp only [e30_]; omega))) (by unfold lim40; (first | omega | (simp only [e30_]; omega)))) (by (first | (simp [PyData.bulk, PyData.bulkAll]; done) | decide | (simp [PyData.bulk, PyData.bulkAll]; decide))) (by simp [PyData.depth, PyData.depthAll])), by (first | rfl | exact inI_out (by unfold big; omega) | exact inI_out (by unfold big; simp only [e30_]; omega) | exact cb1 rfl | exact cb2 rfl | exact cb1 (inI_out (by omega)) | exact cb2 (inI_out (by omega)) | exact kb1 rfl | exact kb2 rfl | exact kb3 rfl | exact kb1 (inI_out (by omega)) | exact kb2 (inI_out (by omega)) | exact kb3 (inI_out (by omega)))⟩)
        (fmc (⟨_, fun H3 o3 => ⟨(pl_int _), (.dat (.int _) ((f0_int (by unfold lim40; (first | omega | (simp only [e30_]; omega))) (by unfold lim40; (first | omega | (simp only [e30_]; omega))))).2.2)⟩, (fits0 (f0_int (by unfold lim40; (first | omega | (simp only [e30_]; omega))) (by unfold lim40; (first | omega | (simp only [e30_]; omega)))) (by (first | (simp [PyData.bulk, PyData.bulkAll]; done) | decide | (simp [PyData.bulk, PyData.bulkAll]; decide))) (by simp [PyData.depth, PyData.depthAll])), by (first | rfl | exact inI_out (by unfold big; omega) | exact inI_out (by unfold big; simp only [e30_]; omega) | exact cb1 rfl | exact cb2 rfl | exact cb1 (inI_out (by omega)) | exact cb2 (inI_out (by omega)) | exact kb1 rfl | exact kb2 rfl | exact kb3 rfl | exact kb1 (inI_out (by omega)) | exact kb2 (inI_out (by omega)) | exact kb3 (inI_out (by omega)))⟩)
        (fmc (⟨_, fun H3 o3 => ⟨(pl_int _), (.dat (.int _) ((f0_int (by unfold lim40; (first | omega | (simp only [e30_]; omega))) (by unfold lim40; (first | omega | (simp only [e30_]; omega))))).2.2)⟩, (fits0 (f0_int (by unfold lim40; (first | omega | (simp only [e30_]; omega))) (by unfold lim40; (first | omega | (simp only [e30_]; omega)))) (by (first | (simp [PyData.bulk, PyData.bulkAll]; done) | decide | (simp [PyData.bulk, PyData.bulkAll]; decide))) (by simp [PyData.depth, PyData.depthAll])), by (first | rfl | exact inI_out (by unfold big; omega) | exact inI_out (by unfold big; simp only [e30_]; omega) | exact cb1 rfl | exact cb2 rfl | exact cb1 (inI_out (by omega)) | exact cb2 (inI_out (by omega)) | exact kb1 rfl | exact kb2 rfl | exact kb3 rfl | exact kb1 (inI_out (by omega)) | exact kb2 (inI_out (by omega)) | exact kb3 (inI_out (by omega)))⟩)
        (fmc (⟨_, fun H3 o3 => ⟨(pl_bl _), (.dat (.bl _) ((f0_bl _)).2.2)⟩, (fits0 (f0_bl _) (by (first | (simp [PyData.bulk, PyData.bulkAll]; done) | decide | (simp [PyData.bulk, PyData.bulkAll]; decide))) (by simp [PyData.depth, PyData.depthAll])), by (first | rfl | exact inI_out (by unfold big; omega) | exact inI_out (by unfold big; simp only [e30_]; omega) | exact cb1 rfl | exact cb2 rfl | exact cb1 (inI_out (by omega)) | exact cb2 (inI_out (by omega)) | exact kb1 rfl | exact kb2 rfl | exact kb3 rfl | exact kb1 (inI_out (by omega)) | exact kb2 (inI_out (by omega)) | exact kb3 (inI_out (by omega)))⟩)
        (fmc (⟨_, fun H3 o3 => ⟨(pl_bl _), (.dat (.bl _) ((f0_bl _)).2.2)⟩, (fits0 (f0_bl _) (by (first | (simp [PyData.bulk, PyData.bulkAll]; done) | decide | (simp [PyData.bulk, PyData.bulkAll]; decide))) (by simp [PyData.depth, PyData.depthAll])), by (first | rfl | exact inI_out (by unfold big; omega) | exact inI_out (by unfold big; simp only [e30_]; omega) | exact cb1 rfl | exact cb2 rfl | exact cb1 (inI_out (by omega)) | exact cb2 (inI_out (by omega)) | exact kb1 rfl | exact kb2 rfl | exact kb3 rfl | exact kb1 (inI_out (by omega)) | exact kb2 (inI_out (by omega)) | exact kb3 (inI_out (by omega)))⟩)
        (fmc (⟨_, fun H3 o3 => ⟨pl_non, (.dat .non (f0_non).2.2)⟩, (fits0 f0_non (by (first | (simp [PyData.bulk, PyData.bulkAll]; done) | decide | (simp [PyData.bulk, PyData.bulkAll]; decide))) (by simp [PyData.depth, PyData.depthAll])), by (first | rfl | exact inI_out (by unfold big; omega) | exact inI_out (by unfold big; simp only [e30_]; omega) | exact cb1 rfl | exact cb2 rfl | exact cb1 (inI_out (by omega)) | exact cb2 (inI_out (by omega)) | exact kb1 rfl | exact kb2 rfl | exact kb3 rfl | exact kb1 (inI_out (by omega)) | exact kb2 (inI_out (by omega)) | exact kb3 (inI_out (by omega)))⟩)
        (fmc (⟨_, fun H3 o3 => ⟨(pl_str _), (.dat (.str _) ((f0_str _ (by decide))).2.2)⟩, (fits0 (f0_str _ (by decide)) (by (first | (simp [PyData.bulk, PyData.bulkAll]; done) | decide | (simp [PyData.bulk, PyData.bulkAll]; decide))) (by simp [PyData.depth, PyData.depthAll])), by (first | rfl | exact inI_out (by unfold big; omega) | exact inI_out (by unfold big; simp only [e30_]; omega) | exact cb1 rfl | exact cb2 rfl | exact cb1 (inI_out (by omega)) | exact cb2 (inI_out (by omega)) | exact kb1 rfl | exact kb2 rfl | exact kb3 rfl | exact kb1 (inI_out (by omega)) | exact kb2 (inI_out (by omega)) | exact kb3 (inI_out (by omega)))⟩)
        (fmc (⟨_, fun H3 o3 => ⟨(pl_tup (q1 H3 o3)), (.dat (.tup (SqT.of (q1 H3 o3)) (.cons (.int _) .nil)) ((f0_tup (fmc (f0_int (by unfold lim40; (first | omega | (simp only [e30_]; omega))) (by unfold lim40; (first | omega | (simp only [e30_]; omega)))) fmn))).2.2)⟩, (fits0 (f0_tup (fmc (f0_int (by unfold lim40; (first | omega | (simp only [e30_]; omega))) (by unfold lim40; (first | omega | (simp only [e30_]; omega)))) fmn)) (by (first | (simp [PyData.bulk, PyData.bulkAll]; done) | decide | (simp [PyData.bulk, PyData.bulkAll]; decide))) (by simp [PyData.depth, PyData.depthAll])), by (first | rfl | exact inI_out (by unfold big; omega) | exact inI_out (by unfold big; simp only [e30_]; omega) | exact cb1 rfl | exact cb2 rfl | exact cb1 (inI_out (by omega)) | exact cb2 (inI_out (by omega)) | exact kb1 rfl | exact kb2 rfl | exact kb3 rfl | exact kb1 (inI_out (by omega)) | exact kb2 (inI_out (by omega)) | exact kb3 (inI_out (by omega)))⟩)
        (fmc (⟨_, fun H3 o3 => ⟨(pl_lst (q2 H3 o3)), (.dat (.lst (SqL.of (q2 H3 o3)) (.cons (.int _) .nil)) ((f0_lst (fmc (f0_int (by unfold lim40; (first | omega | (simp only [e30_]; omega))) (by unfold lim40; (first | omega | (simp only [e30_]; omega)))) fmn))).2.2)⟩, (fits0 (f0_lst (fmc (f0_int (by unfold lim40; (first | omega | (simp only [e30_]; omega))) (by unfold lim40; (first | omega | (simp only [e30_]; omega)))) fmn)) (by (first | (simp [PyData.bulk, PyData.bulkAll]; done) | decide | (simp [PyData.bulk, PyData.bulkAll]; decide))) (by simp [PyData.depth, PyData.depthAll])), by (first | rfl | exact inI_out (by unfold big; omega) | exact inI_out (by unfold big; simp only [e30_]; omega) | exact cb1 rfl | exact cb2 rfl | exact cb1 (inI_out (by omega)) | exact cb2 (inI_out (by omega)) | exact kb1 rfl | exact kb2 rfl | exact kb3 rfl | exact kb1 (inI_out (by omega)) | exact kb2 (inI_out (by omega)) | exact kb3 (inI_out (by omega)))⟩)
        (fmc (⟨_, fun H3 o3 => ⟨(pl_int _), (.dat (.int _) ((f0_int (by unfold lim40; (first | omega | (simp only [e30_]; omega))) (by unfold lim40; (first | omega | (simp only [e30_]; omega))))).2.2)⟩, (fits0 (f0_int (by unfold lim40; (first | omega | (simp only [e30_]; omega))) (by unfold lim40; (first | omega | (simp only [e30_]; omega)))) (by (first | (simp [PyData.bulk, PyData.bulkAll]; done) | decide | (simp [PyData.bulk, PyData.bulkAll]; decide))) (by simp [PyData.depth, PyData.depthAll])), by (first | rfl | exact inI_out (by unfold big; omega) | exact inI_out (by unfold big; simp only [e30_]; omega) | exact cb1 rfl | exact cb2 rfl | exact cb1 (inI_out (by omega)) | exact cb2 (inI_out (by omega)) | exact kb1 rfl | exact kb2 rfl | exact kb3 rfl | exact kb1 (inI_out (by omega)) | exact kb2 (inI_out (by omega)) | exact kb3 (inI_out (by omega)))⟩)
        (fmc (⟨_, fun H3 o3 => ⟨(pl_int _), (.dat (.int _) ((f0_int (by unfold lim40; (first | omega | (simp only [e30_]; omega))) (by unfold lim40; (first | omega | (simp only [e30_]; omega))))).2.2)⟩, (fits0 (f0_int (by unfold lim40; (first | omega | (simp only [e30_]; omega))) (by unfold lim40; (first | omega | (simp only [e30_]; omega)))) (by (first | (simp [PyData.bulk, PyData.bulkAll]; done) | decide | (simp [PyData.bulk, PyData.bulkAll]; decide))) (by simp [PyData.depth, PyData.depthAll])), by (first | rfl | exact inI_out (by unfold big; omega) | exact inI_out (by unfold big; simp only [e30_]; omega) | exact cb1 rfl | exact cb2 rfl | exact cb1 (inI_out (by omega)) | exact cb2 (inI_out (by omega)) | exact kb1 rfl | exact kb2 rfl | exact kb3 rfl | exact kb1 (inI_out (by omega)) | exact kb2 (inI_out (by omega)) | exact kb3 (inI_out (by omega)))⟩)
        (fmc (⟨_, fun H3 o3 => ⟨(pl_dK (q3 H3 o3)), (.emp (q3 H3 o3))⟩, fits_dict, by (first | rfl | exact inI_out (by unfold big; omega) | exact inI_out (by unfold big; simp only [e30_]; omega) | exact cb1 rfl | exact cb2 rfl | exact cb1 (inI_out (by omega)) | exact cb2 (inI_out (by omega)) | exact kb1 rfl | exact kb2 rfl | exact kb3 rfl | exact kb1 (inI_out (by omega)) | exact kb2 (inI_out (by omega)) | exact kb3 (inI_out (by omega)))⟩)
        (fmc (⟨_, fun H3 o3 => ⟨(pl_str _), (.dat (.str _) ((f0_str _ (by decide))).2.2)⟩, (fits0 (f0_str _ (by decide)) (by (first | (simp [PyData.bulk, PyData.bulkAll]; done) | decide | (simp [PyData.bulk, PyData.bulkAll]; decide))) (by simp [PyData.depth, PyData.depthAll])), by (first | rfl | exact inI_out (by unfold big; omega) | exact inI_out (by unfold big; simp only [e30_]; omega) | exact cb1 rfl | exact cb2 rfl | exact cb1 (inI_out (by omega)) | exact cb2 (inI_out (by omega)) | exact kb1 rfl | exact kb2 rfl | exact kb3 rfl | exact kb1 (inI_out (by omega)) | exact kb2 (inI_out (by omega)) | exact kb3 (inI_out (by omega)))⟩)
        (fmc (⟨_, fun H3 o3 => ⟨(pl_tup (q4 H3 o3)), (.dat (.tup (SqT.of (q4 H3 o3)) .nil) ((f0_tup fmn)).2.2)⟩, (fits0 (f0_tup fmn) (by (first | (simp [PyData.bulk, PyData.bulkAll]; done) | decide | (simp [PyData.bulk, PyData.bulkAll]; decide))) (by simp [PyData.depth, PyData.depthAll])), by (first | rfl | exact inI_out (by unfold big; omega) | exact inI_out (by unfold big; simp only [e30_]; omega) | exact cb1 rfl | exact cb2 rfl | exact cb1 (inI_out (by omega)) | exact cb2 (inI_out (by omega)) | exact kb1 rfl | exact kb2 rfl | exact kb3 rfl | exact kb1 (inI_out (by omega)) | exact kb2 (inI_out (by omega)) | exact kb3 (inI_out (by omega)))⟩)
        fmn))))))))))))))
    obtain ⟨d, g1, g2, g3⟩ := all _ (List.getElem_mem hj)
    exact q _ d H2 g1 g2 g3 hp' ((Same.off sA).trans o2)
end
end Sq
namespace Sq
open PySem L2 TL
section
variable {P : Program} {w : World} {K : PySem.W.Frag} {mg : Str → Option Value} {base : Heap}
abbrev s__law_oddcell : Stmt := top 33
theorem sc__law_oddcell : FnScope ["_law_purl_here", "_law_size", "_law_row", "_law_column", "_law_odd"] ["_law_purl_here", "_law_size", "_law_row", "_law_column"] (defScope s__law_oddcell) := ⟨rfl, rfl, rfl, by decide +kernel, rfl, by decide +kernel, by decide +kernel⟩
theorem ok__law_oddcell {f : Addr} {fd : FuncData} (F : Fun K "_law_oddcell" "_law_oddcell" s__law_oddcell f fd) (T : Bt mg) (G__law_dig : FB P w K mg base "_law_dig" 1 ["_law_purl_here", "_law_many"] spDig) : FnOk P w K mg base CX0 2 f fd ["_law_purl_here", "_law_size", "_law_row", "_law_column"] (spOddC K) := by
  refine F.ok sc__law_oddcell (fun vs H Q E h => ?_) (fun cdv A outer s H vs Q E hr h => ?_)
  · obtain ⟨p, n, r, c, rfl, _⟩ := h
    rfl
  · obtain ⟨p, n, r, c, rfl, hp, hi, hn, q⟩ := h
    obtain ⟨⟨a0, a1⟩, b0, b1⟩ := hi
    simp only at a0 a1 b0 b1
    unfold big at hn
    refine ⟨_, (pss_cons (ps_set (i := 4) sc__law_oddcell.nd rfl (by first | exact .inl rfl | exact .inr rfl) (pe_lst (pa_cons (pe_tup (pa_cons (pv 1) (pa_cons (pv 3) pa_nil))) (pa_cons (pe_tup (pa_cons (pv 2) (pa_cons (pv 1) pa_nil))) (pa_cons (pe_tup (pa_cons (pe_un un_neg pe_int) (pa_cons (pv 3) pa_nil))) (pa_cons (pe_tup (pa_cons (pv 2) (pa_cons (pe_un un_neg pe_int) pa_nil))) (pa_cons (pe_tup (pa_cons (pv 2) pa_nil)) (pa_cons (pe_tup (pa_cons (pv 2) (pa_cons (pv 3) (pa_cons pe_int pa_nil)))) (pa_cons (pe_lst (pa_cons (pv 2) (pa_cons (pv 3) pa_nil))) (pa_cons pe_non (pa_cons pe_str pa_nil)))))))))))
        (pss_cons (ps_set (i := 4) sc__law_oddcell.nd rfl (by first | exact .inl rfl | exact .inr rfl) (pe_op op_cat (pv 4) (pe_lst (pa_cons (pe_tup (pa_cons pe_bl (pa_cons (pv 3) pa_nil))) (pa_cons (pe_tup (pa_cons (pv 2) (pa_cons pe_bl pa_nil))) (pa_cons (pe_tup (pa_cons pe_str (pa_cons (pv 3) pa_nil))) (pa_cons (pe_tup (pa_cons (pv 2) (pa_cons pe_non pa_nil))) (pa_cons (pe_tup (pa_cons (pe_tup (pa_cons (pv 2) (pa_cons (pv 3) pa_nil))) pa_nil)) (pa_cons (pe_tup (pa_cons (pv 2) (pa_cons (pe_lst (pa_cons (pv 3) pa_nil)) pa_nil))) (pa_cons (pe_tup pa_nil) pa_nil))))))))))
        (pss_cons (ps_set (i := 4) sc__law_oddcell.nd rfl (by first | exact .inl rfl | exact .inr rfl) (pe_op op_cat (pv 4) (pe_lst (pa_cons (pe_tup (pa_cons (pe_op op_add (pv 1) (pv 2)) (pa_cons (pv 3) pa_nil))) (pa_cons (pe_tup (pa_cons (pv 2) (pa_cons (pe_op op_sub (pe_un un_neg pe_int) (pv 3)) pa_nil))) (pa_cons (pv 2) (pa_cons pe_dnewK (pa_cons pe_bl pa_nil))))))))
        (pss_one (ps_ret (pe_ix ix_list (pv 4) (pe_fb G__law_dig hr (by decide) (by rfl) (pa_cons (pv 0) (pa_cons (pe_callB call_len_seq (by rfl) T.len PySem.boot_len (pa_cons (pv 4) pa_nil)) pa_nil))) (fun _ _ => rfl))))))), ?_⟩
    refine ⟨_, rfl, ?_⟩
    refine ⟨_, rfl, ?_⟩
    refine ⟨by show 2 ≤ sizeLine; decide, fun t1 nt1 => ?_⟩
    obtain ⟨s1, h1⟩ := new_at (o := .tup [V.int n, V.int c]) nt1
    refine ⟨_, rfl, ?_⟩
    refine ⟨_, rfl, ?_⟩
    refine ⟨by show 2 ≤ sizeLine; decide, fun t2 nt2 => ?_⟩
    obtain ⟨s2, h2⟩ := new_at (o := .tup [V.int r, V.int n]) nt2
    refine ⟨_, rfl, ?_⟩
    refine ⟨_, rfl, ?_⟩
    refine ⟨by show 2 ≤ sizeLine; decide, fun t3 nt3 => ?_⟩
    obtain ⟨s3, h3⟩ := new_at (o := .tup [V.int (-1), V.int c]) nt3
    refine ⟨_, rfl, ?_⟩
    refine ⟨_, rfl, ?_⟩
    refine ⟨by show 2 ≤ sizeLine; decide, fun t4 nt4 => ?_⟩
    obtain ⟨s4, h4⟩ := new_at (o := .tup [V.int r, V.int (-1)]) nt4
    refine ⟨_, rfl, ?_⟩
    refine ⟨by show 1 ≤ sizeLine; decide, fun t5 nt5 => ?_⟩
    obtain ⟨s5, h5⟩ := new_at (o := .tup [V.int r]) nt5
    refine ⟨_, rfl, ?_⟩
    refine ⟨_, rfl, ?_⟩
    refine ⟨by show 3 ≤ sizeLine; decide, fun t6 nt6 => ?_⟩
    obtain ⟨s6, h6⟩ := new_at (o := .tup [V.int r, V.int c, V.int 0]) nt6
    refine ⟨_, rfl, ?_⟩
    refine ⟨_, rfl, ?_⟩
    refine ⟨by show 2 ≤ sizeLine; decide, fun t7 nt7 => ?_⟩
    obtain ⟨s7, h7⟩ := new_at (o := .lst [V.int r, V.int c]) nt7
    refine ⟨by show 9 ≤ sizeLine; decide, fun t8 nt8 => ?_⟩
    obtain ⟨s8, h8⟩ := new_at (o := .lst [V.ref t1, V.ref t2, V.ref t3, V.ref t4, V.ref t5, V.ref t6, V.ref t7, V.non, V.str "ab"]) nt8
    refine ⟨_, rfl, ?_⟩
    refine ⟨_, rfl, ?_⟩
    refine ⟨by show 2 ≤ sizeLine; decide, fun t9 nt9 => ?_⟩
    obtain ⟨s9, h9⟩ := new_at (o := .tup [V.bl true, V.int c]) nt9
    refine ⟨_, rfl, ?_⟩
    refine ⟨by show 2 ≤ sizeLine; decide, fun t10 nt10 => ?_⟩
    obtain ⟨s10, h10⟩ := new_at (o := .tup [V.int r, V.bl false]) nt10
    refine ⟨_, rfl, ?_⟩
    refine ⟨by show 2 ≤ sizeLine; decide, fun t11 nt11 => ?_⟩
    obtain ⟨s11, h11⟩ := new_at (o := .tup [V.str "0", V.int c]) nt11
    refine ⟨_, rfl, ?_⟩
    refine ⟨by show 2 ≤ sizeLine; decide, fun t12 nt12 => ?_⟩
    obtain ⟨s12, h12⟩ := new_at (o := .tup [V.int r, V.non]) nt12
    refine ⟨_, rfl, ?_⟩
    refine ⟨_, rfl, ?_⟩
    refine ⟨by show 2 ≤ sizeLine; decide, fun t13 nt13 => ?_⟩
    obtain ⟨s13, h13⟩ := new_at (o := .tup [V.int r, V.int c]) nt13
    refine ⟨by show 1 ≤ sizeLine; decide, fun t14 nt14 => ?_⟩
    obtain ⟨s14, h14⟩ := new_at (o := .tup [V.ref t13]) nt14
    refine ⟨_, rfl, ?_⟩
    refine ⟨_, rfl, ?_⟩
    refine ⟨by show 1 ≤ sizeLine; decide, fun t15 nt15 => ?_⟩
    obtain ⟨s15, h15⟩ := new_at (o := .lst [V.int c]) nt15
    refine ⟨by show 2 ≤ sizeLine; decide, fun t16 nt16 => ?_⟩
    obtain ⟨s16, h16⟩ := new_at (o := .tup [V.int r, V.ref t15]) nt16
    refine ⟨by show 0 ≤ sizeLine; decide, fun t17 nt17 => ?_⟩
    obtain ⟨s17, h17⟩ := new_at (o := .tup []) nt17
    refine ⟨by show 7 ≤ sizeLine; decide, fun t18 nt18 => ?_⟩
    obtain ⟨s18, h18⟩ := new_at (o := .lst [V.ref t9, V.ref t10, V.ref t11, V.ref t12, V.ref t14, V.ref t16, V.ref t17]) nt18
    refine ⟨t8, t18, [V.ref t1, V.ref t2, V.ref t3, V.ref t4, V.ref t5, V.ref t6, V.ref t7, V.non, V.str "ab"], [V.ref t9, V.ref t10, V.ref t11, V.ref t12, V.ref t14, V.ref t16, V.ref t17], rfl, rfl, (s18 _ _ (s17 _ _ (s16 _ _ (s15 _ _ (s14 _ _ (s13 _ _ (s12 _ _ (s11 _ _ (s10 _ _ (s9 _ _ h8)))))))))), h18, by show 16 ≤ sizeLine; decide, fun t19 nt19 => ?_⟩
    obtain ⟨s19, h19⟩ := new_at (o := .lst ([V.ref t1, V.ref t2, V.ref t3, V.ref t4, V.ref t5, V.ref t6, V.ref t7, V.non, V.str "ab"] ++ [V.ref t9, V.ref t10, V.ref t11, V.ref t12, V.ref t14, V.ref t16, V.ref t17])) nt19
    refine ⟨_, rfl, ?_⟩
    refine ⟨_, rfl, ?_⟩
    refine ⟨_, rfl, ?_⟩
    refine ⟨_, _, rfl, rfl, ?_⟩
    refine ⟨_, rfl, ?_⟩
    refine ⟨by show 2 ≤ sizeLine; decide, fun t20 nt20 => ?_⟩
    obtain ⟨s20, h20⟩ := new_at (o := .tup [V.int (n + r), V.int c]) nt20
    refine ⟨_, rfl, ?_⟩
    refine ⟨_, rfl, ?_⟩
    refine ⟨_, rfl, ?_⟩
    refine ⟨_, _, rfl, rfl, ?_⟩
    refine ⟨by show 2 ≤ sizeLine; decide, fun t21 nt21 => ?_⟩
    obtain ⟨s21, h21⟩ := new_at (o := .tup [V.int r, V.int ((-1) - c)]) nt21
    refine ⟨_, rfl, ?_⟩
    intro t22 nt22
    obtain ⟨s22, h22⟩ := new_at (o := .dK []) nt22
    refine ⟨by show 5 ≤ sizeLine; decide, fun t23 nt23 => ?_⟩
    obtain ⟨s23, h23⟩ := new_at (o := .lst [V.ref t20, V.ref t21, V.int r, V.ref t22, V.bl true]) nt23
    refine ⟨t19, t23, ([V.ref t1, V.ref t2, V.ref t3, V.ref t4, V.ref t5, V.ref t6, V.ref t7, V.non, V.str "ab"] ++ [V.ref t9, V.ref t10, V.ref t11, V.ref t12, V.ref t14, V.ref t16, V.ref t17]), [V.ref t20, V.ref t21, V.int r, V.ref t22, V.bl true], rfl, rfl, (s23 _ _ (s22 _ _ (s21 _ _ (s20 _ _ h19)))), h23, by show 21 ≤ sizeLine; decide, fun t24 nt24 => ?_⟩
    obtain ⟨s24, h24⟩ := new_at (o := .lst (([V.ref t1, V.ref t2, V.ref t3, V.ref t4, V.ref t5, V.ref t6, V.ref t7, V.non, V.str "ab"] ++ [V.ref t9, V.ref t10, V.ref t11, V.ref t12, V.ref t14, V.ref t16, V.ref t17]) ++ [V.ref t20, V.ref t21, V.int r, V.ref t22, V.bl true])) nt24
    obtain ⟨pm, pd, hpe⟩ := hp
    have hp0 := hpe
    have hp1 := s1 _ _ hp0
    have hp2 := s2 _ _ hp1
    have hp3 := s3 _ _ hp2
    have hp4 := s4 _ _ hp3
    have hp5 := s5 _ _ hp4
    have hp6 := s6 _ _ hp5
    have hp7 := s7 _ _ hp6
    have hp8 := s8 _ _ hp7
    have hp9 := s9 _ _ hp8
    have hp10 := s10 _ _ hp9
    have hp11 := s11 _ _ hp10
    have hp12 := s12 _ _ hp11
    have hp13 := s13 _ _ hp12
    have hp14 := s14 _ _ hp13
    have hp15 := s15 _ _ hp14
    have hp16 := s16 _ _ hp15
    have hp17 := s17 _ _ hp16
    have hp18 := s18 _ _ hp17
    have hp19 := s19 _ _ hp18
    have hp20 := s20 _ _ hp19
    have hp21 := s21 _ _ hp20
    have hp22 := s22 _ _ hp21
    have hp23 := s23 _ _ hp22
    have hp24 := s24 _ _ hp23
    have n1 : t1 ≠ p := fun e => by rw [e, hp0] at nt1; cases nt1
    have n2 : t2 ≠ p := fun e => by rw [e, hp1] at nt2; cases nt2
    have n3 : t3 ≠ p := fun e => by rw [e, hp2] at nt3; cases nt3
    have n4 : t4 ≠ p := fun e => by rw [e, hp3] at nt4; cases nt4
    have n5 : t5 ≠ p := fun e => by rw [e, hp4] at nt5; cases nt5
    have n6 : t6 ≠ p := fun e => by rw [e, hp5] at nt6; cases nt6
    have n7 : t7 ≠ p := fun e => by rw [e, hp6] at nt7; cases nt7
    have n8 : t8 ≠ p := fun e => by rw [e, hp7] at nt8; cases nt8
    have n9 : t9 ≠ p := fun e => by rw [e, hp8] at nt9; cases nt9
    have n10 : t10 ≠ p := fun e => by rw [e, hp9] at nt10; cases nt10
    have n11 : t11 ≠ p := fun e => by rw [e, hp10] at nt11; cases nt11
    have n12 : t12 ≠ p := fun e => by rw [e, hp11] at nt12; cases nt12
    have n13 : t13 ≠ p := fun e => by rw [e, hp12] at nt13; cases nt13
    have n14 : t14 ≠ p := fun e => by rw [e, hp13] at nt14; cases nt14
    have n15 : t15 ≠ p := fun e => by rw [e, hp14] at nt15; cases nt15
    have n16 : t16 ≠ p := fun e => by rw [e, hp15] at nt16; cases nt16
    have n17 : t17 ≠ p := fun e => by rw [e, hp16] at nt17; cases nt17
    have n18 : t18 ≠ p := fun e => by rw [e, hp17] at nt18; cases nt18
    have n19 : t19 ≠ p := fun e => by rw [e, hp18] at nt19; cases nt19
    have n20 : t20 ≠ p := fun e => by rw [e, hp19] at nt20; cases nt20
    have n21 : t21 ≠ p := fun e => by rw [e, hp20] at nt21; cases nt21
    have n22 : t22 ≠ p := fun e => by rw [e, hp21] at nt22; cases nt22
    have n23 : t23 ≠ p := fun e => by rw [e, hp22] at nt23; cases nt23
    have n24 : t24 ≠ p := fun e => by rw [e, hp23] at nt24; cases nt24
    refine ⟨_, rfl, _, rfl, _, rfl, t24, _, rfl, .inl (SqL.of h24), p, 21, rfl, ⟨pm, pd, hp24⟩, by decide, by decide, fun r1 H2 ra rb hp' o2 => ?_⟩
    obtain ⟨j, rfl⟩ := Int.eq_ofNat_of_zero_le ra
    have hj : j < 21 := by omega
    refine ⟨t24, (([V.ref t1, V.ref t2, V.ref t3, V.ref t4, V.ref t5, V.ref t6, V.ref t7, V.non, V.str "ab"] ++ [V.ref t9, V.ref t10, V.ref t11, V.ref t12, V.ref t14, V.ref t16, V.ref t17]) ++ [V.ref t20, V.ref t21, V.int r, V.ref t22, V.bl true]), _, _, rfl, rfl, SqL.of (o2 t24 _ n24 h24), atI_nat (List.getElem?_eq_getElem (show j < List.length (([V.ref t1, V.ref t2, V.ref t3, V.ref t4, V.ref t5, V.ref t6, V.ref t7, V.non, V.str "ab"] ++ [V.ref t9, V.ref t10, V.ref t11, V.ref t12, V.ref t14, V.ref t16, V.ref t17]) ++ [V.ref t20, V.ref t21, V.int r, V.ref t22, V.bl true]) from hj)), ?_⟩
    have sA : Same H _ := (s1.trans (s2.trans (s3.trans (s4.trans (s5.trans (s6.trans (s7.trans (s8.trans (s9.trans (s10.trans (s11.trans (s12.trans (s13.trans (s14.trans (s15.trans (s16.trans (s17.trans (s18.trans (s19.trans (s20.trans (s21.trans (s22.trans (s23.trans s24)))))))))))))))))))))))
    have all : ∀ v ∈ (([V.ref t1, V.ref t2, V.ref t3, V.ref t4, V.ref t5, V.ref t6, V.ref t7, V.non, V.str "ab"] ++ [V.ref t9, V.ref t10, V.ref t11, V.ref t12, V.ref t14, V.ref t16, V.ref t17]) ++ [V.ref t20, V.ref t21, V.int r, V.ref t22, V.bl true]), ∃ d cc, (∀ H3, Off p H2 H3 → TupV K H3 v cc ∧ Sh K H3 v d) ∧ Fits d ∧ cellB n cc = false := by
      have e30 : ((10 : Int) ^ (30 : Int).toNat) = 1000000000000000000000000000000 := by decide
      have q1 : ∀ H3, Off p H2 H3 → H3 t1 = _ := fun H3 o3 => (o2.trans o3) t1 _ n1 (s24 _ _ (s23 _ _ (s22 _ _ (s21 _ _ (s20 _ _ (s19 _ _ (s18 _ _ (s17 _ _ (s16 _ _ (s15 _ _ (s14 _ _ (s13 _ _ (s12 _ _ (s11 _ _ (s10 _ _ (s9 _ _ (s8 _ _ (s7 _ _ (s6 _ _ (s5 _ _ (s4 _ _ (s3 _ _ (s2 _ _ h1)))))))))))))))))))))))
      have q2 : ∀ H3, Off p H2 H3 → H3 t2 = _ := fun H3 o3 => (o2.trans o3) t2 _ n2 (s24 _ _ (s23 _ _ (s22 _ _ (s21 _ _ (s20 _ _ (s19 _ _ (s18 _ _ (s17 _ _ (s16 _ _ (s15 _ _ (s14 _ _ (s13 _ _ (s12 _ _ (s11 _ _ (s10 _ _ (s9 _ _ (s8 _ _ (s7 _ _ (s6 _ _ (s5 _ _ (s4 _ _ (s3 _ _ h2))))))))))))))))))))))
      have q3 : ∀ H3, Off p H2 H3 → H3 t3 = _ := fun H3 o3 => (o2.trans o3) t3 _ n3 (s24 _ _ (s23 _ _ (s22 _ _ (s21 _ _ (s20 _ _ (s19 _ _ (s18 _ _ (s17 _ _ (s16 _ _ (s15 _ _ (s14 _ _ (s13 _ _ (s12 _ _ (s11 _ _ (s10 _ _ (s9 _ _ (s8 _ _ (s7 _ _ (s6 _ _ (s5 _ _ (s4 _ _ h3)))))))))))))))))))))
      have q4 : ∀ H3, Off p H2 H3 → H3 t4 = _ := fun H3 o3 => (o2.trans o3) t4 _ n4 (s24 _ _ (s23 _ _ (s22 _ _ (s21 _ _ (s20 _ _ (s19 _ _ (s18 _ _ (s17 _ _ (s16 _ _ (s15 _ _ (s14 _ _ (s13 _ _ (s12 _ _ (s11 _ _ (s10 _ _ (s9 _ _ (s8 _ _ (s7 _ _ (s6 _ _ (s5 _ _ h4))))))))))))))))))))
      have q5 : ∀ H3, Off p H2 H3 → H3 t5 = _ := fun H3 o3 => (o2.trans o3) t5 _ n5 (s24 _ _ (s23 _ _ (s22 _ _ (s21 _ _ (s20 _ _ (s19 _ _ (s18 _ _ (s17 _ _ (s16 _ _ (s15 _ _ (s14 _ _ (s13 _ _ (s12 _ _ (s11 _ _ (s10 _ _ (s9 _ _ (s8 _ _ (s7 _ _ (s6 _ _ h5)))))))))))))))))))
      have q6 : ∀ H3, Off p H2 H3 → H3 t6 = _ := fun H3 o3 => (o2.trans o3) t6 _ n6 (s24 _ _ (s23 _ _ (s22 _ _ (s21 _ _ (s20 _ _ (s19 _ _ (s18 _ _ (s17 _ _ (s16 _ _ (s15 _ _ (s14 _ _ (s13 _ _ (s12 _ _ (s11 _ _ (s10 _ _ (s9 _ _ (s8 _ _ (s7 _ _ h6))))))))))))))))))
      have q7 : ∀ H3, Off p H2 H3 → H3 t7 = _ := fun H3 o3 => (o2.trans o3) t7 _ n7 (s24 _ _ (s23 _ _ (s22 _ _ (s21 _ _ (s20 _ _ (s19 _ _ (s18 _ _ (s17 _ _ (s16 _ _ (s15 _ _ (s14 _ _ (s13 _ _ (s12 _ _ (s11 _ _ (s10 _ _ (s9 _ _ (s8 _ _ h7)))))))))))))))))
      have q9 : ∀ H3, Off p H2 H3 → H3 t9 = _ := fun H3 o3 => (o2.trans o3) t9 _ n9 (s24 _ _ (s23 _ _ (s22 _ _ (s21 _ _ (s20 _ _ (s19 _ _ (s18 _ _ (s17 _ _ (s16 _ _ (s15 _ _ (s14 _ _ (s13 _ _ (s12 _ _ (s11 _ _ (s10 _ _ h9)))))))))))))))
      have q10 : ∀ H3, Off p H2 H3 → H3 t10 = _ := fun H3 o3 => (o2.trans o3) t10 _ n10 (s24 _ _ (s23 _ _ (s22 _ _ (s21 _ _ (s20 _ _ (s19 _ _ (s18 _ _ (s17 _ _ (s16 _ _ (s15 _ _ (s14 _ _ (s13 _ _ (s12 _ _ (s11 _ _ h10))))))))))))))
      have q11 : ∀ H3, Off p H2 H3 → H3 t11 = _ := fun H3 o3 => (o2.trans o3) t11 _ n11 (s24 _ _ (s23 _ _ (s22 _ _ (s21 _ _ (s20 _ _ (s19 _ _ (s18 _ _ (s17 _ _ (s16 _ _ (s15 _ _ (s14 _ _ (s13 _ _ (s12 _ _ h11)))))))))))))
      have q12 : ∀ H3, Off p H2 H3 → H3 t12 = _ := fun H3 o3 => (o2.trans o3) t12 _ n12 (s24 _ _ (s23 _ _ (s22 _ _ (s21 _ _ (s20 _ _ (s19 _ _ (s18 _ _ (s17 _ _ (s16 _ _ (s15 _ _ (s14 _ _ (s13 _ _ h12))))))))))))
      have q13 : ∀ H3, Off p H2 H3 → H3 t13 = _ := fun H3 o3 => (o2.trans o3) t13 _ n13 (s24 _ _ (s23 _ _ (s22 _ _ (s21 _ _ (s20 _ _ (s19 _ _ (s18 _ _ (s17 _ _ (s16 _ _ (s15 _ _ (s14 _ _ h13)))))))))))
      have q14 : ∀ H3, Off p H2 H3 → H3 t14 = _ := fun H3 o3 => (o2.trans o3) t14 _ n14 (s24 _ _ (s23 _ _ (s22 _ _ (s21 _ _ (s20 _ _ (s19 _ _ (s18 _ _ (s17 _ _ (s16 _ _ (s15 _ _ h14))))))))))
      have q15 : ∀ H3, Off p H2 H3 → H3 t15 = _ := fun H3 o3 => (o2.trans o3) t15 _ n15 (s24 _ _ (s23 _ _ (s22 _ _ (s21 _ _ (s20 _ _ (s19 _ _ (s18 _ _ (s17 _ _ (s16 _ _ h15)))))))))
      have q16 : ∀ H3, Off p H2 H3 → H3 t16 = _ := fun H3 o3 => (o2.trans o3) t16 _ n16 (s24 _ _ (s23 _ _ (s22 _ _ (s21 _ _ (s20 _ _ (s19 _ _ (s18 _ _ (s17 _ _ h16))))))))
      have q17 : ∀ H3, Off p H2 H3 → H3 t17 = _ := fun H3 o3 => (o2.trans o3) t17 _ n17 (s24 _ _ (s23 _ _ (s22 _ _ (s21 _ _ (s20 _ _ (s19 _ _ (s18 _ _ h17)))))))
      have q20 : ∀ H3, Off p H2 H3 → H3 t20 = _ := fun H3 o3 => (o2.trans o3) t20 _ n20 (s24 _ _ (s23 _ _ (s22 _ _ (s21 _ _ h20))))
      have q21 : ∀ H3, Off p H2 H3 → H3 t21 = _ := fun H3 o3 => (o2.trans o3) t21 _ n21 (s24 _ _ (s23 _ _ (s22 _ _ h21)))
      have q22 : ∀ H3, Off p H2 H3 → H3 t22 = _ := fun H3 o3 => (o2.trans o3) t22 _ n22 (s24 _ _ (s23 _ _ h22))
      exact (fmc (⟨_, (some [V.int n, V.int c]), fun H3 o3 => ⟨⟨_, rfl, (q1 H3 o3), by show 2 ≤ 100; decide, (fmc (pl_int _) (fmc (pl_int _) fmn))⟩, (.dat (.tup (SqT.of (q1 H3 o3)) (.cons (.int _) (.cons (.int _) .nil))) ((f0_tup (fmc (f0_int (by unfold lim40; (first | omega | (simp only [e30_]; omega))) (by unfold lim40; (first | omega | (simp only [e30_]; omega)))) (fmc (f0_int (by unfold lim40; (first | omega | (simp only [e30_]; omega))) (by unfold lim40; (first | omega | (simp only [e30_]; omega)))) fmn)))).2.2)⟩, (fits0 (f0_tup (fmc (f0_int (by unfold lim40; (first | omega | (simp only [e30_]; omega))) (by unfold lim40; (first | omega | (simp only [e30_]; omega)))) (fmc (f0_int (by unfold lim40; (first | omega | (simp only [e30_]; omega))) (by unfold lim40; (first | omega | (simp only [e30_]; omega)))) fmn))) (by (first | (simp [PyData.bulk, PyData.bulkAll]; done) | decide | (simp [PyData.bulk, PyData.bulkAll]; decide))) (by simp [PyData.depth, PyData.depthAll])), by (first | rfl | exact inI_out (by unfold big; omega) | exact inI_out (by unfold big; simp only [e30_]; omega) | exact cb1 rfl | exact cb2 rfl | exact cb1 (inI_out (by omega)) | exact cb2 (inI_out (by omega)) | exact kb1 rfl | exact kb2 rfl | exact kb3 rfl | exact kb1 (inI_out (by omega)) | exact kb2 (inI_out (by omega)) | exact kb3 (inI_out (by omega)))⟩)
        (fmc (⟨_, (some [V.int r, V.int n]), fun H3 o3 => ⟨⟨_, rfl, (q2 H3 o3), by show 2 ≤ 100; decide, (fmc (pl_int _) (fmc (pl_int _) fmn))⟩, (.dat (.tup (SqT.of (q2 H3 o3)) (.cons (.int _) (.cons (.int _) .nil))) ((f0_tup (fmc (f0_int (by unfold lim40; (first | omega | (simp only [e30_]; omega))) (by unfold lim40; (first | omega | (simp only [e30_]; omega)))) (fmc (f0_int (by unfold lim40; (first | omega | (simp only [e30_]; omega))) (by unfold lim40; (first | omega | (simp only [e30_]; omega)))) fmn)))).2.2)⟩, (fits0 (f0_tup (fmc (f0_int (by unfold lim40; (first | omega | (simp only [e30_]; omega))) (by unfold lim40; (first | omega | (simp only [e30_]; omega)))) (fmc (f0_int (by unfold lim40; (first | omega | (simp only [e30_]; omega))) (by unfold lim40; (first | omega | (simp only [e30_]; omega)))) fmn))) (by (first | (simp [PyData.bulk, PyData.bulkAll]; done) | decide | (simp [PyData.bulk, PyData.bulkAll]; decide))) (by simp [PyData.depth, PyData.depthAll])), by (first | rfl | exact inI_out (by unfold big; omega) | exact inI_out (by unfold big; simp only [e30_]; omega) | exact cb1 rfl | exact cb2 rfl | exact cb1 (inI_out (by omega)) | exact cb2 (inI_out (by omega)) | exact kb1 rfl | exact kb2 rfl | exact kb3 rfl | exact kb1 (inI_out (by omega)) | exact kb2 (inI_out (by omega)) | exact kb3 (inI_out (by omega)))⟩)
        (fmc (⟨_, (some [V.int (-1), V.int c]), fun H3 o3 => ⟨⟨_, rfl, (q3 H3 o3), by show 2 ≤ 100; decide, (fmc (pl_int _) (fmc (pl_int _) fmn))⟩, (.dat (.tup (SqT.of (q3 H3 o3)) (.cons (.int _) (.cons (.int _) .nil))) ((f0_tup (fmc (f0_int (by unfold lim40; (first | omega | (simp only [e30_]; omega))) (by unfold lim40; (first | omega | (simp only [e30_]; omega)))) (fmc (f0_int (by unfold lim40; (first | omega | (simp only [e30_]; omega))) (by unfold lim40; (first | omega | (simp only [e30_]; omega)))) fmn)))).2.2)⟩, (fits0 (f0_tup (fmc (f0_int (by unfold lim40; (first | omega | (simp only [e30_]; omega))) (by unfold lim40; (first | omega | (simp only [e30_]; omega)))) (fmc (f0_int (by unfold lim40; (first | omega | (simp only [e30_]; omega))) (by unfold lim40; (first | omega | (simp only [e30_]; omega)))) fmn))) (by (first | (simp [PyData.bulk, PyData.bulkAll]; done) | decide | (simp [PyData.bulk, PyData.bulkAll]; decide))) (by simp [PyData.depth, PyData.depthAll])), by (first | rfl | exact inI_out (by unfold big; omega) | exact inI_out (by unfold big; simp only [e30_]; omega) | exact cb1 rfl | exact cb2 rfl | exact cb1 (inI_out (by omega)) | exact cb2 (inI_out (by omega)) | exact kb1 rfl | exact kb2 rfl | exact kb3 rfl | exact kb1 (inI_out (by omega)) | exact kb2 (inI_out (by omega)) | exact kb3 (inI_out (by omega)))⟩)
        (fmc (⟨_, (some [V.int r, V.int (-1)]), fun H3 o3 => ⟨⟨_, rfl, (q4 H3 o3), by show 2 ≤ 100; decide, (fmc (pl_int _) (fmc (pl_int _) fmn))⟩, (.dat (.tup (SqT.of (q4 H3 o3)) (.cons (.int _) (.cons (.int _) .nil))) ((f0_tup (fmc (f0_int (by unfold lim40; (first | omega | (simp only [e30_]; omega))) (by unfold lim40; (first | omega | (simp only [e30_]; omega)))) (fmc (f0_int (by unfold lim40; (first | omega | (simp only [e30_]; omega))) (by unfold lim40; (first | omega | (simp only [e30_]; omega)))) fmn)))).2.2)⟩, (fits0 (f0_tup (fmc (f0_int (by unfold lim40; (first | omega | (simp only [e30_]; omega))) (by unfold lim40; (first | omega | (simp only [e30_]; omega)))) (fmc (f0_int (by unfold lim40; (first | omega | (simp only [e30_]; omega))) (by unfold lim40; (first | omega | (simp only [e30_]; omega)))) fmn))) (by (first | (simp [PyData.bulk, PyData.bulkAll]; done) | decide | (simp [PyData.bulk, PyData.bulkAll]; decide))) (by simp [PyData.depth, PyData.depthAll])), by (first | rfl | exact inI_out (by unfold big; omega) | exact inI_out (by unfold big; simp only [e30_]; omega) | exact cb1 rfl | exact cb2 rfl | exact cb1 (inI_out (by omega)) | exact cb2 (inI_out (by omega)) | exact kb1 rfl | exact kb2 rfl | exact kb3 rfl | exact kb1 (inI_out (by omega)) | exact kb2 (inI_out (by omega)) | exact kb3 (inI_out (by omega)))⟩)
        (fmc (⟨_, (some [V.int r]), fun H3 o3 => ⟨⟨_, rfl, (q5 H3 o3), by show 1 ≤ 100; decide, (fmc (pl_int _) fmn)⟩, (.dat (.tup (SqT.of (q5 H3 o3)) (.cons (.int _) .nil)) ((f0_tup (fmc (f0_int (by unfold lim40; (first | omega | (simp only [e30_]; omega))) (by unfold lim40; (first | omega | (simp only [e30_]; omega)))) fmn))).2.2)⟩, (fits0 (f0_tup (fmc (f0_int (by unfold lim40; (first | omega | (simp only [e30_]; omega))) (by unfold lim40; (first | omega | (simp only [e30_]; omega)))) fmn)) (by (first | (simp [PyData.bulk, PyData.bulkAll]; done) | decide | (simp [PyData.bulk, PyData.bulkAll]; decide))) (by simp [PyData.depth, PyData.depthAll])), by (first | rfl | exact inI_out (by unfold big; omega) | exact inI_out (by unfold big; simp only [e30_]; omega) | exact cb1 rfl | exact cb2 rfl | exact cb1 (inI_out (by omega)) | exact cb2 (inI_out (by omega)) | exact kb1 rfl | exact kb2 rfl | exact kb3 rfl | exact kb1 (inI_out (by omega)) | exact kb2 (inI_out (by omega)) | exact kb3 (inI_out (by omega)))⟩)
        (fmc (⟨_, (some [V.int r, V.int c, V.int 0]), fun H3 o3 => ⟨⟨_, rfl, (q6 H3 o3), by show 3 ≤ 100; decide, (fmc (pl_int _) (fmc (pl_int _) (fmc (pl_int _) fmn)))⟩, (.dat (.tup (SqT.of (q6 H3 o3)) (.cons (.int _) (.cons (.int _) (.cons (.int _) .nil)))) ((f0_tup (fmc (f0_int (by unfold lim40; (first | omega | (simp only [e30_]; omega))) (by unfold lim40; (first | omega | (simp only [e30_]; omega)))) (fmc (f0_int (by unfold lim40; (first | omega | (simp only [e30_]; omega))) (by unfold lim40; (first | omega | (simp only [e30_]; omega)))) (fmc (f0_int (by unfold lim40; (first | omega | (simp only [e30_]; omega))) (by unfold lim40; (first | omega | (simp only [e30_]; omega)))) fmn))))).2.2)⟩, (fits0 (f0_tup (fmc (f0_int (by unfold lim40; (first | omega | (simp only [e30_]; omega))) (by unfold lim40; (first | omega | (simp only [e30_]; omega)))) (fmc (f0_int (by unfold lim40; (first | omega | (simp only [e30_]; omega))) (by unfold lim40; (first | omega | (simp only [e30_]; omega)))) (fmc (f0_int (by unfold lim40; (first | omega | (simp only [e30_]; omega))) (by unfold lim40; (first | omega | (simp only [e30_]; omega)))) fmn)))) (by (first | (simp [PyData.bulk, PyData.bulkAll]; done) | decide | (simp [PyData.bulk, PyData.bulkAll]; decide))) (by simp [PyData.depth, PyData.depthAll])), by (first | rfl | exact inI_out (by unfold big; omega) | exact inI_out (by unfold big; simp only [e30_]; omega) | exact cb1 rfl | exact cb2 rfl | exact cb1 (inI_out (by omega)) | exact cb2 (inI_out (by omega)) | exact kb1 rfl | exact kb2 rfl | exact kb3 rfl | exact kb1 (inI_out (by omega)) | exact kb2 (inI_out (by omega)) | exact kb3 (inI_out (by omega)))⟩)
        (fmc (⟨_, none, fun H3 o3 => ⟨(tv_lst (q7 H3 o3)), (.dat (.lst (SqL.of (q7 H3 o3)) (.cons (.int _) (.cons (.int _) .nil))) ((f0_lst (fmc (f0_int (by unfold lim40; (first | omega | (simp only [e30_]; omega))) (by unfold lim40; (first | omega | (simp only [e30_]; omega)))) (fmc (f0_int (by unfold lim40; (first | omega | (simp only [e30_]; omega))) (by unfold lim40; (first | omega | (simp only [e30_]; omega)))) fmn)))).2.2)⟩, (fits0 (f0_lst (fmc (f0_int (by unfold lim40; (first | omega | (simp only [e30_]; omega))) (by unfold lim40; (first | omega | (simp only [e30_]; omega)))) (fmc (f0_int (by unfold lim40; (first | omega | (simp only [e30_]; omega))) (by unfold lim40; (first | omega | (simp only [e30_]; omega)))) fmn))) (by (first | (simp [PyData.bulk, PyData.bulkAll]; done) | decide | (simp [PyData.bulk, PyData.bulkAll]; decide))) (by simp [PyData.depth, PyData.depthAll])), by (first | rfl | exact inI_out (by unfold big; omega) | exact inI_out (by unfold big; simp only [e30_]; omega) | exact cb1 rfl | exact cb2 rfl | exact cb1 (inI_out (by omega)) | exact cb2 (inI_out (by omega)) | exact kb1 rfl | exact kb2 rfl | exact kb3 rfl | exact kb1 (inI_out (by omega)) | exact kb2 (inI_out (by omega)) | exact kb3 (inI_out (by omega)))⟩)
        (fmc (⟨_, none, fun H3 o3 => ⟨tv_non, (.dat .non (f0_non).2.2)⟩, (fits0 f0_non (by (first | (simp [PyData.bulk, PyData.bulkAll]; done) | decide | (simp [PyData.bulk, PyData.bulkAll]; decide))) (by simp [PyData.depth, PyData.depthAll])), by (first | rfl | exact inI_out (by unfold big; omega) | exact inI_out (by unfold big; simp only [e30_]; omega) | exact cb1 rfl | exact cb2 rfl | exact cb1 (inI_out (by omega)) | exact cb2 (inI_out (by omega)) | exact kb1 rfl | exact kb2 rfl | exact kb3 rfl | exact kb1 (inI_out (by omega)) | exact kb2 (inI_out (by omega)) | exact kb3 (inI_out (by omega)))⟩)
        (fmc (⟨_, none, fun H3 o3 => ⟨(tv_str _), (.dat (.str _) ((f0_str _ (by decide))).2.2)⟩, (fits0 (f0_str _ (by decide)) (by (first | (simp [PyData.bulk, PyData.bulkAll]; done) | decide | (simp [PyData.bulk, PyData.bulkAll]; decide))) (by simp [PyData.depth, PyData.depthAll])), by (first | rfl | exact inI_out (by unfold big; omega) | exact inI_out (by unfold big; simp only [e30_]; omega) | exact cb1 rfl | exact cb2 rfl | exact cb1 (inI_out (by omega)) | exact cb2 (inI_out (by omega)) | exact kb1 rfl | exact kb2 rfl | exact kb3 rfl | exact kb1 (inI_out (by omega)) | exact kb2 (inI_out (by omega)) | exact kb3 (inI_out (by omega)))⟩)
        (fmc (⟨_, (some [V.bl true, V.int c]), fun H3 o3 => ⟨⟨_, rfl, (q9 H3 o3), by show 2 ≤ 100; decide, (fmc (pl_bl _) (fmc (pl_int _) fmn))⟩, (.dat (.tup (SqT.of (q9 H3 o3)) (.cons (.bl _) (.cons (.int _) .nil))) ((f0_tup (fmc (f0_bl _) (fmc (f0_int (by unfold lim40; (first | omega | (simp only [e30_]; omega))) (by unfold lim40; (first | omega | (simp only [e30_]; omega)))) fmn)))).2.2)⟩, (fits0 (f0_tup (fmc (f0_bl _) (fmc (f0_int (by unfold lim40; (first | omega | (simp only [e30_]; omega))) (by unfold lim40; (first | omega | (simp only [e30_]; omega)))) fmn))) (by (first | (simp [PyData.bulk, PyData.bulkAll]; done) | decide | (simp [PyData.bulk, PyData.bulkAll]; decide))) (by simp [PyData.depth, PyData.depthAll])), by (first | rfl | exact inI_out (by unfold big; omega) | exact inI_out (by unfold big; simp only [e30_]; omega) | exact cb1 rfl | exact cb2 rfl | exact cb1 (inI_out (by omega)) | exact cb2 (inI_out (by omega)) | exact kb1 rfl | exact kb2 rfl | exact kb3 rfl | exact kb1 (inI_out (by omega)) | exact kb2 (inI_out (by omega)) | exact kb3 (inI_out (by omega)))⟩)
        (fmc (⟨_, (some [V.int r, V.bl false]), fun H3 o3 => ⟨⟨_, rfl, (q10 H3 o3), by show 2 ≤ 100; decide, (fmc (pl_int _) (fmc (pl_bl _) fmn))⟩, (.dat (.tup (SqT.of (q10 H3 o3)) (.cons (.int _) (.cons (.bl _) .nil))) ((f0_tup (fmc (f0_int (by unfold lim40; (first | omega | (simp only [e30_]; omega))) (by unfold lim40; (first | omega | (simp only [e30_]; omega)))) (fmc (f0_bl _) fmn)))).2.2)⟩, (fits0 (f0_tup (fmc (f0_int (by unfold lim40; (first | omega | (simp only [e30_]; omega))) (by unfold lim40; (first | omega | (simp only [e30_]; omega)))) (fmc (f0_bl _) fmn))) (by (first | (simp [PyData.bulk, PyData.bulkAll]; done) | decide | (simp [PyData.bulk, PyData.bulkAll]; decide))) (by simp [PyData.depth, PyData.depthAll])), by (first | rfl | exact inI_out (by unfold big; omega) | exact inI_out (by unfold big; simp only [e30_]; omega) | exact cb1 rfl | exact cb2 rfl | exact cb1 (inI_out (by omega)) | exact cb2 (inI_out (by omega)) | exact kb1 rfl | exact kb2 rfl | exact kb3 rfl | exact kb1 (inI_out (by omega)) | exact kb2 (inI_out (by omega)) | exact kb3 (inI_out (by omega)))⟩)
        (fmc (⟨_, (some [V.str "0", V.int c]), fun H3 o3 => ⟨⟨_, rfl, (q11 H3 o3), by show 2 ≤ 100; decide, (fmc (pl_str _) (fmc (pl_int _) fmn))⟩, (.dat (.tup (SqT.of (q11 H3 o3)) (.cons (.str _) (.cons (.int _) .nil))) ((f0_tup (fmc (f0_str _ (by decide)) (fmc (f0_int (by unfold lim40; (first | omega | (simp only [e30_]; omega))) (by unfold lim40; (first | omega | (simp only [e30_]; omega)))) fmn)))).2.2)⟩, (fits0 (f0_tup (fmc (f0_str _ (by decide)) (fmc (f0_int (by unfold lim40; (first | omega | (simp only [e30_]; omega))) (by unfold lim40; (first | omega | (simp only [e30_]; omega)))) fmn))) (by (first | (simp [PyData.bulk, PyData.bulkAll]; done) | decide | (simp [PyData.bulk, PyData.bulkAll]; decide))) (by simp [PyData.depth, PyData.depthAll])), by (first | rfl | exact inI_out (by unfold big; omega) | exact inI_out (by unfold big; simp only [e30_]; omega) | exact cb1 rfl | exact cb2 rfl | exact cb1 (inI_out (by omega)) | exact cb2 (inI_out (by omega)) | exact kb1 rfl | exact kb2 rfl | exact kb3 rfl | exact kb1 (inI_out (by omega)) | exact kb2 (inI_out (by omega)) | exact kb3 (inI_out (by omega)))⟩)
        (fmc (⟨_, (some [V.int r, V.non]), fun H3 o3 => ⟨⟨_, rfl, (q12 H3 o3), by show 2 ≤ 100; decide, (fmc (pl_int _) (fmc pl_non fmn))⟩, (.dat (.tup (SqT.of (q12 H3 o3)) (.cons (.int _) (.cons .non .nil))) ((f0_tup (fmc (f0_int (by unfold lim40; (first | omega | (simp only [e30_]; omega))) (by unfold lim40; (first | omega | (simp only [e30_]; omega)))) (fmc f0_non fmn)))).2.2)⟩, (fits0 (f0_tup (fmc (f0_int (by unfold lim40; (first | omega | (simp only [e30_]; omega))) (by unfold lim40; (first | omega | (simp only [e30_]; omega)))) (fmc f0_non fmn))) (by (first | (simp [PyData.bulk, PyData.bulkAll]; done) | decide | (simp [PyData.bulk, PyData.bulkAll]; decide))) (by simp [PyData.depth, PyData.depthAll])), by (first | rfl | exact inI_out (by unfold big; omega) | exact inI_out (by unfold big; simp only [e30_]; omega) | exact cb1 rfl | exact cb2 rfl | exact cb1 (inI_out (by omega)) | exact cb2 (inI_out (by omega)) | exact kb1 rfl | exact kb2 rfl | exact kb3 rfl | exact kb1 (inI_out (by omega)) | exact kb2 (inI_out (by omega)) | exact kb3 (inI_out (by omega)))⟩)
        (fmc (⟨_, (some [V.ref t13]), fun H3 o3 => ⟨⟨_, rfl, (q14 H3 o3), by show 1 ≤ 100; decide, (fmc (pl_tup (q13 H3 o3)) fmn)⟩, (.dat (.tup (SqT.of (q14 H3 o3)) (.cons (.tup (SqT.of (q13 H3 o3)) (.cons (.int _) (.cons (.int _) .nil))) .nil)) ((f0_tup (fmc (f0_tup (fmc (f0_int (by unfold lim40; (first | omega | (simp only [e30_]; omega))) (by unfold lim40; (first | omega | (simp only [e30_]; omega)))) (fmc (f0_int (by unfold lim40; (first | omega | (simp only [e30_]; omega))) (by unfold lim40; (first | omega | (simp only [e30_]; omega)))) fmn))) fmn))).2.2)⟩, (fits0 (f0_tup (fmc (f0_tup (fmc (f0_int (by unfold lim40; (first | omega | (simp only [e30_]; omega))) (by unfold lim40; (first | omega | (simp only [e30_]; omega)))) (fmc (f0_int (by unfold lim40; (first | omega | (simp only [e30_]; omega))) (by unfold lim40; (first | omega | (simp only [e30_]; omega)))) fmn))) fmn)) (by (first | (simp [PyData.bulk, PyData.bulkAll]; done) | decide | (simp [PyData.bulk, PyData.bulkAll]; decide))) (by simp [PyData.depth, PyData.depthAll])), by (first | rfl | exact inI_out (by unfold big; omega) | exact inI_out (by unfold big; simp only [e30_]; omega) | exact cb1 rfl | exact cb2 rfl | exact cb1 (inI_out (by omega)) | exact cb2 (inI_out (by omega)) | exact kb1 rfl | exact kb2 rfl | exact kb3 rfl | exact kb1 (inI_out (by omega)) | exact kb2 (inI_out (by omega)) | exact kb3 (inI_out (by omega)))⟩)
        (fmc (⟨_, (some [V.int r, V.ref t15]), fun H3 o3 => ⟨⟨_, rfl, (q16 H3 o3), by show 2 ≤ 100; decide, (fmc (pl_int _) (fmc (pl_lst (q15 H3 o3)) fmn))⟩, (.dat (.tup (SqT.of (q16 H3 o3)) (.cons (.int _) (.cons (.lst (SqL.of (q15 H3 o3)) (.cons (.int _) .nil)) .nil))) ((f0_tup (fmc (f0_int (by unfold lim40; (first | omega | (simp only [e30_]; omega))) (by unfold lim40; (first | omega | (simp only [e30_]; omega)))) (fmc (f0_lst (fmc (f0_int (by unfold lim40; (first | omega | (simp only [e30_]; omega))) (by unfold lim40; (first | omega | (simp only [e30_]; omega)))) fmn)) fmn)))).2.2)⟩, (fits0 (f0_tup (fmc (f0_int (by unfold lim40; (first | omega | (simp only [e30_]; omega))) (by unfold lim40; (first | omega | (simp only [e30_]; omega)))) (fmc (f0_lst (fmc (f0_int (by unfold lim40; (first | omega | (simp only [e30_]; omega))) (by unfold lim40; (first | omega | (simp only [e30_]; omega)))) fmn)) fmn))) (by (first | (simp [PyData.bulk, PyData.bulkAll]; done) | decide | (simp [PyData.bulk, PyData.bulkAll]; decide))) (by simp [PyData.depth, PyData.depthAll])), by (first | rfl | exact inI_out (by unfold big; omega) | exact inI_out (by unfold big; simp only [e30_]; omega) | exact cb1 rfl | exact cb2 rfl | exact cb1 (inI_out (by omega)) | exact cb2 (inI_out (by omega)) | exact kb1 rfl | exact kb2 rfl | exact kb3 rfl | exact kb1 (inI_out (by omega)) | exact kb2 (inI_out (by omega)) | exact kb3 (inI_out (by omega)))⟩)
        (fmc (⟨_, (some []), fun H3 o3 => ⟨⟨_, rfl, (q17 H3 o3), by show 0 ≤ 100; decide, fmn⟩, (.dat (.tup (SqT.of (q17 H3 o3)) .nil) ((f0_tup fmn)).2.2)⟩, (fits0 (f0_tup fmn) (by (first | (simp [PyData.bulk, PyData.bulkAll]; done) | decide | (simp [PyData.bulk, PyData.bulkAll]; decide))) (by simp [PyData.depth, PyData.depthAll])), by (first | rfl | exact inI_out (by unfold big; omega) | exact inI_out (by unfold big; simp only [e30_]; omega) | exact cb1 rfl | exact cb2 rfl | exact cb1 (inI_out (by omega)) | exact cb2 (inI_out (by omega)) | exact kb1 rfl | exact kb2 rfl | exact kb3 rfl | exact kb1 (inI_out (by omega)) | exact kb2 (inI_out (by omega)) | exact kb3 (inI_out (by omega)))⟩)
        (fmc (⟨_, (some [V.int (n + r), V.int c]), fun H3 o3 => ⟨⟨_, rfl, (q20 H3 o3), by show 2 ≤ 100; decide, (fmc (pl_int _) (fmc (pl_int _) fmn))⟩, (.dat (.tup (SqT.of (q20 H3 o3)) (.cons (.int _) (.cons (.int _) .nil))) ((f0_tup (fmc (f0_int (by unfold lim40; (first | omega | (simp only [e30_]; omega))) (by unfold lim40; (first | omega | (simp only [e30_]; omega)))) (fmc (f0_int (by unfold lim40; (first | omega | (simp only [e30_]; omega))) (by unfold lim40; (first | omega | (simp only [e30_]; omega)))) fmn)))).2.2)⟩, (fits0 (f0_tup (fmc (f0_int (by unfold lim40; (first | omega | (simp only [e30_]; omega))) (by unfold lim40; (first | omega | (simp only [e30_]; omega)))) (fmc (f0_int (by unfold lim40; (first | omega | (simp only [e30_]; omega))) (by unfold lim40; (first | omega | (simp only [e30_]; omega)))) fmn))) (by (first | (simp [PyData.bulk, PyData.bulkAll]; done) | decide | (simp [PyData.bulk, PyData.bulkAll]; decide))) (by simp [PyData.depth, PyData.depthAll])), by (first | rfl | exact inI_out (by unfold big; omega) | exact inI_out (by unfold big; simp only [e30_]; omega) | exact cb1 rfl | exact cb2 rfl | exact cb1 (inI_out (by omega)) | exact cb2 (inI_out (by omega)) | exact kb1 rfl | exact kb2 rfl | exact kb3 rfl | exact kb1 (inI_out (by omega)) | exact kb2 (inI_out (by omega)) | exact kb3 (inI_out (by omega)))⟩)
        (fmc (⟨_, (some [V.int r, V.int ((-1) - c)]), fun H3 o3 => ⟨⟨_, rfl, (q21 H3 o3), by show 2 ≤ 100; decide, (fmc (pl_int _) (fmc (pl_int _) fmn))⟩, (.dat (.tup (SqT.of (q21 H3 o3)) (.cons (.int _) (.cons (.int _) .nil))) ((f0_tup (fmc (f0_int (by unfold lim40; (first | omega | (simp only [e30_]; omega))) (by unfold lim40; (first | omega | (simp only [e30_]; omega)))) (fmc (f0_int (by unfold lim40; (first | omega | (simp only [e30_]; omega))) (by unfold lim40; (first | omega | (simp only [e30_]; omega)))) fmn)))).2.2)⟩, (fits0 (f0_tup (fmc (f0_int (by unfold lim40; (first | omega | (simp only [e30_]; omega))) (by unfold lim40; (first | omega | (simp only [e30_]; omega)))) (fmc (f0_int (by unfold lim40; (first | omega | (simp only [e30_]; omega))) (by unfold lim40; (first | omega | (simp only [e30_]; omega)))) fmn))) (by (first | (simp [PyData.bulk, PyData.bulkAll]; done) | decide | (simp [PyData.bulk, PyData.bulkAll]; decide))) (by simp [PyData.depth, PyData.depthAll])), by (first | rfl | exact inI_out (by unfold big; omega) | exact inI_out (by unfold big; simp only [e30_]; omega) | exact cb1 rfl | exact cb2 rfl | exact cb1 (inI_out (by omega)) | exact cb2 (inI_out (by omega)) | exact kb1 rfl | exact kb2 rfl | exact kb3 rfl | exact kb1 (inI_out (by omega)) | exact kb2 (inI_out (by omega)) | exact kb3 (inI_out (by omega)))⟩)
        (fmc (⟨_, none, fun H3 o3 => ⟨(tv_int _), (.dat (.int _) ((f0_int (by unfold lim40; (first | omega | (simp only [e30_]; omega))) (by unfold lim40; (first | omega | (simp only [e30_]; omega))))).2.2)⟩, (fits0 (f0_int (by unfold lim40; (first | omega | (simp only [e30_]; omega))) (by unfold lim40; (first | omega | (simp only [e30_]; omega)))) (by (first | (simp [PyData.bulk, PyData.bulkAll]; done) | decide | (simp [PyData.bulk, PyData.bulkAll]; decide))) (by simp [PyData.depth, PyData.depthAll])), by (first | rfl | exact inI_out (by unfold big; omega) | exact inI_out (by unfold big; simp only [e30_]; omega) | exact cb1 rfl | exact cb2 rfl | exact cb1 (inI_out (by omega)) | exact cb2 (inI_out (by omega)) | exact kb1 rfl | exact kb2 rfl | exact kb3 rfl | exact kb1 (inI_out (by omega)) | exact kb2 (inI_out (by omega)) | exact kb3 (inI_out (by omega)))⟩)
        (fmc (⟨_, none, fun H3 o3 => ⟨(tv_dK (q22 H3 o3)), (.emp (q22 H3 o3))⟩, fits_dict, by (first | rfl | exact inI_out (by unfold big; omega) | exact inI_out (by unfold big; simp only [e30_]; omega) | exact cb1 rfl | exact cb2 rfl | exact cb1 (inI_out (by omega)) | exact cb2 (inI_out (by omega)) | exact kb1 rfl | exact kb2 rfl | exact kb3 rfl | exact kb1 (inI_out (by omega)) | exact kb2 (inI_out (by omega)) | exact kb3 (inI_out (by omega)))⟩)
        (fmc (⟨_, none, fun H3 o3 => ⟨(tv_bl _), (.dat (.bl _) ((f0_bl _)).2.2)⟩, (fits0 (f0_bl _) (by (first | (simp [PyData.bulk, PyData.bulkAll]; done) | decide | (simp [PyData.bulk, PyData.bulkAll]; decide))) (by simp [PyData.depth, PyData.depthAll])), by (first | rfl | exact inI_out (by unfold big; omega) | exact inI_out (by unfold big; simp only [e30_]; omega) | exact cb1 rfl | exact cb2 rfl | exact cb1 (inI_out (by omega)) | exact cb2 (inI_out (by omega)) | exact kb1 rfl | exact kb2 rfl | exact kb3 rfl | exact kb1 (inI_out (by omega)) | exact kb2 (inI_out (by omega)) | exact kb3 (inI_out (by omega)))⟩)
        fmn)))))))))))))))))))))
    obtain ⟨d, cc, g1, g2, g3⟩ := all _ (List.getElem_mem hj)
    exact q _ d cc H2 g1 g2 g3 hp' ((Same.off sA).trans o2)
end
end Sq
namespace Sq
open PySem L2 TL
section
variable {P : Program} {w : World} {K : PySem.W.Frag} {mg : Str → Option Value} {base : Heap}
abbrev s__law_oddkind : Stmt := top 34
theorem sc__law_oddkind : FnScope ["_law_purl_here", "_law_odd"] ["_law_purl_here"] (defScope s__law_oddkind) := ⟨rfl, rfl, rfl, by decide +kernel, rfl, by decide +kernel, by decide +kernel⟩
theorem ok__law_oddkind {f : Addr} {fd : FuncData} (F : Fun K "_law_oddkind" "_law_oddkind" s__law_oddkind f fd) (T : Bt mg) (G__law_dig : FB P w K mg base "_law_dig" 1 ["_law_purl_here", "_law_many"] spDig) : FnOk P w K mg base CX0 2 f fd ["_law_purl_here"] (spOddK K) := by
  refine F.ok sc__law_oddkind (fun vs H Q E h => ?_) (fun cdv A outer s H vs Q E hr h => ?_)
  · obtain ⟨p, rfl, _⟩ := h
    rfl
  · obtain ⟨p, rfl, hp, q⟩ := h
    refine ⟨_, (pss_cons (ps_set (i := 1) sc__law_oddkind.nd rfl (by first | exact .inl rfl | exact .inr rfl) (pe_lst (pa_cons (pe_tup (pa_cons pe_int (pa_cons pe_int (pa_cons pe_int pa_nil)))) (pa_cons (pe_tup (pa_cons pe_int (pa_cons pe_int (pa_cons pe_int pa_nil)))) (pa_cons (pe_tup (pa_cons pe_int (pa_cons pe_int (pa_cons pe_int pa_nil)))) (pa_cons (pe_tup (pa_cons (pe_un un_neg pe_int) (pa_cons pe_int (pa_cons pe_int pa_nil)))) (pa_cons (pe_tup (pa_cons pe_int (pa_cons (pe_un un_neg pe_int) (pa_cons pe_int pa_nil)))) (pa_cons (pe_tup (pa_cons pe_int (pa_cons pe_int (pa_cons (pe_un un_neg pe_int) pa_nil)))) (pa_cons (pe_tup (pa_cons pe_bl (pa_cons pe_int (pa_cons pe_int pa_nil)))) (pa_cons (pe_tup (pa_cons pe_int (pa_cons pe_bl (pa_cons pe_int pa_nil)))) (pa_cons (pe_tup (pa_cons pe_int (pa_cons pe_int pa_nil))) pa_nil)))))))))))
        (pss_cons (ps_set (i := 1) sc__law_oddkind.nd rfl (by first | exact .inl rfl | exact .inr rfl) (pe_op op_cat (pv 1) (pe_lst (pa_cons (pe_tup (pa_cons pe_int (pa_cons pe_int (pa_cons pe_int (pa_cons pe_int pa_nil))))) (pa_cons (pe_lst (pa_cons pe_int (pa_cons pe_int (pa_cons pe_int pa_nil)))) (pa_cons pe_non (pa_cons pe_str (pa_cons pe_int (pa_cons (pe_tup pa_nil) (pa_cons (pe_tup (pa_cons pe_str (pa_cons pe_int (pa_cons pe_int pa_nil)))) (pa_cons (pe_tup (pa_cons (pe_lst (pa_cons pe_int pa_nil)) (pa_cons pe_int (pa_cons pe_int pa_nil)))) (pa_cons pe_dnewK (pa_cons (pe_tup (pa_cons pe_int (pa_cons pe_bl (pa_cons pe_bl pa_nil)))) pa_nil)))))))))))))
        (pss_one (ps_ret (pe_ix ix_list (pv 1) (pe_fb G__law_dig hr (by decide) (by rfl) (pa_cons (pv 0) (pa_cons (pe_callB call_len_seq (by rfl) T.len PySem.boot_len (pa_cons (pv 1) pa_nil)) pa_nil))) (fun _ _ => rfl)))))), ?_⟩
    refine ⟨by show 3 ≤ sizeLine; decide, fun t1 nt1 => ?_⟩
    obtain ⟨s1, h1⟩ := new_at (o := .tup [V.int 2, V.int 0, V.int 0]) nt1
    refine ⟨by show 3 ≤ sizeLine; decide, fun t2 nt2 => ?_⟩
    obtain ⟨s2, h2⟩ := new_at (o := .tup [V.int 0, V.int 3, V.int 0]) nt2
    refine ⟨by show 3 ≤ sizeLine; decide, fun t3 nt3 => ?_⟩
    obtain ⟨s3, h3⟩ := new_at (o := .tup [V.int 0, V.int 0, V.int 4]) nt3
    refine ⟨_, rfl, ?_⟩
    refine ⟨by show 3 ≤ sizeLine; decide, fun t4 nt4 => ?_⟩
    obtain ⟨s4, h4⟩ := new_at (o := .tup [V.int (-1), V.int 0, V.int 0]) nt4
    refine ⟨_, rfl, ?_⟩
    refine ⟨by show 3 ≤ sizeLine; decide, fun t5 nt5 => ?_⟩
    obtain ⟨s5, h5⟩ := new_at (o := .tup [V.int 0, V.int (-1), V.int 0]) nt5
    refine ⟨_, rfl, ?_⟩
    refine ⟨by show 3 ≤ sizeLine; decide, fun t6 nt6 => ?_⟩
    obtain ⟨s6, h6⟩ := new_at (o := .tup [V.int 0, V.int 0, V.int (-1)]) nt6
    refine ⟨by show 3 ≤ sizeLine; decide, fun t7 nt7 => ?_⟩
    obtain ⟨s7, h7⟩ := new_at (o := .tup [V.bl true, V.int 0, V.int 0]) nt7
    refine ⟨by show 3 ≤ sizeLine; decide, fun t8 nt8 => ?_⟩
    obtain ⟨s8, h8⟩ := new_at (o := .tup [V.int 0, V.bl false, V.int 0]) nt8
    refine ⟨by show 2 ≤ sizeLine; decide, fun t9 nt9 => ?_⟩
    obtain ⟨s9, h9⟩ := new_at (o := .tup [V.int 0, V.int 0]) nt9
    refine ⟨by show 9 ≤ sizeLine; decide, fun t10 nt10 => ?_⟩
    obtain ⟨s10, h10⟩ := new_at (o := .lst [V.ref t1, V.ref t2, V.ref t3, V.ref t4, V.ref t5, V.ref t6, V.ref t7, V.ref t8, V.ref t9]) nt10
    refine ⟨_, rfl, ?_⟩
    refine ⟨by show 4 ≤ sizeLine; decide, fun t11 nt11 => ?_⟩
    obtain ⟨s11, h11⟩ := new_at (o := .tup [V.int 0, V.int 0, V.int 0, V.int 0]) nt11
    refine ⟨by show 3 ≤ sizeLine; decide, fun t12 nt12 => ?_⟩
    obtain ⟨s12, h12⟩ := new_at (o := .lst [V.int 0, V.int 0, V.int 0]) nt12
    refine ⟨by show 0 ≤ sizeLine; decide, fun t13 nt13 => ?_⟩
    obtain ⟨s13, h13⟩ := new_at (o := .tup []) nt13
    refine ⟨by show 3 ≤ sizeLine; decide, fun t14 nt14 => ?_⟩
    obtain ⟨s14, h14⟩ := new_at (o := .tup [V.str "0", V.int 0, V.int 0]) nt14
    refine ⟨by show 1 ≤ sizeLine; decide, fun t15 nt15 => ?_⟩
    obtain ⟨s15, h15⟩ := new_at (o := .lst [V.int 0]) nt15
    refine ⟨by show 3 ≤ sizeLine; decide, fun t16 nt16 => ?_⟩
    obtain ⟨s16, h16⟩ := new_at (o := .tup [V.ref t15, V.int 0, V.int 0]) nt16
    intro t17 nt17
    obtain ⟨s17, h17⟩ := new_at (o := .dK []) nt17
    refine ⟨by show 3 ≤ sizeLine; decide, fun t18 nt18 => ?_⟩
    obtain ⟨s18, h18⟩ := new_at (o := .tup [V.int 0, V.bl true, V.bl true]) nt18
    refine ⟨by show 10 ≤ sizeLine; decide, fun t19 nt19 => ?_⟩
    obtain ⟨s19, h19⟩ := new_at (o := .lst [V.ref t11, V.ref t12, V.non, V.str "000", V.int 0, V.ref t13, V.ref t14, V.ref t16, V.ref t17, V.ref t18]) nt19
    refine ⟨t10, t19, [V.ref t1, V.ref t2, V.ref t3, V.ref t4, V.ref t5, V.ref t6, V.ref t7, V.ref t8, V.ref t9], [V.ref t11, V.ref t12, V.non, V.str "000", V.int 0, V.ref t13, V.ref t14, V.ref t16, V.ref t17, V.ref t18], rfl, rfl, (s19 _ _ (s18 _ _ (s17 _ _ (s16 _ _ (s15 _ _ (s14 _ _ (s13 _ _ (s12 _ _ (s11 _ _ h10))))))))), h19, by show 19 ≤ sizeLine; decide, fun t20 nt20 => ?_⟩
    obtain ⟨s20, h20⟩ := new_at (o := .lst ([V.ref t1, V.ref t2, V.ref t3, V.ref t4, V.ref t5, V.ref t6, V.ref t7, V.ref t8, V.ref t9] ++ [V.ref t11, V.ref t12, V.non, V.str "000", V.int 0, V.ref t13, V.ref t14, V.ref t16, V.ref t17, V.ref t18])) nt20
    obtain ⟨pm, pd, hpe⟩ := hp
    have hp0 := hpe
    have hp1 := s1 _ _ hp0
    have hp2 := s2 _ _ hp1
    have hp3 := s3 _ _ hp2
    have hp4 := s4 _ _ hp3
    have hp5 := s5 _ _ hp4
    have hp6 := s6 _ _ hp5
    have hp7 := s7 _ _ hp6
    have hp8 := s8 _ _ hp7
    have hp9 := s9 _ _ hp8
    have hp10 := s10 _ _ hp9
    have hp11 := s11 _ _ hp10
    have hp12 := s12 _ _ hp11
    have hp13 := s13 _ _ hp12
    have hp14 := s14 _ _ hp13
    have hp15 := s15 _ _ hp14
    have hp16 := s16 _ _ hp15
    have hp17 := s17 _ _ hp16
    have hp18 := s18 _ _ hp17
    have hp19 := s19 _ _ hp18
    have hp20 := s20 _ _ hp19
    have n1 : t1 ≠ p := fun e => by rw [e, hp0] at nt1; cases nt1
    have n2 : t2 ≠ p := fun e => by rw [e, hp1] at nt2; cases nt2
    have n3 : t3 ≠ p := fun e => by rw [e, hp2] at nt3; cases nt3
    have n4 : t4 ≠ p := fun e => by rw [e, hp3] at nt4; cases nt4
    have n5 : t5 ≠ p := fun e => by rw [e, hp4] at nt5; cases nt5
    have n6 : t6 ≠ p := fun e => by rw [e, hp5] at nt6; cases nt6
    have n7 : t7 ≠ p := fun e => by rw [e, hp6] at nt7; cases nt7
    have n8 : t8 ≠ p := fun e => by rw [e, hp7] at nt8; cases nt8
    have n9 : t9 ≠ p := fun e => by rw [e, hp8] at nt9; cases nt9
    have n10 : t10 ≠ p := fun e => by rw [e, hp9] at nt10; cases nt10
    have n11 : t11 ≠ p := fun e => by rw [e, hp10] at nt11; cases nt11
    have n12 : t12 ≠ p := fun e => by rw [e, hp11] at nt12; cases nt12
    have n13 : t13 ≠ p := fun e => by rw [e, hp12] at nt13; cases nt13
    have n14 : t14 ≠ p := fun e => by rw [e, hp13] at nt14; cases nt14
    have n15 : t15 ≠ p := fun e => by rw [e, hp14] at nt15; cases nt15
    have n16 : t16 ≠ p := fun e => by rw [e, hp15] at nt16; cases nt16
    have n17 : t17 ≠ p := fun e => by rw [e, hp16] at nt17; cases nt17
    have n18 : t18 ≠ p := fun e => by rw [e, hp17] at nt18; cases nt18
    have n19 : t19 ≠ p := fun e => by rw [e, hp18] at nt19; cases nt19
    have n20 : t20 ≠ p := fun e => by rw [e, hp19] at nt20; cases nt20
    refine ⟨_, rfl, _, rfl, _, rfl, t20, _, rfl, .inl (SqL.of h20), p, 19, rfl, ⟨pm, pd, hp20⟩, by decide, by decide, fun r1 H2 ra rb hp' o2 => ?_⟩
    obtain ⟨j, rfl⟩ := Int.eq_ofNat_of_zero_le ra
    have hj : j < 19 := by omega
    refine ⟨t20, ([V.ref t1, V.ref t2, V.ref t3, V.ref t4, V.ref t5, V.ref t6, V.ref t7, V.ref t8, V.ref t9] ++ [V.ref t11, V.ref t12, V.non, V.str "000", V.int 0, V.ref t13, V.ref t14, V.ref t16, V.ref t17, V.ref t18]), _, _, rfl, rfl, SqL.of (o2 t20 _ n20 h20), atI_nat (List.getElem?_eq_getElem (show j < List.length ([V.ref t1, V.ref t2, V.ref t3, V.ref t4, V.ref t5, V.ref t6, V.ref t7, V.ref t8, V.ref t9] ++ [V.ref t11, V.ref t12, V.non, V.str "000", V.int 0, V.ref t13, V.ref t14, V.ref t16, V.ref t17, V.ref t18]) from hj)), ?_⟩
    have sA : Same H _ := (s1.trans (s2.trans (s3.trans (s4.trans (s5.trans (s6.trans (s7.trans (s8.trans (s9.trans (s10.trans (s11.trans (s12.trans (s13.trans (s14.trans (s15.trans (s16.trans (s17.trans (s18.trans (s19.trans s20)))))))))))))))))))
    have all : ∀ v ∈ ([V.ref t1, V.ref t2, V.ref t3, V.ref t4, V.ref t5, V.ref t6, V.ref t7, V.ref t8, V.ref t9] ++ [V.ref t11, V.ref t12, V.non, V.str "000", V.int 0, V.ref t13, V.ref t14, V.ref t16, V.ref t17, V.ref t18]), ∃ d cc, (∀ H3, Off p H2 H3 → TupV K H3 v cc ∧ Sh K H3 v d) ∧ Fits d ∧ kindB cc = false := by
      have e30 : ((10 : Int) ^ (30 : Int).toNat) = 1000000000000000000000000000000 := by decide
      have q1 : ∀ H3, Off p H2 H3 → H3 t1 = _ := fun H3 o3 => (o2.trans o3) t1 _ n1 (s20 _ _ (s19 _ _ (s18 _ _ (s17 _ _ (s16 _ _ (s15 _ _ (s14 _ _ (s13 _ _ (s12 _ _ (s11 _ _ (s10 _ _ (s9 _ _ (s8 _ _ (s7 _ _ (s6 _ _ (s5 _ _ (s4 _ _ (s3 _ _ (s2 _ _ h1)))))))))))))))))))
      have q2 : ∀ H3, Off p H2 H3 → H3 t2 = _ := fun H3 o3 => (o2.trans o3) t2 _ n2 (s20 _ _ (s19 _ _ (s18 _ _ (s17 _ _ (s16 _ _ (s15 _ _ (s14 _ _ (s13 _ _ (s12 _ _ (s11 _ _ (s10 _ _ (s9 _ _ (s8 _ _ (s7 _ _ (s6 _ _ (s5 _ _ (s4 _ _ (s3 _ _ h2))))))))))))))))))
      have q3 : ∀ H3, Off p H2 H3 → H3 t3 = _ := fun H3 o3 => (o2.trans o3) t3 _ n3 (s20 _ _ (s19 _ _ (s18 _ _ (s17 _ _ (s16 _ _ (s15 _ _ (s14 _ _ (s13 _ _ (s12 _ _ (s11 _ _ (s10 _ _ (s9 _ _ (s8 _ _ (s7 _ _ (s6 _ _ (s5 _ _ (s4 _ _ h3)))))))))))))))))
      have q4 : ∀ H3, Off p H2 H3 → H3 t4 = _ := fun H3 o3 => (o2.trans o3) t4 _ n4 (s20 _ _ (s19 _ _ (s18 _ _ (s17 _ _ (s16 _ _ (s15 _ _ (s14 _ _ (s13 _ _ (s12 _ _ (s11 _ _ (s10 _ _ (s9 _ _ (s8 _ _ (s7 _ _ (s6 _ _ (s5 _ _ h4))))))))))))))))
      have q5 : ∀ H3, Off p H2 H3 → H3 t5 = _ := fun H3 o3 => (o2.trans o3) t5 _ n5 (s20 _ _ (s19 _ _ (s18 _ _ (s17 _ _ (s16 _ _ (s15 _ _ (s14 _ _ (s13 _ _ (s12 _ _ (s11 _ _ (s10 _ _ (s9 _ _ (s8 _ _ (s7 _ _ (s6 _ _ h5)))))))))))))))
      have q6 : ∀ H3, Off p H2 H3 → H3 t6 = _ := fun H3 o3 => (o2.trans o3) t6 _ n6 (s20 _ _ (s19 _ _ (s18 _ _ (s17 _ _ (s16 _ _ (s15 _ _ (s14 _ _ (s13 _ _ (s12 _ _ (s11 _ _ (s10 _ _ (s9 _ _ (s8 _ _ (s7 _ _ h6))))))))))))))
      have q7 : ∀ H3, Off p H2 H3 → H3 t7 = _ := fun H3 o3 => (o2.trans o3) t7 _ n7 (s20 _ _ (s19 _ _ (s18 _ _ (s17 _ _ (s16 _ _ (s15 _ _ (s14 _ _ (s13 _ _ (s12 _ _ (s11 _ _ (s10 _ _ (s9 _ _ (s8 _ _ h7)))))))))))))
      have q8 : ∀ H3, Off p H2 H3 → H3 t8 = _ := fun H3 o3 => (o2.trans o3) t8 _ n8 (s20 _ _ (s19 _ _ (s18 _ _ (s17 _ _ (s16 _ _ (s15 _ _ (s14 _ _ (s13 _ _ (s12 _ _ (s11 _ _ (s10 _ _ (s9 _ _ h8))))))))))))
      have q9 : ∀ H3, Off p H2 H3 → H3 t9 = _ := fun H3 o3 => (o2.trans o3) t9 _ n9 (s20 _ _ (s19 _ _ (s18 _ _ (s17 _ _ (s16 _ _ (s15 _ _ (s14 _ _ (s13 _ _ (s12 _ _ (s11 _ _ (s10 _ _ h9)))))))))))
      have q11 : ∀ H3, Off p H2 H3 → H3 t11 = _ := fun H3 o3 => (o2.trans o3) t11 _ n11 (s20 _ _ (s19 _ _ (s18 _ _ (s17 _ _ (s16 _ _ (s15 _ _ (s14 _ _ (s13 _ _ (s12 _ _ h11)))))))))
      have q12 : ∀ H3, Off p H2 H3 → H3 t12 = _ := fun H3 o3 => (o2.trans o3) t12 _ n12 (s20 _ _ (s19 _ _ (s18 _ _ (s17 _ _ (s16 _ _ (s15 _ _ (s14 _ _ (s13 _ _ h12))))))))
      have q13 : ∀ H3, Off p H2 H3 → H3 t13 = _ := fun H3 o3 => (o2.trans o3) t13 _ n13 (s20 _ _ (s19 _ _ (s18 _ _ (s17 _ _ (s16 _ _ (s15 _ _ (s14 _ _ h13)))))))
      have q14 : ∀ H3, Off p H2 H3 → H3 t14 = _ := fun H3 o3 => (o2.trans o3) t14 _ n14 (s20 _ _ (s19 _ _ (s18 _ _ (s17 _ _ (s16 _ _ (s15 _ _ h14))))))
      have q15 : ∀ H3, Off p H2 H3 → H3 t15 = _ := fun H3 o3 => (o2.trans o3) t15 _ n15 (s20 _ _ (s19 _ _ (s18 _ _ (s17 _ _ (s16 _ _ h15)))))
      have q16 : ∀ H3, Off p H2 H3 → H3 t16 = _ := fun H3 o3 => (o2.trans o3) t16 _ n16 (s20 _ _ (s19 _ _ (s18 _ _ (s17 _ _ h16))))
      have q17 : ∀ H3, Off p H2 H3 → H3 t17 = _ := fun H3 o3 => (o2.trans o3) t17 _ n17 (s20 _ _ (s19 _ _ (s18 _ _ h17)))
      have q18 : ∀ H3, Off p H2 H3 → H3 t18 = _ := fun H3 o3 => (o2.trans o3) t18 _ n18 (s20 _ _ (s19 _ _ h18))
      exact (fmc (⟨_, (some [V.int 2, V.int 0, V.int 0]), fun H3 o3 => ⟨⟨_, rfl, (q1 H3 o3), by show 3 ≤ 100; decide, (fmc (pl_int _) (fmc (pl_int _) (fmc (pl_int _) fmn)))⟩, (.dat (.tup (SqT.of (q1 H3 o3)) (.cons (.int _) (.cons (.int _) (.cons (.int _) .nil)))) ((f0_tup (fmc (f0_int (by unfold lim40; (first | omega | (simp only [e30_]; omega))) (by unfold lim40; (first | omega | (simp only [e30_]; omega)))) (fmc (f0_int (by unfold lim40; (first | omega | (simp only [e30_]; omega))) (by unfold lim40; (first | omega | (simp only [e30_]; omega)))) (fmc (f0_int (by unfold lim40; (first | omega | (simp only [e30_]; omega))) (by unfold lim40; (first | omega | (simp only [e30_]; omega)))) fmn))))).2.2)⟩, (fits0 (f0_tup (fmc (f0_int (by unfold lim40; (first | omega | (simp only [e30_]; omega))) (by unfold lim40; (first | omega | (simp only [e30_]; omega)))) (fmc (f0_int (by unfold lim40; (first | omega | (simp only [e30_]; omega))) (by unfold lim40; (first | omega | (simp only [e30_]; omega)))) (fmc (f0_int (by unfold lim40; (first | omega | (simp only [e30_]; omega))) (by unfold lim40; (first | omega | (simp only [e30_]; omega)))) fmn)))) (by (first | (simp [PyData.bulk, PyData.bulkAll]; done) | decide | (simp [PyData.bulk, PyData.bulkAll]; decide))) (by simp [PyData.depth, PyData.depthAll])), by (first | rfl | exact inI_out (by unfold big; omega) | exact inI_out (by unfold big; simp only [e30_]; omega) | exact cb1 rfl | exact cb2 rfl | exact cb1 (inI_out (by omega)) | exact cb2 (inI_out (by omega)) | exact kb1 rfl | exact kb2 rfl | exact kb3 rfl | exact kb1 (inI_out (by omega)) | exact kb2 (inI_out (by omega)) | exact kb3 (inI_out (by omega)))⟩)
        (fmc (⟨_, (some [V.int 0, V.int 3, V.int 0]), fun H3 o3 => ⟨⟨_, rfl, (q2 H3 o3), by show 3 ≤ 100; decide, (fmc (pl_int _) (fmc (pl_int _) (fmc (pl_int _) fmn)))⟩, (.dat (.tup (SqT.of (q2 H3 o3)) (.cons (.int _) (.cons (.int _) (.cons (.int _) .nil)))) ((f0_tup (fmc (f0_int (by unfold lim40; (first | omega | (simp only [e30_]; omega))) (by unfold lim40; (first | omega | (simp only [e30_]; omega)))) (fmc (f0_int (by unfold lim40; (first | omega | (simp only [e30_]; omega))) (by unfold lim40; (first | omega | (simp only [e30_]; omega)))) (fmc (f0_int (by unfold lim40; (first | omega | (simp only [e30_]; omega))) (by unfold lim40; (first | omega | (simp only [e30_]; omega)))) fmn))))).2.2)⟩, (fits0 (f0_tup (fmc (f0_int (by unfold lim40; (first | omega | (simp only [e30_]; omega))) (by unfold lim40; (first | omega | (simp only [e30_]; omega)))) (fmc (f0_int (by unfold lim40; (first | omega | (simp only [e30_]; omega))) (by unfold lim40; (first | omega | (simp only [e30_]; omega)))) (fmc (f0_int (by unfold lim40; (first | omega | (simp only [e30_]; omega))) (by unfold lim40; (first | omega | (simp only [e30_]; omega)))) fmn)))) (by (first | (simp [PyData.bulk, PyData.bulkAll]; done) | decide | (simp [PyData.bulk, PyData.bulkAll]; decide))) (by simp [PyData.depth, PyData.depthAll])), by (first | rfl | exact inI_out (by unfold big; omega) | exact inI_out (by unfold big; simp only [e30_]; omega) | exact cb1 rfl | exact cb2 rfl | exact cb1 (inI_out (by omega)) | exact cb2 (inI_out (by omega)) | exact kb1 rfl | exact kb2 rfl | exact kb3 rfl | exact kb1 (inI_out (by omega)) | exact kb2 (inI_out (by omega)) | exact kb3 (inI_out (by omega)))⟩)
        (fmc (⟨_, (some [V.int 0, V.int 0, V.int 4]), fun H3 o3 => ⟨⟨_, rfl, (q3 H3 o3), by show 3 ≤ 100; decide, (fmc (pl_int _) (fmc (pl_int _) (fmc (pl_int _) fmn)))⟩, (.dat (.tup (SqT.of (q3 H3 o3)) (.cons (.int _) (.cons (.int _) (.cons (.int _) .nil)))) ((f0_tup (fmc (f0_int (by unfold lim40; (first | omega | (simp only [e30_]; omega))) (by unfold lim40; (first | omega | (simp only [e30_]; omega)))) (fmc (f0_int (by unfold lim40; (first | omega | (simp only [e30_]; omega))) (by unfold lim40; (first | omega | (simp only [e30_]; omega)))) (fmc (f0_int (by unfold lim40; (first | omega | (simp only [e30_]; omega))) (by unfold lim40; (first | omega | (simp only [e30_]; omega)))) fmn))))).2.2)⟩, (fits0 (f0_tup (fmc (f0_int (by unfold lim40; (first | omega | (simp only [e30_]; omega))) (by unfold lim40; (first | omega | (simp only [e30_]; omega)))) (fmc (f0_int (by unfold lim40; (first | omega | (simp only [e30_]; omega))) (by unfold lim40; (first | omega | (simp only [e30_]; omega)))) (fmc (f0_int (by unfold lim40; (first | omega | (simp only [e30_]; omega))) (by unfold lim40; (first | omega | (simp only [e30_]; omega)))) fmn)))) (by (first | (simp [PyData.bulk, PyData.bulkAll]; done) | decide | (simp [PyData.bulk, PyData.bulkAll]; decide))) (by simp [PyData.depth, PyData.depthAll])), by (first | rfl | exact inI_out (by unfold big; omega) | exact inI_out (by unfold big; simp only [e30_]; omega) | exact cb1 rfl | exact cb2 rfl | exact cb1 (inI_out (by omega)) | exact cb2 (inI_out (by omega)) | exact kb1 rfl | exact kb2 rfl | exact kb3 rfl | exact kb1 (inI_out (by omega)) | exact kb2 (inI_out (by omega)) | exact kb3 (inI_out (by omega)))⟩)
        (fmc (⟨_, (some [V.int (-1), V.int 0, V.int 0]), fun H3 o3 => ⟨⟨_, rfl, (q4 H3 o3), by show 3 ≤ 100; decide, (fmc (pl_int _) (fmc (pl_int _) (fmc (pl_int _) fmn)))⟩, (.dat (.tup (SqT.of (q4 H3 o3)) (.cons (.int _) (.cons (.int _) (.cons (.int _) .nil)))) ((f0_tup (fmc (f0_int (by unfold lim40; (first | omega | (simp only [e30_]; omega))) (by unfold lim40; (first | omega | (simp only [e30_]; omega)))) (fmc (f0_int (by unfold lim40; (first | omega | (simp only [e30_]; omega))) (by unfold lim40; (first | omega | (simp only [e30_]; omega)))) (fmc (f0_int (by unfold lim40; (first | omega | (simp only [e30_]; omega))) (by unfold lim40; (first | omega | (simp only [e30_]; omega)))) fmn))))).2.2)⟩, (fits0 (f0_tup (fmc (f0_int (by unfold lim40; (first | omega | (simp only [e30_]; omega))) (by unfold lim40; (first | omega | (simp only [e30_]; omega)))) (fmc (f0_int (by unfold lim40; (first | omega | (simp only [e30_]; omega))) (by unfold lim40; (first | omega | (simp only [e30_]; omega)))) (fmc (f0_int (by unfold lim40; (first | omega | (simp only [e30_]; omega))) (by unfold lim40; (first | omega | (simp only [e30_]; omega)))) fmn)))) (by (first | (simp [PyData.bulk, PyData.bulkAll]; done) | decide | (simp [PyData.bulk, PyData.bulkAll]; decide))) (by simp [PyData.depth, PyData.depthAll])), by (first | rfl | exact inI_out (by unfold big; omega) | exact inI_out (by unfold big; simp only [e30_]; omega) | exact cb1 rfl | exact cb2 rfl | exact cb1 (inI_out (by omega)) | exact cb2 (inI_out (by omega)) | exact kb1 rfl | exact kb2 rfl | exact kb3 rfl | exact kb1 (inI_out (by omega)) | exact kb2 (inI_out (by omega)) | exact kb3 (inI_out (by omega)))⟩)
        (fmc (⟨_, (some [V.int 0, V.int (-1), V.int 0]), fun H3 o3 => ⟨⟨_, rfl, (q5 H3 o3), by show 3 ≤ 100; decide, (fmc (pl_int _) (fmc (pl_int _) (fmc (pl_int _) fmn)))⟩, (.dat (.tup (SqT.of (q5 H3 o3)) (.cons (.int _) (.cons (.int _) (.cons (.int _) .nil)))) ((f0_tup (fmc (f0_int (by unfold lim40; (first | omega | (simp only [e30_]; omega))) (by unfold lim40; (first | omega | (simp only [e30_]; omega)))) (fmc (f0_int (by unfold lim40; (first | omega | (simp only [e30_]; omega))) (by unfold lim40; (first | omega | (simp only [e30_]; omega)))) (fmc (f0_int (by unfold lim40; (first | omega | (simp only [e30_]; omega))) (by unfold lim40; (first | omega | (simp only [e30_]; omega)))) fmn))))).2.2)⟩, (fits0 (f0_tup (fmc (f0_int (by unfold lim40; (first | omega | (simp only [e30_]; omega))) (by unfold lim40; (first | omega | (simp only [e30_]; omega)))) (fmc (f0_int (by unfold lim40; (first | omega | (simp only [e30_]; omega))) (by unfold lim40; (first | omega | (simp only [e30_]; omega)))) (fmc (f0_int (by unfold lim40; (first | omega | (simp only [e30_]; omega))) (by unfold lim40; (first | omega | (simp only [e30_]; omega)))) fmn)))) (by (first | (simp [PyData.bulk, PyData.bulkAll]; done) | decide | (simp [PyData.bulk, PyData.bulkAll]; decide))) (by simp [PyData.depth, PyData.depthAll])), by (first | rfl | exact inI_out (by unfold big; omega) | exact inI_out (by unfold big; simp only [e30_]; omega) | exact cb1 rfl | exact cb2 rfl | exact cb1 (inI_out (by omega)) | exact cb2 (inI_out (by omega)) | exact kb1 rfl | exact kb2 rfl | exact kb3 rfl | exact kb1 (inI_out (by omega)) | exact kb2 (inI_out (by omega)) | exact kb3 (inI_out (by omega)))⟩)
        (fmc (⟨_, (some [V.int 0, V.int 0, V.int (-1)]), fun H3 o3 => ⟨⟨_, rfl, (q6 H3 o3), by show 3 ≤ 100; decide, (fmc (pl_int _) (fmc (pl_int _) (fmc (pl_int _) fmn)))⟩, (.dat (.tup (SqT.of (q6 H3 o3)) (.cons (.int _) (.cons (.int _) (.cons (.int _) .nil)))) ((f0_tup (fmc (f0_int (by unfold lim40; (first | omega | (simp only [e30_]; omega))) (by unfold lim40; (first | omega | (simp only [e30_]; omega)))) (fmc (f0_int (by unfold lim40; (first | omega | (simp only [e30_]; omega))) (by unfold lim40; (first | omega | (simp only [e30_]; omega)))) (fmc (f0_int (by unfold lim40; (first | omega | (simp only [e30_]; omega))) (by unfold lim40; (first | omega | (simp only [e30_]; omega)))) fmn))))).2.2)⟩, (fits0 (f0_tup (fmc (f0_int (by unfold lim40; (first | omega | (simp only [e30_]; omega))) (by unfold lim40; (first | omega | (simp only [e30_]; omega)))) (fmc (f0_int (by unfold lim40; (first | omega | (simp only [e30_]; omega))) (by unfold lim40; (first | omega | (simp only [e30_]; omega)))) (fmc (f0_int (by unfold lim40; (first | omega | (simp only [e30_]; omega))) (by unfold lim40; (first | omega | (simp only [e30_]; omega)))) fmn)))) (by (first | (simp [PyData.bulk, PyData.bulkAll]; done) | decide | (simp [PyData.bulk, PyData.bulkAll]; decide))) (by simp [PyData.depth, PyData.depthAll])), by (first | rfl | exact inI_out (by unfold big; omega) | exact inI_out (by unfold big; simp only [e30_]; omega) | exact cb1 rfl | exact cb2 rfl | exact cb1 (inI_out (by omega)) | exact cb2 (inI_out (by omega)) | exact kb1 rfl | exact kb2 rfl | exact kb3 rfl | exact kb1 (inI_out (by omega)) | exact kb2 (inI_out (by omega)) | exact kb3 (inI_out (by omega)))⟩)
        (fmc (⟨_, (some [V.bl true, V.int 0, V.int 0]), fun H3 o3 => ⟨⟨_, rfl, (q7 H3 o3), by show 3 ≤ 100; decide, (fmc (pl_bl _) (fmc (pl_int _) (fmc (pl_int _) fmn)))⟩, (.dat (.tup (SqT.of (q7 H3 o3)) (.cons (.bl _) (.cons (.int _) (.cons (.int _) .nil)))) ((f0_tup (fmc (f0_bl _) (fmc (f0_int (by unfold lim40; (first | omega | (simp only [e30_]; omega))) (by unfold lim40; (first | omega | (simp only [e30_]; omega)))) (fmc (f0_int (by unfold lim40; (first | omega | (simp only [e30_]; omega))) (by unfold lim40; (first | omega | (simp only [e30_]; omega)))) fmn))))).2.2)⟩, (fits0 (f0_tup (fmc (f0_bl _) (fmc (f0_int (by unfold lim40; (first | omega | (simp only [e30_]; omega))) (by unfold lim40; (first | omega | (simp only [e30_]; omega)))) (fmc (f0_int (by unfold lim40; (first | omega | (simp only [e30_]; omega))) (by unfold lim40; (first | omega | (simp only [e30_]; omega)))) fmn)))) (by (first | (simp [PyData.bulk, PyData.bulkAll]; done) | decide | (simp [PyData.bulk, PyData.bulkAll]; decide))) (by simp [PyData.depth, PyData.depthAll])), by (first | rfl | exact inI_out (by unfold big; omega) | exact inI_out (by unfold big; simp only [e30_]; omega) | exact cb1 rfl | exact cb2 rfl | exact cb1 (inI_out (by omega)) | exact cb2 (inI_out (by omega)) | exact kb1 rfl | exact kb2 rfl | exact kb3 rfl | exact kb1 (inI_out (by omega)) | exact kb2 (inI_out (by omega)) | exact kb3 (inI_out (by omega)))⟩)
        (fmc (⟨_, (some [V.int 0, V.bl false, V.int 0]), fun H3 o3 => ⟨⟨_, rfl, (q8 H3 o3), by show 3 ≤ 100; decide, (fmc (pl_int _) (fmc (pl_bl _) (fmc (pl_int _) fmn)))⟩, (.dat (.tup (SqT.of (q8 H3 o3)) (.cons (.int _) (.cons (.bl _) (.cons (.int _) .nil)))) ((f0_tup (fmc (f0_int (by unfold lim40; (first | omega | (simp only [e30_]; omega))) (by unfold lim40; (first | omega | (simp only [e30_]; omega)))) (fmc (f0_bl _) (fmc (f0_int (by unfold lim40; (first | omega | (simp only [e30_]; omega))) (by unfold lim40; (first | omega | (simp only [e30_]; omega)))) fmn))))).2.2)⟩, (fits0 (f0_tup (fmc (f0_int (by unfold lim40; (first | omega | (simp only [e30_]; omega))) (by unfold lim40; (first | omega | (simp only [e30_]; omega)))) (fmc (f0_bl _) (fmc (f0_int (by unfold lim40; (first | omega | (simp only [e30_]; omega))) (by unfold lim40; (first | omega | (simp only [e30_]; omega)))) fmn)))) (by (first | (simp [PyData.bulk, PyData.bulkAll]; done) | decide | (simp [PyData.bulk, PyData.bulkAll]; decide))) (by simp [PyData.depth, PyData.depthAll])), by (first | rfl | exact inI_out (by unfold big; omega) | exact inI_out (by unfold big; simp only [e30_]; omega) | exact cb1 rfl | exact cb2 rfl | exact cb1 (inI_out (by omega)) | exact cb2 (inI_out (by omega)) | exact kb1 rfl | exact kb2 rfl | exact kb3 rfl | exact kb1 (inI_out (by omega)) | exact kb2 (inI_out (by omega)) | exact kb3 (inI_out (by omega)))⟩)
        (fmc (⟨_, (some [V.int 0, V.int 0]), fun H3 o3 => ⟨⟨_, rfl, (q9 H3 o3), by show 2 ≤ 100; decide, (fmc (pl_int _) (fmc (pl_int _) fmn))⟩, (.dat (.tup (SqT.of (q9 H3 o3)) (.cons (.int _) (.cons (.int _) .nil))) ((f0_tup (fmc (f0_int (by unfold lim40; (first | omega | (simp only [e30_]; omega))) (by unfold lim40; (first | omega | (simp only [e30_]; omega)))) (fmc (f0_int (by unfold lim40; (first | omega | (simp only [e30_]; omega))) (by unfold lim40; (first | omega | (simp only [e30_]; omega)))) fmn)))).2.2)⟩, (fits0 (f0_tup (fmc (f0_int (by unfold lim40; (first | omega | (simp only [e30_]; omega))) (by unfold lim40; (first | omega | (simp only [e30_]; omega)))) (fmc (f0_int (by unfold lim40; (first | omega | (simp only [e30_]; omega))) (by unfold lim40; (first | omega | (simp only [e30_]; omega)))) fmn))) (by (first | (simp [PyData.bulk, PyData.bulkAll]; done) | decide | (simp [PyData.bulk, PyData.bulkAll]; decide))) (by simp [PyData.depth, PyData.depthAll])), by (first | rfl | exact inI_out (by unfold big; omega) | exact inI_out (by unfold big; simp only [e30_]; omega) | exact cb1 rfl | exact cb2 rfl | exact cb1 (inI_out (by omega)) | exact cb2 (inI_out (by omega)) | exact kb1 rfl | exact kb2 rfl | exact kb3 rfl | exact kb1 (inI_out (by omega)) | exact kb2 (inI_out (by omega)) | exact kb3 (inI_out (by omega)))⟩)
        (fmc (⟨_, (some [V.int 0, V.int 0, V.int 0, V.int 0]), fun H3 o3 => ⟨⟨_, rfl, (q11 H3 o3), by show 4 ≤ 100; decide, (fmc (pl_int _) (fmc (pl_int _) (fmc (pl_int _) (fmc (pl_int _) fmn))))⟩, (.dat (.tup (SqT.of (q11 H3 o3)) (.cons (.int _) (.cons (.int _) (.cons (.int _) (.cons (.int _) .nil))))) ((f0_tup (fmc (f0_int (by unfold lim40; (first | omega | (simp only [e30_]; omega))) (by unfold lim40; (first | omega | (simp only [e30_]; omega)))) (fmc (f0_int (by unfold lim40; (first | omega | (simp only [e30_]; omega))) (by unfold lim40; (first | omega | (simp only [e30_]; omega)))) (fmc (f0_int (by unfold lim40; (first | omega | (simp only [e30_]; omega))) (by unfold lim40; (first | omega | (simp only [e30_]; omega)))) (fmc (f0_int (by unfold lim40; (first | omega | (simp only [e30_]; omega))) (by unfold lim40; (first | omega | (simp only [e30_]; omega)))) fmn)))))).2.2)⟩, (fits0 (f0_tup (fmc (f0_int (by unfold lim40; (first | omega | (simp only [e30_]; omega))) (by unfold lim40; (first | omega | (simp only [e30_]; omega)))) (fmc (f0_int (by unfold lim40; (first | omega | (simp only [e30_]; omega))) (by unfold lim40; (first | omega | (simp only [e30_]; omega)))) (fmc (f0_int (by unfold lim40; (first | omega | (simp only [e30_]; omega))) (by unfold lim40; (first | omega | (simp only [e30_]; omega)))) (fmc (f0_int (by unfold lim40; (first | omega | (simp only [e30_]; omega))) (by unfold lim40; (first | omega | (simp only [e30_]; omega)))) fmn))))) (by (first | (simp [PyData.bulk, PyData.bulkAll]; done) | decide | (simp [PyData.bulk, PyData.bulkAll]; decide))) (by simp [PyData.depth, PyData.depthAll])), by (first | rfl | exact inI_out (by unfold big; omega) | exact inI_out (by unfold big; simp only [e30_]; omega) | exact cb1 rfl | exact cb2 rfl | exact cb1 (inI_out (by omega)) | exact cb2 (inI_out (by omega)) | exact kb1 rfl | exact kb2 rfl | exact kb3 rfl | exact kb1 (inI_out (by omega)) | exact kb2 (inI_out (by omega)) | exact kb3 (inI_out (by omega)))⟩)
        (fmc (⟨_, none, fun H3 o3 => ⟨(tv_lst (q12 H3 o3)), (.dat (.lst (SqL.of (q12 H3 o3)) (.cons (.int _) (.cons (.int _) (.cons (.int _) .nil)))) ((f0_lst (fmc (f0_int (by unfold lim40; (first | omega | (simp only [e30_]; omega))) (by unfold lim40; (first | omega | (simp only [e30_]; omega)))) (fmc (f0_int (by unfold lim40; (first | omega | (simp only [e30_]; omega))) (by unfold lim40; (first | omega | (simp only [e30_]; omega)))) (fmc (f0_int (by unfold lim40; (first | omega | (simp only [e30_]; omega))) (by unfold lim40; (first | omega | (simp only [e30_]; omega)))) fmn))))).2.2)⟩, (fits0 (f0_lst (fmc (f0_int (by unfold lim40; (first | omega | (simp only [e30_]; omega))) (by unfold lim40; (first | omega | (simp only [e30_]; omega)))) (fmc (f0_int (by unfold lim40; (first | omega | (simp only [e30_]; omega))) (by unfold lim40; (first | omega | (simp only [e30_]; omega)))) (fmc (f0_int (by unfold lim40; (first | omega | (simp only [e30_]; omega))) (by unfold lim40; (first | omega | (simp only [e30_]; omega)))) fmn)))) (by (first | (simp [PyData.bulk, PyData.bulkAll]; done) | decide | (simp [PyData.bulk, PyData.bulkAll]; decide))) (by simp [PyData.depth, PyData.depthAll])), by (first | rfl | exact inI_out (by unfold big; omega) | exact inI_out (by unfold big; simp only [e30_]; omega) | exact cb1 rfl | exact cb2 rfl | exact cb1 (inI_out (by omega)) | exact cb2 (inI_out (by omega)) | exact kb1 rfl | exact kb2 rfl | exact kb3 rfl | exact kb1 (inI_out (by omega)) | exact kb2 (inI_out (by omega)) | exact kb3 (inI_out (by omega)))⟩)
        (fmc (⟨_, none, fun H3 o3 => ⟨tv_non, (.dat .non (f0_non).2.2)⟩, (fits0 f0_non (by (first | (simp [PyData.bulk, PyData.bulkAll]; done) | decide | (simp [PyData.bulk, PyData.bulkAll]; decide))) (by simp [PyData.depth, PyData.depthAll])), by (first | rfl | exact inI_out (by unfold big; omega) | exact inI_out (by unfold big; simp only [e30_]; omega) | exact cb1 rfl | exact cb2 rfl | exact cb1 (inI_out (by omega)) | exact cb2 (inI_out (by omega)) | exact kb1 rfl | exact kb2 rfl | exact kb3 rfl | exact kb1 (inI_out (by omega)) | exact kb2 (inI_out (by omega)) | exact kb3 (inI_out (by omega)))⟩)
        (fmc (⟨_, none, fun H3 o3 => ⟨(tv_str _), (.dat (.str _) ((f0_str _ (by decide))).2.2)⟩, (fits0 (f0_str _ (by decide)) (by (first | (simp [PyData.bulk, PyData.bulkAll]; done) | decide | (simp [PyData.bulk, PyData.bulkAll]; decide))) (by simp [PyData.depth, PyData.depthAll])), by (first | rfl | exact inI_out (by unfold big; omega) | exact inI_out (by unfold big; simp only [e30_]; omega) | exact cb1 rfl | exact cb2 rfl | exact cb1 (inI_out (by omega)) | exact cb2 (inI_out (by omega)) | exact kb1 rfl | exact kb2 rfl | exact kb3 rfl | exact kb1 (inI_out (by omega)) | exact kb2 (inI_out (by omega)) | exact kb3 (inI_out (by omega)))⟩)
        (fmc (⟨_, none, fun H3 o3 => ⟨(tv_int _), (.dat (.int _) ((f0_int (by unfold lim40; (first | omega | (simp only [e30_]; omega))) (by unfold lim40; (first | omega | (simp only [e30_]; omega))))).2.2)⟩, (fits0 (f0_int (by unfold lim40; (first | omega | (simp only [e30_]; omega))) (by unfold lim40; (first | omega | (simp only [e30_]; omega)))) (by (first | (simp [PyData.bulk, PyData.bulkAll]; done) | decide | (simp [PyData.bulk, PyData.bulkAll]; decide))) (by simp [PyData.depth, PyData.depthAll])), by (first | rfl | exact inI_out (by unfold big; omega) | exact inI_out (by unfold big; simp only [e30_]; omega) | exact cb1 rfl | exact cb2 rfl | exact cb1 (inI_out (by omega)) | exact cb2 (inI_out (by omega)) | exact kb1 rfl | exact kb2 rfl | exact kb3 rfl | exact kb1 (inI_out (by omega)) | exact kb2 (inI_out (by omega)) | exact kb3 (inI_out (by omega)))⟩)
        (fmc (⟨_, (some []), fun H3 o3 => ⟨⟨_, rfl, (q13 H3 o3), by show 0 ≤ 100; decide, fmn⟩, (.dat (.tup (SqT.of (q13 H3 o3)) .nil) ((f0_tup fmn)).2.2)⟩, (fits0 (f0_tup fmn) (by (first | (simp [PyData.bulk, PyData.bulkAll]; done) | decide | (simp [PyData.bulk, PyData.bulkAll]; decide))) (by simp [PyData.depth, PyData.depthAll])), by (first | rfl | exact inI_out (by unfold big; omega) | exact inI_out (by unfold big; simp only [e30_]; omega) | exact cb1 rfl | exact cb2 rfl | exact cb1 (inI_out (by omega)) | exact cb2 (inI_out (by omega)) | exact kb1 rfl | exact kb2 rfl | exact kb3 rfl | exact kb1 (inI_out (by omega)) | exact kb2 (inI_out (by omega)) | exact kb3 (inI_out (by omega)))⟩)
        (fmc (⟨_, (some [V.str "0", V.int 0, V.int 0]), fun H3 o3 => ⟨⟨_, rfl, (q14 H3 o3), by show 3 ≤ 100; decide, (fmc (pl_str _) (fmc (pl_int _) (fmc (pl_int _) fmn)))⟩, (.dat (.tup (SqT.of (q14 H3 o3)) (.cons (.str _) (.cons (.int _) (.cons (.int _) .nil)))) ((f0_tup (fmc (f0_str _ (by decide)) (fmc (f0_int (by unfold lim40; (first | omega | (simp only [e30_]; omega))) (by unfold lim40; (first | omega | (simp only [e30_]; omega)))) (fmc (f0_int (by unfold lim40; (first | omega | (simp only [e30_]; omega))) (by unfold lim40; (first | omega | (simp only [e30_]; omega)))) fmn))))).2.2)⟩, (fits0 (f0_tup (fmc (f0_str _ (by decide)) (fmc (f0_int (by unfold lim40; (first | omega | (simp only [e30_]; omega))) (by unfold lim40; (first | omega | (simp only [e30_]; omega)))) (fmc (f0_int (by unfold lim40; (first | omega | (simp only [e30_]; omega))) (by unfold lim40; (first | omega | (simp only [e30_]; omega)))) fmn)))) (by (first | (simp [PyData.bulk, PyData.bulkAll]; done) | decide | (simp [PyData.bulk, PyData.bulkAll]; decide))) (by simp [PyData.depth, PyData.depthAll])), by (first | rfl | exact inI_out (by unfold big; omega) | exact inI_out (by unfold big; simp only [e30_]; omega) | exact cb1 rfl | exact cb2 rfl | exact cb1 (inI_out (by omega)) | exact cb2 (inI_out (by omega)) | exact kb1 rfl | exact kb2 rfl | exact kb3 rfl | exact kb1 (inI_out (by omega)) | exact kb2 (inI_out (by omega)) | exact kb3 (inI_out (by omega)))⟩)
        (fmc (⟨_, (some [V.ref t15, V.int 0, V.int 0]), fun H3 o3 => ⟨⟨_, rfl, (q16 H3 o3), by show 3 ≤ 100; decide, (fmc (pl_lst (q15 H3 o3)) (fmc (pl_int _) (fmc (pl_int _) fmn)))⟩, (.dat (.tup (SqT.of (q16 H3 o3)) (.cons (.lst (SqL.of (q15 H3 o3)) (.cons (.int _) .nil)) (.cons (.int _) (.cons (.int _) .nil)))) ((f0_tup (fmc (f0_lst (fmc (f0_int (by unfold lim40; (first | omega | (simp only [e30_]; omega))) (by unfold lim40; (first | omega | (simp only [e30_]; omega)))) fmn)) (fmc (f0_int (by unfold lim40; (first | omega | (simp only [e30_]; omega))) (by unfold lim40; (first | omega | (simp only [e30_]; omega)))) (fmc (f0_int (by unfold lim40; (first | omega | (simp only [e30_]; omega))) (by unfold lim40; (first | omega | (simp only [e30_]; omega)))) fmn))))).2.2)⟩, (fits0 (f0_tup (fmc (f0_lst (fmc (f0_int (by unfold lim40; (first | omega | (simp only [e30_]; omega))) (by unfold lim40; (first | omega | (simp only [e30_]; omega)))) fmn)) (fmc (f0_int (by unfold lim40; (first | omega | (simp only [e30_]; omega))) (by unfold lim40; (first | omega | (simp only [e30_]; omega)))) (fmc (f0_int (by unfold lim40; (first | omega | (simp only [e30_]; omega))) (by unfold lim40; (first | omega | (simp only [e30_]; omega)))) fmn)))) (by (first | (simp [PyData.bulk, PyData.bulkAll]; done) | decide | (simp [PyData.bulk, PyData.bulkAll]; decide))) (by simp [PyData.depth, PyData.depthAll])), by (first | rfl | exact inI_out (by unfold big; omega) | exact inI_out (by unfold big; simp only [e30_]; omega) | exact cb1 rfl | exact cb2 rfl | exact cb1 (inI_out (by omega)) | exact cb2 (inI_out (by omega)) | exact kb1 rfl | exact kb2 rfl | exact kb3 rfl | exact kb1 (inI_out (by omega)) | exact kb2 (inI_out (by omega)) | exact kb3 (inI_out (by omega)))⟩)
        (fmc (⟨_, none, fun H3 o3 => ⟨(tv_dK (q17 H3 o3)), (.emp (q17 H3 o3))⟩, fits_dict, by (first | rfl | exact inI_out (by unfold big; omega) | exact inI_out (by unfold big; simp only [e30_]; omega) | exact cb1 rfl | exact cb2 rfl | exact cb1 (inI_out (by omega)) | exact cb2 (inI_out (by omega)) | exact kb1 rfl | exact kb2 rfl | exact kb3 rfl | exact kb1 (inI_out (by omega)) | exact kb2 (inI_out (by omega)) | exact kb3 (inI_out (by omega)))⟩)
        (fmc (⟨_, (some [V.int 0, V.bl true, V.bl true]), fun H3 o3 => ⟨⟨_, rfl, (q18 H3 o3), by show 3 ≤ 100; decide, (fmc (pl_int _) (fmc (pl_bl _) (fmc (pl_bl _) fmn)))⟩, (.dat (.tup (SqT.of (q18 H3 o3)) (.cons (.int _) (.cons (.bl _) (.cons (.bl _) .nil)))) ((f0_tup (fmc (f0_int (by unfold lim40; (first | omega | (simp only [e30_]; omega))) (by unfold lim40; (first | omega | (simp only [e30_]; omega)))) (fmc (f0_bl _) (fmc (f0_bl _) fmn))))).2.2)⟩, (fits0 (f0_tup (fmc (f0_int (by unfold lim40; (first | omega | (simp only [e30_]; omega))) (by unfold lim40; (first | omega | (simp only [e30_]; omega)))) (fmc (f0_bl _) (fmc (f0_bl _) fmn)))) (by (first | (simp [PyData.bulk, PyData.bulkAll]; done) | decide | (simp [PyData.bulk, PyData.bulkAll]; decide))) (by simp [PyData.depth, PyData.depthAll])), by (first | rfl | exact inI_out (by unfold big; omega) | exact inI_out (by unfold big; simp only [e30_]; omega) | exact cb1 rfl | exact cb2 rfl | exact cb1 (inI_out (by omega)) | exact cb2 (inI_out (by omega)) | exact kb1 rfl | exact kb2 rfl | exact kb3 rfl | exact kb1 (inI_out (by omega)) | exact kb2 (inI_out (by omega)) | exact kb3 (inI_out (by omega)))⟩)
        fmn)))))))))))))))))))
    obtain ⟨d, cc, g1, g2, g3⟩ := all _ (List.getElem_mem hj)
    exact q _ d cc H2 g1 g2 g3 hp' ((Same.off sA).trans o2)
end
end Sq
namespace Sq
open PySem L2 PySem.Spec PyProof.Rows
/-- a promise that is kept where no repr is under way, with all that a call asks -/
structure FBG (P : Program) (w : World) (K : PySem.W.Frag) (mg : Str → Option Value) (base : Heap) (x : Str) (k : Nat) (sp : Sp) : Prop where
  ex : ∃ f : Addr, FnG P w K mg base k f sp ∧ mg x = some (.ref f) ∧ PySem.W.keepIn K (.ref f) = true
section
variable {X : Cx} {j k : Nat} {x : Str} {p pos : Pos} {e : Expr} {es : List Expr} {t : TA} {sp : Sp}
theorem FnG.mono {P : Program} {w : World} {K : PySem.W.Frag} {mg : Str → Option Value} {base : Heap} {f : Addr} (F : FnG P w K mg base k f sp) : FnG P w K mg base k f sp := F
theorem pe_fbG (F : FBG X.prog X.w X.K X.mg X.base x k sp) (hg : X.A.guards = some []) (hr : Room j X.A) (hk : k ≤ j) (hgl : Gl X x) (ha : PA X (e :: es) t) (hdb : (x == ("__debug__" : Str)) = false := by decide)
    (he : starEach (e :: es) X.env = (false, eval e X.env) :: starEach es X.env := by rfl) (hpl : (backTo pos (starEach es X.env)).any (·.1) = false := by rfl) :
    PE X (.Call (.Name x p) (e :: es) [] pos) (tCallG sp t) := by
  obtain ⟨f, G, hm, kk⟩ := F.ex
  exact pe_callG G hg (hr.mono hk) hgl hm kk ha hdb he hpl
end
theorem noIn {v : V} {n a b : Int} (h : inI v a b = false) (e : v = .int n) (h1 : a ≤ n) (h2 : n ≤ b) : False := by
  subst e
  have h : (decide (a ≤ n) && decide (n ≤ b)) = false := h
  rw [decide_eq_true h1, decide_eq_true h2] at h
  cases h
theorem inI_in {n a b : Int} (h1 : a ≤ n) (h2 : n ≤ b) : inI (.int n) a b = true := by
  show (decide (a ≤ n) && decide (n ≤ b)) = true
  rw [decide_eq_true h1, decide_eq_true h2]
  rfl
theorem two_it {x a b : V} {i : Nat} (h : [a, b][i]? = some x) : x = a ∨ x = b := by
  have m := List.mem_of_getElem? h
  simpa using m
theorem three_it {x a b c : V} {i : Nat} (h : [a, b, c][i]? = some x) : x = a ∨ x = b ∨ x = c := by
  have m := List.mem_of_getElem? h
  simpa using m
/-! ### promises -/
def spSame2 (K : PySem.W.Frag) : Sp := fun vs H Q _ => ∃ (t : Addr) (x : Str) (v : V) (d : PyData), vs = [.ref t, .str x, v] ∧ H t = some (.tup [.str x, v]) ∧ Sh K H v d ∧ Fits d ∧ Q (.bl true) H
end Sq
namespace Sq
open PySem L2 TL
section
variable {P : Program} {w : World} {K : PySem.W.Frag} {mg : Str → Option Value} {base : Heap}
abbrev s__law_same : Stmt := top 36
theorem sc__law_same : FnScope ["_law_found", "_law_word", "_law_value"] ["_law_found", "_law_word", "_law_value"] (defScope s__law_same) := ⟨rfl, rfl, rfl, by decide +kernel, rfl, by decide +kernel, by decide +kernel⟩
theorem okG__law_same {f : Addr} {fd : FuncData} (F : Fun K "_law_same" "_law_same" s__law_same f fd) (T : Bt mg) (b : Binds K fd ["_law_found", "_law_word", "_law_value"] []) (zr : mg "repr" = none) : FnG P w K mg base 2 f (spSame2 K) := by
  refine FnG.of F sc__law_same b (fun vs H Q h => ?_) (fun cdv A outer s H vs Q hg hr h => ?_)
  · obtain ⟨t, x, v, d, rfl, _⟩ := h
    rfl
  · obtain ⟨t, x, v, d, rfl, ht, hs, hf, q⟩ := h
    refine ⟨_, (pss_one (ps_ret (pe_and (pe_cmpR op_eq (pe_ix ix_tup (pv 0) pe_int (fun _ _ => rfl)) (pv 1) (nomark _))
            (pe_one (pe_cmpR op_eq (pe_callB (call_repr2 hg hr) (by rfl) zr (by decide +kernel) (pa_cons (pe_ix ix_tup (pv 0) pe_int (fun _ _ => rfl)) pa_nil)) (pe_callB (call_repr2 hg hr) (by rfl) zr (by decide +kernel) (pa_cons (pv 2) pa_nil)) (nomark _)))))), ?_⟩
    refine ⟨_, rfl, t, _, 0, _, rfl, rfl, SqT.of ht, rfl, _, rfl, rfl, _, rfl, ?_⟩
    rw [decide_eq_true rfl]
    refine iteT ?_
    refine ⟨_, rfl, t, _, 1, _, rfl, rfl, SqT.of ht, rfl, v, d, rfl, hs, hf, ?_⟩
    refine ⟨_, rfl, v, d, rfl, hs, hf, rfl, ?_⟩
    rw [decide_eq_true rfl]
    exact q
end
end Sq
namespace Sq
open PySem L2 TL
section
variable {P : Program} {w : World} {K : PySem.W.Frag} {mg : Str → Option Value} {base : Heap}
abbrev s__law_right : Stmt := top 37
theorem sc__law_right : FnScope ["_law_purl_here", "_law_size", "_law_row", "_law_column", "_law_bad_size", "_law_bad_cell", "_law_bad_kind", "_law_turn", "_law_way", "_law_other", "_law_good"] ["_law_purl_here"] (defScope s__law_right) := ⟨rfl, rfl, rfl, by decide +kernel, rfl, by decide +kernel, by decide +kernel⟩
theorem okG__law_right {f : Addr} {fd : FuncData} (F : Fun K "_law_right" "_law_right" s__law_right f fd) (T : Bt mg) (b : Binds K fd ["_law_purl_here"] []) (G__law_far : FB P w K mg base "_law_far" 2 ["_law_purl_here"] spFar) (G__law_spot : FB P w K mg base "_law_spot" 2 ["_law_purl_here", "_law_size"] spSpot) (G__law_oddsize : FB P w K mg base "_law_oddsize" 2 ["_law_purl_here", "_law_great"] (spOddS K)) (G__law_oddcell : FB P w K mg base "_law_oddcell" 2 ["_law_purl_here", "_law_size", "_law_row", "_law_column"] (spOddC K)) (G__law_oddkind : FB P w K mg base "_law_oddkind" 2 ["_law_purl_here"] (spOddK K)) (G__law_met : FB P w K mg base "_law_met" 6 ["_law_way", "_law_size", "_law_value"] (spMetE K)) (GG__law_same : FBG P w K mg base "_law_same" 2 (spSame2 K)) : FnG P w K mg base 8 f spRight := by
  refine FnG.of F sc__law_right b (fun vs H Q h => ?_) (fun cdv A outer s H vs Q hg hr h => ?_)
  · obtain ⟨p, rfl, _⟩ := h
    rfl
  · obtain ⟨p, rfl, hp, q⟩ := h
    refine ⟨_, (pss_cons (ps_set (i := 1) sc__law_right.nd rfl (by first | exact .inl rfl | exact .inr rfl) (pe_fb G__law_far hr (by decide) (by rfl) (pa_cons (pv 0) pa_nil)))
        (pss_cons (ps_asg (pe_fb G__law_spot hr (by decide) (by rfl) (pa_cons (pv 0) (pa_cons (pv 1) pa_nil))) (pg_tup (by rfl) (pgs_cons (pg_name (i := 2) sc__law_right.nd rfl (by first | exact .inl rfl | exact .inr rfl)) (pgs_cons (pg_name (i := 3) sc__law_right.nd rfl (by first | exact .inl rfl | exact .inr rfl)) pgs_nil))))
        (pss_cons (ps_par3 (i := 4) (j := 5) (l := 6) (by rfl) sc__law_right.nd rfl rfl rfl (by decide) (by decide) (by decide) rfl rfl rfl (pa_cons (pe_fb G__law_oddsize hr (by decide) (by rfl) (pa_cons (pv 0) (pa_cons (pv 1) pa_nil))) (pa_cons (pe_fb G__law_oddcell hr (by decide) (by rfl) (pa_cons (pv 0) (pa_cons (pv 1) (pa_cons (pv 2) (pa_cons (pv 3) pa_nil))))) (pa_cons (pe_fb G__law_oddkind hr (by decide) (by rfl) (pa_cons (pv 0) pa_nil)) pa_nil))) (by rfl))
        (pss_cons (ps_for PassesOwn.never rfl (pi_range1 (by rfl) T.range (pa_cons pe_int pa_nil)) (pg_name (i := 7) sc__law_right.nd rfl (by first | exact .inl rfl | exact .inr rfl))
        (pss_cons (ps_for PassesOwn.never rfl (pi_list (pe_lst (pa_cons pe_int (pa_cons pe_int pa_nil)))) (pg_name (i := 8) sc__law_right.nd rfl (by first | exact .inl rfl | exact .inr rfl))
        (pss_cons (ps_for PassesOwn.never rfl (pi_list (pe_lst (pa_cons (pv 5) (pa_cons (pe_tup (pa_cons (pv 2) (pa_cons (pv 3) pa_nil))) pa_nil)))) (pg_name (i := 9) sc__law_right.nd rfl (by first | exact .inl rfl | exact .inr rfl))
        (pss_one (ps_if (pt_not (pt_val (pe_fbG GG__law_same hg hr (by decide) (by rfl) (pa_cons (pe_fb G__law_met hr (by decide) (by rfl) (pa_cons (pv 8) (pa_cons (pv 4) (pa_cons (pv 9) pa_nil)))) (pa_cons pe_str (pa_cons (pv 4) pa_nil))))))
        (pss_one (ps_ret pe_bl))
        pss_nil)))
        (pss_cons (ps_if (pt_not (pt_val (pe_fbG GG__law_same hg hr (by decide) (by rfl) (pa_cons (pe_fb G__law_met hr (by decide) (by rfl) (pa_cons (pv 8) (pa_cons (pv 1) (pa_cons (pv 5) pa_nil)))) (pa_cons pe_str (pa_cons (pv 5) pa_nil))))))
        (pss_one (ps_ret pe_bl))
        pss_nil)
        (pss_one (ps_for PassesOwn.never rfl (pi_list (pe_lst (pa_cons (pe_tup (pa_cons (pv 2) (pa_cons (pv 3) pa_nil))) (pa_cons (pe_tup (pa_cons pe_int (pa_cons (pe_op op_sub (pv 1) pe_int) pa_nil))) (pa_cons (pe_tup (pa_cons (pe_op op_sub (pv 1) pe_int) (pa_cons pe_int pa_nil))) pa_nil))))) (pg_name (i := 10) sc__law_right.nd rfl (by first | exact .inl rfl | exact .inr rfl))
        (pss_one (ps_if (pt_cmpR op_ne (pe_ix ix_tup (pe_fb G__law_met hr (by decide) (by rfl) (pa_cons (pv 8) (pa_cons (pv 1) (pa_cons (pv 10) pa_nil)))) pe_int (fun _ _ => rfl)) pe_str (nomark _))
        (pss_one (ps_ret pe_bl))
        pss_nil)))))))
        (pss_cons (ps_for PassesOwn.never rfl (pi_list (pe_lst (pa_cons (pv 6) (pa_cons (pe_tup (pa_cons pe_int (pa_cons pe_int (pa_cons pe_int pa_nil)))) pa_nil)))) (pg_name (i := 9) sc__law_right.nd rfl (by first | exact .inl rfl | exact .inr rfl))
        (pss_one (ps_if (pt_not (pt_val (pe_fbG GG__law_same hg hr (by decide) (by rfl) (pa_cons (pe_fb G__law_met hr (by decide) (by rfl) (pa_cons pe_int (pa_cons (pv 4) (pa_cons (pv 9) pa_nil)))) (pa_cons pe_str (pa_cons (pv 4) pa_nil))))))
        (pss_one (ps_ret pe_bl))
        pss_nil)))
        (pss_cons (ps_if (pt_not (pt_val (pe_fbG GG__law_same hg hr (by decide) (by rfl) (pa_cons (pe_fb G__law_met hr (by decide) (by rfl) (pa_cons pe_int (pa_cons (pv 1) (pa_cons (pv 6) pa_nil)))) (pa_cons pe_str (pa_cons (pv 6) pa_nil))))))
        (pss_one (ps_ret pe_bl))
        pss_nil)
        (pss_cons (ps_if (pt_not (pt_val (pe_fbG GG__law_same hg hr (by decide) (by rfl) (pa_cons (pe_fb G__law_met hr (by decide) (by rfl) (pa_cons pe_int (pa_cons (pv 4) (pa_cons pe_non pa_nil)))) (pa_cons pe_str (pa_cons (pv 4) pa_nil))))))
        (pss_one (ps_ret pe_bl))
        pss_nil)
        (pss_one (ps_for PassesOwn.never rfl (pi_list (pe_lst (pa_cons pe_int (pa_cons (pe_op op_pow pe_int pe_int) (pa_cons (pv 1) pa_nil))))) (pg_name (i := 10) sc__law_right.nd rfl (by first | exact .inl rfl | exact .inr rfl))
        (pss_one (ps_if (PW.pt (pw_or (pt_cmpR op_ne (pe_ix ix_tup (pe_fb G__law_met hr (by decide) (by rfl) (pa_cons pe_int (pa_cons (pv 10) (pa_cons pe_non pa_nil)))) pe_int (fun _ _ => rfl)) pe_str (nomark _)) (pw_or1 (pt_cmpR op_ne (pe_ix ix_tup (pe_fb G__law_met hr (by decide) (by rfl) (pa_cons pe_int (pa_cons (pv 10) (pa_cons (pe_tup (pa_cons pe_int (pa_cons pe_int (pa_cons pe_int pa_nil)))) pa_nil)))) pe_int (fun _ _ => rfl)) pe_str (nomark _)))))
        (pss_one (ps_ret pe_bl))
        pss_nil)))))))))
        (pss_one (ps_ret pe_bl)))))), ?_⟩
    have two : 2 ≤ sizeLine := by decide
    refine ⟨_, rfl, p, rfl, hp, fun n H1 n0 n1 hp1 o1 => ?_⟩
    have n1 : n ≤ big := n1
    refine ⟨_, rfl, _, rfl, p, n, rfl, hp1, n0, fun t rc H2 hq ht ntp hp2 o2 => ⟨t, _, rfl, SqT.of ht, rfl, _, _, rfl, _, _, rfl, rfl, ?_⟩⟩
    obtain ⟨r, c⟩ := rc
    refine ⟨_, rfl, _, rfl, p, n, rfl, hp2, n0, n1, fun bs db H3 gs fs ns hp3 o3 => ?_⟩
    refine ⟨_, rfl, _, rfl, _, rfl, _, rfl, p, n, r, c, rfl, hp3, hq, n1, fun bc dc cc H4 gc fc nc hp4 o4 => ?_⟩
    refine ⟨_, rfl, p, rfl, hp4, fun bk dk ck H5 gk fk nk hp5 o5 => ?_⟩
    have gs5 : ∀ Hx, Same H5 Hx → Pl K Hx bs ∧ Sh K Hx bs db := fun Hx s => gs Hx ((o4.trans o5).trans (Same.off s))
    have gc5 : ∀ Hx, Same H5 Hx → TupV K Hx bc cc ∧ Sh K Hx bc dc := fun Hx s => gc Hx (o5.trans (Same.off s))
    have gk5 : ∀ Hx, Same H5 Hx → TupV K Hx bk ck ∧ Sh K Hx bk dk := fun Hx s => gk Hx (Same.off s)
    have off5 : Off p H H5 := o1.trans (o2.trans (o3.trans (o4.trans o5)))
    clear gs gc gk o1 o2 o3 o4 o5 hp1 hp2 hp3 hp4 ht
    obtain ⟨⟨ra, rb⟩, ca, cb⟩ := hq
    simp only at ra rb ca cb
    refine ⟨_, _, _, rfl, 2, rfl, by decide, by decide, ?_⟩
    refine for_range (n := 2) (fun _ σ H' => ∃ x7 x8 x9 x10, σ = [some (.ref p), some (.int n), some (.int r), some (.int c), some bs, some bc, some bk, x7, x8, x9, x10] ∧ Same H5 H') ⟨_, _, _, _, rfl, Same.refl _⟩ (fun i σ Ha _ h => ?_) (fun σ H' h => ?_)
    · obtain ⟨x7, x8, x9, x10, rfl, sm⟩ := h
      refine nm_q (sq_ (st_of (fun σ H' => ∃ x7 x8 x9 x10, σ = [some (.ref p), some (.int n), some (.int r), some (.int c), some bs, some bc, some bk, x7, x8, x9, x10] ∧ Same H5 H') (fun D' nx => ?_) fun σ2 H6 h6 => ?_))
      · -- for way in [0, 1]
        refine ⟨two, fun L1 nL1 => ?_⟩
        obtain ⟨sL, hL⟩ := new_at (o := .lst [V.int 0, V.int 1]) nL1
        refine ⟨L1, rfl, ⟨_, SqL.of hL⟩, ?_⟩
        have sL5 := sm.trans sL
        refine for_list (K := K) (a := L1) (xs := [V.int 0, V.int 1]) (fun _ σ H' => (∃ x7 x8 x9 x10, σ = [some (.ref p), some (.int n), some (.int r), some (.int c), some bs, some bc, some bk, x7, x8, x9, x10] ∧ Same H5 H') ∧ Same (upd Ha L1 (.lst [V.int 0, V.int 1])) H') ⟨⟨_, _, _, _, rfl, sL5⟩, Same.refl _⟩ (fun i σ H' _ h => SqL.of (h.2 _ _ hL)) (fun i x σ Hb hx h => ?_) (fun σ H' h => nx _ _ h.1)
        obtain ⟨⟨x7, x8, x9, x10, rfl, sm⟩, sl⟩ := h
        have hw : ∃ way : Int, x = .int way ∧ (way = 0 ∨ way = 1) := by
          rcases two_it hx with e | e
          · exact ⟨0, e, .inl rfl⟩
          · exact ⟨1, e, .inr rfl⟩
        obtain ⟨way, rfl, hw⟩ := hw
        have hw4 : way = 0 ∨ way = 1 ∨ way = 2 ∨ way = 3 := by omega
        have okw : ∀ m cx, okW way m cx = cellB m cx := fun m cx => by
          rcases hw with rfl | rfl <;> rfl
        have wdw : wordW way = "cell" := by
          rcases hw with rfl | rfl <;> rfl
        refine nm_q (sq_ (st_of (fun σ H' => (∃ x7 x9 x10, σ = [some (.ref p), some (.int n), some (.int r), some (.int c), some bs, some bc, some bk, x7, some (.int way), x9, x10] ∧ Same H5 H') ∧ Same (upd Ha L1 (.lst [V.int 0, V.int 1])) H') (fun D2 nx2 => ?_) fun σ3 H7 h7 => ?_))
        · -- for other in [bad_cell, (row, column)]
          refine ⟨_, rfl, _, rfl, _, rfl, two, fun t2 nt2 => ⟨two, fun L2 nL2 => ?_⟩⟩
          obtain ⟨sT, hT⟩ := new_at (o := .tup [V.int r, V.int c]) nt2
          obtain ⟨sM, hM⟩ := new_at (o := .lst [bc, V.ref t2]) nL2
          refine ⟨L2, rfl, ⟨_, SqL.of hM⟩, ?_⟩
          have s2 := sT.trans sM
          refine for_list (K := K) (a := L2) (xs := [bc, V.ref t2]) (fun _ σ H' => (∃ x7 x9 x10, σ = [some (.ref p), some (.int n), some (.int r), some (.int c), some bs, some bc, some bk, x7, some (.int way), x9, x10] ∧ Same H5 H') ∧ Same (upd (upd Hb t2 (.tup [V.int r, V.int c])) L2 (.lst [bc, V.ref t2])) H') ⟨⟨_, _, _, rfl, sm.trans s2⟩, Same.refl _⟩ (fun i σ H' _ h => SqL.of (h.2 _ _ hM)) (fun i x σ H' hx h => ?_) (fun σ H' h => nx2 _ _ ⟨h.1, sl.trans (s2.trans h.2)⟩)
          obtain ⟨⟨x7, x9, x10, rfl, sm'⟩, sl'⟩ := h
          have tvx : ∃ cx, TupV K H' x cx := by
            rcases two_it hx with e | e
            · rw [e]
              exact ⟨_, (gc5 _ sm').1⟩
            · rw [e]
              exact ⟨some [V.int r, V.int c], t2, rfl, sl' _ _ (sM _ _ hT), by show 2 ≤ 100; decide, fmc (pl_int _) (fmc (pl_int _) fmn)⟩
          obtain ⟨cx, tvx⟩ := tvx
          refine ⟨_, rfl, _, rfl, _, rfl, way, bs, x, cx, rfl, (gs5 _ sm').1, tvx, hw4, fun _ t8 H8 s8 h8 => ?_, fun n9 e9 l9 u9 => (noIn ns e9 l9 u9).elim⟩
          refine ⟨_, rfl, t8, "size", bs, db, rfl, h8, (gs5 _ (sm'.trans s8)).2, fs, ?_⟩
          refine ⟨_, rfl, ?_⟩
          refine iteF ?_
          exact ⟨⟨_, _, _, rfl, sm'.trans s8⟩, sl'.trans s8⟩
        obtain ⟨⟨x7, x9, x10, rfl, sm⟩, sl⟩ := h7
        refine pr_seq (if_ ?_)
        refine ⟨_, rfl, _, rfl, _, rfl, way, .int n, bc, cc, rfl, pl_int n, (gc5 _ sm).1, hw4, fun hz => by (rw [inI_in n0 n1] at hz; cases hz), fun n9 e9 l9 u9 => ⟨fun hz => ?_, fun hz t8 H8 s8 h8 => ?_⟩⟩
        · cases e9
          rw [show okW way n cc = false from (okw n cc).trans nc] at hz
          cases hz
        rw [wdw] at h8
        refine ⟨_, rfl, t8, "cell", bc, dc, rfl, h8, (gc5 _ (sm.trans s8)).2, fc, ?_⟩
        refine ⟨_, rfl, ?_⟩
        refine iteF ?_
        have sm8 := sm.trans s8
        have sl8 := sl.trans s8
        -- for good in ..
        refine ⟨_, rfl, _, rfl, two, fun ta nta => ⟨_, rfl, _, _, rfl, rfl, two, fun tb ntb => ⟨_, rfl, _, _, rfl, rfl, two, fun tc ntc => ⟨by show 3 ≤ sizeLine; decide, fun L3 nL3 => ?_⟩⟩⟩⟩
        obtain ⟨sa, ha⟩ := new_at (o := .tup [V.int r, V.int c]) nta
        obtain ⟨sb, hb⟩ := new_at (o := .tup [V.int 0, V.int (n - 1)]) ntb
        obtain ⟨sc, hc⟩ := new_at (o := .tup [V.int (n - 1), V.int 0]) ntc
        obtain ⟨sM, hM⟩ := new_at (o := .lst [V.ref ta, V.ref tb, V.ref tc]) nL3
        refine ⟨L3, rfl, ⟨_, SqL.of hM⟩, ?_⟩
        have s3 := sa.trans (sb.trans (sc.trans sM))
        refine for_list (K := K) (a := L3) (xs := [V.ref ta, V.ref tb, V.ref tc]) (fun _ σ H' => (∃ x7 x9 x10, σ = [some (.ref p), some (.int n), some (.int r), some (.int c), some bs, some bc, some bk, x7, some (.int way), x9, x10] ∧ Same H5 H') ∧ Same (upd (upd (upd (upd H8 ta (.tup [V.int r, V.int c])) tb (.tup [V.int 0, V.int (n - 1)])) tc (.tup [V.int (n - 1), V.int 0])) L3 (.lst [V.ref ta, V.ref tb, V.ref tc])) H') ⟨⟨_, _, _, rfl, sm8.trans s3⟩, Same.refl _⟩ (fun i σ H' _ h => SqL.of (h.2 _ _ hM)) (fun i x σ H' hx h => ?_)
          (fun σ H' h => by obtain ⟨⟨x7, x9, x10, e, s⟩, s'⟩ := h; exact ⟨⟨_, _, _, _, e, s⟩, sl8.trans (s3.trans s')⟩)
        obtain ⟨⟨x7, x9, x10, rfl, sm'⟩, sl'⟩ := h
        have tvx : ∃ i j : Int, TupV K H' x (some [V.int i, V.int j]) ∧ cellB n (some [V.int i, V.int j]) = true := by
          have mk : ∀ (u : Addr) (i j : Int), H' u = some (.tup [V.int i, V.int j]) → 0 ≤ i → i < n → 0 ≤ j → j < n → TupV K H' (.ref u) (some [V.int i, V.int j]) ∧ cellB n (some [V.int i, V.int j]) = true := fun u i j hu i0 i1 j0 j1 => by
            refine ⟨⟨u, rfl, hu, by show 2 ≤ 100; decide, fmc (pl_int _) (fmc (pl_int _) fmn)⟩, ?_⟩
            show (inI (.int i) 0 (n - 1) && inI (.int j) 0 (n - 1)) = true
            rw [inI_in i0 (by omega), inI_in j0 (by omega)]
            rfl
          rcases three_it hx with e | e | e
          · rw [e]
            exact ⟨r, c, mk ta r c (sl' _ _ (sM _ _ (sc _ _ (sb _ _ ha)))) ra rb ca cb⟩
          · rw [e]
            exact ⟨0, n - 1, mk tb 0 (n - 1) (sl' _ _ (sM _ _ (sc _ _ hb))) (by omega) (by omega) (by omega) (by omega)⟩
          · rw [e]
            exact ⟨n - 1, 0, mk tc (n - 1) 0 (sl' _ _ (sM _ _ hc)) (by omega) (by omega) (by omega) (by omega)⟩
        obtain ⟨ci, cj, tvx, okc⟩ := tvx
        refine ⟨_, rfl, _, rfl, _, rfl, way, .int n, x, (some [V.int ci, V.int cj]), rfl, pl_int n, tvx, hw4, fun hz => by (rw [inI_in n0 n1] at hz; cases hz), fun n9 e9 l9 u9 => ⟨fun hz t8 H8 s8 h8 => ?_, fun hz => ?_⟩⟩
        case' refine_2 =>
          cases e9
          rw [show okW way _ (some [V.int ci, V.int cj]) = true from (okw n _).trans okc] at hz
          cases hz
        refine ⟨t8, _, 0, _, rfl, rfl, SqT.of h8, rfl, rfl, _, rfl, ?_⟩
        refine iteF ?_
        exact ⟨⟨_, _, _, rfl, sm'.trans s8⟩, sl'.trans s8⟩
      · obtain ⟨x7, x8, x9, x10, rfl, sm⟩ := h6
        refine pr_seq (st_of (fun σ H' => ∃ x7 x8 x9 x10, σ = [some (.ref p), some (.int n), some (.int r), some (.int c), some bs, some bc, some bk, x7, x8, x9, x10] ∧ Same H5 H') (fun D2 nx2 => ?_) fun σ3 H7 h7 => ?_)
        · -- for other in [bad_kind, (0, 0, 0)]
          refine ⟨_, rfl, by show 3 ≤ sizeLine; decide, fun t2 nt2 => ⟨two, fun L2 nL2 => ?_⟩⟩
          obtain ⟨sT, hT⟩ := new_at (o := .tup [V.int 0, V.int 0, V.int 0]) nt2
          obtain ⟨sM, hM⟩ := new_at (o := .lst [bk, V.ref t2]) nL2
          refine ⟨L2, rfl, ⟨_, SqL.of hM⟩, ?_⟩
          have s2 := sT.trans sM
          refine for_list (K := K) (a := L2) (xs := [bk, V.ref t2]) (fun _ σ H' => (∃ x7 x8 x9 x10, σ = [some (.ref p), some (.int n), some (.int r), some (.int c), some bs, some bc, some bk, x7, x8, x9, x10] ∧ Same H5 H') ∧ Same (upd (upd H6 t2 (.tup [V.int 0, V.int 0, V.int 0])) L2 (.lst [bk, V.ref t2])) H') ⟨⟨_, _, _, _, rfl, sm.trans s2⟩, Same.refl _⟩ (fun i σ H' _ h => SqL.of (h.2 _ _ hM)) (fun i x σ H' hx h => ?_) (fun σ H' h => nx2 _ _ h.1)
          obtain ⟨⟨x7, x8, x9, x10, rfl, sm'⟩, sl'⟩ := h
          have tvx : ∃ cx, TupV K H' x cx := by
            rcases two_it hx with e | e
            · rw [e]
              exact ⟨_, (gk5 _ sm').1⟩
            · rw [e]
              exact ⟨some [V.int 0, V.int 0, V.int 0], t2, rfl, sl' _ _ (sM _ _ hT), by show 3 ≤ 100; decide, fmc (pl_int _) (fmc (pl_int _) (fmc (pl_int _) fmn))⟩
          obtain ⟨cx, tvx⟩ := tvx
          refine ⟨_, rfl, _, rfl, 2, bs, x, cx, rfl, (gs5 _ sm').1, tvx, (.inr (.inr (.inl rfl))), fun _ t8 H8 s8 h8 => ?_, fun n9 e9 l9 u9 => (noIn ns e9 l9 u9).elim⟩
          refine ⟨_, rfl, t8, "size", bs, db, rfl, h8, (gs5 _ (sm'.trans s8)).2, fs, ?_⟩
          refine ⟨_, rfl, ?_⟩
          refine iteF ?_
          exact ⟨⟨_, _, _, _, rfl, sm'.trans s8⟩, sl'.trans s8⟩
        obtain ⟨x7, x8, x9, x10, rfl, sm⟩ := h7
        refine pr_seq (if_ ?_)
        refine ⟨_, rfl, _, rfl, 2, .int n, bk, ck, rfl, pl_int n, (gk5 _ sm).1, (.inr (.inr (.inl rfl))), fun hz => by (rw [inI_in n0 n1] at hz; cases hz), fun n9 e9 l9 u9 => ⟨fun hz => ?_, fun hz t8 H8 s8 h8 => ?_⟩⟩
        · cases e9
          rw [show okW 2 n ck = false from nk] at hz
          cases hz
        refine ⟨_, rfl, t8, "kind", bk, dk, rfl, h8, (gk5 _ (sm.trans s8)).2, fk, ?_⟩
        refine ⟨_, rfl, ?_⟩
        refine iteF ?_
        have sm8 := sm.trans s8
        refine ⟨_, rfl, 3, bs, .non, none, rfl, (gs5 _ sm8).1, tv_non, (.inr (.inr (.inr rfl))), fun _ t8 H8 s8 h8 => ?_, fun n9 e9 l9 u9 => (noIn ns e9 l9 u9).elim⟩
        refine ⟨_, rfl, t8, "size", bs, db, rfl, h8, (gs5 _ (sm8.trans s8)).2, fs, ?_⟩
        refine ⟨_, rfl, ?_⟩
        refine iteF ?_
        have sm9 := sm8.trans s8
        -- for good in [1, 10 ** 30, size]
        refine ⟨_, _, rfl, rfl, ⟨by decide, by decide, by decide⟩, _, rfl, by show 3 ≤ sizeLine; decide, fun L3 nL3 => ?_⟩
        obtain ⟨sM, hM⟩ := new_at (o := .lst [V.int 1, V.int ((10 : Int) ^ (30 : Int).toNat), V.int n]) nL3
        refine ⟨L3, rfl, ⟨_, SqL.of hM⟩, ?_⟩
        refine for_list (K := K) (a := L3) (xs := [V.int 1, V.int ((10 : Int) ^ (30 : Int).toNat), V.int n]) (fun _ σ H' => (∃ x7 x8 x9 x10, σ = [some (.ref p), some (.int n), some (.int r), some (.int c), some bs, some bc, some bk, x7, x8, x9, x10] ∧ Same H5 H') ∧ Same (upd H8 L3 (.lst [V.int 1, V.int ((10 : Int) ^ (30 : Int).toNat), V.int n])) H') ⟨⟨_, _, _, _, rfl, sm9.trans sM⟩, Same.refl _⟩ (fun i σ H' _ h => SqL.of (h.2 _ _ hM)) (fun i x σ H' hx h => ?_)
          (fun σ H' h => h.1)
        obtain ⟨⟨x7, x8, x9, x10, rfl, sm'⟩, sl'⟩ := h
        have hm : ∃ m : Int, x = .int m ∧ 1 ≤ m ∧ m ≤ big := by
          rcases three_it hx with e | e | e
          · exact ⟨1, e, by decide, by decide⟩
          · exact ⟨_, e, by rw [e30_]; decide, by rw [e30_]; decide⟩
          · exact ⟨n, e, n0, n1⟩
        obtain ⟨m, rfl, m0, m1⟩ := hm
        refine ⟨_, rfl, 3, .int m, .non, none, rfl, (pl_int m), tv_non, (.inr (.inr (.inr rfl))), fun hz => by (rw [inI_in m0 m1] at hz; cases hz), fun n9 e9 l9 u9 => ⟨fun hz t8 H8 s8 h8 => ?_, fun hz => ?_⟩⟩
        case' refine_2 =>
          cases e9
          rw [show okW 3 _ none = true from rfl] at hz
          cases hz
        refine ⟨t8, _, 0, _, rfl, rfl, SqT.of h8, rfl, rfl, _, rfl, ?_⟩
        refine ⟨_, rfl, by show 3 ≤ sizeLine; decide, fun t9 nt9 => ?_⟩
        obtain ⟨s9, h9⟩ := new_at (o := .tup [V.int 1, V.int 2, V.int 3]) nt9
        have sm8 := (sm'.trans s8).trans s9
        have sl8 := (sl'.trans s8).trans s9
        refine ⟨2, .int m, .ref t9, (some [V.int 1, V.int 2, V.int 3]), rfl, (pl_int m), ⟨t9, rfl, h9, by show 3 ≤ 100; decide, fmc (pl_int _) (fmc (pl_int _) (fmc (pl_int _) fmn))⟩, (.inr (.inr (.inl rfl))), fun hz => by (rw [inI_in m0 m1] at hz; cases hz), fun n9 e9 l9 u9 => ⟨fun hz t8 H8 s8 h8 => ?_, fun hz => ?_⟩⟩
        case' refine_2 =>
          cases e9
          rw [show okW 2 _ (some [V.int 1, V.int 2, V.int 3]) = true from rfl] at hz
          cases hz
        refine ⟨t8, _, 0, _, rfl, rfl, SqT.of h8, rfl, rfl, _, rfl, ?_⟩
        refine iteF ?_
        exact ⟨⟨_, _, _, _, rfl, sm8.trans s8⟩, sl8.trans s8⟩
    · obtain ⟨x7, x8, x9, x10, rfl, sm⟩ := h
      exact q _ (off5.trans (Same.off sm))
end
end Sq
namespace Sq
open PySem L2 TL
section
variable {P : Program} {w : World} {K : PySem.W.Frag} {mg : Str → Option Value} {base : Heap}
abbrev s_law : Stmt := top 38
theorem sc_law : FnScope ["_law_script", "_law_spot_here"] ["_law_script"] (defScope s_law) := ⟨rfl, rfl, rfl, by decide +kernel, rfl, by decide +kernel, by decide +kernel⟩
theorem okG_law {f : Addr} {fd : FuncData} (F : Fun K "law" "law" s_law f fd) (T : Bt mg) (b : Binds K fd ["_law_script"] []) (G__law_purl : FB P w K mg base "_law_purl" 1 ["_law_script", "_law_spot_here"] (spPurl K)) (GG__law_right : FBG P w K mg base "_law_right" 8 spRight) : FnG P w K mg base 9 f (spLaw K) := by
  refine FnG.of F sc_law b (fun vs H Q h => ?_) (fun cdv A outer s H vs Q hg hr h => ?_)
  · obtain ⟨a, ns, rfl, _⟩ := h
    rfl
  · obtain ⟨a, ns, rfl, hS, hl, q⟩ := h
    refine ⟨_, (pss_one (ps_ret (pe_callB (cr_all (by rfl)) (by rfl) T.all (by decide +kernel) (pa_cons (pe_lc (own := [("_law_spot_here", 1)]) (g := gName 1) (by rfl) sc_law.nd (pi_range1 (by rfl) T.range (pa_cons (pe_callB (call_max2 rfl) (by rfl) T.max (by decide +kernel) (pa_cons pe_int (pa_cons (pe_callB (call_min2 rfl) (by rfl) T.min (by decide +kernel) (pa_cons (pe_callB call_len_seq (by rfl) T.len PySem.boot_len (pa_cons (pv 0) pa_nil)) (pa_cons pe_int pa_nil))) pa_nil))) pa_nil)) (blkOk_by (own := [("_law_spot_here", 1)]) (N := ["_law_script", "_law_spot_here"]) (sc := defScope s_law) (by decide +kernel))
            (fun _ _ _ _ _ => (pg_name (i := 1) sc_law.nd rfl (by first | exact .inl rfl | exact .inr rfl))) (fun _ _ _ _ _ => pts_nil) (fun _ _ _ _ _ => (pe_fbG GG__law_right hg hr (by decide) (by rfl) (pa_cons (pe_fb G__law_purl hr (by decide) (by rfl) (pa_cons (pv 0) (pa_cons (pv 1) pa_nil))) pa_nil)))) pa_nil)))), ?_⟩
    refine ⟨_, rfl, a, _, rfl, .inl hS, _, _, rfl, _, _, rfl, ?_⟩
    rw [List.length_map]
    have hc : ∀ L : Int, 0 ≤ L → -(2 ^ 62) ≤ (if (if (6 : Int) < L then 6 else L) > 2 then (if (6 : Int) < L then 6 else L) else 2) ∧ (if (if (6 : Int) < L then 6 else L) > 2 then (if (6 : Int) < L then 6 else L) else 2) < 2 ^ 62 ∧
        (if (if (6 : Int) < L then 6 else L) > 2 then (if (6 : Int) < L then 6 else L) else 2).toNat ≤ 6 := by
      intro L hL
      split <;> split <;> refine ⟨?_, ?_, ?_⟩ <;> omega
    obtain ⟨hc1, hc2, hc3⟩ := hc (ns.length : Int) (Int.natCast_nonneg _)
    generalize (if (if (6 : Int) < (ns.length : Int) then 6 else (ns.length : Int)) > 2 then (if (6 : Int) < (ns.length : Int) then 6 else (ns.length : Int)) else 2) = lim at *
    refine ⟨lim, rfl, hc1, hc2, fun D nD => ?_⟩
    refine lc_range (lo := 0) (n := lim.toNat) (fun j H' => Same H H' ∧ ∃ bs : List Bool, H' D = some (.lst (bs.map V.bl)) ∧ bs.all id = true ∧ bs.length = j)
      ⟨same_new nD, [], upd_same, rfl, rfl⟩ (fun j H' hj h => ?_) (fun H' h => ?_)
    · obtain ⟨s3, bs, hD, hall', hlen⟩ := h
      refine ⟨rfl, ?_⟩
      rw [Int.zero_add]
      refine ⟨_, rfl, _, rfl, a, ns, j, rfl, SqL.ext hS s3, hl, by omega, fun p H3 np hp s4 => ?_⟩
      have nDp : D ≠ p := fun e => by rw [← e, hD] at np; cases np
      have hpH : H p = none := by
        cases e : H p with
        | none => rfl
        | some o => rw [s3 _ _ e] at np; cases np
      refine ⟨p, rfl, hp, fun H4 o4 => ⟨bs.map V.bl, o4 D _ nDp (s4 _ _ hD), ?_, ?_, bs ++ [true], ?_, ?_, ?_⟩⟩
      · rw [List.length_map, hlen]
        have h6 : 6 ≤ sizeLine := by decide
        omega
      · intro c o hx
        rw [upd_ne (fun e => by rw [e, nD] at hx; cases hx)]
        exact o4 c o (fun e => by rw [e, hpH] at hx; cases hx) (s4 c o (s3 c o hx))
      · rw [upd_same, List.map_append]
        all_goals rfl
      · rw [List.all_append, hall']
        rfl
      · rw [List.length_append, hlen]
        rfl
    · obtain ⟨s3, bs, hD, hall', _⟩ := h
      refine ⟨D, bs, rfl, SqL.of hD, ?_⟩
      rw [hall']
      exact q _
end
end Sq
namespace Sq
open PySem L2 TL
abbrev s_initS : Stmt := inClass (top 2) 0
theorem sc_initS : FnScope ["self", "given"] ["self", "given"] (defScope s_initS) := ⟨rfl, rfl, rfl, by decide +kernel, rfl, by decide +kernel, by decide +kernel⟩
abbrev s_initC : Stmt := inClass (top 3) 0
theorem sc_initC : FnScope ["self", "given"] ["self", "given"] (defScope s_initC) := ⟨rfl, rfl, rfl, by decide +kernel, rfl, by decide +kernel, by decide +kernel⟩
abbrev s_initK : Stmt := inClass (top 4) 0
theorem sc_initK : FnScope ["self", "given"] ["self", "given"] (defScope s_initK) := ⟨rfl, rfl, rfl, by decide +kernel, rfl, by decide +kernel, by decide +kernel⟩
theorem all_mk {P : Program} {w : World} {K : PySem.W.Frag} {h : Heap} {mg : Str → Option Value} {fa : Addr}
    {fF0 : Addr} {ocF0 kVF0 dcF0 pmF0 cdF0 ctF0 : Value} {odF0 anF0 : Option Addr} {slF0 : Array (Option Value)}
    {fF1 : Addr} {ocF1 kVF1 dcF1 pmF1 cdF1 ctF1 : Value} {odF1 anF1 : Option Addr} {slF1 : Array (Option Value)}
    {fF2 : Addr} {ocF2 kVF2 dcF2 pmF2 cdF2 ctF2 : Value} {odF2 anF2 : Option Addr} {slF2 : Array (Option Value)}
    {fF3 : Addr} {ocF3 kVF3 dcF3 pmF3 cdF3 ctF3 : Value} {odF3 anF3 : Option Addr} {slF3 : Array (Option Value)}
    {fF4 : Addr} {ocF4 kVF4 dcF4 pmF4 cdF4 ctF4 : Value} {odF4 anF4 : Option Addr} {slF4 : Array (Option Value)}
    {fF5 : Addr} {ocF5 kVF5 dcF5 pmF5 cdF5 ctF5 : Value} {odF5 anF5 : Option Addr} {slF5 : Array (Option Value)}
    {fF6 : Addr} {ocF6 kVF6 dcF6 pmF6 cdF6 ctF6 : Value} {odF6 anF6 : Option Addr} {slF6 : Array (Option Value)}
    {fF7 : Addr} {ocF7 kVF7 dcF7 pmF7 cdF7 ctF7 : Value} {odF7 anF7 : Option Addr} {slF7 : Array (Option Value)}
    {fF8 : Addr} {ocF8 kVF8 dcF8 pmF8 cdF8 ctF8 : Value} {odF8 anF8 : Option Addr} {slF8 : Array (Option Value)}
    {fF9 : Addr} {ocF9 kVF9 dcF9 pmF9 cdF9 ctF9 : Value} {odF9 anF9 : Option Addr} {slF9 : Array (Option Value)}
    {fF10 : Addr} {ocF10 kVF10 dcF10 pmF10 cdF10 ctF10 : Value} {odF10 anF10 : Option Addr} {slF10 : Array (Option Value)}
    {fF11 : Addr} {ocF11 kVF11 dcF11 pmF11 cdF11 ctF11 : Value} {odF11 anF11 : Option Addr} {slF11 : Array (Option Value)}
    {fF12 : Addr} {ocF12 kVF12 dcF12 pmF12 cdF12 ctF12 : Value} {odF12 anF12 : Option Addr} {slF12 : Array (Option Value)}
    {fF13 : Addr} {ocF13 kVF13 dcF13 pmF13 cdF13 ctF13 : Value} {odF13 anF13 : Option Addr} {slF13 : Array (Option Value)}
    {fF14 : Addr} {ocF14 kVF14 dcF14 pmF14 cdF14 ctF14 : Value} {odF14 anF14 : Option Addr} {slF14 : Array (Option Value)}
    {fF15 : Addr} {ocF15 kVF15 dcF15 pmF15 cdF15 ctF15 : Value} {odF15 anF15 : Option Addr} {slF15 : Array (Option Value)}
    {fF16 : Addr} {ocF16 kVF16 dcF16 pmF16 cdF16 ctF16 : Value} {odF16 anF16 : Option Addr} {slF16 : Array (Option Value)}
    {fF17 : Addr} {ocF17 kVF17 dcF17 pmF17 cdF17 ctF17 : Value} {odF17 anF17 : Option Addr} {slF17 : Array (Option Value)}
    {fF18 : Addr} {ocF18 kVF18 dcF18 pmF18 cdF18 ctF18 : Value} {odF18 anF18 : Option Addr} {slF18 : Array (Option Value)}
    {fF19 : Addr} {ocF19 kVF19 dcF19 pmF19 cdF19 ctF19 : Value} {odF19 anF19 : Option Addr} {slF19 : Array (Option Value)}
    {fF20 : Addr} {ocF20 kVF20 dcF20 pmF20 cdF20 ctF20 : Value} {odF20 anF20 : Option Addr} {slF20 : Array (Option Value)}
    {fF21 : Addr} {ocF21 kVF21 dcF21 pmF21 cdF21 ctF21 : Value} {odF21 anF21 : Option Addr} {slF21 : Array (Option Value)}
    {fF22 : Addr} {ocF22 kVF22 dcF22 pmF22 cdF22 ctF22 : Value} {odF22 anF22 : Option Addr} {slF22 : Array (Option Value)}
    {fF23 : Addr} {ocF23 kVF23 dcF23 pmF23 cdF23 ctF23 : Value} {odF23 anF23 : Option Addr} {slF23 : Array (Option Value)}
    {fF24 : Addr} {ocF24 kVF24 dcF24 pmF24 cdF24 ctF24 : Value} {odF24 anF24 : Option Addr} {slF24 : Array (Option Value)}
    {fF25 : Addr} {ocF25 kVF25 dcF25 pmF25 cdF25 ctF25 : Value} {odF25 anF25 : Option Addr} {slF25 : Array (Option Value)}
    {fF26 : Addr} {ocF26 kVF26 dcF26 pmF26 cdF26 ctF26 : Value} {odF26 anF26 : Option Addr} {slF26 : Array (Option Value)}
    {fF27 : Addr} {ocF27 kVF27 dcF27 pmF27 cdF27 ctF27 : Value} {odF27 anF27 : Option Addr} {slF27 : Array (Option Value)}
    {uMS : Tok}
    {tIC : Addr}
    {aDS' : Addr}
    {dIC : Option Addr} {itIC : Array Value} {nmIC : Nat} {sIC : Array (Option Value)}
    {esD : Array DictEntry} {epD : Nat}
    {CW : Addr}
    {CS fIS : Addr} {nmS qS : Str} {NS : Addr} {bsS bmS subS : List Value} {snS : List Str} {abS : Bool} {colS : Option Bool} {ddS : Option Addr} {m0S m1S m2S m3S m5S : Option Value} {ocIS kVIS dcIS pmIS cdIS ctIS : Value} {odIS anIS : Option Addr} {slIS : Array (Option Value)}
    {CC fIC : Addr} {nmC qC : Str} {NC : Addr} {bsC bmC subC : List Value} {snC : List Str} {abC : Bool} {colC : Option Bool} {ddC : Option Addr} {m0C m1C m2C m3C m5C : Option Value} {ocIC kVIC dcIC pmIC cdIC ctIC : Value} {odIC anIC : Option Addr} {slIC : Array (Option Value)}
    {CK fIK : Addr} {nmK qK : Str} {NK : Addr} {bsK bmK subK : List Value} {snK : List Str} {abK : Bool} {colK : Option Bool} {ddK : Option Addr} {m0K m1K m2K m3K m5K : Option Value} {ocIK kVIK dcIK pmIK cdIK ctIK : Value} {odIK anIK : Option Addr} {slIK : Array (Option Value)}
    (X : K.In h) (G : h.Ns mainGlobals mg) (hfa : mg "law" = some (.ref fa))
    (aF0 : PySem.W.nsIn K mainGlobals "_law_purl" = some (some (.ref fF0))) (lF0 : K.lookup fF0 = some ⟨ocF0, odF0, .func (PySem.W.fnOf "_law_purl" "_law_purl" (defArgs s__law_purl) (defBody s__law_purl) (defScope s__law_purl) .none kVF0 dcF0 pmF0 anF0 cdF0 ctF0), slF0⟩) (cF0 : PySem.W.codeIn K cdF0 "_law_purl" = true) (kF0 : PySem.W.keepIn K (.ref fF0) = true)
    (aF1 : PySem.W.nsIn K mainGlobals "_law_dig" = some (some (.ref fF1))) (lF1 : K.lookup fF1 = some ⟨ocF1, odF1, .func (PySem.W.fnOf "_law_dig" "_law_dig" (defArgs s__law_dig) (defBody s__law_dig) (defScope s__law_dig) .none kVF1 dcF1 pmF1 anF1 cdF1 ctF1), slF1⟩) (cF1 : PySem.W.codeIn K cdF1 "_law_dig" = true) (kF1 : PySem.W.keepIn K (.ref fF1) = true)
    (aF2 : PySem.W.nsIn K mainGlobals "_law_far" = some (some (.ref fF2))) (lF2 : K.lookup fF2 = some ⟨ocF2, odF2, .func (PySem.W.fnOf "_law_far" "_law_far" (defArgs s__law_far) (defBody s__law_far) (defScope s__law_far) .none kVF2 dcF2 pmF2 anF2 cdF2 ctF2), slF2⟩) (cF2 : PySem.W.codeIn K cdF2 "_law_far" = true) (kF2 : PySem.W.keepIn K (.ref fF2) = true)
    (aF3 : PySem.W.nsIn K mainGlobals "_law_spot" = some (some (.ref fF3))) (lF3 : K.lookup fF3 = some ⟨ocF3, odF3, .func (PySem.W.fnOf "_law_spot" "_law_spot" (defArgs s__law_spot) (defBody s__law_spot) (defScope s__law_spot) .none kVF3 dcF3 pmF3 anF3 cdF3 ctF3), slF3⟩) (cF3 : PySem.W.codeIn K cdF3 "_law_spot" = true) (kF3 : PySem.W.keepIn K (.ref fF3) = true)
    (aF4 : PySem.W.nsIn K mainGlobals "is_whole" = some (some (.ref fF4))) (lF4 : K.lookup fF4 = some ⟨ocF4, odF4, .func (PySem.W.fnOf "is_whole" "is_whole" (defArgs s_is_whole) (defBody s_is_whole) (defScope s_is_whole) .none kVF4 dcF4 pmF4 anF4 cdF4 ctF4), slF4⟩) (cF4 : PySem.W.codeIn K cdF4 "is_whole" = true) (kF4 : PySem.W.keepIn K (.ref fF4) = true)
    (aF5 : PySem.W.nsIn K mainGlobals "is_within" = some (some (.ref fF5))) (lF5 : K.lookup fF5 = some ⟨ocF5, odF5, .func (PySem.W.fnOf "is_within" "is_within" (defArgs s_is_within) (defBody s_is_within) (defScope s_is_within) .none kVF5 dcF5 pmF5 anF5 cdF5 ctF5), slF5⟩) (cF5 : PySem.W.codeIn K cdF5 "is_within" = true) (kF5 : PySem.W.keepIn K (.ref fF5) = true)
    (aF6 : PySem.W.nsIn K mainGlobals "check_size" = some (some (.ref fF6))) (lF6 : K.lookup fF6 = some ⟨ocF6, odF6, .func (PySem.W.fnOf "check_size" "check_size" (defArgs s_check_size) (defBody s_check_size) (defScope s_check_size) .none kVF6 dcF6 pmF6 anF6 cdF6 ctF6), slF6⟩) (cF6 : PySem.W.codeIn K cdF6 "check_size" = true) (kF6 : PySem.W.keepIn K (.ref fF6) = true)
    (aF7 : PySem.W.nsIn K mainGlobals "is_cell" = some (some (.ref fF7))) (lF7 : K.lookup fF7 = some ⟨ocF7, odF7, .func (PySem.W.fnOf "is_cell" "is_cell" (defArgs s_is_cell) (defBody s_is_cell) (defScope s_is_cell) .none kVF7 dcF7 pmF7 anF7 cdF7 ctF7), slF7⟩) (cF7 : PySem.W.codeIn K cdF7 "is_cell" = true) (kF7 : PySem.W.keepIn K (.ref fF7) = true)
    (aF8 : PySem.W.nsIn K mainGlobals "check_cell" = some (some (.ref fF8))) (lF8 : K.lookup fF8 = some ⟨ocF8, odF8, .func (PySem.W.fnOf "check_cell" "check_cell" (defArgs s_check_cell) (defBody s_check_cell) (defScope s_check_cell) .none kVF8 dcF8 pmF8 anF8 cdF8 ctF8), slF8⟩) (cF8 : PySem.W.codeIn K cdF8 "check_cell" = true) (kF8 : PySem.W.keepIn K (.ref fF8) = true)
    (aF9 : PySem.W.nsIn K mainGlobals "images_of" = some (some (.ref fF9))) (lF9 : K.lookup fF9 = some ⟨ocF9, odF9, .func (PySem.W.fnOf "images_of" "images_of" (defArgs s_images_of) (defBody s_images_of) (defScope s_images_of) .none kVF9 dcF9 pmF9 anF9 cdF9 ctF9), slF9⟩) (cF9 : PySem.W.codeIn K cdF9 "images_of" = true) (kF9 : PySem.W.keepIn K (.ref fF9) = true)
    (aF10 : PySem.W.nsIn K mainGlobals "kind_at" = some (some (.ref fF10))) (lF10 : K.lookup fF10 = some ⟨ocF10, odF10, .func (PySem.W.fnOf "kind_at" "kind_at" (defArgs s_kind_at) (defBody s_kind_at) (defScope s_kind_at) .none kVF10 dcF10 pmF10 anF10 cdF10 ctF10), slF10⟩) (cF10 : PySem.W.codeIn K cdF10 "kind_at" = true) (kF10 : PySem.W.keepIn K (.ref fF10) = true)
    (aF11 : PySem.W.nsIn K mainGlobals "shape_of" = some (some (.ref fF11))) (lF11 : K.lookup fF11 = some ⟨ocF11, odF11, .func (PySem.W.fnOf "shape_of" "shape_of" (defArgs s_shape_of) (defBody s_shape_of) (defScope s_shape_of) .none kVF11 dcF11 pmF11 anF11 cdF11 ctF11), slF11⟩) (cF11 : PySem.W.codeIn K cdF11 "shape_of" = true) (kF11 : PySem.W.keepIn K (.ref fF11) = true)
    (aF12 : PySem.W.nsIn K mainGlobals "images" = some (some (.ref fF12))) (lF12 : K.lookup fF12 = some ⟨ocF12, odF12, .func (PySem.W.fnOf "images" "images" (defArgs s_images) (defBody s_images) (defScope s_images) .none kVF12 dcF12 pmF12 anF12 cdF12 ctF12), slF12⟩) (cF12 : PySem.W.codeIn K cdF12 "images" = true) (kF12 : PySem.W.keepIn K (.ref fF12) = true)
    (aF13 : PySem.W.nsIn K mainGlobals "kind_of" = some (some (.ref fF13))) (lF13 : K.lookup fF13 = some ⟨ocF13, odF13, .func (PySem.W.fnOf "kind_of" "kind_of" (defArgs s_kind_of) (defBody s_kind_of) (defScope s_kind_of) .none kVF13 dcF13 pmF13 anF13 cdF13 ctF13), slF13⟩) (cF13 : PySem.W.codeIn K cdF13 "kind_of" = true) (kF13 : PySem.W.keepIn K (.ref fF13) = true)
    (aF14 : PySem.W.nsIn K mainGlobals "least_size" = some (some (.ref fF14))) (lF14 : K.lookup fF14 = some ⟨ocF14, odF14, .func (PySem.W.fnOf "least_size" "least_size" (defArgs s_least_size) (defBody s_least_size) (defScope s_least_size) .none kVF14 dcF14 pmF14 anF14 cdF14 ctF14), slF14⟩) (cF14 : PySem.W.codeIn K cdF14 "least_size" = true) (kF14 : PySem.W.keepIn K (.ref fF14) = true)
    (aF15 : PySem.W.nsIn K mainGlobals "ways" = some (some (.ref fF15))) (lF15 : K.lookup fF15 = some ⟨ocF15, odF15, .func (PySem.W.fnOf "ways" "ways" (defArgs s_ways) (defBody s_ways) (defScope s_ways) .none kVF15 dcF15 pmF15 anF15 cdF15 ctF15), slF15⟩) (cF15 : PySem.W.codeIn K cdF15 "ways" = true) (kF15 : PySem.W.keepIn K (.ref fF15) = true)
    (aF16 : PySem.W.nsIn K mainGlobals "group_count" = some (some (.ref fF16))) (lF16 : K.lookup fF16 = some ⟨ocF16, odF16, .func (PySem.W.fnOf "group_count" "group_count" (defArgs s_group_count) (defBody s_group_count) (defScope s_group_count) .none kVF16 dcF16 pmF16 anF16 cdF16 ctF16), slF16⟩) (cF16 : PySem.W.codeIn K cdF16 "group_count" = true) (kF16 : PySem.W.keepIn K (.ref fF16) = true)
    (aF17 : PySem.W.nsIn K mainGlobals "image_count" = some (some (.ref fF17))) (lF17 : K.lookup fF17 = some ⟨ocF17, odF17, .func (PySem.W.fnOf "image_count" "image_count" (defArgs s_image_count) (defBody s_image_count) (defScope s_image_count) .none kVF17 dcF17 pmF17 anF17 cdF17 ctF17), slF17⟩) (cF17 : PySem.W.codeIn K cdF17 "image_count" = true) (kF17 : PySem.W.keepIn K (.ref fF17) = true)
    (aF18 : PySem.W.nsIn K mainGlobals "is_kind" = some (some (.ref fF18))) (lF18 : K.lookup fF18 = some ⟨ocF18, odF18, .func (PySem.W.fnOf "is_kind" "is_kind" (defArgs s_is_kind) (defBody s_is_kind) (defScope s_is_kind) .none kVF18 dcF18 pmF18 anF18 cdF18 ctF18), slF18⟩) (cF18 : PySem.W.codeIn K cdF18 "is_kind" = true) (kF18 : PySem.W.keepIn K (.ref fF18) = true)
    (aF19 : PySem.W.nsIn K mainGlobals "cell_count" = some (some (.ref fF19))) (lF19 : K.lookup fF19 = some ⟨ocF19, odF19, .func (PySem.W.fnOf "cell_count" "cell_count" (defArgs s_cell_count) (defBody s_cell_count) (defScope s_cell_count) .none kVF19 dcF19 pmF19 anF19 cdF19 ctF19), slF19⟩) (cF19 : PySem.W.codeIn K cdF19 "cell_count" = true) (kF19 : PySem.W.keepIn K (.ref fF19) = true)
    (aF20 : PySem.W.nsIn K mainGlobals "kinds_of" = some (some (.ref fF20))) (lF20 : K.lookup fF20 = some ⟨ocF20, odF20, .func (PySem.W.fnOf "kinds_of" "kinds_of" (defArgs s_kinds_of) (defBody s_kinds_of) (defScope s_kinds_of) .none kVF20 dcF20 pmF20 anF20 cdF20 ctF20), slF20⟩) (cF20 : PySem.W.codeIn K cdF20 "kinds_of" = true) (kF20 : PySem.W.keepIn K (.ref fF20) = true)
    (aF21 : PySem.W.nsIn K mainGlobals "_law_oddsize" = some (some (.ref fF21))) (lF21 : K.lookup fF21 = some ⟨ocF21, odF21, .func (PySem.W.fnOf "_law_oddsize" "_law_oddsize" (defArgs s__law_oddsize) (defBody s__law_oddsize) (defScope s__law_oddsize) .none kVF21 dcF21 pmF21 anF21 cdF21 ctF21), slF21⟩) (cF21 : PySem.W.codeIn K cdF21 "_law_oddsize" = true) (kF21 : PySem.W.keepIn K (.ref fF21) = true)
    (aF22 : PySem.W.nsIn K mainGlobals "_law_oddcell" = some (some (.ref fF22))) (lF22 : K.lookup fF22 = some ⟨ocF22, odF22, .func (PySem.W.fnOf "_law_oddcell" "_law_oddcell" (defArgs s__law_oddcell) (defBody s__law_oddcell) (defScope s__law_oddcell) .none kVF22 dcF22 pmF22 anF22 cdF22 ctF22), slF22⟩) (cF22 : PySem.W.codeIn K cdF22 "_law_oddcell" = true) (kF22 : PySem.W.keepIn K (.ref fF22) = true)
    (aF23 : PySem.W.nsIn K mainGlobals "_law_oddkind" = some (some (.ref fF23))) (lF23 : K.lookup fF23 = some ⟨ocF23, odF23, .func (PySem.W.fnOf "_law_oddkind" "_law_oddkind" (defArgs s__law_oddkind) (defBody s__law_oddkind) (defScope s__law_oddkind) .none kVF23 dcF23 pmF23 anF23 cdF23 ctF23), slF23⟩) (cF23 : PySem.W.codeIn K cdF23 "_law_oddkind" = true) (kF23 : PySem.W.keepIn K (.ref fF23) = true)
    (aF24 : PySem.W.nsIn K mainGlobals "_law_met" = some (some (.ref fF24))) (lF24 : K.lookup fF24 = some ⟨ocF24, odF24, .func (PySem.W.fnOf "_law_met" "_law_met" (defArgs s__law_met) (defBody s__law_met) (defScope s__law_met) .none kVF24 dcF24 pmF24 anF24 cdF24 ctF24), slF24⟩) (cF24 : PySem.W.codeIn K cdF24 "_law_met" = true) (kF24 : PySem.W.keepIn K (.ref fF24) = true)
    (aF25 : PySem.W.nsIn K mainGlobals "_law_same" = some (some (.ref fF25))) (lF25 : K.lookup fF25 = some ⟨ocF25, odF25, .func (PySem.W.fnOf "_law_same" "_law_same" (defArgs s__law_same) (defBody s__law_same) (defScope s__law_same) .none kVF25 dcF25 pmF25 anF25 cdF25 ctF25), slF25⟩) (cF25 : PySem.W.codeIn K cdF25 "_law_same" = true) (kF25 : PySem.W.keepIn K (.ref fF25) = true)
    (aF26 : PySem.W.nsIn K mainGlobals "_law_right" = some (some (.ref fF26))) (lF26 : K.lookup fF26 = some ⟨ocF26, odF26, .func (PySem.W.fnOf "_law_right" "_law_right" (defArgs s__law_right) (defBody s__law_right) (defScope s__law_right) .none kVF26 dcF26 pmF26 anF26 cdF26 ctF26), slF26⟩) (cF26 : PySem.W.codeIn K cdF26 "_law_right" = true) (kF26 : PySem.W.keepIn K (.ref fF26) = true)
    (aF27 : PySem.W.nsIn K mainGlobals "law" = some (some (.ref fF27))) (lF27 : K.lookup fF27 = some ⟨ocF27, odF27, .func (PySem.W.fnOf "law" "law" (defArgs s_law) (defBody s_law) (defScope s_law) .none kVF27 dcF27 pmF27 anF27 cdF27 ctF27), slF27⟩) (cF27 : PySem.W.codeIn K cdF27 "law" = true) (kF27 : PySem.W.keepIn K (.ref fF27) = true)
    (aMS : PySem.W.nsIn K mainGlobals "MOST_SIZE" = some (some (.int big uMS)))
    (aIC : PySem.W.nsIn K mainGlobals "IMAGE_COUNTS" = some (some (.ref tIC)))
    (aDS : PySem.W.nsIn K mainGlobals "DECIDING_SIZES" = some (some (.ref aDS')))
    (jIC : K.lookup tIC = some ⟨.type "tuple", dIC, .seq itIC nmIC, sIC⟩)
    (hIC : itIC.size ≤ sizeLine)
    (vIC : Vals [.int 8, .int 4, .int 4, .int 1] itIC.toList)
    (jDS : K.lookup aDS' = some ⟨.type "dict", none, .dict esD epD, #[]⟩)
    (kDS : (aDS' == sysModules) = false)
    (vDS : esD.toList.map (fun e => tupW K e.key) = all24.map (fun k => some [k.1, k.2.1, k.2.2]))
    (aW : PySem.W.nsIn K mainGlobals "WrongValue" = some (some (.ref CW)))
    (aS_ : PySem.W.nsIn K mainGlobals "InvalidSize" = some (some (.ref CS)))
    (xS_ : K.lookup CS = some (excClassObj nmS qS CS NS bsS bmS true snS subS abS colS ddS m0S m1S m2S m3S m5S "ValueError.__new__"))
    (vS_ : PySem.HandSPX.refsVE bmS = true)
    (saS_ : PySem.W.findIn K (.ref CS) "__setattr__" = some (some (.builtin "object.__setattr__")))
    (gaS_ : PySem.W.findIn K (.ref CS) "__getattribute__" = some (some (.builtin "BaseException.__getattribute__")))
    (ggS_ : PySem.W.findIn K (.ref CS) "__getattr__" = some none)
    (gvS_ : PySem.W.findIn K (.ref CS) "given" = some none)
    (iS_ : PySem.W.findIn K (.ref CS) "__init__" = some (some (.ref fIS)))
    (tS_ : PySem.W.typeIn K (.ref fIS) = some (.type "function"))
    (lS_ : K.lookup fIS = some ⟨ocIS, odIS, .func (PySem.W.fnOf "__init__" "InvalidSize.__init__" (defArgs s_initS) (defBody s_initS) (defScope s_initS) .none kVIS dcIS pmIS anIS cdIS ctIS), slIS⟩)
    (cS_ : PySem.W.codeIn K cdIS "InvalidSize.__init__" = true)
    (kfS_ : PySem.W.keepIn K (.ref fIS) = true)
    (kS_ : PySem.W.keepIn K (.ref CS) = true)
    (eS_ : PySem.W.subIn K (.ref CS) (.type "BaseException") = some true)
    (yS_ : PySem.W.typeIn K (.ref CS) = some (.type "type"))
    (hS_ : PySem.W.hasDictIn K CS = true)
    (clS_ : PySem.W.findIn K (.ref CS) "__class__" = some (some (.builtin "object.__class__")))
    (mrS_ : PySem.W.mroIn K CS (.type "object") = some true)
    (aC_ : PySem.W.nsIn K mainGlobals "InvalidCell" = some (some (.ref CC)))
    (xC_ : K.lookup CC = some (excClassObj nmC qC CC NC bsC bmC true snC subC abC colC ddC m0C m1C m2C m3C m5C "ValueError.__new__"))
    (vC_ : PySem.HandSPX.refsVE bmC = true)
    (saC_ : PySem.W.findIn K (.ref CC) "__setattr__" = some (some (.builtin "object.__setattr__")))
    (gaC_ : PySem.W.findIn K (.ref CC) "__getattribute__" = some (some (.builtin "BaseException.__getattribute__")))
    (ggC_ : PySem.W.findIn K (.ref CC) "__getattr__" = some none)
    (gvC_ : PySem.W.findIn K (.ref CC) "given" = some none)
    (iC_ : PySem.W.findIn K (.ref CC) "__init__" = some (some (.ref fIC)))
    (tC_ : PySem.W.typeIn K (.ref fIC) = some (.type "function"))
    (lC_ : K.lookup fIC = some ⟨ocIC, odIC, .func (PySem.W.fnOf "__init__" "InvalidCell.__init__" (defArgs s_initC) (defBody s_initC) (defScope s_initC) .none kVIC dcIC pmIC anIC cdIC ctIC), slIC⟩)
    (cC_ : PySem.W.codeIn K cdIC "InvalidCell.__init__" = true)
    (kfC_ : PySem.W.keepIn K (.ref fIC) = true)
    (kC_ : PySem.W.keepIn K (.ref CC) = true)
    (eC_ : PySem.W.subIn K (.ref CC) (.type "BaseException") = some true)
    (yC_ : PySem.W.typeIn K (.ref CC) = some (.type "type"))
    (hC_ : PySem.W.hasDictIn K CC = true)
    (clC_ : PySem.W.findIn K (.ref CC) "__class__" = some (some (.builtin "object.__class__")))
    (mrC_ : PySem.W.mroIn K CC (.type "object") = some true)
    (aK_ : PySem.W.nsIn K mainGlobals "InvalidKind" = some (some (.ref CK)))
    (xK_ : K.lookup CK = some (excClassObj nmK qK CK NK bsK bmK true snK subK abK colK ddK m0K m1K m2K m3K m5K "ValueError.__new__"))
    (vK_ : PySem.HandSPX.refsVE bmK = true)
    (saK_ : PySem.W.findIn K (.ref CK) "__setattr__" = some (some (.builtin "object.__setattr__")))
    (gaK_ : PySem.W.findIn K (.ref CK) "__getattribute__" = some (some (.builtin "BaseException.__getattribute__")))
    (ggK_ : PySem.W.findIn K (.ref CK) "__getattr__" = some none)
    (gvK_ : PySem.W.findIn K (.ref CK) "given" = some none)
    (iK_ : PySem.W.findIn K (.ref CK) "__init__" = some (some (.ref fIK)))
    (tK_ : PySem.W.typeIn K (.ref fIK) = some (.type "function"))
    (lK_ : K.lookup fIK = some ⟨ocIK, odIK, .func (PySem.W.fnOf "__init__" "InvalidKind.__init__" (defArgs s_initK) (defBody s_initK) (defScope s_initK) .none kVIK dcIK pmIK anIK cdIK ctIK), slIK⟩)
    (cK_ : PySem.W.codeIn K cdIK "InvalidKind.__init__" = true)
    (kfK_ : PySem.W.keepIn K (.ref fIK) = true)
    (kK_ : PySem.W.keepIn K (.ref CK) = true)
    (eK_ : PySem.W.subIn K (.ref CK) (.type "BaseException") = some true)
    (yK_ : PySem.W.typeIn K (.ref CK) = some (.type "type"))
    (hK_ : PySem.W.hasDictIn K CK = true)
    (clK_ : PySem.W.findIn K (.ref CK) "__class__" = some (some (.builtin "object.__class__")))
    (mrK_ : PySem.W.mroIn K CK (.type "object") = some true)
    (sp_ : PySem.W.specialIn K (.builtin "object.__class__") "__get__" = some (some (.builtin "getset_descriptor.__get__")))
    (tk_ : PySem.W.takesIn K (.builtin "object.__class__") = some true)
    (uSS_ : PySem.W.subIn K (.ref CS) (.ref CS) = some true)
    (uCS_ : PySem.W.subIn K (.ref CC) (.ref CS) = some false)
    (uCC_ : PySem.W.subIn K (.ref CC) (.ref CC) = some true)
    (uKS_ : PySem.W.subIn K (.ref CK) (.ref CS) = some false)
    (uKC_ : PySem.W.subIn K (.ref CK) (.ref CC) = some false)
    (uKK_ : PySem.W.subIn K (.ref CK) (.ref CK) = some true)
    (oSC_ : PySem.W.kitOne K (.ref CS) (.ref CC) = some false)
    (oCK_ : PySem.W.kitOne K (.ref CC) (.ref CK) = some false)
    (z_len : PySem.W.nsIn K mainGlobals "len" = some none)
    (z_int : PySem.W.nsIn K mainGlobals "int" = some none)
    (z_abs : PySem.W.nsIn K mainGlobals "abs" = some none)
    (z_divmod : PySem.W.nsIn K mainGlobals "divmod" = some none)
    (z_range : PySem.W.nsIn K mainGlobals "range" = some none)
    (z_isinstance : PySem.W.nsIn K mainGlobals "isinstance" = some none)
    (z_bool : PySem.W.nsIn K mainGlobals "bool" = some none)
    (z_tuple : PySem.W.nsIn K mainGlobals "tuple" = some none)
    (z_str : PySem.W.nsIn K mainGlobals "str" = some none)
    (z_list : PySem.W.nsIn K mainGlobals "list" = some none)
    (z_min : PySem.W.nsIn K mainGlobals "min" = some none)
    (z_max : PySem.W.nsIn K mainGlobals "max" = some none)
    (z_all : PySem.W.nsIn K mainGlobals "all" = some none)
    (z_any : PySem.W.nsIn K mainGlobals "any" = some none)
    (z_sum : PySem.W.nsIn K mainGlobals "sum" = some none)
    (z_sorted : PySem.W.nsIn K mainGlobals "sorted" = some none)
    (z_enumerate : PySem.W.nsIn K mainGlobals "enumerate" = some none)
    (z_repr : PySem.W.nsIn K mainGlobals "repr" = some none) :
    ∀ base : Heap, FnG P w K mg base 9 fa (spLaw K) := by
  intro base
  have e := hfa.symm.trans (PySem.W.mg_of X G aF27)
  cases e
  have GF0 := fun_mk (st := s__law_purl) lF0 cF0 kF0
  have bF0 := GF0.binds (ps := ["_law_script", "_law_spot_here"]) fun _ _ _ _ _ _ us hl => match us, hl with | [_, _], _ => rfl
  have GF1 := fun_mk (st := s__law_dig) lF1 cF1 kF1
  have bF1 := GF1.binds (ps := ["_law_purl_here", "_law_many"]) fun _ _ _ _ _ _ us hl => match us, hl with | [_, _], _ => rfl
  have GF2 := fun_mk (st := s__law_far) lF2 cF2 kF2
  have bF2 := GF2.binds (ps := ["_law_purl_here"]) fun _ _ _ _ _ _ us hl => match us, hl with | [_], _ => rfl
  have GF3 := fun_mk (st := s__law_spot) lF3 cF3 kF3
  have bF3 := GF3.binds (ps := ["_law_purl_here", "_law_size"]) fun _ _ _ _ _ _ us hl => match us, hl with | [_, _], _ => rfl
  have GF4 := fun_mk (st := s_is_whole) lF4 cF4 kF4
  have bF4 := GF4.binds (ps := ["value"]) fun _ _ _ _ _ _ us hl => match us, hl with | [_], _ => rfl
  have GF5 := fun_mk (st := s_is_within) lF5 cF5 kF5
  have bF5 := GF5.binds (ps := ["value", "least", "most"]) fun _ _ _ _ _ _ us hl => match us, hl with | [_, _, _], _ => rfl
  have GF6 := fun_mk (st := s_check_size) lF6 cF6 kF6
  have bF6 := GF6.binds (ps := ["size"]) fun _ _ _ _ _ _ us hl => match us, hl with | [_], _ => rfl
  have GF7 := fun_mk (st := s_is_cell) lF7 cF7 kF7
  have bF7 := GF7.binds (ps := ["size", "value"]) fun _ _ _ _ _ _ us hl => match us, hl with | [_, _], _ => rfl
  have GF8 := fun_mk (st := s_check_cell) lF8 cF8 kF8
  have bF8 := GF8.binds (ps := ["size", "cell"]) fun _ _ _ _ _ _ us hl => match us, hl with | [_, _], _ => rfl
  have GF9 := fun_mk (st := s_images_of) lF9 cF9 kF9
  have bF9 := GF9.binds (ps := ["size", "row", "column"]) fun _ _ _ _ _ _ us hl => match us, hl with | [_, _, _], _ => rfl
  have GF10 := fun_mk (st := s_kind_at) lF10 cF10 kF10
  have bF10 := GF10.binds (ps := ["size", "row", "column"]) fun _ _ _ _ _ _ us hl => match us, hl with | [_, _, _], _ => rfl
  have GF11 := fun_mk (st := s_shape_of) lF11 cF11 kF11
  have bF11 := GF11.binds (ps := ["kind"]) fun _ _ _ _ _ _ us hl => match us, hl with | [_], _ => rfl
  have GF12 := fun_mk (st := s_images) lF12 cF12 kF12
  have bF12 := GF12.binds (ps := ["size", "cell"]) fun _ _ _ _ _ _ us hl => match us, hl with | [_, _], _ => rfl
  have GF13 := fun_mk (st := s_kind_of) lF13 cF13 kF13
  have bF13 := GF13.binds (ps := ["size", "cell"]) fun _ _ _ _ _ _ us hl => match us, hl with | [_, _], _ => rfl
  have GF14 := fun_mk (st := s_least_size) lF14 cF14 kF14
  have bF14 := GF14.binds (ps := ["kind"]) fun _ _ _ _ _ _ us hl => match us, hl with | [_], _ => rfl
  have GF15 := fun_mk (st := s_ways) lF15 cF15 kF15
  have bF15 := GF15.binds (ps := ["parts", "total"]) fun _ _ _ _ _ _ us hl => match us, hl with | [_, _], _ => rfl
  have GF16 := fun_mk (st := s_group_count) lF16 cF16 kF16
  have bF16 := GF16.binds (ps := ["size", "kind"]) fun _ _ _ _ _ _ us hl => match us, hl with | [_, _], _ => rfl
  have GF17 := fun_mk (st := s_image_count) lF17 cF17 kF17
  have bF17 := GF17.binds (ps := ["kind"]) fun _ _ _ _ _ _ us hl => match us, hl with | [_], _ => rfl
  have GF18 := fun_mk (st := s_is_kind) lF18 cF18 kF18
  have bF18 := GF18.binds (ps := ["value"]) fun _ _ _ _ _ _ us hl => match us, hl with | [_], _ => rfl
  have GF19 := fun_mk (st := s_cell_count) lF19 cF19 kF19
  have bF19 := GF19.binds (ps := ["size", "kind"]) fun _ _ _ _ _ _ us hl => match us, hl with | [_, _], _ => rfl
  have GF20 := fun_mk (st := s_kinds_of) lF20 cF20 kF20
  have bF20 := GF20.binds (ps := ["size"]) fun _ _ _ _ _ _ us hl => match us, hl with | [_], _ => rfl
  have GF21 := fun_mk (st := s__law_oddsize) lF21 cF21 kF21
  have bF21 := GF21.binds (ps := ["_law_purl_here", "_law_great"]) fun _ _ _ _ _ _ us hl => match us, hl with | [_, _], _ => rfl
  have GF22 := fun_mk (st := s__law_oddcell) lF22 cF22 kF22
  have bF22 := GF22.binds (ps := ["_law_purl_here", "_law_size", "_law_row", "_law_column"]) fun _ _ _ _ _ _ us hl => match us, hl with | [_, _, _, _], _ => rfl
  have GF23 := fun_mk (st := s__law_oddkind) lF23 cF23 kF23
  have bF23 := GF23.binds (ps := ["_law_purl_here"]) fun _ _ _ _ _ _ us hl => match us, hl with | [_], _ => rfl
  have GF24 := fun_mk (st := s__law_met) lF24 cF24 kF24
  have bF24 := GF24.binds (ps := ["_law_way", "_law_size", "_law_value"]) fun _ _ _ _ _ _ us hl => match us, hl with | [_, _, _], _ => rfl
  have GF25 := fun_mk (st := s__law_same) lF25 cF25 kF25
  have bF25 := GF25.binds (ps := ["_law_found", "_law_word", "_law_value"]) fun _ _ _ _ _ _ us hl => match us, hl with | [_, _, _], _ => rfl
  have GF26 := fun_mk (st := s__law_right) lF26 cF26 kF26
  have bF26 := GF26.binds (ps := ["_law_purl_here"]) fun _ _ _ _ _ _ us hl => match us, hl with | [_], _ => rfl
  have GF27 := fun_mk (st := s_law) lF27 cF27 kF27
  have bF27 := GF27.binds (ps := ["_law_script"]) fun _ _ _ _ _ _ us hl => match us, hl with | [_], _ => rfl
  have T : Bt mg := ⟨PySem.W.mg_none_of X G z_len, PySem.W.mg_none_of X G z_int, PySem.W.mg_none_of X G z_abs, PySem.W.mg_none_of X G z_divmod, PySem.W.mg_none_of X G z_range, PySem.W.mg_none_of X G z_isinstance, PySem.W.mg_none_of X G z_bool, PySem.W.mg_none_of X G z_tuple, PySem.W.mg_none_of X G z_str, PySem.W.mg_none_of X G z_list, PySem.W.mg_none_of X G z_min, PySem.W.mg_none_of X G z_max, PySem.W.mg_none_of X G z_all, PySem.W.mg_none_of X G z_any, PySem.W.mg_none_of X G z_sum, PySem.W.mg_none_of X G z_sorted, PySem.W.mg_none_of X G z_enumerate⟩
  have IS := fun_mk (st := s_initS) lS_ cS_ kfS_
  have bIS := IS.binds (ps := ["self", "given"]) fun _ _ _ _ _ _ us hl => match us, hl with | [_, _], _ => rfl
  have XS : OexC K CS := ⟨⟨_, _, _, _, _, _, _, _, _, _, _, _, _, _, _, xS_, vS_⟩, saS_, eS_, yS_, kS_⟩
  have fS : XfC K CS := ⟨gaS_, ggS_, eS_, hS_⟩
  have RS : ErrC P w K mg base "InvalidSize" "given" CS := ⟨XS, fS, gvS_, PySem.W.mg_of X G aS_, ⟨_, _, _, iS_, tS_, ok_einit (P := P) (w := w) (mg := mg) (base := base) IS sc_initS rfl rfl rfl XS gvS_, bIS⟩⟩
  have cS : ExcC K CS := ⟨gaS_, ggS_, eS_, hS_, clS_, sp_, tk_, mrS_⟩
  have IC := fun_mk (st := s_initC) lC_ cC_ kfC_
  have bIC := IC.binds (ps := ["self", "given"]) fun _ _ _ _ _ _ us hl => match us, hl with | [_, _], _ => rfl
  have XC : OexC K CC := ⟨⟨_, _, _, _, _, _, _, _, _, _, _, _, _, _, _, xC_, vC_⟩, saC_, eC_, yC_, kC_⟩
  have fC : XfC K CC := ⟨gaC_, ggC_, eC_, hC_⟩
  have RC : ErrC P w K mg base "InvalidCell" "given" CC := ⟨XC, fC, gvC_, PySem.W.mg_of X G aC_, ⟨_, _, _, iC_, tC_, ok_einit (P := P) (w := w) (mg := mg) (base := base) IC sc_initC rfl rfl rfl XC gvC_, bIC⟩⟩
  have cC : ExcC K CC := ⟨gaC_, ggC_, eC_, hC_, clC_, sp_, tk_, mrC_⟩
  have IK := fun_mk (st := s_initK) lK_ cK_ kfK_
  have bIK := IK.binds (ps := ["self", "given"]) fun _ _ _ _ _ _ us hl => match us, hl with | [_, _], _ => rfl
  have XK : OexC K CK := ⟨⟨_, _, _, _, _, _, _, _, _, _, _, _, _, _, _, xK_, vK_⟩, saK_, eK_, yK_, kK_⟩
  have fK : XfC K CK := ⟨gaK_, ggK_, eK_, hK_⟩
  have RK : ErrC P w K mg base "InvalidKind" "given" CK := ⟨XK, fK, gvK_, PySem.W.mg_of X G aK_, ⟨_, _, _, iK_, tK_, ok_einit (P := P) (w := w) (mg := mg) (base := base) IK sc_initK rfl rfl rfl XK gvK_, bIK⟩⟩
  have cK : ExcC K CK := ⟨gaK_, ggK_, eK_, hK_, clK_, sp_, tk_, mrK_⟩
  have Z : Er K mg CS CC CK CW := ⟨PySem.W.mg_of X G aS_, PySem.W.mg_of X G aC_, PySem.W.mg_of X G aK_, PySem.W.mg_of X G aW, fS, fC, fK, cS, cC, gvS_, gvC_, gvK_, PySem.W.exm_ref eS_ hS_ yS_ uSS_, PySem.W.exm_ref eS_ hS_ yS_ uCS_, PySem.W.exm_ref eC_ hC_ yC_ uCC_, PySem.W.exm_ref eS_ hS_ yS_ uKS_, PySem.W.exm_ref eC_ hC_ yC_ uKC_, PySem.W.exm_ref eK_ hK_ yK_ uKK_, oSC_, oCK_⟩
  have BF0 : FB P w K mg base "_law_purl" 1 ["_law_script", "_law_spot_here"] (spPurl K) := ⟨fF0, _, ok__law_purl (P := P) (w := w) (base := base) GF0 T , PySem.W.mg_of X G aF0, kF0, bF0⟩
  have BF1 : FB P w K mg base "_law_dig" 1 ["_law_purl_here", "_law_many"] spDig := ⟨fF1, _, ok__law_dig (P := P) (w := w) (base := base) GF1 T , PySem.W.mg_of X G aF1, kF1, bF1⟩
  have BF2 : FB P w K mg base "_law_far" 2 ["_law_purl_here"] spFar := ⟨fF2, _, ok__law_far (P := P) (w := w) (base := base) GF2 T BF1, PySem.W.mg_of X G aF2, kF2, bF2⟩
  have BF3 : FB P w K mg base "_law_spot" 2 ["_law_purl_here", "_law_size"] spSpot := ⟨fF3, _, ok__law_spot (P := P) (w := w) (base := base) GF3 T BF1, PySem.W.mg_of X G aF3, kF3, bF3⟩
  have BF4 : FB P w K mg base "is_whole" 1 ["value"] spWhole := ⟨fF4, _, ok_is_whole (P := P) (w := w) (base := base) GF4 T , PySem.W.mg_of X G aF4, kF4, bF4⟩
  have BF5 : FB P w K mg base "is_within" 2 ["value", "least", "most"] spWithin := ⟨fF5, _, ok_is_within (P := P) (w := w) (base := base) GF5 T BF4, PySem.W.mg_of X G aF5, kF5, bF5⟩
  have BF6 : FB P w K mg base "check_size" 3 ["size"] spSize := ⟨fF6, _, ok_check_size (P := P) (w := w) (base := base) GF6 T BF5 (PySem.W.mg_of X G aMS), PySem.W.mg_of X G aF6, kF6, bF6⟩
  have BF7 : FB P w K mg base "is_cell" 3 ["size", "value"] spCell := ⟨fF7, _, ok_is_cell (P := P) (w := w) (base := base) GF7 T BF5, PySem.W.mg_of X G aF7, kF7, bF7⟩
  have BF8 : FB P w K mg base "check_cell" 4 ["size", "cell"] spCellOk := ⟨fF8, _, ok_check_cell (P := P) (w := w) (base := base) GF8 T BF7, PySem.W.mg_of X G aF8, kF8, bF8⟩
  have BF9 : FB P w K mg base "images_of" 1 ["size", "row", "column"] spImOf := ⟨fF9, _, ok_images_of (P := P) (w := w) (base := base) GF9 T , PySem.W.mg_of X G aF9, kF9, bF9⟩
  have BF10 : FB P w K mg base "kind_at" 1 ["size", "row", "column"] spSort := ⟨fF10, _, ok_kind_at (P := P) (w := w) (base := base) GF10 T , PySem.W.mg_of X G aF10, kF10, bF10⟩
  have BF11 : FB P w K mg base "shape_of" 1 ["kind"] spShape := ⟨fF11, _, ok_shape_of (P := P) (w := w) (base := base) GF11 T , PySem.W.mg_of X G aF11, kF11, bF11⟩
  have BF18 : FB P w K mg base "is_kind" 3 ["value"] spIsKind := ⟨fF18, _, ok_is_kind (P := P) (w := w) (base := base) GF18 T BF5, PySem.W.mg_of X G aF18, kF18, bF18⟩
  have BF14 : FB P w K mg base "least_size" 1 ["kind"] (spLeastS K) := ⟨fF14, _, ok_least_size (P := P) (w := w) (base := base) GF14 T , PySem.W.mg_of X G aF14, kF14, bF14⟩
  have BF15 : FB P w K mg base "ways" 1 ["parts", "total"] spWays := ⟨fF15, _, ok_ways (P := P) (w := w) (base := base) GF15 T , PySem.W.mg_of X G aF15, kF15, bF15⟩
  have BF16 : FB P w K mg base "group_count" 2 ["size", "kind"] (spGroupS K) := ⟨fF16, _, ok_group_count (P := P) (w := w) (base := base) GF16 T BF14 BF15, PySem.W.mg_of X G aF16, kF16, bF16⟩
  have BF17 : FB P w K mg base "image_count" 2 ["kind"] spImgS := ⟨fF17, _, ok_image_count (P := P) (w := w) (base := base) GF17 T BF11 (PySem.W.mg_of X G aIC) (fun H => .inr ⟨_, itIC, nmIC, jIC, rfl, rfl, hIC, vIC⟩), PySem.W.mg_of X G aF17, kF17, bF17⟩
  have AF4 : FB P w K mg base "is_whole" 1 ["value"] (spWholeA K) := ⟨fF4, _, ok_is_wholeA (P := P) (w := w) (base := base) GF4 T , PySem.W.mg_of X G aF4, kF4, bF4⟩
  have AF5 : FB P w K mg base "is_within" 2 ["value", "least", "most"] (spWithinA K) := ⟨fF5, _, ok_is_withinA (P := P) (w := w) (base := base) GF5 T AF4, PySem.W.mg_of X G aF5, kF5, bF5⟩
  have AF6 : FBX P w K mg base "check_size" 3 ["size"] (spSizeX K CS) := ⟨fF6, _, ok_check_sizeA (P := P) (w := w) (base := base) GF6 T AF5 (PySem.W.mg_of X G aMS) RS, PySem.W.mg_of X G aF6, kF6, bF6⟩
  have AF7 : FB P w K mg base "is_cell" 3 ["size", "value"] (spCellA K) := ⟨fF7, _, ok_is_cellA (P := P) (w := w) (base := base) GF7 T AF5, PySem.W.mg_of X G aF7, kF7, bF7⟩
  have AF8 : FBX P w K mg base "check_cell" 4 ["size", "cell"] (spCellX K CC) := ⟨fF8, _, ok_check_cellA (P := P) (w := w) (base := base) GF8 T AF7 RC, PySem.W.mg_of X G aF8, kF8, bF8⟩
  have AF18 : FB P w K mg base "is_kind" 3 ["value"] (spKindA K) := ⟨fF18, _, ok_is_kindA (P := P) (w := w) (base := base) GF18 T AF5, PySem.W.mg_of X G aF18, kF18, bF18⟩
  have AF12 : FBX P w K mg base "images" 5 ["size", "cell"] (spAsk K CS CC cellB) := ⟨fF12, _, ask_images (ok_images (P := P) (w := w) (base := base) GF12 T BF6 BF8 BF9) (ok_imagesB (P := P) (w := w) (base := base) GF12 T AF6 AF8), PySem.W.mg_of X G aF12, kF12, bF12⟩
  have AF13 : FBX P w K mg base "kind_of" 5 ["size", "cell"] (spAsk K CS CC cellB) := ⟨fF13, _, ask_kind (ok_kind_of (P := P) (w := w) (base := base) GF13 T BF6 BF8 BF10) (ok_kind_ofB (P := P) (w := w) (base := base) GF13 T AF6 AF8), PySem.W.mg_of X G aF13, kF13, bF13⟩
  have AF19 : FBX P w K mg base "cell_count" 4 ["size", "kind"] (spAsk K CS CK (fun _ => kindB)) := ⟨fF19, _, ask_count (ok_cell_count (P := P) (w := w) (base := base) GF19 T BF6 BF18 BF16 BF17) (ok_cell_countB (P := P) (w := w) (base := base) GF19 T AF6 AF18 RK), PySem.W.mg_of X G aF19, kF19, bF19⟩
  have AF20 : FBX P w K mg base "kinds_of" 4 ["size"] (spKindsX K CS) := ⟨fF20, _, ask_kinds (ok_kinds_of (P := P) (w := w) (base := base) GF20 T BF6 BF16 (PySem.W.mg_of X G aDS) (WKinds.of jDS kDS vDS)) (ok_kinds_ofB (P := P) (w := w) (base := base) GF20 T AF6), PySem.W.mg_of X G aF20, kF20, bF20⟩
  have BF21 : FB P w K mg base "_law_oddsize" 2 ["_law_purl_here", "_law_great"] (spOddS K) := ⟨fF21, _, ok__law_oddsize (P := P) (w := w) (base := base) GF21 T BF1, PySem.W.mg_of X G aF21, kF21, bF21⟩
  have BF22 : FB P w K mg base "_law_oddcell" 2 ["_law_purl_here", "_law_size", "_law_row", "_law_column"] (spOddC K) := ⟨fF22, _, ok__law_oddcell (P := P) (w := w) (base := base) GF22 T BF1, PySem.W.mg_of X G aF22, kF22, bF22⟩
  have BF23 : FB P w K mg base "_law_oddkind" 2 ["_law_purl_here"] (spOddK K) := ⟨fF23, _, ok__law_oddkind (P := P) (w := w) (base := base) GF23 T BF1, PySem.W.mg_of X G aF23, kF23, bF23⟩
  have BF24 : FB P w K mg base "_law_met" 6 ["_law_way", "_law_size", "_law_value"] (spMetE K) := ⟨fF24, _, ok__law_met (P := P) (w := w) (base := base) GF24 T Z AF12 AF13 AF19 AF20, PySem.W.mg_of X G aF24, kF24, bF24⟩
  have BF25 : FBG P w K mg base "_law_same" 2 (spSame2 K) := ⟨fF25, okG__law_same (P := P) (w := w) (base := base) GF25 T bF25 (PySem.W.mg_none_of X G z_repr), PySem.W.mg_of X G aF25, kF25⟩
  have BF26 : FBG P w K mg base "_law_right" 8 spRight := ⟨fF26, okG__law_right (P := P) (w := w) (base := base) GF26 T bF26 BF2 BF3 BF21 BF22 BF23 BF24 BF25, PySem.W.mg_of X G aF26, kF26⟩
  exact okG_law (P := P) (w := w) (base := base) GF27 T bF27 BF0 BF26
end Sq
open PySem PySem.W PyProof.Rows
set_option maxRecDepth 100000 in
set_option maxHeartbeats 0 in
theorem PySem.Challenge.cw_squareloops_k24_sizes_and_cells_refused_holds : PySem.Challenge.rw_squareloops_k24_sizes_and_cells_refused.Holds := by
  w_on; o_law; k_head; (case hw => w_witness2)
  k_fill
  refine Sq.walkG (l := PySem.Challenge.rw_squareloops_k24_sizes_and_cells_refused) (k := 9) (sp := Sq.spLaw) rfl (by decide) rfl ⟨rfl, by decide, by decide⟩ (fun w h Y => PySem.W.kIn_of Y) ?F (fun K H a ns h1 _ h2 => ⟨a, ns, rfl, h2, h1, fun _ => rfl⟩)
  case F =>
    intro w mg fa h KX G hmg base _ _
    refine' Sq.all_mk KX G hmg ?aF0 ?lF0 ?cF0 ?kF0 ?aF1 ?lF1 ?cF1 ?kF1 ?aF2 ?lF2 ?cF2 ?kF2 ?aF3 ?lF3 ?cF3 ?kF3 ?aF4 ?lF4 ?cF4 ?kF4 ?aF5 ?lF5 ?cF5 ?kF5 ?aF6 ?lF6 ?cF6 ?kF6 ?aF7 ?lF7 ?cF7 ?kF7 ?aF8 ?lF8 ?cF8 ?kF8 ?aF9 ?lF9 ?cF9 ?kF9 ?aF10 ?lF10 ?cF10 ?kF10 ?aF11 ?lF11 ?cF11 ?kF11 ?aF12 ?lF12 ?cF12 ?kF12 ?aF13 ?lF13 ?cF13 ?kF13 ?aF14 ?lF14 ?cF14 ?kF14 ?aF15 ?lF15 ?cF15 ?kF15 ?aF16 ?lF16 ?cF16 ?kF16 ?aF17 ?lF17 ?cF17 ?kF17 ?aF18 ?lF18 ?cF18 ?kF18 ?aF19 ?lF19 ?cF19 ?kF19 ?aF20 ?lF20 ?cF20 ?kF20 ?aF21 ?lF21 ?cF21 ?kF21 ?aF22 ?lF22 ?cF22 ?kF22 ?aF23 ?lF23 ?cF23 ?kF23 ?aF24 ?lF24 ?cF24 ?kF24 ?aF25 ?lF25 ?cF25 ?kF25 ?aF26 ?lF26 ?cF26 ?kF26 ?aF27 ?lF27 ?cF27 ?kF27 ?aMS ?aIC ?aDS ?jIC ?hIC ?vIC ?jDS ?kDS ?vDS ?aW ?aS_ ?xS_ ?vS_ ?saS_ ?gaS_ ?ggS_ ?gvS_ ?iS_ ?tS_ ?lS_ ?cS_ ?kfS_ ?kS_ ?eS_ ?yS_ ?hS_ ?clS_ ?mrS_ ?aC_ ?xC_ ?vC_ ?saC_ ?gaC_ ?ggC_ ?gvC_ ?iC_ ?tC_ ?lC_ ?cC_ ?kfC_ ?kC_ ?eC_ ?yC_ ?hC_ ?clC_ ?mrC_ ?aK_ ?xK_ ?vK_ ?saK_ ?gaK_ ?ggK_ ?gvK_ ?iK_ ?tK_ ?lK_ ?cK_ ?kfK_ ?kK_ ?eK_ ?yK_ ?hK_ ?clK_ ?mrK_ ?sp_ ?tk_ ?uSS_ ?uCS_ ?uCC_ ?uKS_ ?uKC_ ?uKK_ ?oSC_ ?oCK_ ?z_len ?z_int ?z_abs ?z_divmod ?z_range ?z_isinstance ?z_bool ?z_tuple ?z_str ?z_list ?z_min ?z_max ?z_all ?z_any ?z_sum ?z_sorted ?z_enumerate ?z_repr base
    (case aF0 => k_is)
    (case lF0 => k_is)
    (case cF0 => k_is)
    (case kF0 => k_is)
    (case aF1 => k_is)
    (case lF1 => k_is)
    (case cF1 => k_is)
    (case kF1 => k_is)
    (case aF2 => k_is)
    (case lF2 => k_is)
    (case cF2 => k_is)
    (case kF2 => k_is)
    (case aF3 => k_is)
    (case lF3 => k_is)
    (case cF3 => k_is)
    (case kF3 => k_is)
    (case aF4 => k_is)
    (case lF4 => k_is)
    (case cF4 => k_is)
    (case kF4 => k_is)
    (case aF5 => k_is)
    (case lF5 => k_is)
    (case cF5 => k_is)
    (case kF5 => k_is)
    (case aF6 => k_is)
    (case lF6 => k_is)
    (case cF6 => k_is)
    (case kF6 => k_is)
    (case aF7 => k_is)
    (case lF7 => k_is)
    (case cF7 => k_is)
    (case kF7 => k_is)
    (case aF8 => k_is)
    (case lF8 => k_is)
    (case cF8 => k_is)
    (case kF8 => k_is)
    (case aF9 => k_is)
    (case lF9 => k_is)
    (case cF9 => k_is)
    (case kF9 => k_is)
    (case aF10 => k_is)
    (case lF10 => k_is)
    (case cF10 => k_is)
    (case kF10 => k_is)
    (case aF11 => k_is)
    (case lF11 => k_is)
    (case cF11 => k_is)
    (case kF11 => k_is)
    (case aF12 => k_is)
    (case lF12 => k_is)
    (case cF12 => k_is)
    (case kF12 => k_is)
    (case aF13 => k_is)
    (case lF13 => k_is)
    (case cF13 => k_is)
    (case kF13 => k_is)
    (case aF14 => k_is)
    (case lF14 => k_is)
    (case cF14 => k_is)
    (case kF14 => k_is)
    (case aF15 => k_is)
    (case lF15 => k_is)
    (case cF15 => k_is)
    (case kF15 => k_is)
    (case aF16 => k_is)
    (case lF16 => k_is)
    (case cF16 => k_is)
    (case kF16 => k_is)
    (case aF17 => k_is)
    (case lF17 => k_is)
    (case cF17 => k_is)
    (case kF17 => k_is)
    (case aF18 => k_is)
    (case lF18 => k_is)
    (case cF18 => k_is)
    (case kF18 => k_is)
    (case aF19 => k_is)
    (case lF19 => k_is)
    (case cF19 => k_is)
    (case kF19 => k_is)
    (case aF20 => k_is)
    (case lF20 => k_is)
    (case cF20 => k_is)
    (case kF20 => k_is)
    (case aF21 => k_is)
    (case lF21 => k_is)
    (case cF21 => k_is)
    (case kF21 => k_is)
    (case aF22 => k_is)
    (case lF22 => k_is)
    (case cF22 => k_is)
    (case kF22 => k_is)
    (case aF23 => k_is)
    (case lF23 => k_is)
    (case cF23 => k_is)
    (case kF23 => k_is)
    (case aF24 => k_is)
    (case lF24 => k_is)
    (case cF24 => k_is)
    (case kF24 => k_is)
    (case aF25 => k_is)
    (case lF25 => k_is)
    (case cF25 => k_is)
    (case kF25 => k_is)
    (case aF26 => k_is)
    (case lF26 => k_is)
    (case cF26 => k_is)
    (case kF26 => k_is)
    (case aF27 => k_is)
    (case lF27 => k_is)
    (case cF27 => k_is)
    (case kF27 => k_is)
    (case aMS => k_is)
    (case aIC => k_is)
    (case aDS => k_is)
    (case jIC => k_is)
    (case hIC => decide)
    (case vIC => repeat (first | exact .nil | refine .cons ⟨_, rfl⟩ ?_))
    (case jDS => k_is)
    (case kDS => first | rfl | decide)
    (case vDS => first | rfl | decide +kernel)
    (case aW => k_is)
    (case aS_ => k_is)
    (case xS_ => k_is)
    (case vS_ => first | decide | decide +kernel | rfl)
    (case saS_ => k_is)
    (case gaS_ => k_is)
    (case ggS_ => k_is)
    (case gvS_ => k_is)
    (case iS_ => k_is)
    (case tS_ => k_is)
    (case lS_ => k_is)
    (case cS_ => k_is)
    (case kfS_ => k_is)
    (case kS_ => k_is)
    (case eS_ => k_is)
    (case yS_ => k_is)
    (case hS_ => k_is)
    (case clS_ => k_is)
    (case mrS_ => k_is)
    (case aC_ => k_is)
    (case xC_ => k_is)
    (case vC_ => first | decide | decide +kernel | rfl)
    (case saC_ => k_is)
    (case gaC_ => k_is)
    (case ggC_ => k_is)
    (case gvC_ => k_is)
    (case iC_ => k_is)
    (case tC_ => k_is)
    (case lC_ => k_is)
    (case cC_ => k_is)
    (case kfC_ => k_is)
    (case kC_ => k_is)
    (case eC_ => k_is)
    (case yC_ => k_is)
    (case hC_ => k_is)
    (case clC_ => k_is)
    (case mrC_ => k_is)
    (case aK_ => k_is)
    (case xK_ => k_is)
    (case vK_ => first | decide | decide +kernel | rfl)
    (case saK_ => k_is)
    (case gaK_ => k_is)
    (case ggK_ => k_is)
    (case gvK_ => k_is)
    (case iK_ => k_is)
    (case tK_ => k_is)
    (case lK_ => k_is)
    (case cK_ => k_is)
    (case kfK_ => k_is)
    (case kK_ => k_is)
    (case eK_ => k_is)
    (case yK_ => k_is)
    (case hK_ => k_is)
    (case clK_ => k_is)
    (case mrK_ => k_is)
    (case sp_ => k_is)
    (case tk_ => k_is)
    (case uSS_ => first | rfl | k_is)
    (case uCS_ => first | rfl | k_is)
    (case uCC_ => first | rfl | k_is)
    (case uKS_ => first | rfl | k_is)
    (case uKC_ => first | rfl | k_is)
    (case uKK_ => first | rfl | k_is)
    (case oSC_ => first | rfl | k_is | kit_is)
    (case oCK_ => first | rfl | k_is | kit_is)
    (case z_len => k_is)
    (case z_int => k_is)
    (case z_abs => k_is)
    (case z_divmod => k_is)
    (case z_range => k_is)
    (case z_isinstance => k_is)
    (case z_bool => k_is)
    (case z_tuple => k_is)
    (case z_str => k_is)
    (case z_list => k_is)
    (case z_min => k_is)
    (case z_max => k_is)
    (case z_all => k_is)
    (case z_any => k_is)
    (case z_sum => k_is)
    (case z_sorted => k_is)
    (case z_enumerate => k_is)
    (case z_repr => k_is)
