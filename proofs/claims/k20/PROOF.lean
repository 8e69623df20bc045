import PyProof.Rows.All
import Wide.All
import OpenK.AllK
import Wide.FinOn
import HandS.ForMost
import HandS.Exc
import HandS.ExcOwn
import HandS.ExcInit
import HandS.ExcField
import HandS.ExcIs
import HandS.TryMany
import HandS.Defaults
import HandS.Evl
import KE.KIsAll
import KE.KTryMore
import HandS.IsInst
import HandS.Wide
import HandS.WideBits
import HandS.SetFor
import HandS.FStr
import HandS.RaiseMore
import PyProof.ReprRoads
import KE.KStateDown
import Lean
import HandS.Head0
import HandS.Head1
import HandS.Head2
import HandS.HeadEnd
import HandS.HeadHook1
import HandS.HeadHook2
import HandS.TupAny
import HandS.Style
import HandS.RevRange
import KE.SortData
import HandS.Conv
import KE.KFmtOwn
import PyProof.StrBlock2
import HandS.Dict
import HandS.ListItems
import PyProof.StrLawsRepr
import HandS.SortRule
import PySem.Challenge.RW_revokelog_k20_whole_replay_and_revoked
set_option Elab.async false
set_option linter.all false
set_option maxRecDepth 100000
set_option maxHeartbeats 4000000
namespace GL
open PySem PySem.Spec PyProof.Rows L2

/-! ## room, with what the printing of data wants: no printing runs around us -/
structure Rm (c : Bool) (k : Nat) (A : Around) : Prop where
  hd : c = true → A.handled = none
  dp : A.depth + 3 * k + 5 < recursionLimit
  un : A.units + 16 * k + 200 < cLine
  gd : A.guards = some []

theorem Rm.mono {c : Bool} {j k : Nat} {A : Around} (r : Rm c k A) (h : j ≤ k) : Rm c j A :=
  ⟨r.hd, by have z := r.dp; omega, by have z := r.un; omega, r.gd⟩
theorem Rm.hot {c : Bool} {k : Nat} {A : Around} (r : Rm c k A) : Rm false k A := ⟨fun z => Bool.noConfusion z, r.dp, r.un, r.gd⟩
theorem Rm.room {k : Nat} {A : Around} (r : Rm true k A) : Room k A := ⟨r.hd rfl, r.dp, r.un⟩
theorem Rm.deep {c : Bool} {k : Nat} {A : Around} (r : Rm c (k + 1) A) (env : Env) : Rm c k (A.deeper env) :=
  ⟨r.hd, by have z := r.dp; show A.depth + 1 + 3 * k + 5 < _; omega, by have z := r.un; show A.units + 3 + 16 * k + 200 < _; omega, r.gd⟩
theorem make_guards {A : Around} {C : Addr} {us : List Value} {kw : List (Str × Value)} (h : A.guards = some []) :
    (A.under (.builtin "type.__call__" ⟨.ref C :: us, kw⟩)).guards = some [] := by
  have e : Code.isGuard (.builtin "type.__call__" ⟨.ref C :: us, kw⟩) = false := by
    show guardIds.contains "type.__call__" = false
    decide +kernel
  unfold Around.under
  dsimp only
  unfold Code.guards
  rw [h, e]
  rfl
theorem Rm.make {c : Bool} {k : Nat} {A : Around} (r : Rm c (k + 1) A) (C : Addr) (us : List Value) (kw : List (Str × Value)) :
    Rm c k (A.under (.builtin "type.__call__" ⟨.ref C :: us, kw⟩)) :=
  ⟨r.hd, by have z := r.dp; rw [make_depth]; omega, by have z := r.un; rw [make_units]; omega, make_guards r.gd⟩
theorem Rm.u64 {c : Bool} {k : Nat} {A : Around} (r : Rm c k A) : A.units + 64 < cLine := by have z := r.un; omega
theorem Rm.u1 {c : Bool} {k : Nat} {A : Around} (r : Rm c k A) : A.units + 1 < cLine := by have z := r.un; omega
theorem Rm.mark {c : Bool} {k : Nat} {A : Around} (r : Rm c k A) (h : Option Value) : Rm false k (A.mark h) :=
  ⟨fun z => Bool.noConfusion z, r.dp, r.un, r.gd⟩

/-! ## a def's promise in such room -/
structure Fn (c : Bool) (P : Program) (w : World) (K : PySem.W.Frag) (mg : Str → Option Value) (base : Heap) (k : Nat) (f : Addr) (fd : FuncData) (ps : List Str) (sp : Sp) : Prop where
  len : ∀ vs H Q E, sp vs H Q E → vs.length = ps.length
  run : ∀ (A : Around) (outer : List Env) (s : Shared) (H : Hp) (args : Args) (us : List Value) (vs : List V) (Q : VK) (E : XK), Rm c k A →
    Env0 P w K mg base A outer s H → BindsTo s fd args (ps.zip us) → Vals vs us → sp vs H Q E →
      codeAny (model P w) A (.call (.ref f) args) (CR (L2.CX P w) outer P w H s Q E) s
section
variable {c : Bool} {P : Program} {w : World} {K : PySem.W.Frag} {mg : Str → Option Value} {base : Heap} {j k : Nat} {f : Addr} {fd : FuncData} {ps : List Str} {sp sp' : Sp}
theorem Fn.hot (F : Fn false P w K mg base k f fd ps sp) : Fn c P w K mg base k f fd ps sp :=
  ⟨F.len, fun A outer s H args us vs Q E hr => F.run A outer s H args us vs Q E hr.hot⟩
theorem Fn.mono (F : Fn c P w K mg base j f fd ps sp) (h : j ≤ k) : Fn c P w K mg base k f fd ps sp :=
  ⟨F.len, fun A outer s H args us vs Q E hr => F.run A outer s H args us vs Q E (hr.mono h)⟩
theorem Fn.imp (F : Fn c P w K mg base k f fd ps sp) (h : ∀ vs H Q E, sp' vs H Q E → sp vs H Q E) : Fn c P w K mg base k f fd ps sp' :=
  ⟨fun vs H Q E q => F.len vs H Q E (h _ _ _ _ q), fun A outer s H args us vs Q E hr he hb hv hs => F.run A outer s H args us vs Q E hr he hb hv (h _ _ _ _ hs)⟩
end

/-! ## a def's body -/
/-- the context of a body: calm or within an except suite somewhere above -/
abbrev cxG (c : Bool) (P : Program) (w : World) (K : PySem.W.Frag) (mg : Str → Option Value) (base : Heap) (N : List Str) (qual : Str) (scope : Scope) (f : Addr) (cd : Value) (A : Around) (outer : List Env) (s : Shared) (H : Hp) (E : XK) : Cx :=
  { cxOf (L2.CX P w) P w K mg base N qual scope f cd A outer s H E with calm := c }
theorem Inv.setCalm {X : Cx} {pins : List (Addr × Obj)} {σ : L2.St} {H : Hp} {s : Shared} (I : Inv X pins σ H s) (c : Bool) (h : c = true → X.A.handled = none) : Inv { X with calm := c } pins σ H s :=
  ⟨⟨I.ok.mod, I.ok.kind, I.ok.glob, I.ok.blt, I.ok.above, I.ok.inj, I.ok.has, I.ok.cab, h, I.ok.frames, I.ok.stk, I.ok.exf, I.ok.bs, I.ok.bsz, I.ok.noex, I.ok.exfs, I.ok.funs, I.ok.frf⟩,
    I.os, I.bare, I.base, I.loc, I.cell, I.free, I.freeC, I.pin, I.hok, I.len⟩
/-- the entry of a body, whatever is handled around it -/
theorem inv_in {c : Bool} {P : Program} {w : World} {K : PySem.W.Frag} {mg : Str → Option Value} {base : Heap} {N ps : List Str} {qual : Str} {scope : Scope} {f : Addr} {cd : Value} {A : Around} {outer : List Env} {s s1 : Shared} {H : Hp} {E : XK} {us : List Value} {vs : List V}
    (S : FnScope N ps scope) (hd : c = true → A.handled = none) (e0 : Env0 P w K mg base A outer s H) (hl : vs.length = ps.length) (r : Vals vs us)
    (x : InCallC s s.heap.objs.size (bindL (envOfC qual scope s.heap.objs.size f cd).kindOf (ps.zip us) fun _ => none) (cellsFrom (s.heap.objs.size + 1) scope.names []) (bindC (envOfC qual scope s.heap.objs.size f cd).kindOf (ps.zip us) fun _ => none) s1) :
    Inv (cxG c P w K mg base N qual scope f cd A outer s H E) [] (L2.start N vs) H s1 := by
  -- the library's entry, at an Around that handles nothing; then our own Around put back
  have e1 : Env0 P w K mg base { A with handled := none } outer s H := ⟨e0.frames, e0.mod, e0.bs, e0.bsz, e0.funs, e0.frf, e0.hok, e0.bare⟩
  have I := inv_start (CX := L2.CX P w) (E := E) S rfl e1 hl r x
  exact ⟨⟨I.ok.mod, I.ok.kind, I.ok.glob, I.ok.blt, I.ok.above, I.ok.inj, I.ok.has, I.ok.cab, hd, I.ok.frames, I.ok.stk, I.ok.exf, I.ok.bs, I.ok.bsz, I.ok.noex, I.ok.exfs, I.ok.funs, I.ok.frf⟩,
    I.os, I.bare, I.base, I.loc, I.cell, I.free, I.freeC, I.pin, I.hok, I.len⟩

theorem fn_in {c : Bool} {P : Program} {w : World} {K : PySem.W.Frag} {mg : Str → Option Value} {base : Heap} {k : Nat} {f : Addr} {name qual : Str} {params : Arguments} {body : List Stmt} {scope : Scope} {dV kV doc pm cdv ct oc : Value} {an od : Option Addr}
    {osl : Array (Option Value)} {N ps : List Str} {sp : Sp} (lk : K.lookup f = some ⟨oc, od, .func (PySem.W.fnOf name qual params body scope dV kV doc pm an cdv ct), osl⟩) (hcd : PySem.W.codeIn K cdv qual = true) (S : FnScope N ps scope)
    (len : ∀ vs H Q E, sp vs H Q E → vs.length = ps.length)
    (hbody : ∀ (A : Around) (outer : List Env) (s : Shared) (H : Hp) (vs : List V) (Q : VK) (E : XK), Rm c k (A.deeper (envOfC qual scope s.heap.objs.size f cdv)) → sp vs H Q E →
      ∃ t, PSs (cxG c P w K mg base N qual scope f cdv A outer s H E) body t ∧ t { nx := fun _ H' => Q .non H', rt := Q } (L2.start N vs) H) :
    Fn c P w K mg base (k + 1) f (PySem.W.fnOf name qual params body scope dV kV doc pm an cdv ct) ps sp := by
  refine ⟨len, fun A outer s H args us vs Q E hr e0 hb r hsp => ?_⟩
  have hl := len _ _ _ _ hsp
  have dep : A.depth < recursionLimit := by have z := hr.dp; omega
  have inH : K.In s.heap := e0.mod.kin.keeps fun b o e => (e0.bs b o e).1
  have lim : s.heap.NoLimit := e0.mod.nolimit.keeps fun b o e => (e0.bs b o e).1
  have kinds : ∀ y ∈ ps.zip us, scope.names.lookup y.1 = some .local ∨ (scope.names.lookup y.1 = some .cell ∧ ((cellsFrom (s.heap.objs.size + 1) scope.names []).lookup y.1).isSome = true) := by
    rintro ⟨n, v⟩ hy
    have m := (List.of_mem_zip hy).1
    cases S.par n m with
    | inl q => exact Or.inl q
    | inr q => exact Or.inr ⟨q, PySem.W.cellsFrom_some _ _ _ (Or.inl q)⟩
  refine codeAny_call_function dep (inH _ _ lk) rfl S.co S.gen rfl (PySem.W.codeRec_of inH hcd) (hb _ _ _ _ ?_)
  refine wpAny_newFunctionEnv_cells S.kind kinds fun env he s1 x => ?_
  subst he
  refine ⟨lim.keeps x.toInCall.keep, codeAny_func ?_⟩
  obtain ⟨t, ht, hq⟩ := hbody A outer s H vs Q E (hr.deep _) hsp
  have I : Inv (cxG c P w K mg base N qual scope f cdv A outer s H E) [] (L2.start N vs) H s1 := inv_in S hr.hd e0 hl r x
  refine wpAny_mono (ht.run [] s1 (L2.start N vs) H _ I hq) (fun fl s' hs => ?_) fun e s' hs => hs
  have out : ∀ {σ' : L2.St} {H' : Hp} {v : V} {u : Value}, Inv (cxG c P w K mg base N qual scope f cdv A outer s H E) [] σ' H' s' → RelV v u → Q v H' → CE outer P w H s Q u s' := by
    intro σ' H' v u J rv q
    exact ⟨v, H', J.os, J.bare, J.base, J.hok, rv, q⟩
  match fl, hs with
  | .ret u, ⟨v, σ', H', J, rv, q⟩ => exact out J rv q
  | .next, ⟨σ', H', J, q⟩ => exact out (v := V.non) (u := Value.none) J rfl q
  | .brk, ⟨_, _, _, q⟩ => exact q.elim
  | .cont, ⟨_, _, _, q⟩ => exact q.elim

/-- a def as the head tells it -/
theorem fn_def {c : Bool} {P : Program} {w : World} {K : PySem.W.Frag} {mg : Str → Option Value} {base : Heap} {x qual : Str} {params : Arguments} {body : List Stmt} {scope : Scope} {dvs : List V} {kws : List (Str × V)} {f : Addr} {fd : FuncData} {N ps : List Str} {k : Nat} {sp : Sp}
    (F : FunD K x qual params body scope dvs kws f fd) (S : FnScope N ps scope) (len : ∀ vs H Q E, sp vs H Q E → vs.length = ps.length)
    (hbody : ∀ (cdv : Value) (A : Around) (outer : List Env) (s : Shared) (H : Hp) (vs : List V) (Q : VK) (E : XK), Rm c k (A.deeper (envOfC qual scope s.heap.objs.size f cdv)) → sp vs H Q E →
      ∃ t, PSs (cxG c P w K mg base N qual scope f cdv A outer s H E) body t ∧ t { nx := fun _ H' => Q .non H', rt := Q } (L2.start N vs) H) : Fn c P w K mg base (k + 1) f fd ps sp := by
  obtain ⟨oc, od, dV, kV, doc, pm, an, cdv, ct, osl, rfl, lk, hcd, _, _⟩ := F.ex
  exact fn_in lk hcd S len fun A outer s H vs Q E hr hsp => hbody cdv A outer s H vs Q E hr hsp

/-! ## what stands at a name -/
/-- a def at f keeps sp when it is called by place; defaults may fill up -/
def Held (c : Bool) (P : Program) (w : World) (K : PySem.W.Frag) (mg : Str → Option Value) (base : Heap) (k : Nat) (f : Addr) (sp : Sp) : Prop :=
  ∃ (fd : FuncData) (ps : List Str) (ds : List Value) (dvs : List V) (sp0 : Sp), Fn c P w K mg base k f fd ps sp0 ∧ Binds K fd ps ds ∧ Vals dvs ds ∧ ∀ vs H Q E, sp vs H Q E → sp0 (vs ++ dvs) H Q E
theorem Held.plain {c : Bool} {P : Program} {w : World} {K : PySem.W.Frag} {mg : Str → Option Value} {base : Heap} {k : Nat} {f : Addr} {fd : FuncData} {ps : List Str} {sp : Sp} (F : Fn c P w K mg base k f fd ps sp) (b : Binds K fd ps []) : Held c P w K mg base k f sp :=
  ⟨fd, ps, [], [], sp, F, b, .nil, fun vs H Q E h => by rw [List.append_nil]; exact h⟩
theorem Held.imp {c : Bool} {P : Program} {w : World} {K : PySem.W.Frag} {mg : Str → Option Value} {base : Heap} {k : Nat} {f : Addr} {sp sp' : Sp} (h : Held c P w K mg base k f sp) (z : ∀ vs H Q E, sp' vs H Q E → sp vs H Q E) : Held c P w K mg base k f sp' := by
  obtain ⟨fd, ps, ds, dvs, sp0, F, b, r, g⟩ := h
  exact ⟨fd, ps, ds, dvs, sp0, F, b, r, fun vs H Q E q => g vs H Q E (z vs H Q E q)⟩
theorem Held.hot {c : Bool} {P : Program} {w : World} {K : PySem.W.Frag} {mg : Str → Option Value} {base : Heap} {k : Nat} {f : Addr} {sp : Sp} (h : Held false P w K mg base k f sp) : Held c P w K mg base k f sp := by
  obtain ⟨fd, ps, ds, dvs, sp0, F, b, r, g⟩ := h
  exact ⟨fd, ps, ds, dvs, sp0, F.hot, b, r, g⟩
theorem Held.mono {c : Bool} {P : Program} {w : World} {K : PySem.W.Frag} {mg : Str → Option Value} {base : Heap} {j k : Nat} {f : Addr} {sp : Sp} (h : Held c P w K mg base j f sp) (z : j ≤ k) : Held c P w K mg base k f sp := by
  obtain ⟨fd, ps, ds, dvs, sp0, F, b, r, g⟩ := h
  exact ⟨fd, ps, ds, dvs, sp0, F.mono z, b, r, g⟩
/-- the module's name x is a def that keeps sp -/
structure GF (c : Bool) (P : Program) (w : World) (K : PySem.W.Frag) (mg : Str → Option Value) (base : Heap) (x : Str) (k : Nat) (sp : Sp) : Prop where
  ex : ∃ f : Addr, Held c P w K mg base k f sp ∧ mg x = some (.ref f) ∧ PySem.W.keepIn K (.ref f) = true
/-- the method m of the class at C is such a def -/
structure GM (c : Bool) (P : Program) (w : World) (K : PySem.W.Frag) (mg : Str → Option Value) (base : Heap) (C : Addr) (m : Str) (k : Nat) (sp : Sp) : Prop where
  ex : ∃ f : Addr, Held c P w K mg base k f sp ∧ Meth K C m f
/-- the module's name x is a class at C that is made by an __init__ that keeps sp -/
structure GK (c : Bool) (P : Program) (w : World) (K : PySem.W.Frag) (mg : Str → Option Value) (base : Heap) (x : Str) (C : Addr) (k : Nat) (sp : Sp) : Prop where
  ex : ∃ f : Addr, Held c P w K mg base k f sp ∧ Mk K C f ∧ mg x = some (.ref C)
/-- .. an exception class -/
structure GX (c : Bool) (P : Program) (w : World) (K : PySem.W.Frag) (mg : Str → Option Value) (base : Heap) (x : Str) (C : Addr) (k : Nat) (sp : Sp) : Prop where
  ex : ∃ f : Addr, Held c P w K mg base k f sp ∧ OexC K C ∧ mg x = some (.ref C) ∧ PySem.W.findIn K (.ref C) "__init__" = some (some (.ref f)) ∧ PySem.W.typeIn K (.ref f) = some (.type "function")

/-! ## calls -/
abbrev E0 : XK := fun _ _ _ => False
section
variable {X : Cx} {c : Bool} {k : Nat} {sp : Sp} {x m : Str} {p pos apos : Pos} {e o : Expr} {es : List Expr} {ta : TE} {t : TA} {W : WX} {f C : Addr} {E : XK}
/-- what a callee lets out arrives -/
def Arr (X : Cx) (σ : L2.St) (E : XK) : Prop := ∀ (pins : List (Addr × Obj)) (H : Hp) (s : Shared) (e : Value) (s' : Shared), Inv X pins σ H s → L2.CX X.prog X.w X.stack H s E e s' → X.xe e s'
theorem arr0 {σ : L2.St} : Arr X σ E0 := fun _ _ _ _ _ _ h => by
  obtain ⟨_, _, _, _, _, _, _, _, _, _, _, _, z⟩ := h
  exact z.elim
theorem arr_of (tk : Takes X W) (σ : L2.St) : Arr X σ (fun cls d H => W cls d σ H) := fun _ _ _ e s' I h => tk e s' (XE.of_call I (fun _ _ _ z => z) h)

theorem go_fn {pins : List (Addr × Obj)} {σ : L2.St} {H : Hp} {s : Shared} {Q : VK} {us : List Value} {vs : List V} (G : Held c X.prog X.w X.K X.mg X.base k f sp) (hr : Rm c k X.A) (hx : Arr X σ E)
    (I : Inv X pins σ H s) (r : Vals vs us) (h : sp vs H Q E) : wpAny (model X.prog X.w) X.A (call (.ref f) us) (EP X pins σ Q) X.xe s := by
  obtain ⟨fd, ps, ds, dvs, sp0, F, hb, hd, g⟩ := G
  have r2 : Vals (vs ++ dvs) (us ++ ds) := r.append hd
  have h0 := g vs H Q E h
  have hl : (us ++ ds).length = ps.length := by
    rw [← r2.length]
    exact F.len _ _ _ _ h0
  have core := F.run X.A X.stack s H ⟨us, []⟩ (us ++ ds) (vs ++ dvs) Q E hr I.env0 (hb s us I.kIn hl) r2 h0
  refine wpAny_call (codeAny_mono core fun r s' hq => ?_)
  match r, hq with
  | .error e, hq => exact hx pins H s e s' I hq
  | .ok (.ret u), hq => exact I.after hq
  | .ok .next, hq => exact hq.elim
  | .ok .brk, hq => exact hq.elim
  | .ok .cont, hq => exact hq.elim

/-- the reading of a call: the promise, at the arguments; what is raised goes where W says -/
def cCall (sp : Sp) (W : WX) (t : TA) : TE := fun σ H Q => t σ H fun vs H1 => sp vs H1 Q fun cls d H' => W cls d σ H'
def cCall0 (sp : Sp) (t : TA) : TE := fun σ H Q => t σ H fun vs H1 => sp vs H1 Q E0
theorem ge_call (G : GF c X.prog X.w X.K X.mg X.base x k sp) (hr : Rm c k X.A) (tk : Takes X W) (hg : Gl X x) (ha : PA X (e :: es) t) (hdb : (x == ("__debug__" : Str)) = false := by decide)
    (he : starEach (e :: es) X.env = (false, eval e X.env) :: starEach es X.env := by rfl) (hpl : (backTo pos (starEach es X.env)).any (·.1) = false := by rfl) : PE X (.Call (.Name x p) (e :: es) [] pos) (cCall sp W t) := by
  obtain ⟨f, F, hm, hk⟩ := G.ex
  constructor
  intro pins s σ H Q I h
  refine wpAny_Call_Name_kw (ld_glob I hg hm ?_ hdb)
  refine PySem.W.callWith_K (h₀ := X.base) I.ok.mod.kin hk (thn (ha.run pos pins s σ H _ I h) ?_) he hpl
  rintro us s1 ⟨vs, H1, I1, r, q⟩
  exact ⟨I1.kIn, go_fn F hr (arr_of tk σ) I1 r q⟩
theorem ge_callF (G : GF c X.prog X.w X.K X.mg X.base x k sp) (hr : Rm c k X.A) (hg : Gl X x) (ha : PA X (e :: es) t) (hdb : (x == ("__debug__" : Str)) = false := by decide)
    (he : starEach (e :: es) X.env = (false, eval e X.env) :: starEach es X.env := by rfl) (hpl : (backTo pos (starEach es X.env)).any (·.1) = false := by rfl) : PE X (.Call (.Name x p) (e :: es) [] pos) (cCall0 sp t) := by
  obtain ⟨f, F, hm, hk⟩ := G.ex
  constructor
  intro pins s σ H Q I h
  refine wpAny_Call_Name_kw (ld_glob I hg hm ?_ hdb)
  refine PySem.W.callWith_K (h₀ := X.base) I.ok.mod.kin hk (thn (ha.run pos pins s σ H _ I h) ?_) he hpl
  rintro us s1 ⟨vs, H1, I1, r, q⟩
  exact ⟨I1.kIn, go_fn F hr arr0 I1 r q⟩

/-- o.m(..) -/
def cMeth (C : Addr) (m : Str) (sp : Sp) (W : WX) (ta : TE) (t : TA) : TE := fun σ H Q => ta σ H fun x H1 => ∃ a dx fs, x = .ref a ∧ H1 a = some (.ins C dx fs) ∧ fs.lookup m = none ∧
  t σ H1 fun vs H2 => sp (x :: vs) H2 Q fun cls d H' => W cls d σ H'
theorem ge_meth {pl : Sem Bool} (ho : PE X o ta) (cl : Cls X.K C) (G : GM c X.prog X.w X.K X.mg X.base C m k sp) (hr : Rm c k X.A) (tk : Takes X W) (ha : PA X (e :: es) t)
    (hst : starEach (e :: es) X.env = (false, eval e X.env) :: starEach es X.env := by rfl) (hpl : (backTo pos (starEach es X.env)).any (·.1) = false := by rfl)
    (ht : eval (.Call (.Attribute o m apos) (e :: es) [] pos) X.env = (do
      let w ← eval o X.env
      standAt apos.atName
      let (g, first) ← holding [w] (getMethod w m pl)
      callWith pos g first (backTo pos (starEach (e :: es) X.env)) (backToKw pos (keywordEach [] X.env))) := by rfl) :
    PE X (.Call (.Attribute o m apos) (e :: es) [] pos) (cMeth C m sp W ta t) := by
  obtain ⟨f, F, hm⟩ := G.ex
  constructor
  intro pins s σ H Q I h
  refine PySem.W.methodCall_KW (pl := pl) (thn (ho.run pins s σ H _ I h) ?_) ht
  rintro u s1 ⟨x, H1, I1, rx, a, dx, fs, ex, ea, l, q⟩
  subst ex
  obtain rfl : u = Value.ref a := rx
  refine getmeth_ok I1 ea cl hm l ?_
  refine PySem.W.callWith_K (first := [.ref a]) (h₀ := X.base) I.ok.mod.kin hm.kp (thn (ha.run pos pins s1 σ H1 _ I1 q) ?_) hst hpl
  rintro us s2 ⟨vs, H2, I2, r, q2⟩
  exact ⟨I2.kIn, go_fn (us := .ref a :: us) (vs := .ref a :: vs) F hr (arr_of tk σ) I2 (.cons rfl r) q2⟩
theorem ge_meth0 {pl : Sem Bool} (ho : PE X o ta) (cl : Cls X.K C) (G : GM c X.prog X.w X.K X.mg X.base C m k sp) (hr : Rm c k X.A) (tk : Takes X W)
    (ht : eval (.Call (.Attribute o m apos) [] [] pos) X.env = (do
      let w ← eval o X.env
      standAt apos.atName
      let (g, first) ← holding [w] (getMethod w m pl)
      callWith pos g first (backTo pos (starEach [] X.env)) (backToKw pos (keywordEach [] X.env))) := by rfl) :
    PE X (.Call (.Attribute o m apos) [] [] pos) (cMeth C m sp W ta tNil) := by
  obtain ⟨f, F, hm⟩ := G.ex
  constructor
  intro pins s σ H Q I h
  refine PySem.W.methodCall_KW (pl := pl) (thn (ho.run pins s σ H _ I h) ?_) ht
  rintro u s1 ⟨x, H1, I1, rx, a, dx, fs, ex, ea, l, q⟩
  subst ex
  obtain rfl : u = Value.ref a := rx
  refine getmeth_ok I1 ea cl hm l ?_
  exact PySem.W.callWith_K0 (first := [.ref a]) I1.kIn hm.kp (go_fn (us := [.ref a]) (vs := [.ref a]) F hr (arr_of tk σ) I1 (.cons rfl .nil) q)

/-- C(..), a class with an __init__ of its own -/
def cMake (C : Addr) (sp : Sp) (W : WX) (t : TA) : TE := fun σ H Q => t σ H fun vs H1 => ∀ x dx, H1 x = none → H1 dx = none → dx ≠ x →
  sp (.ref x :: vs) (upd (upd H1 dx (.own x)) x (.ins C dx [])) (fun v H2 => v = .non ∧ Q (.ref x) H2) fun cls d H' => W cls d σ H'
theorem go_make {pins : List (Addr × Obj)} {σ : L2.St} {H : Hp} {s : Shared} {Q : VK} {us : List Value} {vs : List V} (M : Mk X.K C f) (G : Held c X.prog X.w X.K X.mg X.base k f sp) (hr : Rm c (k + 1) X.A)
    (hx : Arr X σ E) (I : Inv X pins σ H s) (r : Vals vs us)
    (h : ∀ x dx, H x = none → H dx = none → dx ≠ x → sp (.ref x :: vs) (upd (upd H dx (.own x)) x (.ins C dx [])) (fun v H2 => v = .non ∧ Q (.ref x) H2) E) :
    wpAny (model X.prog X.w) X.A (call (.ref C) us) (EP X pins σ Q) X.xe s := by
  obtain ⟨fd, ps, ds, dvs, sp0, F, hb, hd, g⟩ := G
  have hq := g _ _ _ _ (h (s.heap.objs.size + 1) s.heap.objs.size (I.hok.fresh (Nat.le_succ _)) (I.hok.fresh (Nat.le_refl _)) (Nat.ne_of_lt (Nat.lt_succ_self _)))
  have J := Inv.made (C := C) I
  have r2 : Vals (V.ref (s.heap.objs.size + 1) :: (vs ++ dvs)) (Value.ref (s.heap.objs.size + 1) :: (us ++ ds)) := .cons rfl (r.append hd)
  have hl : (Value.ref (s.heap.objs.size + 1) :: us ++ ds).length = ps.length := by
    have e := r2.length
    have e2 := F.len _ _ _ _ hq
    rw [← e2]
    exact e.symm
  have core := F.run _ X.stack _ _ ⟨Value.ref (s.heap.objs.size + 1) :: us, []⟩ (Value.ref (s.heap.objs.size + 1) :: (us ++ ds)) _ _ E (hr.make C us []) (J.env0.make C us []) (hb _ (Value.ref (s.heap.objs.size + 1) :: us) J.kIn hl) r2 hq
  refine wpAny_call (make_map (f := f) I.kIn M.makes M.init (beq_iff_eq.mp M.fn) (codeAny_mono core fun r s' z => ?_))
  match r, z with
  | .error e, z => exact hx pins _ _ e s' J z
  | .ok (.ret u), z =>
    obtain ⟨v, H', I3, rv, ev, q3⟩ := J.after z
    subst ev
    exact ⟨rv, ⟨V.ref (s.heap.objs.size + 1), H', I3, rfl, q3⟩⟩
  | .ok .next, z => exact z.elim
  | .ok .brk, z => exact z.elim
  | .ok .cont, z => exact z.elim
theorem ge_make (G : GK c X.prog X.w X.K X.mg X.base x C k sp) (hr : Rm c (k + 1) X.A) (tk : Takes X W) (hg : Gl X x) (ha : PA X (e :: es) t) (hdb : (x == ("__debug__" : Str)) = false := by decide)
    (he : starEach (e :: es) X.env = (false, eval e X.env) :: starEach es X.env := by rfl) (hpl : (backTo pos (starEach es X.env)).any (·.1) = false := by rfl) : PE X (.Call (.Name x p) (e :: es) [] pos) (cMake C sp W t) := by
  obtain ⟨f, F, M, hm⟩ := G.ex
  constructor
  intro pins s σ H Q I h
  refine wpAny_Call_Name_kw (ld_glob I hg hm ?_ hdb)
  refine PySem.W.callWith_K (h₀ := X.base) I.ok.mod.kin M.kp (thn (ha.run pos pins s σ H _ I h) ?_) he hpl
  rintro us s1 ⟨vs, H1, I1, r, q⟩
  exact ⟨I1.kIn, go_make M F hr (arr_of tk σ) I1 r q⟩
end
end GL

namespace GL
open PySem PySem.Spec PyProof.Rows L2

/-! ## making an exception of a class with an __init__ of its own -/
/-- what such an __init__ does: the fields that the arguments make, the last one first -/
def spX (K : PySem.W.Frag) (C : Addr) (mk : List V → Option (List (Str × V))) : Sp := fun vs H Q _ => ∃ (a : Addr) (ws : List V) (fs : List (Str × V)), vs = .ref a :: ws ∧ H a = some (exo a C none) ∧ mk ws = some fs ∧
  ∀ d, H d = none → d ≠ a → Q .non (upd (upd H d (exd d fs)) a (exo a C (some d)))
/-- the reading of C(..) that is raised -/
def xMk (C : Addr) (mk : List V → Option (List (Str × V))) (t : TA) : L2.St → Hp → XK → Prop := fun σ H Q => t σ H fun vs H1 => vs.length ≤ 1000 ∧ ∃ fs, mk vs = some fs ∧ ∀ d, H1 d = none → Q (.ref C) (some d) (upd H1 d (.xd fs))
section
variable {X : Cx} {c : Bool} {k : Nat} {x : Str} {p pos : Pos} {e : Expr} {es : List Expr} {t : TA} {C f : Addr} {mk : List V → Option (List (Str × V))}
theorem del_upd {H : Hp} {a d : Addr} {o : HO} {u v : HO} (hn : H a = none) (hd : d ≠ a) : upd (del (upd (upd H d u) a o) a) d v = upd H d v := by
  funext b
  by_cases h1 : b = d
  · rw [h1, upd_same, upd_same]
  · rw [upd_ne h1, upd_ne h1]
    by_cases h2 : b = a
    · rw [h2, del_same, hn]
    · rw [del_ne h2, upd_ne h2, upd_ne h1]
theorem go_exc {pins : List (Addr × Obj)} {σ : L2.St} {H : Hp} {s : Shared} {Q : XK} {us : List Value} {vs : List V} (T : OexC X.K C) (iC : PySem.W.findIn X.K (.ref C) "__init__" = some (some (.ref f))) (tI : PySem.W.typeIn X.K (.ref f) = some (.type "function"))
    (G : Held c X.prog X.w X.K X.mg X.base k f (spX X.K C mk)) (hr : Rm c (k + 1) X.A) (I : Inv X pins σ H s) (r : Vals vs us) (hz : vs.length ≤ 1000)
    (q : ∃ fs, mk vs = some fs ∧ ∀ d, H d = none → Q (.ref C) (some d) (upd H d (.xd fs))) : wpAny (model X.prog X.w) X.A (call (.ref C) us) (MkP X pins σ Q) X.xe s := by
  obtain ⟨fs, hfs, q⟩ := q
  obtain ⟨fd, ps, ds, dvs, sp0, F, hb, hd, g0⟩ := G
  obtain ⟨nm, qn, N, bs, bm, sn, sub, ab, col, dd, k0, k1, k2, k3, k5, hC, hbm⟩ := T.cls
  obtain ⟨hp, g, dr, tk, os⟩ := s
  have up : hp.objs.size ≤ hp.objs.size + 1 := Nat.le_succ _
  have hn : H (hp.objs.size + 1) = none := I.hok.fresh up
  have old : ∀ b o, hp.get? b = some o → ((hp.push (PySem.W.kdv_tup us)).push (PySem.HandSPX.excO C hp.objs.size)).get? b = some o := fun b o z => Heap.get?_push_of_some _ (Heap.get?_push_of_some _ z)
  have new : ((hp.push (PySem.W.kdv_tup us)).push (PySem.HandSPX.excO C hp.objs.size)).get? (hp.objs.size + 1) = some (PySem.HandSPX.excO C hp.objs.size) := by heap_get
  have J : Inv X pins σ (upd H (hp.objs.size + 1) (exo (hp.objs.size + 1) C none)) ⟨(hp.push (PySem.W.kdv_tup us)).push (PySem.HandSPX.excO C hp.objs.size), g, dr, tk, os⟩ :=
    I.laid (t' := tk) (a := hp.objs.size + 1) (o := exo (hp.objs.size + 1) C none) old up (exo_ok new)
  have hq0 : spX X.K C mk (.ref (hp.objs.size + 1) :: vs) (upd H (hp.objs.size + 1) (exo (hp.objs.size + 1) C none))
      (fun v H2 => v = .non ∧ ∃ (d : Addr) (gs : List (Str × V)), H2 (hp.objs.size + 1) = some (exo (hp.objs.size + 1) C (some d)) ∧ H2 d = some (exd d gs) ∧ H d = none ∧ Q (.ref C) (some d) (upd (del H2 (hp.objs.size + 1)) d (.xd gs))) E0 := by
    refine ⟨_, _, fs, rfl, upd_same, hfs, fun d h1 h2 => ⟨rfl, d, fs, upd_same, ?_, ?_, ?_⟩⟩
    · rw [upd_ne h2, upd_same]
    · rw [upd_ne h2] at h1
      exact h1
    · have e1 : upd (upd (upd H (hp.objs.size + 1) (exo (hp.objs.size + 1) C none)) d (exd d fs)) (hp.objs.size + 1) (exo (hp.objs.size + 1) C (some d)) = upd (upd H d (exd d fs)) (hp.objs.size + 1) (exo (hp.objs.size + 1) C (some d)) := by
        funext b
        by_cases z : b = hp.objs.size + 1
        · rw [z, upd_same, upd_same]
        · rw [upd_ne z, upd_ne z]
          by_cases y : b = d
          · rw [y, upd_same, upd_same]
          · rw [upd_ne y, upd_ne y, upd_ne z]
      rw [e1, del_upd hn h2]
      rw [upd_ne h2] at h1
      exact q d h1
  have hq := g0 _ _ _ _ hq0
  have r2 : Vals (V.ref (hp.objs.size + 1) :: (vs ++ dvs)) (Value.ref (hp.objs.size + 1) :: (us ++ ds)) := .cons rfl (r.append hd)
  have hl : (Value.ref (hp.objs.size + 1) :: us ++ ds).length = ps.length := by
    have z := r2.length
    have z2 := F.len _ _ _ _ hq
    rw [← z2]
    exact z.symm
  have hus : us.length ≤ sizeLine := by
    rw [← Paired.length r, sizeLine_eq]
    omega
  have core := F.run _ X.stack _ _ ⟨Value.ref (hp.objs.size + 1) :: us, []⟩ (Value.ref (hp.objs.size + 1) :: (us ++ ds)) _ _ E0 (hr.make C us []) (J.env0.make C us []) (hb _ (Value.ref (hp.objs.size + 1) :: us) J.kIn hl) r2 hq
  refine wpAny_call (PySem.HandSPX.call_own PySem.F.excBase_ValueError (fun Y => PySem.HandSPX.refsVE_contains Y bm hbm) (I.kIn _ _ hC) (PySem.W.looks_findIn I.kIn iC) (fun self => PySem.W.bind_fn I.kIn self tI) hus (codeAny_mono core fun rr s' z => ?_))
  match rr, z with
  | .error er, z => exact arr0 (σ := σ) pins _ _ er s' J z
  | .ok (.ret u), z =>
    obtain ⟨v, H2, os2, bare2, un2, hok2, rv, ev, d, gs, ea, ed, hd1, q2⟩ := z
    subst ev
    obtain ⟨h2, g2, d2, t2, os'⟩ := s'
    exact ⟨rv, mk_end (raises_own T.exC T.tyC) I up old un2 hok2 os2 bare2 ea ed hd1 q2⟩
  | .ok .next, z => exact z.elim
  | .ok .brk, z => exact z.elim
  | .ok .cont, z => exact z.elim
theorem ge_exc (G : GX c X.prog X.w X.K X.mg X.base x C k (spX X.K C mk)) (hr : Rm c (k + 1) X.A) (hg : Gl X x) (ha : PA X (e :: es) t) (hdb : (x == ("__debug__" : Str)) = false := by decide)
    (he : starEach (e :: es) X.env = (false, eval e X.env) :: starEach es X.env := by rfl) (hpl : (backTo pos (starEach es X.env)).any (·.1) = false := by rfl) : PMk X (.Call (.Name x p) (e :: es) [] pos) (xMk C mk t) := by
  obtain ⟨f, F, T, hm, iC, tI⟩ := G.ex
  intro pins s σ H Q I h
  refine wpAny_Call_Name_kw (ld_glob I hg hm ?_ hdb)
  refine PySem.W.callWith_K (h₀ := X.base) I.ok.mod.kin T.kC (thn (ha.run pos pins s σ H _ I h) ?_) he hpl
  rintro us s1 ⟨vs, H1, I1, r, hz, q⟩
  exact ⟨I1.kIn, go_exc T iC tI F hr I1 r hz q⟩
theorem ge_exc0 (G : GX c X.prog X.w X.K X.mg X.base x C k (spX X.K C mk)) (hr : Rm c (k + 1) X.A) (hg : Gl X x) (hdb : (x == ("__debug__" : Str)) = false := by decide) : PMk X (.Call (.Name x p) [] [] pos) (xMk C mk tNil) := by
  obtain ⟨f, F, T, hm, iC, tI⟩ := G.ex
  intro pins s σ H Q I h
  obtain ⟨hz, q⟩ := h
  refine wpAny_Call_Name_kw (ld_glob I hg hm ?_ hdb)
  exact PySem.W.callWith_K0 I.kIn T.kC (go_exc (us := []) T iC tI F hr I .nil hz q)
end

/-! ## D.m(e, ..): a def read off a class -/
structure ClF (K : PySem.W.Frag) (D f : Addr) (m : Str) : Prop where
  ga : PySem.W.specialIn K (.ref D) "__getattribute__" = some (some (.builtin "type.__getattribute__"))
  rd : PySem.W.readsIn K D (.type "type") = true
  at_ : PySem.W.findCls K (.ref D) (.type "type") m = some (.val (.ref f))
  kp : PySem.W.keepIn K (.ref f) = true
structure GD (c : Bool) (P : Program) (w : World) (K : PySem.W.Frag) (mg : Str → Option Value) (base : Heap) (D m : Str) (k : Nat) (sp : Sp) : Prop where
  ex : ∃ C f : Addr, Held c P w K mg base k f sp ∧ mg D = some (.ref C) ∧ ClF K C f m
section
variable {X : Cx} {c : Bool} {k : Nat} {sp : Sp} {D m : Str} {p1 apos pos : Pos} {e : Expr} {es : List Expr} {t : TA} {W : WX}
theorem ge_clsm {pl : Sem Bool} (G : GD c X.prog X.w X.K X.mg X.base D m k sp) (hr : Rm c k X.A) (tk : Takes X W) (hg : Gl X D) (ha : PA X (e :: es) t) (hdb : (D == ("__debug__" : Str)) = false := by decide)
    (hst : starEach (e :: es) X.env = (false, eval e X.env) :: starEach es X.env := by rfl) (hpl : (backTo pos (starEach es X.env)).any (·.1) = false := by rfl)
    (ht : eval (.Call (.Attribute (.Name D p1) m apos) (e :: es) [] pos) X.env = (do
      let w ← eval (.Name D p1) X.env
      standAt apos.atName
      let (g, first) ← holding [w] (getMethod w m pl)
      callWith pos g first (backTo pos (starEach (e :: es) X.env)) (backToKw pos (keywordEach [] X.env))) := by rfl) :
    PE X (.Call (.Attribute (.Name D p1) m apos) (e :: es) [] pos) (cCall sp W t) := by
  obtain ⟨C, f, F, hm, cf⟩ := G.ex
  constructor
  intro pins s σ H Q I h
  refine PySem.W.methodCall_KW (pl := pl) (ld_glob I hg hm ?_ hdb) ht
  refine PySem.W.method_cls I.kIn cf.ga (PySem.W.cls_value I.kIn cf.rd cf.at_ rfl ?_)
  refine PySem.W.callWith_K (first := []) (h₀ := X.base) I.ok.mod.kin cf.kp (thn (ha.run pos pins _ σ H _ (I.tok _) h) ?_) hst hpl
  rintro us s1 ⟨vs, H1, I1, r, q⟩
  exact ⟨I1.kIn, go_fn F hr (arr_of tk σ) I1 r q⟩
end

/-! ## an exception that is held: read as a thing that does not change -/
/-- at a stands an exception of the class at C, its own dict at d -/
def xO (a C d : Addr) (o : Obj) : Prop := o.cls = .ref C ∧ o.dict = some d ∧ ∃ vs, o.data = .fields vs
/-- what the classes say, for reading fields and for isinstance -/
structure XC (K : PySem.W.Frag) (C : Addr) : Prop where
  ga : PySem.W.findIn K (.ref C) "__getattribute__" = some (some (.builtin "BaseException.__getattribute__"))
  gg : PySem.W.findIn K (.ref C) "__getattr__" = some none
  ex : PySem.W.subIn K (.ref C) (.type "BaseException") = some true
  hd : PySem.W.hasDictIn K C = true
  cl : PySem.W.findIn K (.ref C) "__class__" = some (some (.builtin "object.__class__"))
  cg : PySem.W.specialIn K (.builtin "object.__class__") "__get__" = some (some (.builtin "getset_descriptor.__get__"))
  ct : PySem.W.takesIn K (.builtin "object.__class__") = some true
  mo : PySem.W.mroIn K C (.type "object") = some true

theorem fz_dataN {K : PySem.W.Frag} {C : Addr} {od : Option Obj} {name : Str} {a g : Value} (hc : (PySem.W.clsIn K C).isSome = true) (ha : PySem.W.findIn K (.ref C) name = some (some a)) (hg : PySem.W.specialIn K a "__get__" = some (some g)) (ht : PySem.W.takesIn K a = some true) :
    PySem.W.findObj K C od name = some (.bind g a) := by
  obtain ⟨cd, hcd⟩ := Option.isSome_iff_exists.mp hc
  unfold PySem.W.findObj
  simp only [hcd, Option.bind_some, ha, hg, ht]

section
open PySem.W
theorem xc_class {prog : Program} {w : World} {A : Around} {E : Value → Shared → Prop} {s : Shared} {K : Frag} {x D : Addr} {ox : Obj} {od : Option Obj} {Q : Option Value → Shared → Prop} (T : XC K D)
    (X : K.In s.heap) (I : InstAt s.heap x ox D od) (h : Q (some (.ref D)) { s with toks := s.toks + 1 }) : wpAny (model prog w) A (getAttr? (.ref x) "__class__") Q E s := by
  have hf : findObj K D od "__class__" = some (.bind (.builtin "getset_descriptor.__get__") (.builtin "object.__class__")) := fz_dataN (by obtain ⟨cd, hc, _⟩ := any_some T.hd; rw [hc]; rfl) T.cl T.cg T.ct
  obtain ⟨hp, g, d, t, os⟩ := s
  have M0 := I.type (M := model prog w)
  have M1 := looks_findIn (M := model prog w) X T.ga
  have M2 := looks_findIn (M := model prog w) X T.gg
  have M3 := looks_find (M := model prog w) X I hf
  have isB : Looks (model prog w) hp (isInstance (.ref x) (.type "BaseException")) true := M0.andThen (looks_subIn X T.ex)
  have z2 : (Value.builtin "BaseException.__getattribute__" == Value.builtin "object.__getattribute__") = false := by decide +kernel
  unfold getAttr? getAttrBy? getAttrBy
  refine wpAny_bind (wpAny_mkText (wpAny_bind (wpAny_attempt (wpAny_holding (wpAny_bind (M0.at (wpAny_bind (M1.at ?_))))))))
  show wpAny _ _ (if (onTheHeap (Value.ref D) && Value.builtin "BaseException.__getattribute__" == Value.builtin "object.__getattribute__") = true then _ else _) _ _ _
  rw [z2, Bool.and_false, if_neg Bool.false_ne_true]
  unfold getAttrByItsOwn hookBefore
  refine wpAny_bind ?_
  rw [if_pos (show onTheHeap (Value.ref D) = true from rfl)]
  refine M2.at ?_
  refine wpAny_bind (wpAny_attempt (wpAny_holding ?_))
  unfold callGetattribute
  rw [show (false && onTheHeap (Value.builtin "BaseException.__getattribute__")) = false from rfl, if_neg Bool.false_ne_true]
  unfold boundAndCalled
  rw [PySem.F.excAttr_ValueError.ga.bind (.ref x)]
  refine wpAny_bind (wpAny_pure ?_)
  show wpAny _ _ (call (.builtin "BaseException.__getattribute__") [.ref x, .str "__class__" t]) _ _ _
  refine wpAny_call (codeAny_call_builtin PySem.F.excAttr_ValueError.ga.plain PySem.F.entry_bexc_ga ?_)
  refine @check_slot (model prog w) _ _ ⟨hp, g, d, t + 1, os⟩ "BaseException.__getattribute__" "BaseException" "__getattribute__" (.ref x) [.str "__class__" t] [] _ (by decide +kernel) (by decide +kernel) isB (PySem.F.args_bexc_ga (.ref x) (.str "__class__" t)) ?_
  unfold Builtin.«object.__getattribute__»
  refine wpAny_bind (wpAny_of_eq (a := ((Value.ref x : Value), [Value.str "__class__" t])) (by first | rfl | (simp only [slotArgs]; rfl)) ?_)
  refine wpAny_bind (wpAny_pure (wpAny_bind (M0.at (wpAny_bind (M3.at ?_)))))
  show wpAny _ _ (holding [Value.builtin "object.__class__"] (call (.builtin "getset_descriptor.__get__") [.builtin "object.__class__", .ref x, .ref D]) >>= ret) _ _ _
  refine wpAny_bind (wpAny_holding (wpAny_call (class_get (s := ⟨hp, g, d, t + 1, os⟩) (ox := ox) (od := od) X I T.mo ?_)))
  refine wpAny_pure ?_
  show wpAny _ _ (handedOut (.ref D)) _ _ _
  rw [handedOut_of (v := .ref D) rfl]
  first
    | exact wpAny_pure (wpAny_pure h)
    | exact wpAny_pure h
    | exact wpAny_pure (wpAny_bind (wpAny_pure (wpAny_pure h)))
theorem xc_kit {K : Frag} {x D : Addr} {ox : Obj} {od : Option Obj} (T : XC K D) : KitX K (.ref x) (.ref D) (fun h => InstAt h x ox D od) := by
  obtain ⟨cdD, hcD, _⟩ := any_some T.hd
  have hl : ∃ o, K.lookup D = some o ∧ ∃ cd, o.data = .cls cd := by
    unfold clsIn at hcD
    split at hcD
    · rename_i ho
      exact ⟨_, ho, _, rfl⟩
    · cases hcD
  obtain ⟨o, ho, cd, hcd⟩ := hl
  obtain ⟨oc, odc, dt, sl⟩ := o
  dsimp only at hcd
  subst hcd
  refine ⟨fun _ _ _ I => I.type, fun _ _ X _ => ?_, fun h tp dd its n sl X htp => ?_, fun X I k => xc_class T X I k⟩
  · intro A' Q' E' s' kk q
    unfold isType loadHead
    exact wpAny_bind (wpAny_loadPart (kk _ _ (X _ _ ho)) (wpAny_pure q))
  · refine Bool.eq_false_iff.mpr fun q => ?_
    have e : D = tp := Value.ref.inj (beq_iff_eq.mp q)
    subst e
    have z := (X _ _ ho).symm.trans htp
    cases z
end
end GL

namespace GL
open PySem PySem.Spec PyProof.Rows L2

/-! ## try, with any number of clauses, each with a name or none -/
abbrev SuT := Addr → Value → Option Addr → TS
/-- the clauses' wishes, one behind another: the class, the slot of the name, the suite -/
def wCl (K : PySem.W.Frag) (Wout : WX) (D : Ends) : List (Value × Option Nat × SuT) → WX
  | [] => Wout
  | (c, none, ts) :: r => fun cls d σ H => ∃ b, PySem.W.exmOne K cls c = some b ∧ (b = true → ∀ a, H a = none → ts a cls d D σ H) ∧ (b = false → wCl K Wout D r cls d σ H)
  | (c, some i, ts) :: r => fun cls d σ H => ∃ b, PySem.W.exmOne K cls c = some b ∧
      (b = true → ∀ a, H a = none → ts a cls d { nx := fun σ' H' => D.nx (σ'.set i none) H', rt := D.rt, bk := fun σ' H' => D.bk (σ'.set i none) H', ct := fun σ' H' => D.ct (σ'.set i none) H' } (σ.set i (some (.ref a))) H) ∧
      (b = false → wCl K Wout D r cls d σ H)
/-- a suite's derivation: at the exception's address, pinned -/
abbrev SuOk (X : Cx) (suite : List Stmt) (ts : SuT) : Prop :=
  ∀ (a : Addr) (oe : Obj) (cls : Value) (d : Option Addr) (pn : List (Addr × Obj)), Zc cls d oe → (∃ vs, oe.data = .fields vs) → X.base.get? a = none → PSs (X.suite a ((a, oe) :: pn)) suite (ts a cls d)
inductive ClOk (X : Cx) : List ExceptHandler → List (Value × Option Nat × SuT) → Prop
  | nil : ClOk X [] []
  | bare {x : Str} {c : Value} {ts : SuT} {s0 : Stmt} {suite : List Stmt} {np p : Pos} {hs : List ExceptHandler} {l : List (Value × Option Nat × SuT)} (hc : Names X x c) (hsu : SuOk X (s0 :: suite) ts) (r : ClOk X hs l) :
      ClOk X (.ExceptHandler (some (.Name x np)) none (s0 :: suite) p :: hs) ((c, none, ts) :: l)
  | named {x n : Str} {c : Value} {i : Nat} {ts : SuT} {s0 : Stmt} {suite : List Stmt} {np p : Pos} {hs : List ExceptHandler} {l : List (Value × Option Nat × SuT)} (hN : X.N.Nodup) (hi : X.N[i]? = some n) (hln : X.env.kindOf n = some .local)
      (hc : Names X x c) (hsu : SuOk X (s0 :: suite) ts) (r : ClOk X hs l) : ClOk X (.ExceptHandler (some (.Name x np)) (some n) (s0 :: suite) p :: hs) ((c, some i, ts) :: l)
theorem not_frame {B h : Heap} {l : List Env} {a : Addr} {o : Obj} {vs : Array Value} (ff : h.FunFrames B l) (e : h.get? a = some o) (dd : o.data = .fields vs) : a ∉ frs l := fun hm => by
  obtain ⟨_, o', e', hnf⟩ := ff.mem hm
  rw [e] at e'
  cases e'
  exact hnf _ dd
section
variable {X : Cx} {body : List Stmt} {h0 : ExceptHandler} {hs : List ExceptHandler} {l : List (Value × Option Nat × SuT)} {pos : Pos} {tb : WX → TS} {Wout : WX}
theorem gs_try (hst : X.stack = X.env :: X.outer) (hf : X.env.frame = some X.env.locals) (tk : Takes X Wout)
    (hb : ∀ (W : WX) (pn : List (Addr × Obj)) (xe : Value → Shared → Prop), Takes (X.tr pn xe) W → PassesOwn (model X.prog X.w) X.A X.env xe → PSs (X.tr pn xe) body (tb W))
    (hh : ClOk X (h0 :: hs) l) : PS X (.Try body (h0 :: hs) [] [] pos) (fun D σ H => tb (wCl X.K Wout D l) D σ H) := by
  constructor
  intro pins s σ H D I h
  have ok := I.ok
  have hfr : X.A.frames = some (X.env :: X.outer) := by rw [ok.frames, hst]
  refine wpAny_Try_except ?_
  -- what the body's exceptions are wished to do: be noted, then be handled
  have catching : ∀ u s', XE (X.tr (X.pn ++ pins) (fun e s1 => wpAny (model X.prog X.w) X.A (noteFrame e X.env) (fun _ s2 => wpAny (model X.prog X.w) X.A (setFlight e none) (fun _ s3 => wpAny (model X.prog X.w) X.A (handleBy e X.env (h0 :: hs)) (SP X pins D) X.xe s3) X.xe s2) X.xe s1)) (wCl X.K Wout D l) u s' →
      wpAny (model X.prog X.w) X.A (noteFrame u X.env) (fun _ s2 => wpAny (model X.prog X.w) X.A (setFlight u none) (fun _ s3 => wpAny (model X.prog X.w) X.A (handleBy u X.env (h0 :: hs)) (SP X pins D) X.xe s3) X.xe s2) X.xe s' := by
    rintro u s' ⟨a, B, sI, pins', σ', H', cls, d, rfl, J', nb, up, sky, na, os, ag, w⟩
    have J : Inv X pins σ' H' sI := J'.ofTry ok
    have sky' : Sky B (X.env :: X.outer) a (Zc cls d) X.env.locals s'.heap := by rw [← hst]; exact sky
    refine Sky.land Zc.steady hfr hf sky' fun h3 fl3 up3 => ?_
    have J3 : Inv X pins σ' H' { s' with heap := h3 } := J.landed nb fl3.1 (up.trans up3) os ag
    obtain ⟨oe3, vs3, he3, hz3, hd3⟩ := fl3.there
    have nfr := not_frame fl3.2.2.1 he3 hd3
    have nL : a ≠ X.env.locals := fun z => nfr (List.mem_filterMap.mpr ⟨X.env, List.mem_cons_self, by rw [hf, z]⟩)
    have nF : a ∉ X.fs := fun hm => by
      obtain ⟨e, he, q⟩ := List.mem_filterMap.mp hm
      exact nfr (List.mem_filterMap.mpr ⟨e, List.mem_cons_of_mem _ he, q⟩)
    -- the exception is younger than the ground
    have nB : X.base.get? a = none := by
      cases q : X.base.get? a with
      | none => rfl
      | some o =>
        have inF : a ∉ frs X.stack := by rw [hst]; exact nfr
        have z := nb a o (J.bk a o q) inF
        rw [fl3.2.1] at z
        cases z
    have S3 := J3.suite he3 hd3 na nL nF
    have clause : ∀ {x : Str} {c : Value} {np : Pos}, Names X x c → ∀ {Q : Value → Shared → Prop} {E : Value → Shared → Prop}, Q c { s' with heap := h3 } → wpAny (model X.prog X.w) (X.A.mark (some (.ref a))) (eval (.Name x np) X.env) Q E { s' with heap := h3 } := by
      intro x c np hc Q E q
      obtain ⟨hg, hdbg, hm | ⟨hm, hv, hnn⟩⟩ := hc
      · exact ld_glob (X := X.suite a ((a, oe3) :: (X.pn ++ pins))) S3 hg hm q hdbg
      · exact ld_blt (X := X.suite a ((a, oe3) :: (X.pn ++ pins))) S3 hg hm hv q hnn hdbg
    have LT : PySem.W.Looks (model X.prog X.w) h3 (typeOf (.ref a)) cls := fun A Q E s k q => wpAny_typeOf_ref (k _ _ he3) (by rw [hz3.1]; exact q)
    have go : ∀ {hs' : List ExceptHandler} {l' : List (Value × Option Nat × SuT)}, ClOk X hs' l' → wCl X.K Wout D l' cls d σ' H' → wpAny (model X.prog X.w) X.A (handleBy (.ref a) X.env hs') (SP X pins D) X.xe { s' with heap := h3 } := by
      intro hs' l' hk
      induction hk with
      | nil =>
        intro w
        refine wpAny_handleBy_nil ?_
        obtain ⟨k1, k2, k3, oe, vs, T, oT, ts', he, hz, hd, h1, hr⟩ := id fl3
        unfold PySem.passOn
        refine wpAny_bind (wpAny_field he hd h1 ?_)
        rw [if_neg (show ¬ ((Value.ref T == Value.none) = true) from by simp)]
        have onward : wpAny (model X.prog X.w) X.A (setFlight (.ref a) X.env.frame) (fun _ s4 => wpAny (model X.prog X.w) X.A (throw (.ref a) : Sem Flow) (SP X pins D) X.xe s4) X.xe { s' with heap := h3 } := by
          rw [hf]
          refine HandSPX.setFlight_upZ fl3 fun h4 hh4 up4 => wpAny_throw (tk _ _ ?_)
          exact ⟨a, B, sI, pins, σ', H', cls, d, rfl, J, nb, (up.trans up3).trans up4, .inr (.inr (by rw [hst]; exact hh4)), na, os, ag, w⟩
        first
          | exact wpAny_bind (wpAny_pure (wpAny_bind onward))
          | exact wpAny_bind onward
      | @bare x c ts s0 suite np p hs2 l2 hc hsu r ih =>
        rintro ⟨b, hb1, hyes, hno⟩
        refine wpAny_handleBy_cons (codeAny_handlers_test ?_) (by intro q; cases q)
        refine clause hc ((PySem.W.exm_one (M := model X.prog X.w) J3.kIn LT hb1).here ?_)
        cases b with
        | true =>
          refine codeAny_handlers_suite ?_
          refine HandSPX.lands_againZ fl3 fun h4 fl4 up4 => ?_
          have J4 : Inv X pins σ' H' { s' with heap := h4 } := J.landed nb fl4.1 ((up.trans up3).trans up4) os ag
          obtain ⟨oe4, vs4, he4, hz4, hd4⟩ := fl4.there
          have S4 := J4.suite he4 hd4 na nL nF
          refine wpAny_mono ((hsu a oe4 cls d (X.pn ++ pins) hz4 ⟨_, hd4⟩ nB).run [] _ _ H' _ S4 (hyes rfl a na)) (fun f s6 z => ?_) (fun _ _ z => False.elim z)
          match f, z with
          | .next, ⟨_, _, S6, q6⟩ => exact ⟨_, _, S6.unsuite ok, q6⟩
          | .brk, ⟨_, _, S6, q6⟩ => exact ⟨_, _, S6.unsuite ok, q6⟩
          | .cont, ⟨_, _, S6, q6⟩ => exact ⟨_, _, S6.unsuite ok, q6⟩
          | .ret u, ⟨_, _, _, S6, r6, q6⟩ => exact ⟨_, _, _, S6.unsuite ok, r6, q6⟩
        | false => exact ih (hno rfl)
      | @named x n c i ts s0 suite np p hs2 l2 hN hi hln hc hsu r ih =>
        rintro ⟨b, hb1, hyes, hno⟩
        refine wpAny_handleBy_cons (codeAny_handlers_test ?_) (by intro q; cases q)
        refine clause hc ((PySem.W.exm_one (M := model X.prog X.w) J3.kIn LT hb1).here ?_)
        cases b with
        | true =>
          refine codeAny_handlers_suite_as ?_
          refine HandSPX.lands_againZ fl3 fun h4 fl4 up4 => ?_
          have J4 : Inv X pins σ' H' { s' with heap := h4 } := J.landed nb fl4.1 ((up.trans up3).trans up4) os ag
          obtain ⟨oe4, vs4, he4, hz4, hd4⟩ := fl4.there
          have S4 := J4.suite he4 hd4 na nL nF
          refine store_ok (X := X.suite a ((a, oe4) :: (X.pn ++ pins))) (v := .ref a) S4 hN hi (.inl hln) rfl (fun s5 S5 => ?_) (.inr hln)
          refine wpAny_mono ((hsu a oe4 cls d (X.pn ++ pins) hz4 ⟨_, hd4⟩ nB).run [] s5 _ H' _ S5 (hyes rfl a na)) (fun f s6 z => ?_) (fun _ _ z => False.elim z)
          have gone : ∀ {σ6 : L2.St} {H6 : Hp} {Q : Shared → Prop}, Inv (X.suite a ((a, oe4) :: (X.pn ++ pins))) [] σ6 H6 s6 → (∀ s7, Inv X pins (σ6.set i none) H6 s7 → Q s7) →
              wpAny (model X.prog X.w) X.A (do bindName X.env n .none; unbindBehindTheSuite X.env n p) (fun _ s7 => Q s7) X.xe s6 := by
            intro σ6 H6 Q S6 hq
            exact gone_ok (S6.unsuite ok) hN hi hln hq
          match f, z with
          | .next, ⟨_, _, S6, q6⟩ => exact gone S6 fun s7 J7 => ⟨_, _, J7, q6⟩
          | .brk, ⟨_, _, S6, q6⟩ => exact gone S6 fun s7 J7 => ⟨_, _, J7, q6⟩
          | .cont, ⟨_, _, S6, q6⟩ => exact gone S6 fun s7 J7 => ⟨_, _, J7, q6⟩
          | .ret u, ⟨_, _, _, S6, r6, q6⟩ => exact gone S6 fun s7 J7 => ⟨_, _, _, J7, r6, q6⟩
        | false => exact ih (hno rfl)
    exact go hh w
  refine wpAny_mono ((hb (wCl X.K Wout D l) (X.pn ++ pins) _ catching PassesOwn.looking).run [] s σ H D (I.toTry _) h) (fun f s1 z => ?_) (fun e s1 he => he)
  match f, z with
  | .next, ⟨_, _, J', q⟩ => exact wpAny_execs_nil ⟨_, _, J'.ofTry ok, q⟩
  | .brk, ⟨_, _, J', q⟩ => exact ⟨_, _, J'.ofTry ok, q⟩
  | .cont, ⟨_, _, J', q⟩ => exact ⟨_, _, J'.ofTry ok, q⟩
  | .ret u, ⟨_, _, _, J', r, q⟩ => exact ⟨_, _, _, J'.ofTry ok, r, q⟩
theorem takes_no {X : Cx} : Takes X (fun _ _ _ _ => False) := fun _ _ ⟨_, _, _, _, _, _, _, _, _, _, _, _, _, _, _, _, w⟩ => w.elim
end

/-! ## within a suite: a def is called with the exception among its arguments -/
/-- the exception, as a thing that stands still -/
abbrev FX (o : Obj) (a : Addr) : HO := .frz o (.own a)
def cCallE (a : Addr) (cls : Value) (d : Option Addr) (sp : Sp) (t : TA) : TE := fun σ H Q => t σ H fun vs H1 => ∀ o : Obj, Zc cls d o → (∃ vs, o.data = .fields vs) → H1 a = none → sp vs (upd H1 a (FX o a)) (fun v H2 => Q v (del H2 a)) E0
section
variable {X : Cx} {c : Bool} {k : Nat} {sp : Sp} {x : Str} {p pos : Pos} {e : Expr} {es : List Expr} {t : TA} {a : Addr} {oe : Obj} {cls : Value} {d : Option Addr} {pn : List (Addr × Obj)}
theorem fx_ne {o : Obj} {b : Addr} {u : HO} {H : Hp} (hn : H a = none) (h : H b = some u) : upd H a (FX o a) b = some u := by
  rw [upd_ne (ne_of_none h hn)]
  exact h
theorem ge_callE (G : GF c X.prog X.w X.K X.mg X.base x k sp) (hr : Rm c k (X.A.mark (some (.ref a)))) (hz : Zc cls d oe) (hf : ∃ vs, oe.data = .fields vs) (hnb : X.base.get? a = none) (hg : Gl X x)
    (ha : PA (X.suite a ((a, oe) :: pn)) (e :: es) t) (hdb : (x == ("__debug__" : Str)) = false := by decide)
    (he : starEach (e :: es) X.env = (false, eval e X.env) :: starEach es X.env := by rfl) (hpl : (backTo pos (starEach es X.env)).any (·.1) = false := by rfl) :
    PE (X.suite a ((a, oe) :: pn)) (.Call (.Name x p) (e :: es) [] pos) (cCallE a cls d sp t) := by
  obtain ⟨f, ⟨fd, ps, ds, dvs, sp0, F, hb, hd, g0⟩, hm, hk⟩ := G.ex
  constructor
  intro pins s σ H Q I h
  refine wpAny_Call_Name_kw (ld_glob I hg hm ?_ hdb)
  refine PySem.W.callWith_K (h₀ := X.base) I.ok.mod.kin hk (thn (ha.run pos pins s σ H _ I h) ?_) he hpl
  rintro us s1 ⟨vs, H1, I1, r, q⟩
  refine ⟨I1.kIn, ?_⟩
  obtain ⟨get, none1, nL, nF, _⟩ := I1.pin (a, oe) (List.mem_append_left _ List.mem_cons_self)
  have hsp := g0 _ _ _ _ (q oe hz hf none1)
  have env0 := I1.env0
  have nbe : ∀ b o, X.base.get? b = some o → b ≠ a := fun b o z y => by rw [y, hnb] at z; cases z
  have nfr : a ∉ frs X.stack := fun hm => (List.mem_cons.mp (I1.stkSub a hm)).elim nL nF
  have hok2 : HOk X.prog X.w (upd H1 a (FX oe a)) s1.heap := fun b o z => by
    by_cases hb : b = a
    · subst hb
      rw [upd_same] at z
      cases z
      exact ⟨get, oe, get⟩
    · rw [upd_ne hb] at z
      exact (I1.hok b o z).stay (fun _ _ _ y => y) (fun _ y => fx_ne none1 y) fun _ _ y => fx_ne none1 y
  have e2 : Env0 X.prog X.w X.K X.mg X.base (X.A.mark (some (.ref a))) X.stack s1 (upd H1 a (FX oe a)) :=
    ⟨env0.frames, env0.mod, fun b o z => ⟨(env0.bs b o z).1, by rw [upd_ne (nbe b o z)]; exact (env0.bs b o z).2⟩, env0.bsz, env0.funs, fun b hb => by rw [upd_ne (show b ≠ a from fun y => nfr (by rw [← y]; exact hb))]; exact env0.frf b hb, hok2, env0.bare⟩
  have r2 : Vals (vs ++ dvs) (us ++ ds) := r.append hd
  have hl : (us ++ ds).length = ps.length := by
    rw [← r2.length]
    exact F.len _ _ _ _ hsp
  have core := F.run (X.A.mark (some (.ref a))) X.stack s1 (upd H1 a (FX oe a)) ⟨us, []⟩ (us ++ ds) (vs ++ dvs) _ E0 hr e2 (hb s1 us I1.kIn hl) r2 hsp
  refine wpAny_call (codeAny_mono core fun rr s' z => ?_)
  match rr, z with
  | .error er, z =>
    obtain ⟨_, _, _, _, _, _, _, _, _, _, _, _, z⟩ := z
    exact z.elim
  | .ok .next, z => exact z.elim
  | .ok .brk, z => exact z.elim
  | .ok .cont, z => exact z.elim
  | .ok (.ret u), ⟨v, H', os, bare, un, hok', rv, q'⟩ =>
    have still : H' a = some (FX oe a) := un.frzs a _ _ upd_same
    have get' : s'.heap.get? a = some oe := (hok' a _ still).1
    have ne' : ∀ {b : Addr} {o : HO}, H' b = some o → o ≠ FX oe a → b ≠ a := fun {b o} z hne y => by
      rw [y, still] at z
      exact hne (Option.some.inj z).symm
    have un' : Un (frs X.stack) [] H1 (del H' a) s1.heap s'.heap := {
      keep := fun b o z n hb hx => by
        by_cases y : b = a
        · rw [y] at z ⊢
          rw [get] at z
          rw [← z]
          exact get'
        · exact un.keep b o z (by rw [upd_ne y]; exact n) hb hx
      slot := fun b o z n hb hx => un.slot b o z (by rw [upd_ne (show b ≠ a from fun y => nfr (by rw [← y]; exact hb))]; exact n) hb hx
      free := fun b o z n hx => by
        by_cases y : b = a
        · rw [y, del_same]
        · rw [del_ne y]
          exact un.free b o z (by rw [upd_ne y]; exact n) hx
      there := fun b o z hx => un.there b o z hx
      tups := fun b xs z => by
        rw [del_ne (ne_of_none z none1)]
        exact un.tups b xs (fx_ne none1 z)
      frzs := fun b o y z => by
        rw [del_ne (ne_of_none z none1)]
        exact un.frzs b o y (fx_ne none1 z)
      tbls := fun b qs z => by
        rw [del_ne (ne_of_none z none1)]
        exact un.tbls b qs (fx_ne none1 z) }
    have hok3 : HOk X.prog X.w (del H' a) s'.heap := fun b o z => by
      by_cases y : b = a
      · rw [y, del_same] at z
        cases z
      · rw [del_ne y] at z
        exact (hok' b o z).stay (fun _ _ _ w => w) (fun c' w => by rw [del_ne (ne' w (fun e => by cases e))]; exact w) fun c' xs w => by
          rw [del_ne (ne' w (fun e => by cases e))]
          exact w
    exact ⟨v, del H' a, I1.call' (ch := []) os un' hok3 bare (fun b z => absurd z (by simp)), rv, q'⟩
end
end GL

namespace GL
open PySem PySem.Spec PyProof.Rows L2

/-! ## reading off an exception that stands still -/
theorem fx_inst {X : Cx} {pins : List (Addr × Obj)} {σ : L2.St} {H : Hp} {s : Shared} {a C d : Addr} {o : Obj} {fs : List (Str × V)} (I : Inv X pins σ H s) (get : s.heap.get? a = some o) (hc : o.cls = .ref C) (hd : o.dict = some d)
    (hf : ∃ vs, o.data = .fields vs) (ed : H d = some (.xd fs)) : ∃ (od : Obj) (mA : Str → Option Value), PySem.W.InstAt s.heap a o C (some od) ∧ (∀ n, PySem.W.lookIn n od = some (mA n)) ∧ ∀ f, RelO (fs.lookup f) (mA f) := by
  have x : ObjOk X.prog X.w H s.heap d (.xd fs) := I.hok d _ ed
  obtain ⟨mA, hns, hr⟩ := x
  obtain ⟨od, ho, hl⟩ := lookIn_ns hns
  obtain ⟨vs, hv⟩ := hf
  refine ⟨od, mA, ⟨get, hc, by unfold PySem.W.notCls; rw [hv], by rw [hd]; exact ho⟩, hl, hr⟩
/-- the reading of e.n, e an exception that is handed in as FX -/
def tXfF (K : PySem.W.Frag) (te : TE) (n : Str) : TE := fun σ H Q => te σ H fun x H1 => ∃ (a C d : Addr) (o : Obj) (fs : List (Str × V)) (v : V), x = .ref a ∧ H1 a = some (FX o a) ∧ Zc (.ref C) (some d) o ∧ (∃ vs, o.data = .fields vs) ∧ XC K C ∧
  PySem.W.findIn K (.ref C) n = some none ∧ H1 d = some (.xd fs) ∧ fs.lookup n = some v ∧ Q v H1
section
variable {X : Cx} {e : Expr} {te : TE} {pos : Pos} {n : Str}
theorem xget {X : Cx} {pins : List (Addr × Obj)} {σ : L2.St} {H : Hp} {s : Shared} {a C d : Addr} {o : Obj} {fs : List (Str × V)} {n : Str} {v : V} {b : Bool} {Q : Value → Shared → Prop} {E : Value → Shared → Prop} (I : Inv X pins σ H s) (T : XC X.K C) (hno : PySem.W.findIn X.K (.ref C) n = some none)
    (get : s.heap.get? a = some o) (hz : Zc (.ref C) (some d) o) (hf : ∃ vs, o.data = .fields vs) (ed : H d = some (.xd fs)) (l : fs.lookup n = some v)
    (q : ∀ u, RelV v u → Q u { s with toks := s.toks + 1 }) : wpAny (model X.prog X.w) X.A (getAttr (.ref a) n b) Q E s := by
  obtain ⟨od, mA, J, hl, hr⟩ := fx_inst I get hz.1 hz.2 hf ed
  obtain ⟨u, hu, ru⟩ := RelO.some_of (v := v) (o := mA n) (by rw [← l]; exact hr n)
  exact HandSPX.exc_get I.kIn J T.ga T.gg T.ex (PySem.W.findObj_own T.hd hno rfl (by rw [hl, hu])) (handed_of ru) (q u ru)
theorem ge_fxf (he : PE X e te) (hb : attributeBase e n X.env (eval e X.env) = eval e X.env := by rfl) : PE X (.Attribute e n pos) (tXfF X.K te n) := by
  constructor
  intro pins s σ H Q I h
  refine attr_of hb (thn (he.run pins s σ H _ I h) ?_)
  rintro u s1 ⟨x, H1, I1, rx, a, C, d, o, fs, v, ex, ea, hz, hf, T, hno, ed, l, q⟩
  subst ex
  obtain rfl : u = Value.ref a := rx
  exact xget I1 T hno (I1.hok a _ ea).1 hz hf ed l fun u ru => ⟨v, H1, I1.tok _, ru, q⟩
/-- .. in the suite itself, where it is pinned -/
def tXfP (K : PySem.W.Frag) (a : Addr) (cls : Value) (d : Option Addr) (te : TE) (n : Str) : TE := fun σ H Q => te σ H fun x H1 => x = .ref a ∧ ∃ (C dd : Addr) (fs : List (Str × V)) (v : V), cls = .ref C ∧ d = some dd ∧ XC K C ∧
  PySem.W.findIn K (.ref C) n = some none ∧ H1 dd = some (.xd fs) ∧ fs.lookup n = some v ∧ Q v H1
theorem ge_fxp {a : Addr} {oe : Obj} {cls : Value} {d : Option Addr} {pn : List (Addr × Obj)} (hz : Zc cls d oe) (hf : ∃ vs, oe.data = .fields vs) (he : PE (X.suite a ((a, oe) :: pn)) e te) (hb : attributeBase e n X.env (eval e X.env) = eval e X.env := by rfl) :
    PE (X.suite a ((a, oe) :: pn)) (.Attribute e n pos) (tXfP X.K a cls d te n) := by
  constructor
  intro pins s σ H Q I h
  refine attr_of hb (thn (he.run pins s σ H _ I h) ?_)
  rintro u s1 ⟨x, H1, I1, rx, ex, C, dd, fs, v, ec, ed, T, hno, eh, l, q⟩
  subst ex ec ed
  obtain rfl : u = Value.ref a := rx
  obtain ⟨get, _⟩ := I1.pin (a, oe) (List.mem_append_left _ List.mem_cons_self)
  exact xget (X := X.suite a ((a, oe) :: pn)) I1 T hno get hz hf eh l fun u ru => ⟨v, H1, I1.tok _, ru, q⟩
/-- isinstance(e, D), e handed in -/
def rIsF (K : PySem.W.Frag) : List V → Hp → VK → Prop := fun xs H Q => ∃ (a C D d : Addr) (o : Obj) (fs : List (Str × V)) (b : Bool), xs = [.ref a, .ref D] ∧ H a = some (FX o a) ∧ Zc (.ref C) (some d) o ∧ (∃ vs, o.data = .fields vs) ∧ H d = some (.xd fs) ∧ XC K C ∧
  PySem.W.kitOne K (.ref C) (.ref D) = some b ∧ Q (.bl b) H
theorem call_isF : CallR X (.builtin "isinstance") (rIsF X.K) := by
  intro pins s σ H xs us Q I r h
  obtain ⟨a, C, D, d, o, fs, b, rfl, ea, hz, hf, ed, T, e, q⟩ := h
  obtain ⟨u1, u2, rfl, r1, r2⟩ := vals2 r
  cases r1
  cases r2
  obtain ⟨od, mA, J, hl, hr⟩ := fx_inst I (I.hok a _ ea).1 hz.1 hz.2 hf ed
  exact PySem.W.kia_one (xc_kit T) I.kIn J e (fun z => nomatch z) fun tk => ⟨.bl b, H, I.kept (t' := tk) fun _ _ z => z, rfl, q⟩
/-- .. in the suite itself -/
def rIsP (K : PySem.W.Frag) (a : Addr) (cls : Value) (d : Option Addr) : List V → Hp → VK → Prop := fun xs H Q => ∃ (C D dd : Addr) (fs : List (Str × V)) (b : Bool), xs = [.ref a, .ref D] ∧ cls = .ref C ∧ d = some dd ∧ H dd = some (.xd fs) ∧ XC K C ∧
  PySem.W.kitOne K (.ref C) (.ref D) = some b ∧ Q (.bl b) H
theorem call_isP {a : Addr} {oe : Obj} {cls : Value} {d : Option Addr} {pn : List (Addr × Obj)} (hz : Zc cls d oe) (hf : ∃ vs, oe.data = .fields vs) : CallR (X.suite a ((a, oe) :: pn)) (.builtin "isinstance") (rIsP X.K a cls d) := by
  intro pins s σ H xs us Q I r h
  obtain ⟨C, D, dd, fs, b, rfl, rfl, rfl, ed, T, e, q⟩ := h
  obtain ⟨u1, u2, rfl, r1, r2⟩ := vals2 r
  cases r1
  cases r2
  obtain ⟨get, _⟩ := I.pin (a, oe) (List.mem_append_left _ List.mem_cons_self)
  obtain ⟨od, mA, J, hl, hr⟩ := fx_inst (X := X.suite a ((a, oe) :: pn)) I get hz.1 hz.2 hf ed
  exact PySem.W.kia_one (xc_kit T) I.kIn J e (fun z => nomatch z) fun tk => ⟨.bl b, H, I.kept (t' := tk) fun _ _ z => z, rfl, q⟩
end

/-! ## repr(x) of data -/
/-- data, or an empty dict -/
def Dq (K : PySem.W.Frag) (H : Hp) (v : V) (d : PyData) : Prop := Dp K H v d ∨ ∃ a, v = .ref a ∧ H a = some (.dK []) ∧ d = .dict []
def rRepr (K : PySem.W.Frag) : List V → Hp → VK → Prop := fun xs H Q => ∃ v d, xs = [v] ∧ Dq K H v d ∧ d.showable = true ∧ d.depth ≤ 60 ∧ d.shown.length ≤ sizeLine ∧ Q (.str d.shown) H
mutual
theorem dp_noDict {K : PySem.W.Frag} {H : Hp} : ∀ (d : PyData) (v : V), Dp K H v d → d.hasDict = false
  | .none, _, _ => by simp only [PyData.hasDict]
  | .bool _, _, _ => by simp only [PyData.hasDict]
  | .int _, _, _ => by simp only [PyData.hasDict]
  | .str _, _, _ => by simp only [PyData.hasDict]
  | .list ds, _, h => by
    cases h with
    | lst _ ha =>
      simp only [PyData.hasDict]
      exact dp_noDictAll ds _ ha
  | .tuple ds, _, h => by
    cases h with
    | tup _ ha =>
      simp only [PyData.hasDict]
      exact dp_noDictAll ds _ ha
  | .dict _, _, h => by cases h
theorem dp_noDictAll {K : PySem.W.Frag} {H : Hp} : ∀ (ds : List PyData) (vs : List V), DpAll K H vs ds → PyData.hasDictAll ds = false
  | [], _, _ => by simp only [PyData.hasDictAll]
  | d :: ds, _, h => by
    cases h with
    | cons h1 h2 => simp only [PyData.hasDictAll, dp_noDict d _ h1, dp_noDictAll ds _ h2, Bool.or_self]
end
theorem dq_reads {X : Cx} {pins : List (Addr × Obj)} {σ : L2.St} {H : Hp} {s : Shared} (I : Inv X pins σ H s) {d : PyData} {v : V} {u : Value} (h : Dq X.K H v d) (r : RelV v u) : ∃ as, Reads s.heap u d as ∧ (d.hasDict = true → sysModules ∉ as) := by
  rcases h with h | ⟨a, rfl, ha, rfl⟩
  · obtain ⟨as, q⟩ := Dp.reads I d v u h r
    exact ⟨as, q, fun z => by rw [dp_noDict d v h] at z; cases z⟩
  · obtain rfl : u = Value.ref a := r
    have x : ObjOk X.prog X.w H s.heap a (.dK []) := I.hok a _ ha
    obtain ⟨_, ns, vs, hv, o, es, ep, ho, hx, hd, _, he, _⟩ := x
    cases hv
    have nil : es.toList = [] := by
      generalize es.toList = l at he
      cases he
      rfl
    refine ⟨_, Reads.dict (kvs := []) ho hx.1 hd (by rw [nil]; exact ReadsAll.nil) (by rw [nil]; exact ReadsAll.nil), fun _ z => ?_⟩
    have z' : sysModules = a := by simpa using z
    rw [← z'] at ns
    simp at ns
theorem call_reprD {X : Cx} {k : Nat} {c : Bool} (hr : Rm c k X.A) : CallR X (.builtin "repr") (rRepr X.K) := by
  intro pins s σ H xs us Q I r h
  obtain ⟨v, d, rfl, hd, hs, hdep, hz, q⟩ := h
  cases r with
  | cons rv rn =>
    cases rn
    have ok : ∀ h' tk, (∀ b o, s.heap.get? b = some o → h'.get? b = some o) → ∀ u, EP X pins σ Q (.str d.shown u) { s with heap := h', toks := tk } := fun h' tk kp u =>
      ⟨.str d.shown, H, I.kept (t' := tk) kp, ⟨u, rfl⟩, q⟩
    have hu : X.A.units + (d.depth + 1) < cLine := by have z := hr.un; omega
    obtain ⟨as, rd, sm⟩ := dq_reads I hd rv
    cases v with
    | ref a =>
      cases rv
      exact repr_of_reads' rd hs sm hr.gd hu (fun _ _ z => z) (fun h' u tk kp => ok h' tk kp u) hz
    | non =>
      cases rv
      cases rd
      exact PySem.P.repr_of_none (ok s.heap _ (fun _ _ z => z) _)
    | bl b =>
      cases rv
      cases rd
      exact PySem.P.repr_of_bool (ok s.heap _ (fun _ _ z => z) _)
    | int i =>
      obtain ⟨t, rfl⟩ := rv
      cases rd
      exact PySem.P.repr_of_int (by simpa [PyData.showable] using hs) (ok s.heap _ (fun _ _ z => z) _)
    | str x =>
      obtain ⟨t, rfl⟩ := rv
      cases rd
      exact PySem.P.repr_of_str (ok s.heap _ (fun _ _ z => z) _) (by simpa [PyData.shown] using hz)
    | byt b => obtain ⟨t, rfl⟩ := rv; cases rd
    | flt b => obtain ⟨t, rfl⟩ := rv; cases rd
    | ty n => cases rv; cases rd
end GL

namespace GL
open PySem PySem.Spec PyProof.Rows L2

/-! ## the head: what is looked at behind the top -/
abbrev AlG : Type := He.AlD × Bool
/-- what the module's names reach in n steps, and the machine's own statics -/
def rootG (g : Addr → Option Obj) : Nat → List Addr
  | 0 => [mainGlobals, cStatics]
  | n + 1 => He.growD g (rootG g n)
/-- .. and the table of modules -/
def fragG (n : Nat) (g : Addr → Option Obj) : PySem.W.Frag := He.frG g (rootG g n ++ [sysModules])
def smB (K : PySem.W.Frag) : Bool := match K.lookup sysModules with
  | some ⟨.type t, _, _, _⟩ => decide (t = "dict")
  | _ => false
theorem smB_ok {K : PySem.W.Frag} (h : smB K = true) : ∃ o : Obj, K.lookup sysModules = some o ∧ o.cls = .type "dict" := by
  unfold smB at h
  split at h
  · rename_i t d dt sl e
    exact ⟨_, e, by rw [of_decide_eq_true h]⟩
  · cases h
def obG (n : Nat) (fa : List He.Fa) (fn : List He.DefD) (ex : PySem.W.Frag → Bool) (g : Addr → Option Obj) : AlG := (He.obsD fa fn (fragG n g), ex (fragG n g))
def hookG (n : Nat) (fa : List He.Fa) (fn : List He.DefD) (ex : PySem.W.Frag → Bool) : PySem.W.Hook where
  α := AlG
  obs := fun s => obG n fa fn ex s.heap.get?
  val := fun _ => (He.valD fn, true)
  says := fun _ h => ∃ K : PySem.W.Frag, K.In h ∧ He.SaysD fa fn K ∧ ex K = true
  of := fun _ _ e => ⟨_, He.frG_in, congrArg (fun z : AlG => z.1) e, congrArg (fun z : AlG => z.2) e⟩
  keeps := fun _ _ _ ⟨K, hK, c, x⟩ k => ⟨K, PySem.W.Frag.In.keeps hK k, c, x⟩
theorem obG_eq {n : Nat} {fa : List He.Fa} {fn : List He.DefD} {ex : PySem.W.Frag → Bool} {g : Addr → Option Obj} {s : Shared} (h : ∀ a, g a = s.heap.get? a) : obG n fa fn ex g = (hookG n fa fn ex).obs s := by
  have e : g = s.heap.get? := funext h
  rw [e] <;> rfl

/-! ## the end of a law -/
theorem only_call {P : Program} {w : World} {K : PySem.W.Frag} {mg mb : Str → Option Value} {k : Nat} {fa a : Addr} {fd : FuncData} {x : Str} {sp : Sp} {s1 : Shared} {vs : List Value} {ns : List Int}
    (KX : K.In s1.heap) (hns : s1.heap.Ns mainGlobals mg) (hb : s1.heap.Ns builtinsNs mb) (hbb : ∀ x : Str, x ≠ "__name__" → mb x = bootBuiltins x) (hlim : s1.heap.NoLimit) (hg : s1.gens = #[])
    (ha : s1.heap.get? a = some { cls := .type "list", data := .seq vs.toArray }) (hi : IntsAre vs ns) (hl : ns.length ≤ sizeLine) (hr : Rm true k callerA)
    (F : ∀ base : Heap, K.In base → base.Ns mainGlobals mg → Fn true P w K mg base k fa fd [x] sp) (hbind : ∀ (s : Shared) (u : Value), BindsTo s fd ⟨[u], []⟩ [(x, u)])
    (hsp : ∀ H : Hp, Only H → SqL K H a (ns.map V.int) → sp [.ref a] H (fun v _ => v = .bl true) E0) :
    codeAny (model P w) callerA (.call (.ref fa) ⟨[.ref a], []⟩) (fun r s' => r = .ok (.ret (.bool true)) ∧ OldK s1.heap s'.heap ∧ s'.os = s1.os ∧ AllBare s'.gens) s1 := by
  have rv := vals_ints hi
  have lenV := hi.length
  have core : ∀ H : Hp, Only H → SqL K H a (ns.map V.int) → HOk P w H s1.heap → (∀ b, H b ≠ none → b = a) → (H a ≠ none → K.lookup a = none) →
      codeAny (model P w) callerA (.call (.ref fa) ⟨[.ref a], []⟩) (fun r s' => r = .ok (.ret (.bool true)) ∧ OldK s1.heap s'.heap ∧ s'.os = s1.os ∧ AllBare s'.gens) s1 := by
    intro H hO hS hok hA hK
    have isA : ∀ {b : Addr} {u : HO}, H b = some u → b = a := fun {b u} z => hA b (by rw [z]; simp)
    have noA : ∀ {b : Addr} {o : Obj} {es : Array DictEntry} {ep : Nat}, s1.heap.get? b = some o → o.data = .dict es ep → H b = none := by
      intro b o es ep e d
      cases q : H b with
      | none => rfl
      | some u =>
        have e' := isA q
        subst e'
        rw [ha] at e
        cases e
        cases (show Data.seq vs.toArray _ = Data.dict es ep from d)
    have nsB : ∀ {b : Addr} {m : Str → Option Value}, s1.heap.Ns b m → (hidT s1.heap H).Ns b m := fun {b m} ⟨o, es, ep, e, d, r⟩ => ⟨o, es, ep, hidT_get e (noA e d), d, r⟩
    have hKb : K.In (hidT s1.heap H) := fun b o e => hidT_get (KX b o e) (by
      cases q : H b with
      | none => rfl
      | some u =>
        have e' := isA q
        subst e'
        rw [hK (by rw [q]; simp)] at e
        cases e)
    have hM : Mod K mg (hidT s1.heap H) := ⟨hKb, nsB hns, ⟨mb, nsB hb, hbb⟩, let ⟨mc, h1, h2⟩ := hlim; ⟨mc, nsB h1, h2⟩⟩
    have e0 : Env0 P w K mg (hidT s1.heap H) callerA [] s1 H := ⟨rfl, hM, fun b o e => of_hidT e, Nat.le_of_eq (hidT_size _ _), trivial, fun b hb => absurd (show b ∈ ([] : List Addr) from hb) (by simp), hok, .of_eq hg⟩
    have run := (F _ hKb (nsB hns)).run callerA [] s1 H ⟨[.ref a], []⟩ [.ref a] [.ref a] _ E0 hr e0 (hbind s1 (.ref a)) (.cons rfl .nil) (hsp H hO hS)
    refine codeAny_mono run fun r s' z => ?_
    match r, z with
    | .error e, z =>
      obtain ⟨_, _, _, _, _, _, _, _, _, _, _, _, z⟩ := z
      exact z.elim
    | .ok .next, z => exact z.elim
    | .ok .brk, z => exact z.elim
    | .ok .cont, z => exact z.elim
    | .ok (.ret u), ⟨v, H', os, bare, un, hok', r', q⟩ =>
      have q' : v = .bl true := q
      subst q'
      obtain rfl : u = Value.bool true := r'
      refine ⟨rfl, OldK.of_keep fun b o e => ?_, os, bare⟩
      cases q : H b with
      | none => exact un.keep b o e q (fun z => absurd (show b ∈ ([] : List Addr) from z) (by simp)) (by simp)
      | some u =>
        rcases hO b with z | ⟨ob, xs, z⟩
        · rw [q] at z
          cases z
        · obtain ⟨e1, _⟩ := hok b _ z
          obtain ⟨e2, _⟩ := hok' b _ (un.frzs b ob _ z)
          rw [e] at e1
          cases e1
          exact e2
  cases hk : K.lookup a with
  | some o =>
    have e := KX a o hk
    rw [ha] at e
    cases e
    refine core (fun _ => none) (fun _ => .inl rfl) (.inr ⟨_, vs.toArray, _, hk, rfl, rfl, rfl, by rw [List.size_toArray, lenV]; exact hl, by simpa using rv⟩) (fun b u z => by cases (show (none : Option HO) = some u from z)) (fun b z => absurd rfl z) fun z => absurd rfl z
  | none =>
    refine core (fun b => if b = a then some (.frz { cls := .type "list", data := .seq vs.toArray } (.lst (ns.map V.int))) else none) (fun b => ?_) (.inl (.inr ⟨{ cls := .type "list", data := .seq vs.toArray }, if_pos rfl⟩)) (fun b u z => ?_) (fun b z => ?_) fun _ => hk
    · by_cases hb : b = a
      · exact .inr ⟨_, _, if_pos hb⟩
      · exact .inl (if_neg hb)
    · by_cases hb : b = a
      · have z' := (if_pos hb).symm.trans z
        cases z'
        subst hb
        exact ⟨ha, by rw [List.length_map]; exact hl, vs, _, rv, ha⟩
      · cases (if_neg hb).symm.trans z
    · by_cases hb : b = a
      · exact hb
      · exact absurd (if_neg hb) z
theorem walk_end {l : PySem.W.OpenLaw} {n k : Nat} {q : Program} {loose : List Str} {XP : (Str → Option Value) → Heap → Prop} {YP : World → Heap → Prop} {d : DefRec} {x : Str}
    (hn : l.most = some n) (hn2 : n ≤ sizeLine) (hdf : d.params.defaults = []) (hr : Rm true k callerA)
    (F : ∀ (w : World) (mg : Str → Option Value) (fa : Addr) (h : Heap), YP w h → h.Ns mainGlobals mg → mg d.name = some (.ref fa) →
      ∃ (K : PySem.W.Frag) (fd : FuncData) (sp : Sp), K.In h ∧ (∀ (s : Shared) (u : Value), BindsTo s fd ⟨[u], []⟩ [(x, u)]) ∧
        (∀ (H : Hp) (a : Addr) (ns : List Int), ns.length ≤ n → Only H → SqL K H a (ns.map V.int) → sp [.ref a] H (fun v _ => v = .bl true) E0) ∧
        ∀ base : Heap, K.In base → base.Ns mainGlobals mg → Fn true l.prog w K mg base k fa fd [x] sp) :
    PySem.W.WalkO q loose XP YP l.row.toRowW d [] (fun f vs => PySem.call f vs) := by
  refine Att.attach_call hn hdf fun w s0 s1 mg mb fa o pm cd doc a vs ns G Y ho hd hcd hmg hobj hints hlen hg => ?_
  obtain ⟨K, fd, sp, KX, hb, hsp, hF⟩ := F w mg fa _ Y G.T.g hmg
  exact only_call KX G.T.g G.T.b G.T.builtins G.T.nolimit hg hobj hints (Nat.le_trans hlen hn2) hr hF hb fun H hO hS => hsp H a ns hlen hO hS
end GL

namespace GL
open PySem PySem.Spec PyProof.Rows L2

/-! ## what the head must say of exception classes, as one truth value -/
def bT : Bool × Bool → Bool := fun p => p.1 && p.2
theorem bT_ok {a b : Bool} (h : (a && b) = true) : a = true ∧ b = true := Bool.and_eq_true_iff.mp h
def eqV2 (a b : Option (Option Value)) : Bool := decide (a = b)
theorem eqV2_ok {a b : Option (Option Value)} (h : eqV2 a b = true) : a = b := of_decide_eq_true h
/-- an exception class over ValueError, whatever stands between -/
def xcB (K : PySem.W.Frag) (C : Addr) : Bool :=
  (match K.lookup C with
    | some ⟨.type "type", _, .cls cd, sl⟩ => (match cd.mro, sl.toList with
      | .ref C' :: bm, [_, _, _, _, some (.builtin n), _] => decide (C' = C) && (decide (n = "ValueError.__new__") && (decide (cd.hasDel = false) && (decide (cd.hasDict = true) && HandSPX.refsVE bm)))
      | _, _ => false)
    | _ => false) &&
  (eqV2 (PySem.W.findIn K (.ref C) "__setattr__") (some (some (.builtin "object.__setattr__"))) &&
  (decide (PySem.W.subIn K (.ref C) (.type "BaseException") = some true) &&
  (decide (PySem.W.typeIn K (.ref C) = some (.type "type")) &&
  (PySem.W.keepIn K (.ref C) &&
  (eqV2 (PySem.W.findIn K (.ref C) "__getattribute__") (some (some (.builtin "BaseException.__getattribute__"))) &&
  (eqV2 (PySem.W.findIn K (.ref C) "__getattr__") (some none) &&
  (PySem.W.hasDictIn K C &&
  (eqV2 (PySem.W.findIn K (.ref C) "__class__") (some (some (.builtin "object.__class__"))) &&
  (eqV2 (PySem.W.specialIn K (.builtin "object.__class__") "__get__") (some (some (.builtin "getset_descriptor.__get__"))) &&
  (decide (PySem.W.takesIn K (.builtin "object.__class__") = some true) &&
  decide (PySem.W.mroIn K C (.type "object") = some true)))))))))))
theorem xcB_ok {K : PySem.W.Frag} {C : Addr} (h : xcB K C = true) : OexC K C ∧ XC K C := by
  unfold xcB at h
  obtain ⟨h0, h⟩ := bT_ok h
  obtain ⟨h1, h⟩ := bT_ok h
  obtain ⟨h2, h⟩ := bT_ok h
  obtain ⟨h3, h⟩ := bT_ok h
  obtain ⟨h4, h⟩ := bT_ok h
  obtain ⟨h5, h⟩ := bT_ok h
  obtain ⟨h6, h⟩ := bT_ok h
  obtain ⟨h7, h⟩ := bT_ok h
  obtain ⟨h8, h⟩ := bT_ok h
  obtain ⟨h9, h⟩ := bT_ok h
  obtain ⟨ha, hb⟩ := bT_ok h
  refine ⟨⟨?_, eqV2_ok h1, of_decide_eq_true h2, of_decide_eq_true h3, h4⟩, ⟨eqV2_ok h5, eqV2_ok h6, of_decide_eq_true h2, h7, eqV2_ok h8, eqV2_ok h9, of_decide_eq_true ha, of_decide_eq_true hb⟩⟩
  split at h0
  · rename_i dd cd sl ho
    split at h0
    · rename_i C' bm k0 k1 k2 k3 n k5 hm hs
      obtain ⟨e1, g1⟩ := bT_ok h0
      obtain ⟨e2, g2⟩ := bT_ok g1
      obtain ⟨e3, g3⟩ := bT_ok g2
      obtain ⟨e4, g4⟩ := bT_ok g3
      have f1 : C' = C := of_decide_eq_true e1
      have f2 : n = "ValueError.__new__" := of_decide_eq_true e2
      have f3 : cd.hasDel = false := of_decide_eq_true e3
      have f4 : cd.hasDict = true := of_decide_eq_true e4
      obtain ⟨nm, bs, mro, ns, qn, hd, sn, sub, ab, col, del⟩ := cd
      dsimp only at hm f3 f4
      subst hm f3 f4 f1 f2
      have es : sl = #[k0, k1, k2, k3, some (.builtin "ValueError.__new__"), k5] := by
        obtain ⟨ls⟩ := sl
        simp only at hs
        rw [hs]
      subst es
      exact ⟨_, _, _, _, _, _, _, _, _, _, _, _, _, _, _, ho, g4⟩
    · cases h0
  · cases h0
def noB (K : PySem.W.Frag) (C : Addr) (f : Str) : Bool := eqV2 (PySem.W.findIn K (.ref C) f) (some none)
/-- a def read off a class -/
def clB (K : PySem.W.Frag) (C f : Addr) (m : Str) : Bool :=
  eqV2 (PySem.W.specialIn K (.ref C) "__getattribute__") (some (some (.builtin "type.__getattribute__"))) && (PySem.W.readsIn K C (.type "type") &&
  ((match PySem.W.findCls K (.ref C) (.type "type") m with
    | some (.val (.ref g)) => decide (g = f)
    | _ => false) && PySem.W.keepIn K (.ref f)))
theorem clB_ok {K : PySem.W.Frag} {C f : Addr} {m : Str} (h : clB K C f m = true) : ClF K C f m := by
  unfold clB at h
  obtain ⟨h1, h⟩ := bT_ok h
  obtain ⟨h2, h⟩ := bT_ok h
  obtain ⟨h3, h4⟩ := bT_ok h
  refine ⟨eqV2_ok h1, h2, ?_, h4⟩
  split at h3
  · rename_i g e
    rw [e, of_decide_eq_true h3]
  · cases h3
/-- who is whose -/
def kitB (K : PySem.W.Frag) (C D : Addr) (b : Bool) : Bool := decide (PySem.W.kitOne K (.ref C) (.ref D) = some b)
def exmB (K : PySem.W.Frag) (C D : Addr) (b : Bool) : Bool := decide (PySem.W.exmOne K (.ref C) (.ref D) = some b)
open He in
/-- the errors: the base, the others by name with their fields; none is another's heir -/
def errB (K : PySem.W.Frag) (base : Str) (xs : List (Str × List Str)) : Bool :=
  xcB K (ga K base) && (noB K (ga K base) "why" && (clB K (ga K base) (ma K (ga K base) "__init__") "__init__" &&
  (xs.all fun p => xcB K (ga K p.1) && (noB K (ga K p.1) "why" && ((p.2.all fun f => noB K (ga K p.1) f) &&
    (kitB K (ga K p.1) (ga K base) true && (exmB K (ga K p.1) (ga K base) true &&
      xs.all fun q => kitB K (ga K p.1) (ga K q.1) (decide (p.1 = q.1)) && exmB K (ga K p.1) (ga K q.1) (decide (p.1 = q.1)))))))))
/-- ValueError's own __init__ -/
def veB (K : PySem.W.Frag) : Bool := match PySem.W.findCls K (.type "ValueError") (.type "type") "__init__" with
  | some (.val (.builtin n)) => decide (n = "ValueError.__init__")
  | _ => false
theorem veB_ok {K : PySem.W.Frag} (h : veB K = true) : PySem.W.findCls K (.type "ValueError") (.type "type") "__init__" = some (.val (.builtin "ValueError.__init__")) := by
  unfold veB at h
  split at h
  · rename_i n e
    rw [e, of_decide_eq_true h]
  · cases h
/-- .. told -/
structure ErrC (K : PySem.W.Frag) (base : Str) (xs : List (Str × List Str)) (x : Str) : Prop where
  oex : OexC K (He.ga K x)
  xc : XC K (He.ga K x)
  why : PySem.W.findIn K (.ref (He.ga K x)) "why" = some none
  kb : PySem.W.kitOne K (.ref (He.ga K x)) (.ref (He.ga K base)) = some true
  eb : PySem.W.exmOne K (.ref (He.ga K x)) (.ref (He.ga K base)) = some true
  kit : ∀ q ∈ xs, PySem.W.kitOne K (.ref (He.ga K x)) (.ref (He.ga K q.1)) = some (decide (x = q.1))
  exm : ∀ q ∈ xs, PySem.W.exmOne K (.ref (He.ga K x)) (.ref (He.ga K q.1)) = some (decide (x = q.1))
theorem errB_at {K : PySem.W.Frag} {base : Str} {xs : List (Str × List Str)} (h : errB K base xs = true) {p : Str × List Str} (hp : p ∈ xs) : ErrC K base xs p.1 ∧ ∀ f ∈ p.2, PySem.W.findIn K (.ref (He.ga K p.1)) f = some none := by
  unfold errB at h
  obtain ⟨_, h⟩ := bT_ok h
  obtain ⟨_, h⟩ := bT_ok h
  obtain ⟨_, h⟩ := bT_ok h
  have z := List.all_eq_true.mp h p hp
  obtain ⟨z1, z⟩ := bT_ok z
  obtain ⟨z2, z⟩ := bT_ok z
  obtain ⟨z3, z⟩ := bT_ok z
  obtain ⟨z4, z⟩ := bT_ok z
  obtain ⟨z5, z⟩ := bT_ok z
  refine ⟨⟨(xcB_ok z1).1, (xcB_ok z1).2, eqV2_ok z2, of_decide_eq_true z4, of_decide_eq_true z5, fun q hq => ?_, fun q hq => ?_⟩, fun f hf => eqV2_ok (List.all_eq_true.mp z3 f hf)⟩
  · exact of_decide_eq_true (bT_ok (List.all_eq_true.mp z q hq)).1
  · exact of_decide_eq_true (bT_ok (List.all_eq_true.mp z q hq)).2
theorem errB_base {K : PySem.W.Frag} {base : Str} {xs : List (Str × List Str)} (h : errB K base xs = true) : ClF K (He.ga K base) (He.ma K (He.ga K base) "__init__") "__init__" := by
  unfold errB at h
  obtain ⟨_, h⟩ := bT_ok h
  obtain ⟨_, h⟩ := bT_ok h
  exact clB_ok (bT_ok h).1
end GL

namespace GL
open PySem PySem.Spec PyProof.Rows L2

/-! ## small things that derivations name -/
theorem Rm.u65 {c : Bool} {k : Nat} {A : Around} (r : Rm c k A) : A.units + 65 < cLine := by have z := r.un; omega
theorem tk_top {c : Bool} {P : Program} {w : World} {K : PySem.W.Frag} {mg : Str → Option Value} {base : Heap} {N : List Str} {qual : Str} {scope : Scope} {f : Addr} {cd : Value} {A : Around} {outer : List Env} {s : Shared} {H : Hp} {E : XK} :
    Takes (cxG c P w K mg base N qual scope f cd A outer s H E) (fun cls d _ H => E cls d H) := takes_of rfl rfl rfl rfl
theorem po_top {c : Bool} {P : Program} {w : World} {K : PySem.W.Frag} {mg : Str → Option Value} {base : Heap} {N : List Str} {qual : Str} {scope : Scope} {f : Addr} {cd : Value} {A : Around} {outer : List Env} {s : Shared} {H : Hp} {E : XK} :
    PassesOwn (model (cxG c P w K mg base N qual scope f cd A outer s H E).prog (cxG c P w K mg base N qual scope f cd A outer s H E).w) (cxG c P w K mg base N qual scope f cd A outer s H E).A (cxG c P w K mg base N qual scope f cd A outer s H E).env (cxG c P w K mg base N qual scope f cd A outer s H E).xe := PassesOwn.leaving
theorem pe_gint {X : Cx} {x : Str} {i : Int} {pos : Pos} (hg : Gl X x) (h : ∃ t, X.mg x = some (.int i t)) (hd : (x == ("__debug__" : Str)) = false := by decide) : PE X (.Name x pos) (tC (.int i)) := by
  obtain ⟨t, ht⟩ := h
  exact pe_glob hg ht ⟨t, rfl⟩ hd
theorem ge_call0 {X : Cx} {c : Bool} {k : Nat} {sp : Sp} {x : Str} {p pos : Pos} {W : WX} (G : GF c X.prog X.w X.K X.mg X.base x k sp) (hr : Rm c k X.A) (tk : Takes X W) (hg : Gl X x) (hdb : (x == ("__debug__" : Str)) = false := by decide) :
    PE X (.Call (.Name x p) [] [] pos) (cCall sp W tNil) := by
  obtain ⟨f, F, hm, hk⟩ := G.ex
  constructor
  intro pins s σ H Q I h
  refine wpAny_Call_Name_kw (ld_glob I hg hm ?_ hdb)
  exact PySem.W.callWith_K0 I.kIn hk (go_fn (us := []) F hr (arr_of tk σ) I .nil h)

/-! ## == of anything that is data; list.count of plain values -/
def rEqU (K : PySem.W.Frag) : R2 := fun x y H Q => rEq x y H Q ∨ rEqD K x y H Q
def rNeU (K : PySem.W.Frag) : R2 := fun x y H Q => rNe x y H Q ∨ rNeD K x y H Q
theorem op_eqU {X : Cx} (hu : X.A.units + 64 < cLine) : OpR X (compareOp .Eq) (rEqU X.K) := OpR.or op_eq (op_eqD hu)
theorem op_neU {X : Cx} (hu : X.A.units + 64 < cLine) : OpR X (compareOp .NotEq) (rNeU X.K) := OpR.or op_ne (op_neD hu)
def rCntF (K : PySem.W.Frag) : V → List V → Hp → VK → Prop := fun x xs H Q => ∃ (p : Addr) (y : V) (ys : List V), x = .ref p ∧ xs = [y] ∧ SqL K H p ys ∧ flatV y = true ∧ ys.all flatV = true ∧ Q (.int ((ys.countP fun z => L2.eqV z y) : Nat)) H
theorem countP_eqU {y : V} : ∀ {ys : List V} {us : List Value}, Vals ys us → ys.all flatV = true → us.countP (eqU y) = ys.countP fun z => L2.eqV z y
  | _, _, .nil, _ => rfl
  | z :: zs, u :: us, .cons r t, f => by
    rw [List.all_cons, Bool.and_eq_true] at f
    rw [List.countP_cons, List.countP_cons, countP_eqU t f.2, eqU_of r f.1]
theorem mt_countT {X : Cx} : MtR X "list.count" (rCntF X.K) := by
  intro pins s σ H x xs v us Q I rx rxs h
  obtain ⟨p, y, ys, rfl, rfl, hs, fy, fys, q⟩ := h
  cases rx
  obtain ⟨u, rfl, ru⟩ := rxs.one
  obtain ⟨its, rv, ⟨⟨cls, dd, data, sl⟩, n, ho, hc, hdn, hd⟩, hlen⟩ := I.list hs
  simp only at hc hd
  subst hc hd
  refine call_meets PySem.F.slot_list_count ⟨_, ho, rfl⟩ PySem.F.entry_list_count (PySem.F.args_list_count_2 _ _)
    (SeqAt.list_countAt p its.toArray n dd sl u (eqU y)) ⟨ho, fun z hz => mem_eqAt ru fy rv fys z (by simpa using hz), ?_⟩
  have e : its.toArray.toList.countP (eqU y) = ys.countP fun z => L2.eqV z y := countP_eqU rv fys
  rw [e]
  exact ⟨.int _, H, I.tok _, ⟨s.toks, rfl⟩, q⟩
/-- len of a list, a tuple, a text, a dict -/
def rLenU (K : PySem.W.Frag) : List V → Hp → VK → Prop := fun xs H Q => (∃ x n, xs = [x] ∧ LenV K x H n ∧ Q (.int n) H) ∨ ∃ a kvs, xs = [V.ref a] ∧ H a = some (.dK kvs) ∧ Q (.int kvs.length) H
theorem call_lenU {X : Cx} : CallR X (.builtin "len") (rLenU X.K) := CallR.or call_len call_lenD
theorem mt_lclear {X : Cx} : MtM X "list.clear" rClear := mt_clear

/-! ## reading a derivation, a step at a time -/
section
variable {K : PySem.W.Frag} {σ : L2.St} {H : Hp} {D : Ends} {Q : VK}
theorem rd_seq {t u : TS} (h : t { D with nx := u D } σ H) : tSeq t u D σ H := h
theorem rd_next (h : D.nx σ H) : tNext D σ H := h
theorem rd_set {te : TE} {i : Nat} (h : te σ H fun v H1 => D.nx (σ.set i (some v)) H1) : tAsg te (gName i) D σ H := h
theorem rd_asg {te : TE} {g : TG} (h : te σ H fun v H1 => g v σ H1 D.nx) : tAsg te g D σ H := h
theorem rd_ret {te : TE} (h : te σ H D.rt) : tRet te D σ H := h
theorem rd_retN (h : D.rt .non H) : tRetN D σ H := h
theorem rd_drop {te : TE} (h : te σ H fun _ H1 => D.nx σ H1) : tDrop te D σ H := h
theorem rd_if {c : TT} {t u : TS} (h : c σ H fun b H1 => if b = true then t D σ H1 else u D σ H1) : tIfS c t u D σ H := h
theorem rd_ifE {c : TT} {ta tb : TE} (h : c σ H fun b H1 => if b = true then ta σ H1 Q else tb σ H1 Q) : tIf c ta tb σ H Q := h
theorem rd_var {i : Nat} {v : V} (h : σ[i]? = some (some v)) (q : Q v H) : tVar i σ H Q := ⟨v, h, q⟩
theorem rd_c {v : V} (q : Q v H) : tC v σ H Q := q
theorem rd_op {r : R2} {ta tb : TE} (h : ta σ H fun x H1 => tb σ H1 fun y H2 => r x y H2 Q) : tOp r ta tb σ H Q := h
theorem rd_un {r : V → Hp → VK → Prop} {ta : TE} (h : ta σ H fun x H1 => r x H1 Q) : tUn r ta σ H Q := h
theorem rd_i0 {g : Int → Int → V} {i j : Int} (q : Q (g i j) H) : rI0 g (.int i) (.int j) H Q := ⟨i, j, rfl, rfl, q⟩
theorem rd_i {C : Int → Int → Prop} {g : Int → Int → V} {i j : Int} (c : C i j) (q : Q (g i j) H) : rI C g (.int i) (.int j) H Q := ⟨i, j, rfl, rfl, c, q⟩
theorem rd_u {g : Int → V} {i : Int} (q : Q (g i) H) : rU g (.int i) H Q := ⟨i, rfl, q⟩
theorem rd_eq {x y : V} (s : scal x y = true) (q : Q (.bl (decide (x = y))) H) : rEq x y H Q := ⟨s, q⟩
theorem rd_ne {x y : V} (s : scal x y = true) (q : Q (.bl (!decide (x = y))) H) : rNe x y H Q := ⟨s, q⟩
theorem rd_eqII {i j : Int} (q : Q (.bl (decide (i = j))) H) : rEq (.int i) (.int j) H Q := ⟨rfl, by rw [show decide (V.int i = V.int j) = decide (i = j) from by simp]; exact q⟩
theorem rd_neII {i j : Int} (q : Q (.bl (!decide (i = j))) H) : rNe (.int i) (.int j) H Q := ⟨rfl, by rw [show decide (V.int i = V.int j) = decide (i = j) from by simp]; exact q⟩
theorem rd_eqSS {i j : Str} (q : Q (.bl (decide (i = j))) H) : rEq (.str i) (.str j) H Q := ⟨rfl, by rw [show decide (V.str i = V.str j) = decide (i = j) from by simp]; exact q⟩
theorem rd_neSS {i j : Str} (q : Q (.bl (!decide (i = j))) H) : rNe (.str i) (.str j) H Q := ⟨rfl, by rw [show decide (V.str i = V.str j) = decide (i = j) from by simp]; exact q⟩
theorem rd_eqUf {x y : V} (h : rEq x y H Q) : rEqU K x y H Q := .inl h
theorem rd_eqUd {x y : V} {d e : PyData} (hd : Dp K H x d) (he : Dp K H y e) (sd : SeqAt.shaped d = true) (se : SeqAt.shaped e = true) (q : Q (.bl (PyData.eqv d e)) H) : rEqU K x y H Q := .inr ⟨d, e, hd, he, sd, se, q⟩
theorem rd_neUf {x y : V} (h : rNe x y H Q) : rNeU K x y H Q := .inl h
theorem rd_neUd {x y : V} {d e : PyData} (hd : Dp K H x d) (he : Dp K H y e) (sd : SeqAt.shaped d = true) (se : SeqAt.shaped e = true) (q : Q (.bl (!PyData.eqv d e)) H) : rNeU K x y H Q := .inr ⟨d, e, hd, he, sd, se, q⟩
theorem rd_isN {x : V} (q : Q (.bl (decide (x = .non))) H) : (fun x y H Q => y = V.non ∧ Q (.bl (decide (x = .non))) H : R2) x .non H Q := ⟨rfl, q⟩
theorem rd_notN {x : V} (q : Q (.bl (!decide (x = .non))) H) : (fun x y H Q => y = V.non ∧ Q (.bl (!decide (x = .non))) H : R2) x .non H Q := ⟨rfl, q⟩
theorem rd_chain {r r' : R2} {ta tb tc : TE} (h : ta σ H fun x H1 => tb σ H1 fun y H2 => r x y H2 fun z H3 => ∃ k, z = .bl k ∧ (if k = true then tc σ H3 fun w' H4 => r' y w' H4 Q else Q (.bl false) H3)) : tChain r r' ta tb tc σ H Q := h
theorem rd_isbl {b : Bool} {R : Bool → Prop} (h : R b) : ∃ k, V.bl b = .bl k ∧ R k := ⟨b, rfl, h⟩
variable {B : Bool → Hp → Prop}
theorem rd_test {t : TE} (h : t σ H fun x H' => ∃ k, x = .bl k ∧ B k H') : tTest t σ H B := h
theorem rd_tB {t : TE} (h : t σ H fun x H' => ∃ k, x = .bl k ∧ B k H') : tB t σ H B := h
theorem rd_not {t : TT} (h : t σ H fun c H1 => B (!c) H1) : tNot t σ H B := h
theorem rd_and {t u : TT} (h : t σ H fun c H1 => if c = true then u σ H1 B else B false H1) : tAnd t u σ H B := h
theorem rd_or {t u : TT} (h : t σ H fun c H1 => if c = true then B true H1 else u σ H1 B) : tOr t u σ H B := h
theorem rd_andV {ta tb : TE} (h : ta σ H fun x H1 => ∃ c, x = .bl c ∧ if c = true then tb σ H1 Q else Q (.bl false) H1) : tAndV ta tb σ H Q := h
theorem rd_orV {ta tb : TE} (h : ta σ H fun x H1 => ∃ c, x = .bl c ∧ if c = true then Q (.bl true) H1 else tb σ H1 Q) : tOrV ta tb σ H Q := h
theorem rd_notV {ta : TE} (h : ta σ H fun x H1 => ∃ c, x = .bl c ∧ Q (.bl (!c)) H1) : tNotV ta σ H Q := h
variable {R : List V → Hp → Prop}
theorem rd_nil (h : R [] H) : tNil σ H R := h
theorem rd_cons {ta : TE} {tr : TA} (h : ta σ H fun x H1 => tr σ H1 fun xs H2 => R (x :: xs) H2) : tCons ta tr σ H R := h
theorem rd_cb {r : List V → Hp → VK → Prop} {t : TA} (h : t σ H fun vs H1 => r vs H1 Q) : tCB r t σ H Q := h
/-- a new tuple, a new list: what was there stays -/
theorem rd_tup {t : TA} (h : t σ H fun xs H1 => xs.length ≤ sizeLine ∧ ∀ p, H1 p = none → Q (.ref p) (upd H1 p (.tup xs))) : tTup t σ H Q := h
theorem rd_lst {t : TA} (h : t σ H fun xs H1 => xs.length ≤ sizeLine ∧ ∀ p, H1 p = none → Q (.ref p) (upd H1 p (.lst xs))) : tLst t σ H Q := h
theorem rd_newT {xs : List V} (h1 : xs.length ≤ sizeLine) (h : ∀ p H2, H p = none → Evl.Ex H H2 → H2 p = some (.tup xs) → Q (.ref p) H2) : xs.length ≤ sizeLine ∧ ∀ p, H p = none → Q (.ref p) (upd H p (.tup xs)) :=
  ⟨h1, fun p hp => h p _ hp (Evl.Ex.new hp) upd_same⟩
theorem rd_newL {xs : List V} (h1 : xs.length ≤ sizeLine) (h : ∀ p H2, H p = none → Evl.Ex H H2 → H2 p = some (.lst xs) → Q (.ref p) H2) : xs.length ≤ sizeLine ∧ ∀ p, H p = none → Q (.ref p) (upd H p (.lst xs)) :=
  ⟨h1, fun p hp => h p _ hp (Evl.Ex.new hp) upd_same⟩
theorem rd_fld {ta : TE} {f : Str} (h : ta σ H fun x H1 => ∃ a C dx fs v, x = .ref a ∧ H1 a = some (.ins C dx fs) ∧ Cls K C ∧ NoAttr K C f ∧ fs.lookup f = some v ∧ Q v H1) : tFld K ta f σ H Q := h
theorem rd_fldE {f : Str} {a C dx : Addr} {fs : List (Str × V)} {v : V} (h1 : H a = some (.ins C dx fs)) (h2 : Cls K C) (h3 : NoAttr K C f) (h4 : fs.lookup f = some v) (q : Q v H) :
    ∃ a' C' dx' fs' v', V.ref a = .ref a' ∧ H a' = some (.ins C' dx' fs') ∧ Cls K C' ∧ NoAttr K C' f ∧ fs'.lookup f = some v' ∧ Q v' H := ⟨a, C, dx, fs, v, rfl, h1, h2, h3, h4, q⟩
theorem rd_setf {ta tv : TE} {f : Str} (h : tv σ H fun y H1 => ta σ H1 fun x H2 => ∃ a C dx fs, x = .ref a ∧ H2 a = some (.ins C dx fs) ∧ Cls K C ∧ NoAttr K C f ∧ fs.length < 1000 ∧ D.nx σ (upd H2 a (.ins C dx (putF f y fs)))) : sFld K ta tv f D σ H := h
theorem rd_call {sp : Sp} {W : WX} {t : TA} (h : t σ H fun vs H1 => sp vs H1 Q fun cls d H' => W cls d σ H') : cCall sp W t σ H Q := h
theorem rd_call0 {sp : Sp} {t : TA} (h : t σ H fun vs H1 => sp vs H1 Q E0) : cCall0 sp t σ H Q := h
theorem rd_meth {C : Addr} {m : Str} {sp : Sp} {W : WX} {ta : TE} {t : TA} (h : ta σ H fun x H1 => ∃ a dx fs, x = .ref a ∧ H1 a = some (.ins C dx fs) ∧ fs.lookup m = none ∧ t σ H1 fun vs H2 => sp (x :: vs) H2 Q fun cls d H' => W cls d σ H') : cMeth C m sp W ta t σ H Q := h
theorem rd_methE {C : Addr} {m : Str} {a dx : Addr} {fs : List (Str × V)} {Z : Prop} (h1 : H a = some (.ins C dx fs)) (h2 : fs.lookup m = none) (q : Z) : ∃ a' dx' fs', V.ref a = .ref a' ∧ H a' = some (.ins C dx' fs') ∧ fs'.lookup m = none ∧ Z := ⟨a, dx, fs, rfl, h1, h2, q⟩
theorem rd_raise {t : L2.St → Hp → XK → Prop} {W : WX} (h : t σ H fun cls d H' => W cls d σ H') : (fun (_ : Ends) σ H => t σ H fun cls d H' => W cls d σ H' : TS) D σ H := h
theorem rd_xmk {C : Addr} {mk : List V → Option (List (Str × V))} {t : TA} {Z : XK} (h : t σ H fun vs H1 => vs.length ≤ 1000 ∧ ∃ fs, mk vs = some fs ∧ ∀ d, H1 d = none → Z (.ref C) (some d) (upd H1 d (.xd fs))) : xMk C mk t σ H Z := h
theorem rd_ix {ta tb : TE} (h : ta σ H fun x H1 => tb σ H1 fun y H2 => rIx K x y H2 Q) : tOp (rIx K) ta tb σ H Q := h
theorem rd_ixL {p : Addr} {xs : List V} {i : Int} {v : V} (h1 : SqL K H p xs) (h2 : atI xs i = some v) (q : Q v H) : rIx K (.ref p) (.int i) H Q := .inl ⟨p, xs, i, v, rfl, rfl, h1, h2, q⟩
theorem rd_ixT {p : Addr} {xs : List V} {i : Int} {v : V} (h1 : SqT K H p xs) (h2 : atI xs i = some v) (q : Q v H) : rIx K (.ref p) (.int i) H Q := .inr (.inl ⟨p, xs, i, v, rfl, rfl, h1, h2, q⟩)
theorem rd_lenL {p : Addr} {xs : List V} (h1 : SqL K H p xs) (q : Q (.int xs.length) H) : rLenU K [.ref p] H Q := .inl ⟨_, _, rfl, .inl ⟨xs, h1, rfl⟩, q⟩
theorem rd_lenT {p : Addr} {xs : List V} (h1 : SqT K H p xs) (q : Q (.int xs.length) H) : rLenU K [.ref p] H Q := .inl ⟨_, _, rfl, .inr ⟨xs, h1, rfl⟩, q⟩
theorem rd_lenS {z : Str} (h : z.length ≤ sizeLine) (q : Q (.int z.length) H) : rLenU K [.str z] H Q := .inl ⟨_, _, rfl, ⟨h, rfl⟩, q⟩
theorem rd_lenD {p : Addr} {kvs : List (Key × V)} (h1 : H p = some (.dK kvs)) (q : Q (.int kvs.length) H) : rLenU K [.ref p] H Q := .inr ⟨_, _, rfl, h1, q⟩
end
end GL

namespace GL
open PySem PySem.Spec PyProof.Rows L2 Evl

/-! ## what a step leaves alone -/
/-- what stands outside F stays -/
def Mu (F : List Addr) (H H' : Hp) : Prop := ∀ b o, H b = some o → b ∉ F → H' b = some o
theorem Mu.refl (F : List Addr) (H : Hp) : Mu F H H := fun _ _ h _ => h
theorem Mu.ofEx {F : List Addr} {H H' : Hp} (e : Ex H H') : Mu F H H' := fun b o h _ => e b o h
theorem Mu.ex {H H' : Hp} (m : Mu [] H H') : Ex H H' := fun b o h => m b o h (List.not_mem_nil)
theorem Mu.thenEx {F : List Addr} {H H1 H2 : Hp} (m : Mu F H H1) (e : Ex H1 H2) : Mu F H H2 := fun b o h n => e b o (m b o h n)
theorem Mu.afterEx {F : List Addr} {H H1 H2 : Hp} (e : Ex H H1) (m : Mu F H1 H2) : Mu F H H2 := fun b o h n => m b o (e b o h) n
theorem Mu.trans {F G : List Addr} {H H1 H2 : Hp} (m : Mu F H H1) (m2 : Mu G H1 H2) (s : ∀ b ∈ G, b ∈ F ∨ H b = none) : Mu F H H2 := fun b o h n =>
  m2 b o (m b o h n) fun z => (s b z).elim n fun w => by rw [w] at h; cases h
theorem Mu.set {F : List Addr} {H H' : Hp} {p : Addr} (m : Mu F H H') (hp : p ∈ F) (o : HO) : Mu F H (upd H' p o) := fun b u h n => by
  rw [upd_ne (fun z => n (by rw [z]; exact hp))]
  exact m b u h n
theorem Mu.new {F : List Addr} {H H' : Hp} {p : Addr} (m : Mu F H H') (hp : H' p = none) (o : HO) : Mu F H (upd H' p o) := fun b u h n => by
  have z := m b u h n
  rw [upd_ne (ne_of_none z hp)]
  exact z
/-- .. an object that was not there at the start is written -/
theorem Mu.fresh {F : List Addr} {H H' : Hp} {p : Addr} (m : Mu F H H') (hp : H p = none) (o : HO) : Mu F H (upd H' p o) := fun b u h n => by
  rw [upd_ne (ne_of_none h hp)]
  exact m b u h n
/-- fresh behind is fresh ahead, or of the footprint -/
theorem Mu.back {F : List Addr} {H H' : Hp} {p : Addr} (m : Mu F H H') (h : H' p = none) : p ∈ F ∨ H p = none := by
  by_cases z : p ∈ F
  · exact .inl z
  · right
    cases e : H p with
    | none => rfl
    | some o =>
      rw [m p o e z] at h
      cases h
/-- an object with its parts: the footprint moves from F to F' -/
structure Fr (F F' : List Addr) (H H' : Hp) : Prop where
  mu : Mu F H H'
  sub : ∀ b ∈ F', b ∈ F ∨ H b = none
theorem Fr.trans {F F1 F2 : List Addr} {H H1 H2 : Hp} (a : Fr F F1 H H1) (b : Fr F1 F2 H1 H2) : Fr F F2 H H2 :=
  ⟨a.mu.trans b.mu a.sub, fun x hx => (b.sub x hx).elim (a.sub x) fun z => a.mu.back z⟩
theorem Fr.refl (F : List Addr) (H : Hp) : Fr F F H H := ⟨Mu.refl F H, fun _ h => .inl h⟩
theorem Fr.ofEx {F : List Addr} {H H' : Hp} (e : Ex H H') : Fr F F H H' := ⟨Mu.ofEx e, fun _ h => .inl h⟩
theorem Fr.thenEx {F F' : List Addr} {H H1 H2 : Hp} (a : Fr F F' H H1) (e : Ex H1 H2) : Fr F F' H H2 := ⟨a.mu.thenEx e, a.sub⟩
theorem Fr.afterEx {F F' : List Addr} {H H1 H2 : Hp} (e : Ex H H1) (a : Fr F F' H1 H2) : Fr F F' H H2 := ⟨Mu.afterEx e a.mu, fun b hb => (a.sub b hb).imp id fun z => fresh_back e z⟩
/-- a thing of one's own beside it -/
structure Own (H : Hp) (F : List Addr) (b : Addr) (o : HO) : Prop where
  at_ : H b = some o
  no : b ∉ F
theorem Own.step {F F' : List Addr} {H H' : Hp} {b : Addr} {o : HO} (w : Own H F b o) (f : Fr F F' H H') : Own H' F' b o :=
  ⟨f.mu b o w.at_ w.no, fun z => (f.sub b z).elim w.no fun y => by rw [w.at_] at y; cases y⟩
theorem Own.ex {F : List Addr} {H H' : Hp} {b : Addr} {o : HO} (w : Own H F b o) (e : Ex H H') : Own H' F b o := ⟨e b o w.at_, w.no⟩

/-! ## several objects at once -/
structure Ob (H : Hp) (l : List (Addr × HO)) : Prop where
  at_ : ∀ q ∈ l, H q.1 = some q.2
  nd : (l.map (·.1)).Nodup
section
variable {H H' : Hp} {l : List (Addr × HO)}
theorem Ob.get (O : Ob H l) (i : Nat) {a : Addr} {o : HO} (h : l[i]? = some (a, o) := by rfl) : H a = some o := O.at_ (a, o) (List.mem_of_getElem? h)
theorem Ob.ex (O : Ob H l) (e : Ex H H') : Ob H' l := ⟨fun q hq => e _ _ (O.at_ q hq), O.nd⟩
theorem nd_set {l : List (Addr × HO)} {i : Nat} {a : Addr} {o o' : HO} (h : l[i]? = some (a, o)) : (l.set i (a, o')).map (·.1) = l.map (·.1) := by
  rw [List.map_set]
  apply List.ext_getElem?
  intro j
  rw [List.getElem?_set]
  by_cases z : i = j
  · subst z
    rw [if_pos rfl, List.getElem?_map, h, List.length_map]
    have hl : i < l.length := (List.getElem?_eq_some_iff.mp h).1
    simp [hl]
  · rw [if_neg z]
theorem Ob.set (O : Ob H l) (i : Nat) {a : Addr} {o : HO} (o' : HO) (h : l[i]? = some (a, o) := by rfl) : Ob (upd H a o') (l.set i (a, o')) := by
  refine ⟨fun q hq => ?_, by rw [nd_set h]; exact O.nd⟩
  obtain ⟨j, hj⟩ := List.mem_iff_getElem?.mp hq
  rw [List.getElem?_set] at hj
  by_cases z : i = j
  · subst z
    have hl : i < l.length := (List.getElem?_eq_some_iff.mp h).1
    rw [if_pos rfl, if_pos hl] at hj
    cases hj
    exact upd_same
  · rw [if_neg z] at hj
    have hne : q.1 ≠ a := fun e => z (by
      have nd := O.nd
      have h1 : (l.map (·.1))[i]? = some a := by rw [List.getElem?_map, h]; rfl
      have h2 : (l.map (·.1))[j]? = some a := by rw [List.getElem?_map, hj, ← e]; rfl
      have hl : i < (l.map (·.1)).length := (List.getElem?_eq_some_iff.mp h1).1
      exact (List.getElem?_inj hl nd).mp (h1.trans h2.symm))
    rw [upd_ne hne]
    exact O.at_ q (List.mem_of_getElem? hj)
theorem Ob.new (O : Ob H l) {p : Addr} (hp : H p = none) (o : HO) : Ob (upd H p o) (l ++ [(p, o)]) := by
  have hne : ∀ q ∈ l, q.1 ≠ p := fun q hq => ne_of_none (O.at_ q hq) hp
  refine ⟨fun q hq => ?_, ?_⟩
  · rcases List.mem_append.mp hq with z | z
    · rw [upd_ne (hne q z)]
      exact O.at_ q z
    · cases List.mem_singleton.mp z
      exact upd_same
  · rw [List.map_append, List.nodup_append]
    refine ⟨O.nd, by simp, fun x hx y hy => ?_⟩
    obtain ⟨q, hq, rfl⟩ := List.mem_map.mp hx
    have : y = p := by simpa using hy
    subst this
    exact hne q hq
theorem Ob.mem (O : Ob H l) (l' : List (Addr × HO)) (h : ∀ q ∈ l', q ∈ l) (nd : (l'.map (·.1)).Nodup) : Ob H l' := ⟨fun q hq => O.at_ q (h q hq), nd⟩
theorem Ob.mu {F : List Addr} (O : Ob H l) (m : Mu F H H') (h : ∀ q ∈ l, q.1 ∉ F) : Ob H' l := ⟨fun q hq => m _ _ (O.at_ q hq) (h q hq), O.nd⟩
/-- addresses of the i-th and the j-th differ -/
theorem Ob.ne (O : Ob H l) (i j : Nat) {a b : Addr} {o u : HO} (hi : l[i]? = some (a, o) := by rfl) (hj : l[j]? = some (b, u) := by rfl) (hn : i ≠ j := by decide) : a ≠ b := fun e => hn (by
  have h1 : (l.map (·.1))[i]? = some a := by rw [List.getElem?_map, hi]; rfl
  have h2 : (l.map (·.1))[j]? = some a := by rw [List.getElem?_map, hj, ← e]; rfl
  have hl : i < (l.map (·.1)).length := (List.getElem?_eq_some_iff.mp h1).1
  exact (List.getElem?_inj hl O.nd).mp (h1.trans h2.symm))
end

/-! ## data -/
mutual
/-- no list in it -/
def noL : PyData → Bool
  | .list _ => false
  | .tuple ds => noLAll ds
  | .dict _ => false
  | _ => true
def noLAll : List PyData → Bool
  | [] => true
  | d :: ds => noL d && noLAll ds
end
theorem noLAll_iff {ds : List PyData} : noLAll ds = true ↔ ∀ d ∈ ds, noL d = true := by
  induction ds with
  | nil => simp [noLAll]
  | cons d ds ih => simp [noLAll, ih]
section
variable {K : PySem.W.Frag} {H H' : Hp}
mutual
theorem dp_ex (e : Ex H H') : ∀ (d : PyData) (v : V), Dp K H v d → Dp K H' v d
  | .none, _, h => by cases h; exact .non
  | .bool _, _, h => by cases h; exact .bl _
  | .int _, _, h => by cases h; exact .int _
  | .str _, _, h => by cases h; exact .str _
  | .list ds, _, h => by
    cases h with
    | lst hs ha => exact .lst (ex_l e hs) (dpAll_ex e ds _ ha)
  | .tuple ds, _, h => by
    cases h with
    | tup hs ha => exact .tup (ex_t e hs) (dpAll_ex e ds _ ha)
  | .dict _, _, h => by cases h
theorem dpAll_ex (e : Ex H H') : ∀ (ds : List PyData) (vs : List V), DpAll K H vs ds → DpAll K H' vs ds
  | [], _, h => by cases h; exact .nil
  | d :: ds, _, h => by
    cases h with
    | cons h1 h2 => exact .cons (dp_ex e d _ h1) (dpAll_ex e ds _ h2)
end
/-- no tuple among these -/
def NT (F : List Addr) (H : Hp) : Prop := ∀ b ∈ F, ∀ xs, ¬ Rd H b (.tup xs)
theorem rd_mu {F : List Addr} {b : Addr} {xs : List V} (m : Mu F H H') (nt : NT F H) (h : Rd H b (.tup xs)) : Rd H' b (.tup xs) := by
  have hb : b ∉ F := fun z => nt b z xs h
  rcases h with h | ⟨o, h⟩
  · exact .inl (m b _ h hb)
  · exact .inr ⟨o, m b _ h hb⟩
mutual
theorem dp_mu {F : List Addr} (m : Mu F H H') (nt : NT F H) : ∀ (d : PyData) (v : V), noL d = true → Dp K H v d → Dp K H' v d
  | .none, _, _, h => by cases h; exact .non
  | .bool _, _, _, h => by cases h; exact .bl _
  | .int _, _, _, h => by cases h; exact .int _
  | .str _, _, _, h => by cases h; exact .str _
  | .list ds, _, n, h => by simp [noL] at n
  | .tuple ds, _, n, h => by
    cases h with
    | tup hs ha =>
      refine .tup ?_ (dpAll_mu m nt ds _ (by simpa [noL] using n) ha)
      rcases hs with hs | hs
      · exact .inl (rd_mu m nt hs)
      · exact .inr hs
  | .dict _, _, _, h => by cases h
theorem dpAll_mu {F : List Addr} (m : Mu F H H') (nt : NT F H) : ∀ (ds : List PyData) (vs : List V), noLAll ds = true → DpAll K H vs ds → DpAll K H' vs ds
  | [], _, _, h => by cases h; exact .nil
  | d :: ds, _, n, h => by
    have z : noL d = true ∧ noLAll ds = true := by simpa [noLAll] using n
    cases h with
    | cons h1 h2 => exact .cons (dp_mu m nt d _ z.1 h1) (dpAll_mu m nt ds _ z.2 h2)
end
theorem da_len : ∀ {vs : List V} {ds : List PyData}, DpAll K H vs ds → vs.length = ds.length
  | _, _, .nil => rfl
  | _, _, .cons _ h => by rw [List.length_cons, List.length_cons, da_len h]
theorem da_get : ∀ {vs : List V} {ds : List PyData} {i : Nat} {d : PyData}, DpAll K H vs ds → ds[i]? = some d → ∃ v, vs[i]? = some v ∧ Dp K H v d
  | _, _, _, _, .nil, h => by simp at h
  | v :: vs, d :: ds, 0, e, .cons h1 h2, h => by
    have : d = e := by simpa using h
    subst this
    exact ⟨v, rfl, h1⟩
  | v :: vs, d :: ds, i + 1, e, .cons h1 h2, h => by
    obtain ⟨u, hu, h3⟩ := da_get (i := i) h2 (by simpa using h)
    exact ⟨u, by simpa using hu, h3⟩
theorem da_getV : ∀ {vs : List V} {ds : List PyData} {i : Nat} {v : V}, DpAll K H vs ds → vs[i]? = some v → ∃ d, ds[i]? = some d ∧ Dp K H v d
  | _, _, _, _, .nil, h => by simp at h
  | v :: vs, d :: ds, 0, e, .cons h1 h2, h => by
    have : v = e := by simpa using h
    subst this
    exact ⟨d, rfl, h1⟩
  | v :: vs, d :: ds, i + 1, e, .cons h1 h2, h => by
    obtain ⟨u, hu, h3⟩ := da_getV (i := i) h2 (by simpa using h)
    exact ⟨u, by simpa using hu, h3⟩
theorem da_app : ∀ {vs ws : List V} {ds es : List PyData}, DpAll K H vs ds → DpAll K H ws es → DpAll K H (vs ++ ws) (ds ++ es)
  | _, _, _, _, .nil, h => h
  | _, _, _, _, .cons h1 h2, h => .cons h1 (da_app h2 h)
theorem da_one {v : V} {d : PyData} (h : Dp K H v d) : DpAll K H [v] [d] := .cons h .nil
theorem da_set : ∀ {vs : List V} {ds : List PyData} (i : Nat) {v : V} {d : PyData}, DpAll K H vs ds → Dp K H v d → DpAll K H (vs.set i v) (ds.set i d)
  | _, _, _, _, _, .nil, _ => .nil
  | _, _, 0, _, _, .cons h1 h2, h => .cons h h2
  | _, _, i + 1, _, _, .cons h1 h2, h => .cons h1 (da_set i h2 h)
theorem da_take : ∀ {vs : List V} {ds : List PyData} (n : Nat), DpAll K H vs ds → DpAll K H (vs.take n) (ds.take n)
  | _, _, 0, _ => by rw [List.take_zero, List.take_zero]; exact .nil
  | _, _, _ + 1, .nil => .nil
  | _, _, n + 1, .cons h1 h2 => .cons h1 (da_take n h2)
theorem da_drop : ∀ {vs : List V} {ds : List PyData} (n : Nat), DpAll K H vs ds → DpAll K H (vs.drop n) (ds.drop n)
  | _, _, 0, h => h
  | _, _, _ + 1, .nil => .nil
  | _, _, n + 1, .cons _ h2 => da_drop n h2
theorem da_rep {v : V} {d : PyData} (h : Dp K H v d) : ∀ n : Nat, DpAll K H (List.replicate n v) (List.replicate n d)
  | 0 => .nil
  | n + 1 => .cons h (da_rep h n)
theorem flat_rep {v : V} (n : Nat) : (List.replicate n [v]).flatten = List.replicate n v := by
  induction n with
  | zero => rfl
  | succ n ih => rw [List.replicate_succ, List.flatten_cons, ih]; rfl
/-- the type of a piece of data -/
def tyD : PyData → String
  | .none => "NoneType"
  | .bool _ => "bool"
  | .int _ => "int"
  | .str _ => "str"
  | .list _ => "list"
  | .tuple _ => "tuple"
  | .dict _ => "dict"
theorem dp_ty {v : V} {d : PyData} (h : Dp K H v d) : TyX K H v (.type (tyD d)) := by
  cases h with
  | non => exact .base .non
  | bl b => exact .base (.bl b)
  | int i => exact .base (.int i)
  | str x => exact .base (.str x)
  | lst hs _ =>
    rcases hs with (hs | ⟨o, hs⟩) | ⟨o, its, n, hk, hc, _⟩
    · exact .base (.lst hs)
    · exact .base (.frz hs)
    · exact .kList hk hc
  | tup hs _ =>
    rcases hs with (hs | ⟨o, hs⟩) | ⟨o, its, n, hk, hc, _⟩
    · exact .base (.tup hs)
    · exact .fTuple hs
    · exact .kTuple hk hc
end
section
variable {K : PySem.W.Frag} {H H' : Hp} {v : V} {d : PyData}
theorem dq_ex (e : Ex H H') (h : Dq K H v d) : Dq K H' v d := by
  rcases h with h | ⟨a, e1, e2, e3⟩
  · exact .inl (dp_ex e _ _ h)
  · exact .inr ⟨a, e1, e _ _ e2, e3⟩
theorem dq_ty (h : Dq K H v d) : TyX K H v (.type (tyD d)) := by
  rcases h with h | ⟨a, rfl, e2, rfl⟩
  · exact dp_ty h
  · exact .base (.dK e2)
theorem dq_int {i : Int} (h : Dq K H v (.int i)) : v = .int i := by
  rcases h with h | ⟨a, _, _, e3⟩
  · cases h; rfl
  · cases e3
theorem dq_dp (h : Dq K H v d) (n : ∀ kvs, d ≠ .dict kvs) : Dp K H v d := by
  rcases h with h | ⟨a, _, _, e3⟩
  · exact h
  · exact absurd e3 (n _)
end
/-- a place of a list -/
theorem atI_nat {α : Type} {xs : List α} {i : Int} (h0 : 0 ≤ i) (h1 : i < xs.length) : atI xs i = xs[i.toNat]? := by
  unfold atI ixN
  rw [if_pos h0, if_pos h1]
  rfl
theorem ixN_nat {n : Nat} {i : Int} (h0 : 0 ≤ i) (h1 : i < n) : ixN n i = some i.toNat := by
  unfold ixN
  rw [if_pos h0, if_pos h1]
end GL

namespace GL
open PySem PySem.Spec PyProof.Rows L2 Evl

/-! ## errors with fields: what their __init__ makes -/
def mk1 (f t : Str) : List V → Option (List (Str × V))
  | [v] => some [(f, v), ("why", .str t)]
  | _ => none
def mk2 (f g t : Str) : List V → Option (List (Str × V))
  | [u, v] => some [(g, v), (f, u), ("why", .str t)]
  | _ => none
def mkW : List V → Option (List (Str × V))
  | [v] => some [("why", v)]
  | _ => none
def mkW0 (t : Str) : List V → Option (List (Str × V))
  | [] => some [("why", .str t)]
  | _ => none
/-- the base's -/
def spLE (K : PySem.W.Frag) : Sp := fun vs H Q _ => ∃ (a C : Addr) (v : V), vs = [.ref a, v] ∧ OexC K C ∧ PySem.W.findIn K (.ref C) "why" = some none ∧ H a = some (exo a C none) ∧
  ∀ d, H d = none → d ≠ a → Q .non (upd (upd H d (exd d [("why", v)])) a (exo a C (some d)))
theorem upd_swap {H : Hp} {a b : Addr} {o u u' : HO} (h : a ≠ b) : upd (upd (upd H a u) b o) a u' = upd (upd H a u') b o := by
  funext c
  by_cases h1 : c = a
  · subst h1
    rw [upd_same, upd_ne h, upd_same]
  · rw [upd_ne h1]
    by_cases h2 : c = b
    · subst h2
      rw [upd_same, upd_same]
    · rw [upd_ne h2, upd_ne h2, upd_ne h1, upd_ne h1]
section
variable {K : PySem.W.Frag} {C : Addr} {vs : List V} {H : Hp} {Q : VK} {E : XK} {W : WX}
theorem len1 {f t : Str} (h : spX K C (mk1 f t) vs H Q E) : vs.length = 2 := by
  obtain ⟨a, ws, fs, rfl, _, hm, _⟩ := h
  match ws, hm with
  | [_], _ => rfl
theorem len2 {f g t : Str} (h : spX K C (mk2 f g t) vs H Q E) : vs.length = 3 := by
  obtain ⟨a, ws, fs, rfl, _, hm, _⟩ := h
  match ws, hm with
  | [_, _], _ => rfl
theorem lenW (h : spX K C mkW vs H Q E) : vs.length = 2 := by
  obtain ⟨a, ws, fs, rfl, _, hm, _⟩ := h
  match ws, hm with
  | [_], _ => rfl
theorem err1 {f t x0 x1 : Str} (hC : OexC K C) (hf : PySem.W.findIn K (.ref C) f = some none) (hw : PySem.W.findIn K (.ref C) "why" = some none) (h : spX K C (mk1 f t) vs H Q E) :
    tSeq (tDrop (cCall (spLE K) W (tCons (tVar 0) (tCons (tC (.str t)) tNil)))) (tOst K f (tVar 0) (tVar 1)) { nx := fun _ H' => Q .non H', rt := Q } (L2.start [x0, x1] vs) H := by
  obtain ⟨a, ws, fs, rfl, ha, hm, k⟩ := h
  match ws, hm with
  | [v], hm =>
    cases hm
    refine ⟨_, rfl, a, C, _, rfl, hC, hw, ha, fun d h1 h2 => ?_⟩
    refine ⟨_, rfl, _, rfl, a, C, rfl, hC, hf, .inr ⟨d, _, upd_same, by rw [upd_ne h2, upd_same], by simp, ?_⟩⟩
    rw [upd_swap h2]
    exact k d h1 h2
theorem err2 {f g t x0 x1 x2 : Str} (hC : OexC K C) (hf : PySem.W.findIn K (.ref C) f = some none) (hg : PySem.W.findIn K (.ref C) g = some none) (hw : PySem.W.findIn K (.ref C) "why" = some none) (h : spX K C (mk2 f g t) vs H Q E) :
    tSeq (tDrop (cCall (spLE K) W (tCons (tVar 0) (tCons (tC (.str t)) tNil)))) (tSeq (tOst K f (tVar 0) (tVar 1)) (tOst K g (tVar 0) (tVar 2))) { nx := fun _ H' => Q .non H', rt := Q } (L2.start [x0, x1, x2] vs) H := by
  obtain ⟨a, ws, fs, rfl, ha, hm, k⟩ := h
  match ws, hm with
  | [u, v], hm =>
    cases hm
    refine ⟨_, rfl, a, C, _, rfl, hC, hw, ha, fun d h1 h2 => ?_⟩
    refine ⟨_, rfl, _, rfl, a, C, rfl, hC, hf, .inr ⟨d, _, upd_same, by rw [upd_ne h2, upd_same], by simp, ?_⟩⟩
    rw [upd_swap h2]
    refine ⟨_, rfl, _, rfl, a, C, rfl, hC, hg, .inr ⟨d, _, upd_same, by rw [upd_ne h2, upd_same], by simp, ?_⟩⟩
    rw [upd_swap h2]
    exact k d h1 h2
theorem errW {x0 x1 : Str} (hC : OexC K C) (hw : PySem.W.findIn K (.ref C) "why" = some none) (h : spX K C mkW vs H Q E) :
    tDrop (cCall (spLE K) W (tCons (tVar 0) (tCons (tVar 1) tNil))) { nx := fun _ H' => Q .non H', rt := Q } (L2.start [x0, x1] vs) H := by
  obtain ⟨a, ws, fs, rfl, ha, hm, k⟩ := h
  match ws, hm with
  | [v], hm =>
    cases hm
    exact ⟨_, rfl, _, rfl, a, C, _, rfl, hC, hw, ha, fun d h1 h2 => k d h1 h2⟩
theorem mkW0_W {t : Str} (h : spX K C (mkW0 t) vs H Q E) : spX K C mkW (vs ++ [.str t]) H Q E := by
  obtain ⟨a, ws, fs, rfl, ha, hm, k⟩ := h
  match ws, hm with
  | [], hm =>
    cases hm
    exact ⟨a, [.str t], _, rfl, ha, rfl, k⟩
end

/-! ## what is a value -/
def isI : PyData → Bool
  | .int _ => true
  | _ => false
def intOf : PyData → Int
  | .int i => i
  | _ => 0
def isT : PyData → Bool
  | .tuple _ => true
  | _ => false
def isLs : PyData → Bool
  | .list _ => true
  | _ => false
def isS : PyData → Bool
  | .str _ => true
  | _ => false
def betw (d : PyData) (l m : Int) : Bool := isI d && (decide (l ≤ intOf d) && decide (intOf d ≤ m))
mutual
def valOk : Nat → PyData → Bool
  | _, .int _ => true
  | _, .str _ => true
  | 0, .tuple _ => false
  | n + 1, .tuple ds => valOkAll n ds
  | _, _ => false
def valOkAll : Nat → List PyData → Bool
  | _, [] => true
  | n, d :: ds => valOk n d && valOkAll n ds
end
section
variable {K : PySem.W.Frag}
theorem kit_int (d : PyData) : PySem.W.kitOne K (.type (tyD d)) (.type "int") = some (match d with | .int _ => true | .bool _ => true | _ => false) := by cases d <;> rfl
theorem kit_bool (d : PyData) : PySem.W.kitOne K (.type (tyD d)) (.type "bool") = some (match d with | .bool _ => true | _ => false) := by cases d <;> rfl
theorem kit_tuple (d : PyData) : PySem.W.kitOne K (.type (tyD d)) (.type "tuple") = some (isT d) := by cases d <;> rfl
theorem kit_list (d : PyData) : PySem.W.kitOne K (.type (tyD d)) (.type "list") = some (isLs d) := by cases d <;> rfl
theorem kit_str (d : PyData) : PySem.W.kitOne K (.type (tyD d)) (.type "str") = some (isS d) := by cases d <;> rfl
theorem rd_isi {H : Hp} {Q : VK} {v : V} {d : PyData} {T : String} {b : Bool} (h : Dq K H v d) (hk : PySem.W.kitOne K (.type (tyD d)) (.type T) = some b) (q : Q (.bl b) H) : rIsi K [v, .ty T] H Q :=
  ⟨v, .ty T, _, _, b, rfl, .ty T, dq_ty h, hk, q⟩
end
mutual
theorem valOk_noL : ∀ (n : Nat) (d : PyData), valOk n d = true → noL d = true
  | _, .int _, _ => by simp [noL]
  | _, .str _, _ => by simp [noL]
  | 0, .tuple _, h => by simp [valOk] at h
  | n + 1, .tuple ds, h => by
    simp only [noL]
    exact valOkAll_noL n ds (by simpa [valOk] using h)
  | _, .none, h => by simp [valOk] at h
  | _, .bool _, h => by simp [valOk] at h
  | _, .list _, h => by simp [valOk] at h
  | _, .dict _, h => by simp [valOk] at h
theorem valOkAll_noL : ∀ (n : Nat) (ds : List PyData), valOkAll n ds = true → noLAll ds = true
  | _, [], _ => by simp [noLAll]
  | n, d :: ds, h => by
    have z : valOk n d = true ∧ valOkAll n ds = true := by simpa [valOkAll] using h
    simp [noLAll, valOk_noL n d z.1, valOkAll_noL n ds z.2]
end
theorem valOkAll_iff {n : Nat} {ds : List PyData} : valOkAll n ds = true ↔ ∀ d ∈ ds, valOk n d = true := by
  induction ds with
  | nil => simp [valOkAll]
  | cons d ds ih => simp [valOkAll, ih]
def spIsInt (K : PySem.W.Frag) : Sp := fun vs H Q _ => ∃ v d, vs = [v] ∧ Dq K H v d ∧ Q (.bl (isI d)) H
def spBetw (K : PySem.W.Frag) : Sp := fun vs H Q _ => ∃ v d l m, vs = [v, .int l, .int m] ∧ Dq K H v d ∧ Q (.bl (betw d l m)) H
def spIsVal (K : PySem.W.Frag) (n : Nat) : Sp := fun vs H Q _ => ∃ v d, vs = [v, .int n] ∧ Dq K H v d ∧ Q (.bl (valOk n d)) H
end GL

namespace GL
open PySem PySem.Spec PyProof.Rows L2 Evl

section
variable {K : PySem.W.Frag} {σ : L2.St} {H : Hp} {D : Ends} {Q : VK}
/-! ## reading loops, targets, methods of built-in types, slices -/
theorem rd_for {wi : TI} {g : TG} {tb : TS} (h : wi σ H fun J H1 => ∃ W : Nat → Nat → L2.St → Hp → Prop, (∃ m, W 0 m σ H1) ∧ ∀ i m σ H, W i m σ H →
  (J.stop i H ∧ D.nx σ H) ∨ (J.go i H ∧ ∃ N : L2.St → Hp → Prop, (∀ σ' H', N σ' H' → ∃ m', m' < m ∧ W (i + 1) m' σ' H') ∧ ∀ x H', J.yld i H x H' → g x σ H' fun σ2 H2 => tb { D with nx := N, ct := N, bk := D.nx } σ2 H2)) : tFor wi g tb D σ H := h
theorem rd_iL {tl : TE} {R : It → Hp → Prop} (h : tl σ H fun x H1 => ∃ a, x = .ref a ∧ (∃ xs, SqL K H1 a xs) ∧ R (Itl K a) H1) : iList K tl σ H R := h
theorem rd_iT {tl : TE} {R : It → Hp → Prop} (h : tl σ H fun x H1 => ∃ a, x = .ref a ∧ (∃ xs, SqT K H1 a xs) ∧ R (Itt K a) H1) : iTup K tl σ H R := h
theorem rd_iR1 {ta : TA} {R : It → Hp → Prop} (h : ta σ H fun vs H1 => ∃ j : Int, vs = [.int j] ∧ -(2 ^ 62) ≤ j ∧ j < 2 ^ 62 ∧ R (Itr 0 j.toNat) H1) : iRng1 ta σ H R := h
theorem rd_iE {ta : TA} {R : It → Hp → Prop} (h : ta σ H fun vs H1 => ∃ a xs, vs = [.ref a] ∧ SqL K H1 a xs ∧ R (Ite K a) H1) : iEnum K ta σ H R := h
theorem rd_gname {i : Nat} {v : V} {R : L2.St → Hp → Prop} (h : R (σ.set i (some v)) H) : gName i v σ H R := h
theorem rd_gtup {n : Nat} {t : TGs} {p : Addr} {xs : List V} {R : L2.St → Hp → Prop} (hq : SqT K H p xs) (hl : xs.length = n) (h : t xs σ H R) : gTup K n t (.ref p) σ H R := ⟨p, xs, rfl, hq, hl, h⟩
theorem rd_gcons {t : TG} {u : TGs} {v : V} {r : List V} {R : L2.St → Hp → Prop} (h : t v σ H fun σ' H' => u r σ' H' R) : gCons t u (v :: r) σ H R := ⟨v, r, rfl, h⟩
theorem rd_gnil {R : L2.St → Hp → Prop} (h : R σ H) : gNil [] σ H R := ⟨rfl, h⟩
theorem rd_gsub {to ti : TE} {t : TSet} {v : V} {R : L2.St → Hp → Prop} (h : to σ H fun o H1 => ti σ H1 fun i H2 => t o i v H2 fun H3 => R σ H3) : gSub to ti t v σ H R := h
theorem rd_setL {p : Addr} {xs : List V} {i : Int} {v : V} {R : Hp → Prop} (h1 : H p = some (.lst xs)) (h0 : 0 ≤ i) (h2 : i < xs.length) (q : R (upd H p (.lst (xs.set i.toNat v)))) : rSetL (.ref p) (.int i) v H R :=
  ⟨p, xs, i, i.toNat, rfl, rfl, h1, ixN_nat h0 h2, q⟩
theorem rd_bm {T : String} {r : V → List V → Hp → VK → Prop} {to : TE} {t : TA} (h : to σ H fun x H1 => tyV K T x H1 ∧ t σ H1 fun xs H2 => r x xs H2 Q) : tBM K T r to t σ H Q := h
theorem rd_bm0 {T : String} {r : V → List V → Hp → VK → Prop} {to : TE} (h : to σ H fun x H1 => tyV K T x H1 ∧ r x [] H1 Q) : tBM0 K T r to σ H Q := h
theorem rd_tyL {p : Addr} {xs : List V} {Z : Prop} (h : H p = some (.lst xs)) (q : Z) : tyV K "list" (.ref p) H ∧ Z := ⟨.inl ⟨rfl, xs, .inl (.inl h)⟩, q⟩
theorem rd_app {p : Addr} {xs : List V} {y : V} (h : H p = some (.lst xs)) (hz : xs.length < 100000) (q : Q .non (upd H p (.lst (xs ++ [y])))) : rAppend (.ref p) [y] H Q := ⟨p, xs, y, rfl, rfl, h, sz_lt hz, q⟩
theorem rd_sl {r : V → Option Int → Option Int → Hp → VK → Prop} {te : TE} {tl th : TO} (h : te σ H fun x H1 => tl σ H1 fun l H2 => th σ H2 fun u H3 => r x l u H3 Q) : tSl r te tl th σ H Q := h
variable {R : Option Int → Hp → Prop}
theorem rd_noPart (h : R none H) : tNoPart σ H R := h
theorem rd_part {t : TE} (h : t σ H fun x H1 => ∃ i, x = .int i ∧ R (some i) H1) : tPart t σ H R := h
theorem rd_isint {i : Int} {B : Int → Prop} (h : B i) : ∃ j, V.int i = .int j ∧ B j := ⟨i, rfl, h⟩
theorem rd_brk (h : D.bk σ H) : tBreak D σ H := h
theorem rd_cont (h : D.ct σ H) : tCont D σ H := h
/-- list(x) of a list -/
theorem rd_listL {p : Addr} {ys : List V} (hs : SqL K H p ys) (h : ∀ l, H l = none → Q (.ref l) (upd H l (.lst ys))) :
    ∃ p' ys', [V.ref p] = [.ref p'] ∧ (SqL K H p' ys' ∨ SqT K H p' ys') ∧ ∀ l, H l = none → Q (.ref l) (upd H l (.lst ys')) := ⟨p, ys, rfl, .inl hs, h⟩
theorem rd_cat {l b : Addr} {xs zs : List V} (h1 : H l = some (.lst xs)) (h2 : H b = some (.lst zs)) (hz : xs.length + zs.length ≤ 100000) (h : ∀ p, H p = none → Q (.ref p) (upd H p (.lst (xs ++ zs)))) : rCat (.ref l) (.ref b) H Q :=
  ⟨l, b, xs, zs, rfl, rfl, h1, h2, sz_of hz, h⟩
theorem rd_sll {a : Addr} {xs : List V} {lo hi : Option Int} (h1 : SqL K H a xs) (h : ∀ p, H p = none → Q (.ref p) (upd H p (.lst (cutV xs lo hi)))) : rSlL K (.ref a) lo hi H Q := ⟨a, xs, rfl, h1, h⟩
end
theorem rd_ntF {A B : Prop} (h : A) : if (!false) = true then A else B := L2.iteT h
theorem rd_ntT {A B : Prop} (h : B) : if (!true) = true then A else B := L2.iteF h
theorem cutV_take {xs : List V} {n : Int} (h0 : 0 ≤ n) : cutV xs none (some n) = xs.take n.toNat := by
  unfold cutV
  have e1 : HT.sIx xs.length 0 none = 0 := rfl
  rw [e1, List.drop_zero]
  have e2 : HT.sIx xs.length xs.length (some n) = min n.toNat xs.length := by
    unfold HT.sIx
    simp only
    split <;> omega
  rw [e2, Nat.sub_zero]
  by_cases h : n.toNat ≤ xs.length
  · rw [Nat.min_eq_left h]
  · rw [Nat.min_eq_right (by omega), List.take_of_length_le (Nat.le_refl _), List.take_of_length_le (by omega)]
theorem for_enum {K : PySem.W.Frag} {a : Addr} {xs : List V} {g : TG} {tb : TS} {D : Ends} {σ : L2.St} {H : Hp} (Pv : Nat → L2.St → Hp → Prop) (h0 : Pv 0 σ H) (hl : ∀ i σ H, i ≤ xs.length → Pv i σ H → SqL K H a xs)
    (hs : ∀ i x σ H T, xs[i]? = some x → H T = none → Pv i σ H → g (.ref T) σ (upd H T (.tup [.int (i : Nat), x])) fun σ2 H2 => tb { D with nx := Pv (i + 1), ct := Pv (i + 1), bk := D.nx } σ2 H2) (hd : ∀ σ H, Pv xs.length σ H → D.nx σ H) :
    ∃ W : Nat → Nat → L2.St → Hp → Prop, (∃ m, W 0 m σ H) ∧ ∀ i m σ H, W i m σ H →
      ((Ite K a).stop i H ∧ D.nx σ H) ∨ ((Ite K a).go i H ∧ ∃ N : L2.St → Hp → Prop, (∀ σ' H', N σ' H' → ∃ m', m' < m ∧ W (i + 1) m' σ' H') ∧ ∀ x H', (Ite K a).yld i H x H' → g x σ H' fun σ2 H2 => tb { D with nx := N, ct := N, bk := D.nx } σ2 H2) := by
  refine ⟨fun i m σ H => m = xs.length - i ∧ i ≤ xs.length ∧ Pv i σ H, ⟨xs.length, by simp, Nat.zero_le _, h0⟩, ?_⟩
  rintro i m σ H ⟨rfl, hi, p⟩
  have q := hl i σ H hi p
  by_cases hlt : i < xs.length
  · refine .inr ⟨⟨xs, xs[i], q, by simp [hlt]⟩, Pv (i + 1), fun σ' H' p' => ⟨xs.length - (i + 1), by omega, rfl, hlt, p'⟩, fun x H' y => ?_⟩
    obtain ⟨T, z, e, hT, eH, y⟩ := y
    subst e eH
    exact hs i z σ _ T (y xs q) hT p
  · have e : i = xs.length := by omega
    subst e
    exact .inl ⟨⟨xs, q, Nat.le_refl _⟩, hd σ H p⟩
end GL

namespace GL
open PySem PySem.Spec PyProof.Rows L2 Evl

/-! ## a disk: its five lists, as data -/
structure DS where
  f : List PyData
  s : List PyData
  n : List PyData
  w : List PyData
  d : List PyData
def DS.new (ds : List PyData) : DS := ⟨ds, ds, ds, [], []⟩
def pW (b : Int) (v : PyData) : PyData := .tuple [.int b, v]
def eW (b : Int) (v : PyData) : PyData := .tuple [.str "write", .int b, v]
def eF : PyData := .tuple [.str "flush"]
def DS.wr (D : DS) (b : Int) (v : PyData) : DS := { D with n := D.n.set b.toNat v, w := D.w ++ [pW b v], d := D.d ++ [eW b v] }
def DS.fl (D : DS) : DS := { D with s := D.n, w := [], d := D.d ++ [eF] }
/-- a block's number, a block's value -/
def isB (n : Nat) (d : PyData) : Prop := ∃ b v, d = pW b v ∧ 0 ≤ b ∧ b < n ∧ valOk 8 v = true
def isE (n : Nat) (d : PyData) : Prop := (∃ b v, d = eW b v ∧ 0 ≤ b ∧ b < n ∧ valOk 8 v = true) ∨ d = eF
structure DS.Ok (D : DS) : Prop where
  ls : D.s.length = D.f.length
  ln : D.n.length = D.f.length
  lo : 1 ≤ D.f.length
  hi : D.f.length ≤ 128
  vf : valOkAll 8 D.f = true
  vs : valOkAll 8 D.s = true
  vn : valOkAll 8 D.n = true
  bw : ∀ x ∈ D.w, isB D.f.length x
  be : ∀ x ∈ D.d, isE D.f.length x
  lw : D.w.length ≤ D.d.length
theorem noL_pW {b : Int} {v : PyData} (h : valOk 8 v = true) : noL (pW b v) = true := by simp [pW, noL, noLAll, valOk_noL 8 v h]
theorem noL_eW {b : Int} {v : PyData} (h : valOk 8 v = true) : noL (eW b v) = true := by simp [eW, noL, noLAll, valOk_noL 8 v h]
theorem isB.noL {n : Nat} {d : PyData} (h : isB n d) : GL.noL d = true := by obtain ⟨b, v, rfl, _, _, z⟩ := h; exact noL_pW z
theorem isE.noL {n : Nat} {d : PyData} (h : isE n d) : GL.noL d = true := by
  rcases h with ⟨b, v, rfl, _, _, z⟩ | rfl
  · exact noL_eW z
  · simp [eF, GL.noL, noLAll]
theorem DS.Ok.nf {D : DS} (h : D.Ok) : noLAll D.f = true := valOkAll_noL 8 _ h.vf
theorem DS.Ok.ns {D : DS} (h : D.Ok) : noLAll D.s = true := valOkAll_noL 8 _ h.vs
theorem DS.Ok.nn {D : DS} (h : D.Ok) : noLAll D.n = true := valOkAll_noL 8 _ h.vn
theorem DS.Ok.nw {D : DS} (h : D.Ok) : noLAll D.w = true := noLAll_iff.mpr fun d hd => (h.bw d hd).noL
theorem DS.Ok.nd {D : DS} (h : D.Ok) : noLAll D.d = true := noLAll_iff.mpr fun d hd => (h.be d hd).noL
theorem DS.Ok.new {ds : List PyData} (h1 : 1 ≤ ds.length) (h2 : ds.length ≤ 128) (h3 : valOkAll 8 ds = true) : (DS.new ds).Ok :=
  ⟨rfl, rfl, h1, h2, h3, h3, h3, fun _ h => absurd h List.not_mem_nil, fun _ h => absurd h List.not_mem_nil, Nat.le_refl _⟩
theorem valOkAll_set {n i : Nat} {ds : List PyData} {v : PyData} (h : valOkAll n ds = true) (hv : valOk n v = true) : valOkAll n (ds.set i v) = true := by
  rw [valOkAll_iff] at h ⊢
  intro d hd
  rcases List.mem_or_eq_of_mem_set hd with z | z
  · exact h d z
  · rw [z]; exact hv
theorem DS.Ok.wr {D : DS} (h : D.Ok) {b : Int} {v : PyData} (h0 : 0 ≤ b) (h1 : b < D.f.length) (hv : valOk 8 v = true) : (D.wr b v).Ok := by
  refine ⟨h.ls, by show (D.n.set _ _).length = _; rw [List.length_set]; exact h.ln, h.lo, h.hi, h.vf, h.vs, valOkAll_set h.vn hv, fun x hx => ?_, fun x hx => ?_, ?_⟩
  · rcases List.mem_append.mp hx with z | z
    · exact h.bw x z
    · rw [List.mem_singleton.mp z]
      exact ⟨b, v, rfl, h0, h1, hv⟩
  · rcases List.mem_append.mp hx with z | z
    · exact h.be x z
    · rw [List.mem_singleton.mp z]
      exact .inl ⟨b, v, rfl, h0, h1, hv⟩
  · show (D.w ++ _).length ≤ (D.d ++ _).length
    rw [List.length_append, List.length_append]
    have := h.lw
    simp only [List.length_singleton]
    omega
theorem DS.Ok.fl {D : DS} (h : D.Ok) : D.fl.Ok := by
  refine ⟨h.ln, h.ln, h.lo, h.hi, h.vf, h.vn, h.vn, fun x hx => absurd hx List.not_mem_nil, fun x hx => ?_, Nat.zero_le _⟩
  rcases List.mem_append.mp hx with z | z
  · exact h.be x z
  · rw [List.mem_singleton.mp z]
    exact .inr rfl

/-! ## .. as an object -/
def dfs (p1 p2 p3 p4 p5 : Addr) : List (Str × V) := [("_first", .ref p1), ("_settled", .ref p2), ("_newest", .ref p3), ("_waiting", .ref p4), ("_done", .ref p5)]
structure DiskAt (K : PySem.W.Frag) (H : Hp) (C a : Addr) (F : List Addr) (D : DS) : Prop where
  ex : ∃ (dx p1 p2 p3 p4 p5 : Addr) (x1 x2 x3 x4 x5 : List V), F = [a, p1, p2, p3, p4, p5] ∧
    Ob H [(a, .ins C dx (dfs p1 p2 p3 p4 p5)), (p1, .lst x1), (p2, .lst x2), (p3, .lst x3), (p4, .lst x4), (p5, .lst x5)] ∧
    DpAll K H x1 D.f ∧ DpAll K H x2 D.s ∧ DpAll K H x3 D.n ∧ DpAll K H x4 D.w ∧ DpAll K H x5 D.d
  ok : D.Ok
section
variable {K : PySem.W.Frag} {H H' : Hp} {C a : Addr} {F : List Addr} {D : DS}
theorem DiskAt.exd (h : DiskAt K H C a F D) (e : Ex H H') : DiskAt K H' C a F D := by
  obtain ⟨⟨dx, p1, p2, p3, p4, p5, x1, x2, x3, x4, x5, hF, O, d1, d2, d3, d4, d5⟩, ok⟩ := h
  exact ⟨⟨dx, p1, p2, p3, p4, p5, x1, x2, x3, x4, x5, hF, O.ex e, dpAll_ex e _ _ d1, dpAll_ex e _ _ d2, dpAll_ex e _ _ d3, dpAll_ex e _ _ d4, dpAll_ex e _ _ d5⟩, ok⟩
theorem DiskAt.mu {G : List Addr} (h : DiskAt K H C a F D) (m : Mu G H H') (nt : NT G H) (hd : ∀ b ∈ F, b ∉ G) : DiskAt K H' C a F D := by
  obtain ⟨⟨dx, p1, p2, p3, p4, p5, x1, x2, x3, x4, x5, hF, O, d1, d2, d3, d4, d5⟩, ok⟩ := h
  subst hF
  refine ⟨⟨dx, p1, p2, p3, p4, p5, x1, x2, x3, x4, x5, rfl, O.mu m fun q hq => hd q.1 ?_, dpAll_mu m nt _ _ ok.nf d1, dpAll_mu m nt _ _ ok.ns d2, dpAll_mu m nt _ _ ok.nn d3, dpAll_mu m nt _ _ ok.nw d4, dpAll_mu m nt _ _ ok.nd d5⟩, ok⟩
  have z : q.1 ∈ ([(a, .ins C dx (dfs p1 p2 p3 p4 p5)), (p1, .lst x1), (p2, .lst x2), (p3, .lst x3), (p4, .lst x4), (p5, .lst x5)] : List (Addr × HO)).map (·.1) := List.mem_map_of_mem hq
  exact z
/-- a disk's objects are no tuples -/
theorem DiskAt.nt (h : DiskAt K H C a F D) : NT F H := by
  obtain ⟨⟨dx, p1, p2, p3, p4, p5, x1, x2, x3, x4, x5, hF, O, _⟩, ok⟩ := h
  subst hF
  intro b hb xs hr
  have no : ∀ (o : HO), H b = some o → (∀ y, o ≠ .tup y) → (∀ z y, o ≠ .frz z y) → False := fun o h n1 n2 => by
    rcases hr with q | ⟨z, q⟩
    · rw [h] at q; exact n1 _ (Option.some.inj q)
    · rw [h] at q; exact n2 _ _ (Option.some.inj q)
  simp only [List.mem_cons, List.not_mem_nil, or_false] at hb
  rcases hb with rfl | rfl | rfl | rfl | rfl | rfl
  · exact no _ (O.get 0) (fun _ z => by cases z) fun _ _ z => by cases z
  · exact no _ (O.get 1) (fun _ z => by cases z) fun _ _ z => by cases z
  · exact no _ (O.get 2) (fun _ z => by cases z) fun _ _ z => by cases z
  · exact no _ (O.get 3) (fun _ z => by cases z) fun _ _ z => by cases z
  · exact no _ (O.get 4) (fun _ z => by cases z) fun _ _ z => by cases z
  · exact no _ (O.get 5) (fun _ z => by cases z) fun _ _ z => by cases z
/-- a list of one's own is no tuple -/
theorem nt_lst {p : Addr} {xs : List V} (h : H p = some (.lst xs)) : NT [p] H := fun b hb ys hr => by
  rw [List.mem_singleton.mp hb] at hr
  rcases hr with q | ⟨z, q⟩ <;> rw [h] at q <;> cases q
theorem DiskAt.mem (h : DiskAt K H C a F D) : ∀ b ∈ F, H b ≠ none := by
  obtain ⟨⟨dx, p1, p2, p3, p4, p5, x1, x2, x3, x4, x5, hF, O, _⟩, ok⟩ := h
  subst hF
  intro b hb
  simp only [List.mem_cons, List.not_mem_nil, or_false] at hb
  rcases hb with rfl | rfl | rfl | rfl | rfl | rfl
  · rw [O.get 0]; simp
  · rw [O.get 1]; simp
  · rw [O.get 2]; simp
  · rw [O.get 3]; simp
  · rw [O.get 4]; simp
  · rw [O.get 5]; simp
/-- what was made behind a disk does not belong to it -/
theorem DiskAt.notIn (h : DiskAt K H C a F D) {p : Addr} (hp : H p = none) : p ∉ F := fun z => h.mem p z hp
/-- another list of one's own is written -/
theorem DiskAt.put (h : DiskAt K H C a F D) {p : Addr} {xs : List V} {o : HO} (hp : Own H F p (.lst xs)) : DiskAt K (upd H p o) C a F D :=
  h.mu ((Mu.refl [p] H).set (List.mem_singleton.mpr rfl) o) (nt_lst hp.at_) fun b hb z => hp.no (by rw [← List.mem_singleton.mp z]; exact hb)
end
end GL

namespace GL
open PySem PySem.Spec PyProof.Rows L2 Evl
section
variable {K : PySem.W.Frag} {H H' : Hp}
/-- no list among these -/
def NLs (F : List Addr) (H : Hp) : Prop := ∀ b ∈ F, ∀ xs, ¬ Rd H b (.lst xs)
theorem nls_ins {a C dx : Addr} {fs : List (Str × V)} (h : H a = some (.ins C dx fs)) : NLs [a] H := fun b hb ys hr => by
  rw [List.mem_singleton.mp hb] at hr
  rcases hr with q | ⟨z, q⟩ <;> rw [h] at q <;> cases q
theorem nt_ins {a C dx : Addr} {fs : List (Str × V)} (h : H a = some (.ins C dx fs)) : NT [a] H := fun b hb ys hr => by
  rw [List.mem_singleton.mp hb] at hr
  rcases hr with q | ⟨z, q⟩ <;> rw [h] at q <;> cases q
theorem sql_mu {F : List Addr} {p : Addr} {xs : List V} (m : Mu F H H') (no : NLs F H) (h : SqL K H p xs) : SqL K H' p xs := by
  rcases h with h | h
  · have hb : p ∉ F := fun z => no p z xs h
    rcases h with h | ⟨o, h⟩
    · exact .inl (.inl (m p _ h hb))
    · exact .inl (.inr ⟨o, m p _ h hb⟩)
  · exact .inr h
/-- a list beside a disk, read only -/
theorem sql_off {F : List Addr} {p : Addr} {xs : List V} (m : Mu F H H') (no : p ∉ F) (h : SqL K H p xs) : SqL K H' p xs := by
  rcases h with h | h
  · rcases h with h | ⟨o, h⟩
    · exact .inl (.inl (m p _ h no))
    · exact .inl (.inr ⟨o, m p _ h no⟩)
  · exact .inr h
end
theorem putF_len (f : Str) (v : V) : ∀ fs : List (Str × V), (putF f v fs).length ≤ fs.length + 1
  | [] => by simp [putF]
  | (g, x) :: r => by
    unfold putF
    split
    · simp
    · have := putF_len f v r
      simp only [List.length_cons]
      omega
theorem put5 {fs : List (Str × V)} {v1 v2 v3 v4 v5 : V} (h : fs = [] ∨ ∃ q1 q2 q3 q4 q5, fs = dfs q1 q2 q3 q4 q5) :
    putF "_done" v5 (putF "_waiting" v4 (putF "_newest" v3 (putF "_settled" v2 (putF "_first" v1 fs)))) = ([("_first", v1), ("_settled", v2), ("_newest", v3), ("_waiting", v4), ("_done", v5)] : List (Str × V)) := by
  rcases h with rfl | ⟨q1, q2, q3, q4, q5, rfl⟩ <;> rfl
theorem dfs_len {q1 q2 q3 q4 q5 : Addr} : (dfs q1 q2 q3 q4 q5).length = 5 := rfl
theorem dfs_1 {q1 q2 q3 q4 q5 : Addr} : (dfs q1 q2 q3 q4 q5).lookup ("_first" : Str) = some (V.ref q1) := rfl
theorem dfs_2 {q1 q2 q3 q4 q5 : Addr} : (dfs q1 q2 q3 q4 q5).lookup ("_settled" : Str) = some (V.ref q2) := rfl
theorem dfs_3 {q1 q2 q3 q4 q5 : Addr} : (dfs q1 q2 q3 q4 q5).lookup ("_newest" : Str) = some (V.ref q3) := rfl
theorem dfs_4 {q1 q2 q3 q4 q5 : Addr} : (dfs q1 q2 q3 q4 q5).lookup ("_waiting" : Str) = some (V.ref q4) := rfl
theorem dfs_5 {q1 q2 q3 q4 q5 : Addr} : (dfs q1 q2 q3 q4 q5).lookup ("_done" : Str) = some (V.ref q5) := rfl
theorem dfs_p2 {q1 q2 q3 q4 q5 p : Addr} : putF "_settled" (.ref p) (dfs q1 q2 q3 q4 q5) = dfs q1 p q3 q4 q5 := rfl
theorem dfs_p4 {q1 q2 q3 q4 q5 p : Addr} : putF "_waiting" (.ref p) (dfs q1 q2 q3 q4 q5) = dfs q1 q2 q3 p q5 := rfl

/-! ## what a disk's methods promise -/
section
variable (K : PySem.W.Frag) (C : Addr)
def spBegin : Sp := fun vs H Q _ => ∃ (a p dx : Addr) (fs : List (Str × V)) (xs : List V) (ds : List PyData), vs = [.ref a, .ref p] ∧ H a = some (.ins C dx fs) ∧ (fs = [] ∨ ∃ q1 q2 q3 q4 q5, fs = dfs q1 q2 q3 q4 q5) ∧
  SqL K H p xs ∧ DpAll K H xs ds ∧ 1 ≤ ds.length ∧ ds.length ≤ 128 ∧ valOkAll 8 ds = true ∧ ∀ H' F', DiskAt K H' C a F' (DS.new ds) → Fr [a] F' H H' → Q .non H'
/-- a value is handed in that is a number in this range, or BadCount with it -/
def badC (N f : Str) (v : V) (H : Hp) (E : XK) : Prop := ∀ (H' : Hp) (d : Addr) (t : Str), Ex H H' → H d = none → H' d = some (.xd [(f, v), ("why", .str t)]) → E (.ref (He.ga K N)) (some d) H'
def spDInit : Sp := fun vs H Q E => ∃ (a dx : Addr) (v : V) (d : PyData), vs = [.ref a, v] ∧ H a = some (.ins C dx []) ∧ Dq K H v d ∧
  (betw d 1 128 = true → ∀ H' F', DiskAt K H' C a F' (DS.new (List.replicate (intOf d).toNat (.int 0))) → Fr [a] F' H H' → Q .non H') ∧
  (betw d 1 128 = false → badC K "BadCount" "count" v H E)
/-- a method that looks -/
def spLook (g : DS → List PyData) : Sp := fun vs H Q _ => ∃ (a : Addr) (F : List Addr) (D : DS), vs = [.ref a] ∧ DiskAt K H C a F D ∧ ∀ p xs H', H p = none → Ex H H' → H' p = some (.lst xs) → DpAll K H' xs (g D) → Q (.ref p) H'
def spBlocks : Sp := fun vs H Q _ => ∃ (a : Addr) (F : List Addr) (D : DS), vs = [.ref a] ∧ DiskAt K H C a F D ∧ Q (.int D.f.length) H
def blk (D : DS) (d : PyData) : Bool := betw d 0 ((D.f.length : Int) - 1)
def spCheckB : Sp := fun vs H Q E => ∃ (a : Addr) (F : List Addr) (D : DS) (v : V) (d : PyData), vs = [.ref a, v] ∧ DiskAt K H C a F D ∧ Dq K H v d ∧ (blk D d = true → Q .non H) ∧
  (blk D d = false → badC K "BadBlock" "block" v H E)
def spRead : Sp := fun vs H Q E => ∃ (a : Addr) (F : List Addr) (D : DS) (v : V) (d : PyData), vs = [.ref a, v] ∧ DiskAt K H C a F D ∧ Dq K H v d ∧ (blk D d = true → ∀ u e, D.n[(intOf d).toNat]? = some e → Dp K H u e → Q u H) ∧
  (blk D d = false → badC K "BadBlock" "block" v H E)
def spWrite : Sp := fun vs H Q E => ∃ (a : Addr) (F : List Addr) (D : DS) (v u : V) (d e : PyData), vs = [.ref a, v, u] ∧ DiskAt K H C a F D ∧ Dq K H v d ∧ Dq K H u e ∧ D.d.length ≤ 50000 ∧
  (blk D d = true → valOk 8 e = true → ∀ H' F', DiskAt K H' C a F' (D.wr (intOf d) e) → Fr F F' H H' → Q .non H') ∧
  (blk D d = false → badC K "BadBlock" "block" v H E) ∧
  (blk D d = true → valOk 8 e = false → ∀ (H' : Hp) (d : Addr) (t : Str), Ex H H' → H d = none → H' d = some (.xd [("why", .str t)]) → E (.ref (He.ga K "BadValue")) (some d) H')
def spFlush : Sp := fun vs H Q _ => ∃ (a : Addr) (F : List Addr) (D : DS), vs = [.ref a] ∧ DiskAt K H C a F D ∧ D.d.length ≤ 50000 ∧ ∀ H' F', DiskAt K H' C a F' D.fl → Fr F F' H H' → Q .non H'
end
theorem betw_of {d : PyData} {l m : Int} (h : betw d l m = true) : ∃ i, d = .int i ∧ l ≤ i ∧ i ≤ m := by
  cases d with
  | int i =>
    unfold betw isI intOf at h
    simp only [Bool.true_and, Bool.and_eq_true, decide_eq_true_eq] at h
    exact ⟨i, rfl, h.1, h.2⟩
  | _ => simp [betw, isI] at h
theorem betw_to {i l m : Int} (h1 : l ≤ i) (h2 : i ≤ m) : betw (.int i) l m = true := by simp [betw, isI, intOf, h1, h2]
end GL

namespace GL
open PySem PySem.Spec PyProof.Rows L2 Evl

/-! ## all choices, two ways -/
def subs : List Int → List (List Int)
  | [] => [[]]
  | a :: l => subs l ++ (subs l).map (a :: ·)
theorem perm_mid {α : Type} (a b c d : List α) : ((a ++ b) ++ (c ++ d)).Perm ((a ++ c) ++ (b ++ d)) := by
  rw [List.append_assoc, List.append_assoc]
  refine List.Perm.append_left a ?_
  rw [← List.append_assoc, ← List.append_assoc]
  exact List.Perm.append_right d List.perm_append_comm
theorem subs_snoc (k : Int) : ∀ l : List Int, (subs (l ++ [k])).Perm (subs l ++ (subs l).map (· ++ [k]))
  | [] => by simp [subs]
  | a :: l => by
    have ih := subs_snoc k l
    have h1 : (subs (a :: l ++ [k])).Perm ((subs l ++ (subs l).map (· ++ [k])) ++ ((subs l ++ (subs l).map (· ++ [k])).map (a :: ·))) := by
      show (subs (l ++ [k]) ++ (subs (l ++ [k])).map (a :: ·)).Perm _
      exact List.Perm.append ih (ih.map _)
    refine h1.trans ?_
    rw [List.map_append]
    refine (perm_mid _ _ _ _).trans ?_
    have e : (subs (a :: l)).map (· ++ [k]) = (subs l).map (· ++ [k]) ++ ((subs l).map (· ++ [k])).map (a :: ·) := by
      show (subs l ++ (subs l).map (a :: ·)).map (· ++ [k]) = _
      rw [List.map_append, List.map_map, List.map_map]
      rfl
    rw [e]
    exact List.Perm.refl _
/-- by last items: as the law builds them -/
def allL : Nat → List (List Int)
  | 0 => [[]]
  | k + 1 => allL k ++ (allL k).map (· ++ [(k : Int)])
def ups (m : Nat) : List Int := (List.range m).map Int.ofNat
theorem allL_perm : ∀ m : Nat, (allL m).Perm (subs (ups m))
  | 0 => List.Perm.refl _
  | m + 1 => by
    have e : ups (m + 1) = ups m ++ [(m : Int)] := by unfold ups; rw [List.range_succ, List.map_append]; rfl
    rw [e]
    refine List.Perm.trans ?_ (subs_snoc (m : Int) (ups m)).symm
    exact List.Perm.append (allL_perm m) ((allL_perm m).map _)
/-- by first items: as the program builds them; j turns, counted down from m -/
def chU (m : Nat) : Nat → List (List Int)
  | 0 => [[]]
  | j + 1 => [[]] ++ (chU m j).map (((m : Int) - 1 - j) :: ·) ++ (chU m j).tail
theorem chU_ne (m : Nat) : ∀ j, ∃ t, chU m j = [] :: t
  | 0 => ⟨[], rfl⟩
  | j + 1 => ⟨_, rfl⟩
def downs (m : Nat) : Nat → List Int
  | 0 => []
  | j + 1 => ((m : Int) - 1 - j) :: downs m j
theorem chU_perm (m : Nat) : ∀ j, (chU m j).Perm (subs (downs m j))
  | 0 => List.Perm.refl _
  | j + 1 => by
    have ih := chU_perm m j
    obtain ⟨t, ht⟩ := chU_ne m j
    have h1 : (chU m (j + 1)).Perm (chU m j ++ (chU m j).map (((m : Int) - 1 - j) :: ·)) := by
      show ([[]] ++ (chU m j).map (((m : Int) - 1 - j) :: ·) ++ (chU m j).tail).Perm _
      rw [ht, List.tail_cons, List.singleton_append, List.cons_append, List.cons_append]
      exact (List.perm_append_comm).cons []
    exact h1.trans (List.Perm.append ih (ih.map _))
theorem downs_ups (m : Nat) : downs m m = ups m := by
  have h : ∀ j, j ≤ m → downs m j = (List.range' (m - j) j).map Int.ofNat := by
    intro j
    induction j with
    | zero => intro _; rfl
    | succ j ih =>
      intro hj
      have e : m - (j + 1) + 1 = m - j := by omega
      show ((m : Int) - 1 - j) :: downs m j = _
      rw [ih (by omega), List.range'_succ, List.map_cons, e]
      congr 1
      show (m : Int) - 1 - j = ((m - (j + 1) : Nat) : Int)
      omega
  rw [h m (Nat.le_refl _), Nat.sub_self]
  unfold ups
  rw [List.range_eq_range']
theorem chU_sorted (m : Nat) : ∀ j, (chU m j).Pairwise (· ≤ ·) ∧ ∀ x ∈ (chU m j).tail, ∃ a r, x = a :: r ∧ (m : Int) - j ≤ a
  | 0 => ⟨by simp [chU], by simp [chU]⟩
  | j + 1 => by
    obtain ⟨h1, h2⟩ := chU_sorted m j
    obtain ⟨t, ht⟩ := chU_ne m j
    have e : chU m (j + 1) = [] :: ((chU m j).map (((m : Int) - 1 - j) :: ·) ++ t) := by
      show [[]] ++ (chU m j).map (((m : Int) - 1 - j) :: ·) ++ (chU m j).tail = _
      rw [ht]
      rfl
    rw [e]
    rw [ht] at h2
    have hm : ∀ x ∈ (chU m j).map (((m : Int) - 1 - j) :: ·) ++ t, ∃ a r, x = a :: r ∧ (m : Int) - (j + 1 : Nat) ≤ a := by
      intro x hx
      rcases List.mem_append.mp hx with z | z
      · obtain ⟨y, _, rfl⟩ := List.mem_map.mp z
        exact ⟨_, _, rfl, by omega⟩
      · obtain ⟨a, r, rfl, ha⟩ := h2 x z
        exact ⟨a, r, rfl, by omega⟩
    refine ⟨List.pairwise_cons.mpr ⟨fun x _ => ?_, List.pairwise_append.mpr ⟨?_, ?_, ?_⟩⟩, hm⟩
    · exact List.nil_le x
    · rw [List.pairwise_map]
      exact h1.imp fun {a b} z => List.cons_le_cons_iff.mpr (.inr ⟨rfl, z⟩)
    · rw [ht] at h1
      exact (List.pairwise_cons.mp h1).2
    · intro x hx y hy
      obtain ⟨z, _, rfl⟩ := List.mem_map.mp hx
      obtain ⟨a, r, rfl, ha⟩ := h2 y hy
      exact List.cons_le_cons_iff.mpr (.inl (by omega))
theorem chs_all {m : Nat} {ls : List (List Int)} (hp : ls.Perm (allL m)) (hs : ls.Pairwise (· ≤ ·)) : ls = chU m m := by
  refine List.Perm.eq_of_pairwise (le := (· ≤ ·)) (fun a b _ _ => List.le_antisymm) hs (chU_sorted m m).1 ?_
  refine hp.trans ((allL_perm m).trans ?_)
  rw [← downs_ups]
  exact (chU_perm m m).symm
theorem allL_len : ∀ m, (allL m).length = 2 ^ m
  | 0 => rfl
  | m + 1 => by
    show (allL m ++ (allL m).map _).length = _
    rw [List.length_append, List.length_map, allL_len m, Nat.pow_succ]
    omega
theorem chU_len (m j : Nat) : (chU m j).length = 2 ^ j := by
  induction j with
  | zero => rfl
  | succ j ih =>
    obtain ⟨t, ht⟩ := chU_ne m j
    show ([[]] ++ (chU m j).map _ ++ (chU m j).tail).length = _
    rw [List.length_append, List.length_append, List.length_map, List.length_tail, ih, Nat.pow_succ]
    have : 0 < 2 ^ j := Nat.pos_of_ne_zero (by simp)
    simp only [List.length_singleton]
    omega

theorem chU_in (m : Nat) : ∀ j, ∀ x ∈ chU m j, x.length ≤ j
  | 0 => by intro x hx; rw [List.mem_singleton.mp hx]; exact Nat.le_refl _
  | j + 1 => by
    intro x hx
    have ih := chU_in m j
    have hx : x ∈ [[]] ++ (chU m j).map (((m : Int) - 1 - j) :: ·) ++ (chU m j).tail := hx
    rcases List.mem_append.mp hx with z | z
    · rcases List.mem_append.mp z with z | z
      · rw [List.mem_singleton.mp z]; exact Nat.zero_le _
      · obtain ⟨y, hy, rfl⟩ := List.mem_map.mp z
        have := ih y hy
        simp only [List.length_cons]
        omega
    · have := ih x (List.mem_of_mem_tail z)
      omega
theorem allL_in : ∀ m, ∀ x ∈ allL m, x.length ≤ m
  | 0 => by intro x hx; rw [List.mem_singleton.mp hx]; exact Nat.le_refl _
  | m + 1 => by
    intro x hx
    rcases List.mem_append.mp (show x ∈ allL m ++ (allL m).map (· ++ [(m : Int)]) from hx) with z | z
    · have := allL_in m x z
      omega
    · obtain ⟨y, hy, rfl⟩ := List.mem_map.mp z
      have := allL_in m y hy
      simp only [List.length_append, List.length_singleton]
      omega
theorem cutV_tail {x : V} {xs : List V} : cutV (x :: xs) (some 1) none = xs := by
  unfold cutV
  have e1 : HT.sIx (x :: xs).length 0 (some 1) = 1 := by
    rw [show (some (1 : Int)) = some ((1 : Nat) : Int) from rfl, HT.sIx_nat]
    simp
  have e2 : HT.sIx (x :: xs).length (x :: xs).length none = (x :: xs).length := rfl
  rw [e1, e2]
  simp
/-! ## lists of lists of ints, each a tracked list -/
inductive LLs (H : Hp) : List V → List (List Int) → Prop
  | nil : LLs H [] []
  | cons {q : Addr} {l : List Int} {vs : List V} {ls : List (List Int)} (h : H q = some (.lst (l.map V.int))) (t : LLs H vs ls) : LLs H (.ref q :: vs) (l :: ls)
def dI (l : List Int) : PyData := .list (l.map .int)
def dL (ls : List (List Int)) : PyData := .list (ls.map dI)
section
variable {K : PySem.W.Frag} {H H' : Hp}
theorem lls_ex (e : Ex H H') : ∀ {vs : List V} {ls : List (List Int)}, LLs H vs ls → LLs H' vs ls
  | _, _, .nil => .nil
  | _, _, .cons h t => .cons (e _ _ h) (lls_ex e t)
theorem lls_put {d : Addr} {o : HO} : ∀ {vs : List V} {ls : List (List Int)}, LLs H vs ls → V.ref d ∉ vs → LLs (upd H d o) vs ls
  | _, _, .nil, _ => .nil
  | _, _, .cons h t, n => .cons (by rw [upd_ne (fun z => n (by rw [z]; exact List.mem_cons_self))]; exact h) (lls_put t fun z => n (List.mem_cons_of_mem _ z))
theorem lls_old {d : Addr} (hd : H d = none) : ∀ {vs : List V} {ls : List (List Int)}, LLs H vs ls → V.ref d ∉ vs
  | _, _, .nil => List.not_mem_nil
  | _, _, .cons h t => fun z => by
    rcases List.mem_cons.mp z with z | z
    · cases z
      rw [hd] at h
      cases h
    · exact lls_old hd t z
theorem lls_mu {F : List Addr} (m : Mu F H H') : ∀ {vs : List V} {ls : List (List Int)}, LLs H vs ls → (∀ q ∈ F, V.ref q ∉ vs) → LLs H' vs ls
  | _, _, .nil, _ => .nil
  | _, _, .cons h t, n => .cons (m _ _ h fun z => n _ z List.mem_cons_self) (lls_mu m t fun q hq z => n q hq (List.mem_cons_of_mem _ z))
theorem lls_app : ∀ {vs ws : List V} {ls ms : List (List Int)}, LLs H vs ls → LLs H ws ms → LLs H (vs ++ ws) (ls ++ ms)
  | _, _, _, _, .nil, h => h
  | _, _, _, _, .cons h t, h2 => .cons h (lls_app t h2)
theorem lls_len : ∀ {vs : List V} {ls : List (List Int)}, LLs H vs ls → vs.length = ls.length
  | _, _, .nil => rfl
  | _, _, .cons _ t => by rw [List.length_cons, List.length_cons, lls_len t]
theorem lls_drop : ∀ {vs : List V} {ls : List (List Int)} (n : Nat), LLs H vs ls → LLs H (vs.drop n) (ls.drop n)
  | _, _, 0, h => h
  | _, _, _ + 1, .nil => .nil
  | _, _, n + 1, .cons _ t => lls_drop n t
theorem lls_get : ∀ {vs : List V} {ls : List (List Int)} {i : Nat} {v : V}, LLs H vs ls → vs[i]? = some v → ∃ q l, v = .ref q ∧ ls[i]? = some l ∧ H q = some (.lst (l.map V.int))
  | _, _, _, _, .nil, h => by simp at h
  | _, _, 0, v, .cons (q := q) (l := l) h t, e => by
    have : V.ref q = v := by simpa using e
    exact ⟨q, l, this.symm, rfl, h⟩
  | _, _, i + 1, v, .cons h t, e => by
    obtain ⟨q, l, a, b, c⟩ := lls_get (i := i) t (by simpa using e)
    exact ⟨q, l, a, by simpa using b, c⟩
theorem ints_dp : ∀ l : List Int, DpAll K H (l.map V.int) (l.map .int)
  | [] => .nil
  | i :: l => .cons (.int i) (ints_dp l)
theorem lls_dp : ∀ {vs : List V} {ls : List (List Int)}, LLs H vs ls → DpAll K H vs (ls.map dI)
  | _, _, .nil => .nil
  | _, _, .cons h t => .cons (.lst (sq_of h) (ints_dp _)) (lls_dp t)
end
/-- sorted(x), x a list of such lists -/
def rSortLL : List V → Hp → VK → Prop := fun xs H Q => ∃ (a : Addr) (vs : List V) (ls : List (List Int)), xs = [.ref a] ∧ H a = some (.lst vs) ∧ LLs H vs ls ∧ ls.length ≤ 100000 ∧
  ∀ (vs' : List V) (ls' : List (List Int)) (p : Addr), ls'.Perm ls → ls'.Pairwise (· ≤ ·) → LLs H vs' ls' → H p = none → Q (.ref p) (upd H p (.lst vs'))
theorem zip_fst : ∀ {vs : List V} {ls : List (List Int)}, vs.length = ls.length → (vs.zip ls).map (·.1) = vs
  | [], [], _ => rfl
  | v :: vs, l :: ls, h => by rw [List.zip_cons_cons, List.map_cons, zip_fst (by simpa using h)]
theorem zip_snd : ∀ {vs : List V} {ls : List (List Int)}, vs.length = ls.length → (vs.zip ls).map (·.2) = ls
  | [], [], _ => rfl
  | v :: vs, l :: ls, h => by rw [List.zip_cons_cons, List.map_cons, zip_snd (by simpa using h)]
theorem call_sortLL {X : Cx} {c : Bool} {k : Nat} (hr : Rm c k X.A) : CallR X (.builtin "sorted") rSortLL := by
  intro pins s σ H xs us Q I r h
  obtain ⟨a, vs, ls, rfl, ha, hl, hz, q⟩ := h
  obtain ⟨its, rv, hil, _⟩ := I.list (sq_of ha)
  rw [Vals.ref1 r]
  have lv := lls_len hl
  -- the items with their lists
  have each : ∀ {ws : List V} {ms : List (List Int)} {us : List Value}, LLs H ws ms → Vals ws us →
      PySem.W.EachIs (fun (u : Value) (b : V × List Int) => RelV b.1 u ∧ ∃ q, b.1 = .ref q ∧ H q = some (.lst (b.2.map V.int))) us (ws.zip ms) := by
    intro ws ms us h1
    induction h1 generalizing us with
    | nil => intro h2; cases h2; exact .nil
    | cons h t ih => intro h2; cases h2 with | cons r1 r2 => exact .cons ⟨r1, _, rfl, h⟩ (ih r2)
  have reads : ∀ {u : Value} {b : V × List Int}, (RelV b.1 u ∧ ∃ q, b.1 = .ref q ∧ H q = some (.lst (b.2.map V.int))) → ∃ as, Reads s.heap u (dI b.2) as := by
    rintro u ⟨v, l⟩ ⟨r, q, e, hq⟩
    exact Dp.reads I (dI l) v u (by rw [show v = V.ref q from e]; exact .lst (sq_of hq) (ints_dp l)) r
  have e1 := each hl rv
  have hdep : ∀ l : List Int, (dI l).depth = 1 := fun l => by unfold dI; rw [PyData.depth, PySem.W.depth_ints]
  refine PySem.W.sorted_data (β := V × List Int) (enc := fun b => dI b.2) (R := fun u b => RelV b.1 u ∧ ∃ q, b.1 = .ref q ∧ H q = some (.lst (b.2.map V.int))) (vs := its) (bs := vs.zip ls) hil.isList e1 (e1.mono fun _ _ z => reads z)
    (PySem.W.AllAlike.of fun b b' => by unfold dI; simp only [PySem.W.alike]; exact PySem.W.alike_ints _ _) (PySem.W.Sortable.others fun b => ⟨by unfold dI; simp, by unfold dI; simp⟩) ?_ (fun b _ => ?_) fun out hlen eo => ?_
  · rw [List.length_zip, lv, Nat.min_self]
    exact sz_of hz
  · rw [hdep]
    have := hr.un
    omega
  · obtain ⟨ep, he'⟩ := PyProof.Rows.sortedAll_at s.heap its out.toArray
    have le_eq : PySem.W.dataLe false (fun b : V × List Int => dI b.2) = fun p q => decide (p.2 ≤ q.2) := PySem.W.dataLe_rows (fun b : V × List Int => b.2)
    rw [le_eq] at eo
    have pm := List.mergeSort_perm (vs.zip ls) (fun p q => decide (p.2 ≤ q.2))
    have sr := List.pairwise_mergeSort (le := fun p q : V × List Int => decide (p.2 ≤ q.2)) (fun a b c h1 h2 => decide_eq_true (List.le_trans (of_decide_eq_true h1) (of_decide_eq_true h2)))
      (fun a b => by rcases List.le_total a.2 b.2 with z | z <;> simp [z]) (vs.zip ls)
    generalize hg : List.mergeSort (vs.zip ls) (fun p q => decide (p.2 ≤ q.2)) = bs' at eo pm sr
    have back : ∀ {us : List Value} {bs : List (V × List Int)}, PySem.W.EachIs (fun (u : Value) (b : V × List Int) => RelV b.1 u ∧ ∃ q, b.1 = .ref q ∧ H q = some (.lst (b.2.map V.int))) us bs → Vals (bs.map (·.1)) us ∧ LLs H (bs.map (·.1)) (bs.map (·.2)) := by
      intro us bs h
      induction h with
      | nil => exact ⟨.nil, .nil⟩
      | @cons u b us bs h t ih =>
        obtain ⟨r, q, e, hq⟩ := h
        obtain ⟨v, l⟩ := b
        have e : v = .ref q := e
        subst e
        exact ⟨.cons r ih.1, .cons hq ih.2⟩
    obtain ⟨w1, w2⟩ := back eo
    have hlen2 : (bs'.map (·.1)).length ≤ sizeLine := by
      rw [List.length_map, pm.length_eq, List.length_zip, lv, Nat.min_self]
      exact sz_of hz
    refine ⟨.ref (s.heap.objs.size + 1), upd H (s.heap.objs.size + 1) (.lst (bs'.map (·.1))), I.laid (t' := s.toks) (fun _ _ => PyProof.Rows.sortedAll_old) (Nat.le_succ _) ⟨hlen2, out, ep, w1, he'⟩, rfl, q _ (bs'.map (·.2)) _ ?_ ?_ w2 (I.hok.fresh (Nat.le_succ _))⟩
    · have := pm.map (·.2)
      rw [zip_snd lv] at this
      exact this
    · rw [List.pairwise_map]
      exact sr.imp fun z => of_decide_eq_true z
end GL

namespace GL
open PySem PySem.Spec PyProof.Rows L2 Evl
section
variable {K : PySem.W.Frag} {σ : L2.St} {H : Hp} {D : Ends} {Q : VK}
theorem rd_lc {wi : TI} {g : TG} {tt : TT} {te : TE} {vs : List Nat} (h : wi σ H fun J H1 => ∀ D, H1 D = none → ∃ W : Nat → Nat → Hp → Prop, (∃ m, W 0 m (upd H1 D (.lst []))) ∧ ∀ i m H, W i m H →
  (J.stop i H ∧ Q (.ref D) H) ∨ (J.go i H ∧ ∃ Nx : Hp → Prop, (∀ H', Nx H' → ∃ m', m' < m ∧ W (i + 1) m' H') ∧ ∀ x H', J.yld i H x H' → g x (wipe σ vs) H' fun σ2 H2 => wipe σ2 vs = wipe σ vs ∧ tt σ2 H2 fun b H3 =>
    if b = true then te σ2 H3 fun y H4 => ∃ acc, H4 D = some (.lst acc) ∧ acc.length < sizeLine ∧ Nx (upd H4 D (.lst (acc ++ [y]))) else Nx H3)) : tLc wi g tt te vs σ H Q := h
theorem rd_make {C : Addr} {sp : Sp} {W : WX} {t : TA} (h : t σ H fun vs H1 => ∀ x dx, H1 x = none → H1 dx = none → dx ≠ x → sp (.ref x :: vs) (upd (upd H1 dx (.own x)) x (.ins C dx [])) (fun v H2 => v = .non ∧ Q (.ref x) H2) fun cls d H' => W cls d σ H') : cMake C sp W t σ H Q := h
theorem rd_yes {B : Bool → Hp → Prop} (h : B true H) : tYes σ H B := h
theorem rd_revR {tr : L2.St → Hp → (Int → Int → Hp → Prop) → Prop} {R : It → Hp → Prop} (h : tr σ H fun a b H1 => -(2 ^ 62) ≤ a ∧ a < 2 ^ 62 ∧ -(2 ^ 62) ≤ b ∧ b < 2 ^ 62 ∧ R (Itc (a + (((b - a).toNat : Nat) : Int) - 1) (-1) (b - a).toNat) H1) : iRevR tr σ H R := h
theorem rd_rg1 {ta : TE} {R : Int → Int → Hp → Prop} (h : ta σ H fun x H1 => ∃ i, x = .int i ∧ R 0 i H1) : tRg1 ta σ H R := h
end
def spDiskOf (K : PySem.W.Frag) (C : Addr) : Sp := fun vs H Q _ => ∃ (p : Addr) (xs : List V) (ds : List PyData), vs = [.ref p] ∧ SqL K H p xs ∧ DpAll K H xs ds ∧ 1 ≤ ds.length ∧ ds.length ≤ 128 ∧ valOkAll 8 ds = true ∧
  ∀ a F H', Ex H H' → (∀ b ∈ F, H b = none) → a ∈ F → DiskAt K H' C a F (DS.new ds) → Q (.ref a) H'
/-- which choice is refused: the index of the first that is none -/
def chk (n : Nat) : List PyData → Int → Nat → Option Nat
  | [], _, _ => none
  | d :: ds, l, at_ => if betw d l ((n : Int) - 1) = true then chk n ds (intOf d + 1) (at_ + 1) else some at_
def spCheckC (K : PySem.W.Frag) (C : Addr) : Sp := fun vs H Q E => ∃ (a : Addr) (F : List Addr) (D : DS) (v : V) (d : PyData), vs = [.ref a, v] ∧ DiskAt K H C a F D ∧ Dq K H v d ∧ D.w.length ≤ 50000 ∧
  (∀ ds, d = .list ds → chk D.w.length ds 0 0 = none → ∀ H', Ex H H' → Q .non H') ∧
  (isLs d = false → badC K "BadChoice" "at" .non H E) ∧
  (∀ ds k, d = .list ds → chk D.w.length ds 0 0 = some k → badC K "BadChoice" "at" (.int (k : Nat)) H E)
def putW (acc : List PyData) (x : PyData) : List PyData := match x with
  | .tuple [.int b, v] => acc.set b.toNat v
  | _ => acc
def DS.cr (D : DS) (ks : List PyData) : List PyData := ks.foldl (fun acc k => match D.w[(intOf k).toNat]? with | some x => putW acc x | none => acc) D.s
def spCrash (K : PySem.W.Frag) (C : Addr) : Sp := fun vs H Q E => ∃ (a : Addr) (F : List Addr) (D : DS) (v : V) (d : PyData), vs = [.ref a, v] ∧ DiskAt K H C a F D ∧ Dq K H v d ∧ D.w.length ≤ 50000 ∧
  (∀ ds, d = .list ds → chk D.w.length ds 0 0 = none → ∀ a' F' H', Ex H H' → (∀ b ∈ F', H b = none) → DiskAt K H' C a' F' (DS.new (D.cr ds)) → Q (.ref a') H') ∧
  (isLs d = false → badC K "BadChoice" "at" .non H E) ∧
  (∀ ds k, d = .list ds → chk D.w.length ds 0 0 = some k → badC K "BadChoice" "at" (.int (k : Nat)) H E)
def spChoices (K : PySem.W.Frag) (C : Addr) : Sp := fun vs H Q E => ∃ (a : Addr) (F : List Addr) (D : DS), vs = [.ref a] ∧ DiskAt K H C a F D ∧ D.w.length ≤ 50000 ∧
  (D.w.length ≤ 10 → ∀ p q qs H', Ex H H' → H p = none → (∀ r, V.ref r ∈ V.ref q :: qs → H r = none) → H' p = some (.lst (.ref q :: qs)) → LLs H' (.ref q :: qs) (chU D.w.length D.w.length) → Q (.ref p) H') ∧
  (10 < D.w.length → badC K "TooMany" "limit" (.int 10) H E)
end GL
namespace GL
theorem chk_get {n : Nat} : ∀ {ds : List PySem.PyData} {l : Int} {a i : Nat} {d : PySem.PyData}, 0 ≤ l → chk n ds l a = none → ds[i]? = some d → ∃ j, d = .int j ∧ 0 ≤ j ∧ j < n
  | [], _, _, _, _, _, _, h => by simp at h
  | e :: ds, l, a, i, d, hl, hc, h => by
    unfold chk at hc
    split at hc
    · rename_i hb
      obtain ⟨j, rfl, h1, h2⟩ := betw_of hb
      cases i with
      | zero =>
        have : d = .int j := by simpa using h.symm
        exact ⟨j, this, by omega, by omega⟩
      | succ i => exact chk_get (ds := ds) (i := i) (l := intOf (.int j) + 1) (show 0 ≤ j + 1 by omega) hc (by simpa using h)
    · cases hc
theorem chk_at {n : Nat} {ds : List PySem.PyData} {i : Nat} {d : PySem.PyData} (hc : chk n ds 0 0 = none) (h : ds[i]? = some d) : ∃ j, d = .int j ∧ 0 ≤ j ∧ j < n := chk_get (Int.le_refl 0) hc h
end GL

namespace GL
open PySem PySem.Spec PyProof.Rows L2 Evl

/-! ## a law's own small defs -/
def spLCell (K : PySem.W.Frag) : Sp := fun vs H Q _ => ∃ (a : Addr) (k : Int) (ns : List Int), vs = [.ref a, .int k] ∧ SqL K H a (ns.map V.int) ∧ 0 ≤ k ∧ ∀ i : Int, Q (.int i) H
def spWell : Sp := fun vs H Q _ => ∃ c : Int, vs = [.int c] ∧ ∀ (p : Addr) (x : Int) (H' : Hp), H p = none → Ex H H' → H' p = some (.lst [.int x, .int c, .int 0]) → Q (.ref p) H'
def spDraw : Sp := fun vs H Q _ => ∃ (p : Addr) (m x c n : Int), vs = [.ref p, .int m] ∧ H p = some (.lst [.int x, .int c, .int n]) ∧ 1 ≤ m ∧ m ≤ 1000000000000 ∧ 0 ≤ n ∧ n ≤ 100000 ∧
  ∀ r x' n' : Int, 0 ≤ r → r < m → n ≤ n' → n' ≤ n + 1 → Q (.int r) (upd H p (.lst [.int x', .int c, .int n']))
theorem div_ok {i m : Int} (h0 : 0 < m) (h1 : m ≤ 1000000000000) : CDivW i m := by
  refine ⟨h0, ?_⟩
  have h2 : m.natAbs ≠ 0 := by omega
  have h3 : m.natAbs.log2 < 40 := (Nat.log2_lt h2).mpr (show m.natAbs < 2 ^ 40 by omega)
  omega
def spAll : Sp := fun vs H Q _ => ∃ m : Nat, vs = [.int (m : Int)] ∧ m ≤ 11 ∧ ∀ p ws H', Ex H H' → H p = none → H' p = some (.lst ws) → LLs H' ws (chU m m) → Q (.ref p) H'
/-- an error that is held: its class, its fields -/
structure Err (K : PySem.W.Frag) (errs : List (Str × List Str)) (H : Hp) (a : Addr) (x : Str) (fs : List (Str × V)) : Prop where
  ex : ∃ (o : Obj) (d : Addr), H a = some (FX o a) ∧ Zc (.ref (He.ga K x)) (some d) o ∧ (∃ vs, o.data = .fields vs) ∧ H d = some (.xd fs)
  ec : ErrC K "LogError" errs x
  wy : ∃ t, fs.lookup ("why" : Str) = some (.str t)
def spClasses (K : PySem.W.Frag) (errs : List (Str × List Str)) (names : List Str) : Sp := fun vs H Q _ => ∃ (a : Addr) (x : Str) (fs : List (Str × V)), vs = [.ref a] ∧ Err K errs H a x fs ∧ x ∈ names ∧ ∀ H', Ex H H' → Q (.int 1) H'
theorem Err.exd {K : PySem.W.Frag} {errs : List (Str × List Str)} {H H' : Hp} {a : Addr} {x : Str} {fs : List (Str × V)} (h : Err K errs H a x fs) (e : Ex H H') : Err K errs H' a x fs := by
  obtain ⟨⟨o, d, h1, h2, h3, h4⟩, h5, h6⟩ := h
  exact ⟨⟨o, d, e _ _ h1, h2, h3, e _ _ h4⟩, h5, h6⟩
/-- isinstance(e, D) of such an error, D an error class -/
theorem Err.isi {K : PySem.W.Frag} {errs : List (Str × List Str)} {H : Hp} {a : Addr} {x y : Str} {fs : List (Str × V)} {Q : VK} {q : Str × List Str} (h : Err K errs H a x fs) (hq : q ∈ errs) (hy : q.1 = y) (k : Q (.bl (decide (x = y))) H) : rIsF K [.ref a, .ref (He.ga K y)] H Q := by
  obtain ⟨⟨o, d, h1, h2, h3, h4⟩, h5, h6⟩ := h
  subst hy
  exact ⟨a, _, _, d, o, fs, _, rfl, h1, h2, h3, h4, h5.xc, h5.kit q hq, k⟩
/-- .. the base -/
theorem Err.isb {K : PySem.W.Frag} {errs : List (Str × List Str)} {H : Hp} {a : Addr} {x : Str} {fs : List (Str × V)} {Q : VK} (h : Err K errs H a x fs) (k : Q (.bl true) H) : rIsF K [.ref a, .ref (He.ga K "LogError")] H Q := by
  obtain ⟨⟨o, d, h1, h2, h3, h4⟩, h5, h6⟩ := h
  exact ⟨a, _, _, d, o, fs, _, rfl, h1, h2, h3, h4, h5.xc, h5.kb, k⟩
/-- e.why -/
theorem Err.fwhy {K : PySem.W.Frag} {errs : List (Str × List Str)} {H : Hp} {a : Addr} {x : Str} {fs : List (Str × V)} {Q : VK} (h : Err K errs H a x fs) (k : ∀ t : Str, Q (.str t) H) :
    ∃ (a' C d : Addr) (o : Obj) (fs' : List (Str × V)) (v : V), V.ref a = .ref a' ∧ H a' = some (FX o a') ∧ Zc (.ref C) (some d) o ∧ (∃ vs, o.data = .fields vs) ∧ XC K C ∧
      PySem.W.findIn K (.ref C) "why" = some none ∧ H d = some (.xd fs') ∧ fs'.lookup ("why" : Str) = some v ∧ Q v H := by
  obtain ⟨⟨o, d, h1, h2, h3, h4⟩, h5, t, h6⟩ := h
  exact ⟨a, _, d, o, fs, .str t, rfl, h1, h2, h3, h5.xc, h5.why, h4, h6, k t⟩
theorem ex_del {H H2 : Hp} {a : Addr} {o : HO} (hn : H a = none) (e : Ex (upd H a o) H2) : Ex H (del H2 a) := fun b u h => by
  have hb : b ≠ a := ne_of_none h hn
  rw [del_ne hb]
  exact e b u (by rw [upd_ne hb]; exact h)
section
variable {K : PySem.W.Frag} {σ : L2.St} {H : Hp} {D : Ends} {Q : VK}
theorem rd_fxf {te : TE} {n : Str} (h : te σ H fun x H1 => ∃ (a C d : Addr) (o : Obj) (fs : List (Str × V)) (v : V), x = .ref a ∧ H1 a = some (FX o a) ∧ Zc (.ref C) (some d) o ∧ (∃ vs, o.data = .fields vs) ∧ XC K C ∧
  PySem.W.findIn K (.ref C) n = some none ∧ H1 d = some (.xd fs) ∧ fs.lookup n = some v ∧ Q v H1) : tXfF K te n σ H Q := h
theorem rd_fxp {a : Addr} {cls : Value} {d : Option Addr} {te : TE} {n : Str} (h : te σ H fun x H1 => x = .ref a ∧ ∃ (C dd : Addr) (fs : List (Str × V)) (v : V), cls = .ref C ∧ d = some dd ∧ XC K C ∧
  PySem.W.findIn K (.ref C) n = some none ∧ H1 dd = some (.xd fs) ∧ fs.lookup n = some v ∧ Q v H1) : tXfP K a cls d te n σ H Q := h
theorem rd_callE {a : Addr} {cls : Value} {d : Option Addr} {sp : Sp} {t : TA} (h : t σ H fun vs H1 => ∀ o : Obj, Zc cls d o → (∃ vs, o.data = .fields vs) → H1 a = none → sp vs (upd H1 a (FX o a)) (fun v H2 => Q v (del H2 a)) E0) : cCallE a cls d sp t σ H Q := h
theorem rd_catN {l b : Addr} {xs zs : List V} (h1 : H l = some (.lst xs)) (h2 : H b = some (.lst zs)) (hz : xs.length + zs.length ≤ 100000) (h : ∀ p H2, H p = none → Ex H H2 → H2 p = some (.lst (xs ++ zs)) → Q (.ref p) H2) : rCat (.ref l) (.ref b) H Q :=
  rd_cat h1 h2 hz fun p np => h p _ np (Ex.new np) upd_same
theorem rd_sllN {a : Addr} {xs : List V} {lo hi : Option Int} (h1 : SqL K H a xs) (h : ∀ p H2, H p = none → Ex H H2 → H2 p = some (.lst (cutV xs lo hi)) → Q (.ref p) H2) : rSlL K (.ref a) lo hi H Q :=
  rd_sll h1 fun p np => h p _ np (Ex.new np) upd_same
theorem rd_int1b {b : Bool} (h : Q (.int (if b then 1 else 0)) H) : (∃ i, [V.bl b] = [.int i] ∧ Q (.int i) H) ∨ ∃ k, [V.bl b] = [.bl k] ∧ Q (.int (if k then 1 else 0)) H := .inr ⟨b, rfl, h⟩
end
end GL
namespace GL
open PySem PySem.Spec PyProof.Rows L2 Evl
def spTold (K : PySem.W.Frag) (C : Addr) : Sp := fun vs H Q E => ∃ (a : Addr) (F : List Addr) (D : DS), vs = [.ref a] ∧ DiskAt K H C a F D ∧ D.w.length ≤ 50000 ∧
  (D.w.length ≤ 10 → ∀ p q qs H', Ex H H' → H p = none → (∀ r, V.ref r ∈ V.ref q :: qs → H r = none) → H' p = some (.lst (.ref q :: qs)) → LLs H' (.ref q :: qs) (chU D.w.length D.w.length) → Q (.ref p) H') ∧
  (10 < D.w.length → ∀ p H', Ex H H' → H p = none → H' p = some (.lst [.bl true, .int 10]) → Q (.ref p) H')
end GL

namespace GL
open PySem PySem.Spec PyProof.Rows L2 Evl
/-! ## new objects: the heap behind is any one that has grown by them -/
def tTupN (t : TA) : TE := fun σ H Q => t σ H fun xs H1 => xs.length ≤ 100000 ∧ ∀ p H2, H1 p = none → Ex H1 H2 → H2 p = some (.tup xs) → Q (.ref p) H2
def tLstN (t : TA) : TE := fun σ H Q => t σ H fun xs H1 => xs.length ≤ 100000 ∧ ∀ p H2, H1 p = none → Ex H1 H2 → H2 p = some (.lst xs) → Q (.ref p) H2
section
variable {X : Cx} {es : List Expr} {t : TA} {pos : Pos}
theorem pe_tupN {x1} (h : PA X es t) : PE X (.Tuple es x1 pos) (tTupN t) := by
  refine ⟨fun pins s σ H Q I hq => ?_⟩
  refine wpAny_Tuple_spliced (thn (h.run pos pins s σ H _ I hq) fun us s1 ⟨xs, H1, I1, r, z, q⟩ => ⟨by rw [← r.length]; exact sz_of z, ?_⟩)
  have hf : H1 s1.heap.objs.size = none := I1.hok.fresh (Nat.le_refl _)
  refine ⟨.ref s1.heap.objs.size, upd H1 s1.heap.objs.size (.tup xs), I1.laid (t' := s1.toks) (fun b u e => Heap.get?_push_of_some _ e) (Nat.le_refl _) ?_, rfl, q _ _ hf (Ex.new hf) upd_same⟩
  exact ⟨sz_of z, us, r, ⟨_, Heap.get?_push_size _ rfl, rfl, _, rfl⟩⟩
theorem pe_lstN (h : PA X es t) : PE X (.List es pos) (tLstN t) := by
  refine ⟨fun pins s σ H Q I hq => ?_⟩
  refine wpAny_List_spliced (thn (h.run pos pins s σ H _ I hq) fun us s1 ⟨xs, H1, I1, r, z, q⟩ => ⟨by rw [← r.length]; exact sz_of z, ?_⟩)
  have hf : H1 s1.heap.objs.size = none := I1.hok.fresh (Nat.le_refl _)
  refine ⟨.ref s1.heap.objs.size, upd H1 s1.heap.objs.size (.lst xs), I1.laid (t' := s1.toks) (fun b u e => Heap.get?_push_of_some _ e) (Nat.le_refl _) ?_, rfl, q _ _ hf (Ex.new hf) upd_same⟩
  exact ⟨sz_of z, us, 0, r, Heap.get?_push_size _ rfl⟩
def rCatN : R2 := fun x y H Q => ∃ l b xs zs, x = .ref l ∧ y = .ref b ∧ H l = some (.lst xs) ∧ H b = some (.lst zs) ∧ xs.length + zs.length ≤ 100000 ∧ ∀ p H2, H p = none → Ex H H2 → H2 p = some (.lst (xs ++ zs)) → Q (.ref p) H2
theorem op_catN : OpR X (binaryOp .Add) rCatN := by
  intro pins s σ H x y v u Q I rx ry h
  obtain ⟨l, b, xs, zs, e1, e2, h1, h2, hz, q⟩ := h
  exact op_cat pins s σ H x y v u Q I rx ry ⟨l, b, xs, zs, e1, e2, h1, h2, sz_of hz, fun p np => q p _ np (Ex.new np) upd_same⟩
def rSlLN (K : PySem.W.Frag) : V → Option Int → Option Int → Hp → VK → Prop := fun x lo hi H Q => ∃ a xs, x = .ref a ∧ SqL K H a xs ∧ ∀ p H2, H p = none → Ex H H2 → H2 p = some (.lst (cutV xs lo hi)) → Q (.ref p) H2
theorem sl_listN : SlR X (rSlLN X.K) := by
  intro pins s σ H x v vl vu lo hi sl Q I rx hs pl pu h
  obtain ⟨a, xs, e1, hx, q⟩ := h
  exact sl_list pins s σ H x v vl vu lo hi sl Q I rx hs pl pu ⟨a, xs, e1, hx, fun p np => q p _ np (Ex.new np) upd_same⟩
def rListN (K : PySem.W.Frag) : List V → Hp → VK → Prop := fun xs H Q => ∃ p ys, xs = [.ref p] ∧ (SqL K H p ys ∨ SqT K H p ys) ∧ ∀ l H2, H l = none → Ex H H2 → H2 l = some (.lst ys) → Q (.ref l) H2
theorem call_listN : CallR X (.type "list") (rListN X.K) := by
  intro pins s σ H xs us Q I r h
  obtain ⟨p, ys, e1, hq, q⟩ := h
  exact call_list_of pins s σ H xs us Q I r ⟨p, ys, e1, hq, fun l nl => q l _ nl (Ex.new nl) upd_same⟩
end
section
variable {K : PySem.W.Frag} {σ : L2.St} {H : Hp} {D : Ends} {Q : VK}
theorem rd_tupN {t : TA} (h : t σ H fun xs H1 => xs.length ≤ 100000 ∧ ∀ p H2, H1 p = none → Ex H1 H2 → H2 p = some (.tup xs) → Q (.ref p) H2) : tTupN t σ H Q := h
theorem rd_lstN {t : TA} (h : t σ H fun xs H1 => xs.length ≤ 100000 ∧ ∀ p H2, H1 p = none → Ex H1 H2 → H2 p = some (.lst xs) → Q (.ref p) H2) : tLstN t σ H Q := h
theorem rdn_cat {l b : Addr} {xs zs : List V} (h1 : H l = some (.lst xs)) (h2 : H b = some (.lst zs)) (hz : xs.length + zs.length ≤ 100000) (h : ∀ p H2, H p = none → Ex H H2 → H2 p = some (.lst (xs ++ zs)) → Q (.ref p) H2) : rCatN (.ref l) (.ref b) H Q :=
  ⟨l, b, xs, zs, rfl, rfl, h1, h2, hz, h⟩
theorem rdn_sl {a : Addr} {xs : List V} {lo hi : Option Int} (h1 : SqL K H a xs) (h : ∀ p H2, H p = none → Ex H H2 → H2 p = some (.lst (cutV xs lo hi)) → Q (.ref p) H2) : rSlLN K (.ref a) lo hi H Q := ⟨a, xs, rfl, h1, h⟩
theorem rdn_list {p : Addr} {ys : List V} (hs : SqL K H p ys) (h : ∀ l H2, H l = none → Ex H H2 → H2 l = some (.lst ys) → Q (.ref l) H2) : rListN K [.ref p] H Q := ⟨p, ys, rfl, .inl hs, h⟩
end
end GL
namespace GL
open PySem PySem.Spec PyProof.Rows L2 Evl
/-! ## two ways that meet again -/
def tSeqK (t u : TS) : TS := tSeq t u
theorem pss_consK {X : Cx} {st : Stmt} {rest : List Stmt} {t u : TS} (h1 : PS X st t) (h2 : PSs X rest u) : PSs X (st :: rest) (tSeqK t u) := pss_cons h1 h2
/-- a place where the reading stops -/
def hold (f : L2.St → Hp → Prop) : L2.St → Hp → Prop := f
/-- what holds where they meet, said ahead -/
theorem rd_join {t u : TS} {D : Ends} {σ : L2.St} {H : Hp} (I : L2.St → Hp → Prop) (k : ∀ σ' H', I σ' H' → u D σ' H') (h : (∀ σ' H', I σ' H' → hold (u D) σ' H') → t { D with nx := hold (u D) } σ H) : tSeqK t u D σ H := h k
theorem rd_plain {t u : TS} {D : Ends} {σ : L2.St} {H : Hp} (h : t { D with nx := u D } σ H) : tSeqK t u D σ H := h
end GL
namespace GL
open PySem PySem.Spec PyProof.Rows L2 Evl
theorem rd_nx {a b d : L2.St → Hp → Prop} {r : VK} {σ : L2.St} {H : Hp} (h : a σ H) : Ends.nx { nx := a, rt := r, bk := b, ct := d } σ H := h
theorem rd_rt {a b d : L2.St → Hp → Prop} {r : VK} {v : V} {H : Hp} (h : r v H) : Ends.rt { nx := a, rt := r, bk := b, ct := d } v H := h
end GL

namespace GL
open PySem PySem.Spec PyProof.Rows L2 Evl

/-! ## data of bounded size: what == and repr ask -/
structure Tm (k w : Nat) (d : PyData) : Prop where
  lay : d.canLay0 = true
  iS : d.intsShort 25 = true
  show_ : d.showable = true
  dep : d.depth ≤ k
  wt : d.weight ≤ w
theorem Tm.mono {k k' w w' : Nat} {d : PyData} (h : Tm k w d) (a : k ≤ k') (b : w ≤ w') : Tm k' w' d := ⟨h.lay, h.iS, h.show_, Nat.le_trans h.dep a, Nat.le_trans h.wt b⟩
theorem shown_int25 {i : Int} (h : i.natAbs < 10 ^ 21) : (PyData.shown (.int i)).length ≤ 25 := by
  have e := int_text_length_le10 (k := 21) (by decide) h
  show (Str.ofString (toString i)).length ≤ 25
  rw [PySem.ofString_length]
  omega
theorem Tm.intB {i : Int} (h : i.natAbs < 10 ^ 21) : Tm 0 80 (.int i) := by
  refine ⟨by simp [PyData.canLay0], ?_, ?_, by simp [PyData.depth], ?_⟩
  · simp only [PyData.intsShort, decide_eq_true_eq]
    exact shown_int25 h
  · simp only [PyData.showable, decide_eq_true_eq]
    by_cases z : i.natAbs = 0
    · rw [z]; decide
    · have := (Nat.log2_lt z).mpr (show i.natAbs < 2 ^ 70 by omega)
      omega
  · simp only [PyData.weight]
    split
    · omega
    · rename_i z
      have z' : i.natAbs ≠ 0 := by
        intro e
        exact z (by rw [beq_iff_eq]; omega)
      have := (Nat.log2_lt z').mpr (show i.natAbs < 2 ^ 70 by omega)
      omega
theorem Tm.int {i : Int} (h : i.natAbs < 1000000) : Tm 0 20 (.int i) := by
  refine ⟨by simp [PyData.canLay0], ?_, ?_, by simp [PyData.depth], ?_⟩
  · simp only [PyData.intsShort, decide_eq_true_eq]
    exact shown_int25 (by omega)
  · simp only [PyData.showable, decide_eq_true_eq]
    by_cases z : i.natAbs = 0
    · rw [z]; decide
    · have := (Nat.log2_lt z).mpr (show i.natAbs < 2 ^ 20 by omega)
      omega
  · simp only [PyData.weight]
    split
    · omega
    · rename_i z
      have z' : i.natAbs ≠ 0 := by
        intro e
        exact z (by rw [beq_iff_eq]; omega)
      have := (Nat.log2_lt z').mpr (show i.natAbs < 2 ^ 20 by omega)
      omega
theorem Tm.bool (b : Bool) : Tm 0 20 (.bool b) := ⟨by simp [PyData.canLay0], by simp [PyData.intsShort], by simp [PyData.showable], by simp [PyData.depth], by simp [PyData.weight]⟩
theorem Tm.none : Tm 0 20 .none := ⟨by simp [PyData.canLay0], by simp [PyData.intsShort], by simp [PyData.showable], by simp [PyData.depth], by simp [PyData.weight]⟩
theorem Tm.str {x : Str} (h : PyData.strOk x = true) {n : Nat} (hl : x.cps.size ≤ n) : Tm 0 n (.str x) := ⟨by simpa [PyData.canLay0] using h, by simp [PyData.intsShort], by simp [PyData.showable], by simp [PyData.depth], by simpa [PyData.weight] using hl⟩
theorem tm_all {k w : Nat} : ∀ {ds : List PyData}, (∀ d ∈ ds, Tm k w d) → PyData.canLayAll0 ds = true ∧ PyData.intsShortAll 25 ds = true ∧ PyData.showableAll ds = true ∧ PyData.depthAll ds ≤ k ∧ PyData.weightAll ds ≤ ds.length * (w + 1)
  | [], _ => ⟨by simp [PyData.canLayAll0], by simp [PyData.intsShortAll], by simp [PyData.showableAll], by simp [PyData.depthAll], by simp [PyData.weightAll]⟩
  | d :: ds, h => by
    obtain ⟨a, b, c, e, f⟩ := tm_all (ds := ds) fun x hx => h x (List.mem_cons_of_mem _ hx)
    have g := h d List.mem_cons_self
    refine ⟨?_, ?_, ?_, ?_, ?_⟩
    · simp only [PyData.canLayAll0, g.lay, a, Bool.and_self]
    · simp only [PyData.intsShortAll, g.iS, b, Bool.and_self]
    · simp only [PyData.showableAll, g.show_, c, Bool.and_self]
    · simp only [PyData.depthAll]
      exact Nat.max_le.mpr ⟨g.dep, e⟩
    · simp only [PyData.weightAll, List.length_cons]
      have := g.wt
      rw [Nat.add_mul]
      omega
theorem Tm.list {k w n : Nat} {ds : List PyData} (h : ∀ d ∈ ds, Tm k w d) (hl : ds.length ≤ n) : Tm (k + 1) (n * (w + 1)) (.list ds) := by
  obtain ⟨a, b, c, e, f⟩ := tm_all h
  refine ⟨by simpa [PyData.canLay0] using a, by simpa [PyData.intsShort] using b, by simpa [PyData.showable] using c, by simp only [PyData.depth]; omega, ?_⟩
  simp only [PyData.weight]
  exact Nat.le_trans f (Nat.mul_le_mul_right _ hl)
theorem Tm.tuple {k w n : Nat} {ds : List PyData} (h : ∀ d ∈ ds, Tm k w d) (hl : ds.length ≤ n) : Tm (k + 1) (n * (w + 1)) (.tuple ds) := by
  obtain ⟨a, b, c, e, f⟩ := tm_all h
  refine ⟨by simpa [PyData.canLay0] using a, by simpa [PyData.intsShort] using b, by simpa [PyData.showable] using c, by simp only [PyData.depth]; omega, ?_⟩
  simp only [PyData.weight]
  exact Nat.le_trans f (Nat.mul_le_mul_right _ hl)
theorem Tm.shaped {k w : Nat} {d : PyData} (h : Tm k w d) (hk : k ≤ 64) : SeqAt.shaped d = true := by
  unfold SeqAt.shaped
  rw [h.lay, Bool.true_and, decide_eq_true_eq]
  exact Nat.le_trans h.dep hk
theorem Tm.fits {k w : Nat} {d : PyData} (h : Tm k w d) (hw : w ≤ 600000) : d.shown.length ≤ sizeLine := by
  have l := PyData.leavesShort_of_canLay0 25 d h.lay h.iS
  have e := PyData.shown_le 25 (by decide) d l
  have b := h.wt
  rw [sizeLine_eq]
  omega
theorem Tm.eqv {k w : Nat} {d : PyData} (h : Tm k w d) : PyData.eqv d d = true := SeqAt.eqv_refl d h.lay
/-- repr(x) of such -/
theorem rd_repr {K : PySem.W.Frag} {H : Hp} {Q : VK} {v : V} {d : PyData} {k w : Nat} (hd : Dp K H v d) (t : Tm k w d) (hk : k ≤ 60) (hw : w ≤ 600000) (q : Q (.str d.shown) H) : rRepr K [v] H Q :=
  ⟨v, d, rfl, .inl hd, t.show_, Nat.le_trans t.dep hk, t.fits hw, q⟩
/-- x != y, x == y of such that are one -/
theorem rd_neSame {K : PySem.W.Frag} {H : Hp} {Q : VK} {x y : V} {d : PyData} {k w : Nat} (hx : Dp K H x d) (hy : Dp K H y d) (t : Tm k w d) (hk : k ≤ 64) (q : Q (.bl false) H) : rNeU K x y H Q := by
  refine .inr ⟨d, d, hx, hy, t.shaped hk, t.shaped hk, ?_⟩
  rw [t.eqv]
  exact q
theorem rd_eqSame {K : PySem.W.Frag} {H : Hp} {Q : VK} {x y : V} {d : PyData} {k w : Nat} (hx : Dp K H x d) (hy : Dp K H y d) (t : Tm k w d) (hk : k ≤ 64) (q : Q (.bl true) H) : rEqU K x y H Q := by
  refine .inr ⟨d, d, hx, hy, t.shaped hk, t.shaped hk, ?_⟩
  rw [t.eqv]
  exact q
theorem tm_dI {l : List Int} {n : Nat} (h : ∀ i ∈ l, i.natAbs < 1000000) (hl : l.length ≤ n) : Tm 1 (n * 21) (dI l) := by
  unfold dI
  refine Tm.list (k := 0) (w := 20) (fun d hd => ?_) (by rw [List.length_map]; exact hl)
  obtain ⟨i, hi, rfl⟩ := List.mem_map.mp hd
  exact Tm.int (h i hi)
theorem chU_small (m : Nat) : ∀ j, j ≤ m → ∀ x ∈ chU m j, ∀ i ∈ x, 0 ≤ i ∧ i < m
  | 0, _ => by intro x hx i hi; rw [List.mem_singleton.mp hx] at hi; exact absurd hi List.not_mem_nil
  | j + 1, hj => by
    intro x hx
    have ih := chU_small m j (by omega)
    have hx : x ∈ [[]] ++ (chU m j).map (((m : Int) - 1 - j) :: ·) ++ (chU m j).tail := hx
    rcases List.mem_append.mp hx with z | z
    · rcases List.mem_append.mp z with z | z
      · rw [List.mem_singleton.mp z]; intro i hi; exact absurd hi List.not_mem_nil
      · obtain ⟨y, hy, rfl⟩ := List.mem_map.mp z
        intro i hi
        rcases List.mem_cons.mp hi with e | e
        · subst e; omega
        · exact ih y hy i e
    · exact ih x (List.mem_of_mem_tail z)
theorem tm_dL {m : Nat} (hm : m ≤ 11) : Tm 2 500000 (dL (chU m m)) := by
  unfold dL
  refine (Tm.list (k := 1) (w := 231) (n := 2048) (fun d hd => ?_) ?_).mono (by omega) (by omega)
  · obtain ⟨l, hl, rfl⟩ := List.mem_map.mp hd
    exact (tm_dI (n := 11) (fun i hi => by have := chU_small m m (Nat.le_refl _) l hl i hi; omega) (Nat.le_trans (chU_in m m l hl) hm)).mono (Nat.le_refl _) (by omega)
  · rw [List.length_map, chU_len]
    exact Nat.pow_le_pow_right (n := 2) (by decide) hm
theorem chk_asc {n : Nat} : ∀ {l : List Int} {lo : Int} {a : Nat}, (∀ i ∈ l, lo ≤ i ∧ i < n) → l.Pairwise (· < ·) → chk n (l.map .int) lo a = none
  | [], _, _, _, _ => rfl
  | i :: l, lo, a, h, p => by
    have hi := h i List.mem_cons_self
    show (if betw (.int i) lo ((n : Int) - 1) = true then chk n (l.map .int) (i + 1) (a + 1) else some a) = none
    rw [if_pos (betw_to hi.1 (by omega))]
    refine chk_asc (fun j hj => ?_) (List.pairwise_cons.mp p).2
    have h1 := (List.pairwise_cons.mp p).1 j hj
    have h2 := h j (List.mem_cons_of_mem _ hj)
    omega
theorem chU_asc (m : Nat) : ∀ j, j ≤ m → ∀ x ∈ chU m j, x.Pairwise (· < ·) ∧ ∀ i ∈ x, (m : Int) - j ≤ i ∧ i < m
  | 0, _ => by intro x hx; rw [List.mem_singleton.mp hx]; exact ⟨List.Pairwise.nil, fun i hi => absurd hi List.not_mem_nil⟩
  | j + 1, hj => by
    intro x hx
    have ih := chU_asc m j (by omega)
    have hx : x ∈ [[]] ++ (chU m j).map (((m : Int) - 1 - j) :: ·) ++ (chU m j).tail := hx
    rcases List.mem_append.mp hx with z | z
    · rcases List.mem_append.mp z with z | z
      · rw [List.mem_singleton.mp z]; exact ⟨List.Pairwise.nil, fun i hi => absurd hi List.not_mem_nil⟩
      · obtain ⟨y, hy, rfl⟩ := List.mem_map.mp z
        obtain ⟨p, q⟩ := ih y hy
        refine ⟨List.pairwise_cons.mpr ⟨fun i hi => by have := q i hi; omega, p⟩, fun i hi => ?_⟩
        rcases List.mem_cons.mp hi with e | e
        · subst e; omega
        · have := q i e; omega
    · obtain ⟨p, q⟩ := ih x (List.mem_of_mem_tail z)
      exact ⟨p, fun i hi => by have := q i hi; omega⟩
theorem chk_chU {m : Nat} {l : List Int} (h : l ∈ chU m m) : chk m (l.map .int) 0 0 = none := by
  obtain ⟨p, q⟩ := chU_asc m m (Nat.le_refl _) l h
  exact chk_asc (fun i hi => by have := q i hi; omega) p

/-! ## a law's state: a well of draws, a disk -/
def Wl (H : Hp) (p : Addr) (n : Int) : Prop := ∃ x c k : Int, H p = some (.lst [.int x, .int c, .int k]) ∧ 0 ≤ k ∧ k ≤ n
theorem Wl.exd {H H' : Hp} {p : Addr} {n : Int} (h : Wl H p n) (e : Ex H H') : Wl H' p n := by
  obtain ⟨x, c, k, h1, h2⟩ := h
  exact ⟨x, c, k, e _ _ h1, h2⟩
theorem Wl.mono {H : Hp} {p : Addr} {n n' : Int} (h : Wl H p n) (z : n ≤ n') : Wl H p n' := by
  obtain ⟨x, c, k, h1, h2, h3⟩ := h
  exact ⟨x, c, k, h1, h2, by omega⟩
theorem Wl.nt {H : Hp} {p : Addr} {n : Int} (h : Wl H p n) : NT [p] H := by
  obtain ⟨x, c, k, h1, h2⟩ := h
  exact nt_lst h1
def spWellN : Sp := fun vs H Q _ => ∃ c : Int, vs = [.int c] ∧ ∀ (p : Addr) (H' : Hp), H p = none → Ex H H' → Wl H' p 0 → Q (.ref p) H'
def spDrawN : Sp := fun vs H Q _ => ∃ (p : Addr) (m n : Int), vs = [.ref p, .int m] ∧ Wl H p n ∧ 1 ≤ m ∧ m ≤ 1000000000000 ∧ n ≤ 100000 ∧
  ∀ (r : Int) (H' : Hp), 0 ≤ r → r < m → Mu [p] H H' → Wl H' p (n + 1) → Q (.int r) H'
theorem wellN {vs : List V} {H : Hp} {Q : VK} {E : XK} (h : spWellN vs H Q E) : spWell vs H Q E := by
  obtain ⟨c, e, k⟩ := h
  exact ⟨c, e, fun p x H' np e1 hp => k p H' np e1 ⟨x, c, 0, hp, Int.le_refl _, Int.le_refl _⟩⟩
theorem drawN {vs : List V} {H : Hp} {Q : VK} {E : XK} (h : spDrawN vs H Q E) : spDraw vs H Q E := by
  obtain ⟨p, m, n, e, ⟨x, c, k0, hp, h1, h2⟩, hm, hm2, hn, k⟩ := h
  exact ⟨p, m, x, c, k0, e, hp, hm, hm2, h1, by omega, fun r x' n' h3 h4 h5 h6 => k r _ h3 h4 ((Mu.refl [p] H).set (List.mem_singleton.mpr rfl) _) ⟨x', c, n', upd_same, by omega, by omega⟩⟩
structure LS (K : PySem.W.Frag) (H0 H : Hp) (C pw a : Addr) (n : Int) (F : List Addr) (D : DS) : Prop where
  ex : Ex H0 H
  wl : Wl H pw n
  wn : pw ∉ F
  w0 : H0 pw = none
  dk : DiskAt K H C a F D
  f0 : ∀ b ∈ F, H0 b = none
section
variable {K : PySem.W.Frag} {H0 H H' : Hp} {C pw a : Addr} {n : Int} {F F' : List Addr} {D D' : DS}
theorem ex_mu {F : List Addr} (e : Ex H0 H) (m : Mu F H H') (f : ∀ b ∈ F, H0 b = none) : Ex H0 H' := fun b o h => m b o (e b o h) fun z => by
  rw [f b z] at h
  cases h
theorem LS.draw (L : LS K H0 H C pw a n F D) (m : Mu [pw] H H') (w : Wl H' pw (n + 1)) : LS K H0 H' C pw a (n + 1) F D :=
  ⟨ex_mu L.ex m fun b hb => by rw [List.mem_singleton.mp hb]; exact L.w0, w, L.wn, L.w0, L.dk.mu m L.wl.nt fun b hb z => L.wn (by rw [← List.mem_singleton.mp z]; exact hb), L.f0⟩
theorem LS.exd (L : LS K H0 H C pw a n F D) (e : Ex H H') : LS K H0 H' C pw a n F D := ⟨L.ex.trans e, L.wl.exd e, L.wn, L.w0, L.dk.exd e, L.f0⟩
theorem LS.step (L : LS K H0 H C pw a n F D) (d : DiskAt K H' C a F' D') (f : Fr F F' H H') : LS K H0 H' C pw a n F' D' := by
  obtain ⟨x, c, k, h1, h2⟩ := L.wl
  have w : Own H F pw (.lst [.int x, .int c, .int k]) := ⟨h1, L.wn⟩
  exact ⟨ex_mu L.ex f.mu L.f0, ⟨x, c, k, (w.step f).at_, h2⟩, (w.step f).no, L.w0, d, fun b hb => (f.sub b hb).elim (L.f0 b) fun z => fresh_back L.ex z⟩
theorem LS.up {n' : Int} (L : LS K H0 H C pw a n F D) (h : n ≤ n') : LS K H0 H C pw a n' F D := ⟨L.ex, L.wl.mono h, L.wn, L.w0, L.dk, L.f0⟩
/-- another object of the law's own is written -/
theorem LS.put {p : Addr} {xs : List V} {o : HO} (L : LS K H0 H C pw a n F D) (hp : H p = some (.lst xs)) (h0 : H0 p = none) (hF : p ∉ F) (hw : p ≠ pw) : LS K H0 (upd H p o) C pw a n F D := by
  refine ⟨L.ex.mut h0, ?_, L.wn, L.w0, L.dk.put ⟨hp, hF⟩, L.f0⟩
  obtain ⟨x, c, k, h1, h2⟩ := L.wl
  exact ⟨x, c, k, by rw [upd_ne hw.symm]; exact h1, h2⟩
theorem LS.notF {p : Addr} (L : LS K H0 H C pw a n F D) (hp : H p = none) : p ∉ F := L.dk.notIn hp
theorem LS.notW {p : Addr} (L : LS K H0 H C pw a n F D) (hp : H p = none) : p ≠ pw := fun z => by
  obtain ⟨x, c, k, h1, h2⟩ := L.wl
  rw [z, h1] at hp
  cases hp
end
/-- all values small -/
structure Sm (D : DS) : Prop where
  w : ∀ x ∈ D.w, Tm 1 100 x
  s : ∀ x ∈ D.s, Tm 0 20 x
  n : ∀ x ∈ D.n, Tm 0 20 x
theorem Sm.wr {D : DS} (h : Sm D) {b : Int} {v : PyData} (hb : b.natAbs < 1000) (hv : Tm 0 20 v) : Sm (D.wr b v) := by
  refine ⟨fun x hx => ?_, h.s, fun x hx => ?_⟩
  · rcases List.mem_append.mp hx with z | z
    · exact h.w x z
    · rw [List.mem_singleton.mp z]
      refine (Tm.tuple (k := 0) (w := 20) (n := 2) (fun d hd => ?_) (by simp)).mono (by omega) (by omega)
      rcases List.mem_cons.mp hd with e | e
      · rw [e]; exact Tm.int (by omega)
      · rw [List.mem_singleton.mp e]; exact hv
  · rcases List.mem_or_eq_of_mem_set hx with z | z
    · exact h.n x z
    · rw [z]; exact hv
theorem Sm.fl {D : DS} (h : Sm D) : Sm D.fl := ⟨fun x hx => absurd hx List.not_mem_nil, h.n, h.n⟩
theorem Sm.new {ds : List PyData} (h : ∀ x ∈ ds, Tm 0 20 x) : Sm (DS.new ds) := ⟨fun x hx => absurd hx List.not_mem_nil, h, h⟩
/-- what the law shows of a disk -/
def seen (D : DS) : PyData := .list [.list D.w, .list D.s]
theorem Sm.seen {D : DS} (h : Sm D) (hw : D.w.length ≤ 1000) (hs : D.s.length ≤ 128) : Tm 3 210000 (GL.seen D) := by
  unfold GL.seen
  refine (Tm.list (k := 2) (w := 101000) (n := 2) (fun d hd => ?_) (by simp)).mono (by omega) (by omega)
  rcases List.mem_cons.mp hd with e | e
  · rw [e]; exact (Tm.list (n := 1000) h.w hw).mono (by omega) (by omega)
  · rw [List.mem_singleton.mp e]; exact (Tm.list (n := 128) h.s hs).mono (by omega) (by omega)
end GL

namespace GL
open PySem PySem.Spec PyProof.Rows L2 Evl
def dnames : List Str := ("_first" : Str) :: ("_settled" : Str) :: ("_newest" : Str) :: ("_waiting" : Str) :: ("_done" : Str) :: []
theorem dfs_no {q1 q2 q3 q4 q5 : Addr} {m : Str} (h : dnames.elem m = false) : (dfs q1 q2 q3 q4 q5).lookup m = none := by
  have h2 : ∀ y ∈ dnames, m ≠ y := fun y hy e => by
    subst e
    rw [List.elem_iff.mpr hy] at h
    cases h
  have n1 := h2 "_first" (List.mem_of_getElem? (i := 0) rfl)
  have n2 := h2 "_settled" (List.mem_of_getElem? (i := 1) rfl)
  have n3 := h2 "_newest" (List.mem_of_getElem? (i := 2) rfl)
  have n4 := h2 "_waiting" (List.mem_of_getElem? (i := 3) rfl)
  have n5 := h2 "_done" (List.mem_of_getElem? (i := 4) rfl)
  unfold dfs
  simp only [List.lookup, beq_eq_false_iff_ne.mpr n1, beq_eq_false_iff_ne.mpr n2, beq_eq_false_iff_ne.mpr n3, beq_eq_false_iff_ne.mpr n4, beq_eq_false_iff_ne.mpr n5]
section
variable {K : PySem.W.Frag} {H0 H H' : Hp} {C pw a : Addr} {n : Int} {F F' : List Addr} {D D' : DS} {Q : VK} {E : XK} {Z : Prop}
theorem DiskAt.self {m : Str} (h : DiskAt K H C a F D) (hm : dnames.elem m = false) (z : Z) : ∃ a' dx fs, V.ref a = .ref a' ∧ H a' = some (.ins C dx fs) ∧ fs.lookup m = none ∧ Z := by
  obtain ⟨⟨dx, p1, p2, p3, p4, p5, x1, x2, x3, x4, x5, hF, O, _⟩, ok⟩ := h
  exact ⟨a, dx, _, rfl, O.get 0, dfs_no hm, z⟩
theorem LS.draws {m : Int} (L : LS K H0 H C pw a n F D) (h1 : 1 ≤ m) (h2 : m ≤ 1000000000000) (h3 : n ≤ 100000) (k : ∀ r H', 0 ≤ r → r < m → LS K H0 H' C pw a (n + 1) F D → Mu [pw] H H' → Q (.int r) H') : spDrawN [.ref pw, .int m] H Q E :=
  ⟨pw, m, n, rfl, L.wl, h1, h2, h3, fun r H' a b mu w => k r H' a b (L.draw mu w) mu⟩
theorem blk_int {D : DS} {b : Int} (h0 : 0 ≤ b) (h1 : b < D.f.length) : blk D (.int b) = true := betw_to h0 (by omega)
theorem LS.write {b : Int} {u : V} {e : PyData} (L : LS K H0 H C pw a n F D) (h0 : 0 ≤ b) (h1 : b < D.f.length) (hu : Dp K H u e) (he : valOk 8 e = true) (hd : D.d.length ≤ 50000)
    (k : ∀ H' F', LS K H0 H' C pw a n F' (D.wr b e) → Fr F F' H H' → Q .non H') : spWrite K C [.ref a, .int b, u] H Q E :=
  ⟨a, F, D, .int b, u, .int b, e, rfl, L.dk, .inl (.int b), .inl hu, hd, fun _ _ H' F' d f => k H' F' (L.step d f) f, fun z => (by rw [blk_int h0 h1] at z; cases z), fun _ z => (by rw [he] at z; cases z)⟩
theorem LS.flush (L : LS K H0 H C pw a n F D) (hd : D.d.length ≤ 50000) (k : ∀ H' F', LS K H0 H' C pw a n F' D.fl → Fr F F' H H' → Q .non H') : spFlush K C [.ref a] H Q E :=
  ⟨a, F, D, rfl, L.dk, hd, fun H' F' d f => k H' F' (L.step d f) f⟩
theorem LS.look {g : DS → List PyData} (L : LS K H0 H C pw a n F D) (k : ∀ p xs H', H p = none → Ex H H' → H' p = some (.lst xs) → DpAll K H' xs (g D) → LS K H0 H' C pw a n F D → Q (.ref p) H') : spLook K C g [.ref a] H Q E :=
  ⟨a, F, D, rfl, L.dk, fun p xs H' np e hp hd => k p xs H' np e hp hd (L.exd e)⟩
theorem LS.told (L : LS K H0 H C pw a n F D) (hd : D.w.length ≤ 50000)
    (k : ∀ p H', Ex H H' → H p = none → LS K H0 H' C pw a n F D → (D.w.length ≤ 10 ∧ ∃ q qs, (∀ r, V.ref r ∈ V.ref q :: qs → H r = none) ∧ H' p = some (.lst (.ref q :: qs)) ∧ LLs H' (.ref q :: qs) (chU D.w.length D.w.length)) ∨ (10 < D.w.length ∧ H' p = some (.lst [.bl true, .int 10])) → Q (.ref p) H') : spTold K C [.ref a] H Q E :=
  ⟨a, F, D, rfl, L.dk, hd, fun h p q qs H' e np nq hp hl => k p H' e np (L.exd e) (.inl ⟨h, q, qs, nq, hp, hl⟩), fun h p H' e np hp => k p H' e np (L.exd e) (.inr ⟨h, hp⟩)⟩
theorem LS.all {m : Nat} (L : LS K H0 H C pw a n F D) (hm : m ≤ 11) (k : ∀ p ws H', Ex H H' → H p = none → H' p = some (.lst ws) → LLs H' ws (chU m m) → LS K H0 H' C pw a n F D → Q (.ref p) H') : spAll [.int (m : Int)] H Q E :=
  ⟨m, rfl, hm, fun p ws H' e np hp hl => k p ws H' e np hp hl (L.exd e)⟩
theorem dp_dL {p : Addr} {ws : List V} {ls : List (List Int)} (hp : H p = some (.lst ws)) (hl : LLs H ws ls) : Dp K H (.ref p) (dL ls) := .lst (sq_of hp) (lls_dp hl)
end
theorem cVal_i (i : Int) : valOk 8 (.int i) = true := by simp [valOk]
theorem cVal_s (s : Str) : valOk 8 (.str s) = true := by simp [valOk]
end GL

namespace GL
open PySem PySem.Spec PyProof.Rows L2 Evl

/-! ## things that stand apart from each other -/
abbrev Th := List Addr × (Hp → Prop)
/-- a thing lasts while others change -/
def Stb (t : Th) : Prop := ∀ (G : List Addr) (H H' : Hp), t.2 H → Mu G H H' → NT G H → (∀ b ∈ t.1, b ∉ G) → t.2 H'
structure Ws (H0 H : Hp) (ts : List Th) : Prop where
  ex : Ex H0 H
  p : ∀ t ∈ ts, t.2 H
  st : ∀ t ∈ ts, Stb t
  mem : ∀ t ∈ ts, ∀ b ∈ t.1, H b ≠ none
  f0 : ∀ t ∈ ts, ∀ b ∈ t.1, H0 b = none
  dj : ts.Pairwise fun s t => ∀ b ∈ s.1, b ∉ t.1
section
variable {H0 H H' : Hp} {ts : List Th} {t : Th}
theorem Ws.start : Ws H H [] := ⟨Ex.refl H, fun _ h => absurd h List.not_mem_nil, fun _ h => absurd h List.not_mem_nil, fun _ h => absurd h List.not_mem_nil, fun _ h => absurd h List.not_mem_nil, List.Pairwise.nil⟩
theorem Ws.get (W : Ws H0 H ts) (i : Nat) (h : ts[i]? = some t := by rfl) : t.2 H := W.p t (List.mem_of_getElem? h)
theorem nt_nil {H : Hp} : NT [] H := fun b hb => absurd hb List.not_mem_nil
theorem ex_some {b : Addr} (e : Ex H H') (h : H b ≠ none) : H' b ≠ none := by
  cases q : H b with
  | none => exact absurd q h
  | some o => rw [e b o q]; simp
theorem Ws.exd (W : Ws H0 H ts) (e : Ex H H') : Ws H0 H' ts :=
  ⟨W.ex.trans e, fun t h => W.st t h [] H H' (W.p t h) (Mu.ofEx e) nt_nil fun _ _ => List.not_mem_nil, W.st, fun t h b hb => ex_some e (W.mem t h b hb), W.f0, W.dj⟩
theorem pw_at {α : Type} {R : α → α → Prop} {l : List α} {i j : Nat} {a b : α} (p : l.Pairwise R) (hi : l[i]? = some a) (hj : l[j]? = some b) (h : i < j) : R a b := by
  have h1 := (List.getElem?_eq_some_iff.mp hi)
  have h2 := (List.getElem?_eq_some_iff.mp hj)
  obtain ⟨l1, e1⟩ := h1
  obtain ⟨l2, e2⟩ := h2
  have := List.pairwise_iff_getElem.mp p i j l1 l2 h
  rw [e1, e2] at this
  exact this
/-- two of them have nothing in common -/
theorem Ws.apart (W : Ws H0 H ts) {i j : Nat} {s t : Th} (hi : ts[i]? = some s) (hj : ts[j]? = some t) (h : i ≠ j) : ∀ b ∈ s.1, b ∉ t.1 := by
  rcases Nat.lt_or_gt_of_ne h with z | z
  · exact pw_at W.dj hi hj z
  · exact fun b hb hb' => pw_at W.dj hj hi z b hb' hb
/-- the i-th changes -/
theorem Ws.step (W : Ws H0 H ts) (i : Nat) {F' : List Addr} {P' : Hp → Prop} (h : ts[i]? = some t) (nt : NT t.1 H) (f : Fr t.1 F' H H') (hp : P' H') (st : Stb (F', P')) (mm : ∀ b ∈ F', H' b ≠ none) : Ws H0 H' (ts.set i (F', P')) := by
  have mu := f.mu
  have other : ∀ j s, ts[j]? = some s → i ≠ j → ∀ b ∈ s.1, b ∉ t.1 := fun j s hj hn b hb => W.apart hj h (fun z => hn z.symm) b hb
  have cases_ : ∀ s ∈ ts.set i (F', P'), s = (F', P') ∨ ∃ j, ts[j]? = some s ∧ i ≠ j := by
    intro s hs
    obtain ⟨j, hj⟩ := List.mem_iff_getElem?.mp hs
    rw [List.getElem?_set] at hj
    by_cases z : i = j
    · subst z
      rw [if_pos rfl, if_pos (List.getElem?_eq_some_iff.mp h).1] at hj
      exact .inl (Option.some.inj hj).symm
    · rw [if_neg z] at hj
      exact .inr ⟨j, hj, z⟩
  refine ⟨?_, ?_, ?_, ?_, ?_, ?_⟩
  · exact ex_mu W.ex mu fun b hb => W.f0 t (List.mem_of_getElem? h) b hb
  · intro s hs
    rcases cases_ s hs with rfl | ⟨j, hj, hn⟩
    · exact hp
    · exact W.st s (List.mem_of_getElem? hj) t.1 H H' (W.p s (List.mem_of_getElem? hj)) mu nt (other j s hj hn)
  · intro s hs
    rcases cases_ s hs with rfl | ⟨j, hj, hn⟩
    · exact st
    · exact W.st s (List.mem_of_getElem? hj)
  · intro s hs b hb
    rcases cases_ s hs with rfl | ⟨j, hj, hn⟩
    · exact mm b hb
    · intro z
      cases q : H b with
      | none => exact W.mem s (List.mem_of_getElem? hj) b hb q
      | some o => rw [mu b o q (other j s hj hn b hb)] at z; cases z
  · intro s hs b hb
    rcases cases_ s hs with rfl | ⟨j, hj, hn⟩
    · rcases f.sub b hb with z | z
      · exact W.f0 t (List.mem_of_getElem? h) b z
      · exact fresh_back W.ex z
    · exact W.f0 s (List.mem_of_getElem? hj) b hb
  · rw [List.pairwise_iff_getElem]
    intro j k hj hk hjk
    have lj : j < ts.length := by rw [List.length_set] at hj; exact hj
    have lk : k < ts.length := by rw [List.length_set] at hk; exact hk
    have apart' : ∀ {m : Nat} {s : Th}, ts[m]? = some s → i ≠ m → ∀ b ∈ F', b ∉ s.1 := by
      intro m s hm hn b hb hb'
      rcases f.sub b hb with z | z
      · exact W.apart h hm hn b z hb'
      · exact W.mem s (List.mem_of_getElem? hm) b hb' z
    rw [List.getElem_set, List.getElem_set]
    by_cases z1 : i = j
    · rw [if_pos z1, if_neg (by omega)]
      exact apart' (List.getElem?_eq_getElem lk) (by omega)
    · rw [if_neg z1]
      by_cases z2 : i = k
      · rw [if_pos z2]
        exact fun b hb hb' => apart' (List.getElem?_eq_getElem lj) z1 b hb' hb
      · rw [if_neg z2]
        exact pw_at W.dj (List.getElem?_eq_getElem lj) (List.getElem?_eq_getElem lk) hjk
/-- a new one -/
theorem Ws.new (W : Ws H0 H ts) {F : List Addr} {P : Hp → Prop} (e : Ex H H') (fr : ∀ b ∈ F, H b = none) (hp : P H') (st : Stb (F, P)) (mm : ∀ b ∈ F, H' b ≠ none) : Ws H0 H' (ts ++ [(F, P)]) := by
  have W' := W.exd e
  refine ⟨W'.ex, ?_, ?_, ?_, ?_, ?_⟩
  · intro s hs
    rcases List.mem_append.mp hs with z | z
    · exact W'.p s z
    · rw [List.mem_singleton.mp z]; exact hp
  · intro s hs
    rcases List.mem_append.mp hs with z | z
    · exact W'.st s z
    · rw [List.mem_singleton.mp z]; exact st
  · intro s hs
    rcases List.mem_append.mp hs with z | z
    · exact W'.mem s z
    · rw [List.mem_singleton.mp z]; exact mm
  · intro s hs
    rcases List.mem_append.mp hs with z | z
    · exact W'.f0 s z
    · rw [List.mem_singleton.mp z]; exact fun b hb => fresh_back W.ex (fr b hb)
  · refine List.pairwise_append.mpr ⟨W'.dj, List.pairwise_singleton _ _, fun s hs u hu b hb hb' => ?_⟩
    rw [List.mem_singleton.mp hu] at hb'
    exact W.mem s hs b hb (fr b hb')
/-- what is known of no thing's own objects -/
theorem Ws.put (W : Ws H0 H ts) (i : Nat) {P' : Hp → Prop} (h : ts[i]? = some t) (nt : NT t.1 H) (mu : Mu t.1 H H') (hp : P' H') (st : Stb (t.1, P')) (mm : ∀ b ∈ t.1, H' b ≠ none) : Ws H0 H' (ts.set i (t.1, P')) :=
  W.step i h nt ⟨mu, fun b hb => .inl hb⟩ hp st mm
/-- a thing is given up -/
theorem Ws.kill (W : Ws H0 H ts) (i : Nat) (h : ts[i]? = some t) (nt : NT t.1 H) (mu : Mu t.1 H H') : Ws H0 H' (ts.set i ([], fun _ => True)) :=
  W.step i h nt ⟨mu, fun b hb => absurd hb List.not_mem_nil⟩ True.intro (fun _ _ _ _ _ _ _ => True.intro) fun b hb => absurd hb List.not_mem_nil
end

/-! ## the kinds of things -/
section
variable {K : PySem.W.Frag} {H H' : Hp} {C a p : Addr} {F : List Addr} {D : DS}
def tWl (pw : Addr) (n : Int) : Th := ([pw], fun H => Wl H pw n)
def tDk (K : PySem.W.Frag) (C a : Addr) (F : List Addr) (D : DS) : Th := (F, fun H => DiskAt K H C a F D)
/-- a list of one's own, of immutable data -/
def LD (K : PySem.W.Frag) (p : Addr) (ds : List PyData) (H : Hp) : Prop := ∃ xs, H p = some (.lst xs) ∧ DpAll K H xs ds ∧ noLAll ds = true
def tLd (K : PySem.W.Frag) (p : Addr) (ds : List PyData) : Th := ([p], LD K p ds)
/-- a value that never changes -/
def tIm (K : PySem.W.Frag) (v : V) (d : PyData) : Th := ([], fun H => Dp K H v d ∧ noL d = true)
def tNo : Th := ([], fun _ => True)
theorem stb_wl {pw : Addr} {n : Int} : Stb (tWl pw n) := fun G H H' h m nt hd => by
  obtain ⟨x, c, k, h1, h2⟩ := h
  exact ⟨x, c, k, m _ _ h1 (hd pw (List.mem_singleton.mpr rfl)), h2⟩
theorem stb_dk : Stb (tDk K C a F D) := fun G H H' h m nt hd => DiskAt.mu h m nt hd
theorem stb_ld {ds : List PyData} : Stb (tLd K p ds) := fun G H H' h m nt hd => by
  obtain ⟨xs, h1, h2, h3⟩ := h
  exact ⟨xs, m _ _ h1 (hd p (List.mem_singleton.mpr rfl)), dpAll_mu m nt _ _ h3 h2, h3⟩
theorem stb_im {v : V} {d : PyData} : Stb (tIm K v d) := fun G H H' h m nt _ => ⟨dp_mu m nt _ _ h.2 h.1, h.2⟩
theorem LD.exd {ds : List PyData} (h : LD K p ds H) (e : Ex H H') : LD K p ds H' := by
  obtain ⟨xs, h1, h2, h3⟩ := h
  exact ⟨xs, e _ _ h1, dpAll_ex e _ _ h2, h3⟩
theorem LD.dp {ds : List PyData} (h : LD K p ds H) : Dp K H (.ref p) (.list ds) := by
  obtain ⟨xs, h1, h2, h3⟩ := h
  exact .lst (sq_of h1) h2
theorem LD.nt {ds : List PyData} (h : LD K p ds H) : NT [p] H := by
  obtain ⟨xs, h1, _⟩ := h
  exact nt_lst h1
theorem LD.ne {ds : List PyData} (h : LD K p ds H) : H p ≠ none := by
  obtain ⟨xs, h1, _⟩ := h
  rw [h1]; simp
theorem Wl.ne {pw : Addr} {n : Int} (h : Wl H pw n) : H pw ≠ none := by
  obtain ⟨x, c, k, h1, _⟩ := h
  rw [h1]; simp
end
theorem Stb.no : Stb tNo := fun _ _ _ _ _ _ _ => True.intro
section
variable {K : PySem.W.Frag} {H0 H H' : Hp} {C a p pw : Addr} {F : List Addr} {D : DS} {ts : List Th} {Q : VK} {E : XK} {n m : Int} {ds : List PyData}
/-- a draw -/
theorem Ws.draw (W : Ws H0 H ts) (i : Nat) (h : ts[i]? = some (tWl pw n)) (h1 : 1 ≤ m) (h2 : m ≤ 1000000000000) (h3 : n ≤ 100000) (k : ∀ r H', 0 ≤ r → r < m → Ws H0 H' (ts.set i (tWl pw (n + 1))) → Mu [pw] H H' → Q (.int r) H') : spDrawN [.ref pw, .int m] H Q E :=
  ⟨pw, m, n, rfl, W.get i h, h1, h2, h3, fun r H' a b mu w => k r H' a b (W.put i h (Wl.nt (W.get i h)) mu w stb_wl fun b hb => by rw [List.mem_singleton.mp hb]; exact w.ne) mu⟩
theorem Ws.write {b : Int} {u : V} {e : PyData} (W : Ws H0 H ts) (i : Nat) (h : ts[i]? = some (tDk K C a F D)) (h0 : 0 ≤ b) (h1 : b < D.f.length) (hu : Dp K H u e) (he : valOk 8 e = true) (hd : D.d.length ≤ 50000)
    (k : ∀ H' F', Ws H0 H' (ts.set i (tDk K C a F' (D.wr b e))) → Fr F F' H H' → Q .non H') : spWrite K C [.ref a, .int b, u] H Q E :=
  ⟨a, F, D, .int b, u, .int b, e, rfl, W.get i h, .inl (.int b), .inl hu, hd, fun _ _ H' F' d f => k H' F' (W.step i h (DiskAt.nt (W.get i h)) f d stb_dk d.mem) f, fun z => (by rw [blk_int h0 h1] at z; cases z), fun _ z => (by rw [he] at z; cases z)⟩
theorem Ws.flush (W : Ws H0 H ts) (i : Nat) (h : ts[i]? = some (tDk K C a F D)) (hd : D.d.length ≤ 50000) (k : ∀ H' F', Ws H0 H' (ts.set i (tDk K C a F' D.fl)) → Fr F F' H H' → Q .non H') : spFlush K C [.ref a] H Q E :=
  ⟨a, F, D, rfl, W.get i h, hd, fun H' F' d f => k H' F' (W.step i h (DiskAt.nt (W.get i h)) f d stb_dk d.mem) f⟩
theorem Ws.look {g : DS → List PyData} (W : Ws H0 H ts) (i : Nat) (h : ts[i]? = some (tDk K C a F D)) (hg : noLAll (g D) = true) (k : ∀ p H', H p = none → Ex H H' → Ws H0 H' (ts ++ [tLd K p (g D)]) → Q (.ref p) H') : spLook K C g [.ref a] H Q E :=
  ⟨a, F, D, rfl, W.get i h, fun p xs H' np e hp hd => k p H' np e (W.new e (fun b hb => by rw [List.mem_singleton.mp hb]; exact np) ⟨xs, hp, hd, hg⟩ stb_ld fun b hb => by rw [List.mem_singleton.mp hb, hp]; simp)⟩
/-- an own list that was just laid -/
theorem Ws.list {xs : List V} (W : Ws H0 H ts) (e : Ex H H') (np : H p = none) (hp : H' p = some (.lst xs)) (hd : DpAll K H' xs ds) (nl : noLAll ds = true) : Ws H0 H' (ts ++ [tLd K p ds]) :=
  W.new e (fun b hb => by rw [List.mem_singleton.mp hb]; exact np) ⟨xs, hp, hd, nl⟩ stb_ld fun b hb => by rw [List.mem_singleton.mp hb, hp]; simp
theorem Ws.well (W : Ws H0 H ts) (e : Ex H H') (np : H pw = none) (w : Wl H' pw n) : Ws H0 H' (ts ++ [tWl pw n]) :=
  W.new e (fun b hb => by rw [List.mem_singleton.mp hb]; exact np) w stb_wl fun b hb => by rw [List.mem_singleton.mp hb]; exact w.ne
theorem Ws.disk (W : Ws H0 H ts) (e : Ex H H') (fr : ∀ b ∈ F, H b = none) (d : DiskAt K H' C a F D) : Ws H0 H' (ts ++ [tDk K C a F D]) := W.new e fr d stb_dk d.mem
theorem Ws.im {v : V} {d : PyData} (W : Ws H0 H ts) (h : Dp K H v d) (nl : noL d = true) : Ws H0 H (ts ++ [tIm K v d]) :=
  W.new (Ex.refl H) (fun b hb => absurd hb List.not_mem_nil) ⟨h, nl⟩ stb_im fun b hb => absurd hb List.not_mem_nil
/-- self of a disk's method -/
theorem Ws.self {Z : Prop} {m : Str} (W : Ws H0 H ts) (i : Nat) (h : ts[i]? = some (tDk K C a F D)) (hm : dnames.elem m = false) (z : Z) : ∃ a' dx fs, V.ref a = .ref a' ∧ H a' = some (.ins C dx fs) ∧ fs.lookup m = none ∧ Z :=
  DiskAt.self (W.get i h) hm z
end

/-! ## what a disk did -/
def DS.ap (D : DS) (e : PyData) : DS := match e with
  | .tuple [_, .int b, v] => D.wr b v
  | _ => D.fl
theorem DS.ap_w {D : DS} {b : Int} {v : PyData} : D.ap (eW b v) = D.wr b v := rfl
theorem DS.ap_f {D : DS} : D.ap eF = D.fl := rfl
theorem DS.ap_f_len (D : DS) (e : PyData) : (D.ap e).f = D.f := by
  unfold DS.ap
  split <;> rfl
def DS.run (D : DS) (es : List PyData) : DS := es.foldl DS.ap D
theorem DS.run_f (es : List PyData) : ∀ D : DS, (D.run es).f = D.f := by
  induction es with
  | nil => intro D; rfl
  | cons e es ih => intro D; show ((D.ap e).run es).f = _; rw [ih, DS.ap_f_len]
theorem DS.Ok.ap {D : DS} (h : D.Ok) {e : PyData} (he : isE D.f.length e) : (D.ap e).Ok := by
  rcases he with ⟨b, v, rfl, h0, h1, hv⟩ | rfl
  · exact h.wr h0 h1 hv
  · exact h.fl
theorem DS.Ok.run {es : List PyData} : ∀ {D : DS}, D.Ok → (∀ e ∈ es, isE D.f.length e) → (D.run es).Ok := by
  induction es with
  | nil => intro D h _; exact h
  | cons e es ih =>
    intro D h he
    exact ih (h.ap (he e List.mem_cons_self)) fun x hx => by rw [DS.ap_f_len]; exact he x (List.mem_cons_of_mem _ hx)
theorem DS.run_snoc {D : DS} {es : List PyData} {e : PyData} : D.run (es ++ [e]) = (D.run es).ap e := by
  unfold DS.run
  rw [List.foldl_append]
  rfl
theorem DS.ap_d {D : DS} {n : Nat} {e : PyData} (he : isE n e) : (D.ap e).d = D.d ++ [e] := by
  rcases he with ⟨b, v, rfl, _⟩ | rfl <;> rfl
theorem DS.run_d {n : Nat} {es : List PyData} : ∀ {D : DS}, (∀ e ∈ es, isE n e) → (D.run es).d = D.d ++ es := by
  induction es with
  | nil => intro D _; show D.d = D.d ++ []; rw [List.append_nil]
  | cons e es ih =>
    intro D he
    show ((D.ap e).run es).d = _
    rw [ih fun x hx => he x (List.mem_cons_of_mem _ hx), DS.ap_d (he e List.mem_cons_self), List.append_assoc]
    rfl
/-- what stands is what was done since the beginning -/
structure DS.Hi (D : DS) : Prop where
  eq : D = (DS.new D.f).run D.d
theorem DS.Hi.new (ds : List PyData) : (DS.new ds).Hi := ⟨rfl⟩
theorem DS.Hi.ap {D : DS} (h : D.Hi) {n : Nat} {e : PyData} (he : isE n e) : (D.ap e).Hi := ⟨by
  rw [DS.ap_d he, DS.ap_f_len, DS.run_snoc, ← h.eq]⟩
theorem DS.Hi.wr {D : DS} (h : D.Hi) {b : Int} {v : PyData} (h0 : 0 ≤ b) (h1 : b < D.f.length) (hv : valOk 8 v = true) : (D.wr b v).Hi := h.ap (n := D.f.length) (.inl ⟨b, v, rfl, h0, h1, hv⟩)
theorem DS.Hi.fl {D : DS} (h : D.Hi) : D.fl.Hi := h.ap (n := 0) (.inr rfl)
/-- the newest values are the durable ones with what waits -/
def setAll (s w : List PyData) : List PyData := w.foldl putW s
theorem DS.nw {es : List PyData} : ∀ {D : DS} {n : Nat}, D.n = setAll D.s D.w → (∀ e ∈ es, isE n e) → (D.run es).n = setAll (D.run es).s (D.run es).w := by
  induction es with
  | nil => intro D n h _; exact h
  | cons e es ih =>
    intro D n h he
    refine ih (D := D.ap e) (n := n) ?_ fun x hx => he x (List.mem_cons_of_mem _ hx)
    rcases he e List.mem_cons_self with ⟨b, v, rfl, _⟩ | rfl
    · show D.n.set b.toNat v = setAll D.s (D.w ++ [pW b v])
      unfold setAll
      rw [List.foldl_append, h]
      rfl
    · rfl
/-- the law's own reckoning: what is durable, what waits -/
def rep1 (q : List PyData × List PyData) (e : PyData) : List PyData × List PyData := match e with
  | .tuple [_, .int b, v] => (q.1, q.2 ++ [pW b v])
  | _ => (setAll q.1 q.2, [])
theorem rep_run {es : List PyData} : ∀ {D : DS} {n : Nat}, D.n = setAll D.s D.w → (∀ e ∈ es, isE n e) → es.foldl rep1 (D.s, D.w) = ((D.run es).s, (D.run es).w) := by
  induction es with
  | nil => intro D n _ _; rfl
  | cons e es ih =>
    intro D n h he
    rw [List.foldl_cons]
    rcases he e List.mem_cons_self with ⟨b, v, rfl, hb⟩ | rfl
    · have hn : (D.wr b v).n = setAll (D.wr b v).s (D.wr b v).w := by
        show D.n.set b.toNat v = setAll D.s (D.w ++ [pW b v])
        unfold setAll
        rw [List.foldl_append, h]
        rfl
      exact ih (D := D.wr b v) hn fun x hx => he x (List.mem_cons_of_mem _ hx)
    · have : rep1 (D.s, D.w) eF = (D.fl.s, D.fl.w) := by
        show (setAll D.s D.w, []) = (D.n, [])
        rw [h]
      rw [this]
      exact ih (D := D.fl) rfl fun x hx => he x (List.mem_cons_of_mem _ hx)
end GL
namespace GL
open PySem PySem.Spec PyProof.Rows L2 Evl
def spRepeat (K : PySem.W.Frag) (C : Addr) : Sp := fun vs H Q _ => ∃ (a : Addr) (F : List Addr) (D : DS) (v : V) (e : PyData), vs = [.ref a, v] ∧ DiskAt K H C a F D ∧ Dp K H v e ∧ isE D.f.length e ∧ D.d.length ≤ 50000 ∧
  ∀ H' F', DiskAt K H' C a F' (D.ap e) → Fr F F' H H' → Q .non H'
def spAfter (K : PySem.W.Frag) (C : Addr) : Sp := fun vs H Q E => ∃ (a : Addr) (F : List Addr) (D : DS) (v : V) (d : PyData), vs = [.ref a, v] ∧ DiskAt K H C a F D ∧ Dq K H v d ∧ D.d.length ≤ 50000 ∧
  (betw d 0 D.d.length = true → ∀ a' F' H', Ex H H' → (∀ b ∈ F', H b = none) → DiskAt K H' C a' F' ((DS.new D.f).run (D.d.take (intOf d).toNat)) → Q (.ref a') H') ∧
  (betw d 0 D.d.length = false → badC K "BadCount" "count" v H E)
end GL
namespace GL
open PySem PySem.Spec PyProof.Rows L2 Evl
section
variable {K : PySem.W.Frag} {H : Hp} {v : V} {vs : List V} {d : PyData} {ds : List PyData}
theorem dp_tup (h : Dp K H v (.tuple ds)) : ∃ p xs, v = .ref p ∧ SqT K H p xs ∧ DpAll K H xs ds := by cases h with | tup a b => exact ⟨_, _, rfl, a, b⟩
theorem dp_lst (h : Dp K H v (.list ds)) : ∃ p xs, v = .ref p ∧ SqL K H p xs ∧ DpAll K H xs ds := by cases h with | lst a b => exact ⟨_, _, rfl, a, b⟩
theorem dp_int {i : Int} (h : Dp K H v (.int i)) : v = .int i := by cases h; rfl
theorem dp_str {x : Str} (h : Dp K H v (.str x)) : v = .str x := by cases h; rfl
theorem dpa_cons (h : DpAll K H vs (d :: ds)) : ∃ v r, vs = v :: r ∧ Dp K H v d ∧ DpAll K H r ds := by cases h with | cons a b => exact ⟨_, _, rfl, a, b⟩
theorem dpa_nil (h : DpAll K H vs []) : vs = [] := by cases h; rfl
theorem dp_eW {b : Int} {u : PyData} (h : Dp K H v (eW b u)) : ∃ p x, v = .ref p ∧ SqT K H p [.str "write", .int b, x] ∧ Dp K H x u := by
  obtain ⟨p, xs, rfl, hs, ha⟩ := dp_tup h
  obtain ⟨x0, r0, rfl, h0, ha⟩ := dpa_cons ha
  obtain ⟨x1, r1, rfl, h1, ha⟩ := dpa_cons ha
  obtain ⟨x2, r2, rfl, h2, ha⟩ := dpa_cons ha
  obtain rfl := dpa_nil ha
  obtain rfl := dp_str h0
  obtain rfl := dp_int h1
  exact ⟨p, x2, rfl, hs, h2⟩
theorem dp_eF (h : Dp K H v eF) : ∃ p, v = .ref p ∧ SqT K H p [.str "flush"] := by
  obtain ⟨p, xs, rfl, hs, ha⟩ := dp_tup h
  obtain ⟨x0, r0, rfl, h0, ha⟩ := dpa_cons ha
  obtain rfl := dpa_nil ha
  obtain rfl := dp_str h0
  exact ⟨p, rfl, hs⟩
theorem dp_pW {b : Int} {u : PyData} (h : Dp K H v (pW b u)) : ∃ p x, v = .ref p ∧ SqT K H p [.int b, x] ∧ Dp K H x u := by
  obtain ⟨p, xs, rfl, hs, ha⟩ := dp_tup h
  obtain ⟨x1, r1, rfl, h1, ha⟩ := dpa_cons ha
  obtain ⟨x2, r2, rfl, h2, ha⟩ := dpa_cons ha
  obtain rfl := dpa_nil ha
  obtain rfl := dp_int h1
  exact ⟨p, x2, rfl, hs, h2⟩
end
end GL

namespace GL
open PySem PySem.Spec PyProof.Rows L2 Evl
/-! ## more rules -/
def cMeth0 (C : Addr) (m : Str) (sp : Sp) (ta : TE) (t : TA) : TE := fun σ H Q => ta σ H fun x H1 => ∃ a dx fs, x = .ref a ∧ H1 a = some (.ins C dx fs) ∧ fs.lookup m = none ∧
  t σ H1 fun vs H2 => sp (x :: vs) H2 Q E0
section
variable {X : Cx} {c : Bool} {k : Nat} {sp : Sp} {m : Str} {pos apos : Pos} {e o : Expr} {es : List Expr} {ta : TE} {t : TA} {C : Addr}
theorem ge_methF {pl : Sem Bool} (ho : PE X o ta) (cl : Cls X.K C) (G : GM c X.prog X.w X.K X.mg X.base C m k sp) (hr : Rm c k X.A) (ha : PA X (e :: es) t)
    (hst : starEach (e :: es) X.env = (false, eval e X.env) :: starEach es X.env := by rfl) (hpl : (backTo pos (starEach es X.env)).any (·.1) = false := by rfl)
    (ht : eval (.Call (.Attribute o m apos) (e :: es) [] pos) X.env = (do
      let w ← eval o X.env
      standAt apos.atName
      let (g, first) ← holding [w] (getMethod w m pl)
      callWith pos g first (backTo pos (starEach (e :: es) X.env)) (backToKw pos (keywordEach [] X.env))) := by rfl) :
    PE X (.Call (.Attribute o m apos) (e :: es) [] pos) (cMeth0 C m sp ta t) := by
  obtain ⟨f, F, hm⟩ := G.ex
  constructor
  intro pins s σ H Q I h
  refine PySem.W.methodCall_KW (pl := pl) (thn (ho.run pins s σ H _ I h) ?_) ht
  rintro u s1 ⟨x, H1, I1, rx, a, dx, fs, ex, ea, l, q⟩
  subst ex
  obtain rfl : u = Value.ref a := rx
  refine getmeth_ok I1 ea cl hm l ?_
  refine PySem.W.callWith_K (first := [.ref a]) (h₀ := X.base) I.ok.mod.kin hm.kp (thn (ha.run pos pins s1 σ H1 _ I1 q) ?_) hst hpl
  rintro us s2 ⟨vs, H2, I2, r, q2⟩
  exact ⟨I2.kIn, go_fn (us := .ref a :: us) (vs := .ref a :: vs) F hr arr0 I2 (.cons rfl r) q2⟩
theorem ge_meth0F {pl : Sem Bool} (ho : PE X o ta) (cl : Cls X.K C) (G : GM c X.prog X.w X.K X.mg X.base C m k sp) (hr : Rm c k X.A)
    (ht : eval (.Call (.Attribute o m apos) [] [] pos) X.env = (do
      let w ← eval o X.env
      standAt apos.atName
      let (g, first) ← holding [w] (getMethod w m pl)
      callWith pos g first (backTo pos (starEach [] X.env)) (backToKw pos (keywordEach [] X.env))) := by rfl) :
    PE X (.Call (.Attribute o m apos) [] [] pos) (cMeth0 C m sp ta tNil) := by
  obtain ⟨f, F, hm⟩ := G.ex
  constructor
  intro pins s σ H Q I h
  refine PySem.W.methodCall_KW (pl := pl) (thn (ho.run pins s σ H _ I h) ?_) ht
  rintro u s1 ⟨x, H1, I1, rx, a, dx, fs, ex, ea, l, q⟩
  subst ex
  obtain rfl : u = Value.ref a := rx
  refine getmeth_ok I1 ea cl hm l ?_
  exact PySem.W.callWith_K0 (first := [.ref a]) I1.kIn hm.kp (go_fn (us := [.ref a]) (vs := [.ref a]) F hr arr0 I1 (.cons rfl .nil) q)
def tDNewN : TE := fun _ H Q => ∀ p H2, H p = none → Ex H H2 → H2 p = some (.dK []) → Q (.ref p) H2
theorem pe_dnewN : PE X (.Dict [] [] pos) tDNewN := ⟨fun pins s σ H Q I h => (pe_dnewK (X := X) (pos := pos)).run pins s σ H Q I fun p np => h p _ np (Ex.new np) upd_same⟩
end
section
variable {K : PySem.W.Frag} {σ : L2.St} {H : Hp} {D : Ends} {Q : VK}
theorem rd_meth0 {C : Addr} {m : Str} {sp : Sp} {ta : TE} {t : TA} (h : ta σ H fun x H1 => ∃ a dx fs, x = .ref a ∧ H1 a = some (.ins C dx fs) ∧ fs.lookup m = none ∧ t σ H1 fun vs H2 => sp (x :: vs) H2 Q E0) : cMeth0 C m sp ta t σ H Q := h
theorem rd_dnewN (h : ∀ p H2, H p = none → Ex H H2 → H2 p = some (.dK []) → Q (.ref p) H2) : tDNewN σ H Q := h
theorem rd_par {i j : Nat} {ta : TA} (h : ta σ H fun vs H1 => ∃ v w, vs = [v, w] ∧ D.nx ((σ.set i (some v)).set j (some w)) H1) : tPar i j ta D σ H := h
theorem rd_two {a b : V} {P : V → V → Prop} (h : P a b) : ∃ v w, [a, b] = [v, w] ∧ P v w := ⟨a, b, rfl, h⟩
theorem rd_revL {te : TE} (h : te σ H fun x H1 => ∃ a xs, x = .ref a ∧ SqL K H1 a xs ∧ ∀ p, H1 p = none → Q (.ref p) (upd H1 p (.lst xs.reverse))) : tRevL K te σ H Q := h
end

/-! ## what a law draws: values -/
mutual
theorem valOk_mono : ∀ (n m : Nat) (d : PyData), n ≤ m → valOk n d = true → valOk m d = true
  | _, _, .int _, _, _ => by simp [valOk]
  | _, _, .str _, _, _ => by simp [valOk]
  | 0, _, .tuple _, _, h => by simp [valOk] at h
  | n + 1, 0, .tuple _, z, _ => by omega
  | n + 1, m + 1, .tuple ds, z, h => by
    simp only [valOk] at h ⊢
    exact valOkAll_mono n m ds (by omega) h
  | _, _, .none, _, h => by simp [valOk] at h
  | _, _, .bool _, _, h => by simp [valOk] at h
  | _, _, .list _, _, h => by simp [valOk] at h
  | _, _, .dict _, _, h => by simp [valOk] at h
theorem valOkAll_mono : ∀ (n m : Nat) (ds : List PyData), n ≤ m → valOkAll n ds = true → valOkAll m ds = true
  | _, _, [], _, _ => by simp [valOkAll]
  | n, m, d :: ds, z, h => by
    have q : valOk n d = true ∧ valOkAll n ds = true := by simpa [valOkAll] using h
    simp only [valOkAll, valOk_mono n m d z q.1, valOkAll_mono n m ds z q.2, Bool.and_self]
end
def costV : Nat → Int
  | 0 => 3
  | k + 1 => 2 + 3 * costV k
def wtV : Nat → Nat
  | 0 => 130
  | k + 1 => 3 * (wtV k + 1)
theorem costV_ge : ∀ k, 3 ≤ costV k
  | 0 => by decide
  | k + 1 => by have := costV_ge k; show 3 ≤ 2 + 3 * costV k; omega
theorem wtV_ge : ∀ k, 130 ≤ wtV k
  | 0 => by decide
  | k + 1 => by have := wtV_ge k; show 130 ≤ 3 * (wtV k + 1); omega
theorem wtV_mono : ∀ {j k : Nat}, j ≤ k → wtV j ≤ wtV k := by
  intro j k h
  induction h with
  | refl => exact Nat.le_refl _
  | step h ih => rename_i m; have := wtV_ge m; show wtV j ≤ 3 * (wtV m + 1); omega
structure Vd (k : Nat) (d : PyData) : Prop where
  ok : valOk k d = true
  tm : Tm k (wtV k) d
theorem Vd.up {j k : Nat} {d : PyData} (h : Vd j d) (z : j ≤ k) : Vd k d := ⟨valOk_mono _ _ _ z h.ok, h.tm.mono z (wtV_mono z)⟩
theorem Vd.int {i : Int} (h : i.natAbs < 10 ^ 21) : Vd 0 (.int i) := ⟨by simp [valOk], (Tm.intB h).mono (Nat.le_refl _) (by decide)⟩
theorem Vd.str {x : Str} (h : PyData.strOk x = true) (hl : x.cps.size ≤ 130) : Vd 0 (.str x) := ⟨by simp [valOk], Tm.str h hl⟩
theorem Vd.tuple {k : Nat} {ds : List PyData} (h : ∀ d ∈ ds, Vd k d) (hl : ds.length ≤ 3) : Vd (k + 1) (.tuple ds) :=
  ⟨by simp only [valOk]; exact valOkAll_iff.mpr fun d hd => (h d hd).ok, Tm.tuple (fun d hd => (h d hd).tm) hl⟩
def spOne : Sp := fun vs H Q _ => ∃ (pw ps : Addr) (n : Int) (xs : List V), vs = [.ref pw, .ref ps] ∧ Wl H pw n ∧ H ps = some (.lst xs) ∧ ps ≠ pw ∧ 1 ≤ xs.length ∧ xs.length ≤ 1000 ∧ n ≤ 99999 ∧
  ∀ (v : V) (i : Nat) (H' : Hp), xs[i]? = some v → Mu [pw] H H' → Wl H' pw (n + 1) → Q v H'
def spVal (K : PySem.W.Frag) (k : Nat) : Sp := fun vs H Q _ => ∃ (pw : Addr) (n : Int), vs = [.ref pw, .int (k : Nat)] ∧ Wl H pw n ∧ n + costV k ≤ 100000 ∧
  ∀ v d H', Mu [pw] H H' → Wl H' pw (n + costV k) → Dp K H' v d → Vd k d → Q v H'
section
variable {K : PySem.W.Frag} {H0 H H' : Hp} {pw : Addr} {ts : List Th} {Q : VK} {E : XK} {n : Int}
theorem Ws.value {k : Nat} (W : Ws H0 H ts) (i : Nat) (h : ts[i]? = some (tWl pw n)) (hn : n + costV k ≤ 100000) (q : ∀ v d H', Ws H0 H' (ts.set i (tWl pw (n + costV k)) ++ [tIm K v d]) → Mu [pw] H H' → Vd k d → Dp K H' v d → Q v H') : spVal K k [.ref pw, .int (k : Nat)] H Q E :=
  ⟨pw, n, rfl, W.get i h, hn, fun v d H' mu w hd vd => q v d H' ((W.put i h (Wl.nt (W.get i h)) mu w stb_wl fun b hb => by rw [List.mem_singleton.mp hb]; exact w.ne).im hd (valOk_noL k d vd.ok)) mu vd hd⟩
end
end GL

namespace GL
open PySem PySem.Spec PyProof.Rows L2 Evl
/-! ## a law's reckoning of a disk -/
def rep0 (size : Nat) : List PyData × List PyData := (List.replicate size (.int 0), [])
def spRepd (K : PySem.W.Frag) : Sp := fun vs H Q _ => ∃ (size : Nat) (pe : Addr) (es : List PyData), vs = [.int (size : Nat), .ref pe] ∧ LD K pe es H ∧ (∀ e ∈ es, isE size e) ∧ 1 ≤ size ∧ size ≤ 128 ∧ es.length ≤ 1000 ∧
  ∀ pt ps pp H', Ex H H' → H pt = none → H ps = none → H pp = none → ps ≠ pp → H' pt = some (.tup [.ref ps, .ref pp]) → LD K ps (es.foldl rep1 (rep0 size)).1 H' → LD K pp (es.foldl rep1 (rep0 size)).2 H' → Q (.ref pt) H'
/-- what such a pair keeps to -/
structure RpOk (size : Nat) (q : List PyData × List PyData) : Prop where
  l : q.1.length = size
  v : valOkAll 8 q.1 = true
  w : ∀ x ∈ q.2, isB size x
theorem RpOk.zero {size : Nat} : RpOk size (rep0 size) := ⟨List.length_replicate, valOkAll_iff.mpr fun d hd => by rw [List.eq_of_mem_replicate hd]; simp [valOk], fun x hx => absurd hx List.not_mem_nil⟩
theorem setAll_ok {size : Nat} : ∀ {w s : List PyData}, s.length = size → valOkAll 8 s = true → (∀ x ∈ w, isB size x) → (setAll s w).length = size ∧ valOkAll 8 (setAll s w) = true
  | [], s, h1, h2, _ => ⟨h1, h2⟩
  | x :: w, s, h1, h2, h3 => by
    obtain ⟨b, v, rfl, b0, b1, hv⟩ := h3 x List.mem_cons_self
    show (setAll (s.set b.toNat v) w).length = size ∧ _
    exact setAll_ok (by rw [List.length_set]; exact h1) (valOkAll_set h2 hv) fun y hy => h3 y (List.mem_cons_of_mem _ hy)
theorem setAll_snoc {s w : List PyData} {b : Int} {v : PyData} : setAll s (w ++ [pW b v]) = (setAll s w).set b.toNat v := by
  unfold setAll
  rw [List.foldl_append]
  rfl
theorem RpOk.next {size : Nat} {q : List PyData × List PyData} (h : RpOk size q) {e : PyData} (he : isE size e) : RpOk size (rep1 q e) := by
  rcases he with ⟨b, v, rfl, b0, b1, hv⟩ | rfl
  · refine ⟨h.l, h.v, fun x hx => ?_⟩
    rcases List.mem_append.mp (show x ∈ q.2 ++ [pW b v] from hx) with z | z
    · exact h.w x z
    · rw [List.mem_singleton.mp z]; exact ⟨b, v, rfl, b0, b1, hv⟩
  · obtain ⟨a, b⟩ := setAll_ok h.l h.v h.w
    exact ⟨a, b, fun x hx => absurd hx List.not_mem_nil⟩
def seen3 (D : DS) : PyData := .list [.list D.s, .list D.w, .list D.d]
def spSeen3 (K : PySem.W.Frag) (C : Addr) : Sp := fun vs H Q _ => ∃ (a : Addr) (F : List Addr) (D : DS) (k w : Nat), vs = [.ref a] ∧ DiskAt K H C a F D ∧ Tm k w (seen3 D) ∧ k ≤ 60 ∧ w ≤ 600000 ∧ ∀ H', Ex H H' → Q (.str (seen3 D).shown) H'
def spKept : Sp := fun vs H Q _ => ∃ (pw : Addr) (n : Int) (m : Nat), vs = [.ref pw, .int (m : Nat)] ∧ Wl H pw n ∧ m ≤ 1000 ∧ n + m ≤ 100000 ∧
  ∀ p (l : List Int) H', H p = none → Mu [pw] H H' → Wl H' pw (n + m) → H' p = some (.lst (l.map V.int)) → l.Pairwise (· < ·) → (∀ i ∈ l, 0 ≤ i ∧ i < m) → Q (.ref p) H'
/-- a wrong choice, and what is due for it -/
def BadCh (K : PySem.W.Frag) (m : Nat) (H : Hp) (v : V) (pl : V) : Prop := ∃ d, Dq K H v d ∧ ((isLs d = false ∧ pl = .non) ∨ ∃ ds k, d = .list ds ∧ chk m ds 0 0 = some k ∧ pl = .int (k : Nat))
def spBadK (K : PySem.W.Frag) : Sp := fun vs H Q _ => ∃ (pw pk : Addr) (n : Int) (m : Nat) (l : List Int), vs = [.ref pw, .ref pk, .int (m : Nat)] ∧ Wl H pw n ∧ H pk = some (.lst (l.map V.int)) ∧ pk ≠ pw ∧ m ≤ 1000 ∧ n + 4 ≤ 100000 ∧ l.Pairwise (· < ·) ∧ (∀ i ∈ l, 0 ≤ i ∧ i < m) ∧
  ∀ pt v pl H', H pt = none → Mu [pw] H H' → Wl H' pw (n + 4) → H' pt = some (.tup [v, pl]) → BadCh K m H' v pl → Q (.ref pt) H'
structure Sh (d : PyData) : Prop where
  sh : d.showable = true
  dep : d.depth ≤ 60
  len : d.shown.length ≤ sizeLine
theorem Tm.sh {k w : Nat} {d : PyData} (h : Tm k w d) (hk : k ≤ 60) (hw : w ≤ 600000) : Sh d := ⟨h.show_, Nat.le_trans h.dep hk, h.fits hw⟩
theorem sh_dict : Sh (.dict []) := ⟨by simp [PyData.showable, PyData.showableKv], by simp [PyData.depth, PyData.depthKv], by decide +kernel⟩
def spRaised (K : PySem.W.Frag) (C : Addr) : Sp := fun vs H Q _ => ∃ (a : Addr) (F : List Addr) (D : DS) (v : V) (way : Int), vs = [.ref a, .int way, v] ∧ DiskAt K H C a F D ∧ D.d.length ≤ 50000 ∧
  ((way = 0 ∧ ∃ d, Dq K H v d ∧ betw d 0 D.d.length = false ∧ Sh d ∧ ∀ p H', H p = none → Ex H H' → H' p = some (.tup [.str "count", .str d.shown, .int 1]) → Q (.ref p) H') ∨
   (way = 1 ∧ ∃ pl, BadCh K D.w.length H v pl ∧ ∀ p H', H p = none → Ex H H' → H' p = some (.tup [.str "choice", pl, .int 1]) → Q (.ref p) H'))
theorem chk_pre {n : Nat} {rest : List PyData} : ∀ {l : List Int} {lo : Int} {a : Nat}, l.Pairwise (· < ·) → (∀ i ∈ l, lo ≤ i ∧ i < n) → ∃ lo', lo ≤ lo' ∧ (∀ i ∈ l, i < lo') ∧ chk n (l.map .int ++ rest) lo a = chk n rest lo' (a + l.length)
  | [], lo, a, _, _ => ⟨lo, Int.le_refl _, fun i hi => absurd hi List.not_mem_nil, rfl⟩
  | i :: l, lo, a, p, h => by
    have hi := h i List.mem_cons_self
    obtain ⟨lo', h1, h2, h3⟩ := chk_pre (n := n) (rest := rest) (l := l) (lo := i + 1) (a := a + 1) (List.pairwise_cons.mp p).2 fun j hj => by
      have h1 := (List.pairwise_cons.mp p).1 j hj
      have h2 := h j (List.mem_cons_of_mem _ hj)
      omega
    refine ⟨lo', by omega, fun j hj => ?_, ?_⟩
    · rcases List.mem_cons.mp hj with z | z
      · omega
      · exact h2 j z
    · show (if betw (.int i) lo ((n : Int) - 1) = true then chk n (l.map .int ++ rest) (i + 1) (a + 1) else some a) = _
      rw [if_pos (betw_to hi.1 (by omega)), h3, List.length_cons]
      congr 1
      omega
theorem chk_bad {n : Nat} {d : PyData} {rest : List PyData} {lo : Int} {a : Nat} (h : betw d lo ((n : Int) - 1) = false) : chk n (d :: rest) lo a = some a := by
  show (if betw d lo ((n : Int) - 1) = true then _ else some a) = _
  rw [h, if_neg Bool.false_ne_true]
theorem betw_no {d : PyData} {l m : Int} (h : isI d = false) : betw d l m = false := by unfold betw; rw [h, Bool.false_and]
theorem betw_lo {i l m : Int} (h : i < l) : betw (.int i) l m = false := by
  show (true && (decide (l ≤ i) && decide (i ≤ m))) = false
  rw [Bool.true_and, decide_eq_false (by omega), Bool.false_and]
theorem betw_hi {i l m : Int} (h : m < i) : betw (.int i) l m = false := by
  show (true && (decide (l ≤ i) && decide (i ≤ m))) = false
  rw [Bool.true_and, decide_eq_false (show ¬ i ≤ m by omega), Bool.and_false]
end GL
namespace GL
open PySem PySem.Spec PyProof.Rows L2 Evl
theorem cutV_drop {xs : List V} {n : Int} (h0 : 0 ≤ n) : cutV xs (some n) none = xs.drop n.toNat := by
  unfold cutV
  have e1 : HT.sIx xs.length 0 (some n) = min n.toNat xs.length := by
    unfold HT.sIx
    simp only
    split <;> omega
  have e2 : HT.sIx xs.length xs.length none = xs.length := rfl
  rw [e1, e2]
  by_cases h : n.toNat ≤ xs.length
  · rw [Nat.min_eq_left h, List.take_of_length_le (by rw [List.length_drop]; exact Nat.le_refl _)]
  · rw [Nat.min_eq_right (by omega), List.drop_length, List.drop_of_length_le (by omega), List.take_nil]
theorem eqv_nil (l : List Int) : PyData.eqv (dI l) (.list []) = decide (l = []) := by
  cases l with
  | nil => simp [dI, PyData.eqv, PyData.eqvAll]
  | cons a l => simp [dI, PyData.eqv, PyData.eqvAll]
theorem atI_last {xs : List V} (h : xs ≠ []) : atI xs (-1) = some (xs.getLast h) := by
  have hl : 0 < xs.length := List.length_pos_iff.mpr h
  unfold atI ixN
  rw [if_neg (by decide), if_pos (by omega)]
  show xs[((-1 : Int) + (xs.length : Int)).toNat]? = _
  rw [show ((-1 : Int) + (xs.length : Int)).toNat = xs.length - 1 from by omega, List.getLast_eq_getElem, List.getElem?_eq_getElem (by omega)]
theorem chk_last {m : Nat} {l : List Int} {x : Int} (p : l.Pairwise (· < ·)) (h : ∀ i ∈ l, 0 ≤ i ∧ i < m) (hx : x ∈ l) : chk m ((l ++ [x]).map .int) 0 0 = some l.length := by
  rw [List.map_append]
  obtain ⟨lo, _, h2, h3⟩ := chk_pre (n := m) (rest := [x].map .int) (lo := 0) (a := 0) p h
  rw [h3, show ([x].map PyData.int) = [PyData.int x] from rfl, chk_bad (betw_lo (h2 x hx)), Nat.zero_add]
theorem chk_rev {m : Nat} {l : List Int} (p : l.Pairwise (· < ·)) (h : ∀ i ∈ l, 0 ≤ i ∧ i < m) (hl : 1 < l.length) : chk m (l.reverse.map .int) 0 0 = some 1 := by
  have e : ∃ x y r, l.reverse = x :: y :: r := by
    match h2 : l.reverse with
    | [] => have := congrArg List.length h2; rw [List.length_reverse] at this; rw [this] at hl; exact absurd hl (by simp)
    | [a] => have := congrArg List.length h2; rw [List.length_reverse] at this; rw [this] at hl; exact absurd hl (by simp)
    | x :: y :: r => exact ⟨x, y, r, rfl⟩
  obtain ⟨x, y, r, e⟩ := e
  have pr := List.pairwise_reverse.mpr p
  rw [e] at pr ⊢
  have hxy : y < x := (List.pairwise_cons.mp pr).1 y List.mem_cons_self
  have hx := h x (by rw [← List.mem_reverse, e]; exact List.mem_cons_self)
  show (if betw (.int x) 0 ((m : Int) - 1) = true then chk m (.int y :: r.map .int) (x + 1) 1 else some 0) = some 1
  rw [if_pos (betw_to hx.1 (by omega)), chk_bad (betw_lo (by omega))]
theorem chk_ins {m k : Nat} {l : List Int} {d : PyData} {rest : List PyData} (p : l.Pairwise (· < ·)) (h : ∀ i ∈ l, 0 ≤ i ∧ i < m) (hk : k ≤ l.length) (hd : ∀ lo : Int, 0 ≤ lo → betw d lo ((m : Int) - 1) = false) : chk m ((l.take k).map .int ++ d :: rest) 0 0 = some k := by
  obtain ⟨lo, h1, _, h3⟩ := chk_pre (n := m) (rest := d :: rest) (lo := 0) (a := 0) (p.sublist (List.take_sublist k l)) fun i hi => h i (List.mem_of_mem_take hi)
  rw [h3, chk_bad (hd lo h1), List.length_take, Nat.zero_add, Nat.min_eq_left hk]
theorem asc_len0 {m : Int} : ∀ {l : List Int} {lo : Int}, l.Pairwise (· < ·) → (∀ i ∈ l, lo ≤ i ∧ i < m) → l ≠ [] → (l.length : Int) ≤ m - lo
  | [], _, _, _, h => absurd rfl h
  | [a], lo, _, h, _ => by have := h a List.mem_cons_self; simp; omega
  | a :: b :: l, lo, p, h, _ => by
    have ha := h a List.mem_cons_self
    have := asc_len0 (m := m) (l := b :: l) (lo := a + 1) (List.pairwise_cons.mp p).2 (fun i hi => by
      have h1 := (List.pairwise_cons.mp p).1 i hi
      have h2 := h i (List.mem_cons_of_mem _ hi)
      omega) (by simp)
    simp only [List.length_cons] at this ⊢
    omega
theorem asc_len {m : Nat} {l : List Int} (p : l.Pairwise (· < ·)) (h : ∀ i ∈ l, 0 ≤ i ∧ i < m) : l.length ≤ m := by
  by_cases z : l = []
  · rw [z]; exact Nat.zero_le _
  · have := asc_len0 p h z
    omega
theorem ints_take {l : List Int} {k : Nat} : (l.map V.int).take k = (l.take k).map V.int := by rw [List.map_take]
theorem ints_drop {l : List Int} {k : Nat} : (l.map V.int).drop k = (l.drop k).map V.int := by rw [List.map_drop]
end GL

namespace GL
open PySem PySem.Spec PyProof.Rows L2 Evl
def spGoes (K : PySem.W.Frag) (C : Addr) : Sp := fun vs H Q _ => ∃ (a pd : Addr) (F : List Addr) (ds : List PyData), vs = [.ref a, .ref pd] ∧ DiskAt K H C a F (DS.new ds) ∧ LD K pd ds H ∧ pd ∉ F ∧ (∀ x ∈ ds, Vd 2 x) ∧
  ∀ H', Mu F H H' → Q (.bl true) H'
def spFlushed (K : PySem.W.Frag) (C : Addr) : Sp := fun vs H Q _ => ∃ (a pe : Addr) (F : List Addr) (D : DS), vs = [.ref a, .ref pe] ∧ DiskAt K H C a F D ∧ LD K pe D.d H ∧ pe ∉ F ∧ (∀ x ∈ D.d, Tm 3 4000 x) ∧ D.d.length ≤ 100 ∧
  ∀ H', Mu F H H' → Q (.bl true) H'
def spOddC (K : PySem.W.Frag) (C : Addr) : Sp := fun vs H Q _ => ∃ (a : Addr) (F : List Addr) (D : DS), vs = [.ref a, .int (D.d.length : Nat)] ∧ DiskAt K H C a F D ∧ D.d.length ≤ 1000 ∧ ∀ H', Ex H H' → Q (.bl true) H'
theorem tm_pW {b : Int} {v : PyData} {k w : Nat} (hb : b.natAbs < 1000000) (hv : Tm k w v) (hw : 20 ≤ w) : Tm (k + 1) (2 * (w + 1)) (pW b v) := by
  refine Tm.tuple (n := 2) (fun d hd => ?_) (by simp)
  rcases List.mem_cons.mp hd with e | e
  · rw [e]; exact (Tm.int hb).mono (Nat.zero_le _) hw
  · rw [List.mem_singleton.mp e]; exact hv
theorem tm_eW {b : Int} {v : PyData} {k w : Nat} (hb : b.natAbs < 1000000) (hv : Tm k w v) (hw : 20 ≤ w) : Tm (k + 1) (3 * (w + 1)) (eW b v) := by
  refine Tm.tuple (n := 3) (fun d hd => ?_) (by simp)
  rcases List.mem_cons.mp hd with e | e
  · rw [e]; exact (Tm.str (n := 20) (by decide +kernel) (by decide +kernel)).mono (Nat.zero_le _) hw
  rcases List.mem_cons.mp e with e | e
  · rw [e]; exact (Tm.int hb).mono (Nat.zero_le _) hw
  · rw [List.mem_singleton.mp e]; exact hv
theorem tm_eF {k w : Nat} (hk : 1 ≤ k) (hw : 21 ≤ w) : Tm k w eF := by
  refine (Tm.tuple (k := 0) (w := 20) (n := 1) (fun d hd => ?_) (by simp)).mono hk (by omega)
  rw [List.mem_singleton.mp hd]
  exact Tm.str (by decide +kernel) (by decide +kernel)
theorem tm_list3 {k w : Nat} {a b c : PyData} (ha : Tm k w a) (hb : Tm k w b) (hc : Tm k w c) : Tm (k + 1) (3 * (w + 1)) (.list [a, b, c]) := by
  refine Tm.list (n := 3) (fun d hd => ?_) (by simp)
  rcases List.mem_cons.mp hd with e | e
  · rw [e]; exact ha
  rcases List.mem_cons.mp e with e | e
  · rw [e]; exact hb
  · rw [List.mem_singleton.mp e]; exact hc
end GL
namespace GL
open PySem PySem.Spec PyProof.Rows L2 Evl
theorem call_reprS {X : Cx} {c : Bool} {k : Nat} {a : Addr} {pn : List (Addr × Obj)} (hr : Rm c k X.A) : CallR (X.suite a pn) (.builtin "repr") (rRepr X.K) := call_reprD (X := X.suite a pn) (hr.mark _)
theorem call_isiS {X : Cx} {a : Addr} {pn : List (Addr × Obj)} : CallR (X.suite a pn) (.builtin "isinstance") (rIsi X.K) := call_isi
theorem call_lenS {X : Cx} {a : Addr} {pn : List (Addr × Obj)} : CallR (X.suite a pn) (.builtin "len") (rLenU X.K) := call_lenU
theorem op_eqS {X : Cx} {c : Bool} {k : Nat} {a : Addr} {pn : List (Addr × Obj)} (hr : Rm c k X.A) : OpR (X.suite a pn) (compareOp .Eq) (rEqU X.K) := op_eqU (X := X.suite a pn) (hr.mark (some (.ref a))).u64
theorem op_neS {X : Cx} {c : Bool} {k : Nat} {a : Addr} {pn : List (Addr × Obj)} (hr : Rm c k X.A) : OpR (X.suite a pn) (compareOp .NotEq) (rNeU X.K) := op_neU (X := X.suite a pn) (hr.mark (some (.ref a))).u64
theorem ix_seqS {X : Cx} {a : Addr} {pn : List (Addr × Obj)} : IxR (X.suite a pn) (rIx X.K) := ix_seq
end GL
namespace GL
open PySem PySem.Spec PyProof.Rows L2 Evl
abbrev H00 : Hp := fun _ => none
theorem Mu.apart {F G : List Addr} {H H1 H2 H3 : Hp} (m : Mu F H H1) (e : Ex H1 H2) (fr : ∀ b ∈ G, H1 b = none) (m2 : Mu G H2 H3) : Mu F H H3 := fun b o h n => by
  have h1 := m b o h n
  refine m2 b o (e b o h1) fun z => ?_
  rw [fr b z] at h1
  cases h1
section
variable {K : PySem.W.Frag} {H0 H H' : Hp} {C a p pw : Addr} {F : List Addr} {D : DS} {ts : List Th} {ds : List PyData} {n : Int}
/-- what stands already, side by side -/
theorem Ws.nil : Ws H00 H [] := ⟨(fun a o h => by cases h), fun _ h => absurd h List.not_mem_nil, fun _ h => absurd h List.not_mem_nil, fun _ h => absurd h List.not_mem_nil, fun _ h => absurd h List.not_mem_nil, List.Pairwise.nil⟩
theorem Ws.add (W : Ws H00 H ts) {F : List Addr} {P : Hp → Prop} (hp : P H) (st : Stb (F, P)) (mm : ∀ b ∈ F, H b ≠ none) (dj : ∀ t ∈ ts, ∀ b ∈ t.1, b ∉ F) : Ws H00 H (ts ++ [(F, P)]) := by
  refine ⟨W.ex, ?_, ?_, ?_, fun _ _ _ _ => rfl, ?_⟩
  · intro s hs
    rcases List.mem_append.mp hs with z | z
    · exact W.p s z
    · rw [List.mem_singleton.mp z]; exact hp
  · intro s hs
    rcases List.mem_append.mp hs with z | z
    · exact W.st s z
    · rw [List.mem_singleton.mp z]; exact st
  · intro s hs
    rcases List.mem_append.mp hs with z | z
    · exact W.mem s z
    · rw [List.mem_singleton.mp z]; exact mm
  · refine List.pairwise_append.mpr ⟨W.dj, List.pairwise_singleton _ _, fun s hs u hu b hb hb' => ?_⟩
    rw [List.mem_singleton.mp hu] at hb'
    exact dj s hs b hb hb'
theorem Ws.dk1 (d : DiskAt K H C a F D) : Ws H00 H [tDk K C a F D] := (Ws.nil (H := H)).add d stb_dk d.mem fun t ht => absurd ht List.not_mem_nil
theorem Ws.dk2 (d : DiskAt K H C a F D) (l : LD K p ds H) (no : p ∉ F) : Ws H00 H [tDk K C a F D, tLd K p ds] :=
  (Ws.dk1 d).add l stb_ld (fun b hb => by rw [List.mem_singleton.mp hb]; exact l.ne) fun t ht b hb hb' => by
    rw [List.mem_singleton.mp ht] at hb
    rw [List.mem_singleton.mp hb'] at hb
    exact no hb
end
theorem DS.Ok.nws {D : DS} (h : D.Ok) : noLAll D.w = true ∧ noLAll D.s = true ∧ noLAll D.d = true := ⟨h.nw, h.ns, h.nd⟩
end GL
namespace GL
open PySem PySem.Spec PyProof.Rows L2 Evl
theorem strOk_of (s : String) : PyData.strOk (Str.ofString s) = true := by
  unfold PyData.strOk
  rw [Array.all_eq_true_iff_forall_mem]
  intro c hc
  have h := Array.mem_toList_iff.mpr hc
  rw [PyProof.Rows.signs_ofString] at h
  obtain ⟨ch, _, rfl⟩ := List.mem_map.mp h
  have v := ch.valid
  rw [decide_eq_true_eq]
  rcases v with v | ⟨_, v⟩
  · exact Nat.lt_trans v (by decide)
  · exact v
theorem tm_shown_int {i : Int} (h : i.natAbs < 10 ^ 21) : Tm 0 30 (.str (PyData.shown (.int i))) := by
  refine Tm.str ?_ ?_
  · exact strOk_of _
  · have := shown_int25 h
    exact Nat.le_trans (show (PyData.shown (.int i)).cps.size ≤ 25 from this) (by decide)
end GL

namespace GL
open PySem PySem.Spec PyProof.Rows L2 Evl
/-! ## more of things that stand apart -/
theorem da_ints {K : PySem.W.Frag} {H : Hp} : ∀ {l : List Int} {xs : List V}, DpAll K H xs (l.map .int) → xs = l.map V.int
  | [], _, h => dpa_nil h
  | i :: l, _, h => by
    obtain ⟨v, r, rfl, h1, h2⟩ := dpa_cons h
    rw [dp_int h1, da_ints h2]
    rfl
theorem ints_cut {ns : List Int} {lo hi : Option Int} : ∃ ms : List Int, cutV (ns.map V.int) lo hi = ms.map V.int ∧ ms.length ≤ ns.length := by
  have e : ∃ ms : List Int, cutV (ns.map V.int) lo hi = ms.map V.int := ⟨(ns.drop (HT.sIx (ns.map V.int).length 0 lo)).take (HT.sIx (ns.map V.int).length (ns.map V.int).length hi - HT.sIx (ns.map V.int).length 0 lo), by unfold cutV; rw [List.map_take, List.map_drop]⟩
  obtain ⟨ms, e⟩ := e
  refine ⟨ms, e, ?_⟩
  have := cutV_length (ns.map V.int) lo hi
  rw [e, List.length_map, List.length_map] at this
  omega
theorem ints_at {l : List Int} {i : Nat} {x : V} (h : (l.map V.int)[i]? = some x) : ∃ c, x = V.int c ∧ l[i]? = some c := by
  rw [List.getElem?_map] at h
  cases z : l[i]? with
  | none => rw [z] at h; cases h
  | some c => rw [z] at h; exact ⟨c, (Option.some.inj h).symm, rfl⟩
def tLd2 (K : PySem.W.Frag) (p : Addr) (ds : List PyData) (q : Addr) (es : List PyData) : Th := ([p, q], fun H => LD K p ds H ∧ LD K q es H)
section
variable {K : PySem.W.Frag} {H0 H H' : Hp} {C a p q pw : Addr} {F : List Addr} {D : DS} {ts : List Th} {Q : VK} {E : XK} {n : Int} {ds es : List PyData}
theorem stb_ld2 : Stb (tLd2 K p ds q es) := fun G H H' h m nt hd =>
  ⟨stb_ld G H H' h.1 m nt (fun b hb => hd b (by rw [List.mem_singleton.mp hb]; exact List.mem_cons_self)), stb_ld G H H' h.2 m nt (fun b hb => hd b (by rw [List.mem_singleton.mp hb]; exact List.mem_cons_of_mem _ List.mem_cons_self))⟩
theorem Ws.sub {us : List Th} (W : Ws H0 H ts) (h : us.Sublist ts) : Ws H0 H us :=
  ⟨W.ex, fun t ht => W.p t (h.subset ht), fun t ht => W.st t (h.subset ht), fun t ht => W.mem t (h.subset ht), fun t ht => W.f0 t (h.subset ht), W.dj.sublist h⟩
theorem Ws.take (W : Ws H0 H ts) (n : Nat) : Ws H0 H (ts.take n) := W.sub (List.take_sublist n ts)
theorem Ws.wlUp {n' : Int} (W : Ws H0 H ts) (i : Nat) (h : ts[i]? = some (tWl pw n)) (hn : n ≤ n') : Ws H0 H (ts.set i (tWl pw n')) :=
  W.put i h (Wl.nt (W.get i h)) (Mu.refl _ _) ((show Wl H pw n from W.get i h).mono hn) stb_wl fun b hb => by rw [List.mem_singleton.mp hb]; exact Wl.ne (W.get i h)
/-- what stands already and is no other thing's -/
theorem Ws.also (W : Ws H0 H ts) {F : List Addr} {P : Hp → Prop} (f0 : ∀ b ∈ F, H0 b = none) (hp : P H) (st : Stb (F, P)) (mm : ∀ b ∈ F, H b ≠ none) (dj : ∀ t ∈ ts, ∀ b ∈ t.1, b ∉ F) : Ws H0 H (ts ++ [(F, P)]) := by
  refine ⟨W.ex, ?_, ?_, ?_, ?_, ?_⟩
  · intro s hs
    rcases List.mem_append.mp hs with z | z
    · exact W.p s z
    · rw [List.mem_singleton.mp z]; exact hp
  · intro s hs
    rcases List.mem_append.mp hs with z | z
    · exact W.st s z
    · rw [List.mem_singleton.mp z]; exact st
  · intro s hs
    rcases List.mem_append.mp hs with z | z
    · exact W.mem s z
    · rw [List.mem_singleton.mp z]; exact mm
  · intro s hs
    rcases List.mem_append.mp hs with z | z
    · exact W.f0 s z
    · rw [List.mem_singleton.mp z]; exact f0
  · refine List.pairwise_append.mpr ⟨W.dj, List.pairwise_singleton _ _, fun s hs u hu b hb hb' => ?_⟩
    rw [List.mem_singleton.mp hu] at hb'
    exact dj s hs b hb hb'
theorem Ws.two (W : Ws H0 H ts) (e : Ex H H') (np : H p = none) (nq : H q = none) (lp : LD K p ds H') (lq : LD K q es H') : Ws H0 H' (ts ++ [tLd2 K p ds q es]) := by
  refine W.new e (fun b hb => ?_) ⟨lp, lq⟩ stb_ld2 fun b hb => ?_
  · rcases List.mem_cons.mp hb with z | z
    · rw [z]; exact np
    · rw [List.mem_singleton.mp z]; exact nq
  · rcases List.mem_cons.mp hb with z | z
    · rw [z]; exact lp.ne
    · rw [List.mem_singleton.mp z]; exact lq.ne
theorem Ws.make {size : Int} {x dx : Addr} (W : Ws H0 H ts) (h1 : 1 ≤ size) (h2 : size ≤ 128) (nx : H x = none) (ndx : H dx = none) (hne : dx ≠ x)
    (k : ∀ H' F, Ws H0 H' (ts ++ [tDk K C x F (DS.new (List.replicate size.toNat (.int 0)))]) → Ex H H' → Q .non H') :
    spDInit K C [.ref x, .int size] (upd (upd H dx (.own x)) x (.ins C dx [])) Q E := by
  have e6 : Ex H (upd (upd H dx (.own x)) x (.ins C dx [])) := (Ex.new ndx).trans (Ex.new (by rw [upd_ne hne.symm]; exact nx))
  refine ⟨x, dx, .int size, .int size, rfl, upd_same, .inl (.int _), fun _ H7 F hD hF => ?_, fun z => ?_⟩
  · have e7 : Ex H H7 := fun b o hb => hF.mu b o (e6 b o hb) (by simp; exact ne_of_none hb nx)
    have f0 : ∀ b ∈ F, H b = none := fun b hb => (hF.sub b hb).elim (fun z => by rw [List.mem_singleton.mp z]; exact nx) fun z => fresh_back e6 z
    exact k H7 F (W.disk e7 f0 hD) e7
  · rw [betw_to h1 h2] at z; cases z
theorem noLAll_set {i : Nat} {d : PyData} (nx : noLAll ds = true) (nl : noL d = true) : noLAll (ds.set i d) = true := by
  rw [noLAll_iff] at nx ⊢
  intro y hy
  rcases List.mem_or_eq_of_mem_set hy with z | z
  · exact nx y z
  · rw [z]; exact nl
theorem noLAll_app {ds es : List PyData} (h1 : noLAll ds = true) (h2 : noLAll es = true) : noLAll (ds ++ es) = true := by
  rw [noLAll_iff] at *
  intro y hy
  rcases List.mem_append.mp hy with z | z
  · exact h1 y z
  · exact h2 y z
theorem noLAll_take {ds : List PyData} {n : Nat} (h : noLAll ds = true) : noLAll (ds.take n) = true := noLAll_iff.mpr fun x hx => noLAll_iff.mp h x (List.mem_of_mem_take hx)
theorem noLAll_ints {l : List Int} : noLAll (l.map .int) = true := noLAll_iff.mpr fun x hx => by
  obtain ⟨i, _, rfl⟩ := List.mem_map.mp hx
  simp [noL]
theorem Ws.setL {b : Int} {v : V} {d : PyData} {R : Hp → Prop} (W : Ws H0 H ts) (i : Nat) (h : ts[i]? = some (tLd K p ds)) (h0 : 0 ≤ b) (h1 : b < ds.length) (hv : Dp K H v d) (nl : noL d = true)
    (k : ∀ H', Ws H0 H' (ts.set i (tLd K p (ds.set b.toNat d))) → Mu [p] H H' → R H') : rSetL (.ref p) (.int b) v H R := by
  obtain ⟨xs, g, dx, nx⟩ := (show LD K p ds H from W.get i h)
  refine rd_setL g h0 (by rw [da_len dx]; exact h1) ?_
  have m : Mu [p] H (upd H p (.lst (xs.set b.toNat v))) := (Mu.refl [p] H).set (List.mem_singleton.mpr rfl) _
  exact k _ (W.put i (P' := LD K p (ds.set b.toNat d)) h (nt_lst g) m ⟨_, upd_same, da_set _ (dpAll_mu m (nt_lst g) _ _ nx dx) (dp_mu m (nt_lst g) _ _ nl hv), noLAll_set nx nl⟩ stb_ld fun b hb => by rw [List.mem_singleton.mp hb, upd_same]; simp) m
theorem Ws.app {v : V} {d : PyData} {xs : List V} (W : Ws H0 H ts) (i : Nat) (h : ts[i]? = some (tLd K p ds)) (g : H p = some (.lst xs)) (hv : Dp K H v d) (nl : noL d = true) : Ws H0 (upd H p (.lst (xs ++ [v]))) (ts.set i (tLd K p (ds ++ [d]))) := by
  obtain ⟨xs', g', dx, nx⟩ := (show LD K p ds H from W.get i h)
  rw [g] at g'
  cases g'
  have m : Mu [p] H (upd H p (.lst (xs ++ [v]))) := (Mu.refl [p] H).set (List.mem_singleton.mpr rfl) _
  exact W.put i (P' := LD K p (ds ++ [d])) h (nt_lst g) m ⟨_, upd_same, da_app (dpAll_mu m (nt_lst g) _ _ nx dx) (da_one (dp_mu m (nt_lst g) _ _ nl hv)), noLAll_app nx (noLAll_iff.mpr fun y hy => by rw [List.mem_singleton.mp hy]; exact nl)⟩ stb_ld fun b hb => by rw [List.mem_singleton.mp hb, upd_same]; simp
theorem Ws.putWl {n' : Int} (W : Ws H0 H ts) (i : Nat) (h : ts[i]? = some (tWl pw n)) (mu : Mu [pw] H H') (w : Wl H' pw n') : Ws H0 H' (ts.set i (tWl pw n')) :=
  W.put i h (Wl.nt (W.get i h)) mu w stb_wl fun b hb => by rw [List.mem_singleton.mp hb]; exact w.ne
theorem Ws.kept {m : Nat} (W : Ws H0 H ts) (i : Nat) (h : ts[i]? = some (tWl pw n)) (hm : m ≤ 1000) (hn : n + m ≤ 100000)
    (k : ∀ p (l : List Int) H', Ws H0 H' (ts.set i (tWl pw (n + m)) ++ [tLd K p (l.map .int)]) → l.Pairwise (· < ·) → (∀ i ∈ l, 0 ≤ i ∧ i < m) → Q (.ref p) H') : spKept [.ref pw, .int (m : Nat)] H Q E := by
  refine ⟨pw, n, m, rfl, W.get i h, hm, hn, fun p l H' np mu w g asc rng => ?_⟩
  have W1 := W.putWl i h mu w
  have hp0 : H0 p = none := fresh_back W.ex np
  refine k p l H' (W1.also (F := [p]) (P := LD K p (l.map .int)) (fun b hb => by rw [List.mem_singleton.mp hb]; exact hp0) ⟨_, g, ints_dp l, noLAll_ints⟩ stb_ld (fun b hb => by rw [List.mem_singleton.mp hb, g]; simp) ?_) asc rng
  intro t ht b hb hb'
  obtain rfl := List.mem_singleton.mp hb'
  rcases List.mem_or_eq_of_mem_set ht with z | z
  · exact W.mem t z b hb np
  · rw [z] at hb
    obtain rfl := List.mem_singleton.mp hb
    exact Wl.ne (W.get i h) np
theorem Ws.badK {m : Nat} {l : List Int} {pk : Addr} (W : Ws H0 H ts) (i j : Nat) (h : ts[i]? = some (tWl pw n)) (hj : ts[j]? = some (tLd K pk (l.map .int))) (hij : i ≠ j) (hm : m ≤ 1000) (hn : n + 4 ≤ 100000) (asc : l.Pairwise (· < ·)) (rng : ∀ i ∈ l, 0 ≤ i ∧ i < m)
    (k : ∀ pt v pl H', Ws H0 H' (ts.set i (tWl pw (n + 4))) → H' pt = some (.tup [v, pl]) → BadCh K m H' v pl → Q (.ref pt) H') : spBadK K [.ref pw, .ref pk, .int (m : Nat)] H Q E := by
  obtain ⟨xs, g, dx, nx⟩ := (show LD K pk (l.map .int) H from W.get j hj)
  obtain rfl := da_ints dx
  have hne : pk ≠ pw := fun z => W.apart h hj hij pw (List.mem_singleton.mpr rfl) (by rw [← z]; exact List.mem_singleton.mpr rfl)
  exact ⟨pw, pk, n, m, l, rfl, W.get i h, g, hne, hm, hn, asc, rng, fun pt v pl H' np mu w gt hb => k pt v pl H' (W.putWl i h mu w) gt hb⟩
end
/-! ## a disk of drawn values -/
def evOk (k : Nat) (x : PyData) : Prop := (∃ b v, x = eW b v ∧ b.natAbs < 1000 ∧ Vd k v) ∨ x = eF
structure Dv (k n : Nat) (D : DS) : Prop where
  vf : ∀ x ∈ D.f, Vd k x
  vs : ∀ x ∈ D.s, Vd k x
  vn : ∀ x ∈ D.n, Vd k x
  vw : ∀ x ∈ D.w, ∃ b v, x = pW b v ∧ b.natAbs < 1000 ∧ Vd k v
  vd : ∀ x ∈ D.d, evOk k x
  lw : D.w.length ≤ n
  ld : D.d.length ≤ n
section
variable {k n n' : Nat} {D : DS} {b : Int} {v : PyData} {ds : List PyData}
theorem Dv.new (h : ∀ x ∈ ds, Vd k x) : Dv k 0 (DS.new ds) := ⟨h, h, h, fun x hx => absurd hx List.not_mem_nil, fun x hx => absurd hx List.not_mem_nil, Nat.le_refl _, Nat.le_refl _⟩
theorem Dv.up (h : Dv k n D) (z : n ≤ n') : Dv k n' D := ⟨h.vf, h.vs, h.vn, h.vw, h.vd, Nat.le_trans h.lw z, Nat.le_trans h.ld z⟩
theorem Dv.wr (h : Dv k n D) (hb : b.natAbs < 1000) (hv : Vd k v) : Dv k (n + 1) (D.wr b v) := by
  refine ⟨h.vf, h.vs, fun x hx => ?_, fun x hx => ?_, fun x hx => ?_, ?_, ?_⟩
  · rcases List.mem_or_eq_of_mem_set hx with z | z
    · exact h.vn x z
    · rw [z]; exact hv
  · rcases List.mem_append.mp hx with z | z
    · exact h.vw x z
    · rw [List.mem_singleton.mp z]; exact ⟨b, v, rfl, hb, hv⟩
  · rcases List.mem_append.mp hx with z | z
    · exact h.vd x z
    · rw [List.mem_singleton.mp z]; exact .inl ⟨b, v, rfl, hb, hv⟩
  · show (D.w ++ _).length ≤ _; rw [List.length_append]; exact Nat.succ_le_succ h.lw
  · show (D.d ++ _).length ≤ _; rw [List.length_append]; exact Nat.succ_le_succ h.ld
theorem Dv.fl (h : Dv k n D) : Dv k (n + 1) D.fl := by
  refine ⟨h.vf, h.vn, h.vn, fun x hx => absurd hx List.not_mem_nil, fun x hx => ?_, Nat.zero_le _, ?_⟩
  · rcases List.mem_append.mp hx with z | z
    · exact h.vd x z
    · rw [List.mem_singleton.mp z]; exact .inr rfl
  · show (D.d ++ _).length ≤ _; rw [List.length_append]; exact Nat.succ_le_succ h.ld
theorem Dv.ap {e : PyData} (h : Dv k n D) (he : evOk k e) : Dv k (n + 1) (D.ap e) := by
  rcases he with ⟨b, v, rfl, hb, hv⟩ | rfl
  · exact h.wr hb hv
  · exact h.fl
theorem Dv.run : ∀ {es : List PyData} {D : DS} {n : Nat}, Dv k n D → (∀ e ∈ es, evOk k e) → Dv k (n + es.length) (D.run es)
  | [], _, _, h, _ => h
  | e :: es, D, n, h, he => by
    have := Dv.run (h.ap (he e List.mem_cons_self)) fun x hx => he x (List.mem_cons_of_mem _ hx)
    rw [List.length_cons, show n + (es.length + 1) = n + 1 + es.length from by omega]
    exact this
theorem Dv.tw (h : Dv 2 n D) : ∀ x ∈ D.w, Tm 3 2366 x := fun x hx => by
  obtain ⟨b, v, rfl, hb, hv⟩ := h.vw x hx
  exact (tm_pW (by omega) (hv.tm.mono (Nat.le_refl _) (show wtV 2 ≤ 1182 by decide)) (by decide)).mono (by decide) (by decide)
theorem Dv.td (h : Dv 2 n D) : ∀ x ∈ D.d, Tm 3 3549 x := fun x hx => by
  rcases h.vd x hx with ⟨b, v, rfl, hb, hv⟩ | rfl
  · exact (tm_eW (by omega) (hv.tm.mono (Nat.le_refl _) (show wtV 2 ≤ 1182 by decide)) (by decide)).mono (by decide) (by decide)
  · exact tm_eF (by decide) (by decide)
theorem tm_list3w {k wa wb wc : Nat} {a b c : PyData} (ha : Tm k wa a) (hb : Tm k wb b) (hc : Tm k wc c) : Tm (k + 1) (wa + wb + wc + 3) (.list [a, b, c]) := by
  refine ⟨?_, ?_, ?_, ?_, ?_⟩
  · simp [PyData.canLay0, PyData.canLayAll0, ha.lay, hb.lay, hc.lay]
  · simp [PyData.intsShort, PyData.intsShortAll, ha.iS, hb.iS, hc.iS]
  · simp [PyData.showable, PyData.showableAll, ha.show_, hb.show_, hc.show_]
  · have := ha.dep; have := hb.dep; have := hc.dep
    simp only [PyData.depth, PyData.depthAll]
    omega
  · have := ha.wt; have := hb.wt; have := hc.wt
    simp only [PyData.weight, PyData.weightAll]
    omega
theorem tm_vals (h : ∀ x ∈ ds, Vd 2 x) (hl : ds.length ≤ 128) : Tm 4 151424 (.list ds) := (Tm.list (k := 2) (w := 1182) (n := 128) (fun d hd => (h d hd).tm.mono (Nat.le_refl _) (by decide)) hl).mono (by decide) (by decide)
theorem Dv.seen3 (h : Dv 2 60 D) (ok : D.Ok) : Tm 5 510000 (GL.seen3 D) := by
  unfold GL.seen3
  refine (tm_list3w (k := 4) (wa := 151424) (wb := 142020) (wc := 213000) (tm_vals h.vs (by rw [ok.ls]; exact ok.hi)) ?_ ?_).mono (by decide) (by decide)
  · exact (Tm.list (k := 3) (n := 60) h.tw h.lw).mono (by decide) (by decide)
  · exact (Tm.list (k := 3) (n := 60) h.td h.ld).mono (by decide) (by decide)
theorem cr_snoc {ks : List PyData} {k : PyData} (h : D.w[(intOf k).toNat]? = some (pW b v)) : D.cr (ks ++ [k]) = (D.cr ks).set b.toNat v := by
  unfold DS.cr
  rw [List.foldl_append]
  show (match D.w[(intOf k).toNat]? with | some x => putW _ x | none => _) = _
  rw [h]
  rfl
theorem cr_go {P : PyData → Prop} (hw : ∀ x ∈ D.w, ∃ b v, x = pW b v ∧ P v) : ∀ (ks acc : List PyData), (∀ x ∈ acc, P x) → (∀ x ∈ ks.foldl (fun acc k => match D.w[(intOf k).toNat]? with | some x => putW acc x | none => acc) acc, P x) ∧ (ks.foldl (fun acc k => match D.w[(intOf k).toNat]? with | some x => putW acc x | none => acc) acc).length = acc.length
  | [], acc, h => ⟨h, rfl⟩
  | k :: ks, acc, h => by
    rw [List.foldl_cons]
    cases z : D.w[(intOf k).toNat]? with
    | none => exact cr_go hw ks acc h
    | some x =>
      obtain ⟨b, v, rfl, hv⟩ := hw x (List.mem_of_getElem? z)
      have h1 : putW acc (pW b v) = acc.set b.toNat v := rfl
      dsimp only
      rw [h1]
      obtain ⟨p, q⟩ := cr_go hw ks (acc.set b.toNat v) fun y hy => by
        rcases List.mem_or_eq_of_mem_set hy with z | z
        · exact h y z
        · rw [z]; exact hv
      exact ⟨p, by rw [q, List.length_set]⟩
theorem Dv.cr (h : Dv k n D) (ks : List PyData) : (∀ x ∈ D.cr ks, Vd k x) ∧ (D.cr ks).length = D.s.length :=
  cr_go (fun x hx => by obtain ⟨b, v, e, _, hv⟩ := h.vw x hx; exact ⟨b, v, e, hv⟩) ks D.s h.vs
end
end GL
namespace GL
open PySem PySem.Spec PyProof.Rows L2 Evl
theorem chk_le {n : Nat} : ∀ {ds : List PyData} {l : Int} {a k : Nat}, l ≤ n → chk n ds l a = some k → (k : Int) ≤ a + (n - l)
  | [], _, _, _, _, h => by cases h
  | d :: ds, l, a, k, hl, h => by
    unfold chk at h
    split at h
    · rename_i hb
      obtain ⟨j, rfl, h1, h2⟩ := betw_of hb
      have := chk_le (ds := ds) (l := intOf (.int j) + 1) (show j + 1 ≤ (n : Int) by omega) h
      have e : intOf (.int j) = j := rfl
      rw [e] at this
      omega
    · cases h
      omega
section
variable {K : PySem.W.Frag} {H H' : Hp} {p : Addr} {Q : VK} {ds : List PyData}
theorem LD.sq (h : LD K p ds H) : ∃ xs, SqL K H p xs ∧ DpAll K H xs ds := by
  obtain ⟨xs, g, d, _⟩ := h
  exact ⟨xs, sq_of g, d⟩
theorem LD.take {m : Nat} (h : LD K p ds H) (k : ∀ q H', H q = none → Ex H H' → LD K q (ds.take m) H' → Q (.ref q) H') : rSlLN K (.ref p) none (some (m : Int)) H Q := by
  obtain ⟨xs, g, d, nl⟩ := h
  refine rdn_sl (sq_of g) fun q H' nq e gq => k q H' nq e ?_
  rw [cutV_take (by omega), show ((m : Int).toNat) = m from by omega] at gq
  exact ⟨_, gq, dpAll_ex e _ _ (da_take m d), noLAll_take nl⟩
theorem LD.copy (h : LD K p ds H) (k : ∀ q H', H q = none → Ex H H' → LD K q ds H' → Q (.ref q) H') : rListN K [.ref p] H Q := by
  obtain ⟨xs, g, d, nl⟩ := h
  exact rdn_list (sq_of g) fun q H' nq e gq => k q H' nq e ⟨_, gq, dpAll_ex e _ _ d, nl⟩
theorem LD.len (h : LD K p ds H) (q : Q (.int ds.length) H) : rLenU K [.ref p] H Q := by
  obtain ⟨xs, g, d, nl⟩ := h
  refine rd_lenL (sq_of g) ?_
  rw [da_len d]
  exact q
theorem Ws.ld {H0 : Hp} {ts : List Th} (W : Ws H0 H ts) (e : Ex H H') (np : H p = none) (l : LD K p ds H') : Ws H0 H' (ts ++ [tLd K p ds]) :=
  W.new e (fun b hb => by rw [List.mem_singleton.mp hb]; exact np) l stb_ld fun b hb => by rw [List.mem_singleton.mp hb]; exact l.ne
end
end GL

namespace GL
open PySem PySem.Spec PyProof.Rows L2 Evl
/-! ## a class of the text with its own ==, its own repr -/
def owB (K : PySem.W.Frag) (C : Addr) : Bool :=
  eqV2 (PySem.W.findIn K (.ref C) "__ne__") (some (some (.builtin "object.__ne__"))) && (decide (PySem.W.mroIn K C (.type "object") = some true) &&
  (eqV2 (PySem.W.findIn K (.ref C) "__class__") (some (some (.builtin "object.__class__"))) && (eqV2 (PySem.W.specialIn K (.builtin "object.__class__") "__get__") (some (some (.builtin "getset_descriptor.__get__"))) &&
  (decide (PySem.W.takesIn K (.builtin "object.__class__") = some true) && (decide (PySem.W.kitOne K (.ref C) (.ref C) = some true) && (decide (PySem.W.kitOne K (.type "tuple") (.ref C) = some false) &&
  (decide (PySem.W.kitOne K (.type "str") (.ref C) = some false) && (PySem.W.notFirst K C (.type "tuple") && PySem.W.notFirst K C (.type "str")))))))))
structure OwC (K : PySem.W.Frag) (C : Addr) : Prop where
  ne : PySem.W.findIn K (.ref C) "__ne__" = some (some (.builtin "object.__ne__"))
  ob : PySem.W.mroIn K C (.type "object") = some true
  cl : PySem.W.findIn K (.ref C) "__class__" = some (some (.builtin "object.__class__"))
  gt : PySem.W.specialIn K (.builtin "object.__class__") "__get__" = some (some (.builtin "getset_descriptor.__get__"))
  tk : PySem.W.takesIn K (.builtin "object.__class__") = some true
  kc : PySem.W.kitOne K (.ref C) (.ref C) = some true
  kt : PySem.W.kitOne K (.type "tuple") (.ref C) = some false
  ks : PySem.W.kitOne K (.type "str") (.ref C) = some false
  nt : PySem.W.notFirst K C (.type "tuple") = true
  ns : PySem.W.notFirst K C (.type "str") = true
theorem owB_ok {K : PySem.W.Frag} {C : Addr} (h : owB K C = true) : OwC K C := by
  unfold owB at h
  obtain ⟨h1, h⟩ := bT_ok h
  obtain ⟨h2, h⟩ := bT_ok h
  obtain ⟨h3, h⟩ := bT_ok h
  obtain ⟨h4, h⟩ := bT_ok h
  obtain ⟨h5, h⟩ := bT_ok h
  obtain ⟨h6, h⟩ := bT_ok h
  obtain ⟨h7, h⟩ := bT_ok h
  obtain ⟨h8, h⟩ := bT_ok h
  obtain ⟨h9, h10⟩ := bT_ok h
  exact ⟨eqV2_ok h1, of_decide_eq_true h2, eqV2_ok h3, eqV2_ok h4, of_decide_eq_true h5, of_decide_eq_true h6, of_decide_eq_true h7, of_decide_eq_true h8, h9, h10⟩
theorem Rm.in1 {c : Bool} {k : Nat} {A : Around} (r : Rm c (k + 1) A) : Rm c k A.in1 :=
  ⟨r.hd, by have z := r.dp; show A.depth + 3 * k + 5 < _; omega, by have z := r.un; show A.units + 1 + 16 * k + 200 < _; omega, r.gd⟩
theorem notFirst_self {K : PySem.W.Frag} {C : Addr} : PySem.W.notFirst K C (.ref C) = true := by simp [PySem.W.notFirst]
section
variable {prog : Program} {w : World} {M : Model} {A : Around} {E : Value → Shared → Prop} {s : Shared} {K : PySem.W.Frag} {x C f : Addr} {ox : Obj} {od : Option Obj} {name : Str} {b tb : Value}
open PySem.W in
theorem ifBound_B {id : String} {args : List Value} {Q : Option Value → Shared → Prop} (X : K.In s.heap) (I : InstAt s.heap x ox C od) (hs : findIn K (.ref C) name = some (some (.builtin id)))
    (hb : ∀ self, bindSpecial (.builtin id) self = pure (.builtin id, [self])) (h : wpAny M A (call (.builtin id) (.ref x :: args)) (fun v => Q (some v)) E s) : wpAny M A (callSpecialIfBound? (.ref x) name args) Q E s := by
  simp only [callSpecialIfBound?, bindSpecialIfBound?]
  refine wpAny_holding (wpAny_bind (wpAny_bind (wpAny_bind (I.type.here ((looks_findIn X hs).here ?_)))))
  refine wpAny_bind (wpAny_askSetting (wpAny_ite ?_))
  have fin : wpAny M A (call (.builtin id) ([.ref x] ++ args) >>= fun v => pure (some v)) Q E s := wpAny_bind (wpAny_mono h (fun v s' h' => wpAny_pure h') fun _ _ h' => h')
  split
  · exact wpAny_bind ((Looks.of_pure (hb _)).here (wpAny_pure (by exact fin)))
  · exact wpAny_tryCatch (wpAny_bind ((Looks.of_pure (hb _)).here (wpAny_pure (by exact fin))))
open PySem.W Builtin in
theorem one_K {Q : Value → Shared → Prop} (hu : A.in1.units < cLine) (X : K.In s.heap) (I : InstAt s.heap x ox C od) (hn : findIn K (.ref C) "__ne__" = some (some (.builtin "object.__ne__"))) (hm : mroIn K C (.type "object") = some true)
    (hs : findIn K (.ref C) "__eq__" = some (some (.ref f))) (hf : isFn K (.ref f) = true)
    (h : wpAny (model prog w) A.in1 (call (.ref f) [.ref x, b]) (fun v s' => ∃ t, v = .bool t ∧ Q (.bool (!t)) s') E s) : wpAny (model prog w) A (call (.builtin "object.__ne__") [.ref x, b]) Q E s := by
  refine wpAny_call (codeAny_call_builtin PySem.F.slot_object_ne.plain PySem.F.entry_object_ne (check_slot (i := "object.__ne__") (owner := "object") (n := "__ne__") (by decide +kernel) (by decide +kernel) (I.type.andThen (looks_mroIn X hm)) (PySem.F.args_object_ne_2 _ _) ?_))
  unfold Builtin.«object.__ne__»
  refine wpAny_bind (m := slotArgs "__ne__" 1 _) (wpAny_pure ?_)
  refine wpAny_bind (m := cRoomFor _ _) (wpAny_cRoomFor hu ?_)
  refine wpAny_bind (m := callSpecialIfBound? (.ref x) (Str.ofString "__eq__") _) (ifBound_K X I hs hf (wpAny_mono h (fun r s' hq => ?_) fun _ _ y => y))
  obtain ⟨t, rfl, q⟩ := hq
  exact wpAny_bind (wpAny_truthy_bool (wpAny_pure q))
open PySem.W in
theorem cmp_ne {Q : Value → Shared → Prop} (hu0 : A.units < cLine) (hu : A.in1.units < cLine) (X : K.In s.heap) (I : InstAt s.heap x ox C od) (hb : Looks (model prog w) s.heap (typeOf b) tb) (hnf : notFirst K C tb = true)
    (hn : findIn K (.ref C) "__ne__" = some (some (.builtin "object.__ne__"))) (hm : mroIn K C (.type "object") = some true)
    (hs : findIn K (.ref C) "__eq__" = some (some (.ref f))) (hf : isFn K (.ref f) = true)
    (h : wpAny (model prog w) A.in1 (call (.ref f) [.ref x, b]) (fun v s' => ∃ t, v = .bool t ∧ Q (.bool (!t)) s') E s) : wpAny (model prog w) A (richCompare .NotEq (.ref x) b) Q E s := by
  have one : wpAny (model prog w) A (tryCompare (.ref x) "__ne__" b) (fun r s' => ∃ v, r = some v ∧ Q v s') E s := by
    unfold tryCompare
    refine wpAny_bind (ifBound_B X I hn PySem.F.slot_object_ne.bind (one_K hu X I hn hm hs hf (wpAny_mono h (fun v s' hv => ?_) fun _ _ e => e)))
    obtain ⟨t, rfl, q⟩ := hv
    exact ⟨t, rfl, wpAny_pure ⟨_, rfl, q⟩⟩
  unfold richCompare
  simp only [oneThing_ref]
  refine wpAny_holding (wpAny_bind (wpAny_cRoomFor hu0 ?_))
  rw [cmpInfo_NotEq]
  dsimp only
  refine wpAny_bind (I.type.here (wpAny_bind (hb.here ?_)))
  split
  · rename_i q
    have e : subIn K tb (.ref C) = some false := by
      rcases Bool.or_eq_true_iff.mp hnf with e | e
      · rw [beq_iff_eq.mp e] at q; simp at q
      · exact beq_iff_eq.mp e
    refine wpAny_bind ((looks_subIn X e).here ?_)
    simp only [Bool.false_eq_true, if_false]
    refine wpAny_bind (wpAny_mono one (fun r s' z => ?_) fun _ _ e => e)
    obtain ⟨v, rfl, hq⟩ := z
    exact wpAny_pure hq
  · refine wpAny_bind (wpAny_pure ?_)
    simp only [Bool.false_eq_true, if_false]
    refine wpAny_bind (wpAny_mono one (fun r s' z => ?_) fun _ _ e => e)
    obtain ⟨v, rfl, hq⟩ := z
    exact wpAny_pure hq
end
/-- the type of what it is compared with -/
inductive TyC (H : Hp) (C : Addr) : V → Value → Prop
  | ins {a dx : Addr} {fs : List (Str × V)} (h : H a = some (.ins C dx fs)) : TyC H C (.ref a) (.ref C)
  | tup {a : Addr} {xs : List V} (h : H a = some (.tup xs)) : TyC H C (.ref a) (.type "tuple")
  | str (x : Str) : TyC H C (.str x) (.type "str")
section
variable {X : Cx} {c : Bool} {k : Nat} {sp : Sp} {C f : Addr} {pins : List (Addr × Obj)} {σ : L2.St} {H : Hp} {s : Shared}
theorem TyC.tx {K : PySem.W.Frag} {y : V} {t : Value} (h : TyC H C y t) (o : OwC K C) (cl : Cls K C) : TyX K H y t := by
  cases h with
  | ins h => exact .base (.ins h cl o.cl o.gt o.tk o.ob)
  | tup h => exact .base (.tup h)
  | str x => exact .base (.str x)
theorem TyC.nf {K : PySem.W.Frag} {y : V} {t : Value} (h : TyC H C y t) (o : OwC K C) : PySem.W.notFirst K C t = true := by
  cases h with
  | ins h => exact notFirst_self
  | tup h => exact o.nt
  | str x => exact o.ns
theorem TyC.looks {y : V} {u t : Value} (h : TyC H C y t) (I : Inv X pins σ H s) (ry : RelV y u) : PySem.W.Looks (model X.prog X.w) s.heap (typeOf u) t := by
  cases h with
  | ins h =>
    obtain rfl : u = Value.ref _ := ry
    obtain ⟨mA, J, _⟩ := ins_get I.hok h
    obtain ⟨od, J, _⟩ := J.look
    exact J.type
  | tup h =>
    obtain rfl : u = Value.ref _ := ry
    obtain ⟨its, r, e, z⟩ := I.tuple (.inl (.inl h))
    obtain ⟨o, ho, hc, _⟩ := e
    exact fun A Q E s k q => wpAny_typeOf_ref (k _ _ ho) (by rw [hc]; exact q)
  | str x =>
    obtain ⟨t, rfl⟩ := ry
    exact PySem.W.Looks.of_pure rfl
/-- a call by a builtin's hand -/
theorem go_fnA {A : Around} {Q : VK} {us : List Value} {vs : List V} (hA : A.frames = X.A.frames) (G : Held c X.prog X.w X.K X.mg X.base k f sp) (hr : Rm c k A)
    (I : Inv X pins σ H s) (r : Vals vs us) (h : sp vs H Q E0) : wpAny (model X.prog X.w) A (call (.ref f) us) (EP X pins σ Q) X.xe s := by
  obtain ⟨fd, ps, ds, dvs, sp0, F, hb, hd, g⟩ := G
  have r2 : Vals (vs ++ dvs) (us ++ ds) := r.append hd
  have h0 := g vs H Q E0 h
  have hl : (us ++ ds).length = ps.length := by
    rw [← r2.length]
    exact F.len _ _ _ _ h0
  have e0 : Env0 X.prog X.w X.K X.mg X.base A X.stack s H := by
    have e := I.env0
    exact ⟨by rw [hA]; exact e.frames, e.mod, e.bs, e.bsz, e.funs, e.frf, e.hok, e.bare⟩
  have core := F.run A X.stack s H ⟨us, []⟩ (us ++ ds) (vs ++ dvs) Q E0 hr e0 (hb s us I.kIn hl) r2 h0
  refine wpAny_call (codeAny_mono core fun r s' hq => ?_)
  match r, hq with
  | .error e, hq => exact arr0 (X := X) (σ := σ) pins H s e s' I hq
  | .ok (.ret u), hq => exact I.after hq
  | .ok .next, hq => exact hq.elim
  | .ok .brk, hq => exact hq.elim
  | .ok .cont, hq => exact hq.elim
def rOwn (K : PySem.W.Frag) (C : Addr) (g : Bool → Bool) (sp : Sp) : R2 := fun x y H Q => ∃ a dx fs t, x = .ref a ∧ H a = some (.ins C dx fs) ∧ TyC H C y t ∧ sp [x, y] H (fun v H' => ∃ b, v = .bl b ∧ Q (.bl (g b)) H') E0
theorem op_ownEq (G : GM c X.prog X.w X.K X.mg X.base C "__eq__" k sp) (o : OwC X.K C) (hr : Rm c k X.A) : OpR X (compareOp .Eq) (rOwn X.K C id sp) := by
  intro pins s σ H x y v u Q I rx ry h
  obtain ⟨a, dx, fs, t, rfl, ha, ty, hsp⟩ := h
  obtain ⟨f, F, hm⟩ := G.ex
  obtain rfl : v = Value.ref a := rx
  obtain ⟨mA, J, _⟩ := ins_get I.hok ha
  obtain ⟨od, J, _⟩ := J.look
  obtain ⟨m, hF⟩ := I.fr
  show wpAny (model X.prog X.w) X.A (richCompare .Eq (.ref a) u) (EP X pins σ Q) X.xe s
  refine PySem.W.cmp_K (op := .Eq) (tb := t) (by have := hr.un; omega) hF I.ok.mod.kin J (ty.looks I ry) (ty.nf o) hm.at_ hm.fn (wpAny_mono (go_fn (us := [.ref a, u]) (vs := [.ref a, y]) F hr arr0 I (.cons rfl (.cons ry .nil)) hsp) (fun w s' hw => ?_) fun _ _ e => e)
  obtain ⟨z, H', I', rz, b, rfl, q⟩ := hw
  obtain rfl : w = Value.bool b := rz
  exact ⟨.bl b, H', I', rfl, q⟩
theorem op_ownNe (G : GM c X.prog X.w X.K X.mg X.base C "__eq__" k sp) (o : OwC X.K C) (hr : Rm c (k + 1) X.A) : OpR X (compareOp .NotEq) (rOwn X.K C not sp) := by
  intro pins s σ H x y v u Q I rx ry h
  obtain ⟨a, dx, fs, t, rfl, ha, ty, hsp⟩ := h
  obtain ⟨f, F, hm⟩ := G.ex
  obtain rfl : v = Value.ref a := rx
  obtain ⟨mA, J, _⟩ := ins_get I.hok ha
  obtain ⟨od, J, _⟩ := J.look
  show wpAny (model X.prog X.w) X.A (richCompare .NotEq (.ref a) u) (EP X pins σ Q) X.xe s
  refine cmp_ne (tb := t) (by have := hr.un; omega) (by have := hr.un; show X.A.units + 1 < _; omega) I.kIn J (ty.looks I ry) (ty.nf o) o.ne o.ob hm.at_ hm.fn (wpAny_mono (go_fnA (A := X.A.in1) (us := [.ref a, u]) (vs := [.ref a, y]) rfl F hr.in1 I (.cons rfl (.cons ry .nil)) hsp) (fun w s' hw => ?_) fun _ _ e => e)
  obtain ⟨z, H', I', rz, b, rfl, q⟩ := hw
  obtain rfl : w = Value.bool b := rz
  exact ⟨b, rfl, .bl (!b), H', I', rfl, q⟩
def rReprO (C : Addr) (sp : Sp) : List V → Hp → VK → Prop := fun xs H Q => ∃ a dx fs, xs = [.ref a] ∧ H a = some (.ins C dx fs) ∧ sp xs H (fun v H' => ∃ z, v = .str z ∧ Q (.str z) H') E0
theorem call_reprO (G : GM c X.prog X.w X.K X.mg X.base C "__repr__" k sp) (hr : Rm c (k + 1) X.A) : CallR X (.builtin "repr") (rReprO C sp) := by
  intro pins s σ H xs us Q I r h
  obtain ⟨a, dx, fs, rfl, ha, hsp⟩ := h
  obtain ⟨u, rfl, ru⟩ := vals1 r
  obtain rfl : u = Value.ref a := ru
  obtain ⟨f, F, hm⟩ := G.ex
  obtain ⟨mA, J, _⟩ := ins_get I.hok ha
  obtain ⟨od, J, _⟩ := J.look
  obtain ⟨m, hF⟩ := I.fr
  refine PySem.W.repr_K (by have := hr.un; show X.A.units + 1 < _; omega) hF I.ok.mod.kin J hm.at_ hm.fn (wpAny_mono (go_fnA (A := X.A.in1) (us := [.ref a]) (vs := [.ref a]) rfl F hr.in1 I (.cons rfl .nil) hsp) (fun w s' hw => ?_) fun _ _ e => e)
  obtain ⟨z, H', I', rz, t, rfl, q⟩ := hw
  obtain ⟨tk, rfl⟩ := rz
  exact ⟨.str t, H', I', ⟨tk, rfl⟩, q⟩
end
section
variable {K : PySem.W.Frag} {σ : L2.St} {H : Hp} {D : Ends} {Q : VK}
theorem rd_lstRg {te : L2.St → Hp → (Int → Int → Hp → Prop) → Prop} (h : te σ H fun a b H1 => RgOk a b ∧ ∀ q, H1 q = none → Q (.ref q) (upd H1 q (.lst (rgV a b)))) : tLstRg te σ H Q := h
theorem rd_rg2 {ta tb : TE} {R : Int → Int → Hp → Prop} (h : ta σ H fun x H1 => tb σ H1 fun y H2 => ∃ i j, x = .int i ∧ y = .int j ∧ R i j H2) : tRg2 ta tb σ H R := h
theorem rd_fmt {te : TE} (h : te σ H fun x H1 => (∃ y : Str, x = .str y ∧ y.length ≤ sizeLine ∧ Q (.str y) H1) ∨ ∃ i : Int, x = .int i ∧ i.natAbs.log2 < 1920 ∧ Q (.str (toString i)) H1) : tFmt te σ H Q := h
theorem rd_js {t : TE} {ts : List TE} {acc : Str} {R : Str → Hp → Prop} (h : t σ H fun x H1 => ∃ y : Str, x = .str y ∧ (acc ++ y).length ≤ sizeLine ∧ tJs ts (acc ++ y) σ H1 R) : tJs (t :: ts) acc σ H R := h
theorem rd_js0 {acc : Str} {R : Str → Hp → Prop} (h : R acc H) : tJs [] acc σ H R := h
end
end GL

namespace GL
open PySem PySem.Spec PyProof.Rows L2 Evl
/-! ## a layout -/
def lfs (s h : Int) : List (Str × V) := [("_slots", .int s), ("_homes", .int h)]
def LyAt (H : Hp) (C a : Addr) (s h : Int) : Prop := ∃ dx, H a = some (.ins C dx (lfs s h))
def tLy (C a : Addr) (s h : Int) : Th := ([a], fun H => LyAt H C a s h)
section
variable {K : PySem.W.Frag} {H0 H H' : Hp} {C a : Addr} {s h : Int} {ts : List Th}
theorem stb_ly : Stb (tLy C a s h) := fun G H H' ⟨dx, e⟩ m nt hd => ⟨dx, m _ _ e (hd a (List.mem_singleton.mpr rfl))⟩
theorem LyAt.exd (l : LyAt H C a s h) (e : Ex H H') : LyAt H' C a s h := let ⟨dx, g⟩ := l; ⟨dx, e _ _ g⟩
theorem LyAt.ne (l : LyAt H C a s h) : H a ≠ none := let ⟨dx, g⟩ := l; by rw [g]; simp
def lynames : List Str := ("_slots" : Str) :: ("_homes" : Str) :: []
theorem lfs_no {m : Str} (h : lynames.elem m = false) : (lfs s h').lookup m = none := by
  have h2 : ∀ y ∈ lynames, m ≠ y := fun y hy e => by
    subst e
    rw [List.elem_iff.mpr hy] at h
    cases h
  have n1 := h2 "_slots" (List.mem_of_getElem? (i := 0) rfl)
  have n2 := h2 "_homes" (List.mem_of_getElem? (i := 1) rfl)
  unfold lfs
  simp only [List.lookup, beq_eq_false_iff_ne.mpr n1, beq_eq_false_iff_ne.mpr n2]
theorem LyAt.self {Z : Prop} {m : Str} (l : LyAt H C a s h) (hm : lynames.elem m = false) (z : Z) : ∃ a' dx fs, V.ref a = .ref a' ∧ H a' = some (.ins C dx fs) ∧ fs.lookup m = none ∧ Z :=
  let ⟨dx, g⟩ := l; ⟨a, dx, _, rfl, g, lfs_no hm, z⟩
theorem LyAt.slots {Z : V → Prop} (l : LyAt H C a s h) (c : Cls K C) (n : NoAttr K C "_slots") (z : Z (.int s)) : ∃ a' C' dx fs v, V.ref a = .ref a' ∧ H a' = some (.ins C' dx fs) ∧ Cls K C' ∧ NoAttr K C' "_slots" ∧ fs.lookup ("_slots" : Str) = some v ∧ Z v :=
  let ⟨dx, g⟩ := l; ⟨a, C, dx, _, _, rfl, g, c, n, rfl, z⟩
theorem LyAt.homes {Z : V → Prop} (l : LyAt H C a s h) (c : Cls K C) (n : NoAttr K C "_homes") (z : Z (.int h)) : ∃ a' C' dx fs v, V.ref a = .ref a' ∧ H a' = some (.ins C' dx fs) ∧ Cls K C' ∧ NoAttr K C' "_homes" ∧ fs.lookup ("_homes" : Str) = some v ∧ Z v :=
  let ⟨dx, g⟩ := l; ⟨a, C, dx, _, _, rfl, g, c, n, rfl, z⟩
theorem Ws.layout (W : Ws H0 H ts) (e : Ex H H') (na : H a = none) (l : LyAt H' C a s h) : Ws H0 H' (ts ++ [tLy C a s h]) :=
  W.new e (fun b hb => by rw [List.mem_singleton.mp hb]; exact na) l stb_ly fun b hb => by rw [List.mem_singleton.mp hb]; exact l.ne
end
def badL (K : PySem.W.Frag) (t : Str) (H : Hp) (E : XK) : Prop := ∀ (H' : Hp) (d : Addr), Ex H H' → H d = none → H' d = some (.xd [("why", .str t)]) → E (.ref (He.ga K "BadLayout")) (some d) H'
section
variable (K : PySem.W.Frag) (C : Addr)
def spLyInit : Sp := fun vs H Q E => ∃ (a dx : Addr) (v w : V) (d e : PyData), vs = [.ref a, v, w] ∧ H a = some (.ins C dx []) ∧ Dq K H v d ∧ Dq K H w e ∧
  (betw d 8 64 = true → betw e 4 32 = true → ∀ H', LyAt H' C a (intOf d) (intOf e) → Mu [a] H H' → Q .non H') ∧
  (betw d 8 64 = false → badL K "slots" H E) ∧ (betw d 8 64 = true → betw e 4 32 = false → badL K "homes" H E)
def spLyGet (g : Int → Int → Int) : Sp := fun vs H Q _ => ∃ (a : Addr) (s h : Int), vs = [.ref a] ∧ LyAt H C a s h ∧ Q (.int (g s h)) H
def spLyBlk (g lim : Int → Int → Int) : Sp := fun vs H Q E => ∃ (a : Addr) (s h : Int) (v : V) (d : PyData), vs = [.ref a, v] ∧ LyAt H C a s h ∧ Dq K H v d ∧
  (betw d 0 (lim s h - 1) = true → Q (.int (g s h + intOf d)) H) ∧ (betw d 0 (lim s h - 1) = false → badC K "BadBlock" "block" v H E)
def spLyEq : Sp := fun vs H Q _ => ∃ (a : Addr) (s h : Int) (y : V), vs = [.ref a, y] ∧ LyAt H C a s h ∧
  ((∃ b s' h', y = .ref b ∧ LyAt H C b s' h' ∧ Q (.bl (decide (s = s') && decide (h = h'))) H) ∨ ∃ t, TyX K H y t ∧ PySem.W.kitOne K t (.ref C) = some false ∧ Q (.bl false) H)
def lyS (s h : Int) : Str := ((((Str.empty ++ ("Layout(" : Str)) ++ Str.ofString (toString s)) ++ (", " : Str)) ++ Str.ofString (toString h)) ++ (")" : Str)
def spLyRepr : Sp := fun vs H Q _ => ∃ (a : Addr) (s h : Int), vs = [.ref a] ∧ LyAt H C a s h ∧ s.natAbs < 1000 ∧ h.natAbs < 1000 ∧ Q (.str (lyS s h)) H
def tail0 : PyData := .tuple [.str "tail", .int 1, .int 0]
def spNewDisk (CD : Addr) : Sp := fun vs H Q _ => ∃ (a : Addr) (s h : Nat), vs = [.ref a] ∧ LyAt H C a (s : Nat) (h : Nat) ∧ s ≤ 64 ∧ h ≤ 32 ∧
  ∀ x F H', Ex H H' → (∀ b ∈ F, H b = none) → DiskAt K H' CD x F ((DS.new (List.replicate (1 + s + h) (.int 0))).wr 0 tail0).fl → Q (.ref x) H'
end
end GL

namespace GL
open PySem PySem.Spec PyProof.Rows L2 Evl
/-! ## whole numbers in a row -/
def rg (a : Int) (n : Nat) : List Int := (List.range n).map fun k : Nat => a + (k : Int)
theorem rg_succ (a : Int) (n : Nat) : rg a (n + 1) = rg a n ++ [a + n] := by unfold rg; rw [List.range_succ, List.map_append]; rfl
theorem rg_app (a : Int) (n : Nat) : ∀ m : Nat, rg a (n + m) = rg a n ++ rg (a + n) m
  | 0 => by simp [rg]
  | m + 1 => by
    rw [show n + (m + 1) = n + m + 1 from rfl, rg_succ, rg_app a n m, rg_succ, List.append_assoc]
    congr 3
    omega
theorem rg_len (a : Int) (n : Nat) : (rg a n).length = n := by unfold rg; rw [List.length_map, List.length_range]
theorem rg_V (a b : Int) : rgV a b = (rg a (b - a).toNat).map V.int := by unfold rgV rg; rw [List.map_map]; rfl
theorem rg_mem {a : Int} {n : Nat} {i : Int} (h : i ∈ rg a n) : a ≤ i ∧ i < a + n := by
  unfold rg at h
  obtain ⟨k, hk, rfl⟩ := List.mem_map.mp h
  have := List.mem_range.mp hk
  omega
theorem log_small {i : Int} (h : i.natAbs < 1000) : i.natAbs.log2 < 1920 := by
  by_cases z : i.natAbs = 0
  · rw [z]; decide
  · have := (Nat.log2_lt z).mpr (show i.natAbs < 2 ^ 10 by omega)
    omega
theorem int_len {i : Int} (h : i.natAbs < 1000) : (Str.ofString (toString i)).length ≤ 25 := shown_int25 (by omega)
theorem fit_app {x y : Str} {a b : Nat} (h : x.length ≤ a) (k : y.length ≤ b) : (x ++ y).length ≤ a + b := by rw [Str.length_append]; omega
theorem fit_ok {x : Str} {a : Nat} (h : x.length ≤ a) (k : a ≤ 100000) : x.length ≤ sizeLine := by rw [sizeLine_eq]; omega
/-! ## what a law does with a layout -/
section
variable (K : PySem.W.Frag) (C : Addr)
def spMade : Sp := fun vs H Q _ => ∃ (v w : V) (d e : PyData), vs = [v, w] ∧ Dq K H v d ∧ Dq K H w e ∧
  (betw d 8 64 = true → betw e 4 32 = true → ∀ a H', Ex H H' → H a = none → LyAt H' C a (intOf d) (intOf e) → Q (.ref a) H') ∧
  (betw d 8 64 = false → ∀ H', Ex H H' → Q (.str "slots") H') ∧ (betw d 8 64 = true → betw e 4 32 = false → ∀ H', Ex H H' → Q (.str "homes") H')
def limB (way s h : Int) : Int := if way = 0 then s else h
def spBadL : Sp := fun vs H Q _ => ∃ (a : Addr) (s h way : Int) (v : V) (d : PyData), vs = [.ref a, .int way, v] ∧ (way = 0 ∨ way = 1) ∧ LyAt H C a s h ∧ Dq K H v d ∧ Sh d ∧ betw d 0 (limB way s h - 1) = false ∧
  ∀ p H', H p = none → Ex H H' → H' p = some (.tup [.str d.shown, .int 1]) → Q (.ref p) H'
def spLies : Sp := fun vs H Q _ => ∃ (a : Addr) (s h : Nat), vs = [.ref a, .int (s : Nat), .int (h : Nat)] ∧ LyAt H C a (s : Nat) (h : Nat) ∧ s ≤ 64 ∧ h ≤ 32 ∧ ∀ H', Ex H H' → Q (.bl true) H'
end
end GL
namespace GL
open PySem PySem.Spec PyProof.Rows L2 Evl
section
variable {K : PySem.W.Frag} {H0 H H' : Hp} {C a b p : Addr} {s h s' h' : Int} {ts : List Th} {Q : VK} {E : XK} {g : Bool → Bool} {t : Bool}
theorem Ws.makeLy {x dx : Addr} (W : Ws H0 H ts) (s1 : 8 ≤ s) (s2 : s ≤ 64) (h1 : 4 ≤ h) (h2 : h ≤ 32) (nx : H x = none) (ndx : H dx = none) (hne : dx ≠ x)
    (k : ∀ H', Ws H0 H' (ts ++ [tLy C x s h]) → Ex H H' → Q .non H') : spLyInit K C [.ref x, .int s, .int h] (upd (upd H dx (.own x)) x (.ins C dx [])) Q E := by
  have e6 : Ex H (upd (upd H dx (.own x)) x (.ins C dx [])) := (Ex.new ndx).trans (Ex.new (by rw [upd_ne hne.symm]; exact nx))
  refine ⟨x, dx, .int s, .int h, .int s, .int h, rfl, upd_same, .inl (.int _), .inl (.int _), fun _ _ H1 l m => ?_, fun z => ?_, fun _ z => ?_⟩
  · have e7 : Ex H H1 := fun b o hb => m b o (e6 b o hb) (by simp; exact ne_of_none hb nx)
    exact k H1 (W.layout e7 nx l) e7
  · rw [betw_to s1 s2] at z; cases z
  · rw [betw_to h1 h2] at z; cases z
theorem LyAt.cmp (la : LyAt H C a s h) (lb : LyAt H C b s' h') (hb : g (decide (s = s') && decide (h = h')) = t) (q : Q (.bl t) H) : rOwn K C g (spLyEq K C) (.ref a) (.ref b) H Q := by
  obtain ⟨dx, ga⟩ := id la
  obtain ⟨dy, gb⟩ := id lb
  subst hb
  exact ⟨a, dx, _, _, rfl, ga, .ins gb, a, s, h, _, rfl, la, .inl ⟨b, s', h', rfl, lb, _, rfl, q⟩⟩
theorem LyAt.cmpT {xs : List V} (o : OwC K C) (la : LyAt H C a s h) (hp : H p = some (.tup xs)) (hb : g false = t) (q : Q (.bl t) H) : rOwn K C g (spLyEq K C) (.ref a) (.ref p) H Q := by
  obtain ⟨dx, ga⟩ := id la
  subst hb
  exact ⟨a, dx, _, _, rfl, ga, .tup hp, a, s, h, _, rfl, la, .inr ⟨_, .base (.tup hp), o.kt, _, rfl, q⟩⟩
theorem LyAt.cmpS {x : Str} (o : OwC K C) (la : LyAt H C a s h) (hb : g false = t) (q : Q (.bl t) H) : rOwn K C g (spLyEq K C) (.ref a) (.str x) H Q := by
  obtain ⟨dx, ga⟩ := id la
  subst hb
  exact ⟨a, dx, _, _, rfl, ga, .str x, a, s, h, _, rfl, la, .inr ⟨_, .base (.str x), o.ks, _, rfl, q⟩⟩
theorem LyAt.repr (la : LyAt H C a s h) (h1 : s.natAbs < 1000) (h2 : h.natAbs < 1000) (q : Q (.str (lyS s h)) H) : rReprO C (spLyRepr C) [.ref a] H Q := by
  obtain ⟨dx, ga⟩ := id la
  exact ⟨a, dx, _, rfl, ga, a, s, h, rfl, la, h1, h2, _, rfl, q⟩
theorem tail_s (n : Nat) : (List.replicate (1 + n) (PyData.int 0)).set 0 tail0 = tail0 :: List.replicate n (.int 0) := by
  rw [Nat.add_comm, List.replicate_succ]
  rfl
theorem tm_tail0 : Tm 1 63 tail0 := by
  refine (Tm.tuple (k := 0) (w := 20) (n := 3) (fun d hd => ?_) (by simp)).mono (by decide) (by decide)
  rcases List.mem_cons.mp hd with e | e
  · rw [e]; exact Tm.str (by decide +kernel) (by decide +kernel)
  rcases List.mem_cons.mp e with e | e
  · rw [e]; exact Tm.int (by decide)
  · rw [List.mem_singleton.mp e]; exact Tm.int (by decide)
end
end GL

namespace GL
open PySem PySem.Spec PyProof.Rows L2 Evl
/-! ## text times a number -/
def rRepS : R2 := fun x y H Q => ∃ z n, x = .str z ∧ y = .int n ∧ MulOk z n ∧ Q (.str (Txt.mul z n)) H
theorem op_repS {X : Cx} : OpR X (binaryOp .Mult) rRepS := by
  intro pins s σ H x y v u Q I rx ry h
  obtain ⟨z, n, rfl, rfl, ok, q⟩ := h
  obtain ⟨t, rfl⟩ := rx
  obtain ⟨t', rfl⟩ := ry
  exact SB.mul ok fun t' k => ⟨.str (Txt.mul z n), H, I.tok _, ⟨_, rfl⟩, q⟩
theorem fold_arr (l : List (Array Nat)) : ∀ acc : Array Nat, (l.foldl (· ++ ·) acc).toList = acc.toList ++ (l.map (·.toList)).flatten := by
  induction l with
  | nil => intro acc; simp
  | cons a l ih => intro acc; rw [List.foldl_cons, ih]; simp
theorem flat_len (c : List Nat) : ∀ n : Nat, (List.replicate n c).flatten.length = n * c.length
  | 0 => by simp
  | n + 1 => by rw [List.replicate_succ, List.flatten_cons, List.length_append, flat_len c n, Nat.add_mul, Nat.one_mul, Nat.add_comm]
theorem mul_size {x : Str} {n : Int} (h : 0 ≤ n) : (Txt.mul x n).cps.size ≤ n.toNat * x.cps.size := by
  unfold Txt.mul
  split
  · exact Nat.zero_le _
  · split
    · rename_i h1 h2
      exact Nat.le_mul_of_pos_left _ (by omega)
    · rw [← Array.length_toList]
      show ((List.replicate n.toNat x.cps).foldl (· ++ ·) #[]).toList.length ≤ _
      rw [fold_arr, List.map_replicate]
      show ([] ++ _ : List Nat).length ≤ _
      rw [List.nil_append, flat_len, Array.length_toList]
      exact Nat.le_refl _
theorem mul_ok {x : Str} {n : Int} (h : PyData.strOk x = true) : PyData.strOk (Txt.mul x n) = true := by
  unfold Txt.mul
  split
  · decide +kernel
  · split
    · exact h
    · unfold PyData.strOk at h ⊢
      rw [Array.all_eq_true_iff_forall_mem] at h ⊢
      intro c hc
      have h2 := Array.mem_toList_iff.mpr hc
      have h2 : c ∈ ((List.replicate n.toNat x.cps).foldl (· ++ ·) #[]).toList := h2
      rw [fold_arr, List.map_replicate] at h2
      obtain ⟨l, hl, hc2⟩ := List.mem_flatten.mp (show c ∈ (List.replicate n.toNat x.cps.toList).flatten from by simpa using h2)
      rw [List.eq_of_mem_replicate hl] at hc2
      exact h c (Array.mem_toList_iff.mp hc2)
theorem q_mul0 : ∀ k ∈ List.range 130, MulOk ("q" : Str) (k : Int) := by
  unfold MulOk
  decide +kernel
theorem q_mul {n : Int} (h0 : 0 ≤ n) (h1 : n < 130) : MulOk ("q" : Str) n ∧ PyData.strOk (Txt.mul ("q" : Str) n) = true ∧ (Txt.mul ("q" : Str) n).cps.size ≤ 130 := by
  obtain ⟨k, rfl⟩ : ∃ k : Nat, n = (k : Int) := ⟨n.toNat, by omega⟩
  refine ⟨q_mul0 k (List.mem_range.mpr (by omega)), mul_ok (by decide +kernel), ?_⟩
  have := mul_size (x := ("q" : Str)) h0
  have e : ("q" : Str).cps.size = 1 := by decide +kernel
  rw [e] at this
  omega
/-! ## a law's own record of a disk: a dict of three lists -/
section
variable {K : PySem.W.Frag} {σ : L2.St} {H : Hp} {D : Ends} {Q : VK}
theorem rd_dget {td ty : TE} (h : td σ H fun x H1 => ty σ H1 fun y H2 => ∃ a v, x = .ref a ∧ DGet H2 a y (some v) ∧ Q v H2) : tDGet td ty σ H Q := h
theorem rd_dput {td ty tv : TE} (h : tv σ H fun v H1 => td σ H1 fun x H2 => ty σ H2 fun y H3 => ∃ a H4, x = .ref a ∧ DPut H3 a y v H4 ∧ D.nx σ H4) : sDPut td ty tv D σ H := h
theorem rd_disp {trs : List (TE × TE)} (h : ∀ p, H p = none → tPairs trs σ (upd H p (.dK [])) fun ps H2 => H2 p = some (.dK []) ∧ ∃ kvs : List (Key × V), ps = kvs.map (fun kv => (kV kv.1, kv.2)) ∧ kvs.length ≤ 15 ∧ Q (.ref p) (upd H2 p (.dK (mergeK [] kvs)))) : tDisp trs σ H Q := h
theorem rd_pairs {tk tv : TE} {r : List (TE × TE)} {R : List (V × V) → Hp → Prop} (h : tk σ H fun x H1 => tv σ H1 fun y H2 => tPairs r σ H2 fun ps H3 => R ((x, y) :: ps) H3) : tPairs ((tk, tv) :: r) σ H R := h
theorem rd_pairs0 {R : List (V × V) → Hp → Prop} (h : R [] H) : tPairs [] σ H R := h
end
def mkv (ps pp pe : Addr) : List (Key × V) := [(.inr ("safe" : Str), .ref ps), (.inr ("pending" : Str), .ref pp), (.inr ("events" : Str), .ref pe)]
section
variable {K : PySem.W.Frag} {H H' : Hp} {pm ps pp pe p : Addr} {D : DS} {F G : List Addr} {Z : V → Prop}
theorem kne1 : ¬ (Sum.inr ("safe" : Str) : Key) = .inr ("pending" : Str) := by decide +kernel
theorem kne2 : ¬ (Sum.inr ("safe" : Str) : Key) = .inr ("events" : Str) := by decide +kernel
theorem kne3 : ¬ (Sum.inr ("pending" : Str) : Key) = .inr ("events" : Str) := by decide +kernel
theorem kne4 : ¬ (Sum.inr ("events" : Str) : Key) = .inr ("pending" : Str) := by decide +kernel
theorem mkv_s : valV (mkv ps pp pe) (.inr ("safe" : Str)) = some (.ref ps) := valV_pos rfl
theorem mkv_p : valV (mkv ps pp pe) (.inr ("pending" : Str)) = some (.ref pp) := (valV_neg kne1).trans (valV_pos rfl)
theorem mkv_e : valV (mkv ps pp pe) (.inr ("events" : Str)) = some (.ref pe) := (valV_neg kne2).trans ((valV_neg kne3).trans (valV_pos rfl))
theorem mkv_put : putK (mkv ps pp pe) (.inr ("pending" : Str)) (.ref p) = mkv ps p pe := by
  unfold putK mkv
  simp only [List.any_cons, List.any_nil, List.map_cons, List.map_nil, decide_eq_false kne1, decide_eq_false kne4, if_neg kne1, if_neg kne4, decide_true, if_true, Bool.false_or, Bool.true_or]
theorem dget_s (g : H pm = some (.dK (mkv ps pp pe))) (q : Z (.ref ps)) : ∃ a v, V.ref pm = .ref a ∧ DGet H a (.str "safe") (some v) ∧ Z v := ⟨pm, _, rfl, by have := DGet.k (k := .inr ("safe" : Str)) g; rw [mkv_s] at this; exact this, q⟩
theorem dget_p (g : H pm = some (.dK (mkv ps pp pe))) (q : Z (.ref pp)) : ∃ a v, V.ref pm = .ref a ∧ DGet H a (.str "pending") (some v) ∧ Z v := ⟨pm, _, rfl, by have := DGet.k (k := .inr ("pending" : Str)) g; rw [mkv_p] at this; exact this, q⟩
theorem dget_e (g : H pm = some (.dK (mkv ps pp pe))) (q : Z (.ref pe)) : ∃ a v, V.ref pm = .ref a ∧ DGet H a (.str "events") (some v) ∧ Z v := ⟨pm, _, rfl, by have := DGet.k (k := .inr ("events" : Str)) g; rw [mkv_e] at this; exact this, q⟩
theorem dput_p {R : Hp → Prop} (g : H pm = some (.dK (mkv ps pp pe))) (q : R (upd H pm (.dK (mkv ps p pe)))) : ∃ a H4, V.ref pm = .ref a ∧ DPut H a (.str "pending") (.ref p) H4 ∧ R H4 :=
  ⟨pm, _, rfl, by have := DPut.k (k := .inr ("pending" : Str)) (v := .ref p) g (by rw [sizeLine_eq]; show 3 < 16777216; decide); rw [mkv_put] at this; exact this, q⟩
structure MAt (K : PySem.W.Frag) (H : Hp) (pm : Addr) (F : List Addr) (D : DS) : Prop where
  ex : ∃ (ps pp pe : Addr) (xs xp xe : List V), F = [pm, ps, pp, pe] ∧ Ob H [(pm, .dK (mkv ps pp pe)), (ps, .lst xs), (pp, .lst xp), (pe, .lst xe)] ∧ DpAll K H xs D.s ∧ DpAll K H xp D.w ∧ DpAll K H xe D.d
  ok : D.Ok
theorem MAt.exd (h : MAt K H pm F D) (e : Ex H H') : MAt K H' pm F D := by
  obtain ⟨⟨ps, pp, pe, xs, xp, xe, hF, O, d1, d2, d3⟩, ok⟩ := h
  exact ⟨⟨ps, pp, pe, xs, xp, xe, hF, O.ex e, dpAll_ex e _ _ d1, dpAll_ex e _ _ d2, dpAll_ex e _ _ d3⟩, ok⟩
theorem MAt.mu (h : MAt K H pm F D) (m : Mu G H H') (nt : NT G H) (hd : ∀ b ∈ F, b ∉ G) : MAt K H' pm F D := by
  obtain ⟨⟨ps, pp, pe, xs, xp, xe, hF, O, d1, d2, d3⟩, ok⟩ := h
  subst hF
  refine ⟨⟨ps, pp, pe, xs, xp, xe, rfl, O.mu m fun q hq => hd q.1 ?_, dpAll_mu m nt _ _ ok.ns d1, dpAll_mu m nt _ _ ok.nw d2, dpAll_mu m nt _ _ ok.nd d3⟩, ok⟩
  have z : q.1 ∈ ([(pm, .dK (mkv ps pp pe)), (ps, .lst xs), (pp, .lst xp), (pe, .lst xe)] : List (Addr × HO)).map (·.1) := List.mem_map_of_mem hq
  exact z
theorem MAt.nt (h : MAt K H pm F D) : NT F H := by
  obtain ⟨⟨ps, pp, pe, xs, xp, xe, hF, O, _⟩, ok⟩ := h
  subst hF
  intro b hb xs hr
  have no : ∀ (o : HO), H b = some o → (∀ y, o ≠ .tup y) → (∀ z y, o ≠ .frz z y) → False := fun o h n1 n2 => by
    rcases hr with q | ⟨z, q⟩
    · rw [h] at q; exact n1 _ (Option.some.inj q)
    · rw [h] at q; exact n2 _ _ (Option.some.inj q)
  simp only [List.mem_cons, List.not_mem_nil, or_false] at hb
  rcases hb with rfl | rfl | rfl | rfl
  · exact no _ (O.get 0) (fun _ z => by cases z) fun _ _ z => by cases z
  · exact no _ (O.get 1) (fun _ z => by cases z) fun _ _ z => by cases z
  · exact no _ (O.get 2) (fun _ z => by cases z) fun _ _ z => by cases z
  · exact no _ (O.get 3) (fun _ z => by cases z) fun _ _ z => by cases z
theorem MAt.mem (h : MAt K H pm F D) : ∀ b ∈ F, H b ≠ none := by
  obtain ⟨⟨ps, pp, pe, xs, xp, xe, hF, O, _⟩, ok⟩ := h
  subst hF
  intro b hb
  simp only [List.mem_cons, List.not_mem_nil, or_false] at hb
  rcases hb with rfl | rfl | rfl | rfl
  · rw [O.get 0]; simp
  · rw [O.get 1]; simp
  · rw [O.get 2]; simp
  · rw [O.get 3]; simp
def tM (K : PySem.W.Frag) (pm : Addr) (F : List Addr) (D : DS) : Th := (F, fun H => MAt K H pm F D)
theorem stb_m : Stb (tM K pm F D) := fun G H H' h m nt hd => MAt.mu h m nt hd
end
/-! ## a step, what is due for it -/
inductive Stp where
  | fl
  | rd (v : V) (d : PyData)
  | wr (v u : V) (d e : PyData)
structure Sh2 (d : PyData) : Prop extends Sh d where
  ts : Tm 0 30 (.str d.shown)
def Stp.at_ (K : PySem.W.Frag) (H : Hp) (p : Addr) : Stp → Prop
  | .fl => H p = some (.tup [.str "flush"])
  | .rd v d => H p = some (.tup [.str "read", v]) ∧ Dq K H v d ∧ Sh2 d
  | .wr v u d e => H p = some (.tup [.str "write", v, u]) ∧ Dq K H v d ∧ Sh2 d ∧ Dq K H u e
def rBlk (d : PyData) : PyData := .tuple [.str "block", .str d.shown]
def Stp.res (D : DS) : Stp → PyData
  | .fl => .none
  | .rd _ d => if blk D d = true then .tuple [.str "value", (D.n[(intOf d).toNat]?).getD .none] else rBlk d
  | .wr _ _ d e => if blk D d = true then (if valOk 8 e = true then .none else .str "bad value") else rBlk d
def Stp.chg (D : DS) : Stp → Bool
  | .fl => true
  | .rd _ _ => false
  | .wr _ _ d e => blk D d && valOk 8 e
def Stp.to (D : DS) : Stp → DS
  | .fl => D.fl
  | .rd _ _ => D
  | .wr _ _ d e => if blk D d = true then (if valOk 8 e = true then D.wr (intOf d) e else D) else D
def Stp.good : Stp → Bool
  | .fl => true
  | .rd _ _ => true
  | .wr _ _ _ e => valOk 8 e
theorem Stp.exd {K : PySem.W.Frag} {H H' : Hp} {p : Addr} (e : Ex H H') : ∀ {st : Stp}, st.at_ K H p → st.at_ K H' p
  | .fl, h => e _ _ h
  | .rd _ _, h => ⟨e _ _ h.1, dq_ex e h.2.1, h.2.2⟩
  | .wr _ _ _ _, h => ⟨e _ _ h.1, dq_ex e h.2.1, h.2.2.1, dq_ex e h.2.2.2⟩
theorem Stp.mu {K : PySem.W.Frag} {H H' : Hp} {p : Addr} {F : List Addr} {D : DS} (m : Mu F H H') (nt : NT F H) (np : p ∉ F) : ∀ {st : Stp}, st.chg D = true → st.at_ K H p → st.at_ K H' p
  | .fl, _, h => m _ _ h np
  | .rd _ _, c, _ => by cases c
  | .wr v u d e, c, h => by
    have c : (blk D d && valOk 8 e) = true := c
    obtain ⟨c1, c2⟩ := Bool.and_eq_true_iff.mp c
    obtain ⟨i, rfl, _⟩ := betw_of c1
    obtain ⟨h1, h2, h3, h4⟩ := h
    obtain rfl := dq_int h2
    exact ⟨m _ _ h1 np, .inl (.int _), h3, .inl (dp_mu m nt _ _ (valOk_noL 8 _ c2) (dq_dp h4 fun kvs z => by rw [z] at c2; simp [valOk] at c2))⟩
section
variable (K : PySem.W.Frag) (C : Addr)
def spTold1 : Sp := fun vs H Q _ => ∃ (a p : Addr) (F : List Addr) (D : DS) (st : Stp), vs = [.ref a, .ref p] ∧ DiskAt K H C a F D ∧ st.at_ K H p ∧ D.d.length ≤ 50000 ∧
  (st.chg D = true → ∀ H' F', DiskAt K H' C a F' (st.to D) → Fr F F' H H' → Q .non H') ∧
  (st.chg D = false → ∀ r H', Ex H H' → Dp K H' r (st.res D) → Q r H')
def spDone : Sp := fun vs H Q _ => ∃ (pm p : Addr) (F : List Addr) (D : DS) (st : Stp), vs = [.ref pm, .ref p, .bl st.good] ∧ MAt K H pm F D ∧ st.at_ K H p ∧ p ∉ F ∧ D.n = setAll D.s D.w ∧ D.d.length ≤ 1000 ∧ D.w.length ≤ 1000 ∧
  (st.chg D = true → ∀ H' F', MAt K H' pm F' (st.to D) → Fr F F' H H' → Q .non H') ∧
  (st.chg D = false → ∀ r H', Ex H H' → Dp K H' r (st.res D) → Q r H')
end
end GL
namespace GL
open PySem PySem.Spec PyProof.Rows L2 Evl
section
variable {X : Cx} {c : Bool} {k : Nat} {pn : List (Addr × Obj)} {xe : Value → Shared → Prop}
theorem ix_seqT : IxR (X.tr pn xe) (rIx X.K) := ix_seq
theorem call_reprT (hr : Rm c k X.A) : CallR (X.tr pn xe) (.builtin "repr") (rRepr X.K) := call_reprD (X := X.tr pn xe) hr
theorem call_isiT : CallR (X.tr pn xe) (.builtin "isinstance") (rIsi X.K) := call_isi
theorem call_lenT : CallR (X.tr pn xe) (.builtin "len") (rLenU X.K) := call_lenU
theorem op_eqT (hr : Rm c k X.A) : OpR (X.tr pn xe) (compareOp .Eq) (rEqU X.K) := op_eqU (X := X.tr pn xe) hr.u64
theorem op_neT (hr : Rm c k X.A) : OpR (X.tr pn xe) (compareOp .NotEq) (rNeU X.K) := op_neU (X := X.tr pn xe) hr.u64
end
end GL

namespace GL
open PySem PySem.Spec PyProof.Rows L2 Evl
/-! ## the newest value of a block: the last one that waits for it, or the durable one -/
def pick (i : Int) (x : PyData) : List PyData := match x with
  | .tuple [.int b, v] => if b = i then [v] else []
  | _ => []
def sel (i : Int) (w : List PyData) : List PyData := (w.map (pick i)).flatten
theorem sel_take {i : Int} {w : List PyData} {j : Nat} {x : PyData} (h : w[j]? = some x) : sel i (w.take (j + 1)) = sel i (w.take j) ++ pick i x := by
  unfold sel
  rw [List.take_succ, h, Option.toList_some, List.map_append, List.flatten_append]
  simp
theorem pick_pW (i b : Int) (v : PyData) : pick i (pW b v) = if b = i then [v] else [] := rfl
theorem last_sel {size : Nat} {i : Int} (i0 : 0 ≤ i) : ∀ (w s : List PyData) (x : PyData), (∀ y ∈ w, isB size y) → s[i.toNat]? = some x → (x :: sel i w).getLast? = (setAll s w)[i.toNat]?
  | [], s, x, _, h => by
    show ([x] : List PyData).getLast? = s[i.toNat]?
    rw [h]; rfl
  | y :: w, s, x, hw, h => by
    obtain ⟨b, v, rfl, b0, b1, hv⟩ := hw y List.mem_cons_self
    have e : sel i (pW b v :: w) = (if b = i then [v] else []) ++ sel i w := rfl
    have e2 : setAll s (pW b v :: w) = setAll (s.set b.toNat v) w := rfl
    rw [e, e2]
    have hl : i.toNat < s.length := (List.getElem?_eq_some_iff.mp h).1
    by_cases z : b = i
    · subst z
      rw [if_pos rfl]
      show (x :: v :: sel b w).getLast? = _
      rw [List.getLast?_cons_cons]
      exact last_sel i0 w _ v (fun y hy => hw y (List.mem_cons_of_mem _ hy)) (by rw [List.getElem?_set, if_pos rfl, if_pos hl])
    · rw [if_neg z, List.nil_append]
      exact last_sel i0 w _ x (fun y hy => hw y (List.mem_cons_of_mem _ hy)) (by rw [List.getElem?_set, if_neg (by omega)]; exact h)
theorem da_last {K : PySem.W.Frag} {H : Hp} : ∀ {vs : List V} {ds : List PyData} (h : vs ≠ []), DpAll K H vs ds → ∃ e, ds.getLast? = some e ∧ Dp K H (vs.getLast h) e
  | [], _, h, _ => absurd rfl h
  | [v], ds, _, d => by
    cases d with
    | cons h1 h2 => cases h2; exact ⟨_, rfl, h1⟩
  | v :: u :: vs, ds, _, d => by
    cases d with
    | cons h1 h2 =>
      cases h2 with
      | cons h3 h4 =>
        obtain ⟨e, h5, h6⟩ := da_last (vs := u :: vs) (List.cons_ne_nil _ _) (.cons h3 h4)
        exact ⟨e, by rw [List.getLast?_cons_cons]; exact h5, by rw [List.getLast_cons (List.cons_ne_nil _ _)]; exact h6⟩
theorem setAll_len {size : Nat} : ∀ (w s : List PyData), (∀ x ∈ w, isB size x) → (setAll s w).length = s.length
  | [], s, _ => rfl
  | x :: w, s, h => by
    obtain ⟨b, v, rfl, _⟩ := h x List.mem_cons_self
    show (setAll (s.set b.toNat v) w).length = _
    rw [setAll_len w _ fun y hy => h y (List.mem_cons_of_mem _ hy), List.length_set]
end GL
namespace GL
open PySem PySem.Spec PyProof.Rows L2 Evl
theorem sel_ok {size : Nat} {i : Int} {w : List PyData} (h : ∀ x ∈ w, isB size x) : valOkAll 8 (sel i w) = true := valOkAll_iff.mpr fun d hd => by
  unfold sel at hd
  obtain ⟨l, hl, hd⟩ := List.mem_flatten.mp hd
  obtain ⟨x, hx, rfl⟩ := List.mem_map.mp hl
  obtain ⟨b, v, rfl, _, _, hv⟩ := h x hx
  rw [pick_pW] at hd
  split at hd
  · rw [List.mem_singleton.mp hd]; exact hv
  · cases hd
def notTup : HO → Bool
  | .tup _ => false
  | .frz _ _ => false
  | _ => true
theorem Ob.nt {H : Hp} {l : List (Addr × HO)} (O : Ob H l) (h : l.all (fun q => notTup q.2) = true) : NT (l.map (·.1)) H := fun b hb xs hr => by
  obtain ⟨q, hq, rfl⟩ := List.mem_map.mp hb
  have e := O.at_ q hq
  have n := List.all_eq_true.mp h q hq
  rcases hr with z | ⟨o, z⟩ <;> rw [e] at z <;> rw [Option.some.inj z] at n <;> cases n
theorem Ob.newX {H H2 : Hp} {l : List (Addr × HO)} {q : Addr} {o : HO} (O : Ob H l) (e : Ex H H2) (nq : H q = none) (gq : H2 q = some o) : Ob H2 (l ++ [(q, o)]) := by
  have hne : ∀ z ∈ l, z.1 ≠ q := fun z hz => ne_of_none (O.at_ z hz) nq
  refine ⟨fun z hz => ?_, ?_⟩
  · rcases List.mem_append.mp hz with y | y
    · exact e _ _ (O.at_ z y)
    · cases List.mem_singleton.mp y
      exact gq
  · rw [List.map_append, List.nodup_append]
    refine ⟨O.nd, by simp, fun x hx y hy => ?_⟩
    obtain ⟨z, hz, rfl⟩ := List.mem_map.mp hx
    have : y = q := by simpa using hy
    subst this
    exact hne z hz
theorem Mu.sub {F G : List Addr} {H H' : Hp} (m : Mu F H H') (h : ∀ b ∈ F, b ∈ G) : Mu G H H' := fun b o hb hn => m b o hb fun z => hn (h b z)
end GL
namespace GL
open PySem PySem.Spec PyProof.Rows L2 Evl
section
variable {X : Cx} {s : Shared} {H : Hp} {sc : Scope} {env : Env} {fp : List Addr} {c : Bool} {k : Nat}
theorem pg_tupB {es : List Expr} {j : Nat} {t : TGs} {n : Nat} {pos : Pos} (hc : X.calm = true) (h : PGs (X.blk s H sc env fp) es t)
    (hn : (assignEach es (X.blk s H sc env fp).env).length = n := by rfl) (hst : (assignEach es (X.blk s H sc env fp).env).findIdx? (·.1) = none := by rfl) : PG (X.blk s H sc env fp) (.Tuple es j pos) (gTup X.K n t) :=
  pg_tup (X := X.blk s H sc env fp) hc h hn hst
theorem ix_seqB : IxR (X.blk s H sc env fp) (rIx X.K) := ix_seq
theorem op_eqB (hr : Rm c k X.A) : OpR (X.blk s H sc env fp) (compareOp .Eq) (rEqU X.K) := op_eqU (X := X.blk s H sc env fp) hr.u64
theorem op_neB (hr : Rm c k X.A) : OpR (X.blk s H sc env fp) (compareOp .NotEq) (rNeU X.K) := op_neU (X := X.blk s H sc env fp) hr.u64
theorem call_lenB : CallR (X.blk s H sc env fp) (.builtin "len") (rLenU X.K) := call_lenU
theorem call_isiB : CallR (X.blk s H sc env fp) (.builtin "isinstance") (rIsi X.K) := call_isi
theorem call_reprB (hr : Rm c k X.A) : CallR (X.blk s H sc env fp) (.builtin "repr") (rRepr X.K) := call_reprD (X := X.blk s H sc env fp) hr
end
end GL

namespace GL
open PySem PySem.Spec PyProof.Rows L2 Evl
/-! ## how much a disk's data weighs -/
theorem wt_app : ∀ (a b : List PyData), PyData.weightAll (a ++ b) = PyData.weightAll a + PyData.weightAll b
  | [], b => by simp [PyData.weightAll]
  | x :: a, b => by simp only [List.cons_append, PyData.weightAll, wt_app a b]; omega
theorem wt_one (x : PyData) : PyData.weightAll [x] = x.weight + 1 := by simp only [PyData.weightAll]
theorem wt_set : ∀ (a : List PyData) (i : Nat) (x : PyData), PyData.weightAll (a.set i x) ≤ PyData.weightAll a + x.weight
  | [], i, x => by simp [PyData.weightAll]
  | y :: a, 0, x => by simp only [List.set_cons_zero, PyData.weightAll]; omega
  | y :: a, i + 1, x => by have := wt_set a i x; simp only [List.set_cons_succ, PyData.weightAll]; omega
theorem wt_pW (b : Int) (v : PyData) : (pW b v).weight = (PyData.int b).weight + 1 + (v.weight + 1) := by simp only [pW, PyData.weight, PyData.weightAll]
theorem wt_setAll {size : Nat} : ∀ (w s : List PyData), (∀ x ∈ w, isB size x) → PyData.weightAll (setAll s w) ≤ PyData.weightAll s + PyData.weightAll w
  | [], s, _ => by simp [setAll, PyData.weightAll]
  | x :: w, s, h => by
    obtain ⟨b, v, rfl, _⟩ := h x List.mem_cons_self
    have e : setAll s (pW b v :: w) = setAll (s.set b.toNat v) w := rfl
    have h1 := wt_setAll w (s.set b.toNat v) fun y hy => h y (List.mem_cons_of_mem _ hy)
    have h2 := wt_set s b.toNat v
    have h3 := wt_pW b v
    rw [e]
    simp only [PyData.weightAll]
    omega
structure Dw (n : Nat) (D : DS) : Prop where
  dv : Dv 3 n D
  hs : D.n = setAll D.s D.w
  w1 : PyData.weightAll D.s + PyData.weightAll D.w ≤ 2688 + 3600 * n
  w2 : PyData.weightAll D.d ≤ 3600 * n
section
variable {n n' : Nat} {D : DS} {b : Int} {v : PyData}
theorem Dw.up (h : Dw n D) (z : n ≤ n') : Dw n' D := ⟨h.dv.up z, h.hs, by have := h.w1; omega, by have := h.w2; omega⟩
theorem Dw.new {size : Nat} (h : size ≤ 128) : Dw 0 (DS.new (List.replicate size (.int 0))) := by
  have t : ∀ d ∈ List.replicate size (PyData.int 0), Tm 0 20 d := fun d hd => by rw [List.eq_of_mem_replicate hd]; exact Tm.int (by decide)
  refine ⟨Dv.new fun y hy => by rw [List.eq_of_mem_replicate hy]; exact (Vd.int (by decide)).up (Nat.zero_le _), rfl, ?_, by show PyData.weightAll [] ≤ _; simp [PyData.weightAll]⟩
  have := (tm_all t).2.2.2.2
  rw [List.length_replicate] at this
  show PyData.weightAll (List.replicate size (.int 0)) + PyData.weightAll [] ≤ _
  have e : PyData.weightAll [] = 0 := by simp [PyData.weightAll]
  omega
theorem Dw.wr (h : Dw n D) (hb : b.natAbs < 1000) (hv : Vd 3 v) : Dw (n + 1) (D.wr b v) := by
  have w3 : wtV 3 = 3549 := by decide
  have a1 := hv.tm.wt
  rw [w3] at a1
  have a2 := (Tm.int (i := b) (by omega)).wt
  have a3 : (PyData.str ("write" : Str)).weight ≤ 20 := (Tm.str (n := 20) (by decide +kernel) (by decide +kernel)).wt
  have p1 := wt_pW b v
  have p2 : (eW b v).weight = (PyData.str ("write" : Str)).weight + 1 + ((PyData.int b).weight + 1 + (v.weight + 1)) := by simp only [eW, PyData.weight, PyData.weightAll]
  refine ⟨h.dv.wr hb hv, ?_, ?_, ?_⟩
  · show D.n.set b.toNat v = setAll D.s (D.w ++ [pW b v])
    rw [setAll_snoc, h.hs]
  · show PyData.weightAll D.s + PyData.weightAll (D.w ++ [pW b v]) ≤ _
    rw [wt_app, wt_one]
    have := h.w1
    omega
  · show PyData.weightAll (D.d ++ [eW b v]) ≤ _
    rw [wt_app, wt_one]
    have := h.w2
    omega
theorem Dw.fl (h : Dw n D) (ok : D.Ok) : Dw (n + 1) D.fl := by
  refine ⟨h.dv.fl, rfl, ?_, ?_⟩
  · show PyData.weightAll D.n + PyData.weightAll [] ≤ _
    have e : PyData.weightAll [] = 0 := by simp [PyData.weightAll]
    rw [h.hs]
    have := wt_setAll D.w D.s ok.bw
    have := h.w1
    omega
  · show PyData.weightAll (D.d ++ [eF]) ≤ _
    rw [wt_app, wt_one]
    have a := (tm_eF (k := 1) (w := 30) (by decide) (by decide)).wt
    have := h.w2
    omega
theorem Dw.to (h : Dw n D) (ok : D.Ok) : ∀ {st : Stp}, st.chg D = true → (∀ v u d e, st = .wr v u d e → Vd 3 e) → Dw (n + 1) (st.to D)
  | .fl, _, _ => h.fl ok
  | .rd _ _, c, _ => by cases c
  | .wr v u d e, c, hv => by
    have c : (blk D d && valOk 8 e) = true := c
    obtain ⟨c1, c2⟩ := Bool.and_eq_true_iff.mp c
    obtain ⟨i, rfl, i0, i1⟩ := betw_of c1
    show Dw (n + 1) (if blk D (.int i) = true then (if valOk 8 e = true then D.wr (intOf (.int i)) e else D) else D)
    rw [if_pos c1, if_pos c2]
    have := ok.hi
    exact h.wr (by show i.natAbs < 1000; omega) (hv _ _ _ _ rfl)
end
theorem Stp.same {D : DS} : ∀ {st : Stp}, st.chg D = false → st.to D = D
  | .fl, c => by cases c
  | .rd _ _, _ => rfl
  | .wr v u d e, c => by
    have c : (blk D d && valOk 8 e) = false := c
    show (if blk D d = true then (if valOk 8 e = true then D.wr (intOf d) e else D) else D) = D
    by_cases h1 : blk D d = true
    · rw [if_pos h1, if_neg (fun h2 => by rw [h1, h2] at c; cases c)]
    · rw [if_neg h1]
theorem Stp.to_f {D : DS} : ∀ {st : Stp}, (st.to D).f = D.f
  | .fl => rfl
  | .rd _ _ => rfl
  | .wr v u d e => by
    show (if blk D d = true then (if valOk 8 e = true then D.wr (intOf d) e else D) else D).f = D.f
    split
    · split <;> rfl
    · rfl
theorem tm_exact {k w : Nat} {ds : List PyData} (h : ∀ d ∈ ds, Tm k w d) : Tm (k + 1) (PyData.weightAll ds) (.list ds) := by
  obtain ⟨a, b, c, e, f⟩ := tm_all h
  refine ⟨by simpa [PyData.canLay0] using a, by simpa [PyData.intsShort] using b, by simpa [PyData.showable] using c, by simp only [PyData.depth]; omega, ?_⟩
  simp only [PyData.weight]
  exact Nat.le_refl _
def seen4 (D : DS) : PyData := .list [.list D.w, .list D.s, .list D.d, .int (D.f.length : Nat)]
def seen3w (D : DS) : PyData := .list [.list D.w, .list D.s, .list D.d]
section
variable {n : Nat} {D : DS}
theorem Dv.t3 (h : Dv 3 n D) : (∀ x ∈ D.w, Tm 4 10000 x) ∧ (∀ x ∈ D.s, Tm 4 10000 x) ∧ (∀ x ∈ D.d, Tm 4 20000 x) := by
  have w3 : wtV 3 ≤ 3549 := by decide
  refine ⟨fun x hx => ?_, fun x hx => (h.vs x hx).tm.mono (by decide) (Nat.le_trans w3 (by decide)), fun x hx => ?_⟩
  · obtain ⟨b, v, rfl, hb, hv⟩ := h.vw x hx
    exact (tm_pW (by omega) (hv.tm.mono (Nat.le_refl _) w3) (by decide)).mono (by decide) (by decide)
  · rcases h.vd x hx with ⟨b, v, rfl, hb, hv⟩ | rfl
    · exact (tm_eW (by omega) (hv.tm.mono (Nat.le_refl _) w3) (by decide)).mono (by decide) (by decide)
    · exact tm_eF (by decide) (by decide)
theorem Dw.t4 (h : Dw 61 D) (hl : D.f.length ≤ 128) : Tm 6 600000 (seen4 D) ∧ Tm 6 600000 (seen3w D) := by
  obtain ⟨tw, ts, td⟩ := h.dv.t3
  have a := tm_exact tw
  have b := tm_exact ts
  have c := tm_exact td
  have d := (Tm.int (i := (D.f.length : Nat)) (by omega)).mono (k' := 5) (w' := 20) (by decide) (by decide)
  have h1 := h.w1
  have h2 := h.w2
  refine ⟨⟨?_, ?_, ?_, ?_, ?_⟩, (tm_list3w a b c).mono (by decide) (by omega)⟩
  · simp [seen4, PyData.canLay0, PyData.canLayAll0, a.lay, b.lay, c.lay, d.lay]
    have := a.lay; have := b.lay; have := c.lay; simp_all [PyData.canLay0]
  · have := a.iS; have := b.iS; have := c.iS; have := d.iS
    simp_all [seen4, PyData.intsShort, PyData.intsShortAll]
  · have := a.show_; have := b.show_; have := c.show_; have := d.show_
    simp_all [seen4, PyData.showable, PyData.showableAll]
  · have := a.dep; have := b.dep; have := c.dep; have := d.dep
    simp only [seen4, PyData.depth, PyData.depthAll] at *
    omega
  · have := a.wt; have := b.wt; have := c.wt; have := d.wt
    simp only [seen4, PyData.weight, PyData.weightAll] at *
    omega
theorem Dw.res (h : Dw n D) : ∀ {st : Stp}, st.chg D = false → (∀ v d, st = .rd v d → Sh2 d) → (∀ v u d e, st = .wr v u d e → Sh2 d) → Tm 5 20000 (st.res D)
  | .fl, c, _, _ => by cases c
  | .rd v d, _, s1, _ => by
    show Tm 5 20000 (if blk D d = true then .tuple [.str "value", (D.n[(intOf d).toNat]?).getD .none] else rBlk d)
    have w3 : wtV 3 ≤ 3549 := by decide
    split
    · refine (Tm.tuple (k := 3) (w := 3549) (n := 2) (fun y hy => ?_) (by simp)).mono (by decide) (by decide)
      rcases List.mem_cons.mp hy with e | e
      · rw [e]; exact (Tm.str (n := 20) (by decide +kernel) (by decide +kernel)).mono (by decide) (by decide)
      · rw [List.mem_singleton.mp e]
        cases z : D.n[(intOf d).toNat]? with
        | none => exact Tm.none.mono (by decide) (by decide)
        | some x => exact (h.dv.vn x (List.mem_of_getElem? z)).tm.mono (Nat.le_refl _) w3
    · refine (Tm.tuple (k := 0) (w := 30) (n := 2) (fun y hy => ?_) (by simp)).mono (by decide) (by decide)
      rcases List.mem_cons.mp hy with e | e
      · rw [e]; exact Tm.str (by decide +kernel) (by decide +kernel)
      · rw [List.mem_singleton.mp e]; exact (s1 v d rfl).ts
  | .wr v u d e, _, _, s2 => by
    show Tm 5 20000 (if blk D d = true then (if valOk 8 e = true then .none else .str "bad value") else rBlk d)
    split
    · split
      · exact Tm.none.mono (by decide) (by decide)
      · exact (Tm.str (n := 20) (by decide +kernel) (by decide +kernel)).mono (by decide) (by decide)
    · refine (Tm.tuple (k := 0) (w := 30) (n := 2) (fun y hy => ?_) (by simp)).mono (by decide) (by decide)
      rcases List.mem_cons.mp hy with e | e
      · rw [e]; exact Tm.str (by decide +kernel) (by decide +kernel)
      · rw [List.mem_singleton.mp e]; exact (s2 v u d _ rfl).ts
end
def spStands (K : PySem.W.Frag) (C : Addr) : Sp := fun vs H Q _ => ∃ (a pm : Addr) (F G : List Addr) (D : DS), vs = [.ref a, .ref pm] ∧ DiskAt K H C a F D ∧ MAt K H pm G D ∧ Tm 6 600000 (seen4 D) ∧ Tm 6 600000 (seen3w D) ∧ D.d.length ≤ 1000 ∧ ∀ H', Ex H H' → Q (.bl true) H'
end GL
namespace GL
open PySem PySem.Spec PyProof.Rows L2 Evl
theorem mkv_merge {ps pp pe : Addr} : mergeK [] (mkv ps pp pe) = mkv ps pp pe := by
  have k1 : ¬ (Sum.inr ("pending" : Str) : Key) = .inr ("safe" : Str) := by decide +kernel
  have k2 : ¬ (Sum.inr ("events" : Str) : Key) = .inr ("safe" : Str) := by decide +kernel
  unfold mergeK mkv
  simp only [List.foldl_cons, List.foldl_nil, putK, List.any_nil, List.any_cons, decide_eq_false kne1, decide_eq_false kne2, decide_eq_false kne3, Bool.false_or, Bool.false_eq_true, if_false, List.nil_append, List.cons_append]
end GL

namespace GL
open PySem PySem.Spec PyProof.Rows L2 Evl

/-! ## trees: what stands in the heap, seen as values; objects that may change bear their addresses -/
inductive Tr where
  | dat (d : PyData)
  | val (v : V)
  | scr (ns : List Int)
  | tup (xs : List Tr)
  | lst (p : Addr) (xs : List Tr)
  | dct (p : Addr) (kvs : List (Key × Tr))
  | ins (p C : Addr) (fs : List (Str × Tr))
abbrev Trs := List Tr
namespace Tr
abbrev ref (p : Addr) : Tr := .val (.ref p)
abbrev int (i : Int) : Tr := .dat (.int i)
abbrev str (x : Str) : Tr := .dat (.str x)
abbrev bl (b : Bool) : Tr := .dat (.bool b)
abbrev non : Tr := .dat .none
end Tr
mutual
/-- seen from outside: an object is its address -/
def vo : Tr → Tr
  | .dat d => .dat d
  | .val v => .val v
  | .scr ns => .scr ns
  | .tup xs => .tup (voL xs)
  | .lst p _ => .val (.ref p)
  | .dct p _ => .val (.ref p)
  | .ins p _ _ => .val (.ref p)
def voL : List Tr → List Tr
  | [] => []
  | t :: r => vo t :: voL r
end
def voK (l : List (Key × Tr)) : List (Key × Tr) := l.map fun q => (q.1, vo q.2)
def voF (l : List (Str × Tr)) : List (Str × Tr) := l.map fun q => (q.1, vo q.2)
mutual
/-- the objects in a tree, each with its parts seen from outside -/
def nds : Tr → List Tr
  | .dat _ => []
  | .val _ => []
  | .scr _ => []
  | .tup xs => ndsL xs
  | .lst p xs => .lst p (voL xs) :: ndsL xs
  | .dct p kvs => .dct p (voK kvs) :: ndsK kvs
  | .ins p C fs => .ins p C (voF fs) :: ndsF fs
def ndsL : List Tr → List Tr
  | [] => []
  | t :: r => nds t ++ ndsL r
def ndsK : List (Key × Tr) → List Tr
  | [] => []
  | (_, t) :: r => nds t ++ ndsK r
def ndsF : List (Str × Tr) → List Tr
  | [] => []
  | (_, t) :: r => nds t ++ ndsF r
end
def adr : Tr → Addr
  | .lst p _ => p
  | .dct p _ => p
  | .ins p _ _ => p
  | _ => 0
theorem voL_map : ∀ l : List Tr, voL l = l.map vo
  | [] => rfl
  | t :: r => by rw [voL, voL_map r]; rfl
theorem ndsK_eq : ∀ l : List (Key × Tr), ndsK l = ndsL (l.map (·.2))
  | [] => by simp [ndsK, ndsL]
  | (_, t) :: r => by simp [ndsK, ndsL, ndsK_eq r]
theorem ndsF_eq : ∀ l : List (Str × Tr), ndsF l = ndsL (l.map (·.2))
  | [] => by simp [ndsF, ndsL]
  | (_, t) :: r => by simp [ndsF, ndsL, ndsF_eq r]
theorem ndsL_app : ∀ (a b : List Tr), ndsL (a ++ b) = ndsL a ++ ndsL b
  | [], b => by simp [ndsL]
  | t :: a, b => by simp [ndsL, ndsL_app a b]
mutual
theorem vo_vo : ∀ t : Tr, vo (vo t) = vo t
  | .dat _ => by simp [vo]
  | .val _ => by simp [vo]
  | .scr _ => by simp [vo]
  | .tup xs => by simp [vo, voL_voL xs]
  | .lst _ _ => by simp [vo]
  | .dct _ _ => by simp [vo]
  | .ins _ _ _ => by simp [vo]
theorem voL_voL : ∀ l : List Tr, voL (voL l) = voL l
  | [] => rfl
  | t :: r => by simp [voL, vo_vo t, voL_voL r]
end

/-! ## what a tree says of a value: S, what stands still -/
mutual
/-- data whose lists were made by the program itself -/
inductive Dr (K : PySem.W.Frag) (H : Hp) : V → PyData → Prop
  | non : Dr K H .non .none
  | bl (b : Bool) : Dr K H (.bl b) (.bool b)
  | int (i : Int) : Dr K H (.int i) (.int i)
  | str (x : Str) : Dr K H (.str x) (.str x)
  | lst {a : Addr} {xs : List V} {ds : List PyData} : Rd H a (.lst xs) → DrAll K H xs ds → Dr K H (.ref a) (.list ds)
  | tup {a : Addr} {xs : List V} {ds : List PyData} : SqT K H a xs → DrAll K H xs ds → Dr K H (.ref a) (.tuple ds)
  | dct0 {a : Addr} : Rd H a (.dK []) → Dr K H (.ref a) (.dict [])
inductive DrAll (K : PySem.W.Frag) (H : Hp) : List V → List PyData → Prop
  | nil : DrAll K H [] []
  | cons {v : V} {vs : List V} {d : PyData} {ds : List PyData} : Dr K H v d → DrAll K H vs ds → DrAll K H (v :: vs) (d :: ds)
end
section
variable {K : PySem.W.Frag} {H H' : Hp}
mutual
theorem Dr.dp : ∀ {d : PyData} {v : V}, d.hasDict = false → Dr K H v d → Dp K H v d
  | .none, _, _, .non => .non
  | .bool _, _, _, .bl _ => .bl _
  | .int _, _, _, .int _ => .int _
  | .str _, _, _, .str _ => .str _
  | .list _, _, n, .lst h r => .lst (.inl h) (DrAll.dp (by simpa only [PyData.hasDict] using n) r)
  | .tuple _, _, n, .tup h r => .tup h (DrAll.dp (by simpa only [PyData.hasDict] using n) r)
  | .dict _, _, n, _ => by simp [PyData.hasDict] at n
theorem DrAll.dp : ∀ {ds : List PyData} {vs : List V}, PyData.hasDictAll ds = false → DrAll K H vs ds → DpAll K H vs ds
  | [], _, _, .nil => .nil
  | _ :: _, _, n, .cons h r => by
    simp only [PyData.hasDictAll, Bool.or_eq_false_iff] at n
    exact .cons (Dr.dp n.1 h) (DrAll.dp n.2 r)
end
mutual
theorem Dr.ex (e : Ex H H') : ∀ {d : PyData} {v : V}, Dr K H v d → Dr K H' v d
  | .none, _, .non => .non
  | .bool _, _, .bl _ => .bl _
  | .int _, _, .int _ => .int _
  | .str _, _, .str _ => .str _
  | .list _, _, .lst h r => .lst (ex_rd e h) (DrAll.ex e r)
  | .tuple _, _, .tup h r => .tup (ex_t e h) (DrAll.ex e r)
  | .dict _, _, .dct0 h => .dct0 (ex_rd e h)
theorem DrAll.ex (e : Ex H H') : ∀ {ds : List PyData} {vs : List V}, DrAll K H vs ds → DrAll K H' vs ds
  | [], _, .nil => .nil
  | _ :: _, _, .cons h r => .cons (Dr.ex e h) (DrAll.ex e r)
end
theorem DrAll.len : ∀ {ds : List PyData} {vs : List V}, DrAll K H vs ds → ds.length = vs.length
  | [], _, .nil => rfl
  | _ :: _, _, .cons _ r => by simp [DrAll.len r]
end
mutual
inductive Rt (K : PySem.W.Frag) (S : Hp) : Tr → V → Prop
  | dat {d : PyData} {v : V} (h : Dr K S v d) : Rt K S (.dat d) v
  | val {v : V} : Rt K S (.val v) v
  | scr {ns : List Int} {a : Addr} (h : SqL K S a (ns.map V.int)) : Rt K S (.scr ns) (.ref a)
  | tup {xs : List Tr} {a : Addr} {vs : List V} (h : SqT K S a vs) (r : RtL K S xs vs) : Rt K S (.tup xs) (.ref a)
  | lst {p : Addr} {xs : List Tr} : Rt K S (.lst p xs) (.ref p)
  | dct {p : Addr} {kvs : List (Key × Tr)} : Rt K S (.dct p kvs) (.ref p)
  | ins {p C : Addr} {fs : List (Str × Tr)} : Rt K S (.ins p C fs) (.ref p)
inductive RtL (K : PySem.W.Frag) (S : Hp) : List Tr → List V → Prop
  | nil : RtL K S [] []
  | cons {t : Tr} {v : V} {ts : List Tr} {vs : List V} (h : Rt K S t v) (r : RtL K S ts vs) : RtL K S (t :: ts) (v :: vs)
end
section
variable {K : PySem.W.Frag} {S S' : Hp}
mutual
theorem Rt.ex (e : Ex S S') : ∀ {t : Tr} {v : V}, Rt K S t v → Rt K S' t v
  | .dat _, _, .dat h => .dat (h.ex e)
  | .val _, _, .val => .val
  | .scr _, _, .scr h => .scr (ex_l e h)
  | .tup xs, _, .tup h r => .tup (ex_t e h) (RtL.ex e r)
  | .lst _ _, _, .lst => .lst
  | .dct _ _, _, .dct => .dct
  | .ins _ _ _, _, .ins => .ins
theorem RtL.ex (e : Ex S S') : ∀ {ts : List Tr} {vs : List V}, RtL K S ts vs → RtL K S' ts vs
  | [], _, .nil => .nil
  | _ :: _, _, .cons h r => .cons (Rt.ex e h) (RtL.ex e r)
end
mutual
theorem Rt.vo : ∀ {t : Tr} {v : V}, Rt K S t v → Rt K S (GL.vo t) v
  | .dat _, _, h => by rw [GL.vo]; exact h
  | .val _, _, h => by rw [GL.vo]; exact h
  | .scr _, _, h => by rw [GL.vo]; exact h
  | .tup xs, _, .tup h r => by rw [GL.vo]; exact .tup h (RtL.vo r)
  | .lst _ _, _, .lst => by rw [GL.vo]; exact .val
  | .dct _ _, _, .dct => by rw [GL.vo]; exact .val
  | .ins _ _ _, _, .ins => by rw [GL.vo]; exact .val
theorem RtL.vo : ∀ {ts : List Tr} {vs : List V}, RtL K S ts vs → RtL K S (voL ts) vs
  | [], _, .nil => .nil
  | _ :: _, _, .cons h r => .cons (Rt.vo h) (RtL.vo r)
end
mutual
theorem Rt.unvo : ∀ {t : Tr} {v : V}, Rt K S (GL.vo t) v → Rt K S t v
  | .dat _, _, h => by rw [GL.vo] at h; exact h
  | .val _, _, h => by rw [GL.vo] at h; exact h
  | .scr _, _, h => by rw [GL.vo] at h; exact h
  | .tup xs, _, h => by
    rw [GL.vo] at h
    cases h with
    | tup h r => exact .tup h (RtL.unvo r)
  | .lst _ _, _, h => by rw [GL.vo] at h; cases h; exact .lst
  | .dct _ _, _, h => by rw [GL.vo] at h; cases h; exact .dct
  | .ins _ _ _, _, h => by rw [GL.vo] at h; cases h; exact .ins
theorem RtL.unvo : ∀ {ts : List Tr} {vs : List V}, RtL K S (voL ts) vs → RtL K S ts vs
  | [], _, h => by cases h; exact .nil
  | _ :: _, _, h => by
    cases h with
    | cons h r => exact .cons (Rt.unvo h) (RtL.unvo r)
end
theorem RtL.len : ∀ {ts : List Tr} {vs : List V}, RtL K S ts vs → ts.length = vs.length
  | [], _, .nil => rfl
  | _ :: _, _, .cons _ r => by simp [RtL.len r]
theorem RtL.get : ∀ {ts : List Tr} {vs : List V} {i : Nat} {t : Tr}, RtL K S ts vs → ts[i]? = some t → ∃ v, vs[i]? = some v ∧ Rt K S t v
  | [], _, _, _, .nil, e => by simp at e
  | _ :: _, _, 0, _, .cons h _, e => by simp at e; subst e; exact ⟨_, rfl, h⟩
  | _ :: _, _, i + 1, t, .cons _ r, e => by
    obtain ⟨v, h1, h2⟩ := RtL.get (i := i) (t := t) r (by simpa using e)
    exact ⟨v, by simpa using h1, h2⟩
theorem RtL.getV : ∀ {ts : List Tr} {vs : List V} {i : Nat} {v : V}, RtL K S ts vs → vs[i]? = some v → ∃ t, ts[i]? = some t ∧ Rt K S t v
  | [], _, _, _, .nil, e => by simp at e
  | _ :: _, _, 0, _, .cons h _, e => by simp at e; subst e; exact ⟨_, rfl, h⟩
  | _ :: _, _, i + 1, v, .cons _ r, e => by
    obtain ⟨t, h1, h2⟩ := RtL.getV (i := i) (v := v) r (by simpa using e)
    exact ⟨t, by simpa using h1, h2⟩
theorem RtL.app : ∀ {a b : List Tr} {x y : List V}, RtL K S a x → RtL K S b y → RtL K S (a ++ b) (x ++ y)
  | [], _, _, _, .nil, h => h
  | _ :: _, _, _, _, .cons h r, q => .cons h (RtL.app r q)
theorem RtL.set {t : Tr} {v : V} (h : Rt K S t v) : ∀ {ts : List Tr} {vs : List V} (i : Nat), RtL K S ts vs → RtL K S (ts.set i t) (vs.set i v)
  | [], _, _, .nil => .nil
  | _ :: _, _, 0, .cons _ r => .cons h r
  | _ :: _, _, i + 1, .cons q r => .cons q (RtL.set h i r)
theorem RtL.take : ∀ {ts : List Tr} {vs : List V} (n : Nat), RtL K S ts vs → RtL K S (ts.take n) (vs.take n)
  | _, _, 0, _ => by simp; exact .nil
  | [], _, _ + 1, .nil => .nil
  | _ :: _, _, n + 1, .cons h r => .cons h (RtL.take n r)
theorem RtL.drop : ∀ {ts : List Tr} {vs : List V} (n : Nat), RtL K S ts vs → RtL K S (ts.drop n) (vs.drop n)
  | _, _, 0, r => r
  | [], _, _ + 1, .nil => .nil
  | _ :: _, _, n + 1, .cons _ r => RtL.drop n r
theorem RtL.one {t : Tr} {v : V} (h : Rt K S t v) : RtL K S [t] [v] := .cons h .nil
theorem RtL.congr : ∀ {a b : List Tr} {x : List V}, voL a = voL b → RtL K S a x → RtL K S b x := fun e h => by
  have z := h.vo
  rw [e] at z
  exact z.unvo
theorem RtL.dats : ∀ {ds : List PyData} {vs : List V}, DrAll K S vs ds → RtL K S (ds.map .dat) vs
  | [], _, .nil => .nil
  | _ :: _, _, .cons h r => .cons (.dat h) (RtL.dats r)
theorem RtL.undats : ∀ {ds : List PyData} {vs : List V}, RtL K S (ds.map .dat) vs → DrAll K S vs ds
  | [], _, .nil => .nil
  | _ :: _, _, .cons (.dat h) r => .cons h (RtL.undats r)
end

/-! ## the objects hold -/
def NdOk (K : PySem.W.Frag) (S H : Hp) : Tr → Prop
  | .lst p xs => ∃ vs, H p = some (.lst vs) ∧ RtL K S xs vs
  | .dct p kvs => ∃ ps : List (Key × V), H p = some (.dK ps) ∧ ps.map (·.1) = kvs.map (·.1) ∧ RtL K S (kvs.map (·.2)) (ps.map (·.2))
  | .ins p C fs => ∃ (dx : Addr) (ps : List (Str × V)), H p = some (.ins C dx ps) ∧ ps.map (·.1) = fs.map (·.1) ∧ RtL K S (fs.map (·.2)) (ps.map (·.2))
  | _ => False
def hid (H : Hp) (O : List Addr) : Hp := fun b => if b ∈ O then none else H b
theorem hid_some {H : Hp} {O : List Addr} {b : Addr} {o : HO} (h : hid H O b = some o) : H b = some o ∧ b ∉ O := by
  unfold hid at h
  split at h
  · cases h
  · exact ⟨h, by assumption⟩
theorem hid_of {H : Hp} {O : List Addr} {b : Addr} {o : HO} (h : H b = some o) (n : b ∉ O) : hid H O b = some o := by unfold hid; rw [if_neg n]; exact h
theorem hid_ex {H : Hp} {O : List Addr} : Ex (hid H O) H := fun _ _ h => (hid_some h).1
theorem NdOk.at_ {K : PySem.W.Frag} {S H : Hp} : ∀ {t : Tr}, NdOk K S H t → ∃ o, H (adr t) = some o
  | .lst p xs, ⟨vs, h, _⟩ => ⟨_, h⟩
  | .dct p kvs, ⟨ps, h, _⟩ => ⟨_, h⟩
  | .ins p C fs, ⟨dx, ps, h, _⟩ => ⟨_, h⟩
  | .dat _, h => h.elim
  | .val _, h => h.elim
  | .scr _, h => h.elim
  | .tup _, h => h.elim
theorem NdOk.to {K : PySem.W.Frag} {S S' H H' : Hp} (e : Ex S S') : ∀ {t : Tr}, NdOk K S H t → H' (adr t) = H (adr t) → NdOk K S' H' t
  | .lst p xs, ⟨vs, h, r⟩, k => ⟨vs, (show H' p = H p from k).trans h, r.ex e⟩
  | .dct p kvs, ⟨ps, h, n, r⟩, k => ⟨ps, (show H' p = H p from k).trans h, n, r.ex e⟩
  | .ins p C fs, ⟨dx, ps, h, n, r⟩, k => ⟨dx, ps, (show H' p = H p from k).trans h, n, r.ex e⟩
  | .dat _, h, _ => h.elim
  | .val _, h, _ => h.elim
  | .scr _, h, _ => h.elim
  | .tup _, h, _ => h.elim
/-- the state: the trees ts stand in H; O: what may change (the trees' objects, and the rest's RH); S0: what stood still at the start -/
structure Sta (K : PySem.W.Frag) (S0 RH H : Hp) (O : List Addr) (ts : List Tr) : Prop where
  nd : ∀ n ∈ ndsL ts, NdOk K (hid H O) H n
  no : ((ndsL ts).map adr).Nodup
  io : ∀ n ∈ ndsL ts, adr n ∈ O
  rh : ∀ b o, RH b = some o → b ∈ O ∧ H b = some o ∧ ∀ n ∈ ndsL ts, adr n ≠ b
  ex : Ex S0 (hid H O)
  lv : ∀ b ∈ O, H b ≠ none
section
variable {K : PySem.W.Frag} {S0 RH H : Hp} {O : List Addr} {ts us : List Tr}
/-- the same objects, seen otherwise; some forgotten -/
theorem Sta.re (s : Sta K S0 RH H O ts) (h : ∀ n ∈ ndsL us, n ∈ ndsL ts) (nd : ((ndsL us).map adr).Nodup) : Sta K S0 RH H O us :=
  ⟨fun n hn => s.nd n (h n hn), nd, fun n hn => s.io n (h n hn), fun b o q => ⟨(s.rh b o q).1, (s.rh b o q).2.1, fun n hn => (s.rh b o q).2.2 n (h n hn)⟩, s.ex, s.lv⟩
theorem Sta.perm (s : Sta K S0 RH H O ts) (h : (ndsL ts).Perm (ndsL us)) : Sta K S0 RH H O us :=
  s.re (fun n hn => h.mem_iff.mpr hn) ((h.map adr).nodup_iff.mp s.no)
theorem Sta.sub (s : Sta K S0 RH H O ts) {r : List Tr} (h : (ndsL ts).Perm (ndsL us ++ r)) : Sta K S0 RH H O us := by
  refine s.re (fun n hn => h.mem_iff.mpr (List.mem_append_left _ hn)) ?_
  have z := (h.map adr).nodup_iff.mp s.no
  rw [List.map_append] at z
  exact (List.nodup_append.mp z).1
theorem Sta.drop (s : Sta K S0 RH H O (ts ++ us)) : Sta K S0 RH H O ts := s.sub (by rw [ndsL_app])
theorem Sta.base {S1 : Hp} (s : Sta K S0 RH H O ts) (e : Ex S1 S0) : Sta K S1 RH H O ts := ⟨s.nd, s.no, s.io, s.rh, e.trans s.ex, s.lv⟩
theorem Sta.here (s : Sta K S0 RH H O ts) : Sta K (hid H O) RH H O ts := ⟨s.nd, s.no, s.io, s.rh, Ex.refl _, s.lv⟩
theorem Sta.notNone (s : Sta K S0 RH H O ts) {n : Tr} (hn : n ∈ ndsL ts) : H (adr n) ≠ none := by
  obtain ⟨o, h⟩ := (s.nd n hn).at_
  rw [h]; simp
end
/-- a new thing stands still: what stood still does -/
theorem hid_new {H : Hp} {O : List Addr} {p : Addr} {o : HO} (h : H p = none) : Ex (hid H O) (hid (upd H p o) O) := fun b u e => by
  obtain ⟨h1, h2⟩ := hid_some e
  exact hid_of (by rw [upd_ne (ne_of_none h1 h)]; exact h1) h2
theorem hid_newO {H : Hp} {O : List Addr} {p : Addr} {o : HO} (h : H p = none) : Ex (hid H O) (hid (upd H p o) (p :: O)) := fun b u e => by
  obtain ⟨h1, h2⟩ := hid_some e
  have hb := ne_of_none h1 h
  exact hid_of (by rw [upd_ne hb]; exact h1) fun z => (List.mem_cons.mp z).elim hb h2
theorem hid_grow {H H' : Hp} {O : List Addr} (e : Ex H H') : Ex (hid H O) (hid H' O) := fun b u h => hid_of (e b u (hid_some h).1) (hid_some h).2
section
variable {K : PySem.W.Frag} {S0 RH H H' : Hp} {O : List Addr} {ts us : List Tr}
/-- the heap has grown -/
theorem Sta.grow (s : Sta K S0 RH H O ts) (e : Ex H H') : Sta K S0 RH H' O ts := by
  refine ⟨fun n hn => ?_, s.no, s.io, fun b o q => ⟨(s.rh b o q).1, e _ _ (s.rh b o q).2.1, (s.rh b o q).2.2⟩, s.ex.trans (hid_grow e), fun b hb => ?_⟩
  · obtain ⟨o, h⟩ := (s.nd n hn).at_
    exact (s.nd n hn).to (hid_grow e) (by rw [h, e _ _ h])
  · cases z : H b with
    | none => exact absurd z (s.lv b hb)
    | some o => rw [e b o z]; simp
/-- an object of the state's own has come -/
theorem Sta.new {p : Addr} {o : HO} {t : Tr} (s : Sta K S0 RH H O ts) (np : H p = none) (hn : nds t = [vo1]) (ha : adr vo1 = p) (ok : NdOk K (hid (upd H p o) (p :: O)) (upd H p o) vo1) : Sta K S0 RH (upd H p o) (p :: O) (ts ++ [t]) := by
  have e := hid_newO (O := O) (o := o) np
  have hne : ∀ n ∈ ndsL ts, adr n ≠ p := fun n hn z => s.notNone hn (by rw [z]; exact np)
  have nl : ndsL (ts ++ [t]) = ndsL ts ++ [vo1] := by rw [ndsL_app]; simp [ndsL, hn]
  refine ⟨fun n h => ?_, ?_, fun n h => ?_, fun b u q => ?_, s.ex.trans e, fun b hb => ?_⟩
  · rw [nl] at h
    rcases List.mem_append.mp h with z | z
    · exact (s.nd n z).to e (upd_ne (hne n z))
    · rw [List.mem_singleton.mp z]; exact ok
  · rw [nl, List.map_append, List.nodup_append]
    refine ⟨s.no, by simp, fun x hx y hy => ?_⟩
    obtain ⟨n, hn, rfl⟩ := List.mem_map.mp hx
    have : y = adr vo1 := by simpa using hy
    rw [this, ha]
    exact hne n hn
  · rw [nl] at h
    rcases List.mem_append.mp h with z | z
    · exact List.mem_cons_of_mem _ (s.io n z)
    · rw [List.mem_singleton.mp z, ha]; exact List.mem_cons_self
  · obtain ⟨h1, h2, h3⟩ := s.rh b u q
    have hb := ne_of_none h2 np
    refine ⟨List.mem_cons_of_mem _ h1, by rw [upd_ne hb]; exact h2, fun n h => ?_⟩
    rw [nl] at h
    rcases List.mem_append.mp h with z | z
    · exact h3 n z
    · rw [List.mem_singleton.mp z, ha]; exact hb.symm
  · rcases List.mem_cons.mp hb with z | z
    · rw [z, upd_same]; simp
    · by_cases y : b = p
      · rw [y, upd_same]; simp
      · rw [upd_ne y]; exact s.lv b z
theorem Sta.notO {p : Addr} (s : Sta K S0 RH H O ts) (np : H p = none) : p ∉ O := fun z => s.lv p z np
end
end GL

namespace GL
open PySem PySem.Spec PyProof.Rows L2 Evl

/-! ## parts of a state: some roots, or one object deep within -/
theorem ndsL_set {u : Tr} : ∀ {ts : Trs} {i : Nat} {t : Tr}, ts[i]? = some t → (ndsL (ts.set i u) ++ nds t).Perm (ndsL ts ++ nds u)
  | [], _, _, h => by simp at h
  | x :: ts, 0, t, h => by
    simp only [List.getElem?_cons_zero, Option.some.injEq] at h
    subst h
    simp only [List.set_cons_zero, ndsL]
    rw [List.append_assoc, List.append_assoc]
    refine List.Perm.trans (List.perm_append_comm) ?_
    rw [List.append_assoc]
    refine List.Perm.trans ?_ (List.perm_append_comm)
    rw [List.append_assoc]
    refine List.Perm.append_left _ ?_
    exact List.perm_append_comm
  | x :: ts, i + 1, t, h => by
    simp only [List.getElem?_cons_succ] at h
    simp only [List.set_cons_succ, ndsL, List.append_assoc]
    exact List.Perm.append_left _ (ndsL_set h)
def setAt : Trs → List Nat → Trs → Trs
  | ts, i :: is, u :: us => setAt (ts.set i u) is us
  | ts, _, _ => ts
def pickT (ts : Trs) : List Nat → Trs
  | [] => []
  | i :: is => (match ts[i]? with | some t => [t] | none => []) ++ pickT ts is
def putAt (ts : Trs) (is : List Nat) (us : Trs) : Trs := setAt ts is us ++ us.drop is.length
def okIx (n : Nat) : List Nat → Bool
  | [] => true
  | i :: is => decide (i < n) && (!is.contains i && okIx n is)
theorem okIx_cons {n i : Nat} {is : List Nat} (h : okIx n (i :: is) = true) : i < n ∧ i ∉ is ∧ okIx n is = true := by
  unfold okIx at h
  simp only [Bool.and_eq_true, decide_eq_true_eq, Bool.not_eq_true'] at h
  refine ⟨h.1, fun z => ?_, h.2.2⟩
  have := h.2.1
  rw [List.contains_iff_mem.mpr z] at this
  cases this
theorem setAt_len : ∀ (is : List Nat) (ts us : Trs), (setAt ts is us).length = ts.length
  | [], _, _ => by simp [setAt]
  | _ :: _, _, [] => by simp [setAt]
  | i :: is, ts, u :: us => by rw [setAt, setAt_len is, List.length_set]
theorem setAt_set {i : Nat} {u : Tr} : ∀ {is : List Nat} {ts us : Trs}, i ∉ is → setAt (ts.set i u) is us = (setAt ts is us).set i u
  | [], _, _, _ => by simp [setAt]
  | _ :: _, _, [], _ => by simp [setAt]
  | j :: is, ts, x :: us, h => by
    have hj : i ≠ j := fun z => h (by rw [z]; exact List.mem_cons_self)
    rw [setAt, setAt, List.set_comm _ _ hj, setAt_set fun z => h (List.mem_cons_of_mem _ z)]
theorem setAt_get {i : Nat} : ∀ {is : List Nat} {ts us : Trs}, i ∉ is → (setAt ts is us)[i]? = ts[i]?
  | [], _, _, _ => by simp [setAt]
  | _ :: _, _, [], _ => by simp [setAt]
  | j :: is, ts, x :: us, h => by
    have hj : j ≠ i := fun z => h (by rw [z]; exact List.mem_cons_self)
    rw [setAt, setAt_get fun z => h (List.mem_cons_of_mem _ z), List.getElem?_set_ne hj]
def junk (is : List Nat) : Trs := List.replicate is.length Tr.non
theorem setAt_perm : ∀ {is : List Nat} {ts us : Trs}, okIx ts.length is = true → is.length ≤ us.length → (ndsL (setAt ts is us)).Perm (ndsL (us.take is.length) ++ ndsL (setAt ts is (junk is)))
  | [], ts, us, _, _ => by simp [setAt, ndsL]
  | i :: is, ts, [], _, h => by simp at h
  | i :: is, ts, u :: us, ok, h => by
    obtain ⟨h1, h2, h3⟩ := okIx_cons ok
    have ih := setAt_perm (ts := ts.set i u) (us := us) (by rw [List.length_set]; exact h3) (by simpa using h)
    have ej : junk (i :: is) = Tr.non :: junk is := rfl
    rw [setAt, ej, setAt]
    refine ih.trans ?_
    rw [setAt_set h2, setAt_set h2]
    have ht : (setAt ts is (junk is))[i]? = some ts[i] := by rw [setAt_get h2]; exact List.getElem?_eq_getElem h1
    have p1 := ndsL_set (u := u) ht
    have p2 := ndsL_set (u := Tr.non) ht
    have e0 : nds Tr.non = [] := by simp [nds]
    rw [e0, List.append_nil] at p2
    -- cancel what stood there
    have p3 : (ndsL ((setAt ts is (junk is)).set i u) ++ nds ts[i]).Perm (nds u ++ ndsL ((setAt ts is (junk is)).set i Tr.non) ++ nds ts[i]) := by
      refine p1.trans ?_
      refine List.Perm.trans (List.Perm.append_right _ p2.symm) ?_
      rw [List.append_assoc]
      refine List.Perm.trans ?_ (List.Perm.append_right _ List.perm_append_comm)
      rw [List.append_assoc]
      exact List.Perm.append_left _ List.perm_append_comm
    have p4 := (List.perm_append_right_iff _).mp p3
    simp only [List.length_cons, List.take_succ_cons, ndsL, List.append_assoc]
    refine List.Perm.trans (List.Perm.append_left _ p4) ?_
    rw [← List.append_assoc, ← List.append_assoc]
    exact List.Perm.append_right _ List.perm_append_comm
theorem setAt_pickT : ∀ {is : List Nat} {ts : Trs}, okIx ts.length is = true → setAt ts is (pickT ts is) = ts ∧ (pickT ts is).length = is.length
  | [], _, _ => by simp [setAt, pickT]
  | i :: is, ts, ok => by
    obtain ⟨h1, h2, h3⟩ := okIx_cons ok
    have e : ts[i]? = some ts[i] := List.getElem?_eq_getElem h1
    have ih := setAt_pickT (is := is) (ts := ts) h3
    unfold pickT
    rw [e]
    simp only [List.singleton_append, setAt, List.set_getElem_self]
    exact ⟨ih.1, by simp [ih.2]⟩
/-- sub stands in ts; c puts another in its place, where ok -/
structure Frm (ts sub : Trs) (c : Trs → Trs) (ok : Trs → Prop) : Prop where
  ex : ∃ R, (ndsL ts).Perm (ndsL sub ++ R) ∧ ∀ us, ok us → (ndsL (c us)).Perm (ndsL us ++ R)
theorem Frm.roots {ts : Trs} (is : List Nat) (ok : okIx ts.length is = true) : Frm ts (pickT ts is) (putAt ts is) (fun us => is.length ≤ us.length) := by
  refine ⟨ndsL (setAt ts is (junk is)), ?_, fun us h => ?_⟩
  · obtain ⟨h1, h2⟩ := setAt_pickT ok
    have p := setAt_perm (us := pickT ts is) ok (Nat.le_of_eq h2.symm)
    rw [h1, List.take_of_length_le (Nat.le_of_eq h2)] at p
    exact p
  · have p := setAt_perm (us := us) ok h
    unfold putAt
    rw [ndsL_app]
    refine List.Perm.trans (List.Perm.append_right _ p) ?_
    rw [List.append_assoc]
    have e : ndsL us = ndsL (us.take is.length) ++ ndsL (us.drop is.length) := by rw [← ndsL_app, List.take_append_drop]
    rw [e, List.append_assoc]
    exact List.Perm.append_left _ List.perm_append_comm

/-! ## one object, wherever it is -/
structure FocL (ts : Trs) (t : Tr) (c : Tr → Trs) : Prop where
  eq : ts = c t
  vo : ∀ u, GL.vo u = GL.vo t → voL (c u) = voL ts
  nd : ∃ R, ∀ u, GL.vo u = GL.vo t → (ndsL (c u)).Perm (nds u ++ R)
structure FocT (x t : Tr) (c : Tr → Tr) : Prop where
  eq : x = c t
  vo : ∀ u, GL.vo u = GL.vo t → GL.vo (c u) = GL.vo x
  nd : ∃ R, ∀ u, GL.vo u = GL.vo t → (nds (c u)).Perm (nds u ++ R)
structure FocK (l : List (Key × Tr)) (t : Tr) (c : Tr → List (Key × Tr)) : Prop where
  eq : l = c t
  vo : ∀ u, GL.vo u = GL.vo t → voK (c u) = voK l
  nd : ∃ R, ∀ u, GL.vo u = GL.vo t → (ndsK (c u)).Perm (nds u ++ R)
structure FocF (l : List (Str × Tr)) (t : Tr) (c : Tr → List (Str × Tr)) : Prop where
  eq : l = c t
  vo : ∀ u, GL.vo u = GL.vo t → voF (c u) = voF l
  nd : ∃ R, ∀ u, GL.vo u = GL.vo t → (ndsF (c u)).Perm (nds u ++ R)
section
variable {x t : Tr} {ts r : Trs} {c : Tr → Tr} {cl : Tr → Trs} {ck : Tr → List (Key × Tr)} {cf : Tr → List (Str × Tr)} {p C : Addr} {k : Key} {f : Str} {kvs : List (Key × Tr)} {fs : List (Str × Tr)}
theorem FocT.here : FocT t t fun u => u := ⟨rfl, fun u h => h, [], fun u _ => by rw [List.append_nil]⟩
theorem FocL.head (h : FocT x t c) : FocL (x :: r) t fun u => c u :: r := by
  obtain ⟨R, hR⟩ := h.nd
  refine ⟨by rw [← h.eq], fun u e => by simp only [voL, h.vo u e], R ++ ndsL r, fun u e => ?_⟩
  simp only [ndsL]
  rw [← List.append_assoc]
  exact List.Perm.append_right _ (hR u e)
theorem perm_mid2 {α : Type} {a b c d : List α} (h : a.Perm (b ++ c)) : (d ++ a).Perm (b ++ (d ++ c)) := by
  refine List.Perm.trans (List.Perm.append_left _ h) ?_
  rw [← List.append_assoc, ← List.append_assoc]
  exact List.Perm.append_right _ List.perm_append_comm
theorem FocL.tail (h : FocL r t cl) : FocL (x :: r) t fun u => x :: cl u := by
  obtain ⟨R, hR⟩ := h.nd
  refine ⟨by rw [← h.eq], fun u e => by simp only [voL, h.vo u e], nds x ++ R, fun u e => ?_⟩
  simp only [ndsL]
  exact perm_mid2 (hR u e)
theorem FocK.head (h : FocT x t c) : FocK ((k, x) :: kvs) t fun u => (k, c u) :: kvs := by
  obtain ⟨R, hR⟩ := h.nd
  refine ⟨by rw [← h.eq], fun u e => by simp only [voK, List.map_cons, h.vo u e], R ++ ndsK kvs, fun u e => ?_⟩
  simp only [ndsK]
  rw [← List.append_assoc]
  exact List.Perm.append_right _ (hR u e)
theorem FocK.tail (h : FocK kvs t ck) : FocK ((k, x) :: kvs) t fun u => (k, x) :: ck u := by
  obtain ⟨R, hR⟩ := h.nd
  refine ⟨by rw [← h.eq], fun u e => by have := h.vo u e; simp only [voK, List.map_cons] at this ⊢; rw [this], nds x ++ R, fun u e => ?_⟩
  simp only [ndsK]
  exact perm_mid2 (hR u e)
theorem FocF.head (h : FocT x t c) : FocF ((f, x) :: fs) t fun u => (f, c u) :: fs := by
  obtain ⟨R, hR⟩ := h.nd
  refine ⟨by rw [← h.eq], fun u e => by simp only [voF, List.map_cons, h.vo u e], R ++ ndsF fs, fun u e => ?_⟩
  simp only [ndsF]
  rw [← List.append_assoc]
  exact List.Perm.append_right _ (hR u e)
theorem FocF.tail (h : FocF fs t cf) : FocF ((f, x) :: fs) t fun u => (f, x) :: cf u := by
  obtain ⟨R, hR⟩ := h.nd
  refine ⟨by rw [← h.eq], fun u e => by have := h.vo u e; simp only [voF, List.map_cons] at this ⊢; rw [this], nds x ++ R, fun u e => ?_⟩
  simp only [ndsF]
  exact perm_mid2 (hR u e)
theorem FocT.tup (h : FocL ts t cl) : FocT (.tup ts) t fun u => .tup (cl u) := by
  obtain ⟨R, hR⟩ := h.nd
  exact ⟨by rw [← h.eq], fun u e => by simp only [GL.vo, h.vo u e], R, fun u e => by simp only [nds]; exact hR u e⟩
theorem FocT.lst (h : FocL ts t cl) : FocT (.lst p ts) t fun u => .lst p (cl u) := by
  obtain ⟨R, hR⟩ := h.nd
  refine ⟨by rw [← h.eq], fun u e => by simp only [GL.vo], .lst p (voL ts) :: R, fun u e => ?_⟩
  simp only [nds, h.vo u e]
  exact perm_mid2 (d := [Tr.lst p (voL ts)]) (hR u e)
theorem FocT.dct (h : FocK kvs t ck) : FocT (.dct p kvs) t fun u => .dct p (ck u) := by
  obtain ⟨R, hR⟩ := h.nd
  refine ⟨by rw [← h.eq], fun u e => by simp only [GL.vo], .dct p (voK kvs) :: R, fun u e => ?_⟩
  simp only [nds, h.vo u e]
  exact perm_mid2 (d := [Tr.dct p (voK kvs)]) (hR u e)
theorem FocT.ins (h : FocF fs t cf) : FocT (.ins p C fs) t fun u => .ins p C (cf u) := by
  obtain ⟨R, hR⟩ := h.nd
  refine ⟨by rw [← h.eq], fun u e => by simp only [GL.vo], .ins p C (voF fs) :: R, fun u e => ?_⟩
  simp only [nds, h.vo u e]
  exact perm_mid2 (d := [Tr.ins p C (voF fs)]) (hR u e)
/-- the i-th of a list that isn't written out -/
theorem FocL.at_ {i : Nat} (h : ts[i]? = some t) : FocL ts t fun u => ts.set i u := by
  have hl : i < ts.length := (List.getElem?_eq_some_iff.mp h).1
  have ht : ts[i] = t := (List.getElem?_eq_some_iff.mp h).2
  refine ⟨by rw [← ht, List.set_getElem_self], fun u e => ?_, ndsL (ts.set i Tr.non), fun u e => ?_⟩
  · rw [voL_map, voL_map, List.map_set, e, ← ht]
    apply List.ext_getElem?
    intro j
    rw [List.getElem?_set]
    split
    · rename_i z
      subst z
      simp [hl]
    · rfl
  · have p1 := ndsL_set (u := u) h
    have p2 := ndsL_set (u := Tr.non) h
    have e0 : nds Tr.non = [] := by simp [nds]
    rw [e0, List.append_nil] at p2
    have p3 : (ndsL (ts.set i u) ++ nds t).Perm (nds u ++ ndsL (ts.set i Tr.non) ++ nds t) := by
      refine p1.trans ?_
      refine List.Perm.trans (List.Perm.append_right _ p2.symm) ?_
      rw [List.append_assoc]
      refine List.Perm.trans ?_ (List.Perm.append_right _ List.perm_append_comm)
      rw [List.append_assoc]
      exact List.Perm.append_left _ List.perm_append_comm
    exact (List.perm_append_right_iff _).mp p3
theorem Frm.foc (h : FocL ts t cl) : Frm ts [t] (fun us => match us with | u :: r => cl u ++ r | [] => []) (fun us => ∃ u r, us = u :: r ∧ GL.vo u = GL.vo t) := by
  obtain ⟨R, hR⟩ := h.nd
  refine ⟨R, ?_, ?_⟩
  · have := hR t rfl
    rw [← h.eq] at this
    simpa [ndsL] using this
  · rintro _ ⟨u, r, rfl, e⟩
    simp only [ndsL_app, ndsL]
    refine List.Perm.trans (List.Perm.append_right _ (hR u e)) ?_
    rw [List.append_assoc, List.append_assoc]
    exact List.Perm.append_left _ List.perm_append_comm
end

/-! ## an object is written -/
section
variable {K : PySem.W.Frag} {S0 RH H : Hp} {O : List Addr} {ts : Trs} {t u n m : Tr} {c : Tr → Trs} {I I' : List Tr} {p : Addr} {o : HO}
theorem hid_upd {H : Hp} {O : List Addr} {p : Addr} {o : HO} (h : p ∈ O) : hid (upd H p o) O = hid H O := by
  funext b
  unfold hid
  split
  · rfl
  · rename_i z
    exact upd_ne fun e => z (by rw [e]; exact h)
theorem FocL.sees (f : FocL ts t c) : ∀ n ∈ nds t, n ∈ ndsL ts := fun n hn => by
  obtain ⟨R, hR⟩ := f.nd
  have := hR t rfl
  rw [← f.eq] at this
  exact this.mem_iff.mpr (List.mem_append_left _ hn)
theorem Sta.mut (s : Sta K S0 RH H O ts) (f : FocL ts t c) (ht : nds t = n :: I) (hu : nds u = m :: I') (hv : GL.vo u = GL.vo t) (sub : I'.Sublist I) (an : adr n = p) (am : adr m = p) (ok : NdOk K (hid H O) (upd H p o) m) : Sta K S0 RH (upd H p o) O (c u) := by
  obtain ⟨R, hR⟩ := f.nd
  have p1 : (ndsL ts).Perm (n :: I ++ R) := by
    have := hR t rfl
    rw [← f.eq, ht] at this
    exact this
  have p2 : (ndsL (c u)).Perm (m :: I' ++ R) := by
    have := hR u hv
    rw [hu] at this
    exact this
  have pO : p ∈ O := by rw [← an]; exact s.io n (p1.mem_iff.mpr (by simp))
  have no1 : (p :: (I ++ R).map adr).Nodup := by
    have := (p1.map adr).nodup_iff.mp s.no
    simpa [an] using this
  have sl : (p :: (I' ++ R).map adr).Sublist (p :: (I ++ R).map adr) := List.Sublist.cons_cons p (List.Sublist.map adr (List.Sublist.append sub (List.Sublist.refl R)))
  have no2 := no1.sublist sl
  have old : ∀ x ∈ I' ++ R, x ∈ ndsL ts ∧ adr x ≠ p := fun x hx => by
    refine ⟨p1.mem_iff.mpr ?_, fun z => (List.nodup_cons.mp no2).1 (by rw [← z]; exact List.mem_map_of_mem hx)⟩
    rcases List.mem_append.mp hx with y | y
    · exact List.mem_append_left _ (List.mem_cons_of_mem _ (sub.subset y))
    · exact List.mem_append_right _ y
  have memc : ∀ x ∈ ndsL (c u), x = m ∨ x ∈ I' ++ R := fun x hx => by
    have := p2.mem_iff.mp hx
    simpa [or_assoc] using this
  refine ⟨fun x hx => ?_, ?_, fun x hx => ?_, fun b q e => ?_, by rw [hid_upd pO]; exact s.ex, fun b hb => ?_⟩
  · rw [hid_upd pO]
    rcases memc x hx with rfl | hx
    · exact ok
    · exact (s.nd x (old x hx).1).to (Ex.refl _) (upd_ne (old x hx).2)
  · refine (p2.map adr).nodup_iff.mpr ?_
    simpa [am] using no2
  · rcases memc x hx with rfl | hx
    · rw [am]; exact pO
    · exact s.io x (old x hx).1
  · obtain ⟨h1, h2, h3⟩ := s.rh b q e
    have hb : b ≠ p := fun z => h3 n (p1.mem_iff.mpr (by simp)) (by rw [an, z])
    refine ⟨h1, by rw [upd_ne hb]; exact h2, fun x hx => ?_⟩
    rcases memc x hx with rfl | hx
    · rw [am]; exact hb.symm
    · exact h3 x (old x hx).1
  · by_cases y : b = p
    · rw [y, upd_same]; simp
    · rw [upd_ne y]; exact s.lv b hb
theorem Sta.foc (s : Sta K S0 RH H O ts) (f : FocL ts t c) (h : nds t = n :: I) : NdOk K (hid H O) H n := s.nd n (f.sees n (by rw [h]; exact List.mem_cons_self))
end
theorem RtL.voOf {K : PySem.W.Frag} {S : Hp} {xs : Trs} {vs : List V} (h : RtL K S (voL xs) vs) : RtL K S xs vs := h.unvo
section
variable {K : PySem.W.Frag} {S0 RH H : Hp} {O : List Addr} {ts : Trs} {c : Tr → Trs} {p C : Addr} {xs : Trs} {kvs : List (Key × Tr)} {fs : List (Str × Tr)}
theorem voK_1 : (voK kvs).map (·.1) = kvs.map (·.1) := by simp [voK]
theorem voK_2 : (voK kvs).map (·.2) = voL (kvs.map (·.2)) := by simp [voK, voL_map]
theorem voF_1 : (voF fs).map (·.1) = fs.map (·.1) := by simp [voF]
theorem voF_2 : (voF fs).map (·.2) = voL (fs.map (·.2)) := by simp [voF, voL_map]
theorem Sta.lst (s : Sta K S0 RH H O ts) (f : FocL ts (.lst p xs) c) : ∃ vs, H p = some (.lst vs) ∧ RtL K (hid H O) xs vs := by
  obtain ⟨vs, h1, h2⟩ := s.foc f (n := .lst p (voL xs)) (I := ndsL xs) (by simp only [nds])
  exact ⟨vs, h1, h2.unvo⟩
theorem Sta.dct (s : Sta K S0 RH H O ts) (f : FocL ts (.dct p kvs) c) : ∃ ps : List (Key × V), H p = some (.dK ps) ∧ ps.map (·.1) = kvs.map (·.1) ∧ RtL K (hid H O) (kvs.map (·.2)) (ps.map (·.2)) := by
  obtain ⟨ps, h1, h2, h3⟩ := s.foc f (n := .dct p (voK kvs)) (I := ndsK kvs) (by simp only [nds])
  rw [voK_1] at h2
  rw [voK_2] at h3
  exact ⟨ps, h1, h2, h3.unvo⟩
theorem Sta.ins (s : Sta K S0 RH H O ts) (f : FocL ts (.ins p C fs) c) : ∃ (dx : Addr) (ps : List (Str × V)), H p = some (.ins C dx ps) ∧ ps.map (·.1) = fs.map (·.1) ∧ RtL K (hid H O) (fs.map (·.2)) (ps.map (·.2)) := by
  obtain ⟨dx, ps, h1, h2, h3⟩ := s.foc f (n := .ins p C (voF fs)) (I := ndsF fs) (by simp only [nds])
  rw [voF_1] at h2
  rw [voF_2] at h3
  exact ⟨dx, ps, h1, h2, h3.unvo⟩
/-- a list is written: what is new in it stands elsewhere -/
theorem Sta.setLst (s : Sta K S0 RH H O ts) (f : FocL ts (.lst p xs) c) {ys : Trs} {vs : List V} (sub : (ndsL ys).Sublist (ndsL xs)) (r : RtL K (hid H O) ys vs) : Sta K S0 RH (upd H p (.lst vs)) O (c (.lst p ys)) :=
  s.mut f (n := .lst p (voL xs)) (m := .lst p (voL ys)) (I := ndsL xs) (I' := ndsL ys) (by simp only [nds]) (by simp only [nds]) (by simp only [GL.vo]) sub rfl rfl ⟨vs, upd_same, r.vo⟩
theorem Sta.setDct (s : Sta K S0 RH H O ts) (f : FocL ts (.dct p kvs) c) {lvs : List (Key × Tr)} {ps : List (Key × V)} (sub : (ndsK lvs).Sublist (ndsK kvs)) (e : ps.map (·.1) = lvs.map (·.1)) (r : RtL K (hid H O) (lvs.map (·.2)) (ps.map (·.2))) : Sta K S0 RH (upd H p (.dK ps)) O (c (.dct p lvs)) :=
  s.mut f (n := .dct p (voK kvs)) (m := .dct p (voK lvs)) (I := ndsK kvs) (I' := ndsK lvs) (by simp only [nds]) (by simp only [nds]) (by simp only [GL.vo]) sub rfl rfl ⟨ps, upd_same, by rw [voK_1]; exact e, by rw [voK_2]; exact r.vo⟩
theorem Sta.setIns (s : Sta K S0 RH H O ts) (f : FocL ts (.ins p C fs) c) {gs : List (Str × Tr)} {dx : Addr} {ps : List (Str × V)} (sub : (ndsF gs).Sublist (ndsF fs)) (e : ps.map (·.1) = gs.map (·.1)) (r : RtL K (hid H O) (gs.map (·.2)) (ps.map (·.2))) : Sta K S0 RH (upd H p (.ins C dx ps)) O (c (.ins p C gs)) :=
  s.mut f (n := .ins p C (voF fs)) (m := .ins p C (voF gs)) (I := ndsF fs) (I' := ndsF gs) (by simp only [nds]) (by simp only [nds]) (by simp only [GL.vo]) sub rfl rfl ⟨dx, ps, upd_same, by rw [voF_1]; exact e, by rw [voF_2]; exact r.vo⟩
end
end GL

namespace GL
open PySem PySem.Spec PyProof.Rows L2 Evl

/-! ## readings over trees -/
abbrev AS := List (Option Tr)
abbrev AQ := Tr → Trs → Prop
abbrev AE := AS → Trs → AQ → Prop
abbrev AT := AS → Trs → (Bool → Trs → Prop) → Prop
abbrev AA := AS → Trs → (Trs → Trs → Prop) → Prop
abbrev AZ := Str → List (Str × Tr) → Trs → Prop
abbrev AW := Str → List (Str × Tr) → AS → Trs → Prop
abbrev AR := Tr → Tr → Trs → AQ → Prop
abbrev AU := Tr → Trs → AQ → Prop
abbrev AC := Trs → Trs → AQ → Prop
structure AD where
  nx : AS → Trs → Prop
  rt : AQ
  bk : AS → Trs → Prop := fun _ _ => False
  ct : AS → Trs → Prop := fun _ _ => False
abbrev AX := AD → AS → Trs → Prop
abbrev ASp := Trs → Trs → AQ → AZ → Prop
structure Sl (K : PySem.W.Frag) (S : Hp) (s : AS) (σ : L2.St) : Prop where
  len : s.length = σ.length
  at_ : ∀ (i : Nat) (t : Tr), s[i]? = some (some t) → ∃ v : V, σ[i]? = some (some v) ∧ Rt K S t v
theorem Sl.ex {K : PySem.W.Frag} {S S' : Hp} {s : AS} {σ : L2.St} (h : Sl K S s σ) (e : Ex S S') : Sl K S' s σ :=
  ⟨h.len, fun i t q => let ⟨v, a, b⟩ := h.at_ i t q; ⟨v, a, b.ex e⟩⟩
theorem Sl.set {K : PySem.W.Frag} {S : Hp} {s : AS} {σ : L2.St} {t : Tr} {v : V} (h : Sl K S s σ) (r : Rt K S t v) (i : Nat) : Sl K S (s.set i (some t)) (σ.set i (some v)) := by
  refine ⟨by rw [List.length_set, List.length_set]; exact h.len, fun j u q => ?_⟩
  rw [List.getElem?_set] at q ⊢
  by_cases z : i = j
  · rw [if_pos z] at q ⊢
    split at q
    · rename_i hl
      cases q
      rw [if_pos (by rw [← h.len]; exact hl)]
      exact ⟨v, rfl, r⟩
    · cases q
  · rw [if_neg z] at q ⊢
    exact h.at_ j u q
theorem Sl.unset {K : PySem.W.Frag} {S : Hp} {s : AS} {σ : L2.St} (h : Sl K S s σ) (i : Nat) : Sl K S (s.set i none) (σ.set i none) := by
  refine ⟨by rw [List.length_set, List.length_set]; exact h.len, fun j u q => ?_⟩
  rw [List.getElem?_set] at q ⊢
  by_cases z : i = j
  · rw [if_pos z] at q
    split at q <;> cases q
  · rw [if_neg z] at q ⊢
    exact h.at_ j u q
theorem Sl.less {K : PySem.W.Frag} {S : Hp} {s : AS} {σ : L2.St} (h : Sl K S s σ) (i : Nat) : Sl K S (s.set i none) σ := by
  refine ⟨by rw [List.length_set]; exact h.len, fun j u q => ?_⟩
  rw [List.getElem?_set] at q
  by_cases z : i = j
  · rw [if_pos z] at q
    split at q <;> cases q
  · rw [if_neg z] at q
    exact h.at_ j u q
structure Wle (S0 RH S1 RH1 : Hp) : Prop where
  ex : Ex S0 S1
  rh : Ex RH RH1
theorem Wle.refl (S RH : Hp) : Wle S RH S RH := ⟨Ex.refl _, Ex.refl _⟩
theorem Wle.trans {S0 RH S1 RH1 S2 RH2 : Hp} (a : Wle S0 RH S1 RH1) (b : Wle S1 RH1 S2 RH2) : Wle S0 RH S2 RH2 := ⟨a.ex.trans b.ex, a.rh.trans b.rh⟩
theorem Sta.wle {K : PySem.W.Frag} {S0 RH S1 RH1 H : Hp} {O : List Addr} {ts : Trs} (w : Wle S0 RH S1 RH1) (s : Sta K S1 RH1 H O ts) : Sta K S0 RH H O ts :=
  ⟨s.nd, s.no, s.io, fun b o q => s.rh b o (w.rh b o q), w.ex.trans s.ex, s.lv⟩
def CtE (K : PySem.W.Frag) (S RH S' : Hp) (Q : VK) (Q' : AQ) : Prop := ∀ v H' O' t ts', Sta K S RH H' O' ts' → Ex S' (hid H' O') → Rt K (hid H' O') t v → Q' t ts' → Q v H'
def CtT (K : PySem.W.Frag) (S RH S' : Hp) (Q : Bool → Hp → Prop) (Q' : Bool → Trs → Prop) : Prop := ∀ b H' O' ts', Sta K S RH H' O' ts' → Ex S' (hid H' O') → Q' b ts' → Q b H'
def CtA (K : PySem.W.Frag) (S RH S' : Hp) (Q : List V → Hp → Prop) (Q' : Trs → Trs → Prop) : Prop := ∀ vs H' O' us ts', Sta K S RH H' O' ts' → Ex S' (hid H' O') → RtL K (hid H' O') us vs → Q' us ts' → Q vs H'
structure Xr (K : PySem.W.Frag) (S : Hp) (x : Str) (fs : List (Str × Tr)) (d : Addr) : Prop where
  ex : ∃ gs : List (Str × V), S d = some (.xd gs) ∧ gs.map (·.1) = fs.map (·.1) ∧ RtL K S (fs.map (·.2)) (gs.map (·.2))
def CtX (K : PySem.W.Frag) (S RH : Hp) (E : XK) (E' : AZ) : Prop := ∀ x fs d H' O' ts', Sta K S RH H' O' ts' → Xr K (hid H' O') x fs d → E' x fs ts' → E (.ref (He.ga K x)) (some d) H'
structure DOk (K : PySem.W.Frag) (S RH : Hp) (D : Ends) (D' : AD) : Prop where
  nx : ∀ σ s H O ts, Sta K S RH H O ts → Sl K (hid H O) s σ → D'.nx s ts → D.nx σ H
  rt : ∀ v H O t ts, Sta K S RH H O ts → Rt K (hid H O) t v → D'.rt t ts → D.rt v H
  bk : ∀ σ s H O ts, Sta K S RH H O ts → Sl K (hid H O) s σ → D'.bk s ts → D.bk σ H
  ct : ∀ σ s H O ts, Sta K S RH H O ts → Sl K (hid H O) s σ → D'.ct s ts → D.ct σ H

class LkE (K : PySem.W.Frag) (S0 RH : Hp) (te : TE) (ae : outParam AE) : Prop where
  run : ∀ {S1 RH1 : Hp}, Wle S0 RH S1 RH1 → ∀ {σ : L2.St} {s : AS} {H : Hp} {O : List Addr} {ts : Trs} {Q : VK} {Q' : AQ}, Sta K S1 RH1 H O ts → Sl K (hid H O) s σ → CtE K S1 RH1 (hid H O) Q Q' → ae s ts Q' → te σ H Q
class LkT (K : PySem.W.Frag) (S0 RH : Hp) (te : TT) (ae : outParam AT) : Prop where
  run : ∀ {S1 RH1 : Hp}, Wle S0 RH S1 RH1 → ∀ {σ : L2.St} {s : AS} {H : Hp} {O : List Addr} {ts : Trs} {Q : Bool → Hp → Prop} {Q' : Bool → Trs → Prop}, Sta K S1 RH1 H O ts → Sl K (hid H O) s σ → CtT K S1 RH1 (hid H O) Q Q' → ae s ts Q' → te σ H Q
class LkA (K : PySem.W.Frag) (S0 RH : Hp) (te : TA) (ae : outParam AA) : Prop where
  run : ∀ {S1 RH1 : Hp}, Wle S0 RH S1 RH1 → ∀ {σ : L2.St} {s : AS} {H : Hp} {O : List Addr} {ts : Trs} {Q : List V → Hp → Prop} {Q' : Trs → Trs → Prop}, Sta K S1 RH1 H O ts → Sl K (hid H O) s σ → CtA K S1 RH1 (hid H O) Q Q' → ae s ts Q' → te σ H Q
class LkX (K : PySem.W.Frag) (S0 RH : Hp) (te : TS) (ae : outParam AX) : Prop where
  run : ∀ {S1 RH1 : Hp}, Wle S0 RH S1 RH1 → ∀ {σ : L2.St} {s : AS} {H : Hp} {O : List Addr} {ts : Trs} {D : Ends} {D' : AD}, Sta K S1 RH1 H O ts → Sl K (hid H O) s σ → DOk K S1 RH1 D D' → ae D' s ts → te D σ H
class LkW (K : PySem.W.Frag) (S0 RH : Hp) (W : WX) (aw : outParam AW) : Prop where
  run : ∀ {σ : L2.St} {s : AS} {H : Hp} {O : List Addr} {ts : Trs} {x : Str} {fs : List (Str × Tr)} {d : Addr}, Sta K S0 RH H O ts → Sl K (hid H O) s σ → Xr K (hid H O) x fs d → aw x fs s ts → W (.ref (He.ga K x)) (some d) σ H
class LkR (K : PySem.W.Frag) (r : R2) (ar : outParam AR) : Prop where
  run : ∀ {S RH H : Hp} {O : List Addr} {ts : Trs} {x y : V} {tx ty : Tr} {Q : VK} {Q' : AQ}, Sta K S RH H O ts → Rt K (hid H O) tx x → Rt K (hid H O) ty y → CtE K S RH (hid H O) Q Q' → ar tx ty ts Q' → r x y H Q
class LkU (K : PySem.W.Frag) (r : V → Hp → VK → Prop) (ar : outParam AU) : Prop where
  run : ∀ {S RH H : Hp} {O : List Addr} {ts : Trs} {x : V} {tx : Tr} {Q : VK} {Q' : AQ}, Sta K S RH H O ts → Rt K (hid H O) tx x → CtE K S RH (hid H O) Q Q' → ar tx ts Q' → r x H Q
class LkC (K : PySem.W.Frag) (r : List V → Hp → VK → Prop) (ar : outParam AC) : Prop where
  run : ∀ {S RH H : Hp} {O : List Addr} {ts : Trs} {xs : List V} {us : Trs} {Q : VK} {Q' : AQ}, Sta K S RH H O ts → RtL K (hid H O) us xs → CtE K S RH (hid H O) Q Q' → ar us ts Q' → r xs H Q

/-! ### expressions -/
def trV : V → Tr
  | .non => .dat .none
  | .bl b => .dat (.bool b)
  | .int i => .dat (.int i)
  | .str x => .dat (.str x)
  | v => .val v
theorem trV_rt {K : PySem.W.Frag} {S : Hp} : ∀ v : V, Rt K S (trV v) v
  | .non => .dat .non
  | .bl b => .dat (.bl b)
  | .int i => .dat (.int i)
  | .str x => .dat (.str x)
  | .byt _ => .val
  | .flt _ => .val
  | .ref _ => .val
  | .ty _ => .val
def aVar (i : Nat) : AE := fun s ts Q => ∃ t, s[i]? = some (some t) ∧ Q t ts
def aC (v : V) : AE := fun _ ts Q => Q (trV v) ts
def aOp (r : AR) (a b : AE) : AE := fun s ts Q => a s ts fun x ts1 => b s ts1 fun y ts2 => r x y ts2 Q
def aUn (r : AU) (a : AE) : AE := fun s ts Q => a s ts fun x ts1 => r x ts1 Q
def aChain (r r' : AR) (a b c : AE) : AE := fun s ts Q => a s ts fun x ts1 => b s ts1 fun y ts2 => r x y ts2 fun z ts3 => ∃ k, z = .dat (.bool k) ∧ (if k = true then c s ts3 fun w ts4 => r' y w ts4 Q else Q (.dat (.bool false)) ts3)
def aIfE (c : AT) (a b : AE) : AE := fun s ts Q => c s ts fun k ts1 => if k = true then a s ts1 Q else b s ts1 Q
def aTest (a : AE) : AT := fun s ts Q => a s ts fun x ts1 => ∃ k, x = .dat (.bool k) ∧ Q k ts1
def aNot (a : AT) : AT := fun s ts Q => a s ts fun k ts1 => Q (!k) ts1
def aAnd (a b : AT) : AT := fun s ts Q => a s ts fun k ts1 => if k = true then b s ts1 Q else Q false ts1
def aOr (a b : AT) : AT := fun s ts Q => a s ts fun k ts1 => if k = true then Q true ts1 else b s ts1 Q
def aAndV (a b : AE) : AE := fun s ts Q => a s ts fun x ts1 => ∃ k, x = .dat (.bool k) ∧ if k = true then b s ts1 Q else Q (.dat (.bool false)) ts1
def aOrV (a b : AE) : AE := fun s ts Q => a s ts fun x ts1 => ∃ k, x = .dat (.bool k) ∧ if k = true then Q (.dat (.bool true)) ts1 else b s ts1 Q
def aNotV (a : AE) : AE := fun s ts Q => a s ts fun x ts1 => ∃ k, x = .dat (.bool k) ∧ Q (.dat (.bool (!k))) ts1
def aNil : AA := fun _ ts Q => Q [] ts
def aCons (a : AE) (r : AA) : AA := fun s ts Q => a s ts fun x ts1 => r s ts1 fun xs ts2 => Q (x :: xs) ts2
def aCB (r : AC) (a : AA) : AE := fun s ts Q => a s ts fun us ts1 => r us ts1 Q
def aI0 (g : Int → Int → V) : AR := fun x y ts Q => ∃ i j, x = .dat (.int i) ∧ y = .dat (.int j) ∧ Q (trV (g i j)) ts
def aI (C : Int → Int → Prop) (g : Int → Int → V) : AR := fun x y ts Q => ∃ i j, x = .dat (.int i) ∧ y = .dat (.int j) ∧ C i j ∧ Q (trV (g i j)) ts
def aU (g : Int → V) : AU := fun x ts Q => ∃ i, x = .dat (.int i) ∧ Q (trV (g i)) ts
section
variable {K : PySem.W.Frag} {S0 RH : Hp} {ta tb tc : TE} {a b c : AE} {t u : TT} {at_ au : AT} {r r' : R2} {ar ar' : AR}
instance {i : Nat} : LkE K S0 RH (tVar i) (aVar i) := ⟨fun w σ s H O ts Q Q' st sl ct ⟨t, h, q⟩ => let ⟨v, h1, h2⟩ := sl.at_ i t h; ⟨v, h1, ct v H O t ts st (Ex.refl _) h2 q⟩⟩
instance {v : V} : LkE K S0 RH (tC v) (aC v) := ⟨fun w σ s H O ts Q Q' st sl ct q => ct v H O _ ts st (Ex.refl _) (trV_rt v) q⟩
instance [ha : LkE K S0 RH ta a] [hb : LkE K S0 RH tb b] [hr : LkR K r ar] : LkE K S0 RH (tOp r ta tb) (aOp ar a b) := ⟨fun w σ s H O ts Q Q' st sl ct q =>
  ha.run w st sl (fun x H1 O1 tx ts1 st1 e1 rx q1 => hb.run w st1 (sl.ex e1) (fun y H2 O2 ty ts2 st2 e2 ry q2 =>
    hr.run st2 (rx.ex e2) ry (fun v H3 O3 t ts3 st3 e3 rt q3 => ct v H3 O3 t ts3 st3 ((e1.trans e2).trans e3) rt q3) q2) q1) q⟩
instance {r : V → Hp → VK → Prop} {ar : AU} [ha : LkE K S0 RH ta a] [hr : LkU K r ar] : LkE K S0 RH (tUn r ta) (aUn ar a) := ⟨fun w σ s H O ts Q Q' st sl ct q =>
  ha.run w st sl (fun x H1 O1 tx ts1 st1 e1 rx q1 => hr.run st1 rx (fun v H3 O3 t ts3 st3 e3 rt q3 => ct v H3 O3 t ts3 st3 (e1.trans e3) rt q3) q1) q⟩
theorem rt_bool {S : Hp} {k : Bool} {x : V} (h : Rt K S (.dat (.bool k)) x) : x = .bl k := by cases h with | dat h => cases h; rfl
theorem rt_int {S : Hp} {k : Int} {x : V} (h : Rt K S (.dat (.int k)) x) : x = .int k := by cases h with | dat h => cases h; rfl
theorem rt_str {S : Hp} {k : Str} {x : V} (h : Rt K S (.dat (.str k)) x) : x = .str k := by cases h with | dat h => cases h; rfl
theorem rt_non {S : Hp} {x : V} (h : Rt K S (.dat .none) x) : x = .non := by cases h with | dat h => cases h; rfl
theorem rt_val {S : Hp} {v x : V} (h : Rt K S (.val v) x) : x = v := by cases h; rfl
instance [ha : LkE K S0 RH ta a] [hb : LkE K S0 RH tb b] [hc : LkE K S0 RH tc c] [hr : LkR K r ar] [hr' : LkR K r' ar'] : LkE K S0 RH (tChain r r' ta tb tc) (aChain ar ar' a b c) := ⟨fun w σ s H O ts Q Q' st sl ct q =>
  ha.run w st sl (fun x H1 O1 tx ts1 st1 e1 rx q1 => hb.run w st1 (sl.ex e1) (fun y H2 O2 ty ts2 st2 e2 ry q2 =>
    hr.run st2 (rx.ex e2) ry (fun v H3 O3 t ts3 st3 e3 rt ⟨k, hk, q3⟩ => by
      subst hk
      refine ⟨k, rt_bool rt, ?_⟩
      have e13 := (e1.trans e2).trans e3
      cases k with
      | true =>
        rw [if_pos rfl] at q3 ⊢
        exact hc.run w st3 (sl.ex e13) (fun z H4 O4 tz ts4 st4 e4 rz q4 => hr'.run st4 (ry.ex (e3.trans e4)) rz (fun v H5 O5 t ts5 st5 e5 rt q5 => ct v H5 O5 t ts5 st5 ((e13.trans e4).trans e5) rt q5) q4) q3
      | false =>
        rw [if_neg (by simp)] at q3 ⊢
        exact ct _ H3 O3 _ ts3 st3 e13 (.dat (.bl _)) q3) q2) q1) q⟩
instance [ht : LkT K S0 RH t at_] [ha : LkE K S0 RH ta a] [hb : LkE K S0 RH tb b] : LkE K S0 RH (tIf t ta tb) (aIfE at_ a b) := ⟨fun w σ s H O ts Q Q' st sl ct q =>
  ht.run w st sl (fun k H1 O1 ts1 st1 e1 q1 => by
    have ct1 : CtE K _ _ (hid H1 O1) Q Q' := fun v H3 O3 t ts3 st3 e3 rt q3 => ct v H3 O3 t ts3 st3 (e1.trans e3) rt q3
    cases k with
    | true => rw [if_pos rfl] at q1 ⊢; exact ha.run w st1 (sl.ex e1) ct1 q1
    | false => rw [if_neg (by simp)] at q1 ⊢; exact hb.run w st1 (sl.ex e1) ct1 q1) q⟩
instance [ha : LkE K S0 RH ta a] : LkT K S0 RH (tTest ta) (aTest a) := ⟨fun w σ s H O ts Q Q' st sl ct q =>
  ha.run w st sl (fun x H1 O1 tx ts1 st1 e1 rx ⟨k, hk, q1⟩ => by subst hk; exact ⟨k, rt_bool rx, ct k H1 O1 ts1 st1 e1 q1⟩) q⟩
instance [ha : LkE K S0 RH ta a] : LkT K S0 RH (tB ta) (aTest a) := ⟨fun w σ s H O ts Q Q' st sl ct q =>
  ha.run w st sl (fun x H1 O1 tx ts1 st1 e1 rx ⟨k, hk, q1⟩ => by subst hk; exact ⟨k, rt_bool rx, ct k H1 O1 ts1 st1 e1 q1⟩) q⟩
instance [ht : LkT K S0 RH t at_] : LkT K S0 RH (tNot t) (aNot at_) := ⟨fun w σ s H O ts Q Q' st sl ct q =>
  ht.run w st sl (fun k H1 O1 ts1 st1 e1 q1 => ct _ H1 O1 ts1 st1 e1 q1) q⟩
instance [ht : LkT K S0 RH t at_] [hu : LkT K S0 RH u au] : LkT K S0 RH (tAnd t u) (aAnd at_ au) := ⟨fun w σ s H O ts Q Q' st sl ct q =>
  ht.run w st sl (fun k H1 O1 ts1 st1 e1 q1 => by
    cases k with
    | true => rw [if_pos rfl] at q1 ⊢; exact hu.run w st1 (sl.ex e1) (fun b H2 O2 ts2 st2 e2 q2 => ct b H2 O2 ts2 st2 (e1.trans e2) q2) q1
    | false => rw [if_neg (by simp)] at q1 ⊢; exact ct _ H1 O1 ts1 st1 e1 q1) q⟩
instance [ht : LkT K S0 RH t at_] [hu : LkT K S0 RH u au] : LkT K S0 RH (tOr t u) (aOr at_ au) := ⟨fun w σ s H O ts Q Q' st sl ct q =>
  ht.run w st sl (fun k H1 O1 ts1 st1 e1 q1 => by
    cases k with
    | true => rw [if_pos rfl] at q1 ⊢; exact ct _ H1 O1 ts1 st1 e1 q1
    | false => rw [if_neg (by simp)] at q1 ⊢; exact hu.run w st1 (sl.ex e1) (fun b H2 O2 ts2 st2 e2 q2 => ct b H2 O2 ts2 st2 (e1.trans e2) q2) q1) q⟩
instance [ha : LkE K S0 RH ta a] [hb : LkE K S0 RH tb b] : LkE K S0 RH (tAndV ta tb) (aAndV a b) := ⟨fun w σ s H O ts Q Q' st sl ct q =>
  ha.run w st sl (fun x H1 O1 tx ts1 st1 e1 rx ⟨k, hk, q1⟩ => by
    subst hk
    refine ⟨k, rt_bool rx, ?_⟩
    cases k with
    | true => rw [if_pos rfl] at q1 ⊢; exact hb.run w st1 (sl.ex e1) (fun v H3 O3 t ts3 st3 e3 rt q3 => ct v H3 O3 t ts3 st3 (e1.trans e3) rt q3) q1
    | false => rw [if_neg (by simp)] at q1 ⊢; exact ct _ H1 O1 _ ts1 st1 e1 (.dat (.bl _)) q1) q⟩
instance [ha : LkE K S0 RH ta a] [hb : LkE K S0 RH tb b] : LkE K S0 RH (tOrV ta tb) (aOrV a b) := ⟨fun w σ s H O ts Q Q' st sl ct q =>
  ha.run w st sl (fun x H1 O1 tx ts1 st1 e1 rx ⟨k, hk, q1⟩ => by
    subst hk
    refine ⟨k, rt_bool rx, ?_⟩
    cases k with
    | true => rw [if_pos rfl] at q1 ⊢; exact ct _ H1 O1 _ ts1 st1 e1 (.dat (.bl _)) q1
    | false => rw [if_neg (by simp)] at q1 ⊢; exact hb.run w st1 (sl.ex e1) (fun v H3 O3 t ts3 st3 e3 rt q3 => ct v H3 O3 t ts3 st3 (e1.trans e3) rt q3) q1) q⟩
instance [ha : LkE K S0 RH ta a] : LkE K S0 RH (tNotV ta) (aNotV a) := ⟨fun w σ s H O ts Q Q' st sl ct q =>
  ha.run w st sl (fun x H1 O1 tx ts1 st1 e1 rx ⟨k, hk, q1⟩ => by subst hk; exact ⟨k, rt_bool rx, ct _ H1 O1 _ ts1 st1 e1 (.dat (.bl _)) q1⟩) q⟩
instance : LkA K S0 RH tNil aNil := ⟨fun w σ s H O ts Q Q' st sl ct q => ct [] H O [] ts st (Ex.refl _) .nil q⟩
instance {tr : TA} {r : AA} [ha : LkE K S0 RH ta a] [hr : LkA K S0 RH tr r] : LkA K S0 RH (tCons ta tr) (aCons a r) := ⟨fun w σ s H O ts Q Q' st sl ct q =>
  ha.run w st sl (fun x H1 O1 tx ts1 st1 e1 rx q1 => hr.run w st1 (sl.ex e1) (fun vs H2 O2 us ts2 st2 e2 r2 q2 => ct _ H2 O2 _ ts2 st2 (e1.trans e2) (.cons (rx.ex e2) r2) q2) q1) q⟩
instance {tr : TA} {r : AA} {rc : List V → Hp → VK → Prop} {ac : AC} [hr : LkA K S0 RH tr r] [hc : LkC K rc ac] : LkE K S0 RH (tCB rc tr) (aCB ac r) := ⟨fun w σ s H O ts Q Q' st sl ct q =>
  hr.run w st sl (fun vs H1 O1 us ts1 st1 e1 r1 q1 => hc.run st1 r1 (fun v H3 O3 t ts3 st3 e3 rt q3 => ct v H3 O3 t ts3 st3 (e1.trans e3) rt q3) q1) q⟩
instance {g : Int → Int → V} : LkR K (rI0 g) (aI0 g) := ⟨fun st rx ry ct ⟨i, j, ex, ey, q⟩ => by
  subst ex ey
  exact ⟨i, j, rt_int rx, rt_int ry, ct _ _ _ _ _ st (Ex.refl _) (trV_rt _) q⟩⟩
instance {C : Int → Int → Prop} {g : Int → Int → V} : LkR K (rI C g) (aI C g) := ⟨fun st rx ry ct ⟨i, j, ex, ey, c, q⟩ => by
  subst ex ey
  exact ⟨i, j, rt_int rx, rt_int ry, c, ct _ _ _ _ _ st (Ex.refl _) (trV_rt _) q⟩⟩
instance {g : Int → V} : LkU K (rU g) (aU g) := ⟨fun st rx ct ⟨i, ex, q⟩ => by
  subst ex
  exact ⟨i, rt_int rx, ct _ _ _ _ _ st (Ex.refl _) (trV_rt _) q⟩⟩
end

/-! ### statements -/
def aNext : AX := fun D s ts => D.nx s ts
def aSeq (t u : AX) : AX := fun D s ts => t { D with nx := u D } s ts
def aSet (i : Nat) (a : AE) : AX := fun D s ts => a s ts fun x ts1 => D.nx (s.set i (some x)) ts1
def aRet (a : AE) : AX := fun D s ts => a s ts D.rt
def aRetN : AX := fun D _ ts => D.rt (.dat .none) ts
def aDrop (a : AE) : AX := fun D s ts => a s ts fun _ ts1 => D.nx s ts1
def aIf (c : AT) (t u : AX) : AX := fun D s ts => c s ts fun k ts1 => if k = true then t D s ts1 else u D s ts1
def aBrk : AX := fun D s ts => D.bk s ts
def aCnt : AX := fun D s ts => D.ct s ts
section
variable {K : PySem.W.Frag} {S0 RH : Hp} {t u : TS} {x y : AX} {te : TE} {a : AE} {tt : TT} {c : AT}
instance : LkX K S0 RH tNext aNext := ⟨fun w σ s H O ts D D' st sl d q => d.nx σ s H O ts st sl q⟩
instance : LkX K S0 RH tBreak aBrk := ⟨fun w σ s H O ts D D' st sl d q => d.bk σ s H O ts st sl q⟩
instance : LkX K S0 RH tCont aCnt := ⟨fun w σ s H O ts D D' st sl d q => d.ct σ s H O ts st sl q⟩
instance [ht : LkX K S0 RH t x] [hu : LkX K S0 RH u y] : LkX K S0 RH (tSeq t u) (aSeq x y) := ⟨fun w σ s H O ts D D' st sl d q =>
  ht.run (D' := { D' with nx := y D' }) w st sl ⟨fun σ s H O ts st sl q => hu.run w st sl d q, d.rt, d.bk, d.ct⟩ q⟩
instance [ht : LkX K S0 RH t x] [hu : LkX K S0 RH u y] : LkX K S0 RH (tSeqK t u) (aSeq x y) := ⟨fun w σ s H O ts D D' st sl d q =>
  ht.run (D' := { D' with nx := y D' }) w st sl ⟨fun σ s H O ts st sl q => hu.run w st sl d q, d.rt, d.bk, d.ct⟩ q⟩
instance {i : Nat} [ha : LkE K S0 RH te a] : LkX K S0 RH (tAsg te (gName i)) (aSet i a) := ⟨fun w σ s H O ts D D' st sl d q =>
  ha.run w st sl (fun v H1 O1 t ts1 st1 e1 r q1 => d.nx _ _ H1 O1 ts1 st1 ((sl.ex e1).set r i) q1) q⟩
instance [ha : LkE K S0 RH te a] : LkX K S0 RH (tRet te) (aRet a) := ⟨fun w σ s H O ts D D' st sl d q =>
  ha.run w st sl (fun v H1 O1 t ts1 st1 e1 r q1 => d.rt v H1 O1 t ts1 st1 r q1) q⟩
instance : LkX K S0 RH tRetN aRetN := ⟨fun w σ s H O ts D D' st sl d q => d.rt _ H O _ ts st (.dat .non) q⟩
instance [ha : LkE K S0 RH te a] : LkX K S0 RH (tDrop te) (aDrop a) := ⟨fun w σ s H O ts D D' st sl d q =>
  ha.run w st sl (fun v H1 O1 t ts1 st1 e1 r q1 => d.nx _ _ H1 O1 ts1 st1 (sl.ex e1) q1) q⟩
instance [hc : LkT K S0 RH tt c] [ht : LkX K S0 RH t x] [hu : LkX K S0 RH u y] : LkX K S0 RH (tIfS tt t u) (aIf c x y) := ⟨fun w σ s H O ts D D' st sl d q =>
  hc.run w st sl (fun k H1 O1 ts1 st1 e1 q1 => by
    cases k with
    | true => rw [if_pos rfl] at q1 ⊢; exact ht.run w st1 (sl.ex e1) d q1
    | false => rw [if_neg (by simp)] at q1 ⊢; exact hu.run w st1 (sl.ex e1) d q1) q⟩
end

/-! ### seen otherwise: roots forgotten, slots forgotten, lists that stand still from now on -/
def Gho (s : AS) (ts : Trs) (s' : AS) (ts' : Trs) : Prop := ∀ (K : PySem.W.Frag) (S RH H : Hp) (O : List Addr) (σ : L2.St), Sta K S RH H O ts → Sl K (hid H O) s σ → ∃ O', Sta K S RH H O' ts' ∧ Sl K (hid H O') s' σ
def GhoV (t : Tr) (ts : Trs) (t' : Tr) (ts' : Trs) : Prop := ∀ (K : PySem.W.Frag) (S RH H : Hp) (O : List Addr) (v : V), Sta K S RH H O ts → Rt K (hid H O) t v → ∃ O', Sta K S RH H O' ts' ∧ Rt K (hid H O') t' v
theorem Gho.refl {s : AS} {ts : Trs} : Gho s ts s ts := fun K S RH H O σ st sl => ⟨O, st, sl⟩
theorem Gho.trans {s s1 s2 : AS} {ts ts1 ts2 : Trs} (a : Gho s ts s1 ts1) (b : Gho s1 ts1 s2 ts2) : Gho s ts s2 ts2 := fun K S RH H O σ st sl =>
  let ⟨O1, st1, sl1⟩ := a K S RH H O σ st sl
  b K S RH H O1 σ st1 sl1
theorem GhoV.refl {t : Tr} {ts : Trs} : GhoV t ts t ts := fun K S RH H O v st r => ⟨O, st, r⟩
theorem GhoV.trans {t t1 t2 : Tr} {ts ts1 ts2 : Trs} (a : GhoV t ts t1 ts1) (b : GhoV t1 ts1 t2 ts2) : GhoV t ts t2 ts2 := fun K S RH H O v st r =>
  let ⟨O1, st1, r1⟩ := a K S RH H O v st r
  b K S RH H O1 v st1 r1
def aNxG (f : AS → Trs → Prop) : AS → Trs → Prop := fun s ts => ∃ s' ts', Gho s ts s' ts' ∧ f s' ts'
def aRtG (f : AQ) : AQ := fun t ts => ∃ t' ts', GhoV t ts t' ts' ∧ f t' ts'
/-- only the first n roots -/
theorem Gho.keep {s : AS} {ts us : Trs} (r : List Tr) (h : (ndsL ts).Perm (ndsL us ++ r)) : Gho s ts s us := fun K S RH H O σ st sl => ⟨O, st.sub h, sl⟩
theorem GhoV.keep {t : Tr} {ts us : Trs} (r : List Tr) (h : (ndsL ts).Perm (ndsL us ++ r)) : GhoV t ts t us := fun K S RH H O v st r' => ⟨O, st.sub h, r'⟩
theorem Gho.cut {s : AS} {ts us : Trs} : Gho s (ts ++ us) s ts := Gho.keep (ndsL us) (by rw [ndsL_app])
theorem GhoV.cut {t : Tr} {ts us : Trs} : GhoV t (ts ++ us) t ts := GhoV.keep (ndsL us) (by rw [ndsL_app])
theorem Gho.pick {s : AS} {ts : Trs} (is : List Nat) (h : okIx ts.length is = true) : Gho s ts s (pickT ts is) := by
  obtain ⟨R, h1, _⟩ := (Frm.roots is h).ex
  exact Gho.keep R h1
theorem GhoV.pick {t : Tr} {ts : Trs} (is : List Nat) (h : okIx ts.length is = true) : GhoV t ts t (pickT ts is) := by
  obtain ⟨R, h1, _⟩ := (Frm.roots is h).ex
  exact GhoV.keep R h1
theorem Gho.forget {s s' : AS} {ts : Trs} (hl : s'.length = s.length) (h : ∀ (i : Nat) (t : Tr), s'[i]? = some (some t) → s[i]? = some (some t)) : Gho s ts s' ts := fun K S RH H O σ st sl => ⟨O, st, hl.trans sl.len, fun i t q => sl.at_ i t (h i t q)⟩
def aXG (f : AZ) : AZ := fun x fs ts => ∃ ts' r, (ndsL ts).Perm (ndsL ts' ++ r) ∧ f x fs ts'
/-! ### a def's promise over trees -/
def spA (K : PySem.W.Frag) (n : Nat) (asp : ASp) : Sp := fun vs H Q E => vs.length = n ∧ ∃ O us ts RH Q' E', Sta K (hid H O) RH H O ts ∧ RtL K (hid H O) us vs ∧ asp us ts Q' E' ∧ CtE K (hid H O) RH (hid H O) Q Q' ∧ CtX K (hid H O) RH E E'
theorem sl_start {K : PySem.W.Frag} {S : Hp} {N : List Str} : ∀ {us : Trs} {vs : List V}, RtL K S us vs → Sl K S (us.map some ++ List.replicate (N.length - us.length) none) (L2.start N vs) := fun {us vs} r => by
  have hl := r.len
  have e : L2.start N vs = vs.map some ++ List.replicate (N.length - vs.length) none := rfl
  rw [e]
  refine ⟨by simp [hl], fun i t h => ?_⟩
  rw [List.getElem?_append] at h ⊢
  simp only [List.length_map] at h ⊢
  by_cases z : i < us.length
  · rw [if_pos z] at h
    rw [if_pos (by omega)]
    rw [List.getElem?_map] at h ⊢
    cases q : us[i]? with
    | none => rw [q] at h; cases h
    | some u =>
      rw [q] at h
      cases h
      obtain ⟨v, h1, h2⟩ := r.get q
      exact ⟨v, by rw [h1]; rfl, h2⟩
  · rw [if_neg z] at h
    rw [List.getElem?_replicate] at h
    split at h <;> cases h
def aStart (N : List Str) (us : Trs) : AS := us.map some ++ List.replicate (N.length - us.length) none
theorem spA_run {K : PySem.W.Frag} {n : Nat} {asp : ASp} {N : List Str} {vs : List V} {H : Hp} {Q : VK} {E : XK} {t : TS} {ax : AW → AX} (h : spA K n asp vs H Q E)
    (lk : ∀ (S RH : Hp) (aw : AW), LkW K S RH (fun cls d _ H => E cls d H) aw → LkX K S RH t (ax aw))
    (go : ∀ us ts Q' E', us.length = n → asp us ts Q' E' → ax (fun x fs _ ts => aXG E' x fs ts) { nx := fun _ ts => aRtG Q' (.dat .none) ts, rt := aRtG Q' } (aStart N us) ts) :
    t { nx := fun _ H' => Q .non H', rt := Q } (L2.start N vs) H := by
  obtain ⟨hn, O, us, ts, RH, Q', E', st, r, hs, cq, cx⟩ := h
  have w : LkW K (hid H O) RH (fun cls d _ H => E cls d H) (fun x fs _ ts => aXG E' x fs ts) := ⟨fun st sl xr ⟨ts', r, p, q⟩ => cx _ _ _ _ _ _ (st.sub p) xr q⟩
  refine (lk _ _ _ w).run (Wle.refl _ _) st (sl_start r) ?_ (go us ts Q' E' (by rw [r.len]; exact hn) hs)
  have go2 : ∀ v H1 O1 t ts1, Sta K (hid H O) RH H1 O1 ts1 → Rt K (hid H1 O1) t v → aRtG Q' t ts1 → Q v H1 := fun v H1 O1 t ts1 st1 r ⟨t', ts', g, q⟩ => by
    obtain ⟨O2, st2, r2⟩ := g K _ _ _ _ _ st1 r
    exact cq _ _ _ _ _ st2 st2.ex r2 q
  exact ⟨fun σ s H1 O1 ts1 st1 _ q => go2 _ _ _ _ _ st1 (.dat .non) q, fun v H1 O1 t ts1 st1 r q => go2 _ _ _ _ _ st1 r q, fun _ _ _ _ _ _ _ q => q.elim, fun _ _ _ _ _ _ _ q => q.elim⟩

/-! ### calls -/
def aGo (n : Nat) (asp : ASp) (us : Trs) (ts : Trs) (Q : AQ) (E : AZ) : Prop := us.length = n ∧ ∃ sub c ok, Frm ts sub c ok ∧ asp us sub (fun t sub' => ok sub' ∧ Q t (c sub')) (fun x fs sub' => ok sub' ∧ E x fs (c sub'))
def aCall (n : Nat) (asp : ASp) (aw : AW) (a : AA) : AE := fun s ts Q => a s ts fun us ts1 => aGo n asp us ts1 Q fun x fs ts2 => aw x fs s ts2
section
variable {K : PySem.W.Frag}
/-- a part of the state goes through a call -/
theorem frame_in {S RH H : Hp} {O : List Addr} {ts sub : Trs} {c : Trs → Trs} {ok : Trs → Prop} (st : Sta K S RH H O ts) (f : Frm ts sub c ok) :
    ∃ RH', Sta K (hid H O) RH' H O sub ∧ ∀ {H' : Hp} {O' : List Addr} {sub' : Trs}, Sta K (hid H O) RH' H' O' sub' → ok sub' → Sta K S RH H' O' (c sub') := by
  obtain ⟨R, h1, h2⟩ := f.ex
  refine ⟨fun b => if ∃ n ∈ R, adr n = b then H b else RH b, ?_, ?_⟩
  · have s1 : Sta K S RH H O sub := st.sub h1
    refine ⟨s1.nd, s1.no, s1.io, fun b o q => ?_, Ex.refl _, s1.lv⟩
    split at q
    · rename_i z
      obtain ⟨n, hn, rfl⟩ := z
      have hn1 : n ∈ ndsL ts := h1.mem_iff.mpr (List.mem_append_right _ hn)
      refine ⟨st.io n hn1, q, fun m hm e => ?_⟩
      have nd := (h1.map adr).nodup_iff.mp st.no
      rw [List.map_append, List.nodup_append] at nd
      exact nd.2.2 _ (List.mem_map_of_mem hm) _ (List.mem_map_of_mem hn) e
    · exact s1.rh b o q
  · intro H' O' sub' s' hok
    have p := h2 sub' hok
    have keep : ∀ n ∈ R, H' (adr n) = H (adr n) ∧ adr n ∈ O' ∧ ∀ m ∈ ndsL sub', adr m ≠ adr n := fun n hn => by
      have hn1 : n ∈ ndsL ts := h1.mem_iff.mpr (List.mem_append_right _ hn)
      obtain ⟨o, ho⟩ := (st.nd n hn1).at_
      obtain ⟨a, b, d⟩ := s'.rh (adr n) o (by rw [if_pos ⟨n, hn, rfl⟩]; exact ho)
      exact ⟨by rw [b, ho], a, d⟩
    have memc : ∀ n ∈ ndsL (c sub'), n ∈ ndsL sub' ∨ n ∈ R := fun n hn => List.mem_append.mp (p.mem_iff.mp hn)
    refine ⟨fun n hn => ?_, ?_, fun n hn => ?_, fun b o q => ?_, st.ex.trans s'.ex, s'.lv⟩
    · rcases memc n hn with z | z
      · exact s'.nd n z
      · exact (st.nd n (h1.mem_iff.mpr (List.mem_append_right _ z))).to s'.ex (keep n z).1
    · refine (p.map adr).nodup_iff.mpr ?_
      rw [List.map_append, List.nodup_append]
      refine ⟨s'.no, ?_, fun x hx y hy => ?_⟩
      · have nd := (h1.map adr).nodup_iff.mp st.no
        rw [List.map_append, List.nodup_append] at nd
        exact nd.2.1
      · obtain ⟨m, hm, rfl⟩ := List.mem_map.mp hx
        obtain ⟨n, hn, rfl⟩ := List.mem_map.mp hy
        exact (keep n hn).2.2 m hm
    · rcases memc n hn with z | z
      · exact s'.io n z
      · exact (keep n z).2.1
    · obtain ⟨r1, r2, r3⟩ := st.rh b o q
      have nR : ¬ ∃ n ∈ R, adr n = b := fun ⟨n, hn, e⟩ => r3 n (h1.mem_iff.mpr (List.mem_append_right _ hn)) e
      obtain ⟨a1, a2, a3⟩ := s'.rh b o (by rw [if_neg nR]; exact q)
      refine ⟨a1, a2, fun n hn => ?_⟩
      rcases memc n hn with z | z
      · exact a3 n z
      · exact r3 n (h1.mem_iff.mpr (List.mem_append_right _ z))
theorem call_in {S0 RH0 S RH H : Hp} {O : List Addr} {ts us : Trs} {vs : List V} {σ : L2.St} {s : AS} {W : WX} {aw : AW} {asp : ASp} {Q : VK} {Q' : AQ} {n : Nat} (hW : LkW K S0 RH0 W aw) (w : Wle S0 RH0 S RH) (st : Sta K S RH H O ts) (sl : Sl K (hid H O) s σ) (r : RtL K (hid H O) us vs)
    (ct : CtE K S RH (hid H O) Q Q') (q : aGo n asp us ts Q' fun x fs ts2 => aw x fs s ts2) : spA K n asp vs H Q (fun cls d H' => W cls d σ H') := by
  obtain ⟨hn, sub, c, ok, f, q⟩ := q
  obtain ⟨RH', st1, back⟩ := frame_in st f
  refine ⟨by rw [← r.len]; exact hn, O, us, sub, RH', _, _, st1, r, q, ?_, ?_⟩
  · intro v H' O' t sub' s' e rt ⟨hok, q'⟩
    exact ct v H' O' t (c sub') (back s' hok) e rt q'
  · intro x fs d H' O' sub' s' xr ⟨hok, q'⟩
    exact hW.run ((back s' hok).wle w) (sl.ex s'.ex) xr q'
theorem call_in0 {S RH H : Hp} {O : List Addr} {ts us : Trs} {vs : List V} {asp : ASp} {Q : VK} {Q' : AQ} {n : Nat} (st : Sta K S RH H O ts) (r : RtL K (hid H O) us vs)
    (ct : CtE K S RH (hid H O) Q Q') (q : aGo n asp us ts Q' fun _ _ _ => False) : spA K n asp vs H Q E0 := by
  obtain ⟨hn, sub, c, ok, f, q⟩ := q
  obtain ⟨RH', st1, back⟩ := frame_in st f
  refine ⟨by rw [← r.len]; exact hn, O, us, sub, RH', _, _, st1, r, q, ?_, ?_⟩
  · intro v H' O' t sub' s' e rt ⟨hok, q'⟩
    exact ct v H' O' t (c sub') (back s' hok) e rt q'
  · intro x fs d H' O' sub' s' xr ⟨hok, q'⟩
    exact q'.elim
end
def aCall0 (n : Nat) (asp : ASp) (a : AA) : AE := fun s ts Q => a s ts fun us ts1 => aGo n asp us ts1 Q fun _ _ _ => False
section
variable {K : PySem.W.Frag} {S0 RH : Hp} {W : WX} {aw : AW} {asp : ASp} {tr : TA} {a : AA} {n : Nat}
instance [hW : LkW K S0 RH W aw] [ha : LkA K S0 RH tr a] : LkE K S0 RH (cCall (spA K n asp) W tr) (aCall n asp aw a) := ⟨fun w σ s H O ts Q Q' st sl ct q =>
  ha.run w st sl (fun vs H1 O1 us ts1 st1 e1 r1 q1 => call_in hW w st1 (sl.ex e1) r1 (fun v H3 O3 t ts3 st3 e3 rt q3 => ct v H3 O3 t ts3 st3 (e1.trans e3) rt q3) q1) q⟩
instance [ha : LkA K S0 RH tr a] : LkE K S0 RH (cCall0 (spA K n asp) tr) (aCall0 n asp a) := ⟨fun w σ s H O ts Q Q' st sl ct q =>
  ha.run w st sl (fun vs H1 O1 us ts1 st1 e1 r1 q1 => call_in0 st1 r1 (fun v H3 O3 t ts3 st3 e3 rt q3 => ct v H3 O3 t ts3 st3 (e1.trans e3) rt q3) q1) q⟩
end

end GL

namespace GL
open PySem PySem.Spec PyProof.Rows L2 Evl

/-! ## a tree that is data -/
mutual
def plain : Tr → Option PyData
  | .dat d => some d
  | .tup xs => (plainL xs).map .tuple
  | .lst _ xs => (plainL xs).map .list
  | _ => none
def plainL : List Tr → Option (List PyData)
  | [] => some []
  | t :: r => match plain t, plainL r with
    | some d, some ds => some (d :: ds)
    | _, _ => none
end
theorem plainL_cons {t : Tr} {r : Trs} {ds : List PyData} (h : plainL (t :: r) = some ds) : ∃ d es, plain t = some d ∧ plainL r = some es ∧ ds = d :: es := by
  simp only [plainL] at h
  split at h
  · rename_i d es e1 e2
    exact ⟨d, es, e1, e2, (Option.some.inj h).symm⟩
  · cases h
mutual
theorem plain_dp {K : PySem.W.Frag} {S H : Hp} (e : Ex S H) : ∀ {t : Tr} {d : PyData} {v : V}, (∀ n ∈ nds t, NdOk K S H n) → plain t = some d → Rt K S t v → Dr K H v d
  | .dat d, _, _, _, h, r => by
    simp only [plain, Option.some.injEq] at h
    subst h
    cases r with
    | dat h => exact h.ex e
  | .val _, _, _, _, h, _ => by simp [plain] at h
  | .scr _, _, _, _, h, _ => by simp [plain] at h
  | .tup xs, d, v, ok, h, r => by
    simp only [plain, Option.map_eq_some_iff] at h
    obtain ⟨ds, h, rfl⟩ := h
    cases r with
    | tup hs r => exact .tup (ex_t e hs) (plainL_dp e (fun n hn => ok n (by rw [nds]; exact hn)) h r)
  | .lst p xs, d, v, ok, h, r => by
    simp only [plain, Option.map_eq_some_iff] at h
    obtain ⟨ds, h, rfl⟩ := h
    cases r
    obtain ⟨vs, h1, h2⟩ := ok (.lst p (voL xs)) (by rw [nds]; exact List.mem_cons_self)
    exact .lst (.inl h1) (plainL_dp e (fun n hn => ok n (by rw [nds]; exact List.mem_cons_of_mem _ hn)) h h2.unvo)
  | .dct _ _, _, _, _, h, _ => by simp [plain] at h
  | .ins _ _ _, _, _, _, h, _ => by simp [plain] at h
theorem plainL_dp {K : PySem.W.Frag} {S H : Hp} (e : Ex S H) : ∀ {ts : Trs} {ds : List PyData} {vs : List V}, (∀ n ∈ ndsL ts, NdOk K S H n) → plainL ts = some ds → RtL K S ts vs → DrAll K H vs ds
  | [], ds, _, _, h, r => by
    cases r
    simp only [plainL, Option.some.injEq] at h
    subst h
    exact .nil
  | t :: ts, ds, _, ok, h, r => by
    obtain ⟨d, es, h1, h2, rfl⟩ := plainL_cons h
    cases r with
    | cons r1 r2 => exact .cons (plain_dp e (fun n hn => ok n (by rw [ndsL]; exact List.mem_append_left _ hn)) h1 r1) (plainL_dp e (fun n hn => ok n (by rw [ndsL]; exact List.mem_append_right _ hn)) h2 r2)
end
theorem plainL_dats : ∀ ds : List PyData, plainL (ds.map .dat) = some ds
  | [] => rfl
  | d :: ds => by simp [plainL, plain, plainL_dats ds]
theorem ndsL_dats : ∀ ds : List PyData, ndsL (ds.map .dat) = []
  | [] => rfl
  | d :: ds => by simp [ndsL, nds, ndsL_dats ds]
theorem voL_dats : ∀ ds : List PyData, voL (ds.map .dat) = ds.map .dat
  | [] => rfl
  | d :: ds => by simp [voL, vo, voL_dats ds]
/-- what a value is as data, its lists read where they stand -/
inductive DO (ts : Trs) : Tr → PyData → Prop
  | dat {d : PyData} : DO ts (.dat d) d
  | ref {p : Addr} {xs : Trs} {c : Tr → Trs} {ds : List PyData} (f : FocL ts (.lst p xs) c) (h : plainL xs = some ds) : DO ts (.val (.ref p)) (.list ds)
  | tup0 : DO ts (.tup []) (.tuple [])
  | tup {x : Tr} {xs : Trs} {d : PyData} {ds : List PyData} (h : DO ts x d) (r : DO ts (.tup xs) (.tuple ds)) : DO ts (.tup (x :: xs)) (.tuple (d :: ds))
section
variable {K : PySem.W.Frag} {S0 RH H : Hp} {O : List Addr} {ts : Trs}
theorem do_tup (s : Sta K S0 RH H O ts) : ∀ {t : Tr} {d : PyData}, DO ts t d → (∀ v, Rt K (hid H O) t v → Dr K H v d) ∧ ∀ xs ds, t = .tup xs → d = .tuple ds → ∀ vs, RtL K (hid H O) xs vs → DrAll K H vs ds
  | _, _, .dat => ⟨fun v r => by cases r with | dat h => exact h.ex hid_ex, fun _ _ e => nomatch e⟩
  | _, _, .ref f h => by
    refine ⟨fun v r => ?_, fun _ _ e => nomatch e⟩
    obtain rfl := rt_val r
    exact plain_dp hid_ex (fun n hn => s.nd n (f.sees n hn)) (by simp [plain, h]) .lst
  | _, _, .tup0 => by
    refine ⟨fun v r => ?_, fun xs ds e1 e2 vs r => ?_⟩
    · cases r with | tup hs r => cases r; exact .tup (ex_t hid_ex hs) .nil
    · cases e1; cases e2; cases r; exact .nil
  | _, _, .tup h r => by
    have i1 := do_tup s h
    have i2 := do_tup s r
    refine ⟨fun v q => ?_, fun xs ds e1 e2 vs q => ?_⟩
    · cases q with | tup hs q => cases q with | cons q1 q2 => exact .tup (ex_t hid_ex hs) (.cons (i1.1 _ q1) (i2.2 _ _ rfl rfl _ q2))
    · cases e1; cases e2; cases q with | cons q1 q2 => exact .cons (i1.1 _ q1) (i2.2 _ _ rfl rfl _ q2)
theorem DO.dr (s : Sta K S0 RH H O ts) {t : Tr} {d : PyData} {v : V} (h : DO ts t d) (r : Rt K (hid H O) t v) : Dr K H v d := (do_tup s h).1 v r
theorem shaped_nd {d : PyData} (h : SeqAt.shaped d = true) : d.hasDict = false := PyData.hasDict_of_canLay d (Bool.and_eq_true_iff.mp (by unfold SeqAt.shaped at h; exact h)).1
theorem DO.dp (s : Sta K S0 RH H O ts) {t : Tr} {d : PyData} {v : V} (h : DO ts t d) (r : Rt K (hid H O) t v) (n : d.hasDict = false) : Dp K H v d := (h.dr s r).dp n
/-- .. or an empty dict -/
inductive DOd (ts : Trs) : Tr → PyData → Prop
  | of {t : Tr} {d : PyData} (h : DO ts t d) : DOd ts t d
  | dct {p : Addr} {c : Tr → Trs} (f : FocL ts (.dct p []) c) : DOd ts (.val (.ref p)) (.dict [])
theorem DOd.dr (s : Sta K S0 RH H O ts) {t : Tr} {d : PyData} {v : V} (h : DOd ts t d) (r : Rt K (hid H O) t v) : Dr K H v d := by
  cases h with
  | of h => exact h.dr s r
  | dct f =>
    obtain rfl := rt_val r
    obtain ⟨ps, h1, h2, _⟩ := s.dct f
    have : ps = [] := by simpa using h2
    subst this
    exact .dct0 (.inl h1)
/-- a sequence that is read: its items as values -/
inductive SeqL (ts : Trs) : Tr → Trs → Prop
  | dat {ds : List PyData} : SeqL ts (.dat (.list ds)) (ds.map .dat)
  | scr {ns : List Int} : SeqL ts (.scr ns) (ns.map fun i => .dat (.int i))
  | ref {p : Addr} {xs : Trs} {c : Tr → Trs} (f : FocL ts (.lst p xs) c) : SeqL ts (.val (.ref p)) (voL xs)
inductive SeqT (ts : Trs) : Tr → Trs → Prop
  | dat {ds : List PyData} : SeqT ts (.dat (.tuple ds)) (ds.map .dat)
  | tup {xs : Trs} : SeqT ts (.tup xs) (voL xs)
theorem rtl_ints {S : Hp} : ∀ ns : List Int, RtL K S (ns.map fun i => .dat (.int i)) (ns.map V.int)
  | [] => .nil
  | i :: ns => .cons (.dat (.int i)) (rtl_ints ns)
theorem SeqL.sq (s : Sta K S0 RH H O ts) {t : Tr} {xs : Trs} {v : V} (h : SeqL ts t xs) (r : Rt K (hid H O) t v) : ∃ p vs, v = .ref p ∧ SqL K H p vs ∧ RtL K (hid H O) xs vs := by
  cases h with
  | dat => cases r with | dat r => cases r with | lst hs ha => exact ⟨_, _, rfl, ex_l hid_ex (.inl hs), RtL.dats ha⟩
  | scr => cases r with | scr hs => exact ⟨_, _, rfl, ex_l hid_ex hs, rtl_ints _⟩
  | ref f =>
    obtain rfl := rt_val r
    obtain ⟨vs, h1, h2⟩ := s.lst f
    exact ⟨_, vs, rfl, sq_of h1, h2.vo⟩
theorem SeqT.sq {t : Tr} {xs : Trs} {v : V} (h : SeqT ts t xs) (r : Rt K (hid H O) t v) : ∃ p vs, v = .ref p ∧ SqT K (hid H O) p vs ∧ RtL K (hid H O) xs vs := by
  cases h with
  | dat => cases r with | dat r => cases r with | tup hs ha => exact ⟨_, _, rfl, hs, RtL.dats ha⟩
  | tup => cases r with | tup hs r => exact ⟨_, _, rfl, hs, r.vo⟩
end

/-! ### new tuples, new lists -/
theorem dats_rt {K : PySem.W.Frag} {S : Hp} {us : Trs} {vs : List V} {ds : List PyData} (r : RtL K S us vs) (e : us = ds.map .dat) : DrAll K S vs ds := by subst e; exact r.undats
def aTup (a : AA) : AE := fun s ts Q => a s ts fun us ts1 => us.length ≤ 100000 ∧ ((∃ ds, us = ds.map .dat ∧ Q (.dat (.tuple ds)) ts1) ∨ Q (.tup us) ts1)
/-- a list that is only read from now on -/
def aLstF (a : AA) : AE := fun s ts Q => a s ts fun us ts1 => us.length ≤ 100000 ∧ ∃ ds, us = ds.map .dat ∧ Q (.dat (.list ds)) ts1
/-- a list that may change -/
def aLstM (a : AA) : AE := fun s ts Q => a s ts fun us ts1 => us.length ≤ 100000 ∧ ndsL us = [] ∧ ∀ p, Q (.val (.ref p)) (ts1 ++ [.lst p us])
def tLstM (t : TA) : TE := tLstN t
theorem pe_lstM {X : Cx} {es : List Expr} {t : TA} {pos : Pos} (h : PA X es t) : PE X (.List es pos) (tLstM t) := pe_lstN h
section
variable {K : PySem.W.Frag} {S0 RH : Hp} {tr : TA} {a : AA}
theorem hid_at {H H2 : Hp} {O : List Addr} {p : Addr} {o : HO} (lv : ∀ b ∈ O, H b ≠ none) (np : H p = none) (h : H2 p = some o) : hid H2 O p = some o := hid_of h fun z => lv p z np
theorem ret_tup {S RH H H2 : Hp} {O : List Addr} {ts us : Trs} {vs : List V} {p : Addr} {Q : VK} {Q' : AQ} (st : Sta K S RH H O ts) (r : RtL K (hid H O) us vs) (ct : CtE K S RH (hid H O) Q Q') (np : H p = none) (e : Ex H H2) (hp : H2 p = some (.tup vs))
    (q : (∃ ds, us = ds.map .dat ∧ Q' (.dat (.tuple ds)) ts) ∨ Q' (.tup us) ts) : Q (.ref p) H2 := by
  have eh := hid_grow (O := O) e
  have hp' : SqT K (hid H2 O) p vs := st_of (hid_at st.lv np hp)
  rcases q with ⟨ds, eu, q⟩ | q
  · exact ct _ H2 O _ ts (st.grow e) eh (.dat (.tup hp' (dats_rt (r.ex eh) eu))) q
  · exact ct _ H2 O _ ts (st.grow e) eh (.tup hp' (r.ex eh)) q
theorem ret_lstF {S RH H H2 : Hp} {O : List Addr} {ts us : Trs} {vs : List V} {p : Addr} {Q : VK} {Q' : AQ} (st : Sta K S RH H O ts) (r : RtL K (hid H O) us vs) (ct : CtE K S RH (hid H O) Q Q') (np : H p = none) (e : Ex H H2) (hp : H2 p = some (.lst vs))
    (q : ∃ ds, us = ds.map .dat ∧ Q' (.dat (.list ds)) ts) : Q (.ref p) H2 := by
  have eh := hid_grow (O := O) e
  obtain ⟨ds, eu, q⟩ := q
  exact ct _ H2 O _ ts (st.grow e) eh (.dat (.lst (.inl (hid_at st.lv np hp)) (dats_rt (r.ex eh) eu))) q
/-- an object of the state's own that has come with the heap's growth -/
theorem Sta.come {S RH H H2 : Hp} {O : List Addr} {ts : Trs} {p : Addr} {t n : Tr} (st : Sta K S RH H O ts) (np : H p = none) (e : Ex H H2) (hn : nds t = [n]) (ha : adr n = p) (ok : NdOk K (hid H2 (p :: O)) H2 n) : Sta K S RH H2 (p :: O) (ts ++ [t]) ∧ Ex (hid H O) (hid H2 (p :: O)) := by
  have eh : Ex (hid H O) (hid H2 (p :: O)) := fun b u q => by
    obtain ⟨h1, h2⟩ := hid_some q
    exact hid_of (e b u h1) fun z => (List.mem_cons.mp z).elim (ne_of_none h1 np) h2
  refine ⟨?_, eh⟩
  have hne : ∀ n ∈ ndsL ts, adr n ≠ p := fun n hn z => st.notNone hn (by rw [z]; exact np)
  have nl : ndsL (ts ++ [t]) = ndsL ts ++ [n] := by rw [ndsL_app]; simp [ndsL, hn]
  obtain ⟨op, hop⟩ := ok.at_
  refine ⟨fun m h => ?_, ?_, fun m h => ?_, fun b u q => ?_, st.ex.trans eh, fun b hb => ?_⟩
  · rw [nl] at h
    rcases List.mem_append.mp h with z | z
    · obtain ⟨o, ho⟩ := (st.nd m z).at_
      exact (st.nd m z).to eh (by rw [ho, e _ _ ho])
    · rw [List.mem_singleton.mp z]; exact ok
  · rw [nl, List.map_append, List.nodup_append]
    refine ⟨st.no, by simp, fun x hx y hy => ?_⟩
    obtain ⟨m, hm, rfl⟩ := List.mem_map.mp hx
    have : y = adr n := by simpa using hy
    rw [this, ha]
    exact hne m hm
  · rw [nl] at h
    rcases List.mem_append.mp h with z | z
    · exact List.mem_cons_of_mem _ (st.io m z)
    · rw [List.mem_singleton.mp z, ha]; exact List.mem_cons_self
  · obtain ⟨h1, h2, h3⟩ := st.rh b u q
    refine ⟨List.mem_cons_of_mem _ h1, e _ _ h2, fun m h => ?_⟩
    rw [nl] at h
    rcases List.mem_append.mp h with z | z
    · exact h3 m z
    · rw [List.mem_singleton.mp z, ha]; exact (ne_of_none h2 np).symm
  · rcases List.mem_cons.mp hb with z | z
    · rw [z, ← ha, hop]; simp
    · cases y : H b with
      | none => exact absurd y (st.lv b z)
      | some o => rw [e b o y]; simp
theorem ndsL_nil_lst {p : Addr} {us : Trs} (h : ndsL us = []) : nds (.lst p us) = [.lst p (voL us)] := by simp only [nds, h]
theorem ret_lstM {S RH H H2 : Hp} {O : List Addr} {ts us : Trs} {vs : List V} {p : Addr} {Q : VK} {Q' : AQ} (st : Sta K S RH H O ts) (r : RtL K (hid H O) us vs) (ct : CtE K S RH (hid H O) Q Q') (np : H p = none) (e : Ex H H2) (hp : H2 p = some (.lst vs))
    (hn : ndsL us = []) (q : ∀ p, Q' (.val (.ref p)) (ts ++ [.lst p us])) : Q (.ref p) H2 := by
  have eh : Ex (hid H O) (hid H2 (p :: O)) := fun b u q => by
    obtain ⟨h1, h2⟩ := hid_some q
    exact hid_of (e b u h1) fun z => (List.mem_cons.mp z).elim (ne_of_none h1 np) h2
  obtain ⟨st2, e2⟩ := st.come (t := .lst p us) np e (ndsL_nil_lst hn) rfl ⟨vs, hp, (r.ex eh).vo⟩
  exact ct _ H2 _ _ _ st2 e2 .val (q p)
instance [ha : LkA K S0 RH tr a] : LkE K S0 RH (tTupN tr) (aTup a) := ⟨fun w σ s H O ts Q Q' st sl ct q =>
  ha.run w st sl (fun vs H1 O1 us ts1 st1 e1 r1 ⟨hl, q1⟩ => ⟨by rw [← r1.len]; exact hl, fun p H2 np e hp =>
    ret_tup st1 r1 (fun v H3 O3 t ts3 st3 e3 rt q3 => ct v H3 O3 t ts3 st3 (e1.trans e3) rt q3) np e hp q1⟩) q⟩
instance [ha : LkA K S0 RH tr a] : LkE K S0 RH (tLstN tr) (aLstF a) := ⟨fun w σ s H O ts Q Q' st sl ct q =>
  ha.run w st sl (fun vs H1 O1 us ts1 st1 e1 r1 ⟨hl, q1⟩ => ⟨by rw [← r1.len]; exact hl, fun p H2 np e hp =>
    ret_lstF st1 r1 (fun v H3 O3 t ts3 st3 e3 rt q3 => ct v H3 O3 t ts3 st3 (e1.trans e3) rt q3) np e hp q1⟩) q⟩
instance [ha : LkA K S0 RH tr a] : LkE K S0 RH (tLstM tr) (aLstM a) := ⟨fun w σ s H O ts Q Q' st sl ct q =>
  ha.run w st sl (fun vs H1 O1 us ts1 st1 e1 r1 ⟨hl, hn, q1⟩ => ⟨by rw [← r1.len]; exact hl, fun p H2 np e hp =>
    ret_lstM st1 r1 (fun v H3 O3 t ts3 st3 e3 rt q3 => ct v H3 O3 t ts3 st3 (e1.trans e3) rt q3) np e hp hn q1⟩) q⟩
end

/-! ### operations -/
def aEqU : AR := fun x y ts Q => ∃ d e, DO ts x d ∧ DO ts y e ∧ SeqAt.shaped d = true ∧ SeqAt.shaped e = true ∧ Q (.dat (.bool (PyData.eqv d e))) ts
def aNeU : AR := fun x y ts Q => ∃ d e, DO ts x d ∧ DO ts y e ∧ SeqAt.shaped d = true ∧ SeqAt.shaped e = true ∧ Q (.dat (.bool (!PyData.eqv d e))) ts
def trI : Tr → V
  | .dat (.int i) => .int i
  | .dat (.str i) => .str i
  | .dat (.bool i) => .bl i
  | _ => .non
def flatT : Tr → Bool
  | .dat (.int _) => true
  | .dat (.str _) => true
  | .dat (.bool _) => true
  | .dat .none => true
  | _ => false
theorem flat_rt {K : PySem.W.Frag} {S : Hp} : ∀ {t : Tr} {v : V}, flatT t = true → Rt K S t v → v = trI t
  | .dat (.int _), _, _, r => rt_int r
  | .dat (.str _), _, _, r => rt_str r
  | .dat (.bool _), _, _, r => rt_bool r
  | .dat .none, _, _, r => rt_non r
  | .dat (.list _), _, h, _ => by simp [flatT] at h
  | .dat (.tuple _), _, h, _ => by simp [flatT] at h
  | .dat (.dict _), _, h, _ => by simp [flatT] at h
  | .val _, _, h, _ => by simp [flatT] at h
  | .scr _, _, h, _ => by simp [flatT] at h
  | .tup _, _, h, _ => by simp [flatT] at h
  | .lst _ _, _, h, _ => by simp [flatT] at h
  | .dct _ _, _, h, _ => by simp [flatT] at h
  | .ins _ _ _, _, h, _ => by simp [flatT] at h
def aEq : AR := fun x y ts Q => flatT x = true ∧ flatT y = true ∧ scal (trI x) (trI y) = true ∧ Q (.dat (.bool (decide (trI x = trI y)))) ts
def aNe : AR := fun x y ts Q => flatT x = true ∧ flatT y = true ∧ scal (trI x) (trI y) = true ∧ Q (.dat (.bool (!decide (trI x = trI y)))) ts
def isNonT : Tr → Bool
  | .dat .none => true
  | _ => false
theorem isNonT_rt {K : PySem.W.Frag} {S : Hp} {t : Tr} {v : V} (h : ∀ w, t ≠ .val w) (r : Rt K S t v) : decide (v = V.non) = isNonT t := by
  cases r with
  | dat h => cases h <;> simp [isNonT]
  | val => exact absurd rfl (h _)
  | scr _ => simp [isNonT]
  | tup _ _ => simp [isNonT]
  | lst => simp [isNonT]
  | dct => simp [isNonT]
  | ins => simp [isNonT]
def aIsN : AR := fun x y ts Q => y = .dat .none ∧ ((∃ p, x = .val (.ref p)) ∨ ∀ w, x ≠ .val w) ∧ Q (.dat (.bool (isNonT x))) ts
def aNotN : AR := fun x y ts Q => y = .dat .none ∧ ((∃ p, x = .val (.ref p)) ∨ ∀ w, x ≠ .val w) ∧ Q (.dat (.bool (!isNonT x))) ts
theorem isN_rt {K : PySem.W.Frag} {S : Hp} {t : Tr} {v : V} (h : (∃ p, t = .val (.ref p)) ∨ ∀ w, t ≠ .val w) (r : Rt K S t v) : decide (v = V.non) = isNonT t := by
  rcases h with ⟨p, rfl⟩ | h
  · rw [rt_val r]; simp [isNonT]
  · exact isNonT_rt h r
/-- x[i] -/
def aIx : AR := fun x y ts Q => ∃ i, y = .dat (.int i) ∧ ((∃ xs t, (SeqL ts x xs ∨ SeqT ts x xs) ∧ atI xs i = some t ∧ Q t ts) ∨ ∃ (z : Str) (c : Nat), x = .dat (.str z) ∧ z.length ≤ sizeLine ∧ atI z.cps.toList i = some c ∧ Q (.dat (.str ⟨#[c]⟩)) ts)
theorem atI_rt {K : PySem.W.Frag} {S : Hp} {xs : Trs} {vs : List V} {i : Int} {t : Tr} (r : RtL K S xs vs) (h : atI xs i = some t) : ∃ v, atI vs i = some v ∧ Rt K S t v := by
  unfold atI at h ⊢
  rw [r.len] at h
  cases e : ixN vs.length i with
  | none => rw [e] at h; cases h
  | some j => rw [e] at h; exact r.get h
/-- x in .., of plain values -/
def inT (x : Tr) (xs : Trs) : Bool := inV (trI x) (xs.map trI)
def aIn (neg : Bool) : AR := fun x y ts Q => ∃ xs, (SeqL ts y xs ∨ SeqT ts y xs) ∧ flatT x = true ∧ xs.all flatT = true ∧ Q (.dat (.bool (if neg then !inT x xs else inT x xs))) ts
def aCatF : AR := fun x y ts Q => ∃ ds es, DO ts x (.list ds) ∧ DO ts y (.list es) ∧ ds.length + es.length ≤ 100000 ∧ Q (.dat (.list (ds ++ es))) ts
def aCatS : AR := fun x y ts Q => ∃ a b : Str, x = .dat (.str a) ∧ y = .dat (.str b) ∧ a.length + b.length ≤ sizeLine ∧ Q (.dat (.str (a ++ b))) ts
section
variable {K : PySem.W.Frag}
instance : LkR K (rEqU K) aEqU := ⟨fun st rx ry ct ⟨d, e, dx, dy, s1, s2, q⟩ => .inr ⟨d, e, dx.dp st rx (shaped_nd s1), dy.dp st ry (shaped_nd s2), s1, s2, ct _ _ _ _ _ st (Ex.refl _) (.dat (.bl _)) q⟩⟩
instance : LkR K (rNeU K) aNeU := ⟨fun st rx ry ct ⟨d, e, dx, dy, s1, s2, q⟩ => .inr ⟨d, e, dx.dp st rx (shaped_nd s1), dy.dp st ry (shaped_nd s2), s1, s2, ct _ _ _ _ _ st (Ex.refl _) (.dat (.bl _)) q⟩⟩
instance : LkR K rEq aEq := ⟨fun st rx ry ct ⟨f1, f2, s, q⟩ => by
  rw [flat_rt f1 rx, flat_rt f2 ry]
  exact ⟨s, ct _ _ _ _ _ st (Ex.refl _) (.dat (.bl _)) q⟩⟩
instance : LkR K rNe aNe := ⟨fun st rx ry ct ⟨f1, f2, s, q⟩ => by
  rw [flat_rt f1 rx, flat_rt f2 ry]
  exact ⟨s, ct _ _ _ _ _ st (Ex.refl _) (.dat (.bl _)) q⟩⟩
instance : LkR K (rIx K) aIx := ⟨fun {S RH H O ts x y tx ty Q Q'} st rx ry ct ⟨i, ey, q⟩ => by
  subst ey
  obtain rfl := rt_int ry
  rcases q with ⟨xs, t, h, ha, q⟩ | ⟨z, c, ex, hz, ha, q⟩
  · rcases h with h | h
    · obtain ⟨p, vs, rfl, hs, r⟩ := h.sq st rx
      obtain ⟨v, hv, rv⟩ := atI_rt r ha
      exact .inl ⟨p, vs, i, v, rfl, rfl, hs, hv, ct _ _ _ _ _ st (Ex.refl _) rv q⟩
    · obtain ⟨p, vs, rfl, hs, r⟩ := h.sq rx
      obtain ⟨v, hv, rv⟩ := atI_rt r ha
      exact .inr (.inl ⟨p, vs, i, v, rfl, rfl, ex_t hid_ex hs, hv, ct _ _ _ _ _ st (Ex.refl _) rv q⟩)
  · subst ex
    obtain rfl := rt_str rx
    exact .inr (.inr ⟨z, i, c, rfl, rfl, hz, ha, ct _ _ _ _ _ st (Ex.refl _) (.dat (.str _)) q⟩)⟩
theorem flat_all {S : Hp} : ∀ {xs : Trs} {vs : List V}, xs.all flatT = true → RtL K S xs vs → vs = xs.map trI ∧ vs.all flatV = true
  | [], _, _, .nil => ⟨rfl, rfl⟩
  | t :: xs, _, h, .cons r1 r2 => by
    rw [List.all_cons, Bool.and_eq_true] at h
    obtain ⟨a, b⟩ := flat_all h.2 r2
    have e := flat_rt h.1 r1
    have fv : flatV (trI t) = true := by
      match t, h.1 with
      | .dat (.int _), _ => rfl
      | .dat (.str _), _ => rfl
      | .dat (.bool _), _ => rfl
      | .dat .none, _ => rfl
    refine ⟨by rw [e, a]; rfl, ?_⟩
    rw [List.all_cons, b, e, fv]; rfl
instance {neg : Bool} : LkR K (rIn K neg) (aIn neg) := ⟨fun {S RH H O ts x y tx ty Q Q'} st rx ry ct ⟨xs, h, f1, f2, q⟩ => by
  have fx := flat_all (xs := [tx]) (by simp [f1]) (.cons rx .nil)
  have ex := flat_rt f1 rx
  have hv : flatV x = true := by simpa using fx.2
  rcases h with h | h
  · obtain ⟨p, vs, rfl, hs, r⟩ := h.sq st ry
    obtain ⟨ev, fv⟩ := flat_all f2 r
    refine ⟨p, vs, rfl, .inl hs, hv, fv, ?_⟩
    rw [ev, ex]
    exact ct _ _ _ _ _ st (Ex.refl _) (.dat (.bl _)) q
  · obtain ⟨p, vs, rfl, hs, r⟩ := h.sq ry
    obtain ⟨ev, fv⟩ := flat_all f2 r
    refine ⟨p, vs, rfl, .inr (ex_t hid_ex hs), hv, fv, ?_⟩
    rw [ev, ex]
    exact ct _ _ _ _ _ st (Ex.refl _) (.dat (.bl _)) q⟩
def rNoneIs : R2 := fun x y H Q => y = .non ∧ Q (.bl (decide (x = .non))) H
def rNoneNot : R2 := fun x y H Q => y = .non ∧ Q (.bl (!decide (x = .non))) H
theorem op_noneIs {X : Cx} : OpR X (compareOp .Is) rNoneIs := op_isN
theorem op_noneNot {X : Cx} : OpR X (compareOp .IsNot) rNoneNot := op_notN
def rStrCat : R2 := fun x y H Q => ∃ i j, x = .str i ∧ y = .str j ∧ i.length + j.length ≤ sizeLine ∧ Q (.str (i ++ j)) H
theorem op_strCat {X : Cx} : OpR X (binaryOp .Add) rStrCat := op_add_str
instance : LkR K rNoneIs aIsN := ⟨fun st rx ry ct ⟨ey, h, q⟩ => by
  subst ey
  exact ⟨rt_non ry, by rw [isN_rt h rx]; exact ct _ _ _ _ _ st (Ex.refl _) (.dat (.bl _)) q⟩⟩
instance : LkR K rNoneNot aNotN := ⟨fun st rx ry ct ⟨ey, h, q⟩ => by
  subst ey
  exact ⟨rt_non ry, by rw [isN_rt h rx]; exact ct _ _ _ _ _ st (Ex.refl _) (.dat (.bl _)) q⟩⟩
instance : LkR K rStrCat aCatS := ⟨fun st rx ry ct ⟨a, b, ex, ey, h, q⟩ => by
  subst ex ey
  exact ⟨a, b, rt_str rx, rt_str ry, h, ct _ _ _ _ _ st (Ex.refl _) (.dat (.str _)) q⟩⟩
instance : LkR K rRepS (fun x y ts Q => ∃ z n, x = .dat (.str z) ∧ y = .dat (.int n) ∧ MulOk z n ∧ Q (.dat (.str (Txt.mul z n))) ts) := ⟨fun st rx ry ct ⟨a, b, ex, ey, h, q⟩ => by
  subst ex ey
  exact ⟨a, b, rt_str rx, rt_int ry, h, ct _ _ _ _ _ st (Ex.refl _) (.dat (.str _)) q⟩⟩
end
end GL

namespace GL
open PySem PySem.Spec PyProof.Rows L2 Evl

/-! ## a list that stands still from now on -/
def Gone (n : Tr) : List Addr := (nds n).map adr
theorem hid_less {H : Hp} {O O' : List Addr} (h : ∀ b ∈ O', b ∈ O) : Ex (hid H O) (hid H O') := fun b u e => by
  obtain ⟨h1, h2⟩ := hid_some e
  exact hid_of h1 fun z => h2 (h b z)
theorem Sta.frz {K : PySem.W.Frag} {S RH H : Hp} {O : List Addr} {ts : Trs} {i : Nat} {p : Addr} {xs : Trs} {ds : List PyData} (st : Sta K S RH H O ts) (h : ts[i]? = some (.lst p xs)) (pl : plainL xs = some ds) :
    ∃ O', Sta K S RH H O' (ts.set i Tr.non) ∧ Ex (hid H O) (hid H O') ∧ Rt K (hid H O') (.dat (.list ds)) (.ref p) := by
  let G := Gone (.lst p xs)
  let O' := O.filter fun b => !G.contains b
  have memO : ∀ b, b ∈ O' ↔ b ∈ O ∧ b ∉ G := fun b => by
    show b ∈ O.filter _ ↔ _
    rw [List.mem_filter]
    simp
  have e : Ex (hid H O) (hid H O') := hid_less fun b hb => ((memO b).mp hb).1
  have p1 := ndsL_set (u := Tr.non) h
  have e0 : nds Tr.non = [] := by simp [nds]
  rw [e0, List.append_nil] at p1
  have nd1 := (p1.symm.map adr).nodup_iff.mp st.no
  rw [List.map_append, List.nodup_append] at nd1
  refine ⟨O', ?_, e, ?_⟩
  · refine ⟨fun n hn => ?_, nd1.1, fun n hn => ?_, fun b o q => ?_, st.ex.trans e, fun b hb => st.lv b ((memO b).mp hb).1⟩
    · exact (st.nd n (p1.mem_iff.mp (List.mem_append_left _ hn))).to e rfl
    · refine (memO _).mpr ⟨st.io n (p1.mem_iff.mp (List.mem_append_left _ hn)), fun z => ?_⟩
      exact nd1.2.2 _ (List.mem_map_of_mem hn) _ z rfl
    · obtain ⟨h1, h2, h3⟩ := st.rh b o q
      refine ⟨(memO b).mpr ⟨h1, fun z => ?_⟩, h2, fun n hn => h3 n (p1.mem_iff.mp (List.mem_append_left _ hn))⟩
      obtain ⟨n, hn, e⟩ := List.mem_map.mp z
      exact h3 n (p1.mem_iff.mp (List.mem_append_right _ hn)) e
  · refine .dat (plain_dp (S := hid H O) (H := hid H O') (t := .lst p xs) e (fun n hn => ?_) (by simp [plain, pl]) .lst)
    have hn1 := st.nd n (p1.mem_iff.mp (List.mem_append_right _ hn))
    refine hn1.to (Ex.refl _) ?_
    obtain ⟨o, ho⟩ := hn1.at_
    rw [ho]
    exact hid_of ho fun z => ((memO _).mp z).2 (List.mem_map_of_mem hn)
theorem Gho.frz {s : AS} {ts : Trs} {p : Addr} {xs : Trs} {ds : List PyData} (j i : Nat) (h : ts[i]? = some (.lst p xs)) (hs : s[j]? = some (some (.val (.ref p)))) (pl : plainL xs = some ds) : Gho s ts (s.set j (some (.dat (.list ds)))) (ts.set i Tr.non) := fun K S RH H O σ st sl => by
  obtain ⟨O', st', e, r⟩ := st.frz h pl
  refine ⟨O', st', ?_⟩
  have sl' := sl.ex e
  refine ⟨by rw [List.length_set]; exact sl'.len, fun k t q => ?_⟩
  rw [List.getElem?_set] at q
  by_cases z : j = k
  · subst z
    split at q
    · split at q
      · cases q
        obtain ⟨v, h1, h2⟩ := sl'.at_ j _ hs
        obtain rfl := rt_val h2
        exact ⟨_, h1, r⟩
      · cases q
    · rename_i n; exact absurd rfl n
  · rw [if_neg z] at q
    exact sl'.at_ k t q
theorem GhoV.frz {ts : Trs} {p : Addr} {xs : Trs} {ds : List PyData} (i : Nat) (h : ts[i]? = some (.lst p xs)) (pl : plainL xs = some ds) : GhoV (.val (.ref p)) ts (.dat (.list ds)) (ts.set i Tr.non) := fun K S RH H O v st r => by
  obtain ⟨O', st', e, r'⟩ := st.frz h pl
  obtain rfl := rt_val r
  exact ⟨O', st', r'⟩
theorem plainL_map {ds : List PyData} : plainL (ds.map .dat) = some ds := plainL_dats ds

/-! ### what is gone through -/
structure AIt where
  items : Trs
  keep : Trs → Prop
abbrev AI := AS → Trs → (AIt → Trs → Prop) → Prop
abbrev AG := Tr → AS → Trs → (AS → Trs → Prop) → Prop
abbrev AGs := Trs → AS → Trs → (AS → Trs → Prop) → Prop
structure ItOk (K : PySem.W.Frag) (J : It) (S1 : Hp) (it : AIt) : Prop where
  go : ∀ {S RH H : Hp} {O : List Addr} {ts : Trs} {i : Nat} {t : Tr}, Sta K S RH H O ts → Ex S1 (hid H O) → it.keep ts → it.items[i]? = some t →
    J.go i H ∧ ∀ x H', J.yld i H x H' → Sta K S RH H' O ts ∧ Ex (hid H O) (hid H' O) ∧ Ex H H' ∧ Rt K (hid H' O) t x
  stop : ∀ {S RH H : Hp} {O : List Addr} {ts : Trs}, Sta K S RH H O ts → Ex S1 (hid H O) → it.keep ts → J.stop it.items.length H
class LkI (K : PySem.W.Frag) (S0 RH : Hp) (wi : TI) (ai : outParam AI) : Prop where
  run : ∀ {S1 RH1 : Hp}, Wle S0 RH S1 RH1 → ∀ {σ : L2.St} {s : AS} {H : Hp} {O : List Addr} {ts : Trs} {R : It → Hp → Prop} {R' : AIt → Trs → Prop}, Sta K S1 RH1 H O ts → Sl K (hid H O) s σ →
    (∀ J H' O' it ts', Sta K S1 RH1 H' O' ts' → Ex (hid H O) (hid H' O') → ItOk K J (hid H' O') it → R' it ts' → R J H') → ai s ts R' → wi σ H R
class LkG (K : PySem.W.Frag) (S0 RH : Hp) (g : TG) (ag : outParam AG) : Prop where
  run : ∀ {S1 RH1 : Hp}, Wle S0 RH S1 RH1 → ∀ {σ : L2.St} {s : AS} {H : Hp} {O : List Addr} {ts : Trs} {x : V} {t : Tr} {R : L2.St → Hp → Prop} {R' : AS → Trs → Prop}, Sta K S1 RH1 H O ts → Sl K (hid H O) s σ → Rt K (hid H O) t x →
    (∀ σ' s' H' O' ts', Sta K S1 RH1 H' O' ts' → Ex (hid H O) (hid H' O') → Sl K (hid H' O') s' σ' → R' s' ts' → R σ' H') → ag t s ts R' → g x σ H R
class LkGs (K : PySem.W.Frag) (S0 RH : Hp) (g : TGs) (ag : outParam AGs) : Prop where
  run : ∀ {S1 RH1 : Hp}, Wle S0 RH S1 RH1 → ∀ {σ : L2.St} {s : AS} {H : Hp} {O : List Addr} {ts : Trs} {xs : List V} {us : Trs} {R : L2.St → Hp → Prop} {R' : AS → Trs → Prop}, Sta K S1 RH1 H O ts → Sl K (hid H O) s σ → RtL K (hid H O) us xs →
    (∀ σ' s' H' O' ts', Sta K S1 RH1 H' O' ts' → Ex (hid H O) (hid H' O') → Sl K (hid H' O') s' σ' → R' s' ts' → R σ' H') → ag us s ts R' → g xs σ H R
def aIL (a : AE) : AI := fun s ts R => a s ts fun x ts1 => (∃ ds, x = .dat (.list ds) ∧ R ⟨ds.map .dat, fun _ => True⟩ ts1) ∨ ∃ p xs c, x = .val (.ref p) ∧ FocL ts1 (.lst p xs) c ∧ R ⟨voL xs, fun ts => ∃ ys c, FocL ts (.lst p ys) c ∧ voL ys = voL xs⟩ ts1
def aIT (a : AE) : AI := fun s ts R => a s ts fun x ts1 => ∃ xs, SeqT ts1 x xs ∧ R ⟨xs, fun _ => True⟩ ts1
def aIR1 (a : AA) : AI := fun s ts R => a s ts fun us ts1 => ∃ j : Int, us = [.dat (.int j)] ∧ -(2 ^ 62) ≤ j ∧ j < 2 ^ 62 ∧ R ⟨(List.range j.toNat).map fun i => .dat (.int (i : Nat)), fun _ => True⟩ ts1
def aIR2 (a : AA) : AI := fun s ts R => a s ts fun us ts1 => ∃ i j : Int, us = [.dat (.int i), .dat (.int j)] ∧ (-(2 ^ 62) ≤ i ∧ i < 2 ^ 62 ∧ -(2 ^ 62) ≤ j ∧ j < 2 ^ 62) ∧ R ⟨(List.range (j - i).toNat).map fun k => .dat (.int (i + (k : Nat))), fun _ => True⟩ ts1
def aIR3 (a : AA) : AI := fun s ts R => a s ts fun us ts1 => ∃ (i j c : Int) (n : Nat), us = [.dat (.int i), .dat (.int j), .dat (.int c)] ∧ RgC i j c n ∧ R ⟨(List.range n).map fun k => .dat (.int (i + (k : Nat) * c)), fun _ => True⟩ ts1
def pairI (i : Nat) : Tr → Tr
  | .dat d => .dat (.tuple [.int (i : Nat), d])
  | t => .tup [.dat (.int (i : Nat)), t]
def pairT : Tr → Tr → Tr
  | .dat d, .dat e => .dat (.tuple [d, e])
  | t, u => .tup [t, u]
def enumT : Trs → Nat → Trs
  | [], _ => []
  | t :: r, i => pairI i t :: enumT r (i + 1)
def aIE (a : AA) : AI := fun s ts R => a s ts fun us ts1 => ∃ x, us = [x] ∧ ((∃ ds, x = .dat (.list ds) ∧ R ⟨enumT (ds.map .dat) 0, fun _ => True⟩ ts1) ∨ ∃ p xs c, x = .val (.ref p) ∧ FocL ts1 (.lst p xs) c ∧ R ⟨enumT (voL xs) 0, fun ts => ∃ ys c, FocL ts (.lst p ys) c ∧ voL ys = voL xs⟩ ts1)
/-- zip of two lists that stand still -/
def aIZ (a : AA) : AI := fun s ts R => a s ts fun us ts1 => ∃ ds es, us = [.dat (.list ds), .dat (.list es)] ∧ R ⟨(ds.zip es).map fun p => .dat (.tuple [p.1, p.2]), fun _ => True⟩ ts1
def aIRv (a : AA) : AI := fun s ts R => a s ts fun us ts1 => ∃ x, us = [x] ∧ ((∃ ds, x = .dat (.list ds) ∧ R ⟨ds.reverse.map .dat, fun _ => True⟩ ts1) ∨ ∃ p xs c, x = .val (.ref p) ∧ FocL ts1 (.lst p xs) c ∧ R ⟨(voL xs).reverse, fun ts => ∃ ys c, FocL ts (.lst p ys) c ∧ voL ys = voL xs⟩ ts1)
def aISt (a : AE) : AI := fun s ts R => a s ts fun x ts1 => ∃ z : Str, x = .dat (.str z) ∧ R ⟨z.cps.toList.map fun c => .dat (.str ⟨#[c]⟩), fun _ => True⟩ ts1
def aName (i : Nat) : AG := fun t s ts R => R (s.set i (some t)) ts
def aGTup (n : Nat) (t : AGs) : AG := fun x s ts R => ∃ xs, SeqT ts x xs ∧ xs.length = n ∧ t xs s ts R
def aGNil : AGs := fun us s ts R => us = [] ∧ R s ts
def aGCons (t : AG) (u : AGs) : AGs := fun us s ts R => ∃ x r, us = x :: r ∧ t x s ts fun s' ts' => u r s' ts' R
/-- o[i] = v of a list of one's own -/
def aGSetL (a b : AE) : AG := fun v s ts R => a s ts fun o ts1 => b s ts1 fun i ts2 => ∃ p xs c k j, o = .val (.ref p) ∧ i = .dat (.int k) ∧ FocL ts2 (.lst p xs) c ∧ ixN xs.length k = some j ∧ nds v = [] ∧ ndsL xs = [] ∧ R s (c (.lst p (xs.set j v)))
section
variable {K : PySem.W.Frag} {S0 RH : Hp} {te ti : TE} {a b : AE} {ta : TA} {aa : AA}
theorem it_list {S RH H : Hp} {O : List Addr} {ts : Trs} {p : Addr} {vs : List V} {its : Trs} (hs : SqL K (hid H O) p vs) (r : RtL K (hid H O) its vs) : ItOk K (Itl K p) (hid H O) ⟨its, fun _ => True⟩ where
  go := fun {S RH H1 O1 ts i t} st e _ hi => by
    obtain ⟨v, hv, rv⟩ := r.get hi
    have hs1 : SqL K H1 p vs := ex_l (e.trans hid_ex) hs
    refine ⟨⟨vs, v, hs1, hv⟩, fun x H' ⟨e1, hx⟩ => ?_⟩
    subst e1
    have := hx vs hs1
    rw [hv] at this
    cases this
    exact ⟨st, Ex.refl _, Ex.refl _, rv.ex e⟩
  stop := fun {S RH H1 O1 ts} st e _ => ⟨vs, ex_l (e.trans hid_ex) hs, Nat.le_of_eq r.len.symm⟩
theorem it_lst {S1 : Hp} {p : Addr} {xs : Trs} : ItOk K (Itl K p) S1 ⟨voL xs, fun ts => ∃ ys c, FocL ts (.lst p ys) c ∧ voL ys = voL xs⟩ where
  go := fun {S RH H1 O1 ts i t} st e ⟨ys, c, f, ey⟩ hi => by
    obtain ⟨vs, h1, r⟩ := st.lst f
    have r' := r.vo
    rw [ey] at r'
    obtain ⟨v, hv, rv⟩ := r'.get hi
    refine ⟨⟨vs, v, sq_of h1, hv⟩, fun x H' ⟨e1, hx⟩ => ?_⟩
    subst e1
    have := hx vs (sq_of h1)
    rw [hv] at this
    cases this
    exact ⟨st, Ex.refl _, Ex.refl _, rv⟩
  stop := fun {S RH H1 O1 ts} st e ⟨ys, c, f, ey⟩ => by
    obtain ⟨vs, h1, r⟩ := st.lst f
    have r' := r.vo
    rw [ey] at r'
    exact ⟨vs, sq_of h1, Nat.le_of_eq r'.len.symm⟩
theorem it_tup {H : Hp} {O : List Addr} {p : Addr} {vs : List V} {its : Trs} (hs : SqT K (hid H O) p vs) (r : RtL K (hid H O) its vs) : ItOk K (Itt K p) (hid H O) ⟨its, fun _ => True⟩ where
  go := fun {S RH H1 O1 ts i t} st e _ hi => by
    obtain ⟨v, hv, rv⟩ := r.get hi
    have hs1 : SqT K H1 p vs := ex_t (e.trans hid_ex) hs
    refine ⟨⟨vs, v, hs1, hv⟩, fun x H' ⟨e1, hx⟩ => ?_⟩
    subst e1
    have := hx vs hs1
    rw [hv] at this
    cases this
    exact ⟨st, Ex.refl _, Ex.refl _, rv.ex e⟩
  stop := fun {S RH H1 O1 ts} st e _ => ⟨vs, ex_t (e.trans hid_ex) hs, Nat.le_of_eq r.len.symm⟩
theorem it_rng {S1 : Hp} {lo : Int} {n : Nat} : ItOk K (Itr lo n) S1 ⟨(List.range n).map fun k => .dat (.int (lo + (k : Nat))), fun _ => True⟩ where
  go := fun {S RH H1 O1 ts i t} st e _ hi => by
    rw [List.getElem?_map] at hi
    have hn : i < n := by
      by_cases z : i < n
      · exact z
      · rw [List.getElem?_eq_none (by rw [List.length_range]; omega)] at hi; cases hi
    rw [List.getElem?_range hn] at hi
    cases hi
    refine ⟨hn, fun x H' ⟨e1, hx⟩ => ?_⟩
    subst e1 hx
    exact ⟨st, Ex.refl _, Ex.refl _, .dat (.int _)⟩
  stop := fun st e _ => by show n ≤ _; simp
theorem it_rngC {S1 : Hp} {lo c : Int} {n : Nat} : ItOk K (Itc lo c n) S1 ⟨(List.range n).map fun k => .dat (.int (lo + (k : Nat) * c)), fun _ => True⟩ where
  go := fun {S RH H1 O1 ts i t} st e _ hi => by
    rw [List.getElem?_map] at hi
    have hn : i < n := by
      by_cases z : i < n
      · exact z
      · rw [List.getElem?_eq_none (by rw [List.length_range]; omega)] at hi; cases hi
    rw [List.getElem?_range hn] at hi
    cases hi
    refine ⟨hn, fun x H' ⟨e1, hx⟩ => ?_⟩
    subst e1 hx
    exact ⟨st, Ex.refl _, Ex.refl _, .dat (.int _)⟩
  stop := fun st e _ => by show n ≤ _; simp
instance [ha : LkE K S0 RH te a] : LkI K S0 RH (iList K te) (aIL a) := ⟨fun w σ s H O ts R R' st sl ct q =>
  ha.run w st sl (fun x H1 O1 t ts1 st1 e1 r1 q1 => by
    rcases q1 with ⟨ds, rfl, q1⟩ | ⟨p, xs, c, rfl, f, q1⟩
    · cases r1 with | dat r1 => cases r1 with | lst hs ha => exact ⟨_, rfl, ⟨_, ex_l hid_ex (.inl hs)⟩, ct _ H1 O1 _ ts1 st1 e1 (it_list (S := H) (RH := H) (ts := []) (.inl hs) (RtL.dats ha)) q1⟩
    · obtain rfl := rt_val r1
      obtain ⟨vs, h1, r⟩ := st1.lst f
      exact ⟨p, rfl, ⟨vs, sq_of h1⟩, ct _ H1 O1 _ ts1 st1 e1 it_lst q1⟩) q⟩
instance [ha : LkE K S0 RH te a] : LkI K S0 RH (iTup K te) (aIT a) := ⟨fun w σ s H O ts R R' st sl ct q =>
  ha.run w st sl (fun x H1 O1 t ts1 st1 e1 r1 ⟨xs, h, q1⟩ => by
    obtain ⟨p, vs, rfl, hs, r⟩ := h.sq r1
    exact ⟨p, rfl, ⟨vs, ex_t hid_ex hs⟩, ct _ H1 O1 _ ts1 st1 e1 (it_tup hs r) q1⟩) q⟩
theorem rtl1 {S : Hp} {t : Tr} {xs : List V} (h : RtL K S [t] xs) : ∃ v, xs = [v] ∧ Rt K S t v := by cases h with | cons h r => cases r; exact ⟨_, rfl, h⟩
theorem rtl2 {S : Hp} {t u : Tr} {xs : List V} (h : RtL K S [t, u] xs) : ∃ v w, xs = [v, w] ∧ Rt K S t v ∧ Rt K S u w := by cases h with | cons h r => obtain ⟨w, rfl, hw⟩ := rtl1 r; exact ⟨_, w, rfl, h, hw⟩
theorem rtl3 {S : Hp} {t u x : Tr} {xs : List V} (h : RtL K S [t, u, x] xs) : ∃ v w y, xs = [v, w, y] ∧ Rt K S t v ∧ Rt K S u w ∧ Rt K S x y := by cases h with | cons h r => obtain ⟨w, y, rfl, hw, hy⟩ := rtl2 r; exact ⟨_, w, y, rfl, h, hw, hy⟩
instance [ha : LkA K S0 RH ta aa] : LkI K S0 RH (iRng1 ta) (aIR1 aa) := ⟨fun w σ s H O ts R R' st sl ct q =>
  ha.run w st sl (fun xs H1 O1 us ts1 st1 e1 r1 ⟨j, eu, b1, b2, q1⟩ => by
    subst eu
    obtain ⟨v, rfl, rv⟩ := rtl1 r1
    obtain rfl := rt_int rv
    refine ⟨j, rfl, b1, b2, ct _ H1 O1 _ ts1 st1 e1 (it_rng (lo := 0)) ?_⟩
    have e : ((List.range j.toNat).map fun k => Tr.dat (.int (0 + (k : Nat)))) = (List.range j.toNat).map fun i => .dat (.int (i : Nat)) := List.map_congr_left fun i _ => by rw [Int.zero_add]
    rw [e]
    exact q1) q⟩
instance [ha : LkA K S0 RH ta aa] : LkI K S0 RH (iRng2 ta) (aIR2 aa) := ⟨fun w σ s H O ts R R' st sl ct q =>
  ha.run w st sl (fun xs H1 O1 us ts1 st1 e1 r1 ⟨i, j, eu, b1, q1⟩ => by
    subst eu
    obtain ⟨v, v', rfl, rv, rv'⟩ := rtl2 r1
    obtain rfl := rt_int rv
    obtain rfl := rt_int rv'
    exact ⟨i, j, rfl, b1, ct _ H1 O1 _ ts1 st1 e1 it_rng q1⟩) q⟩
instance [ha : LkA K S0 RH ta aa] : LkI K S0 RH (iRng3 ta) (aIR3 aa) := ⟨fun w σ s H O ts R R' st sl ct q =>
  ha.run w st sl (fun xs H1 O1 us ts1 st1 e1 r1 ⟨i, j, c, n, eu, b1, q1⟩ => by
    subst eu
    obtain ⟨v, v', v'', rfl, rv, rv', rv''⟩ := rtl3 r1
    obtain rfl := rt_int rv
    obtain rfl := rt_int rv'
    obtain rfl := rt_int rv''
    exact ⟨i, j, c, n, rfl, b1, ct _ H1 O1 _ ts1 st1 e1 it_rngC q1⟩) q⟩
theorem pairI_rt {S : Hp} {t : Tr} {v : V} {a : Addr} {i : Nat} (r : Rt K S t v) (h : SqT K S a [.int (i : Nat), v]) : Rt K S (pairI i t) (.ref a) := by
  have gen : Rt K S (.tup [.dat (.int (i : Nat)), t]) (.ref a) := .tup h (.cons (.dat (.int _)) (.cons r .nil))
  cases t with
  | dat d => cases r with | dat r => exact .dat (.tup h (.cons (.int _) (.cons r .nil)))
  | _ => exact gen
theorem pairT_rt {S : Hp} {t u : Tr} {v w : V} {a : Addr} (r : Rt K S t v) (r' : Rt K S u w) (h : SqT K S a [v, w]) : Rt K S (pairT t u) (.ref a) := by
  have gen : Rt K S (.tup [t, u]) (.ref a) := .tup h (.cons r (.cons r' .nil))
  cases t with
  | dat d =>
    cases u with
    | dat e => cases r with | dat r => cases r' with | dat r' => exact .dat (.tup h (.cons r (.cons r' .nil)))
    | _ => exact gen
  | _ => exact gen
theorem enumT_get : ∀ {xs : Trs} {k i : Nat} {t : Tr}, (enumT xs k)[i]? = some t → ∃ u, xs[i]? = some u ∧ t = pairI (k + i) u
  | [], _, _, _, h => by simp [enumT] at h
  | x :: xs, k, 0, t, h => by simp [enumT] at h; exact ⟨x, rfl, h.symm⟩
  | x :: xs, k, i + 1, t, h => by
    simp [enumT] at h
    obtain ⟨u, h1, h2⟩ := enumT_get h
    exact ⟨u, by simpa using h1, by rw [h2, show k + 1 + i = k + (i + 1) from by omega]⟩
theorem enumT_len : ∀ (xs : Trs) (k : Nat), (enumT xs k).length = xs.length
  | [], _ => rfl
  | x :: xs, k => by simp [enumT, enumT_len xs (k + 1)]
theorem new_tup {S RH H H' : Hp} {O : List Addr} {ts : Trs} {T : Addr} {vs : List V} (st : Sta K S RH H O ts) (hT : H T = none) (e : H' = upd H T (.tup vs)) : Sta K S RH H' O ts ∧ Ex (hid H O) (hid H' O) ∧ Ex H H' ∧ SqT K (hid H' O) T vs := by
  subst e
  have ex : Ex H (upd H T (.tup vs)) := Ex.new hT
  exact ⟨st.grow ex, hid_grow ex, ex, st_of (hid_at st.lv hT upd_same)⟩
theorem it_enum {H : Hp} {O : List Addr} {p : Addr} {vs : List V} {its : Trs} (hs : SqL K (hid H O) p vs) (r : RtL K (hid H O) its vs) : ItOk K (Ite K p) (hid H O) ⟨enumT its 0, fun _ => True⟩ where
  go := fun {S RH H1 O1 ts i t} st e _ hi => by
    obtain ⟨u, hu, rfl⟩ := enumT_get hi
    obtain ⟨v, hv, rv⟩ := r.get hu
    have hs1 : SqL K H1 p vs := ex_l (e.trans hid_ex) hs
    refine ⟨⟨vs, v, hs1, hv⟩, fun x H' ⟨T, y, e1, hT, e2, hy⟩ => ?_⟩
    have := hy vs hs1
    rw [hv] at this
    cases this
    subst e1
    obtain ⟨a, b, ex, d⟩ := new_tup st hT e2
    refine ⟨a, b, ex, ?_⟩
    rw [Nat.zero_add]
    exact pairI_rt ((rv.ex e).ex b) d
  stop := fun {S RH H1 O1 ts} st e _ => ⟨vs, ex_l (e.trans hid_ex) hs, by rw [enumT_len, r.len]; exact Nat.le_refl _⟩
theorem it_enumM {S1 : Hp} {p : Addr} {xs : Trs} : ItOk K (Ite K p) S1 ⟨enumT (voL xs) 0, fun ts => ∃ ys c, FocL ts (.lst p ys) c ∧ voL ys = voL xs⟩ where
  go := fun {S RH H1 O1 ts i t} st e ⟨ys, c, f, ey⟩ hi => by
    obtain ⟨vs, h1, r⟩ := st.lst f
    have r' := r.vo
    rw [ey] at r'
    obtain ⟨u, hu, rfl⟩ := enumT_get hi
    obtain ⟨v, hv, rv⟩ := r'.get hu
    refine ⟨⟨vs, v, sq_of h1, hv⟩, fun x H' ⟨T, y, e1, hT, e2, hy⟩ => ?_⟩
    have := hy vs (sq_of h1)
    rw [hv] at this
    cases this
    subst e1
    obtain ⟨a, b, ex, d⟩ := new_tup st hT e2
    refine ⟨a, b, ex, ?_⟩
    rw [Nat.zero_add]
    exact pairI_rt (rv.ex b) d
  stop := fun {S RH H1 O1 ts} st e ⟨ys, c, f, ey⟩ => by
    obtain ⟨vs, h1, r⟩ := st.lst f
    have r' := r.vo
    rw [ey] at r'
    exact ⟨vs, sq_of h1, by rw [enumT_len, r'.len]; exact Nat.le_refl _⟩
instance [ha : LkA K S0 RH ta aa] : LkI K S0 RH (iEnum K ta) (aIE aa) := ⟨fun w σ s H O ts R R' st sl ct q =>
  ha.run w st sl (fun xs H1 O1 us ts1 st1 e1 r1 ⟨x, eu, q1⟩ => by
    subst eu
    obtain ⟨v, rfl, rv⟩ := rtl1 r1
    rcases q1 with ⟨ds, rfl, q1⟩ | ⟨p, xs, c, rfl, f, q1⟩
    · cases rv with | dat rv => cases rv with | lst hs ha => exact ⟨_, _, rfl, ex_l hid_ex (.inl hs), ct _ H1 O1 _ ts1 st1 e1 (it_enum (.inl hs) (RtL.dats ha)) q1⟩
    · obtain rfl := rt_val rv
      obtain ⟨vs, h1, r⟩ := st1.lst f
      exact ⟨p, vs, rfl, sq_of h1, ct _ H1 O1 _ ts1 st1 e1 it_enumM q1⟩) q⟩
theorem zip_getV {ds es : List PyData} {vs ws : List V} {S : Hp} (hd : DrAll K S vs ds) (he : DrAll K S ws es) {i : Nat} {d e : PyData} (h : (ds.zip es)[i]? = some (d, e)) : ∃ v w, vs[i]? = some v ∧ ws[i]? = some w ∧ Dr K S v d ∧ Dr K S w e := by
  rw [List.getElem?_zip_eq_some] at h
  obtain ⟨v, h1, h2⟩ := (RtL.dats hd).get (i := i) (t := .dat d) (by rw [List.getElem?_map, h.1]; rfl)
  obtain ⟨w, h3, h4⟩ := (RtL.dats he).get (i := i) (t := .dat e) (by rw [List.getElem?_map, h.2]; rfl)
  cases h2 with | dat h2 => cases h4 with | dat h4 => exact ⟨v, w, h1, h3, h2, h4⟩
theorem it_zip {H : Hp} {O : List Addr} {p q : Addr} {vs ws : List V} {ds es : List PyData} (hs : SqL K (hid H O) p vs) (hq : SqL K (hid H O) q ws) (hd : DrAll K (hid H O) vs ds) (he : DrAll K (hid H O) ws es) :
    ItOk K (Itz K p q) (hid H O) ⟨(ds.zip es).map fun p => .dat (.tuple [p.1, p.2]), fun _ => True⟩ where
  go := fun {S RH H1 O1 ts i t} st e _ hi => by
    rw [List.getElem?_map] at hi
    cases z : (ds.zip es)[i]? with
    | none => rw [z] at hi; cases hi
    | some de =>
      rw [z] at hi
      cases hi
      obtain ⟨v, w', hv, hw, dv, dw⟩ := zip_getV hd he z
      have hs1 : SqL K H1 p vs := ex_l (e.trans hid_ex) hs
      have hq1 : SqL K H1 q ws := ex_l (e.trans hid_ex) hq
      refine ⟨⟨vs, ws, v, w', hs1, hq1, hv, hw⟩, fun x H' ⟨T, y1, y2, e1, hT, e2, hy1, hy2⟩ => ?_⟩
      have t1 := hy1 vs hs1
      rw [hv] at t1
      cases t1
      have t2 := hy2 ws hq1
      rw [hw] at t2
      cases t2
      subst e1
      obtain ⟨a, b, ex, d⟩ := new_tup st hT e2
      exact ⟨a, b, ex, .dat (.tup d (.cons (dv.ex (e.trans b)) (.cons (dw.ex (e.trans b)) .nil)))⟩
  stop := fun {S RH H1 O1 ts} st e _ => by
    refine ⟨vs, ws, ex_l (e.trans hid_ex) hs, ex_l (e.trans hid_ex) hq, ?_⟩
    have l1 := hd.len
    have l2 := he.len
    simp only [List.length_map, List.length_zip]
    omega
instance [ha : LkA K S0 RH ta aa] : LkI K S0 RH (iZip K ta) (aIZ aa) := ⟨fun w σ s H O ts R R' st sl ct q =>
  ha.run w st sl (fun xs H1 O1 us ts1 st1 e1 r1 ⟨ds, es, eu, q1⟩ => by
    subst eu
    obtain ⟨v, v', rfl, rv, rv'⟩ := rtl2 r1
    cases rv with | dat rv => cases rv with | lst hs ha => cases rv' with | dat rv' => cases rv' with | lst hs' ha' =>
      exact ⟨_, _, _, _, rfl, ex_l hid_ex (.inl hs), ex_l hid_ex (.inl hs'), ct _ H1 O1 _ ts1 st1 e1 (it_zip (.inl hs) (.inl hs') ha ha') q1⟩) q⟩
theorem rev_get {α : Type} {xs : List α} {i : Nat} {x : α} (h : xs.reverse[i]? = some x) : xs[xs.length - 1 - i]? = some x ∧ i < xs.length := by
  have hl : i < xs.length := by
    by_cases z : i < xs.length
    · exact z
    · rw [List.getElem?_eq_none (by rw [List.length_reverse]; omega)] at h; cases h
  rw [List.getElem?_reverse hl] at h
  exact ⟨h, hl⟩
theorem it_rev {H : Hp} {O : List Addr} {p : Addr} {vs : List V} {its : Trs} (hs : SqL K (hid H O) p vs) (r : RtL K (hid H O) its vs) : ItOk K (Itv K p vs.length) (hid H O) ⟨its.reverse, fun _ => True⟩ where
  go := fun {S RH H1 O1 ts i t} st e _ hi => by
    obtain ⟨h1, h2⟩ := rev_get hi
    obtain ⟨v, hv, rv⟩ := r.get h1
    have hs1 : SqL K H1 p vs := ex_l (e.trans hid_ex) hs
    rw [r.len] at hv h2
    refine ⟨⟨h2, vs, v, hs1, hv⟩, fun x H' ⟨e1, hx⟩ => ?_⟩
    subst e1
    have := hx vs hs1
    rw [hv] at this
    cases this
    exact ⟨st, Ex.refl _, Ex.refl _, rv.ex e⟩
  stop := fun {S RH H1 O1 ts} st e _ => by show vs.length ≤ _; rw [List.length_reverse, r.len]; exact Nat.le_refl _
theorem it_revM {S1 : Hp} {p : Addr} {xs : Trs} : ItOk K (Itv K p xs.length) S1 ⟨(voL xs).reverse, fun ts => ∃ ys c, FocL ts (.lst p ys) c ∧ voL ys = voL xs⟩ where
  go := fun {S RH H1 O1 ts i t} st e ⟨ys, c, f, ey⟩ hi => by
    obtain ⟨vs, h0, r⟩ := st.lst f
    have r' := r.vo
    rw [ey] at r'
    obtain ⟨h1, h2⟩ := rev_get hi
    obtain ⟨v, hv, rv⟩ := r'.get h1
    have el : (voL xs).length = xs.length := by rw [voL_map, List.length_map]
    rw [el] at hv h2
    refine ⟨⟨h2, vs, v, sq_of h0, hv⟩, fun x H' ⟨e1, hx⟩ => ?_⟩
    subst e1
    have := hx vs (sq_of h0)
    rw [hv] at this
    cases this
    exact ⟨st, Ex.refl _, Ex.refl _, rv⟩
  stop := fun {S RH H1 O1 ts} st e _ => by show xs.length ≤ _; rw [List.length_reverse, voL_map, List.length_map]; exact Nat.le_refl _
instance [ha : LkA K S0 RH ta aa] : LkI K S0 RH (iRev K ta) (aIRv aa) := ⟨fun w σ s H O ts R R' st sl ct q =>
  ha.run w st sl (fun xs H1 O1 us ts1 st1 e1 r1 ⟨x, eu, q1⟩ => by
    subst eu
    obtain ⟨v, rfl, rv⟩ := rtl1 r1
    rcases q1 with ⟨ds, rfl, q1⟩ | ⟨p, xs, c, rfl, f, q1⟩
    · cases rv with | dat rv => cases rv with | lst hs ha =>
        refine ⟨_, _, rfl, ex_l hid_ex (.inl hs), ct _ H1 O1 _ ts1 st1 e1 (it_rev (.inl hs) (RtL.dats ha)) ?_⟩
        rw [← List.map_reverse]
        exact q1
    · obtain rfl := rt_val rv
      obtain ⟨vs, h1, r⟩ := st1.lst f
      refine ⟨p, vs, rfl, sq_of h1, ?_⟩
      rw [← r.len]
      exact ct _ H1 O1 _ ts1 st1 e1 it_revM q1) q⟩
theorem it_str {S1 : Hp} {z : Str} : ItOk K (Its z) S1 ⟨z.cps.toList.map fun c => .dat (.str ⟨#[c]⟩), fun _ => True⟩ where
  go := fun {S RH H1 O1 ts i t} st e _ hi => by
    rw [List.getElem?_map] at hi
    cases q : z.cps.toList[i]? with
    | none => rw [q] at hi; cases hi
    | some c =>
      rw [q] at hi
      cases hi
      have hc : z.cps[i]? = some c := by rw [← Array.getElem?_toList]; exact q
      refine ⟨(Array.getElem?_eq_some_iff.mp hc).1, fun x H' ⟨e1, c', h1, h2⟩ => ?_⟩
      rw [hc] at h1
      cases h1
      subst e1 h2
      exact ⟨st, Ex.refl _, Ex.refl _, .dat (.str _)⟩
  stop := fun st e _ => by show z.cps.size ≤ _; simp
instance [ha : LkE K S0 RH te a] : LkI K S0 RH (iStr te) (aISt a) := ⟨fun w σ s H O ts R R' st sl ct q =>
  ha.run w st sl (fun x H1 O1 t ts1 st1 e1 r1 ⟨z, ez, q1⟩ => by
    subst ez
    exact ⟨z, rt_str r1, ct _ H1 O1 _ ts1 st1 e1 it_str q1⟩) q⟩
instance {i : Nat} : LkG K S0 RH (gName i) (aName i) := ⟨fun w σ s H O ts x t R R' st sl r ct q => ct _ _ H O ts st (Ex.refl _) (sl.set r i) q⟩
instance : LkGs K S0 RH gNil aGNil := ⟨fun w σ s H O ts xs us R R' st sl r ct ⟨e, q⟩ => by
  subst e
  cases r
  exact ⟨rfl, ct _ _ H O ts st (Ex.refl _) sl q⟩⟩
instance {g : TG} {gs : TGs} {ag : AG} {ags : AGs} [hg : LkG K S0 RH g ag] [hs : LkGs K S0 RH gs ags] : LkGs K S0 RH (gCons g gs) (aGCons ag ags) := ⟨fun w σ s H O ts xs us R R' st sl r ct ⟨x, rest, e, q⟩ => by
  subst e
  cases r with
  | cons r1 r2 =>
    exact ⟨_, _, rfl, hg.run w st sl r1 (fun σ1 s1 H1 O1 ts1 st1 e1 sl1 q1 => hs.run w st1 sl1 (r2.ex e1) (fun σ2 s2 H2 O2 ts2 st2 e2 sl2 q2 => ct _ _ _ _ _ st2 (e1.trans e2) sl2 q2) q1) q⟩⟩
instance {n : Nat} {gs : TGs} {ags : AGs} [hs : LkGs K S0 RH gs ags] : LkG K S0 RH (gTup K n gs) (aGTup n ags) := ⟨fun w σ s H O ts x t R R' st sl r ct ⟨xs, h, hl, q⟩ => by
  obtain ⟨p, vs, rfl, hq, rr⟩ := h.sq r
  exact ⟨p, vs, rfl, ex_t hid_ex hq, by rw [← rr.len]; exact hl, hs.run w st sl rr ct q⟩⟩
instance [ha : LkE K S0 RH te a] [hb : LkE K S0 RH ti b] : LkG K S0 RH (gSub te ti rSetL) (aGSetL a b) := ⟨fun w σ s H O ts x t R R' st sl r ct q =>
  ha.run w st sl (fun o H1 O1 to ts1 st1 e1 r1 q1 => hb.run w st1 (sl.ex e1) (fun i H2 O2 t2 ts2 st2 e2 r2 ⟨p, xs, c, k, j, eo, ei, f, hj, nv, nx, q2⟩ => by
    subst eo ei
    obtain rfl := rt_val r1
    obtain rfl := rt_int r2
    obtain ⟨vs, h1, rr⟩ := st2.lst f
    refine ⟨p, vs, k, j, rfl, rfl, h1, by rw [← rr.len]; exact hj, ?_⟩
    have rx := ((r.ex e1).ex e2)
    have nset : ndsL (xs.set j t) = [] := by
      have hlt : ∃ u, xs[j]? = some u := by
        have : j < xs.length := by
          unfold ixN at hj
          split at hj
          · split at hj
            · cases hj; omega
            · cases hj
          · split at hj
            · cases hj; omega
            · cases hj
        exact ⟨_, List.getElem?_eq_getElem this⟩
      obtain ⟨u, hu⟩ := hlt
      have pz := ndsL_set (u := t) hu
      rw [nx, nv, List.nil_append] at pz
      exact (List.append_eq_nil_iff.mp pz.eq_nil).1
    have st3 := st2.setLst f (ys := xs.set j t) (vs := vs.set j x) (by rw [nset]; exact List.nil_sublist _) (RtL.set rx j rr)
    have hp : p ∈ O2 := st2.io _ (f.sees (.lst p (voL xs)) (by rw [nds]; exact List.mem_cons_self))
    refine ct σ s _ O2 _ st3 ?_ ?_ q2
    · rw [hid_upd hp]; exact e1.trans e2
    · rw [hid_upd hp]; exact (sl.ex e1).ex e2) q1) q⟩
end
end GL

namespace GL
open PySem PySem.Spec PyProof.Rows L2 Evl

/-! ## loops over trees -/
def aFor (ai : AI) (g : AG) (b : AX) : AX := fun D s ts => ai s ts fun it ts1 => ∃ J : Nat → AS → Trs → Prop, aNxG (J 0) s ts1 ∧ (∀ i s ts, J i s ts → it.keep ts) ∧
  (∀ i x s ts, it.items[i]? = some x → J i s ts → g x s ts fun s2 ts2 => b { nx := aNxG (J (i + 1)), rt := D.rt, bk := aNxG D.nx, ct := aNxG (J (i + 1)) } s2 ts2) ∧
  ∀ s ts, J it.items.length s ts → aNxG D.nx s ts
def aWhile (c : AT) (b : AX) : AX := fun D s ts => ∃ J : Nat → AS → Trs → Prop, (∃ m, aNxG (J m) s ts) ∧ ∀ m s ts, J m s ts → c s ts fun k ts1 =>
  if k = true then b { nx := aNxG (fun s ts => ∃ m', m' < m ∧ J m' s ts), rt := D.rt, bk := aNxG D.nx, ct := aNxG (fun s ts => ∃ m', m' < m ∧ J m' s ts) } s ts1 else aNxG D.nx s ts1
def aAsg (a : AE) (g : AG) : AX := fun D s ts => a s ts fun x ts1 => g x s ts1 D.nx
def aPar (i j : Nat) (a : AA) : AX := fun D s ts => a s ts fun us ts1 => ∃ x y, us = [x, y] ∧ D.nx ((s.set i (some x)).set j (some y)) ts1
section
variable {K : PySem.W.Frag} {S0 RH : Hp} {wi : TI} {ai : AI} {g : TG} {ag : AG} {tb : TS} {b : AX} {tt : TT} {c : AT} {te : TE} {a : AE} {ta : TA} {aa : AA}
theorem Wle.up {S0 RH S1 RH1 S2 : Hp} (w : Wle S0 RH S1 RH1) (e : Ex S1 S2) : Wle S0 RH S2 RH1 := ⟨w.ex.trans e, w.rh⟩
/-- the state here, as a start -/
theorem Sta.at_ {S RH H : Hp} {O : List Addr} {ts : Trs} (st : Sta K S RH H O ts) {S1 : Hp} (e : Ex S1 (hid H O)) : Sta K S1 RH H O ts := ⟨st.nd, st.no, st.io, st.rh, e, st.lv⟩
theorem DOk.up {S S2 RH : Hp} {D : Ends} {D' : AD} (d : DOk K S RH D D') (e : Ex S S2) : DOk K S2 RH D D' :=
  ⟨fun σ s H O ts st sl q => d.nx σ s H O ts (st.base e) sl q, fun v H O t ts st r q => d.rt v H O t ts (st.base e) r q, fun σ s H O ts st sl q => d.bk σ s H O ts (st.base e) sl q, fun σ s H O ts st sl q => d.ct σ s H O ts (st.base e) sl q⟩
instance [hi : LkI K S0 RH wi ai] [hg : LkG K S0 RH g ag] [hb : LkX K S0 RH tb b] : LkX K S0 RH (tFor wi g tb) (aFor ai ag b) := ⟨fun {S1 RH1} w σ s H O ts D D' st sl d q =>
  hi.run w st sl (fun J H1 O1 it ts1 st1 e1 ok ⟨Jv, j0, jk, js, jd⟩ => by
    have w2 : Wle S0 RH (hid H1 O1) RH1 := w.up (st.ex.trans e1)
    have d2 := d.up (S2 := hid H1 O1) (st.ex.trans e1)
    refine ⟨fun i m σ H => m = it.items.length - i ∧ i ≤ it.items.length ∧ ∃ s O ts, Sta K (hid H1 O1) RH1 H O ts ∧ Sl K (hid H O) s σ ∧ Jv i s ts, ⟨it.items.length, by simp, Nat.zero_le _, ?_⟩, ?_⟩
    · obtain ⟨s', ts', gh, j0⟩ := j0
      obtain ⟨O', st', sl'⟩ := gh K _ _ _ _ _ st1.here (sl.ex e1)
      exact ⟨s', O', ts', st', sl', j0⟩
    · rintro i m σ2 H2 ⟨rfl, hi, s2, O2, ts2, st2, sl2, j⟩
      have kp := jk _ _ _ j
      by_cases hlt : i < it.items.length
      · have hx : it.items[i]? = some it.items[i] := List.getElem?_eq_getElem hlt
        obtain ⟨go, yl⟩ := ok.go st2 st2.ex kp hx
        have nxt : ∀ σ' s' H' O' ts', Sta K (hid H1 O1) RH1 H' O' ts' → Sl K (hid H' O') s' σ' → aNxG (Jv (i + 1)) s' ts' → ∃ m', m' < it.items.length - i ∧ (m' = it.items.length - (i + 1) ∧ i + 1 ≤ it.items.length ∧ ∃ s O ts, Sta K (hid H1 O1) RH1 H' O ts ∧ Sl K (hid H' O) s σ' ∧ Jv (i + 1) s ts) := fun σ' s' H' O' ts' st' sl' ⟨s3, ts3, gh, jj⟩ => by
          obtain ⟨O3, st3, sl3⟩ := gh K _ _ _ _ _ st' sl'
          exact ⟨it.items.length - (i + 1), by omega, rfl, hlt, s3, O3, ts3, st3, sl3, jj⟩
        refine .inr ⟨go, fun σ' H' => ∃ m', m' < it.items.length - i ∧ (m' = it.items.length - (i + 1) ∧ i + 1 ≤ it.items.length ∧ ∃ s O ts, Sta K (hid H1 O1) RH1 H' O ts ∧ Sl K (hid H' O) s σ' ∧ Jv (i + 1) s ts), fun σ' H' z => z, fun x H' y => ?_⟩
        obtain ⟨st3, e3, _, r3⟩ := yl x H' y
        refine hg.run w2 st3 (sl2.ex e3) r3 (fun σ4 s4 H4 O4 ts4 st4 e4 sl4 q4 => ?_) (js i _ s2 ts2 hx j)
        refine hb.run (D' := { nx := aNxG (Jv (i + 1)), rt := D'.rt, bk := aNxG D'.nx, ct := aNxG (Jv (i + 1)) }) w2 st4 sl4 ⟨nxt, d2.rt, ?_, nxt⟩ q4
        intro σ' s' H' O' ts' st' sl' ⟨s5, ts5, gh, q5⟩
        obtain ⟨O5, st5, sl5⟩ := gh K _ _ _ _ _ st' sl'
        exact d2.nx _ _ _ _ _ st5 sl5 q5
      · have e : i = it.items.length := by omega
        subst e
        refine .inl ⟨ok.stop st2 st2.ex kp, ?_⟩
        obtain ⟨s5, ts5, gh, q5⟩ := jd _ _ j
        obtain ⟨O5, st5, sl5⟩ := gh K _ _ _ _ _ st2 sl2
        exact d2.nx _ _ _ _ _ st5 sl5 q5) q⟩
instance [hc : LkT K S0 RH tt c] [hb : LkX K S0 RH tb b] : LkX K S0 RH (tWhile tt tb) (aWhile c b) := ⟨fun {S1 RH1} w σ s H O ts D D' st sl d ⟨J, ⟨m0, s0, ts0, gh, j0⟩, js⟩ => by
  obtain ⟨O', st', sl'⟩ := gh K _ _ _ _ _ st sl
  refine ⟨fun m σ H => ∃ s O ts, Sta K S1 RH1 H O ts ∧ Sl K (hid H O) s σ ∧ J m s ts, ⟨m0, s0, O', ts0, st', sl', j0⟩, ?_⟩
  rintro m σ2 H2 ⟨s2, O2, ts2, st2, sl2, j⟩
  refine hc.run w st2 sl2 (fun k H3 O3 ts3 st3 e3 q3 => ?_) (js m s2 ts2 j)
  cases k with
  | true =>
    rw [if_pos rfl] at q3 ⊢
    have nxt : ∀ σ' s' H' O' ts', Sta K S1 RH1 H' O' ts' → Sl K (hid H' O') s' σ' → aNxG (fun s ts => ∃ m', m' < m ∧ J m' s ts) s' ts' → ∃ m', m' < m ∧ ∃ s O ts, Sta K S1 RH1 H' O ts ∧ Sl K (hid H' O) s σ' ∧ J m' s ts := fun σ' s' H' O' ts' st' sl' ⟨s3, ts3, gh, m', hm, jj⟩ => by
      obtain ⟨O3, st3, sl3⟩ := gh K _ _ _ _ _ st' sl'
      exact ⟨m', hm, s3, O3, ts3, st3, sl3, jj⟩
    refine ⟨fun σ' H' => ∃ m', m' < m ∧ ∃ s O ts, Sta K S1 RH1 H' O ts ∧ Sl K (hid H' O) s σ' ∧ J m' s ts, fun σ' H' z => z, ?_⟩
    refine hb.run (D' := { nx := aNxG (fun s ts => ∃ m', m' < m ∧ J m' s ts), rt := D'.rt, bk := aNxG D'.nx, ct := aNxG (fun s ts => ∃ m', m' < m ∧ J m' s ts) }) w st3 (sl2.ex e3) ⟨nxt, d.rt, ?_, nxt⟩ q3
    intro σ' s' H' O' ts' st' sl' ⟨s5, ts5, gh, q5⟩
    obtain ⟨O5, st5, sl5⟩ := gh K _ _ _ _ _ st' sl'
    exact d.nx _ _ _ _ _ st5 sl5 q5
  | false =>
    rw [if_neg (by simp)] at q3 ⊢
    obtain ⟨s5, ts5, gh, q5⟩ := q3
    obtain ⟨O5, st5, sl5⟩ := gh K _ _ _ _ _ st3 (sl2.ex e3)
    exact d.nx _ _ _ _ _ st5 sl5 q5⟩
instance (priority := low) [ha : LkE K S0 RH te a] [hg : LkG K S0 RH g ag] : LkX K S0 RH (tAsg te g) (aAsg a ag) := ⟨fun w σ s H O ts D D' st sl d q =>
  ha.run w st sl (fun v H1 O1 t ts1 st1 e1 r q1 => hg.run w st1 (sl.ex e1) r (fun σ' s' H' O' ts' st' e' sl' q' => d.nx _ _ _ _ _ st' sl' q') q1) q⟩
instance {i j : Nat} [ha : LkA K S0 RH ta aa] : LkX K S0 RH (tPar i j ta) (aPar i j aa) := ⟨fun w σ s H O ts D D' st sl d q =>
  ha.run w st sl (fun vs H1 O1 us ts1 st1 e1 r ⟨x, y, eu, q1⟩ => by
    subst eu
    obtain ⟨v, v', rfl, rv, rv'⟩ := rtl2 r
    exact ⟨v, v', rfl, d.nx _ _ H1 O1 ts1 st1 (((sl.ex e1).set rv i).set rv' j) q1⟩) q⟩
end

/-! ### comprehensions -/
def wipeA (s : AS) : List Nat → AS
  | [] => s
  | v :: vs => (wipeA s vs).set v none
theorem Sl.wipe {K : PySem.W.Frag} {S : Hp} {s : AS} {σ : L2.St} (h : Sl K S s σ) : ∀ vs : List Nat, Sl K S (wipeA s vs) (L2.wipe σ vs)
  | [] => h
  | v :: vs => (h.wipe vs).unset v
/-- a target that sets these slots only -/
def GIn (g : TG) (vs : List Nat) : Prop := ∀ x σ H (Q : L2.St → Hp → Prop), g x (L2.wipe σ vs) H Q → g x (L2.wipe σ vs) H fun σ' H' => L2.wipe σ' vs = L2.wipe σ vs ∧ Q σ' H'
def GsIn (g : TGs) (vs : List Nat) : Prop := ∀ xs σ0 σ H (Q : L2.St → Hp → Prop), L2.wipe σ0 vs = L2.wipe σ vs → g xs σ0 H Q → g xs σ0 H fun σ' H' => L2.wipe σ' vs = L2.wipe σ vs ∧ Q σ' H'
theorem wipe_set {σ : L2.St} {i : Nat} {v : Option V} : ∀ {vs : List Nat}, i ∈ vs → L2.wipe (σ.set i v) vs = L2.wipe σ vs
  | [], h => absurd h List.not_mem_nil
  | w :: vs, h => by
    show (L2.wipe (σ.set i v) vs).set w none = (L2.wipe σ vs).set w none
    by_cases z : i ∈ vs
    · rw [wipe_set z]
    · have e : i = w := (List.mem_cons.mp h).elim id fun y => absurd y z
      subst e
      have out : ∀ (vs : List Nat), i ∉ vs → L2.wipe (σ.set i v) vs = (L2.wipe σ vs).set i v := by
        intro vs
        induction vs with
        | nil => intro _; rfl
        | cons u vs ih =>
          intro hn
          show (L2.wipe (σ.set i v) vs).set u none = ((L2.wipe σ vs).set u none).set i v
          rw [ih fun y => hn (List.mem_cons_of_mem _ y), List.set_comm _ _ fun y => hn (by rw [← y]; exact List.mem_cons_self)]
      rw [out vs z, List.set_set]
theorem wipe_wipe {σ : L2.St} : ∀ vs : List Nat, L2.wipe (L2.wipe σ vs) vs = L2.wipe σ vs := fun vs => by
  have gen : ∀ (ws : List Nat), (∀ w ∈ ws, w ∈ vs) → L2.wipe (L2.wipe σ ws) vs = L2.wipe σ vs := by
    intro ws
    induction ws with
    | nil => intro _; rfl
    | cons w ws ih =>
      intro h
      show L2.wipe ((L2.wipe σ ws).set w none) vs = _
      rw [wipe_set (h w List.mem_cons_self), ih fun x hx => h x (List.mem_cons_of_mem _ hx)]
  exact gen vs fun w h => h
theorem gin_name {i : Nat} {vs : List Nat} (h : vs.contains i = true) : GIn (gName i) vs := fun x σ H Q q => by
  have hm : i ∈ vs := List.contains_iff_mem.mp h
  exact ⟨by rw [wipe_set hm, wipe_wipe], q⟩
theorem gsin_nil {vs : List Nat} : GsIn gNil vs := fun xs σ0 σ H Q e ⟨e1, q⟩ => ⟨e1, e, q⟩
theorem gsin_cons {i : Nat} {gs : TGs} {vs : List Nat} (h : vs.contains i = true) (hs : GsIn gs vs) : GsIn (gCons (gName i) gs) vs := fun xs σ0 σ H Q e ⟨v, r, e1, q⟩ => by
  have hm : i ∈ vs := List.contains_iff_mem.mp h
  exact ⟨v, r, e1, hs _ _ σ _ _ (by rw [wipe_set hm, e]) q⟩
theorem gin_tup {K : PySem.W.Frag} {n : Nat} {gs : TGs} {vs : List Nat} (hs : GsIn gs vs) : GIn (gTup K n gs) vs := fun x σ H Q ⟨a, xs, e1, e2, e3, q⟩ => ⟨a, xs, e1, e2, e3, hs _ _ σ _ _ (wipe_wipe vs) q⟩
/-- a comprehension whose list is only read from now on -/
def aLcF (P : Prop) (ai : AI) (g : AG) (tt : AT) (a : AE) (vs : List Nat) : AE := fun s ts Q => P ∧ ai s ts fun it ts1 => ∃ J : Nat → List PyData → Trs → Prop, J 0 [] ts1 ∧ (∀ i acc ts, J i acc ts → it.keep ts) ∧
  (∀ i x acc ts, it.items[i]? = some x → J i acc ts → g x (wipeA s vs) ts fun s2 ts2 => tt s2 ts2 fun k ts3 =>
    if k = true then a s2 ts3 fun y ts4 => ∃ d, y = .dat d ∧ acc.length < 100000 ∧ J (i + 1) (acc ++ [d]) ts4 else J (i + 1) acc ts3) ∧
  ∀ acc ts, J it.items.length acc ts → Q (.dat (.list acc)) ts
/-- .. that may change -/
def aLcM (P : Prop) (ai : AI) (g : AG) (tt : AT) (a : AE) (vs : List Nat) : AE := fun s ts Q => P ∧ ai s ts fun it ts1 => ∃ J : Nat → Trs → Trs → Prop, J 0 [] ts1 ∧ (∀ i acc ts, J i acc ts → it.keep ts ∧ ndsL acc = []) ∧
  (∀ i x acc ts, it.items[i]? = some x → J i acc ts → g x (wipeA s vs) ts fun s2 ts2 => tt s2 ts2 fun k ts3 =>
    if k = true then a s2 ts3 fun y ts4 => acc.length < 100000 ∧ J (i + 1) (acc ++ [y]) ts4 else J (i + 1) acc ts3) ∧
  ∀ acc ts, J it.items.length acc ts → ∀ p, Q (.val (.ref p)) (ts ++ [.lst p acc])
def tLcM (wi : TI) (g : TG) (tt : TT) (te : TE) (vs : List Nat) : TE := tLc wi g tt te vs
def aYes : AT := fun _ ts Q => Q true ts
instance {K : PySem.W.Frag} {S0 RH : Hp} : LkT K S0 RH tYes aYes := ⟨fun w σ s H O ts Q Q' st sl ct q => ct _ H O ts st (Ex.refl _) q⟩
section
variable {K : PySem.W.Frag} {S0 RH : Hp} {wi : TI} {ai : AI} {g : TG} {ag : AG} {tt : TT} {c : AT} {te : TE} {a : AE} {vs : List Nat}
/-- the comprehension's core: the list that grows is the rest's -/
theorem lc_run {S1 RH1 : Hp} (w : Wle S0 RH S1 RH1) [hi : LkI K S0 RH wi ai] [hg : LkG K S0 RH g ag] [ht : LkT K S0 RH tt c] [he : LkE K S0 RH te a] {σ : L2.St} {s : AS} {H : Hp} {O : List Addr} {ts : Trs} {Q : VK} (st : Sta K S1 RH1 H O ts) (sl : Sl K (hid H O) s σ) (gin : GIn g vs)
    (R' : AIt → Trs → Prop) (hR : ∀ J H1 O1 it ts1, Sta K S1 RH1 H1 O1 ts1 → Ex (hid H O) (hid H1 O1) → ItOk K J (hid H1 O1) it → R' it ts1 → ∃ Jv : Nat → Trs → Trs → Prop, Jv 0 [] ts1 ∧ (∀ i acc ts, Jv i acc ts → it.keep ts) ∧
      (∀ i x acc ts, it.items[i]? = some x → Jv i acc ts → ag x (wipeA s vs) ts fun s2 ts2 => c s2 ts2 fun k ts3 => if k = true then a s2 ts3 fun y ts4 => acc.length < 100000 ∧ Jv (i + 1) (acc ++ [y]) ts4 else Jv (i + 1) acc ts3) ∧
      ∀ acc ts H2 O2 D vs, Jv it.items.length acc ts → Sta K S1 RH1 H2 O2 ts → Ex (hid H O) (hid H2 O2) → D ∈ O2 → H2 D = some (.lst vs) → (∀ n ∈ ndsL ts, adr n ≠ D) → (∀ b o, RH1 b = some o → b ≠ D) → RtL K (hid H2 O2) acc vs → Q (.ref D) H2) (q : ai s ts R') : tLc wi g tt te vs σ H Q := by
  refine hi.run w st sl (fun J H1 O1 it ts1 st1 e1 ok q1 => ?_) q
  obtain ⟨Jv, j0, jk, js, jd⟩ := hR J H1 O1 it ts1 st1 e1 ok q1
  intro D hD
  let RD : List V → Hp := fun vs b => if b = D then some (.lst vs) else RH1 b
  have hDR : ∀ b o, RH1 b = some o → b ≠ D := fun b o z e => by
    have := (st1.rh b o z).2.1
    rw [e, hD] at this
    cases this
  -- the state while the list at D grows: D is the rest's
  have w2 : ∀ vs, Wle S0 RH (hid H1 O1) (RD vs) := fun ws => ⟨w.ex.trans (st1.ex), fun b o z => by
    show (if b = D then _ else _) = _
    rw [if_neg (hDR b o (w.rh b o z))]
    exact w.rh b o z⟩
  have stD : ∀ ws, Sta K (hid H1 O1) (RD ws) (upd H1 D (.lst ws)) (D :: O1) ts1 := fun ws => by
    have eh := hid_newO (O := O1) (o := .lst ws) hD
    refine ⟨fun n hn => (st1.nd n hn).to eh (upd_ne fun z => st1.notNone hn (by rw [z]; exact hD)), st1.no, fun n hn => List.mem_cons_of_mem _ (st1.io n hn), fun b o z => ?_, eh, fun b hb => ?_⟩
    · have z : (if b = D then some (HO.lst ws) else RH1 b) = some o := z
      by_cases e : b = D
      · rw [if_pos e] at z
        cases z
        refine ⟨by rw [e]; exact List.mem_cons_self, by rw [e]; exact upd_same, fun n hn y => st1.notNone hn (by rw [y, e]; exact hD)⟩
      · rw [if_neg e] at z
        obtain ⟨a1, a2, a3⟩ := st1.rh b o z
        exact ⟨List.mem_cons_of_mem _ a1, by rw [upd_ne e]; exact a2, a3⟩
    · rcases List.mem_cons.mp hb with z | z
      · rw [z, upd_same]; simp
      · by_cases e : b = D
        · rw [e, upd_same]; simp
        · rw [upd_ne e]; exact st1.lv b z
  have sl1 : ∀ {H' : Hp} {O' : List Addr}, Ex (hid H1 O1) (hid H' O') → Sl K (hid H' O') (wipeA s vs) (L2.wipe σ vs) := fun e => ((sl.ex e1).ex e).wipe vs
  refine ⟨fun i m H => m = it.items.length - i ∧ i ≤ it.items.length ∧ ∃ O ts acc ws, Sta K (hid H1 O1) (RD ws) H O ts ∧ Jv i acc ts ∧ RtL K (hid H O) acc ws, ⟨it.items.length, by simp, Nat.zero_le _, D :: O1, ts1, [], [], stD [], j0, .nil⟩, ?_⟩
  rintro i m H2 ⟨rfl, hi, O2, ts2, acc, ws, st2, j, r2⟩
  have kp := jk _ _ _ j
  have atD : H2 D = some (.lst ws) ∧ D ∈ O2 ∧ ∀ n ∈ ndsL ts2, adr n ≠ D := by
    obtain ⟨x1, x2, x3⟩ := st2.rh D (.lst ws) (by show (if D = D then _ else _) = _; rw [if_pos rfl])
    exact ⟨x2, x1, x3⟩
  by_cases hlt : i < it.items.length
  · have hx : it.items[i]? = some it.items[i] := List.getElem?_eq_getElem hlt
    obtain ⟨go, yl⟩ := ok.go st2 st2.ex kp hx
    refine .inr ⟨go, fun H' => ∃ O ts acc ws, Sta K (hid H1 O1) (RD ws) H' O ts ∧ Jv (i + 1) acc ts ∧ RtL K (hid H' O) acc ws, fun H' z => ⟨_, by omega, rfl, hlt, z⟩, fun x H' y => ?_⟩
    obtain ⟨st3, e3, _, r3⟩ := yl x H' y
    refine gin _ _ _ _ (hg.run (w2 ws) st3 (sl1 st3.ex) r3 (fun σ4 s4 H4 O4 ts4 st4 e4 sl4 q4 => ?_) (js i _ acc ts2 hx j))
    refine ht.run (w2 ws) st4 sl4 (fun k H5 O5 ts5 st5 e5 q5 => ?_) q4
    cases k with
    | false =>
      rw [if_neg (by simp)] at q5 ⊢
      exact ⟨O5, ts5, acc, ws, st5, q5, r2.ex (e3.trans (e4.trans e5))⟩
    | true =>
      rw [if_pos rfl] at q5 ⊢
      refine he.run (w2 ws) st5 (sl4.ex e5) (fun z H6 O6 tz ts6 st6 e6 r6 ⟨hl6, j6⟩ => ?_) q5
      obtain ⟨x1, x2, x3⟩ := st6.rh D (.lst ws) (by show (if D = D then _ else _) = _; rw [if_pos rfl])
      have r26 := r2.ex (e3.trans ((e4.trans e5).trans e6))
      refine ⟨ws, x2, by rw [← r26.len]; exact sz_lt hl6, O6, ts6, _, ws ++ [z], ?_, j6, ?_⟩
      · refine ⟨fun n hn => ?_, st6.no, st6.io, fun b o zz => ?_, by rw [hid_upd x1]; exact st6.ex, fun b hb => ?_⟩
        · rw [hid_upd x1]
          exact (st6.nd n hn).to (Ex.refl _) (upd_ne (x3 n hn))
        · have zz : (if b = D then some (HO.lst (ws ++ [z])) else RH1 b) = some o := zz
          by_cases e : b = D
          · rw [if_pos e] at zz
            cases zz
            exact ⟨by rw [e]; exact x1, by rw [e]; exact upd_same, fun n hn => by rw [e]; exact x3 n hn⟩
          · rw [if_neg e] at zz
            obtain ⟨a1, a2, a3⟩ := st6.rh b o (by show (if b = D then _ else _) = _; rw [if_neg e]; exact zz)
            exact ⟨a1, by rw [upd_ne e]; exact a2, a3⟩
        · by_cases e : b = D
          · rw [e, upd_same]; simp
          · rw [upd_ne e]; exact st6.lv b hb
      · rw [hid_upd x1]
        exact r26.app (.cons r6 .nil)
  · have e : i = it.items.length := by omega
    subst e
    refine .inl ⟨ok.stop st2 st2.ex kp, ?_⟩
    exact jd acc ts2 H2 O2 D ws j ⟨st2.nd, st2.no, st2.io, fun b o z => st2.rh b o (by show (if b = D then _ else _) = _; rw [if_neg (hDR b o z)]; exact z), (st1.ex.trans st2.ex), st2.lv⟩ (e1.trans st2.ex) atD.2.1 atD.1 atD.2.2 hDR r2
/-- a thing leaves what may change -/
theorem Sta.leave {S RH H : Hp} {O : List Addr} {ts : Trs} {D : Addr} (st : Sta K S RH H O ts) (hn : ∀ n ∈ ndsL ts, adr n ≠ D) (hR : ∀ b o, RH b = some o → b ≠ D) : ∃ O', Sta K S RH H O' ts ∧ Ex (hid H O) (hid H O') ∧ D ∉ O' := by
  have mem3 : ∀ b, b ∈ O.filter (fun b => decide (b ≠ D)) ↔ b ∈ O ∧ b ≠ D := fun b => by rw [List.mem_filter]; simp
  have e3 : Ex (hid H O) (hid H (O.filter fun b => decide (b ≠ D))) := hid_less fun b hb => ((mem3 b).mp hb).1
  refine ⟨O.filter fun b => decide (b ≠ D), ⟨fun n h => (st.nd n h).to e3 rfl, st.no, fun n h => (mem3 _).mpr ⟨st.io n h, hn n h⟩, fun b o z => ?_, st.ex.trans e3, fun b hb => st.lv b ((mem3 b).mp hb).1⟩, e3, fun z => ((mem3 D).mp z).2 rfl⟩
  obtain ⟨a1, a2, a3⟩ := st.rh b o z
  exact ⟨(mem3 b).mpr ⟨a1, hR b o z⟩, a2, a3⟩
instance [hi : LkI K S0 RH wi ai] [hg : LkG K S0 RH g ag] [ht : LkT K S0 RH tt c] [he : LkE K S0 RH te a] : LkE K S0 RH (tLc wi g tt te vs) (aLcF (GIn g vs) ai ag c a vs) := ⟨fun w σ s H O ts Q Q' st sl ct ⟨gin, q⟩ => by
  refine lc_run (c := c) (a := a) (ag := ag) (ai := ai) w st sl gin _ (fun J H1 O1 it ts1 st1 e1 ok ⟨Jv, j0, jk, js, jd⟩ => ?_) q
  refine ⟨fun i acc ts => ∃ ds, acc = ds.map .dat ∧ Jv i ds ts, ⟨[], rfl, j0⟩, fun i acc ts ⟨ds, _, j⟩ => jk i ds ts j, fun i x acc ts hx ⟨ds, ea, j⟩ => ?_, ?_⟩
  · subst ea
    have e1 : (fun s2 ts2 => c s2 ts2 fun k ts3 => if k = true then a s2 ts3 fun y ts4 => (ds.map Tr.dat).length < 100000 ∧ ∃ es, ds.map Tr.dat ++ [y] = es.map .dat ∧ Jv (i + 1) es ts4 else ∃ es, ds.map Tr.dat = es.map .dat ∧ Jv (i + 1) es ts3) =
      (fun s2 ts2 => c s2 ts2 fun k ts3 => if k = true then a s2 ts3 fun y ts4 => ∃ d, y = .dat d ∧ ds.length < 100000 ∧ Jv (i + 1) (ds ++ [d]) ts4 else Jv (i + 1) ds ts3) := by
      have inj : ∀ a b : List PyData, a.map Tr.dat = b.map .dat → a = b := fun a b h => (List.map_inj_right (fun x y e => by cases e; rfl)).mp h
      funext s2 ts2
      congr 1
      funext k ts3
      have h2 : (∃ es, ds.map Tr.dat = es.map .dat ∧ Jv (i + 1) es ts3) = Jv (i + 1) ds ts3 := propext ⟨fun ⟨es, e, h⟩ => by rw [inj _ _ e]; exact h, fun h => ⟨ds, rfl, h⟩⟩
      have h3 : (fun y ts4 => (ds.map Tr.dat).length < 100000 ∧ ∃ es, ds.map Tr.dat ++ [y] = es.map .dat ∧ Jv (i + 1) es ts4) = (fun y ts4 => ∃ d, y = .dat d ∧ ds.length < 100000 ∧ Jv (i + 1) (ds ++ [d]) ts4) := by
        funext y ts4
        refine propext ⟨fun ⟨hl, es, e, h⟩ => ?_, fun ⟨d, e, hl, h⟩ => ⟨by simpa using hl, ds ++ [d], by rw [e]; simp, h⟩⟩
        have hlen := congrArg List.length e
        simp only [List.length_append, List.length_map, List.length_singleton] at hlen
        have hy : (es.map Tr.dat)[ds.length]? = some y := by rw [← e]; simp
        rw [List.getElem?_map] at hy
        cases z : es[ds.length]? with
        | none => rw [z] at hy; cases hy
        | some d =>
          rw [z] at hy
          have hy : Tr.dat d = y := by simpa using hy
          subst hy
          refine ⟨d, rfl, by simpa using hl, ?_⟩
          have : es = ds ++ [d] := inj _ _ (by rw [← e]; simp)
          rw [← this]; exact h
      rw [h2, h3]
    rw [e1]
    exact js i x ds ts hx j
  · rintro acc ts H2 O2 D ws ⟨ds, rfl, j⟩ st2 e2 _ hD hn hR r
    obtain ⟨O3, st3, e3, nD⟩ := st2.leave hn hR
    exact ct _ H2 O3 _ ts st3 (e2.trans e3) (.dat (.lst (.inl (hid_of hD nD)) (r.ex e3).undats)) (jd ds ts j)⟩
instance [hi : LkI K S0 RH wi ai] [hg : LkG K S0 RH g ag] [ht : LkT K S0 RH tt c] [he : LkE K S0 RH te a] : LkE K S0 RH (tLcM wi g tt te vs) (aLcM (GIn g vs) ai ag c a vs) := ⟨fun w σ s H O ts Q Q' st sl ct ⟨gin, q⟩ => by
  refine lc_run (c := c) (a := a) (ag := ag) (ai := ai) w st sl gin _ (fun J H1 O1 it ts1 st1 e1 ok ⟨Jv, j0, jk, js, jd⟩ => ?_) q
  refine ⟨Jv, j0, fun i acc ts j => (jk i acc ts j).1, js, ?_⟩
  intro acc ts H2 O2 D ws j st2 e2 mD hD hn hR r
  have na := (jk _ _ _ j).2
  have nl : ndsL (ts ++ [.lst D acc]) = ndsL ts ++ [.lst D (voL acc)] := by rw [ndsL_app]; simp [ndsL, nds, na]
  refine ct _ H2 O2 _ (ts ++ [.lst D acc]) ⟨fun n h => ?_, ?_, fun n h => ?_, fun b o z => ?_, st2.ex, st2.lv⟩ e2 .val (jd acc ts j D)
  · rw [nl] at h
    rcases List.mem_append.mp h with z | z
    · exact st2.nd n z
    · rw [List.mem_singleton.mp z]; exact ⟨ws, hD, r.vo⟩
  · rw [nl, List.map_append, List.nodup_append]
    refine ⟨st2.no, by simp, fun x hx y hy => ?_⟩
    obtain ⟨m, hm, rfl⟩ := List.mem_map.mp hx
    have : y = D := by simpa [adr] using hy
    rw [this]
    exact hn m hm
  · rw [nl] at h
    rcases List.mem_append.mp h with z | z
    · exact st2.io n z
    · rw [List.mem_singleton.mp z]; exact mD
  · obtain ⟨a1, a2, a3⟩ := st2.rh b o z
    refine ⟨a1, a2, fun n h => ?_⟩
    rw [nl] at h
    rcases List.mem_append.mp h with y | y
    · exact a3 n y
    · rw [List.mem_singleton.mp y]; exact (hR b o z).symm⟩
end
end GL

namespace GL
open PySem PySem.Spec PyProof.Rows L2 Evl

/-! ## list + list, any that were made -/
def rCatX : R2 := fun x y H Q => ∃ l b xs zs, x = .ref l ∧ y = .ref b ∧ Rd H l (.lst xs) ∧ Rd H b (.lst zs) ∧ xs.length + zs.length ≤ 100000 ∧ ∀ p H2, H p = none → Ex H H2 → H2 p = some (.lst (xs ++ zs)) → Q (.ref p) H2
theorem op_catX {X : Cx} : OpR X (binaryOp .Add) rCatX := by
  intro pins s σ H x y v u Q I rx ry h
  obtain ⟨l, b, xs, zs, rfl, rfl, hH, hB, hz, q⟩ := h
  cases rx
  cases ry
  obtain ⟨z, its, n, r, e⟩ := hH.ok I.hok
  obtain ⟨z2, its2, n2, r2, e2⟩ := hB.ok I.hok
  have l1 := r.length
  have l2 := r2.length
  have hz' := sz_of hz
  refine PySem.P.add_list e e2 ?_ (by rw [List.size_toArray, List.size_toArray]; omega)
  have ea : its.toArray ++ its2.toArray = (its ++ its2).toArray := by simp
  rw [ea]
  exact ⟨.ref _, _, I.lnew (t' := s.toks) (r.append r2) (by rw [List.length_append]; omega), rfl, q _ _ I.fresh (Ex.new I.fresh) upd_same⟩
def rCatXM : R2 := rCatX
theorem op_catXM {X : Cx} : OpR X (binaryOp .Add) rCatXM := op_catX
def rExtX : V → List V → Hp → VK → Prop := fun x vs H Q => ∃ l b xs zs, x = .ref l ∧ vs = [.ref b] ∧ H l = some (.lst xs) ∧ Rd H b (.lst zs) ∧ xs.length + zs.length ≤ 100000 ∧ Q .non (upd H l (.lst (xs ++ zs)))
theorem mt_extX {X : Cx} : MtM X "list.extend" rExtX := by
  intro pins s σ H x vs v us Q I rx rv h
  obtain ⟨l, b, xs, zs, rfl, rfl, hH, hB, hz, q⟩ := h
  cases rx
  obtain ⟨u, rfl, ru⟩ := rv.one
  cases ru
  obtain ⟨z, its, n, r, hl, e⟩ := I.lstM hH
  obtain ⟨z2, its2, n2, r2, e2⟩ := hB.ok I.hok
  have l2 := r2.length
  have hz' := sz_of hz
  have hsz : its.toArray.size + its2.toArray.size ≤ sizeLine := by rw [List.size_toArray, List.size_toArray]; omega
  have hlong : ¬ (!its.toArray.isEmpty && Builtin.List.listTooLong (its.toArray.size + its2.toArray.size)) = true := by
    rw [notLongL hsz, Bool.and_false]
    exact Bool.false_ne_true
  refine call_meets F.slot_list_extend ⟨_, e, rfl⟩ F.entry_list_extend (F.args_list_extend_2 _ _)
    (AutoSeq1.list_extend_list_list_0 l its.toArray n b its2.toArray n2 hlong (by simp only [List.size_toArray]; omega) (by simp only [List.size_toArray]; omega)) ⟨e, e2, ?_⟩
  refine ⟨.non, _, I.lset (its' := its ++ its2) hH e (by simp) (r.append r2) ?_, rfl, q⟩
  rw [List.length_append]
  omega

/-- a list that was made: its items as values -/
inductive SeqR (ts : Trs) : Tr → Trs → Prop
  | dat {ds : List PyData} : SeqR ts (.dat (.list ds)) (ds.map .dat)
  | ref {p : Addr} {xs : Trs} {c : Tr → Trs} (f : FocL ts (.lst p xs) c) : SeqR ts (.val (.ref p)) (voL xs)
mutual
theorem nds_vo : ∀ t : Tr, nds (vo t) = []
  | .dat _ => by simp [vo, nds]
  | .val _ => by simp [vo, nds]
  | .scr _ => by simp [vo, nds]
  | .tup xs => by simp [vo, nds, ndsL_vo xs]
  | .lst _ _ => by simp [vo, nds]
  | .dct _ _ => by simp [vo, nds]
  | .ins _ _ _ => by simp [vo, nds]
theorem ndsL_vo : ∀ l : List Tr, ndsL (voL l) = []
  | [] => rfl
  | t :: r => by simp [voL, ndsL, nds_vo t, ndsL_vo r]
end
section
variable {K : PySem.W.Frag} {S0 RH H : Hp} {O : List Addr} {ts : Trs}
theorem SeqR.rd (s : Sta K S0 RH H O ts) {t : Tr} {xs : Trs} {v : V} (h : SeqR ts t xs) (r : Rt K (hid H O) t v) : ∃ p vs, v = .ref p ∧ Rd H p (.lst vs) ∧ RtL K (hid H O) xs vs ∧ ndsL xs = [] := by
  cases h with
  | dat => cases r with | dat r => cases r with | lst hs ha => exact ⟨_, _, rfl, ex_rd hid_ex hs, RtL.dats ha, ndsL_dats _⟩
  | ref f =>
    obtain rfl := rt_val r
    obtain ⟨vs, h1, h2⟩ := s.lst f
    exact ⟨_, vs, rfl, .inl h1, h2.vo, ndsL_vo _⟩
theorem SeqL.nn {t : Tr} {xs : Trs} (h : SeqL ts t xs) : ndsL xs = [] := by
  cases h with
  | dat => exact ndsL_dats _
  | scr =>
    rename_i ns
    have e : (ns.map fun i => Tr.dat (.int i)) = (ns.map PyData.int).map .dat := by rw [List.map_map]; rfl
    rw [e]; exact ndsL_dats _
  | ref f => exact ndsL_vo _
theorem SeqT.nn {t : Tr} {xs : Trs} (h : SeqT ts t xs) : ndsL xs = [] := by
  cases h with
  | dat => exact ndsL_dats _
  | tup => exact ndsL_vo _
end
def aCatX : AR := fun x y ts Q => ∃ (xs ys : Trs) (ds : List PyData), SeqR ts x xs ∧ SeqR ts y ys ∧ xs ++ ys = ds.map .dat ∧ xs.length + ys.length ≤ 100000 ∧ Q (.dat (.list ds)) ts
def aCatXM : AR := fun x y ts Q => ∃ xs ys, SeqR ts x xs ∧ SeqR ts y ys ∧ xs.length + ys.length ≤ 100000 ∧ ∀ p, Q (.val (.ref p)) (ts ++ [.lst p (xs ++ ys)])
def cutG {α : Type} (xs : List α) (lo hi : Option Int) : List α := (xs.drop (HT.sIx xs.length 0 lo)).take (HT.sIx xs.length xs.length hi - HT.sIx xs.length 0 lo)
theorem cutG_V (xs : List V) (lo hi : Option Int) : cutG xs lo hi = cutV xs lo hi := rfl
theorem cutG_map {α β : Type} (f : α → β) (xs : List α) (lo hi : Option Int) : cutG (xs.map f) lo hi = (cutG xs lo hi).map f := by
  unfold cutG
  rw [List.length_map, List.map_take, List.map_drop]
theorem cutG_rt {K : PySem.W.Frag} {S : Hp} {xs : Trs} {vs : List V} (r : RtL K S xs vs) (lo hi : Option Int) : RtL K S (cutG xs lo hi) (cutV vs lo hi) := by
  unfold cutG cutV
  rw [r.len]
  exact (r.drop _).take _
theorem cutG_len {α : Type} (xs : List α) (lo hi : Option Int) : (cutG xs lo hi).length ≤ xs.length := by
  unfold cutG
  rw [List.length_take, List.length_drop]
  omega
theorem cutG_nn {xs : Trs} (h : ndsL xs = []) (lo hi : Option Int) : ndsL (cutG xs lo hi) = [] := by
  have sub : ∀ {a b : Trs}, a.Sublist b → (ndsL a).Sublist (ndsL b) := by
    intro a b s
    induction s with
    | slnil => exact List.Sublist.refl _
    | cons x s ih => rw [ndsL]; exact ih.trans (List.sublist_append_right _ _)
    | cons_cons x s ih => rw [ndsL, ndsL]; exact List.Sublist.append (List.Sublist.refl _) ih
  have z := sub (show (cutG xs lo hi).Sublist xs from (List.take_sublist _ _).trans (List.drop_sublist _ _))
  rw [h] at z
  exact List.sublist_nil.mp z
abbrev ASl := Tr → Option Int → Option Int → Trs → AQ → Prop
abbrev AO := AS → Trs → (Option Int → Trs → Prop) → Prop
class LkSl (K : PySem.W.Frag) (r : V → Option Int → Option Int → Hp → VK → Prop) (ar : outParam ASl) : Prop where
  run : ∀ {S RH H : Hp} {O : List Addr} {ts : Trs} {x : V} {tx : Tr} {lo hi : Option Int} {Q : VK} {Q' : AQ}, Sta K S RH H O ts → Rt K (hid H O) tx x → CtE K S RH (hid H O) Q Q' → ar tx lo hi ts Q' → r x lo hi H Q
class LkO (K : PySem.W.Frag) (S0 RH : Hp) (to : TO) (ao : outParam AO) : Prop where
  run : ∀ {S1 RH1 : Hp}, Wle S0 RH S1 RH1 → ∀ {σ : L2.St} {s : AS} {H : Hp} {O : List Addr} {ts : Trs} {Q : Option Int → Hp → Prop} {Q' : Option Int → Trs → Prop}, Sta K S1 RH1 H O ts → Sl K (hid H O) s σ →
    (∀ o H' O' ts', Sta K S1 RH1 H' O' ts' → Ex (hid H O) (hid H' O') → Q' o ts' → Q o H') → ao s ts Q' → to σ H Q
def aNoPart : AO := fun _ ts Q => Q none ts
def aPart (a : AE) : AO := fun s ts Q => a s ts fun x ts1 => ∃ i, x = .dat (.int i) ∧ Q (some i) ts1
def aSl (r : ASl) (a : AE) (lo hi : AO) : AE := fun s ts Q => a s ts fun x ts1 => lo s ts1 fun l ts2 => hi s ts2 fun h ts3 => r x l h ts3 Q
def rSlLM (K : PySem.W.Frag) := rSlLN K
theorem sl_listM {X : Cx} : SlR X (rSlLM X.K) := sl_listN
def aSlF : ASl := fun x lo hi ts Q => ∃ (xs : Trs) (ds : List PyData), SeqL ts x xs ∧ cutG xs lo hi = ds.map .dat ∧ Q (.dat (.list ds)) ts
def aSlM : ASl := fun x lo hi ts Q => ∃ xs, SeqL ts x xs ∧ ∀ p, Q (.val (.ref p)) (ts ++ [.lst p (cutG xs lo hi)])
def aSlT : ASl := fun x lo hi ts Q => ∃ ds, x = .dat (.tuple ds) ∧ Q (.dat (.tuple (cutG ds lo hi))) ts
def aSlS : ASl := fun x lo hi ts Q => ∃ z : Str, x = .dat (.str z) ∧ z.length ≤ sizeLine ∧ Q (.dat (.str (cutS z lo hi))) ts
def aRevF (a : AE) : AE := fun s ts Q => a s ts fun x ts1 => ∃ (xs : Trs) (ds : List PyData), SeqL ts1 x xs ∧ xs = ds.map .dat ∧ Q (.dat (.list ds.reverse)) ts1

/-! ### repr of data, empty dicts within -/
def rReprR (K : PySem.W.Frag) : List V → Hp → VK → Prop := fun xs H Q => ∃ v d, xs = [v] ∧ Dr K H v d ∧ d.showable = true ∧ d.depth ≤ 60 ∧ d.shown.length ≤ sizeLine ∧ Q (.str d.shown) H
section
variable {X : Cx} {pins : List (Addr × Obj)} {σ : L2.St} {H : Hp} {s : Shared}
theorem sm_list (I : Inv X pins σ H s) (sm : smB X.K = true) {a : Addr} {o : Obj} (h : s.heap.get? a = some o) (c : o.cls = .type "list") : a ≠ sysModules := fun e => by
  obtain ⟨o', h1, h2⟩ := smB_ok sm
  have := I.kIn _ _ h1
  rw [← e, h] at this
  cases this
  rw [c] at h2
  exact absurd h2 (by simp)
mutual
theorem Dr.reads (I : Inv X pins σ H s) (sm : smB X.K = true) : ∀ (d : PyData) (v : V) (u : Value), Dr X.K H v d → RelV v u → ∃ as, Reads s.heap u d as ∧ sysModules ∉ as
  | .none, _, _, h, r => by cases h; cases r; exact ⟨_, .none, by simp⟩
  | .bool b, _, _, h, r => by cases h; cases r; exact ⟨_, .bool _, by simp⟩
  | .int i, _, _, h, r => by cases h; obtain ⟨t, rfl⟩ := r; exact ⟨_, .int _ _, by simp⟩
  | .str x, _, _, h, r => by cases h; obtain ⟨t, rfl⟩ := r; exact ⟨_, .str _ _, by simp⟩
  | .list ds, _, u, h, r => by
    cases h with
    | lst hs ha =>
      obtain rfl : u = Value.ref _ := r
      obtain ⟨its, rv, ⟨o, n, ho, hc, hd, hdat⟩, _⟩ := I.list (.inl hs)
      obtain ⟨as, ra, na⟩ := DrAll.reads I sm ds _ _ ha rv
      refine ⟨_, .list ho hc hdat (by simpa using ra), ?_⟩
      intro z
      rcases List.mem_cons.mp z with z | z
      · exact sm_list I sm ho hc z.symm
      · exact na z
  | .tuple ds, _, u, h, r => by
    cases h with
    | tup hs ha =>
      obtain rfl : u = Value.ref _ := r
      obtain ⟨its, rv, ⟨o, ho, hc, n, hdat⟩, _⟩ := I.tuple hs
      obtain ⟨as, ra, na⟩ := DrAll.reads I sm ds _ _ ha rv
      exact ⟨_, .tuple ho hc hdat (by simpa using ra), na⟩
  | .dict _, _, u, h, r => by
    cases h with
    | dct0 hs =>
      obtain rfl : u = Value.ref _ := r
      obtain ⟨_, ns, vs, hv, o, es, ep, ho, hx, hd, _, he, _⟩ := hs.ok I.hok
      cases hv
      have nil : es.toList = [] := by
        generalize es.toList = l at he
        cases he
        rfl
      refine ⟨_, Reads.dict (kvs := []) ho hx.1 hd (by rw [nil]; exact ReadsAll.nil) (by rw [nil]; exact ReadsAll.nil), fun z => ?_⟩
      simp only [List.append_nil, List.mem_singleton] at z
      rw [← z] at ns
      simp at ns
theorem DrAll.reads (I : Inv X pins σ H s) (sm : smB X.K = true) : ∀ (ds : List PyData) (vs : List V) (us : List Value), DrAll X.K H vs ds → Vals vs us → ∃ as, ReadsAll s.heap us ds as ∧ sysModules ∉ as
  | [], _, _, h, r => by cases h; cases r; exact ⟨_, .nil, by simp⟩
  | d :: ds, _, _, h, r => by
    cases h with
    | cons h1 h2 =>
      cases r with
      | cons r1 r2 =>
        obtain ⟨as, a1, a2⟩ := Dr.reads I sm d _ _ h1 r1
        obtain ⟨bs, b1, b2⟩ := DrAll.reads I sm ds _ _ h2 r2
        exact ⟨_, .cons a1 b1, fun z => (List.mem_append.mp z).elim a2 b2⟩
end
end
theorem call_reprR {X : Cx} {k : Nat} {c : Bool} (hr : Rm c k X.A) (sm : smB X.K = true) : CallR X (.builtin "repr") (rReprR X.K) := by
  intro pins s σ H xs us Q I r h
  obtain ⟨v, d, rfl, hd, hs, hdep, hz, q⟩ := h
  cases r with
  | cons rv rn =>
    cases rn
    have ok : ∀ h' tk, (∀ b o, s.heap.get? b = some o → h'.get? b = some o) → ∀ u, EP X pins σ Q (.str d.shown u) { s with heap := h', toks := tk } := fun h' tk kp u =>
      ⟨.str d.shown, H, I.kept (t' := tk) kp, ⟨u, rfl⟩, q⟩
    have hu : X.A.units + (d.depth + 1) < cLine := by have z := hr.un; omega
    obtain ⟨as, rd, na⟩ := Dr.reads I sm d v _ hd rv
    cases v with
    | ref a =>
      cases rv
      exact repr_of_reads' rd hs (fun _ => na) hr.gd hu (fun _ _ z => z) (fun h' u tk kp => ok h' tk kp u) hz
    | non =>
      cases rv
      cases rd
      exact PySem.P.repr_of_none (ok s.heap _ (fun _ _ z => z) _)
    | bl b =>
      cases rv
      cases rd
      exact PySem.P.repr_of_bool (ok s.heap _ (fun _ _ z => z) _)
    | int i =>
      obtain ⟨t, rfl⟩ := rv
      cases rd
      exact PySem.P.repr_of_int (by simpa [PyData.showable] using hs) (ok s.heap _ (fun _ _ z => z) _)
    | str x =>
      obtain ⟨t, rfl⟩ := rv
      cases rd
      exact PySem.P.repr_of_str (ok s.heap _ (fun _ _ z => z) _) (by simpa [PyData.shown] using hz)
    | byt b => obtain ⟨t, rfl⟩ := rv; cases rd
    | flt b => obtain ⟨t, rfl⟩ := rv; cases rd
    | ty n => cases rv; cases rd
section
variable {X : Cx} {a : Addr} {pn : List (Addr × Obj)} {xe : Value → Shared → Prop} {s : Shared} {H : Hp} {sc : Scope} {env : Env} {fp : List Addr} {k : Nat} {c : Bool}
theorem call_reprRS (hr : Rm c k X.A) (sm : smB X.K = true) : CallR (X.suite a pn) (.builtin "repr") (rReprR X.K) := call_reprR (X := X.suite a pn) (hr.mark _) sm
theorem call_reprRT (hr : Rm c k X.A) (sm : smB X.K = true) : CallR (X.tr pn xe) (.builtin "repr") (rReprR X.K) := call_reprR (X := X.tr pn xe) hr sm
theorem call_reprRB (hr : Rm c k X.A) (sm : smB X.K = true) : CallR (X.blk s H sc env fp) (.builtin "repr") (rReprR X.K) := call_reprR (X := X.blk s H sc env fp) hr sm
end
/-- {} that is only read from now on -/
def tDNewF : TE := tDNewN
theorem pe_dnewF {X : Cx} {pos : Pos} : PE X (.Dict [] [] pos) tDNewF := pe_dnewN
def aDNewF : AE := fun _ ts Q => Q (.dat (.dict [])) ts
def aDNewM : AE := fun _ ts Q => ∀ p, Q (.val (.ref p)) (ts ++ [.dct p []])
instance {K : PySem.W.Frag} {S0 RH : Hp} : LkE K S0 RH tDNewF aDNewF := ⟨fun w σ s H O ts Q Q' st sl ct q => fun p H2 np e hp =>
  ct _ H2 O _ ts (st.grow e) (hid_grow e) (.dat (.dct0 (.inl (hid_at st.lv np hp)))) q⟩
instance {K : PySem.W.Frag} {S0 RH : Hp} : LkE K S0 RH tDNewN aDNewM := ⟨fun w σ s H O ts Q Q' st sl ct q => fun p H2 np e hp => by
  obtain ⟨st2, e2⟩ := st.come (t := .dct p []) (n := .dct p []) np e (by simp [nds, voK, ndsK]) rfl ⟨[], hp, rfl, .nil⟩
  exact ct _ H2 _ _ _ st2 e2 .val (q p)⟩

/-! ### calls of built-ins -/
def rTupOf (K : PySem.W.Frag) : List V → Hp → VK → Prop := fun xs H Q => ∃ p ys, xs = [.ref p] ∧ ((SqL K H p ys ∧ ∀ l, H l = none → Q (.ref l) (upd H l (.tup ys))) ∨ (SqT K H p ys ∧ Q (.ref p) H))
theorem call_tupN {X : Cx} : CallR X (.type "tuple") (rTupOf X.K) := call_tuple_of
def rInt1 : List V → Hp → VK → Prop := fun xs H Q => (∃ i, xs = [.int i] ∧ Q (.int i) H) ∨ ∃ k, xs = [.bl k] ∧ Q (.int (if k then 1 else 0)) H
theorem call_intN {X : Cx} : CallR X (.type "int") rInt1 := call_int1
def rStrI : List V → Hp → VK → Prop := fun xs H Q => ∃ i, xs = [.int i] ∧ i.natAbs.log2 < 1920 ∧ Q (.str (toString i)) H
theorem call_strN {X : Cx} : CallR X (.type "str") rStrI := call_str_int
def rListM (K : PySem.W.Frag) := rListN K
theorem call_listM {X : Cx} : CallR X (.type "list") (rListM X.K) := call_listN
def kinds : List String := ["int", "bool", "str", "tuple", "list"]
def isK (t T : String) : Bool := decide (t = T) || (decide (t = "bool") && decide (T = "int"))
/-- a value's type -/
inductive Kd (ts : Trs) : Tr → String → Prop
  | dat {d : PyData} : Kd ts (.dat d) (tyD d)
  | tup {xs : Trs} : Kd ts (.tup xs) "tuple"
  | lst {p : Addr} {xs : Trs} {c : Tr → Trs} (f : FocL ts (.lst p xs) c) : Kd ts (.val (.ref p)) "list"
  | dct {p : Addr} {xs : List (Key × Tr)} {c : Tr → Trs} (f : FocL ts (.dct p xs) c) : Kd ts (.val (.ref p)) "dict"
def aIsi : AC := fun us ts Q => ∃ x T t, us = [x, .val (.ty T)] ∧ kinds.contains T = true ∧ Kd ts x t ∧ Q (.dat (.bool (isK t T))) ts
theorem kit_kinds {K : PySem.W.Frag} {t T : String} (h : kinds.contains T = true) (ht : t ∈ ["NoneType", "int", "bool", "str", "tuple", "list", "dict"]) : PySem.W.kitOne K (.type t) (.type T) = some (isK t T) := by
  have hT : T ∈ kinds := List.contains_iff_mem.mp h
  simp only [kinds, List.mem_cons, List.not_mem_nil, or_false] at hT ht
  rcases hT with rfl | rfl | rfl | rfl | rfl <;> rcases ht with rfl | rfl | rfl | rfl | rfl | rfl | rfl <;> rfl
def aLen : AC := fun us ts Q => ∃ x, us = [x] ∧ ((∃ xs, (SeqL ts x xs ∨ SeqT ts x xs) ∧ Q (.dat (.int (xs.length : Nat))) ts) ∨ (∃ z : Str, x = .dat (.str z) ∧ z.length ≤ sizeLine ∧ Q (.dat (.int (z.length : Nat))) ts) ∨
  ∃ p kvs c, x = .val (.ref p) ∧ FocL ts (.dct p kvs) c ∧ Q (.dat (.int (kvs.length : Nat))) ts)
def aRepr : AC := fun us ts Q => ∃ x d, us = [x] ∧ DOd ts x d ∧ d.showable = true ∧ d.depth ≤ 60 ∧ d.shown.length ≤ sizeLine ∧ Q (.dat (.str d.shown)) ts
def aInt1 : AC := fun us ts Q => (∃ i, us = [.dat (.int i)] ∧ Q (.dat (.int i)) ts) ∨ ∃ k, us = [.dat (.bool k)] ∧ Q (.dat (.int (if k then 1 else 0))) ts
def aStrI : AC := fun us ts Q => ∃ i : Int, us = [.dat (.int i)] ∧ i.natAbs.log2 < 1920 ∧ Q (.dat (.str (toString i))) ts
def aListF : AC := fun us ts Q => ∃ (x : Tr) (xs : Trs) (ds : List PyData), us = [x] ∧ (SeqL ts x xs ∨ SeqT ts x xs) ∧ xs = ds.map .dat ∧ Q (.dat (.list ds)) ts
def aListM : AC := fun us ts Q => ∃ x xs, us = [x] ∧ (SeqL ts x xs ∨ SeqT ts x xs) ∧ ∀ p, Q (.val (.ref p)) (ts ++ [.lst p xs])
def aTupOf : AC := fun us ts Q => ∃ x, us = [x] ∧ ((∃ xs, SeqL ts x xs ∧ ((∃ ds, xs = ds.map .dat ∧ Q (.dat (.tuple ds)) ts) ∨ Q (.tup xs) ts)) ∨ ((∃ xs, SeqT ts x xs) ∧ Q x ts))
def aAll : AC := fun us ts Q => ∃ bs : List Bool, us = [.dat (.list (bs.map .bool))] ∧ Q (.dat (.bool (bs.all id))) ts
def aSum : AC := fun us ts Q => ∃ ns : List Int, us = [.dat (.list (ns.map .int))] ∧ Q (.dat (.int ns.sum)) ts
def aSorted : AC := fun us ts Q => ∃ x ns, us = [x] ∧ DO ts x (.list (ns.map .int)) ∧ ns.length < 64 ∧ ∀ ms : List Int, ms.Perm ns → ms.Pairwise (· ≤ ·) → Q (.dat (.list (ms.map .int))) ts
section
variable {K : PySem.W.Frag} {S0 RH : Hp} {te : TE} {a : AE}
theorem dra_ints {H : Hp} : ∀ l : List Int, DrAll K H (l.map V.int) (l.map .int)
  | [] => .nil
  | i :: l => .cons (.int i) (dra_ints l)
theorem dra_int {H : Hp} : ∀ {l : List Int} {vs : List V}, DrAll K H vs (l.map .int) → vs = l.map V.int
  | [], _, h => by cases h; rfl
  | i :: l, _, h => by cases h with | cons h r => cases h; rw [dra_int r]; rfl
theorem dra_bls {H : Hp} : ∀ {l : List Bool} {vs : List V}, DrAll K H vs (l.map .bool) → vs = l.map V.bl
  | [], _, h => by cases h; rfl
  | i :: l, _, h => by cases h with | cons h r => cases h; rw [dra_bls r]; rfl
instance : LkR K rCatX aCatX := ⟨fun {S RH H O ts x y tx ty Q Q'} st rx ry ct ⟨xs, ys, ds, h1, h2, e, hl, q⟩ => by
  obtain ⟨p, vs, rfl, r1, t1, n1⟩ := h1.rd st rx
  obtain ⟨p', ws, rfl, r2, t2, n2⟩ := h2.rd st ry
  exact ⟨p, p', vs, ws, rfl, rfl, r1, r2, by rw [← t1.len, ← t2.len]; exact hl, fun l H2 nl ex g => ret_lstF st (t1.app t2) ct nl ex g ⟨ds, e, q⟩⟩⟩
instance : LkR K rCatXM aCatXM := ⟨fun {S RH H O ts x y tx ty Q Q'} st rx ry ct ⟨xs, ys, h1, h2, hl, q⟩ => by
  obtain ⟨p, vs, rfl, r1, t1, n1⟩ := h1.rd st rx
  obtain ⟨p', ws, rfl, r2, t2, n2⟩ := h2.rd st ry
  exact ⟨p, p', vs, ws, rfl, rfl, r1, r2, by rw [← t1.len, ← t2.len]; exact hl, fun l H2 nl ex g => ret_lstM st (t1.app t2) ct nl ex g (by rw [ndsL_app, n1, n2]; rfl) q⟩⟩
instance : LkO K S0 RH tNoPart aNoPart := ⟨fun w σ s H O ts Q Q' st sl ct q => ct _ H O ts st (Ex.refl _) q⟩
instance [ha : LkE K S0 RH te a] : LkO K S0 RH (tPart te) (aPart a) := ⟨fun w σ s H O ts Q Q' st sl ct q =>
  ha.run w st sl (fun x H1 O1 t ts1 st1 e1 r1 ⟨i, et, q1⟩ => by subst et; exact ⟨i, rt_int r1, ct _ H1 O1 ts1 st1 e1 q1⟩) q⟩
instance {r : V → Option Int → Option Int → Hp → VK → Prop} {ar : ASl} {tl th : TO} {al ah : AO} [ha : LkE K S0 RH te a] [hl : LkO K S0 RH tl al] [hh : LkO K S0 RH th ah] [hr : LkSl K r ar] : LkE K S0 RH (tSl r te tl th) (aSl ar a al ah) := ⟨fun w σ s H O ts Q Q' st sl ct q =>
  ha.run w st sl (fun x H1 O1 tx ts1 st1 e1 rx q1 => hl.run w st1 (sl.ex e1) (fun l H2 O2 ts2 st2 e2 q2 => hh.run w st2 ((sl.ex e1).ex e2) (fun h H3 O3 ts3 st3 e3 q3 =>
    hr.run st3 (rx.ex (e2.trans e3)) (fun v H4 O4 t ts4 st4 e4 rt q4 => ct v H4 O4 t ts4 st4 (((e1.trans e2).trans e3).trans e4) rt q4) q3) q2) q1) q⟩
instance : LkSl K (rSlLN K) aSlF := ⟨fun st rx ct ⟨xs, ds, h, e, q⟩ => by
  obtain ⟨p, vs, rfl, hs, r⟩ := h.sq st rx
  exact ⟨p, vs, rfl, hs, fun l H2 nl ex g => ret_lstF st (cutG_rt r _ _) ct nl ex g ⟨ds, e, q⟩⟩⟩
instance : LkSl K (rSlLM K) aSlM := ⟨fun st rx ct ⟨xs, h, q⟩ => by
  obtain ⟨p, vs, rfl, hs, r⟩ := h.sq st rx
  exact ⟨p, vs, rfl, hs, fun l H2 nl ex g => ret_lstM st (cutG_rt r _ _) ct nl ex g (cutG_nn h.nn _ _) q⟩⟩
instance : LkSl K (rSlA K) aSlT := ⟨fun {S RH H O ts x tx lo hi Q Q'} st rx ct ⟨ds, ex, q⟩ => by
  subst ex
  cases rx with | dat rx => cases rx with | tup hs ha =>
    rename_i a xs
    have cut : DrAll K (hid H O) (cutV xs lo hi) (cutG ds lo hi) := by
      have := cutG_rt (RtL.dats ha) lo hi
      rw [cutG_map] at this
      exact this.undats
    refine ⟨a, xs, rfl, ex_t hid_ex hs, fun ⟨z1, z2⟩ => ?_, fun _ p np => ?_⟩
    · refine ct _ H O _ ts st (Ex.refl _) (.dat (.tup hs ?_)) q
      have e : cutV xs lo hi = xs := by
        unfold cutV
        rw [z1, z2, List.drop_zero, Nat.sub_zero, List.take_length]
      rw [e] at cut
      exact cut
    · have e1 : Ex H (upd H p (.tup (cutV xs lo hi))) := Ex.new np
      exact ct _ _ O _ ts (st.grow e1) (hid_grow e1) (.dat (.tup (st_of (hid_at st.lv np upd_same)) (cut.ex (hid_grow e1)))) q⟩
instance : LkSl K rSlS aSlS := ⟨fun st rx ct ⟨z, ex, hz, q⟩ => by
  subst ex
  exact ⟨z, rt_str rx, hz, ct _ _ _ _ _ st (Ex.refl _) (.dat (.str _)) q⟩⟩
theorem RtL.reverse {S : Hp} : ∀ {xs : Trs} {vs : List V}, RtL K S xs vs → RtL K S xs.reverse vs.reverse
  | [], _, .nil => .nil
  | _ :: _, _, .cons h r => by rw [List.reverse_cons, List.reverse_cons]; exact (RtL.reverse r).app (.cons h .nil)
instance [ha : LkE K S0 RH te a] : LkE K S0 RH (tRevL K te) (aRevF a) := ⟨fun w σ s H O ts Q Q' st sl ct q =>
  ha.run w st sl (fun x H1 O1 tx ts1 st1 e1 rx ⟨xs, ds, h, ed, q1⟩ => by
    obtain ⟨p, vs, rfl, hs, r⟩ := h.sq st1 rx
    refine ⟨p, vs, rfl, hs, fun l nl => ret_lstF st1 r.reverse (fun v H3 O3 t ts3 st3 e3 rt q3 => ct v H3 O3 t ts3 st3 (e1.trans e3) rt q3) nl (Ex.new nl) upd_same ⟨ds.reverse, ?_, q1⟩⟩
    rw [ed, List.map_reverse]) q⟩
instance : LkC K (rLenU K) aLen := ⟨fun {S RH H O ts xs us Q Q'} st r ct ⟨x, eu, q⟩ => by
  subst eu
  obtain ⟨v, rfl, rv⟩ := rtl1 r
  rcases q with ⟨xs, h, q⟩ | ⟨z, ez, hz, q⟩ | ⟨p, kvs, c, ep, f, q⟩
  · rcases h with h | h
    · obtain ⟨p, vs, rfl, hs, rr⟩ := h.sq st rv
      exact .inl ⟨_, _, rfl, .inl ⟨vs, hs, rfl⟩, by rw [← rr.len]; exact ct _ _ _ _ _ st (Ex.refl _) (.dat (.int _)) q⟩
    · obtain ⟨p, vs, rfl, hs, rr⟩ := h.sq rv
      exact .inl ⟨_, _, rfl, .inr ⟨vs, ex_t hid_ex hs, rfl⟩, by rw [← rr.len]; exact ct _ _ _ _ _ st (Ex.refl _) (.dat (.int _)) q⟩
  · subst ez
    obtain rfl := rt_str rv
    exact .inl ⟨_, _, rfl, ⟨hz, rfl⟩, ct _ _ _ _ _ st (Ex.refl _) (.dat (.int _)) q⟩
  · subst ep
    obtain rfl := rt_val rv
    obtain ⟨ps, h1, h2, _⟩ := st.dct f
    have hl : ps.length = kvs.length := by simpa using congrArg List.length h2
    exact .inr ⟨_, _, rfl, h1, by rw [hl]; exact ct _ _ _ _ _ st (Ex.refl _) (.dat (.int _)) q⟩⟩
theorem Kd.ty {S RH H : Hp} {O : List Addr} {ts : Trs} (st : Sta K S RH H O ts) {t : Tr} {n : String} {v : V} (h : Kd ts t n) (r : Rt K (hid H O) t v) : TyX K H v (.type n) ∧ n ∈ ["NoneType", "int", "bool", "str", "tuple", "list", "dict"] := by
  cases h with
  | dat =>
    cases r with
    | dat r =>
      have d := r.ex hid_ex
      cases d with
      | dct0 hd =>
        refine ⟨?_, by simp [tyD]⟩
        rcases hd with hd | ⟨o, hd⟩
        · exact .base (.dK hd)
        · exact .fDict hd
      | lst hs ha =>
        refine ⟨?_, by simp [tyD]⟩
        rcases hs with hs | ⟨o, hs⟩
        · exact .base (.lst hs)
        · exact .base (.frz hs)
      | tup hs ha =>
        refine ⟨?_, by simp [tyD]⟩
        rcases hs with (hs | ⟨o, hs⟩) | ⟨o, its, n, hk, hc, _⟩
        · exact .base (.tup hs)
        · exact .fTuple hs
        · exact .kTuple hk hc
      | non => exact ⟨.base .non, by simp [tyD]⟩
      | bl b => exact ⟨.base (.bl b), by simp [tyD]⟩
      | int i => exact ⟨.base (.int i), by simp [tyD]⟩
      | str x => exact ⟨.base (.str x), by simp [tyD]⟩
  | tup => cases r with
    | tup hs r =>
      refine ⟨?_, by simp⟩
      rcases ex_t hid_ex hs with (hs | ⟨o, hs⟩) | ⟨o, its, n, hk, hc, _⟩
      · exact .base (.tup hs)
      · exact .fTuple hs
      · exact .kTuple hk hc
  | lst f =>
    obtain rfl := rt_val r
    obtain ⟨vs, h1, _⟩ := st.lst f
    exact ⟨.base (.lst h1), by simp⟩
  | dct f =>
    obtain rfl := rt_val r
    obtain ⟨ps, h1, _⟩ := st.dct f
    exact ⟨.base (.dK h1), by simp⟩
instance : LkC K (rIsi K) aIsi := ⟨fun {S RH H O ts xs us Q Q'} st r ct ⟨x, T, t, eu, hT, hk, q⟩ => by
  subst eu
  obtain ⟨v, w, rfl, rv, rw'⟩ := rtl2 r
  obtain rfl := rt_val rw'
  obtain ⟨ht, hm⟩ := hk.ty st rv
  exact ⟨v, .ty T, _, _, _, rfl, .ty T, ht, kit_kinds hT hm, ct _ _ _ _ _ st (Ex.refl _) (.dat (.bl _)) q⟩⟩
instance : LkC K (rReprR K) aRepr := ⟨fun {S RH H O ts xs us Q Q'} st r ct ⟨x, d, eu, hd, h1, h2, h3, q⟩ => by
  subst eu
  obtain ⟨v, rfl, rv⟩ := rtl1 r
  exact ⟨v, d, rfl, hd.dr st rv, h1, h2, h3, ct _ _ _ _ _ st (Ex.refl _) (.dat (.str _)) q⟩⟩
instance : LkC K rInt1 aInt1 := ⟨fun {S RH H O ts xs us Q Q'} st r ct q => by
  rcases q with ⟨i, eu, q⟩ | ⟨k, eu, q⟩ <;> subst eu <;> obtain ⟨v, rfl, rv⟩ := rtl1 r
  · exact .inl ⟨i, by rw [rt_int rv], ct _ _ _ _ _ st (Ex.refl _) (.dat (.int _)) q⟩
  · exact .inr ⟨k, by rw [rt_bool rv], ct _ _ _ _ _ st (Ex.refl _) (.dat (.int _)) q⟩⟩
instance : LkC K rStrI aStrI := ⟨fun {S RH H O ts xs us Q Q'} st r ct ⟨i, eu, h, q⟩ => by
  subst eu
  obtain ⟨v, rfl, rv⟩ := rtl1 r
  exact ⟨i, by rw [rt_int rv], h, ct _ _ _ _ _ st (Ex.refl _) (.dat (.str _)) q⟩⟩
instance : LkC K (rListN K) aListF := ⟨fun {S RH H O ts xs us Q Q'} st r ct ⟨x, xs, ds, eu, h, e, q⟩ => by
  subst eu
  obtain ⟨v, rfl, rv⟩ := rtl1 r
  rcases h with h | h
  · obtain ⟨p, vs, rfl, hs, rr⟩ := h.sq st rv
    exact ⟨p, vs, rfl, .inl hs, fun l H2 nl ex g => ret_lstF st rr ct nl ex g ⟨ds, e, q⟩⟩
  · obtain ⟨p, vs, rfl, hs, rr⟩ := h.sq rv
    exact ⟨p, vs, rfl, .inr (ex_t hid_ex hs), fun l H2 nl ex g => ret_lstF st rr ct nl ex g ⟨ds, e, q⟩⟩⟩
instance : LkC K (rListM K) aListM := ⟨fun {S RH H O ts xs us Q Q'} st r ct ⟨x, xs, eu, h, q⟩ => by
  subst eu
  obtain ⟨v, rfl, rv⟩ := rtl1 r
  rcases h with h | h
  · obtain ⟨p, vs, rfl, hs, rr⟩ := h.sq st rv
    exact ⟨p, vs, rfl, .inl hs, fun l H2 nl ex g => ret_lstM st rr ct nl ex g h.nn q⟩
  · obtain ⟨p, vs, rfl, hs, rr⟩ := h.sq rv
    exact ⟨p, vs, rfl, .inr (ex_t hid_ex hs), fun l H2 nl ex g => ret_lstM st rr ct nl ex g h.nn q⟩⟩
instance : LkC K (rTupOf K) aTupOf := ⟨fun {S RH H O ts xs us Q Q'} st r ct ⟨x, eu, q⟩ => by
  subst eu
  obtain ⟨v, rfl, rv⟩ := rtl1 r
  rcases q with ⟨xs, h, q⟩ | ⟨⟨xs, h⟩, q⟩
  · obtain ⟨p, vs, rfl, hs, rr⟩ := h.sq st rv
    exact ⟨p, vs, rfl, .inl ⟨hs, fun l nl => ret_tup st rr ct nl (Ex.new nl) upd_same q⟩⟩
  · obtain ⟨p, vs, rfl, hs, rr⟩ := h.sq rv
    exact ⟨p, vs, rfl, .inr ⟨ex_t hid_ex hs, ct _ _ _ _ _ st (Ex.refl _) rv q⟩⟩⟩
instance : LkC K (rAll K) aAll := ⟨fun {S RH H O ts xs us Q Q'} st r ct ⟨bs, eu, q⟩ => by
  subst eu
  obtain ⟨v, rfl, rv⟩ := rtl1 r
  cases rv with | dat rv => cases rv with | lst hs ha =>
    have e := dra_bls ha
    subst e
    exact ⟨_, bs, rfl, ex_l hid_ex (.inl hs), ct _ _ _ _ _ st (Ex.refl _) (.dat (.bl _)) q⟩⟩
instance : LkC K (rSum K) aSum := ⟨fun {S RH H O ts xs us Q Q'} st r ct ⟨ns, eu, q⟩ => by
  subst eu
  obtain ⟨v, rfl, rv⟩ := rtl1 r
  cases rv with | dat rv => cases rv with | lst hs ha =>
    have e := dra_int ha
    subst e
    exact ⟨_, ns, rfl, ex_l hid_ex (.inl hs), ct _ _ _ _ _ st (Ex.refl _) (.dat (.int _)) q⟩⟩
instance : LkC K (rSorted K) aSorted := ⟨fun {S RH H O ts xs us Q Q'} st r ct ⟨x, ns, eu, hd, hl, q⟩ => by
  subst eu
  obtain ⟨v, rfl, rv⟩ := rtl1 r
  have nd : ∀ l : List Int, PyData.hasDictAll (l.map .int) = false := fun l => by
    induction l with
    | nil => simp [PyData.hasDictAll]
    | cons i l ih => simp [PyData.hasDictAll, PyData.hasDict, ih]
  have d := hd.dp st rv (by simp only [PyData.hasDict]; exact nd ns)
  cases d with
  | lst hs ha =>
    have e := da_ints ha
    subst e
    refine ⟨_, ns, rfl, hs, hl, fun ms p hp ha np => ?_⟩
    exact ret_lstF st (us := ms.map fun i => .dat (.int i)) (rtl_ints ms) ct np (Ex.new np) upd_same ⟨ms.map .int, by rw [List.map_map]; rfl, q ms hp ha⟩⟩
end

/-! ### methods of lists -/
abbrev AM := Tr → Trs → Trs → AQ → Prop
class LkM (K : PySem.W.Frag) (T : String) (r : V → List V → Hp → VK → Prop) (ty : outParam (Tr → Trs → Prop)) (am : outParam AM) : Prop where
  ty : ∀ {S RH H : Hp} {O : List Addr} {ts : Trs} {x : V} {tx : Tr}, Sta K S RH H O ts → Rt K (hid H O) tx x → ty tx ts → tyV K T x H
  run : ∀ {S RH H : Hp} {O : List Addr} {ts : Trs} {x : V} {tx : Tr} {xs : List V} {us : Trs} {Q : VK} {Q' : AQ}, Sta K S RH H O ts → Rt K (hid H O) tx x → RtL K (hid H O) us xs → CtE K S RH (hid H O) Q Q' → am tx us ts Q' → r x xs H Q
def aBM (ty : Tr → Trs → Prop) (am : AM) (a : AE) (b : AA) : AE := fun s ts Q => a s ts fun x ts1 => ty x ts1 ∧ b s ts1 fun us ts2 => am x us ts2 Q
def IsL (t : Tr) (ts : Trs) : Prop := ∃ xs, SeqL ts t xs
def aAppend : AM := fun x us ts Q => ∃ p xs c u, x = .val (.ref p) ∧ us = [u] ∧ FocL ts (.lst p xs) c ∧ nds u = [] ∧ xs.length < 100000 ∧ Q (.dat .none) (c (.lst p (xs ++ [u])))
def aExtend : AM := fun x us ts Q => ∃ p xs c u ys, x = .val (.ref p) ∧ us = [u] ∧ FocL ts (.lst p xs) c ∧ SeqR ts u ys ∧ xs.length + ys.length ≤ 100000 ∧ Q (.dat .none) (c (.lst p (xs ++ ys)))
def aClear : AM := fun x us ts Q => ∃ p xs c, x = .val (.ref p) ∧ us = [] ∧ FocL ts (.lst p xs) c ∧ Q (.dat .none) (c (.lst p []))
def aCountF : AM := fun x us ts Q => ∃ xs u, us = [u] ∧ SeqL ts x xs ∧ flatT u = true ∧ xs.all flatT = true ∧ Q (.dat (.int ((xs.countP fun z => L2.eqV (trI z) (trI u)) : Nat))) ts
section
variable {K : PySem.W.Frag} {S0 RH : Hp} {T : String} {r : V → List V → Hp → VK → Prop} {ty : Tr → Trs → Prop} {am : AM} {to : TE} {a : AE} {ta : TA} {b : AA}
instance [hm : LkM K T r ty am] [ha : LkE K S0 RH to a] [hb : LkA K S0 RH ta b] : LkE K S0 RH (tBM K T r to ta) (aBM ty am a b) := ⟨fun w σ s H O ts Q Q' st sl ct q =>
  ha.run w st sl (fun x H1 O1 tx ts1 st1 e1 rx ⟨hty, q1⟩ => ⟨hm.ty st1 rx hty, hb.run w st1 (sl.ex e1) (fun vs H2 O2 us ts2 st2 e2 r2 q2 =>
    hm.run st2 (rx.ex e2) r2 (fun v H3 O3 t ts3 st3 e3 rt q3 => ct v H3 O3 t ts3 st3 ((e1.trans e2).trans e3) rt q3) q2) q1⟩) q⟩
instance [hm : LkM K T r ty am] [ha : LkE K S0 RH to a] : LkE K S0 RH (tBM0 K T r to) (aBM ty am a aNil) := ⟨fun w σ s H O ts Q Q' st sl ct q =>
  ha.run w st sl (fun x H1 O1 tx ts1 st1 e1 rx ⟨hty, q1⟩ => ⟨hm.ty st1 rx hty, 
    hm.run st1 rx .nil (fun v H3 O3 t ts3 st3 e3 rt q3 => ct v H3 O3 t ts3 st3 (e1.trans e3) rt q3) q1⟩) q⟩
theorem isL_ty {S RH H : Hp} {O : List Addr} {ts : Trs} {x : V} {tx : Tr} (st : Sta K S RH H O ts) (rx : Rt K (hid H O) tx x) (h : IsL tx ts) : tyV K "list" x H := by
  obtain ⟨xs, h⟩ := h
  obtain ⟨p, vs, rfl, hs, _⟩ := h.sq st rx
  exact .inl ⟨rfl, vs, hs⟩
theorem FocL.inO {S RH H : Hp} {O : List Addr} {ts : Trs} {p : Addr} {xs : Trs} {c : Tr → Trs} (st : Sta K S RH H O ts) (f : FocL ts (.lst p xs) c) : p ∈ O := st.io _ (f.sees (.lst p (voL xs)) (by rw [nds]; exact List.mem_cons_self))
instance : LkM K "list" rAppend IsL aAppend := ⟨isL_ty, fun {S RH H O ts x tx xs us Q Q'} st rx r ct ⟨p, zs, c, u, ex, eu, f, nu, hl, q⟩ => by
  subst ex eu
  obtain rfl := rt_val rx
  obtain ⟨v, rfl, rv⟩ := rtl1 r
  obtain ⟨vs, h1, rr⟩ := st.lst f
  have hp := f.inO st
  have st' := st.setLst f (ys := zs ++ [u]) (vs := vs ++ [v]) (by rw [ndsL_app]; simp [ndsL, nu]) (rr.app (.cons rv .nil))
  exact ⟨p, vs, v, rfl, rfl, h1, by rw [← rr.len]; exact sz_lt hl, ct _ _ O _ _ st' (by rw [hid_upd hp]; exact Ex.refl _) (.dat .non) q⟩⟩
instance : LkM K "list" rExtX IsL aExtend := ⟨isL_ty, fun {S RH H O ts x tx xs us Q Q'} st rx r ct ⟨p, zs, c, u, ys, ex, eu, f, hs, hl, q⟩ => by
  subst ex eu
  obtain rfl := rt_val rx
  obtain ⟨v, rfl, rv⟩ := rtl1 r
  obtain ⟨vs, h1, rr⟩ := st.lst f
  obtain ⟨p', ws, rfl, r2, t2, n2⟩ := hs.rd st rv
  have hp := f.inO st
  have st' := st.setLst f (ys := zs ++ ys) (vs := vs ++ ws) (by rw [ndsL_app, n2, List.append_nil]; exact List.Sublist.refl _) (rr.app t2)
  exact ⟨p, p', vs, ws, rfl, rfl, h1, r2, by rw [← rr.len, ← t2.len]; exact hl, ct _ _ O _ _ st' (by rw [hid_upd hp]; exact Ex.refl _) (.dat .non) q⟩⟩
instance : LkM K "list" rClear IsL aClear := ⟨isL_ty, fun {S RH H O ts x tx xs us Q Q'} st rx r ct ⟨p, zs, c, ex, eu, f, q⟩ => by
  subst ex eu
  obtain rfl := rt_val rx
  cases r
  obtain ⟨vs, h1, rr⟩ := st.lst f
  have hp := f.inO st
  have st' := st.setLst f (ys := []) (vs := []) (List.nil_sublist _) .nil
  exact ⟨p, vs, rfl, rfl, h1, ct _ _ O _ _ st' (by rw [hid_upd hp]; exact Ex.refl _) (.dat .non) q⟩⟩
instance : LkM K "list" (rCntF K) IsL aCountF := ⟨isL_ty, fun {S RH H O ts x tx xs us Q Q'} st rx r ct ⟨zs, u, eu, h, f1, f2, q⟩ => by
  subst eu
  obtain ⟨v, rfl, rv⟩ := rtl1 r
  obtain ⟨p, vs, rfl, hs, rr⟩ := h.sq st rx
  obtain ⟨ev, fv⟩ := flat_all f2 rr
  have fx := flat_all (xs := [u]) (by simp [f1]) (.cons rv .nil)
  have e1 := flat_rt f1 rv
  refine ⟨p, v, vs, rfl, rfl, hs, by simpa using fx.2, fv, ?_⟩
  rw [ev, e1, List.countP_map]
  exact ct _ _ _ _ _ st (Ex.refl _) (.dat (.int _)) q⟩
end
end GL

namespace GL
open PySem PySem.Spec PyProof.Rows L2 Evl

/-! ## raising -/
def tRaiseK (t : L2.St → Hp → XK → Prop) (W : WX) : TS := fun _ σ H => t σ H fun cls d H' => W cls d σ H'
theorem ps_raiseK {X : Cx} {W : WX} {e : Expr} {t : L2.St → Hp → XK → Prop} {pos : Pos} (hc : X.calm = true) (tk : Takes X W) (he : PMk X e t) : PS X (.Raise (some e) none pos) (tRaiseK t W) := ps_raise hc tk he
abbrev AP := AS → Trs → AZ → Prop
class LkP (K : PySem.W.Frag) (S0 RH : Hp) (t : L2.St → Hp → XK → Prop) (ap : outParam AP) : Prop where
  run : ∀ {S1 RH1 : Hp}, Wle S0 RH S1 RH1 → ∀ {σ : L2.St} {s : AS} {H : Hp} {O : List Addr} {ts : Trs} {Q : XK} {Q' : AZ}, Sta K S1 RH1 H O ts → Sl K (hid H O) s σ →
    (∀ x fs d H' O' ts', Sta K S1 RH1 H' O' ts' → Ex (hid H O) (hid H' O') → Xr K (hid H' O') x fs d → Q' x fs ts' → Q (.ref (He.ga K x)) (some d) H') → ap s ts Q' → t σ H Q
def aRaise (p : AP) (aw : AW) : AX := fun _ s ts => p s ts fun x fs ts1 => aw x fs s ts1
def aXk1 (x f t : Str) (a : AA) : AP := fun s ts Q => a s ts fun us ts1 => ∃ u, us = [u] ∧ Q x [(f, u), ("why", .dat (.str t))] ts1
def aXk2 (x f g t : Str) (a : AA) : AP := fun s ts Q => a s ts fun us ts1 => ∃ u v, us = [u, v] ∧ Q x [(g, v), (f, u), ("why", .dat (.str t))] ts1
def aXkW (x : Str) (a : AA) : AP := fun s ts Q => a s ts fun us ts1 => ∃ u, us = [u] ∧ Q x [("why", u)] ts1
def aXkW0 (x t : Str) : AP := fun s ts Q => Q x [("why", .dat (.str t))] ts
section
variable {K : PySem.W.Frag} {S0 RH : Hp} {ta : TA} {a : AA}
theorem xr_new {S RH1 H : Hp} {O : List Addr} {ts : Trs} {d : Addr} {gs : List (Str × V)} {x : Str} {fs : List (Str × Tr)} (st : Sta K S RH1 H O ts) (nd : H d = none) (e : gs.map (·.1) = fs.map (·.1)) (r : RtL K (hid H O) (fs.map (·.2)) (gs.map (·.2))) :
    Sta K S RH1 (upd H d (.xd gs)) O ts ∧ Ex (hid H O) (hid (upd H d (.xd gs)) O) ∧ Xr K (hid (upd H d (.xd gs)) O) x fs d := by
  have ex : Ex H (upd H d (.xd gs)) := Ex.new nd
  exact ⟨st.grow ex, hid_grow ex, gs, hid_at st.lv nd upd_same, e, r.ex (hid_grow ex)⟩
instance {x f t : Str} [ha : LkA K S0 RH ta a] : LkP K S0 RH (xMk (He.ga K x) (mk1 f t) ta) (aXk1 x f t a) := ⟨fun w σ s H O ts Q Q' st sl ct q =>
  ha.run w st sl (fun vs H1 O1 us ts1 st1 e1 r1 ⟨u, eu, q1⟩ => by
    subst eu
    obtain ⟨v, rfl, rv⟩ := rtl1 r1
    refine ⟨by simp, _, rfl, fun d nd => ?_⟩
    obtain ⟨a1, a2, a3⟩ := xr_new (x := x) (fs := [(f, u), ("why", .dat (.str t))]) (gs := [(f, v), ("why", .str t)]) st1 nd rfl (.cons rv (.cons (.dat (.str t)) .nil))
    exact ct _ _ d _ O1 ts1 a1 (e1.trans a2) a3 q1) q⟩
instance {x f g t : Str} [ha : LkA K S0 RH ta a] : LkP K S0 RH (xMk (He.ga K x) (mk2 f g t) ta) (aXk2 x f g t a) := ⟨fun w σ s H O ts Q Q' st sl ct q =>
  ha.run w st sl (fun vs H1 O1 us ts1 st1 e1 r1 ⟨u, v, eu, q1⟩ => by
    subst eu
    obtain ⟨y, z, rfl, ry, rz⟩ := rtl2 r1
    refine ⟨by simp, _, rfl, fun d nd => ?_⟩
    obtain ⟨a1, a2, a3⟩ := xr_new (x := x) (fs := [(g, v), (f, u), ("why", .dat (.str t))]) (gs := [(g, z), (f, y), ("why", .str t)]) st1 nd rfl (.cons rz (.cons ry (.cons (.dat (.str t)) .nil)))
    exact ct _ _ d _ O1 ts1 a1 (e1.trans a2) a3 q1) q⟩
instance {x : Str} [ha : LkA K S0 RH ta a] : LkP K S0 RH (xMk (He.ga K x) mkW ta) (aXkW x a) := ⟨fun w σ s H O ts Q Q' st sl ct q =>
  ha.run w st sl (fun vs H1 O1 us ts1 st1 e1 r1 ⟨u, eu, q1⟩ => by
    subst eu
    obtain ⟨v, rfl, rv⟩ := rtl1 r1
    refine ⟨by simp, _, rfl, fun d nd => ?_⟩
    obtain ⟨a1, a2, a3⟩ := xr_new (x := x) (fs := [("why", u)]) (gs := [("why", v)]) st1 nd rfl (.cons rv .nil)
    exact ct _ _ d _ O1 ts1 a1 (e1.trans a2) a3 q1) q⟩
instance {x t : Str} : LkP K S0 RH (xMk (He.ga K x) (mkW0 t) tNil) (aXkW0 x t) := ⟨fun w σ s H O ts Q Q' st sl ct q => by
    refine ⟨by simp, _, rfl, fun d nd => ?_⟩
    obtain ⟨a1, a2, a3⟩ := xr_new (x := x) (fs := [("why", .dat (.str t))]) (gs := [("why", .str t)]) st nd rfl (.cons (.dat (.str t)) .nil)
    exact ct _ _ d _ O ts a1 a2 a3 q⟩
instance {t : L2.St → Hp → XK → Prop} {W : WX} {ap : AP} {aw : AW} [hp : LkP K S0 RH t ap] [hW : LkW K S0 RH W aw] : LkX K S0 RH (tRaiseK t W) (aRaise ap aw) := ⟨fun w σ s H O ts D D' st sl d q =>
  hp.run w st sl (fun x fs dd H1 O1 ts1 st1 e1 xr q1 => hW.run (st1.wle w) (sl.ex e1) xr q1) q⟩
instance : LkW K S0 RH (fun _ _ _ _ => False) (fun _ _ _ _ => False) := ⟨fun _ _ _ q => q⟩
end

/-! ### try -/
def tTryK (K : PySem.W.Frag) (Wout : WX) (tb : WX → TS) (l : List (Value × Option Nat × SuT)) : TS := fun D σ H => tb (wCl K Wout D l) D σ H
theorem gs_tryK {X : Cx} {body : List Stmt} {h0 : ExceptHandler} {hs : List ExceptHandler} {l : List (Value × Option Nat × SuT)} {pos : Pos} {tb : WX → TS} {Wout : WX} (hst : X.stack = X.env :: X.outer) (hf : X.env.frame = some X.env.locals) (tk : Takes X Wout)
    (hb : ∀ (W : WX) (pn : List (Addr × Obj)) (xe : Value → Shared → Prop), Takes (X.tr pn xe) W → PassesOwn (model X.prog X.w) X.A X.env xe → PSs (X.tr pn xe) body (tb W))
    (hh : ClOk X (h0 :: hs) l) : PS X (.Try body (h0 :: hs) [] [] pos) (tTryK X.K Wout tb l) := gs_try hst hf tk hb hh
class XrC (K : PySem.W.Frag) (S : Hp) (x : Str) (fs : outParam (List (Str × Tr))) (d : Addr) : Prop where
  xr : Xr K S x fs d
/-- an error that is handled, a way of handling -/
structure XZ (K : PySem.W.Frag) where
  S : Hp
  RH : Hp
  x : Str
  fs : List (Str × Tr)
  d : Addr
  xr : Xr K S x fs d
structure WZ (K : PySem.W.Frag) where
  S : Hp
  RH : Hp
  W : WX
  aw : AW
  lk : LkW K S RH W aw
instance {K : PySem.W.Frag} (Z : XZ K) : XrC K Z.S Z.x Z.fs Z.d := ⟨Z.xr⟩
instance {K : PySem.W.Frag} (Z : WZ K) : LkW K Z.S Z.RH Z.W Z.aw := Z.lk
abbrev ASu (K : PySem.W.Frag) := Addr → XZ K → AX
def Exm (K : PySem.W.Frag) (x y : Str) (b : Bool) : Prop := PySem.W.exmOne K (.ref (He.ga K x)) (.ref (He.ga K y)) = some b
def aClW (K : PySem.W.Frag) (awo : AW) (D : AD) : List (Str × Option Nat × ASu K) → AW
  | [] => awo
  | (y, none, su) :: r => fun x fs s ts => ∃ b, Exm K x y b ∧ (b = true → ∀ a (Z : XZ K), Z.x = x → Z.fs = fs → su a Z D s ts) ∧ (b = false → aClW K awo D r x fs s ts)
  | (y, some i, su) :: r => fun x fs s ts => ∃ b, Exm K x y b ∧ (b = true → ∀ a (Z : XZ K), Z.x = x → Z.fs = fs → su a Z { nx := fun s ts => D.nx (s.set i none) ts, rt := D.rt, bk := fun s ts => D.bk (s.set i none) ts, ct := fun s ts => D.ct (s.set i none) ts } (s.set i (some (.val (.ref a)))) ts) ∧
      (b = false → aClW K awo D r x fs s ts)
def aTry (K : PySem.W.Frag) (awo : AW) (ab : WZ K → AX) (l : List (Str × Option Nat × ASu K)) : AX := fun D s ts => ∀ Z : WZ K, Z.aw = aClW K awo D l → ab Z D s ts
class LkCl (K : PySem.W.Frag) (l : List (Value × Option Nat × SuT)) (al : outParam (List (Str × Option Nat × ASu K))) : Prop where
  run : ∀ {S RH : Hp} {D : Ends} {D' : AD} {Wout : WX} {awo : AW}, DOk K S RH D D' → LkW K S RH Wout awo → LkW K S RH (wCl K Wout D l) (aClW K awo D' al)
section
variable {K : PySem.W.Frag}
theorem Xr.up {S S' : Hp} {x : Str} {fs : List (Str × Tr)} {d : Addr} (h : Xr K S x fs d) (e : Ex S S') : Xr K S' x fs d := by
  obtain ⟨gs, a, b, c⟩ := h
  exact ⟨gs, e _ _ a, b, c.ex e⟩
instance : LkCl K [] [] := ⟨fun d w => w⟩
instance {y : Str} {ts : SuT} {su : ASu K} {r : List (Value × Option Nat × SuT)} {ar : List (Str × Option Nat × ASu K)}
    [hs : ∀ (a : Addr) (Z : XZ K), LkX K Z.S Z.RH (ts a (.ref (He.ga K Z.x)) (some Z.d)) (su a Z)] [hr : LkCl K r ar] :
    LkCl K ((.ref (He.ga K y), none, ts) :: r) ((y, none, su) :: ar) := ⟨fun {S RH D D' Wout awo} d w => ⟨fun {σ s H O us x fs dd} st sl xr ⟨b, hb, h1, h2⟩ => ⟨b, hb, fun e a _ =>
  (hs a ⟨hid H O, RH, x, fs, dd, xr⟩).run ⟨Ex.refl _, Ex.refl _⟩ st.here sl (d.up st.ex) (h1 e a ⟨hid H O, RH, x, fs, dd, xr⟩ rfl rfl), fun e => (hr.run d w).run st sl xr (h2 e)⟩⟩⟩
instance {y : Str} {i : Nat} {ts : SuT} {su : ASu K} {r : List (Value × Option Nat × SuT)} {ar : List (Str × Option Nat × ASu K)}
    [hs : ∀ (a : Addr) (Z : XZ K), LkX K Z.S Z.RH (ts a (.ref (He.ga K Z.x)) (some Z.d)) (su a Z)] [hr : LkCl K r ar] :
    LkCl K ((.ref (He.ga K y), some i, ts) :: r) ((y, some i, su) :: ar) := ⟨fun {S RH D D' Wout awo} d w => ⟨fun {σ s H O us x fs dd} st sl xr ⟨b, hb, h1, h2⟩ => ⟨b, hb, fun e a _ => by
  have d' := d.up st.ex
  refine (hs a ⟨hid H O, RH, x, fs, dd, xr⟩).run (D' := { nx := fun s ts => D'.nx (s.set i none) ts, rt := D'.rt, bk := fun s ts => D'.bk (s.set i none) ts, ct := fun s ts => D'.ct (s.set i none) ts }) ⟨Ex.refl _, Ex.refl _⟩ st.here (sl.set .val i) ?_ (h1 e a ⟨hid H O, RH, x, fs, dd, xr⟩ rfl rfl)
  exact ⟨fun _ _ _ _ _ st sl q => d'.nx _ _ _ _ _ st (sl.unset i) q, d'.rt, fun _ _ _ _ _ st sl q => d'.bk _ _ _ _ _ st (sl.unset i) q, fun _ _ _ _ _ st sl q => d'.ct _ _ _ _ _ st (sl.unset i) q⟩, fun e => (hr.run d w).run st sl xr (h2 e)⟩⟩⟩
instance {S0 RH : Hp} {Wout : WX} {awo : AW} {tb : WX → TS} {ab : WZ K → AX} {l : List (Value × Option Nat × SuT)} {al : List (Str × Option Nat × ASu K)} [hW : LkW K S0 RH Wout awo] [hl : LkCl K l al]
    [hb : ∀ Z : WZ K, LkX K Z.S Z.RH (tb Z.W) (ab Z)] : LkX K S0 RH (tTryK K Wout tb l) (aTry K awo ab al) := ⟨fun {S1 RH1} w σ s H O ts D D' st sl d q => by
  have hW1 : LkW K S1 RH1 Wout awo := ⟨fun st sl xr q => hW.run (st.wle w) sl xr q⟩
  have h2 := hl.run d hW1
  exact (hb ⟨S1, RH1, wCl K Wout D l, aClW K awo D' al, h2⟩).run (Wle.refl _ _) st sl d (q ⟨S1, RH1, wCl K Wout D l, aClW K awo D' al, h2⟩ rfl)⟩
/-! ### within a suite -/
def FxOk (K : PySem.W.Frag) (x n : Str) : Prop := XC K (He.ga K x) ∧ PySem.W.findIn K (.ref (He.ga K x)) n = some none
/-- e.n -/
def aXf (K : PySem.W.Frag) (a : Addr) (x : Str) (fs : List (Str × Tr)) (e : AE) (n : Str) : AE := fun s ts Q => e s ts fun t ts1 => t = .val (.ref a) ∧ FxOk K x n ∧ ∃ u, fs.lookup n = some u ∧ Q u ts1
theorem lookup_rt {S : Hp} {n : Str} {u : Tr} : ∀ {fs : List (Str × Tr)} {gs : List (Str × V)}, gs.map (·.1) = fs.map (·.1) → RtL K S (fs.map (·.2)) (gs.map (·.2)) → fs.lookup n = some u → ∃ v, gs.lookup n = some v ∧ Rt K S u v
  | [], _, _, _, h => by cases h
  | (f, t) :: fs, [], e, _, _ => by simp at e
  | (f, t) :: fs, (g, v) :: gs, e, r, h => by
    simp only [List.map_cons, List.cons.injEq] at e
    obtain ⟨e1, e2⟩ := e
    subst e1
    cases r with
    | cons r1 r2 =>
      rw [List.lookup_cons] at h ⊢
      cases z : n == g with
      | true =>
        rw [z] at h
        cases h
        exact ⟨v, rfl, r1⟩
      | false =>
        rw [z] at h
        exact lookup_rt e2 r2 h
instance {S0 RH : Hp} {a : Addr} {x n : Str} {fs : List (Str × Tr)} {d : Addr} {te : TE} {e : AE} [hx : XrC K S0 x fs d] [he : LkE K S0 RH te e] : LkE K S0 RH (tXfP K a (.ref (He.ga K x)) (some d) te n) (aXf K a x fs e n) := ⟨fun w σ s H O ts Q Q' st sl ct q =>
  he.run w st sl (fun v H1 O1 t ts1 st1 e1 r1 ⟨et, ⟨f1, f2⟩, u, hu, q1⟩ => by
    subst et
    obtain ⟨gs, a1, a2, a3⟩ := hx.xr.up (w.ex.trans st1.ex)
    obtain ⟨v', h1, h2⟩ := lookup_rt a2 a3 hu
    exact ⟨rt_val r1, _, d, gs, v', rfl, rfl, f1, f2, (hid_some a1).1, h1, ct _ H1 O1 _ ts1 st1 e1 h2 q1⟩) q⟩
def Kit (K : PySem.W.Frag) (x y : Str) (b : Bool) : Prop := XC K (He.ga K x) ∧ PySem.W.kitOne K (.ref (He.ga K x)) (.ref (He.ga K y)) = some b
/-- isinstance(e, D) -/
def aIsX (K : PySem.W.Frag) (a : Addr) (x : Str) (b : AA) : AE := fun s ts Q => b s ts fun us ts1 => ∃ y k, us = [.val (.ref a), .val (.ref (He.ga K y))] ∧ Kit K x y k ∧ Q (.dat (.bool k)) ts1
instance {S0 RH : Hp} {a : Addr} {x : Str} {fs : List (Str × Tr)} {d : Addr} {ta : TA} {b : AA} [hx : XrC K S0 x fs d] [hb : LkA K S0 RH ta b] : LkE K S0 RH (tCB (rIsP K a (.ref (He.ga K x)) (some d)) ta) (aIsX K a x b) := ⟨fun w σ s H O ts Q Q' st sl ct q =>
  hb.run w st sl (fun vs H1 O1 us ts1 st1 e1 r1 ⟨y, k, eu, ⟨f1, f2⟩, q1⟩ => by
    subst eu
    obtain ⟨v1, v2, rfl, rv1, rv2⟩ := rtl2 r1
    obtain ⟨gs, a1, a2, a3⟩ := hx.xr.up (w.ex.trans st1.ex)
    exact ⟨_, _, d, gs, k, by rw [rt_val rv1, rt_val rv2], rfl, rfl, (hid_some a1).1, f1, f2, ct _ H1 O1 _ ts1 st1 e1 (.dat (.bl _)) q1⟩) q⟩
/-- the law's own def that tells how many classes an error has -/
def aClsOf (K : PySem.W.Frag) (errs : List (Str × List Str)) (names : List Str) (r : PyData) (a : Addr) (x : Str) (fs : List (Str × Tr)) (b : AA) : AE := fun s ts Q => b s ts fun us ts1 => us = [.val (.ref a)] ∧ x ∈ names ∧ ErrC K "LogError" errs x ∧ (∃ t, fs.lookup ("why" : Str) = some (.dat (.str t))) ∧ Q (.dat r) ts1
def spErr (K : PySem.W.Frag) (errs : List (Str × List Str)) (names : List Str) (v : V) : Sp := fun vs H Q _ => ∃ (a : Addr) (x : Str) (fs : List (Str × V)), vs = [.ref a] ∧ Err K errs H a x fs ∧ x ∈ names ∧ ∀ H', Ex H H' → Q v H'
theorem clsOf_run {S0 RH : Hp} {errs : List (Str × List Str)} {names : List Str} {v : V} {r : PyData} (hv : ∀ S, Dr K S v r) {a : Addr} {x : Str} {fs : List (Str × Tr)} {d : Addr} {ta : TA} {b : AA} [hx : XrC K S0 x fs d] [hb : LkA K S0 RH ta b] : LkE K S0 RH (cCallE a (.ref (He.ga K x)) (some d) (spErr K errs names v) ta) (aClsOf K errs names r a x fs b) := ⟨fun w σ s H O ts Q Q' st sl ct q =>
  hb.run w st sl (fun vs H1 O1 us ts1 st1 e1 r1 ⟨eu, hn, ec, ⟨t, ht⟩, q1⟩ => by
    subst eu
    obtain ⟨v1, rfl, rv1⟩ := rtl1 r1
    obtain rfl := rt_val rv1
    intro o hz hf np
    obtain ⟨gs, a1, a2, a3⟩ := hx.xr.up (w.ex.trans st1.ex)
    obtain ⟨w1, h1, h2⟩ := lookup_rt a2 a3 ht
    have hd := (hid_some a1).1
    refine ⟨a, x, gs, rfl, ⟨⟨o, d, upd_same, hz, hf, by rw [upd_ne (ne_of_none hd np)]; exact hd⟩, ec, t, by rw [h1, rt_str h2]⟩, hn, fun H' ex => ?_⟩
    have e2 : Ex H1 (del H' a) := ex_del np ex
    exact ct _ _ O1 _ ts1 (st1.grow e2) (e1.trans (hid_grow e2)) (.dat (hv _)) q1) q⟩
instance {S0 RH : Hp} {errs : List (Str × List Str)} {names : List Str} {i : Int} {a : Addr} {x : Str} {fs : List (Str × Tr)} {d : Addr} {ta : TA} {b : AA} [hx : XrC K S0 x fs d] [hb : LkA K S0 RH ta b] : LkE K S0 RH (cCallE a (.ref (He.ga K x)) (some d) (spErr K errs names (.int i)) ta) (aClsOf K errs names (.int i) a x fs b) := clsOf_run fun _ => .int i
instance {S0 RH : Hp} {errs : List (Str × List Str)} {names : List Str} {i : Bool} {a : Addr} {x : Str} {fs : List (Str × Tr)} {d : Addr} {ta : TA} {b : AA} [hx : XrC K S0 x fs d] [hb : LkA K S0 RH ta b] : LkE K S0 RH (cCallE a (.ref (He.ga K x)) (some d) (spErr K errs names (.bl i)) ta) (aClsOf K errs names (.bool i) a x fs b) := clsOf_run fun _ => .bl i
instance {S0 RH : Hp} {errs : List (Str × List Str)} {names : List Str} {a : Addr} {x : Str} {fs : List (Str × Tr)} {d : Addr} {ta : TA} {b : AA} [hx : XrC K S0 x fs d] [hb : LkA K S0 RH ta b] : LkE K S0 RH (cCallE a (.ref (He.ga K x)) (some d) (spClasses K errs names) ta) (aClsOf K errs names (.int 1) a x fs b) := clsOf_run (v := .int 1) fun _ => .int 1
end

/-! ### objects -/
def FldOk (K : PySem.W.Frag) (C : Addr) (f : Str) : Prop := Cls K C ∧ NoAttr K C f
def aFld (K : PySem.W.Frag) (a : AE) (f : Str) : AE := fun s ts Q => a s ts fun x ts1 => ∃ p C fs c t, x = .val (.ref p) ∧ FocL ts1 (.ins p C fs) c ∧ FldOk K C f ∧ fs.lookup f = some t ∧ Q (vo t) ts1
def putFT (f : Str) (v : Tr) : List (Str × Tr) → List (Str × Tr)
  | [] => [(f, v)]
  | (g, x) :: r => if g = f then (g, v) :: r else (g, x) :: putFT f v r
def aSetF (K : PySem.W.Frag) (a v : AE) (f : Str) : AX := fun D s ts => v s ts fun y ts1 => a s ts1 fun x ts2 => ∃ p C fs c, x = .val (.ref p) ∧ FocL ts2 (.ins p C fs) c ∧ FldOk K C f ∧ fs.length < 1000 ∧ nds y = [] ∧ D.nx s (c (.ins p C (putFT f y fs)))
def aMeth (C : Addr) (m : Str) (n : Nat) (asp : ASp) (aw : AW) (a : AE) (b : AA) : AE := fun s ts Q => a s ts fun x ts1 => ∃ p fs c, x = .val (.ref p) ∧ FocL ts1 (.ins p C fs) c ∧ fs.lookup m = none ∧ b s ts1 fun us ts2 => aGo n asp (x :: us) ts2 Q fun x fs ts3 => aw x fs s ts3
def aMeth0 (C : Addr) (m : Str) (n : Nat) (asp : ASp) (a : AE) (b : AA) : AE := fun s ts Q => a s ts fun x ts1 => ∃ p fs c, x = .val (.ref p) ∧ FocL ts1 (.ins p C fs) c ∧ fs.lookup m = none ∧ b s ts1 fun us ts2 => aGo n asp (x :: us) ts2 Q fun _ _ _ => False
def aMake (C : Addr) (n : Nat) (asp : ASp) (aw : AW) (b : AA) : AE := fun s ts Q => b s ts fun us ts1 => ∀ p, aGo n asp (.val (.ref p) :: us) (ts1 ++ [.ins p C []]) (fun t ts2 => t = .dat .none ∧ Q (.val (.ref p)) ts2) fun x fs ts3 => aw x fs s ts3
section
variable {K : PySem.W.Frag} {S0 RH : Hp} {te tv : TE} {a v : AE} {ta : TA} {b : AA} {asp : ASp} {W : WX} {aw : AW} {n : Nat}
theorem lookup_none {m : Str} : ∀ {fs : List (Str × Tr)} {gs : List (Str × V)}, gs.map (·.1) = fs.map (·.1) → fs.lookup m = none → gs.lookup m = none
  | [], [], _, _ => rfl
  | [], _ :: _, e, _ => by simp at e
  | (f, t) :: fs, [], e, _ => by simp at e
  | (f, t) :: fs, (g, v) :: gs, e, h => by
    simp only [List.map_cons, List.cons.injEq] at e
    obtain ⟨e1, e2⟩ := e
    subst e1
    rw [List.lookup_cons] at h ⊢
    cases z : m == g with
    | true => rw [z] at h; cases h
    | false =>
      rw [z] at h
      exact lookup_none e2 h
instance {f : Str} [ha : LkE K S0 RH te a] : LkE K S0 RH (tFld K te f) (aFld K a f) := ⟨fun w σ s H O ts Q Q' st sl ct q =>
  ha.run w st sl (fun x H1 O1 tx ts1 st1 e1 rx ⟨p, C, fs, c, t, ex, fo, ⟨k1, k2⟩, hl, q1⟩ => by
    subst ex
    obtain rfl := rt_val rx
    obtain ⟨dx, ps, h1, h2, h3⟩ := st1.ins fo
    obtain ⟨u, h4, h5⟩ := lookup_rt h2 h3 hl
    exact ⟨p, C, dx, ps, u, rfl, h1, k1, k2, h4, ct _ H1 O1 _ ts1 st1 e1 h5.vo q1⟩) q⟩
theorem put_rt {S : Hp} {f : Str} {y : Tr} {u : V} (ry : Rt K S y u) : ∀ {fs : List (Str × Tr)} {gs : List (Str × V)}, gs.map (·.1) = fs.map (·.1) → RtL K S (fs.map (·.2)) (gs.map (·.2)) →
    (putF f u gs).map (·.1) = (putFT f y fs).map (·.1) ∧ RtL K S ((putFT f y fs).map (·.2)) ((putF f u gs).map (·.2))
  | [], [], _, _ => ⟨rfl, .cons ry .nil⟩
  | [], _ :: _, e, _ => by simp at e
  | (g, t) :: fs, [], e, _ => by simp at e
  | (g, t) :: fs, (g', v) :: gs, e, r => by
    simp only [List.map_cons, List.cons.injEq] at e
    obtain ⟨e1, e2⟩ := e
    subst e1
    cases r with
    | cons r1 r2 =>
      unfold putF putFT
      by_cases z : g' = f
      · rw [if_pos z, if_pos z]
        exact ⟨by simp [e2], .cons ry r2⟩
      · rw [if_neg z, if_neg z]
        obtain ⟨i1, i2⟩ := put_rt ry (f := f) e2 r2
        exact ⟨by simp [i1], .cons r1 i2⟩
theorem putFT_nds {f : Str} {y : Tr} (ny : nds y = []) : ∀ fs : List (Str × Tr), (ndsF (putFT f y fs)).Sublist (ndsF fs)
  | [] => by simp [putFT, ndsF, ny]
  | (g, t) :: fs => by
    unfold putFT
    split
    · rw [ndsF, ndsF, ny, List.nil_append]
      exact List.sublist_append_right _ _
    · rw [ndsF, ndsF]
      exact List.Sublist.append (List.Sublist.refl _) (putFT_nds ny fs)
theorem FocL.inOi {S RH H : Hp} {O : List Addr} {ts : Trs} {p C : Addr} {fs : List (Str × Tr)} {c : Tr → Trs} (st : Sta K S RH H O ts) (f : FocL ts (.ins p C fs) c) : p ∈ O := st.io _ (f.sees (.ins p C (voF fs)) (by rw [nds]; exact List.mem_cons_self))
instance {f : Str} [ha : LkE K S0 RH te a] [hv : LkE K S0 RH tv v] : LkX K S0 RH (sFld K te tv f) (aSetF K a v f) := ⟨fun w σ s H O ts D D' st sl d q =>
  hv.run w st sl (fun y H1 O1 ty ts1 st1 e1 ry q1 => ha.run w st1 (sl.ex e1) (fun x H2 O2 tx ts2 st2 e2 rx ⟨p, C, fs, c, ex, fo, ⟨k1, k2⟩, hl, ny, q2⟩ => by
    subst ex
    obtain rfl := rt_val rx
    obtain ⟨dx, ps, h1, h2, h3⟩ := st2.ins fo
    obtain ⟨i1, i2⟩ := put_rt (f := f) (ry.ex e2) h2 h3
    have hp := fo.inOi st2
    have st3 := st2.setIns fo (gs := putFT f ty fs) (dx := dx) (ps := putF f y ps) (putFT_nds ny fs) i1 i2
    have el : ps.length = fs.length := by simpa using congrArg List.length h2
    exact ⟨p, C, dx, ps, rfl, h1, k1, k2, by rw [el]; exact hl, d.nx _ _ _ O2 _ st3 (by rw [hid_upd hp]; exact (sl.ex e1).ex e2) q2⟩) q1) q⟩
instance {C : Addr} {m : Str} [hW : LkW K S0 RH W aw] [ha : LkE K S0 RH te a] [hb : LkA K S0 RH ta b] : LkE K S0 RH (cMeth C m (spA K n asp) W te ta) (aMeth C m n asp aw a b) := ⟨fun w σ s H O ts Q Q' st sl ct q =>
  ha.run w st sl (fun x H1 O1 tx ts1 st1 e1 rx ⟨p, fs, c, ex, fo, hl, q1⟩ => by
    subst ex
    obtain rfl := rt_val rx
    obtain ⟨dx, ps, h1, h2, h3⟩ := st1.ins fo
    refine ⟨p, dx, ps, rfl, h1, lookup_none h2 hl, hb.run w st1 (sl.ex e1) (fun vs H2 O2 us ts2 st2 e2 r2 q2 => ?_) q1⟩
    exact call_in hW w st2 ((sl.ex e1).ex e2) (.cons .val r2) (fun v H3 O3 t ts3 st3 e3 rt q3 => ct v H3 O3 t ts3 st3 ((e1.trans e2).trans e3) rt q3) q2) q⟩
instance {C : Addr} {m : Str} [ha : LkE K S0 RH te a] [hb : LkA K S0 RH ta b] : LkE K S0 RH (cMeth0 C m (spA K n asp) te ta) (aMeth0 C m n asp a b) := ⟨fun w σ s H O ts Q Q' st sl ct q =>
  ha.run w st sl (fun x H1 O1 tx ts1 st1 e1 rx ⟨p, fs, c, ex, fo, hl, q1⟩ => by
    subst ex
    obtain rfl := rt_val rx
    obtain ⟨dx, ps, h1, h2, h3⟩ := st1.ins fo
    refine ⟨p, dx, ps, rfl, h1, lookup_none h2 hl, hb.run w st1 (sl.ex e1) (fun vs H2 O2 us ts2 st2 e2 r2 q2 => ?_) q1⟩
    exact call_in0 st2 (.cons .val r2) (fun v H3 O3 t ts3 st3 e3 rt q3 => ct v H3 O3 t ts3 st3 ((e1.trans e2).trans e3) rt q3) q2) q⟩
theorem make_in {S RH1 H : Hp} {O : List Addr} {ts : Trs} {x dx C : Addr} (st : Sta K S RH1 H O ts) (nx : H x = none) (nd : H dx = none) (hne : dx ≠ x) :
    Sta K S RH1 (upd (upd H dx (.own x)) x (.ins C dx [])) (x :: O) (ts ++ [.ins x C []]) ∧ Ex (hid H O) (hid (upd (upd H dx (.own x)) x (.ins C dx [])) (x :: O)) := by
  have e : Ex H (upd (upd H dx (.own x)) x (.ins C dx [])) := (Ex.new nd).trans (Ex.new (by rw [upd_ne hne.symm]; exact nx))
  exact st.come (n := .ins x C []) nx e (by simp [nds, voF, ndsF]) rfl ⟨dx, [], upd_same, rfl, .nil⟩
instance {C : Addr} [hW : LkW K S0 RH W aw] [hb : LkA K S0 RH ta b] : LkE K S0 RH (cMake C (spA K n asp) W ta) (aMake C n asp aw b) := ⟨fun w σ s H O ts Q Q' st sl ct q =>
  hb.run w st sl (fun vs H1 O1 us ts1 st1 e1 r1 q1 x dx nx nd hne => by
    obtain ⟨st2, e2⟩ := make_in (C := C) st1 nx nd hne
    exact call_in (Q' := fun t ts2 => t = .dat .none ∧ Q' (.val (.ref x)) ts2) hW w st2 ((sl.ex e1).ex e2) (.cons .val (r1.ex e2)) (fun v H3 O3 t ts3 st3 e3 rt ⟨et, q3⟩ => by
      subst et
      exact ⟨rt_non rt, ct _ H3 O3 _ ts3 st3 ((e1.trans e2).trans e3) .val q3⟩) (q1 x)) q⟩
end
end GL

namespace GL
open PySem PySem.Spec PyProof.Rows L2 Evl

/-! ## more variants of rules, stated at the outer K -/
section
variable {X : Cx} {a : Addr} {pn : List (Addr × Obj)} {xe : Value → Shared → Prop} {s : Shared} {H : Hp} {sc : Scope} {env : Env} {fp : List Addr}
theorem call_tupNS : CallR (X.suite a pn) (.type "tuple") (rTupOf X.K) := call_tupN
theorem call_tupNT : CallR (X.tr pn xe) (.type "tuple") (rTupOf X.K) := call_tupN
theorem call_tupNB : CallR (X.blk s H sc env fp) (.type "tuple") (rTupOf X.K) := call_tupN
theorem call_listNS : CallR (X.suite a pn) (.type "list") (rListN X.K) := call_listN
theorem call_listNT : CallR (X.tr pn xe) (.type "list") (rListN X.K) := call_listN
theorem call_listNB : CallR (X.blk s H sc env fp) (.type "list") (rListN X.K) := call_listN
theorem call_listMT : CallR (X.tr pn xe) (.type "list") (rListM X.K) := call_listM
theorem sl_listNT : SlR (X.tr pn xe) (rSlLN X.K) := sl_listN
theorem sl_listNS : SlR (X.suite a pn) (rSlLN X.K) := sl_listN
theorem sl_listNB : SlR (X.blk s H sc env fp) (rSlLN X.K) := sl_listN
theorem sl_listMB : SlR (X.blk s H sc env fp) (rSlLM X.K) := sl_listM
theorem sl_tupAB : SlR (X.blk s H sc env fp) (rSlA X.K) := sl_tupA
theorem sl_tupAT : SlR (X.tr pn xe) (rSlA X.K) := sl_tupA
theorem op_inB : OpR (X.blk s H sc env fp) (compareOp .In) (rIn X.K false) := op_in_seq
theorem op_notInB : OpR (X.blk s H sc env fp) (compareOp .NotIn) (rIn X.K true) := op_notIn_seq
theorem op_inT : OpR (X.tr pn xe) (compareOp .In) (rIn X.K false) := op_in_seq
theorem op_notInT : OpR (X.tr pn xe) (compareOp .NotIn) (rIn X.K true) := op_notIn_seq
end
def tTruK (K : PySem.W.Frag) (ta : TE) : TT := fun σ H Q => ta σ H fun x H' => ∃ k, TruV K x H' k ∧ Q k H'
theorem pt_tru {X : Cx} {a : Expr} {ta : TE} (ha : PE X a ta) (he : ∀ whole, isTrue a X.env whole = (do let v ← whole; standAt a.pos; holding [v] (truthy v)) := by intro _; rfl) : PT X a (tTruK X.K ta) := pt_truth ha he
theorem pt_truB {X : Cx} {s : Shared} {H : Hp} {sc : Scope} {env : Env} {fp : List Addr} {a : Expr} {ta : TE} (ha : PE (X.blk s H sc env fp) a ta) (he : ∀ whole, isTrue a (X.blk s H sc env fp).env whole = (do let v ← whole; standAt a.pos; holding [v] (truthy v)) := by intro _; rfl) : PT (X.blk s H sc env fp) a (tTruK X.K ta) := pt_truth ha he
theorem pe_lcM {X : Cx} {elt tg iter : Expr} {ifs : List Expr} {scope : Scope} {own : List (Str × Nat)} {pos : Pos} {wi : TI} {g : TG} {tt : TT} {te : TE} (hc : X.calm = true) (hN : X.N.Nodup) (hi : PI X tg iter wi) (ok : BlkOk X.N X.env.scope scope own)
    (hg : ∀ (s : Shared) (H : Hp) (C : Addr) (cl : List (Str × Addr)) (fp : List Addr), PG (X.blk s H scope (compEnvC scope cl C X.env) fp) tg g) (ht : ∀ (s : Shared) (H : Hp) (C : Addr) (cl : List (Str × Addr)) (fp : List Addr), PTs (X.blk s H scope (compEnvC scope cl C X.env) fp) ifs tt)
    (he : ∀ (s : Shared) (H : Hp) (C : Addr) (cl : List (Str × Addr)) (fp : List Addr), PE (X.blk s H scope (compEnvC scope cl C X.env) fp) elt te) (hs : ∀ x, foldedSetIterable iter X.env x = pure x := by intro _; rfl) :
    PE X (.ListComp elt [⟨tg, iter, ifs, 0⟩] scope pos) (tLcM wi g tt te (own.map (·.2))) := pe_lc hc hN hi ok hg ht he hs
theorem ps_setLcM {X : Cx} {i : Nat} {y : Str} {py : Pos} {elt tg iter : Expr} {ifs : List Expr} {scope : Scope} {own : List (Str × Nat)} {pos spos : Pos} {wi : TI} {g : TG} {tt : TT} {te : TE} (h : PS X (.Assign [.Name y py] (.ListComp elt [⟨tg, iter, ifs, 0⟩] scope pos) spos) (tAsg (tLc wi g tt te (own.map (·.2))) (gName i))) :
    PS X (.Assign [.Name y py] (.ListComp elt [⟨tg, iter, ifs, 0⟩] scope pos) spos) (tAsg (tLcM wi g tt te (own.map (·.2))) (gName i)) := h
def aTru (a : AE) : AT := fun s ts Q => a s ts fun x ts1 => (∃ k, x = .dat (.bool k) ∧ Q k ts1) ∨ (∃ xs, (SeqL ts1 x xs ∨ SeqT ts1 x xs) ∧ Q (!xs.isEmpty) ts1) ∨ (∃ p kvs c, x = .val (.ref p) ∧ FocL ts1 (.dct p kvs) c ∧ Q (!kvs.isEmpty) ts1) ∨ ∃ z : Str, z.length ≤ sizeLine ∧ x = .dat (.str z) ∧ Q ((z.length : Int) != 0) ts1

instance {K : PySem.W.Frag} {S0 RH : Hp} {te : TE} {a : AE} [ha : LkE K S0 RH te a] : LkT K S0 RH (tTruK K te) (aTru a) := ⟨fun w σ s H O ts Q Q' st sl ct q =>
  ha.run w st sl (fun x H1 O1 tx ts1 st1 e1 rx q1 => by
    rcases q1 with ⟨k, ex, q1⟩ | ⟨xs, h, q1⟩ | ⟨p, kvs, c, ex, f, q1⟩ | ⟨z, hz, ex, q1⟩
    · subst ex
      obtain rfl := rt_bool rx
      exact ⟨k, rfl, ct _ H1 O1 ts1 st1 e1 q1⟩
    · rcases h with h | h
      · obtain ⟨p, vs, rfl, hs, rr⟩ := h.sq st1 rx
        have e : xs.isEmpty = vs.isEmpty := by have := rr.len; cases xs <;> cases vs <;> simp at this ⊢
        exact ⟨_, .inl ⟨vs, hs, rfl⟩, by rw [← e]; exact ct _ H1 O1 ts1 st1 e1 q1⟩
      · obtain ⟨p, vs, rfl, hs, rr⟩ := h.sq rx
        have e : xs.isEmpty = vs.isEmpty := by have := rr.len; cases xs <;> cases vs <;> simp at this ⊢
        exact ⟨_, .inr (.inl ⟨vs, ex_t hid_ex hs, rfl⟩), by rw [← e]; exact ct _ H1 O1 ts1 st1 e1 q1⟩
    · subst ex
      obtain rfl := rt_val rx
      obtain ⟨ps, h1, h2, _⟩ := st1.dct f
      have e : kvs.isEmpty = ps.isEmpty := by have := congrArg List.length h2; cases kvs <;> cases ps <;> simp at this ⊢
      exact ⟨_, .inr (.inr ⟨ps, h1, rfl⟩), by rw [← e]; exact ct _ H1 O1 ts1 st1 e1 q1⟩
    · subst ex
      obtain rfl := rt_str rx
      exact ⟨_, ⟨hz, rfl⟩, ct _ H1 O1 ts1 st1 e1 q1⟩) q⟩

/-! ## reading over trees, a step at a time -/
section
variable {K : PySem.W.Frag} {s : AS} {ts : Trs} {D : AD} {Q : AQ}
theorem ra_nx {a b d : AS → Trs → Prop} {r : AQ} (h : a s ts) : AD.nx { nx := a, rt := r, bk := b, ct := d } s ts := h
theorem ra_rt {a b d : AS → Trs → Prop} {r : AQ} {t : Tr} (h : r t ts) : AD.rt { nx := a, rt := r, bk := b, ct := d } t ts := h
theorem ra_bk {a b d : AS → Trs → Prop} {r : AQ} (h : b s ts) : AD.bk { nx := a, rt := r, bk := b, ct := d } s ts := h
theorem ra_ct {a b d : AS → Trs → Prop} {r : AQ} (h : d s ts) : AD.ct { nx := a, rt := r, bk := b, ct := d } s ts := h
theorem ra_seq {t u : AX} (h : t { D with nx := u D } s ts) : aSeq t u D s ts := h
theorem ra_next (h : D.nx s ts) : aNext D s ts := h
theorem ra_brk (h : D.bk s ts) : aBrk D s ts := h
theorem ra_cnt (h : D.ct s ts) : aCnt D s ts := h
theorem ra_set {a : AE} {i : Nat} (h : a s ts fun x ts1 => D.nx (s.set i (some x)) ts1) : aSet i a D s ts := h
theorem ra_asg {a : AE} {g : AG} (h : a s ts fun x ts1 => g x s ts1 D.nx) : aAsg a g D s ts := h
theorem ra_ret {a : AE} (h : a s ts D.rt) : aRet a D s ts := h
theorem ra_retN (h : D.rt (.dat .none) ts) : aRetN D s ts := h
theorem ra_drop {a : AE} (h : a s ts fun _ ts1 => D.nx s ts1) : aDrop a D s ts := h
theorem ra_if {c : AT} {t u : AX} (h : c s ts fun k ts1 => if k = true then t D s ts1 else u D s ts1) : aIf c t u D s ts := h
theorem ra_ifE {c : AT} {a b : AE} (h : c s ts fun k ts1 => if k = true then a s ts1 Q else b s ts1 Q) : aIfE c a b s ts Q := h
theorem ra_var {i : Nat} {t : Tr} (h : s[i]? = some (some t)) (q : Q t ts) : aVar i s ts Q := ⟨t, h, q⟩
theorem ra_cI {i : Int} (q : Q (.dat (.int i)) ts) : aC (.int i) s ts Q := q
theorem ra_cS {i : Str} (q : Q (.dat (.str i)) ts) : aC (.str i) s ts Q := q
theorem ra_cB {i : Bool} (q : Q (.dat (.bool i)) ts) : aC (.bl i) s ts Q := q
theorem ra_cN (q : Q (.dat .none) ts) : aC .non s ts Q := q
theorem ra_cT {n : String} (q : Q (.val (.ty n)) ts) : aC (.ty n) s ts Q := q
theorem ra_cR {p : Addr} (q : Q (.val (.ref p)) ts) : aC (.ref p) s ts Q := q
theorem ra_op {r : AR} {a b : AE} (h : a s ts fun x ts1 => b s ts1 fun y ts2 => r x y ts2 Q) : aOp r a b s ts Q := h
theorem ra_un {r : AU} {a : AE} (h : a s ts fun x ts1 => r x ts1 Q) : aUn r a s ts Q := h
theorem ra_chain {r r' : AR} {a b c : AE} (h : a s ts fun x ts1 => b s ts1 fun y ts2 => r x y ts2 fun z ts3 => ∃ k, z = .dat (.bool k) ∧ (if k = true then c s ts3 fun w ts4 => r' y w ts4 Q else Q (.dat (.bool false)) ts3)) : aChain r r' a b c s ts Q := h
theorem ra_isb {b : Bool} {R : Bool → Prop} (h : R b) : ∃ k, Tr.dat (.bool b) = .dat (.bool k) ∧ R k := ⟨b, rfl, h⟩
theorem ra_i0I {f : Int → Int → Int} {i j : Int} (q : Q (.dat (.int (f i j))) ts) : aI0 (fun i j => .int (f i j)) (.dat (.int i)) (.dat (.int j)) ts Q := ⟨i, j, rfl, rfl, q⟩
theorem ra_i0B {f : Int → Int → Bool} {i j : Int} (q : Q (.dat (.bool (f i j))) ts) : aI0 (fun i j => .bl (f i j)) (.dat (.int i)) (.dat (.int j)) ts Q := ⟨i, j, rfl, rfl, q⟩
theorem ra_iI {C : Int → Int → Prop} {f : Int → Int → Int} {i j : Int} (c : C i j) (q : Q (.dat (.int (f i j))) ts) : aI C (fun i j => .int (f i j)) (.dat (.int i)) (.dat (.int j)) ts Q := ⟨i, j, rfl, rfl, c, q⟩
theorem ra_uI {f : Int → Int} {i : Int} (q : Q (.dat (.int (f i))) ts) : aU (fun i => .int (f i)) (.dat (.int i)) ts Q := ⟨i, rfl, q⟩
theorem ra_test {B : Bool → Trs → Prop} {a : AE} (h : a s ts fun x ts1 => ∃ k, x = .dat (.bool k) ∧ B k ts1) : aTest a s ts B := h
theorem ra_not {B : Bool → Trs → Prop} {a : AT} (h : a s ts fun k ts1 => B (!k) ts1) : aNot a s ts B := h
theorem ra_and {B : Bool → Trs → Prop} {a b : AT} (h : a s ts fun k ts1 => if k = true then b s ts1 B else B false ts1) : aAnd a b s ts B := h
theorem ra_or {B : Bool → Trs → Prop} {a b : AT} (h : a s ts fun k ts1 => if k = true then B true ts1 else b s ts1 B) : aOr a b s ts B := h
theorem ra_andV {a b : AE} (h : a s ts fun x ts1 => ∃ k, x = .dat (.bool k) ∧ if k = true then b s ts1 Q else Q (.dat (.bool false)) ts1) : aAndV a b s ts Q := h
theorem ra_orV {a b : AE} (h : a s ts fun x ts1 => ∃ k, x = .dat (.bool k) ∧ if k = true then Q (.dat (.bool true)) ts1 else b s ts1 Q) : aOrV a b s ts Q := h
theorem ra_notV {a : AE} (h : a s ts fun x ts1 => ∃ k, x = .dat (.bool k) ∧ Q (.dat (.bool (!k))) ts1) : aNotV a s ts Q := h
theorem ra_yes {B : Bool → Trs → Prop} (h : B true ts) : aYes s ts B := h
theorem ra_nil {R : Trs → Trs → Prop} (h : R [] ts) : aNil s ts R := h
theorem ra_cons {a : AE} {r : AA} {R : Trs → Trs → Prop} (h : a s ts fun x ts1 => r s ts1 fun xs ts2 => R (x :: xs) ts2) : aCons a r s ts R := h
theorem ra_cb {r : AC} {a : AA} (h : a s ts fun us ts1 => r us ts1 Q) : aCB r a s ts Q := h
theorem ra_call {n : Nat} {asp : ASp} {aw : AW} {a : AA} (h : a s ts fun us ts1 => aGo n asp us ts1 Q fun x fs ts2 => aw x fs s ts2) : aCall n asp aw a s ts Q := h
theorem ra_call0 {n : Nat} {asp : ASp} {a : AA} (h : a s ts fun us ts1 => aGo n asp us ts1 Q fun _ _ _ => False) : aCall0 n asp a s ts Q := h
/-- a call that touches no object -/
theorem ra_go0 {n : Nat} {asp : ASp} {us : Trs} {E : AZ} (hn : us.length = n) (h : asp us [] (fun t sub => Q t (ts ++ sub)) (fun x fs sub => E x fs (ts ++ sub))) : aGo n asp us ts Q E := by
  refine ⟨hn, _, _, _, Frm.roots [] rfl, ?_⟩
  have e : ∀ sub, putAt ts [] sub = ts ++ sub := fun sub => by simp [putAt, setAt]
  simp only [e]
  have e2 : (fun (t : Tr) (sub' : Trs) => ([] : List Nat).length ≤ sub'.length ∧ Q t (ts ++ sub')) = fun t sub' => Q t (ts ++ sub') := by funext t sub'; simp
  have e3 : (fun (x : Str) (fs : List (Str × Tr)) (sub' : Trs) => ([] : List Nat).length ≤ sub'.length ∧ E x fs (ts ++ sub')) = fun x fs sub' => E x fs (ts ++ sub') := by funext x fs sub'; simp
  rw [e2, e3]
  exact h
/-- a call that touches these roots -/
theorem ra_go {n : Nat} {asp : ASp} {us : Trs} {E : AZ} (is : List Nat) (hn : us.length = n) (ok : okIx ts.length is = true) (h : asp us (pickT ts is) (fun t sub => is.length ≤ sub.length ∧ Q t (putAt ts is sub)) (fun x fs sub => is.length ≤ sub.length ∧ E x fs (putAt ts is sub))) : aGo n asp us ts Q E :=
  ⟨hn, _, _, _, Frm.roots is ok, h⟩
theorem ra_goF {n : Nat} {asp : ASp} {us : Trs} {E : AZ} {t : Tr} {c : Tr → Trs} (hn : us.length = n) (f : FocL ts t c) (h : asp us [t] (fun v sub => (∃ u r, sub = u :: r ∧ vo u = vo t) ∧ Q v (match sub with | u :: r => c u ++ r | [] => [])) (fun x fs sub => (∃ u r, sub = u :: r ∧ vo u = vo t) ∧ E x fs (match sub with | u :: r => c u ++ r | [] => []))) : aGo n asp us ts Q E :=
  ⟨hn, _, _, _, Frm.foc f, h⟩
theorem ra_tup {a : AA} (h : a s ts fun us ts1 => us.length ≤ 100000 ∧ ((∃ ds, us = ds.map .dat ∧ Q (.dat (.tuple ds)) ts1) ∨ Q (.tup us) ts1)) : aTup a s ts Q := h
theorem ra_t0 {P : List PyData → Prop} {Z : Prop} (h : P []) : ([] : Trs).length ≤ 100000 ∧ ((∃ ds : List PyData, ([] : Trs) = ds.map .dat ∧ P ds) ∨ Z) := ⟨by simp, .inl ⟨[], rfl, h⟩⟩
theorem ra_t1 {a : PyData} {P : List PyData → Prop} {Z : Prop} (h : P [a]) : ([.dat a] : Trs).length ≤ 100000 ∧ ((∃ ds : List PyData, ([.dat a] : Trs) = ds.map .dat ∧ P ds) ∨ Z) := ⟨by simp, .inl ⟨[a], rfl, h⟩⟩
theorem ra_t2 {a b : PyData} {P : List PyData → Prop} {Z : Prop} (h : P [a, b]) : ([.dat a, .dat b] : Trs).length ≤ 100000 ∧ ((∃ ds : List PyData, ([.dat a, .dat b] : Trs) = ds.map .dat ∧ P ds) ∨ Z) := ⟨by simp, .inl ⟨[a, b], rfl, h⟩⟩
theorem ra_t3 {a b c : PyData} {P : List PyData → Prop} {Z : Prop} (h : P [a, b, c]) : ([.dat a, .dat b, .dat c] : Trs).length ≤ 100000 ∧ ((∃ ds : List PyData, ([.dat a, .dat b, .dat c] : Trs) = ds.map .dat ∧ P ds) ∨ Z) := ⟨by simp, .inl ⟨[a, b, c], rfl, h⟩⟩
theorem ra_t4 {a b c d : PyData} {P : List PyData → Prop} {Z : Prop} (h : P [a, b, c, d]) : ([.dat a, .dat b, .dat c, .dat d] : Trs).length ≤ 100000 ∧ ((∃ ds : List PyData, ([.dat a, .dat b, .dat c, .dat d] : Trs) = ds.map .dat ∧ P ds) ∨ Z) := ⟨by simp, .inl ⟨[a, b, c, d], rfl, h⟩⟩
theorem ra_t5 {a b c d e : PyData} {P : List PyData → Prop} {Z : Prop} (h : P [a, b, c, d, e]) : ([.dat a, .dat b, .dat c, .dat d, .dat e] : Trs).length ≤ 100000 ∧ ((∃ ds : List PyData, ([.dat a, .dat b, .dat c, .dat d, .dat e] : Trs) = ds.map .dat ∧ P ds) ∨ Z) := ⟨by simp, .inl ⟨[a, b, c, d, e], rfl, h⟩⟩
theorem ra_t6 {a b c d e f : PyData} {P : List PyData → Prop} {Z : Prop} (h : P [a, b, c, d, e, f]) : ([.dat a, .dat b, .dat c, .dat d, .dat e, .dat f] : Trs).length ≤ 100000 ∧ ((∃ ds : List PyData, ([.dat a, .dat b, .dat c, .dat d, .dat e, .dat f] : Trs) = ds.map .dat ∧ P ds) ∨ Z) := ⟨by simp, .inl ⟨[a, b, c, d, e, f], rfl, h⟩⟩
theorem ra_t7 {a b c d e f g : PyData} {P : List PyData → Prop} {Z : Prop} (h : P [a, b, c, d, e, f, g]) : ([.dat a, .dat b, .dat c, .dat d, .dat e, .dat f, .dat g] : Trs).length ≤ 100000 ∧ ((∃ ds : List PyData, ([.dat a, .dat b, .dat c, .dat d, .dat e, .dat f, .dat g] : Trs) = ds.map .dat ∧ P ds) ∨ Z) := ⟨by simp, .inl ⟨[a, b, c, d, e, f, g], rfl, h⟩⟩
theorem ra_tT {us : Trs} {Z P : Prop} (h : us.length ≤ 100000) (q : P) : us.length ≤ 100000 ∧ (Z ∨ P) := ⟨h, .inr q⟩
theorem ra_lstF {a : AA} (h : a s ts fun us ts1 => us.length ≤ 100000 ∧ ∃ ds, us = ds.map .dat ∧ Q (.dat (.list ds)) ts1) : aLstF a s ts Q := h
def undat : Tr → PyData
  | .dat d => d
  | _ => .none
theorem undat_map : ∀ {us : Trs}, us.all (fun t => match t with | .dat _ => true | _ => false) = true → us = (us.map undat).map .dat
  | [], _ => rfl
  | t :: us, h => by
    rw [List.all_cons, Bool.and_eq_true] at h
    cases t with
    | dat d => rw [List.map_cons, List.map_cons, ← undat_map h.2]; rfl
    | _ => exact absurd h.1 (by simp)
theorem ra_l0 {P : List PyData → Prop} (h : P []) : ([] : Trs).length ≤ 100000 ∧ ∃ ds : List PyData, ([] : Trs) = ds.map .dat ∧ P ds := ⟨by simp, [], rfl, h⟩
theorem ra_l1 {a : PyData} {P : List PyData → Prop} (h : P [a]) : ([.dat a] : Trs).length ≤ 100000 ∧ ∃ ds : List PyData, ([.dat a] : Trs) = ds.map .dat ∧ P ds := ⟨by simp, [a], rfl, h⟩
theorem ra_l2 {a b : PyData} {P : List PyData → Prop} (h : P [a, b]) : ([.dat a, .dat b] : Trs).length ≤ 100000 ∧ ∃ ds : List PyData, ([.dat a, .dat b] : Trs) = ds.map .dat ∧ P ds := ⟨by simp, [a, b], rfl, h⟩
theorem ra_l3 {a b c : PyData} {P : List PyData → Prop} (h : P [a, b, c]) : ([.dat a, .dat b, .dat c] : Trs).length ≤ 100000 ∧ ∃ ds : List PyData, ([.dat a, .dat b, .dat c] : Trs) = ds.map .dat ∧ P ds := ⟨by simp, [a, b, c], rfl, h⟩
theorem ra_l4 {a b c d : PyData} {P : List PyData → Prop} (h : P [a, b, c, d]) : ([.dat a, .dat b, .dat c, .dat d] : Trs).length ≤ 100000 ∧ ∃ ds : List PyData, ([.dat a, .dat b, .dat c, .dat d] : Trs) = ds.map .dat ∧ P ds := ⟨by simp, [a, b, c, d], rfl, h⟩
theorem ra_l5 {a b c d e : PyData} {P : List PyData → Prop} (h : P [a, b, c, d, e]) : ([.dat a, .dat b, .dat c, .dat d, .dat e] : Trs).length ≤ 100000 ∧ ∃ ds : List PyData, ([.dat a, .dat b, .dat c, .dat d, .dat e] : Trs) = ds.map .dat ∧ P ds := ⟨by simp, [a, b, c, d, e], rfl, h⟩
theorem ra_l6 {a b c d e f : PyData} {P : List PyData → Prop} (h : P [a, b, c, d, e, f]) : ([.dat a, .dat b, .dat c, .dat d, .dat e, .dat f] : Trs).length ≤ 100000 ∧ ∃ ds : List PyData, ([.dat a, .dat b, .dat c, .dat d, .dat e, .dat f] : Trs) = ds.map .dat ∧ P ds := ⟨by simp, [a, b, c, d, e, f], rfl, h⟩
theorem ra_l7 {a b c d e f g : PyData} {P : List PyData → Prop} (h : P [a, b, c, d, e, f, g]) : ([.dat a, .dat b, .dat c, .dat d, .dat e, .dat f, .dat g] : Trs).length ≤ 100000 ∧ ∃ ds : List PyData, ([.dat a, .dat b, .dat c, .dat d, .dat e, .dat f, .dat g] : Trs) = ds.map .dat ∧ P ds := ⟨by simp, [a, b, c, d, e, f, g], rfl, h⟩
theorem ra_l8 {a b c d e f g i : PyData} {P : List PyData → Prop} (h : P [a, b, c, d, e, f, g, i]) : ([.dat a, .dat b, .dat c, .dat d, .dat e, .dat f, .dat g, .dat i] : Trs).length ≤ 100000 ∧ ∃ ds : List PyData, ([.dat a, .dat b, .dat c, .dat d, .dat e, .dat f, .dat g, .dat i] : Trs) = ds.map .dat ∧ P ds := ⟨by simp, [a, b, c, d, e, f, g, i], rfl, h⟩
theorem ra_lD {us : Trs} {P : List PyData → Prop} {ds : List PyData} (h : us.length ≤ 100000) (e : us = ds.map .dat) (q : P ds) : us.length ≤ 100000 ∧ ∃ ds, us = ds.map .dat ∧ P ds := ⟨h, ds, e, q⟩
theorem ra_lstM {a : AA} (h : a s ts fun us ts1 => us.length ≤ 100000 ∧ ndsL us = [] ∧ ∀ p, Q (.val (.ref p)) (ts1 ++ [.lst p us])) : aLstM a s ts Q := h
theorem ra_ix {a b : AE} (h : a s ts fun x ts1 => b s ts1 fun y ts2 => aIx x y ts2 Q) : aOp aIx a b s ts Q := h
theorem ra_ixD {ds : List PyData} {i : Int} {d : PyData} (h : atI ds i = some d) (q : Q (.dat d) ts) : aIx (.dat (.list ds)) (.dat (.int i)) ts Q := by
  refine ⟨i, rfl, .inl ⟨ds.map .dat, .dat d, .inl .dat, ?_, q⟩⟩
  unfold atI at h ⊢
  rw [List.length_map]
  cases e : ixN ds.length i with
  | none => rw [e] at h; cases h
  | some j => rw [e] at h; simp only [Option.bind_some] at h ⊢; rw [List.getElem?_map, h]; rfl
theorem ra_ixT {ds : List PyData} {i : Int} {d : PyData} (h : atI ds i = some d) (q : Q (.dat d) ts) : aIx (.dat (.tuple ds)) (.dat (.int i)) ts Q := by
  refine ⟨i, rfl, .inl ⟨ds.map .dat, .dat d, .inr .dat, ?_, q⟩⟩
  unfold atI at h ⊢
  rw [List.length_map]
  cases e : ixN ds.length i with
  | none => rw [e] at h; cases h
  | some j => rw [e] at h; simp only [Option.bind_some] at h ⊢; rw [List.getElem?_map, h]; rfl
theorem ra_ixL {p : Addr} {xs : Trs} {i : Int} {t : Tr} {c : Tr → Trs} (f : FocL ts (.lst p xs) c) (h : atI xs i = some t) (q : Q (vo t) ts) : aIx (.val (.ref p)) (.dat (.int i)) ts Q := by
  refine ⟨i, rfl, .inl ⟨voL xs, vo t, .inl (.ref f), ?_, q⟩⟩
  unfold atI at h ⊢
  rw [voL_map, List.length_map]
  cases e : ixN xs.length i with
  | none => rw [e] at h; cases h
  | some j => rw [e] at h; simp only [Option.bind_some] at h ⊢; rw [List.getElem?_map, h]; rfl
theorem ra_ixU {xs : Trs} {i : Int} {t : Tr} (h : atI xs i = some t) (q : Q (vo t) ts) : aIx (.tup xs) (.dat (.int i)) ts Q := by
  refine ⟨i, rfl, .inl ⟨voL xs, vo t, .inr .tup, ?_, q⟩⟩
  unfold atI at h ⊢
  rw [voL_map, List.length_map]
  cases e : ixN xs.length i with
  | none => rw [e] at h; cases h
  | some j => rw [e] at h; simp only [Option.bind_some] at h ⊢; rw [List.getElem?_map, h]; rfl
theorem ra_ixScr {ns : List Int} {i : Int} {n : Int} (h : atI ns i = some n) (q : Q (.dat (.int n)) ts) : aIx (.scr ns) (.dat (.int i)) ts Q := by
  refine ⟨i, rfl, .inl ⟨_, .dat (.int n), .inl .scr, ?_, q⟩⟩
  unfold atI at h ⊢
  rw [List.length_map]
  cases e : ixN ns.length i with
  | none => rw [e] at h; cases h
  | some j => rw [e] at h; simp only [Option.bind_some] at h ⊢; rw [List.getElem?_map, h]; rfl
theorem ra_eqU {x y : Tr} {d e : PyData} (hx : DO ts x d) (hy : DO ts y e) (sd : SeqAt.shaped d = true) (se : SeqAt.shaped e = true) (q : Q (.dat (.bool (PyData.eqv d e))) ts) : aEqU x y ts Q := ⟨d, e, hx, hy, sd, se, q⟩
theorem ra_neU {x y : Tr} {d e : PyData} (hx : DO ts x d) (hy : DO ts y e) (sd : SeqAt.shaped d = true) (se : SeqAt.shaped e = true) (q : Q (.dat (.bool (!PyData.eqv d e))) ts) : aNeU x y ts Q := ⟨d, e, hx, hy, sd, se, q⟩
theorem ra_eqII {i j : Int} (q : Q (.dat (.bool (decide (i = j)))) ts) : aEq (.dat (.int i)) (.dat (.int j)) ts Q := ⟨rfl, rfl, rfl, by rw [show decide (trI (.dat (.int i)) = trI (.dat (.int j))) = decide (i = j) from by simp [trI]]; exact q⟩
theorem ra_neII {i j : Int} (q : Q (.dat (.bool (!decide (i = j)))) ts) : aNe (.dat (.int i)) (.dat (.int j)) ts Q := ⟨rfl, rfl, rfl, by rw [show decide (trI (.dat (.int i)) = trI (.dat (.int j))) = decide (i = j) from by simp [trI]]; exact q⟩
theorem ra_eqSS {i j : Str} (q : Q (.dat (.bool (decide (i = j)))) ts) : aEq (.dat (.str i)) (.dat (.str j)) ts Q := ⟨rfl, rfl, rfl, by rw [show decide (trI (.dat (.str i)) = trI (.dat (.str j))) = decide (i = j) from by simp [trI]]; exact q⟩
theorem ra_neSS {i j : Str} (q : Q (.dat (.bool (!decide (i = j)))) ts) : aNe (.dat (.str i)) (.dat (.str j)) ts Q := ⟨rfl, rfl, rfl, by rw [show decide (trI (.dat (.str i)) = trI (.dat (.str j))) = decide (i = j) from by simp [trI]]; exact q⟩
theorem ra_isND {d : PyData} (q : Q (.dat (.bool (isNonT (.dat d)))) ts) : aIsN (.dat d) (.dat .none) ts Q := ⟨rfl, .inr fun w e => (nomatch e), q⟩
theorem ra_notND {d : PyData} (q : Q (.dat (.bool (!isNonT (.dat d)))) ts) : aNotN (.dat d) (.dat .none) ts Q := ⟨rfl, .inr fun w e => (nomatch e), q⟩
theorem ra_isNN (q : Q (.dat (.bool true)) ts) : aIsN (.dat .none) (.dat .none) ts Q := ra_isND q
theorem ra_notNN (q : Q (.dat (.bool false)) ts) : aNotN (.dat .none) (.dat .none) ts Q := ra_notND q
theorem ra_isNT {xs : Trs} (q : Q (.dat (.bool false)) ts) : aIsN (.tup xs) (.dat .none) ts Q := ⟨rfl, .inr fun w e => (nomatch e), q⟩
theorem ra_notNT {xs : Trs} (q : Q (.dat (.bool true)) ts) : aNotN (.tup xs) (.dat .none) ts Q := ⟨rfl, .inr fun w e => (nomatch e), q⟩
theorem ra_isNR {p : Addr} (q : Q (.dat (.bool false)) ts) : aIsN (.val (.ref p)) (.dat .none) ts Q := ⟨rfl, .inl ⟨p, rfl⟩, q⟩
theorem ra_notNR {p : Addr} (q : Q (.dat (.bool true)) ts) : aNotN (.val (.ref p)) (.dat .none) ts Q := ⟨rfl, .inl ⟨p, rfl⟩, q⟩
theorem ra_catX {ds es : List PyData} (h : ds.length + es.length ≤ 100000) (q : Q (.dat (.list (ds ++ es))) ts) : aCatX (.dat (.list ds)) (.dat (.list es)) ts Q :=
  ⟨_, _, ds ++ es, .dat, .dat, by rw [List.map_append], by simpa using h, q⟩
theorem ra_catM {x y : Tr} {xs ys : Trs} (hx : SeqR ts x xs) (hy : SeqR ts y ys) (h : xs.length + ys.length ≤ 100000) (q : ∀ p, Q (.val (.ref p)) (ts ++ [.lst p (xs ++ ys)])) : aCatXM x y ts Q := ⟨xs, ys, hx, hy, h, q⟩
theorem ra_catS {a b : Str} (h : a.length + b.length ≤ sizeLine) (q : Q (.dat (.str (a ++ b))) ts) : aCatS (.dat (.str a)) (.dat (.str b)) ts Q := ⟨a, b, rfl, rfl, h, q⟩
theorem ra_sl {r : ASl} {a : AE} {lo hi : AO} (h : a s ts fun x ts1 => lo s ts1 fun l ts2 => hi s ts2 fun h ts3 => r x l h ts3 Q) : aSl r a lo hi s ts Q := h
theorem ra_noPart {R : Option Int → Trs → Prop} (h : R none ts) : aNoPart s ts R := h
theorem ra_part {R : Option Int → Trs → Prop} {a : AE} (h : a s ts fun x ts1 => ∃ i, x = .dat (.int i) ∧ R (some i) ts1) : aPart a s ts R := h
theorem ra_isint {i : Int} {B : Int → Prop} (h : B i) : ∃ j, Tr.dat (.int i) = .dat (.int j) ∧ B j := ⟨i, rfl, h⟩
theorem ra_slF {ds : List PyData} {lo hi : Option Int} (q : Q (.dat (.list (cutG ds lo hi))) ts) : aSlF (.dat (.list ds)) lo hi ts Q := ⟨_, _, .dat, cutG_map _ _ _ _, q⟩
theorem ra_slT {ds : List PyData} {lo hi : Option Int} (q : Q (.dat (.tuple (cutG ds lo hi))) ts) : aSlT (.dat (.tuple ds)) lo hi ts Q := ⟨ds, rfl, q⟩
theorem ra_slScr {ns : List Int} {lo hi : Option Int} (q : Q (.dat (.list ((cutG ns lo hi).map .int))) ts) : aSlF (.scr ns) lo hi ts Q := ⟨_, _, .scr, by rw [cutG_map, List.map_map]; rfl, q⟩
theorem ra_rev {a : AE} (h : a s ts fun x ts1 => ∃ (xs : Trs) (ds : List PyData), SeqL ts1 x xs ∧ xs = ds.map .dat ∧ Q (.dat (.list ds.reverse)) ts1) : aRevF a s ts Q := h
theorem ra_revD {ds : List PyData} {P : List PyData → Prop} (h : P ds) : ∃ (xs : Trs) (es : List PyData), SeqL ts (.dat (.list ds)) xs ∧ xs = es.map .dat ∧ P es := ⟨_, ds, .dat, rfl, h⟩
theorem ra_lenD {ds : List PyData} (q : Q (.dat (.int (ds.length : Nat))) ts) : aLen [.dat (.list ds)] ts Q := ⟨_, rfl, .inl ⟨_, .inl .dat, by rw [List.length_map]; exact q⟩⟩
theorem ra_lenT {ds : List PyData} (q : Q (.dat (.int (ds.length : Nat))) ts) : aLen [.dat (.tuple ds)] ts Q := ⟨_, rfl, .inl ⟨_, .inr .dat, by rw [List.length_map]; exact q⟩⟩
theorem ra_lenScr {ns : List Int} (q : Q (.dat (.int (ns.length : Nat))) ts) : aLen [.scr ns] ts Q := ⟨_, rfl, .inl ⟨_, .inl .scr, by rw [List.length_map]; exact q⟩⟩
theorem ra_lenL {p : Addr} {xs : Trs} {c : Tr → Trs} (f : FocL ts (.lst p xs) c) (q : Q (.dat (.int (xs.length : Nat))) ts) : aLen [.val (.ref p)] ts Q := ⟨_, rfl, .inl ⟨_, .inl (.ref f), by rw [voL_map, List.length_map]; exact q⟩⟩
theorem ra_lenU {xs : Trs} (q : Q (.dat (.int (xs.length : Nat))) ts) : aLen [.tup xs] ts Q := ⟨_, rfl, .inl ⟨_, .inr .tup, by rw [voL_map, List.length_map]; exact q⟩⟩
theorem ra_lenS {z : Str} (h : z.length ≤ sizeLine) (q : Q (.dat (.int (z.length : Nat))) ts) : aLen [.dat (.str z)] ts Q := ⟨_, rfl, .inr (.inl ⟨z, rfl, h, q⟩)⟩
theorem ra_isD {d : PyData} {T : String} (h : kinds.contains T = true) (q : Q (.dat (.bool (isK (tyD d) T))) ts) : aIsi [.dat d, .val (.ty T)] ts Q := ⟨_, T, _, rfl, h, .dat, q⟩
theorem ra_isT {xs : Trs} {T : String} (h : kinds.contains T = true) (q : Q (.dat (.bool (isK "tuple" T))) ts) : aIsi [.tup xs, .val (.ty T)] ts Q := ⟨_, T, _, rfl, h, .tup, q⟩
theorem ra_isL {p : Addr} {xs : Trs} {c : Tr → Trs} {T : String} (f : FocL ts (.lst p xs) c) (h : kinds.contains T = true) (q : Q (.dat (.bool (isK "list" T))) ts) : aIsi [.val (.ref p), .val (.ty T)] ts Q := ⟨_, T, _, rfl, h, .lst f, q⟩
theorem ra_isDc {p : Addr} {xs : List (Key × Tr)} {c : Tr → Trs} {T : String} (f : FocL ts (.dct p xs) c) (h : kinds.contains T = true) (q : Q (.dat (.bool (isK "dict" T))) ts) : aIsi [.val (.ref p), .val (.ty T)] ts Q := ⟨_, T, _, rfl, h, .dct f, q⟩
theorem ra_repr {x : Tr} {d : PyData} (h : DOd ts x d) (h1 : Sh d) (q : Q (.dat (.str d.shown)) ts) : aRepr [x] ts Q := ⟨x, d, rfl, h, h1.sh, h1.dep, h1.len, q⟩
theorem ra_int1b {b : Bool} (q : Q (.dat (.int (if b then 1 else 0))) ts) : aInt1 [.dat (.bool b)] ts Q := .inr ⟨b, rfl, q⟩
theorem ra_int1i {i : Int} (q : Q (.dat (.int i)) ts) : aInt1 [.dat (.int i)] ts Q := .inl ⟨i, rfl, q⟩
theorem ra_strI {i : Int} (h : i.natAbs.log2 < 1920) (q : Q (.dat (.str (toString i))) ts) : aStrI [.dat (.int i)] ts Q := ⟨i, rfl, h, q⟩
theorem ra_listD {ds : List PyData} (q : Q (.dat (.list ds)) ts) : aListF [.dat (.list ds)] ts Q := ⟨_, _, ds, rfl, .inl .dat, rfl, q⟩
theorem ra_listT {ds : List PyData} (q : Q (.dat (.list ds)) ts) : aListF [.dat (.tuple ds)] ts Q := ⟨_, _, ds, rfl, .inr .dat, rfl, q⟩
theorem ra_listMD {ds : List PyData} (q : ∀ p, Q (.val (.ref p)) (ts ++ [.lst p (ds.map .dat)])) : aListM [.dat (.list ds)] ts Q := ⟨_, _, rfl, .inl .dat, q⟩
theorem ra_listMT {ds : List PyData} (q : ∀ p, Q (.val (.ref p)) (ts ++ [.lst p (ds.map .dat)])) : aListM [.dat (.tuple ds)] ts Q := ⟨_, _, rfl, .inr .dat, q⟩
theorem ra_tupD {ds : List PyData} (q : Q (.dat (.tuple ds)) ts) : aTupOf [.dat (.list ds)] ts Q := ⟨_, rfl, .inl ⟨_, .dat, .inl ⟨ds, rfl, q⟩⟩⟩
theorem ra_tupT {ds : List PyData} (q : Q (.dat (.tuple ds)) ts) : aTupOf [.dat (.tuple ds)] ts Q := ⟨_, rfl, .inr ⟨⟨_, .dat⟩, q⟩⟩
theorem ra_bm {ty : Tr → Trs → Prop} {am : AM} {a : AE} {b : AA} (h : a s ts fun x ts1 => ty x ts1 ∧ b s ts1 fun us ts2 => am x us ts2 Q) : aBM ty am a b s ts Q := h
theorem ra_isLr {p : Addr} {xs : Trs} {c : Tr → Trs} {Z : Prop} (f : FocL ts (.lst p xs) c) (q : Z) : IsL (.val (.ref p)) ts ∧ Z := ⟨⟨_, .ref f⟩, q⟩
theorem ra_isLd {ds : List PyData} {Z : Prop} (q : Z) : IsL (.dat (.list ds)) ts ∧ Z := ⟨⟨_, .dat⟩, q⟩
theorem ra_app {p : Addr} {xs : Trs} {c : Tr → Trs} {u : Tr} (f : FocL ts (.lst p xs) c) (nu : nds u = []) (h : xs.length < 100000) (q : Q (.dat .none) (c (.lst p (xs ++ [u])))) : aAppend (.val (.ref p)) [u] ts Q := ⟨p, xs, c, u, rfl, rfl, f, nu, h, q⟩
theorem ra_extend {p : Addr} {xs ys : Trs} {c : Tr → Trs} {u : Tr} (f : FocL ts (.lst p xs) c) (hu : SeqR ts u ys) (h : xs.length + ys.length ≤ 100000) (q : Q (.dat .none) (c (.lst p (xs ++ ys)))) : aExtend (.val (.ref p)) [u] ts Q := ⟨p, xs, c, u, ys, rfl, rfl, f, hu, h, q⟩
theorem ra_clear {p : Addr} {xs : Trs} {c : Tr → Trs} (f : FocL ts (.lst p xs) c) (q : Q (.dat .none) (c (.lst p []))) : aClear (.val (.ref p)) [] ts Q := ⟨p, xs, c, rfl, rfl, f, q⟩
theorem ra_raise {p : AP} {aw : AW} (h : p s ts fun x fs ts1 => aw x fs s ts1) : aRaise p aw D s ts := h
theorem ra_xk1 {x f t : Str} {a : AA} {Z : AZ} (h : a s ts fun us ts1 => ∃ u, us = [u] ∧ Z x [(f, u), ("why", .dat (.str t))] ts1) : aXk1 x f t a s ts Z := h
theorem ra_xk2 {x f g t : Str} {a : AA} {Z : AZ} (h : a s ts fun us ts1 => ∃ u v, us = [u, v] ∧ Z x [(g, v), (f, u), ("why", .dat (.str t))] ts1) : aXk2 x f g t a s ts Z := h
theorem ra_xkW {x : Str} {a : AA} {Z : AZ} (h : a s ts fun us ts1 => ∃ u, us = [u] ∧ Z x [("why", u)] ts1) : aXkW x a s ts Z := h
theorem ra_xkW0 {x t : Str} {Z : AZ} (h : Z x [("why", .dat (.str t))] ts) : aXkW0 x t s ts Z := h
theorem ra_one {t : Tr} {P : Tr → Prop} (h : P t) : ∃ u, [t] = [u] ∧ P u := ⟨t, rfl, h⟩
theorem ra_two {t u : Tr} {P : Tr → Tr → Prop} (h : P t u) : ∃ a b, [t, u] = [a, b] ∧ P a b := ⟨t, u, rfl, h⟩
theorem ra_par {i j : Nat} {a : AA} (h : a s ts fun us ts1 => ∃ x y, us = [x, y] ∧ D.nx ((s.set i (some x)).set j (some y)) ts1) : aPar i j a D s ts := h
theorem ra_fld {a : AE} {f : Str} (h : a s ts fun x ts1 => ∃ p C fs c t, x = .val (.ref p) ∧ FocL ts1 (.ins p C fs) c ∧ FldOk K C f ∧ fs.lookup f = some t ∧ Q (vo t) ts1) : aFld K a f s ts Q := h
theorem ra_setF {a v : AE} {f : Str} (h : v s ts fun y ts1 => a s ts1 fun x ts2 => ∃ p C fs c, x = .val (.ref p) ∧ FocL ts2 (.ins p C fs) c ∧ FldOk K C f ∧ fs.length < 1000 ∧ nds y = [] ∧ D.nx s (c (.ins p C (putFT f y fs)))) : aSetF K a v f D s ts := h
theorem ra_name {i : Nat} {t : Tr} {R : AS → Trs → Prop} (h : R (s.set i (some t)) ts) : aName i t s ts R := h
theorem ra_gtupD {n : Nat} {t : AGs} {ds : List PyData} {R : AS → Trs → Prop} (hl : ds.length = n) (h : t (ds.map .dat) s ts R) : aGTup n t (.dat (.tuple ds)) s ts R := ⟨_, .dat, by rw [List.length_map]; exact hl, h⟩
theorem ra_gtupU {n : Nat} {t : AGs} {xs : Trs} {R : AS → Trs → Prop} (hl : xs.length = n) (h : t (voL xs) s ts R) : aGTup n t (.tup xs) s ts R := ⟨_, .tup, by rw [voL_map, List.length_map]; exact hl, h⟩
theorem ra_gcons {t : AG} {u : AGs} {x : Tr} {r : Trs} {R : AS → Trs → Prop} (h : t x s ts fun s' ts' => u r s' ts' R) : aGCons t u (x :: r) s ts R := ⟨x, r, rfl, h⟩
theorem ra_gconsM {t : AG} {u : AGs} {x : PyData} {r : List PyData} {R : AS → Trs → Prop} (h : t (.dat x) s ts fun s' ts' => u (r.map .dat) s' ts' R) : aGCons t u ((x :: r).map .dat) s ts R := ⟨.dat x, r.map .dat, rfl, h⟩
theorem ra_gnil {R : AS → Trs → Prop} (h : R s ts) : aGNil [] s ts R := ⟨rfl, h⟩
theorem ra_gnilM {R : AS → Trs → Prop} (h : R s ts) : aGNil (([] : List PyData).map .dat) s ts R := ⟨rfl, h⟩
theorem ra_rt0 {f : AQ} {t : Tr} (h : f t ts) : aRtG f t ts := ⟨t, ts, GhoV.refl, h⟩
theorem ra_nx0 {f : AS → Trs → Prop} (h : f s ts) : aNxG f s ts := ⟨s, ts, Gho.refl, h⟩
theorem ra_rtA {f : AQ} {t : Tr} (ts' : Trs) (r : List Tr) (p : (ndsL ts).Perm (ndsL ts' ++ r)) (h : f t ts') : aRtG f t ts := ⟨t, ts', GhoV.keep r p, h⟩
theorem ra_nxA {f : AS → Trs → Prop} (ts' : Trs) (r : List Tr) (p : (ndsL ts).Perm (ndsL ts' ++ r)) (h : f s ts') : aNxG f s ts := ⟨s, ts', Gho.keep r p, h⟩
end

/-! ### loops -/
section
variable {s : AS} {ts : Trs} {D : AD} {Q : AQ}
/-- for x in ..: over data that stands still -/
theorem ra_for {ai : AI} {g : AG} {b : AX} (h : ai s ts fun it ts1 => ∃ J : Nat → AS → Trs → Prop, aNxG (J 0) s ts1 ∧ (∀ i s ts, J i s ts → it.keep ts) ∧
  (∀ i x s ts, it.items[i]? = some x → J i s ts → g x s ts fun s2 ts2 => b { nx := aNxG (J (i + 1)), rt := D.rt, bk := aNxG D.nx, ct := aNxG (J (i + 1)) } s2 ts2) ∧ ∀ s ts, J it.items.length s ts → aNxG D.nx s ts) : aFor ai g b D s ts := h
/-- items that are data -/
theorem forD {g : AG} {b : AX} {ds : List PyData} {ts1 : Trs} (J : Nat → AS → Trs → Prop) (h0 : J 0 s ts1) (hs : ∀ i d s ts, ds[i]? = some d → J i s ts → g (.dat d) s ts fun s2 ts2 => b { nx := aNxG (J (i + 1)), rt := D.rt, bk := aNxG D.nx, ct := aNxG (J (i + 1)) } s2 ts2)
    (hd : ∀ s ts, J ds.length s ts → aNxG D.nx s ts) : ∃ J : Nat → AS → Trs → Prop, aNxG (J 0) s ts1 ∧ (∀ i s ts, J i s ts → AIt.keep ⟨ds.map .dat, fun _ => True⟩ ts) ∧
  (∀ i x s ts, (AIt.items ⟨ds.map .dat, fun _ => True⟩)[i]? = some x → J i s ts → g x s ts fun s2 ts2 => b { nx := aNxG (J (i + 1)), rt := D.rt, bk := aNxG D.nx, ct := aNxG (J (i + 1)) } s2 ts2) ∧ ∀ s ts, J (AIt.items ⟨ds.map .dat, fun _ => True⟩).length s ts → aNxG D.nx s ts := by
  refine ⟨J, ra_nx0 h0, fun _ _ _ _ => True.intro, fun i x s ts hx j => ?_, fun s ts j => hd s ts (by simpa using j)⟩
  have hx : (ds.map Tr.dat)[i]? = some x := hx
  rw [List.getElem?_map] at hx
  cases z : ds[i]? with
  | none => rw [z] at hx; cases hx
  | some d =>
    rw [z] at hx
    cases hx
    exact hs i d s ts z j
theorem forR {g : AG} {b : AX} {n : Nat} {f : Nat → Int} {ts1 : Trs} (J : Nat → AS → Trs → Prop) (h0 : J 0 s ts1) (hs : ∀ i s ts, i < n → J i s ts → g (.dat (.int (f i))) s ts fun s2 ts2 => b { nx := aNxG (J (i + 1)), rt := D.rt, bk := aNxG D.nx, ct := aNxG (J (i + 1)) } s2 ts2)
    (hd : ∀ s ts, J n s ts → aNxG D.nx s ts) : ∃ J : Nat → AS → Trs → Prop, aNxG (J 0) s ts1 ∧ (∀ i s ts, J i s ts → AIt.keep ⟨(List.range n).map fun k => .dat (.int (f k)), fun _ => True⟩ ts) ∧
  (∀ i x s ts, (AIt.items ⟨(List.range n).map fun k => .dat (.int (f k)), fun _ => True⟩)[i]? = some x → J i s ts → g x s ts fun s2 ts2 => b { nx := aNxG (J (i + 1)), rt := D.rt, bk := aNxG D.nx, ct := aNxG (J (i + 1)) } s2 ts2) ∧ ∀ s ts, J (AIt.items ⟨(List.range n).map fun k => .dat (.int (f k)), fun _ => True⟩).length s ts → aNxG D.nx s ts := by
  refine ⟨J, ra_nx0 h0, fun _ _ _ _ => True.intro, fun i x s ts hx j => ?_, fun s ts j => hd s ts (by simpa using j)⟩
  have hx : ((List.range n).map fun k => Tr.dat (.int (f k)))[i]? = some x := hx
  rw [List.getElem?_map] at hx
  by_cases z : i < n
  · rw [List.getElem?_range z] at hx
    cases hx
    exact hs i s ts z j
  · rw [List.getElem?_eq_none (by rw [List.length_range]; omega)] at hx
    cases hx
theorem ra_iL {a : AE} {R : AIt → Trs → Prop} (h : a s ts fun x ts1 => (∃ ds : List PyData, x = .dat (.list ds) ∧ R ⟨ds.map .dat, fun _ => True⟩ ts1) ∨ ∃ p xs c, x = .val (.ref p) ∧ FocL ts1 (.lst p xs) c ∧ R ⟨voL xs, fun ts => ∃ ys c, FocL ts (.lst p ys) c ∧ voL ys = voL xs⟩ ts1) : aIL a s ts R := h
theorem ra_iLd {ds : List PyData} {P : List PyData → Prop} {Z : Prop} (h : P ds) : (∃ es : List PyData, Tr.dat (.list ds) = .dat (.list es) ∧ P es) ∨ Z := .inl ⟨ds, rfl, h⟩
theorem ra_iT {a : AE} {R : AIt → Trs → Prop} (h : a s ts fun x ts1 => ∃ xs, SeqT ts1 x xs ∧ R ⟨xs, fun _ => True⟩ ts1) : aIT a s ts R := h
theorem ra_iTd {ds : List PyData} {P : Trs → Prop} (h : P (ds.map .dat)) : ∃ xs, SeqT ts (.dat (.tuple ds)) xs ∧ P xs := ⟨_, .dat, h⟩
theorem ra_iR1 {a : AA} {R : AIt → Trs → Prop} (h : a s ts fun us ts1 => ∃ j : Int, us = [.dat (.int j)] ∧ -(2 ^ 62) ≤ j ∧ j < 2 ^ 62 ∧ R ⟨(List.range j.toNat).map fun i => .dat (.int (i : Nat)), fun _ => True⟩ ts1) : aIR1 a s ts R := h
theorem ra_iR1d {j : Int} {P : Int → Prop} (h1 : -(2 ^ 62) ≤ j) (h2 : j < 2 ^ 62) (h : P j) : ∃ k : Int, [Tr.dat (.int j)] = [.dat (.int k)] ∧ -(2 ^ 62) ≤ k ∧ k < 2 ^ 62 ∧ P k := ⟨j, rfl, h1, h2, h⟩
theorem ra_iR2d {i j : Int} {P : Int → Int → Prop} (h1 : -(2 ^ 62) ≤ i ∧ i < 2 ^ 62 ∧ -(2 ^ 62) ≤ j ∧ j < 2 ^ 62) (h : P i j) : ∃ a b : Int, [Tr.dat (.int i), .dat (.int j)] = [.dat (.int a), .dat (.int b)] ∧ (-(2 ^ 62) ≤ a ∧ a < 2 ^ 62 ∧ -(2 ^ 62) ≤ b ∧ b < 2 ^ 62) ∧ P a b := ⟨i, j, rfl, h1, h⟩
theorem ra_iR3d {i j c : Int} {P : Int → Int → Int → Nat → Prop} (n : Nat) (h1 : RgC i j c n) (h : P i j c n) : ∃ (a b d : Int) (m : Nat), [Tr.dat (.int i), .dat (.int j), .dat (.int c)] = [.dat (.int a), .dat (.int b), .dat (.int d)] ∧ RgC a b d m ∧ P a b d m := ⟨i, j, c, n, rfl, h1, h⟩
theorem ra_iZd {ds es : List PyData} {P : List PyData → List PyData → Prop} (h : P ds es) : ∃ as bs : List PyData, [Tr.dat (.list ds), .dat (.list es)] = [.dat (.list as), .dat (.list bs)] ∧ P as bs := ⟨ds, es, rfl, h⟩
theorem ra_iR2 {a : AA} {R : AIt → Trs → Prop} (h : a s ts fun us ts1 => ∃ i j : Int, us = [.dat (.int i), .dat (.int j)] ∧ (-(2 ^ 62) ≤ i ∧ i < 2 ^ 62 ∧ -(2 ^ 62) ≤ j ∧ j < 2 ^ 62) ∧ R ⟨(List.range (j - i).toNat).map fun k => .dat (.int (i + (k : Nat))), fun _ => True⟩ ts1) : aIR2 a s ts R := h
theorem ra_iR3 {a : AA} {R : AIt → Trs → Prop} (h : a s ts fun us ts1 => ∃ (i j c : Int) (n : Nat), us = [.dat (.int i), .dat (.int j), .dat (.int c)] ∧ RgC i j c n ∧ R ⟨(List.range n).map fun k => .dat (.int (i + (k : Nat) * c)), fun _ => True⟩ ts1) : aIR3 a s ts R := h
theorem ra_iE {a : AA} {R : AIt → Trs → Prop} (h : a s ts fun us ts1 => ∃ x, us = [x] ∧ ((∃ ds : List PyData, x = .dat (.list ds) ∧ R ⟨enumT (ds.map .dat) 0, fun _ => True⟩ ts1) ∨ ∃ p xs c, x = .val (.ref p) ∧ FocL ts1 (.lst p xs) c ∧ R ⟨enumT (voL xs) 0, fun ts => ∃ ys c, FocL ts (.lst p ys) c ∧ voL ys = voL xs⟩ ts1)) : aIE a s ts R := h
def enumD : List PyData → Nat → List PyData
  | [], _ => []
  | d :: r, i => .tuple [.int (i : Nat), d] :: enumD r (i + 1)
theorem enumT_dat : ∀ (ds : List PyData) (i : Nat), enumT (ds.map .dat) i = (enumD ds i).map .dat
  | [], _ => rfl
  | d :: ds, i => by simp [enumT, enumD, pairI, enumT_dat ds (i + 1)]
theorem enumD_len : ∀ (ds : List PyData) (i : Nat), (enumD ds i).length = ds.length
  | [], _ => rfl
  | d :: ds, i => by simp [enumD, enumD_len ds (i + 1)]
theorem enumD_get : ∀ {ds : List PyData} {k i : Nat} {e : PyData}, (enumD ds k)[i]? = some e → ∃ d, ds[i]? = some d ∧ e = .tuple [.int ((k + i : Nat) : Int), d]
  | [], _, _, _, h => by simp [enumD] at h
  | x :: xs, k, 0, t, h => by simp [enumD] at h; exact ⟨x, rfl, h.symm⟩
  | x :: xs, k, i + 1, t, h => by
    simp [enumD] at h
    obtain ⟨u, h1, h2⟩ := enumD_get h
    exact ⟨u, by simpa using h1, by rw [h2, show k + 1 + i = k + (i + 1) from by omega]⟩
theorem ra_iZ {a : AA} {R : AIt → Trs → Prop} (h : a s ts fun us ts1 => ∃ (ds es : List PyData), us = [.dat (.list ds), .dat (.list es)] ∧ R ⟨(ds.zip es).map fun p => .dat (.tuple [p.1, p.2]), fun _ => True⟩ ts1) : aIZ a s ts R := h
/-- a comprehension over data, step by step -/
theorem lcF {P : Prop} {ai : AI} {g : AG} {tt : AT} {a : AE} {vs : List Nat} (p : P) (h : ai s ts fun it ts1 => ∃ J : Nat → List PyData → Trs → Prop, J 0 [] ts1 ∧ (∀ i acc ts, J i acc ts → it.keep ts) ∧
  (∀ i x acc ts, it.items[i]? = some x → J i acc ts → g x (wipeA s vs) ts fun s2 ts2 => tt s2 ts2 fun k ts3 => if k = true then a s2 ts3 fun y ts4 => ∃ d, y = .dat d ∧ acc.length < 100000 ∧ J (i + 1) (acc ++ [d]) ts4 else J (i + 1) acc ts3) ∧
  ∀ acc ts, J it.items.length acc ts → Q (.dat (.list acc)) ts) : aLcF P ai g tt a vs s ts Q := ⟨p, h⟩
theorem lcM {P : Prop} {ai : AI} {g : AG} {tt : AT} {a : AE} {vs : List Nat} (p : P) (h : ai s ts fun it ts1 => ∃ J : Nat → Trs → Trs → Prop, J 0 [] ts1 ∧ (∀ i acc ts, J i acc ts → it.keep ts ∧ ndsL acc = []) ∧
  (∀ i x acc ts, it.items[i]? = some x → J i acc ts → g x (wipeA s vs) ts fun s2 ts2 => tt s2 ts2 fun k ts3 => if k = true then a s2 ts3 fun y ts4 => acc.length < 100000 ∧ J (i + 1) (acc ++ [y]) ts4 else J (i + 1) acc ts3) ∧
  ∀ acc ts, J it.items.length acc ts → ∀ p, Q (.val (.ref p)) (ts ++ [.lst p acc])) : aLcM P ai g tt a vs s ts Q := ⟨p, h⟩
end
end GL

namespace GL
open PySem PySem.Spec PyProof.Rows L2 Evl

/-! ## functions of data: what they return, or which error -/
inductive Res
  | ok (d : PyData)
  | err (x : Str) (fs : List (Str × PyData))
def datF (fs : List (Str × PyData)) : List (Str × Tr) := fs.map fun p => (p.1, .dat p.2)
def Res.go (r : Res) (ts : Trs) (Q : AQ) (E : AZ) : Prop := match r with
  | .ok d => Q (.dat d) ts
  | .err x fs => E x (datF fs) ts
def asD1 (P : PyData → Prop) (f : PyData → Res) : ASp := fun us ts Q E => ∃ a, us = [.dat a] ∧ ts = [] ∧ P a ∧ (f a).go [] Q E
def asD2 (P : PyData → PyData → Prop) (f : PyData → PyData → Res) : ASp := fun us ts Q E => ∃ a b, us = [.dat a, .dat b] ∧ ts = [] ∧ P a b ∧ (f a b).go [] Q E
def asD3 (P : PyData → PyData → PyData → Prop) (f : PyData → PyData → PyData → Res) : ASp := fun us ts Q E => ∃ a b c, us = [.dat a, .dat b, .dat c] ∧ ts = [] ∧ P a b c ∧ (f a b c).go [] Q E
section
variable {ts : Trs} {Q : AQ} {E : AZ}
theorem Res.go_app {r : Res} (h : r.go ts Q E) : r.go [] (fun t sub => Q t (ts ++ sub)) (fun x fs sub => E x fs (ts ++ sub)) := by
  cases r <;> simpa [Res.go] using h
theorem ra_goD1 {P : PyData → Prop} {f : PyData → Res} {a : PyData} (p : P a) (h : (f a).go ts Q E) : aGo 1 (asD1 P f) [.dat a] ts Q E := ra_go0 rfl ⟨a, rfl, rfl, p, Res.go_app h⟩
theorem ra_goD2 {P : PyData → PyData → Prop} {f : PyData → PyData → Res} {a b : PyData} (p : P a b) (h : (f a b).go ts Q E) : aGo 2 (asD2 P f) [.dat a, .dat b] ts Q E := ra_go0 rfl ⟨a, b, rfl, rfl, p, Res.go_app h⟩
theorem ra_goD3 {P : PyData → PyData → PyData → Prop} {f : PyData → PyData → PyData → Res} {a b c : PyData} (p : P a b c) (h : (f a b c).go ts Q E) : aGo 3 (asD3 P f) [.dat a, .dat b, .dat c] ts Q E := ra_go0 rfl ⟨a, b, c, rfl, rfl, p, Res.go_app h⟩
theorem Res.go_ok {d : PyData} (h : Q (.dat d) ts) : (Res.ok d).go ts Q E := h
theorem Res.ok_go {d : PyData} (h : (Res.ok d).go ts Q E) : Q (.dat d) ts := h
theorem Res.err_go {x : Str} {fs : List (Str × PyData)} (h : (Res.err x fs).go ts Q E) : E x (datF fs) ts := h
theorem ra_x0 {f : AZ} {x : Str} {fs : List (Str × Tr)} (h : f x fs ts) : aXG f x fs ts := ⟨ts, [], by simp, h⟩
theorem ra_xA {f : AZ} {x : Str} {fs : List (Str × Tr)} (ts' : Trs) (r : List Tr) (p : (ndsL ts).Perm (ndsL ts' ++ r)) (h : f x fs ts') : aXG f x fs ts := ⟨ts', r, p, h⟩
theorem ra_xN {f : AZ} {x : Str} {fs : List (Str × Tr)} (h : f x fs []) : aXG f x fs ts := ⟨[], ndsL ts, by simp [ndsL], h⟩
theorem ra_rtN {f : AQ} {t : Tr} (h : f t []) : aRtG f t ts := ⟨t, [], GhoV.keep (ndsL ts) (by simp [ndsL]), h⟩
theorem ra_rtF {f : AQ} {p : Addr} {xs : Trs} {ds : List PyData} (i : Nat) (h : ts[i]? = some (.lst p xs)) (pl : plainL xs = some ds) (q : f (.dat (.list ds)) []) : aRtG f (.val (.ref p)) ts :=
  ⟨_, [], (GhoV.frz i h pl).trans (GhoV.keep (ndsL (ts.set i Tr.non)) (by simp [ndsL])), q⟩
end
/-! ### kinds of data -/
def isBo : PyData → Bool
  | .bool _ => true
  | _ => false
def isIB : PyData → Bool
  | .int _ => true
  | .bool _ => true
  | _ => false
section
variable {ts : Trs} {Q : AQ} {d : PyData}
theorem ra_isiI (q : Q (.dat (.bool (isIB d))) ts) : aIsi [.dat d, .val (.ty "int")] ts Q := ra_isD (by decide) (by rw [show isK (tyD d) "int" = isIB d from by cases d <;> rfl]; exact q)
theorem ra_isiB (q : Q (.dat (.bool (isBo d))) ts) : aIsi [.dat d, .val (.ty "bool")] ts Q := ra_isD (by decide) (by rw [show isK (tyD d) "bool" = isBo d from by cases d <;> rfl]; exact q)
theorem ra_isiS (q : Q (.dat (.bool (isS d))) ts) : aIsi [.dat d, .val (.ty "str")] ts Q := ra_isD (by decide) (by rw [show isK (tyD d) "str" = isS d from by cases d <;> rfl]; exact q)
theorem ra_isiT (q : Q (.dat (.bool (isT d))) ts) : aIsi [.dat d, .val (.ty "tuple")] ts Q := ra_isD (by decide) (by rw [show isK (tyD d) "tuple" = isT d from by cases d <;> rfl]; exact q)
theorem ra_isiL (q : Q (.dat (.bool (isLs d))) ts) : aIsi [.dat d, .val (.ty "list")] ts Q := ra_isD (by decide) (by rw [show isK (tyD d) "list" = isLs d from by cases d <;> rfl]; exact q)
/-- the ways of a test that is one of data -/
theorem isI_IB (d : PyData) : (isIB d && !isBo d) = isI d := by cases d <;> rfl
end
theorem cxG_K {c : Bool} {P : Program} {w : World} {K : PySem.W.Frag} {mg : Str → Option Value} {base : Heap} {N : List Str} {qual : Str} {scope : Scope} {f : Addr} {cd : Value} {A : Around} {outer : List Env} {s : Shared} {H : Hp} {E : XK} : (cxG c P w K mg base N qual scope f cd A outer s H E).K = K := rfl
theorem ite1 {b : Bool} {A B : Prop} (e : b = true) (h : A) : if b = true then A else B := by subst e; exact h
theorem ite0 {b : Bool} {A B : Prop} (e : b = false) (h : B) : if b = true then A else B := by subst e; exact h
theorem iteK {A B : Prop} (b : Bool) (t : b = true → A) (f : b = false → B) : if b = true then A else B := by cases b; exact f rfl; exact t rfl
theorem iteN {b : Bool} {A B : Prop} (h : if b = true then B else A) : if (!b) = true then A else B := by cases b; exact h; exact h
theorem isI_int {d : PyData} (h : isI d = true) : ∃ i, d = .int i := by cases d <;> first | (simp [isI] at h; done) | exact ⟨_, rfl⟩
theorem isLs_lst {d : PyData} (h : isLs d = true) : ∃ ds, d = .list ds := by cases d <;> first | (simp [isLs] at h; done) | exact ⟨_, rfl⟩
theorem isT_tup {d : PyData} (h : isT d = true) : ∃ ds, d = .tuple ds := by cases d <;> first | (simp [isT] at h; done) | exact ⟨_, rfl⟩
theorem isS_str {d : PyData} (h : isS d = true) : ∃ x, d = .str x := by cases d <;> first | (simp [isS] at h; done) | exact ⟨_, rfl⟩
theorem atI_n {α : Type} {xs : List α} {i : Nat} (h : i < xs.length) : atI xs (i : Int) = xs[i]? := by rw [atI_nat (by omega) (by omega)]; rfl
theorem atI_D {α : Type} {xs : List α} {i : Nat} {z : α} (h : i < xs.length) : atI xs (i : Int) = some (xs.getD i z) := by rw [atI_n h, List.getElem?_eq_getElem h, List.getD_eq_getElem?_getD, List.getElem?_eq_getElem h]; rfl
/-! ### comprehensions whose turns are functions of data -/
section
variable {s : AS} {ts : Trs} {Q : AQ} {g : AG} {tt : AT} {a : AE} {vs : List Nat}
def LcG (it : AIt) (g : AG) (tt : AT) (a : AE) (vs : List Nat) (s : AS) (ts : Trs) (Q : AQ) : Prop := ∃ J : Nat → List PyData → Trs → Prop, J 0 [] ts ∧ (∀ i acc ts, J i acc ts → it.keep ts) ∧
  (∀ i x acc ts, it.items[i]? = some x → J i acc ts → g x (wipeA s vs) ts fun s2 ts2 => tt s2 ts2 fun k ts3 => if k = true then a s2 ts3 fun y ts4 => ∃ d, y = .dat d ∧ acc.length < 100000 ∧ J (i + 1) (acc ++ [d]) ts4 else J (i + 1) acc ts3) ∧
  ∀ acc ts, J it.items.length acc ts → Q (.dat (.list acc)) ts
theorem lcFN {P : Prop} {ai : AI} (p : P) (h : ai s ts fun it ts1 => LcG it g tt a vs s ts1 Q) : aLcF P ai g tt a vs s ts Q := ⟨p, h⟩
theorem filterMap_take {α β : Type} {l : List α} {f : α → Option β} {i : Nat} {d : α} (h : l[i]? = some d) : (l.take (i + 1)).filterMap f = (l.take i).filterMap f ++ (match f d with | some e => [e] | none => []) := by
  rw [take_app0 h, List.filterMap_append]
  cases e : f d <;> simp [e]
where take_app0 {α : Type} {l : List α} {i : Nat} {d : α} (h : l[i]? = some d) : l.take (i + 1) = l.take i ++ [d] := by rw [List.take_succ, h]; rfl
theorem lcX {it : AIt} {α : Type} {l : List α} {c : α → Tr} (e : it.items = l.map c) (hk : it.keep ts) (f : α → Option PyData) (hl : l.length ≤ 100000)
    (step : ∀ (i : Nat) (d : α) (Y : Tr → Trs → Prop) (N : Trs → Prop), l[i]? = some d → (match f d with | some e => Y (.dat e) ts | none => N ts) → g (c d) (wipeA s vs) ts fun s2 ts2 => tt s2 ts2 fun k ts3 => if k = true then a s2 ts3 Y else N ts3)
    (q : Q (.dat (.list (l.filterMap f))) ts) : LcG it g tt a vs s ts Q := by
  refine ⟨fun i acc ts' => ts' = ts ∧ acc = (l.take i).filterMap f, ⟨rfl, by simp⟩, fun i acc ts' ⟨h, _⟩ => by rw [h]; exact hk, fun i x acc ts' hi ⟨ht, ha⟩ => ?_, fun acc ts' ⟨ht, ha⟩ => ?_⟩
  · subst ht ha
    rw [e, List.getElem?_map] at hi
    cases z : l[i]? with
    | none => rw [z] at hi; cases hi
    | some d =>
      rw [z] at hi
      cases hi
      have il : i < l.length := (List.getElem?_eq_some_iff.mp z).1
      have hlen : ((l.take i).filterMap f).length < 100000 := by
        have := List.length_filterMap_le f (l.take i)
        rw [List.length_take] at this
        omega
      refine step i d _ _ z ?_
      have ft := filterMap_take (f := f) z
      cases e2 : f d with
      | none => exact ⟨rfl, by rw [ft, e2, List.append_nil]⟩
      | some y => exact ⟨y, rfl, hlen, rfl, by rw [ft, e2]⟩
  · subst ht
    rw [e, List.length_map, List.take_length] at ha
    subst ha
    exact q
/-- over data, mapped -/
theorem lcD {ds : List PyData} {kp : Trs → Prop} (f : PyData → PyData) (hl : ds.length ≤ 100000) (hk : kp ts)
    (step : ∀ d (Y : Tr → Trs → Prop) (N : Trs → Prop), d ∈ ds → Y (.dat (f d)) ts → g (.dat d) (wipeA s vs) ts fun s2 ts2 => tt s2 ts2 fun k ts3 => if k = true then a s2 ts3 Y else N ts3)
    (q : Q (.dat (.list (ds.map f))) ts) : LcG ⟨ds.map .dat, kp⟩ g tt a vs s ts Q :=
  lcX (l := ds) (c := .dat) rfl hk (fun d => some (f d)) hl (fun i d Y N hi h => step d Y N (List.mem_of_getElem? hi) h) (by rw [List.filterMap_eq_map']; exact q)
theorem lcDf {ds : List PyData} {kp : Trs → Prop} (f : PyData → Option PyData) (hl : ds.length ≤ 100000) (hk : kp ts)
    (step : ∀ d (Y : Tr → Trs → Prop) (N : Trs → Prop), d ∈ ds → (match f d with | some e => Y (.dat e) ts | none => N ts) → g (.dat d) (wipeA s vs) ts fun s2 ts2 => tt s2 ts2 fun k ts3 => if k = true then a s2 ts3 Y else N ts3)
    (q : Q (.dat (.list (ds.filterMap f))) ts) : LcG ⟨ds.map .dat, kp⟩ g tt a vs s ts Q :=
  lcX (l := ds) (c := .dat) rfl hk f hl (fun i d Y N hi h => step d Y N (List.mem_of_getElem? hi) h) q
theorem filterMap_if {α : Type} (p : α → Bool) : ∀ l : List α, l.filterMap (fun d => if p d = true then some d else none) = l.filter p
  | [] => rfl
  | x :: l => by cases e : p x <;> simp [List.filterMap_cons, List.filter_cons, e, filterMap_if p l]
theorem lcDp {ds : List PyData} {kp : Trs → Prop} (p : PyData → Bool) (hl : ds.length ≤ 100000) (hk : kp ts)
    (step : ∀ d (Y : Tr → Trs → Prop) (N : Trs → Prop), d ∈ ds → (if p d = true then Y (.dat d) ts else N ts) → g (.dat d) (wipeA s vs) ts fun s2 ts2 => tt s2 ts2 fun k ts3 => if k = true then a s2 ts3 Y else N ts3)
    (q : Q (.dat (.list (ds.filter p))) ts) : LcG ⟨ds.map .dat, kp⟩ g tt a vs s ts Q :=
  lcDf (fun d => if p d = true then some d else none) hl hk (fun d Y N hd h => step d Y N hd (by cases e : p d <;> simp [e] at h ⊢ <;> exact h)) (by rw [filterMap_if p ds]; exact q)
/-- over a range, mapped -/
theorem lcR {n : Nat} {F : Nat → Int} {kp : Trs → Prop} (f : Nat → PyData) (hl : n ≤ 100000) (hk : kp ts)
    (step : ∀ i (Y : Tr → Trs → Prop) (N : Trs → Prop), i < n → Y (.dat (f i)) ts → g (.dat (.int (F i))) (wipeA s vs) ts fun s2 ts2 => tt s2 ts2 fun k ts3 => if k = true then a s2 ts3 Y else N ts3)
    (q : Q (.dat (.list ((List.range n).map f))) ts) : LcG ⟨(List.range n).map fun k => .dat (.int (F k)), kp⟩ g tt a vs s ts Q :=
  lcX (l := List.range n) (c := fun k => .dat (.int (F k))) rfl hk (fun d => some (f d)) (by rw [List.length_range]; exact hl) (fun i d Y N hi h => step d Y N (List.mem_range.mp (List.mem_of_getElem? hi)) h) (by rw [List.filterMap_eq_map']; exact q)
theorem lcRf {n : Nat} {F : Nat → Int} {kp : Trs → Prop} (f : Nat → Option PyData) (hl : n ≤ 100000) (hk : kp ts)
    (step : ∀ i (Y : Tr → Trs → Prop) (N : Trs → Prop), i < n → (match f i with | some e => Y (.dat e) ts | none => N ts) → g (.dat (.int (F i))) (wipeA s vs) ts fun s2 ts2 => tt s2 ts2 fun k ts3 => if k = true then a s2 ts3 Y else N ts3)
    (q : Q (.dat (.list ((List.range n).filterMap f))) ts) : LcG ⟨(List.range n).map fun k => .dat (.int (F k)), kp⟩ g tt a vs s ts Q :=
  lcX (l := List.range n) (c := fun k => .dat (.int (F k))) rfl hk f (by rw [List.length_range]; exact hl) (fun i d Y N hi h => step d Y N (List.mem_range.mp (List.mem_of_getElem? hi)) h) q
end
section
variable {s : AS} {ts : Trs} {Q : AQ} {g : AG} {tt : AT} {a : AE} {vs : List Nat}
/-- .. that may change -/
def LcM (it : AIt) (g : AG) (tt : AT) (a : AE) (vs : List Nat) (s : AS) (ts : Trs) (Q : AQ) : Prop := ∃ J : Nat → Trs → Trs → Prop, J 0 [] ts ∧ (∀ i acc ts, J i acc ts → it.keep ts ∧ ndsL acc = []) ∧
  (∀ i x acc ts, it.items[i]? = some x → J i acc ts → g x (wipeA s vs) ts fun s2 ts2 => tt s2 ts2 fun k ts3 => if k = true then a s2 ts3 fun y ts4 => acc.length < 100000 ∧ J (i + 1) (acc ++ [y]) ts4 else J (i + 1) acc ts3) ∧
  ∀ acc ts, J it.items.length acc ts → ∀ p, Q (.val (.ref p)) (ts ++ [.lst p acc])
theorem lcMN {P : Prop} {ai : AI} (p : P) (h : ai s ts fun it ts1 => LcM it g tt a vs s ts1 Q) : aLcM P ai g tt a vs s ts Q := ⟨p, h⟩
theorem lcMX {it : AIt} {α : Type} {l : List α} {c : α → Tr} (e : it.items = l.map c) (hk : it.keep ts) (f : α → Option PyData) (hl : l.length ≤ 100000)
    (step : ∀ (i : Nat) (d : α) (Y : Tr → Trs → Prop) (N : Trs → Prop), l[i]? = some d → (match f d with | some e => Y (.dat e) ts | none => N ts) → g (c d) (wipeA s vs) ts fun s2 ts2 => tt s2 ts2 fun k ts3 => if k = true then a s2 ts3 Y else N ts3)
    (q : ∀ p, Q (.val (.ref p)) (ts ++ [.lst p ((l.filterMap f).map .dat)])) : LcM it g tt a vs s ts Q := by
  refine ⟨fun i acc ts' => ts' = ts ∧ acc = ((l.take i).filterMap f).map .dat, ⟨rfl, by simp⟩, fun i acc ts' ⟨h, h2⟩ => by rw [h, h2]; exact ⟨hk, ndsL_dats _⟩, fun i x acc ts' hi ⟨ht, ha⟩ => ?_, fun acc ts' ⟨ht, ha⟩ => ?_⟩
  · subst ht ha
    rw [e, List.getElem?_map] at hi
    cases z : l[i]? with
    | none => rw [z] at hi; cases hi
    | some d =>
      rw [z] at hi
      cases hi
      have il : i < l.length := (List.getElem?_eq_some_iff.mp z).1
      have hlen : (((l.take i).filterMap f).map Tr.dat).length < 100000 := by
        have := List.length_filterMap_le f (l.take i)
        rw [List.length_take] at this
        rw [List.length_map]
        omega
      refine step i d _ _ z ?_
      have ft := filterMap_take (f := f) z
      cases e2 : f d with
      | none => exact ⟨rfl, by rw [ft, e2, List.append_nil]⟩
      | some y => exact ⟨hlen, rfl, by rw [ft, e2, List.map_append]; rfl⟩
  · subst ht
    rw [e, List.length_map, List.take_length] at ha
    subst ha
    exact q
theorem lcMD {ds : List PyData} {kp : Trs → Prop} (f : PyData → PyData) (hl : ds.length ≤ 100000) (hk : kp ts)
    (step : ∀ d (Y : Tr → Trs → Prop) (N : Trs → Prop), d ∈ ds → Y (.dat (f d)) ts → g (.dat d) (wipeA s vs) ts fun s2 ts2 => tt s2 ts2 fun k ts3 => if k = true then a s2 ts3 Y else N ts3)
    (q : ∀ p, Q (.val (.ref p)) (ts ++ [.lst p ((ds.map f).map .dat)])) : LcM ⟨ds.map .dat, kp⟩ g tt a vs s ts Q :=
  lcMX (l := ds) (c := .dat) rfl hk (fun d => some (f d)) hl (fun i d Y N hi h => step d Y N (List.mem_of_getElem? hi) h) (by rw [List.filterMap_eq_map']; exact q)
theorem lcMR {n : Nat} {F : Nat → Int} {kp : Trs → Prop} (f : Nat → PyData) (hl : n ≤ 100000) (hk : kp ts)
    (step : ∀ i (Y : Tr → Trs → Prop) (N : Trs → Prop), i < n → Y (.dat (f i)) ts → g (.dat (.int (F i))) (wipeA s vs) ts fun s2 ts2 => tt s2 ts2 fun k ts3 => if k = true then a s2 ts3 Y else N ts3)
    (q : ∀ p, Q (.val (.ref p)) (ts ++ [.lst p (((List.range n).map f).map .dat)])) : LcM ⟨(List.range n).map fun k => .dat (.int (F k)), kp⟩ g tt a vs s ts Q :=
  lcMX (l := List.range n) (c := fun k => .dat (.int (F k))) rfl hk (fun d => some (f d)) (by rw [List.length_range]; exact hl) (fun i d Y N hi h => step d Y N (List.mem_range.mp (List.mem_of_getElem? hi)) h) (by rw [List.filterMap_eq_map']; exact q)
theorem lcMDf {ds : List PyData} {kp : Trs → Prop} (f : PyData → Option PyData) (hl : ds.length ≤ 100000) (hk : kp ts)
    (step : ∀ d (Y : Tr → Trs → Prop) (N : Trs → Prop), d ∈ ds → (match f d with | some e => Y (.dat e) ts | none => N ts) → g (.dat d) (wipeA s vs) ts fun s2 ts2 => tt s2 ts2 fun k ts3 => if k = true then a s2 ts3 Y else N ts3)
    (q : ∀ p, Q (.val (.ref p)) (ts ++ [.lst p ((ds.filterMap f).map .dat)])) : LcM ⟨ds.map .dat, kp⟩ g tt a vs s ts Q :=
  lcMX (l := ds) (c := .dat) rfl hk f hl (fun i d Y N hi h => step d Y N (List.mem_of_getElem? hi) h) q
end
section
variable {ts : Trs} {Q : AQ}
theorem ra_appD {p : Addr} {ds : List PyData} {c : Tr → Trs} {d : PyData} (f : FocL ts (.lst p (ds.map .dat)) c) (h : ds.length < 100000) (q : Q (.dat .none) (c (.lst p ((ds ++ [d]).map .dat)))) : aAppend (.val (.ref p)) [.dat d] ts Q :=
  ra_app f rfl (by rw [List.length_map]; exact h) (by rw [List.map_append] at q; exact q)
theorem ra_extD {p : Addr} {ds es : List PyData} {c : Tr → Trs} (f : FocL ts (.lst p (ds.map .dat)) c) (h : ds.length + es.length ≤ 100000) (q : Q (.dat .none) (c (.lst p ((ds ++ es).map .dat)))) : aExtend (.val (.ref p)) [.dat (.list es)] ts Q :=
  ra_extend f .dat (by rw [List.length_map, List.length_map]; exact h) (by rw [List.map_append] at q; exact q)
theorem ra_clrD {p : Addr} {xs : Trs} {c : Tr → Trs} (f : FocL ts (.lst p xs) c) (q : Q (.dat .none) (c (.lst p (([] : List PyData).map .dat)))) : aClear (.val (.ref p)) [] ts Q := ra_clear f q
end
section
variable {ts : Trs} {Q : AQ}
theorem fo_lenL {p : Addr} (h : ∃ xs c, FocL ts (.lst p xs) c ∧ Q (.dat (.int (xs.length : Nat))) ts) : aLen [.val (.ref p)] ts Q := let ⟨_, _, f, q⟩ := h; ra_lenL f q
theorem fo_isL {p : Addr} (h : ∃ xs c, FocL ts (.lst p xs) c ∧ Q (.dat (.bool true)) ts) : aIsi [.val (.ref p), .val (.ty "list")] ts Q := let ⟨_, _, f, q⟩ := h; ra_isL f (by decide) (by rw [show isK "list" "list" = true from rfl]; exact q)
theorem fo_isLr {p : Addr} {Z : Prop} (h : ∃ xs c, FocL ts (.lst p xs) c ∧ Z) : IsL (.val (.ref p)) ts ∧ Z := let ⟨_, _, f, q⟩ := h; ra_isLr f q
theorem fo_appD {p : Addr} {d : PyData} (h : ∃ ds c, FocL ts (.lst p (ds.map .dat)) c ∧ Q (.dat .none) (c (.lst p ((ds ++ [d]).map .dat))) ∧ ds.length < 100000) : aAppend (.val (.ref p)) [.dat d] ts Q := let ⟨_, _, f, q, l⟩ := h; ra_appD f l q
theorem fo_extD {p : Addr} {es : List PyData} (h : ∃ ds c, FocL ts (.lst p (ds.map .dat)) c ∧ Q (.dat .none) (c (.lst p ((ds ++ es).map .dat))) ∧ ds.length + es.length ≤ 100000) : aExtend (.val (.ref p)) [.dat (.list es)] ts Q := let ⟨_, _, f, q, l⟩ := h; ra_extD f l q
theorem fo_clrD {p : Addr} (h : ∃ xs c, FocL ts (.lst p xs) c ∧ Q (.dat .none) (c (.lst p (([] : List PyData).map .dat)))) : aClear (.val (.ref p)) [] ts Q := let ⟨_, _, f, q⟩ := h; ra_clrD f q
end
theorem forE {s : AS} {D : AD} {g : AG} {b : AX} {ds : List PyData} {ts1 : Trs} (J : Nat → AS → Trs → Prop) (h0 : J 0 s ts1) (hs : ∀ i d s ts, ds[i]? = some d → J i s ts → g (.dat (.tuple [.int (i : Nat), d])) s ts fun s2 ts2 => b { nx := aNxG (J (i + 1)), rt := D.rt, bk := aNxG D.nx, ct := aNxG (J (i + 1)) } s2 ts2)
    (hd : ∀ s ts, J ds.length s ts → aNxG D.nx s ts) : ∃ J : Nat → AS → Trs → Prop, aNxG (J 0) s ts1 ∧ (∀ i s ts, J i s ts → AIt.keep ⟨enumT (ds.map .dat) 0, fun _ => True⟩ ts) ∧
  (∀ i x s ts, (AIt.items ⟨enumT (ds.map .dat) 0, fun _ => True⟩)[i]? = some x → J i s ts → g x s ts fun s2 ts2 => b { nx := aNxG (J (i + 1)), rt := D.rt, bk := aNxG D.nx, ct := aNxG (J (i + 1)) } s2 ts2) ∧ ∀ s ts, J (AIt.items ⟨enumT (ds.map .dat) 0, fun _ => True⟩).length s ts → aNxG D.nx s ts := by
  rw [enumT_dat]
  refine forD J h0 (fun i d s ts hi j => ?_) (fun s ts j => hd s ts (by rw [enumD_len] at j; exact j))
  obtain ⟨e, h1, rfl⟩ := enumD_get hi
  rw [Nat.zero_add]
  exact hs i e s ts h1 j
/-! ### promises weakened, recursion -/
theorem spA_imp {K : PySem.W.Frag} {n : Nat} {asp asp' : ASp} {vs : List V} {H : Hp} {Q : VK} {E : XK} (i : ∀ us ts Q E, asp us ts Q E → asp' us ts Q E) (h : spA K n asp vs H Q E) : spA K n asp' vs H Q E := by
  obtain ⟨hn, O, us, ts, RH, Q', E', st, r, hs, cq, cx⟩ := h
  exact ⟨hn, O, us, ts, RH, Q', E', st, r, i _ _ _ _ hs, cq, cx⟩
theorem GF.imp {c : Bool} {P : Program} {w : World} {K : PySem.W.Frag} {mg : Str → Option Value} {base : Heap} {x : Str} {k n : Nat} {asp asp' : ASp} (h : GF c P w K mg base x k (spA K n asp')) (i : ∀ us ts Q E, asp us ts Q E → asp' us ts Q E) : GF c P w K mg base x k (spA K n asp) := by
  obtain ⟨f, h, r⟩ := h
  exact ⟨f, h.imp fun _ _ _ _ z => spA_imp i z, r⟩
theorem GF.nil {c : Bool} {P : Program} {w : World} {K : PySem.W.Frag} {mg : Str → Option Value} {base : Heap} {x : Str} {k n : Nat} {asp : ASp} (h : GF c P w K mg base x k (fun _ _ _ _ => False)) (i : ∀ us ts Q E, ¬ asp us ts Q E) : GF c P w K mg base x k (spA K n asp) := by
  obtain ⟨f, h, r⟩ := h
  exact ⟨f, h.imp fun _ _ _ _ ⟨_, _, _, _, _, _, _, _, _, z, _⟩ => i _ _ _ _ z, r⟩
theorem valOkAll_app {m : Nat} {l : List PyData} {d : PyData} (h : valOkAll m l = true) : valOkAll m (l ++ [d]) = valOk m d := by
  induction l with
  | nil => simp [valOkAll]
  | cons a l ih => simp only [List.cons_append, valOkAll, Bool.and_eq_true] at h ⊢; rw [h.1, ih h.2, Bool.true_and]
theorem take_app {α : Type} {l : List α} {i : Nat} {d : α} (h : l[i]? = some d) : l.take (i + 1) = l.take i ++ [d] := by
  rw [List.take_succ, h]; rfl
end GL

namespace GL
open PySem PySem.Spec PyProof.Rows L2 Evl

/-! ## records as data -/
structure Why where
  layout : Str := ""
  block : Str := ""
  value : Str := ""
  count : Str := ""
  choice : Str := ""
  space : Str := ""
  path : Str := ""
  entry : Str := ""
  has : Str := ""
  empty : Str := ""
  room : Str := ""
  rule : Str := ""
def eBlock (W : Why) (d : PyData) : Res := .err "BadBlock" [("block", d), ("why", .str W.block)]
def eCount (W : Why) (d : PyData) : Res := .err "BadCount" [("count", d), ("why", .str W.count)]
def eValue (W : Why) : Res := .err "BadValue" [("why", .str W.value)]
def firstBad : Int → List PyData → Option Nat
  | _, [] => none
  | l, d :: r => if betw d l 31 = true then (firstBad (intOf d + 1) r).map (· + 1) else some 0
theorem firstBad_cons {l : Int} {d : PyData} {r : List PyData} : firstBad l (d :: r) = if betw d l 31 = true then (firstBad (intOf d + 1) r).map (· + 1) else some 0 := rfl
def ckHomes (W : Why) (ds : List PyData) : Option Res := (firstBad 0 ds).map fun i => eBlock W (ds.getD i .none)
def isPair : PyData → Bool
  | .tuple [_, _] => true
  | _ => false
def itemsOf : PyData → List PyData
  | .list ds => ds
  | .tuple ds => ds
  | _ => []
def isPairs (d : PyData) : Bool := isLs d && (itemsOf d).all isPair
def fstD : PyData → PyData
  | .tuple (a :: _) => a
  | _ => .none
def sndD : PyData → PyData
  | .tuple (_ :: b :: _) => b
  | _ => .none
def ckCopies (W : Why) (d : PyData) : Option Res :=
  if isPairs d = true then (match ckHomes W ((itemsOf d).map fstD) with | some e => some e | none => if (itemsOf d).all (fun c => valOk 7 (sndD c)) = true then none else some (eValue W)) else some (eBlock W d)
def ckRevokes (W : Why) (d : PyData) : Option Res := if isLs d = true then ckHomes W (itemsOf d) else some (eBlock W d)
def ckNumber (W : Why) (d : PyData) : Option Res := if (isI d && decide (1 ≤ intOf d)) = true then none else some (eCount W d)
def groups {α : Type} (l : List α) : List (List α) := (List.range ((l.length + 7) / 8)).map fun k => (l.drop (8 * k)).take 8
def recsR (n : PyData) (rs : List PyData) : List PyData := (groups rs).map fun g => .tuple [.str "revoke", n, .tuple g]
def recG (n : PyData) (g : List PyData) : List PyData := .tuple [.str "descriptor", n, .tuple (g.map fstD)] :: g.map fun c => .tuple [.str "copy", n, sndD c]
def recsC (n : PyData) (cs : List PyData) : List PyData := (groups cs).flatMap (recG n)
def recs (n : PyData) (cs rs : List PyData) : List PyData := recsR n rs ++ recsC n cs ++ [.tuple [.str "commit", n]]
def recordsOf (W : Why) (n c r : PyData) : Res := (ckNumber W n).getD ((ckCopies W c).getD ((ckRevokes W r).getD (.ok (.list (recs n (itemsOf c) (itemsOf r))))))
def slotsNeeded (W : Why) (c r : PyData) : Res := (ckCopies W c).getD ((ckRevokes W r).getD (.ok (.int (recs (.int 1) (itemsOf c) (itemsOf r)).length)))
theorem ckHomes_err {W : Why} {ds : List PyData} {r : Res} (h : ckHomes W ds = some r) : ∃ x fs, r = .err x fs := by
  unfold ckHomes eBlock at h
  simp only [Option.map_eq_some_iff] at h
  obtain ⟨_, _, rfl⟩ := h
  exact ⟨_, _, rfl⟩
theorem ckNumber_err {W : Why} {d : PyData} {r : Res} (h : ckNumber W d = some r) : ∃ x fs, r = .err x fs := by
  unfold ckNumber eCount at h
  split at h
  · cases h
  · cases h; exact ⟨_, _, rfl⟩
theorem ckRevokes_err {W : Why} {d : PyData} {r : Res} (h : ckRevokes W d = some r) : ∃ x fs, r = .err x fs := by
  unfold ckRevokes eBlock at h
  split at h
  · exact ckHomes_err h
  · cases h; exact ⟨_, _, rfl⟩
theorem ckCopies_err {W : Why} {d : PyData} {r : Res} (h : ckCopies W d = some r) : ∃ x fs, r = .err x fs := by
  unfold ckCopies eBlock eValue at h
  split at h
  · split at h
    · rename_i e
      cases h
      exact ckHomes_err e
    · split at h
      · cases h
      · cases h; exact ⟨_, _, rfl⟩
  · cases h; exact ⟨_, _, rfl⟩
/-- what good copies and revokes are -/
structure CopOk (d : PyData) (ds : List PyData) : Prop where
  eq : d = .list ds
  pair : ∀ c ∈ ds, ∃ h v, c = .tuple [h, v] ∧ valOk 7 v = true
  fb : firstBad 0 (ds.map fstD) = none
theorem isPair_tup {d : PyData} (h : isPair d = true) : ∃ a b, d = .tuple [a, b] := by
  match d, h with
  | .tuple [a, b], _ => exact ⟨a, b, rfl⟩
theorem ckCopies_ok {W : Why} {d : PyData} (h : ckCopies W d = none) : CopOk d (itemsOf d) := by
  unfold ckCopies at h
  split at h
  · rename_i e
    have e0 := e
    unfold isPairs at e
    rw [Bool.and_eq_true] at e
    obtain ⟨ds, rfl⟩ := isLs_lst e.1
    split at h
    · cases h
    · rename_i e2
      split at h
      · rename_i e3
        refine ⟨rfl, fun c hc => ?_, ?_⟩
        · obtain ⟨a, b, rfl⟩ := isPair_tup (List.all_eq_true.mp e.2 c hc)
          exact ⟨a, b, rfl, List.all_eq_true.mp e3 _ hc⟩
        · unfold ckHomes at e2
          simpa using e2
      · cases h
  · cases h
theorem ckRevokes_ok {W : Why} {d : PyData} (h : ckRevokes W d = none) : d = .list (itemsOf d) ∧ firstBad 0 (itemsOf d) = none := by
  unfold ckRevokes at h
  split at h
  · rename_i e
    obtain ⟨ds, rfl⟩ := isLs_lst e
    refine ⟨rfl, ?_⟩
    unfold ckHomes at h
    simpa using h
  · cases h
/-- lists that are not too long -/
def short (d : PyData) : Prop := (itemsOf d).length ≤ 1000

theorem small_up8 {b : Int} (hb : -(2 ^ 62) ≤ b) (hb' : b < 2 ^ 62) : Builtin.Range.small 0 b 8 = true := by
  unfold Builtin.Range.small
  rw [show Builtin.Range.rangeSize 0 b 8 = (if 0 < b then (b - 0 - 1) / 8 + 1 else 0) from by unfold Builtin.Range.rangeSize; rw [if_pos (by decide)]]
  simp only [Builtin.Range.rangeFitsLong, Bool.and_eq_true, Bool.or_eq_true, decide_eq_true_eq, beq_iff_eq, show ((8 : Int) > 0) by decide, if_true]
  split <;> omega
theorem RgC.up8 {n : Nat} (h : n ≤ 100000) : RgC 0 (n : Int) 8 ((n + 7) / 8) := by
  refine ⟨by decide, by decide, small_up8 (by omega) (by omega), ?_⟩
  unfold Builtin.Range.rangeSize
  rw [if_pos (by decide)]
  split <;> omega
theorem cutG_8 {α : Type} (l : List α) (k : Nat) : cutG l (some ((k : Int) * 8)) (some ((k : Int) * 8 + 8)) = (l.drop (8 * k)).take 8 := by
  unfold cutG
  have e1 : (k : Int) * 8 = ((8 * k : Nat) : Int) := by omega
  have e2 : (k : Int) * 8 + 8 = ((8 * k + 8 : Nat) : Int) := by omega
  rw [e2, e1, HT.sIx_nat, HT.sIx_nat]
  by_cases h : 8 * k ≤ l.length
  · rw [Nat.min_eq_left h]
    by_cases h2 : 8 * k + 8 ≤ l.length
    · rw [Nat.min_eq_left h2]; congr 1; omega
    · rw [Nat.min_eq_right (by omega)]
      rw [List.take_of_length_le (by rw [List.length_drop]; omega), List.take_of_length_le (by rw [List.length_drop]; omega)]
  · rw [Nat.min_eq_right (by omega), List.drop_eq_nil_of_le (by omega), List.drop_eq_nil_of_le (by omega)]; simp
theorem firstBad_len : ∀ {ds : List PyData} {l : Int}, 0 ≤ l → l ≤ 32 → firstBad l ds = none → (ds.length : Int) ≤ 32 - l
  | [], l, h0, h, _ => by simp; omega
  | d :: ds, l, h0, h, e => by
    unfold firstBad at e
    split at e
    · rename_i b
      have e' : firstBad (intOf d + 1) ds = none := by simpa using e
      simp only [betw, Bool.and_eq_true, decide_eq_true_eq] at b
      have := firstBad_len (ds := ds) (l := intOf d + 1) (by omega) (by omega) e'
      simp only [List.length_cons]
      omega
    · cases e
theorem firstBad_lt : ∀ {ds : List PyData} {l : Int} {i : Nat}, firstBad l ds = some i → i < ds.length
  | [], _, _, h => by simp [firstBad] at h
  | d :: ds, l, i, h => by
    rw [firstBad_cons] at h
    split at h
    · simp only [Option.map_eq_some_iff] at h
      obtain ⟨j, h1, rfl⟩ := h
      have := firstBad_lt h1
      simp; omega
    · cases h; simp
theorem flat_le {α β : Type} {f : α → List β} {m : Nat} : ∀ {l : List α}, (∀ x ∈ l, (f x).length ≤ m) → (l.flatMap f).length ≤ m * l.length
  | [], _ => by simp
  | x :: l, h => by
    have h1 := flat_le (l := l) fun y hy => h y (List.mem_cons_of_mem _ hy)
    have h2 := h x List.mem_cons_self
    rw [List.flatMap_cons, List.length_append, List.length_cons, Nat.mul_add]
    omega
theorem groups_len {α : Type} (l : List α) : (groups l).length = (l.length + 7) / 8 := by unfold groups; rw [List.length_map, List.length_range]
theorem groups_mem {α : Type} {l g : List α} (h : g ∈ groups l) : g.length ≤ 8 ∧ ∀ x ∈ g, x ∈ l := by
  unfold groups at h
  obtain ⟨k, _, rfl⟩ := List.mem_map.mp h
  exact ⟨by rw [List.length_take]; omega, fun x hx => List.mem_of_mem_drop (List.mem_of_mem_take hx)⟩
end GL

namespace GL
open PySem PySem.Spec PyProof.Rows L2 Evl

/-! ## small numbers -/
mutual
def smI : PyData → Bool
  | .int i => decide (i.natAbs < 10 ^ 22)
  | .list xs => decide (xs.length ≤ 1000) && smIA xs
  | .tuple xs => decide (xs.length ≤ 1000) && smIA xs
  | _ => true
def smIA : List PyData → Bool
  | [] => true
  | x :: xs => smI x && smIA xs
end
theorem smI_all : ∀ {ds : List PyData}, (∀ d ∈ ds, smI d = true) → smIA ds = true
  | [], _ => rfl
  | d :: ds, h => by simp only [smIA, Bool.and_eq_true]; exact ⟨h d List.mem_cons_self, smI_all fun x hx => h x (List.mem_cons_of_mem _ hx)⟩
theorem smI_mem : ∀ {ds : List PyData}, smIA ds = true → ∀ d ∈ ds, smI d = true
  | [], _, _, h => by cases h
  | d :: ds, h, x, hx => by
    simp only [smIA, Bool.and_eq_true] at h
    rcases List.mem_cons.mp hx with rfl | hx
    · exact h.1
    · exact smI_mem h.2 x hx
structure Vs (k : Nat) (d : PyData) : Prop extends Vd k d where
  sm : smI d = true
theorem Vs.up {j k : Nat} {d : PyData} (h : Vs j d) (z : j ≤ k) : Vs k d := ⟨h.toVd.up z, h.sm⟩
theorem Vs.int {i : Int} (h : i.natAbs < 10 ^ 21) : Vs 0 (.int i) := ⟨.int h, by simp only [smI, decide_eq_true_eq]; omega⟩
theorem Vs.str {x : Str} (h : PyData.strOk x = true) (hl : x.cps.size ≤ 130) : Vs 0 (.str x) := ⟨.str h hl, rfl⟩
theorem Vs.tuple {k : Nat} {ds : List PyData} (h : ∀ d ∈ ds, Vs k d) (hl : ds.length ≤ 3) : Vs (k + 1) (.tuple ds) := ⟨.tuple (fun d hd => (h d hd).toVd) hl, by simp only [smI, Bool.and_eq_true, decide_eq_true_eq]; exact ⟨by omega, smI_all fun d hd => (h d hd).sm⟩⟩
/-! ## wells over trees -/
abbrev wlT (p : Addr) (x c k : Int) : Tr := .lst p [.dat (.int x), .dat (.int c), .dat (.int k)]
def Wt (p : Addr) (n : Int) (t : Tr) : Prop := ∃ x c k : Int, t = wlT p x c k ∧ 0 ≤ k ∧ k ≤ n
theorem Wt.mono {p : Addr} {n m : Int} {t : Tr} (h : Wt p n t) (z : n ≤ m) : Wt p m t := by
  obtain ⟨x, c, k, e, h0, h1⟩ := h
  exact ⟨x, c, k, e, h0, by omega⟩
def asW1 (cost : Int) (R : PyData → Prop) : ASp := fun us ts Q E => ∃ p t n, us = [.val (.ref p)] ∧ ts = [t] ∧ Wt p n t ∧ n + cost ≤ 100000 ∧ ∀ r t', R r → Wt p (n + cost) t' → Q (.dat r) [t']
def asW2 (cost : Int) (P : PyData → Prop) (R : PyData → PyData → Prop) : ASp := fun us ts Q E => ∃ p t n a, us = [.val (.ref p), .dat a] ∧ ts = [t] ∧ Wt p n t ∧ n + cost ≤ 100000 ∧ P a ∧ ∀ r t', R a r → Wt p (n + cost) t' → Q (.dat r) [t']
def asW3 (cost : Int) (P : PyData → PyData → Prop) (R : PyData → PyData → PyData → Prop) : ASp := fun us ts Q E => ∃ p t n a b, us = [.val (.ref p), .dat a, .dat b] ∧ ts = [t] ∧ Wt p n t ∧ n + cost ≤ 100000 ∧ P a b ∧ ∀ r t', R a b r → Wt p (n + cost) t' → Q (.dat r) [t']
section
variable {rest : Trs} {Q : AQ} {E : AZ} {p : Addr} {t : Tr} {n cost : Int}
theorem go_head {m : Nat} {asp : ASp} {us : Trs} (hn : us.length = m) (h : asp us [t] (fun v sub => 1 ≤ sub.length ∧ Q v (match sub with | u :: r => u :: (rest ++ r) | [] => [])) (fun x fs sub => 1 ≤ sub.length ∧ E x fs (match sub with | u :: r => u :: (rest ++ r) | [] => []))) : aGo m asp us (t :: rest) Q E := by
  refine ⟨hn, [t], _, _, Frm.roots [0] (by simp [okIx]), ?_⟩
  have e : ∀ u r, putAt (t :: rest) [0] (u :: r) = u :: (rest ++ r) := fun u r => by simp [putAt, setAt]
  have e1 : (fun v sub => ([0] : List Nat).length ≤ sub.length ∧ Q v (putAt (t :: rest) [0] sub)) = fun v sub => 1 ≤ sub.length ∧ Q v (match sub with | u :: r => u :: (rest ++ r) | [] => []) := by
    funext v sub
    cases sub with
    | nil => simp
    | cons u r => rw [e]; rfl
  have e2 : (fun (x : Str) (fs : List (Str × Tr)) sub => ([0] : List Nat).length ≤ sub.length ∧ E x fs (putAt (t :: rest) [0] sub)) = fun x fs sub => 1 ≤ sub.length ∧ E x fs (match sub with | u :: r => u :: (rest ++ r) | [] => []) := by
    funext x fs sub
    cases sub with
    | nil => simp
    | cons u r => rw [e]; rfl
  rw [e1, e2]
  exact h
theorem ra_goW1 {R : PyData → Prop} (w : Wt p n t) (c : n + cost ≤ 100000) (h : ∀ r t', R r → Wt p (n + cost) t' → Q (.dat r) (t' :: rest)) : aGo 1 (asW1 cost R) [.val (.ref p)] (t :: rest) Q E :=
  go_head rfl ⟨p, t, n, rfl, rfl, w, c, fun r t' hr w' => ⟨by simp, by simpa using h r t' hr w'⟩⟩
theorem ra_goW2 {P : PyData → Prop} {R : PyData → PyData → Prop} {a : PyData} (w : Wt p n t) (c : n + cost ≤ 100000) (ha : P a) (h : ∀ r t', R a r → Wt p (n + cost) t' → Q (.dat r) (t' :: rest)) : aGo 2 (asW2 cost P R) [.val (.ref p), .dat a] (t :: rest) Q E :=
  go_head rfl ⟨p, t, n, a, rfl, rfl, w, c, ha, fun r t' hr w' => ⟨by simp, by simpa using h r t' hr w'⟩⟩
theorem ra_goW3 {P : PyData → PyData → Prop} {R : PyData → PyData → PyData → Prop} {a b : PyData} (w : Wt p n t) (c : n + cost ≤ 100000) (ha : P a b) (h : ∀ r t', R a b r → Wt p (n + cost) t' → Q (.dat r) (t' :: rest)) : aGo 3 (asW3 cost P R) [.val (.ref p), .dat a, .dat b] (t :: rest) Q E :=
  go_head rfl ⟨p, t, n, a, b, rfl, rfl, w, c, ha, fun r t' hr w' => ⟨by simp, by simpa using h r t' hr w'⟩⟩
end
section
variable {s : AS} {ts : Trs} {Q : AQ}
theorem fo_ixD {p : Addr} {i : Int} (h : ∃ xs c d, FocL ts (.lst p xs) c ∧ atI xs i = some (.dat d) ∧ Q (.dat d) ts) : aIx (.val (.ref p)) (.dat (.int i)) ts Q := let ⟨_, _, d, f, e, q⟩ := h; ra_ixL f e q
theorem fo_ixL {p : Addr} {i : Int} (h : ∃ xs c t, FocL ts (.lst p xs) c ∧ atI xs i = some t ∧ Q (vo t) ts) : aIx (.val (.ref p)) (.dat (.int i)) ts Q := let ⟨_, _, d, f, e, q⟩ := h; ra_ixL f e q
theorem fo_ixDl {ds : List PyData} {i : Int} (h : ∃ d, atI ds i = some d ∧ Q (.dat d) ts) : aIx (.dat (.list ds)) (.dat (.int i)) ts Q := let ⟨d, e, q⟩ := h; ra_ixD e q
theorem fo_ixDt {ds : List PyData} {i : Int} (h : ∃ d, atI ds i = some d ∧ Q (.dat d) ts) : aIx (.dat (.tuple ds)) (.dat (.int i)) ts Q := let ⟨d, e, q⟩ := h; ra_ixT e q
theorem ra_gset {a b : AE} {v : Tr} {R : AS → Trs → Prop} (h : a s ts fun o ts1 => b s ts1 fun i ts2 => ∃ p xs c k j, o = .val (.ref p) ∧ i = .dat (.int k) ∧ FocL ts2 (.lst p xs) c ∧ ixN xs.length k = some j ∧ nds v = [] ∧ ndsL xs = [] ∧ R s (c (.lst p (xs.set j v)))) : aGSetL a b v s ts R := h
end
abbrev A_draw : ASp := asW2 1 (fun m => ∃ i : Int, m = .int i ∧ 1 ≤ i ∧ i ≤ 1000000000000) fun m r => ∃ i j : Int, m = .int i ∧ r = .int j ∧ 0 ≤ j ∧ j < i
abbrev A_one : ASp := asW2 1 (fun d => ∃ ds, d = .list ds ∧ 1 ≤ ds.length ∧ ds.length ≤ 1000) fun d r => ∃ ds, d = .list ds ∧ r ∈ ds
abbrev A_value (k : Nat) : ASp := asW2 (costV k) (fun d => d = .int k) fun _ r => Vs k r
abbrev A_valueP (k : Nat) : ASp := asW2 (costV (k - 1)) (fun d => 1 ≤ k ∧ d = .int (k - 1 : Nat)) fun _ r => Vs (k - 1) r
section
variable {rest : Trs} {Q : AQ} {E : AZ} {p : Addr} {t : Tr} {n : Int}
theorem ra_draw {m : Int} (w : Wt p n t) (c : n + 1 ≤ 100000) (m1 : 1 ≤ m) (m2 : m ≤ 1000000000000) (h : ∀ (r : Int) t', 0 ≤ r → r < m → Wt p (n + 1) t' → Q (.dat (.int r)) (t' :: rest)) : aGo 2 A_draw [.val (.ref p), .dat (.int m)] (t :: rest) Q E :=
  ra_goW2 w c ⟨_, rfl, m1, m2⟩ fun r t' ⟨i, j, e, e2, h0, h1⟩ w' => by cases e; subst e2; exact h j t' h0 h1 w'
theorem ra_oneW {ds : List PyData} (w : Wt p n t) (c : n + 1 ≤ 100000) (m1 : 1 ≤ ds.length) (m2 : ds.length ≤ 1000) (h : ∀ r t', r ∈ ds → Wt p (n + 1) t' → Q (.dat r) (t' :: rest)) : aGo 2 A_one [.val (.ref p), .dat (.list ds)] (t :: rest) Q E :=
  ra_goW2 w c ⟨_, rfl, m1, m2⟩ fun r t' ⟨ds', e, h1⟩ w' => by cases e; exact h r t' h1 w'
end
inductive All2 {α β : Type} (R : α → β → Prop) : List α → List β → Prop
  | nil : All2 R [] []
  | cons {x : α} {y : β} {xs : List α} {ys : List β} (h : R x y) (r : All2 R xs ys) : All2 R (x :: xs) (y :: ys)
theorem All2.app {α β : Type} {R : α → β → Prop} : ∀ {xs xs' : List α} {ys ys' : List β}, All2 R xs ys → All2 R xs' ys' → All2 R (xs ++ xs') (ys ++ ys')
  | _, _, _, _, .nil, r => r
  | _, _, _, _, .cons h r, r' => .cons h (r.app r')
theorem All2.len {α β : Type} {R : α → β → Prop} : ∀ {xs : List α} {ys : List β}, All2 R xs ys → xs.length = ys.length
  | _, _, .nil => rfl
  | _, _, .cons _ r => by simp [r.len]
theorem All2.memR {α β : Type} {R : α → β → Prop} : ∀ {xs : List α} {ys : List β}, All2 R xs ys → ∀ y ∈ ys, ∃ x ∈ xs, R x y
  | _, _, .nil, _, h => by cases h
  | _, _, .cons h r, y, hy => by
    rcases List.mem_cons.mp hy with rfl | hy
    · exact ⟨_, List.mem_cons_self, h⟩
    · obtain ⟨x, h1, h2⟩ := r.memR y hy
      exact ⟨x, List.mem_cons_of_mem _ h1, h2⟩
theorem All2.imp {α β : Type} {R S : α → β → Prop} (h : ∀ x y, R x y → S x y) : ∀ {xs : List α} {ys : List β}, All2 R xs ys → All2 S xs ys
  | _, _, .nil => .nil
  | _, _, .cons a r => .cons (h _ _ a) (r.imp h)
theorem All2.map_eq {α β : Type} {f : α → β} : ∀ {xs : List α} {ys : List β}, All2 (fun x y => y = f x) xs ys → ys = xs.map f
  | _, _, .nil => rfl
  | _, _, .cons h r => by rw [h, r.map_eq]; rfl
/-! ### comprehensions that draw -/
section
variable {s : AS} {rest : Trs} {Q : AQ} {g : AG} {tt : AT} {a : AE} {vs : List Nat} {p : Addr} {t : Tr} {n cost : Int}
theorem mul_step (i : Nat) (cost : Int) : ((i + 1 : Nat) : Int) * cost = (i : Int) * cost + cost := by rw [show ((i + 1 : Nat) : Int) = (i : Int) + 1 from rfl, Int.add_mul, Int.one_mul]
theorem lcWf {it : AIt} {α : Type} {l : List α} {c : α → Tr} (e : it.items = l.map c) (hk : ∀ ts, it.keep ts) (R : α → PyData → Prop) (hl : l.length ≤ 1000) (w : Wt p n t) (c0 : 0 ≤ cost) (hn : n + l.length * cost ≤ 100000)
    (step : ∀ (i : Nat) (d : α) (t : Tr) (m : Int) (Y : Tr → Trs → Prop) (N : Trs → Prop), l[i]? = some d → Wt p m t → m + cost ≤ 100000 → (∀ y t', R d y → Wt p (m + cost) t' → Y (.dat y) (t' :: rest)) → (∀ t', Wt p (m + cost) t' → N (t' :: rest)) →
      g (c d) (wipeA s vs) (t :: rest) fun s2 ts2 => tt s2 ts2 fun k ts3 => if k = true then a s2 ts3 Y else N ts3)
    (q : ∀ xs ys t', xs.Sublist l → All2 R xs ys → Wt p (n + l.length * cost) t' → Q (.dat (.list ys)) (t' :: rest)) : LcG it g tt a vs s (t :: rest) Q := by
  refine ⟨fun i acc ts => ∃ t xs, ts = t :: rest ∧ Wt p (n + i * cost) t ∧ xs.Sublist (l.take i) ∧ All2 R xs acc, ⟨t, [], rfl, by simpa using w, by simp, .nil⟩, fun i acc ts _ => hk ts, ?_, ?_⟩
  · rintro i x acc ts hi ⟨t, xs, rfl, w, sub, al⟩
    rw [e, List.getElem?_map] at hi
    cases z : l[i]? with
    | none => rw [z] at hi; cases hi
    | some d =>
      rw [z] at hi
      cases hi
      have il : i < l.length := (List.getElem?_eq_some_iff.mp z).1
      have hm : ((i + 1 : Nat) : Int) * cost ≤ (l.length : Nat) * cost := Int.mul_le_mul_of_nonneg_right (by omega) c0
      rw [mul_step] at hm
      have sl := sub.length_le
      rw [List.length_take] at sl
      have al2 := al.len
      refine step i d t _ _ _ z w (by omega) (fun y t' hy w' => ⟨y, rfl, by omega, t', xs ++ [d], rfl, by rw [mul_step, ← Int.add_assoc]; exact w', ?_, al.app (.cons hy .nil)⟩) fun t' w' => ⟨t', xs, rfl, by rw [mul_step, ← Int.add_assoc]; exact w', ?_, al⟩
      · rw [filterMap_take.take_app0 z]; exact sub.append (List.Sublist.refl _)
      · rw [filterMap_take.take_app0 z]; exact sub.trans (List.sublist_append_left _ _)
  · rintro acc ts ⟨t, xs, rfl, w, sub, al⟩
    rw [e, List.length_map] at w sub
    rw [List.take_length] at sub
    exact q xs acc t sub al w
theorem lcW {it : AIt} {α : Type} {l : List α} {c : α → Tr} (e : it.items = l.map c) (hk : ∀ ts, it.keep ts) (R : α → PyData → Prop) (hl : l.length ≤ 1000) (w : Wt p n t) (c0 : 0 ≤ cost) (hn : n + l.length * cost ≤ 100000)
    (step : ∀ (i : Nat) (d : α) (t : Tr) (m : Int) (Y : Tr → Trs → Prop) (N : Trs → Prop), l[i]? = some d → Wt p m t → m + cost ≤ 100000 → (∀ y t', R d y → Wt p (m + cost) t' → Y (.dat y) (t' :: rest)) →
      g (c d) (wipeA s vs) (t :: rest) fun s2 ts2 => tt s2 ts2 fun k ts3 => if k = true then a s2 ts3 Y else N ts3)
    (q : ∀ ys t', All2 R l ys → Wt p (n + l.length * cost) t' → Q (.dat (.list ys)) (t' :: rest)) : LcG it g tt a vs s (t :: rest) Q := by
  refine ⟨fun i acc ts => ∃ t, ts = t :: rest ∧ Wt p (n + i * cost) t ∧ All2 R (l.take i) acc, ⟨t, rfl, by simpa using w, .nil⟩, fun i acc ts _ => hk ts, ?_, ?_⟩
  · rintro i x acc ts hi ⟨t, rfl, w, al⟩
    rw [e, List.getElem?_map] at hi
    cases z : l[i]? with
    | none => rw [z] at hi; cases hi
    | some d =>
      rw [z] at hi
      cases hi
      have il : i < l.length := (List.getElem?_eq_some_iff.mp z).1
      have hm : ((i + 1 : Nat) : Int) * cost ≤ (l.length : Nat) * cost := Int.mul_le_mul_of_nonneg_right (by omega) c0
      rw [mul_step] at hm
      have al2 := al.len
      rw [List.length_take] at al2
      exact step i d t _ _ _ z w (by omega) fun y t' hy w' => ⟨y, rfl, by omega, t', rfl, by rw [mul_step, ← Int.add_assoc]; exact w', by rw [filterMap_take.take_app0 z]; exact al.app (.cons hy .nil)⟩
  · rintro acc ts ⟨t, rfl, w, al⟩
    rw [e, List.length_map] at w al
    rw [List.take_length] at al
    exact q acc t al w
end
end GL

namespace GL
open PySem PySem.Spec PyProof.Rows L2 Evl

/-! ## texts that repr makes -/
def okS (x : Str) : Prop := ∀ c ∈ x.cps.toList, c < 0x110000
theorem okS_iff {x : Str} : PyData.strOk x = true ↔ okS x := by
  unfold PyData.strOk okS
  rw [← Array.all_toList, List.all_eq_true]
  simp only [decide_eq_true_eq]
theorem okS_app {x y : Str} (h : okS x) (g : okS y) : okS (x ++ y) := fun c hc => by
  rw [show (x ++ y).cps = x.cps ++ y.cps from rfl, Array.toList_append] at hc
  exact (List.mem_append.mp hc).elim (h c) (g c)
theorem char_lt (c : Char) : c.toNat < 0x110000 := by
  have := c.valid
  unfold UInt32.isValidChar Nat.isValidChar at this
  show c.val.toNat < _
  omega
theorem okS_of (s : String) : okS (Str.ofString s) := fun c hc => by
  rw [Str.ofString_eq_toList] at hc
  obtain ⟨a, _, rfl⟩ := List.mem_map.mp hc
  exact char_lt a
theorem okS_empty : okS Str.empty := fun c hc => by simp [Str.empty] at hc
theorem reprChar_ok {q c : Nat} (hq : q < 0x110000) (hc : c < 0x110000) : ∀ x ∈ Builtin.Str.reprChar q c, x < 0x110000 := by
  have hx : ∀ (w : Nat), ∀ x ∈ List.replicate (w - ((Nat.toDigits 16 c).map Char.toNat).length) 48 ++ (Nat.toDigits 16 c).map Char.toNat, x < 0x110000 := fun w x h => by
    rcases List.mem_append.mp h with z | z
    · rw [(List.mem_replicate.mp z).2]; decide
    · obtain ⟨a, _, rfl⟩ := List.mem_map.mp z; exact char_lt a
  intro x h
  unfold Builtin.Str.reprChar at h
  dsimp only at h
  repeat' split at h
  all_goals first
    | (simp only [List.mem_cons, List.not_mem_nil, or_false] at h; rcases h with rfl | rfl <;> omega)
    | (simp only [List.mem_cons, List.not_mem_nil, or_false] at h; subst h; exact hc)
    | (rcases List.mem_append.mp h with z | z
       · simp only [List.mem_cons, List.not_mem_nil, or_false] at z; rcases z with rfl | rfl <;> decide
       · exact hx _ x z)
theorem foldl_ok {q : Nat} (hq : q < 0x110000) : ∀ (l : List Nat) (acc : Array Nat), (∀ c ∈ l, c < 0x110000) → (∀ c ∈ acc.toList, c < 0x110000) → ∀ c ∈ (l.foldl (fun out c => out ++ (Builtin.Str.reprChar q c).toArray) acc).toList, c < 0x110000
  | [], acc, _, h => h
  | c :: r, acc, hl, h => foldl_ok hq r _ (fun d hd => hl d (List.mem_cons_of_mem _ hd)) fun d hd => by
    rw [Array.toList_append] at hd
    rcases List.mem_append.mp hd with z | z
    · exact h d z
    · exact reprChar_ok hq (hl c List.mem_cons_self) d (by simpa using z)
theorem reprText_ok {x : Str} (h : okS x) : okS (reprText x) := fun c hc => by
  have hq : reprQuote x < 0x110000 := by unfold reprQuote; split <;> decide
  have hc : c ∈ ((x.cps.foldl (fun out c => out ++ (Builtin.Str.reprChar (reprQuote x) c).toArray) #[reprQuote x]).push (reprQuote x)).toList := hc
  rw [Array.toList_push, ← Array.foldl_toList] at hc
  rcases List.mem_append.mp hc with z | z
  · exact foldl_ok hq _ _ h (fun d hd => by simp at hd; rw [hd]; exact hq) c z
  · simp at z; rw [z]; exact hq
theorem join_ok {s : Str} (hs : okS s) : ∀ {ts : List Str}, (∀ t ∈ ts, okS t) → okS (Str.join s ts)
  | [], _ => okS_empty
  | [x], h => h x List.mem_cons_self
  | x :: y :: r, h => okS_app (okS_app (h x List.mem_cons_self) hs) (join_ok hs fun t ht => h t (List.mem_cons_of_mem _ ht))
mutual
def txtOk : PyData → Bool
  | .str x => PyData.strOk x
  | .list xs => txtOkA xs
  | .tuple xs => txtOkA xs
  | .dict kvs => txtOkK kvs
  | _ => true
def txtOkA : List PyData → Bool
  | [] => true
  | x :: xs => txtOk x && txtOkA xs
def txtOkK : List (PyData × PyData) → Bool
  | [] => true
  | (k, v) :: r => txtOk k && txtOk v && txtOkK r
end
mutual
theorem shown_ok : ∀ d : PyData, txtOk d = true → okS d.shown
  | .none, _ => okS_of "None"
  | .bool b, _ => by simp only [PyData.shown]; cases b <;> exact okS_of _
  | .int i, _ => by simp only [PyData.shown]; exact okS_of _
  | .str x, h => by simp only [PyData.shown]; exact reprText_ok (okS_iff.mp (by simpa [txtOk] using h))
  | .list xs, h => by
    simp only [PyData.shown]
    rw [listText_eq_join]
    exact okS_app (okS_app (okS_of _) (join_ok (okS_of _) (shownAll_ok xs (by simpa [txtOk] using h)))) (okS_of _)
  | .tuple xs, h => by
    simp only [PyData.shown]
    unfold tupleText
    exact okS_app (okS_app (okS_of _) (join_ok (okS_of _) (shownAll_ok xs (by simpa [txtOk] using h)))) (okS_of _)
  | .dict kvs, h => by
    simp only [PyData.shown]
    unfold dictText
    exact okS_app (okS_app (okS_of _) (join_ok (okS_of _) (shownKv_ok kvs (by simpa [txtOk] using h)))) (okS_of _)
theorem shownAll_ok : ∀ ds : List PyData, txtOkA ds = true → ∀ t ∈ PyData.shownAll ds, okS t
  | [], _, t, ht => by simp [PyData.shownAll] at ht
  | d :: ds, h, t, ht => by
    simp only [txtOkA, Bool.and_eq_true] at h
    simp only [PyData.shownAll, List.mem_cons] at ht
    rcases ht with rfl | ht
    · exact shown_ok d h.1
    · exact shownAll_ok ds h.2 t ht
theorem shownKv_ok : ∀ kvs : List (PyData × PyData), txtOkK kvs = true → ∀ t ∈ PyData.shownKv kvs, okS t
  | [], _, t, ht => by simp [PyData.shownKv] at ht
  | (k, v) :: r, h, t, ht => by
    simp only [txtOkK, Bool.and_eq_true] at h
    simp only [PyData.shownKv, List.mem_cons] at ht
    rcases ht with rfl | ht
    · exact okS_app (okS_app (shown_ok k h.1.1) (okS_of _)) (shown_ok v h.1.2)
    · exact shownKv_ok r h.2 t ht
end
/-! ## data that can be shown, data that can be compared -/
structure Rp (k w : Nat) (d : PyData) : Prop where
  show_ : d.showable = true
  short : d.leavesShort 25 = true
  txt : txtOk d = true
  dep : d.depth ≤ k
  wt : d.weight ≤ w
structure Lay (k : Nat) (d : PyData) : Prop where
  lay : d.canLay0 = true
  dep : d.depth ≤ k
theorem Rp.mono {k k' w w' : Nat} {d : PyData} (h : Rp k w d) (a : k ≤ k') (b : w ≤ w') : Rp k' w' d := ⟨h.show_, h.short, h.txt, Nat.le_trans h.dep a, Nat.le_trans h.wt b⟩
theorem Lay.mono {k k' : Nat} {d : PyData} (h : Lay k d) (a : k ≤ k') : Lay k' d := ⟨h.lay, Nat.le_trans h.dep a⟩
theorem Rp.sh {k w : Nat} {d : PyData} (h : Rp k w d) (hk : k ≤ 60) (hw : w ≤ 620000) : Sh d := by
  refine ⟨h.show_, Nat.le_trans h.dep hk, ?_⟩
  have e := PyData.shown_le 25 (by decide) d h.short
  have b := h.wt
  rw [sizeLine_eq]
  omega
theorem Rp.shown {k w : Nat} {d : PyData} (h : Rp k w d) : Lay 0 (.str d.shown) := ⟨by simp only [PyData.canLay0]; exact okS_iff.mpr (shown_ok d h.txt), by simp [PyData.depth]⟩
theorem Lay.shaped {k : Nat} {d : PyData} (h : Lay k d) (hk : k ≤ 64) : SeqAt.shaped d = true := by
  unfold SeqAt.shaped
  rw [h.lay, Bool.true_and, decide_eq_true_eq]
  exact Nat.le_trans h.dep hk
theorem Lay.eqv {k : Nat} {d : PyData} (h : Lay k d) : PyData.eqv d d = true := SeqAt.eqv_refl d h.lay
theorem canLay_all : ∀ {ds : List PyData}, (∀ d ∈ ds, d.canLay0 = true) → PyData.canLayAll0 ds = true
  | [], _ => rfl
  | d :: ds, h => by simp only [PyData.canLayAll0, Bool.and_eq_true]; exact ⟨h d List.mem_cons_self, canLay_all fun x hx => h x (List.mem_cons_of_mem _ hx)⟩
theorem depth_all {k : Nat} : ∀ {ds : List PyData}, (∀ d ∈ ds, d.depth ≤ k) → PyData.depthAll ds ≤ k
  | [], _ => by simp [PyData.depthAll]
  | d :: ds, h => by
    simp only [PyData.depthAll]
    exact Nat.max_le.mpr ⟨h d List.mem_cons_self, depth_all fun x hx => h x (List.mem_cons_of_mem _ hx)⟩
theorem Lay.list {k : Nat} {ds : List PyData} (h : ∀ d ∈ ds, Lay k d) : Lay (k + 1) (.list ds) :=
  ⟨by simp only [PyData.canLay0]; exact canLay_all fun d hd => (h d hd).lay, by simp only [PyData.depth]; have := depth_all fun d hd => (h d hd).dep; omega⟩
theorem Lay.tuple {k : Nat} {ds : List PyData} (h : ∀ d ∈ ds, Lay k d) : Lay (k + 1) (.tuple ds) :=
  ⟨by simp only [PyData.canLay0]; exact canLay_all fun d hd => (h d hd).lay, by simp only [PyData.depth]; have := depth_all fun d hd => (h d hd).dep; omega⟩
theorem Lay.int (i : Int) : Lay 0 (.int i) := ⟨by simp [PyData.canLay0], by simp [PyData.depth]⟩
theorem Lay.bool (b : Bool) : Lay 0 (.bool b) := ⟨by simp [PyData.canLay0], by simp [PyData.depth]⟩
theorem Lay.none : Lay 0 .none := ⟨by simp [PyData.canLay0], by simp [PyData.depth]⟩
theorem Lay.str {x : Str} (h : PyData.strOk x = true) : Lay 0 (.str x) := ⟨by simp only [PyData.canLay0]; exact h, by simp [PyData.depth]⟩
theorem Lay.lit (s : String) : Lay 0 (.str (Str.ofString s)) := .str (okS_iff.mpr (okS_of s))
theorem leaves_all : ∀ {ds : List PyData}, (∀ d ∈ ds, d.leavesShort 25 = true) → PyData.leavesShortAll 25 ds = true
  | [], _ => rfl
  | d :: ds, h => by simp only [PyData.leavesShortAll, Bool.and_eq_true]; exact ⟨h d List.mem_cons_self, leaves_all fun x hx => h x (List.mem_cons_of_mem _ hx)⟩
theorem showable_all : ∀ {ds : List PyData}, (∀ d ∈ ds, d.showable = true) → PyData.showableAll ds = true
  | [], _ => rfl
  | d :: ds, h => by simp only [PyData.showableAll, Bool.and_eq_true]; exact ⟨h d List.mem_cons_self, showable_all fun x hx => h x (List.mem_cons_of_mem _ hx)⟩
theorem txt_all : ∀ {ds : List PyData}, (∀ d ∈ ds, txtOk d = true) → txtOkA ds = true
  | [], _ => rfl
  | d :: ds, h => by simp only [txtOkA, Bool.and_eq_true]; exact ⟨h d List.mem_cons_self, txt_all fun x hx => h x (List.mem_cons_of_mem _ hx)⟩
theorem weight_all {w : Nat} : ∀ {ds : List PyData}, (∀ d ∈ ds, d.weight ≤ w) → PyData.weightAll ds ≤ ds.length * (w + 1)
  | [], _ => by simp [PyData.weightAll]
  | d :: ds, h => by
    have h1 := h d List.mem_cons_self
    have h2 := weight_all fun x hx => h x (List.mem_cons_of_mem _ hx)
    simp only [PyData.weightAll, List.length_cons, Nat.add_mul, Nat.one_mul]
    omega
theorem Rp.list {k w n : Nat} {ds : List PyData} (h : ∀ d ∈ ds, Rp k w d) (hl : ds.length ≤ n) : Rp (k + 1) (n * (w + 1)) (.list ds) := by
  refine ⟨by simp only [PyData.showable]; exact showable_all fun d hd => (h d hd).show_, by simp only [PyData.leavesShort]; exact leaves_all fun d hd => (h d hd).short, by simp only [txtOk]; exact txt_all fun d hd => (h d hd).txt, by simp only [PyData.depth]; have := depth_all fun d hd => (h d hd).dep; omega, ?_⟩
  simp only [PyData.weight]
  exact Nat.le_trans (weight_all fun d hd => (h d hd).wt) (Nat.mul_le_mul_right _ hl)
theorem Rp.tuple {k w n : Nat} {ds : List PyData} (h : ∀ d ∈ ds, Rp k w d) (hl : ds.length ≤ n) : Rp (k + 1) (n * (w + 1)) (.tuple ds) := by
  refine ⟨by simp only [PyData.showable]; exact showable_all fun d hd => (h d hd).show_, by simp only [PyData.leavesShort]; exact leaves_all fun d hd => (h d hd).short, by simp only [txtOk]; exact txt_all fun d hd => (h d hd).txt, by simp only [PyData.depth]; have := depth_all fun d hd => (h d hd).dep; omega, ?_⟩
  simp only [PyData.weight]
  exact Nat.le_trans (weight_all fun d hd => (h d hd).wt) (Nat.mul_le_mul_right _ hl)
mutual
theorem txt_lay : ∀ d : PyData, d.canLay0 = true → txtOk d = true
  | .none, _ => rfl
  | .bool _, _ => rfl
  | .int _, _ => rfl
  | .str x, h => by simpa [txtOk, PyData.canLay0] using h
  | .list xs, h => by simp only [txtOk]; exact txt_layA xs (by simpa [PyData.canLay0] using h)
  | .tuple xs, h => by simp only [txtOk]; exact txt_layA xs (by simpa [PyData.canLay0] using h)
  | .dict _, h => by simp [PyData.canLay0] at h
theorem txt_layA : ∀ ds : List PyData, PyData.canLayAll0 ds = true → txtOkA ds = true
  | [], _ => rfl
  | d :: ds, h => by
    simp only [PyData.canLayAll0, Bool.and_eq_true] at h
    simp only [txtOkA, Bool.and_eq_true]
    exact ⟨txt_lay d h.1, txt_layA ds h.2⟩
end
theorem Tm.rp {k w : Nat} {d : PyData} (h : Tm k w d) : Rp k w d := ⟨h.show_, PyData.leavesShort_of_canLay0 25 d h.lay h.iS, txt_lay d h.lay, h.dep, h.wt⟩
theorem Tm.lay' {k w : Nat} {d : PyData} (h : Tm k w d) : Lay k d := ⟨h.lay, h.dep⟩
theorem Rp.dict0 : Rp 1 0 (.dict []) := ⟨by simp [PyData.showable, PyData.showableKv], by simp [PyData.leavesShort, PyData.leavesShortKv], by simp [txtOk, txtOkK], by simp [PyData.depth, PyData.depthKv], by simp [PyData.weight, PyData.weightKv]⟩
section
variable {s : AS} {ts : Trs} {Q : AQ}
theorem seqR_vo {p : Addr} {ds : List PyData} {c : Tr → Trs} (f : FocL ts (.lst p (ds.map .dat)) c) : SeqR ts (.val (.ref p)) (ds.map .dat) := by
  have := SeqR.ref f
  rw [voL_dats] at this
  exact this
theorem fo_catXl {p : Addr} {es : List PyData} (h : ∃ ds c, FocL ts (.lst p (ds.map .dat)) c ∧ Q (.dat (.list (ds ++ es))) ts ∧ ds.length + es.length ≤ 100000) : aCatX (.val (.ref p)) (.dat (.list es)) ts Q := by
  obtain ⟨ds, c, f, q, l⟩ := h
  exact ⟨_, _, ds ++ es, seqR_vo f, .dat, by rw [List.map_append], by simpa using l, q⟩
theorem fo_catMl {p : Addr} {es : List PyData} (h : ∃ ds c, FocL ts (.lst p (ds.map .dat)) c ∧ (∀ q, Q (.val (.ref q)) (ts ++ [.lst q ((ds ++ es).map .dat)])) ∧ ds.length + es.length ≤ 100000) : aCatXM (.val (.ref p)) (.dat (.list es)) ts Q := by
  obtain ⟨ds, c, f, q, l⟩ := h
  exact ra_catM (seqR_vo f) .dat (by simpa using l) fun r => by have := q r; rw [List.map_append] at this; exact this
theorem ra_nxP {f : AS → Trs → Prop} (is : List Nat) (ok : okIx ts.length is = true) (h : f s (pickT ts is)) : aNxG f s ts := ⟨s, pickT ts is, Gho.pick is ok, h⟩
theorem ra_nxN {f : AS → Trs → Prop} (h : f s []) : aNxG f s ts := ⟨s, [], Gho.keep (ndsL ts) (by simp [ndsL]), h⟩
theorem ra_lM0 {P : Trs → Prop} (q : ∀ p, P [.lst p (([] : List PyData).map .dat)]) (e : ts = []) : ([] : Trs).length ≤ 100000 ∧ ndsL [] = [] ∧ ∀ p, P (ts ++ [.lst p []]) := ⟨by simp, rfl, fun p => by subst e; exact q p⟩
end
/-! ### drawn homes -/
structure Hms (ds : List PyData) (xs : List Nat) : Prop where
  eq : ds = xs.map fun (x : Nat) => PyData.int x
  asc : xs.Pairwise (· < ·)
  lt : ∀ x ∈ xs, x < 32
theorem hms_fb : ∀ {xs : List Nat} {l : Int}, xs.Pairwise (· < ·) → (∀ x ∈ xs, x < 32 ∧ l ≤ x) → firstBad l (xs.map fun (x : Nat) => PyData.int x) = none
  | [], _, _, _ => rfl
  | x :: xs, l, p, h => by
    rw [List.map_cons, firstBad_cons]
    have hx := h x List.mem_cons_self
    have b : betw (.int x) l 31 = true := by unfold betw isI intOf; simp; omega
    rw [if_pos b, show intOf (.int (x : Nat)) = (x : Int) from rfl, hms_fb (List.pairwise_cons.mp p).2 fun y hy => ?_]
    · rfl
    · have := (List.pairwise_cons.mp p).1 y hy
      have := h y (List.mem_cons_of_mem _ hy)
      omega
theorem Hms.fb {ds : List PyData} {xs : List Nat} (h : Hms ds xs) : firstBad 0 ds = none := by rw [h.eq]; exact hms_fb h.asc fun x hx => ⟨h.lt x hx, by omega⟩
theorem Hms.of {xs : List Nat} {ys : List PyData} (s : xs.Sublist (List.range 32)) (a : All2 (fun (x : Nat) y => y = PyData.int x) xs ys) : Hms ys xs :=
  ⟨a.map_eq, List.pairwise_lt_range.sublist s, fun x hx => List.mem_range.mp (s.subset hx)⟩
theorem Hms.len {ds : List PyData} {xs : List Nat} (h : Hms ds xs) : ds.length ≤ 32 := by have := firstBad_len (by decide) (by decide) h.fb; omega
/-! ### parts of such data -/
theorem Rp_all {k w : Nat} : ∀ {ds : List PyData}, PyData.showableAll ds = true → PyData.leavesShortAll 25 ds = true → txtOkA ds = true → PyData.depthAll ds ≤ k → PyData.weightAll ds ≤ w → ∀ d ∈ ds, Rp k w d
  | [], _, _, _, _, _, _, h => by cases h
  | d :: ds, a, b, c, e, f, x, hx => by
    simp only [PyData.showableAll, PyData.leavesShortAll, txtOkA, Bool.and_eq_true, PyData.depthAll, PyData.weightAll] at a b c e f
    have e := Nat.max_le.mp e
    rcases List.mem_cons.mp hx with rfl | hx
    · exact ⟨a.1, b.1, c.1, e.1, by omega⟩
    · exact Rp_all a.2 b.2 c.2 e.2 (by omega) x hx
theorem Rp.mem {k w : Nat} {ds : List PyData} (h : Rp k w (.list ds)) : ∀ d ∈ ds, Rp k w d := by
  obtain ⟨a, b, c, e, f⟩ := h
  simp only [PyData.showable, PyData.leavesShort, txtOk, PyData.depth, PyData.weight] at a b c e f
  exact Rp_all a b c (by omega) f
theorem Rp.memT {k w : Nat} {ds : List PyData} (h : Rp k w (.tuple ds)) : ∀ d ∈ ds, Rp k w d := by
  obtain ⟨a, b, c, e, f⟩ := h
  simp only [PyData.showable, PyData.leavesShort, txtOk, PyData.depth, PyData.weight] at a b c e f
  exact Rp_all a b c (by omega) f
theorem Lay_all {k : Nat} : ∀ {ds : List PyData}, PyData.canLayAll0 ds = true → PyData.depthAll ds ≤ k → ∀ d ∈ ds, Lay k d
  | [], _, _, _, h => by cases h
  | d :: ds, a, e, x, hx => by
    simp only [PyData.canLayAll0, Bool.and_eq_true, PyData.depthAll] at a e
    have e := Nat.max_le.mp e
    rcases List.mem_cons.mp hx with rfl | hx
    · exact ⟨a.1, e.1⟩
    · exact Lay_all a.2 e.2 x hx
theorem Lay.memT {k : Nat} {ds : List PyData} (h : Lay (k + 1) (.tuple ds)) : ∀ d ∈ ds, Lay k d := by
  obtain ⟨a, e⟩ := h
  simp only [PyData.canLay0, PyData.depth] at a e
  exact Lay_all a (by omega)
theorem Lay.mem {k : Nat} {ds : List PyData} (h : Lay (k + 1) (.list ds)) : ∀ d ∈ ds, Lay k d := by
  obtain ⟨a, e⟩ := h
  simp only [PyData.canLay0, PyData.depth] at a e
  exact Lay_all a (by omega)
theorem eqv_nilP (l : List PyData) : PyData.eqv (.list l) (.list []) = l.isEmpty := by cases l <;> simp [PyData.eqv, PyData.eqvAll]
theorem Vs.lay {k : Nat} {d : PyData} (h : Vs k d) : Lay k d := h.tm.lay'
theorem Vs.rp {k : Nat} {d : PyData} (h : Vs k d) : Rp k (wtV k) d := h.tm.rp
/-- lists compared with the empty one -/
theorem ra_neNil {ts : Trs} {Q : AQ} {l : List PyData} {k : Nat} (h : ∀ d ∈ l, Lay k d) (hk : k ≤ 60) (q : Q (.dat (.bool (!l.isEmpty))) ts) : aNeU (.dat (.list l)) (.dat (.list [])) ts Q :=
  ra_neU .dat .dat ((Lay.list h).shaped (by omega)) ((Lay.list (k := 0) (fun d hd => by cases hd)).shaped (by decide)) (by rw [eqv_nilP]; exact q)
theorem ra_eqNil {ts : Trs} {Q : AQ} {l : List PyData} {k : Nat} (h : ∀ d ∈ l, Lay k d) (hk : k ≤ 60) (q : Q (.dat (.bool l.isEmpty)) ts) : aEqU (.dat (.list l)) (.dat (.list [])) ts Q :=
  ra_eqU .dat .dat ((Lay.list h).shaped (by omega)) ((Lay.list (k := 0) (fun d hd => by cases hd)).shaped (by decide)) (by rw [eqv_nilP]; exact q)
theorem ra_neL {ts : Trs} {Q : AQ} {d e : PyData} {j k : Nat} (hd : Lay j d) (he : Lay k e) (hj : j ≤ 64) (hk : k ≤ 64) (q : Q (.dat (.bool (!PyData.eqv d e))) ts) : aNeU (.dat d) (.dat e) ts Q := ra_neU .dat .dat (hd.shaped hj) (he.shaped hk) q
theorem ra_eqL {ts : Trs} {Q : AQ} {d e : PyData} {j k : Nat} (hd : Lay j d) (he : Lay k e) (hj : j ≤ 64) (hk : k ≤ 64) (q : Q (.dat (.bool (PyData.eqv d e))) ts) : aEqU (.dat d) (.dat e) ts Q := ra_eqU .dat .dat (hd.shaped hj) (he.shaped hk) q
theorem ra_neSame {ts : Trs} {Q : AQ} {d : PyData} {k : Nat} (hd : Lay k d) (hk : k ≤ 64) (q : Q (.dat (.bool false)) ts) : aNeU (.dat d) (.dat d) ts Q := ra_neL hd hd hk hk (by rw [hd.eqv]; exact q)
theorem ra_eqSame {ts : Trs} {Q : AQ} {d : PyData} {k : Nat} (hd : Lay k d) (hk : k ≤ 64) (q : Q (.dat (.bool true)) ts) : aEqU (.dat d) (.dat d) ts Q := ra_eqL hd hd hk hk (by rw [hd.eqv]; exact q)
theorem ra_reprR {ts : Trs} {Q : AQ} {d : PyData} {k w : Nat} (h : Rp k w d) (hk : k ≤ 60) (hw : w ≤ 620000) (q : Q (.dat (.str d.shown)) ts) : aRepr [.dat d] ts Q := ra_repr (.of .dat) (h.sh hk hw) q
/-! ### what an error is told as -/
def errD : Res → PyData
  | .ok _ => .none
  | .err _ ((f, d) :: _ :: _) => .tuple [.str f, .str d.shown]
  | .err _ _ => .tuple [.str "value", .str ""]
def tellD : Res → PyData
  | .ok d => d
  | r => errD r
end GL

namespace GL
open PySem PySem.Spec PyProof.Rows L2 Evl

/-! ## lists of different lengths, whatever they hold -/
def rLenD (K : PySem.W.Frag) (b : Bool) : R2 := fun x y H Q => ∃ (p q : Addr) (xs ys : List V), x = .ref p ∧ y = .ref q ∧ SqL K H p xs ∧ SqL K H q ys ∧ xs.length ≠ ys.length ∧ Q (.bl b) H
theorem op_eqW {X : Cx} (hu : X.A.units + 64 < cLine) : OpR X (compareOp .Eq) (rLenD X.K false) := by
  intro pins s σ H x y v u Q I rx ry h
  obtain ⟨p, q, xs, ys, rfl, rfl, h1, h2, hl, q⟩ := h
  obtain rfl : v = Value.ref _ := rx
  obtain rfl : u = Value.ref _ := ry
  obtain ⟨as, r1, ⟨o, n, e1, e2, e3, e4⟩, _⟩ := I.list h1
  obtain ⟨bs, r2, ⟨o', n', f1, f2, f3, f4⟩, _⟩ := I.list h2
  refine SeqAt.RcAt.lists_lengths (A := X.A) (s := s) ⟨o, e1, e2, n, e4⟩ ⟨o', f1, f2, n', f4⟩ ?_ (by omega) X.prog X.w _ _ ⟨.bl _, H, I, rfl, q⟩
  have l1 := Vals.length r1
  have l2 := Vals.length r2
  simp
  omega
theorem op_neW {X : Cx} (hu : X.A.units + 64 < cLine) : OpR X (compareOp .NotEq) (rLenD X.K true) := by
  intro pins s σ H x y v u Q I rx ry h
  obtain ⟨p, q, xs, ys, rfl, rfl, h1, h2, hl, q⟩ := h
  obtain rfl : v = Value.ref _ := rx
  obtain rfl : u = Value.ref _ := ry
  obtain ⟨as, r1, ⟨o, n, e1, e2, e3, e4⟩, _⟩ := I.list h1
  obtain ⟨bs, r2, ⟨o', n', f1, f2, f3, f4⟩, _⟩ := I.list h2
  refine SeqAt.RcNeAt.lists_lengths (A := X.A) (s := s) ⟨o, e1, e2, n, e4⟩ ⟨o', f1, f2, n', f4⟩ ?_ (by omega) X.prog X.w _ _ ⟨.bl _, H, I, rfl, q⟩
  have l1 := Vals.length r1
  have l2 := Vals.length r2
  simp
  omega
def rEqV (K : PySem.W.Frag) : R2 := fun x y H Q => rEqU K x y H Q ∨ rLenD K false x y H Q
def rNeV (K : PySem.W.Frag) : R2 := fun x y H Q => rNeU K x y H Q ∨ rLenD K true x y H Q
theorem op_eqV {X : Cx} (hu : X.A.units + 64 < cLine) : OpR X (compareOp .Eq) (rEqV X.K) := OpR.or (op_eqU hu) (op_eqW hu)
theorem op_neV {X : Cx} (hu : X.A.units + 64 < cLine) : OpR X (compareOp .NotEq) (rNeV X.K) := OpR.or (op_neU hu) (op_neW hu)
section
variable {X : Cx} {c : Bool} {k : Nat} {a : Addr} {pn : List (Addr × Obj)} {xe : Value → Shared → Prop} {s : Shared} {H : Hp} {sc : Scope} {env : Env} {fp : List Addr}
theorem op_eqVS (hr : Rm c k X.A) : OpR (X.suite a pn) (compareOp .Eq) (rEqV X.K) := op_eqV (X := X.suite a pn) (hr.mark (some (.ref a))).u64
theorem op_neVS (hr : Rm c k X.A) : OpR (X.suite a pn) (compareOp .NotEq) (rNeV X.K) := op_neV (X := X.suite a pn) (hr.mark (some (.ref a))).u64
theorem op_eqVT (hr : Rm c k X.A) : OpR (X.tr pn xe) (compareOp .Eq) (rEqV X.K) := op_eqV (X := X.tr pn xe) hr.u64
theorem op_neVT (hr : Rm c k X.A) : OpR (X.tr pn xe) (compareOp .NotEq) (rNeV X.K) := op_neV (X := X.tr pn xe) hr.u64
theorem op_eqVB (hr : Rm c k X.A) : OpR (X.blk s H sc env fp) (compareOp .Eq) (rEqV X.K) := op_eqV (X := X.blk s H sc env fp) hr.u64
theorem op_neVB (hr : Rm c k X.A) : OpR (X.blk s H sc env fp) (compareOp .NotEq) (rNeV X.K) := op_neV (X := X.blk s H sc env fp) hr.u64
end
def aEqV : AR := fun x y ts Q => aEqU x y ts Q ∨ ∃ xs ys, SeqL ts x xs ∧ SeqL ts y ys ∧ xs.length ≠ ys.length ∧ Q (.dat (.bool false)) ts
def aNeV : AR := fun x y ts Q => aNeU x y ts Q ∨ ∃ xs ys, SeqL ts x xs ∧ SeqL ts y ys ∧ xs.length ≠ ys.length ∧ Q (.dat (.bool true)) ts
theorem lenD_in {K : PySem.W.Frag} {S RH H : Hp} {O : List Addr} {ts : Trs} {x y : V} {tx ty : Tr} {Q : VK} {Q' : AQ} {b : Bool} (st : Sta K S RH H O ts) (rx : Rt K (hid H O) tx x) (ry : Rt K (hid H O) ty y) (ct : CtE K S RH (hid H O) Q Q')
    {xs ys : Trs} (h1 : SeqL ts tx xs) (h2 : SeqL ts ty ys) (hl : xs.length ≠ ys.length) (q : Q' (.dat (.bool b)) ts) : rLenD K b x y H Q := by
  obtain ⟨p, vs, rfl, a1, a2⟩ := h1.sq st rx
  obtain ⟨p', ws, rfl, b1, b2⟩ := h2.sq st ry
  exact ⟨p, p', vs, ws, rfl, rfl, a1, b1, by rw [← a2.len, ← b2.len]; exact hl, ct _ H O _ ts st (Ex.refl _) (.dat (.bl _)) q⟩
instance {K : PySem.W.Frag} : LkR K (rEqV K) aEqV := ⟨fun st rx ry ct h => by
  rcases h with h | ⟨xs, ys, h1, h2, hl, q⟩
  · exact .inl (LkR.run st rx ry ct h)
  · exact .inr (lenD_in st rx ry ct h1 h2 hl q)⟩
instance {K : PySem.W.Frag} : LkR K (rNeV K) aNeV := ⟨fun st rx ry ct h => by
  rcases h with h | ⟨xs, ys, h1, h2, hl, q⟩
  · exact .inl (LkR.run st rx ry ct h)
  · exact .inr (lenD_in st rx ry ct h1 h2 hl q)⟩
section
variable {ts : Trs} {Q : AQ}
theorem rv_neL {d e : PyData} {j k : Nat} (hd : Lay j d) (he : Lay k e) (hj : j ≤ 64) (hk : k ≤ 64) (q : Q (.dat (.bool (!PyData.eqv d e))) ts) : aNeV (.dat d) (.dat e) ts Q := .inl (ra_neL hd he hj hk q)
theorem rv_eqL {d e : PyData} {j k : Nat} (hd : Lay j d) (he : Lay k e) (hj : j ≤ 64) (hk : k ≤ 64) (q : Q (.dat (.bool (PyData.eqv d e))) ts) : aEqV (.dat d) (.dat e) ts Q := .inl (ra_eqL hd he hj hk q)
theorem rv_neSame {d : PyData} {k : Nat} (hd : Lay k d) (hk : k ≤ 64) (q : Q (.dat (.bool false)) ts) : aNeV (.dat d) (.dat d) ts Q := .inl (ra_neSame hd hk q)
theorem rv_eqSame {d : PyData} {k : Nat} (hd : Lay k d) (hk : k ≤ 64) (q : Q (.dat (.bool true)) ts) : aEqV (.dat d) (.dat d) ts Q := .inl (ra_eqSame hd hk q)
theorem rv_neNil {l : List PyData} (q : Q (.dat (.bool (!l.isEmpty))) ts) : aNeV (.dat (.list l)) (.dat (.list [])) ts Q := by
  cases l with
  | nil => exact .inl (ra_neNil (k := 0) (fun _ h => by cases h) (by decide) q)
  | cons x l => exact .inr ⟨_, _, .dat, .dat, by simp, q⟩
theorem rv_eqNil {l : List PyData} (q : Q (.dat (.bool l.isEmpty)) ts) : aEqV (.dat (.list l)) (.dat (.list [])) ts Q := by
  cases l with
  | nil => exact .inl (ra_eqNil (k := 0) (fun _ h => by cases h) (by decide) q)
  | cons x l => exact .inr ⟨_, _, .dat, .dat, by simp, q⟩
end
/-! ### within a suite, a step at a time -/
section
variable {K : PySem.W.Frag} {s : AS} {ts : Trs} {D : AD} {Q : AQ}
theorem ra_try {awo : AW} {ab : WZ K → AX} {l : List (Str × Option Nat × ASu K)} (h : ∀ Z : WZ K, Z.aw = aClW K awo D l → ab Z D s ts) : aTry K awo ab l D s ts := h
theorem ra_clN {awo : AW} {y x : Str} {i : Nat} {su : ASu K} {r : List (Str × Option Nat × ASu K)} {fs : List (Str × Tr)} (e : Exm K x y true) (h : ∀ a (Z : XZ K), Z.x = x → Z.fs = fs → su a Z { nx := fun s ts => D.nx (s.set i none) ts, rt := D.rt, bk := fun s ts => D.bk (s.set i none) ts, ct := fun s ts => D.ct (s.set i none) ts } (s.set i (some (.val (.ref a)))) ts) :
    aClW K awo D ((y, some i, su) :: r) x fs s ts := ⟨true, e, fun _ => h, fun z => by cases z⟩
theorem ra_clB {awo : AW} {y x : Str} {su : ASu K} {r : List (Str × Option Nat × ASu K)} {fs : List (Str × Tr)} (e : Exm K x y true) (h : ∀ a (Z : XZ K), Z.x = x → Z.fs = fs → su a Z D s ts) : aClW K awo D ((y, none, su) :: r) x fs s ts := ⟨true, e, fun _ => h, fun z => by cases z⟩
theorem ra_clNo {awo : AW} {y x : Str} {o : Option Nat} {su : ASu K} {r : List (Str × Option Nat × ASu K)} {fs : List (Str × Tr)} (e : Exm K x y false) (h : aClW K awo D r x fs s ts) : aClW K awo D ((y, o, su) :: r) x fs s ts := by
  cases o with
  | none => exact ⟨false, e, (fun z => by cases z), fun _ => h⟩
  | some i => exact ⟨false, e, (fun z => by cases z), fun _ => h⟩
theorem ErrC.exB {errs : List (Str × List Str)} {x b : Str} (h : ErrC K b errs x) : Exm K x b true := h.eb
theorem ErrC.exO {errs : List (Str × List Str)} {x b : Str} (h : ErrC K b errs x) (y : Str) (m : (errs.map (·.1)).elem y = true) : Exm K x y (decide (x = y)) := by
  obtain ⟨q, hq, e⟩ := List.mem_map.mp (List.elem_iff.mp m)
  rw [← e]
  exact h.exm q hq
theorem ErrC.kiO {errs : List (Str × List Str)} {x b : Str} (h : ErrC K b errs x) (y : Str) (m : (errs.map (·.1)).elem y = true) : Kit K x y (decide (x = y)) := by
  obtain ⟨q, hq, e⟩ := List.mem_map.mp (List.elem_iff.mp m)
  rw [← e]
  exact ⟨h.xc, h.kit q hq⟩
theorem ErrC.fxw {errs : List (Str × List Str)} {x b : Str} (h : ErrC K b errs x) : FxOk K x "why" := ⟨h.xc, h.why⟩
theorem ra_xf {a : Addr} {x n : Str} {fs : List (Str × Tr)} {e : AE} (h : e s ts fun t ts1 => t = .val (.ref a) ∧ FxOk K x n ∧ ∃ u, fs.lookup n = some u ∧ Q u ts1) : aXf K a x fs e n s ts Q := h
theorem ra_isx {a : Addr} {x : Str} {b : AA} (h : b s ts fun us ts1 => ∃ y k, us = [.val (.ref a), .val (.ref (He.ga K y))] ∧ Kit K x y k ∧ Q (.dat (.bool k)) ts1) : aIsX K a x b s ts Q := h
theorem ra_clsOf {errs : List (Str × List Str)} {names : List Str} {r : PyData} {a : Addr} {x : Str} {fs : List (Str × Tr)} {b : AA} (h : b s ts fun us ts1 => us = [.val (.ref a)] ∧ x ∈ names ∧ ErrC K "LogError" errs x ∧ (∃ t, fs.lookup ("why" : Str) = some (.dat (.str t))) ∧ Q (.dat r) ts1) : aClsOf K errs names r a x fs b s ts Q := h
end
/-! ### which errors records have -/
inductive EK (W : Why) : Res → Prop
  | ok (d : PyData) : EK W (.ok d)
  | count {d : PyData} (h : Rp 16 400000 d) : EK W (eCount W d)
  | block {d : PyData} (h : Rp 16 400000 d) : EK W (eBlock W d)
  | value : EK W (eValue W)
theorem ckHomes_ek {W : Why} {ds : List PyData} (h : ∀ d ∈ ds, Rp 16 400000 d) {r : Res} (e : ckHomes W ds = some r) : EK W r := by
  unfold ckHomes at e
  simp only [Option.map_eq_some_iff] at e
  obtain ⟨i, hi, rfl⟩ := e
  have il := firstBad_lt hi
  exact .block (h _ (by rw [List.getD_eq_getElem?_getD, List.getElem?_eq_getElem il]; exact List.getElem_mem il))
theorem ckCopies_ek {W : Why} {c : PyData} (h : Rp 16 400000 c) {r : Res} (e : ckCopies W c = some r) : EK W r := by
  unfold ckCopies at e
  split at e
  · rename_i e2
    unfold isPairs at e2
    rw [Bool.and_eq_true] at e2
    obtain ⟨ds, rfl⟩ := isLs_lst e2.1
    split at e
    · rename_i e3
      cases e
      refine ckHomes_ek (fun d hd => ?_) e3
      obtain ⟨x, hx, rfl⟩ := List.mem_map.mp hd
      obtain ⟨a, b, rfl⟩ := isPair_tup (List.all_eq_true.mp e2.2 x hx)
      exact (h.mem _ hx).memT _ (by simp [fstD])
    · split at e
      · cases e
      · cases e; exact .value
  · cases e; exact .block h
theorem ckRevokes_ek {W : Why} {c : PyData} (h : Rp 16 400000 c) {r : Res} (e : ckRevokes W c = some r) : EK W r := by
  unfold ckRevokes at e
  split at e
  · rename_i e2
    obtain ⟨ds, rfl⟩ := isLs_lst e2
    exact ckHomes_ek h.mem e
  · cases e; exact .block h
theorem ckNumber_ek {W : Why} {c : PyData} (h : Rp 16 400000 c) {r : Res} (e : ckNumber W c = some r) : EK W r := by
  unfold ckNumber at e
  split at e
  · cases e
  · cases e; exact .count h
theorem recordsOf_ek {W : Why} {n c r : PyData} (hn : Rp 16 400000 n) (hc : Rp 16 400000 c) (hr : Rp 16 400000 r) : EK W (recordsOf W n c r) := by
  unfold recordsOf
  cases e1 : ckNumber W n with
  | some x => exact ckNumber_ek hn e1
  | none =>
    cases e2 : ckCopies W c with
    | some x => exact ckCopies_ek hc e2
    | none =>
      cases e3 : ckRevokes W r with
      | some x => exact ckRevokes_ek hr e3
      | none => exact .ok _
theorem slotsNeeded_ek {W : Why} {c r : PyData} (hc : Rp 16 400000 c) (hr : Rp 16 400000 r) : EK W (slotsNeeded W c r) := by
  unfold slotsNeeded
  cases e2 : ckCopies W c with
  | some x => exact ckCopies_ek hc e2
  | none =>
    cases e3 : ckRevokes W r with
    | some x => exact ckRevokes_ek hr e3
    | none => exact .ok _
end GL

namespace GL
open PySem PySem.Spec PyProof.Rows L2 Evl

/-! ## a result that may change, one that stands still -/
def Res.goM (r : Res) (ts : Trs) (Q : AQ) (E : AZ) : Prop := match r with
  | .ok (.list ds) => ∀ p, Q (.val (.ref p)) (ts ++ [.lst p (ds.map .dat)])
  | .ok d => Q (.dat d) ts
  | .err x fs => E x (datF fs) ts
def asD3M (P : PyData → PyData → PyData → Prop) (f : PyData → PyData → PyData → Res) : ASp := fun us ts Q E => ∃ a b c, us = [.dat a, .dat b, .dat c] ∧ ts = [] ∧ P a b c ∧ (f a b c).goM [] Q E
theorem spA_gho {K : PySem.W.Frag} {n : Nat} {asp asp' : ASp} {vs : List V} {H : Hp} {Q : VK} {E : XK} (i : ∀ us ts Q E, asp us ts Q E → asp' us ts (aRtG Q) E) (h : spA K n asp vs H Q E) : spA K n asp' vs H Q E := by
  obtain ⟨hn, O, us, ts, RH, Q', E', st, r, hs, cq, cx⟩ := h
  refine ⟨hn, O, us, ts, RH, aRtG Q', E', st, r, i _ _ _ _ hs, fun v H1 O1 t ts1 st1 e1 r1 ⟨t', ts', g, q⟩ => ?_, cx⟩
  obtain ⟨O2, st2, r2⟩ := g K _ _ _ _ _ st1 r1
  exact cq _ _ _ _ _ st2 st2.ex r2 q
theorem GF.gho {c : Bool} {P : Program} {w : World} {K : PySem.W.Frag} {mg : Str → Option Value} {base : Heap} {x : Str} {k n : Nat} {asp asp' : ASp} (h : GF c P w K mg base x k (spA K n asp')) (i : ∀ us ts Q E, asp us ts Q E → asp' us ts (aRtG Q) E) : GF c P w K mg base x k (spA K n asp) := by
  obtain ⟨f, h, r⟩ := h
  exact ⟨f, h.imp fun _ _ _ _ z => spA_gho i z, r⟩
theorem asD3_M {P : PyData → PyData → PyData → Prop} {f : PyData → PyData → PyData → Res} : ∀ us ts Q E, asD3 P f us ts Q E → asD3M P f us ts (aRtG Q) E := by
  rintro us ts Q E ⟨a, b, c, rfl, rfl, p, h⟩
  refine ⟨a, b, c, rfl, rfl, p, ?_⟩
  cases e : f a b c with
  | err x fs => rw [e] at h; exact h
  | ok d =>
    rw [e] at h
    cases d with
    | list ds => exact fun p => ra_rtF 0 rfl (plainL_dats _) h
    | _ => exact ra_rt0 h
theorem ra_goD3M {ts : Trs} {Q : AQ} {E : AZ} {P : PyData → PyData → PyData → Prop} {f : PyData → PyData → PyData → Res} {a b c : PyData} (p : P a b c) (h : (f a b c).goM ts Q E) : aGo 3 (asD3M P f) [.dat a, .dat b, .dat c] ts Q E := by
  refine ra_go0 rfl ⟨a, b, c, rfl, rfl, p, ?_⟩
  revert h
  generalize f a b c = r
  intro h
  cases r with
  | err x fs => simpa [Res.goM] using h
  | ok d => cases d <;> simpa [Res.goM] using h
/-! ## copies and revokes, changed -/
structure IC (x : PyData) : Prop where
  rp : Rp 12 2366 x
  pv : isPair x = true → smI (sndD x) = true ∧ Lay 12 (sndD x)
  hd : isPair x = true → Rp 4 100 (fstD x)
structure CO (N : Nat) (c : PyData) : Prop where
  rp : Rp 14 (N * 2367) c
  sh : (itemsOf c).length ≤ N
  it : ∀ x ∈ itemsOf c, IC x
structure RO (N : Nat) (r : PyData) : Prop where
  rp : Rp 14 (N * 101) r
  sh : (itemsOf r).length ≤ N
  it : ∀ x ∈ itemsOf r, Rp 4 100 x
theorem CO.mono {N M : Nat} {c : PyData} (h : CO N c) (z : N ≤ M) : CO M c := ⟨h.rp.mono (Nat.le_refl _) (Nat.mul_le_mul_right _ z), Nat.le_trans h.sh z, h.it⟩
theorem RO.mono {N M : Nat} {c : PyData} (h : RO N c) (z : N ≤ M) : RO M c := ⟨h.rp.mono (Nat.le_refl _) (Nat.mul_le_mul_right _ z), Nat.le_trans h.sh z, h.it⟩
theorem CO.list {N : Nat} {ds : List PyData} (h : ∀ x ∈ ds, IC x) (l : ds.length ≤ N) : CO N (.list ds) := ⟨(Rp.list (fun d hd => (h d hd).rp) l).mono (by decide) (Nat.le_refl _), l, h⟩
theorem CO.tuple {N : Nat} {ds : List PyData} (h : ∀ x ∈ ds, IC x) (l : ds.length ≤ N) : CO N (.tuple ds) := ⟨(Rp.tuple (fun d hd => (h d hd).rp) l).mono (by decide) (Nat.le_refl _), l, h⟩
theorem RO.list {N : Nat} {ds : List PyData} (h : ∀ x ∈ ds, Rp 4 100 x) (l : ds.length ≤ N) : RO N (.list ds) := ⟨(Rp.list (fun d hd => h d hd) l).mono (by decide) (Nat.le_refl _), l, h⟩
theorem RO.tuple {N : Nat} {ds : List PyData} (h : ∀ x ∈ ds, Rp 4 100 x) (l : ds.length ≤ N) : RO N (.tuple ds) := ⟨(Rp.tuple (fun d hd => h d hd) l).mono (by decide) (Nat.le_refl _), l, h⟩
theorem Rp.none : Rp 0 0 .none := ⟨by simp [PyData.showable], by simp [PyData.leavesShort], rfl, by simp [PyData.depth], by simp [PyData.weight]⟩
theorem Rp.bool (b : Bool) : Rp 0 0 (.bool b) := ⟨by simp [PyData.showable], by simp [PyData.leavesShort], rfl, by simp [PyData.depth], by simp [PyData.weight]⟩
theorem Rp.int {i : Int} (h : i.natAbs < 10 ^ 21) : Rp 0 130 (.int i) := (Vs.int h).rp
theorem Rp.str {x : Str} (h : PyData.strOk x = true) (hl : x.cps.size ≤ 130) : Rp 0 130 (.str x) := (Vs.str h hl).rp
theorem CO.none {N : Nat} : CO N .none := ⟨Rp.none.mono (by decide) (Nat.zero_le _), Nat.zero_le _, fun x hx => by cases hx⟩
theorem RO.none {N : Nat} : RO N .none := ⟨Rp.none.mono (by decide) (Nat.zero_le _), Nat.zero_le _, fun x hx => by cases hx⟩
theorem CO.dict {N : Nat} : CO N (.dict []) := ⟨Rp.dict0.mono (by decide) (Nat.zero_le _), Nat.zero_le _, fun x hx => by cases hx⟩
theorem RO.dict {N : Nat} : RO N (.dict []) := ⟨Rp.dict0.mono (by decide) (Nat.zero_le _), Nat.zero_le _, fun x hx => by cases hx⟩
theorem cutG_mem {α : Type} {l : List α} {lo hi : Option Int} {x : α} (h : x ∈ cutG l lo hi) : x ∈ l := by
  unfold cutG at h
  exact List.mem_of_mem_drop (List.mem_of_mem_take h)
theorem cutG_split {α : Type} (l : List α) {a : Int} (h : 0 ≤ a) (b : Int) (hb : a ≤ b) : (cutG l Option.none (some a)).length + (cutG l (some b) Option.none).length ≤ l.length := by
  unfold cutG
  obtain ⟨m, rfl⟩ : ∃ m : Nat, a = m := ⟨a.toNat, by omega⟩
  obtain ⟨k, rfl⟩ : ∃ k : Nat, b = k := ⟨b.toNat, by omega⟩
  rw [HT.sIx_none, HT.sIx_none, HT.sIx_nat, HT.sIx_nat]
  simp only [List.length_take, List.length_drop]
  omega
def deepN : Nat → PyData
  | 0 => .str "x"
  | n + 1 => .tuple [deepN n]
theorem deepN_lay : ∀ n, Lay n (deepN n)
  | 0 => .lit "x"
  | n + 1 => .tuple fun d hd => by rw [List.mem_singleton.mp hd]; exact deepN_lay n
theorem deepN_sm : ∀ n, smI (deepN n) = true
  | 0 => rfl
  | n + 1 => by simp [deepN, smI, smIA, deepN_sm n]
theorem deepN_rp : ∀ n, Rp n (2 * n + 1) (deepN n)
  | 0 => ⟨rfl, by decide +kernel, by decide +kernel, by decide, by decide +kernel⟩
  | n + 1 => by
    have h := Rp.tuple (n := 1) (ds := [deepN n]) (fun d hd => by rw [List.mem_singleton.mp hd]; exact deepN_rp n) (by simp)
    exact h.mono (Nat.le_refl _) (by omega)
theorem IC.pair {h v : PyData} (hh : Rp 4 100 h) (hv : Rp 11 1182 v) (hs : smI v = true) (hl : Lay 12 v) : IC (.tuple [h, v]) :=
  ⟨Rp.tuple (k := 11) (w := 1182) (n := 2) (fun d hd => by
    simp only [List.mem_cons, List.not_mem_nil, or_false] at hd
    rcases hd with rfl | rfl
    · exact hh.mono (by decide) (by decide)
    · exact hv) (by simp), fun _ => ⟨hs, hl⟩, fun _ => hh⟩
theorem rp31 (i : Int) (h : i.natAbs < 2 ^ 60) : Rp 4 100 (.int i) := by
  have z := (Vs.int (i := i) (Nat.lt_trans h (by decide))).rp
  refine ⟨z.show_, z.short, rfl, by simp [PyData.depth], ?_⟩
  simp only [PyData.weight]
  by_cases h0 : i = 0
  · rw [if_pos (by simpa using h0)]; omega
  · rw [if_neg (by simpa using h0)]
    have := (Nat.log2_lt (n := i.natAbs) (k := 60) (by omega)).mpr h
    omega
theorem RO.cut {N : Nat} {rs : List PyData} {a : Int} {d : PyData} (h0 : 0 ≤ a) (hd : Rp 4 100 d) (h : RO N (.list rs)) (h1 : 1 ≤ N) : RO (2 * N) (.list (cutG rs Option.none (some a) ++ [d] ++ cutG rs (some a) Option.none)) := by
  have hs : rs.length ≤ N := h.sh
  have sp := cutG_split rs h0 a (Int.le_refl _)
  refine .list (fun x hx => ?_) (by rw [List.length_append, List.length_append]; simp only [List.length_cons, List.length_nil]; omega)
  rcases List.mem_append.mp hx with hx | hx
  · rcases List.mem_append.mp hx with hx | hx
    · exact h.it x (cutG_mem hx)
    · rw [List.mem_singleton.mp hx]; exact hd
  · exact h.it x (cutG_mem hx)
theorem CO.cut {N : Nat} {rs : List PyData} {a : Int} {d : PyData} (h0 : 0 ≤ a) (hd : IC d) (h : CO N (.list rs)) (h1 : 1 ≤ N) : CO (2 * N) (.list (cutG rs Option.none (some a) ++ [d] ++ cutG rs (some (a + 1)) Option.none)) := by
  have hs : rs.length ≤ N := h.sh
  have sp := cutG_split rs h0 (a + 1) (by omega)
  refine .list (fun x hx => ?_) (by rw [List.length_append, List.length_append]; simp only [List.length_cons, List.length_nil]; omega)
  rcases List.mem_append.mp hx with hx | hx
  · rcases List.mem_append.mp hx with hx | hx
    · exact h.it x (cutG_mem hx)
    · rw [List.mem_singleton.mp hx]; exact hd
  · exact h.it x (cutG_mem hx)
theorem CO.app2 {N : Nat} {ds : List PyData} (h : CO N (.list ds)) : CO (2 * N) (.list (ds ++ ds)) := by
  have hs : ds.length ≤ N := h.sh
  exact .list (fun x hx => (List.mem_append.mp hx).elim (h.it x) (h.it x)) (by rw [List.length_append]; omega)
theorem RO.app2 {N : Nat} {ds : List PyData} (h : RO N (.list ds)) : RO (2 * N) (.list (ds ++ ds)) := by
  have hs : ds.length ≤ N := h.sh
  exact .list (fun x hx => (List.mem_append.mp hx).elim (h.it x) (h.it x)) (by rw [List.length_append]; omega)
theorem CO.rev {N : Nat} {ds : List PyData} (h : CO N (.list ds)) : CO (2 * N) (.list ds.reverse) := by
  have hs : ds.length ≤ N := h.sh
  exact .list (fun x hx => h.it x (List.mem_reverse.mp hx)) (by rw [List.length_reverse]; omega)
theorem RO.rev {N : Nat} {ds : List PyData} (h : RO N (.list ds)) : RO (2 * N) (.list ds.reverse) := by
  have hs : ds.length ≤ N := h.sh
  exact .list (fun x hx => h.it x (List.mem_reverse.mp hx)) (by rw [List.length_reverse]; omega)
theorem CO.tup {N : Nat} {ds : List PyData} (h : CO N (.list ds)) : CO (2 * N) (.tuple ds) := by
  have hs : ds.length ≤ N := h.sh
  exact .tuple (fun x hx => h.it x hx) (by omega)
theorem RO.tup {N : Nat} {ds : List PyData} (h : RO N (.list ds)) : RO (2 * N) (.tuple ds) := by
  have hs : ds.length ≤ N := h.sh
  exact .tuple (fun x hx => h.it x hx) (by omega)
theorem str1 (s : String) (h : (Str.ofString s).cps.size ≤ 100) : Rp 4 100 (.str (Str.ofString s)) := by
  have z := (Vs.str (x := Str.ofString s) (okS_iff.mpr (okS_of s)) (by omega)).rp
  exact ⟨z.show_, z.short, z.txt, by simp [PyData.depth], by simp only [PyData.weight]; exact h⟩
theorem ra_dnF {s : AS} {ts : Trs} {Q : AQ} (h : Q (.dat (.dict [])) ts) : aDNewF s ts Q := h
theorem law_in {K : PySem.W.Frag} {H : Hp} {a : Addr} {ns : List Int} {asp : ASp} (hS : SqL K H a (ns.map V.int)) (h : asp [.scr ns] [] (fun t _ => t = .dat (.bool true)) (fun _ _ _ => False)) : spA K 1 asp [.ref a] H (fun v _ => v = .bl true) E0 := by
  have e : hid H [] = H := by funext b; simp [hid]
  refine ⟨rfl, [], [.scr ns], [], fun _ => none, _, _, ?_, ?_, h, ?_, fun _ _ _ _ _ _ _ _ z => z.elim⟩
  · exact ⟨(fun n hn => by simp [ndsL] at hn), (by simp [ndsL]), (fun n hn => by simp [ndsL] at hn), (fun b o q => by cases q), Ex.refl _, (fun b hb => by cases hb)⟩
  · rw [e]; exact .cons (.scr hS) .nil
  · rintro v H' O' t ts' _ _ r rfl
    exact rt_bool r
/-- what comes behind, for all that one knows -/
theorem ra_gen {t : AX} {X b d : AS → Trs → Prop} {r : AQ} {s : AS} {ts : Trs} (P : AS → Trs → Prop) (rest : ∀ s ts, P s ts → X s ts) (h : ∀ Y : AS → Trs → Prop, (∀ s ts, P s ts → Y s ts) → t { nx := Y, rt := r, bk := b, ct := d } s ts) : t { nx := X, rt := r, bk := b, ct := d } s ts := h X rest
theorem ra_genI {c : AT} {t u : AX} {X b d : AS → Trs → Prop} {r : AQ} {s : AS} {ts : Trs} (P : AS → Trs → Prop) (rest : ∀ s ts, P s ts → X s ts) (h : ∀ Y : AS → Trs → Prop, (∀ s ts, P s ts → Y s ts) → aIf c t u { nx := Y, rt := r, bk := b, ct := d } s ts) : aIf c t u { nx := X, rt := r, bk := b, ct := d } s ts := h X rest
/-- loops whose turns never return -/
theorem forDq {s : AS} {D : AD} {g : AG} {b : AX} {ds : List PyData} {ts1 : Trs} (J : Nat → AS → Trs → Prop) (h0 : J 0 s ts1) (hs : ∀ i d s ts (R : AQ) (B : AS → Trs → Prop), ds[i]? = some d → J i s ts → g (.dat d) s ts fun s2 ts2 => b { nx := aNxG (J (i + 1)), rt := R, bk := B, ct := aNxG (J (i + 1)) } s2 ts2)
    (hd : ∀ s ts, J ds.length s ts → aNxG D.nx s ts) : ∃ J : Nat → AS → Trs → Prop, aNxG (J 0) s ts1 ∧ (∀ i s ts, J i s ts → AIt.keep ⟨ds.map .dat, fun _ => True⟩ ts) ∧
  (∀ i x s ts, (AIt.items ⟨ds.map .dat, fun _ => True⟩)[i]? = some x → J i s ts → g x s ts fun s2 ts2 => b { nx := aNxG (J (i + 1)), rt := D.rt, bk := aNxG D.nx, ct := aNxG (J (i + 1)) } s2 ts2) ∧ ∀ s ts, J (AIt.items ⟨ds.map .dat, fun _ => True⟩).length s ts → aNxG D.nx s ts := forD J h0 (fun i d s ts => hs i d s ts _ _) hd
theorem forRg {s : AS} {D : AD} {g : AG} {b : AX} {n : Nat} {f : Nat → Int} {ts1 : Trs} (J : Nat → AS → Trs → Prop) (h0 : aNxG (J 0) s ts1) (hs : ∀ i s ts, i < n → J i s ts → g (.dat (.int (f i))) s ts fun s2 ts2 => b { nx := aNxG (J (i + 1)), rt := D.rt, bk := aNxG D.nx, ct := aNxG (J (i + 1)) } s2 ts2)
    (hd : ∀ s ts, J n s ts → aNxG D.nx s ts) : ∃ J : Nat → AS → Trs → Prop, aNxG (J 0) s ts1 ∧ (∀ i s ts, J i s ts → AIt.keep ⟨(List.range n).map fun k => .dat (.int (f k)), fun _ => True⟩ ts) ∧
  (∀ i x s ts, (AIt.items ⟨(List.range n).map fun k => .dat (.int (f k)), fun _ => True⟩)[i]? = some x → J i s ts → g x s ts fun s2 ts2 => b { nx := aNxG (J (i + 1)), rt := D.rt, bk := aNxG D.nx, ct := aNxG (J (i + 1)) } s2 ts2) ∧ ∀ s ts, J (AIt.items ⟨(List.range n).map fun k => .dat (.int (f k)), fun _ => True⟩).length s ts → aNxG D.nx s ts := by
  refine ⟨J, h0, fun _ _ _ _ => True.intro, fun i x s ts hx j => ?_, fun s ts j => hd s ts (by simpa using j)⟩
  have hx : ((List.range n).map fun k => Tr.dat (.int (f k)))[i]? = some x := hx
  rw [List.getElem?_map] at hx
  by_cases z : i < n
  · rw [List.getElem?_range z] at hx
    cases hx
    exact hs i s ts z j
  · rw [List.getElem?_eq_none (by rw [List.length_range]; omega)] at hx
    cases hx
theorem forRq {s : AS} {D : AD} {g : AG} {b : AX} {n : Nat} {f : Nat → Int} {ts1 : Trs} (J : Nat → AS → Trs → Prop) (h0 : aNxG (J 0) s ts1) (hs : ∀ i s ts (R : AQ) (B : AS → Trs → Prop), i < n → J i s ts → g (.dat (.int (f i))) s ts fun s2 ts2 => b { nx := aNxG (J (i + 1)), rt := R, bk := B, ct := aNxG (J (i + 1)) } s2 ts2)
    (hd : ∀ s ts, J n s ts → aNxG D.nx s ts) : ∃ J : Nat → AS → Trs → Prop, aNxG (J 0) s ts1 ∧ (∀ i s ts, J i s ts → AIt.keep ⟨(List.range n).map fun k => .dat (.int (f k)), fun _ => True⟩ ts) ∧
  (∀ i x s ts, (AIt.items ⟨(List.range n).map fun k => .dat (.int (f k)), fun _ => True⟩)[i]? = some x → J i s ts → g x s ts fun s2 ts2 => b { nx := aNxG (J (i + 1)), rt := D.rt, bk := aNxG D.nx, ct := aNxG (J (i + 1)) } s2 ts2) ∧ ∀ s ts, J (AIt.items ⟨(List.range n).map fun k => .dat (.int (f k)), fun _ => True⟩).length s ts → aNxG D.nx s ts := forRg J h0 (fun i s ts => hs i s ts _ _) hd
section
variable {ts : Trs} {Q : AQ}
theorem fo_repr {p : Addr} (h : ∃ ds c, FocL ts (.lst p (ds.map .dat)) c ∧ Sh (.list ds) ∧ Q (.dat (.str (PyData.list ds).shown)) ts) : aRepr [.val (.ref p)] ts Q := by
  obtain ⟨ds, c, f, sh, q⟩ := h
  exact ra_repr (.of (.ref f (plainL_dats ds))) sh q
theorem fo_neV {p : Addr} {e : PyData} (h : ∃ ds c, FocL ts (.lst p (ds.map .dat)) c ∧ SeqAt.shaped (.list ds) = true ∧ SeqAt.shaped e = true ∧ Q (.dat (.bool (!PyData.eqv (.list ds) e))) ts) : aNeV (.val (.ref p)) (.dat e) ts Q := by
  obtain ⟨ds, c, f, s1, s2, q⟩ := h
  exact .inl (ra_neU (.ref f (plainL_dats ds)) .dat s1 s2 q)
end
/-! ### good records -/
theorem betw_int {d : PyData} {l m : Int} (h : betw d l m = true) : ∃ i : Int, d = .int i ∧ l ≤ i ∧ i ≤ m := by
  unfold betw at h
  simp only [Bool.and_eq_true, decide_eq_true_eq] at h
  obtain ⟨i, rfl⟩ := isI_int h.1
  exact ⟨i, rfl, h.2.1, h.2.2⟩
theorem firstBad_ints : ∀ {ds : List PyData} {l : Int}, 0 ≤ l → firstBad l ds = none → ∀ d ∈ ds, ∃ i : Int, d = .int i ∧ 0 ≤ i ∧ i ≤ 31
  | [], _, _, _, _, h => by cases h
  | x :: ds, l, hl, e, d, h => by
    rw [firstBad_cons] at e
    split at e
    · rename_i b
      obtain ⟨i, rfl, h1, h2⟩ := betw_int b
      rcases List.mem_cons.mp h with rfl | h
      · exact ⟨i, rfl, by omega, h2⟩
      · exact firstBad_ints (l := intOf (.int i) + 1) (by show 0 ≤ i + 1; omega) (by simpa using e) d h
    · cases e
theorem recs_len (n m : PyData) (cs rs : List PyData) : (recs n cs rs).length = (recs m cs rs).length := by
  have h2 : ∀ gs : List (List PyData), (gs.flatMap (recG n)).length = (gs.flatMap (recG m)).length := fun gs => by
    induction gs with
    | nil => rfl
    | cons g gs ih => rw [List.flatMap_cons, List.flatMap_cons, List.length_append, List.length_append, ih]; simp [recG]
  unfold recs recsR recsC
  simp only [List.length_append, List.length_map, h2, List.length_cons, List.length_nil]
theorem recs_all {P : PyData → Prop} {n : PyData} {cs rs : List PyData} (h1 : ∀ g : List PyData, g.length ≤ 8 → (∀ x ∈ g, x ∈ rs) → P (.tuple [.str "revoke", n, .tuple g])) (h2 : ∀ g : List PyData, g.length ≤ 8 → (∀ x ∈ g, x ∈ cs) → P (.tuple [.str "descriptor", n, .tuple (g.map fstD)])) (h3 : ∀ c ∈ cs, P (.tuple [.str "copy", n, sndD c])) (h4 : P (.tuple [.str "commit", n])) : ∀ d ∈ recs n cs rs, P d := by
  intro d hd
  unfold recs recsR recsC at hd
  rcases List.mem_append.mp hd with hd | hd
  · rcases List.mem_append.mp hd with hd | hd
    · obtain ⟨g, hg, rfl⟩ := List.mem_map.mp hd
      exact h1 g (groups_mem hg).1 (groups_mem hg).2
    · obtain ⟨g, hg, hd⟩ := List.mem_flatMap.mp hd
      unfold recG at hd
      rcases List.mem_cons.mp hd with rfl | hd
      · exact h2 g (groups_mem hg).1 (groups_mem hg).2
      · obtain ⟨c, hc, rfl⟩ := List.mem_map.mp hd
        exact h3 c ((groups_mem hg).2 c hc)
  · rw [List.mem_singleton.mp hd]; exact h4
theorem lay3 {s : String} {n x : PyData} (hn : Lay 0 n) (hx : Lay 12 x) : Lay 13 (.tuple [.str (Str.ofString s), n, x]) := .tuple fun d hd => by
  simp only [List.mem_cons, List.not_mem_nil, or_false] at hd
  rcases hd with rfl | rfl | rfl
  · exact (Lay.lit s).mono (by decide)
  · exact hn.mono (by decide)
  · exact hx
theorem recs_lay {n : PyData} {cs rs : List PyData} (hn : Lay 0 n) (hc : ∀ c ∈ cs, Lay 0 (fstD c) ∧ Lay 12 (sndD c)) (hr : ∀ r ∈ rs, Lay 0 r) : Lay 14 (.list (recs n cs rs)) := .list (recs_all
  (fun g _ hg => lay3 hn ((Lay.tuple fun d hd => hr d (hg d hd)).mono (by decide)))
  (fun g _ hg => lay3 hn ((Lay.tuple fun d hd => by obtain ⟨c, hc', rfl⟩ := List.mem_map.mp hd; exact (hc c (hg c hc')).1).mono (by decide)))
  (fun c h => lay3 hn (hc c h).2)
  ((Lay.tuple (k := 0) fun d hd => by
    simp only [List.mem_cons, List.not_mem_nil, or_false] at hd
    rcases hd with rfl | rfl
    · exact .lit _
    · exact hn).mono (by decide)))
theorem rp3 {s : String} {n x : PyData} (h0 : (Str.ofString s).cps.size ≤ 100) (hn : Rp 4 100 n) (hx : Rp 11 1182 x) : Rp 12 3549 (.tuple [.str (Str.ofString s), n, x]) := Rp.tuple (k := 11) (w := 1182) (n := 3) (fun d hd => by
  simp only [List.mem_cons, List.not_mem_nil, or_false] at hd
  rcases hd with rfl | rfl | rfl
  · exact (str1 s h0).mono (by decide) (by decide)
  · exact hn.mono (by decide) (by decide)
  · exact hx) (by simp)
theorem recs_rp {n : PyData} {cs rs : List PyData} (hn : Rp 4 100 n) (hc : ∀ c ∈ cs, Rp 4 100 (fstD c) ∧ Rp 11 1182 (sndD c)) (hr : ∀ r ∈ rs, Rp 4 100 r) (l1 : cs.length ≤ 32) (l2 : rs.length ≤ 32) : Rp 13 (100 * 3550) (.list (recs n cs rs)) := by
  refine Rp.list (k := 12) (w := 3549) (n := 100) (recs_all (fun g l hg => rp3 (by decide +kernel) hn ?_) (fun g l hg => rp3 (by decide +kernel) hn ?_) (fun c h => rp3 (by decide +kernel) hn (hc c h).2) ?_) ?_
  · exact (Rp.tuple (k := 4) (w := 100) (n := 8) (fun d hd => hr d (hg d hd)) l).mono (by decide) (by decide)
  · exact (Rp.tuple (k := 4) (w := 100) (n := 8) (fun d hd => by obtain ⟨c, hc', rfl⟩ := List.mem_map.mp hd; exact (hc c (hg c hc')).1) (by rw [List.length_map]; exact l)).mono (by decide) (by decide)
  · exact (Rp.tuple (k := 4) (w := 100) (n := 2) (fun d hd => by
      simp only [List.mem_cons, List.not_mem_nil, or_false] at hd
      rcases hd with rfl | rfl
      · exact str1 _ (by decide +kernel)
      · exact hn) (by simp)).mono (by decide) (by decide)
  · have h1 : (recsR n rs).length ≤ 10 := by unfold recsR; rw [List.length_map, groups_len]; omega
    have h2 : (recsC n cs).length ≤ 9 * (groups cs).length := by
      unfold recsC
      exact flat_le fun g hg => by
        have := (groups_mem hg).1
        unfold recG
        rw [List.length_cons, List.length_map]
        omega
    have h3 : (groups cs).length ≤ 5 := by rw [groups_len]; omega
    unfold recs
    simp only [List.length_append, List.length_cons, List.length_nil]
    omega
theorem good_rec {W : Why} {m : Int} {cs rs : List PyData} (hm : 1 ≤ m) (hp : ∀ c ∈ cs, isPair c = true) (hv : ∀ c ∈ cs, valOk 7 (sndD c) = true) (hf : firstBad 0 (cs.map fstD) = none) (hr : firstBad 0 rs = none) :
    recordsOf W (.int m) (.list cs) (.list rs) = .ok (.list (recs (.int m) cs rs)) ∧ slotsNeeded W (.list cs) (.list rs) = .ok (.int (recs (.int 1) cs rs).length) := by
  have e1 : ckNumber W (.int m) = none := by unfold ckNumber; rw [if_pos]; show (true && decide (1 ≤ m)) = true; simpa using hm
  have e2 : ckCopies W (.list cs) = none := by
    unfold ckCopies isPairs ckHomes
    rw [show itemsOf (.list cs) = cs from rfl, hf, if_pos (by rw [List.all_eq_true.mpr hp]; rfl)]
    show (if _ then _ else _) = _
    rw [if_pos (List.all_eq_true.mpr hv)]
  have e3 : ckRevokes W (.list rs) = none := by
    unfold ckRevokes ckHomes
    rw [if_pos (show isLs (.list rs) = true from rfl), show itemsOf (.list rs) = rs from rfl, hr]
    rfl
  unfold recordsOf slotsNeeded
  rw [e1, e2, e3]
  exact ⟨rfl, rfl⟩
/-! ### drawn copies -/
theorem all2_fst : ∀ {hs cs : List PyData}, All2 (fun d y => ∃ v, y = .tuple [d, v] ∧ Vs 2 v) hs cs → cs.map fstD = hs
  | _, _, .nil => rfl
  | _, _, .cons ⟨v, e, _⟩ r => by rw [List.map_cons, all2_fst r, e]; rfl
structure Drawn (cs rs : List PyData) : Prop where
  pair : ∀ c ∈ cs, isPair c = true
  val : ∀ c ∈ cs, valOk 7 (sndD c) = true
  fb : firstBad 0 (cs.map fstD) = none
  fr : firstBad 0 rs = none
  co : CO 32 (.list cs)
  ro : RO 32 (.list rs)
  lc : ∀ c ∈ cs, Lay 0 (fstD c) ∧ Lay 12 (sndD c)
  lr : ∀ r ∈ rs, Lay 0 r
  rc : ∀ c ∈ cs, Rp 4 100 (fstD c) ∧ Rp 11 1182 (sndD c)
  rr : ∀ r ∈ rs, Rp 4 100 r
  l1 : cs.length ≤ 32
  l2 : rs.length ≤ 32
theorem hms_mem {ds : List PyData} {xs : List Nat} (h : Hms ds xs) : ∀ d ∈ ds, Lay 0 d ∧ Rp 4 100 d := fun d hd => by
  rw [h.eq] at hd
  obtain ⟨x, hx, rfl⟩ := List.mem_map.mp hd
  have := h.lt x hx
  exact ⟨.int _, rp31 _ (by omega)⟩
theorem Drawn.of {hs cs rs : List PyData} {xs ys : List Nat} (h1 : Hms hs xs) (h2 : Hms rs ys) (al : All2 (fun d y => ∃ v, y = .tuple [d, v] ∧ Vs 2 v) hs cs) : Drawn cs rs := by
  have hm : ∀ c ∈ cs, ∃ h v, c = .tuple [h, v] ∧ h ∈ hs ∧ Vs 2 v := fun c hc => by
    obtain ⟨h, hh, v, e, vv⟩ := al.memR c hc
    exact ⟨h, v, e, hh, vv⟩
  have hl : cs.length ≤ 32 := by have := al.len; have := h1.len; omega
  refine ⟨fun c hc => ?_, fun c hc => ?_, by rw [all2_fst al]; exact h1.fb, h2.fb, .list (fun c hc => ?_) hl, .list (fun r hr => (hms_mem h2 r hr).2) h2.len, fun c hc => ?_, fun r hr => (hms_mem h2 r hr).1, fun c hc => ?_, fun r hr => (hms_mem h2 r hr).2, hl, h2.len⟩
  · obtain ⟨h, v, rfl, _, _⟩ := hm c hc; rfl
  · obtain ⟨h, v, rfl, _, vv⟩ := hm c hc; exact valOk_mono _ _ _ (by decide) vv.ok
  · obtain ⟨h, v, rfl, hh, vv⟩ := hm c hc
    exact .pair (hms_mem h1 h hh).2 (vv.rp.mono (by decide) (by decide)) vv.sm (vv.lay.mono (by decide))
  · obtain ⟨h, v, rfl, hh, vv⟩ := hm c hc
    exact ⟨(hms_mem h1 h hh).1, vv.lay.mono (by decide)⟩
  · obtain ⟨h, v, rfl, hh, vv⟩ := hm c hc
    exact ⟨(hms_mem h1 h hh).2, vv.rp.mono (by decide) (by decide)⟩
theorem Drawn.lay {cs rs : List PyData} (h : Drawn cs rs) : Lay 20 (.tuple [.list cs, .list rs]) := (Lay.tuple (k := 19) fun d hd => by
  simp only [List.mem_cons, List.not_mem_nil, or_false] at hd
  rcases hd with rfl | rfl
  · refine (Lay.list (k := 13) fun c hc => ?_).mono (by decide)
    obtain ⟨a, b, rfl⟩ := isPair_tup (h.pair c hc)
    have := h.lc _ hc
    exact .tuple fun d hd => by
      simp only [List.mem_cons, List.not_mem_nil, or_false] at hd
      rcases hd with rfl | rfl
      · exact this.1.mono (by decide)
      · exact this.2
  · exact (Lay.list (k := 0) fun d hd => h.lr d hd).mono (by decide))
/-! ### errors told, as data -/
theorem lay2s {s : String} {d : PyData} (h : Lay 0 d) : Lay 1 (.tuple [.str (Str.ofString s), d]) := .tuple fun x hx => by
  simp only [List.mem_cons, List.not_mem_nil, or_false] at hx
  rcases hx with rfl | rfl
  · exact .lit _
  · exact h
theorem errD_lay {W : Why} {r : Res} (h : EK W r) (n : ∀ d, r ≠ .ok d) : Lay 1 (errD r) := by
  cases h with
  | ok d => exact absurd rfl (n d)
  | count h => exact lay2s h.shown
  | block h => exact lay2s h.shown
  | value => exact lay2s (.lit "")
/-- both words for one thing: good, or the same error -/
inductive Both (W : Why) (m : Int) (c r : PyData) : Prop
  | good (cs rs : List PyData) (ec : c = .list cs) (er : r = .list rs) (l1 : cs.length ≤ 32) (l2 : rs.length ≤ 32) (p : ∀ x ∈ cs, isPair x = true) (lay : Lay 14 (.list (recs (.int m) cs rs)))
      (h1 : recordsOf W (.int m) c r = .ok (.list (recs (.int m) cs rs))) (h2 : slotsNeeded W c r = .ok (.int (recs (.int 1) cs rs).length))
  | bad (e : Res) (k : EK W e) (n : ∀ d, e ≠ .ok d) (h1 : recordsOf W (.int m) c r = e) (h2 : slotsNeeded W c r = e)
theorem both {W : Why} {m : Int} {c r : PyData} (hm : 1 ≤ m) (hc : Rp 16 400000 c) (hr : Rp 16 400000 r) (it : ∀ x ∈ itemsOf c, IC x) : Both W m c r := by
  have e1 : ckNumber W (.int m) = none := by unfold ckNumber; rw [if_pos]; show (true && decide (1 ≤ m)) = true; simpa using hm
  cases e2 : ckCopies W c with
  | some e =>
    obtain ⟨x, fs, rfl⟩ := ckCopies_err e2
    exact .bad _ (ckCopies_ek hc e2) (fun d z => by cases z) (by unfold recordsOf; rw [e1, e2]; rfl) (by unfold slotsNeeded; rw [e2]; rfl)
  | none =>
    cases e3 : ckRevokes W r with
    | some e =>
      obtain ⟨x, fs, rfl⟩ := ckRevokes_err e3
      exact .bad _ (ckRevokes_ek hr e3) (fun d z => by cases z) (by unfold recordsOf; rw [e1, e2, e3]; rfl) (by unfold slotsNeeded; rw [e2, e3]; rfl)
    | none =>
      obtain ⟨ec, kp, kf⟩ := ckCopies_ok e2
      obtain ⟨er, kr⟩ := ckRevokes_ok e3
      have l2 : (itemsOf r).length ≤ 32 := by have := firstBad_len (by decide) (by decide) kr; omega
      have l1 : (itemsOf c).length ≤ 32 := by have := firstBad_len (by decide) (by decide) kf; rw [List.length_map] at this; omega
      have pp : ∀ x ∈ itemsOf c, isPair x = true := fun x hx => by obtain ⟨h, v, e, _⟩ := kp x hx; rw [e]; rfl
      refine .good (itemsOf c) (itemsOf r) ec er l1 l2 pp (recs_lay (.int m) (fun x hx => ⟨?_, ((it x hx).pv (pp x hx)).2⟩) fun x hx => ?_) (by unfold recordsOf; rw [e1, e2, e3]; rfl) (by unfold slotsNeeded; rw [e2, e3]; rfl)
      · obtain ⟨i, e, _⟩ := firstBad_ints (by decide) kf _ (List.mem_map_of_mem hx)
        rw [e]; exact .int i
      · obtain ⟨i, e, _⟩ := firstBad_ints (by decide) kr _ hx
        rw [e]; exact .int i
end GL

namespace GL
open PySem PySem.Spec PyProof.Rows L2 Evl

/-! ## statements in a row, the ends written out -/
section
variable {s : AS} {ts : Trs} {D : AD} {nx bk ct : AS → Trs → Prop} {rt : AQ}
theorem ra_seqL {t u : AX} (h : t { nx := u { nx := nx, rt := rt, bk := bk, ct := ct }, rt := rt, bk := bk, ct := ct } s ts) : aSeq t u { nx := nx, rt := rt, bk := bk, ct := ct } s ts := h
end
/-! ### loops whose ends are letters -/
theorem forDz {s : AS} {D : AD} {g : AG} {b : AX} {ds : List PyData} {ts1 : Trs} (J : Nat → AS → Trs → Prop) (h0 : aNxG (J 0) s ts1) (hs : ∀ i d s ts (N B : AS → Trs → Prop) (R : AQ), ds[i]? = some d → J i s ts → (∀ s ts, aNxG (J (i + 1)) s ts → N s ts) → (∀ t ts, D.rt t ts → R t ts) → (∀ s ts, aNxG D.nx s ts → B s ts) → g (.dat d) s ts fun s2 ts2 => b { nx := N, rt := R, bk := B, ct := N } s2 ts2)
    (hd : ∀ s ts, J ds.length s ts → aNxG D.nx s ts) : ∃ J : Nat → AS → Trs → Prop, aNxG (J 0) s ts1 ∧ (∀ i s ts, J i s ts → AIt.keep ⟨ds.map .dat, fun _ => True⟩ ts) ∧
  (∀ i x s ts, (AIt.items ⟨ds.map .dat, fun _ => True⟩)[i]? = some x → J i s ts → g x s ts fun s2 ts2 => b { nx := aNxG (J (i + 1)), rt := D.rt, bk := aNxG D.nx, ct := aNxG (J (i + 1)) } s2 ts2) ∧ ∀ s ts, J (AIt.items ⟨ds.map .dat, fun _ => True⟩).length s ts → aNxG D.nx s ts := by
  refine ⟨J, h0, fun _ _ _ _ => True.intro, fun i x s ts hx j => ?_, fun s ts j => hd s ts (by simpa using j)⟩
  have hx : (ds.map Tr.dat)[i]? = some x := hx
  rw [List.getElem?_map] at hx
  cases z : ds[i]? with
  | none => rw [z] at hx; cases hx
  | some d =>
    rw [z] at hx
    cases hx
    exact hs i d s ts _ _ _ z j (fun _ _ h => h) (fun _ _ h => h) (fun _ _ h => h)
theorem forRz {s : AS} {D : AD} {g : AG} {b : AX} {n : Nat} {f : Nat → Int} {ts1 : Trs} (J : Nat → AS → Trs → Prop) (h0 : aNxG (J 0) s ts1) (hs : ∀ i s ts (N B : AS → Trs → Prop) (R : AQ), i < n → J i s ts → (∀ s ts, aNxG (J (i + 1)) s ts → N s ts) → (∀ t ts, D.rt t ts → R t ts) → (∀ s ts, aNxG D.nx s ts → B s ts) → g (.dat (.int (f i))) s ts fun s2 ts2 => b { nx := N, rt := R, bk := B, ct := N } s2 ts2)
    (hd : ∀ s ts, J n s ts → aNxG D.nx s ts) : ∃ J : Nat → AS → Trs → Prop, aNxG (J 0) s ts1 ∧ (∀ i s ts, J i s ts → AIt.keep ⟨(List.range n).map fun k => .dat (.int (f k)), fun _ => True⟩ ts) ∧
  (∀ i x s ts, (AIt.items ⟨(List.range n).map fun k => .dat (.int (f k)), fun _ => True⟩)[i]? = some x → J i s ts → g x s ts fun s2 ts2 => b { nx := aNxG (J (i + 1)), rt := D.rt, bk := aNxG D.nx, ct := aNxG (J (i + 1)) } s2 ts2) ∧ ∀ s ts, J (AIt.items ⟨(List.range n).map fun k => .dat (.int (f k)), fun _ => True⟩).length s ts → aNxG D.nx s ts :=
  forRg J h0 (fun i s ts hi j => hs i s ts _ _ _ hi j (fun _ _ h => h) (fun _ _ h => h) (fun _ _ h => h)) hd

/-! ## dicts over trees -/
def kT : Key → Tr
  | .inl i => .dat (.int i)
  | .inr x => .dat (.str x)
theorem kT_rt {K : PySem.W.Frag} {S : Hp} {k : Key} {v : V} (r : Rt K S (kT k) v) : v = kV k := by
  cases k with
  | inl i => exact rt_int r
  | inr x => exact rt_str r
section
variable {κ β : Type} [DecidableEq κ]
def valT (kvs : List (κ × β)) (k : κ) : Option β := (kvs.find? fun kv => decide (kv.1 = k)).map (·.2)
def putT (kvs : List (κ × β)) (k : κ) (v : β) : List (κ × β) := if (kvs.any fun kv => decide (kv.1 = k)) = true then kvs.map (fun kv => if kv.1 = k then (kv.1, v) else kv) else kvs ++ [(k, v)]
def mergeT (kvs more : List (κ × β)) : List (κ × β) := more.foldl (fun acc kv => putT acc kv.1 kv.2) kvs
def dropT (kvs : List (κ × β)) (k : κ) : List (κ × β) := kvs.filter fun kv => decide (kv.1 ≠ k)
theorem valT_nil {k : κ} : valT ([] : List (κ × β)) k = none := rfl
theorem valT_pos {p : κ × β} {r : List (κ × β)} {k : κ} (e : p.1 = k) : valT (p :: r) k = some p.2 := by simp [valT, List.find?_cons, e]
theorem valT_neg {p : κ × β} {r : List (κ × β)} {k : κ} (e : ¬ p.1 = k) : valT (p :: r) k = valT r k := by simp [valT, List.find?_cons, e]
theorem valT_any (k : κ) : ∀ kvs : List (κ × β), (kvs.any fun kv => decide (kv.1 = k)) = (valT kvs k).isSome
  | [] => rfl
  | p :: r => by
    rw [List.any_cons]
    by_cases e : p.1 = k
    · simp only [valT_pos e, decide_eq_true e, Bool.true_or, Option.isSome_some]
    · rw [valT_neg e, decide_eq_false e, Bool.false_or]; exact valT_any k r
theorem valT_map (k j : κ) (y : β) : ∀ kvs : List (κ × β), valT (kvs.map fun kv => if kv.1 = k then (kv.1, y) else kv) j = (valT kvs j).map fun x => if j = k then y else x
  | [] => rfl
  | p :: r => by
    have ih := valT_map k j y r
    rw [List.map_cons]
    by_cases h : p.1 = k
    · rw [if_pos h]
      by_cases e : p.1 = j
      · rw [valT_pos (p := (p.1, y)) e, valT_pos e, Option.map_some, if_pos (e.symm.trans h)]
      · rw [valT_neg (p := (p.1, y)) e, valT_neg e, ih]
    · rw [if_neg h]
      by_cases e : p.1 = j
      · rw [valT_pos (p := p) e, valT_pos e, Option.map_some, if_neg (fun z => h (e.trans z))]
      · rw [valT_neg (p := p) e, valT_neg e, ih]
theorem valT_snoc (k j : κ) (y : β) : ∀ kvs : List (κ × β), valT kvs k = none → valT (kvs ++ [(k, y)]) j = if j = k then some y else valT kvs j
  | [], _ => by
    by_cases e : k = j
    · rw [if_pos e.symm]; exact valT_pos (p := (k, y)) e
    · rw [if_neg (fun z => e z.symm)]; exact valT_neg (p := (k, y)) e
  | p :: r, hn => by
    rw [List.cons_append]
    have hk : ¬ p.1 = k := fun z => by rw [valT_pos z] at hn; cases hn
    rw [valT_neg hk] at hn
    have ih := valT_snoc k j y r hn
    by_cases e : p.1 = j
    · rw [valT_pos e, valT_pos e, if_neg (fun z => hk (e.trans z))]
    · rw [valT_neg e, valT_neg e, ih]
theorem valT_put (kvs : List (κ × β)) (k j : κ) (y : β) : valT (putT kvs k y) j = if j = k then some y else valT kvs j := by
  unfold putT
  by_cases a : (kvs.any fun kv => decide (kv.1 = k)) = true
  · rw [if_pos a, valT_map]
    rw [valT_any] at a
    by_cases e : j = k
    · obtain ⟨x, hx⟩ := Option.isSome_iff_exists.mp a
      rw [if_pos e, e, hx, Option.map_some, if_pos rfl]
    · rw [if_neg e]
      cases valT kvs j with
      | none => rfl
      | some x => rw [Option.map_some, if_neg e]
  · rw [if_neg a]
    refine valT_snoc k j y kvs ?_
    rw [valT_any] at a
    cases q : valT kvs k with
    | none => rfl
    | some x => rw [q] at a; exact (a rfl).elim
theorem length_putT (kvs : List (κ × β)) (k : κ) (v : β) : (putT kvs k v).length ≤ kvs.length + 1 := by
  unfold putT
  split
  · rw [List.length_map]; omega
  · rw [List.length_append, List.length_cons, List.length_nil]; omega
theorem putT_keys (kvs : List (κ × β)) (k : κ) (v : β) : (putT kvs k v).map (·.1) = if k ∈ kvs.map (·.1) then kvs.map (·.1) else kvs.map (·.1) ++ [k] := by
  have e : (kvs.any fun kv => decide (kv.1 = k)) = decide (k ∈ kvs.map (·.1)) := by
    induction kvs with
    | nil => simp
    | cons p r ih =>
      rw [List.any_cons, ih, List.map_cons]
      by_cases z : p.1 = k
      · simp [z]
      · have : ¬ k = p.1 := fun y => z y.symm
        simp [z, this]
  unfold putT
  rw [e]
  by_cases z : k ∈ kvs.map (·.1)
  · rw [if_pos (decide_eq_true z), if_pos z, List.map_map]
    refine List.map_congr_left fun q _ => ?_
    show (if q.1 = k then (q.1, v) else q).1 = q.1
    split <;> rfl
  · rw [if_neg (by simpa using z), if_neg z, List.map_append]; rfl
theorem putT_nodup {kvs : List (κ × β)} (k : κ) (v : β) (h : (kvs.map (·.1)).Nodup) : ((putT kvs k v).map (·.1)).Nodup := by
  rw [putT_keys]
  split
  · exact h
  · rename_i z
    rw [List.nodup_append]
    exact ⟨h, by simp, fun a ha b hb e => z (by rw [List.mem_singleton.mp hb] at e; rw [← e]; exact ha)⟩
end
section
variable {K : PySem.W.Frag} {S : Hp}
theorem valT_rt {k : Key} {t : Tr} : ∀ {kvs : List (Key × Tr)} {ps : List (Key × V)}, ps.map (·.1) = kvs.map (·.1) → RtL K S (kvs.map (·.2)) (ps.map (·.2)) → valT kvs k = some t → ∃ v, valV ps k = some v ∧ Rt K S t v
  | [], _, _, _, h => by cases h
  | (q, x) :: kvs, [], e, _, _ => by simp at e
  | (q, x) :: kvs, (q', v) :: ps, e, r, h => by
    simp only [List.map_cons, List.cons.injEq] at e
    obtain ⟨e1, e2⟩ := e
    subst e1
    cases r with
    | cons r1 r2 =>
      by_cases z : q' = k
      · rw [valT_pos (p := (q', x)) z] at h
        cases h
        exact ⟨v, valV_pos (p := (q', v)) z, r1⟩
      · rw [valT_neg (p := (q', x)) z] at h
        rw [valV_neg (p := (q', v)) z]
        exact valT_rt e2 r2 h
theorem valT_none {k : Key} : ∀ {kvs : List (Key × Tr)} {ps : List (Key × V)}, ps.map (·.1) = kvs.map (·.1) → (valV ps k).isSome = (valT kvs k).isSome
  | [], [], _ => rfl
  | [], _ :: _, e => by simp at e
  | (q, x) :: kvs, [], e => by simp at e
  | (q, x) :: kvs, (q', v) :: ps, e => by
    simp only [List.map_cons, List.cons.injEq] at e
    obtain ⟨e1, e2⟩ := e
    have e1 : q' = q := e1
    subst e1
    by_cases z : q' = k
    · rw [valT_pos (p := (q', x)) z, valV_pos (p := (q', v)) z]; rfl
    · rw [valT_neg (p := (q', x)) z, valV_neg (p := (q', v)) z]
      exact valT_none e2
theorem any_keys {β γ : Type} {k : Key} : ∀ {kvs : List (Key × β)} {ps : List (Key × γ)}, ps.map (·.1) = kvs.map (·.1) → (ps.any fun kv => decide (kv.1 = k)) = kvs.any fun kv => decide (kv.1 = k)
  | [], [], _ => rfl
  | [], _ :: _, e => by simp at e
  | _ :: _, [], e => by simp at e
  | (q, x) :: kvs, (q', v) :: ps, e => by
    simp only [List.map_cons, List.cons.injEq] at e
    rw [List.any_cons, List.any_cons, any_keys e.2, e.1]
theorem rep_rt {k : Key} {y : Tr} {u : V} (ry : Rt K S y u) : ∀ {kvs : List (Key × Tr)} {ps : List (Key × V)}, ps.map (·.1) = kvs.map (·.1) → RtL K S (kvs.map (·.2)) (ps.map (·.2)) →
    RtL K S ((kvs.map fun kv => if kv.1 = k then (kv.1, y) else kv).map (·.2)) ((ps.map fun kv => if kv.1 = k then (kv.1, u) else kv).map (·.2))
  | [], [], _, _ => .nil
  | [], _ :: _, e, _ => by simp at e
  | _ :: _, [], e, _ => by simp at e
  | (q, x) :: kvs, (q', v) :: ps, e, r => by
    simp only [List.map_cons, List.cons.injEq] at e
    obtain ⟨e1, e2⟩ := e
    have e1 : q' = q := e1
    subst e1
    cases r with
    | cons r1 r2 =>
      have ih := rep_rt (k := k) ry e2 r2
      simp only [List.map_cons]
      by_cases z : q' = k
      · rw [if_pos z, if_pos z]; exact .cons ry ih
      · rw [if_neg z, if_neg z]; exact .cons r1 ih
theorem rep_keys {β : Type} {k : Key} {y : β} (kvs : List (Key × β)) : (kvs.map fun kv => if kv.1 = k then (kv.1, y) else kv).map (·.1) = kvs.map (·.1) := by
  rw [List.map_map]
  refine List.map_congr_left fun q _ => ?_
  show (if q.1 = k then (q.1, y) else q).1 = q.1
  split <;> rfl
theorem putT_rt {k : Key} {y : Tr} {u : V} (ry : Rt K S y u) {kvs : List (Key × Tr)} {ps : List (Key × V)} (e : ps.map (·.1) = kvs.map (·.1)) (r : RtL K S (kvs.map (·.2)) (ps.map (·.2))) :
    (putK ps k u).map (·.1) = (putT kvs k y).map (·.1) ∧ RtL K S ((putT kvs k y).map (·.2)) ((putK ps k u).map (·.2)) := by
  unfold putT putK
  rw [any_keys (k := k) e]
  split
  · exact ⟨by rw [rep_keys, rep_keys, e], rep_rt ry e r⟩
  · simp only [List.map_append]
    exact ⟨by rw [e]; rfl, r.app (.cons ry .nil)⟩
theorem ndsK_app : ∀ (a b : List (Key × Tr)), ndsK (a ++ b) = ndsK a ++ ndsK b
  | [], b => by simp [ndsK]
  | (k, t) :: a, b => by simp [ndsK, ndsK_app a b]
theorem rep_nds {k : Key} {y : Tr} (ny : nds y = []) : ∀ kvs : List (Key × Tr), (ndsK (kvs.map fun kv => if kv.1 = k then (kv.1, y) else kv)).Sublist (ndsK kvs)
  | [] => List.Sublist.refl _
  | (q, x) :: r => by
    have ih := rep_nds (k := k) ny r
    rw [List.map_cons]
    by_cases z : q = k
    · rw [if_pos z]; simp only [ndsK, ny, List.nil_append]; exact ih.trans (List.sublist_append_right _ _)
    · rw [if_neg z]; simp only [ndsK]; exact List.Sublist.append (List.Sublist.refl _) ih
theorem putT_nds {k : Key} {y : Tr} (ny : nds y = []) (kvs : List (Key × Tr)) : (ndsK (putT kvs k y)).Sublist (ndsK kvs) := by
  unfold putT
  split
  · exact rep_nds ny kvs
  · rw [ndsK_app]
    simp [ndsK, ny]
theorem FocL.inOd {S RH H : Hp} {O : List Addr} {ts : Trs} {p : Addr} {kvs : List (Key × Tr)} {c : Tr → Trs} (st : Sta K S RH H O ts) (f : FocL ts (.dct p kvs) c) : p ∈ O := st.io _ (f.sees (.dct p (voK kvs)) (by rw [nds]; exact List.mem_cons_self))
end
/-- d[k] -/
def aDGet (a b : AE) : AE := fun s ts Q => a s ts fun x ts1 => b s ts1 fun y ts2 => ∃ p kvs c k t, x = .val (.ref p) ∧ FocL ts2 (.dct p kvs) c ∧ y = kT k ∧ valT kvs k = some t ∧ Q (vo t) ts2
/-- k in d -/
def aDIn (b a : AE) : AE := fun s ts Q => b s ts fun y ts1 => a s ts1 fun x ts2 => ∃ p kvs c k, x = .val (.ref p) ∧ FocL ts2 (.dct p kvs) c ∧ y = kT k ∧ Q (.dat (.bool (valT kvs k).isSome)) ts2
def aDNotIn (b a : AE) : AE := fun s ts Q => b s ts fun y ts1 => a s ts1 fun x ts2 => ∃ p kvs c k, x = .val (.ref p) ∧ FocL ts2 (.dct p kvs) c ∧ y = kT k ∧ Q (.dat (.bool (!(valT kvs k).isSome))) ts2
/-- d[k] = v -/
def aDPut (a b v : AE) : AX := fun D s ts => v s ts fun y ts1 => a s ts1 fun x ts2 => b s ts2 fun i ts3 => ∃ p kvs c k, x = .val (.ref p) ∧ FocL ts3 (.dct p kvs) c ∧ i = kT k ∧ nds y = [] ∧ kvs.length < 100000 ∧ D.nx s (c (.dct p (putT kvs k y)))
section
variable {K : PySem.W.Frag} {S0 RH : Hp} {td ty tv : TE} {a b v : AE}
instance [ha : LkE K S0 RH td a] [hb : LkE K S0 RH ty b] : LkE K S0 RH (tDGet td ty) (aDGet a b) := ⟨fun w σ s H O ts Q Q' st sl ct q =>
  ha.run w st sl (fun x H1 O1 tx ts1 st1 e1 rx q1 => hb.run w st1 (sl.ex e1) (fun y H2 O2 ty ts2 st2 e2 ry ⟨p, kvs, c, k, t, ex, f, ek, hv, q2⟩ => by
    subst ex ek
    obtain rfl := rt_val (rx.ex e2)
    obtain rfl := kT_rt ry
    obtain ⟨ps, h1, h2, h3⟩ := st2.dct f
    obtain ⟨u, hu, ru⟩ := valT_rt h2 h3 hv
    exact ⟨p, u, rfl, by rw [← hu]; exact DGet.k h1, ct _ _ _ _ _ st2 (e1.trans e2) ru.vo q2⟩) q1) q⟩
instance [hb : LkE K S0 RH ty b] [ha : LkE K S0 RH td a] : LkE K S0 RH (tDIn ty td) (aDIn b a) := ⟨fun w σ s H O ts Q Q' st sl ct q =>
  hb.run w st sl (fun y H1 O1 ty ts1 st1 e1 ry q1 => ha.run w st1 (sl.ex e1) (fun x H2 O2 tx ts2 st2 e2 rx ⟨p, kvs, c, k, ex, f, ek, q2⟩ => by
    subst ex ek
    obtain rfl := rt_val rx
    obtain rfl := kT_rt ry
    obtain ⟨ps, h1, h2, h3⟩ := st2.dct f
    exact ⟨p, _, rfl, DGet.k h1, by rw [valT_none (k := k) h2]; exact ct _ _ _ _ _ st2 (e1.trans e2) (.dat (.bl _)) q2⟩) q1) q⟩
instance [hb : LkE K S0 RH ty b] [ha : LkE K S0 RH td a] : LkE K S0 RH (tDNotIn ty td) (aDNotIn b a) := ⟨fun w σ s H O ts Q Q' st sl ct q =>
  hb.run w st sl (fun y H1 O1 ty ts1 st1 e1 ry q1 => ha.run w st1 (sl.ex e1) (fun x H2 O2 tx ts2 st2 e2 rx ⟨p, kvs, c, k, ex, f, ek, q2⟩ => by
    subst ex ek
    obtain rfl := rt_val rx
    obtain rfl := kT_rt ry
    obtain ⟨ps, h1, h2, h3⟩ := st2.dct f
    exact ⟨p, _, rfl, DGet.k h1, by rw [valT_none (k := k) h2]; exact ct _ _ _ _ _ st2 (e1.trans e2) (.dat (.bl _)) q2⟩) q1) q⟩
instance [ha : LkE K S0 RH td a] [hb : LkE K S0 RH ty b] [hv : LkE K S0 RH tv v] : LkX K S0 RH (sDPut td ty tv) (aDPut a b v) := ⟨fun w σ s H O ts D D' st sl d q =>
  hv.run w st sl (fun y H1 O1 ty ts1 st1 e1 ry q1 => ha.run w st1 (sl.ex e1) (fun x H2 O2 tx ts2 st2 e2 rx q2 => hb.run w st2 ((sl.ex e1).ex e2) (fun i H3 O3 ti ts3 st3 e3 ri ⟨p, kvs, c, k, ex, f, ek, ny, hl, q3⟩ => by
    subst ex ek
    obtain rfl := rt_val rx
    obtain rfl := kT_rt ri
    obtain ⟨ps, h1, h2, h3⟩ := st3.dct f
    obtain ⟨i1, i2⟩ := putT_rt (k := k) ((ry.ex e2).ex e3) h2 h3
    have hp := f.inOd st3
    have el : ps.length = kvs.length := by simpa using congrArg List.length h2
    have st4 := st3.setDct f (putT_nds ny kvs) i1 i2
    exact ⟨p, _, rfl, DPut.k h1 (by rw [el, sizeLine_eq]; omega), d.nx _ _ _ O3 _ st4 (by rw [hid_upd hp]; exact ((sl.ex e1).ex e2).ex e3) q3⟩) q2) q1) q⟩
end
/-! ### o[i] = v, a step at a time -/
def GSetQ (v : Tr) (s : AS) (R : AS → Trs → Prop) (o i : Tr) (ts2 : Trs) : Prop := ∃ p xs c k j, o = .val (.ref p) ∧ i = .dat (.int k) ∧ FocL ts2 (.lst p xs) c ∧ ixN xs.length k = some j ∧ nds v = [] ∧ ndsL xs = [] ∧ R s (c (.lst p (xs.set j v)))
theorem ra_gsetQ {a b : AE} {v : Tr} {s : AS} {ts : Trs} {R : AS → Trs → Prop} (h : a s ts fun o ts1 => b s ts1 fun i ts2 => GSetQ v s R o i ts2) : aGSetL a b v s ts R := h
theorem fo_gset {v : Tr} {s : AS} {ts : Trs} {R : AS → Trs → Prop} {p : Addr} {k : Int} (h : ∃ xs c j, FocL ts (.lst p xs) c ∧ ixN xs.length k = some j ∧ nds v = [] ∧ ndsL xs = [] ∧ R s (c (.lst p (xs.set j v)))) : GSetQ v s R (.val (.ref p)) (.dat (.int k)) ts := let ⟨_, _, _, f, e1, e2, e3, q⟩ := h; ⟨_, _, _, _, _, rfl, rfl, f, e1, e2, e3, q⟩
end GL

namespace GL
open PySem PySem.Spec PyProof.Rows L2 Evl

/-! ## sorted(d), dict(pairs), sorted(list(d.items())) over trees -/
def rSortDI : List V → Hp → VK → Prop := fun xs H Q => ∃ (a : Addr) (kvs : List (Key × V)) (ks : List Int), xs = [.ref a] ∧ Rd H a (.dK kvs) ∧ kvs.map (·.1) = ks.map Sum.inl ∧ ks.length < 64 ∧
    ∀ (ys : List Int) (p : Addr), ys.Perm ks → ys.Pairwise (· ≤ ·) → H p = none → Q (.ref p) (upd H p (.lst (ys.map V.int)))
theorem cr_sortDI {X : Cx} (hcalm : X.calm = true) : CallR X (.builtin "sorted") rSortDI := call_sortedDI hcalm
def rDictP (K : PySem.W.Frag) : List V → Hp → VK → Prop := fun xs H Q => ∃ (a : Addr) (ps : List Addr) (kvs : List (Key × V)), xs = [.ref a] ∧ SqL K H a (ps.map V.ref) ∧ Paired (fun p kv => SqT K H p [kV kv.1, kv.2]) ps kvs ∧
    ∀ p, H p = none → Q (.ref p) (upd H p (.dK (mergeK [] kvs)))
theorem cr_dictP {X : Cx} (hcalm : X.calm = true) : CallR X (.type "dict") (rDictP X.K) := call_dictP hcalm
def kD : Key → PyData
  | .inl i => .int i
  | .inr x => .str x
/-- sorted(d), the keys numbers -/
def aSortDI : AC := fun us ts Q => ∃ p kvs c ks, us = [.val (.ref p)] ∧ FocL ts (.dct p kvs) c ∧ kvs.map (·.1) = ks.map Sum.inl ∧ ks.length < 64 ∧ ∀ ys : List Int, ys.Perm ks → ys.Pairwise (· ≤ ·) → Q (.dat (.list (ys.map .int))) ts
/-- dict(l) of a list of pairs that is data -/
def aDictP : AC := fun us ts Q => ∃ kvs : List (Key × PyData), us = [.dat (.list (kvs.map fun q => .tuple [kD q.1, q.2]))] ∧ ∀ p, Q (.val (.ref p)) (ts ++ [.dct p (mergeT [] (kvs.map fun q => (q.1, Tr.dat q.2)))])
section
variable {K : PySem.W.Frag}
theorem rtl_int (S : Hp) (ns : List Int) : RtL K S ((ns.map PyData.int).map .dat) (ns.map V.int) := by
  rw [List.map_map]
  exact rtl_ints ns
instance : LkC K rSortDI aSortDI := ⟨fun {S RH H O ts xs us Q Q'} st r ct ⟨p, kvs, c, ks, eu, f, ek, hl, q⟩ => by
  subst eu
  obtain ⟨v, rfl, rv⟩ := rtl1 r
  obtain rfl := rt_val rv
  obtain ⟨ps, h1, h2, _⟩ := st.dct f
  refine ⟨p, ps, ks, rfl, .inl h1, h2.trans ek, hl, fun ys a hp hs np => ?_⟩
  exact ret_lstF st (rtl_int _ ys) ct np (Ex.new np) upd_same ⟨_, rfl, q ys hp hs⟩⟩
theorem dr_pair {S : Hp} {k : Key} {d : PyData} {v : V} (h : Dr K S v (.tuple [kD k, d])) : ∃ a u, v = .ref a ∧ SqT K S a [kV k, u] ∧ Dr K S u d := by
  cases h with
  | tup hs ha =>
    cases ha with
    | cons h1 h2 =>
      cases h2 with
      | cons h3 h4 =>
        cases h4
        refine ⟨_, _, rfl, ?_, h3⟩
        cases k with
        | inl i => cases h1; exact hs
        | inr x => cases h1; exact hs
theorem pairs_dr {S : Hp} : ∀ {kvs : List (Key × PyData)} {vs : List V}, DrAll K S vs (kvs.map fun q => .tuple [kD q.1, q.2]) →
    ∃ (ps : List Addr) (ls : List (Key × V)), vs = ps.map V.ref ∧ Paired (fun p kv => SqT K S p [kV kv.1, kv.2]) ps ls ∧ ls.map (·.1) = (kvs.map fun q => (q.1, Tr.dat q.2)).map (·.1) ∧ RtL K S ((kvs.map fun q => (q.1, Tr.dat q.2)).map (·.2)) (ls.map (·.2))
  | [], _, h => by cases h; exact ⟨[], [], rfl, .nil, rfl, .nil⟩
  | q :: kvs, _, h => by
    cases h with
    | cons h r =>
      obtain ⟨a, u, rfl, hs, hd⟩ := dr_pair h
      obtain ⟨ps, ls, rfl, hp, e, rr⟩ := pairs_dr r
      exact ⟨a :: ps, (q.1, u) :: ls, rfl, .cons hs hp, by simp [e], .cons (.dat hd) rr⟩
theorem mergeT_rt {S : Hp} : ∀ {more : List (Key × Tr)} {ls : List (Key × V)} {kvs : List (Key × Tr)} {ps : List (Key × V)}, ls.map (·.1) = more.map (·.1) → RtL K S (more.map (·.2)) (ls.map (·.2)) → ps.map (·.1) = kvs.map (·.1) → RtL K S (kvs.map (·.2)) (ps.map (·.2)) →
    (mergeK ps ls).map (·.1) = (mergeT kvs more).map (·.1) ∧ RtL K S ((mergeT kvs more).map (·.2)) ((mergeK ps ls).map (·.2))
  | [], [], _, _, _, _, e, r => ⟨e, r⟩
  | [], _ :: _, _, _, e, _, _, _ => by simp at e
  | _ :: _, [], _, _, e, _, _, _ => by simp at e
  | (k, t) :: more, (k', v) :: ls, kvs, ps, e, r, e2, r2 => by
    simp only [List.map_cons, List.cons.injEq] at e
    obtain ⟨e1, e3⟩ := e
    have e1 : k' = k := e1
    subst e1
    cases r with
    | cons r1 r3 =>
      obtain ⟨i1, i2⟩ := putT_rt (k := k') r1 e2 r2
      exact mergeT_rt (more := more) (ls := ls) e3 r3 i1 i2
theorem Paired.imp' {α β : Type} {R S : α → β → Prop} (h : ∀ a b, R a b → S a b) : ∀ {xs : List α} {ys : List β}, Paired R xs ys → Paired S xs ys
  | _, _, .nil => .nil
  | _, _, .cons a r => .cons (h _ _ a) (Paired.imp' h r)
theorem mergeT_nds : ∀ (more kvs : List (Key × Tr)), ndsK kvs = [] → (∀ q ∈ more, nds q.2 = []) → ndsK (mergeT kvs more) = []
  | [], _, h, _ => h
  | q :: more, kvs, h, hm => mergeT_nds more _ (List.sublist_nil.mp (by have := putT_nds (k := q.1) (hm q List.mem_cons_self) kvs; rw [h] at this; exact this)) fun x hx => hm x (List.mem_cons_of_mem _ hx)
instance : LkC K (rDictP K) aDictP := ⟨fun {S RH H O ts xs us Q Q'} st r ct ⟨kvs, eu, q⟩ => by
  subst eu
  obtain ⟨v, rfl, rv⟩ := rtl1 r
  cases rv with
  | dat rv =>
    cases rv with
    | lst hs ha =>
      obtain ⟨ps, ls, rfl, hp, e, rr⟩ := pairs_dr ha
      refine ⟨_, ps, ls, rfl, ex_l hid_ex (.inl hs), Paired.imp' (fun a b h => ex_t hid_ex h) hp, fun p np => ?_⟩
      have nn : ndsK (mergeT [] (kvs.map fun q => (q.1, Tr.dat q.2))) = [] := mergeT_nds _ _ (by simp [ndsK]) fun x hx => by
        obtain ⟨y, _, rfl⟩ := List.mem_map.mp hx
        simp [nds]
      have ex := hid_newO (O := O) (o := .dK (mergeK [] ls)) np
      obtain ⟨i1, i2⟩ := mergeT_rt e (rr.ex ex) (kvs := []) (ps := []) rfl .nil
      obtain ⟨st2, e2⟩ := st.come (t := .dct p (mergeT [] (kvs.map fun q => (q.1, Tr.dat q.2)))) (n := .dct p (voK (mergeT [] (kvs.map fun q => (q.1, Tr.dat q.2))))) np (Ex.new (o := .dK (mergeK [] ls)) np) (by simp [nds, nn]) rfl
        ⟨_, upd_same, by rw [voK_1]; exact i1, by rw [voK_2]; exact i2.vo⟩
      exact ct _ _ _ _ _ st2 e2 .val (q p)⟩
end
/-! ### sorted(list(d.items())), keys and values numbers -/
def lexle (a b : Int × Int) : Prop := a.1 < b.1 ∨ (a.1 = b.1 ∧ a.2 ≤ b.2)
def prD (q : Int × Int) : PyData := .tuple [.int q.1, .int q.2]
def entI (q : Int × Int) : Key × Tr := (.inl q.1, .dat (.int q.2))
def aSortItems (a : AE) : AE := fun s ts Q => a s ts fun x ts1 => ∃ p c es, x = .val (.ref p) ∧ FocL ts1 (.dct p (es.map entI)) c ∧ ∀ fs : List (Int × Int), fs.Perm es → fs.Pairwise lexle → Q (.dat (.list (fs.map prD))) ts1
def pk (H : Hp) : V → Int × Int := fun x => match x with
  | .ref t => (match H t with | some (.tup [.int i, .int j]) => (i, j) | _ => (0, 0))
  | _ => (0, 0)
section
variable {K : PySem.W.Frag} {S0 RH : Hp} {te : TE} {a : AE}
theorem ents_int {S : Hp} : ∀ {es : List (Int × Int)} {ps : List (Key × V)}, ps.map (·.1) = (es.map entI).map (·.1) → RtL K S ((es.map entI).map (·.2)) (ps.map (·.2)) → ps = es.map fun q => (.inl q.1, .int q.2)
  | [], [], _, _ => rfl
  | [], _ :: _, e, _ => by simp at e
  | _ :: _, [], e, _ => by simp at e
  | q :: es, (k, v) :: ps, e, r => by
    simp only [List.map_cons, List.cons.injEq] at e
    obtain ⟨e1, e2⟩ := e
    cases r with
    | cons r1 r2 =>
      have e3 := ents_int e2 r2
      have e4 : v = .int q.2 := rt_int r1
      have e1 : k = .inl q.1 := e1
      rw [List.map_cons, e3, e4, e1]
theorem pk_map {H : Hp} : ∀ {ts : List Addr} {es : List (Int × Int)}, Paired (fun (t : Addr) (q : Key × V) => H t = some (.tup [kV q.1, q.2])) ts (es.map fun q => (.inl q.1, .int q.2)) → (ts.map V.ref).map (pk H) = es ∧ ∀ x ∈ ts.map V.ref, ∃ t, x = V.ref t ∧ H t = some (.tup [.int (pk H x).1, .int (pk H x).2])
  | _, [], h => by cases h; exact ⟨rfl, fun _ h => by simp at h⟩
  | _, q :: es, h => by
    cases h with
    | cons h r =>
      have h' : H _ = some (.tup [.int q.1, .int q.2]) := h
      obtain ⟨i1, i2⟩ := pk_map r
      rename_i ta _
      have hq : pk H (.ref ta) = q := by unfold pk; simp only [h']
      refine ⟨by rw [List.map_cons, List.map_cons, i1, hq], fun x hx => ?_⟩
      rcases List.mem_cons.mp hx with rfl | hx
      · exact ⟨_, rfl, by rw [hq]; exact h'⟩
      · exact i2 x hx
theorem prs_rt {S : Hp} {H : Hp} : ∀ {ys : List V}, (∀ x ∈ ys, ∃ t, x = V.ref t ∧ SqT K S t [.int (pk H x).1, .int (pk H x).2]) → RtL K S (((ys.map (pk H)).map prD).map .dat) ys
  | [], _ => .nil
  | y :: ys, h => by
    obtain ⟨t, e, hs⟩ := h y List.mem_cons_self
    refine .cons ?_ (prs_rt fun x hx => h x (List.mem_cons_of_mem _ hx))
    subst e
    exact .dat (.tup hs (.cons (.int _) (.cons (.int _) .nil)))
instance [ha : LkE K S0 RH te a] : LkE K S0 RH (tCB (rSortedPO K) (tCons (LiI.tListItems te) tNil)) (aSortItems a) := ⟨fun w σ s H O ts Q Q' st sl ct q =>
  ha.run w st sl (fun x H1 O1 tx ts1 st1 e1 rx ⟨p, c, es, ex, f, q1⟩ => by
    subst ex
    obtain rfl := rt_val rx
    obtain ⟨ps, h1, h2, h3⟩ := st1.dct f
    obtain rfl := ents_int h2 h3
    refine ⟨p, _, rfl, h1, fun H2 l tsA e2 nl nts _ hl hp => ?_⟩
    obtain ⟨k1, k2⟩ := pk_map hp
    refine ⟨l, _, pk H2, rfl, sq_of hl, k2, fun ys r hs hb nr => ?_⟩
    have hperm : ys.Perm (tsA.map V.ref) := hb.perm
    have st2 := st1.grow e2
    have eh := hid_grow (O := O1) e2
    have lk : ∀ x ∈ ys, ∃ t, x = V.ref t ∧ SqT K (hid H2 O1) t [.int (pk H2 x).1, .int (pk H2 x).2] := fun x hx => by
      have hx' := hperm.mem_iff.mp hx
      obtain ⟨t, e, ht⟩ := k2 x hx'
      subst e
      obtain ⟨t', ht', e'⟩ := List.mem_map.mp hx'
      cases e'
      exact ⟨t, rfl, .inl (.inl (hid_of ht fun z => st1.lv t z (nts t ht')))⟩
    refine ret_lstF (us := ((ys.map (pk H2)).map prD).map .dat) st2 (prs_rt lk) (fun v H3 O3 t ts3 st3 e3 rt q3 => ct v H3 O3 t ts3 st3 ((e1.trans eh).trans e3) rt q3) nr (Ex.new nr) upd_same ⟨_, rfl, q1 _ ?_ ?_⟩
    · rw [← k1]; exact hperm.map _
    · rw [List.pairwise_map]
      refine hs.imp fun {x y} h => ?_
      have h' := SrtO.lexB_no.mp h
      unfold lexle
      omega) q⟩
end
end GL

namespace GL
open PySem PySem.Spec PyProof.Rows L2 Evl

/-! ## a log as data: revoked, replay -/
structure Tn where
  n : Int
  cs : List (Int × PyData)
  rs : List Int
def copD (c : Int × PyData) : PyData := .tuple [.int c.1, c.2]
def trD (t : Tn) : PyData := .tuple [.int t.n, .list (t.cs.map copD), .list (t.rs.map .int)]
def hiS (acc : List (Int × Int)) (t : Tn) : List (Int × Int) := t.rs.foldl (fun acc h => putT acc h t.n) acc
def hi (L : List Tn) : List (Int × Int) := L.foldl hiS []
def lastS (h : Int) (o : Option Int) (t : Tn) : Option Int := if h ∈ t.rs then some t.n else o
def lastN (L : List Tn) (h : Int) : Option Int := L.foldl (lastS h) none
def revP (L : List Tn) : List (Int × Int) := (List.range 32).filterMap fun (i : Nat) => (lastN L (i : Int)).map fun n => ((i : Int), n)
def okN (o : Option Int) (m : Int) : Bool := match o with | none => true | some n => decide (n < m)
def repP (L : List Tn) : List (Int × PyData) := L.flatMap fun t => t.cs.filter fun c => okN (lastN L c.1) t.n
def dueP : List Tn → List (Int × PyData)
  | [] => []
  | t :: L => t.cs.filter (fun c => !(t :: L).any fun o => decide (c.1 ∈ o.rs)) ++ dueP L
theorem hiS_val (h : Int) (t : Tn) : ∀ (rs : List Int) (acc : List (Int × Int)), valT (rs.foldl (fun acc h => putT acc h t.n) acc) h = if h ∈ rs then some t.n else valT acc h
  | [], acc => by simp
  | r :: rs, acc => by
    rw [List.foldl_cons, hiS_val h t rs, valT_put]
    by_cases z : h ∈ rs
    · rw [if_pos z, if_pos (List.mem_cons_of_mem _ z)]
    · rw [if_neg z]
      by_cases y : h = r
      · rw [if_pos y, if_pos (by rw [y]; exact List.mem_cons_self)]
      · rw [if_neg y, if_neg (by simp [y, z])]
theorem hi_val' (h : Int) : ∀ (L : List Tn) (acc : List (Int × Int)), valT (L.foldl hiS acc) h = L.foldl (lastS h) (valT acc h)
  | [], _ => rfl
  | t :: L, acc => by
    rw [List.foldl_cons, List.foldl_cons, hi_val' h L, show valT (hiS acc t) h = lastS h (valT acc h) t from hiS_val h t t.rs acc]
theorem hi_val (L : List Tn) (h : Int) : valT (hi L) h = lastN L h := hi_val' h L []
theorem foldput_nodup (n : Int) : ∀ (rs : List Int) (acc : List (Int × Int)), (acc.map (·.1)).Nodup → ((rs.foldl (fun acc h => putT acc h n) acc).map (·.1)).Nodup
  | [], _, h => h
  | r :: rs, acc, h => foldput_nodup n rs _ (putT_nodup r n h)
theorem hi_nodup' : ∀ (L : List Tn) (acc : List (Int × Int)), (acc.map (·.1)).Nodup → ((L.foldl hiS acc).map (·.1)).Nodup
  | [], _, h => h
  | t :: L, acc, h => hi_nodup' L _ (foldput_nodup t.n t.rs acc h)
theorem hi_nodup (L : List Tn) : ((hi L).map (·.1)).Nodup := hi_nodup' L [] (by simp)
theorem val_mem {κ β : Type} [DecidableEq κ] {k : κ} {v : β} : ∀ {l : List (κ × β)}, (l.map (·.1)).Nodup → ((k, v) ∈ l ↔ valT l k = some v)
  | [], _ => by simp [valT]
  | p :: l, h => by
    rw [List.map_cons, List.nodup_cons] at h
    by_cases e : p.1 = k
    · rw [valT_pos e]
      constructor
      · intro m
        rcases List.mem_cons.mp m with m | m
        · rw [← m]
        · exact absurd (List.mem_map_of_mem (f := (·.1)) m) (by rw [← e]; exact h.1)
      · intro m
        cases m
        rw [← e]
        exact List.mem_cons_self
    · rw [valT_neg e, ← val_mem h.2]
      constructor
      · intro m
        rcases List.mem_cons.mp m with m | m
        · exact absurd (by rw [← m]) e
        · exact m
      · exact fun m => List.mem_cons_of_mem _ m
theorem mem_hi {L : List Tn} {h n : Int} : (h, n) ∈ hi L ↔ lastN L h = some n := by rw [val_mem (hi_nodup L), hi_val]
theorem lastN_app (L M : List Tn) (h : Int) : lastN (L ++ M) h = M.foldl (lastS h) (lastN L h) := by unfold lastN; rw [List.foldl_append]
theorem lastS_or (h : Int) : ∀ (M : List Tn) (o : Option Int), (M.any (fun t => decide (h ∈ t.rs)) = false ∧ M.foldl (lastS h) o = o) ∨ (M.any (fun t => decide (h ∈ t.rs)) = true ∧ ∃ t ∈ M, h ∈ t.rs ∧ M.foldl (lastS h) o = some t.n)
  | [], o => .inl ⟨rfl, rfl⟩
  | t :: M, o => by
    rw [List.any_cons, List.foldl_cons]
    rcases lastS_or h M (lastS h o t) with ⟨h1, h2⟩ | ⟨h1, u, hu, hr, h2⟩
    · by_cases z : h ∈ t.rs
      · refine .inr ⟨by rw [decide_eq_true z]; rfl, t, List.mem_cons_self, z, ?_⟩
        rw [h2]; unfold lastS; rw [if_pos z]
      · refine .inl ⟨by rw [h1, decide_eq_false z]; rfl, ?_⟩
        rw [h2]; unfold lastS; rw [if_neg z]
    · exact .inr ⟨by rw [h1, Bool.or_true], u, List.mem_cons_of_mem _ hu, hr, h2⟩
theorem lastN_some {L : List Tn} {h n : Int} (e : lastN L h = some n) : ∃ t ∈ L, h ∈ t.rs ∧ n = t.n := by
  rcases lastS_or h L none with ⟨_, h2⟩ | ⟨_, t, ht, hr, h2⟩
  · rw [show L.foldl (lastS h) none = lastN L h from rfl, e] at h2; cases h2
  · rw [show L.foldl (lastS h) none = lastN L h from rfl, e] at h2
    cases h2
    exact ⟨t, ht, hr, rfl⟩
abbrev Asc (L : List Tn) : Prop := L.Pairwise fun a b => a.n < b.n
theorem due_ok {pre suf : List Tn} {t : Tn} {h : Int} (a : Asc (pre ++ t :: suf)) : okN (lastN (pre ++ t :: suf) h) t.n = !(t :: suf).any fun o => decide (h ∈ o.rs) := by
  obtain ⟨_, a2, a3⟩ := List.pairwise_append.mp a
  rw [lastN_app]
  rcases lastS_or h (t :: suf) (lastN pre h) with ⟨h1, h2⟩ | ⟨h1, u, hu, _, h2⟩
  · rw [h2, h1]
    cases e : lastN pre h with
    | none => rfl
    | some n =>
      obtain ⟨v, hv, _, rfl⟩ := lastN_some e
      exact decide_eq_true (a3 v hv t List.mem_cons_self)
  · rw [h2, h1]
    refine decide_eq_false ?_
    rcases List.mem_cons.mp hu with rfl | hu
    · omega
    · have := (List.pairwise_cons.mp a2).1 u hu
      omega
theorem due_rep' : ∀ (suf pre : List Tn), Asc (pre ++ suf) → (suf.flatMap fun t => t.cs.filter fun c => okN (lastN (pre ++ suf) c.1) t.n) = dueP suf
  | [], _, _ => rfl
  | t :: suf, pre, a => by
    have ih := due_rep' suf (pre ++ [t]) (by rw [List.append_assoc]; exact a)
    rw [List.append_assoc, List.singleton_append] at ih
    rw [List.flatMap_cons, dueP, ih]
    congr 1
    exact List.filter_congr fun c _ => due_ok a
theorem due_rep {L : List Tn} (a : Asc L) : repP L = dueP L := due_rep' L [] a
theorem rep_new {L : List Tn} {m : Int} {cs : List (Int × PyData)} (hm : ∀ t ∈ L, t.n < m) : repP (L ++ [⟨m, cs, []⟩]) = repP L ++ cs := by
  have e : ∀ h, lastN (L ++ [⟨m, cs, []⟩]) h = lastN L h := fun h => by rw [lastN_app]; rfl
  unfold repP
  simp only [List.flatMap_append, e, List.flatMap_cons, List.flatMap_nil, List.append_nil]
  congr 1
  refine List.filter_eq_self.mpr fun c _ => ?_
  cases z : lastN L c.1 with
  | none => rfl
  | some n =>
    obtain ⟨t, ht, _, rfl⟩ := lastN_some z
    exact decide_eq_true (hm t ht)
theorem rep_rev {L : List Tn} {m : Int} {rs : List Int} (hm : ∀ t ∈ L, t.n < m) : repP (L ++ [⟨m, [], rs⟩]) = (repP L).filter fun c => decide (¬ c.1 ∈ rs) := by
  have e : ∀ h, lastN (L ++ [⟨m, [], rs⟩]) h = if h ∈ rs then some m else lastN L h := fun h => by rw [lastN_app]; rfl
  unfold repP
  simp only [List.flatMap_append, e, List.flatMap_cons, List.flatMap_nil, List.append_nil, List.filter_nil]
  rw [List.filter_flatMap]
  have gen : ∀ M : List Tn, (∀ t ∈ M, t.n < m) → (M.flatMap fun t => t.cs.filter fun c => okN (if c.1 ∈ rs then some m else lastN L c.1) t.n) = M.flatMap fun t => (t.cs.filter fun c => okN (lastN L c.1) t.n).filter fun c => decide (¬ c.1 ∈ rs) := by
    intro M
    induction M with
    | nil => intro _; rfl
    | cons t M ih =>
      intro h
      rw [List.flatMap_cons, List.flatMap_cons, ih fun x hx => h x (List.mem_cons_of_mem _ hx), List.filter_filter]
      congr 1
      refine List.filter_congr fun c _ => ?_
      by_cases z : c.1 ∈ rs
      · rw [if_pos z, decide_eq_false (by simpa using z), Bool.false_and]
        have := h t List.mem_cons_self
        exact decide_eq_false (by omega)
      · rw [if_neg z, decide_eq_true z, Bool.true_and]
  exact gen L hm
/-! ### small homes -/
theorem nodup_le : ∀ (n : Nat) {l : List Int}, l.Nodup → (∀ x ∈ l, 0 ≤ x ∧ x < (n : Int)) → l.length ≤ n
  | 0, l, _, h => by
    cases l with
    | nil => simp
    | cons x l => have := h x List.mem_cons_self; omega
  | n + 1, l, nd, h => by
    by_cases z : (n : Int) ∈ l
    · have := nodup_le n (l := l.erase (n : Int)) (nd.erase _) fun x hx => by
        have hx' := (List.Nodup.mem_erase_iff nd).mp hx
        have := h x hx'.2
        omega
      rw [List.length_erase_of_mem z] at this
      omega
    · exact Nat.le_succ_of_le (nodup_le n nd fun x hx => by
        have := h x hx
        have : x ≠ n := fun e => z (by rw [← e]; exact hx)
        omega)
def RsOk (L : List Tn) : Prop := ∀ t ∈ L, ∀ h ∈ t.rs, 0 ≤ h ∧ h < 32
theorem lastN_rng {L : List Tn} (r : RsOk L) {h n : Int} (e : lastN L h = some n) : 0 ≤ h ∧ h < 32 := by
  obtain ⟨t, ht, hr, _⟩ := lastN_some e
  exact r t ht h hr
theorem hi_keys_rng {L : List Tn} (r : RsOk L) : ∀ x ∈ (hi L).map (·.1), 0 ≤ x ∧ x < 32 := fun x hx => by
  obtain ⟨⟨h, n⟩, hm, rfl⟩ := List.mem_map.mp hx
  exact lastN_rng r (mem_hi.mp hm)
theorem hi_len {L : List Tn} (r : RsOk L) : (hi L).length ≤ 32 := by
  have := nodup_le 32 (hi_nodup L) (hi_keys_rng r)
  rwa [List.length_map] at this
theorem mem_revP {L : List Tn} (r : RsOk L) {h n : Int} : (h, n) ∈ revP L ↔ lastN L h = some n := by
  unfold revP
  rw [List.mem_filterMap]
  constructor
  · rintro ⟨i, _, e⟩
    rw [Option.map_eq_some_iff] at e
    obtain ⟨m, e1, e2⟩ := e
    cases e2
    exact e1
  · intro e
    have := lastN_rng r e
    refine ⟨h.toNat, List.mem_range.mpr (by omega), ?_⟩
    rw [show ((h.toNat : Nat) : Int) = h from by omega, e]
    rfl
theorem revP_asc (L : List Tn) : (revP L).Pairwise fun a b => a.1 < b.1 := by
  unfold revP
  rw [List.pairwise_filterMap]
  refine List.pairwise_lt_range.imp fun {a b} hab x hx y hy => ?_
  simp only [Option.map_eq_some_iff] at hx hy
  obtain ⟨_, _, rfl⟩ := hx
  obtain ⟨_, _, rfl⟩ := hy
  show (a : Int) < b
  omega
theorem asc_nodup {α : Type} {l : List (Int × α)} (h : l.Pairwise fun a b => a.1 < b.1) : l.Nodup := h.imp fun {a b} h e => by rw [e] at h; omega
theorem asc_uniq {α : Type} {l m : List (Int × α)} (h : l.Pairwise fun a b => a.1 < b.1) (g : m.Pairwise fun a b => a.1 < b.1) (e : ∀ x, x ∈ l ↔ x ∈ m) : l = m :=
  List.Perm.eq_of_pairwise (le := fun a b => a.1 < b.1) (fun a b _ _ h1 h2 => by omega) h g ((List.perm_ext_iff_of_nodup (asc_nodup h) (asc_nodup g)).mpr e)
theorem sort_keys {L : List Tn} (r : RsOk L) {ys : List Int} (p : ys.Perm ((hi L).map (·.1))) (s : ys.Pairwise (· ≤ ·)) : ys.map (fun h => (h, (lastN L h).getD 0)) = revP L := by
  have nd : ys.Nodup := p.nodup_iff.mpr (hi_nodup L)
  refine asc_uniq ?_ (revP_asc L) fun ⟨h, n⟩ => ?_
  · rw [List.pairwise_map]
    exact (s.and nd).imp fun {a b} ⟨h1, h2⟩ => by show a < b; omega
  · rw [mem_revP r, List.mem_map]
    constructor
    · rintro ⟨x, hx, e⟩
      cases e
      obtain ⟨⟨h, n⟩, hm, rfl⟩ := List.mem_map.mp (p.mem_iff.mp hx)
      have := mem_hi.mp hm
      show lastN L h = some ((lastN L h).getD 0)
      rw [this]; rfl
    · intro e
      exact ⟨h, p.mem_iff.mpr (List.mem_map.mpr ⟨(h, n), mem_hi.mpr e, rfl⟩), by rw [e]; rfl⟩
theorem sort_items {L : List Tn} (r : RsOk L) {fs : List (Int × Int)} (p : fs.Perm (hi L)) (s : fs.Pairwise lexle) : fs = revP L := by
  have nd : (fs.map (·.1)).Nodup := (p.map (·.1)).nodup_iff.mpr (hi_nodup L)
  refine asc_uniq ?_ (revP_asc L) fun ⟨h, n⟩ => ?_
  · have nd' : fs.Pairwise fun a b => a.1 ≠ b.1 := List.pairwise_map.mp nd
    exact (s.and nd').imp fun {a b} ⟨h1, h2⟩ => by unfold lexle at h1; omega
  · rw [mem_revP r, p.mem_iff, mem_hi]
theorem revP_nodup (L : List Tn) : ((revP L).map (·.1)).Nodup := List.pairwise_map.mpr ((revP_asc L).imp fun {a b} h e => by omega)
theorem revP_val {L : List Tn} (r : RsOk L) (h : Int) : valT (revP L) h = lastN L h := by
  cases e : valT (revP L) h with
  | some n => exact ((mem_revP r).mp ((val_mem (revP_nodup L)).mpr e)).symm
  | none =>
    cases z : lastN L h with
    | none => rfl
    | some n => rw [(val_mem (revP_nodup L)).mp ((mem_revP r).mpr z)] at e; cases e
theorem revP_len (L : List Tn) : (revP L).length ≤ 32 := by
  unfold revP
  have := List.length_filterMap_le (fun i : Nat => (lastN L (i : Int)).map fun n => ((i : Int), n)) (List.range 32)
  rwa [List.length_range] at this
/-! ### the same as trees -/
theorem entI_any (h : Int) (es : List (Int × Int)) : ((es.map entI).any fun kv => decide (kv.1 = Sum.inl h)) = es.any fun kv => decide (kv.1 = h) := by
  rw [List.any_map]
  congr 1
  funext q
  show decide ((Sum.inl q.1 : Key) = Sum.inl h) = _
  by_cases z : q.1 = h
  · rw [decide_eq_true z, decide_eq_true (by rw [z])]
  · rw [decide_eq_false z, decide_eq_false fun e => z (Sum.inl.inj e)]
theorem put_entI (es : List (Int × Int)) (h n : Int) : putT (es.map entI) (.inl h) (.dat (.int n)) = (putT es h n).map entI := by
  unfold putT
  rw [entI_any]
  split
  · rw [List.map_map, List.map_map]
    refine List.map_congr_left fun q _ => ?_
    show (if (Sum.inl q.1 : Key) = Sum.inl h then _ else _) = entI (if q.1 = h then _ else _)
    by_cases z : q.1 = h
    · rw [if_pos (by rw [z]), if_pos z]; rfl
    · rw [if_neg fun e => z (Sum.inl.inj e), if_neg z]
  · rw [List.map_append]; rfl
theorem val_entI (h : Int) : ∀ es : List (Int × Int), valT (es.map entI) (.inl h) = (valT es h).map fun n => Tr.dat (.int n)
  | [] => rfl
  | q :: es => by
    by_cases z : q.1 = h
    · rw [List.map_cons, valT_pos (show (entI q).1 = Sum.inl h from congrArg Sum.inl z), valT_pos z]; rfl
    · rw [List.map_cons, valT_neg (show ¬ (entI q).1 = Sum.inl h from fun e => z (Sum.inl.inj e)), valT_neg z, val_entI h es]
theorem mergeT_new {κ β : Type} [DecidableEq κ] : ∀ (more acc : List (κ × β)), ((acc ++ more).map (·.1)).Nodup → mergeT acc more = acc ++ more
  | [], acc, _ => by simp [mergeT]
  | q :: more, acc, h => by
    have hn : ¬ q.1 ∈ acc.map (·.1) := fun z => by
      rw [List.map_append, List.nodup_append] at h
      exact h.2.2 _ z _ (by rw [List.map_cons]; exact List.mem_cons_self) rfl
    have e : putT acc q.1 q.2 = acc ++ [q] := by
      unfold putT
      rw [if_neg]
      intro z
      rw [List.any_eq_true] at z
      obtain ⟨x, hx, e⟩ := z
      exact hn (by rw [← of_decide_eq_true e]; exact List.mem_map_of_mem hx)
    show mergeT (putT acc q.1 q.2) more = _
    rw [e, mergeT_new more (acc ++ [q]) (by rw [List.append_assoc]; exact h), List.append_assoc]; rfl
end GL

namespace GL
open PySem PySem.Spec PyProof.Rows L2 Evl

/-! ## sources of draws whose second number is small -/
def Wc (p : Addr) (n : Int) (t : Tr) : Prop := ∃ x c k : Int, t = wlT p x c k ∧ 0 ≤ k ∧ k ≤ n ∧ 0 ≤ c ∧ c < 2147483647
theorem Wc.mono {p : Addr} {n m : Int} {t : Tr} (h : Wc p n t) (z : n ≤ m) : Wc p m t := by
  obtain ⟨x, c, k, e, h0, h1, h2⟩ := h
  exact ⟨x, c, k, e, h0, by omega, h2⟩
def asS1 (cost : Int) (R : PyData → Prop) : ASp := fun us ts Q E => ∃ p t n, us = [.val (.ref p)] ∧ ts = [t] ∧ Wc p n t ∧ n + cost ≤ 100000 ∧ ∀ r t', R r → Wc p (n + cost) t' → Q (.dat r) [t']
def asS2 (cost : Int) (P : PyData → Prop) (R : PyData → PyData → Prop) : ASp := fun us ts Q E => ∃ p t n a, us = [.val (.ref p), .dat a] ∧ ts = [t] ∧ Wc p n t ∧ n + cost ≤ 100000 ∧ P a ∧ ∀ r t', R a r → Wc p (n + cost) t' → Q (.dat r) [t']
def asS3 (cost : Int) (P : PyData → PyData → Prop) (R : PyData → PyData → PyData → Prop) : ASp := fun us ts Q E => ∃ p t n a b, us = [.val (.ref p), .dat a, .dat b] ∧ ts = [t] ∧ Wc p n t ∧ n + cost ≤ 100000 ∧ P a b ∧ ∀ r t', R a b r → Wc p (n + cost) t' → Q (.dat r) [t']
section
variable {rest : Trs} {Q : AQ} {E : AZ} {p : Addr} {t : Tr} {n cost : Int}
theorem ra_goS1 {R : PyData → Prop} (w : Wc p n t) (c : n + cost ≤ 100000) (h : ∀ r t', R r → Wc p (n + cost) t' → Q (.dat r) (t' :: rest)) : aGo 1 (asS1 cost R) [.val (.ref p)] (t :: rest) Q E :=
  go_head rfl ⟨p, t, n, rfl, rfl, w, c, fun r t' hr w' => ⟨by simp, by simpa using h r t' hr w'⟩⟩
theorem ra_goS2 {P : PyData → Prop} {R : PyData → PyData → Prop} {a : PyData} (w : Wc p n t) (c : n + cost ≤ 100000) (ha : P a) (h : ∀ r t', R a r → Wc p (n + cost) t' → Q (.dat r) (t' :: rest)) : aGo 2 (asS2 cost P R) [.val (.ref p), .dat a] (t :: rest) Q E :=
  go_head rfl ⟨p, t, n, a, rfl, rfl, w, c, ha, fun r t' hr w' => ⟨by simp, by simpa using h r t' hr w'⟩⟩
theorem ra_goS3 {P : PyData → PyData → Prop} {R : PyData → PyData → PyData → Prop} {a b : PyData} (w : Wc p n t) (c : n + cost ≤ 100000) (ha : P a b) (h : ∀ r t', R a b r → Wc p (n + cost) t' → Q (.dat r) (t' :: rest)) : aGo 3 (asS3 cost P R) [.val (.ref p), .dat a, .dat b] (t :: rest) Q E :=
  go_head rfl ⟨p, t, n, a, b, rfl, rfl, w, c, ha, fun r t' hr w' => ⟨by simp, by simpa using h r t' hr w'⟩⟩
end
abbrev A_drawS : ASp := asS2 1 (fun m => ∃ i : Int, m = .int i ∧ 1 ≤ i ∧ i ≤ 1000000000000) fun m r => ∃ i j : Int, m = .int i ∧ r = .int j ∧ 0 ≤ j ∧ j < i
abbrev A_oneS : ASp := asS2 1 (fun d => ∃ ds, d = .list ds ∧ 1 ≤ ds.length ∧ ds.length ≤ 1000) fun d r => ∃ ds, d = .list ds ∧ r ∈ ds
section
variable {rest : Trs} {Q : AQ} {E : AZ} {p : Addr} {t : Tr} {n : Int}
theorem ra_drawS {m : Int} (w : Wc p n t) (c : n + 1 ≤ 100000) (m1 : 1 ≤ m) (m2 : m ≤ 1000000000000) (h : ∀ (r : Int) t', 0 ≤ r → r < m → Wc p (n + 1) t' → Q (.dat (.int r)) (t' :: rest)) : aGo 2 A_drawS [.val (.ref p), .dat (.int m)] (t :: rest) Q E :=
  ra_goS2 w c ⟨_, rfl, m1, m2⟩ fun r t' ⟨i, j, e, e2, h0, h1⟩ w' => by cases e; subst e2; exact h j t' h0 h1 w'
theorem ra_oneS {ds : List PyData} (w : Wc p n t) (c : n + 1 ≤ 100000) (m1 : 1 ≤ ds.length) (m2 : ds.length ≤ 1000) (h : ∀ r t', r ∈ ds → Wc p (n + 1) t' → Q (.dat r) (t' :: rest)) : aGo 2 A_oneS [.val (.ref p), .dat (.list ds)] (t :: rest) Q E :=
  ra_goS2 w c ⟨_, rfl, m1, m2⟩ fun r t' ⟨ds', e, h1⟩ w' => by cases e; exact h r t' h1 w'
end
/-! ### comprehensions that draw -/
section
variable {s : AS} {rest : Trs} {Q : AQ} {g : AG} {tt : AT} {a : AE} {vs : List Nat} {p : Addr} {t : Tr} {n cost : Int}
theorem lcSf {it : AIt} {α : Type} {l : List α} {c : α → Tr} (e : it.items = l.map c) (hk : ∀ ts, it.keep ts) (R : α → PyData → Prop) (hl : l.length ≤ 1000) (w : Wc p n t) (c0 : 0 ≤ cost) (hn : n + l.length * cost ≤ 100000)
    (step : ∀ (i : Nat) (d : α) (t : Tr) (m : Int) (Y : Tr → Trs → Prop) (N : Trs → Prop), l[i]? = some d → Wc p m t → m + cost ≤ 100000 → (∀ y t', R d y → Wc p (m + cost) t' → Y (.dat y) (t' :: rest)) → (∀ t', Wc p (m + cost) t' → N (t' :: rest)) →
      g (c d) (wipeA s vs) (t :: rest) fun s2 ts2 => tt s2 ts2 fun k ts3 => if k = true then a s2 ts3 Y else N ts3)
    (q : ∀ xs ys t', xs.Sublist l → All2 R xs ys → Wc p (n + l.length * cost) t' → Q (.dat (.list ys)) (t' :: rest)) : LcG it g tt a vs s (t :: rest) Q := by
  refine ⟨fun i acc ts => ∃ t xs, ts = t :: rest ∧ Wc p (n + i * cost) t ∧ xs.Sublist (l.take i) ∧ All2 R xs acc, ⟨t, [], rfl, by simpa using w, by simp, .nil⟩, fun i acc ts _ => hk ts, ?_, ?_⟩
  · rintro i x acc ts hi ⟨t, xs, rfl, w, sub, al⟩
    rw [e, List.getElem?_map] at hi
    cases z : l[i]? with
    | none => rw [z] at hi; cases hi
    | some d =>
      rw [z] at hi
      cases hi
      have il : i < l.length := (List.getElem?_eq_some_iff.mp z).1
      have hm : ((i + 1 : Nat) : Int) * cost ≤ (l.length : Nat) * cost := Int.mul_le_mul_of_nonneg_right (by omega) c0
      rw [mul_step] at hm
      have sl := sub.length_le
      rw [List.length_take] at sl
      have al2 := al.len
      refine step i d t _ _ _ z w (by omega) (fun y t' hy w' => ⟨y, rfl, by omega, t', xs ++ [d], rfl, by rw [mul_step, ← Int.add_assoc]; exact w', ?_, al.app (.cons hy .nil)⟩) fun t' w' => ⟨t', xs, rfl, by rw [mul_step, ← Int.add_assoc]; exact w', ?_, al⟩
      · rw [filterMap_take.take_app0 z]; exact sub.append (List.Sublist.refl _)
      · rw [filterMap_take.take_app0 z]; exact sub.trans (List.sublist_append_left _ _)
  · rintro acc ts ⟨t, xs, rfl, w, sub, al⟩
    rw [e, List.length_map] at w sub
    rw [List.take_length] at sub
    exact q xs acc t sub al w
theorem lcS {it : AIt} {α : Type} {l : List α} {c : α → Tr} (e : it.items = l.map c) (hk : ∀ ts, it.keep ts) (R : α → PyData → Prop) (hl : l.length ≤ 1000) (w : Wc p n t) (c0 : 0 ≤ cost) (hn : n + l.length * cost ≤ 100000)
    (step : ∀ (i : Nat) (d : α) (t : Tr) (m : Int) (Y : Tr → Trs → Prop) (N : Trs → Prop), l[i]? = some d → Wc p m t → m + cost ≤ 100000 → (∀ y t', R d y → Wc p (m + cost) t' → Y (.dat y) (t' :: rest)) →
      g (c d) (wipeA s vs) (t :: rest) fun s2 ts2 => tt s2 ts2 fun k ts3 => if k = true then a s2 ts3 Y else N ts3)
    (q : ∀ ys t', All2 R l ys → Wc p (n + l.length * cost) t' → Q (.dat (.list ys)) (t' :: rest)) : LcG it g tt a vs s (t :: rest) Q := by
  refine ⟨fun i acc ts => ∃ t, ts = t :: rest ∧ Wc p (n + i * cost) t ∧ All2 R (l.take i) acc, ⟨t, rfl, by simpa using w, .nil⟩, fun i acc ts _ => hk ts, ?_, ?_⟩
  · rintro i x acc ts hi ⟨t, rfl, w, al⟩
    rw [e, List.getElem?_map] at hi
    cases z : l[i]? with
    | none => rw [z] at hi; cases hi
    | some d =>
      rw [z] at hi
      cases hi
      have il : i < l.length := (List.getElem?_eq_some_iff.mp z).1
      have hm : ((i + 1 : Nat) : Int) * cost ≤ (l.length : Nat) * cost := Int.mul_le_mul_of_nonneg_right (by omega) c0
      rw [mul_step] at hm
      have al2 := al.len
      rw [List.length_take] at al2
      exact step i d t _ _ _ z w (by omega) fun y t' hy w' => ⟨y, rfl, by omega, t', rfl, by rw [mul_step, ← Int.add_assoc]; exact w', by rw [filterMap_take.take_app0 z]; exact al.app (.cons hy .nil)⟩
  · rintro acc ts ⟨t, rfl, w, al⟩
    rw [e, List.length_map] at w al
    rw [List.take_length] at al
    exact q acc t al w
end

/-! ### dicts, a step at a time -/
def DPutQ (D : AD) (s : AS) (y x i : Tr) (ts : Trs) : Prop := ∃ p kvs c k, x = .val (.ref p) ∧ FocL ts (.dct p kvs) c ∧ i = kT k ∧ nds y = [] ∧ kvs.length < 100000 ∧ D.nx s (c (.dct p (putT kvs k y)))
def DGetQ (Q : AQ) (x y : Tr) (ts : Trs) : Prop := ∃ p kvs c k t, x = .val (.ref p) ∧ FocL ts (.dct p kvs) c ∧ y = kT k ∧ valT kvs k = some t ∧ Q (vo t) ts
def DInQ (neg : Bool) (Q : AQ) (x y : Tr) (ts : Trs) : Prop := ∃ p kvs c k, x = .val (.ref p) ∧ FocL ts (.dct p kvs) c ∧ y = kT k ∧ Q (.dat (.bool (if neg then !(valT kvs k).isSome else (valT kvs k).isSome))) ts
section
variable {s : AS} {ts : Trs} {D : AD} {Q : AQ} {a b v : AE} {p : Addr} {k : Int} {y : Tr}
theorem ra_dput (h : v s ts fun y ts1 => a s ts1 fun x ts2 => b s ts2 fun i ts3 => DPutQ D s y x i ts3) : aDPut a b v D s ts := h
theorem ra_dget (h : a s ts fun x ts1 => b s ts1 fun y ts2 => DGetQ Q x y ts2) : aDGet a b s ts Q := h
theorem ra_din (h : b s ts fun y ts1 => a s ts1 fun x ts2 => DInQ false Q x y ts2) : aDIn b a s ts Q := h
theorem ra_dnotin (h : b s ts fun y ts1 => a s ts1 fun x ts2 => DInQ true Q x y ts2) : aDNotIn b a s ts Q := h
theorem fo_dputI (h : ∃ kvs c, FocL ts (.dct p kvs) c ∧ nds y = [] ∧ D.nx s (c (.dct p (putT kvs (.inl k) y))) ∧ kvs.length < 100000) : DPutQ D s y (.val (.ref p)) (.dat (.int k)) ts := let ⟨_, _, f, n, q, l⟩ := h; ⟨_, _, _, .inl k, rfl, f, rfl, n, l, q⟩
theorem fo_dputE {n : Int} (h : ∃ es c, FocL ts (.dct p (es.map entI)) c ∧ D.nx s (c (.dct p ((putT es k n).map entI))) ∧ es.length < 100000) : DPutQ D s (.dat (.int n)) (.val (.ref p)) (.dat (.int k)) ts := let ⟨_, _, f, q, l⟩ := h; ⟨_, _, _, .inl k, rfl, f, rfl, by simp [nds], by rw [List.length_map]; exact l, by rw [put_entI]; exact q⟩
theorem fo_dgetE {n : Int} (h : ∃ es c, FocL ts (.dct p (es.map entI)) c ∧ valT es k = some n ∧ Q (.dat (.int n)) ts) : DGetQ Q (.val (.ref p)) (.dat (.int k)) ts := let ⟨es, _, f, e, q⟩ := h; ⟨_, _, _, .inl k, .dat (.int n), rfl, f, rfl, by rw [val_entI, e]; rfl, by rw [show vo (Tr.dat (.int n)) = .dat (.int n) from by simp [vo]]; exact q⟩
theorem fo_dinE {neg : Bool} (h : ∃ es c, FocL ts (.dct p (es.map entI)) c ∧ Q (.dat (.bool (if neg then !(valT es k).isSome else (valT es k).isSome))) ts) : DInQ neg Q (.val (.ref p)) (.dat (.int k)) ts := by
  obtain ⟨es, c, f, q⟩ := h
  refine ⟨_, _, _, .inl k, rfl, f, rfl, ?_⟩
  have e : (valT (es.map entI) (.inl k)).isSome = (valT es k).isSome := by rw [val_entI, Option.isSome_map]
  rw [e]; exact q
theorem fo_sortDI (h : ∃ (es : List (Int × Int)) (c : Tr → Trs), FocL ts (.dct p (es.map entI)) c ∧ es.length < 64 ∧ ∀ ys : List Int, ys.Perm (es.map (·.1)) → ys.Pairwise (· ≤ ·) → Q (.dat (.list (ys.map .int))) ts) : aSortDI [.val (.ref p)] ts Q := by
  obtain ⟨es, c, f, l, q⟩ := h
  exact ⟨_, _, _, es.map (·.1), rfl, f, by rw [List.map_map, List.map_map]; rfl, by rw [List.length_map]; exact l, q⟩
theorem fo_dictI {es : List (Int × Int)} (nd : (es.map (·.1)).Nodup) (q : ∀ p, Q (.val (.ref p)) (ts ++ [.dct p (es.map entI)])) : aDictP [.dat (.list (es.map prD))] ts Q := by
  refine ⟨es.map fun q => (.inl q.1, .int q.2), by rw [List.map_map]; rfl, fun p => ?_⟩
  have e : (es.map fun q => ((.inl q.1 : Key), PyData.int q.2)).map (fun q => (q.1, Tr.dat q.2)) = es.map entI := by rw [List.map_map]; rfl
  have e2 : mergeT [] (es.map entI) = es.map entI := by
    rw [mergeT_new]
    · rfl
    · rw [List.nil_append, List.map_map]
      have : (es.map ((fun x => x.1) ∘ entI)) = (es.map (·.1)).map Sum.inl := by rw [List.map_map]; rfl
      rw [this]
      exact List.pairwise_map.mpr (nd.imp fun {a b} h e => h (Sum.inl.inj e))
  rw [e, e2]
  exact q p
theorem ra_sortItems (h : a s ts fun x ts1 => ∃ p c es, x = .val (.ref p) ∧ FocL ts1 (.dct p (es.map entI)) c ∧ ∀ fs : List (Int × Int), fs.Perm es → fs.Pairwise lexle → Q (.dat (.list (fs.map prD))) ts1) : aSortItems a s ts Q := h
theorem fo_sortItems {P : List (Int × Int) → Prop} (h : ∃ es c, FocL ts (.dct p (es.map entI)) c ∧ ∀ fs : List (Int × Int), fs.Perm es → fs.Pairwise lexle → P fs) : ∃ p' c es, Tr.val (.ref p) = .val (.ref p') ∧ FocL ts (.dct p' (es.map entI)) c ∧ ∀ fs : List (Int × Int), fs.Perm es → fs.Pairwise lexle → P fs := let ⟨es, c, f, q⟩ := h; ⟨p, c, es, rfl, f, q⟩
end
theorem ra_rtP {f : AQ} {t : Tr} {ts : Trs} (is : List Nat) (ok : okIx ts.length is = true) (h : f t (pickT ts is)) : aRtG f t ts := ⟨t, pickT ts is, GhoV.pick is ok, h⟩
/-- a list freezes, some roots are kept -/
theorem ra_rtFP {f : AQ} {ts : Trs} {p : Addr} {xs : Trs} {ds : List PyData} (i : Nat) (is : List Nat) (h : ts[i]? = some (.lst p xs)) (pl : plainL xs = some ds) (ok : okIx (ts.set i Tr.non).length is = true) (q : f (.dat (.list ds)) (pickT (ts.set i Tr.non) is)) : aRtG f (.val (.ref p)) ts :=
  ⟨_, _, (GhoV.frz i h pl).trans (GhoV.pick is ok), q⟩
theorem ra_nxFP {f : AS → Trs → Prop} {s : AS} {ts : Trs} {p : Addr} {xs : Trs} {ds : List PyData} (j i : Nat) (is : List Nat) (h : ts[i]? = some (.lst p xs)) (hs : s[j]? = some (some (.val (.ref p)))) (pl : plainL xs = some ds) (ok : okIx (ts.set i Tr.non).length is = true)
    (q : f (s.set j (some (.dat (.list ds)))) (pickT (ts.set i Tr.non) is)) : aNxG f s ts :=
  ⟨_, _, (Gho.frz j i h hs pl).trans (Gho.pick is ok), q⟩
theorem inV_ints (h : Int) : ∀ rs : List Int, inV (.int h) (rs.map V.int) = decide (h ∈ rs)
  | [] => rfl
  | r :: rs => by
    have ih := inV_ints h rs
    unfold inV at ih ⊢
    rw [List.map_cons, List.any_cons, ih]
    show ((r == h) || _) = _
    by_cases z : r = h
    · subst z; simp
    · have : ¬ h = r := fun e => z e.symm
      rw [show (r == h) = false from by simpa using z, Bool.false_or]
      simp [this]
theorem ra_inI {neg : Bool} {h : Int} {rs : List Int} {ts : Trs} {Q : AQ} (q : Q (.dat (.bool (if neg then !decide (h ∈ rs) else decide (h ∈ rs)))) ts) : aIn neg (.dat (.int h)) (.dat (.list (rs.map .int))) ts Q := by
  refine ⟨_, .inl .dat, rfl, by rw [List.map_map, List.all_map]; simp [flatT], ?_⟩
  have e : inT (.dat (.int h)) ((rs.map PyData.int).map .dat) = decide (h ∈ rs) := by
    unfold inT
    rw [List.map_map, List.map_map]
    exact inV_ints h rs
  rw [e]; exact q
theorem cutG_from {α : Type} (l : List α) (k : Nat) : cutG l (some (k : Int)) none = l.drop k := by
  unfold cutG
  rw [HT.sIx_nat, HT.sIx_none]
  by_cases h : k ≤ l.length
  · rw [Nat.min_eq_left h, List.take_of_length_le (by rw [List.length_drop]; omega)]
  · rw [Nat.min_eq_right (by omega), List.drop_eq_nil_of_le (Nat.le_refl _), List.drop_eq_nil_of_le (by omega)]; simp
end GL

set_option synthInstance.maxHeartbeats 2000000
set_option synthInstance.maxSize 100000
namespace K20
open PySem PySem.Spec PyProof.Rows L2 Evl GL
local macro_rules | `(tactic| walk_at "r1") => `(tactic| first
  | with_reducible refine GL.rd_nx ?_
  | with_reducible refine GL.rd_rt ?_
  | with_reducible refine GL.rd_seq ?_
  | with_reducible refine GL.rd_set ?_
  | with_reducible refine GL.rd_asg ?_
  | with_reducible refine GL.rd_ret ?_
  | with_reducible refine GL.rd_retN ?_
  | with_reducible refine GL.rd_drop ?_
  | with_reducible refine GL.rd_if ?_
  | with_reducible refine GL.rd_ifE ?_
  | with_reducible refine GL.rd_next ?_
  | ((with_reducible refine GL.rd_var (v := ?_) ?_ ?_); rotate_left 1; · exact rfl)
  | with_reducible refine GL.rd_c ?_
  | with_reducible refine GL.rd_op ?_
  | with_reducible refine GL.rd_un ?_
  | with_reducible refine GL.rd_i0 ?_
  | with_reducible refine GL.rd_u ?_
  | with_reducible refine GL.rd_eqII ?_
  | with_reducible refine GL.rd_neII ?_
  | with_reducible refine GL.rd_eqSS ?_
  | with_reducible refine GL.rd_neSS ?_
  | with_reducible refine GL.rd_chain ?_
  | with_reducible refine GL.rd_isbl ?_
  | with_reducible refine GL.rd_test ?_
  | with_reducible refine GL.rd_tB ?_
  | with_reducible refine GL.rd_not ?_
  | with_reducible refine GL.rd_and ?_
  | with_reducible refine GL.rd_or ?_
  | with_reducible refine GL.rd_andV ?_
  | with_reducible refine GL.rd_orV ?_
  | with_reducible refine GL.rd_notV ?_
  | with_reducible refine GL.rd_nil ?_
  | with_reducible refine GL.rd_cons ?_
  | with_reducible refine GL.rd_cb ?_
  | with_reducible refine GL.rd_tup ?_
  | with_reducible refine GL.rd_lst ?_
  | with_reducible refine GL.rd_fld ?_
  | with_reducible refine GL.rd_setf ?_
  | with_reducible refine GL.rd_call ?_
  | with_reducible refine GL.rd_call0 ?_
  | with_reducible refine GL.rd_meth ?_
  | with_reducible refine GL.rd_raise ?_
  | with_reducible refine GL.rd_xmk ?_
  | with_reducible refine GL.rd_ix ?_
  | with_reducible refine GL.rd_for ?_
  | with_reducible refine GL.rd_iL ?_
  | with_reducible refine GL.rd_iT ?_
  | with_reducible refine GL.rd_iR1 ?_
  | with_reducible refine GL.rd_iE ?_
  | with_reducible refine GL.rd_gname ?_
  | with_reducible refine GL.rd_gcons ?_
  | with_reducible refine GL.rd_gnil ?_
  | with_reducible refine GL.rd_gsub ?_
  | with_reducible refine GL.rd_bm ?_
  | with_reducible refine GL.rd_bm0 ?_
  | with_reducible refine GL.rd_sl ?_
  | with_reducible refine GL.rd_noPart ?_
  | with_reducible refine GL.rd_part ?_
  | with_reducible refine GL.rd_isint ?_
  | with_reducible refine GL.rd_brk ?_
  | with_reducible refine GL.rd_cont ?_
  | with_reducible refine GL.rd_lc ?_
  | with_reducible refine GL.rd_meth0 ?_
  | with_reducible refine GL.rd_dnewN ?_
  | with_reducible refine GL.rd_par ?_
  | with_reducible refine GL.rd_two ?_
  | with_reducible refine GL.rd_revL ?_
  | with_reducible refine GL.rd_lstN ?_
  | with_reducible refine GL.rd_tupN ?_
  | with_reducible refine GL.rd_fxf ?_
  | with_reducible refine GL.rd_fxp ?_
  | with_reducible refine GL.rd_callE ?_
  | with_reducible refine GL.rd_int1b ?_
  | with_reducible refine GL.rd_make ?_
  | with_reducible refine GL.rd_yes ?_
  | with_reducible refine GL.rd_revR ?_
  | with_reducible refine GL.rd_rg1 ?_
  | with_reducible refine GL.rd_lstRg ?_
  | with_reducible refine GL.rd_dget ?_
  | with_reducible refine GL.rd_dput ?_
  | with_reducible refine GL.rd_pairs ?_
  | with_reducible refine GL.rd_pairs0 ?_
  | with_reducible refine GL.rd_rg2 ?_
  | with_reducible refine GL.rd_fmt ?_
  | with_reducible refine GL.rd_js ?_
  | with_reducible refine GL.rd_js0 ?_
  | with_reducible refine L2.iteT ?_
  | with_reducible refine GL.rd_ntF ?_
  | with_reducible refine GL.rd_ntT ?_
  | with_reducible refine L2.iteF ?_)
local macro_rules | `(tactic| walk_at "rd") => `(tactic| repeat walk_at "r1")
local macro_rules | `(tactic| walk_at "foc") => `(tactic| first
  | with_reducible exact GL.FocL.head GL.FocT.here
  | (with_reducible apply GL.FocL.tail; walk_at "foc")
  | (with_reducible apply GL.FocL.head; with_reducible apply GL.FocT.lst; walk_at "foc")
  | (with_reducible apply GL.FocL.head; with_reducible apply GL.FocT.tup; walk_at "foc")
  | (with_reducible apply GL.FocL.head; with_reducible apply GL.FocT.ins; walk_at "foc")
  | (with_reducible apply GL.FocL.head; with_reducible apply GL.FocT.dct; walk_at "foc"))
local macro_rules | `(tactic| walk_at "gi") => `(tactic| first
  | exact GL.gin_name (by decide)
  | exact GL.gin_tup (GL.gsin_cons (by decide) (GL.gsin_cons (by decide) GL.gsin_nil))
  | exact GL.gin_tup (GL.gsin_cons (by decide) (GL.gsin_cons (by decide) (GL.gsin_cons (by decide) GL.gsin_nil))))
local macro_rules | `(tactic| walk_at "a1") => `(tactic| first
  | with_reducible refine GL.ra_nx ?_
  | with_reducible refine GL.ra_rt ?_
  | with_reducible refine GL.ra_bk ?_
  | with_reducible refine GL.ra_ct ?_
  | with_reducible refine GL.ra_seqL ?_
  | with_reducible refine GL.ra_next ?_
  | with_reducible refine GL.ra_brk ?_
  | with_reducible refine GL.ra_cnt ?_
  | with_reducible refine GL.ra_set ?_
  | with_reducible refine GL.ra_asg ?_
  | with_reducible refine GL.ra_ret ?_
  | with_reducible refine GL.ra_retN ?_
  | with_reducible refine GL.ra_drop ?_
  | with_reducible refine GL.ra_if ?_
  | with_reducible refine GL.ra_ifE ?_
  | ((with_reducible refine GL.ra_var (t := ?_) ?_ ?_); rotate_left 1; · exact rfl)
  | with_reducible refine GL.ra_cI ?_
  | with_reducible refine GL.ra_cS ?_
  | with_reducible refine GL.ra_cB ?_
  | with_reducible refine GL.ra_cN ?_
  | with_reducible refine GL.ra_cT ?_
  | with_reducible refine GL.ra_cR ?_
  | with_reducible refine GL.ra_ix ?_
  | with_reducible refine GL.ra_op ?_
  | with_reducible refine GL.ra_un ?_
  | with_reducible refine GL.ra_chain ?_
  | with_reducible refine GL.ra_isb ?_
  | with_reducible refine GL.ra_i0I ?_
  | with_reducible refine GL.ra_i0B ?_
  | with_reducible refine GL.ra_uI ?_
  | with_reducible refine GL.ra_test ?_
  | with_reducible refine GL.ra_not ?_
  | with_reducible refine GL.ra_and ?_
  | with_reducible refine GL.ra_or ?_
  | with_reducible refine GL.ra_andV ?_
  | with_reducible refine GL.ra_orV ?_
  | with_reducible refine GL.ra_notV ?_
  | with_reducible refine GL.ra_yes ?_
  | with_reducible refine GL.ra_nil ?_
  | with_reducible refine GL.ra_cons ?_
  | with_reducible refine GL.ra_cb ?_
  | with_reducible refine GL.ra_call ?_
  | with_reducible refine GL.ra_call0 ?_
  | with_reducible refine GL.ra_tup ?_
  | with_reducible refine GL.ra_t0 ?_
  | with_reducible refine GL.ra_t1 ?_
  | with_reducible refine GL.ra_t2 ?_
  | with_reducible refine GL.ra_t3 ?_
  | with_reducible refine GL.ra_t4 ?_
  | with_reducible refine GL.ra_t5 ?_
  | with_reducible refine GL.ra_t6 ?_
  | with_reducible refine GL.ra_t7 ?_
  | with_reducible refine GL.ra_lstF ?_
  | with_reducible refine GL.ra_l0 ?_
  | with_reducible refine GL.ra_l1 ?_
  | with_reducible refine GL.ra_l2 ?_
  | with_reducible refine GL.ra_l3 ?_
  | with_reducible refine GL.ra_l4 ?_
  | with_reducible refine GL.ra_l5 ?_
  | with_reducible refine GL.ra_l6 ?_
  | with_reducible refine GL.ra_l7 ?_
  | with_reducible refine GL.ra_l8 ?_
  | with_reducible refine GL.ra_lstM ?_
  | with_reducible refine GL.ra_eqII ?_
  | with_reducible refine GL.ra_neII ?_
  | with_reducible refine GL.ra_eqSS ?_
  | with_reducible refine GL.ra_neSS ?_
  | with_reducible refine GL.ra_isNN ?_
  | with_reducible refine GL.ra_notNN ?_
  | with_reducible refine GL.ra_isND ?_
  | with_reducible refine GL.ra_notND ?_
  | with_reducible refine GL.ra_isNT ?_
  | with_reducible refine GL.ra_notNT ?_
  | with_reducible refine GL.ra_isNR ?_
  | with_reducible refine GL.ra_notNR ?_
  | with_reducible refine GL.ra_sl ?_
  | with_reducible refine GL.ra_noPart ?_
  | with_reducible refine GL.ra_part ?_
  | with_reducible refine GL.ra_isint ?_
  | with_reducible refine GL.ra_slF ?_
  | with_reducible refine GL.ra_slT ?_
  | with_reducible refine GL.ra_slScr ?_
  | with_reducible refine GL.ra_rev ?_
  | with_reducible refine GL.ra_revD ?_
  | with_reducible refine GL.ra_lenD ?_
  | with_reducible refine GL.ra_lenT ?_
  | with_reducible refine GL.ra_lenScr ?_
  | ((with_reducible refine GL.fo_lenL ?_); refine ⟨_, _, (by walk_at "foc"), ?_⟩)
  | with_reducible refine GL.ra_lenU ?_
  | with_reducible refine GL.ra_isiI ?_
  | with_reducible refine GL.ra_isiB ?_
  | with_reducible refine GL.ra_isiS ?_
  | with_reducible refine GL.ra_isiT ?_
  | with_reducible refine GL.ra_isiL ?_
  | with_reducible refine GL.ra_isT (by decide) ?_
  | ((with_reducible refine GL.fo_isL ?_); refine ⟨_, _, (by walk_at "foc"), ?_⟩)
  | with_reducible refine GL.ra_int1b ?_
  | with_reducible refine GL.ra_int1i ?_
  | with_reducible refine GL.ra_listD ?_
  | with_reducible refine GL.ra_listT ?_
  | with_reducible refine GL.ra_listMD ?_
  | with_reducible refine GL.ra_listMT ?_
  | with_reducible refine GL.ra_tupD ?_
  | with_reducible refine GL.ra_tupT ?_
  | with_reducible refine GL.ra_bm ?_
  | ((with_reducible refine GL.fo_isLr ?_); refine ⟨_, _, (by walk_at "foc"), ?_⟩)
  | with_reducible refine GL.ra_isLd ?_
  | ((with_reducible refine GL.fo_appD ?_); refine ⟨_, _, (by walk_at "foc"), ?_, ?_⟩)
  | ((with_reducible refine GL.fo_extD ?_); refine ⟨_, _, (by walk_at "foc"), ?_, ?_⟩)
  | ((with_reducible refine GL.fo_clrD ?_); refine ⟨_, _, (by walk_at "foc"), ?_⟩)
  | ((with_reducible refine GL.fo_catXl ?_); refine ⟨_, _, (by walk_at "foc"), ?_, ?_⟩)
  | ((with_reducible refine GL.fo_catMl ?_); refine ⟨_, _, (by walk_at "foc"), ?_, ?_⟩)
  | ((with_reducible refine GL.ra_catX ?_ ?_); rotate_left 1)
  | ((with_reducible refine GL.fo_ixDl ?_); refine ⟨_, (by rfl), ?_⟩)
  | ((with_reducible refine GL.fo_ixDt ?_); refine ⟨_, (by rfl), ?_⟩)
  | ((with_reducible refine GL.fo_ixD ?_); refine ⟨_, _, _, (by walk_at "foc"), (by rfl), ?_⟩)
  | with_reducible refine GL.ra_gsetQ ?_
  | ((with_reducible refine GL.fo_gset ?_); refine ⟨_, _, _, (by walk_at "foc"), (by rfl), rfl, (by rfl), ?_⟩)
  | ((with_reducible refine GL.fo_repr ?_); refine ⟨_, _, (by walk_at "foc"), ?_, ?_⟩; rotate_left 1)
  | ((with_reducible refine GL.fo_neV ?_); refine ⟨_, _, (by walk_at "foc"), ?_, ?_, ?_⟩; rotate_left 2)
  | with_reducible refine GL.ra_dput ?_
  | with_reducible refine GL.ra_dget ?_
  | with_reducible refine GL.ra_din ?_
  | with_reducible refine GL.ra_dnotin ?_
  | ((with_reducible refine GL.fo_dputE ?_); refine ⟨_, _, (by walk_at "foc"), ?_, ?_⟩)
  | ((with_reducible refine GL.fo_dinE ?_); refine ⟨_, _, (by walk_at "foc"), ?_⟩)
  | with_reducible refine GL.ra_sortItems ?_
  | with_reducible refine GL.ra_raise ?_
  | with_reducible refine GL.ra_dnF ?_
  | with_reducible refine GL.ra_try ?_
  | with_reducible refine GL.ra_xf ?_
  | with_reducible refine GL.ra_isx ?_
  | with_reducible refine GL.ra_clsOf ?_
  | with_reducible refine GL.ra_xk1 ?_
  | with_reducible refine GL.ra_xk2 ?_
  | with_reducible refine GL.ra_xkW ?_
  | with_reducible refine GL.ra_xkW0 ?_
  | with_reducible refine GL.ra_one ?_
  | with_reducible refine GL.ra_two ?_
  | with_reducible refine GL.ra_par ?_
  | with_reducible refine GL.ra_fld ?_
  | with_reducible refine GL.ra_setF ?_
  | with_reducible refine GL.ra_name ?_
  | ((with_reducible refine GL.ra_gtupD ?_ ?_); · exact rfl)
  | ((with_reducible refine GL.ra_gtupU ?_ ?_); · exact rfl)
  | with_reducible refine GL.ra_gconsM ?_
  | with_reducible refine GL.ra_gnilM ?_
  | with_reducible refine GL.ra_gcons ?_
  | with_reducible refine GL.ra_gnil ?_
  | with_reducible refine GL.ra_for ?_
  | ((with_reducible refine GL.lcFN ?_ ?_); · walk_at "gi")
  | ((with_reducible refine GL.lcMN ?_ ?_); · walk_at "gi")
  | with_reducible refine GL.ra_iL ?_
  | with_reducible refine GL.ra_iLd ?_
  | with_reducible refine GL.ra_iT ?_
  | with_reducible refine GL.ra_iTd ?_
  | with_reducible refine GL.ra_iR1 ?_
  | with_reducible refine GL.ra_iR2 ?_
  | with_reducible refine GL.ra_iR3 ?_
  | with_reducible refine GL.ra_iE ?_
  | with_reducible refine GL.ra_iZ ?_
  | with_reducible refine GL.ra_iZd ?_
  | with_reducible refine GL.iteN ?_
  | with_reducible refine L2.iteT ?_
  | with_reducible refine GL.rd_ntF ?_
  | with_reducible refine GL.rd_ntT ?_
  | with_reducible refine L2.iteF ?_
  | ((with_reducible refine GL.ite1 ?_ ?_); · first | assumption | exact rfl)
  | ((with_reducible refine GL.ite0 ?_ ?_); · first | assumption | exact rfl))
local macro_rules | `(tactic| walk_at "ra") => `(tactic| repeat walk_at "a1")
local macro_rules | `(tactic| walk_at "rs") => `(tactic| repeat (fail_if_success (with_reducible refine GL.ra_seqL ?_); walk_at "a1"))
def top (i : Nat) : Stmt := PySem.Challenge.pw_revokelog_k20_whole_replay_and_revoked.main.body.getD i (.Pass ⟨0, 0, 0, 0⟩)
abbrev s_revoked : Stmt := top 1
abbrev s_replay : Stmt := top 2
abbrev s_l_cell_at : Stmt := top 4
abbrev s_l_source : Stmt := top 5
abbrev s_l_draw : Stmt := top 6
abbrev s_l_pick : Stmt := top 7
abbrev s_l_value : Stmt := top 8
abbrev s_l_subset : Stmt := top 9
abbrev s_l_parts : Stmt := top 10
abbrev s_l_records : Stmt := top 11
abbrev s_l_due : Stmt := top 12
abbrev s_l_last : Stmt := top 13
abbrev s_law : Stmt := top 14
theorem sc_revoked : FnScope ["transactions", "highest", "number", "_", "revokes", "home"] ["transactions"] (defScope s_revoked) := ⟨rfl, rfl, rfl, by decide +kernel, rfl, by decide +kernel, by decide +kernel⟩
theorem sc_replay : FnScope ["transactions", "highest", "writes", "number", "copies", "_", "home", "value"] ["transactions"] (defScope s_replay) := ⟨rfl, rfl, rfl, by decide +kernel, rfl, by decide +kernel, by decide +kernel⟩
theorem sc_l_cell_at : FnScope ["_law_script", "_law_k"] ["_law_script", "_law_k"] (defScope s_l_cell_at) := ⟨rfl, rfl, rfl, by decide +kernel, rfl, by decide +kernel, by decide +kernel⟩
theorem sc_l_source : FnScope ["_law_cell"] ["_law_cell"] (defScope s_l_source) := ⟨rfl, rfl, rfl, by decide +kernel, rfl, by decide +kernel, by decide +kernel⟩
theorem sc_l_draw : FnScope ["_law_source_here", "_law_size", "_law_digit", "_law_number"] ["_law_source_here", "_law_size"] (defScope s_l_draw) := ⟨rfl, rfl, rfl, by decide +kernel, rfl, by decide +kernel, by decide +kernel⟩
theorem sc_l_pick : FnScope ["_law_source_here", "_law_items"] ["_law_source_here", "_law_items"] (defScope s_l_pick) := ⟨rfl, rfl, rfl, by decide +kernel, rfl, by decide +kernel, by decide +kernel⟩
theorem sc_l_value : FnScope ["_law_source_here", "_law_some"] ["_law_source_here"] (defScope s_l_value) := ⟨rfl, rfl, rfl, by decide +kernel, rfl, by decide +kernel, by decide +kernel⟩
theorem sc_l_subset : FnScope ["_law_source_here", "_law_count", "_law_most", "_law_found", "_law_home"] ["_law_source_here", "_law_count", "_law_most"] (defScope s_l_subset) := ⟨rfl, rfl, rfl, by decide +kernel, rfl, by decide +kernel, by decide +kernel⟩
theorem sc_l_parts : FnScope ["_law_source_here", "_law_homes", "_law_most", "_law_copies", "_law_home"] ["_law_source_here", "_law_homes"] (defScope s_l_parts) := ⟨rfl, rfl, rfl, by decide +kernel, rfl, by decide +kernel, by decide +kernel⟩
theorem sc_l_records : FnScope ["_law_number", "_law_copies", "_law_revokes", "_law_found", "_law_at", "_law_home", "_law_value_here"] ["_law_number", "_law_copies", "_law_revokes"] (defScope s_l_records) := ⟨rfl, rfl, rfl, by decide +kernel, rfl, by decide +kernel, by decide +kernel⟩
theorem sc_l_due : FnScope ["_law_log", "_law_found", "_law_at", "_law_one", "_law_home", "_law_value_here", "_law_other"] ["_law_log"] (defScope s_l_due) := ⟨rfl, rfl, rfl, by decide +kernel, rfl, by decide +kernel, by decide +kernel⟩
theorem sc_l_last : FnScope ["_law_log", "_law_found", "_law_number", "_law_copies", "_law_revokes", "_law_home"] ["_law_log"] (defScope s_l_last) := ⟨rfl, rfl, rfl, by decide +kernel, rfl, by decide +kernel, by decide +kernel⟩
theorem sc_law : FnScope (("_law_script" : Str) :: ("_law_cell" : Str) :: ("_law_source_here" : Str) :: ("_law_homes" : Str) :: ("_law_log" : Str) :: ("_law_number" : Str) :: ("_law_k" : Str) :: ("_law_copies" : Str) :: ("_law_revokes" : Str) :: ("_law_original" : Str) :: ("_law_turn" : Str) :: ("_law_actual" : Str) :: ("_law_last_here" : Str) :: ("_law_kept" : Str) :: ("_law_one" : Str) :: []) ["_law_script"] (defScope s_law) := ⟨rfl, rfl, rfl, by decide +kernel, rfl, by decide +kernel, by decide +kernel⟩
def d_revoked : He.DefD := ⟨("revoked", none), "revoked", "revoked", defArgs s_revoked, defBody s_revoked, defScope s_revoked, [], []⟩
def d_replay : He.DefD := ⟨("replay", none), "replay", "replay", defArgs s_replay, defBody s_replay, defScope s_replay, [], []⟩
def d_l_cell_at : He.DefD := ⟨("_law_cell_at", none), "_law_cell_at", "_law_cell_at", defArgs s_l_cell_at, defBody s_l_cell_at, defScope s_l_cell_at, [], []⟩
def d_l_source : He.DefD := ⟨("_law_source", none), "_law_source", "_law_source", defArgs s_l_source, defBody s_l_source, defScope s_l_source, [], []⟩
def d_l_draw : He.DefD := ⟨("_law_draw", none), "_law_draw", "_law_draw", defArgs s_l_draw, defBody s_l_draw, defScope s_l_draw, [], []⟩
def d_l_pick : He.DefD := ⟨("_law_pick", none), "_law_pick", "_law_pick", defArgs s_l_pick, defBody s_l_pick, defScope s_l_pick, [], []⟩
def d_l_value : He.DefD := ⟨("_law_value", none), "_law_value", "_law_value", defArgs s_l_value, defBody s_l_value, defScope s_l_value, [], []⟩
def d_l_subset : He.DefD := ⟨("_law_subset", none), "_law_subset", "_law_subset", defArgs s_l_subset, defBody s_l_subset, defScope s_l_subset, [], []⟩
def d_l_parts : He.DefD := ⟨("_law_parts", none), "_law_parts", "_law_parts", defArgs s_l_parts, defBody s_l_parts, defScope s_l_parts, [], []⟩
def d_l_records : He.DefD := ⟨("_law_records", none), "_law_records", "_law_records", defArgs s_l_records, defBody s_l_records, defScope s_l_records, [], []⟩
def d_l_due : He.DefD := ⟨("_law_due", none), "_law_due", "_law_due", defArgs s_l_due, defBody s_l_due, defScope s_l_due, [], []⟩
def d_l_last : He.DefD := ⟨("_law_last", none), "_law_last", "_law_last", defArgs s_l_last, defBody s_l_last, defScope s_l_last, [], []⟩
def d_law : He.DefD := ⟨("law", none), "law", "law", defArgs s_law, defBody s_law, defScope s_law, [], []⟩
def fn : List He.DefD := [d_revoked, d_replay, d_l_cell_at, d_l_source, d_l_draw, d_l_pick, d_l_value, d_l_subset, d_l_parts, d_l_records, d_l_due, d_l_last, d_law]
def fa0 : List He.Fa := [.glo "revoked", .glo "replay", .glo "_law_cell_at", .glo "_law_source", .glo "_law_draw", .glo "_law_pick", .glo "_law_value", .glo "_law_subset", .glo "_law_parts", .glo "_law_records", .glo "_law_due", .glo "_law_last", .glo "law", .free "dict", .free "enumerate", .free "int", .free "len", .free "list", .free "range", .free "repr", .free "sorted", .free "tuple"]
def fa : List He.Fa := fa0
def errs : List (Str × List Str) := []
def ex (K : PySem.W.Frag) : Bool := GL.smB K
abbrev R : PySem.W.OpenRow := PySem.W.OpenLaw.row PySem.Challenge.rw_revokelog_k20_whole_replay_and_revoked
abbrev hk : PySem.W.Hook := GL.hookG 4 fa fn ex
def ob (s : PySem.W.SharedT) : GL.AlG := GL.obG 4 fa fn ex (HandSHeadRun.getT s)
theorem ob_eq (s : PySem.W.SharedT) : ob s = hk.obs s.abs := GL.obG_eq (HandSHeadRun.getT_eq s)
def loose : List Str := ["revoked", "replay", "_law_cell_at", "_law_source", "_law_draw", "_law_pick", "_law_value", "_law_subset", "_law_parts", "_law_records", "_law_due", "_law_last"]
structure Txt (K : PySem.W.Frag) (mg : Str → Option Value) : Prop where
  says : He.SaysD fa fn K
  ex : ex K = true
  top : ∃ h : Heap, K.In h ∧ h.Ns mainGlobals mg
section
variable {K : PySem.W.Frag} {mg : Str → Option Value}
theorem Txt.sm (T : Txt K mg) : GL.smB K = true := T.ex
theorem Txt.g_revoked (T : Txt K mg) : mg "revoked" = some (.ref (He.ga K "revoked")) := by obtain ⟨h, a, b⟩ := T.top; exact He.glo_ok a b (T.says.fact 0 (f := .glo "revoked") rfl)
theorem Txt.g_replay (T : Txt K mg) : mg "replay" = some (.ref (He.ga K "replay")) := by obtain ⟨h, a, b⟩ := T.top; exact He.glo_ok a b (T.says.fact 1 (f := .glo "replay") rfl)
theorem Txt.g__law_cell_at (T : Txt K mg) : mg "_law_cell_at" = some (.ref (He.ga K "_law_cell_at")) := by obtain ⟨h, a, b⟩ := T.top; exact He.glo_ok a b (T.says.fact 2 (f := .glo "_law_cell_at") rfl)
theorem Txt.g__law_source (T : Txt K mg) : mg "_law_source" = some (.ref (He.ga K "_law_source")) := by obtain ⟨h, a, b⟩ := T.top; exact He.glo_ok a b (T.says.fact 3 (f := .glo "_law_source") rfl)
theorem Txt.g__law_draw (T : Txt K mg) : mg "_law_draw" = some (.ref (He.ga K "_law_draw")) := by obtain ⟨h, a, b⟩ := T.top; exact He.glo_ok a b (T.says.fact 4 (f := .glo "_law_draw") rfl)
theorem Txt.g__law_pick (T : Txt K mg) : mg "_law_pick" = some (.ref (He.ga K "_law_pick")) := by obtain ⟨h, a, b⟩ := T.top; exact He.glo_ok a b (T.says.fact 5 (f := .glo "_law_pick") rfl)
theorem Txt.g__law_value (T : Txt K mg) : mg "_law_value" = some (.ref (He.ga K "_law_value")) := by obtain ⟨h, a, b⟩ := T.top; exact He.glo_ok a b (T.says.fact 6 (f := .glo "_law_value") rfl)
theorem Txt.g__law_subset (T : Txt K mg) : mg "_law_subset" = some (.ref (He.ga K "_law_subset")) := by obtain ⟨h, a, b⟩ := T.top; exact He.glo_ok a b (T.says.fact 7 (f := .glo "_law_subset") rfl)
theorem Txt.g__law_parts (T : Txt K mg) : mg "_law_parts" = some (.ref (He.ga K "_law_parts")) := by obtain ⟨h, a, b⟩ := T.top; exact He.glo_ok a b (T.says.fact 8 (f := .glo "_law_parts") rfl)
theorem Txt.g__law_records (T : Txt K mg) : mg "_law_records" = some (.ref (He.ga K "_law_records")) := by obtain ⟨h, a, b⟩ := T.top; exact He.glo_ok a b (T.says.fact 9 (f := .glo "_law_records") rfl)
theorem Txt.g__law_due (T : Txt K mg) : mg "_law_due" = some (.ref (He.ga K "_law_due")) := by obtain ⟨h, a, b⟩ := T.top; exact He.glo_ok a b (T.says.fact 10 (f := .glo "_law_due") rfl)
theorem Txt.g__law_last (T : Txt K mg) : mg "_law_last" = some (.ref (He.ga K "_law_last")) := by obtain ⟨h, a, b⟩ := T.top; exact He.glo_ok a b (T.says.fact 11 (f := .glo "_law_last") rfl)
theorem Txt.g_law (T : Txt K mg) : mg "law" = some (.ref (He.ga K "law")) := by obtain ⟨h, a, b⟩ := T.top; exact He.glo_ok a b (T.says.fact 12 (f := .glo "law") rfl)
theorem Txt.f_dict (T : Txt K mg) : mg "dict" = none := by obtain ⟨h, a, b⟩ := T.top; exact He.free_ok a b (T.says.fact 13 (f := .free "dict") rfl)
theorem Txt.f_enumerate (T : Txt K mg) : mg "enumerate" = none := by obtain ⟨h, a, b⟩ := T.top; exact He.free_ok a b (T.says.fact 14 (f := .free "enumerate") rfl)
theorem Txt.f_int (T : Txt K mg) : mg "int" = none := by obtain ⟨h, a, b⟩ := T.top; exact He.free_ok a b (T.says.fact 15 (f := .free "int") rfl)
theorem Txt.f_len (T : Txt K mg) : mg "len" = none := by obtain ⟨h, a, b⟩ := T.top; exact He.free_ok a b (T.says.fact 16 (f := .free "len") rfl)
theorem Txt.f_list (T : Txt K mg) : mg "list" = none := by obtain ⟨h, a, b⟩ := T.top; exact He.free_ok a b (T.says.fact 17 (f := .free "list") rfl)
theorem Txt.f_range (T : Txt K mg) : mg "range" = none := by obtain ⟨h, a, b⟩ := T.top; exact He.free_ok a b (T.says.fact 18 (f := .free "range") rfl)
theorem Txt.f_repr (T : Txt K mg) : mg "repr" = none := by obtain ⟨h, a, b⟩ := T.top; exact He.free_ok a b (T.says.fact 19 (f := .free "repr") rfl)
theorem Txt.f_sorted (T : Txt K mg) : mg "sorted" = none := by obtain ⟨h, a, b⟩ := T.top; exact He.free_ok a b (T.says.fact 20 (f := .free "sorted") rfl)
theorem Txt.f_tuple (T : Txt K mg) : mg "tuple" = none := by obtain ⟨h, a, b⟩ := T.top; exact He.free_ok a b (T.says.fact 21 (f := .free "tuple") rfl)
theorem Txt.def_revoked (T : Txt K mg) : ∃ fd, FunD K "revoked" "revoked" (defArgs s_revoked) (defBody s_revoked) (defScope s_revoked) [] [] (He.fAd K ("revoked", none)) fd := T.says.def_ 0 (d := d_revoked) rfl
theorem Txt.def_replay (T : Txt K mg) : ∃ fd, FunD K "replay" "replay" (defArgs s_replay) (defBody s_replay) (defScope s_replay) [] [] (He.fAd K ("replay", none)) fd := T.says.def_ 1 (d := d_replay) rfl
theorem Txt.def_l_cell_at (T : Txt K mg) : ∃ fd, FunD K "_law_cell_at" "_law_cell_at" (defArgs s_l_cell_at) (defBody s_l_cell_at) (defScope s_l_cell_at) [] [] (He.fAd K ("_law_cell_at", none)) fd := T.says.def_ 2 (d := d_l_cell_at) rfl
theorem Txt.def_l_source (T : Txt K mg) : ∃ fd, FunD K "_law_source" "_law_source" (defArgs s_l_source) (defBody s_l_source) (defScope s_l_source) [] [] (He.fAd K ("_law_source", none)) fd := T.says.def_ 3 (d := d_l_source) rfl
theorem Txt.def_l_draw (T : Txt K mg) : ∃ fd, FunD K "_law_draw" "_law_draw" (defArgs s_l_draw) (defBody s_l_draw) (defScope s_l_draw) [] [] (He.fAd K ("_law_draw", none)) fd := T.says.def_ 4 (d := d_l_draw) rfl
theorem Txt.def_l_pick (T : Txt K mg) : ∃ fd, FunD K "_law_pick" "_law_pick" (defArgs s_l_pick) (defBody s_l_pick) (defScope s_l_pick) [] [] (He.fAd K ("_law_pick", none)) fd := T.says.def_ 5 (d := d_l_pick) rfl
theorem Txt.def_l_value (T : Txt K mg) : ∃ fd, FunD K "_law_value" "_law_value" (defArgs s_l_value) (defBody s_l_value) (defScope s_l_value) [] [] (He.fAd K ("_law_value", none)) fd := T.says.def_ 6 (d := d_l_value) rfl
theorem Txt.def_l_subset (T : Txt K mg) : ∃ fd, FunD K "_law_subset" "_law_subset" (defArgs s_l_subset) (defBody s_l_subset) (defScope s_l_subset) [] [] (He.fAd K ("_law_subset", none)) fd := T.says.def_ 7 (d := d_l_subset) rfl
theorem Txt.def_l_parts (T : Txt K mg) : ∃ fd, FunD K "_law_parts" "_law_parts" (defArgs s_l_parts) (defBody s_l_parts) (defScope s_l_parts) [] [] (He.fAd K ("_law_parts", none)) fd := T.says.def_ 8 (d := d_l_parts) rfl
theorem Txt.def_l_records (T : Txt K mg) : ∃ fd, FunD K "_law_records" "_law_records" (defArgs s_l_records) (defBody s_l_records) (defScope s_l_records) [] [] (He.fAd K ("_law_records", none)) fd := T.says.def_ 9 (d := d_l_records) rfl
theorem Txt.def_l_due (T : Txt K mg) : ∃ fd, FunD K "_law_due" "_law_due" (defArgs s_l_due) (defBody s_l_due) (defScope s_l_due) [] [] (He.fAd K ("_law_due", none)) fd := T.says.def_ 10 (d := d_l_due) rfl
theorem Txt.def_l_last (T : Txt K mg) : ∃ fd, FunD K "_law_last" "_law_last" (defArgs s_l_last) (defBody s_l_last) (defScope s_l_last) [] [] (He.fAd K ("_law_last", none)) fd := T.says.def_ 11 (d := d_l_last) rfl
theorem Txt.def_law (T : Txt K mg) : ∃ fd, FunD K "law" "law" (defArgs s_law) (defBody s_law) (defScope s_law) [] [] (He.fAd K ("law", none)) fd := T.says.def_ 12 (d := d_law) rfl
end
abbrev W : GL.Why := {  }

/-! ## the program -/
structure TnOk (t : Tn) : Prop where
  hc : ∀ c ∈ t.cs, 0 ≤ c.1 ∧ c.1 < 32 ∧ Rp 4 60 c.2 ∧ Lay 4 c.2
  hr : ∀ h ∈ t.rs, 0 ≤ h ∧ h < 32
  lc : t.cs.length ≤ 17
  lr : t.rs.length ≤ 17
  n0 : 0 ≤ t.n
  n1 : t.n < 10000000000000
structure LgOk (L : List Tn) : Prop where
  all : ∀ t ∈ L, TnOk t
  len : L.length ≤ 10
  asc : Asc L
theorem LgOk.rs {L : List Tn} (h : LgOk L) : RsOk L := fun t ht => (h.all t ht).hr
theorem LgOk.hiT {L : List Tn} (h : LgOk L) (i : Nat) : (hi (L.take i)).length ≤ 32 := hi_len fun t ht => (h.all t (List.mem_of_mem_take ht)).hr
theorem get_tr {L : List Tn} {i : Nat} {d : PyData} (h : (L.map trD)[i]? = some d) : ∃ t, L[i]? = some t ∧ d = .tuple [.int t.n, .list (t.cs.map copD), .list (t.rs.map .int)] := by
  rw [List.getElem?_map] at h
  cases z : L[i]? with
  | none => rw [z] at h; cases h
  | some t => rw [z] at h; cases h; exact ⟨t, rfl, rfl⟩
theorem get_mp {α : Type} {l : List α} {f : α → PyData} {i : Nat} {d : PyData} (h : (l.map f)[i]? = some d) : ∃ t, l[i]? = some t ∧ d = f t := by
  rw [List.getElem?_map] at h
  cases z : l[i]? with
  | none => rw [z] at h; cases h
  | some t => rw [z] at h; cases h; exact ⟨t, rfl, rfl⟩
theorem take_snoc {α : Type} {l : List α} {i : Nat} {d : α} (h : l[i]? = some d) : l.take (i + 1) = l.take i ++ [d] := by rw [List.take_succ, h]; rfl
theorem hi_snoc (L : List Tn) (t : Tn) : hi (L ++ [t]) = hiS (hi L) t := by unfold hi; rw [List.foldl_append]; rfl
abbrev A_revokedM : ASp := fun us ts Q E => ∃ L, us = [.dat (.list (L.map trD))] ∧ ts = [] ∧ LgOk L ∧ ∀ p, Q (.val (.ref p)) [.lst p (((revP L).map prD).map .dat)]
abbrev A_revoked : ASp := fun us ts Q E => ∃ L, us = [.dat (.list (L.map trD))] ∧ ts = [] ∧ LgOk L ∧ Q (.dat (.list ((revP L).map prD))) []
def dictOf (p : Addr) (es : List (Int × Int)) : Tr := .dct p (es.map entI)
theorem g_revoked_M {P : Program} {w : World} {K : PySem.W.Frag} {mg : Str → Option Value} {base : Heap} (T : Txt K mg) : GL.GF true P w K mg base "revoked" 1 (GL.spA K 1 (A_revokedM)) := by
  obtain ⟨fd, F⟩ := T.def_revoked
  have hb : Binds K fd ["transactions"] [] := F.bindsN (fun _ _ _ _ _ _ us hl => match us, hl with | [_], _ => rfl)
  have hf : GL.Fn true P w K mg base 1 (He.fAd K ("revoked", none)) fd ["transactions"] (GL.spA K 1 (A_revokedM)) := by
    refine GL.fn_def (k := 0) F sc_revoked ?len ?body
    case len => intro vs H Q E h; exact h.1
    case body =>
      intro cdv A outer s H vs Q E hr h
      refine ⟨_, (pss_cons (ps_set (i := 1) sc_revoked.nd rfl (Or.inr rfl) GL.pe_dnewN)
  (pss_cons (ps_for (GL.po_top) rfl (pi_list (pv 0)) (pg_tup rfl (pgs_cons (pg_name (i := 2) sc_revoked.nd rfl (Or.inl rfl)) (pgs_cons (pg_name (i := 3) sc_revoked.nd rfl (Or.inl rfl)) (pgs_cons (pg_name (i := 4) sc_revoked.nd rfl (Or.inl rfl)) pgs_nil)))) (pss_one (ps_for (GL.po_top) rfl (pi_list (pv 4)) (pg_name (i := 5) sc_revoked.nd rfl (Or.inl rfl)) (pss_one (ps_dput hr.u1 (pv 1) (pv 5) (pv 2) rfl)))))
  (pss_one (ps_ret (GL.pe_lcM (own := [("home", 5)]) rfl sc_revoked.nd (pi_list (pe_callB (GL.cr_sortDI rfl) rfl T.f_sorted boot_sorted (pa_cons (pv 1) pa_nil))) (blkOk_by (own := [("home", 5)]) (N := ["transactions", "highest", "number", "_", "revokes", "home"]) (sc := defScope s_revoked) (by decide +kernel)) (fun _ _ _ _ _ => (pg_name (i := 5) sc_revoked.nd rfl (Or.inl rfl))) (fun _ _ _ _ _ => pts_nil) (fun _ _ _ _ _ => (GL.pe_tupN (pa_cons (pv 5) (pa_cons (pe_dget hr.u1 (pv 1) (pv 5) (fun _ _ => rfl)) pa_nil))))))))), ?_⟩
      refine GL.spA_run h (fun S RH aw hw => (by (try dsimp only [GL.cxG_K]); infer_instance)) ?_
      clear h
      intro us ts Q E hlen h
      obtain ⟨L, rfl, rfl, ok, kQ⟩ := h
      walk_at "ra"
      intro p
      walk_at "ra"
      refine forDz (fun i s ts => ts = [.dct p ((hi (L.take i)).map entI)] ∧ ∃ o2 o3 o4 o5, s = [some (.dat (.list (L.map trD))), some (.val (.ref p)), o2, o3, o4, o5]) (ra_nx0 ⟨rfl, _, _, _, _, rfl⟩) ?_ ?_
      · rintro i d _ _ N B R hd ⟨rfl, o2, o3, o4, o5, rfl⟩ hN _ _
        obtain ⟨t, ht, rfl⟩ := get_tr hd
        have tok := ok.all t (List.mem_of_getElem? ht)
        walk_at "ra"
        refine forDz (fun k s ts => ts = [.dct p (((t.rs.take k).foldl (fun acc h => putT acc h t.n) (hi (L.take i))).map entI)] ∧ (((t.rs.take k).foldl (fun acc h => putT acc h t.n) (hi (L.take i))).length ≤ 1000) ∧ ∃ o3 o5, s = [some (.dat (.list (L.map trD))), some (.val (.ref p)), some (.dat (.int t.n)), o3, some (.dat (.list (t.rs.map .int))), o5]) (ra_nx0 ⟨rfl, by have := ok.hiT i; show (hi (L.take i)).length ≤ 1000; omega, _, _, rfl⟩) ?_ ?_
        · rintro k d _ _ N2 B2 R2 hd2 ⟨rfl, hl, o3, o5, rfl⟩ hN2 _ _
          obtain ⟨h, hh, rfl⟩ := get_mp hd2
          walk_at "ra"
          · refine hN2 _ _ (ra_nx0 ⟨by rw [take_snoc hh, List.foldl_append]; rfl, ?_, _, _, rfl⟩)
            rw [take_snoc hh, List.foldl_append]
            have n1 := foldput_nodup t.n ((t.rs.take k) ++ [h]) _ (hi_nodup (L.take i))
            rw [List.foldl_append] at n1
            have n2 := nodup_le 32 n1 fun x hx => by
              obtain ⟨⟨q, n⟩, hq, rfl⟩ := List.mem_map.mp hx
              have hv := (val_mem n1).mp hq
              rw [← List.foldl_append, hiS_val] at hv
              by_cases z : q ∈ t.rs.take k ++ [h]
              · refine tok.hr q ?_
                rcases List.mem_append.mp z with z | z
                · exact List.mem_of_mem_take z
                · rw [List.mem_singleton.mp z]; exact List.mem_of_getElem? hh
              · rw [if_neg z, hi_val] at hv
                exact lastN_rng (fun u hu => (ok.all u (List.mem_of_mem_take hu)).hr) hv
            rw [List.length_map] at n2
            exact Nat.le_trans n2 (by decide)
          · omega
        · rintro _ _ ⟨rfl, hl, o3, o5, rfl⟩
          refine ra_nx0 (hN _ _ (ra_nx0 ⟨?_, _, _, _, _, rfl⟩))
          rw [List.length_map, List.take_length, take_snoc ht, hi_snoc]
          rfl
      · rintro _ _ ⟨rfl, o2, o3, o4, o5, rfl⟩
        refine ra_nx0 ?_
        rw [List.length_map, List.take_length]
        walk_at "ra"
        refine fo_sortDI ⟨_, _, by walk_at "foc", by have := hi_len ok.rs; omega, fun ys hp hs => ?_⟩
        have hk : ∀ h ∈ ys, ∃ n, lastN L h = some n := fun h hh => by
          obtain ⟨⟨q, n⟩, hq, rfl⟩ := List.mem_map.mp (hp.mem_iff.mp hh)
          exact ⟨n, mem_hi.mp hq⟩
        have yl : ys.length ≤ 32 := by have := hp.length_eq; rw [List.length_map] at this; have := hi_len ok.rs; omega
        walk_at "ra"
        refine lcMD (fun d => .tuple [d, .int ((lastN L (intOf d)).getD 0)]) (by rw [List.length_map]; omega) True.intro (fun d Y N hd hY => ?_) fun q => ?_
        · obtain ⟨h, hh, rfl⟩ := List.mem_map.mp hd
          obtain ⟨n, hn⟩ := hk h hh
          walk_at "ra"
          refine fo_dgetE ⟨_, _, by walk_at "foc", by rw [hi_val]; exact hn, ?_⟩
          walk_at "ra"
          have hY : Y (.dat (.tuple [.int h, .int ((lastN L h).getD 0)])) _ := hY
          rw [hn] at hY
          exact hY
        · walk_at "ra"
          have e : (ys.map PyData.int).map (fun d => PyData.tuple [d, .int ((lastN L (intOf d)).getD 0)]) = (revP L).map prD := by
            rw [← sort_keys ok.rs hp hs, List.map_map, List.map_map]; rfl
          rw [e]
          exact ra_rtP [1] rfl (kQ q)
  exact ⟨_, GL.Held.plain hf hb, T.g_revoked, F.kp⟩
theorem g_revoked {P : Program} {w : World} {K : PySem.W.Frag} {mg : Str → Option Value} {base : Heap} (T : Txt K mg) : GL.GF true P w K mg base "revoked" 1 (GL.spA K 1 A_revoked) := (g_revoked_M T).gho fun us ts Q E ⟨L, h1, h2, ok, q⟩ => ⟨L, h1, h2, ok, fun p => ra_rtF 0 rfl (plainL_dats _) q⟩
abbrev A_replayM : ASp := fun us ts Q E => ∃ L, us = [.dat (.list (L.map trD))] ∧ ts = [] ∧ LgOk L ∧ ∀ p, Q (.val (.ref p)) [.lst p (((repP L).map copD).map .dat)]
abbrev A_replay : ASp := fun us ts Q E => ∃ L, us = [.dat (.list (L.map trD))] ∧ ts = [] ∧ LgOk L ∧ Q (.dat (.list ((repP L).map copD))) []
def repS (L : List Tn) (t : Tn) : List (Int × PyData) := t.cs.filter fun c => okN (lastN L c.1) t.n
def keepS (L : List Tn) (t : Tn) (k : Nat) : List (Int × PyData) := (t.cs.take k).filter fun c => okN (lastN L c.1) t.n
theorem keepS_yes {L : List Tn} {t : Tn} {k : Nat} {c : Int × PyData} (hh : t.cs[k]? = some c) (z : okN (lastN L c.1) t.n = true) : keepS L t (k + 1) = keepS L t k ++ [c] := by
  unfold keepS
  rw [take_snoc hh, List.filter_append, List.filter_cons, if_pos z, List.filter_nil]
theorem keepS_no {L : List Tn} {t : Tn} {k : Nat} {c : Int × PyData} (hh : t.cs[k]? = some c) (z : ¬ okN (lastN L c.1) t.n = true) : keepS L t (k + 1) = keepS L t k := by
  unfold keepS
  rw [take_snoc hh, List.filter_append, List.filter_cons, if_neg z, List.filter_nil, List.append_nil]
theorem keepS_all {L : List Tn} {t : Tn} : keepS L t t.cs.length = repS L t := by unfold keepS; rw [List.take_length]; rfl
theorem repS_len {L : List Tn} {t : Tn} (h : TnOk t) (k : Nat) : (keepS L t k).length ≤ 17 := Nat.le_trans (List.length_filter_le _ _) (Nat.le_trans (List.length_take_le' _ _) h.lc)
theorem repT_len {L : List Tn} (h : LgOk L) (i : Nat) : ((L.take i).flatMap (repS L)).length ≤ 170 := by
  have := flat_le (f := repS L) (m := 17) (l := L.take i) fun t ht => Nat.le_trans (List.length_filter_le _ _) (h.all t (List.mem_of_mem_take ht)).lc
  have l2 : (L.take i).length ≤ 10 := Nat.le_trans (List.length_take_le' _ _) h.len
  omega
theorem g_replay_M {P : Program} {w : World} {K : PySem.W.Frag} {mg : Str → Option Value} {base : Heap} (T : Txt K mg) : GL.GF true P w K mg base "replay" 2 (GL.spA K 1 (A_replayM)) := by
  obtain ⟨fd, F⟩ := T.def_replay
  have hb : Binds K fd ["transactions"] [] := F.bindsN (fun _ _ _ _ _ _ us hl => match us, hl with | [_], _ => rfl)
  have hf : GL.Fn true P w K mg base 2 (He.fAd K ("replay", none)) fd ["transactions"] (GL.spA K 1 (A_replayM)) := by
    refine GL.fn_def (k := 1) F sc_replay ?len ?body
    case len => intro vs H Q E h; exact h.1
    case body =>
      intro cdv A outer s H vs Q E hr h
      refine ⟨_, (pss_cons (ps_set (i := 1) sc_replay.nd rfl (Or.inl rfl) (pe_callTy (GL.cr_dictP rfl) rfl T.f_dict boot_dict (pa_cons (GL.ge_call (g_revoked T) hr GL.tk_top rfl (pa_cons (pv 0) pa_nil)) pa_nil)))
  (pss_cons (ps_set (i := 2) sc_replay.nd rfl (Or.inl rfl) (GL.pe_lstM pa_nil))
  (pss_cons (ps_for (GL.po_top) rfl (pi_list (pv 0)) (pg_tup rfl (pgs_cons (pg_name (i := 3) sc_replay.nd rfl (Or.inl rfl)) (pgs_cons (pg_name (i := 4) sc_replay.nd rfl (Or.inl rfl)) (pgs_cons (pg_name (i := 5) sc_replay.nd rfl (Or.inl rfl)) pgs_nil)))) (pss_one (ps_for (GL.po_top) rfl (pi_list (pv 4)) (pg_tup rfl (pgs_cons (pg_name (i := 6) sc_replay.nd rfl (Or.inl rfl)) (pgs_cons (pg_name (i := 7) sc_replay.nd rfl (Or.inl rfl)) pgs_nil))) (pss_one (ps_if (PW.pt (pw_or (pt_cmp (pc_dnotin hr.u1 (pv 6) (pv 1))) (pw_or1 (pt_cmpR op_lt (pe_dget hr.u1 (pv 1) (pv 6) (fun _ _ => rfl)) (pv 3) (nomark _))))) (pss_one (ps_expr (pe_bm PySem.F.plainAttrs_list PySem.F.slot_list_append PySem.F.type_list_append mt_append (pv 2) (pa_cons (GL.pe_tupN (pa_cons (pv 6) (pa_cons (pv 7) pa_nil))) pa_nil)))) pss_nil)))))
  (pss_one (ps_ret (pv 2)))))), ?_⟩
      refine GL.spA_run h (fun S RH aw hw => (by (try dsimp only [GL.cxG_K]); infer_instance)) ?_
      clear h
      intro us ts Q E hlen h
      obtain ⟨L, rfl, rfl, ok, kQ⟩ := h
      walk_at "ra"
      refine ra_go0 rfl ⟨L, rfl, rfl, ok, ?_⟩
      walk_at "ra"
      refine fo_dictI (revP_nodup L) fun p => ?_
      walk_at "ra"
      refine ⟨by simp, rfl, fun pw => ?_⟩
      simp only [List.nil_append, List.cons_append]
      walk_at "ra"
      refine forDz (fun i s ts => ts = [.dct p ((revP L).map entI), .lst pw ((((L.take i).flatMap (repS L)).map copD).map .dat)] ∧ ∃ o3 o4 o5 o6 o7, s = [some (.dat (.list (L.map trD))), some (.val (.ref p)), some (.val (.ref pw)), o3, o4, o5, o6, o7]) (ra_nx0 ⟨rfl, _, _, _, _, _, rfl⟩) ?_ ?_
      · rintro i d _ _ N B R hd ⟨rfl, o3, o4, o5, o6, o7, rfl⟩ hN _ _
        obtain ⟨t, ht, rfl⟩ := get_tr hd
        have tok := ok.all t (List.mem_of_getElem? ht)
        walk_at "ra"
        refine forDz (fun k s ts => ts = [.dct p ((revP L).map entI), .lst pw ((((L.take i).flatMap (repS L) ++ keepS L t k).map copD).map .dat)] ∧ ∃ o5 o6 o7, s = [some (.dat (.list (L.map trD))), some (.val (.ref p)), some (.val (.ref pw)), some (.dat (.int t.n)), some (.dat (.list (t.cs.map copD))), o5, o6, o7]) (ra_nx0 ⟨by simp [keepS], _, _, _, rfl⟩) ?_ ?_
        · rintro k d _ _ N2 B2 R2 hd2 ⟨rfl, o5, o6, o7, rfl⟩ hN2 _ _
          obtain ⟨⟨h, v⟩, hh, e⟩ := get_mp hd2
          have e : d = .tuple [.int h, v] := e
          subst e
          have yes : okN (lastN L h) t.n = true → N2 [some (.dat (.list (L.map trD))), some (.val (.ref p)), some (.val (.ref pw)), some (.dat (.int t.n)), some (.dat (.list (t.cs.map copD))), o5, some (.dat (.int h)), some (.dat v)] [.dct p ((revP L).map entI), .lst pw (((((L.take i).flatMap (repS L) ++ keepS L t k).map copD) ++ [PyData.tuple [.int h, v]]).map .dat)] := fun z => by
            refine hN2 _ _ (ra_nx0 ⟨?_, _, _, _, rfl⟩)
            rw [keepS_yes hh z, ← List.append_assoc, List.map_append (l₂ := [(h, v)])]
            rfl
          have lw : (((L.take i).flatMap (repS L) ++ keepS L t k).map copD).length < 100000 := by
            rw [List.length_map, List.length_append]
            have := repS_len (L := L) tok k
            have := repT_len ok i
            omega
          walk_at "ra"
          rw [revP_val ok.rs]
          cases z : lastN L h with
          | none =>
            walk_at "ra"
            · exact yes (by rw [z]; rfl)
            · exact lw
          | some n =>
            walk_at "ra"
            refine fo_dgetE ⟨_, _, by walk_at "foc", by rw [revP_val ok.rs]; exact z, ?_⟩
            walk_at "ra"
            refine iteK _ (fun z2 => ?_) (fun z2 => ?_)
            · walk_at "ra"
              · exact yes (by rw [z]; exact z2)
              · exact lw
            · walk_at "ra"
              refine hN2 _ _ (ra_nx0 ⟨?_, _, _, _, rfl⟩)
              have z3 : ¬ okN (lastN L h) t.n = true := by rw [z]; exact fun e => by rw [show okN (some n) t.n = decide (n < t.n) from rfl, z2] at e; cases e
              rw [keepS_no hh z3]
        · rintro _ _ ⟨rfl, o5, o6, o7, rfl⟩
          refine ra_nx0 (hN _ _ (ra_nx0 ⟨?_, _, _, _, _, _, rfl⟩))
          rw [List.length_map, keepS_all, take_snoc ht, List.flatMap_append]
          simp
      · rintro _ _ ⟨rfl, o3, o4, o5, o6, o7, rfl⟩
        refine ra_nx0 ?_
        rw [List.length_map, List.take_length]
        walk_at "ra"
        exact ra_rtP [1] rfl (kQ pw)
  exact ⟨_, GL.Held.plain hf hb, T.g_replay, F.kp⟩
theorem g_replay {P : Program} {w : World} {K : PySem.W.Frag} {mg : Str → Option Value} {base : Heap} (T : Txt K mg) : GL.GF true P w K mg base "replay" 2 (GL.spA K 1 A_replay) := (g_replay_M T).gho fun us ts Q E ⟨L, h1, h2, ok, q⟩ => ⟨L, h1, h2, ok, fun p => ra_rtF 0 rfl (plainL_dats _) q⟩

/-! ## the law's own draws -/
abbrev A_cell_at : ASp := fun us ts Q E => ∃ (ns : List Int) (k : Nat), us = [.scr ns, .dat (.int k)] ∧ ts = [] ∧ ∀ i : Int, Q (.dat (.int i)) []
theorem g_l_cell_at {P : Program} {w : World} {K : PySem.W.Frag} {mg : Str → Option Value} {base : Heap} (T : Txt K mg) : GL.GF true P w K mg base "_law_cell_at" 1 (GL.spA K 2 (A_cell_at)) := by
  obtain ⟨fd, F⟩ := T.def_l_cell_at
  have hb : Binds K fd ["_law_script", "_law_k"] [] := F.bindsN (fun _ _ _ _ _ _ us hl => match us, hl with | [_, _], _ => rfl)
  have hf : GL.Fn true P w K mg base 1 (He.fAd K ("_law_cell_at", none)) fd ["_law_script", "_law_k"] (GL.spA K 2 (A_cell_at)) := by
    refine GL.fn_def (k := 0) F sc_l_cell_at ?len ?body
    case len => intro vs H Q E h; exact h.1
    case body =>
      intro cdv A outer s H vs Q E hr h
      refine ⟨_, (pss_cons (ps_if (pt_cmpR op_lt (pv 1) (pe_callB (GL.call_lenU) rfl T.f_len boot_len (pa_cons (pv 0) pa_nil)) (nomark _)) (pss_one (ps_ret (pe_ix ix_seq (pv 0) (pv 1) (fun _ _ => rfl)))) pss_nil)
  (pss_one (ps_ret pe_int))), ?_⟩
      refine GL.spA_run h (fun S RH aw hw => (by (try dsimp only [GL.cxG_K]); infer_instance)) ?_
      clear h
      intro us ts Q E hlen h
      obtain ⟨ns, k, rfl, rfl, kQ⟩ := h
      walk_at "ra"
      by_cases z : k < ns.length
      · refine ite1 (by simpa using z) ?_
        walk_at "ra"
        refine ra_ixScr (n := ns.getD k 0) (atI_D z) ?_
        exact ra_rt0 (kQ _)
      · refine ite0 (by simpa using z) ?_
        walk_at "ra"
        exact ra_rt0 (kQ _)
  exact ⟨_, GL.Held.plain hf hb, T.g__law_cell_at, F.kp⟩
abbrev A_source : ASp := fun us ts Q E => ∃ c : Int, us = [.dat (.int c)] ∧ ts = [] ∧ ∀ p t, Wc p 0 t → Q (.val (.ref p)) [t]
theorem g_l_source {P : Program} {w : World} {K : PySem.W.Frag} {mg : Str → Option Value} {base : Heap} (T : Txt K mg) : GL.GF true P w K mg base "_law_source" 1 (GL.spA K 1 (A_source)) := by
  obtain ⟨fd, F⟩ := T.def_l_source
  have hb : Binds K fd ["_law_cell"] [] := F.bindsN (fun _ _ _ _ _ _ us hl => match us, hl with | [_], _ => rfl)
  have hf : GL.Fn true P w K mg base 1 (He.fAd K ("_law_source", none)) fd ["_law_cell"] (GL.spA K 1 (A_source)) := by
    refine GL.fn_def (k := 0) F sc_l_source ?len ?body
    case len => intro vs H Q E h; exact h.1
    case body =>
      intro cdv A outer s H vs Q E hr h
      refine ⟨_, (pss_one (ps_ret (GL.pe_lstM (pa_cons (pe_op op_mul (pv 0) (pe_callTy GL.call_intN rfl T.f_int boot_int (pa_cons (pe_cmpR op_ge (pv 0) (pe_op op_pow pe_int pe_int) (nomark _)) pa_nil))) (pa_cons (pe_op op_mod (pv 0) pe_int) (pa_cons pe_int pa_nil)))))), ?_⟩
      refine GL.spA_run h (fun S RH aw hw => (by (try dsimp only [GL.cxG_K]); infer_instance)) ?_
      clear h
      intro us ts Q E hlen h
      obtain ⟨c, rfl, rfl, kQ⟩ := h
      walk_at "ra"
      refine ra_iI ⟨by decide, by decide, by decide⟩ ?_
      walk_at "ra"
      have go : ∀ b : Int, CMul c b → ∀ {Y : AQ}, Y (.dat (.int (c * b))) [] → aI CMul (fun i j => .int (i * j)) (.dat (.int c)) (.dat (.int b)) [] Y := fun b hb Y hy => ra_iI hb hy
      have a1 := Int.emod_nonneg c (show (2147483647 : Int) ≠ 0 by decide)
      have a2 := Int.emod_lt_of_pos c (show (0 : Int) < 2147483647 by decide)
      cases e : decide ((10 : Int) ^ (18 : Int).toNat ≤ c) with
      | false =>
        refine ra_iI (.inr ⟨by decide, by decide⟩) ?_
        walk_at "ra"
        refine ra_iI (by decide) ?_
        walk_at "ra"
        exact ⟨by simp, rfl, fun p => ra_rt0 (kQ p _ ⟨_, _, _, rfl, by omega, by omega, a1, a2⟩)⟩
      | true =>
        refine ra_iI (.inr ⟨by decide, by decide⟩) ?_
        walk_at "ra"
        refine ra_iI (by decide) ?_
        walk_at "ra"
        exact ⟨by simp, rfl, fun p => ra_rt0 (kQ p _ ⟨_, _, _, rfl, by omega, by omega, a1, a2⟩)⟩
  exact ⟨_, GL.Held.plain hf hb, T.g__law_source, F.kp⟩
theorem g_l_draw {P : Program} {w : World} {K : PySem.W.Frag} {mg : Str → Option Value} {base : Heap} (T : Txt K mg) : GL.GF true P w K mg base "_law_draw" 1 (GL.spA K 2 (A_drawS)) := by
  obtain ⟨fd, F⟩ := T.def_l_draw
  have hb : Binds K fd ["_law_source_here", "_law_size"] [] := F.bindsN (fun _ _ _ _ _ _ us hl => match us, hl with | [_, _], _ => rfl)
  have hf : GL.Fn true P w K mg base 1 (He.fAd K ("_law_draw", none)) fd ["_law_source_here", "_law_size"] (GL.spA K 2 (A_drawS)) := by
    refine GL.fn_def (k := 0) F sc_l_draw ?len ?body
    case len => intro vs H Q E h; exact h.1
    case body =>
      intro cdv A outer s H vs Q E hr h
      refine ⟨_, (pss_cons (ps_if (pt_cmpR op_gt (pe_ix ix_seq (pv 0) pe_int (fun _ _ => rfl)) pe_int (nomark _)) (pss_cons (ps_set (i := 2) sc_l_draw.nd rfl (Or.inl rfl) (pe_op op_mod (pe_ix ix_seq (pv 0) pe_int (fun _ _ => rfl)) (pv 1)))
  (pss_cons (ps_asg (pe_op op_fdivW (pe_ix ix_seq (pv 0) pe_int (fun _ _ => rfl)) (pv 1)) (pg_sub (pv 0) pe_int set_list))
  (pss_one (ps_ret (pv 2))))) pss_nil)
  (pss_cons (ps_asg (pe_op op_add (pe_ix ix_seq (pv 0) pe_int (fun _ _ => rfl)) pe_int) (pg_sub (pv 0) pe_int set_list))
  (pss_cons (ps_set (i := 3) sc_l_draw.nd rfl (Or.inl rfl) (pe_op op_mod (pe_op op_pow (pe_op op_add (pe_op op_add (pe_ix ix_seq (pv 0) pe_int (fun _ _ => rfl)) (pe_op op_mul pe_int (pe_ix ix_seq (pv 0) pe_int (fun _ _ => rfl)))) pe_int) pe_int) pe_int))
  (pss_cons (ps_set (i := 3) sc_l_draw.nd rfl (Or.inl rfl) (pe_op op_mod (pe_op op_mul (pv 3) (pe_op op_add (pe_op op_add (pe_op op_fdivW (pv 3) pe_int) pe_int) (pe_ix ix_seq (pv 0) pe_int (fun _ _ => rfl)))) pe_int))
  (pss_one (ps_ret (pe_op op_mod (pe_op op_fdivW (pe_op op_mod (pe_op op_mul (pv 3) (pe_op op_add (pe_op op_fdivW (pv 3) pe_int) pe_int)) pe_int) pe_int) (pv 1)))))))), ?_⟩
      refine GL.spA_run h (fun S RH aw hw => (by (try dsimp only [GL.cxG_K]); infer_instance)) ?_
      clear h
      intro us ts Q E hlen h
      obtain ⟨p, t, n, _, rfl, rfl, ⟨x, c, k, rfl, hk0, hk1, hc0, hc1⟩, hn, ⟨m, rfl, hm0, hm1⟩, kQ⟩ := h
      walk_at "ra"
      cases e : decide ((0 : Int) < x) with
      | true =>
        walk_at "ra"
        refine ra_iI (show 0 < m by omega) ?_
        walk_at "ra"
        refine ra_iI (div_ok (by omega) hm1) ?_
        walk_at "ra"
        exact ra_rt0 (kQ _ _ ⟨_, _, rfl, rfl, Int.emod_nonneg _ (by omega), Int.emod_lt_of_pos _ (by omega)⟩ ⟨_, _, _, rfl, hk0, by omega, hc0, hc1⟩)
      | false =>
        walk_at "ra"
        refine ra_iI (.inl ⟨by decide, by decide⟩) ?_
        walk_at "ra"
        refine ra_iI ⟨by decide, by decide, by omega⟩ ?_
        walk_at "ra"
        refine ra_iI (by decide) ?_
        walk_at "ra"
        generalize (c + 7919 * (k + 1) + 1) ^ (5 : Int).toNat = z1
        have c1 := Int.emod_nonneg z1 (show (2147483629 : Int) ≠ 0 by decide)
        have c2 := Int.emod_lt_of_pos z1 (show (0 : Int) < 2147483629 by decide)
        generalize z1 % 2147483629 = z2 at c1 c2 ⊢
        refine ra_iI ⟨by decide, by decide⟩ ?_
        walk_at "ra"
        refine ra_iI (.inl ⟨by omega, by omega⟩) ?_
        walk_at "ra"
        refine ra_iI (by decide) ?_
        walk_at "ra"
        generalize z2 * (z2 / 1009 + 69621 + (k + 1)) = z3
        have d1 := Int.emod_nonneg z3 (show (2147483587 : Int) ≠ 0 by decide)
        have d2 := Int.emod_lt_of_pos z3 (show (0 : Int) < 2147483587 by decide)
        generalize z3 % 2147483587 = z4 at d1 d2 ⊢
        refine ra_iI ⟨by decide, by decide⟩ ?_
        walk_at "ra"
        refine ra_iI (.inl ⟨by omega, by omega⟩) ?_
        walk_at "ra"
        refine ra_iI (by decide) ?_
        walk_at "ra"
        refine ra_iI ⟨by decide, by decide⟩ ?_
        walk_at "ra"
        refine ra_iI (show 0 < m by omega) ?_
        walk_at "ra"
        exact ra_rt0 (kQ _ _ ⟨_, _, rfl, rfl, Int.emod_nonneg _ (by omega), Int.emod_lt_of_pos _ (by omega)⟩ ⟨_, _, _, rfl, by omega, by omega, hc0, hc1⟩)
  exact ⟨_, GL.Held.plain hf hb, T.g__law_draw, F.kp⟩
theorem g_l_pick {P : Program} {w : World} {K : PySem.W.Frag} {mg : Str → Option Value} {base : Heap} (T : Txt K mg) : GL.GF true P w K mg base "_law_pick" 2 (GL.spA K 2 (A_oneS)) := by
  obtain ⟨fd, F⟩ := T.def_l_pick
  have hb : Binds K fd ["_law_source_here", "_law_items"] [] := F.bindsN (fun _ _ _ _ _ _ us hl => match us, hl with | [_, _], _ => rfl)
  have hf : GL.Fn true P w K mg base 2 (He.fAd K ("_law_pick", none)) fd ["_law_source_here", "_law_items"] (GL.spA K 2 (A_oneS)) := by
    refine GL.fn_def (k := 1) F sc_l_pick ?len ?body
    case len => intro vs H Q E h; exact h.1
    case body =>
      intro cdv A outer s H vs Q E hr h
      refine ⟨_, (pss_one (ps_ret (pe_ix ix_seq (pv 1) (GL.ge_call (g_l_draw T) hr GL.tk_top rfl (pa_cons (pv 0) (pa_cons (pe_callB (GL.call_lenU) rfl T.f_len boot_len (pa_cons (pv 1) pa_nil)) pa_nil))) (fun _ _ => rfl)))), ?_⟩
      refine GL.spA_run h (fun S RH aw hw => (by (try dsimp only [GL.cxG_K]); infer_instance)) ?_
      clear h
      intro us ts Q E hlen h
      obtain ⟨p, t, n, _, rfl, rfl, hw, hn, ⟨ds, rfl, h1, h2⟩, kQ⟩ := h
      walk_at "ra"
      refine ra_goS2 hw hn ⟨_, rfl, by omega, by omega⟩ ?_
      rintro _ t' ⟨i, j, e, rfl, j0, j1⟩ w'
      cases e
      have hj : j.toNat < ds.length := by omega
      refine ra_ixD (d := ds.getD j.toNat .none) (by have := atI_D (z := PyData.none) hj; rw [show ((j.toNat : Nat) : Int) = j from by omega] at this; exact this) ?_
      exact ra_rt0 (kQ _ _ ⟨_, rfl, by rw [List.getD_eq_getElem?_getD, List.getElem?_eq_getElem hj]; exact List.getElem_mem hj⟩ w')
  exact ⟨_, GL.Held.plain hf hb, T.g__law_pick, F.kp⟩
def VOk (d : PyData) : Prop := Rp 4 60 d ∧ Lay 4 d
theorem rpI {i : Int} {w : Nat} (h : i.natAbs < 2 ^ w) (hw : w ≤ 60) : Rp 0 w (.int i) := by
  have z := (Vs.int (i := i) (Nat.lt_trans h (Nat.lt_of_le_of_lt (Nat.pow_le_pow_right (by decide) hw) (by decide)))).rp
  refine ⟨z.show_, z.short, rfl, by simp [PyData.depth], ?_⟩
  simp only [PyData.weight]
  by_cases h0 : i = 0
  · rw [if_pos (by simpa using h0)]; omega
  · rw [if_neg (by simpa using h0)]
    have := (Nat.log2_lt (n := i.natAbs) (k := w) (by omega)).mpr h
    omega
theorem vok_int {i : Int} (h : i.natAbs < 2 ^ 60) : VOk (.int i) := ⟨(rpI h (Nat.le_refl _)).mono (by decide) (Nat.le_refl _), (Lay.int i).mono (by decide)⟩
theorem vok_of {d : PyData} (h1 : d.showable = true) (h2 : d.leavesShort 25 = true) (h3 : txtOk d = true) (h4 : d.depth ≤ 4) (h5 : d.weight ≤ 60) (h6 : d.canLay0 = true) : VOk d := ⟨⟨h1, h2, h3, h4, h5⟩, ⟨h6, h4⟩⟩
abbrev A_value : ASp := asS1 3 VOk
theorem g_l_value {P : Program} {w : World} {K : PySem.W.Frag} {mg : Str → Option Value} {base : Heap} (T : Txt K mg) : GL.GF true P w K mg base "_law_value" 3 (GL.spA K 1 (A_value)) := by
  obtain ⟨fd, F⟩ := T.def_l_value
  have hb : Binds K fd ["_law_source_here"] [] := F.bindsN (fun _ _ _ _ _ _ us hl => match us, hl with | [_], _ => rfl)
  have hf : GL.Fn true P w K mg base 3 (He.fAd K ("_law_value", none)) fd ["_law_source_here"] (GL.spA K 1 (A_value)) := by
    refine GL.fn_def (k := 2) F sc_l_value ?len ?body
    case len => intro vs H Q E h; exact h.1
    case body =>
      intro cdv A outer s H vs Q E hr h
      refine ⟨_, (pss_cons (ps_set (i := 1) sc_l_value.nd rfl (Or.inl rfl) (GL.pe_lstN (pa_cons pe_int (pa_cons (GL.ge_call (g_l_draw T) (hr.mono (by first | decide | omega)) GL.tk_top rfl (pa_cons (pv 0) (pa_cons pe_int pa_nil))) (pa_cons (pe_op op_sub pe_int (GL.ge_call (g_l_draw T) (hr.mono (by first | decide | omega)) GL.tk_top rfl (pa_cons (pv 0) (pa_cons (pe_op op_pow pe_int pe_int) pa_nil)))) (pa_cons pe_str (pa_cons pe_str (pa_cons (GL.pe_tupN (pa_cons pe_str pa_nil)) (pa_cons (GL.pe_tupN pa_nil) (pa_cons (GL.pe_tupN (pa_cons pe_int (pa_cons (GL.pe_tupN (pa_cons pe_str (pa_cons (GL.pe_tupN (pa_cons pe_int (pa_cons pe_int pa_nil))) pa_nil))) pa_nil))) pa_nil))))))))))
  (pss_one (ps_ret (GL.ge_call (g_l_pick T) hr GL.tk_top rfl (pa_cons (pv 0) (pa_cons (pv 1) pa_nil)))))), ?_⟩
      refine GL.spA_run h (fun S RH aw hw => (by (try dsimp only [GL.cxG_K]); infer_instance)) ?_
      clear h
      intro us ts Q E hlen h
      obtain ⟨p, t, n, rfl, rfl, hw, hn, kQ⟩ := h
      walk_at "ra"
      refine ra_drawS hw (by omega) (by decide) (by decide) fun r1 t1 h10 h11 w1 => ?_
      walk_at "ra"
      refine ra_iI ⟨by decide, by decide, by decide⟩ ?_
      walk_at "ra"
      refine ra_drawS w1 (by omega) (by decide) (by decide) fun r2 t2 h20 h21 w2 => ?_
      have h21 : r2 < 1000000000 := h21
      walk_at "ra"
      refine ra_oneS w2 (by omega) (by simp) (by simp) fun r t3 hr w3 => ?_
      refine ra_rt0 (kQ _ _ ?_ (w3.mono (by omega)))
      simp only [List.mem_cons, List.not_mem_nil, or_false] at hr
      rcases hr with rfl | rfl | rfl | rfl | rfl | rfl | rfl | rfl
      · exact vok_int (by decide)
      · exact vok_int (by omega)
      · exact vok_int (by omega)
      all_goals exact vok_of (by decide +kernel) (by decide +kernel) (by decide +kernel) (by decide +kernel) (by decide +kernel) (by decide +kernel)
  exact ⟨_, GL.Held.plain hf hb, T.g__law_value, F.kp⟩
def HsOk (m : Nat) (hs : List Int) : Prop := hs.length ≤ m ∧ ∀ h ∈ hs, 0 ≤ h ∧ h < 32
abbrev A_subset : ASp := asS3 32 (fun a b => (∃ c : Int, a = .int c ∧ 0 ≤ c ∧ c ≤ 32) ∧ ∃ m : Nat, b = .int m ∧ m ≤ 17) fun _ b r => ∃ hs : List Int, r = .list (hs.map .int) ∧ HsOk 17 hs
theorem g_l_subset {P : Program} {w : World} {K : PySem.W.Frag} {mg : Str → Option Value} {base : Heap} (T : Txt K mg) : GL.GF true P w K mg base "_law_subset" 2 (GL.spA K 3 (A_subset)) := by
  obtain ⟨fd, F⟩ := T.def_l_subset
  have hb : Binds K fd ["_law_source_here", "_law_count", "_law_most"] [] := F.bindsN (fun _ _ _ _ _ _ us hl => match us, hl with | [_, _, _], _ => rfl)
  have hf : GL.Fn true P w K mg base 2 (He.fAd K ("_law_subset", none)) fd ["_law_source_here", "_law_count", "_law_most"] (GL.spA K 3 (A_subset)) := by
    refine GL.fn_def (k := 1) F sc_l_subset ?len ?body
    case len => intro vs H Q E h; exact h.1
    case body =>
      intro cdv A outer s H vs Q E hr h
      refine ⟨_, (pss_cons (ps_set (i := 3) sc_l_subset.nd rfl (Or.inl rfl) (GL.pe_lstM pa_nil))
  (pss_cons (ps_for (GL.po_top) rfl (pi_range1 rfl T.f_range (pa_cons (pv 1) pa_nil)) (pg_name (i := 4) sc_l_subset.nd rfl (Or.inl rfl)) (pss_one (ps_if (PW.pt (pw_and (pt_cmpR op_lt (pe_callB (GL.call_lenU) rfl T.f_len boot_len (pa_cons (pv 3) pa_nil)) (pv 2) (nomark _)) (pw_and1 (pt_cmpR op_lt (GL.ge_call (g_l_draw T) hr GL.tk_top rfl (pa_cons (pv 0) (pa_cons (pv 1) pa_nil))) (pv 2) (nomark _))))) (pss_one (ps_expr (pe_bm PySem.F.plainAttrs_list PySem.F.slot_list_append PySem.F.type_list_append mt_append (pv 3) (pa_cons (pv 4) pa_nil)))) pss_nil)))
  (pss_one (ps_ret (pv 3))))), ?_⟩
      refine GL.spA_run h (fun S RH aw hw => (by (try dsimp only [GL.cxG_K]); infer_instance)) ?_
      clear h
      intro us ts Q E hlen h
      obtain ⟨p, t, n, _, _, rfl, rfl, hw, hn, ⟨⟨c, rfl, hc0, hc1⟩, m, rfl, hm⟩, kQ⟩ := h
      walk_at "ra"
      refine ⟨by simp, rfl, fun pl => ?_⟩
      simp only [List.nil_append, List.cons_append]
      walk_at "ra"
      refine ra_iR1d (by omega) (by omega) ?_
      refine forRz (fun i s ts => ∃ t hs, ts = [t, .lst pl ((hs.map PyData.int).map .dat)] ∧ Wc p (n + i) t ∧ HsOk m hs ∧ ∃ o4, s = [some (.val (.ref p)), some (.dat (.int c)), some (.dat (.int m)), some (.val (.ref pl)), o4]) (ra_nx0 ⟨t, [], rfl, by simpa using hw, ⟨by simp, by simp⟩, _, rfl⟩) ?_ ?_
      · rintro i _ _ N B R hi ⟨t, hs, rfl, w, ok, o4, rfl⟩ hN _ _
        walk_at "ra"
        rw [List.length_map, List.length_map]
        refine iteK _ (fun z => ?_) (fun z => ?_)
        · walk_at "ra"
          refine ra_drawS w (by omega) (by omega) (by omega) fun r1 t1 h10 h11 w1 => ?_
          walk_at "ra"
          refine iteK _ (fun z2 => ?_) (fun z2 => ?_)
          · walk_at "ra"
            · have z : (hs.length : Int) < (m : Int) := by simpa using z
              refine hN _ _ (ra_nx0 ⟨t1, hs ++ [(i : Int)], by simp, ?_, ⟨by simp; omega, fun h hh => ?_⟩, _, rfl⟩)
              · rw [show n + ((i + 1 : Nat) : Int) = n + i + 1 from by omega]; exact w1
              · rcases List.mem_append.mp hh with hh | hh
                · exact ok.2 h hh
                · rw [List.mem_singleton.mp hh]; omega
            · have := ok.1
              rw [List.length_map]; omega
          · walk_at "ra"
            refine hN _ _ (ra_nx0 ⟨t1, hs, rfl, ?_, ok, _, rfl⟩)
            rw [show n + ((i + 1 : Nat) : Int) = n + i + 1 from by omega]; exact w1
        · walk_at "ra"
          exact hN _ _ (ra_nx0 ⟨t, hs, rfl, w.mono (by omega), ok, _, rfl⟩)
      · rintro _ _ ⟨t, hs, rfl, w, ok, o4, rfl⟩
        refine ra_nx0 ?_
        walk_at "ra"
        exact ra_rtFP 1 [0] rfl (plainL_dats _) rfl (kQ _ _ ⟨hs, rfl, by have := ok.1; omega, ok.2⟩ (w.mono (by omega)))
  exact ⟨_, GL.Held.plain hf hb, T.g__law_subset, F.kp⟩

/-! ## copies and revokes drawn; what is due -/
structure PaOk (cs : List (Int × PyData)) (rs : List Int) : Prop where
  hc : ∀ c ∈ cs, 0 ≤ c.1 ∧ c.1 < 32 ∧ VOk c.2
  lc : cs.length ≤ 17
  hr : HsOk 17 rs
theorem all2_cop : ∀ {hs : List Int} {ys : List PyData}, All2 (fun d y => ∃ v, y = PyData.tuple [d, v] ∧ VOk v) (hs.map PyData.int) ys → ∃ cs : List (Int × PyData), ys = cs.map copD ∧ cs.map (·.1) = hs ∧ ∀ c ∈ cs, VOk c.2
  | [], _, h => by cases h; exact ⟨[], rfl, rfl, fun _ h => by cases h⟩
  | h :: hs, _, a => by
    cases a with
    | cons a r =>
      obtain ⟨v, rfl, hv⟩ := a
      obtain ⟨cs, rfl, e, k⟩ := all2_cop r
      refine ⟨(h, v) :: cs, rfl, by rw [List.map_cons, e], fun c hc => ?_⟩
      rcases List.mem_cons.mp hc with rfl | hc
      · exact hv
      · exact k c hc
abbrev A_parts : ASp := asS2 120 (fun a => ∃ c : Int, a = .int c ∧ 0 ≤ c ∧ c ≤ 32) fun _ r => ∃ cs rs, r = .tuple [.list (cs.map copD), .list (rs.map .int)] ∧ PaOk cs rs
theorem g_l_parts {P : Program} {w : World} {K : PySem.W.Frag} {mg : Str → Option Value} {base : Heap} (T : Txt K mg) : GL.GF true P w K mg base "_law_parts" 4 (GL.spA K 2 (A_parts)) := by
  obtain ⟨fd, F⟩ := T.def_l_parts
  have hb : Binds K fd ["_law_source_here", "_law_homes"] [] := F.bindsN (fun _ _ _ _ _ _ us hl => match us, hl with | [_, _], _ => rfl)
  have hf : GL.Fn true P w K mg base 4 (He.fAd K ("_law_parts", none)) fd ["_law_source_here", "_law_homes"] (GL.spA K 2 (A_parts)) := by
    refine GL.fn_def (k := 3) F sc_l_parts ?len ?body
    case len => intro vs H Q E h; exact h.1
    case body =>
      intro cdv A outer s H vs Q E hr h
      refine ⟨_, (pss_cons (ps_set (i := 2) sc_l_parts.nd rfl (Or.inl rfl) (GL.ge_call (g_l_pick T) (hr.mono (by first | decide | omega)) GL.tk_top rfl (pa_cons (pv 0) (pa_cons (GL.pe_lstN (pa_cons pe_int (pa_cons pe_int (pa_cons pe_int (pa_cons pe_int (pa_cons pe_int pa_nil)))))) pa_nil))))
  (pss_cons (ps_setLc (i := 3) (own := [("_law_home", 4)]) rfl sc_l_parts.nd rfl rfl (sw_true rfl rfl rfl (by decide +kernel)) (pi_list (GL.ge_call (g_l_subset T) (hr.mono (by first | decide | omega)) GL.tk_top rfl (pa_cons (pv 0) (pa_cons (pv 1) (pa_cons (pv 2) pa_nil))))) (blkOk_by (own := [("_law_home", 4)]) (N := ["_law_source_here", "_law_homes", "_law_most", "_law_copies", "_law_home"]) (sc := defScope s_l_parts) (by decide +kernel)) (fun _ _ _ _ _ => (pg_name (i := 4) sc_l_parts.nd rfl (Or.inl rfl))) (fun _ _ _ _ _ => pts_nil) (fun _ _ _ _ _ => (GL.pe_tupN (pa_cons (pv 4) (pa_cons (GL.ge_callF (g_l_value T) hr rfl (pa_cons (pv 0) pa_nil)) pa_nil)))))
  (pss_one (ps_ret (GL.pe_tupN (pa_cons (pv 3) (pa_cons (GL.ge_call (g_l_subset T) (hr.mono (by first | decide | omega)) GL.tk_top rfl (pa_cons (pv 0) (pa_cons (pv 1) (pa_cons (GL.ge_call (g_l_pick T) (hr.mono (by first | decide | omega)) GL.tk_top rfl (pa_cons (pv 0) (pa_cons (GL.pe_lstN (pa_cons pe_int (pa_cons pe_int (pa_cons pe_int (pa_cons pe_int (pa_cons pe_int pa_nil)))))) pa_nil))) pa_nil)))) pa_nil))))))), ?_⟩
      refine GL.spA_run h (fun S RH aw hw => (by (try dsimp only [GL.cxG_K]); infer_instance)) ?_
      clear h
      intro us ts Q E hlen h
      obtain ⟨p, t, n, _, rfl, rfl, hw, hn, ⟨c, rfl, hc0, hc1⟩, kQ⟩ := h
      walk_at "ra"
      refine ra_oneS hw (by omega) (by simp) (by simp) fun r1 t1 hr1 w1 => ?_
      obtain ⟨m1, rfl, hm1⟩ : ∃ m : Nat, r1 = .int m ∧ m ≤ 17 := by
        simp only [List.mem_cons, List.not_mem_nil, or_false] at hr1
        rcases hr1 with rfl | rfl | rfl | rfl | rfl
        · exact ⟨0, rfl, by decide⟩
        · exact ⟨1, rfl, by decide⟩
        · exact ⟨3, rfl, by decide⟩
        · exact ⟨9, rfl, by decide⟩
        · exact ⟨17, rfl, by decide⟩
      walk_at "ra"
      refine ra_goS3 w1 (by omega) ⟨⟨c, rfl, hc0, hc1⟩, m1, rfl, hm1⟩ ?_
      rintro _ t2 ⟨hs, rfl, hl, hh⟩ w2
      walk_at "ra"
      have hlm : (hs.length : Int) * 3 ≤ 17 * 3 := Int.mul_le_mul_of_nonneg_right (by omega) (by decide)
      refine lcS (l := hs.map PyData.int) (c := .dat) (n := n + 1 + 32) (cost := 3) rfl (fun _ => True.intro) (fun d y => ∃ v, y = .tuple [d, v] ∧ VOk v) (by rw [List.length_map]; omega) w2 (by decide) (by rw [List.length_map]; omega) (fun i d t m Y N hi w hm hY => ?_) fun ys t3 al w3 => ?_
      · walk_at "ra"
        refine ra_goS1 w hm fun r t' hr w' => ?_
        walk_at "ra"
        exact hY _ _ ⟨_, rfl, hr⟩ w'
      · obtain ⟨cs, rfl, e, hv⟩ := all2_cop al
        rw [List.length_map] at w3
        have el : cs.length = hs.length := by rw [← e, List.length_map]
        walk_at "ra"
        refine ra_oneS w3 (by omega) (by simp) (by simp) fun r4 t4 hr4 w4 => ?_
        obtain ⟨m2, rfl, hm2⟩ : ∃ m : Nat, r4 = .int m ∧ m ≤ 17 := by
          simp only [List.mem_cons, List.not_mem_nil, or_false] at hr4
          rcases hr4 with rfl | rfl | rfl | rfl | rfl
          · exact ⟨0, rfl, by decide⟩
          · exact ⟨0, rfl, by decide⟩
          · exact ⟨1, rfl, by decide⟩
          · exact ⟨3, rfl, by decide⟩
          · exact ⟨9, rfl, by decide⟩
        walk_at "ra"
        refine ra_goS3 w4 (by omega) ⟨⟨c, rfl, hc0, hc1⟩, m2, rfl, hm2⟩ ?_
        rintro _ t5 ⟨rs, rfl, hl5, hh5⟩ w5
        walk_at "ra"
        refine ra_rt0 (kQ _ _ ⟨cs, rs, rfl, ⟨fun x hx => ?_, by omega, hl5, hh5⟩⟩ (w5.mono (by omega)))
        have := hh x.1 (by rw [← e]; exact List.mem_map_of_mem hx)
        exact ⟨this.1, this.2, hv x hx⟩
  exact ⟨_, GL.Held.plain hf hb, T.g__law_parts, F.kp⟩
abbrev A_due : ASp := fun us ts Q E => ∃ L, us = [.dat (.list (L.map trD))] ∧ ts = [] ∧ LgOk L ∧ Q (.dat (.list ((dueP L).map copD))) []
def dueS (L : List Tn) (c : Int × PyData) : Bool := !L.any fun o => decide (c.1 ∈ o.rs)
def dueA (L : List Tn) (i : Nat) : List (Int × PyData) := dueP L |>.take ((dueP L).length - (dueP (L.drop i)).length)
theorem due_split : ∀ (i : Nat) (L : List Tn), ∃ A, dueP L = A ++ dueP (L.drop i) ∧ A.length ≤ 17 * i ∨ ¬ ∀ t ∈ L, t.cs.length ≤ 17
  | 0, L => ⟨[], .inl ⟨rfl, Nat.le_refl _⟩⟩
  | i + 1, [] => ⟨[], .inl ⟨rfl, Nat.zero_le _⟩⟩
  | i + 1, t :: L => by
    obtain ⟨A, h⟩ := due_split i L
    rcases h with ⟨h1, h2⟩ | h
    · by_cases z : t.cs.length ≤ 17
      · refine ⟨t.cs.filter (dueS (t :: L)) ++ A, .inl ⟨?_, ?_⟩⟩
        · rw [List.drop_succ_cons, List.append_assoc, ← h1]; rfl
        · rw [List.length_append]
          have := List.length_filter_le (dueS (t :: L)) t.cs
          omega
      · exact ⟨[], .inr fun k => z (k t List.mem_cons_self)⟩
    · exact ⟨[], .inr fun k => h fun x hx => k x (List.mem_cons_of_mem _ hx)⟩
theorem filterMap_one {α : Type} (p : α → Bool) : ∀ l : List α, (l.filterMap fun d => if p d = true then some (PyData.int 1) else none).isEmpty = !l.any p
  | [] => rfl
  | x :: l => by
    rw [List.filterMap_cons, List.any_cons]
    cases z : p x with
    | true => simp
    | false => simp [filterMap_one p l]
def isH (h : Int) : PyData → Bool
  | .int j => decide (j = h)
  | _ => false
def hasR (h : Int) (d : PyData) : Bool := match d with
  | .tuple [_, _, .list rs] => rs.any (isH h)
  | _ => false
theorem hasR_tr (h : Int) (t : Tn) : hasR h (trD t) = decide (h ∈ t.rs) := by
  show ((t.rs.map PyData.int).any (isH h)) = _
  rw [List.any_map]
  induction t.rs with
  | nil => rfl
  | cons r rs ih =>
    rw [List.any_cons, ih]
    show (decide (r = h) || _) = _
    by_cases z : r = h
    · subst z; simp
    · have : ¬ h = r := fun e => z e.symm
      simp [z, this]
theorem g_l_due {P : Program} {w : World} {K : PySem.W.Frag} {mg : Str → Option Value} {base : Heap} (T : Txt K mg) : GL.GF true P w K mg base "_law_due" 1 (GL.spA K 1 (A_due)) := by
  obtain ⟨fd, F⟩ := T.def_l_due
  have hb : Binds K fd ["_law_log"] [] := F.bindsN (fun _ _ _ _ _ _ us hl => match us, hl with | [_], _ => rfl)
  have hf : GL.Fn true P w K mg base 1 (He.fAd K ("_law_due", none)) fd ["_law_log"] (GL.spA K 1 (A_due)) := by
    refine GL.fn_def (k := 0) F sc_l_due ?len ?body
    case len => intro vs H Q E h; exact h.1
    case body =>
      intro cdv A outer s H vs Q E hr h
      refine ⟨_, (pss_cons (ps_set (i := 1) sc_l_due.nd rfl (Or.inl rfl) (GL.pe_lstM pa_nil))
  (pss_cons (ps_for (GL.po_top) rfl (pi_enum rfl T.f_enumerate (pa_cons (pv 0) pa_nil)) (pg_tup rfl (pgs_cons (pg_name (i := 2) sc_l_due.nd rfl (Or.inl rfl)) (pgs_cons (pg_name (i := 3) sc_l_due.nd rfl (Or.inl rfl)) pgs_nil))) (pss_one (ps_for (GL.po_top) rfl (pi_list (pe_ix ix_seq (pv 3) pe_int (fun _ _ => rfl))) (pg_tup rfl (pgs_cons (pg_name (i := 4) sc_l_due.nd rfl (Or.inr rfl)) (pgs_cons (pg_name (i := 5) sc_l_due.nd rfl (Or.inl rfl)) pgs_nil))) (pss_one (ps_if (pt_cmpR (GL.op_eqV hr.u64) (pe_lc (own := [("_law_other", 6)]) rfl sc_l_due.nd (pi_list (pe_slice GL.sl_listN (pv 0) (po_some (pv 2)) po_none)) (blkOk_by (own := [("_law_other", 6)]) (N := ["_law_log", "_law_found", "_law_at", "_law_one", "_law_home", "_law_value_here", "_law_other"]) (sc := defScope s_l_due) (by decide +kernel)) (fun _ _ _ _ _ => (pg_name (i := 6) sc_l_due.nd rfl (Or.inl rfl))) (fun _ _ _ _ _ => (pts_one (pt_cmpR GL.op_inB (pv 4) (pe_ix GL.ix_seqB (pv 6) pe_int (fun _ _ => rfl)) (by rfl)))) (fun _ _ _ _ _ => pe_int)) (GL.pe_lstN pa_nil) (nomark _)) (pss_one (ps_expr (pe_bm PySem.F.plainAttrs_list PySem.F.slot_list_append PySem.F.type_list_append mt_append (pv 1) (pa_cons (GL.pe_tupN (pa_cons (pv 4) (pa_cons (pv 5) pa_nil))) pa_nil)))) pss_nil)))))
  (pss_one (ps_ret (pv 1))))), ?_⟩
      refine GL.spA_run h (fun S RH aw hw => (by (try dsimp only [GL.cxG_K]); infer_instance)) ?_
      clear h
      intro us ts Q E hlen h
      obtain ⟨L, rfl, rfl, ok, kQ⟩ := h
      walk_at "ra"
      refine ⟨by simp, rfl, fun pw => ?_⟩
      simp only [List.nil_append, List.cons_append]
      walk_at "ra"
      have lt17 : ∀ t ∈ L, t.cs.length ≤ 17 := fun t ht => (ok.all t ht).lc
      refine forE (fun i s ts => ∃ A, ts = [.lst pw ((A.map copD).map .dat)] ∧ dueP L = A ++ dueP (L.drop i) ∧ A.length ≤ 17 * i ∧ ∃ o2 o3 o4 o5 o6, s = [some (.dat (.list (L.map trD))), some (.val (.ref pw)), o2, o3, o4, o5, o6]) ⟨[], rfl, rfl, by simp, _, _, _, _, _, rfl⟩ ?_ ?_
      · rintro i d _ _ hd ⟨A, rfl, hA, lA, o2, o3, o4, o5, o6, rfl⟩
        obtain ⟨t, ht, rfl⟩ := get_tr hd
        have hi : i < L.length := (List.getElem?_eq_some_iff.mp ht).1
        have li := ok.len
        have tok := ok.all t (List.mem_of_getElem? ht)
        have ed : L.drop i = t :: L.drop (i + 1) := by rw [List.drop_eq_getElem_cons hi]; rw [List.getElem?_eq_getElem hi] at ht; cases ht; rfl
        walk_at "ra"
        refine forDz (fun k s ts => ts = [.lst pw (((A ++ (t.cs.take k).filter (dueS (L.drop i))).map copD).map .dat)] ∧ ∃ o4 o5 o6, s = [some (.dat (.list (L.map trD))), some (.val (.ref pw)), some (.dat (.int i)), some (.dat (.tuple [.int t.n, .list (t.cs.map copD), .list (t.rs.map .int)])), o4, o5, o6]) (ra_nx0 ⟨by simp, _, _, _, rfl⟩) ?_ ?_
        · rintro k d _ _ N B R hd2 ⟨rfl, o4, o5, o6, rfl⟩ hN _ _
          obtain ⟨⟨h, v⟩, hh, e⟩ := get_mp hd2
          have e : d = .tuple [.int h, v] := e
          subst e
          walk_at "ra"
          rw [cutG_from, ← List.map_drop]
          refine lcDf (fun d => if hasR h d = true then some (PyData.int 1) else none) (by rw [List.length_map, List.length_drop]; omega) True.intro (fun d Y N2 hd3 hY => ?_) ?_
          · obtain ⟨u, hu, rfl⟩ := List.mem_map.mp hd3
            rw [hasR_tr] at hY
            have e : trD u = .tuple [.int u.n, .list (u.cs.map copD), .list (u.rs.map .int)] := rfl
            rw [e]
            walk_at "ra"
            refine ra_inI ?_
            walk_at "ra"
            show if decide (h ∈ u.rs) = true then _ else _
            cases z : decide (h ∈ u.rs) with
            | true => rw [z] at hY; walk_at "ra"; exact hY
            | false => rw [z] at hY; walk_at "ra"; exact hY
          · walk_at "ra"
            refine rv_eqNil ?_
            rw [filterMap_one, List.any_map, show ((hasR h) ∘ trD) = fun u => decide (h ∈ u.rs) from funext fun u => hasR_tr h u]
            rw [show (!(L.drop i).any fun u => decide (h ∈ u.rs)) = dueS (L.drop i) (h, v) from rfl]
            walk_at "ra"
            cases z : dueS (L.drop i) (h, v) with
            | true =>
              walk_at "ra"
              · refine hN _ _ (ra_nx0 ⟨?_, _, _, _, rfl⟩)
                rw [take_snoc hh, List.filter_append, List.filter_cons, if_pos z, List.filter_nil, ← List.append_assoc, List.map_append (l₂ := [(h, v)])]
                rfl
              · rw [List.length_map, List.length_append]
                have := List.length_filter_le (dueS (L.drop i)) (t.cs.take k)
                have := List.length_take_le' k t.cs
                have := tok.lc
                omega
            | false =>
              walk_at "ra"
              refine hN _ _ (ra_nx0 ⟨?_, _, _, _, rfl⟩)
              rw [take_snoc hh, List.filter_append, List.filter_cons, if_neg (by rw [z]; decide), List.filter_nil, List.append_nil]
        · rintro _ _ ⟨rfl, o4, o5, o6, rfl⟩
          refine ra_nx0 (ra_nx0 ⟨A ++ t.cs.filter (dueS (L.drop i)), by rw [List.length_map, List.take_length], ?_, ?_, _, _, _, _, _, rfl⟩)
          · rw [hA, List.append_assoc, ed]; rfl
          · rw [List.length_append]
            have := List.length_filter_le (dueS (L.drop i)) t.cs
            have := tok.lc
            omega
      · rintro _ _ ⟨A, rfl, hA, lA, o2, o3, o4, o5, o6, rfl⟩
        refine ra_nx0 ?_
        rw [List.length_map, List.drop_length, show dueP [] = [] from rfl, List.append_nil] at hA
        subst hA
        walk_at "ra"
        exact ra_rtF 0 rfl (plainL_dats _) kQ
  exact ⟨_, GL.Held.plain hf hb, T.g__law_due, F.kp⟩
abbrev A_last : ASp := fun us ts Q E => ∃ L, us = [.dat (.list (L.map trD))] ∧ ts = [] ∧ LgOk L ∧ Q (.dat (.list ((revP L).map prD))) []
theorem g_l_last {P : Program} {w : World} {K : PySem.W.Frag} {mg : Str → Option Value} {base : Heap} (T : Txt K mg) : GL.GF true P w K mg base "_law_last" 1 (GL.spA K 1 (A_last)) := by
  obtain ⟨fd, F⟩ := T.def_l_last
  have hb : Binds K fd ["_law_log"] [] := F.bindsN (fun _ _ _ _ _ _ us hl => match us, hl with | [_], _ => rfl)
  have hf : GL.Fn true P w K mg base 1 (He.fAd K ("_law_last", none)) fd ["_law_log"] (GL.spA K 1 (A_last)) := by
    refine GL.fn_def (k := 0) F sc_l_last ?len ?body
    case len => intro vs H Q E h; exact h.1
    case body =>
      intro cdv A outer s H vs Q E hr h
      refine ⟨_, (pss_cons (ps_set (i := 1) sc_l_last.nd rfl (Or.inl rfl) GL.pe_dnewN)
  (pss_cons (ps_for (GL.po_top) rfl (pi_list (pv 0)) (pg_tup rfl (pgs_cons (pg_name (i := 2) sc_l_last.nd rfl (Or.inl rfl)) (pgs_cons (pg_name (i := 3) sc_l_last.nd rfl (Or.inl rfl)) (pgs_cons (pg_name (i := 4) sc_l_last.nd rfl (Or.inl rfl)) pgs_nil)))) (pss_one (ps_for (GL.po_top) rfl (pi_list (pv 4)) (pg_name (i := 5) sc_l_last.nd rfl (Or.inl rfl)) (pss_one (ps_dput hr.u1 (pv 1) (pv 5) (pv 2) rfl)))))
  (pss_one (ps_ret (pe_callB cr_sortedPO rfl T.f_sorted boot_sorted (pa_cons (LiI.pe_listItems rfl (pv 1) rfl T.f_list boot_list) pa_nil)))))), ?_⟩
      refine GL.spA_run h (fun S RH aw hw => (by (try dsimp only [GL.cxG_K]); infer_instance)) ?_
      clear h
      intro us ts Q E hlen h
      obtain ⟨L, rfl, rfl, ok, kQ⟩ := h
      walk_at "ra"
      intro p
      walk_at "ra"
      refine forDz (fun i s ts => ts = [.dct p ((hi (L.take i)).map entI)] ∧ ∃ o2 o3 o4 o5, s = [some (.dat (.list (L.map trD))), some (.val (.ref p)), o2, o3, o4, o5]) (ra_nx0 ⟨rfl, _, _, _, _, rfl⟩) ?_ ?_
      · rintro i d _ _ N B R hd ⟨rfl, o2, o3, o4, o5, rfl⟩ hN _ _
        obtain ⟨t, ht, rfl⟩ := get_tr hd
        have tok := ok.all t (List.mem_of_getElem? ht)
        walk_at "ra"
        refine forDz (fun k s ts => ts = [.dct p (((t.rs.take k).foldl (fun acc h => putT acc h t.n) (hi (L.take i))).map entI)] ∧ (((t.rs.take k).foldl (fun acc h => putT acc h t.n) (hi (L.take i))).length ≤ 32 + k) ∧ ∃ o3 o5, s = [some (.dat (.list (L.map trD))), some (.val (.ref p)), some (.dat (.int t.n)), o3, some (.dat (.list (t.rs.map .int))), o5]) (ra_nx0 ⟨rfl, by have := ok.hiT i; exact this, _, _, rfl⟩) ?_ ?_
        · rintro k d _ _ N2 B2 R2 hd2 ⟨rfl, hl, o3, o5, rfl⟩ hN2 _ _
          obtain ⟨h, hh, rfl⟩ := get_mp hd2
          have lk : k < t.rs.length := (List.getElem?_eq_some_iff.mp hh).1
          have lr := tok.lr
          walk_at "ra"
          · refine hN2 _ _ (ra_nx0 ⟨by rw [take_snoc hh, List.foldl_append]; rfl, ?_, _, _, rfl⟩)
            rw [take_snoc hh, List.foldl_append]
            refine Nat.le_trans (length_putT _ _ _) ?_
            omega
          · omega
        · rintro _ _ ⟨rfl, hl, o3, o5, rfl⟩
          refine ra_nx0 (hN _ _ (ra_nx0 ⟨?_, _, _, _, _, rfl⟩))
          rw [List.length_map, List.take_length, take_snoc ht, hi_snoc]
          rfl
      · rintro _ _ ⟨rfl, o2, o3, o4, o5, rfl⟩
        refine ra_nx0 ?_
        rw [List.length_map, List.take_length]
        walk_at "ra"
        refine fo_sortItems ⟨_, _, by walk_at "foc", fun fs hp hs => ?_⟩
        rw [sort_items ok.rs hp hs]
        exact ra_rtN kQ
  exact ⟨_, GL.Held.plain hf hb, T.g__law_last, F.kp⟩

/-! ## the law -/
theorem ra_source {c : Int} {Q : AQ} {E : AZ} (h : ∀ p t, Wc p 0 t → Q (.val (.ref p)) [t]) : aGo 1 A_source [.dat (.int c)] [] Q E := ra_go0 rfl ⟨c, rfl, rfl, fun p t w => by simpa using h p t w⟩
theorem ra_cell {ns : List Int} {k : Nat} {Q : AQ} {E : AZ} (h : ∀ i : Int, Q (.dat (.int i)) []) : aGo 2 A_cell_at [.scr ns, .dat (.int k)] [] Q E := ra_go0 rfl ⟨ns, k, rfl, rfl, fun i => by simpa using h i⟩
theorem ra_replayM {L : List Tn} {ts : Trs} {Q : AQ} {E : AZ} (ok : LgOk L) (h : ∀ p, Q (.val (.ref p)) (ts ++ [.lst p (((repP L).map copD).map .dat)])) : aGo 1 A_replayM [.dat (.list (L.map trD))] ts Q E := ra_go0 rfl ⟨L, rfl, rfl, ok, h⟩
theorem ra_revokedM {L : List Tn} {ts : Trs} {Q : AQ} {E : AZ} (ok : LgOk L) (h : ∀ p, Q (.val (.ref p)) (ts ++ [.lst p (((revP L).map prD).map .dat)])) : aGo 1 A_revokedM [.dat (.list (L.map trD))] ts Q E := ra_go0 rfl ⟨L, rfl, rfl, ok, h⟩
theorem ra_replay {L : List Tn} {ts : Trs} {Q : AQ} {E : AZ} (ok : LgOk L) (h : Q (.dat (.list ((repP L).map copD))) ts) : aGo 1 A_replay [.dat (.list (L.map trD))] ts Q E := ra_go0 rfl ⟨L, rfl, rfl, ok, by simpa using h⟩
theorem ra_dueR {L : List Tn} {ts : Trs} {Q : AQ} {E : AZ} (ok : LgOk L) (h : Q (.dat (.list ((dueP L).map copD))) ts) : aGo 1 A_due [.dat (.list (L.map trD))] ts Q E := ra_go0 rfl ⟨L, rfl, rfl, ok, by simpa using h⟩
theorem ra_lastR {L : List Tn} {ts : Trs} {Q : AQ} {E : AZ} (ok : LgOk L) (h : Q (.dat (.list ((revP L).map prD))) ts) : aGo 1 A_last [.dat (.list (L.map trD))] ts Q E := ra_go0 rfl ⟨L, rfl, rfl, ok, by simpa using h⟩
theorem rpH {h : Int} (h0 : 0 ≤ h) (h1 : h < 32) : Rp 4 60 (.int h) := (rpI (w := 5) (by omega) (by decide)).mono (by decide) (by decide)
theorem cop_rp {c : Int × PyData} (h0 : 0 ≤ c.1 ∧ c.1 < 32 ∧ VOk c.2) : Rp 5 122 (copD c) := Rp.tuple (k := 4) (w := 60) (n := 2) (fun d hd => by
  simp only [List.mem_cons, List.not_mem_nil, or_false] at hd
  rcases hd with rfl | rfl
  · exact rpH h0.1 h0.2.1
  · exact h0.2.2.1) (by simp)
theorem cop_lay {c : Int × PyData} (h0 : 0 ≤ c.1 ∧ c.1 < 32 ∧ VOk c.2) : Lay 5 (copD c) := Lay.tuple (k := 4) (fun d hd => by
  simp only [List.mem_cons, List.not_mem_nil, or_false] at hd
  rcases hd with rfl | rfl
  · exact (Lay.int _).mono (by decide)
  · exact h0.2.2.2)
theorem repP_mem {L : List Tn} (ok : LgOk L) : ∀ c ∈ repP L, 0 ≤ c.1 ∧ c.1 < 32 ∧ VOk c.2 := fun c hc => by
  unfold repP at hc
  obtain ⟨t, ht, hc⟩ := List.mem_flatMap.mp hc
  exact (ok.all t ht).hc c (List.mem_filter.mp hc).1
theorem repP_len {L : List Tn} (ok : LgOk L) : (repP L).length ≤ 170 := by
  have := repT_len ok L.length
  rwa [List.take_length] at this
theorem map_mem {α : Type} {P : PyData → Prop} {f : α → PyData} {l : List α} (h : ∀ x ∈ l, P (f x)) : ∀ d ∈ l.map f, P d := fun d hd => by
  obtain ⟨x, hx, rfl⟩ := List.mem_map.mp hd
  exact h x hx
theorem repP_rp {L : List Tn} (ok : LgOk L) : Rp 6 20910 (.list ((repP L).map copD)) := Rp.list (k := 5) (w := 122) (n := 170) (map_mem fun c hc => cop_rp (repP_mem ok c hc)) (by rw [List.length_map]; exact repP_len ok)
theorem repP_lay {L : List Tn} (ok : LgOk L) : Lay 6 (.list ((repP L).map copD)) := Lay.list (k := 5) (map_mem fun c hc => cop_lay (repP_mem ok c hc))
theorem revP_mem {L : List Tn} (ok : LgOk L) : ∀ q ∈ revP L, Rp 5 122 (prD q) := fun q hq => by
  obtain ⟨t, ht, hr, e⟩ := lastN_some ((mem_revP ok.rs).mp (show (q.1, q.2) ∈ revP L from hq))
  have tok := ok.all t ht
  have := tok.hr _ hr
  have n0 := tok.n0
  have n1 := tok.n1
  exact Rp.tuple (k := 4) (w := 60) (n := 2) (fun d hd => by
    simp only [List.mem_cons, List.not_mem_nil, or_false] at hd
    rcases hd with rfl | rfl
    · exact rpH this.1 this.2
    · exact (rpI (w := 44) (by omega) (by decide)).mono (by decide) (by decide)) (by simp)
theorem revP_rp {L : List Tn} (ok : LgOk L) : Rp 6 3936 (.list ((revP L).map prD)) := Rp.list (k := 5) (w := 122) (n := 32) (map_mem (revP_mem ok)) (by rw [List.length_map]; exact revP_len L)
theorem tr_rp {t : Tn} (h : TnOk t) : Rp 7 6276 (trD t) := Rp.tuple (k := 6) (w := 2091) (n := 3) (fun d hd => by
  have n0 := h.n0
  have n1 := h.n1
  simp only [List.mem_cons, List.not_mem_nil, or_false] at hd
  rcases hd with rfl | rfl | rfl
  · exact (rpI (w := 44) (by omega) (by decide)).mono (by decide) (by decide)
  · exact Rp.list (k := 5) (w := 122) (n := 17) (map_mem fun c hc => cop_rp (h.hc c hc)) (by rw [List.length_map]; exact h.lc)
  · exact (Rp.list (k := 4) (w := 60) (n := 17) (map_mem fun r hr => rpH (h.hr r hr).1 (h.hr r hr).2) (by rw [List.length_map]; exact h.lr)).mono (by decide) (by decide)) (by simp)
theorem log_rp {L : List Tn} (ok : LgOk L) : Rp 8 62770 (.list (L.map trD)) := Rp.list (k := 7) (w := 6276) (n := 10) (map_mem fun t ht => tr_rp (ok.all t ht)) (by rw [List.length_map]; exact ok.len)
theorem PaOk.tn {cs : List (Int × PyData)} {rs : List Int} {n : Int} (h : PaOk cs rs) (n0 : 0 ≤ n) (n1 : n < 10000000000000) : TnOk ⟨n, cs, rs⟩ := ⟨h.hc, h.hr.2, h.lc, h.hr.1, n0, n1⟩
theorem LgOk.snoc {L : List Tn} {t : Tn} (h : LgOk L) (ht : TnOk t) (hl : L.length < 10) (hm : ∀ u ∈ L, u.n < t.n) : LgOk (L ++ [t]) := ⟨fun u hu => by
    rcases List.mem_append.mp hu with hu | hu
    · exact h.all u hu
    · rw [List.mem_singleton.mp hu]; exact ht, by simp; omega, List.pairwise_append.mpr ⟨h.asc, by simp, fun a ha b hb => by rw [List.mem_singleton.mp hb]; exact hm a ha⟩⟩
def notIn (rs : List Int) (d : PyData) : Bool := match d with
  | .tuple [.int h, _] => !decide (h ∈ rs)
  | _ => false
theorem notIn_map {rs : List Int} (l : List (Int × PyData)) : (l.map copD).filter (notIn rs) = (l.filter fun c => decide (¬ c.1 ∈ rs)).map copD := by
  rw [List.filter_map]
  congr 1
  refine List.filter_congr fun c _ => ?_
  show (!decide (c.1 ∈ rs)) = _
  simp
abbrev A_law : ASp := fun us ts Q E => ∃ ns : List Int, us = [.scr ns] ∧ ts = [] ∧ ns.length ≤ 63 ∧ Q (.dat (.bool true)) []
abbrev spLaw (K : PySem.W.Frag) : Sp := GL.spA K 1 A_law
theorem fn_law {P : Program} {w : World} {K : PySem.W.Frag} {mg : Str → Option Value} {base : Heap} {fd : FuncData} (F : FunD K "law" "law" (defArgs s_law) (defBody s_law) (defScope s_law) [] [] (He.fAd K ("law", none)) fd) (T : Txt K mg) : GL.Fn true P w K mg base 5 (He.fAd K ("law", none)) fd ["_law_script"] (GL.spA K 1 (A_law)) := by
    refine GL.fn_def (k := 4) F sc_law ?len ?body
    case len => intro vs H Q E h; exact h.1
    case body =>
      intro cdv A outer s H vs Q E hr h
      refine ⟨_, (pss_cons (ps_for (GL.po_top) rfl (pi_list (pe_op GL.op_catX (GL.pe_lstN (pa_cons (GL.ge_call (g_l_cell_at T) (hr.mono (by first | decide | omega)) GL.tk_top rfl (pa_cons (pv 0) (pa_cons pe_int pa_nil))) pa_nil)) (pe_slice GL.sl_listN (pv 0) (po_some pe_int) (po_some pe_int)))) (pg_name (i := 1) sc_law.nd rfl (Or.inl rfl)) (pss_cons (ps_set (i := 2) sc_law.nd rfl (Or.inl rfl) (GL.ge_call (g_l_source T) (hr.mono (by first | decide | omega)) GL.tk_top rfl (pa_cons (pv 1) pa_nil)))
  (pss_cons (ps_set (i := 3) sc_law.nd rfl (Or.inl rfl) (pe_op op_add pe_int (GL.ge_call (g_l_draw T) (hr.mono (by first | decide | omega)) GL.tk_top rfl (pa_cons (pv 2) (pa_cons pe_int pa_nil)))))
  (pss_cons (ps_set (i := 4) sc_law.nd rfl (Or.inl rfl) (GL.pe_lstM pa_nil))
  (pss_cons (ps_set (i := 5) sc_law.nd rfl (Or.inl rfl) (GL.ge_call (g_l_pick T) (hr.mono (by first | decide | omega)) GL.tk_top rfl (pa_cons (pv 2) (pa_cons (GL.pe_lstN (pa_cons pe_int (pa_cons pe_int (pa_cons (pe_op op_pow pe_int pe_int) pa_nil)))) pa_nil))))
  (pss_cons (ps_for (GL.po_top) rfl (pi_range1 rfl T.f_range (pa_cons (GL.ge_call (g_l_draw T) (hr.mono (by first | decide | omega)) GL.tk_top rfl (pa_cons (pv 2) (pa_cons pe_int pa_nil))) pa_nil)) (pg_name (i := 6) sc_law.nd rfl (Or.inl rfl)) (pss_cons (ps_asg (GL.ge_call (g_l_parts T) hr GL.tk_top rfl (pa_cons (pv 2) (pa_cons (pv 3) pa_nil))) (pg_tup rfl (pgs_cons (pg_name (i := 7) sc_law.nd rfl (Or.inl rfl)) (pgs_cons (pg_name (i := 8) sc_law.nd rfl (Or.inr rfl)) pgs_nil))))
  (pss_cons (ps_expr (pe_bm PySem.F.plainAttrs_list PySem.F.slot_list_append PySem.F.type_list_append mt_append (pv 4) (pa_cons (GL.pe_tupN (pa_cons (pv 5) (pa_cons (pv 7) (pa_cons (pv 8) pa_nil)))) pa_nil)))
  (pss_one (ps_set (i := 5) sc_law.nd rfl (Or.inl rfl) (pe_op op_add (pe_op op_add (pv 5) pe_int) (GL.ge_call (g_l_pick T) (hr.mono (by first | decide | omega)) GL.tk_top rfl (pa_cons (pv 2) (pa_cons (GL.pe_lstN (pa_cons pe_int (pa_cons pe_int (pa_cons pe_int (pa_cons pe_int pa_nil))))) pa_nil)))))))))
  (pss_cons (ps_set (i := 9) sc_law.nd rfl (Or.inl rfl) (pe_callB (GL.call_reprR hr T.sm) rfl T.f_repr boot_repr (pa_cons (pv 4) pa_nil)))
  (pss_cons (ps_for (GL.po_top) rfl (pi_range1 rfl T.f_range (pa_cons pe_int pa_nil)) (pg_name (i := 10) sc_law.nd rfl (Or.inl rfl)) (pss_cons (ps_par (i := 11) (j := 12) rfl sc_law.nd rfl rfl (by decide) rfl rfl (pa_cons (GL.ge_call (g_replay_M T) (hr.mono (by first | decide | omega)) GL.tk_top rfl (pa_cons (pv 4) pa_nil)) (pa_cons (GL.ge_call (g_revoked_M T) (hr.mono (by first | decide | omega)) GL.tk_top rfl (pa_cons (pv 4) pa_nil)) pa_nil)) (by rfl))
  (pss_cons (ps_if (PW.pt (pw_or (pt_cmpR op_ne (pe_callB (GL.call_reprR hr T.sm) rfl T.f_repr boot_repr (pa_cons (pv 11) pa_nil)) (pe_callB (GL.call_reprR hr T.sm) rfl T.f_repr boot_repr (pa_cons (GL.ge_call (g_l_due T) (hr.mono (by first | decide | omega)) GL.tk_top rfl (pa_cons (pv 4) pa_nil)) pa_nil)) (nomark _)) (pw_or (pt_cmpR op_ne (pe_callB (GL.call_reprR hr T.sm) rfl T.f_repr boot_repr (pa_cons (pv 12) pa_nil)) (pe_callB (GL.call_reprR hr T.sm) rfl T.f_repr boot_repr (pa_cons (GL.ge_call (g_l_last T) (hr.mono (by first | decide | omega)) GL.tk_top rfl (pa_cons (pv 4) pa_nil)) pa_nil)) (nomark _)) (pw_or1 (pt_cmpR op_ne (pe_callB (GL.call_reprR hr T.sm) rfl T.f_repr boot_repr (pa_cons (pv 4) pa_nil)) (pv 9) (nomark _)))))) (pss_one (ps_ret pe_bl)) pss_nil)
  (pss_cons (ps_expr (pe_bm PySem.F.plainAttrs_list PySem.F.slot_list_append PySem.F.type_list_append mt_append (pv 11) (pa_cons pe_non pa_nil)))
  (pss_one (ps_expr (pe_bm PySem.F.plainAttrs_list PySem.F.slot_list_append PySem.F.type_list_append mt_append (pv 12) (pa_cons pe_non pa_nil))))))))
  (pss_cons (ps_asg (GL.ge_call (g_l_parts T) hr GL.tk_top rfl (pa_cons (pv 2) (pa_cons (pv 3) pa_nil))) (pg_tup rfl (pgs_cons (pg_name (i := 7) sc_law.nd rfl (Or.inl rfl)) (pgs_cons (pg_name (i := 8) sc_law.nd rfl (Or.inr rfl)) pgs_nil))))
  (pss_cons (ps_if (pt_cmpR (GL.op_neV hr.u64) (GL.ge_call (g_replay T) (hr.mono (by first | decide | omega)) GL.tk_top rfl (pa_cons (pe_op GL.op_catX (pv 4) (GL.pe_lstN (pa_cons (GL.pe_tupN (pa_cons (pv 5) (pa_cons (pv 7) (pa_cons (GL.pe_lstN pa_nil) pa_nil)))) pa_nil))) pa_nil)) (pe_op GL.op_catX (GL.ge_call (g_replay T) (hr.mono (by first | decide | omega)) GL.tk_top rfl (pa_cons (pv 4) pa_nil)) (pv 7)) (nomark _)) (pss_one (ps_ret pe_bl)) pss_nil)
  (pss_cons (ps_setLc (i := 13) (own := [("_law_one", 14)]) rfl sc_law.nd rfl rfl (sw_true rfl rfl rfl (by decide +kernel)) (pi_list (GL.ge_call (g_replay T) (hr.mono (by first | decide | omega)) GL.tk_top rfl (pa_cons (pv 4) pa_nil))) (blkOk_by (own := [("_law_one", 14)]) (N := (("_law_script" : Str) :: ("_law_cell" : Str) :: ("_law_source_here" : Str) :: ("_law_homes" : Str) :: ("_law_log" : Str) :: ("_law_number" : Str) :: ("_law_k" : Str) :: ("_law_copies" : Str) :: ("_law_revokes" : Str) :: ("_law_original" : Str) :: ("_law_turn" : Str) :: ("_law_actual" : Str) :: ("_law_last_here" : Str) :: ("_law_kept" : Str) :: ("_law_one" : Str) :: [])) (sc := defScope s_law) (by decide +kernel)) (fun _ _ _ _ _ => (pg_name (i := 14) sc_law.nd rfl (Or.inl rfl))) (fun _ _ _ _ _ => (pts_one (pt_cmpR GL.op_notInB (pe_ix GL.ix_seqB (pv 14) pe_int (fun _ _ => rfl)) (pv 8) (by rfl)))) (fun _ _ _ _ _ => (pv 14)))
  (pss_one (ps_if (pt_cmpR (GL.op_neV hr.u64) (GL.ge_call (g_replay T) (hr.mono (by first | decide | omega)) GL.tk_top rfl (pa_cons (pe_op GL.op_catX (pv 4) (GL.pe_lstN (pa_cons (GL.pe_tupN (pa_cons (pv 5) (pa_cons (GL.pe_lstN pa_nil) (pa_cons (pv 8) pa_nil)))) pa_nil))) pa_nil)) (pv 13) (nomark _)) (pss_one (ps_ret pe_bl)) pss_nil)))))))))))))
  (pss_one (ps_ret pe_bl))), ?_⟩
      refine GL.spA_run h (fun S RH aw hw => (by (try dsimp only [GL.cxG_K]); infer_instance)) ?_
      clear h
      intro us ts Q E hlen h
      obtain ⟨ns, rfl, rfl, hl, kQ⟩ := h
      walk_at "ra"
      refine ra_cell (k := 0) fun i0 => ?_
      walk_at "ra"
      · refine forDz (fun i s ts => ts = [] ∧ ∃ o1 o2 o3 o4 o5 o6 o7 o8 o9 o10 o11 o12 o13 o14, s = [some (.scr ns), o1, o2, o3, o4, o5, o6, o7, o8, o9, o10, o11, o12, o13, o14]) (ra_nx0 ⟨rfl, _, _, _, _, _, _, _, _, _, _, _, _, _, _, rfl⟩) ?_ ?_
        · rintro i d _ _ N1 B1 R1 hi ⟨rfl, o1, o2, o3, o4, o5, o6, o7, o8, o9, o10, o11, o12, o13, o14, rfl⟩ hN1 _ _
          obtain ⟨c, rfl⟩ : ∃ c : Int, d = .int c := by
            rcases List.mem_append.mp (List.mem_of_getElem? hi) with h | h
            · exact ⟨_, List.mem_singleton.mp h⟩
            · obtain ⟨x, _, rfl⟩ := List.mem_map.mp h
              exact ⟨x, rfl⟩
          walk_at "ra"
          refine ra_source fun pw t0 w0 => ?_
          walk_at "ra"
          refine ra_drawS w0 (by decide) (by decide) (by decide) fun r1 t1 h10 h11 w1 => ?_
          walk_at "ra"
          refine ⟨by simp, rfl, fun pl => ?_⟩
          simp only [List.nil_append, List.cons_append]
          walk_at "ra"
          refine ra_iI ⟨by decide, by decide, by decide⟩ ?_
          walk_at "ra"
          refine ra_oneS w1 (by decide) (by simp) (by simp) fun num t2 hnum w2 => ?_
          obtain ⟨n0, rfl, hn0, hn1⟩ : ∃ m : Int, num = .int m ∧ 0 ≤ m ∧ m ≤ 1000000000000 := by
            have e12 : (10 : Int) ^ (12 : Int).toNat = 1000000000000 := by decide
            simp only [List.mem_cons, List.not_mem_nil, or_false] at hnum
            rcases hnum with rfl | rfl | rfl
            · exact ⟨1, rfl, by decide, by decide⟩
            · exact ⟨5, rfl, by decide, by decide⟩
            · exact ⟨_, rfl, by omega, by omega⟩
          walk_at "ra"
          refine ra_drawS w2 (by decide) (by decide) (by decide) fun r3 t3 h30 h31 w3 => ?_
          walk_at "ra"
          refine ra_iR1d (by omega) (by omega) ?_
          refine forRz (fun i s ts => ∃ t L n, ts = [t, .lst pl ((L.map trD).map .dat)] ∧ Wc pw (10 + i * 122) t ∧ LgOk L ∧ L.length ≤ i ∧ (∀ u ∈ L, u.n < n) ∧ 0 ≤ n ∧ n ≤ 1000000000000 + 3 * i ∧ ∃ o6 o7 o8 o9 o10 o11 o12 o13 o14, s = [some (.scr ns), some (.dat (.int c)), some (.val (.ref pw)), some (.dat (.int (4 + r1))), some (.val (.ref pl)), some (.dat (.int n)), o6, o7, o8, o9, o10, o11, o12, o13, o14])
            (ra_nx0 ⟨t3, [], n0, rfl, w3.mono (by decide), ⟨(fun _ h => by cases h), by simp, by simp⟩, by simp, by simp, hn0, by omega, _, _, _, _, _, _, _, _, _, rfl⟩) ?_ ?_
          · rintro i _ _ N2 B2 R2 hi2 ⟨t, L, n, rfl, w, ok, hL, hm, hn2, hn3, o6, o7, o8, o9, o10, o11, o12, o13, o14, rfl⟩ hN2 _ _
            walk_at "ra"
            refine ra_goS2 w (by omega) ⟨_, rfl, by omega, by omega⟩ ?_
            rintro _ t4 ⟨cs, rs, rfl, pa⟩ w4
            have tn : TnOk ⟨n, cs, rs⟩ := pa.tn hn2 (by omega)
            walk_at "ra"
            · refine ra_oneS w4 (by omega) (by simp) (by simp) fun r5 t5 hr5 w5 => ?_
              obtain ⟨m, rfl, hm0, hm1⟩ : ∃ m : Int, r5 = .int m ∧ 0 ≤ m ∧ m ≤ 2 := by
                simp only [List.mem_cons, List.not_mem_nil, or_false] at hr5
                rcases hr5 with rfl | rfl | rfl | rfl
                · exact ⟨0, rfl, by decide, by decide⟩
                · exact ⟨0, rfl, by decide, by decide⟩
                · exact ⟨0, rfl, by decide, by decide⟩
                · exact ⟨2, rfl, by decide, by decide⟩
              walk_at "ra"
              refine hN2 _ _ (ra_nx0 ⟨t5, L ++ [⟨n, cs, rs⟩], n + 1 + m, by rw [List.map_append (f := trD)]; rfl, w5.mono (by omega), ok.snoc tn (by omega) hm, by simp; omega, fun u hu => ?_, by omega, by omega, _, _, _, _, _, _, _, _, _, rfl⟩)
              rcases List.mem_append.mp hu with hu | hu
              · have := hm u hu; omega
              · rw [List.mem_singleton.mp hu]; show n < _; omega
            · rw [List.length_map]; omega
          · rintro _ _ ⟨t, L, n, rfl, w, ok, hL, hm, hn2, hn3, o6, o7, o8, o9, o10, o11, o12, o13, o14, rfl⟩
            refine ra_nxFP 4 1 [0] rfl rfl (plainL_dats _) rfl ?_
            have w : Wc pw 1000 t := w.mono (by omega)
            have hL : L.length ≤ 8 := by omega
            have hn3 : n < 2000000000000 := by omega
            walk_at "ra"
            refine ra_reprR (log_rp ok) (by decide) (by decide) ?_
            walk_at "ra"
            refine ra_iR1d (by decide) (by decide) ?_
            refine forRz (fun i s ts => ts = [t] ∧ ∃ o10 o11 o12 o13 o14, s = [some (.scr ns), some (.dat (.int c)), some (.val (.ref pw)), some (.dat (.int (4 + r1))), some (.dat (.list (L.map trD))), some (.dat (.int n)), o6, o7, o8, some (.dat (.str (PyData.list (L.map trD)).shown)), o10, o11, o12, o13, o14]) (ra_nx0 ⟨rfl, _, _, _, _, _, rfl⟩) ?_ ?_
            · rintro i _ _ N2 B2 R2 hi2 ⟨rfl, o10, o11, o12, o13, o14, rfl⟩ hN2 _ _
              have eqA : decide ((PyData.list ((dueP L).map copD)).shown = (PyData.list ((dueP L).map copD)).shown) = true := by simp
              have eqB : decide ((PyData.list ((revP L).map prD)).shown = (PyData.list ((revP L).map prD)).shown) = true := by simp
              have eqC : decide ((PyData.list (L.map trD)).shown = (PyData.list (L.map trD)).shown) = true := by simp
              have lenA : ((dueP L).map copD).length < 100000 := by have := repP_len ok; rw [due_rep ok.asc] at this; rw [List.length_map]; omega
              have lenB : ((revP L).map prD).length < 100000 := by have := revP_len L; rw [List.length_map]; omega
              have rpA := repP_rp ok
              rw [due_rep ok.asc] at rpA
              walk_at "ra"
              refine ra_replayM ok fun pa => ?_
              rw [due_rep ok.asc]
              simp only [List.cons_append, List.nil_append]
              walk_at "ra"
              refine ra_revokedM ok fun pb => ?_
              simp only [List.cons_append, List.nil_append]
              walk_at "ra"
              · refine ra_dueR ok ?_
                walk_at "ra"
                refine ra_reprR rpA (by decide) (by decide) ?_
                walk_at "ra"
                · refine ra_lastR ok ?_
                  walk_at "ra"
                  refine ra_reprR (revP_rp ok) (by decide) (by decide) ?_
                  walk_at "ra"
                  refine ra_reprR (log_rp ok) (by decide) (by decide) ?_
                  walk_at "ra"
                  · exact hN2 _ _ (ra_nxP [0] rfl ⟨rfl, _, _, _, _, _, rfl⟩)
                  · exact lenB
                  · exact lenA
                · exact (revP_rp ok).sh (by decide) (by decide)
              · exact rpA.sh (by decide) (by decide)
            · rintro _ _ ⟨rfl, o10, o11, o12, o13, o14, rfl⟩
              refine ra_nx0 ?_
              walk_at "ra"
              refine ra_goS2 w (by decide) ⟨_, rfl, by omega, by omega⟩ ?_
              rintro _ t6 ⟨cs, rs, rfl, pa⟩ w6
              have okA : LgOk (L ++ [⟨n, cs, []⟩]) := ok.snoc ⟨pa.hc, (fun _ h => by cases h), pa.lc, by simp, hn2, (by show n < _; omega)⟩ (by omega) hm
              have okB : LgOk (L ++ [⟨n, [], rs⟩]) := ok.snoc ⟨(fun _ h => by cases h), pa.hr.2, by simp, pa.hr.1, hn2, (by show n < _; omega)⟩ (by omega) hm
              have eA : L.map trD ++ [PyData.tuple [.int n, .list (cs.map copD), .list []]] = (L ++ [(⟨n, cs, []⟩ : Tn)]).map trD := by rw [List.map_append]; rfl
              have eB : L.map trD ++ [PyData.tuple [.int n, .list [], .list (rs.map .int)]] = (L ++ [(⟨n, [], rs⟩ : Tn)]).map trD := by rw [List.map_append]; rfl
              have l1 := repP_len ok
              have l2 := pa.lc
              walk_at "ra"
              · rw [eA]
                refine ra_replay okA ?_
                walk_at "ra"
                refine ra_replay ok ?_
                walk_at "ra"
                · rw [← List.map_append, ← rep_new (m := n) hm]
                  refine rv_neSame (repP_lay okA) (by decide) ?_
                  walk_at "ra"
                  refine ra_replay ok ?_
                  walk_at "ra"
                  refine lcDp (notIn rs) (by rw [List.length_map]; omega) True.intro (fun d Y N2 hd hY => ?_) ?_
                  · obtain ⟨⟨h, v⟩, hc, e⟩ := List.mem_map.mp hd
                    have e : PyData.tuple [.int h, v] = d := e
                    subst e
                    have hY : if (!decide (h ∈ rs)) = true then Y (.dat (.tuple [.int h, v])) [t6] else N2 [t6] := hY
                    walk_at "ra"
                    refine ra_inI ?_
                    walk_at "ra"
                    show if (!decide (h ∈ rs)) = true then _ else _
                    cases z : decide (h ∈ rs) with
                    | true => rw [z] at hY; walk_at "ra"; exact hY
                    | false => rw [z] at hY; walk_at "ra"; exact hY
                  · rw [notIn_map, ← rep_rev (m := n) hm]
                    walk_at "ra"
                    · rw [eB]
                      refine ra_replay okB ?_
                      walk_at "ra"
                      refine rv_neSame (repP_lay okB) (by decide) ?_
                      walk_at "ra"
                      exact hN1 _ _ (ra_nxN ⟨rfl, _, _, _, _, _, _, _, _, _, _, _, _, _, _, rfl⟩)
                    · simp only [List.length_map, List.length_append, List.length_cons, List.length_nil]; omega
                · simp only [List.length_map, List.length_append, List.length_cons, List.length_nil]; omega
              · simp only [List.length_map, List.length_append, List.length_cons, List.length_nil]; omega
        · rintro _ _ ⟨rfl, o1, o2, o3, o4, o5, o6, o7, o8, o9, o10, o11, o12, o13, o14, rfl⟩
          refine ra_nx0 ?_
          walk_at "ra"
          exact ra_rt0 kQ
      · rw [List.length_map]
        have := cutG_len ns (some 1) (some 8)
        simp only [List.length_cons, List.length_nil]
        omega


theorem facts {P : Program} {w : World} {K : PySem.W.Frag} {h : Heap} {mg : Str → Option Value} {f : Addr} (X : K.In h) (G : h.Ns mainGlobals mg) (hfa : mg ("law" : Str) = some (.ref f)) (c : He.SaysD fa fn K) (x : ex K = true) :
    ∃ fd : FuncData, (∀ (s : Shared) (v : Value), BindsTo s fd ⟨[v], []⟩ [("_law_script", v)]) ∧ ∀ base : Heap, K.In base → base.Ns mainGlobals mg → GL.Fn true P w K mg base 5 f fd ["_law_script"] (spLaw K) := by
  have T : Txt K mg := ⟨c, x, h, X, G⟩
  obtain ⟨fd, F⟩ := T.def_law
  have e := hfa.symm.trans T.g_law
  cases e
  have b := FunD.bindsA (ps := ["_law_script"]) F fun _ _ _ _ _ _ us hl => match us, hl with | [_], _ => rfl
  exact ⟨fd, fun s v => b s [v] rfl, fun base _ _ => fn_law F T⟩
theorem run (w : World) : HandSHeadRun.RunEq R (PySem.W.view R.prog [14]) hk ob 8000 loose w := by
  intro os
  kernel_rfl

end K20
open PySem PySem.W PySem.Calls PyProof.Rows
theorem PySem.Challenge.cw_revokelog_k20_whole_replay_and_revoked_holds : PySem.Challenge.rw_revokelog_k20_whole_replay_and_revoked.Holds := by
  w_on; o_law
  refine HandSHeadRun.head_any (r := OpenLaw.row PySem.Challenge.rw_revokelog_k20_whole_replay_and_revoked) (q := view K20.R.prog [14]) (H := K20.hk) (ob := K20.ob) (M := 8000) (loose := K20.loose) (d := HandSHeadRun.topDef K20.R.prog 14) (kwd := []) K20.ob_eq
    (by kernel_rfl) (fun s => by kernel_rfl) K20.run (by kernel_rfl) (by kernel_rfl) (by kernel_rfl) (by rfl) (by first | assumption | decide +kernel) (by decide +kernel) ⟨rfl, rfl, rfl, rfl, rfl, by decide +kernel⟩ ?hw ?hc
  case hw => w_witness2
  case hc =>
    refine GL.walk_end (l := PySem.Challenge.rw_revokelog_k20_whole_replay_and_revoked) (n := 63) (k := 5) (x := "_law_script") rfl (by decide) (by kernel_rfl) ⟨fun _ => rfl, by decide, by decide, rfl⟩ ?F
    intro w mg fa h Y G hmg0
    obtain ⟨K, KX, c, x⟩ := Y
    have hmg : mg ("law" : PySem.Str) = some (.ref fa) := by
      have e : (HandSHeadRun.topDef K20.R.prog 14).name = ("law" : PySem.Str) := by kernel_rfl
      rw [← e]
      exact hmg0
    obtain ⟨fd, hb, hF⟩ := K20.facts (P := (PySem.Challenge.rw_revokelog_k20_whole_replay_and_revoked).prog) (w := w) KX G hmg c x
    exact ⟨K, fd, K20.spLaw K, KX, hb, fun H a ns hl _ hS => GL.law_in hS ⟨ns, rfl, rfl, hl, rfl⟩, hF⟩
