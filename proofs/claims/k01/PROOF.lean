import PyProof.Rows.All
import Wide.All
import OpenK.AllK
import Wide.FinOn
import HandS.ForMost
import HandS.Exc
import HandS.ExcOwn
import HandS.ExcInit
import HandS.ExcField
import HandS.ExcIs
import HandS.TryMany
import HandS.Defaults
import HandS.Evl
import KE.KIsAll
import KE.KTryMore
import HandS.IsInst
import HandS.Wide
import HandS.WideBits
import HandS.SetFor
import HandS.FStr
import HandS.RaiseMore
import PyProof.ReprRoads
import KE.KStateDown
import Lean
import HandS.Head0
import HandS.Head1
import HandS.Head2
import HandS.HeadEnd
import HandS.HeadHook1
import HandS.HeadHook2
import HandS.TupAny
import HandS.Style
import HandS.RevRange
import KE.SortData
import HandS.Conv
import KE.KFmtOwn
import PyProof.StrBlock2
import HandS.Dict
import PySem.Challenge.RW_revokelog_k01_whole_disks_step_by_step
set_option Elab.async false
set_option linter.all false
set_option maxRecDepth 100000
set_option maxHeartbeats 4000000
namespace GL
open PySem PySem.Spec PyProof.Rows L2

/-! ## room, with what the printing of data wants: no printing runs around us -/
structure Rm (c : Bool) (k : Nat) (A : Around) : Prop where
  hd : c = true → A.handled = none
  dp : A.depth + 3 * k + 5 < recursionLimit
  un : A.units + 16 * k + 200 < cLine
  gd : A.guards = some []

theorem Rm.mono {c : Bool} {j k : Nat} {A : Around} (r : Rm c k A) (h : j ≤ k) : Rm c j A :=
  ⟨r.hd, by have z := r.dp; omega, by have z := r.un; omega, r.gd⟩
theorem Rm.hot {c : Bool} {k : Nat} {A : Around} (r : Rm c k A) : Rm false k A := ⟨fun z => Bool.noConfusion z, r.dp, r.un, r.gd⟩
theorem Rm.room {k : Nat} {A : Around} (r : Rm true k A) : Room k A := ⟨r.hd rfl, r.dp, r.un⟩
theorem Rm.deep {c : Bool} {k : Nat} {A : Around} (r : Rm c (k + 1) A) (env : Env) : Rm c k (A.deeper env) :=
  ⟨r.hd, by have z := r.dp; show A.depth + 1 + 3 * k + 5 < _; omega, by have z := r.un; show A.units + 3 + 16 * k + 200 < _; omega, r.gd⟩
theorem make_guards {A : Around} {C : Addr} {us : List Value} {kw : List (Str × Value)} (h : A.guards = some []) :
    (A.under (.builtin "type.__call__" ⟨.ref C :: us, kw⟩)).guards = some [] := by
  have e : Code.isGuard (.builtin "type.__call__" ⟨.ref C :: us, kw⟩) = false := by
    show guardIds.contains "type.__call__" = false
    decide +kernel
  unfold Around.under
  dsimp only
  unfold Code.guards
  rw [h, e]
  rfl
theorem Rm.make {c : Bool} {k : Nat} {A : Around} (r : Rm c (k + 1) A) (C : Addr) (us : List Value) (kw : List (Str × Value)) :
    Rm c k (A.under (.builtin "type.__call__" ⟨.ref C :: us, kw⟩)) :=
  ⟨r.hd, by have z := r.dp; rw [make_depth]; omega, by have z := r.un; rw [make_units]; omega, make_guards r.gd⟩
theorem Rm.u64 {c : Bool} {k : Nat} {A : Around} (r : Rm c k A) : A.units + 64 < cLine := by have z := r.un; omega
theorem Rm.u1 {c : Bool} {k : Nat} {A : Around} (r : Rm c k A) : A.units + 1 < cLine := by have z := r.un; omega
theorem Rm.mark {c : Bool} {k : Nat} {A : Around} (r : Rm c k A) (h : Option Value) : Rm false k (A.mark h) :=
  ⟨fun z => Bool.noConfusion z, r.dp, r.un, r.gd⟩

/-! ## a def's promise in such room -/
structure Fn (c : Bool) (P : Program) (w : World) (K : PySem.W.Frag) (mg : Str → Option Value) (base : Heap) (k : Nat) (f : Addr) (fd : FuncData) (ps : List Str) (sp : Sp) : Prop where
  len : ∀ vs H Q E, sp vs H Q E → vs.length = ps.length
  run : ∀ (A : Around) (outer : List Env) (s : Shared) (H : Hp) (args : Args) (us : List Value) (vs : List V) (Q : VK) (E : XK), Rm c k A →
    Env0 P w K mg base A outer s H → BindsTo s fd args (ps.zip us) → Vals vs us → sp vs H Q E →
      codeAny (model P w) A (.call (.ref f) args) (CR (L2.CX P w) outer P w H s Q E) s
section
variable {c : Bool} {P : Program} {w : World} {K : PySem.W.Frag} {mg : Str → Option Value} {base : Heap} {j k : Nat} {f : Addr} {fd : FuncData} {ps : List Str} {sp sp' : Sp}
theorem Fn.hot (F : Fn false P w K mg base k f fd ps sp) : Fn c P w K mg base k f fd ps sp :=
  ⟨F.len, fun A outer s H args us vs Q E hr => F.run A outer s H args us vs Q E hr.hot⟩
theorem Fn.mono (F : Fn c P w K mg base j f fd ps sp) (h : j ≤ k) : Fn c P w K mg base k f fd ps sp :=
  ⟨F.len, fun A outer s H args us vs Q E hr => F.run A outer s H args us vs Q E (hr.mono h)⟩
theorem Fn.imp (F : Fn c P w K mg base k f fd ps sp) (h : ∀ vs H Q E, sp' vs H Q E → sp vs H Q E) : Fn c P w K mg base k f fd ps sp' :=
  ⟨fun vs H Q E q => F.len vs H Q E (h _ _ _ _ q), fun A outer s H args us vs Q E hr he hb hv hs => F.run A outer s H args us vs Q E hr he hb hv (h _ _ _ _ hs)⟩
end

/-! ## a def's body -/
/-- the context of a body: calm or within an except suite somewhere above -/
abbrev cxG (c : Bool) (P : Program) (w : World) (K : PySem.W.Frag) (mg : Str → Option Value) (base : Heap) (N : List Str) (qual : Str) (scope : Scope) (f : Addr) (cd : Value) (A : Around) (outer : List Env) (s : Shared) (H : Hp) (E : XK) : Cx :=
  { cxOf (L2.CX P w) P w K mg base N qual scope f cd A outer s H E with calm := c }
theorem Inv.setCalm {X : Cx} {pins : List (Addr × Obj)} {σ : L2.St} {H : Hp} {s : Shared} (I : Inv X pins σ H s) (c : Bool) (h : c = true → X.A.handled = none) : Inv { X with calm := c } pins σ H s :=
  ⟨⟨I.ok.mod, I.ok.kind, I.ok.glob, I.ok.blt, I.ok.above, I.ok.inj, I.ok.has, I.ok.cab, h, I.ok.frames, I.ok.stk, I.ok.exf, I.ok.bs, I.ok.bsz, I.ok.noex, I.ok.exfs, I.ok.funs, I.ok.frf⟩,
    I.os, I.bare, I.base, I.loc, I.cell, I.free, I.freeC, I.pin, I.hok, I.len⟩
/-- the entry of a body, whatever is handled around it -/
theorem inv_in {c : Bool} {P : Program} {w : World} {K : PySem.W.Frag} {mg : Str → Option Value} {base : Heap} {N ps : List Str} {qual : Str} {scope : Scope} {f : Addr} {cd : Value} {A : Around} {outer : List Env} {s s1 : Shared} {H : Hp} {E : XK} {us : List Value} {vs : List V}
    (S : FnScope N ps scope) (hd : c = true → A.handled = none) (e0 : Env0 P w K mg base A outer s H) (hl : vs.length = ps.length) (r : Vals vs us)
    (x : InCallC s s.heap.objs.size (bindL (envOfC qual scope s.heap.objs.size f cd).kindOf (ps.zip us) fun _ => none) (cellsFrom (s.heap.objs.size + 1) scope.names []) (bindC (envOfC qual scope s.heap.objs.size f cd).kindOf (ps.zip us) fun _ => none) s1) :
    Inv (cxG c P w K mg base N qual scope f cd A outer s H E) [] (L2.start N vs) H s1 := by
  -- the library's entry, at an Around that handles nothing; then our own Around put back
  have e1 : Env0 P w K mg base { A with handled := none } outer s H := ⟨e0.frames, e0.mod, e0.bs, e0.bsz, e0.funs, e0.frf, e0.hok, e0.bare⟩
  have I := inv_start (CX := L2.CX P w) (E := E) S rfl e1 hl r x
  exact ⟨⟨I.ok.mod, I.ok.kind, I.ok.glob, I.ok.blt, I.ok.above, I.ok.inj, I.ok.has, I.ok.cab, hd, I.ok.frames, I.ok.stk, I.ok.exf, I.ok.bs, I.ok.bsz, I.ok.noex, I.ok.exfs, I.ok.funs, I.ok.frf⟩,
    I.os, I.bare, I.base, I.loc, I.cell, I.free, I.freeC, I.pin, I.hok, I.len⟩

theorem fn_in {c : Bool} {P : Program} {w : World} {K : PySem.W.Frag} {mg : Str → Option Value} {base : Heap} {k : Nat} {f : Addr} {name qual : Str} {params : Arguments} {body : List Stmt} {scope : Scope} {dV kV doc pm cdv ct oc : Value} {an od : Option Addr}
    {osl : Array (Option Value)} {N ps : List Str} {sp : Sp} (lk : K.lookup f = some ⟨oc, od, .func (PySem.W.fnOf name qual params body scope dV kV doc pm an cdv ct), osl⟩) (hcd : PySem.W.codeIn K cdv qual = true) (S : FnScope N ps scope)
    (len : ∀ vs H Q E, sp vs H Q E → vs.length = ps.length)
    (hbody : ∀ (A : Around) (outer : List Env) (s : Shared) (H : Hp) (vs : List V) (Q : VK) (E : XK), Rm c k (A.deeper (envOfC qual scope s.heap.objs.size f cdv)) → sp vs H Q E →
      ∃ t, PSs (cxG c P w K mg base N qual scope f cdv A outer s H E) body t ∧ t { nx := fun _ H' => Q .non H', rt := Q } (L2.start N vs) H) :
    Fn c P w K mg base (k + 1) f (PySem.W.fnOf name qual params body scope dV kV doc pm an cdv ct) ps sp := by
  refine ⟨len, fun A outer s H args us vs Q E hr e0 hb r hsp => ?_⟩
  have hl := len _ _ _ _ hsp
  have dep : A.depth < recursionLimit := by have z := hr.dp; omega
  have inH : K.In s.heap := e0.mod.kin.keeps fun b o e => (e0.bs b o e).1
  have lim : s.heap.NoLimit := e0.mod.nolimit.keeps fun b o e => (e0.bs b o e).1
  have kinds : ∀ y ∈ ps.zip us, scope.names.lookup y.1 = some .local ∨ (scope.names.lookup y.1 = some .cell ∧ ((cellsFrom (s.heap.objs.size + 1) scope.names []).lookup y.1).isSome = true) := by
    rintro ⟨n, v⟩ hy
    have m := (List.of_mem_zip hy).1
    cases S.par n m with
    | inl q => exact Or.inl q
    | inr q => exact Or.inr ⟨q, PySem.W.cellsFrom_some _ _ _ (Or.inl q)⟩
  refine codeAny_call_function dep (inH _ _ lk) rfl S.co S.gen rfl (PySem.W.codeRec_of inH hcd) (hb _ _ _ _ ?_)
  refine wpAny_newFunctionEnv_cells S.kind kinds fun env he s1 x => ?_
  subst he
  refine ⟨lim.keeps x.toInCall.keep, codeAny_func ?_⟩
  obtain ⟨t, ht, hq⟩ := hbody A outer s H vs Q E (hr.deep _) hsp
  have I : Inv (cxG c P w K mg base N qual scope f cdv A outer s H E) [] (L2.start N vs) H s1 := inv_in S hr.hd e0 hl r x
  refine wpAny_mono (ht.run [] s1 (L2.start N vs) H _ I hq) (fun fl s' hs => ?_) fun e s' hs => hs
  have out : ∀ {σ' : L2.St} {H' : Hp} {v : V} {u : Value}, Inv (cxG c P w K mg base N qual scope f cdv A outer s H E) [] σ' H' s' → RelV v u → Q v H' → CE outer P w H s Q u s' := by
    intro σ' H' v u J rv q
    exact ⟨v, H', J.os, J.bare, J.base, J.hok, rv, q⟩
  match fl, hs with
  | .ret u, ⟨v, σ', H', J, rv, q⟩ => exact out J rv q
  | .next, ⟨σ', H', J, q⟩ => exact out (v := V.non) (u := Value.none) J rfl q
  | .brk, ⟨_, _, _, q⟩ => exact q.elim
  | .cont, ⟨_, _, _, q⟩ => exact q.elim

/-- a def as the head tells it -/
theorem fn_def {c : Bool} {P : Program} {w : World} {K : PySem.W.Frag} {mg : Str → Option Value} {base : Heap} {x qual : Str} {params : Arguments} {body : List Stmt} {scope : Scope} {dvs : List V} {kws : List (Str × V)} {f : Addr} {fd : FuncData} {N ps : List Str} {k : Nat} {sp : Sp}
    (F : FunD K x qual params body scope dvs kws f fd) (S : FnScope N ps scope) (len : ∀ vs H Q E, sp vs H Q E → vs.length = ps.length)
    (hbody : ∀ (cdv : Value) (A : Around) (outer : List Env) (s : Shared) (H : Hp) (vs : List V) (Q : VK) (E : XK), Rm c k (A.deeper (envOfC qual scope s.heap.objs.size f cdv)) → sp vs H Q E →
      ∃ t, PSs (cxG c P w K mg base N qual scope f cdv A outer s H E) body t ∧ t { nx := fun _ H' => Q .non H', rt := Q } (L2.start N vs) H) : Fn c P w K mg base (k + 1) f fd ps sp := by
  obtain ⟨oc, od, dV, kV, doc, pm, an, cdv, ct, osl, rfl, lk, hcd, _, _⟩ := F.ex
  exact fn_in lk hcd S len fun A outer s H vs Q E hr hsp => hbody cdv A outer s H vs Q E hr hsp

/-! ## what stands at a name -/
/-- a def at f keeps sp when it is called by place; defaults may fill up -/
def Held (c : Bool) (P : Program) (w : World) (K : PySem.W.Frag) (mg : Str → Option Value) (base : Heap) (k : Nat) (f : Addr) (sp : Sp) : Prop :=
  ∃ (fd : FuncData) (ps : List Str) (ds : List Value) (dvs : List V) (sp0 : Sp), Fn c P w K mg base k f fd ps sp0 ∧ Binds K fd ps ds ∧ Vals dvs ds ∧ ∀ vs H Q E, sp vs H Q E → sp0 (vs ++ dvs) H Q E
theorem Held.plain {c : Bool} {P : Program} {w : World} {K : PySem.W.Frag} {mg : Str → Option Value} {base : Heap} {k : Nat} {f : Addr} {fd : FuncData} {ps : List Str} {sp : Sp} (F : Fn c P w K mg base k f fd ps sp) (b : Binds K fd ps []) : Held c P w K mg base k f sp :=
  ⟨fd, ps, [], [], sp, F, b, .nil, fun vs H Q E h => by rw [List.append_nil]; exact h⟩
theorem Held.imp {c : Bool} {P : Program} {w : World} {K : PySem.W.Frag} {mg : Str → Option Value} {base : Heap} {k : Nat} {f : Addr} {sp sp' : Sp} (h : Held c P w K mg base k f sp) (z : ∀ vs H Q E, sp' vs H Q E → sp vs H Q E) : Held c P w K mg base k f sp' := by
  obtain ⟨fd, ps, ds, dvs, sp0, F, b, r, g⟩ := h
  exact ⟨fd, ps, ds, dvs, sp0, F, b, r, fun vs H Q E q => g vs H Q E (z vs H Q E q)⟩
theorem Held.hot {c : Bool} {P : Program} {w : World} {K : PySem.W.Frag} {mg : Str → Option Value} {base : Heap} {k : Nat} {f : Addr} {sp : Sp} (h : Held false P w K mg base k f sp) : Held c P w K mg base k f sp := by
  obtain ⟨fd, ps, ds, dvs, sp0, F, b, r, g⟩ := h
  exact ⟨fd, ps, ds, dvs, sp0, F.hot, b, r, g⟩
theorem Held.mono {c : Bool} {P : Program} {w : World} {K : PySem.W.Frag} {mg : Str → Option Value} {base : Heap} {j k : Nat} {f : Addr} {sp : Sp} (h : Held c P w K mg base j f sp) (z : j ≤ k) : Held c P w K mg base k f sp := by
  obtain ⟨fd, ps, ds, dvs, sp0, F, b, r, g⟩ := h
  exact ⟨fd, ps, ds, dvs, sp0, F.mono z, b, r, g⟩
/-- the module's name x is a def that keeps sp -/
structure GF (c : Bool) (P : Program) (w : World) (K : PySem.W.Frag) (mg : Str → Option Value) (base : Heap) (x : Str) (k : Nat) (sp : Sp) : Prop where
  ex : ∃ f : Addr, Held c P w K mg base k f sp ∧ mg x = some (.ref f) ∧ PySem.W.keepIn K (.ref f) = true
/-- the method m of the class at C is such a def -/
structure GM (c : Bool) (P : Program) (w : World) (K : PySem.W.Frag) (mg : Str → Option Value) (base : Heap) (C : Addr) (m : Str) (k : Nat) (sp : Sp) : Prop where
  ex : ∃ f : Addr, Held c P w K mg base k f sp ∧ Meth K C m f
/-- the module's name x is a class at C that is made by an __init__ that keeps sp -/
structure GK (c : Bool) (P : Program) (w : World) (K : PySem.W.Frag) (mg : Str → Option Value) (base : Heap) (x : Str) (C : Addr) (k : Nat) (sp : Sp) : Prop where
  ex : ∃ f : Addr, Held c P w K mg base k f sp ∧ Mk K C f ∧ mg x = some (.ref C)
/-- .. an exception class -/
structure GX (c : Bool) (P : Program) (w : World) (K : PySem.W.Frag) (mg : Str → Option Value) (base : Heap) (x : Str) (C : Addr) (k : Nat) (sp : Sp) : Prop where
  ex : ∃ f : Addr, Held c P w K mg base k f sp ∧ OexC K C ∧ mg x = some (.ref C) ∧ PySem.W.findIn K (.ref C) "__init__" = some (some (.ref f)) ∧ PySem.W.typeIn K (.ref f) = some (.type "function")

/-! ## calls -/
abbrev E0 : XK := fun _ _ _ => False
section
variable {X : Cx} {c : Bool} {k : Nat} {sp : Sp} {x m : Str} {p pos apos : Pos} {e o : Expr} {es : List Expr} {ta : TE} {t : TA} {W : WX} {f C : Addr} {E : XK}
/-- what a callee lets out arrives -/
def Arr (X : Cx) (σ : L2.St) (E : XK) : Prop := ∀ (pins : List (Addr × Obj)) (H : Hp) (s : Shared) (e : Value) (s' : Shared), Inv X pins σ H s → L2.CX X.prog X.w X.stack H s E e s' → X.xe e s'
theorem arr0 {σ : L2.St} : Arr X σ E0 := fun _ _ _ _ _ _ h => by
  obtain ⟨_, _, _, _, _, _, _, _, _, _, _, _, z⟩ := h
  exact z.elim
theorem arr_of (tk : Takes X W) (σ : L2.St) : Arr X σ (fun cls d H => W cls d σ H) := fun _ _ _ e s' I h => tk e s' (XE.of_call I (fun _ _ _ z => z) h)

theorem go_fn {pins : List (Addr × Obj)} {σ : L2.St} {H : Hp} {s : Shared} {Q : VK} {us : List Value} {vs : List V} (G : Held c X.prog X.w X.K X.mg X.base k f sp) (hr : Rm c k X.A) (hx : Arr X σ E)
    (I : Inv X pins σ H s) (r : Vals vs us) (h : sp vs H Q E) : wpAny (model X.prog X.w) X.A (call (.ref f) us) (EP X pins σ Q) X.xe s := by
  obtain ⟨fd, ps, ds, dvs, sp0, F, hb, hd, g⟩ := G
  have r2 : Vals (vs ++ dvs) (us ++ ds) := r.append hd
  have h0 := g vs H Q E h
  have hl : (us ++ ds).length = ps.length := by
    rw [← r2.length]
    exact F.len _ _ _ _ h0
  have core := F.run X.A X.stack s H ⟨us, []⟩ (us ++ ds) (vs ++ dvs) Q E hr I.env0 (hb s us I.kIn hl) r2 h0
  refine wpAny_call (codeAny_mono core fun r s' hq => ?_)
  match r, hq with
  | .error e, hq => exact hx pins H s e s' I hq
  | .ok (.ret u), hq => exact I.after hq
  | .ok .next, hq => exact hq.elim
  | .ok .brk, hq => exact hq.elim
  | .ok .cont, hq => exact hq.elim

/-- the reading of a call: the promise, at the arguments; what is raised goes where W says -/
def cCall (sp : Sp) (W : WX) (t : TA) : TE := fun σ H Q => t σ H fun vs H1 => sp vs H1 Q fun cls d H' => W cls d σ H'
def cCall0 (sp : Sp) (t : TA) : TE := fun σ H Q => t σ H fun vs H1 => sp vs H1 Q E0
theorem ge_call (G : GF c X.prog X.w X.K X.mg X.base x k sp) (hr : Rm c k X.A) (tk : Takes X W) (hg : Gl X x) (ha : PA X (e :: es) t) (hdb : (x == ("__debug__" : Str)) = false := by decide)
    (he : starEach (e :: es) X.env = (false, eval e X.env) :: starEach es X.env := by rfl) (hpl : (backTo pos (starEach es X.env)).any (·.1) = false := by rfl) : PE X (.Call (.Name x p) (e :: es) [] pos) (cCall sp W t) := by
  obtain ⟨f, F, hm, hk⟩ := G.ex
  constructor
  intro pins s σ H Q I h
  refine wpAny_Call_Name_kw (ld_glob I hg hm ?_ hdb)
  refine PySem.W.callWith_K (h₀ := X.base) I.ok.mod.kin hk (thn (ha.run pos pins s σ H _ I h) ?_) he hpl
  rintro us s1 ⟨vs, H1, I1, r, q⟩
  exact ⟨I1.kIn, go_fn F hr (arr_of tk σ) I1 r q⟩
theorem ge_callF (G : GF c X.prog X.w X.K X.mg X.base x k sp) (hr : Rm c k X.A) (hg : Gl X x) (ha : PA X (e :: es) t) (hdb : (x == ("__debug__" : Str)) = false := by decide)
    (he : starEach (e :: es) X.env = (false, eval e X.env) :: starEach es X.env := by rfl) (hpl : (backTo pos (starEach es X.env)).any (·.1) = false := by rfl) : PE X (.Call (.Name x p) (e :: es) [] pos) (cCall0 sp t) := by
  obtain ⟨f, F, hm, hk⟩ := G.ex
  constructor
  intro pins s σ H Q I h
  refine wpAny_Call_Name_kw (ld_glob I hg hm ?_ hdb)
  refine PySem.W.callWith_K (h₀ := X.base) I.ok.mod.kin hk (thn (ha.run pos pins s σ H _ I h) ?_) he hpl
  rintro us s1 ⟨vs, H1, I1, r, q⟩
  exact ⟨I1.kIn, go_fn F hr arr0 I1 r q⟩

/-- o.m(..) -/
def cMeth (C : Addr) (m : Str) (sp : Sp) (W : WX) (ta : TE) (t : TA) : TE := fun σ H Q => ta σ H fun x H1 => ∃ a dx fs, x = .ref a ∧ H1 a = some (.ins C dx fs) ∧ fs.lookup m = none ∧
  t σ H1 fun vs H2 => sp (x :: vs) H2 Q fun cls d H' => W cls d σ H'
theorem ge_meth {pl : Sem Bool} (ho : PE X o ta) (cl : Cls X.K C) (G : GM c X.prog X.w X.K X.mg X.base C m k sp) (hr : Rm c k X.A) (tk : Takes X W) (ha : PA X (e :: es) t)
    (hst : starEach (e :: es) X.env = (false, eval e X.env) :: starEach es X.env := by rfl) (hpl : (backTo pos (starEach es X.env)).any (·.1) = false := by rfl)
    (ht : eval (.Call (.Attribute o m apos) (e :: es) [] pos) X.env = (do
      let w ← eval o X.env
      standAt apos.atName
      let (g, first) ← holding [w] (getMethod w m pl)
      callWith pos g first (backTo pos (starEach (e :: es) X.env)) (backToKw pos (keywordEach [] X.env))) := by rfl) :
    PE X (.Call (.Attribute o m apos) (e :: es) [] pos) (cMeth C m sp W ta t) := by
  obtain ⟨f, F, hm⟩ := G.ex
  constructor
  intro pins s σ H Q I h
  refine PySem.W.methodCall_KW (pl := pl) (thn (ho.run pins s σ H _ I h) ?_) ht
  rintro u s1 ⟨x, H1, I1, rx, a, dx, fs, ex, ea, l, q⟩
  subst ex
  obtain rfl : u = Value.ref a := rx
  refine getmeth_ok I1 ea cl hm l ?_
  refine PySem.W.callWith_K (first := [.ref a]) (h₀ := X.base) I.ok.mod.kin hm.kp (thn (ha.run pos pins s1 σ H1 _ I1 q) ?_) hst hpl
  rintro us s2 ⟨vs, H2, I2, r, q2⟩
  exact ⟨I2.kIn, go_fn (us := .ref a :: us) (vs := .ref a :: vs) F hr (arr_of tk σ) I2 (.cons rfl r) q2⟩
theorem ge_meth0 {pl : Sem Bool} (ho : PE X o ta) (cl : Cls X.K C) (G : GM c X.prog X.w X.K X.mg X.base C m k sp) (hr : Rm c k X.A) (tk : Takes X W)
    (ht : eval (.Call (.Attribute o m apos) [] [] pos) X.env = (do
      let w ← eval o X.env
      standAt apos.atName
      let (g, first) ← holding [w] (getMethod w m pl)
      callWith pos g first (backTo pos (starEach [] X.env)) (backToKw pos (keywordEach [] X.env))) := by rfl) :
    PE X (.Call (.Attribute o m apos) [] [] pos) (cMeth C m sp W ta tNil) := by
  obtain ⟨f, F, hm⟩ := G.ex
  constructor
  intro pins s σ H Q I h
  refine PySem.W.methodCall_KW (pl := pl) (thn (ho.run pins s σ H _ I h) ?_) ht
  rintro u s1 ⟨x, H1, I1, rx, a, dx, fs, ex, ea, l, q⟩
  subst ex
  obtain rfl : u = Value.ref a := rx
  refine getmeth_ok I1 ea cl hm l ?_
  exact PySem.W.callWith_K0 (first := [.ref a]) I1.kIn hm.kp (go_fn (us := [.ref a]) (vs := [.ref a]) F hr (arr_of tk σ) I1 (.cons rfl .nil) q)

/-- C(..), a class with an __init__ of its own -/
def cMake (C : Addr) (sp : Sp) (W : WX) (t : TA) : TE := fun σ H Q => t σ H fun vs H1 => ∀ x dx, H1 x = none → H1 dx = none → dx ≠ x →
  sp (.ref x :: vs) (upd (upd H1 dx (.own x)) x (.ins C dx [])) (fun v H2 => v = .non ∧ Q (.ref x) H2) fun cls d H' => W cls d σ H'
theorem go_make {pins : List (Addr × Obj)} {σ : L2.St} {H : Hp} {s : Shared} {Q : VK} {us : List Value} {vs : List V} (M : Mk X.K C f) (G : Held c X.prog X.w X.K X.mg X.base k f sp) (hr : Rm c (k + 1) X.A)
    (hx : Arr X σ E) (I : Inv X pins σ H s) (r : Vals vs us)
    (h : ∀ x dx, H x = none → H dx = none → dx ≠ x → sp (.ref x :: vs) (upd (upd H dx (.own x)) x (.ins C dx [])) (fun v H2 => v = .non ∧ Q (.ref x) H2) E) :
    wpAny (model X.prog X.w) X.A (call (.ref C) us) (EP X pins σ Q) X.xe s := by
  obtain ⟨fd, ps, ds, dvs, sp0, F, hb, hd, g⟩ := G
  have hq := g _ _ _ _ (h (s.heap.objs.size + 1) s.heap.objs.size (I.hok.fresh (Nat.le_succ _)) (I.hok.fresh (Nat.le_refl _)) (Nat.ne_of_lt (Nat.lt_succ_self _)))
  have J := Inv.made (C := C) I
  have r2 : Vals (V.ref (s.heap.objs.size + 1) :: (vs ++ dvs)) (Value.ref (s.heap.objs.size + 1) :: (us ++ ds)) := .cons rfl (r.append hd)
  have hl : (Value.ref (s.heap.objs.size + 1) :: us ++ ds).length = ps.length := by
    have e := r2.length
    have e2 := F.len _ _ _ _ hq
    rw [← e2]
    exact e.symm
  have core := F.run _ X.stack _ _ ⟨Value.ref (s.heap.objs.size + 1) :: us, []⟩ (Value.ref (s.heap.objs.size + 1) :: (us ++ ds)) _ _ E (hr.make C us []) (J.env0.make C us []) (hb _ (Value.ref (s.heap.objs.size + 1) :: us) J.kIn hl) r2 hq
  refine wpAny_call (make_map (f := f) I.kIn M.makes M.init (beq_iff_eq.mp M.fn) (codeAny_mono core fun r s' z => ?_))
  match r, z with
  | .error e, z => exact hx pins _ _ e s' J z
  | .ok (.ret u), z =>
    obtain ⟨v, H', I3, rv, ev, q3⟩ := J.after z
    subst ev
    exact ⟨rv, ⟨V.ref (s.heap.objs.size + 1), H', I3, rfl, q3⟩⟩
  | .ok .next, z => exact z.elim
  | .ok .brk, z => exact z.elim
  | .ok .cont, z => exact z.elim
theorem ge_make (G : GK c X.prog X.w X.K X.mg X.base x C k sp) (hr : Rm c (k + 1) X.A) (tk : Takes X W) (hg : Gl X x) (ha : PA X (e :: es) t) (hdb : (x == ("__debug__" : Str)) = false := by decide)
    (he : starEach (e :: es) X.env = (false, eval e X.env) :: starEach es X.env := by rfl) (hpl : (backTo pos (starEach es X.env)).any (·.1) = false := by rfl) : PE X (.Call (.Name x p) (e :: es) [] pos) (cMake C sp W t) := by
  obtain ⟨f, F, M, hm⟩ := G.ex
  constructor
  intro pins s σ H Q I h
  refine wpAny_Call_Name_kw (ld_glob I hg hm ?_ hdb)
  refine PySem.W.callWith_K (h₀ := X.base) I.ok.mod.kin M.kp (thn (ha.run pos pins s σ H _ I h) ?_) he hpl
  rintro us s1 ⟨vs, H1, I1, r, q⟩
  exact ⟨I1.kIn, go_make M F hr (arr_of tk σ) I1 r q⟩
end
end GL

namespace GL
open PySem PySem.Spec PyProof.Rows L2

/-! ## making an exception of a class with an __init__ of its own -/
/-- what such an __init__ does: the fields that the arguments make, the last one first -/
def spX (K : PySem.W.Frag) (C : Addr) (mk : List V → Option (List (Str × V))) : Sp := fun vs H Q _ => ∃ (a : Addr) (ws : List V) (fs : List (Str × V)), vs = .ref a :: ws ∧ H a = some (exo a C none) ∧ mk ws = some fs ∧
  ∀ d, H d = none → d ≠ a → Q .non (upd (upd H d (exd d fs)) a (exo a C (some d)))
/-- the reading of C(..) that is raised -/
def xMk (C : Addr) (mk : List V → Option (List (Str × V))) (t : TA) : L2.St → Hp → XK → Prop := fun σ H Q => t σ H fun vs H1 => vs.length ≤ 1000 ∧ ∃ fs, mk vs = some fs ∧ ∀ d, H1 d = none → Q (.ref C) (some d) (upd H1 d (.xd fs))
section
variable {X : Cx} {c : Bool} {k : Nat} {x : Str} {p pos : Pos} {e : Expr} {es : List Expr} {t : TA} {C f : Addr} {mk : List V → Option (List (Str × V))}
theorem del_upd {H : Hp} {a d : Addr} {o : HO} {u v : HO} (hn : H a = none) (hd : d ≠ a) : upd (del (upd (upd H d u) a o) a) d v = upd H d v := by
  funext b
  by_cases h1 : b = d
  · rw [h1, upd_same, upd_same]
  · rw [upd_ne h1, upd_ne h1]
    by_cases h2 : b = a
    · rw [h2, del_same, hn]
    · rw [del_ne h2, upd_ne h2, upd_ne h1]
theorem go_exc {pins : List (Addr × Obj)} {σ : L2.St} {H : Hp} {s : Shared} {Q : XK} {us : List Value} {vs : List V} (T : OexC X.K C) (iC : PySem.W.findIn X.K (.ref C) "__init__" = some (some (.ref f))) (tI : PySem.W.typeIn X.K (.ref f) = some (.type "function"))
    (G : Held c X.prog X.w X.K X.mg X.base k f (spX X.K C mk)) (hr : Rm c (k + 1) X.A) (I : Inv X pins σ H s) (r : Vals vs us) (hz : vs.length ≤ 1000)
    (q : ∃ fs, mk vs = some fs ∧ ∀ d, H d = none → Q (.ref C) (some d) (upd H d (.xd fs))) : wpAny (model X.prog X.w) X.A (call (.ref C) us) (MkP X pins σ Q) X.xe s := by
  obtain ⟨fs, hfs, q⟩ := q
  obtain ⟨fd, ps, ds, dvs, sp0, F, hb, hd, g0⟩ := G
  obtain ⟨nm, qn, N, bs, bm, sn, sub, ab, col, dd, k0, k1, k2, k3, k5, hC, hbm⟩ := T.cls
  obtain ⟨hp, g, dr, tk, os⟩ := s
  have up : hp.objs.size ≤ hp.objs.size + 1 := Nat.le_succ _
  have hn : H (hp.objs.size + 1) = none := I.hok.fresh up
  have old : ∀ b o, hp.get? b = some o → ((hp.push (PySem.W.kdv_tup us)).push (PySem.HandSPX.excO C hp.objs.size)).get? b = some o := fun b o z => Heap.get?_push_of_some _ (Heap.get?_push_of_some _ z)
  have new : ((hp.push (PySem.W.kdv_tup us)).push (PySem.HandSPX.excO C hp.objs.size)).get? (hp.objs.size + 1) = some (PySem.HandSPX.excO C hp.objs.size) := by heap_get
  have J : Inv X pins σ (upd H (hp.objs.size + 1) (exo (hp.objs.size + 1) C none)) ⟨(hp.push (PySem.W.kdv_tup us)).push (PySem.HandSPX.excO C hp.objs.size), g, dr, tk, os⟩ :=
    I.laid (t' := tk) (a := hp.objs.size + 1) (o := exo (hp.objs.size + 1) C none) old up (exo_ok new)
  have hq0 : spX X.K C mk (.ref (hp.objs.size + 1) :: vs) (upd H (hp.objs.size + 1) (exo (hp.objs.size + 1) C none))
      (fun v H2 => v = .non ∧ ∃ (d : Addr) (gs : List (Str × V)), H2 (hp.objs.size + 1) = some (exo (hp.objs.size + 1) C (some d)) ∧ H2 d = some (exd d gs) ∧ H d = none ∧ Q (.ref C) (some d) (upd (del H2 (hp.objs.size + 1)) d (.xd gs))) E0 := by
    refine ⟨_, _, fs, rfl, upd_same, hfs, fun d h1 h2 => ⟨rfl, d, fs, upd_same, ?_, ?_, ?_⟩⟩
    · rw [upd_ne h2, upd_same]
    · rw [upd_ne h2] at h1
      exact h1
    · have e1 : upd (upd (upd H (hp.objs.size + 1) (exo (hp.objs.size + 1) C none)) d (exd d fs)) (hp.objs.size + 1) (exo (hp.objs.size + 1) C (some d)) = upd (upd H d (exd d fs)) (hp.objs.size + 1) (exo (hp.objs.size + 1) C (some d)) := by
        funext b
        by_cases z : b = hp.objs.size + 1
        · rw [z, upd_same, upd_same]
        · rw [upd_ne z, upd_ne z]
          by_cases y : b = d
          · rw [y, upd_same, upd_same]
          · rw [upd_ne y, upd_ne y, upd_ne z]
      rw [e1, del_upd hn h2]
      rw [upd_ne h2] at h1
      exact q d h1
  have hq := g0 _ _ _ _ hq0
  have r2 : Vals (V.ref (hp.objs.size + 1) :: (vs ++ dvs)) (Value.ref (hp.objs.size + 1) :: (us ++ ds)) := .cons rfl (r.append hd)
  have hl : (Value.ref (hp.objs.size + 1) :: us ++ ds).length = ps.length := by
    have z := r2.length
    have z2 := F.len _ _ _ _ hq
    rw [← z2]
    exact z.symm
  have hus : us.length ≤ sizeLine := by
    rw [← Paired.length r, sizeLine_eq]
    omega
  have core := F.run _ X.stack _ _ ⟨Value.ref (hp.objs.size + 1) :: us, []⟩ (Value.ref (hp.objs.size + 1) :: (us ++ ds)) _ _ E0 (hr.make C us []) (J.env0.make C us []) (hb _ (Value.ref (hp.objs.size + 1) :: us) J.kIn hl) r2 hq
  refine wpAny_call (PySem.HandSPX.call_own PySem.F.excBase_ValueError (fun Y => PySem.HandSPX.refsVE_contains Y bm hbm) (I.kIn _ _ hC) (PySem.W.looks_findIn I.kIn iC) (fun self => PySem.W.bind_fn I.kIn self tI) hus (codeAny_mono core fun rr s' z => ?_))
  match rr, z with
  | .error er, z => exact arr0 (σ := σ) pins _ _ er s' J z
  | .ok (.ret u), z =>
    obtain ⟨v, H2, os2, bare2, un2, hok2, rv, ev, d, gs, ea, ed, hd1, q2⟩ := z
    subst ev
    obtain ⟨h2, g2, d2, t2, os'⟩ := s'
    exact ⟨rv, mk_end (raises_own T.exC T.tyC) I up old un2 hok2 os2 bare2 ea ed hd1 q2⟩
  | .ok .next, z => exact z.elim
  | .ok .brk, z => exact z.elim
  | .ok .cont, z => exact z.elim
theorem ge_exc (G : GX c X.prog X.w X.K X.mg X.base x C k (spX X.K C mk)) (hr : Rm c (k + 1) X.A) (hg : Gl X x) (ha : PA X (e :: es) t) (hdb : (x == ("__debug__" : Str)) = false := by decide)
    (he : starEach (e :: es) X.env = (false, eval e X.env) :: starEach es X.env := by rfl) (hpl : (backTo pos (starEach es X.env)).any (·.1) = false := by rfl) : PMk X (.Call (.Name x p) (e :: es) [] pos) (xMk C mk t) := by
  obtain ⟨f, F, T, hm, iC, tI⟩ := G.ex
  intro pins s σ H Q I h
  refine wpAny_Call_Name_kw (ld_glob I hg hm ?_ hdb)
  refine PySem.W.callWith_K (h₀ := X.base) I.ok.mod.kin T.kC (thn (ha.run pos pins s σ H _ I h) ?_) he hpl
  rintro us s1 ⟨vs, H1, I1, r, hz, q⟩
  exact ⟨I1.kIn, go_exc T iC tI F hr I1 r hz q⟩
theorem ge_exc0 (G : GX c X.prog X.w X.K X.mg X.base x C k (spX X.K C mk)) (hr : Rm c (k + 1) X.A) (hg : Gl X x) (hdb : (x == ("__debug__" : Str)) = false := by decide) : PMk X (.Call (.Name x p) [] [] pos) (xMk C mk tNil) := by
  obtain ⟨f, F, T, hm, iC, tI⟩ := G.ex
  intro pins s σ H Q I h
  obtain ⟨hz, q⟩ := h
  refine wpAny_Call_Name_kw (ld_glob I hg hm ?_ hdb)
  exact PySem.W.callWith_K0 I.kIn T.kC (go_exc (us := []) T iC tI F hr I .nil hz q)
end

/-! ## D.m(e, ..): a def read off a class -/
structure ClF (K : PySem.W.Frag) (D f : Addr) (m : Str) : Prop where
  ga : PySem.W.specialIn K (.ref D) "__getattribute__" = some (some (.builtin "type.__getattribute__"))
  rd : PySem.W.readsIn K D (.type "type") = true
  at_ : PySem.W.findCls K (.ref D) (.type "type") m = some (.val (.ref f))
  kp : PySem.W.keepIn K (.ref f) = true
structure GD (c : Bool) (P : Program) (w : World) (K : PySem.W.Frag) (mg : Str → Option Value) (base : Heap) (D m : Str) (k : Nat) (sp : Sp) : Prop where
  ex : ∃ C f : Addr, Held c P w K mg base k f sp ∧ mg D = some (.ref C) ∧ ClF K C f m
section
variable {X : Cx} {c : Bool} {k : Nat} {sp : Sp} {D m : Str} {p1 apos pos : Pos} {e : Expr} {es : List Expr} {t : TA} {W : WX}
theorem ge_clsm {pl : Sem Bool} (G : GD c X.prog X.w X.K X.mg X.base D m k sp) (hr : Rm c k X.A) (tk : Takes X W) (hg : Gl X D) (ha : PA X (e :: es) t) (hdb : (D == ("__debug__" : Str)) = false := by decide)
    (hst : starEach (e :: es) X.env = (false, eval e X.env) :: starEach es X.env := by rfl) (hpl : (backTo pos (starEach es X.env)).any (·.1) = false := by rfl)
    (ht : eval (.Call (.Attribute (.Name D p1) m apos) (e :: es) [] pos) X.env = (do
      let w ← eval (.Name D p1) X.env
      standAt apos.atName
      let (g, first) ← holding [w] (getMethod w m pl)
      callWith pos g first (backTo pos (starEach (e :: es) X.env)) (backToKw pos (keywordEach [] X.env))) := by rfl) :
    PE X (.Call (.Attribute (.Name D p1) m apos) (e :: es) [] pos) (cCall sp W t) := by
  obtain ⟨C, f, F, hm, cf⟩ := G.ex
  constructor
  intro pins s σ H Q I h
  refine PySem.W.methodCall_KW (pl := pl) (ld_glob I hg hm ?_ hdb) ht
  refine PySem.W.method_cls I.kIn cf.ga (PySem.W.cls_value I.kIn cf.rd cf.at_ rfl ?_)
  refine PySem.W.callWith_K (first := []) (h₀ := X.base) I.ok.mod.kin cf.kp (thn (ha.run pos pins _ σ H _ (I.tok _) h) ?_) hst hpl
  rintro us s1 ⟨vs, H1, I1, r, q⟩
  exact ⟨I1.kIn, go_fn F hr (arr_of tk σ) I1 r q⟩
end

/-! ## an exception that is held: read as a thing that does not change -/
/-- at a stands an exception of the class at C, its own dict at d -/
def xO (a C d : Addr) (o : Obj) : Prop := o.cls = .ref C ∧ o.dict = some d ∧ ∃ vs, o.data = .fields vs
/-- what the classes say, for reading fields and for isinstance -/
structure XC (K : PySem.W.Frag) (C : Addr) : Prop where
  ga : PySem.W.findIn K (.ref C) "__getattribute__" = some (some (.builtin "BaseException.__getattribute__"))
  gg : PySem.W.findIn K (.ref C) "__getattr__" = some none
  ex : PySem.W.subIn K (.ref C) (.type "BaseException") = some true
  hd : PySem.W.hasDictIn K C = true
  cl : PySem.W.findIn K (.ref C) "__class__" = some (some (.builtin "object.__class__"))
  cg : PySem.W.specialIn K (.builtin "object.__class__") "__get__" = some (some (.builtin "getset_descriptor.__get__"))
  ct : PySem.W.takesIn K (.builtin "object.__class__") = some true
  mo : PySem.W.mroIn K C (.type "object") = some true

theorem fz_dataN {K : PySem.W.Frag} {C : Addr} {od : Option Obj} {name : Str} {a g : Value} (hc : (PySem.W.clsIn K C).isSome = true) (ha : PySem.W.findIn K (.ref C) name = some (some a)) (hg : PySem.W.specialIn K a "__get__" = some (some g)) (ht : PySem.W.takesIn K a = some true) :
    PySem.W.findObj K C od name = some (.bind g a) := by
  obtain ⟨cd, hcd⟩ := Option.isSome_iff_exists.mp hc
  unfold PySem.W.findObj
  simp only [hcd, Option.bind_some, ha, hg, ht]

section
open PySem.W
theorem xc_class {prog : Program} {w : World} {A : Around} {E : Value → Shared → Prop} {s : Shared} {K : Frag} {x D : Addr} {ox : Obj} {od : Option Obj} {Q : Option Value → Shared → Prop} (T : XC K D)
    (X : K.In s.heap) (I : InstAt s.heap x ox D od) (h : Q (some (.ref D)) { s with toks := s.toks + 1 }) : wpAny (model prog w) A (getAttr? (.ref x) "__class__") Q E s := by
  have hf : findObj K D od "__class__" = some (.bind (.builtin "getset_descriptor.__get__") (.builtin "object.__class__")) := fz_dataN (by obtain ⟨cd, hc, _⟩ := any_some T.hd; rw [hc]; rfl) T.cl T.cg T.ct
  obtain ⟨hp, g, d, t, os⟩ := s
  have M0 := I.type (M := model prog w)
  have M1 := looks_findIn (M := model prog w) X T.ga
  have M2 := looks_findIn (M := model prog w) X T.gg
  have M3 := looks_find (M := model prog w) X I hf
  have isB : Looks (model prog w) hp (isInstance (.ref x) (.type "BaseException")) true := M0.andThen (looks_subIn X T.ex)
  have z2 : (Value.builtin "BaseException.__getattribute__" == Value.builtin "object.__getattribute__") = false := by decide +kernel
  unfold getAttr? getAttrBy? getAttrBy
  refine wpAny_bind (wpAny_mkText (wpAny_bind (wpAny_attempt (wpAny_holding (wpAny_bind (M0.at (wpAny_bind (M1.at ?_))))))))
  show wpAny _ _ (if (onTheHeap (Value.ref D) && Value.builtin "BaseException.__getattribute__" == Value.builtin "object.__getattribute__") = true then _ else _) _ _ _
  rw [z2, Bool.and_false, if_neg Bool.false_ne_true]
  unfold getAttrByItsOwn hookBefore
  refine wpAny_bind ?_
  rw [if_pos (show onTheHeap (Value.ref D) = true from rfl)]
  refine M2.at ?_
  refine wpAny_bind (wpAny_attempt (wpAny_holding ?_))
  unfold callGetattribute
  rw [show (false && onTheHeap (Value.builtin "BaseException.__getattribute__")) = false from rfl, if_neg Bool.false_ne_true]
  unfold boundAndCalled
  rw [PySem.F.excAttr_ValueError.ga.bind (.ref x)]
  refine wpAny_bind (wpAny_pure ?_)
  show wpAny _ _ (call (.builtin "BaseException.__getattribute__") [.ref x, .str "__class__" t]) _ _ _
  refine wpAny_call (codeAny_call_builtin PySem.F.excAttr_ValueError.ga.plain PySem.F.entry_bexc_ga ?_)
  refine @check_slot (model prog w) _ _ ⟨hp, g, d, t + 1, os⟩ "BaseException.__getattribute__" "BaseException" "__getattribute__" (.ref x) [.str "__class__" t] [] _ (by decide +kernel) (by decide +kernel) isB (PySem.F.args_bexc_ga (.ref x) (.str "__class__" t)) ?_
  unfold Builtin.«object.__getattribute__»
  refine wpAny_bind (wpAny_of_eq (a := ((Value.ref x : Value), [Value.str "__class__" t])) (by first | rfl | (simp only [slotArgs]; rfl)) ?_)
  refine wpAny_bind (wpAny_pure (wpAny_bind (M0.at (wpAny_bind (M3.at ?_)))))
  show wpAny _ _ (holding [Value.builtin "object.__class__"] (call (.builtin "getset_descriptor.__get__") [.builtin "object.__class__", .ref x, .ref D]) >>= ret) _ _ _
  refine wpAny_bind (wpAny_holding (wpAny_call (class_get (s := ⟨hp, g, d, t + 1, os⟩) (ox := ox) (od := od) X I T.mo ?_)))
  refine wpAny_pure ?_
  show wpAny _ _ (handedOut (.ref D)) _ _ _
  rw [handedOut_of (v := .ref D) rfl]
  first
    | exact wpAny_pure (wpAny_pure h)
    | exact wpAny_pure h
    | exact wpAny_pure (wpAny_bind (wpAny_pure (wpAny_pure h)))
theorem xc_kit {K : Frag} {x D : Addr} {ox : Obj} {od : Option Obj} (T : XC K D) : KitX K (.ref x) (.ref D) (fun h => InstAt h x ox D od) := by
  obtain ⟨cdD, hcD, _⟩ := any_some T.hd
  have hl : ∃ o, K.lookup D = some o ∧ ∃ cd, o.data = .cls cd := by
    unfold clsIn at hcD
    split at hcD
    · rename_i ho
      exact ⟨_, ho, _, rfl⟩
    · cases hcD
  obtain ⟨o, ho, cd, hcd⟩ := hl
  obtain ⟨oc, odc, dt, sl⟩ := o
  dsimp only at hcd
  subst hcd
  refine ⟨fun _ _ _ I => I.type, fun _ _ X _ => ?_, fun h tp dd its n sl X htp => ?_, fun X I k => xc_class T X I k⟩
  · intro A' Q' E' s' kk q
    unfold isType loadHead
    exact wpAny_bind (wpAny_loadPart (kk _ _ (X _ _ ho)) (wpAny_pure q))
  · refine Bool.eq_false_iff.mpr fun q => ?_
    have e : D = tp := Value.ref.inj (beq_iff_eq.mp q)
    subst e
    have z := (X _ _ ho).symm.trans htp
    cases z
end
end GL

namespace GL
open PySem PySem.Spec PyProof.Rows L2

/-! ## try, with any number of clauses, each with a name or none -/
abbrev SuT := Addr → Value → Option Addr → TS
/-- the clauses' wishes, one behind another: the class, the slot of the name, the suite -/
def wCl (K : PySem.W.Frag) (Wout : WX) (D : Ends) : List (Value × Option Nat × SuT) → WX
  | [] => Wout
  | (c, none, ts) :: r => fun cls d σ H => ∃ b, PySem.W.exmOne K cls c = some b ∧ (b = true → ∀ a, H a = none → ts a cls d D σ H) ∧ (b = false → wCl K Wout D r cls d σ H)
  | (c, some i, ts) :: r => fun cls d σ H => ∃ b, PySem.W.exmOne K cls c = some b ∧
      (b = true → ∀ a, H a = none → ts a cls d { nx := fun σ' H' => D.nx (σ'.set i none) H', rt := D.rt, bk := fun σ' H' => D.bk (σ'.set i none) H', ct := fun σ' H' => D.ct (σ'.set i none) H' } (σ.set i (some (.ref a))) H) ∧
      (b = false → wCl K Wout D r cls d σ H)
/-- a suite's derivation: at the exception's address, pinned -/
abbrev SuOk (X : Cx) (suite : List Stmt) (ts : SuT) : Prop :=
  ∀ (a : Addr) (oe : Obj) (cls : Value) (d : Option Addr) (pn : List (Addr × Obj)), Zc cls d oe → (∃ vs, oe.data = .fields vs) → X.base.get? a = none → PSs (X.suite a ((a, oe) :: pn)) suite (ts a cls d)
inductive ClOk (X : Cx) : List ExceptHandler → List (Value × Option Nat × SuT) → Prop
  | nil : ClOk X [] []
  | bare {x : Str} {c : Value} {ts : SuT} {s0 : Stmt} {suite : List Stmt} {np p : Pos} {hs : List ExceptHandler} {l : List (Value × Option Nat × SuT)} (hc : Names X x c) (hsu : SuOk X (s0 :: suite) ts) (r : ClOk X hs l) :
      ClOk X (.ExceptHandler (some (.Name x np)) none (s0 :: suite) p :: hs) ((c, none, ts) :: l)
  | named {x n : Str} {c : Value} {i : Nat} {ts : SuT} {s0 : Stmt} {suite : List Stmt} {np p : Pos} {hs : List ExceptHandler} {l : List (Value × Option Nat × SuT)} (hN : X.N.Nodup) (hi : X.N[i]? = some n) (hln : X.env.kindOf n = some .local)
      (hc : Names X x c) (hsu : SuOk X (s0 :: suite) ts) (r : ClOk X hs l) : ClOk X (.ExceptHandler (some (.Name x np)) (some n) (s0 :: suite) p :: hs) ((c, some i, ts) :: l)
theorem not_frame {B h : Heap} {l : List Env} {a : Addr} {o : Obj} {vs : Array Value} (ff : h.FunFrames B l) (e : h.get? a = some o) (dd : o.data = .fields vs) : a ∉ frs l := fun hm => by
  obtain ⟨_, o', e', hnf⟩ := ff.mem hm
  rw [e] at e'
  cases e'
  exact hnf _ dd
section
variable {X : Cx} {body : List Stmt} {h0 : ExceptHandler} {hs : List ExceptHandler} {l : List (Value × Option Nat × SuT)} {pos : Pos} {tb : WX → TS} {Wout : WX}
theorem gs_try (hst : X.stack = X.env :: X.outer) (hf : X.env.frame = some X.env.locals) (tk : Takes X Wout)
    (hb : ∀ (W : WX) (pn : List (Addr × Obj)) (xe : Value → Shared → Prop), Takes (X.tr pn xe) W → PassesOwn (model X.prog X.w) X.A X.env xe → PSs (X.tr pn xe) body (tb W))
    (hh : ClOk X (h0 :: hs) l) : PS X (.Try body (h0 :: hs) [] [] pos) (fun D σ H => tb (wCl X.K Wout D l) D σ H) := by
  constructor
  intro pins s σ H D I h
  have ok := I.ok
  have hfr : X.A.frames = some (X.env :: X.outer) := by rw [ok.frames, hst]
  refine wpAny_Try_except ?_
  -- what the body's exceptions are wished to do: be noted, then be handled
  have catching : ∀ u s', XE (X.tr (X.pn ++ pins) (fun e s1 => wpAny (model X.prog X.w) X.A (noteFrame e X.env) (fun _ s2 => wpAny (model X.prog X.w) X.A (setFlight e none) (fun _ s3 => wpAny (model X.prog X.w) X.A (handleBy e X.env (h0 :: hs)) (SP X pins D) X.xe s3) X.xe s2) X.xe s1)) (wCl X.K Wout D l) u s' →
      wpAny (model X.prog X.w) X.A (noteFrame u X.env) (fun _ s2 => wpAny (model X.prog X.w) X.A (setFlight u none) (fun _ s3 => wpAny (model X.prog X.w) X.A (handleBy u X.env (h0 :: hs)) (SP X pins D) X.xe s3) X.xe s2) X.xe s' := by
    rintro u s' ⟨a, B, sI, pins', σ', H', cls, d, rfl, J', nb, up, sky, na, os, ag, w⟩
    have J : Inv X pins σ' H' sI := J'.ofTry ok
    have sky' : Sky B (X.env :: X.outer) a (Zc cls d) X.env.locals s'.heap := by rw [← hst]; exact sky
    refine Sky.land Zc.steady hfr hf sky' fun h3 fl3 up3 => ?_
    have J3 : Inv X pins σ' H' { s' with heap := h3 } := J.landed nb fl3.1 (up.trans up3) os ag
    obtain ⟨oe3, vs3, he3, hz3, hd3⟩ := fl3.there
    have nfr := not_frame fl3.2.2.1 he3 hd3
    have nL : a ≠ X.env.locals := fun z => nfr (List.mem_filterMap.mpr ⟨X.env, List.mem_cons_self, by rw [hf, z]⟩)
    have nF : a ∉ X.fs := fun hm => by
      obtain ⟨e, he, q⟩ := List.mem_filterMap.mp hm
      exact nfr (List.mem_filterMap.mpr ⟨e, List.mem_cons_of_mem _ he, q⟩)
    -- the exception is younger than the ground
    have nB : X.base.get? a = none := by
      cases q : X.base.get? a with
      | none => rfl
      | some o =>
        have inF : a ∉ frs X.stack := by rw [hst]; exact nfr
        have z := nb a o (J.bk a o q) inF
        rw [fl3.2.1] at z
        cases z
    have S3 := J3.suite he3 hd3 na nL nF
    have clause : ∀ {x : Str} {c : Value} {np : Pos}, Names X x c → ∀ {Q : Value → Shared → Prop} {E : Value → Shared → Prop}, Q c { s' with heap := h3 } → wpAny (model X.prog X.w) (X.A.mark (some (.ref a))) (eval (.Name x np) X.env) Q E { s' with heap := h3 } := by
      intro x c np hc Q E q
      obtain ⟨hg, hdbg, hm | ⟨hm, hv, hnn⟩⟩ := hc
      · exact ld_glob (X := X.suite a ((a, oe3) :: (X.pn ++ pins))) S3 hg hm q hdbg
      · exact ld_blt (X := X.suite a ((a, oe3) :: (X.pn ++ pins))) S3 hg hm hv q hnn hdbg
    have LT : PySem.W.Looks (model X.prog X.w) h3 (typeOf (.ref a)) cls := fun A Q E s k q => wpAny_typeOf_ref (k _ _ he3) (by rw [hz3.1]; exact q)
    have go : ∀ {hs' : List ExceptHandler} {l' : List (Value × Option Nat × SuT)}, ClOk X hs' l' → wCl X.K Wout D l' cls d σ' H' → wpAny (model X.prog X.w) X.A (handleBy (.ref a) X.env hs') (SP X pins D) X.xe { s' with heap := h3 } := by
      intro hs' l' hk
      induction hk with
      | nil =>
        intro w
        refine wpAny_handleBy_nil ?_
        obtain ⟨k1, k2, k3, oe, vs, T, oT, ts', he, hz, hd, h1, hr⟩ := id fl3
        unfold PySem.passOn
        refine wpAny_bind (wpAny_field he hd h1 ?_)
        rw [if_neg (show ¬ ((Value.ref T == Value.none) = true) from by simp)]
        have onward : wpAny (model X.prog X.w) X.A (setFlight (.ref a) X.env.frame) (fun _ s4 => wpAny (model X.prog X.w) X.A (throw (.ref a) : Sem Flow) (SP X pins D) X.xe s4) X.xe { s' with heap := h3 } := by
          rw [hf]
          refine HandSPX.setFlight_upZ fl3 fun h4 hh4 up4 => wpAny_throw (tk _ _ ?_)
          exact ⟨a, B, sI, pins, σ', H', cls, d, rfl, J, nb, (up.trans up3).trans up4, .inr (.inr (by rw [hst]; exact hh4)), na, os, ag, w⟩
        first
          | exact wpAny_bind (wpAny_pure (wpAny_bind onward))
          | exact wpAny_bind onward
      | @bare x c ts s0 suite np p hs2 l2 hc hsu r ih =>
        rintro ⟨b, hb1, hyes, hno⟩
        refine wpAny_handleBy_cons (codeAny_handlers_test ?_) (by intro q; cases q)
        refine clause hc ((PySem.W.exm_one (M := model X.prog X.w) J3.kIn LT hb1).here ?_)
        cases b with
        | true =>
          refine codeAny_handlers_suite ?_
          refine HandSPX.lands_againZ fl3 fun h4 fl4 up4 => ?_
          have J4 : Inv X pins σ' H' { s' with heap := h4 } := J.landed nb fl4.1 ((up.trans up3).trans up4) os ag
          obtain ⟨oe4, vs4, he4, hz4, hd4⟩ := fl4.there
          have S4 := J4.suite he4 hd4 na nL nF
          refine wpAny_mono ((hsu a oe4 cls d (X.pn ++ pins) hz4 ⟨_, hd4⟩ nB).run [] _ _ H' _ S4 (hyes rfl a na)) (fun f s6 z => ?_) (fun _ _ z => False.elim z)
          match f, z with
          | .next, ⟨_, _, S6, q6⟩ => exact ⟨_, _, S6.unsuite ok, q6⟩
          | .brk, ⟨_, _, S6, q6⟩ => exact ⟨_, _, S6.unsuite ok, q6⟩
          | .cont, ⟨_, _, S6, q6⟩ => exact ⟨_, _, S6.unsuite ok, q6⟩
          | .ret u, ⟨_, _, _, S6, r6, q6⟩ => exact ⟨_, _, _, S6.unsuite ok, r6, q6⟩
        | false => exact ih (hno rfl)
      | @named x n c i ts s0 suite np p hs2 l2 hN hi hln hc hsu r ih =>
        rintro ⟨b, hb1, hyes, hno⟩
        refine wpAny_handleBy_cons (codeAny_handlers_test ?_) (by intro q; cases q)
        refine clause hc ((PySem.W.exm_one (M := model X.prog X.w) J3.kIn LT hb1).here ?_)
        cases b with
        | true =>
          refine codeAny_handlers_suite_as ?_
          refine HandSPX.lands_againZ fl3 fun h4 fl4 up4 => ?_
          have J4 : Inv X pins σ' H' { s' with heap := h4 } := J.landed nb fl4.1 ((up.trans up3).trans up4) os ag
          obtain ⟨oe4, vs4, he4, hz4, hd4⟩ := fl4.there
          have S4 := J4.suite he4 hd4 na nL nF
          refine store_ok (X := X.suite a ((a, oe4) :: (X.pn ++ pins))) (v := .ref a) S4 hN hi (.inl hln) rfl (fun s5 S5 => ?_) (.inr hln)
          refine wpAny_mono ((hsu a oe4 cls d (X.pn ++ pins) hz4 ⟨_, hd4⟩ nB).run [] s5 _ H' _ S5 (hyes rfl a na)) (fun f s6 z => ?_) (fun _ _ z => False.elim z)
          have gone : ∀ {σ6 : L2.St} {H6 : Hp} {Q : Shared → Prop}, Inv (X.suite a ((a, oe4) :: (X.pn ++ pins))) [] σ6 H6 s6 → (∀ s7, Inv X pins (σ6.set i none) H6 s7 → Q s7) →
              wpAny (model X.prog X.w) X.A (do bindName X.env n .none; unbindBehindTheSuite X.env n p) (fun _ s7 => Q s7) X.xe s6 := by
            intro σ6 H6 Q S6 hq
            exact gone_ok (S6.unsuite ok) hN hi hln hq
          match f, z with
          | .next, ⟨_, _, S6, q6⟩ => exact gone S6 fun s7 J7 => ⟨_, _, J7, q6⟩
          | .brk, ⟨_, _, S6, q6⟩ => exact gone S6 fun s7 J7 => ⟨_, _, J7, q6⟩
          | .cont, ⟨_, _, S6, q6⟩ => exact gone S6 fun s7 J7 => ⟨_, _, J7, q6⟩
          | .ret u, ⟨_, _, _, S6, r6, q6⟩ => exact gone S6 fun s7 J7 => ⟨_, _, _, J7, r6, q6⟩
        | false => exact ih (hno rfl)
    exact go hh w
  refine wpAny_mono ((hb (wCl X.K Wout D l) (X.pn ++ pins) _ catching PassesOwn.looking).run [] s σ H D (I.toTry _) h) (fun f s1 z => ?_) (fun e s1 he => he)
  match f, z with
  | .next, ⟨_, _, J', q⟩ => exact wpAny_execs_nil ⟨_, _, J'.ofTry ok, q⟩
  | .brk, ⟨_, _, J', q⟩ => exact ⟨_, _, J'.ofTry ok, q⟩
  | .cont, ⟨_, _, J', q⟩ => exact ⟨_, _, J'.ofTry ok, q⟩
  | .ret u, ⟨_, _, _, J', r, q⟩ => exact ⟨_, _, _, J'.ofTry ok, r, q⟩
theorem takes_no {X : Cx} : Takes X (fun _ _ _ _ => False) := fun _ _ ⟨_, _, _, _, _, _, _, _, _, _, _, _, _, _, _, _, w⟩ => w.elim
end

/-! ## within a suite: a def is called with the exception among its arguments -/
/-- the exception, as a thing that stands still -/
abbrev FX (o : Obj) (a : Addr) : HO := .frz o (.own a)
def cCallE (a : Addr) (cls : Value) (d : Option Addr) (sp : Sp) (t : TA) : TE := fun σ H Q => t σ H fun vs H1 => ∀ o : Obj, Zc cls d o → (∃ vs, o.data = .fields vs) → H1 a = none → sp vs (upd H1 a (FX o a)) (fun v H2 => Q v (del H2 a)) E0
section
variable {X : Cx} {c : Bool} {k : Nat} {sp : Sp} {x : Str} {p pos : Pos} {e : Expr} {es : List Expr} {t : TA} {a : Addr} {oe : Obj} {cls : Value} {d : Option Addr} {pn : List (Addr × Obj)}
theorem fx_ne {o : Obj} {b : Addr} {u : HO} {H : Hp} (hn : H a = none) (h : H b = some u) : upd H a (FX o a) b = some u := by
  rw [upd_ne (ne_of_none h hn)]
  exact h
theorem ge_callE (G : GF c X.prog X.w X.K X.mg X.base x k sp) (hr : Rm c k (X.A.mark (some (.ref a)))) (hz : Zc cls d oe) (hf : ∃ vs, oe.data = .fields vs) (hnb : X.base.get? a = none) (hg : Gl X x)
    (ha : PA (X.suite a ((a, oe) :: pn)) (e :: es) t) (hdb : (x == ("__debug__" : Str)) = false := by decide)
    (he : starEach (e :: es) X.env = (false, eval e X.env) :: starEach es X.env := by rfl) (hpl : (backTo pos (starEach es X.env)).any (·.1) = false := by rfl) :
    PE (X.suite a ((a, oe) :: pn)) (.Call (.Name x p) (e :: es) [] pos) (cCallE a cls d sp t) := by
  obtain ⟨f, ⟨fd, ps, ds, dvs, sp0, F, hb, hd, g0⟩, hm, hk⟩ := G.ex
  constructor
  intro pins s σ H Q I h
  refine wpAny_Call_Name_kw (ld_glob I hg hm ?_ hdb)
  refine PySem.W.callWith_K (h₀ := X.base) I.ok.mod.kin hk (thn (ha.run pos pins s σ H _ I h) ?_) he hpl
  rintro us s1 ⟨vs, H1, I1, r, q⟩
  refine ⟨I1.kIn, ?_⟩
  obtain ⟨get, none1, nL, nF, _⟩ := I1.pin (a, oe) (List.mem_append_left _ List.mem_cons_self)
  have hsp := g0 _ _ _ _ (q oe hz hf none1)
  have env0 := I1.env0
  have nbe : ∀ b o, X.base.get? b = some o → b ≠ a := fun b o z y => by rw [y, hnb] at z; cases z
  have nfr : a ∉ frs X.stack := fun hm => (List.mem_cons.mp (I1.stkSub a hm)).elim nL nF
  have hok2 : HOk X.prog X.w (upd H1 a (FX oe a)) s1.heap := fun b o z => by
    by_cases hb : b = a
    · subst hb
      rw [upd_same] at z
      cases z
      exact ⟨get, oe, get⟩
    · rw [upd_ne hb] at z
      exact (I1.hok b o z).stay (fun _ _ _ y => y) (fun _ y => fx_ne none1 y) fun _ _ y => fx_ne none1 y
  have e2 : Env0 X.prog X.w X.K X.mg X.base (X.A.mark (some (.ref a))) X.stack s1 (upd H1 a (FX oe a)) :=
    ⟨env0.frames, env0.mod, fun b o z => ⟨(env0.bs b o z).1, by rw [upd_ne (nbe b o z)]; exact (env0.bs b o z).2⟩, env0.bsz, env0.funs, fun b hb => by rw [upd_ne (show b ≠ a from fun y => nfr (by rw [← y]; exact hb))]; exact env0.frf b hb, hok2, env0.bare⟩
  have r2 : Vals (vs ++ dvs) (us ++ ds) := r.append hd
  have hl : (us ++ ds).length = ps.length := by
    rw [← r2.length]
    exact F.len _ _ _ _ hsp
  have core := F.run (X.A.mark (some (.ref a))) X.stack s1 (upd H1 a (FX oe a)) ⟨us, []⟩ (us ++ ds) (vs ++ dvs) _ E0 hr e2 (hb s1 us I1.kIn hl) r2 hsp
  refine wpAny_call (codeAny_mono core fun rr s' z => ?_)
  match rr, z with
  | .error er, z =>
    obtain ⟨_, _, _, _, _, _, _, _, _, _, _, _, z⟩ := z
    exact z.elim
  | .ok .next, z => exact z.elim
  | .ok .brk, z => exact z.elim
  | .ok .cont, z => exact z.elim
  | .ok (.ret u), ⟨v, H', os, bare, un, hok', rv, q'⟩ =>
    have still : H' a = some (FX oe a) := un.frzs a _ _ upd_same
    have get' : s'.heap.get? a = some oe := (hok' a _ still).1
    have ne' : ∀ {b : Addr} {o : HO}, H' b = some o → o ≠ FX oe a → b ≠ a := fun {b o} z hne y => by
      rw [y, still] at z
      exact hne (Option.some.inj z).symm
    have un' : Un (frs X.stack) [] H1 (del H' a) s1.heap s'.heap := {
      keep := fun b o z n hb hx => by
        by_cases y : b = a
        · rw [y] at z ⊢
          rw [get] at z
          rw [← z]
          exact get'
        · exact un.keep b o z (by rw [upd_ne y]; exact n) hb hx
      slot := fun b o z n hb hx => un.slot b o z (by rw [upd_ne (show b ≠ a from fun y => nfr (by rw [← y]; exact hb))]; exact n) hb hx
      free := fun b o z n hx => by
        by_cases y : b = a
        · rw [y, del_same]
        · rw [del_ne y]
          exact un.free b o z (by rw [upd_ne y]; exact n) hx
      there := fun b o z hx => un.there b o z hx
      tups := fun b xs z => by
        rw [del_ne (ne_of_none z none1)]
        exact un.tups b xs (fx_ne none1 z)
      frzs := fun b o y z => by
        rw [del_ne (ne_of_none z none1)]
        exact un.frzs b o y (fx_ne none1 z)
      tbls := fun b qs z => by
        rw [del_ne (ne_of_none z none1)]
        exact un.tbls b qs (fx_ne none1 z) }
    have hok3 : HOk X.prog X.w (del H' a) s'.heap := fun b o z => by
      by_cases y : b = a
      · rw [y, del_same] at z
        cases z
      · rw [del_ne y] at z
        exact (hok' b o z).stay (fun _ _ _ w => w) (fun c' w => by rw [del_ne (ne' w (fun e => by cases e))]; exact w) fun c' xs w => by
          rw [del_ne (ne' w (fun e => by cases e))]
          exact w
    exact ⟨v, del H' a, I1.call' (ch := []) os un' hok3 bare (fun b z => absurd z (by simp)), rv, q'⟩
end
end GL

namespace GL
open PySem PySem.Spec PyProof.Rows L2

/-! ## reading off an exception that stands still -/
theorem fx_inst {X : Cx} {pins : List (Addr × Obj)} {σ : L2.St} {H : Hp} {s : Shared} {a C d : Addr} {o : Obj} {fs : List (Str × V)} (I : Inv X pins σ H s) (get : s.heap.get? a = some o) (hc : o.cls = .ref C) (hd : o.dict = some d)
    (hf : ∃ vs, o.data = .fields vs) (ed : H d = some (.xd fs)) : ∃ (od : Obj) (mA : Str → Option Value), PySem.W.InstAt s.heap a o C (some od) ∧ (∀ n, PySem.W.lookIn n od = some (mA n)) ∧ ∀ f, RelO (fs.lookup f) (mA f) := by
  have x : ObjOk X.prog X.w H s.heap d (.xd fs) := I.hok d _ ed
  obtain ⟨mA, hns, hr⟩ := x
  obtain ⟨od, ho, hl⟩ := lookIn_ns hns
  obtain ⟨vs, hv⟩ := hf
  refine ⟨od, mA, ⟨get, hc, by unfold PySem.W.notCls; rw [hv], by rw [hd]; exact ho⟩, hl, hr⟩
/-- the reading of e.n, e an exception that is handed in as FX -/
def tXfF (K : PySem.W.Frag) (te : TE) (n : Str) : TE := fun σ H Q => te σ H fun x H1 => ∃ (a C d : Addr) (o : Obj) (fs : List (Str × V)) (v : V), x = .ref a ∧ H1 a = some (FX o a) ∧ Zc (.ref C) (some d) o ∧ (∃ vs, o.data = .fields vs) ∧ XC K C ∧
  PySem.W.findIn K (.ref C) n = some none ∧ H1 d = some (.xd fs) ∧ fs.lookup n = some v ∧ Q v H1
section
variable {X : Cx} {e : Expr} {te : TE} {pos : Pos} {n : Str}
theorem xget {X : Cx} {pins : List (Addr × Obj)} {σ : L2.St} {H : Hp} {s : Shared} {a C d : Addr} {o : Obj} {fs : List (Str × V)} {n : Str} {v : V} {b : Bool} {Q : Value → Shared → Prop} {E : Value → Shared → Prop} (I : Inv X pins σ H s) (T : XC X.K C) (hno : PySem.W.findIn X.K (.ref C) n = some none)
    (get : s.heap.get? a = some o) (hz : Zc (.ref C) (some d) o) (hf : ∃ vs, o.data = .fields vs) (ed : H d = some (.xd fs)) (l : fs.lookup n = some v)
    (q : ∀ u, RelV v u → Q u { s with toks := s.toks + 1 }) : wpAny (model X.prog X.w) X.A (getAttr (.ref a) n b) Q E s := by
  obtain ⟨od, mA, J, hl, hr⟩ := fx_inst I get hz.1 hz.2 hf ed
  obtain ⟨u, hu, ru⟩ := RelO.some_of (v := v) (o := mA n) (by rw [← l]; exact hr n)
  exact HandSPX.exc_get I.kIn J T.ga T.gg T.ex (PySem.W.findObj_own T.hd hno rfl (by rw [hl, hu])) (handed_of ru) (q u ru)
theorem ge_fxf (he : PE X e te) (hb : attributeBase e n X.env (eval e X.env) = eval e X.env := by rfl) : PE X (.Attribute e n pos) (tXfF X.K te n) := by
  constructor
  intro pins s σ H Q I h
  refine attr_of hb (thn (he.run pins s σ H _ I h) ?_)
  rintro u s1 ⟨x, H1, I1, rx, a, C, d, o, fs, v, ex, ea, hz, hf, T, hno, ed, l, q⟩
  subst ex
  obtain rfl : u = Value.ref a := rx
  exact xget I1 T hno (I1.hok a _ ea).1 hz hf ed l fun u ru => ⟨v, H1, I1.tok _, ru, q⟩
/-- .. in the suite itself, where it is pinned -/
def tXfP (K : PySem.W.Frag) (a : Addr) (cls : Value) (d : Option Addr) (te : TE) (n : Str) : TE := fun σ H Q => te σ H fun x H1 => x = .ref a ∧ ∃ (C dd : Addr) (fs : List (Str × V)) (v : V), cls = .ref C ∧ d = some dd ∧ XC K C ∧
  PySem.W.findIn K (.ref C) n = some none ∧ H1 dd = some (.xd fs) ∧ fs.lookup n = some v ∧ Q v H1
theorem ge_fxp {a : Addr} {oe : Obj} {cls : Value} {d : Option Addr} {pn : List (Addr × Obj)} (hz : Zc cls d oe) (hf : ∃ vs, oe.data = .fields vs) (he : PE (X.suite a ((a, oe) :: pn)) e te) (hb : attributeBase e n X.env (eval e X.env) = eval e X.env := by rfl) :
    PE (X.suite a ((a, oe) :: pn)) (.Attribute e n pos) (tXfP X.K a cls d te n) := by
  constructor
  intro pins s σ H Q I h
  refine attr_of hb (thn (he.run pins s σ H _ I h) ?_)
  rintro u s1 ⟨x, H1, I1, rx, ex, C, dd, fs, v, ec, ed, T, hno, eh, l, q⟩
  subst ex ec ed
  obtain rfl : u = Value.ref a := rx
  obtain ⟨get, _⟩ := I1.pin (a, oe) (List.mem_append_left _ List.mem_cons_self)
  exact xget (X := X.suite a ((a, oe) :: pn)) I1 T hno get hz hf eh l fun u ru => ⟨v, H1, I1.tok _, ru, q⟩
/-- isinstance(e, D), e handed in -/
def rIsF (K : PySem.W.Frag) : List V → Hp → VK → Prop := fun xs H Q => ∃ (a C D d : Addr) (o : Obj) (fs : List (Str × V)) (b : Bool), xs = [.ref a, .ref D] ∧ H a = some (FX o a) ∧ Zc (.ref C) (some d) o ∧ (∃ vs, o.data = .fields vs) ∧ H d = some (.xd fs) ∧ XC K C ∧
  PySem.W.kitOne K (.ref C) (.ref D) = some b ∧ Q (.bl b) H
theorem call_isF : CallR X (.builtin "isinstance") (rIsF X.K) := by
  intro pins s σ H xs us Q I r h
  obtain ⟨a, C, D, d, o, fs, b, rfl, ea, hz, hf, ed, T, e, q⟩ := h
  obtain ⟨u1, u2, rfl, r1, r2⟩ := vals2 r
  cases r1
  cases r2
  obtain ⟨od, mA, J, hl, hr⟩ := fx_inst I (I.hok a _ ea).1 hz.1 hz.2 hf ed
  exact PySem.W.kia_one (xc_kit T) I.kIn J e (fun z => nomatch z) fun tk => ⟨.bl b, H, I.kept (t' := tk) fun _ _ z => z, rfl, q⟩
/-- .. in the suite itself -/
def rIsP (K : PySem.W.Frag) (a : Addr) (cls : Value) (d : Option Addr) : List V → Hp → VK → Prop := fun xs H Q => ∃ (C D dd : Addr) (fs : List (Str × V)) (b : Bool), xs = [.ref a, .ref D] ∧ cls = .ref C ∧ d = some dd ∧ H dd = some (.xd fs) ∧ XC K C ∧
  PySem.W.kitOne K (.ref C) (.ref D) = some b ∧ Q (.bl b) H
theorem call_isP {a : Addr} {oe : Obj} {cls : Value} {d : Option Addr} {pn : List (Addr × Obj)} (hz : Zc cls d oe) (hf : ∃ vs, oe.data = .fields vs) : CallR (X.suite a ((a, oe) :: pn)) (.builtin "isinstance") (rIsP X.K a cls d) := by
  intro pins s σ H xs us Q I r h
  obtain ⟨C, D, dd, fs, b, rfl, rfl, rfl, ed, T, e, q⟩ := h
  obtain ⟨u1, u2, rfl, r1, r2⟩ := vals2 r
  cases r1
  cases r2
  obtain ⟨get, _⟩ := I.pin (a, oe) (List.mem_append_left _ List.mem_cons_self)
  obtain ⟨od, mA, J, hl, hr⟩ := fx_inst (X := X.suite a ((a, oe) :: pn)) I get hz.1 hz.2 hf ed
  exact PySem.W.kia_one (xc_kit T) I.kIn J e (fun z => nomatch z) fun tk => ⟨.bl b, H, I.kept (t' := tk) fun _ _ z => z, rfl, q⟩
end

/-! ## repr(x) of data -/
/-- data, or an empty dict -/
def Dq (K : PySem.W.Frag) (H : Hp) (v : V) (d : PyData) : Prop := Dp K H v d ∨ ∃ a, v = .ref a ∧ H a = some (.dK []) ∧ d = .dict []
def rRepr (K : PySem.W.Frag) : List V → Hp → VK → Prop := fun xs H Q => ∃ v d, xs = [v] ∧ Dq K H v d ∧ d.showable = true ∧ d.depth ≤ 60 ∧ d.shown.length ≤ sizeLine ∧ Q (.str d.shown) H
mutual
theorem dp_noDict {K : PySem.W.Frag} {H : Hp} : ∀ (d : PyData) (v : V), Dp K H v d → d.hasDict = false
  | .none, _, _ => by simp only [PyData.hasDict]
  | .bool _, _, _ => by simp only [PyData.hasDict]
  | .int _, _, _ => by simp only [PyData.hasDict]
  | .str _, _, _ => by simp only [PyData.hasDict]
  | .list ds, _, h => by
    cases h with
    | lst _ ha =>
      simp only [PyData.hasDict]
      exact dp_noDictAll ds _ ha
  | .tuple ds, _, h => by
    cases h with
    | tup _ ha =>
      simp only [PyData.hasDict]
      exact dp_noDictAll ds _ ha
  | .dict _, _, h => by cases h
theorem dp_noDictAll {K : PySem.W.Frag} {H : Hp} : ∀ (ds : List PyData) (vs : List V), DpAll K H vs ds → PyData.hasDictAll ds = false
  | [], _, _ => by simp only [PyData.hasDictAll]
  | d :: ds, _, h => by
    cases h with
    | cons h1 h2 => simp only [PyData.hasDictAll, dp_noDict d _ h1, dp_noDictAll ds _ h2, Bool.or_self]
end
theorem dq_reads {X : Cx} {pins : List (Addr × Obj)} {σ : L2.St} {H : Hp} {s : Shared} (I : Inv X pins σ H s) {d : PyData} {v : V} {u : Value} (h : Dq X.K H v d) (r : RelV v u) : ∃ as, Reads s.heap u d as ∧ (d.hasDict = true → sysModules ∉ as) := by
  rcases h with h | ⟨a, rfl, ha, rfl⟩
  · obtain ⟨as, q⟩ := Dp.reads I d v u h r
    exact ⟨as, q, fun z => by rw [dp_noDict d v h] at z; cases z⟩
  · obtain rfl : u = Value.ref a := r
    have x : ObjOk X.prog X.w H s.heap a (.dK []) := I.hok a _ ha
    obtain ⟨_, ns, vs, hv, o, es, ep, ho, hx, hd, _, he, _⟩ := x
    cases hv
    have nil : es.toList = [] := by
      generalize es.toList = l at he
      cases he
      rfl
    refine ⟨_, Reads.dict (kvs := []) ho hx.1 hd (by rw [nil]; exact ReadsAll.nil) (by rw [nil]; exact ReadsAll.nil), fun _ z => ?_⟩
    have z' : sysModules = a := by simpa using z
    rw [← z'] at ns
    simp at ns
theorem call_reprD {X : Cx} {k : Nat} {c : Bool} (hr : Rm c k X.A) : CallR X (.builtin "repr") (rRepr X.K) := by
  intro pins s σ H xs us Q I r h
  obtain ⟨v, d, rfl, hd, hs, hdep, hz, q⟩ := h
  cases r with
  | cons rv rn =>
    cases rn
    have ok : ∀ h' tk, (∀ b o, s.heap.get? b = some o → h'.get? b = some o) → ∀ u, EP X pins σ Q (.str d.shown u) { s with heap := h', toks := tk } := fun h' tk kp u =>
      ⟨.str d.shown, H, I.kept (t' := tk) kp, ⟨u, rfl⟩, q⟩
    have hu : X.A.units + (d.depth + 1) < cLine := by have z := hr.un; omega
    obtain ⟨as, rd, sm⟩ := dq_reads I hd rv
    cases v with
    | ref a =>
      cases rv
      exact repr_of_reads' rd hs sm hr.gd hu (fun _ _ z => z) (fun h' u tk kp => ok h' tk kp u) hz
    | non =>
      cases rv
      cases rd
      exact PySem.P.repr_of_none (ok s.heap _ (fun _ _ z => z) _)
    | bl b =>
      cases rv
      cases rd
      exact PySem.P.repr_of_bool (ok s.heap _ (fun _ _ z => z) _)
    | int i =>
      obtain ⟨t, rfl⟩ := rv
      cases rd
      exact PySem.P.repr_of_int (by simpa [PyData.showable] using hs) (ok s.heap _ (fun _ _ z => z) _)
    | str x =>
      obtain ⟨t, rfl⟩ := rv
      cases rd
      exact PySem.P.repr_of_str (ok s.heap _ (fun _ _ z => z) _) (by simpa [PyData.shown] using hz)
    | byt b => obtain ⟨t, rfl⟩ := rv; cases rd
    | flt b => obtain ⟨t, rfl⟩ := rv; cases rd
    | ty n => cases rv; cases rd
end GL

namespace GL
open PySem PySem.Spec PyProof.Rows L2

/-! ## the head: what is looked at behind the top -/
abbrev AlG : Type := He.AlD × Bool
/-- what the module's names reach in n steps, and the machine's own statics -/
def rootG (g : Addr → Option Obj) : Nat → List Addr
  | 0 => [mainGlobals, cStatics]
  | n + 1 => He.growD g (rootG g n)
def fragG (n : Nat) (g : Addr → Option Obj) : PySem.W.Frag := He.frG g (rootG g n)
def obG (n : Nat) (fa : List He.Fa) (fn : List He.DefD) (ex : PySem.W.Frag → Bool) (g : Addr → Option Obj) : AlG := (He.obsD fa fn (fragG n g), ex (fragG n g))
def hookG (n : Nat) (fa : List He.Fa) (fn : List He.DefD) (ex : PySem.W.Frag → Bool) : PySem.W.Hook where
  α := AlG
  obs := fun s => obG n fa fn ex s.heap.get?
  val := fun _ => (He.valD fn, true)
  says := fun _ h => ∃ K : PySem.W.Frag, K.In h ∧ He.SaysD fa fn K ∧ ex K = true
  of := fun _ _ e => ⟨_, He.frG_in, congrArg (fun z : AlG => z.1) e, congrArg (fun z : AlG => z.2) e⟩
  keeps := fun _ _ _ ⟨K, hK, c, x⟩ k => ⟨K, PySem.W.Frag.In.keeps hK k, c, x⟩
theorem obG_eq {n : Nat} {fa : List He.Fa} {fn : List He.DefD} {ex : PySem.W.Frag → Bool} {g : Addr → Option Obj} {s : Shared} (h : ∀ a, g a = s.heap.get? a) : obG n fa fn ex g = (hookG n fa fn ex).obs s := by
  have e : g = s.heap.get? := funext h
  rw [e] <;> rfl

/-! ## the end of a law -/
theorem only_call {P : Program} {w : World} {K : PySem.W.Frag} {mg mb : Str → Option Value} {k : Nat} {fa a : Addr} {fd : FuncData} {x : Str} {sp : Sp} {s1 : Shared} {vs : List Value} {ns : List Int}
    (KX : K.In s1.heap) (hns : s1.heap.Ns mainGlobals mg) (hb : s1.heap.Ns builtinsNs mb) (hbb : ∀ x : Str, x ≠ "__name__" → mb x = bootBuiltins x) (hlim : s1.heap.NoLimit) (hg : s1.gens = #[])
    (ha : s1.heap.get? a = some { cls := .type "list", data := .seq vs.toArray }) (hi : IntsAre vs ns) (hl : ns.length ≤ sizeLine) (hr : Rm true k callerA)
    (F : ∀ base : Heap, K.In base → base.Ns mainGlobals mg → Fn true P w K mg base k fa fd [x] sp) (hbind : ∀ (s : Shared) (u : Value), BindsTo s fd ⟨[u], []⟩ [(x, u)])
    (hsp : ∀ H : Hp, Only H → SqL K H a (ns.map V.int) → sp [.ref a] H (fun v _ => v = .bl true) E0) :
    codeAny (model P w) callerA (.call (.ref fa) ⟨[.ref a], []⟩) (fun r s' => r = .ok (.ret (.bool true)) ∧ OldK s1.heap s'.heap ∧ s'.os = s1.os ∧ AllBare s'.gens) s1 := by
  have rv := vals_ints hi
  have lenV := hi.length
  have core : ∀ H : Hp, Only H → SqL K H a (ns.map V.int) → HOk P w H s1.heap → (∀ b, H b ≠ none → b = a) → (H a ≠ none → K.lookup a = none) →
      codeAny (model P w) callerA (.call (.ref fa) ⟨[.ref a], []⟩) (fun r s' => r = .ok (.ret (.bool true)) ∧ OldK s1.heap s'.heap ∧ s'.os = s1.os ∧ AllBare s'.gens) s1 := by
    intro H hO hS hok hA hK
    have isA : ∀ {b : Addr} {u : HO}, H b = some u → b = a := fun {b u} z => hA b (by rw [z]; simp)
    have noA : ∀ {b : Addr} {o : Obj} {es : Array DictEntry} {ep : Nat}, s1.heap.get? b = some o → o.data = .dict es ep → H b = none := by
      intro b o es ep e d
      cases q : H b with
      | none => rfl
      | some u =>
        have e' := isA q
        subst e'
        rw [ha] at e
        cases e
        cases (show Data.seq vs.toArray _ = Data.dict es ep from d)
    have nsB : ∀ {b : Addr} {m : Str → Option Value}, s1.heap.Ns b m → (hidT s1.heap H).Ns b m := fun {b m} ⟨o, es, ep, e, d, r⟩ => ⟨o, es, ep, hidT_get e (noA e d), d, r⟩
    have hKb : K.In (hidT s1.heap H) := fun b o e => hidT_get (KX b o e) (by
      cases q : H b with
      | none => rfl
      | some u =>
        have e' := isA q
        subst e'
        rw [hK (by rw [q]; simp)] at e
        cases e)
    have hM : Mod K mg (hidT s1.heap H) := ⟨hKb, nsB hns, ⟨mb, nsB hb, hbb⟩, let ⟨mc, h1, h2⟩ := hlim; ⟨mc, nsB h1, h2⟩⟩
    have e0 : Env0 P w K mg (hidT s1.heap H) callerA [] s1 H := ⟨rfl, hM, fun b o e => of_hidT e, Nat.le_of_eq (hidT_size _ _), trivial, fun b hb => absurd (show b ∈ ([] : List Addr) from hb) (by simp), hok, .of_eq hg⟩
    have run := (F _ hKb (nsB hns)).run callerA [] s1 H ⟨[.ref a], []⟩ [.ref a] [.ref a] _ E0 hr e0 (hbind s1 (.ref a)) (.cons rfl .nil) (hsp H hO hS)
    refine codeAny_mono run fun r s' z => ?_
    match r, z with
    | .error e, z =>
      obtain ⟨_, _, _, _, _, _, _, _, _, _, _, _, z⟩ := z
      exact z.elim
    | .ok .next, z => exact z.elim
    | .ok .brk, z => exact z.elim
    | .ok .cont, z => exact z.elim
    | .ok (.ret u), ⟨v, H', os, bare, un, hok', r', q⟩ =>
      have q' : v = .bl true := q
      subst q'
      obtain rfl : u = Value.bool true := r'
      refine ⟨rfl, OldK.of_keep fun b o e => ?_, os, bare⟩
      cases q : H b with
      | none => exact un.keep b o e q (fun z => absurd (show b ∈ ([] : List Addr) from z) (by simp)) (by simp)
      | some u =>
        rcases hO b with z | ⟨ob, xs, z⟩
        · rw [q] at z
          cases z
        · obtain ⟨e1, _⟩ := hok b _ z
          obtain ⟨e2, _⟩ := hok' b _ (un.frzs b ob _ z)
          rw [e] at e1
          cases e1
          exact e2
  cases hk : K.lookup a with
  | some o =>
    have e := KX a o hk
    rw [ha] at e
    cases e
    refine core (fun _ => none) (fun _ => .inl rfl) (.inr ⟨_, vs.toArray, _, hk, rfl, rfl, rfl, by rw [List.size_toArray, lenV]; exact hl, by simpa using rv⟩) (fun b u z => by cases (show (none : Option HO) = some u from z)) (fun b z => absurd rfl z) fun z => absurd rfl z
  | none =>
    refine core (fun b => if b = a then some (.frz { cls := .type "list", data := .seq vs.toArray } (.lst (ns.map V.int))) else none) (fun b => ?_) (.inl (.inr ⟨{ cls := .type "list", data := .seq vs.toArray }, if_pos rfl⟩)) (fun b u z => ?_) (fun b z => ?_) fun _ => hk
    · by_cases hb : b = a
      · exact .inr ⟨_, _, if_pos hb⟩
      · exact .inl (if_neg hb)
    · by_cases hb : b = a
      · have z' := (if_pos hb).symm.trans z
        cases z'
        subst hb
        exact ⟨ha, by rw [List.length_map]; exact hl, vs, _, rv, ha⟩
      · cases (if_neg hb).symm.trans z
    · by_cases hb : b = a
      · exact hb
      · exact absurd (if_neg hb) z
theorem walk_end {l : PySem.W.OpenLaw} {n k : Nat} {q : Program} {loose : List Str} {XP : (Str → Option Value) → Heap → Prop} {YP : World → Heap → Prop} {d : DefRec} {x : Str}
    (hn : l.most = some n) (hn2 : n ≤ sizeLine) (hdf : d.params.defaults = []) (hr : Rm true k callerA)
    (F : ∀ (w : World) (mg : Str → Option Value) (fa : Addr) (h : Heap), YP w h → h.Ns mainGlobals mg → mg d.name = some (.ref fa) →
      ∃ (K : PySem.W.Frag) (fd : FuncData) (sp : Sp), K.In h ∧ (∀ (s : Shared) (u : Value), BindsTo s fd ⟨[u], []⟩ [(x, u)]) ∧
        (∀ (H : Hp) (a : Addr) (ns : List Int), ns.length ≤ n → Only H → SqL K H a (ns.map V.int) → sp [.ref a] H (fun v _ => v = .bl true) E0) ∧
        ∀ base : Heap, K.In base → base.Ns mainGlobals mg → Fn true l.prog w K mg base k fa fd [x] sp) :
    PySem.W.WalkO q loose XP YP l.row.toRowW d [] (fun f vs => PySem.call f vs) := by
  refine Att.attach_call hn hdf fun w s0 s1 mg mb fa o pm cd doc a vs ns G Y ho hd hcd hmg hobj hints hlen hg => ?_
  obtain ⟨K, fd, sp, KX, hb, hsp, hF⟩ := F w mg fa _ Y G.T.g hmg
  exact only_call KX G.T.g G.T.b G.T.builtins G.T.nolimit hg hobj hints (Nat.le_trans hlen hn2) hr hF hb fun H hO hS => hsp H a ns hlen hO hS
end GL

namespace GL
open PySem PySem.Spec PyProof.Rows L2

/-! ## what the head must say of exception classes, as one truth value -/
def bT : Bool × Bool → Bool := fun p => p.1 && p.2
theorem bT_ok {a b : Bool} (h : (a && b) = true) : a = true ∧ b = true := Bool.and_eq_true_iff.mp h
def eqV2 (a b : Option (Option Value)) : Bool := decide (a = b)
theorem eqV2_ok {a b : Option (Option Value)} (h : eqV2 a b = true) : a = b := of_decide_eq_true h
/-- an exception class over ValueError, whatever stands between -/
def xcB (K : PySem.W.Frag) (C : Addr) : Bool :=
  (match K.lookup C with
    | some ⟨.type "type", _, .cls cd, sl⟩ => (match cd.mro, sl.toList with
      | .ref C' :: bm, [_, _, _, _, some (.builtin n), _] => decide (C' = C) && (decide (n = "ValueError.__new__") && (decide (cd.hasDel = false) && (decide (cd.hasDict = true) && HandSPX.refsVE bm)))
      | _, _ => false)
    | _ => false) &&
  (eqV2 (PySem.W.findIn K (.ref C) "__setattr__") (some (some (.builtin "object.__setattr__"))) &&
  (decide (PySem.W.subIn K (.ref C) (.type "BaseException") = some true) &&
  (decide (PySem.W.typeIn K (.ref C) = some (.type "type")) &&
  (PySem.W.keepIn K (.ref C) &&
  (eqV2 (PySem.W.findIn K (.ref C) "__getattribute__") (some (some (.builtin "BaseException.__getattribute__"))) &&
  (eqV2 (PySem.W.findIn K (.ref C) "__getattr__") (some none) &&
  (PySem.W.hasDictIn K C &&
  (eqV2 (PySem.W.findIn K (.ref C) "__class__") (some (some (.builtin "object.__class__"))) &&
  (eqV2 (PySem.W.specialIn K (.builtin "object.__class__") "__get__") (some (some (.builtin "getset_descriptor.__get__"))) &&
  (decide (PySem.W.takesIn K (.builtin "object.__class__") = some true) &&
  decide (PySem.W.mroIn K C (.type "object") = some true)))))))))))
theorem xcB_ok {K : PySem.W.Frag} {C : Addr} (h : xcB K C = true) : OexC K C ∧ XC K C := by
  unfold xcB at h
  obtain ⟨h0, h⟩ := bT_ok h
  obtain ⟨h1, h⟩ := bT_ok h
  obtain ⟨h2, h⟩ := bT_ok h
  obtain ⟨h3, h⟩ := bT_ok h
  obtain ⟨h4, h⟩ := bT_ok h
  obtain ⟨h5, h⟩ := bT_ok h
  obtain ⟨h6, h⟩ := bT_ok h
  obtain ⟨h7, h⟩ := bT_ok h
  obtain ⟨h8, h⟩ := bT_ok h
  obtain ⟨h9, h⟩ := bT_ok h
  obtain ⟨ha, hb⟩ := bT_ok h
  refine ⟨⟨?_, eqV2_ok h1, of_decide_eq_true h2, of_decide_eq_true h3, h4⟩, ⟨eqV2_ok h5, eqV2_ok h6, of_decide_eq_true h2, h7, eqV2_ok h8, eqV2_ok h9, of_decide_eq_true ha, of_decide_eq_true hb⟩⟩
  split at h0
  · rename_i dd cd sl ho
    split at h0
    · rename_i C' bm k0 k1 k2 k3 n k5 hm hs
      obtain ⟨e1, g1⟩ := bT_ok h0
      obtain ⟨e2, g2⟩ := bT_ok g1
      obtain ⟨e3, g3⟩ := bT_ok g2
      obtain ⟨e4, g4⟩ := bT_ok g3
      have f1 : C' = C := of_decide_eq_true e1
      have f2 : n = "ValueError.__new__" := of_decide_eq_true e2
      have f3 : cd.hasDel = false := of_decide_eq_true e3
      have f4 : cd.hasDict = true := of_decide_eq_true e4
      obtain ⟨nm, bs, mro, ns, qn, hd, sn, sub, ab, col, del⟩ := cd
      dsimp only at hm f3 f4
      subst hm f3 f4 f1 f2
      have es : sl = #[k0, k1, k2, k3, some (.builtin "ValueError.__new__"), k5] := by
        obtain ⟨ls⟩ := sl
        simp only at hs
        rw [hs]
      subst es
      exact ⟨_, _, _, _, _, _, _, _, _, _, _, _, _, _, _, ho, g4⟩
    · cases h0
  · cases h0
def noB (K : PySem.W.Frag) (C : Addr) (f : Str) : Bool := eqV2 (PySem.W.findIn K (.ref C) f) (some none)
/-- a def read off a class -/
def clB (K : PySem.W.Frag) (C f : Addr) (m : Str) : Bool :=
  eqV2 (PySem.W.specialIn K (.ref C) "__getattribute__") (some (some (.builtin "type.__getattribute__"))) && (PySem.W.readsIn K C (.type "type") &&
  ((match PySem.W.findCls K (.ref C) (.type "type") m with
    | some (.val (.ref g)) => decide (g = f)
    | _ => false) && PySem.W.keepIn K (.ref f)))
theorem clB_ok {K : PySem.W.Frag} {C f : Addr} {m : Str} (h : clB K C f m = true) : ClF K C f m := by
  unfold clB at h
  obtain ⟨h1, h⟩ := bT_ok h
  obtain ⟨h2, h⟩ := bT_ok h
  obtain ⟨h3, h4⟩ := bT_ok h
  refine ⟨eqV2_ok h1, h2, ?_, h4⟩
  split at h3
  · rename_i g e
    rw [e, of_decide_eq_true h3]
  · cases h3
/-- who is whose -/
def kitB (K : PySem.W.Frag) (C D : Addr) (b : Bool) : Bool := decide (PySem.W.kitOne K (.ref C) (.ref D) = some b)
def exmB (K : PySem.W.Frag) (C D : Addr) (b : Bool) : Bool := decide (PySem.W.exmOne K (.ref C) (.ref D) = some b)
open He in
/-- the errors: the base, the others by name with their fields; none is another's heir -/
def errB (K : PySem.W.Frag) (base : Str) (xs : List (Str × List Str)) : Bool :=
  xcB K (ga K base) && (noB K (ga K base) "why" && (clB K (ga K base) (ma K (ga K base) "__init__") "__init__" &&
  (xs.all fun p => xcB K (ga K p.1) && (noB K (ga K p.1) "why" && ((p.2.all fun f => noB K (ga K p.1) f) &&
    (kitB K (ga K p.1) (ga K base) true && (exmB K (ga K p.1) (ga K base) true &&
      xs.all fun q => kitB K (ga K p.1) (ga K q.1) (decide (p.1 = q.1)) && exmB K (ga K p.1) (ga K q.1) (decide (p.1 = q.1)))))))))
/-- ValueError's own __init__ -/
def veB (K : PySem.W.Frag) : Bool := match PySem.W.findCls K (.type "ValueError") (.type "type") "__init__" with
  | some (.val (.builtin n)) => decide (n = "ValueError.__init__")
  | _ => false
theorem veB_ok {K : PySem.W.Frag} (h : veB K = true) : PySem.W.findCls K (.type "ValueError") (.type "type") "__init__" = some (.val (.builtin "ValueError.__init__")) := by
  unfold veB at h
  split at h
  · rename_i n e
    rw [e, of_decide_eq_true h]
  · cases h
/-- .. told -/
structure ErrC (K : PySem.W.Frag) (base : Str) (xs : List (Str × List Str)) (x : Str) : Prop where
  oex : OexC K (He.ga K x)
  xc : XC K (He.ga K x)
  why : PySem.W.findIn K (.ref (He.ga K x)) "why" = some none
  kb : PySem.W.kitOne K (.ref (He.ga K x)) (.ref (He.ga K base)) = some true
  eb : PySem.W.exmOne K (.ref (He.ga K x)) (.ref (He.ga K base)) = some true
  kit : ∀ q ∈ xs, PySem.W.kitOne K (.ref (He.ga K x)) (.ref (He.ga K q.1)) = some (decide (x = q.1))
  exm : ∀ q ∈ xs, PySem.W.exmOne K (.ref (He.ga K x)) (.ref (He.ga K q.1)) = some (decide (x = q.1))
theorem errB_at {K : PySem.W.Frag} {base : Str} {xs : List (Str × List Str)} (h : errB K base xs = true) {p : Str × List Str} (hp : p ∈ xs) : ErrC K base xs p.1 ∧ ∀ f ∈ p.2, PySem.W.findIn K (.ref (He.ga K p.1)) f = some none := by
  unfold errB at h
  obtain ⟨_, h⟩ := bT_ok h
  obtain ⟨_, h⟩ := bT_ok h
  obtain ⟨_, h⟩ := bT_ok h
  have z := List.all_eq_true.mp h p hp
  obtain ⟨z1, z⟩ := bT_ok z
  obtain ⟨z2, z⟩ := bT_ok z
  obtain ⟨z3, z⟩ := bT_ok z
  obtain ⟨z4, z⟩ := bT_ok z
  obtain ⟨z5, z⟩ := bT_ok z
  refine ⟨⟨(xcB_ok z1).1, (xcB_ok z1).2, eqV2_ok z2, of_decide_eq_true z4, of_decide_eq_true z5, fun q hq => ?_, fun q hq => ?_⟩, fun f hf => eqV2_ok (List.all_eq_true.mp z3 f hf)⟩
  · exact of_decide_eq_true (bT_ok (List.all_eq_true.mp z q hq)).1
  · exact of_decide_eq_true (bT_ok (List.all_eq_true.mp z q hq)).2
theorem errB_base {K : PySem.W.Frag} {base : Str} {xs : List (Str × List Str)} (h : errB K base xs = true) : ClF K (He.ga K base) (He.ma K (He.ga K base) "__init__") "__init__" := by
  unfold errB at h
  obtain ⟨_, h⟩ := bT_ok h
  obtain ⟨_, h⟩ := bT_ok h
  exact clB_ok (bT_ok h).1
end GL

namespace GL
open PySem PySem.Spec PyProof.Rows L2

/-! ## small things that derivations name -/
theorem Rm.u65 {c : Bool} {k : Nat} {A : Around} (r : Rm c k A) : A.units + 65 < cLine := by have z := r.un; omega
theorem tk_top {c : Bool} {P : Program} {w : World} {K : PySem.W.Frag} {mg : Str → Option Value} {base : Heap} {N : List Str} {qual : Str} {scope : Scope} {f : Addr} {cd : Value} {A : Around} {outer : List Env} {s : Shared} {H : Hp} {E : XK} :
    Takes (cxG c P w K mg base N qual scope f cd A outer s H E) (fun cls d _ H => E cls d H) := takes_of rfl rfl rfl rfl
theorem po_top {c : Bool} {P : Program} {w : World} {K : PySem.W.Frag} {mg : Str → Option Value} {base : Heap} {N : List Str} {qual : Str} {scope : Scope} {f : Addr} {cd : Value} {A : Around} {outer : List Env} {s : Shared} {H : Hp} {E : XK} :
    PassesOwn (model (cxG c P w K mg base N qual scope f cd A outer s H E).prog (cxG c P w K mg base N qual scope f cd A outer s H E).w) (cxG c P w K mg base N qual scope f cd A outer s H E).A (cxG c P w K mg base N qual scope f cd A outer s H E).env (cxG c P w K mg base N qual scope f cd A outer s H E).xe := PassesOwn.leaving
theorem pe_gint {X : Cx} {x : Str} {i : Int} {pos : Pos} (hg : Gl X x) (h : ∃ t, X.mg x = some (.int i t)) (hd : (x == ("__debug__" : Str)) = false := by decide) : PE X (.Name x pos) (tC (.int i)) := by
  obtain ⟨t, ht⟩ := h
  exact pe_glob hg ht ⟨t, rfl⟩ hd
theorem ge_call0 {X : Cx} {c : Bool} {k : Nat} {sp : Sp} {x : Str} {p pos : Pos} {W : WX} (G : GF c X.prog X.w X.K X.mg X.base x k sp) (hr : Rm c k X.A) (tk : Takes X W) (hg : Gl X x) (hdb : (x == ("__debug__" : Str)) = false := by decide) :
    PE X (.Call (.Name x p) [] [] pos) (cCall sp W tNil) := by
  obtain ⟨f, F, hm, hk⟩ := G.ex
  constructor
  intro pins s σ H Q I h
  refine wpAny_Call_Name_kw (ld_glob I hg hm ?_ hdb)
  exact PySem.W.callWith_K0 I.kIn hk (go_fn (us := []) F hr (arr_of tk σ) I .nil h)

/-! ## == of anything that is data; list.count of plain values -/
def rEqU (K : PySem.W.Frag) : R2 := fun x y H Q => rEq x y H Q ∨ rEqD K x y H Q
def rNeU (K : PySem.W.Frag) : R2 := fun x y H Q => rNe x y H Q ∨ rNeD K x y H Q
theorem op_eqU {X : Cx} (hu : X.A.units + 64 < cLine) : OpR X (compareOp .Eq) (rEqU X.K) := OpR.or op_eq (op_eqD hu)
theorem op_neU {X : Cx} (hu : X.A.units + 64 < cLine) : OpR X (compareOp .NotEq) (rNeU X.K) := OpR.or op_ne (op_neD hu)
def rCntF (K : PySem.W.Frag) : V → List V → Hp → VK → Prop := fun x xs H Q => ∃ (p : Addr) (y : V) (ys : List V), x = .ref p ∧ xs = [y] ∧ SqL K H p ys ∧ flatV y = true ∧ ys.all flatV = true ∧ Q (.int ((ys.countP fun z => L2.eqV z y) : Nat)) H
theorem countP_eqU {y : V} : ∀ {ys : List V} {us : List Value}, Vals ys us → ys.all flatV = true → us.countP (eqU y) = ys.countP fun z => L2.eqV z y
  | _, _, .nil, _ => rfl
  | z :: zs, u :: us, .cons r t, f => by
    rw [List.all_cons, Bool.and_eq_true] at f
    rw [List.countP_cons, List.countP_cons, countP_eqU t f.2, eqU_of r f.1]
theorem mt_countT {X : Cx} : MtR X "list.count" (rCntF X.K) := by
  intro pins s σ H x xs v us Q I rx rxs h
  obtain ⟨p, y, ys, rfl, rfl, hs, fy, fys, q⟩ := h
  cases rx
  obtain ⟨u, rfl, ru⟩ := rxs.one
  obtain ⟨its, rv, ⟨⟨cls, dd, data, sl⟩, n, ho, hc, hdn, hd⟩, hlen⟩ := I.list hs
  simp only at hc hd
  subst hc hd
  refine call_meets PySem.F.slot_list_count ⟨_, ho, rfl⟩ PySem.F.entry_list_count (PySem.F.args_list_count_2 _ _)
    (SeqAt.list_countAt p its.toArray n dd sl u (eqU y)) ⟨ho, fun z hz => mem_eqAt ru fy rv fys z (by simpa using hz), ?_⟩
  have e : its.toArray.toList.countP (eqU y) = ys.countP fun z => L2.eqV z y := countP_eqU rv fys
  rw [e]
  exact ⟨.int _, H, I.tok _, ⟨s.toks, rfl⟩, q⟩
/-- len of a list, a tuple, a text, a dict -/
def rLenU (K : PySem.W.Frag) : List V → Hp → VK → Prop := fun xs H Q => (∃ x n, xs = [x] ∧ LenV K x H n ∧ Q (.int n) H) ∨ ∃ a kvs, xs = [V.ref a] ∧ H a = some (.dK kvs) ∧ Q (.int kvs.length) H
theorem call_lenU {X : Cx} : CallR X (.builtin "len") (rLenU X.K) := CallR.or call_len call_lenD
theorem mt_lclear {X : Cx} : MtM X "list.clear" rClear := mt_clear

/-! ## reading a derivation, a step at a time -/
section
variable {K : PySem.W.Frag} {σ : L2.St} {H : Hp} {D : Ends} {Q : VK}
theorem rd_seq {t u : TS} (h : t { D with nx := u D } σ H) : tSeq t u D σ H := h
theorem rd_next (h : D.nx σ H) : tNext D σ H := h
theorem rd_set {te : TE} {i : Nat} (h : te σ H fun v H1 => D.nx (σ.set i (some v)) H1) : tAsg te (gName i) D σ H := h
theorem rd_asg {te : TE} {g : TG} (h : te σ H fun v H1 => g v σ H1 D.nx) : tAsg te g D σ H := h
theorem rd_ret {te : TE} (h : te σ H D.rt) : tRet te D σ H := h
theorem rd_retN (h : D.rt .non H) : tRetN D σ H := h
theorem rd_drop {te : TE} (h : te σ H fun _ H1 => D.nx σ H1) : tDrop te D σ H := h
theorem rd_if {c : TT} {t u : TS} (h : c σ H fun b H1 => if b = true then t D σ H1 else u D σ H1) : tIfS c t u D σ H := h
theorem rd_ifE {c : TT} {ta tb : TE} (h : c σ H fun b H1 => if b = true then ta σ H1 Q else tb σ H1 Q) : tIf c ta tb σ H Q := h
theorem rd_var {i : Nat} {v : V} (h : σ[i]? = some (some v)) (q : Q v H) : tVar i σ H Q := ⟨v, h, q⟩
theorem rd_c {v : V} (q : Q v H) : tC v σ H Q := q
theorem rd_op {r : R2} {ta tb : TE} (h : ta σ H fun x H1 => tb σ H1 fun y H2 => r x y H2 Q) : tOp r ta tb σ H Q := h
theorem rd_un {r : V → Hp → VK → Prop} {ta : TE} (h : ta σ H fun x H1 => r x H1 Q) : tUn r ta σ H Q := h
theorem rd_i0 {g : Int → Int → V} {i j : Int} (q : Q (g i j) H) : rI0 g (.int i) (.int j) H Q := ⟨i, j, rfl, rfl, q⟩
theorem rd_i {C : Int → Int → Prop} {g : Int → Int → V} {i j : Int} (c : C i j) (q : Q (g i j) H) : rI C g (.int i) (.int j) H Q := ⟨i, j, rfl, rfl, c, q⟩
theorem rd_u {g : Int → V} {i : Int} (q : Q (g i) H) : rU g (.int i) H Q := ⟨i, rfl, q⟩
theorem rd_eq {x y : V} (s : scal x y = true) (q : Q (.bl (decide (x = y))) H) : rEq x y H Q := ⟨s, q⟩
theorem rd_ne {x y : V} (s : scal x y = true) (q : Q (.bl (!decide (x = y))) H) : rNe x y H Q := ⟨s, q⟩
theorem rd_eqII {i j : Int} (q : Q (.bl (decide (i = j))) H) : rEq (.int i) (.int j) H Q := ⟨rfl, by rw [show decide (V.int i = V.int j) = decide (i = j) from by simp]; exact q⟩
theorem rd_neII {i j : Int} (q : Q (.bl (!decide (i = j))) H) : rNe (.int i) (.int j) H Q := ⟨rfl, by rw [show decide (V.int i = V.int j) = decide (i = j) from by simp]; exact q⟩
theorem rd_eqSS {i j : Str} (q : Q (.bl (decide (i = j))) H) : rEq (.str i) (.str j) H Q := ⟨rfl, by rw [show decide (V.str i = V.str j) = decide (i = j) from by simp]; exact q⟩
theorem rd_neSS {i j : Str} (q : Q (.bl (!decide (i = j))) H) : rNe (.str i) (.str j) H Q := ⟨rfl, by rw [show decide (V.str i = V.str j) = decide (i = j) from by simp]; exact q⟩
theorem rd_eqUf {x y : V} (h : rEq x y H Q) : rEqU K x y H Q := .inl h
theorem rd_eqUd {x y : V} {d e : PyData} (hd : Dp K H x d) (he : Dp K H y e) (sd : SeqAt.shaped d = true) (se : SeqAt.shaped e = true) (q : Q (.bl (PyData.eqv d e)) H) : rEqU K x y H Q := .inr ⟨d, e, hd, he, sd, se, q⟩
theorem rd_neUf {x y : V} (h : rNe x y H Q) : rNeU K x y H Q := .inl h
theorem rd_neUd {x y : V} {d e : PyData} (hd : Dp K H x d) (he : Dp K H y e) (sd : SeqAt.shaped d = true) (se : SeqAt.shaped e = true) (q : Q (.bl (!PyData.eqv d e)) H) : rNeU K x y H Q := .inr ⟨d, e, hd, he, sd, se, q⟩
theorem rd_isN {x : V} (q : Q (.bl (decide (x = .non))) H) : (fun x y H Q => y = V.non ∧ Q (.bl (decide (x = .non))) H : R2) x .non H Q := ⟨rfl, q⟩
theorem rd_notN {x : V} (q : Q (.bl (!decide (x = .non))) H) : (fun x y H Q => y = V.non ∧ Q (.bl (!decide (x = .non))) H : R2) x .non H Q := ⟨rfl, q⟩
theorem rd_chain {r r' : R2} {ta tb tc : TE} (h : ta σ H fun x H1 => tb σ H1 fun y H2 => r x y H2 fun z H3 => ∃ k, z = .bl k ∧ (if k = true then tc σ H3 fun w' H4 => r' y w' H4 Q else Q (.bl false) H3)) : tChain r r' ta tb tc σ H Q := h
theorem rd_isbl {b : Bool} {R : Bool → Prop} (h : R b) : ∃ k, V.bl b = .bl k ∧ R k := ⟨b, rfl, h⟩
variable {B : Bool → Hp → Prop}
theorem rd_test {t : TE} (h : t σ H fun x H' => ∃ k, x = .bl k ∧ B k H') : tTest t σ H B := h
theorem rd_tB {t : TE} (h : t σ H fun x H' => ∃ k, x = .bl k ∧ B k H') : tB t σ H B := h
theorem rd_not {t : TT} (h : t σ H fun c H1 => B (!c) H1) : tNot t σ H B := h
theorem rd_and {t u : TT} (h : t σ H fun c H1 => if c = true then u σ H1 B else B false H1) : tAnd t u σ H B := h
theorem rd_or {t u : TT} (h : t σ H fun c H1 => if c = true then B true H1 else u σ H1 B) : tOr t u σ H B := h
theorem rd_andV {ta tb : TE} (h : ta σ H fun x H1 => ∃ c, x = .bl c ∧ if c = true then tb σ H1 Q else Q (.bl false) H1) : tAndV ta tb σ H Q := h
theorem rd_orV {ta tb : TE} (h : ta σ H fun x H1 => ∃ c, x = .bl c ∧ if c = true then Q (.bl true) H1 else tb σ H1 Q) : tOrV ta tb σ H Q := h
theorem rd_notV {ta : TE} (h : ta σ H fun x H1 => ∃ c, x = .bl c ∧ Q (.bl (!c)) H1) : tNotV ta σ H Q := h
variable {R : List V → Hp → Prop}
theorem rd_nil (h : R [] H) : tNil σ H R := h
theorem rd_cons {ta : TE} {tr : TA} (h : ta σ H fun x H1 => tr σ H1 fun xs H2 => R (x :: xs) H2) : tCons ta tr σ H R := h
theorem rd_cb {r : List V → Hp → VK → Prop} {t : TA} (h : t σ H fun vs H1 => r vs H1 Q) : tCB r t σ H Q := h
/-- a new tuple, a new list: what was there stays -/
theorem rd_tup {t : TA} (h : t σ H fun xs H1 => xs.length ≤ sizeLine ∧ ∀ p, H1 p = none → Q (.ref p) (upd H1 p (.tup xs))) : tTup t σ H Q := h
theorem rd_lst {t : TA} (h : t σ H fun xs H1 => xs.length ≤ sizeLine ∧ ∀ p, H1 p = none → Q (.ref p) (upd H1 p (.lst xs))) : tLst t σ H Q := h
theorem rd_newT {xs : List V} (h1 : xs.length ≤ sizeLine) (h : ∀ p H2, H p = none → Evl.Ex H H2 → H2 p = some (.tup xs) → Q (.ref p) H2) : xs.length ≤ sizeLine ∧ ∀ p, H p = none → Q (.ref p) (upd H p (.tup xs)) :=
  ⟨h1, fun p hp => h p _ hp (Evl.Ex.new hp) upd_same⟩
theorem rd_newL {xs : List V} (h1 : xs.length ≤ sizeLine) (h : ∀ p H2, H p = none → Evl.Ex H H2 → H2 p = some (.lst xs) → Q (.ref p) H2) : xs.length ≤ sizeLine ∧ ∀ p, H p = none → Q (.ref p) (upd H p (.lst xs)) :=
  ⟨h1, fun p hp => h p _ hp (Evl.Ex.new hp) upd_same⟩
theorem rd_fld {ta : TE} {f : Str} (h : ta σ H fun x H1 => ∃ a C dx fs v, x = .ref a ∧ H1 a = some (.ins C dx fs) ∧ Cls K C ∧ NoAttr K C f ∧ fs.lookup f = some v ∧ Q v H1) : tFld K ta f σ H Q := h
theorem rd_fldE {f : Str} {a C dx : Addr} {fs : List (Str × V)} {v : V} (h1 : H a = some (.ins C dx fs)) (h2 : Cls K C) (h3 : NoAttr K C f) (h4 : fs.lookup f = some v) (q : Q v H) :
    ∃ a' C' dx' fs' v', V.ref a = .ref a' ∧ H a' = some (.ins C' dx' fs') ∧ Cls K C' ∧ NoAttr K C' f ∧ fs'.lookup f = some v' ∧ Q v' H := ⟨a, C, dx, fs, v, rfl, h1, h2, h3, h4, q⟩
theorem rd_setf {ta tv : TE} {f : Str} (h : tv σ H fun y H1 => ta σ H1 fun x H2 => ∃ a C dx fs, x = .ref a ∧ H2 a = some (.ins C dx fs) ∧ Cls K C ∧ NoAttr K C f ∧ fs.length < 1000 ∧ D.nx σ (upd H2 a (.ins C dx (putF f y fs)))) : sFld K ta tv f D σ H := h
theorem rd_call {sp : Sp} {W : WX} {t : TA} (h : t σ H fun vs H1 => sp vs H1 Q fun cls d H' => W cls d σ H') : cCall sp W t σ H Q := h
theorem rd_call0 {sp : Sp} {t : TA} (h : t σ H fun vs H1 => sp vs H1 Q E0) : cCall0 sp t σ H Q := h
theorem rd_meth {C : Addr} {m : Str} {sp : Sp} {W : WX} {ta : TE} {t : TA} (h : ta σ H fun x H1 => ∃ a dx fs, x = .ref a ∧ H1 a = some (.ins C dx fs) ∧ fs.lookup m = none ∧ t σ H1 fun vs H2 => sp (x :: vs) H2 Q fun cls d H' => W cls d σ H') : cMeth C m sp W ta t σ H Q := h
theorem rd_methE {C : Addr} {m : Str} {a dx : Addr} {fs : List (Str × V)} {Z : Prop} (h1 : H a = some (.ins C dx fs)) (h2 : fs.lookup m = none) (q : Z) : ∃ a' dx' fs', V.ref a = .ref a' ∧ H a' = some (.ins C dx' fs') ∧ fs'.lookup m = none ∧ Z := ⟨a, dx, fs, rfl, h1, h2, q⟩
theorem rd_raise {t : L2.St → Hp → XK → Prop} {W : WX} (h : t σ H fun cls d H' => W cls d σ H') : (fun (_ : Ends) σ H => t σ H fun cls d H' => W cls d σ H' : TS) D σ H := h
theorem rd_xmk {C : Addr} {mk : List V → Option (List (Str × V))} {t : TA} {Z : XK} (h : t σ H fun vs H1 => vs.length ≤ 1000 ∧ ∃ fs, mk vs = some fs ∧ ∀ d, H1 d = none → Z (.ref C) (some d) (upd H1 d (.xd fs))) : xMk C mk t σ H Z := h
theorem rd_ix {ta tb : TE} (h : ta σ H fun x H1 => tb σ H1 fun y H2 => rIx K x y H2 Q) : tOp (rIx K) ta tb σ H Q := h
theorem rd_ixL {p : Addr} {xs : List V} {i : Int} {v : V} (h1 : SqL K H p xs) (h2 : atI xs i = some v) (q : Q v H) : rIx K (.ref p) (.int i) H Q := .inl ⟨p, xs, i, v, rfl, rfl, h1, h2, q⟩
theorem rd_ixT {p : Addr} {xs : List V} {i : Int} {v : V} (h1 : SqT K H p xs) (h2 : atI xs i = some v) (q : Q v H) : rIx K (.ref p) (.int i) H Q := .inr (.inl ⟨p, xs, i, v, rfl, rfl, h1, h2, q⟩)
theorem rd_lenL {p : Addr} {xs : List V} (h1 : SqL K H p xs) (q : Q (.int xs.length) H) : rLenU K [.ref p] H Q := .inl ⟨_, _, rfl, .inl ⟨xs, h1, rfl⟩, q⟩
theorem rd_lenT {p : Addr} {xs : List V} (h1 : SqT K H p xs) (q : Q (.int xs.length) H) : rLenU K [.ref p] H Q := .inl ⟨_, _, rfl, .inr ⟨xs, h1, rfl⟩, q⟩
theorem rd_lenS {z : Str} (h : z.length ≤ sizeLine) (q : Q (.int z.length) H) : rLenU K [.str z] H Q := .inl ⟨_, _, rfl, ⟨h, rfl⟩, q⟩
theorem rd_lenD {p : Addr} {kvs : List (Key × V)} (h1 : H p = some (.dK kvs)) (q : Q (.int kvs.length) H) : rLenU K [.ref p] H Q := .inr ⟨_, _, rfl, h1, q⟩
end
end GL

namespace GL
open PySem PySem.Spec PyProof.Rows L2 Evl

/-! ## what a step leaves alone -/
/-- what stands outside F stays -/
def Mu (F : List Addr) (H H' : Hp) : Prop := ∀ b o, H b = some o → b ∉ F → H' b = some o
theorem Mu.refl (F : List Addr) (H : Hp) : Mu F H H := fun _ _ h _ => h
theorem Mu.ofEx {F : List Addr} {H H' : Hp} (e : Ex H H') : Mu F H H' := fun b o h _ => e b o h
theorem Mu.ex {H H' : Hp} (m : Mu [] H H') : Ex H H' := fun b o h => m b o h (List.not_mem_nil)
theorem Mu.thenEx {F : List Addr} {H H1 H2 : Hp} (m : Mu F H H1) (e : Ex H1 H2) : Mu F H H2 := fun b o h n => e b o (m b o h n)
theorem Mu.afterEx {F : List Addr} {H H1 H2 : Hp} (e : Ex H H1) (m : Mu F H1 H2) : Mu F H H2 := fun b o h n => m b o (e b o h) n
theorem Mu.trans {F G : List Addr} {H H1 H2 : Hp} (m : Mu F H H1) (m2 : Mu G H1 H2) (s : ∀ b ∈ G, b ∈ F ∨ H b = none) : Mu F H H2 := fun b o h n =>
  m2 b o (m b o h n) fun z => (s b z).elim n fun w => by rw [w] at h; cases h
theorem Mu.set {F : List Addr} {H H' : Hp} {p : Addr} (m : Mu F H H') (hp : p ∈ F) (o : HO) : Mu F H (upd H' p o) := fun b u h n => by
  rw [upd_ne (fun z => n (by rw [z]; exact hp))]
  exact m b u h n
theorem Mu.new {F : List Addr} {H H' : Hp} {p : Addr} (m : Mu F H H') (hp : H' p = none) (o : HO) : Mu F H (upd H' p o) := fun b u h n => by
  have z := m b u h n
  rw [upd_ne (ne_of_none z hp)]
  exact z
/-- .. an object that was not there at the start is written -/
theorem Mu.fresh {F : List Addr} {H H' : Hp} {p : Addr} (m : Mu F H H') (hp : H p = none) (o : HO) : Mu F H (upd H' p o) := fun b u h n => by
  rw [upd_ne (ne_of_none h hp)]
  exact m b u h n
/-- fresh behind is fresh ahead, or of the footprint -/
theorem Mu.back {F : List Addr} {H H' : Hp} {p : Addr} (m : Mu F H H') (h : H' p = none) : p ∈ F ∨ H p = none := by
  by_cases z : p ∈ F
  · exact .inl z
  · right
    cases e : H p with
    | none => rfl
    | some o =>
      rw [m p o e z] at h
      cases h
/-- an object with its parts: the footprint moves from F to F' -/
structure Fr (F F' : List Addr) (H H' : Hp) : Prop where
  mu : Mu F H H'
  sub : ∀ b ∈ F', b ∈ F ∨ H b = none
theorem Fr.trans {F F1 F2 : List Addr} {H H1 H2 : Hp} (a : Fr F F1 H H1) (b : Fr F1 F2 H1 H2) : Fr F F2 H H2 :=
  ⟨a.mu.trans b.mu a.sub, fun x hx => (b.sub x hx).elim (a.sub x) fun z => a.mu.back z⟩
theorem Fr.refl (F : List Addr) (H : Hp) : Fr F F H H := ⟨Mu.refl F H, fun _ h => .inl h⟩
theorem Fr.ofEx {F : List Addr} {H H' : Hp} (e : Ex H H') : Fr F F H H' := ⟨Mu.ofEx e, fun _ h => .inl h⟩
theorem Fr.thenEx {F F' : List Addr} {H H1 H2 : Hp} (a : Fr F F' H H1) (e : Ex H1 H2) : Fr F F' H H2 := ⟨a.mu.thenEx e, a.sub⟩
theorem Fr.afterEx {F F' : List Addr} {H H1 H2 : Hp} (e : Ex H H1) (a : Fr F F' H1 H2) : Fr F F' H H2 := ⟨Mu.afterEx e a.mu, fun b hb => (a.sub b hb).imp id fun z => fresh_back e z⟩
/-- a thing of one's own beside it -/
structure Own (H : Hp) (F : List Addr) (b : Addr) (o : HO) : Prop where
  at_ : H b = some o
  no : b ∉ F
theorem Own.step {F F' : List Addr} {H H' : Hp} {b : Addr} {o : HO} (w : Own H F b o) (f : Fr F F' H H') : Own H' F' b o :=
  ⟨f.mu b o w.at_ w.no, fun z => (f.sub b z).elim w.no fun y => by rw [w.at_] at y; cases y⟩
theorem Own.ex {F : List Addr} {H H' : Hp} {b : Addr} {o : HO} (w : Own H F b o) (e : Ex H H') : Own H' F b o := ⟨e b o w.at_, w.no⟩

/-! ## several objects at once -/
structure Ob (H : Hp) (l : List (Addr × HO)) : Prop where
  at_ : ∀ q ∈ l, H q.1 = some q.2
  nd : (l.map (·.1)).Nodup
section
variable {H H' : Hp} {l : List (Addr × HO)}
theorem Ob.get (O : Ob H l) (i : Nat) {a : Addr} {o : HO} (h : l[i]? = some (a, o) := by rfl) : H a = some o := O.at_ (a, o) (List.mem_of_getElem? h)
theorem Ob.ex (O : Ob H l) (e : Ex H H') : Ob H' l := ⟨fun q hq => e _ _ (O.at_ q hq), O.nd⟩
theorem nd_set {l : List (Addr × HO)} {i : Nat} {a : Addr} {o o' : HO} (h : l[i]? = some (a, o)) : (l.set i (a, o')).map (·.1) = l.map (·.1) := by
  rw [List.map_set]
  apply List.ext_getElem?
  intro j
  rw [List.getElem?_set]
  by_cases z : i = j
  · subst z
    rw [if_pos rfl, List.getElem?_map, h, List.length_map]
    have hl : i < l.length := (List.getElem?_eq_some_iff.mp h).1
    simp [hl]
  · rw [if_neg z]
theorem Ob.set (O : Ob H l) (i : Nat) {a : Addr} {o : HO} (o' : HO) (h : l[i]? = some (a, o) := by rfl) : Ob (upd H a o') (l.set i (a, o')) := by
  refine ⟨fun q hq => ?_, by rw [nd_set h]; exact O.nd⟩
  obtain ⟨j, hj⟩ := List.mem_iff_getElem?.mp hq
  rw [List.getElem?_set] at hj
  by_cases z : i = j
  · subst z
    have hl : i < l.length := (List.getElem?_eq_some_iff.mp h).1
    rw [if_pos rfl, if_pos hl] at hj
    cases hj
    exact upd_same
  · rw [if_neg z] at hj
    have hne : q.1 ≠ a := fun e => z (by
      have nd := O.nd
      have h1 : (l.map (·.1))[i]? = some a := by rw [List.getElem?_map, h]; rfl
      have h2 : (l.map (·.1))[j]? = some a := by rw [List.getElem?_map, hj, ← e]; rfl
      have hl : i < (l.map (·.1)).length := (List.getElem?_eq_some_iff.mp h1).1
      exact (List.getElem?_inj hl nd).mp (h1.trans h2.symm))
    rw [upd_ne hne]
    exact O.at_ q (List.mem_of_getElem? hj)
theorem Ob.new (O : Ob H l) {p : Addr} (hp : H p = none) (o : HO) : Ob (upd H p o) (l ++ [(p, o)]) := by
  have hne : ∀ q ∈ l, q.1 ≠ p := fun q hq => ne_of_none (O.at_ q hq) hp
  refine ⟨fun q hq => ?_, ?_⟩
  · rcases List.mem_append.mp hq with z | z
    · rw [upd_ne (hne q z)]
      exact O.at_ q z
    · cases List.mem_singleton.mp z
      exact upd_same
  · rw [List.map_append, List.nodup_append]
    refine ⟨O.nd, by simp, fun x hx y hy => ?_⟩
    obtain ⟨q, hq, rfl⟩ := List.mem_map.mp hx
    have : y = p := by simpa using hy
    subst this
    exact hne q hq
theorem Ob.mem (O : Ob H l) (l' : List (Addr × HO)) (h : ∀ q ∈ l', q ∈ l) (nd : (l'.map (·.1)).Nodup) : Ob H l' := ⟨fun q hq => O.at_ q (h q hq), nd⟩
theorem Ob.mu {F : List Addr} (O : Ob H l) (m : Mu F H H') (h : ∀ q ∈ l, q.1 ∉ F) : Ob H' l := ⟨fun q hq => m _ _ (O.at_ q hq) (h q hq), O.nd⟩
/-- addresses of the i-th and the j-th differ -/
theorem Ob.ne (O : Ob H l) (i j : Nat) {a b : Addr} {o u : HO} (hi : l[i]? = some (a, o) := by rfl) (hj : l[j]? = some (b, u) := by rfl) (hn : i ≠ j := by decide) : a ≠ b := fun e => hn (by
  have h1 : (l.map (·.1))[i]? = some a := by rw [List.getElem?_map, hi]; rfl
  have h2 : (l.map (·.1))[j]? = some a := by rw [List.getElem?_map, hj, ← e]; rfl
  have hl : i < (l.map (·.1)).length := (List.getElem?_eq_some_iff.mp h1).1
  exact (List.getElem?_inj hl O.nd).mp (h1.trans h2.symm))
end

/-! ## data -/
mutual
/-- no list in it -/
def noL : PyData → Bool
  | .list _ => false
  | .tuple ds => noLAll ds
  | .dict _ => false
  | _ => true
def noLAll : List PyData → Bool
  | [] => true
  | d :: ds => noL d && noLAll ds
end
theorem noLAll_iff {ds : List PyData} : noLAll ds = true ↔ ∀ d ∈ ds, noL d = true := by
  induction ds with
  | nil => simp [noLAll]
  | cons d ds ih => simp [noLAll, ih]
section
variable {K : PySem.W.Frag} {H H' : Hp}
mutual
theorem dp_ex (e : Ex H H') : ∀ (d : PyData) (v : V), Dp K H v d → Dp K H' v d
  | .none, _, h => by cases h; exact .non
  | .bool _, _, h => by cases h; exact .bl _
  | .int _, _, h => by cases h; exact .int _
  | .str _, _, h => by cases h; exact .str _
  | .list ds, _, h => by
    cases h with
    | lst hs ha => exact .lst (ex_l e hs) (dpAll_ex e ds _ ha)
  | .tuple ds, _, h => by
    cases h with
    | tup hs ha => exact .tup (ex_t e hs) (dpAll_ex e ds _ ha)
  | .dict _, _, h => by cases h
theorem dpAll_ex (e : Ex H H') : ∀ (ds : List PyData) (vs : List V), DpAll K H vs ds → DpAll K H' vs ds
  | [], _, h => by cases h; exact .nil
  | d :: ds, _, h => by
    cases h with
    | cons h1 h2 => exact .cons (dp_ex e d _ h1) (dpAll_ex e ds _ h2)
end
/-- no tuple among these -/
def NT (F : List Addr) (H : Hp) : Prop := ∀ b ∈ F, ∀ xs, ¬ Rd H b (.tup xs)
theorem rd_mu {F : List Addr} {b : Addr} {xs : List V} (m : Mu F H H') (nt : NT F H) (h : Rd H b (.tup xs)) : Rd H' b (.tup xs) := by
  have hb : b ∉ F := fun z => nt b z xs h
  rcases h with h | ⟨o, h⟩
  · exact .inl (m b _ h hb)
  · exact .inr ⟨o, m b _ h hb⟩
mutual
theorem dp_mu {F : List Addr} (m : Mu F H H') (nt : NT F H) : ∀ (d : PyData) (v : V), noL d = true → Dp K H v d → Dp K H' v d
  | .none, _, _, h => by cases h; exact .non
  | .bool _, _, _, h => by cases h; exact .bl _
  | .int _, _, _, h => by cases h; exact .int _
  | .str _, _, _, h => by cases h; exact .str _
  | .list ds, _, n, h => by simp [noL] at n
  | .tuple ds, _, n, h => by
    cases h with
    | tup hs ha =>
      refine .tup ?_ (dpAll_mu m nt ds _ (by simpa [noL] using n) ha)
      rcases hs with hs | hs
      · exact .inl (rd_mu m nt hs)
      · exact .inr hs
  | .dict _, _, _, h => by cases h
theorem dpAll_mu {F : List Addr} (m : Mu F H H') (nt : NT F H) : ∀ (ds : List PyData) (vs : List V), noLAll ds = true → DpAll K H vs ds → DpAll K H' vs ds
  | [], _, _, h => by cases h; exact .nil
  | d :: ds, _, n, h => by
    have z : noL d = true ∧ noLAll ds = true := by simpa [noLAll] using n
    cases h with
    | cons h1 h2 => exact .cons (dp_mu m nt d _ z.1 h1) (dpAll_mu m nt ds _ z.2 h2)
end
theorem da_len : ∀ {vs : List V} {ds : List PyData}, DpAll K H vs ds → vs.length = ds.length
  | _, _, .nil => rfl
  | _, _, .cons _ h => by rw [List.length_cons, List.length_cons, da_len h]
theorem da_get : ∀ {vs : List V} {ds : List PyData} {i : Nat} {d : PyData}, DpAll K H vs ds → ds[i]? = some d → ∃ v, vs[i]? = some v ∧ Dp K H v d
  | _, _, _, _, .nil, h => by simp at h
  | v :: vs, d :: ds, 0, e, .cons h1 h2, h => by
    have : d = e := by simpa using h
    subst this
    exact ⟨v, rfl, h1⟩
  | v :: vs, d :: ds, i + 1, e, .cons h1 h2, h => by
    obtain ⟨u, hu, h3⟩ := da_get (i := i) h2 (by simpa using h)
    exact ⟨u, by simpa using hu, h3⟩
theorem da_getV : ∀ {vs : List V} {ds : List PyData} {i : Nat} {v : V}, DpAll K H vs ds → vs[i]? = some v → ∃ d, ds[i]? = some d ∧ Dp K H v d
  | _, _, _, _, .nil, h => by simp at h
  | v :: vs, d :: ds, 0, e, .cons h1 h2, h => by
    have : v = e := by simpa using h
    subst this
    exact ⟨d, rfl, h1⟩
  | v :: vs, d :: ds, i + 1, e, .cons h1 h2, h => by
    obtain ⟨u, hu, h3⟩ := da_getV (i := i) h2 (by simpa using h)
    exact ⟨u, by simpa using hu, h3⟩
theorem da_app : ∀ {vs ws : List V} {ds es : List PyData}, DpAll K H vs ds → DpAll K H ws es → DpAll K H (vs ++ ws) (ds ++ es)
  | _, _, _, _, .nil, h => h
  | _, _, _, _, .cons h1 h2, h => .cons h1 (da_app h2 h)
theorem da_one {v : V} {d : PyData} (h : Dp K H v d) : DpAll K H [v] [d] := .cons h .nil
theorem da_set : ∀ {vs : List V} {ds : List PyData} (i : Nat) {v : V} {d : PyData}, DpAll K H vs ds → Dp K H v d → DpAll K H (vs.set i v) (ds.set i d)
  | _, _, _, _, _, .nil, _ => .nil
  | _, _, 0, _, _, .cons h1 h2, h => .cons h h2
  | _, _, i + 1, _, _, .cons h1 h2, h => .cons h1 (da_set i h2 h)
theorem da_take : ∀ {vs : List V} {ds : List PyData} (n : Nat), DpAll K H vs ds → DpAll K H (vs.take n) (ds.take n)
  | _, _, 0, _ => by rw [List.take_zero, List.take_zero]; exact .nil
  | _, _, _ + 1, .nil => .nil
  | _, _, n + 1, .cons h1 h2 => .cons h1 (da_take n h2)
theorem da_drop : ∀ {vs : List V} {ds : List PyData} (n : Nat), DpAll K H vs ds → DpAll K H (vs.drop n) (ds.drop n)
  | _, _, 0, h => h
  | _, _, _ + 1, .nil => .nil
  | _, _, n + 1, .cons _ h2 => da_drop n h2
theorem da_rep {v : V} {d : PyData} (h : Dp K H v d) : ∀ n : Nat, DpAll K H (List.replicate n v) (List.replicate n d)
  | 0 => .nil
  | n + 1 => .cons h (da_rep h n)
theorem flat_rep {v : V} (n : Nat) : (List.replicate n [v]).flatten = List.replicate n v := by
  induction n with
  | zero => rfl
  | succ n ih => rw [List.replicate_succ, List.flatten_cons, ih]; rfl
/-- the type of a piece of data -/
def tyD : PyData → String
  | .none => "NoneType"
  | .bool _ => "bool"
  | .int _ => "int"
  | .str _ => "str"
  | .list _ => "list"
  | .tuple _ => "tuple"
  | .dict _ => "dict"
theorem dp_ty {v : V} {d : PyData} (h : Dp K H v d) : TyX K H v (.type (tyD d)) := by
  cases h with
  | non => exact .base .non
  | bl b => exact .base (.bl b)
  | int i => exact .base (.int i)
  | str x => exact .base (.str x)
  | lst hs _ =>
    rcases hs with (hs | ⟨o, hs⟩) | ⟨o, its, n, hk, hc, _⟩
    · exact .base (.lst hs)
    · exact .base (.frz hs)
    · exact .kList hk hc
  | tup hs _ =>
    rcases hs with (hs | ⟨o, hs⟩) | ⟨o, its, n, hk, hc, _⟩
    · exact .base (.tup hs)
    · exact .fTuple hs
    · exact .kTuple hk hc
end
section
variable {K : PySem.W.Frag} {H H' : Hp} {v : V} {d : PyData}
theorem dq_ex (e : Ex H H') (h : Dq K H v d) : Dq K H' v d := by
  rcases h with h | ⟨a, e1, e2, e3⟩
  · exact .inl (dp_ex e _ _ h)
  · exact .inr ⟨a, e1, e _ _ e2, e3⟩
theorem dq_ty (h : Dq K H v d) : TyX K H v (.type (tyD d)) := by
  rcases h with h | ⟨a, rfl, e2, rfl⟩
  · exact dp_ty h
  · exact .base (.dK e2)
theorem dq_int {i : Int} (h : Dq K H v (.int i)) : v = .int i := by
  rcases h with h | ⟨a, _, _, e3⟩
  · cases h; rfl
  · cases e3
theorem dq_dp (h : Dq K H v d) (n : ∀ kvs, d ≠ .dict kvs) : Dp K H v d := by
  rcases h with h | ⟨a, _, _, e3⟩
  · exact h
  · exact absurd e3 (n _)
end
/-- a place of a list -/
theorem atI_nat {α : Type} {xs : List α} {i : Int} (h0 : 0 ≤ i) (h1 : i < xs.length) : atI xs i = xs[i.toNat]? := by
  unfold atI ixN
  rw [if_pos h0, if_pos h1]
  rfl
theorem ixN_nat {n : Nat} {i : Int} (h0 : 0 ≤ i) (h1 : i < n) : ixN n i = some i.toNat := by
  unfold ixN
  rw [if_pos h0, if_pos h1]
end GL

namespace GL
open PySem PySem.Spec PyProof.Rows L2 Evl

/-! ## errors with fields: what their __init__ makes -/
def mk1 (f t : Str) : List V → Option (List (Str × V))
  | [v] => some [(f, v), ("why", .str t)]
  | _ => none
def mk2 (f g t : Str) : List V → Option (List (Str × V))
  | [u, v] => some [(g, v), (f, u), ("why", .str t)]
  | _ => none
def mkW : List V → Option (List (Str × V))
  | [v] => some [("why", v)]
  | _ => none
def mkW0 (t : Str) : List V → Option (List (Str × V))
  | [] => some [("why", .str t)]
  | _ => none
/-- the base's -/
def spLE (K : PySem.W.Frag) : Sp := fun vs H Q _ => ∃ (a C : Addr) (v : V), vs = [.ref a, v] ∧ OexC K C ∧ PySem.W.findIn K (.ref C) "why" = some none ∧ H a = some (exo a C none) ∧
  ∀ d, H d = none → d ≠ a → Q .non (upd (upd H d (exd d [("why", v)])) a (exo a C (some d)))
theorem upd_swap {H : Hp} {a b : Addr} {o u u' : HO} (h : a ≠ b) : upd (upd (upd H a u) b o) a u' = upd (upd H a u') b o := by
  funext c
  by_cases h1 : c = a
  · subst h1
    rw [upd_same, upd_ne h, upd_same]
  · rw [upd_ne h1]
    by_cases h2 : c = b
    · subst h2
      rw [upd_same, upd_same]
    · rw [upd_ne h2, upd_ne h2, upd_ne h1, upd_ne h1]
section
variable {K : PySem.W.Frag} {C : Addr} {vs : List V} {H : Hp} {Q : VK} {E : XK} {W : WX}
theorem len1 {f t : Str} (h : spX K C (mk1 f t) vs H Q E) : vs.length = 2 := by
  obtain ⟨a, ws, fs, rfl, _, hm, _⟩ := h
  match ws, hm with
  | [_], _ => rfl
theorem len2 {f g t : Str} (h : spX K C (mk2 f g t) vs H Q E) : vs.length = 3 := by
  obtain ⟨a, ws, fs, rfl, _, hm, _⟩ := h
  match ws, hm with
  | [_, _], _ => rfl
theorem lenW (h : spX K C mkW vs H Q E) : vs.length = 2 := by
  obtain ⟨a, ws, fs, rfl, _, hm, _⟩ := h
  match ws, hm with
  | [_], _ => rfl
theorem err1 {f t x0 x1 : Str} (hC : OexC K C) (hf : PySem.W.findIn K (.ref C) f = some none) (hw : PySem.W.findIn K (.ref C) "why" = some none) (h : spX K C (mk1 f t) vs H Q E) :
    tSeq (tDrop (cCall (spLE K) W (tCons (tVar 0) (tCons (tC (.str t)) tNil)))) (tOst K f (tVar 0) (tVar 1)) { nx := fun _ H' => Q .non H', rt := Q } (L2.start [x0, x1] vs) H := by
  obtain ⟨a, ws, fs, rfl, ha, hm, k⟩ := h
  match ws, hm with
  | [v], hm =>
    cases hm
    refine ⟨_, rfl, a, C, _, rfl, hC, hw, ha, fun d h1 h2 => ?_⟩
    refine ⟨_, rfl, _, rfl, a, C, rfl, hC, hf, .inr ⟨d, _, upd_same, by rw [upd_ne h2, upd_same], by simp, ?_⟩⟩
    rw [upd_swap h2]
    exact k d h1 h2
theorem err2 {f g t x0 x1 x2 : Str} (hC : OexC K C) (hf : PySem.W.findIn K (.ref C) f = some none) (hg : PySem.W.findIn K (.ref C) g = some none) (hw : PySem.W.findIn K (.ref C) "why" = some none) (h : spX K C (mk2 f g t) vs H Q E) :
    tSeq (tDrop (cCall (spLE K) W (tCons (tVar 0) (tCons (tC (.str t)) tNil)))) (tSeq (tOst K f (tVar 0) (tVar 1)) (tOst K g (tVar 0) (tVar 2))) { nx := fun _ H' => Q .non H', rt := Q } (L2.start [x0, x1, x2] vs) H := by
  obtain ⟨a, ws, fs, rfl, ha, hm, k⟩ := h
  match ws, hm with
  | [u, v], hm =>
    cases hm
    refine ⟨_, rfl, a, C, _, rfl, hC, hw, ha, fun d h1 h2 => ?_⟩
    refine ⟨_, rfl, _, rfl, a, C, rfl, hC, hf, .inr ⟨d, _, upd_same, by rw [upd_ne h2, upd_same], by simp, ?_⟩⟩
    rw [upd_swap h2]
    refine ⟨_, rfl, _, rfl, a, C, rfl, hC, hg, .inr ⟨d, _, upd_same, by rw [upd_ne h2, upd_same], by simp, ?_⟩⟩
    rw [upd_swap h2]
    exact k d h1 h2
theorem errW {x0 x1 : Str} (hC : OexC K C) (hw : PySem.W.findIn K (.ref C) "why" = some none) (h : spX K C mkW vs H Q E) :
    tDrop (cCall (spLE K) W (tCons (tVar 0) (tCons (tVar 1) tNil))) { nx := fun _ H' => Q .non H', rt := Q } (L2.start [x0, x1] vs) H := by
  obtain ⟨a, ws, fs, rfl, ha, hm, k⟩ := h
  match ws, hm with
  | [v], hm =>
    cases hm
    exact ⟨_, rfl, _, rfl, a, C, _, rfl, hC, hw, ha, fun d h1 h2 => k d h1 h2⟩
theorem mkW0_W {t : Str} (h : spX K C (mkW0 t) vs H Q E) : spX K C mkW (vs ++ [.str t]) H Q E := by
  obtain ⟨a, ws, fs, rfl, ha, hm, k⟩ := h
  match ws, hm with
  | [], hm =>
    cases hm
    exact ⟨a, [.str t], _, rfl, ha, rfl, k⟩
end

/-! ## what is a value -/
def isI : PyData → Bool
  | .int _ => true
  | _ => false
def intOf : PyData → Int
  | .int i => i
  | _ => 0
def isT : PyData → Bool
  | .tuple _ => true
  | _ => false
def isLs : PyData → Bool
  | .list _ => true
  | _ => false
def isS : PyData → Bool
  | .str _ => true
  | _ => false
def betw (d : PyData) (l m : Int) : Bool := isI d && (decide (l ≤ intOf d) && decide (intOf d ≤ m))
mutual
def valOk : Nat → PyData → Bool
  | _, .int _ => true
  | _, .str _ => true
  | 0, .tuple _ => false
  | n + 1, .tuple ds => valOkAll n ds
  | _, _ => false
def valOkAll : Nat → List PyData → Bool
  | _, [] => true
  | n, d :: ds => valOk n d && valOkAll n ds
end
section
variable {K : PySem.W.Frag}
theorem kit_int (d : PyData) : PySem.W.kitOne K (.type (tyD d)) (.type "int") = some (match d with | .int _ => true | .bool _ => true | _ => false) := by cases d <;> rfl
theorem kit_bool (d : PyData) : PySem.W.kitOne K (.type (tyD d)) (.type "bool") = some (match d with | .bool _ => true | _ => false) := by cases d <;> rfl
theorem kit_tuple (d : PyData) : PySem.W.kitOne K (.type (tyD d)) (.type "tuple") = some (isT d) := by cases d <;> rfl
theorem kit_list (d : PyData) : PySem.W.kitOne K (.type (tyD d)) (.type "list") = some (isLs d) := by cases d <;> rfl
theorem kit_str (d : PyData) : PySem.W.kitOne K (.type (tyD d)) (.type "str") = some (isS d) := by cases d <;> rfl
theorem rd_isi {H : Hp} {Q : VK} {v : V} {d : PyData} {T : String} {b : Bool} (h : Dq K H v d) (hk : PySem.W.kitOne K (.type (tyD d)) (.type T) = some b) (q : Q (.bl b) H) : rIsi K [v, .ty T] H Q :=
  ⟨v, .ty T, _, _, b, rfl, .ty T, dq_ty h, hk, q⟩
end
mutual
theorem valOk_noL : ∀ (n : Nat) (d : PyData), valOk n d = true → noL d = true
  | _, .int _, _ => by simp [noL]
  | _, .str _, _ => by simp [noL]
  | 0, .tuple _, h => by simp [valOk] at h
  | n + 1, .tuple ds, h => by
    simp only [noL]
    exact valOkAll_noL n ds (by simpa [valOk] using h)
  | _, .none, h => by simp [valOk] at h
  | _, .bool _, h => by simp [valOk] at h
  | _, .list _, h => by simp [valOk] at h
  | _, .dict _, h => by simp [valOk] at h
theorem valOkAll_noL : ∀ (n : Nat) (ds : List PyData), valOkAll n ds = true → noLAll ds = true
  | _, [], _ => by simp [noLAll]
  | n, d :: ds, h => by
    have z : valOk n d = true ∧ valOkAll n ds = true := by simpa [valOkAll] using h
    simp [noLAll, valOk_noL n d z.1, valOkAll_noL n ds z.2]
end
theorem valOkAll_iff {n : Nat} {ds : List PyData} : valOkAll n ds = true ↔ ∀ d ∈ ds, valOk n d = true := by
  induction ds with
  | nil => simp [valOkAll]
  | cons d ds ih => simp [valOkAll, ih]
def spIsInt (K : PySem.W.Frag) : Sp := fun vs H Q _ => ∃ v d, vs = [v] ∧ Dq K H v d ∧ Q (.bl (isI d)) H
def spBetw (K : PySem.W.Frag) : Sp := fun vs H Q _ => ∃ v d l m, vs = [v, .int l, .int m] ∧ Dq K H v d ∧ Q (.bl (betw d l m)) H
def spIsVal (K : PySem.W.Frag) (n : Nat) : Sp := fun vs H Q _ => ∃ v d, vs = [v, .int n] ∧ Dq K H v d ∧ Q (.bl (valOk n d)) H
end GL

namespace GL
open PySem PySem.Spec PyProof.Rows L2 Evl

section
variable {K : PySem.W.Frag} {σ : L2.St} {H : Hp} {D : Ends} {Q : VK}
/-! ## reading loops, targets, methods of built-in types, slices -/
theorem rd_for {wi : TI} {g : TG} {tb : TS} (h : wi σ H fun J H1 => ∃ W : Nat → Nat → L2.St → Hp → Prop, (∃ m, W 0 m σ H1) ∧ ∀ i m σ H, W i m σ H →
  (J.stop i H ∧ D.nx σ H) ∨ (J.go i H ∧ ∃ N : L2.St → Hp → Prop, (∀ σ' H', N σ' H' → ∃ m', m' < m ∧ W (i + 1) m' σ' H') ∧ ∀ x H', J.yld i H x H' → g x σ H' fun σ2 H2 => tb { D with nx := N, ct := N, bk := D.nx } σ2 H2)) : tFor wi g tb D σ H := h
theorem rd_iL {tl : TE} {R : It → Hp → Prop} (h : tl σ H fun x H1 => ∃ a, x = .ref a ∧ (∃ xs, SqL K H1 a xs) ∧ R (Itl K a) H1) : iList K tl σ H R := h
theorem rd_iT {tl : TE} {R : It → Hp → Prop} (h : tl σ H fun x H1 => ∃ a, x = .ref a ∧ (∃ xs, SqT K H1 a xs) ∧ R (Itt K a) H1) : iTup K tl σ H R := h
theorem rd_iR1 {ta : TA} {R : It → Hp → Prop} (h : ta σ H fun vs H1 => ∃ j : Int, vs = [.int j] ∧ -(2 ^ 62) ≤ j ∧ j < 2 ^ 62 ∧ R (Itr 0 j.toNat) H1) : iRng1 ta σ H R := h
theorem rd_iE {ta : TA} {R : It → Hp → Prop} (h : ta σ H fun vs H1 => ∃ a xs, vs = [.ref a] ∧ SqL K H1 a xs ∧ R (Ite K a) H1) : iEnum K ta σ H R := h
theorem rd_gname {i : Nat} {v : V} {R : L2.St → Hp → Prop} (h : R (σ.set i (some v)) H) : gName i v σ H R := h
theorem rd_gtup {n : Nat} {t : TGs} {p : Addr} {xs : List V} {R : L2.St → Hp → Prop} (hq : SqT K H p xs) (hl : xs.length = n) (h : t xs σ H R) : gTup K n t (.ref p) σ H R := ⟨p, xs, rfl, hq, hl, h⟩
theorem rd_gcons {t : TG} {u : TGs} {v : V} {r : List V} {R : L2.St → Hp → Prop} (h : t v σ H fun σ' H' => u r σ' H' R) : gCons t u (v :: r) σ H R := ⟨v, r, rfl, h⟩
theorem rd_gnil {R : L2.St → Hp → Prop} (h : R σ H) : gNil [] σ H R := ⟨rfl, h⟩
theorem rd_gsub {to ti : TE} {t : TSet} {v : V} {R : L2.St → Hp → Prop} (h : to σ H fun o H1 => ti σ H1 fun i H2 => t o i v H2 fun H3 => R σ H3) : gSub to ti t v σ H R := h
theorem rd_setL {p : Addr} {xs : List V} {i : Int} {v : V} {R : Hp → Prop} (h1 : H p = some (.lst xs)) (h0 : 0 ≤ i) (h2 : i < xs.length) (q : R (upd H p (.lst (xs.set i.toNat v)))) : rSetL (.ref p) (.int i) v H R :=
  ⟨p, xs, i, i.toNat, rfl, rfl, h1, ixN_nat h0 h2, q⟩
theorem rd_bm {T : String} {r : V → List V → Hp → VK → Prop} {to : TE} {t : TA} (h : to σ H fun x H1 => tyV K T x H1 ∧ t σ H1 fun xs H2 => r x xs H2 Q) : tBM K T r to t σ H Q := h
theorem rd_bm0 {T : String} {r : V → List V → Hp → VK → Prop} {to : TE} (h : to σ H fun x H1 => tyV K T x H1 ∧ r x [] H1 Q) : tBM0 K T r to σ H Q := h
theorem rd_tyL {p : Addr} {xs : List V} {Z : Prop} (h : H p = some (.lst xs)) (q : Z) : tyV K "list" (.ref p) H ∧ Z := ⟨.inl ⟨rfl, xs, .inl (.inl h)⟩, q⟩
theorem rd_app {p : Addr} {xs : List V} {y : V} (h : H p = some (.lst xs)) (hz : xs.length < 100000) (q : Q .non (upd H p (.lst (xs ++ [y])))) : rAppend (.ref p) [y] H Q := ⟨p, xs, y, rfl, rfl, h, sz_lt hz, q⟩
theorem rd_sl {r : V → Option Int → Option Int → Hp → VK → Prop} {te : TE} {tl th : TO} (h : te σ H fun x H1 => tl σ H1 fun l H2 => th σ H2 fun u H3 => r x l u H3 Q) : tSl r te tl th σ H Q := h
variable {R : Option Int → Hp → Prop}
theorem rd_noPart (h : R none H) : tNoPart σ H R := h
theorem rd_part {t : TE} (h : t σ H fun x H1 => ∃ i, x = .int i ∧ R (some i) H1) : tPart t σ H R := h
theorem rd_isint {i : Int} {B : Int → Prop} (h : B i) : ∃ j, V.int i = .int j ∧ B j := ⟨i, rfl, h⟩
theorem rd_brk (h : D.bk σ H) : tBreak D σ H := h
theorem rd_cont (h : D.ct σ H) : tCont D σ H := h
/-- list(x) of a list -/
theorem rd_listL {p : Addr} {ys : List V} (hs : SqL K H p ys) (h : ∀ l, H l = none → Q (.ref l) (upd H l (.lst ys))) :
    ∃ p' ys', [V.ref p] = [.ref p'] ∧ (SqL K H p' ys' ∨ SqT K H p' ys') ∧ ∀ l, H l = none → Q (.ref l) (upd H l (.lst ys')) := ⟨p, ys, rfl, .inl hs, h⟩
theorem rd_cat {l b : Addr} {xs zs : List V} (h1 : H l = some (.lst xs)) (h2 : H b = some (.lst zs)) (hz : xs.length + zs.length ≤ 100000) (h : ∀ p, H p = none → Q (.ref p) (upd H p (.lst (xs ++ zs)))) : rCat (.ref l) (.ref b) H Q :=
  ⟨l, b, xs, zs, rfl, rfl, h1, h2, sz_of hz, h⟩
theorem rd_sll {a : Addr} {xs : List V} {lo hi : Option Int} (h1 : SqL K H a xs) (h : ∀ p, H p = none → Q (.ref p) (upd H p (.lst (cutV xs lo hi)))) : rSlL K (.ref a) lo hi H Q := ⟨a, xs, rfl, h1, h⟩
end
theorem rd_ntF {A B : Prop} (h : A) : if (!false) = true then A else B := L2.iteT h
theorem rd_ntT {A B : Prop} (h : B) : if (!true) = true then A else B := L2.iteF h
theorem cutV_take {xs : List V} {n : Int} (h0 : 0 ≤ n) : cutV xs none (some n) = xs.take n.toNat := by
  unfold cutV
  have e1 : HT.sIx xs.length 0 none = 0 := rfl
  rw [e1, List.drop_zero]
  have e2 : HT.sIx xs.length xs.length (some n) = min n.toNat xs.length := by
    unfold HT.sIx
    simp only
    split <;> omega
  rw [e2, Nat.sub_zero]
  by_cases h : n.toNat ≤ xs.length
  · rw [Nat.min_eq_left h]
  · rw [Nat.min_eq_right (by omega), List.take_of_length_le (Nat.le_refl _), List.take_of_length_le (by omega)]
theorem for_enum {K : PySem.W.Frag} {a : Addr} {xs : List V} {g : TG} {tb : TS} {D : Ends} {σ : L2.St} {H : Hp} (Pv : Nat → L2.St → Hp → Prop) (h0 : Pv 0 σ H) (hl : ∀ i σ H, i ≤ xs.length → Pv i σ H → SqL K H a xs)
    (hs : ∀ i x σ H T, xs[i]? = some x → H T = none → Pv i σ H → g (.ref T) σ (upd H T (.tup [.int (i : Nat), x])) fun σ2 H2 => tb { D with nx := Pv (i + 1), ct := Pv (i + 1), bk := D.nx } σ2 H2) (hd : ∀ σ H, Pv xs.length σ H → D.nx σ H) :
    ∃ W : Nat → Nat → L2.St → Hp → Prop, (∃ m, W 0 m σ H) ∧ ∀ i m σ H, W i m σ H →
      ((Ite K a).stop i H ∧ D.nx σ H) ∨ ((Ite K a).go i H ∧ ∃ N : L2.St → Hp → Prop, (∀ σ' H', N σ' H' → ∃ m', m' < m ∧ W (i + 1) m' σ' H') ∧ ∀ x H', (Ite K a).yld i H x H' → g x σ H' fun σ2 H2 => tb { D with nx := N, ct := N, bk := D.nx } σ2 H2) := by
  refine ⟨fun i m σ H => m = xs.length - i ∧ i ≤ xs.length ∧ Pv i σ H, ⟨xs.length, by simp, Nat.zero_le _, h0⟩, ?_⟩
  rintro i m σ H ⟨rfl, hi, p⟩
  have q := hl i σ H hi p
  by_cases hlt : i < xs.length
  · refine .inr ⟨⟨xs, xs[i], q, by simp [hlt]⟩, Pv (i + 1), fun σ' H' p' => ⟨xs.length - (i + 1), by omega, rfl, hlt, p'⟩, fun x H' y => ?_⟩
    obtain ⟨T, z, e, hT, eH, y⟩ := y
    subst e eH
    exact hs i z σ _ T (y xs q) hT p
  · have e : i = xs.length := by omega
    subst e
    exact .inl ⟨⟨xs, q, Nat.le_refl _⟩, hd σ H p⟩
end GL

namespace GL
open PySem PySem.Spec PyProof.Rows L2 Evl

/-! ## a disk: its five lists, as data -/
structure DS where
  f : List PyData
  s : List PyData
  n : List PyData
  w : List PyData
  d : List PyData
def DS.new (ds : List PyData) : DS := ⟨ds, ds, ds, [], []⟩
def pW (b : Int) (v : PyData) : PyData := .tuple [.int b, v]
def eW (b : Int) (v : PyData) : PyData := .tuple [.str "write", .int b, v]
def eF : PyData := .tuple [.str "flush"]
def DS.wr (D : DS) (b : Int) (v : PyData) : DS := { D with n := D.n.set b.toNat v, w := D.w ++ [pW b v], d := D.d ++ [eW b v] }
def DS.fl (D : DS) : DS := { D with s := D.n, w := [], d := D.d ++ [eF] }
/-- a block's number, a block's value -/
def isB (n : Nat) (d : PyData) : Prop := ∃ b v, d = pW b v ∧ 0 ≤ b ∧ b < n ∧ valOk 8 v = true
def isE (n : Nat) (d : PyData) : Prop := (∃ b v, d = eW b v ∧ 0 ≤ b ∧ b < n ∧ valOk 8 v = true) ∨ d = eF
structure DS.Ok (D : DS) : Prop where
  ls : D.s.length = D.f.length
  ln : D.n.length = D.f.length
  lo : 1 ≤ D.f.length
  hi : D.f.length ≤ 128
  vf : valOkAll 8 D.f = true
  vs : valOkAll 8 D.s = true
  vn : valOkAll 8 D.n = true
  bw : ∀ x ∈ D.w, isB D.f.length x
  be : ∀ x ∈ D.d, isE D.f.length x
  lw : D.w.length ≤ D.d.length
theorem noL_pW {b : Int} {v : PyData} (h : valOk 8 v = true) : noL (pW b v) = true := by simp [pW, noL, noLAll, valOk_noL 8 v h]
theorem noL_eW {b : Int} {v : PyData} (h : valOk 8 v = true) : noL (eW b v) = true := by simp [eW, noL, noLAll, valOk_noL 8 v h]
theorem isB.noL {n : Nat} {d : PyData} (h : isB n d) : GL.noL d = true := by obtain ⟨b, v, rfl, _, _, z⟩ := h; exact noL_pW z
theorem isE.noL {n : Nat} {d : PyData} (h : isE n d) : GL.noL d = true := by
  rcases h with ⟨b, v, rfl, _, _, z⟩ | rfl
  · exact noL_eW z
  · simp [eF, GL.noL, noLAll]
theorem DS.Ok.nf {D : DS} (h : D.Ok) : noLAll D.f = true := valOkAll_noL 8 _ h.vf
theorem DS.Ok.ns {D : DS} (h : D.Ok) : noLAll D.s = true := valOkAll_noL 8 _ h.vs
theorem DS.Ok.nn {D : DS} (h : D.Ok) : noLAll D.n = true := valOkAll_noL 8 _ h.vn
theorem DS.Ok.nw {D : DS} (h : D.Ok) : noLAll D.w = true := noLAll_iff.mpr fun d hd => (h.bw d hd).noL
theorem DS.Ok.nd {D : DS} (h : D.Ok) : noLAll D.d = true := noLAll_iff.mpr fun d hd => (h.be d hd).noL
theorem DS.Ok.new {ds : List PyData} (h1 : 1 ≤ ds.length) (h2 : ds.length ≤ 128) (h3 : valOkAll 8 ds = true) : (DS.new ds).Ok :=
  ⟨rfl, rfl, h1, h2, h3, h3, h3, fun _ h => absurd h List.not_mem_nil, fun _ h => absurd h List.not_mem_nil, Nat.le_refl _⟩
theorem valOkAll_set {n i : Nat} {ds : List PyData} {v : PyData} (h : valOkAll n ds = true) (hv : valOk n v = true) : valOkAll n (ds.set i v) = true := by
  rw [valOkAll_iff] at h ⊢
  intro d hd
  rcases List.mem_or_eq_of_mem_set hd with z | z
  · exact h d z
  · rw [z]; exact hv
theorem DS.Ok.wr {D : DS} (h : D.Ok) {b : Int} {v : PyData} (h0 : 0 ≤ b) (h1 : b < D.f.length) (hv : valOk 8 v = true) : (D.wr b v).Ok := by
  refine ⟨h.ls, by show (D.n.set _ _).length = _; rw [List.length_set]; exact h.ln, h.lo, h.hi, h.vf, h.vs, valOkAll_set h.vn hv, fun x hx => ?_, fun x hx => ?_, ?_⟩
  · rcases List.mem_append.mp hx with z | z
    · exact h.bw x z
    · rw [List.mem_singleton.mp z]
      exact ⟨b, v, rfl, h0, h1, hv⟩
  · rcases List.mem_append.mp hx with z | z
    · exact h.be x z
    · rw [List.mem_singleton.mp z]
      exact .inl ⟨b, v, rfl, h0, h1, hv⟩
  · show (D.w ++ _).length ≤ (D.d ++ _).length
    rw [List.length_append, List.length_append]
    have := h.lw
    simp only [List.length_singleton]
    omega
theorem DS.Ok.fl {D : DS} (h : D.Ok) : D.fl.Ok := by
  refine ⟨h.ln, h.ln, h.lo, h.hi, h.vf, h.vn, h.vn, fun x hx => absurd hx List.not_mem_nil, fun x hx => ?_, Nat.zero_le _⟩
  rcases List.mem_append.mp hx with z | z
  · exact h.be x z
  · rw [List.mem_singleton.mp z]
    exact .inr rfl

/-! ## .. as an object -/
def dfs (p1 p2 p3 p4 p5 : Addr) : List (Str × V) := [("_first", .ref p1), ("_settled", .ref p2), ("_newest", .ref p3), ("_waiting", .ref p4), ("_done", .ref p5)]
structure DiskAt (K : PySem.W.Frag) (H : Hp) (C a : Addr) (F : List Addr) (D : DS) : Prop where
  ex : ∃ (dx p1 p2 p3 p4 p5 : Addr) (x1 x2 x3 x4 x5 : List V), F = [a, p1, p2, p3, p4, p5] ∧
    Ob H [(a, .ins C dx (dfs p1 p2 p3 p4 p5)), (p1, .lst x1), (p2, .lst x2), (p3, .lst x3), (p4, .lst x4), (p5, .lst x5)] ∧
    DpAll K H x1 D.f ∧ DpAll K H x2 D.s ∧ DpAll K H x3 D.n ∧ DpAll K H x4 D.w ∧ DpAll K H x5 D.d
  ok : D.Ok
section
variable {K : PySem.W.Frag} {H H' : Hp} {C a : Addr} {F : List Addr} {D : DS}
theorem DiskAt.exd (h : DiskAt K H C a F D) (e : Ex H H') : DiskAt K H' C a F D := by
  obtain ⟨⟨dx, p1, p2, p3, p4, p5, x1, x2, x3, x4, x5, hF, O, d1, d2, d3, d4, d5⟩, ok⟩ := h
  exact ⟨⟨dx, p1, p2, p3, p4, p5, x1, x2, x3, x4, x5, hF, O.ex e, dpAll_ex e _ _ d1, dpAll_ex e _ _ d2, dpAll_ex e _ _ d3, dpAll_ex e _ _ d4, dpAll_ex e _ _ d5⟩, ok⟩
theorem DiskAt.mu {G : List Addr} (h : DiskAt K H C a F D) (m : Mu G H H') (nt : NT G H) (hd : ∀ b ∈ F, b ∉ G) : DiskAt K H' C a F D := by
  obtain ⟨⟨dx, p1, p2, p3, p4, p5, x1, x2, x3, x4, x5, hF, O, d1, d2, d3, d4, d5⟩, ok⟩ := h
  subst hF
  refine ⟨⟨dx, p1, p2, p3, p4, p5, x1, x2, x3, x4, x5, rfl, O.mu m fun q hq => hd q.1 ?_, dpAll_mu m nt _ _ ok.nf d1, dpAll_mu m nt _ _ ok.ns d2, dpAll_mu m nt _ _ ok.nn d3, dpAll_mu m nt _ _ ok.nw d4, dpAll_mu m nt _ _ ok.nd d5⟩, ok⟩
  have z : q.1 ∈ ([(a, .ins C dx (dfs p1 p2 p3 p4 p5)), (p1, .lst x1), (p2, .lst x2), (p3, .lst x3), (p4, .lst x4), (p5, .lst x5)] : List (Addr × HO)).map (·.1) := List.mem_map_of_mem hq
  exact z
/-- a disk's objects are no tuples -/
theorem DiskAt.nt (h : DiskAt K H C a F D) : NT F H := by
  obtain ⟨⟨dx, p1, p2, p3, p4, p5, x1, x2, x3, x4, x5, hF, O, _⟩, ok⟩ := h
  subst hF
  intro b hb xs hr
  have no : ∀ (o : HO), H b = some o → (∀ y, o ≠ .tup y) → (∀ z y, o ≠ .frz z y) → False := fun o h n1 n2 => by
    rcases hr with q | ⟨z, q⟩
    · rw [h] at q; exact n1 _ (Option.some.inj q)
    · rw [h] at q; exact n2 _ _ (Option.some.inj q)
  simp only [List.mem_cons, List.not_mem_nil, or_false] at hb
  rcases hb with rfl | rfl | rfl | rfl | rfl | rfl
  · exact no _ (O.get 0) (fun _ z => by cases z) fun _ _ z => by cases z
  · exact no _ (O.get 1) (fun _ z => by cases z) fun _ _ z => by cases z
  · exact no _ (O.get 2) (fun _ z => by cases z) fun _ _ z => by cases z
  · exact no _ (O.get 3) (fun _ z => by cases z) fun _ _ z => by cases z
  · exact no _ (O.get 4) (fun _ z => by cases z) fun _ _ z => by cases z
  · exact no _ (O.get 5) (fun _ z => by cases z) fun _ _ z => by cases z
/-- a list of one's own is no tuple -/
theorem nt_lst {p : Addr} {xs : List V} (h : H p = some (.lst xs)) : NT [p] H := fun b hb ys hr => by
  rw [List.mem_singleton.mp hb] at hr
  rcases hr with q | ⟨z, q⟩ <;> rw [h] at q <;> cases q
theorem DiskAt.mem (h : DiskAt K H C a F D) : ∀ b ∈ F, H b ≠ none := by
  obtain ⟨⟨dx, p1, p2, p3, p4, p5, x1, x2, x3, x4, x5, hF, O, _⟩, ok⟩ := h
  subst hF
  intro b hb
  simp only [List.mem_cons, List.not_mem_nil, or_false] at hb
  rcases hb with rfl | rfl | rfl | rfl | rfl | rfl
  · rw [O.get 0]; simp
  · rw [O.get 1]; simp
  · rw [O.get 2]; simp
  · rw [O.get 3]; simp
  · rw [O.get 4]; simp
  · rw [O.get 5]; simp
/-- what was made behind a disk does not belong to it -/
theorem DiskAt.notIn (h : DiskAt K H C a F D) {p : Addr} (hp : H p = none) : p ∉ F := fun z => h.mem p z hp
/-- another list of one's own is written -/
theorem DiskAt.put (h : DiskAt K H C a F D) {p : Addr} {xs : List V} {o : HO} (hp : Own H F p (.lst xs)) : DiskAt K (upd H p o) C a F D :=
  h.mu ((Mu.refl [p] H).set (List.mem_singleton.mpr rfl) o) (nt_lst hp.at_) fun b hb z => hp.no (by rw [← List.mem_singleton.mp z]; exact hb)
end
end GL

namespace GL
open PySem PySem.Spec PyProof.Rows L2 Evl
section
variable {K : PySem.W.Frag} {H H' : Hp}
/-- no list among these -/
def NLs (F : List Addr) (H : Hp) : Prop := ∀ b ∈ F, ∀ xs, ¬ Rd H b (.lst xs)
theorem nls_ins {a C dx : Addr} {fs : List (Str × V)} (h : H a = some (.ins C dx fs)) : NLs [a] H := fun b hb ys hr => by
  rw [List.mem_singleton.mp hb] at hr
  rcases hr with q | ⟨z, q⟩ <;> rw [h] at q <;> cases q
theorem nt_ins {a C dx : Addr} {fs : List (Str × V)} (h : H a = some (.ins C dx fs)) : NT [a] H := fun b hb ys hr => by
  rw [List.mem_singleton.mp hb] at hr
  rcases hr with q | ⟨z, q⟩ <;> rw [h] at q <;> cases q
theorem sql_mu {F : List Addr} {p : Addr} {xs : List V} (m : Mu F H H') (no : NLs F H) (h : SqL K H p xs) : SqL K H' p xs := by
  rcases h with h | h
  · have hb : p ∉ F := fun z => no p z xs h
    rcases h with h | ⟨o, h⟩
    · exact .inl (.inl (m p _ h hb))
    · exact .inl (.inr ⟨o, m p _ h hb⟩)
  · exact .inr h
/-- a list beside a disk, read only -/
theorem sql_off {F : List Addr} {p : Addr} {xs : List V} (m : Mu F H H') (no : p ∉ F) (h : SqL K H p xs) : SqL K H' p xs := by
  rcases h with h | h
  · rcases h with h | ⟨o, h⟩
    · exact .inl (.inl (m p _ h no))
    · exact .inl (.inr ⟨o, m p _ h no⟩)
  · exact .inr h
end
theorem putF_len (f : Str) (v : V) : ∀ fs : List (Str × V), (putF f v fs).length ≤ fs.length + 1
  | [] => by simp [putF]
  | (g, x) :: r => by
    unfold putF
    split
    · simp
    · have := putF_len f v r
      simp only [List.length_cons]
      omega
theorem put5 {fs : List (Str × V)} {v1 v2 v3 v4 v5 : V} (h : fs = [] ∨ ∃ q1 q2 q3 q4 q5, fs = dfs q1 q2 q3 q4 q5) :
    putF "_done" v5 (putF "_waiting" v4 (putF "_newest" v3 (putF "_settled" v2 (putF "_first" v1 fs)))) = ([("_first", v1), ("_settled", v2), ("_newest", v3), ("_waiting", v4), ("_done", v5)] : List (Str × V)) := by
  rcases h with rfl | ⟨q1, q2, q3, q4, q5, rfl⟩ <;> rfl
theorem dfs_len {q1 q2 q3 q4 q5 : Addr} : (dfs q1 q2 q3 q4 q5).length = 5 := rfl
theorem dfs_1 {q1 q2 q3 q4 q5 : Addr} : (dfs q1 q2 q3 q4 q5).lookup ("_first" : Str) = some (V.ref q1) := rfl
theorem dfs_2 {q1 q2 q3 q4 q5 : Addr} : (dfs q1 q2 q3 q4 q5).lookup ("_settled" : Str) = some (V.ref q2) := rfl
theorem dfs_3 {q1 q2 q3 q4 q5 : Addr} : (dfs q1 q2 q3 q4 q5).lookup ("_newest" : Str) = some (V.ref q3) := rfl
theorem dfs_4 {q1 q2 q3 q4 q5 : Addr} : (dfs q1 q2 q3 q4 q5).lookup ("_waiting" : Str) = some (V.ref q4) := rfl
theorem dfs_5 {q1 q2 q3 q4 q5 : Addr} : (dfs q1 q2 q3 q4 q5).lookup ("_done" : Str) = some (V.ref q5) := rfl
theorem dfs_p2 {q1 q2 q3 q4 q5 p : Addr} : putF "_settled" (.ref p) (dfs q1 q2 q3 q4 q5) = dfs q1 p q3 q4 q5 := rfl
theorem dfs_p4 {q1 q2 q3 q4 q5 p : Addr} : putF "_waiting" (.ref p) (dfs q1 q2 q3 q4 q5) = dfs q1 q2 q3 p q5 := rfl

/-! ## what a disk's methods promise -/
section
variable (K : PySem.W.Frag) (C : Addr)
def spBegin : Sp := fun vs H Q _ => ∃ (a p dx : Addr) (fs : List (Str × V)) (xs : List V) (ds : List PyData), vs = [.ref a, .ref p] ∧ H a = some (.ins C dx fs) ∧ (fs = [] ∨ ∃ q1 q2 q3 q4 q5, fs = dfs q1 q2 q3 q4 q5) ∧
  SqL K H p xs ∧ DpAll K H xs ds ∧ 1 ≤ ds.length ∧ ds.length ≤ 128 ∧ valOkAll 8 ds = true ∧ ∀ H' F', DiskAt K H' C a F' (DS.new ds) → Fr [a] F' H H' → Q .non H'
/-- a value is handed in that is a number in this range, or BadCount with it -/
def badC (N f : Str) (v : V) (H : Hp) (E : XK) : Prop := ∀ (H' : Hp) (d : Addr) (t : Str), Ex H H' → H d = none → H' d = some (.xd [(f, v), ("why", .str t)]) → E (.ref (He.ga K N)) (some d) H'
def spDInit : Sp := fun vs H Q E => ∃ (a dx : Addr) (v : V) (d : PyData), vs = [.ref a, v] ∧ H a = some (.ins C dx []) ∧ Dq K H v d ∧
  (betw d 1 128 = true → ∀ H' F', DiskAt K H' C a F' (DS.new (List.replicate (intOf d).toNat (.int 0))) → Fr [a] F' H H' → Q .non H') ∧
  (betw d 1 128 = false → badC K "BadCount" "count" v H E)
/-- a method that looks -/
def spLook (g : DS → List PyData) : Sp := fun vs H Q _ => ∃ (a : Addr) (F : List Addr) (D : DS), vs = [.ref a] ∧ DiskAt K H C a F D ∧ ∀ p xs H', H p = none → Ex H H' → H' p = some (.lst xs) → DpAll K H' xs (g D) → Q (.ref p) H'
def spBlocks : Sp := fun vs H Q _ => ∃ (a : Addr) (F : List Addr) (D : DS), vs = [.ref a] ∧ DiskAt K H C a F D ∧ Q (.int D.f.length) H
def blk (D : DS) (d : PyData) : Bool := betw d 0 ((D.f.length : Int) - 1)
def spCheckB : Sp := fun vs H Q E => ∃ (a : Addr) (F : List Addr) (D : DS) (v : V) (d : PyData), vs = [.ref a, v] ∧ DiskAt K H C a F D ∧ Dq K H v d ∧ (blk D d = true → Q .non H) ∧
  (blk D d = false → badC K "BadBlock" "block" v H E)
def spRead : Sp := fun vs H Q E => ∃ (a : Addr) (F : List Addr) (D : DS) (v : V) (d : PyData), vs = [.ref a, v] ∧ DiskAt K H C a F D ∧ Dq K H v d ∧ (blk D d = true → ∀ u e, D.n[(intOf d).toNat]? = some e → Dp K H u e → Q u H) ∧
  (blk D d = false → badC K "BadBlock" "block" v H E)
def spWrite : Sp := fun vs H Q E => ∃ (a : Addr) (F : List Addr) (D : DS) (v u : V) (d e : PyData), vs = [.ref a, v, u] ∧ DiskAt K H C a F D ∧ Dq K H v d ∧ Dq K H u e ∧ D.d.length ≤ 50000 ∧
  (blk D d = true → valOk 8 e = true → ∀ H' F', DiskAt K H' C a F' (D.wr (intOf d) e) → Fr F F' H H' → Q .non H') ∧
  (blk D d = false → badC K "BadBlock" "block" v H E) ∧
  (blk D d = true → valOk 8 e = false → ∀ (H' : Hp) (d : Addr) (t : Str), Ex H H' → H d = none → H' d = some (.xd [("why", .str t)]) → E (.ref (He.ga K "BadValue")) (some d) H')
def spFlush : Sp := fun vs H Q _ => ∃ (a : Addr) (F : List Addr) (D : DS), vs = [.ref a] ∧ DiskAt K H C a F D ∧ D.d.length ≤ 50000 ∧ ∀ H' F', DiskAt K H' C a F' D.fl → Fr F F' H H' → Q .non H'
end
theorem betw_of {d : PyData} {l m : Int} (h : betw d l m = true) : ∃ i, d = .int i ∧ l ≤ i ∧ i ≤ m := by
  cases d with
  | int i =>
    unfold betw isI intOf at h
    simp only [Bool.true_and, Bool.and_eq_true, decide_eq_true_eq] at h
    exact ⟨i, rfl, h.1, h.2⟩
  | _ => simp [betw, isI] at h
theorem betw_to {i l m : Int} (h1 : l ≤ i) (h2 : i ≤ m) : betw (.int i) l m = true := by simp [betw, isI, intOf, h1, h2]
end GL

namespace GL
open PySem PySem.Spec PyProof.Rows L2 Evl

/-! ## all choices, two ways -/
def subs : List Int → List (List Int)
  | [] => [[]]
  | a :: l => subs l ++ (subs l).map (a :: ·)
theorem perm_mid {α : Type} (a b c d : List α) : ((a ++ b) ++ (c ++ d)).Perm ((a ++ c) ++ (b ++ d)) := by
  rw [List.append_assoc, List.append_assoc]
  refine List.Perm.append_left a ?_
  rw [← List.append_assoc, ← List.append_assoc]
  exact List.Perm.append_right d List.perm_append_comm
theorem subs_snoc (k : Int) : ∀ l : List Int, (subs (l ++ [k])).Perm (subs l ++ (subs l).map (· ++ [k]))
  | [] => by simp [subs]
  | a :: l => by
    have ih := subs_snoc k l
    have h1 : (subs (a :: l ++ [k])).Perm ((subs l ++ (subs l).map (· ++ [k])) ++ ((subs l ++ (subs l).map (· ++ [k])).map (a :: ·))) := by
      show (subs (l ++ [k]) ++ (subs (l ++ [k])).map (a :: ·)).Perm _
      exact List.Perm.append ih (ih.map _)
    refine h1.trans ?_
    rw [List.map_append]
    refine (perm_mid _ _ _ _).trans ?_
    have e : (subs (a :: l)).map (· ++ [k]) = (subs l).map (· ++ [k]) ++ ((subs l).map (· ++ [k])).map (a :: ·) := by
      show (subs l ++ (subs l).map (a :: ·)).map (· ++ [k]) = _
      rw [List.map_append, List.map_map, List.map_map]
      rfl
    rw [e]
    exact List.Perm.refl _
/-- by last items: as the law builds them -/
def allL : Nat → List (List Int)
  | 0 => [[]]
  | k + 1 => allL k ++ (allL k).map (· ++ [(k : Int)])
def ups (m : Nat) : List Int := (List.range m).map Int.ofNat
theorem allL_perm : ∀ m : Nat, (allL m).Perm (subs (ups m))
  | 0 => List.Perm.refl _
  | m + 1 => by
    have e : ups (m + 1) = ups m ++ [(m : Int)] := by unfold ups; rw [List.range_succ, List.map_append]; rfl
    rw [e]
    refine List.Perm.trans ?_ (subs_snoc (m : Int) (ups m)).symm
    exact List.Perm.append (allL_perm m) ((allL_perm m).map _)
/-- by first items: as the program builds them; j turns, counted down from m -/
def chU (m : Nat) : Nat → List (List Int)
  | 0 => [[]]
  | j + 1 => [[]] ++ (chU m j).map (((m : Int) - 1 - j) :: ·) ++ (chU m j).tail
theorem chU_ne (m : Nat) : ∀ j, ∃ t, chU m j = [] :: t
  | 0 => ⟨[], rfl⟩
  | j + 1 => ⟨_, rfl⟩
def downs (m : Nat) : Nat → List Int
  | 0 => []
  | j + 1 => ((m : Int) - 1 - j) :: downs m j
theorem chU_perm (m : Nat) : ∀ j, (chU m j).Perm (subs (downs m j))
  | 0 => List.Perm.refl _
  | j + 1 => by
    have ih := chU_perm m j
    obtain ⟨t, ht⟩ := chU_ne m j
    have h1 : (chU m (j + 1)).Perm (chU m j ++ (chU m j).map (((m : Int) - 1 - j) :: ·)) := by
      show ([[]] ++ (chU m j).map (((m : Int) - 1 - j) :: ·) ++ (chU m j).tail).Perm _
      rw [ht, List.tail_cons, List.singleton_append, List.cons_append, List.cons_append]
      exact (List.perm_append_comm).cons []
    exact h1.trans (List.Perm.append ih (ih.map _))
theorem downs_ups (m : Nat) : downs m m = ups m := by
  have h : ∀ j, j ≤ m → downs m j = (List.range' (m - j) j).map Int.ofNat := by
    intro j
    induction j with
    | zero => intro _; rfl
    | succ j ih =>
      intro hj
      have e : m - (j + 1) + 1 = m - j := by omega
      show ((m : Int) - 1 - j) :: downs m j = _
      rw [ih (by omega), List.range'_succ, List.map_cons, e]
      congr 1
      show (m : Int) - 1 - j = ((m - (j + 1) : Nat) : Int)
      omega
  rw [h m (Nat.le_refl _), Nat.sub_self]
  unfold ups
  rw [List.range_eq_range']
theorem chU_sorted (m : Nat) : ∀ j, (chU m j).Pairwise (· ≤ ·) ∧ ∀ x ∈ (chU m j).tail, ∃ a r, x = a :: r ∧ (m : Int) - j ≤ a
  | 0 => ⟨by simp [chU], by simp [chU]⟩
  | j + 1 => by
    obtain ⟨h1, h2⟩ := chU_sorted m j
    obtain ⟨t, ht⟩ := chU_ne m j
    have e : chU m (j + 1) = [] :: ((chU m j).map (((m : Int) - 1 - j) :: ·) ++ t) := by
      show [[]] ++ (chU m j).map (((m : Int) - 1 - j) :: ·) ++ (chU m j).tail = _
      rw [ht]
      rfl
    rw [e]
    rw [ht] at h2
    have hm : ∀ x ∈ (chU m j).map (((m : Int) - 1 - j) :: ·) ++ t, ∃ a r, x = a :: r ∧ (m : Int) - (j + 1 : Nat) ≤ a := by
      intro x hx
      rcases List.mem_append.mp hx with z | z
      · obtain ⟨y, _, rfl⟩ := List.mem_map.mp z
        exact ⟨_, _, rfl, by omega⟩
      · obtain ⟨a, r, rfl, ha⟩ := h2 x z
        exact ⟨a, r, rfl, by omega⟩
    refine ⟨List.pairwise_cons.mpr ⟨fun x _ => ?_, List.pairwise_append.mpr ⟨?_, ?_, ?_⟩⟩, hm⟩
    · exact List.nil_le x
    · rw [List.pairwise_map]
      exact h1.imp fun {a b} z => List.cons_le_cons_iff.mpr (.inr ⟨rfl, z⟩)
    · rw [ht] at h1
      exact (List.pairwise_cons.mp h1).2
    · intro x hx y hy
      obtain ⟨z, _, rfl⟩ := List.mem_map.mp hx
      obtain ⟨a, r, rfl, ha⟩ := h2 y hy
      exact List.cons_le_cons_iff.mpr (.inl (by omega))
theorem chs_all {m : Nat} {ls : List (List Int)} (hp : ls.Perm (allL m)) (hs : ls.Pairwise (· ≤ ·)) : ls = chU m m := by
  refine List.Perm.eq_of_pairwise (le := (· ≤ ·)) (fun a b _ _ => List.le_antisymm) hs (chU_sorted m m).1 ?_
  refine hp.trans ((allL_perm m).trans ?_)
  rw [← downs_ups]
  exact (chU_perm m m).symm
theorem allL_len : ∀ m, (allL m).length = 2 ^ m
  | 0 => rfl
  | m + 1 => by
    show (allL m ++ (allL m).map _).length = _
    rw [List.length_append, List.length_map, allL_len m, Nat.pow_succ]
    omega
theorem chU_len (m j : Nat) : (chU m j).length = 2 ^ j := by
  induction j with
  | zero => rfl
  | succ j ih =>
    obtain ⟨t, ht⟩ := chU_ne m j
    show ([[]] ++ (chU m j).map _ ++ (chU m j).tail).length = _
    rw [List.length_append, List.length_append, List.length_map, List.length_tail, ih, Nat.pow_succ]
    have : 0 < 2 ^ j := Nat.pos_of_ne_zero (by simp)
    simp only [List.length_singleton]
    omega

theorem chU_in (m : Nat) : ∀ j, ∀ x ∈ chU m j, x.length ≤ j
  | 0 => by intro x hx; rw [List.mem_singleton.mp hx]; exact Nat.le_refl _
  | j + 1 => by
    intro x hx
    have ih := chU_in m j
    have hx : x ∈ [[]] ++ (chU m j).map (((m : Int) - 1 - j) :: ·) ++ (chU m j).tail := hx
    rcases List.mem_append.mp hx with z | z
    · rcases List.mem_append.mp z with z | z
      · rw [List.mem_singleton.mp z]; exact Nat.zero_le _
      · obtain ⟨y, hy, rfl⟩ := List.mem_map.mp z
        have := ih y hy
        simp only [List.length_cons]
        omega
    · have := ih x (List.mem_of_mem_tail z)
      omega
theorem allL_in : ∀ m, ∀ x ∈ allL m, x.length ≤ m
  | 0 => by intro x hx; rw [List.mem_singleton.mp hx]; exact Nat.le_refl _
  | m + 1 => by
    intro x hx
    rcases List.mem_append.mp (show x ∈ allL m ++ (allL m).map (· ++ [(m : Int)]) from hx) with z | z
    · have := allL_in m x z
      omega
    · obtain ⟨y, hy, rfl⟩ := List.mem_map.mp z
      have := allL_in m y hy
      simp only [List.length_append, List.length_singleton]
      omega
theorem cutV_tail {x : V} {xs : List V} : cutV (x :: xs) (some 1) none = xs := by
  unfold cutV
  have e1 : HT.sIx (x :: xs).length 0 (some 1) = 1 := by
    rw [show (some (1 : Int)) = some ((1 : Nat) : Int) from rfl, HT.sIx_nat]
    simp
  have e2 : HT.sIx (x :: xs).length (x :: xs).length none = (x :: xs).length := rfl
  rw [e1, e2]
  simp
/-! ## lists of lists of ints, each a tracked list -/
inductive LLs (H : Hp) : List V → List (List Int) → Prop
  | nil : LLs H [] []
  | cons {q : Addr} {l : List Int} {vs : List V} {ls : List (List Int)} (h : H q = some (.lst (l.map V.int))) (t : LLs H vs ls) : LLs H (.ref q :: vs) (l :: ls)
def dI (l : List Int) : PyData := .list (l.map .int)
def dL (ls : List (List Int)) : PyData := .list (ls.map dI)
section
variable {K : PySem.W.Frag} {H H' : Hp}
theorem lls_ex (e : Ex H H') : ∀ {vs : List V} {ls : List (List Int)}, LLs H vs ls → LLs H' vs ls
  | _, _, .nil => .nil
  | _, _, .cons h t => .cons (e _ _ h) (lls_ex e t)
theorem lls_put {d : Addr} {o : HO} : ∀ {vs : List V} {ls : List (List Int)}, LLs H vs ls → V.ref d ∉ vs → LLs (upd H d o) vs ls
  | _, _, .nil, _ => .nil
  | _, _, .cons h t, n => .cons (by rw [upd_ne (fun z => n (by rw [z]; exact List.mem_cons_self))]; exact h) (lls_put t fun z => n (List.mem_cons_of_mem _ z))
theorem lls_old {d : Addr} (hd : H d = none) : ∀ {vs : List V} {ls : List (List Int)}, LLs H vs ls → V.ref d ∉ vs
  | _, _, .nil => List.not_mem_nil
  | _, _, .cons h t => fun z => by
    rcases List.mem_cons.mp z with z | z
    · cases z
      rw [hd] at h
      cases h
    · exact lls_old hd t z
theorem lls_mu {F : List Addr} (m : Mu F H H') : ∀ {vs : List V} {ls : List (List Int)}, LLs H vs ls → (∀ q ∈ F, V.ref q ∉ vs) → LLs H' vs ls
  | _, _, .nil, _ => .nil
  | _, _, .cons h t, n => .cons (m _ _ h fun z => n _ z List.mem_cons_self) (lls_mu m t fun q hq z => n q hq (List.mem_cons_of_mem _ z))
theorem lls_app : ∀ {vs ws : List V} {ls ms : List (List Int)}, LLs H vs ls → LLs H ws ms → LLs H (vs ++ ws) (ls ++ ms)
  | _, _, _, _, .nil, h => h
  | _, _, _, _, .cons h t, h2 => .cons h (lls_app t h2)
theorem lls_len : ∀ {vs : List V} {ls : List (List Int)}, LLs H vs ls → vs.length = ls.length
  | _, _, .nil => rfl
  | _, _, .cons _ t => by rw [List.length_cons, List.length_cons, lls_len t]
theorem lls_drop : ∀ {vs : List V} {ls : List (List Int)} (n : Nat), LLs H vs ls → LLs H (vs.drop n) (ls.drop n)
  | _, _, 0, h => h
  | _, _, _ + 1, .nil => .nil
  | _, _, n + 1, .cons _ t => lls_drop n t
theorem lls_get : ∀ {vs : List V} {ls : List (List Int)} {i : Nat} {v : V}, LLs H vs ls → vs[i]? = some v → ∃ q l, v = .ref q ∧ ls[i]? = some l ∧ H q = some (.lst (l.map V.int))
  | _, _, _, _, .nil, h => by simp at h
  | _, _, 0, v, .cons (q := q) (l := l) h t, e => by
    have : V.ref q = v := by simpa using e
    exact ⟨q, l, this.symm, rfl, h⟩
  | _, _, i + 1, v, .cons h t, e => by
    obtain ⟨q, l, a, b, c⟩ := lls_get (i := i) t (by simpa using e)
    exact ⟨q, l, a, by simpa using b, c⟩
theorem ints_dp : ∀ l : List Int, DpAll K H (l.map V.int) (l.map .int)
  | [] => .nil
  | i :: l => .cons (.int i) (ints_dp l)
theorem lls_dp : ∀ {vs : List V} {ls : List (List Int)}, LLs H vs ls → DpAll K H vs (ls.map dI)
  | _, _, .nil => .nil
  | _, _, .cons h t => .cons (.lst (sq_of h) (ints_dp _)) (lls_dp t)
end
/-- sorted(x), x a list of such lists -/
def rSortLL : List V → Hp → VK → Prop := fun xs H Q => ∃ (a : Addr) (vs : List V) (ls : List (List Int)), xs = [.ref a] ∧ H a = some (.lst vs) ∧ LLs H vs ls ∧ ls.length ≤ 100000 ∧
  ∀ (vs' : List V) (ls' : List (List Int)) (p : Addr), ls'.Perm ls → ls'.Pairwise (· ≤ ·) → LLs H vs' ls' → H p = none → Q (.ref p) (upd H p (.lst vs'))
theorem zip_fst : ∀ {vs : List V} {ls : List (List Int)}, vs.length = ls.length → (vs.zip ls).map (·.1) = vs
  | [], [], _ => rfl
  | v :: vs, l :: ls, h => by rw [List.zip_cons_cons, List.map_cons, zip_fst (by simpa using h)]
theorem zip_snd : ∀ {vs : List V} {ls : List (List Int)}, vs.length = ls.length → (vs.zip ls).map (·.2) = ls
  | [], [], _ => rfl
  | v :: vs, l :: ls, h => by rw [List.zip_cons_cons, List.map_cons, zip_snd (by simpa using h)]
theorem call_sortLL {X : Cx} {c : Bool} {k : Nat} (hr : Rm c k X.A) : CallR X (.builtin "sorted") rSortLL := by
  intro pins s σ H xs us Q I r h
  obtain ⟨a, vs, ls, rfl, ha, hl, hz, q⟩ := h
  obtain ⟨its, rv, hil, _⟩ := I.list (sq_of ha)
  rw [Vals.ref1 r]
  have lv := lls_len hl
  -- the items with their lists
  have each : ∀ {ws : List V} {ms : List (List Int)} {us : List Value}, LLs H ws ms → Vals ws us →
      PySem.W.EachIs (fun (u : Value) (b : V × List Int) => RelV b.1 u ∧ ∃ q, b.1 = .ref q ∧ H q = some (.lst (b.2.map V.int))) us (ws.zip ms) := by
    intro ws ms us h1
    induction h1 generalizing us with
    | nil => intro h2; cases h2; exact .nil
    | cons h t ih => intro h2; cases h2 with | cons r1 r2 => exact .cons ⟨r1, _, rfl, h⟩ (ih r2)
  have reads : ∀ {u : Value} {b : V × List Int}, (RelV b.1 u ∧ ∃ q, b.1 = .ref q ∧ H q = some (.lst (b.2.map V.int))) → ∃ as, Reads s.heap u (dI b.2) as := by
    rintro u ⟨v, l⟩ ⟨r, q, e, hq⟩
    exact Dp.reads I (dI l) v u (by rw [show v = V.ref q from e]; exact .lst (sq_of hq) (ints_dp l)) r
  have e1 := each hl rv
  have hdep : ∀ l : List Int, (dI l).depth = 1 := fun l => by unfold dI; rw [PyData.depth, PySem.W.depth_ints]
  refine PySem.W.sorted_data (β := V × List Int) (enc := fun b => dI b.2) (R := fun u b => RelV b.1 u ∧ ∃ q, b.1 = .ref q ∧ H q = some (.lst (b.2.map V.int))) (vs := its) (bs := vs.zip ls) hil.isList e1 (e1.mono fun _ _ z => reads z)
    (PySem.W.AllAlike.of fun b b' => by unfold dI; simp only [PySem.W.alike]; exact PySem.W.alike_ints _ _) (PySem.W.Sortable.others fun b => ⟨by unfold dI; simp, by unfold dI; simp⟩) ?_ (fun b _ => ?_) fun out hlen eo => ?_
  · rw [List.length_zip, lv, Nat.min_self]
    exact sz_of hz
  · rw [hdep]
    have := hr.un
    omega
  · obtain ⟨ep, he'⟩ := PyProof.Rows.sortedAll_at s.heap its out.toArray
    have le_eq : PySem.W.dataLe false (fun b : V × List Int => dI b.2) = fun p q => decide (p.2 ≤ q.2) := PySem.W.dataLe_rows (fun b : V × List Int => b.2)
    rw [le_eq] at eo
    have pm := List.mergeSort_perm (vs.zip ls) (fun p q => decide (p.2 ≤ q.2))
    have sr := List.pairwise_mergeSort (le := fun p q : V × List Int => decide (p.2 ≤ q.2)) (fun a b c h1 h2 => decide_eq_true (List.le_trans (of_decide_eq_true h1) (of_decide_eq_true h2)))
      (fun a b => by rcases List.le_total a.2 b.2 with z | z <;> simp [z]) (vs.zip ls)
    generalize hg : List.mergeSort (vs.zip ls) (fun p q => decide (p.2 ≤ q.2)) = bs' at eo pm sr
    have back : ∀ {us : List Value} {bs : List (V × List Int)}, PySem.W.EachIs (fun (u : Value) (b : V × List Int) => RelV b.1 u ∧ ∃ q, b.1 = .ref q ∧ H q = some (.lst (b.2.map V.int))) us bs → Vals (bs.map (·.1)) us ∧ LLs H (bs.map (·.1)) (bs.map (·.2)) := by
      intro us bs h
      induction h with
      | nil => exact ⟨.nil, .nil⟩
      | @cons u b us bs h t ih =>
        obtain ⟨r, q, e, hq⟩ := h
        obtain ⟨v, l⟩ := b
        have e : v = .ref q := e
        subst e
        exact ⟨.cons r ih.1, .cons hq ih.2⟩
    obtain ⟨w1, w2⟩ := back eo
    have hlen2 : (bs'.map (·.1)).length ≤ sizeLine := by
      rw [List.length_map, pm.length_eq, List.length_zip, lv, Nat.min_self]
      exact sz_of hz
    refine ⟨.ref (s.heap.objs.size + 1), upd H (s.heap.objs.size + 1) (.lst (bs'.map (·.1))), I.laid (t' := s.toks) (fun _ _ => PyProof.Rows.sortedAll_old) (Nat.le_succ _) ⟨hlen2, out, ep, w1, he'⟩, rfl, q _ (bs'.map (·.2)) _ ?_ ?_ w2 (I.hok.fresh (Nat.le_succ _))⟩
    · have := pm.map (·.2)
      rw [zip_snd lv] at this
      exact this
    · rw [List.pairwise_map]
      exact sr.imp fun z => of_decide_eq_true z
end GL

namespace GL
open PySem PySem.Spec PyProof.Rows L2 Evl
section
variable {K : PySem.W.Frag} {σ : L2.St} {H : Hp} {D : Ends} {Q : VK}
theorem rd_lc {wi : TI} {g : TG} {tt : TT} {te : TE} {vs : List Nat} (h : wi σ H fun J H1 => ∀ D, H1 D = none → ∃ W : Nat → Nat → Hp → Prop, (∃ m, W 0 m (upd H1 D (.lst []))) ∧ ∀ i m H, W i m H →
  (J.stop i H ∧ Q (.ref D) H) ∨ (J.go i H ∧ ∃ Nx : Hp → Prop, (∀ H', Nx H' → ∃ m', m' < m ∧ W (i + 1) m' H') ∧ ∀ x H', J.yld i H x H' → g x (wipe σ vs) H' fun σ2 H2 => wipe σ2 vs = wipe σ vs ∧ tt σ2 H2 fun b H3 =>
    if b = true then te σ2 H3 fun y H4 => ∃ acc, H4 D = some (.lst acc) ∧ acc.length < sizeLine ∧ Nx (upd H4 D (.lst (acc ++ [y]))) else Nx H3)) : tLc wi g tt te vs σ H Q := h
theorem rd_make {C : Addr} {sp : Sp} {W : WX} {t : TA} (h : t σ H fun vs H1 => ∀ x dx, H1 x = none → H1 dx = none → dx ≠ x → sp (.ref x :: vs) (upd (upd H1 dx (.own x)) x (.ins C dx [])) (fun v H2 => v = .non ∧ Q (.ref x) H2) fun cls d H' => W cls d σ H') : cMake C sp W t σ H Q := h
theorem rd_yes {B : Bool → Hp → Prop} (h : B true H) : tYes σ H B := h
theorem rd_revR {tr : L2.St → Hp → (Int → Int → Hp → Prop) → Prop} {R : It → Hp → Prop} (h : tr σ H fun a b H1 => -(2 ^ 62) ≤ a ∧ a < 2 ^ 62 ∧ -(2 ^ 62) ≤ b ∧ b < 2 ^ 62 ∧ R (Itc (a + (((b - a).toNat : Nat) : Int) - 1) (-1) (b - a).toNat) H1) : iRevR tr σ H R := h
theorem rd_rg1 {ta : TE} {R : Int → Int → Hp → Prop} (h : ta σ H fun x H1 => ∃ i, x = .int i ∧ R 0 i H1) : tRg1 ta σ H R := h
end
def spDiskOf (K : PySem.W.Frag) (C : Addr) : Sp := fun vs H Q _ => ∃ (p : Addr) (xs : List V) (ds : List PyData), vs = [.ref p] ∧ SqL K H p xs ∧ DpAll K H xs ds ∧ 1 ≤ ds.length ∧ ds.length ≤ 128 ∧ valOkAll 8 ds = true ∧
  ∀ a F H', Ex H H' → (∀ b ∈ F, H b = none) → a ∈ F → DiskAt K H' C a F (DS.new ds) → Q (.ref a) H'
/-- which choice is refused: the index of the first that is none -/
def chk (n : Nat) : List PyData → Int → Nat → Option Nat
  | [], _, _ => none
  | d :: ds, l, at_ => if betw d l ((n : Int) - 1) = true then chk n ds (intOf d + 1) (at_ + 1) else some at_
def spCheckC (K : PySem.W.Frag) (C : Addr) : Sp := fun vs H Q E => ∃ (a : Addr) (F : List Addr) (D : DS) (v : V) (d : PyData), vs = [.ref a, v] ∧ DiskAt K H C a F D ∧ Dq K H v d ∧ D.w.length ≤ 50000 ∧
  (∀ ds, d = .list ds → chk D.w.length ds 0 0 = none → ∀ H', Ex H H' → Q .non H') ∧
  (isLs d = false → badC K "BadChoice" "at" .non H E) ∧
  (∀ ds k, d = .list ds → chk D.w.length ds 0 0 = some k → badC K "BadChoice" "at" (.int (k : Nat)) H E)
def putW (acc : List PyData) (x : PyData) : List PyData := match x with
  | .tuple [.int b, v] => acc.set b.toNat v
  | _ => acc
def DS.cr (D : DS) (ks : List PyData) : List PyData := ks.foldl (fun acc k => match D.w[(intOf k).toNat]? with | some x => putW acc x | none => acc) D.s
def spCrash (K : PySem.W.Frag) (C : Addr) : Sp := fun vs H Q E => ∃ (a : Addr) (F : List Addr) (D : DS) (v : V) (d : PyData), vs = [.ref a, v] ∧ DiskAt K H C a F D ∧ Dq K H v d ∧ D.w.length ≤ 50000 ∧
  (∀ ds, d = .list ds → chk D.w.length ds 0 0 = none → ∀ a' F' H', Ex H H' → (∀ b ∈ F', H b = none) → DiskAt K H' C a' F' (DS.new (D.cr ds)) → Q (.ref a') H') ∧
  (isLs d = false → badC K "BadChoice" "at" .non H E) ∧
  (∀ ds k, d = .list ds → chk D.w.length ds 0 0 = some k → badC K "BadChoice" "at" (.int (k : Nat)) H E)
def spChoices (K : PySem.W.Frag) (C : Addr) : Sp := fun vs H Q E => ∃ (a : Addr) (F : List Addr) (D : DS), vs = [.ref a] ∧ DiskAt K H C a F D ∧ D.w.length ≤ 50000 ∧
  (D.w.length ≤ 10 → ∀ p q qs H', Ex H H' → H p = none → (∀ r, V.ref r ∈ V.ref q :: qs → H r = none) → H' p = some (.lst (.ref q :: qs)) → LLs H' (.ref q :: qs) (chU D.w.length D.w.length) → Q (.ref p) H') ∧
  (10 < D.w.length → badC K "TooMany" "limit" (.int 10) H E)
end GL
namespace GL
theorem chk_get {n : Nat} : ∀ {ds : List PySem.PyData} {l : Int} {a i : Nat} {d : PySem.PyData}, 0 ≤ l → chk n ds l a = none → ds[i]? = some d → ∃ j, d = .int j ∧ 0 ≤ j ∧ j < n
  | [], _, _, _, _, _, _, h => by simp at h
  | e :: ds, l, a, i, d, hl, hc, h => by
    unfold chk at hc
    split at hc
    · rename_i hb
      obtain ⟨j, rfl, h1, h2⟩ := betw_of hb
      cases i with
      | zero =>
        have : d = .int j := by simpa using h.symm
        exact ⟨j, this, by omega, by omega⟩
      | succ i => exact chk_get (ds := ds) (i := i) (l := intOf (.int j) + 1) (show 0 ≤ j + 1 by omega) hc (by simpa using h)
    · cases hc
theorem chk_at {n : Nat} {ds : List PySem.PyData} {i : Nat} {d : PySem.PyData} (hc : chk n ds 0 0 = none) (h : ds[i]? = some d) : ∃ j, d = .int j ∧ 0 ≤ j ∧ j < n := chk_get (Int.le_refl 0) hc h
end GL

namespace GL
open PySem PySem.Spec PyProof.Rows L2 Evl

/-! ## a law's own small defs -/
def spLCell (K : PySem.W.Frag) : Sp := fun vs H Q _ => ∃ (a : Addr) (k : Int) (ns : List Int), vs = [.ref a, .int k] ∧ SqL K H a (ns.map V.int) ∧ 0 ≤ k ∧ ∀ i : Int, Q (.int i) H
def spWell : Sp := fun vs H Q _ => ∃ c : Int, vs = [.int c] ∧ ∀ (p : Addr) (x : Int) (H' : Hp), H p = none → Ex H H' → H' p = some (.lst [.int x, .int c, .int 0]) → Q (.ref p) H'
def spDraw : Sp := fun vs H Q _ => ∃ (p : Addr) (m x c n : Int), vs = [.ref p, .int m] ∧ H p = some (.lst [.int x, .int c, .int n]) ∧ 1 ≤ m ∧ m ≤ 1000000000000 ∧ 0 ≤ n ∧ n ≤ 100000 ∧
  ∀ r x' n' : Int, 0 ≤ r → r < m → n ≤ n' → n' ≤ n + 1 → Q (.int r) (upd H p (.lst [.int x', .int c, .int n']))
theorem div_ok {i m : Int} (h0 : 0 < m) (h1 : m ≤ 1000000000000) : CDivW i m := by
  refine ⟨h0, ?_⟩
  have h2 : m.natAbs ≠ 0 := by omega
  have h3 : m.natAbs.log2 < 40 := (Nat.log2_lt h2).mpr (show m.natAbs < 2 ^ 40 by omega)
  omega
def spAll : Sp := fun vs H Q _ => ∃ m : Nat, vs = [.int (m : Int)] ∧ m ≤ 11 ∧ ∀ p ws H', Ex H H' → H p = none → H' p = some (.lst ws) → LLs H' ws (chU m m) → Q (.ref p) H'
/-- an error that is held: its class, its fields -/
structure Err (K : PySem.W.Frag) (errs : List (Str × List Str)) (H : Hp) (a : Addr) (x : Str) (fs : List (Str × V)) : Prop where
  ex : ∃ (o : Obj) (d : Addr), H a = some (FX o a) ∧ Zc (.ref (He.ga K x)) (some d) o ∧ (∃ vs, o.data = .fields vs) ∧ H d = some (.xd fs)
  ec : ErrC K "LogError" errs x
  wy : ∃ t, fs.lookup ("why" : Str) = some (.str t)
def spClasses (K : PySem.W.Frag) (errs : List (Str × List Str)) (names : List Str) : Sp := fun vs H Q _ => ∃ (a : Addr) (x : Str) (fs : List (Str × V)), vs = [.ref a] ∧ Err K errs H a x fs ∧ x ∈ names ∧ ∀ H', Ex H H' → Q (.int 1) H'
theorem Err.exd {K : PySem.W.Frag} {errs : List (Str × List Str)} {H H' : Hp} {a : Addr} {x : Str} {fs : List (Str × V)} (h : Err K errs H a x fs) (e : Ex H H') : Err K errs H' a x fs := by
  obtain ⟨⟨o, d, h1, h2, h3, h4⟩, h5, h6⟩ := h
  exact ⟨⟨o, d, e _ _ h1, h2, h3, e _ _ h4⟩, h5, h6⟩
/-- isinstance(e, D) of such an error, D an error class -/
theorem Err.isi {K : PySem.W.Frag} {errs : List (Str × List Str)} {H : Hp} {a : Addr} {x y : Str} {fs : List (Str × V)} {Q : VK} {q : Str × List Str} (h : Err K errs H a x fs) (hq : q ∈ errs) (hy : q.1 = y) (k : Q (.bl (decide (x = y))) H) : rIsF K [.ref a, .ref (He.ga K y)] H Q := by
  obtain ⟨⟨o, d, h1, h2, h3, h4⟩, h5, h6⟩ := h
  subst hy
  exact ⟨a, _, _, d, o, fs, _, rfl, h1, h2, h3, h4, h5.xc, h5.kit q hq, k⟩
/-- .. the base -/
theorem Err.isb {K : PySem.W.Frag} {errs : List (Str × List Str)} {H : Hp} {a : Addr} {x : Str} {fs : List (Str × V)} {Q : VK} (h : Err K errs H a x fs) (k : Q (.bl true) H) : rIsF K [.ref a, .ref (He.ga K "LogError")] H Q := by
  obtain ⟨⟨o, d, h1, h2, h3, h4⟩, h5, h6⟩ := h
  exact ⟨a, _, _, d, o, fs, _, rfl, h1, h2, h3, h4, h5.xc, h5.kb, k⟩
/-- e.why -/
theorem Err.fwhy {K : PySem.W.Frag} {errs : List (Str × List Str)} {H : Hp} {a : Addr} {x : Str} {fs : List (Str × V)} {Q : VK} (h : Err K errs H a x fs) (k : ∀ t : Str, Q (.str t) H) :
    ∃ (a' C d : Addr) (o : Obj) (fs' : List (Str × V)) (v : V), V.ref a = .ref a' ∧ H a' = some (FX o a') ∧ Zc (.ref C) (some d) o ∧ (∃ vs, o.data = .fields vs) ∧ XC K C ∧
      PySem.W.findIn K (.ref C) "why" = some none ∧ H d = some (.xd fs') ∧ fs'.lookup ("why" : Str) = some v ∧ Q v H := by
  obtain ⟨⟨o, d, h1, h2, h3, h4⟩, h5, t, h6⟩ := h
  exact ⟨a, _, d, o, fs, .str t, rfl, h1, h2, h3, h5.xc, h5.why, h4, h6, k t⟩
theorem ex_del {H H2 : Hp} {a : Addr} {o : HO} (hn : H a = none) (e : Ex (upd H a o) H2) : Ex H (del H2 a) := fun b u h => by
  have hb : b ≠ a := ne_of_none h hn
  rw [del_ne hb]
  exact e b u (by rw [upd_ne hb]; exact h)
section
variable {K : PySem.W.Frag} {σ : L2.St} {H : Hp} {D : Ends} {Q : VK}
theorem rd_fxf {te : TE} {n : Str} (h : te σ H fun x H1 => ∃ (a C d : Addr) (o : Obj) (fs : List (Str × V)) (v : V), x = .ref a ∧ H1 a = some (FX o a) ∧ Zc (.ref C) (some d) o ∧ (∃ vs, o.data = .fields vs) ∧ XC K C ∧
  PySem.W.findIn K (.ref C) n = some none ∧ H1 d = some (.xd fs) ∧ fs.lookup n = some v ∧ Q v H1) : tXfF K te n σ H Q := h
theorem rd_fxp {a : Addr} {cls : Value} {d : Option Addr} {te : TE} {n : Str} (h : te σ H fun x H1 => x = .ref a ∧ ∃ (C dd : Addr) (fs : List (Str × V)) (v : V), cls = .ref C ∧ d = some dd ∧ XC K C ∧
  PySem.W.findIn K (.ref C) n = some none ∧ H1 dd = some (.xd fs) ∧ fs.lookup n = some v ∧ Q v H1) : tXfP K a cls d te n σ H Q := h
theorem rd_callE {a : Addr} {cls : Value} {d : Option Addr} {sp : Sp} {t : TA} (h : t σ H fun vs H1 => ∀ o : Obj, Zc cls d o → (∃ vs, o.data = .fields vs) → H1 a = none → sp vs (upd H1 a (FX o a)) (fun v H2 => Q v (del H2 a)) E0) : cCallE a cls d sp t σ H Q := h
theorem rd_catN {l b : Addr} {xs zs : List V} (h1 : H l = some (.lst xs)) (h2 : H b = some (.lst zs)) (hz : xs.length + zs.length ≤ 100000) (h : ∀ p H2, H p = none → Ex H H2 → H2 p = some (.lst (xs ++ zs)) → Q (.ref p) H2) : rCat (.ref l) (.ref b) H Q :=
  rd_cat h1 h2 hz fun p np => h p _ np (Ex.new np) upd_same
theorem rd_sllN {a : Addr} {xs : List V} {lo hi : Option Int} (h1 : SqL K H a xs) (h : ∀ p H2, H p = none → Ex H H2 → H2 p = some (.lst (cutV xs lo hi)) → Q (.ref p) H2) : rSlL K (.ref a) lo hi H Q :=
  rd_sll h1 fun p np => h p _ np (Ex.new np) upd_same
theorem rd_int1b {b : Bool} (h : Q (.int (if b then 1 else 0)) H) : (∃ i, [V.bl b] = [.int i] ∧ Q (.int i) H) ∨ ∃ k, [V.bl b] = [.bl k] ∧ Q (.int (if k then 1 else 0)) H := .inr ⟨b, rfl, h⟩
end
end GL
namespace GL
open PySem PySem.Spec PyProof.Rows L2 Evl
def spTold (K : PySem.W.Frag) (C : Addr) : Sp := fun vs H Q E => ∃ (a : Addr) (F : List Addr) (D : DS), vs = [.ref a] ∧ DiskAt K H C a F D ∧ D.w.length ≤ 50000 ∧
  (D.w.length ≤ 10 → ∀ p q qs H', Ex H H' → H p = none → (∀ r, V.ref r ∈ V.ref q :: qs → H r = none) → H' p = some (.lst (.ref q :: qs)) → LLs H' (.ref q :: qs) (chU D.w.length D.w.length) → Q (.ref p) H') ∧
  (10 < D.w.length → ∀ p H', Ex H H' → H p = none → H' p = some (.lst [.bl true, .int 10]) → Q (.ref p) H')
end GL

namespace GL
open PySem PySem.Spec PyProof.Rows L2 Evl
/-! ## new objects: the heap behind is any one that has grown by them -/
def tTupN (t : TA) : TE := fun σ H Q => t σ H fun xs H1 => xs.length ≤ 100000 ∧ ∀ p H2, H1 p = none → Ex H1 H2 → H2 p = some (.tup xs) → Q (.ref p) H2
def tLstN (t : TA) : TE := fun σ H Q => t σ H fun xs H1 => xs.length ≤ 100000 ∧ ∀ p H2, H1 p = none → Ex H1 H2 → H2 p = some (.lst xs) → Q (.ref p) H2
section
variable {X : Cx} {es : List Expr} {t : TA} {pos : Pos}
theorem pe_tupN {x1} (h : PA X es t) : PE X (.Tuple es x1 pos) (tTupN t) := by
  refine ⟨fun pins s σ H Q I hq => ?_⟩
  refine wpAny_Tuple_spliced (thn (h.run pos pins s σ H _ I hq) fun us s1 ⟨xs, H1, I1, r, z, q⟩ => ⟨by rw [← r.length]; exact sz_of z, ?_⟩)
  have hf : H1 s1.heap.objs.size = none := I1.hok.fresh (Nat.le_refl _)
  refine ⟨.ref s1.heap.objs.size, upd H1 s1.heap.objs.size (.tup xs), I1.laid (t' := s1.toks) (fun b u e => Heap.get?_push_of_some _ e) (Nat.le_refl _) ?_, rfl, q _ _ hf (Ex.new hf) upd_same⟩
  exact ⟨sz_of z, us, r, ⟨_, Heap.get?_push_size _ rfl, rfl, _, rfl⟩⟩
theorem pe_lstN (h : PA X es t) : PE X (.List es pos) (tLstN t) := by
  refine ⟨fun pins s σ H Q I hq => ?_⟩
  refine wpAny_List_spliced (thn (h.run pos pins s σ H _ I hq) fun us s1 ⟨xs, H1, I1, r, z, q⟩ => ⟨by rw [← r.length]; exact sz_of z, ?_⟩)
  have hf : H1 s1.heap.objs.size = none := I1.hok.fresh (Nat.le_refl _)
  refine ⟨.ref s1.heap.objs.size, upd H1 s1.heap.objs.size (.lst xs), I1.laid (t' := s1.toks) (fun b u e => Heap.get?_push_of_some _ e) (Nat.le_refl _) ?_, rfl, q _ _ hf (Ex.new hf) upd_same⟩
  exact ⟨sz_of z, us, 0, r, Heap.get?_push_size _ rfl⟩
def rCatN : R2 := fun x y H Q => ∃ l b xs zs, x = .ref l ∧ y = .ref b ∧ H l = some (.lst xs) ∧ H b = some (.lst zs) ∧ xs.length + zs.length ≤ 100000 ∧ ∀ p H2, H p = none → Ex H H2 → H2 p = some (.lst (xs ++ zs)) → Q (.ref p) H2
theorem op_catN : OpR X (binaryOp .Add) rCatN := by
  intro pins s σ H x y v u Q I rx ry h
  obtain ⟨l, b, xs, zs, e1, e2, h1, h2, hz, q⟩ := h
  exact op_cat pins s σ H x y v u Q I rx ry ⟨l, b, xs, zs, e1, e2, h1, h2, sz_of hz, fun p np => q p _ np (Ex.new np) upd_same⟩
def rSlLN (K : PySem.W.Frag) : V → Option Int → Option Int → Hp → VK → Prop := fun x lo hi H Q => ∃ a xs, x = .ref a ∧ SqL K H a xs ∧ ∀ p H2, H p = none → Ex H H2 → H2 p = some (.lst (cutV xs lo hi)) → Q (.ref p) H2
theorem sl_listN : SlR X (rSlLN X.K) := by
  intro pins s σ H x v vl vu lo hi sl Q I rx hs pl pu h
  obtain ⟨a, xs, e1, hx, q⟩ := h
  exact sl_list pins s σ H x v vl vu lo hi sl Q I rx hs pl pu ⟨a, xs, e1, hx, fun p np => q p _ np (Ex.new np) upd_same⟩
def rListN (K : PySem.W.Frag) : List V → Hp → VK → Prop := fun xs H Q => ∃ p ys, xs = [.ref p] ∧ (SqL K H p ys ∨ SqT K H p ys) ∧ ∀ l H2, H l = none → Ex H H2 → H2 l = some (.lst ys) → Q (.ref l) H2
theorem call_listN : CallR X (.type "list") (rListN X.K) := by
  intro pins s σ H xs us Q I r h
  obtain ⟨p, ys, e1, hq, q⟩ := h
  exact call_list_of pins s σ H xs us Q I r ⟨p, ys, e1, hq, fun l nl => q l _ nl (Ex.new nl) upd_same⟩
end
section
variable {K : PySem.W.Frag} {σ : L2.St} {H : Hp} {D : Ends} {Q : VK}
theorem rd_tupN {t : TA} (h : t σ H fun xs H1 => xs.length ≤ 100000 ∧ ∀ p H2, H1 p = none → Ex H1 H2 → H2 p = some (.tup xs) → Q (.ref p) H2) : tTupN t σ H Q := h
theorem rd_lstN {t : TA} (h : t σ H fun xs H1 => xs.length ≤ 100000 ∧ ∀ p H2, H1 p = none → Ex H1 H2 → H2 p = some (.lst xs) → Q (.ref p) H2) : tLstN t σ H Q := h
theorem rdn_cat {l b : Addr} {xs zs : List V} (h1 : H l = some (.lst xs)) (h2 : H b = some (.lst zs)) (hz : xs.length + zs.length ≤ 100000) (h : ∀ p H2, H p = none → Ex H H2 → H2 p = some (.lst (xs ++ zs)) → Q (.ref p) H2) : rCatN (.ref l) (.ref b) H Q :=
  ⟨l, b, xs, zs, rfl, rfl, h1, h2, hz, h⟩
theorem rdn_sl {a : Addr} {xs : List V} {lo hi : Option Int} (h1 : SqL K H a xs) (h : ∀ p H2, H p = none → Ex H H2 → H2 p = some (.lst (cutV xs lo hi)) → Q (.ref p) H2) : rSlLN K (.ref a) lo hi H Q := ⟨a, xs, rfl, h1, h⟩
theorem rdn_list {p : Addr} {ys : List V} (hs : SqL K H p ys) (h : ∀ l H2, H l = none → Ex H H2 → H2 l = some (.lst ys) → Q (.ref l) H2) : rListN K [.ref p] H Q := ⟨p, ys, rfl, .inl hs, h⟩
end
end GL
namespace GL
open PySem PySem.Spec PyProof.Rows L2 Evl
/-! ## two ways that meet again -/
def tSeqK (t u : TS) : TS := tSeq t u
theorem pss_consK {X : Cx} {st : Stmt} {rest : List Stmt} {t u : TS} (h1 : PS X st t) (h2 : PSs X rest u) : PSs X (st :: rest) (tSeqK t u) := pss_cons h1 h2
/-- a place where the reading stops -/
def hold (f : L2.St → Hp → Prop) : L2.St → Hp → Prop := f
/-- what holds where they meet, said ahead -/
theorem rd_join {t u : TS} {D : Ends} {σ : L2.St} {H : Hp} (I : L2.St → Hp → Prop) (k : ∀ σ' H', I σ' H' → u D σ' H') (h : (∀ σ' H', I σ' H' → hold (u D) σ' H') → t { D with nx := hold (u D) } σ H) : tSeqK t u D σ H := h k
theorem rd_plain {t u : TS} {D : Ends} {σ : L2.St} {H : Hp} (h : t { D with nx := u D } σ H) : tSeqK t u D σ H := h
end GL
namespace GL
open PySem PySem.Spec PyProof.Rows L2 Evl
theorem rd_nx {a b d : L2.St → Hp → Prop} {r : VK} {σ : L2.St} {H : Hp} (h : a σ H) : Ends.nx { nx := a, rt := r, bk := b, ct := d } σ H := h
theorem rd_rt {a b d : L2.St → Hp → Prop} {r : VK} {v : V} {H : Hp} (h : r v H) : Ends.rt { nx := a, rt := r, bk := b, ct := d } v H := h
end GL

namespace GL
open PySem PySem.Spec PyProof.Rows L2 Evl

/-! ## data of bounded size: what == and repr ask -/
structure Tm (k w : Nat) (d : PyData) : Prop where
  lay : d.canLay0 = true
  iS : d.intsShort 25 = true
  show_ : d.showable = true
  dep : d.depth ≤ k
  wt : d.weight ≤ w
theorem Tm.mono {k k' w w' : Nat} {d : PyData} (h : Tm k w d) (a : k ≤ k') (b : w ≤ w') : Tm k' w' d := ⟨h.lay, h.iS, h.show_, Nat.le_trans h.dep a, Nat.le_trans h.wt b⟩
theorem shown_int25 {i : Int} (h : i.natAbs < 10 ^ 21) : (PyData.shown (.int i)).length ≤ 25 := by
  have e := int_text_length_le10 (k := 21) (by decide) h
  show (Str.ofString (toString i)).length ≤ 25
  rw [PySem.ofString_length]
  omega
theorem Tm.intB {i : Int} (h : i.natAbs < 10 ^ 21) : Tm 0 80 (.int i) := by
  refine ⟨by simp [PyData.canLay0], ?_, ?_, by simp [PyData.depth], ?_⟩
  · simp only [PyData.intsShort, decide_eq_true_eq]
    exact shown_int25 h
  · simp only [PyData.showable, decide_eq_true_eq]
    by_cases z : i.natAbs = 0
    · rw [z]; decide
    · have := (Nat.log2_lt z).mpr (show i.natAbs < 2 ^ 70 by omega)
      omega
  · simp only [PyData.weight]
    split
    · omega
    · rename_i z
      have z' : i.natAbs ≠ 0 := by
        intro e
        exact z (by rw [beq_iff_eq]; omega)
      have := (Nat.log2_lt z').mpr (show i.natAbs < 2 ^ 70 by omega)
      omega
theorem Tm.int {i : Int} (h : i.natAbs < 1000000) : Tm 0 20 (.int i) := by
  refine ⟨by simp [PyData.canLay0], ?_, ?_, by simp [PyData.depth], ?_⟩
  · simp only [PyData.intsShort, decide_eq_true_eq]
    exact shown_int25 (by omega)
  · simp only [PyData.showable, decide_eq_true_eq]
    by_cases z : i.natAbs = 0
    · rw [z]; decide
    · have := (Nat.log2_lt z).mpr (show i.natAbs < 2 ^ 20 by omega)
      omega
  · simp only [PyData.weight]
    split
    · omega
    · rename_i z
      have z' : i.natAbs ≠ 0 := by
        intro e
        exact z (by rw [beq_iff_eq]; omega)
      have := (Nat.log2_lt z').mpr (show i.natAbs < 2 ^ 20 by omega)
      omega
theorem Tm.bool (b : Bool) : Tm 0 20 (.bool b) := ⟨by simp [PyData.canLay0], by simp [PyData.intsShort], by simp [PyData.showable], by simp [PyData.depth], by simp [PyData.weight]⟩
theorem Tm.none : Tm 0 20 .none := ⟨by simp [PyData.canLay0], by simp [PyData.intsShort], by simp [PyData.showable], by simp [PyData.depth], by simp [PyData.weight]⟩
theorem Tm.str {x : Str} (h : PyData.strOk x = true) {n : Nat} (hl : x.cps.size ≤ n) : Tm 0 n (.str x) := ⟨by simpa [PyData.canLay0] using h, by simp [PyData.intsShort], by simp [PyData.showable], by simp [PyData.depth], by simpa [PyData.weight] using hl⟩
theorem tm_all {k w : Nat} : ∀ {ds : List PyData}, (∀ d ∈ ds, Tm k w d) → PyData.canLayAll0 ds = true ∧ PyData.intsShortAll 25 ds = true ∧ PyData.showableAll ds = true ∧ PyData.depthAll ds ≤ k ∧ PyData.weightAll ds ≤ ds.length * (w + 1)
  | [], _ => ⟨by simp [PyData.canLayAll0], by simp [PyData.intsShortAll], by simp [PyData.showableAll], by simp [PyData.depthAll], by simp [PyData.weightAll]⟩
  | d :: ds, h => by
    obtain ⟨a, b, c, e, f⟩ := tm_all (ds := ds) fun x hx => h x (List.mem_cons_of_mem _ hx)
    have g := h d List.mem_cons_self
    refine ⟨?_, ?_, ?_, ?_, ?_⟩
    · simp only [PyData.canLayAll0, g.lay, a, Bool.and_self]
    · simp only [PyData.intsShortAll, g.iS, b, Bool.and_self]
    · simp only [PyData.showableAll, g.show_, c, Bool.and_self]
    · simp only [PyData.depthAll]
      exact Nat.max_le.mpr ⟨g.dep, e⟩
    · simp only [PyData.weightAll, List.length_cons]
      have := g.wt
      rw [Nat.add_mul]
      omega
theorem Tm.list {k w n : Nat} {ds : List PyData} (h : ∀ d ∈ ds, Tm k w d) (hl : ds.length ≤ n) : Tm (k + 1) (n * (w + 1)) (.list ds) := by
  obtain ⟨a, b, c, e, f⟩ := tm_all h
  refine ⟨by simpa [PyData.canLay0] using a, by simpa [PyData.intsShort] using b, by simpa [PyData.showable] using c, by simp only [PyData.depth]; omega, ?_⟩
  simp only [PyData.weight]
  exact Nat.le_trans f (Nat.mul_le_mul_right _ hl)
theorem Tm.tuple {k w n : Nat} {ds : List PyData} (h : ∀ d ∈ ds, Tm k w d) (hl : ds.length ≤ n) : Tm (k + 1) (n * (w + 1)) (.tuple ds) := by
  obtain ⟨a, b, c, e, f⟩ := tm_all h
  refine ⟨by simpa [PyData.canLay0] using a, by simpa [PyData.intsShort] using b, by simpa [PyData.showable] using c, by simp only [PyData.depth]; omega, ?_⟩
  simp only [PyData.weight]
  exact Nat.le_trans f (Nat.mul_le_mul_right _ hl)
theorem Tm.shaped {k w : Nat} {d : PyData} (h : Tm k w d) (hk : k ≤ 64) : SeqAt.shaped d = true := by
  unfold SeqAt.shaped
  rw [h.lay, Bool.true_and, decide_eq_true_eq]
  exact Nat.le_trans h.dep hk
theorem Tm.fits {k w : Nat} {d : PyData} (h : Tm k w d) (hw : w ≤ 600000) : d.shown.length ≤ sizeLine := by
  have l := PyData.leavesShort_of_canLay0 25 d h.lay h.iS
  have e := PyData.shown_le 25 (by decide) d l
  have b := h.wt
  rw [sizeLine_eq]
  omega
theorem Tm.eqv {k w : Nat} {d : PyData} (h : Tm k w d) : PyData.eqv d d = true := SeqAt.eqv_refl d h.lay
/-- repr(x) of such -/
theorem rd_repr {K : PySem.W.Frag} {H : Hp} {Q : VK} {v : V} {d : PyData} {k w : Nat} (hd : Dp K H v d) (t : Tm k w d) (hk : k ≤ 60) (hw : w ≤ 600000) (q : Q (.str d.shown) H) : rRepr K [v] H Q :=
  ⟨v, d, rfl, .inl hd, t.show_, Nat.le_trans t.dep hk, t.fits hw, q⟩
/-- x != y, x == y of such that are one -/
theorem rd_neSame {K : PySem.W.Frag} {H : Hp} {Q : VK} {x y : V} {d : PyData} {k w : Nat} (hx : Dp K H x d) (hy : Dp K H y d) (t : Tm k w d) (hk : k ≤ 64) (q : Q (.bl false) H) : rNeU K x y H Q := by
  refine .inr ⟨d, d, hx, hy, t.shaped hk, t.shaped hk, ?_⟩
  rw [t.eqv]
  exact q
theorem rd_eqSame {K : PySem.W.Frag} {H : Hp} {Q : VK} {x y : V} {d : PyData} {k w : Nat} (hx : Dp K H x d) (hy : Dp K H y d) (t : Tm k w d) (hk : k ≤ 64) (q : Q (.bl true) H) : rEqU K x y H Q := by
  refine .inr ⟨d, d, hx, hy, t.shaped hk, t.shaped hk, ?_⟩
  rw [t.eqv]
  exact q
theorem tm_dI {l : List Int} {n : Nat} (h : ∀ i ∈ l, i.natAbs < 1000000) (hl : l.length ≤ n) : Tm 1 (n * 21) (dI l) := by
  unfold dI
  refine Tm.list (k := 0) (w := 20) (fun d hd => ?_) (by rw [List.length_map]; exact hl)
  obtain ⟨i, hi, rfl⟩ := List.mem_map.mp hd
  exact Tm.int (h i hi)
theorem chU_small (m : Nat) : ∀ j, j ≤ m → ∀ x ∈ chU m j, ∀ i ∈ x, 0 ≤ i ∧ i < m
  | 0, _ => by intro x hx i hi; rw [List.mem_singleton.mp hx] at hi; exact absurd hi List.not_mem_nil
  | j + 1, hj => by
    intro x hx
    have ih := chU_small m j (by omega)
    have hx : x ∈ [[]] ++ (chU m j).map (((m : Int) - 1 - j) :: ·) ++ (chU m j).tail := hx
    rcases List.mem_append.mp hx with z | z
    · rcases List.mem_append.mp z with z | z
      · rw [List.mem_singleton.mp z]; intro i hi; exact absurd hi List.not_mem_nil
      · obtain ⟨y, hy, rfl⟩ := List.mem_map.mp z
        intro i hi
        rcases List.mem_cons.mp hi with e | e
        · subst e; omega
        · exact ih y hy i e
    · exact ih x (List.mem_of_mem_tail z)
theorem tm_dL {m : Nat} (hm : m ≤ 11) : Tm 2 500000 (dL (chU m m)) := by
  unfold dL
  refine (Tm.list (k := 1) (w := 231) (n := 2048) (fun d hd => ?_) ?_).mono (by omega) (by omega)
  · obtain ⟨l, hl, rfl⟩ := List.mem_map.mp hd
    exact (tm_dI (n := 11) (fun i hi => by have := chU_small m m (Nat.le_refl _) l hl i hi; omega) (Nat.le_trans (chU_in m m l hl) hm)).mono (Nat.le_refl _) (by omega)
  · rw [List.length_map, chU_len]
    exact Nat.pow_le_pow_right (n := 2) (by decide) hm
theorem chk_asc {n : Nat} : ∀ {l : List Int} {lo : Int} {a : Nat}, (∀ i ∈ l, lo ≤ i ∧ i < n) → l.Pairwise (· < ·) → chk n (l.map .int) lo a = none
  | [], _, _, _, _ => rfl
  | i :: l, lo, a, h, p => by
    have hi := h i List.mem_cons_self
    show (if betw (.int i) lo ((n : Int) - 1) = true then chk n (l.map .int) (i + 1) (a + 1) else some a) = none
    rw [if_pos (betw_to hi.1 (by omega))]
    refine chk_asc (fun j hj => ?_) (List.pairwise_cons.mp p).2
    have h1 := (List.pairwise_cons.mp p).1 j hj
    have h2 := h j (List.mem_cons_of_mem _ hj)
    omega
theorem chU_asc (m : Nat) : ∀ j, j ≤ m → ∀ x ∈ chU m j, x.Pairwise (· < ·) ∧ ∀ i ∈ x, (m : Int) - j ≤ i ∧ i < m
  | 0, _ => by intro x hx; rw [List.mem_singleton.mp hx]; exact ⟨List.Pairwise.nil, fun i hi => absurd hi List.not_mem_nil⟩
  | j + 1, hj => by
    intro x hx
    have ih := chU_asc m j (by omega)
    have hx : x ∈ [[]] ++ (chU m j).map (((m : Int) - 1 - j) :: ·) ++ (chU m j).tail := hx
    rcases List.mem_append.mp hx with z | z
    · rcases List.mem_append.mp z with z | z
      · rw [List.mem_singleton.mp z]; exact ⟨List.Pairwise.nil, fun i hi => absurd hi List.not_mem_nil⟩
      · obtain ⟨y, hy, rfl⟩ := List.mem_map.mp z
        obtain ⟨p, q⟩ := ih y hy
        refine ⟨List.pairwise_cons.mpr ⟨fun i hi => by have := q i hi; omega, p⟩, fun i hi => ?_⟩
        rcases List.mem_cons.mp hi with e | e
        · subst e; omega
        · have := q i e; omega
    · obtain ⟨p, q⟩ := ih x (List.mem_of_mem_tail z)
      exact ⟨p, fun i hi => by have := q i hi; omega⟩
theorem chk_chU {m : Nat} {l : List Int} (h : l ∈ chU m m) : chk m (l.map .int) 0 0 = none := by
  obtain ⟨p, q⟩ := chU_asc m m (Nat.le_refl _) l h
  exact chk_asc (fun i hi => by have := q i hi; omega) p

/-! ## a law's state: a well of draws, a disk -/
def Wl (H : Hp) (p : Addr) (n : Int) : Prop := ∃ x c k : Int, H p = some (.lst [.int x, .int c, .int k]) ∧ 0 ≤ k ∧ k ≤ n
theorem Wl.exd {H H' : Hp} {p : Addr} {n : Int} (h : Wl H p n) (e : Ex H H') : Wl H' p n := by
  obtain ⟨x, c, k, h1, h2⟩ := h
  exact ⟨x, c, k, e _ _ h1, h2⟩
theorem Wl.mono {H : Hp} {p : Addr} {n n' : Int} (h : Wl H p n) (z : n ≤ n') : Wl H p n' := by
  obtain ⟨x, c, k, h1, h2, h3⟩ := h
  exact ⟨x, c, k, h1, h2, by omega⟩
theorem Wl.nt {H : Hp} {p : Addr} {n : Int} (h : Wl H p n) : NT [p] H := by
  obtain ⟨x, c, k, h1, h2⟩ := h
  exact nt_lst h1
def spWellN : Sp := fun vs H Q _ => ∃ c : Int, vs = [.int c] ∧ ∀ (p : Addr) (H' : Hp), H p = none → Ex H H' → Wl H' p 0 → Q (.ref p) H'
def spDrawN : Sp := fun vs H Q _ => ∃ (p : Addr) (m n : Int), vs = [.ref p, .int m] ∧ Wl H p n ∧ 1 ≤ m ∧ m ≤ 1000000000000 ∧ n ≤ 100000 ∧
  ∀ (r : Int) (H' : Hp), 0 ≤ r → r < m → Mu [p] H H' → Wl H' p (n + 1) → Q (.int r) H'
theorem wellN {vs : List V} {H : Hp} {Q : VK} {E : XK} (h : spWellN vs H Q E) : spWell vs H Q E := by
  obtain ⟨c, e, k⟩ := h
  exact ⟨c, e, fun p x H' np e1 hp => k p H' np e1 ⟨x, c, 0, hp, Int.le_refl _, Int.le_refl _⟩⟩
theorem drawN {vs : List V} {H : Hp} {Q : VK} {E : XK} (h : spDrawN vs H Q E) : spDraw vs H Q E := by
  obtain ⟨p, m, n, e, ⟨x, c, k0, hp, h1, h2⟩, hm, hm2, hn, k⟩ := h
  exact ⟨p, m, x, c, k0, e, hp, hm, hm2, h1, by omega, fun r x' n' h3 h4 h5 h6 => k r _ h3 h4 ((Mu.refl [p] H).set (List.mem_singleton.mpr rfl) _) ⟨x', c, n', upd_same, by omega, by omega⟩⟩
structure LS (K : PySem.W.Frag) (H0 H : Hp) (C pw a : Addr) (n : Int) (F : List Addr) (D : DS) : Prop where
  ex : Ex H0 H
  wl : Wl H pw n
  wn : pw ∉ F
  w0 : H0 pw = none
  dk : DiskAt K H C a F D
  f0 : ∀ b ∈ F, H0 b = none
section
variable {K : PySem.W.Frag} {H0 H H' : Hp} {C pw a : Addr} {n : Int} {F F' : List Addr} {D D' : DS}
theorem ex_mu {F : List Addr} (e : Ex H0 H) (m : Mu F H H') (f : ∀ b ∈ F, H0 b = none) : Ex H0 H' := fun b o h => m b o (e b o h) fun z => by
  rw [f b z] at h
  cases h
theorem LS.draw (L : LS K H0 H C pw a n F D) (m : Mu [pw] H H') (w : Wl H' pw (n + 1)) : LS K H0 H' C pw a (n + 1) F D :=
  ⟨ex_mu L.ex m fun b hb => by rw [List.mem_singleton.mp hb]; exact L.w0, w, L.wn, L.w0, L.dk.mu m L.wl.nt fun b hb z => L.wn (by rw [← List.mem_singleton.mp z]; exact hb), L.f0⟩
theorem LS.exd (L : LS K H0 H C pw a n F D) (e : Ex H H') : LS K H0 H' C pw a n F D := ⟨L.ex.trans e, L.wl.exd e, L.wn, L.w0, L.dk.exd e, L.f0⟩
theorem LS.step (L : LS K H0 H C pw a n F D) (d : DiskAt K H' C a F' D') (f : Fr F F' H H') : LS K H0 H' C pw a n F' D' := by
  obtain ⟨x, c, k, h1, h2⟩ := L.wl
  have w : Own H F pw (.lst [.int x, .int c, .int k]) := ⟨h1, L.wn⟩
  exact ⟨ex_mu L.ex f.mu L.f0, ⟨x, c, k, (w.step f).at_, h2⟩, (w.step f).no, L.w0, d, fun b hb => (f.sub b hb).elim (L.f0 b) fun z => fresh_back L.ex z⟩
theorem LS.up {n' : Int} (L : LS K H0 H C pw a n F D) (h : n ≤ n') : LS K H0 H C pw a n' F D := ⟨L.ex, L.wl.mono h, L.wn, L.w0, L.dk, L.f0⟩
/-- another object of the law's own is written -/
theorem LS.put {p : Addr} {xs : List V} {o : HO} (L : LS K H0 H C pw a n F D) (hp : H p = some (.lst xs)) (h0 : H0 p = none) (hF : p ∉ F) (hw : p ≠ pw) : LS K H0 (upd H p o) C pw a n F D := by
  refine ⟨L.ex.mut h0, ?_, L.wn, L.w0, L.dk.put ⟨hp, hF⟩, L.f0⟩
  obtain ⟨x, c, k, h1, h2⟩ := L.wl
  exact ⟨x, c, k, by rw [upd_ne hw.symm]; exact h1, h2⟩
theorem LS.notF {p : Addr} (L : LS K H0 H C pw a n F D) (hp : H p = none) : p ∉ F := L.dk.notIn hp
theorem LS.notW {p : Addr} (L : LS K H0 H C pw a n F D) (hp : H p = none) : p ≠ pw := fun z => by
  obtain ⟨x, c, k, h1, h2⟩ := L.wl
  rw [z, h1] at hp
  cases hp
end
/-- all values small -/
structure Sm (D : DS) : Prop where
  w : ∀ x ∈ D.w, Tm 1 100 x
  s : ∀ x ∈ D.s, Tm 0 20 x
  n : ∀ x ∈ D.n, Tm 0 20 x
theorem Sm.wr {D : DS} (h : Sm D) {b : Int} {v : PyData} (hb : b.natAbs < 1000) (hv : Tm 0 20 v) : Sm (D.wr b v) := by
  refine ⟨fun x hx => ?_, h.s, fun x hx => ?_⟩
  · rcases List.mem_append.mp hx with z | z
    · exact h.w x z
    · rw [List.mem_singleton.mp z]
      refine (Tm.tuple (k := 0) (w := 20) (n := 2) (fun d hd => ?_) (by simp)).mono (by omega) (by omega)
      rcases List.mem_cons.mp hd with e | e
      · rw [e]; exact Tm.int (by omega)
      · rw [List.mem_singleton.mp e]; exact hv
  · rcases List.mem_or_eq_of_mem_set hx with z | z
    · exact h.n x z
    · rw [z]; exact hv
theorem Sm.fl {D : DS} (h : Sm D) : Sm D.fl := ⟨fun x hx => absurd hx List.not_mem_nil, h.n, h.n⟩
theorem Sm.new {ds : List PyData} (h : ∀ x ∈ ds, Tm 0 20 x) : Sm (DS.new ds) := ⟨fun x hx => absurd hx List.not_mem_nil, h, h⟩
/-- what the law shows of a disk -/
def seen (D : DS) : PyData := .list [.list D.w, .list D.s]
theorem Sm.seen {D : DS} (h : Sm D) (hw : D.w.length ≤ 1000) (hs : D.s.length ≤ 128) : Tm 3 210000 (GL.seen D) := by
  unfold GL.seen
  refine (Tm.list (k := 2) (w := 101000) (n := 2) (fun d hd => ?_) (by simp)).mono (by omega) (by omega)
  rcases List.mem_cons.mp hd with e | e
  · rw [e]; exact (Tm.list (n := 1000) h.w hw).mono (by omega) (by omega)
  · rw [List.mem_singleton.mp e]; exact (Tm.list (n := 128) h.s hs).mono (by omega) (by omega)
end GL

namespace GL
open PySem PySem.Spec PyProof.Rows L2 Evl
def dnames : List Str := ("_first" : Str) :: ("_settled" : Str) :: ("_newest" : Str) :: ("_waiting" : Str) :: ("_done" : Str) :: []
theorem dfs_no {q1 q2 q3 q4 q5 : Addr} {m : Str} (h : dnames.elem m = false) : (dfs q1 q2 q3 q4 q5).lookup m = none := by
  have h2 : ∀ y ∈ dnames, m ≠ y := fun y hy e => by
    subst e
    rw [List.elem_iff.mpr hy] at h
    cases h
  have n1 := h2 "_first" (List.mem_of_getElem? (i := 0) rfl)
  have n2 := h2 "_settled" (List.mem_of_getElem? (i := 1) rfl)
  have n3 := h2 "_newest" (List.mem_of_getElem? (i := 2) rfl)
  have n4 := h2 "_waiting" (List.mem_of_getElem? (i := 3) rfl)
  have n5 := h2 "_done" (List.mem_of_getElem? (i := 4) rfl)
  unfold dfs
  simp only [List.lookup, beq_eq_false_iff_ne.mpr n1, beq_eq_false_iff_ne.mpr n2, beq_eq_false_iff_ne.mpr n3, beq_eq_false_iff_ne.mpr n4, beq_eq_false_iff_ne.mpr n5]
section
variable {K : PySem.W.Frag} {H0 H H' : Hp} {C pw a : Addr} {n : Int} {F F' : List Addr} {D D' : DS} {Q : VK} {E : XK} {Z : Prop}
theorem DiskAt.self {m : Str} (h : DiskAt K H C a F D) (hm : dnames.elem m = false) (z : Z) : ∃ a' dx fs, V.ref a = .ref a' ∧ H a' = some (.ins C dx fs) ∧ fs.lookup m = none ∧ Z := by
  obtain ⟨⟨dx, p1, p2, p3, p4, p5, x1, x2, x3, x4, x5, hF, O, _⟩, ok⟩ := h
  exact ⟨a, dx, _, rfl, O.get 0, dfs_no hm, z⟩
theorem LS.draws {m : Int} (L : LS K H0 H C pw a n F D) (h1 : 1 ≤ m) (h2 : m ≤ 1000000000000) (h3 : n ≤ 100000) (k : ∀ r H', 0 ≤ r → r < m → LS K H0 H' C pw a (n + 1) F D → Mu [pw] H H' → Q (.int r) H') : spDrawN [.ref pw, .int m] H Q E :=
  ⟨pw, m, n, rfl, L.wl, h1, h2, h3, fun r H' a b mu w => k r H' a b (L.draw mu w) mu⟩
theorem blk_int {D : DS} {b : Int} (h0 : 0 ≤ b) (h1 : b < D.f.length) : blk D (.int b) = true := betw_to h0 (by omega)
theorem LS.write {b : Int} {u : V} {e : PyData} (L : LS K H0 H C pw a n F D) (h0 : 0 ≤ b) (h1 : b < D.f.length) (hu : Dp K H u e) (he : valOk 8 e = true) (hd : D.d.length ≤ 50000)
    (k : ∀ H' F', LS K H0 H' C pw a n F' (D.wr b e) → Fr F F' H H' → Q .non H') : spWrite K C [.ref a, .int b, u] H Q E :=
  ⟨a, F, D, .int b, u, .int b, e, rfl, L.dk, .inl (.int b), .inl hu, hd, fun _ _ H' F' d f => k H' F' (L.step d f) f, fun z => (by rw [blk_int h0 h1] at z; cases z), fun _ z => (by rw [he] at z; cases z)⟩
theorem LS.flush (L : LS K H0 H C pw a n F D) (hd : D.d.length ≤ 50000) (k : ∀ H' F', LS K H0 H' C pw a n F' D.fl → Fr F F' H H' → Q .non H') : spFlush K C [.ref a] H Q E :=
  ⟨a, F, D, rfl, L.dk, hd, fun H' F' d f => k H' F' (L.step d f) f⟩
theorem LS.look {g : DS → List PyData} (L : LS K H0 H C pw a n F D) (k : ∀ p xs H', H p = none → Ex H H' → H' p = some (.lst xs) → DpAll K H' xs (g D) → LS K H0 H' C pw a n F D → Q (.ref p) H') : spLook K C g [.ref a] H Q E :=
  ⟨a, F, D, rfl, L.dk, fun p xs H' np e hp hd => k p xs H' np e hp hd (L.exd e)⟩
theorem LS.told (L : LS K H0 H C pw a n F D) (hd : D.w.length ≤ 50000)
    (k : ∀ p H', Ex H H' → H p = none → LS K H0 H' C pw a n F D → (D.w.length ≤ 10 ∧ ∃ q qs, (∀ r, V.ref r ∈ V.ref q :: qs → H r = none) ∧ H' p = some (.lst (.ref q :: qs)) ∧ LLs H' (.ref q :: qs) (chU D.w.length D.w.length)) ∨ (10 < D.w.length ∧ H' p = some (.lst [.bl true, .int 10])) → Q (.ref p) H') : spTold K C [.ref a] H Q E :=
  ⟨a, F, D, rfl, L.dk, hd, fun h p q qs H' e np nq hp hl => k p H' e np (L.exd e) (.inl ⟨h, q, qs, nq, hp, hl⟩), fun h p H' e np hp => k p H' e np (L.exd e) (.inr ⟨h, hp⟩)⟩
theorem LS.all {m : Nat} (L : LS K H0 H C pw a n F D) (hm : m ≤ 11) (k : ∀ p ws H', Ex H H' → H p = none → H' p = some (.lst ws) → LLs H' ws (chU m m) → LS K H0 H' C pw a n F D → Q (.ref p) H') : spAll [.int (m : Int)] H Q E :=
  ⟨m, rfl, hm, fun p ws H' e np hp hl => k p ws H' e np hp hl (L.exd e)⟩
theorem dp_dL {p : Addr} {ws : List V} {ls : List (List Int)} (hp : H p = some (.lst ws)) (hl : LLs H ws ls) : Dp K H (.ref p) (dL ls) := .lst (sq_of hp) (lls_dp hl)
end
theorem cVal_i (i : Int) : valOk 8 (.int i) = true := by simp [valOk]
theorem cVal_s (s : Str) : valOk 8 (.str s) = true := by simp [valOk]
end GL

namespace GL
open PySem PySem.Spec PyProof.Rows L2 Evl

/-! ## things that stand apart from each other -/
abbrev Th := List Addr × (Hp → Prop)
/-- a thing lasts while others change -/
def Stb (t : Th) : Prop := ∀ (G : List Addr) (H H' : Hp), t.2 H → Mu G H H' → NT G H → (∀ b ∈ t.1, b ∉ G) → t.2 H'
structure Ws (H0 H : Hp) (ts : List Th) : Prop where
  ex : Ex H0 H
  p : ∀ t ∈ ts, t.2 H
  st : ∀ t ∈ ts, Stb t
  mem : ∀ t ∈ ts, ∀ b ∈ t.1, H b ≠ none
  f0 : ∀ t ∈ ts, ∀ b ∈ t.1, H0 b = none
  dj : ts.Pairwise fun s t => ∀ b ∈ s.1, b ∉ t.1
section
variable {H0 H H' : Hp} {ts : List Th} {t : Th}
theorem Ws.start : Ws H H [] := ⟨Ex.refl H, fun _ h => absurd h List.not_mem_nil, fun _ h => absurd h List.not_mem_nil, fun _ h => absurd h List.not_mem_nil, fun _ h => absurd h List.not_mem_nil, List.Pairwise.nil⟩
theorem Ws.get (W : Ws H0 H ts) (i : Nat) (h : ts[i]? = some t := by rfl) : t.2 H := W.p t (List.mem_of_getElem? h)
theorem nt_nil {H : Hp} : NT [] H := fun b hb => absurd hb List.not_mem_nil
theorem ex_some {b : Addr} (e : Ex H H') (h : H b ≠ none) : H' b ≠ none := by
  cases q : H b with
  | none => exact absurd q h
  | some o => rw [e b o q]; simp
theorem Ws.exd (W : Ws H0 H ts) (e : Ex H H') : Ws H0 H' ts :=
  ⟨W.ex.trans e, fun t h => W.st t h [] H H' (W.p t h) (Mu.ofEx e) nt_nil fun _ _ => List.not_mem_nil, W.st, fun t h b hb => ex_some e (W.mem t h b hb), W.f0, W.dj⟩
theorem pw_at {α : Type} {R : α → α → Prop} {l : List α} {i j : Nat} {a b : α} (p : l.Pairwise R) (hi : l[i]? = some a) (hj : l[j]? = some b) (h : i < j) : R a b := by
  have h1 := (List.getElem?_eq_some_iff.mp hi)
  have h2 := (List.getElem?_eq_some_iff.mp hj)
  obtain ⟨l1, e1⟩ := h1
  obtain ⟨l2, e2⟩ := h2
  have := List.pairwise_iff_getElem.mp p i j l1 l2 h
  rw [e1, e2] at this
  exact this
/-- two of them have nothing in common -/
theorem Ws.apart (W : Ws H0 H ts) {i j : Nat} {s t : Th} (hi : ts[i]? = some s) (hj : ts[j]? = some t) (h : i ≠ j) : ∀ b ∈ s.1, b ∉ t.1 := by
  rcases Nat.lt_or_gt_of_ne h with z | z
  · exact pw_at W.dj hi hj z
  · exact fun b hb hb' => pw_at W.dj hj hi z b hb' hb
/-- the i-th changes -/
theorem Ws.step (W : Ws H0 H ts) (i : Nat) {F' : List Addr} {P' : Hp → Prop} (h : ts[i]? = some t) (nt : NT t.1 H) (f : Fr t.1 F' H H') (hp : P' H') (st : Stb (F', P')) (mm : ∀ b ∈ F', H' b ≠ none) : Ws H0 H' (ts.set i (F', P')) := by
  have mu := f.mu
  have other : ∀ j s, ts[j]? = some s → i ≠ j → ∀ b ∈ s.1, b ∉ t.1 := fun j s hj hn b hb => W.apart hj h (fun z => hn z.symm) b hb
  have cases_ : ∀ s ∈ ts.set i (F', P'), s = (F', P') ∨ ∃ j, ts[j]? = some s ∧ i ≠ j := by
    intro s hs
    obtain ⟨j, hj⟩ := List.mem_iff_getElem?.mp hs
    rw [List.getElem?_set] at hj
    by_cases z : i = j
    · subst z
      rw [if_pos rfl, if_pos (List.getElem?_eq_some_iff.mp h).1] at hj
      exact .inl (Option.some.inj hj).symm
    · rw [if_neg z] at hj
      exact .inr ⟨j, hj, z⟩
  refine ⟨?_, ?_, ?_, ?_, ?_, ?_⟩
  · exact ex_mu W.ex mu fun b hb => W.f0 t (List.mem_of_getElem? h) b hb
  · intro s hs
    rcases cases_ s hs with rfl | ⟨j, hj, hn⟩
    · exact hp
    · exact W.st s (List.mem_of_getElem? hj) t.1 H H' (W.p s (List.mem_of_getElem? hj)) mu nt (other j s hj hn)
  · intro s hs
    rcases cases_ s hs with rfl | ⟨j, hj, hn⟩
    · exact st
    · exact W.st s (List.mem_of_getElem? hj)
  · intro s hs b hb
    rcases cases_ s hs with rfl | ⟨j, hj, hn⟩
    · exact mm b hb
    · intro z
      cases q : H b with
      | none => exact W.mem s (List.mem_of_getElem? hj) b hb q
      | some o => rw [mu b o q (other j s hj hn b hb)] at z; cases z
  · intro s hs b hb
    rcases cases_ s hs with rfl | ⟨j, hj, hn⟩
    · rcases f.sub b hb with z | z
      · exact W.f0 t (List.mem_of_getElem? h) b z
      · exact fresh_back W.ex z
    · exact W.f0 s (List.mem_of_getElem? hj) b hb
  · rw [List.pairwise_iff_getElem]
    intro j k hj hk hjk
    have lj : j < ts.length := by rw [List.length_set] at hj; exact hj
    have lk : k < ts.length := by rw [List.length_set] at hk; exact hk
    have apart' : ∀ {m : Nat} {s : Th}, ts[m]? = some s → i ≠ m → ∀ b ∈ F', b ∉ s.1 := by
      intro m s hm hn b hb hb'
      rcases f.sub b hb with z | z
      · exact W.apart h hm hn b z hb'
      · exact W.mem s (List.mem_of_getElem? hm) b hb' z
    rw [List.getElem_set, List.getElem_set]
    by_cases z1 : i = j
    · rw [if_pos z1, if_neg (by omega)]
      exact apart' (List.getElem?_eq_getElem lk) (by omega)
    · rw [if_neg z1]
      by_cases z2 : i = k
      · rw [if_pos z2]
        exact fun b hb hb' => apart' (List.getElem?_eq_getElem lj) z1 b hb' hb
      · rw [if_neg z2]
        exact pw_at W.dj (List.getElem?_eq_getElem lj) (List.getElem?_eq_getElem lk) hjk
/-- a new one -/
theorem Ws.new (W : Ws H0 H ts) {F : List Addr} {P : Hp → Prop} (e : Ex H H') (fr : ∀ b ∈ F, H b = none) (hp : P H') (st : Stb (F, P)) (mm : ∀ b ∈ F, H' b ≠ none) : Ws H0 H' (ts ++ [(F, P)]) := by
  have W' := W.exd e
  refine ⟨W'.ex, ?_, ?_, ?_, ?_, ?_⟩
  · intro s hs
    rcases List.mem_append.mp hs with z | z
    · exact W'.p s z
    · rw [List.mem_singleton.mp z]; exact hp
  · intro s hs
    rcases List.mem_append.mp hs with z | z
    · exact W'.st s z
    · rw [List.mem_singleton.mp z]; exact st
  · intro s hs
    rcases List.mem_append.mp hs with z | z
    · exact W'.mem s z
    · rw [List.mem_singleton.mp z]; exact mm
  · intro s hs
    rcases List.mem_append.mp hs with z | z
    · exact W'.f0 s z
    · rw [List.mem_singleton.mp z]; exact fun b hb => fresh_back W.ex (fr b hb)
  · refine List.pairwise_append.mpr ⟨W'.dj, List.pairwise_singleton _ _, fun s hs u hu b hb hb' => ?_⟩
    rw [List.mem_singleton.mp hu] at hb'
    exact W.mem s hs b hb (fr b hb')
/-- what is known of no thing's own objects -/
theorem Ws.put (W : Ws H0 H ts) (i : Nat) {P' : Hp → Prop} (h : ts[i]? = some t) (nt : NT t.1 H) (mu : Mu t.1 H H') (hp : P' H') (st : Stb (t.1, P')) (mm : ∀ b ∈ t.1, H' b ≠ none) : Ws H0 H' (ts.set i (t.1, P')) :=
  W.step i h nt ⟨mu, fun b hb => .inl hb⟩ hp st mm
/-- a thing is given up -/
theorem Ws.kill (W : Ws H0 H ts) (i : Nat) (h : ts[i]? = some t) (nt : NT t.1 H) (mu : Mu t.1 H H') : Ws H0 H' (ts.set i ([], fun _ => True)) :=
  W.step i h nt ⟨mu, fun b hb => absurd hb List.not_mem_nil⟩ True.intro (fun _ _ _ _ _ _ _ => True.intro) fun b hb => absurd hb List.not_mem_nil
end

/-! ## the kinds of things -/
section
variable {K : PySem.W.Frag} {H H' : Hp} {C a p : Addr} {F : List Addr} {D : DS}
def tWl (pw : Addr) (n : Int) : Th := ([pw], fun H => Wl H pw n)
def tDk (K : PySem.W.Frag) (C a : Addr) (F : List Addr) (D : DS) : Th := (F, fun H => DiskAt K H C a F D)
/-- a list of one's own, of immutable data -/
def LD (K : PySem.W.Frag) (p : Addr) (ds : List PyData) (H : Hp) : Prop := ∃ xs, H p = some (.lst xs) ∧ DpAll K H xs ds ∧ noLAll ds = true
def tLd (K : PySem.W.Frag) (p : Addr) (ds : List PyData) : Th := ([p], LD K p ds)
/-- a value that never changes -/
def tIm (K : PySem.W.Frag) (v : V) (d : PyData) : Th := ([], fun H => Dp K H v d ∧ noL d = true)
def tNo : Th := ([], fun _ => True)
theorem stb_wl {pw : Addr} {n : Int} : Stb (tWl pw n) := fun G H H' h m nt hd => by
  obtain ⟨x, c, k, h1, h2⟩ := h
  exact ⟨x, c, k, m _ _ h1 (hd pw (List.mem_singleton.mpr rfl)), h2⟩
theorem stb_dk : Stb (tDk K C a F D) := fun G H H' h m nt hd => DiskAt.mu h m nt hd
theorem stb_ld {ds : List PyData} : Stb (tLd K p ds) := fun G H H' h m nt hd => by
  obtain ⟨xs, h1, h2, h3⟩ := h
  exact ⟨xs, m _ _ h1 (hd p (List.mem_singleton.mpr rfl)), dpAll_mu m nt _ _ h3 h2, h3⟩
theorem stb_im {v : V} {d : PyData} : Stb (tIm K v d) := fun G H H' h m nt _ => ⟨dp_mu m nt _ _ h.2 h.1, h.2⟩
theorem LD.exd {ds : List PyData} (h : LD K p ds H) (e : Ex H H') : LD K p ds H' := by
  obtain ⟨xs, h1, h2, h3⟩ := h
  exact ⟨xs, e _ _ h1, dpAll_ex e _ _ h2, h3⟩
theorem LD.dp {ds : List PyData} (h : LD K p ds H) : Dp K H (.ref p) (.list ds) := by
  obtain ⟨xs, h1, h2, h3⟩ := h
  exact .lst (sq_of h1) h2
theorem LD.nt {ds : List PyData} (h : LD K p ds H) : NT [p] H := by
  obtain ⟨xs, h1, _⟩ := h
  exact nt_lst h1
theorem LD.ne {ds : List PyData} (h : LD K p ds H) : H p ≠ none := by
  obtain ⟨xs, h1, _⟩ := h
  rw [h1]; simp
theorem Wl.ne {pw : Addr} {n : Int} (h : Wl H pw n) : H pw ≠ none := by
  obtain ⟨x, c, k, h1, _⟩ := h
  rw [h1]; simp
end
theorem Stb.no : Stb tNo := fun _ _ _ _ _ _ _ => True.intro
section
variable {K : PySem.W.Frag} {H0 H H' : Hp} {C a p pw : Addr} {F : List Addr} {D : DS} {ts : List Th} {Q : VK} {E : XK} {n m : Int} {ds : List PyData}
/-- a draw -/
theorem Ws.draw (W : Ws H0 H ts) (i : Nat) (h : ts[i]? = some (tWl pw n)) (h1 : 1 ≤ m) (h2 : m ≤ 1000000000000) (h3 : n ≤ 100000) (k : ∀ r H', 0 ≤ r → r < m → Ws H0 H' (ts.set i (tWl pw (n + 1))) → Mu [pw] H H' → Q (.int r) H') : spDrawN [.ref pw, .int m] H Q E :=
  ⟨pw, m, n, rfl, W.get i h, h1, h2, h3, fun r H' a b mu w => k r H' a b (W.put i h (Wl.nt (W.get i h)) mu w stb_wl fun b hb => by rw [List.mem_singleton.mp hb]; exact w.ne) mu⟩
theorem Ws.write {b : Int} {u : V} {e : PyData} (W : Ws H0 H ts) (i : Nat) (h : ts[i]? = some (tDk K C a F D)) (h0 : 0 ≤ b) (h1 : b < D.f.length) (hu : Dp K H u e) (he : valOk 8 e = true) (hd : D.d.length ≤ 50000)
    (k : ∀ H' F', Ws H0 H' (ts.set i (tDk K C a F' (D.wr b e))) → Fr F F' H H' → Q .non H') : spWrite K C [.ref a, .int b, u] H Q E :=
  ⟨a, F, D, .int b, u, .int b, e, rfl, W.get i h, .inl (.int b), .inl hu, hd, fun _ _ H' F' d f => k H' F' (W.step i h (DiskAt.nt (W.get i h)) f d stb_dk d.mem) f, fun z => (by rw [blk_int h0 h1] at z; cases z), fun _ z => (by rw [he] at z; cases z)⟩
theorem Ws.flush (W : Ws H0 H ts) (i : Nat) (h : ts[i]? = some (tDk K C a F D)) (hd : D.d.length ≤ 50000) (k : ∀ H' F', Ws H0 H' (ts.set i (tDk K C a F' D.fl)) → Fr F F' H H' → Q .non H') : spFlush K C [.ref a] H Q E :=
  ⟨a, F, D, rfl, W.get i h, hd, fun H' F' d f => k H' F' (W.step i h (DiskAt.nt (W.get i h)) f d stb_dk d.mem) f⟩
theorem Ws.look {g : DS → List PyData} (W : Ws H0 H ts) (i : Nat) (h : ts[i]? = some (tDk K C a F D)) (hg : noLAll (g D) = true) (k : ∀ p H', H p = none → Ex H H' → Ws H0 H' (ts ++ [tLd K p (g D)]) → Q (.ref p) H') : spLook K C g [.ref a] H Q E :=
  ⟨a, F, D, rfl, W.get i h, fun p xs H' np e hp hd => k p H' np e (W.new e (fun b hb => by rw [List.mem_singleton.mp hb]; exact np) ⟨xs, hp, hd, hg⟩ stb_ld fun b hb => by rw [List.mem_singleton.mp hb, hp]; simp)⟩
/-- an own list that was just laid -/
theorem Ws.list {xs : List V} (W : Ws H0 H ts) (e : Ex H H') (np : H p = none) (hp : H' p = some (.lst xs)) (hd : DpAll K H' xs ds) (nl : noLAll ds = true) : Ws H0 H' (ts ++ [tLd K p ds]) :=
  W.new e (fun b hb => by rw [List.mem_singleton.mp hb]; exact np) ⟨xs, hp, hd, nl⟩ stb_ld fun b hb => by rw [List.mem_singleton.mp hb, hp]; simp
theorem Ws.well (W : Ws H0 H ts) (e : Ex H H') (np : H pw = none) (w : Wl H' pw n) : Ws H0 H' (ts ++ [tWl pw n]) :=
  W.new e (fun b hb => by rw [List.mem_singleton.mp hb]; exact np) w stb_wl fun b hb => by rw [List.mem_singleton.mp hb]; exact w.ne
theorem Ws.disk (W : Ws H0 H ts) (e : Ex H H') (fr : ∀ b ∈ F, H b = none) (d : DiskAt K H' C a F D) : Ws H0 H' (ts ++ [tDk K C a F D]) := W.new e fr d stb_dk d.mem
theorem Ws.im {v : V} {d : PyData} (W : Ws H0 H ts) (h : Dp K H v d) (nl : noL d = true) : Ws H0 H (ts ++ [tIm K v d]) :=
  W.new (Ex.refl H) (fun b hb => absurd hb List.not_mem_nil) ⟨h, nl⟩ stb_im fun b hb => absurd hb List.not_mem_nil
/-- self of a disk's method -/
theorem Ws.self {Z : Prop} {m : Str} (W : Ws H0 H ts) (i : Nat) (h : ts[i]? = some (tDk K C a F D)) (hm : dnames.elem m = false) (z : Z) : ∃ a' dx fs, V.ref a = .ref a' ∧ H a' = some (.ins C dx fs) ∧ fs.lookup m = none ∧ Z :=
  DiskAt.self (W.get i h) hm z
end

/-! ## what a disk did -/
def DS.ap (D : DS) (e : PyData) : DS := match e with
  | .tuple [_, .int b, v] => D.wr b v
  | _ => D.fl
theorem DS.ap_w {D : DS} {b : Int} {v : PyData} : D.ap (eW b v) = D.wr b v := rfl
theorem DS.ap_f {D : DS} : D.ap eF = D.fl := rfl
theorem DS.ap_f_len (D : DS) (e : PyData) : (D.ap e).f = D.f := by
  unfold DS.ap
  split <;> rfl
def DS.run (D : DS) (es : List PyData) : DS := es.foldl DS.ap D
theorem DS.run_f (es : List PyData) : ∀ D : DS, (D.run es).f = D.f := by
  induction es with
  | nil => intro D; rfl
  | cons e es ih => intro D; show ((D.ap e).run es).f = _; rw [ih, DS.ap_f_len]
theorem DS.Ok.ap {D : DS} (h : D.Ok) {e : PyData} (he : isE D.f.length e) : (D.ap e).Ok := by
  rcases he with ⟨b, v, rfl, h0, h1, hv⟩ | rfl
  · exact h.wr h0 h1 hv
  · exact h.fl
theorem DS.Ok.run {es : List PyData} : ∀ {D : DS}, D.Ok → (∀ e ∈ es, isE D.f.length e) → (D.run es).Ok := by
  induction es with
  | nil => intro D h _; exact h
  | cons e es ih =>
    intro D h he
    exact ih (h.ap (he e List.mem_cons_self)) fun x hx => by rw [DS.ap_f_len]; exact he x (List.mem_cons_of_mem _ hx)
theorem DS.run_snoc {D : DS} {es : List PyData} {e : PyData} : D.run (es ++ [e]) = (D.run es).ap e := by
  unfold DS.run
  rw [List.foldl_append]
  rfl
theorem DS.ap_d {D : DS} {n : Nat} {e : PyData} (he : isE n e) : (D.ap e).d = D.d ++ [e] := by
  rcases he with ⟨b, v, rfl, _⟩ | rfl <;> rfl
theorem DS.run_d {n : Nat} {es : List PyData} : ∀ {D : DS}, (∀ e ∈ es, isE n e) → (D.run es).d = D.d ++ es := by
  induction es with
  | nil => intro D _; show D.d = D.d ++ []; rw [List.append_nil]
  | cons e es ih =>
    intro D he
    show ((D.ap e).run es).d = _
    rw [ih fun x hx => he x (List.mem_cons_of_mem _ hx), DS.ap_d (he e List.mem_cons_self), List.append_assoc]
    rfl
/-- what stands is what was done since the beginning -/
structure DS.Hi (D : DS) : Prop where
  eq : D = (DS.new D.f).run D.d
theorem DS.Hi.new (ds : List PyData) : (DS.new ds).Hi := ⟨rfl⟩
theorem DS.Hi.ap {D : DS} (h : D.Hi) {n : Nat} {e : PyData} (he : isE n e) : (D.ap e).Hi := ⟨by
  rw [DS.ap_d he, DS.ap_f_len, DS.run_snoc, ← h.eq]⟩
theorem DS.Hi.wr {D : DS} (h : D.Hi) {b : Int} {v : PyData} (h0 : 0 ≤ b) (h1 : b < D.f.length) (hv : valOk 8 v = true) : (D.wr b v).Hi := h.ap (n := D.f.length) (.inl ⟨b, v, rfl, h0, h1, hv⟩)
theorem DS.Hi.fl {D : DS} (h : D.Hi) : D.fl.Hi := h.ap (n := 0) (.inr rfl)
/-- the newest values are the durable ones with what waits -/
def setAll (s w : List PyData) : List PyData := w.foldl putW s
theorem DS.nw {es : List PyData} : ∀ {D : DS} {n : Nat}, D.n = setAll D.s D.w → (∀ e ∈ es, isE n e) → (D.run es).n = setAll (D.run es).s (D.run es).w := by
  induction es with
  | nil => intro D n h _; exact h
  | cons e es ih =>
    intro D n h he
    refine ih (D := D.ap e) (n := n) ?_ fun x hx => he x (List.mem_cons_of_mem _ hx)
    rcases he e List.mem_cons_self with ⟨b, v, rfl, _⟩ | rfl
    · show D.n.set b.toNat v = setAll D.s (D.w ++ [pW b v])
      unfold setAll
      rw [List.foldl_append, h]
      rfl
    · rfl
/-- the law's own reckoning: what is durable, what waits -/
def rep1 (q : List PyData × List PyData) (e : PyData) : List PyData × List PyData := match e with
  | .tuple [_, .int b, v] => (q.1, q.2 ++ [pW b v])
  | _ => (setAll q.1 q.2, [])
theorem rep_run {es : List PyData} : ∀ {D : DS} {n : Nat}, D.n = setAll D.s D.w → (∀ e ∈ es, isE n e) → es.foldl rep1 (D.s, D.w) = ((D.run es).s, (D.run es).w) := by
  induction es with
  | nil => intro D n _ _; rfl
  | cons e es ih =>
    intro D n h he
    rw [List.foldl_cons]
    rcases he e List.mem_cons_self with ⟨b, v, rfl, hb⟩ | rfl
    · have hn : (D.wr b v).n = setAll (D.wr b v).s (D.wr b v).w := by
        show D.n.set b.toNat v = setAll D.s (D.w ++ [pW b v])
        unfold setAll
        rw [List.foldl_append, h]
        rfl
      exact ih (D := D.wr b v) hn fun x hx => he x (List.mem_cons_of_mem _ hx)
    · have : rep1 (D.s, D.w) eF = (D.fl.s, D.fl.w) := by
        show (setAll D.s D.w, []) = (D.n, [])
        rw [h]
      rw [this]
      exact ih (D := D.fl) rfl fun x hx => he x (List.mem_cons_of_mem _ hx)
end GL
namespace GL
open PySem PySem.Spec PyProof.Rows L2 Evl
def spRepeat (K : PySem.W.Frag) (C : Addr) : Sp := fun vs H Q _ => ∃ (a : Addr) (F : List Addr) (D : DS) (v : V) (e : PyData), vs = [.ref a, v] ∧ DiskAt K H C a F D ∧ Dp K H v e ∧ isE D.f.length e ∧ D.d.length ≤ 50000 ∧
  ∀ H' F', DiskAt K H' C a F' (D.ap e) → Fr F F' H H' → Q .non H'
def spAfter (K : PySem.W.Frag) (C : Addr) : Sp := fun vs H Q E => ∃ (a : Addr) (F : List Addr) (D : DS) (v : V) (d : PyData), vs = [.ref a, v] ∧ DiskAt K H C a F D ∧ Dq K H v d ∧ D.d.length ≤ 50000 ∧
  (betw d 0 D.d.length = true → ∀ a' F' H', Ex H H' → (∀ b ∈ F', H b = none) → DiskAt K H' C a' F' ((DS.new D.f).run (D.d.take (intOf d).toNat)) → Q (.ref a') H') ∧
  (betw d 0 D.d.length = false → badC K "BadCount" "count" v H E)
end GL
namespace GL
open PySem PySem.Spec PyProof.Rows L2 Evl
section
variable {K : PySem.W.Frag} {H : Hp} {v : V} {vs : List V} {d : PyData} {ds : List PyData}
theorem dp_tup (h : Dp K H v (.tuple ds)) : ∃ p xs, v = .ref p ∧ SqT K H p xs ∧ DpAll K H xs ds := by cases h with | tup a b => exact ⟨_, _, rfl, a, b⟩
theorem dp_lst (h : Dp K H v (.list ds)) : ∃ p xs, v = .ref p ∧ SqL K H p xs ∧ DpAll K H xs ds := by cases h with | lst a b => exact ⟨_, _, rfl, a, b⟩
theorem dp_int {i : Int} (h : Dp K H v (.int i)) : v = .int i := by cases h; rfl
theorem dp_str {x : Str} (h : Dp K H v (.str x)) : v = .str x := by cases h; rfl
theorem dpa_cons (h : DpAll K H vs (d :: ds)) : ∃ v r, vs = v :: r ∧ Dp K H v d ∧ DpAll K H r ds := by cases h with | cons a b => exact ⟨_, _, rfl, a, b⟩
theorem dpa_nil (h : DpAll K H vs []) : vs = [] := by cases h; rfl
theorem dp_eW {b : Int} {u : PyData} (h : Dp K H v (eW b u)) : ∃ p x, v = .ref p ∧ SqT K H p [.str "write", .int b, x] ∧ Dp K H x u := by
  obtain ⟨p, xs, rfl, hs, ha⟩ := dp_tup h
  obtain ⟨x0, r0, rfl, h0, ha⟩ := dpa_cons ha
  obtain ⟨x1, r1, rfl, h1, ha⟩ := dpa_cons ha
  obtain ⟨x2, r2, rfl, h2, ha⟩ := dpa_cons ha
  obtain rfl := dpa_nil ha
  obtain rfl := dp_str h0
  obtain rfl := dp_int h1
  exact ⟨p, x2, rfl, hs, h2⟩
theorem dp_eF (h : Dp K H v eF) : ∃ p, v = .ref p ∧ SqT K H p [.str "flush"] := by
  obtain ⟨p, xs, rfl, hs, ha⟩ := dp_tup h
  obtain ⟨x0, r0, rfl, h0, ha⟩ := dpa_cons ha
  obtain rfl := dpa_nil ha
  obtain rfl := dp_str h0
  exact ⟨p, rfl, hs⟩
theorem dp_pW {b : Int} {u : PyData} (h : Dp K H v (pW b u)) : ∃ p x, v = .ref p ∧ SqT K H p [.int b, x] ∧ Dp K H x u := by
  obtain ⟨p, xs, rfl, hs, ha⟩ := dp_tup h
  obtain ⟨x1, r1, rfl, h1, ha⟩ := dpa_cons ha
  obtain ⟨x2, r2, rfl, h2, ha⟩ := dpa_cons ha
  obtain rfl := dpa_nil ha
  obtain rfl := dp_int h1
  exact ⟨p, x2, rfl, hs, h2⟩
end
end GL

namespace GL
open PySem PySem.Spec PyProof.Rows L2 Evl
/-! ## more rules -/
def cMeth0 (C : Addr) (m : Str) (sp : Sp) (ta : TE) (t : TA) : TE := fun σ H Q => ta σ H fun x H1 => ∃ a dx fs, x = .ref a ∧ H1 a = some (.ins C dx fs) ∧ fs.lookup m = none ∧
  t σ H1 fun vs H2 => sp (x :: vs) H2 Q E0
section
variable {X : Cx} {c : Bool} {k : Nat} {sp : Sp} {m : Str} {pos apos : Pos} {e o : Expr} {es : List Expr} {ta : TE} {t : TA} {C : Addr}
theorem ge_methF {pl : Sem Bool} (ho : PE X o ta) (cl : Cls X.K C) (G : GM c X.prog X.w X.K X.mg X.base C m k sp) (hr : Rm c k X.A) (ha : PA X (e :: es) t)
    (hst : starEach (e :: es) X.env = (false, eval e X.env) :: starEach es X.env := by rfl) (hpl : (backTo pos (starEach es X.env)).any (·.1) = false := by rfl)
    (ht : eval (.Call (.Attribute o m apos) (e :: es) [] pos) X.env = (do
      let w ← eval o X.env
      standAt apos.atName
      let (g, first) ← holding [w] (getMethod w m pl)
      callWith pos g first (backTo pos (starEach (e :: es) X.env)) (backToKw pos (keywordEach [] X.env))) := by rfl) :
    PE X (.Call (.Attribute o m apos) (e :: es) [] pos) (cMeth0 C m sp ta t) := by
  obtain ⟨f, F, hm⟩ := G.ex
  constructor
  intro pins s σ H Q I h
  refine PySem.W.methodCall_KW (pl := pl) (thn (ho.run pins s σ H _ I h) ?_) ht
  rintro u s1 ⟨x, H1, I1, rx, a, dx, fs, ex, ea, l, q⟩
  subst ex
  obtain rfl : u = Value.ref a := rx
  refine getmeth_ok I1 ea cl hm l ?_
  refine PySem.W.callWith_K (first := [.ref a]) (h₀ := X.base) I.ok.mod.kin hm.kp (thn (ha.run pos pins s1 σ H1 _ I1 q) ?_) hst hpl
  rintro us s2 ⟨vs, H2, I2, r, q2⟩
  exact ⟨I2.kIn, go_fn (us := .ref a :: us) (vs := .ref a :: vs) F hr arr0 I2 (.cons rfl r) q2⟩
theorem ge_meth0F {pl : Sem Bool} (ho : PE X o ta) (cl : Cls X.K C) (G : GM c X.prog X.w X.K X.mg X.base C m k sp) (hr : Rm c k X.A)
    (ht : eval (.Call (.Attribute o m apos) [] [] pos) X.env = (do
      let w ← eval o X.env
      standAt apos.atName
      let (g, first) ← holding [w] (getMethod w m pl)
      callWith pos g first (backTo pos (starEach [] X.env)) (backToKw pos (keywordEach [] X.env))) := by rfl) :
    PE X (.Call (.Attribute o m apos) [] [] pos) (cMeth0 C m sp ta tNil) := by
  obtain ⟨f, F, hm⟩ := G.ex
  constructor
  intro pins s σ H Q I h
  refine PySem.W.methodCall_KW (pl := pl) (thn (ho.run pins s σ H _ I h) ?_) ht
  rintro u s1 ⟨x, H1, I1, rx, a, dx, fs, ex, ea, l, q⟩
  subst ex
  obtain rfl : u = Value.ref a := rx
  refine getmeth_ok I1 ea cl hm l ?_
  exact PySem.W.callWith_K0 (first := [.ref a]) I1.kIn hm.kp (go_fn (us := [.ref a]) (vs := [.ref a]) F hr arr0 I1 (.cons rfl .nil) q)
def tDNewN : TE := fun _ H Q => ∀ p H2, H p = none → Ex H H2 → H2 p = some (.dK []) → Q (.ref p) H2
theorem pe_dnewN : PE X (.Dict [] [] pos) tDNewN := ⟨fun pins s σ H Q I h => (pe_dnewK (X := X) (pos := pos)).run pins s σ H Q I fun p np => h p _ np (Ex.new np) upd_same⟩
end
section
variable {K : PySem.W.Frag} {σ : L2.St} {H : Hp} {D : Ends} {Q : VK}
theorem rd_meth0 {C : Addr} {m : Str} {sp : Sp} {ta : TE} {t : TA} (h : ta σ H fun x H1 => ∃ a dx fs, x = .ref a ∧ H1 a = some (.ins C dx fs) ∧ fs.lookup m = none ∧ t σ H1 fun vs H2 => sp (x :: vs) H2 Q E0) : cMeth0 C m sp ta t σ H Q := h
theorem rd_dnewN (h : ∀ p H2, H p = none → Ex H H2 → H2 p = some (.dK []) → Q (.ref p) H2) : tDNewN σ H Q := h
theorem rd_par {i j : Nat} {ta : TA} (h : ta σ H fun vs H1 => ∃ v w, vs = [v, w] ∧ D.nx ((σ.set i (some v)).set j (some w)) H1) : tPar i j ta D σ H := h
theorem rd_two {a b : V} {P : V → V → Prop} (h : P a b) : ∃ v w, [a, b] = [v, w] ∧ P v w := ⟨a, b, rfl, h⟩
theorem rd_revL {te : TE} (h : te σ H fun x H1 => ∃ a xs, x = .ref a ∧ SqL K H1 a xs ∧ ∀ p, H1 p = none → Q (.ref p) (upd H1 p (.lst xs.reverse))) : tRevL K te σ H Q := h
end

/-! ## what a law draws: values -/
mutual
theorem valOk_mono : ∀ (n m : Nat) (d : PyData), n ≤ m → valOk n d = true → valOk m d = true
  | _, _, .int _, _, _ => by simp [valOk]
  | _, _, .str _, _, _ => by simp [valOk]
  | 0, _, .tuple _, _, h => by simp [valOk] at h
  | n + 1, 0, .tuple _, z, _ => by omega
  | n + 1, m + 1, .tuple ds, z, h => by
    simp only [valOk] at h ⊢
    exact valOkAll_mono n m ds (by omega) h
  | _, _, .none, _, h => by simp [valOk] at h
  | _, _, .bool _, _, h => by simp [valOk] at h
  | _, _, .list _, _, h => by simp [valOk] at h
  | _, _, .dict _, _, h => by simp [valOk] at h
theorem valOkAll_mono : ∀ (n m : Nat) (ds : List PyData), n ≤ m → valOkAll n ds = true → valOkAll m ds = true
  | _, _, [], _, _ => by simp [valOkAll]
  | n, m, d :: ds, z, h => by
    have q : valOk n d = true ∧ valOkAll n ds = true := by simpa [valOkAll] using h
    simp only [valOkAll, valOk_mono n m d z q.1, valOkAll_mono n m ds z q.2, Bool.and_self]
end
def costV : Nat → Int
  | 0 => 3
  | k + 1 => 2 + 3 * costV k
def wtV : Nat → Nat
  | 0 => 130
  | k + 1 => 3 * (wtV k + 1)
theorem costV_ge : ∀ k, 3 ≤ costV k
  | 0 => by decide
  | k + 1 => by have := costV_ge k; show 3 ≤ 2 + 3 * costV k; omega
theorem wtV_ge : ∀ k, 130 ≤ wtV k
  | 0 => by decide
  | k + 1 => by have := wtV_ge k; show 130 ≤ 3 * (wtV k + 1); omega
theorem wtV_mono : ∀ {j k : Nat}, j ≤ k → wtV j ≤ wtV k := by
  intro j k h
  induction h with
  | refl => exact Nat.le_refl _
  | step h ih => rename_i m; have := wtV_ge m; show wtV j ≤ 3 * (wtV m + 1); omega
structure Vd (k : Nat) (d : PyData) : Prop where
  ok : valOk k d = true
  tm : Tm k (wtV k) d
theorem Vd.up {j k : Nat} {d : PyData} (h : Vd j d) (z : j ≤ k) : Vd k d := ⟨valOk_mono _ _ _ z h.ok, h.tm.mono z (wtV_mono z)⟩
theorem Vd.int {i : Int} (h : i.natAbs < 10 ^ 21) : Vd 0 (.int i) := ⟨by simp [valOk], (Tm.intB h).mono (Nat.le_refl _) (by decide)⟩
theorem Vd.str {x : Str} (h : PyData.strOk x = true) (hl : x.cps.size ≤ 130) : Vd 0 (.str x) := ⟨by simp [valOk], Tm.str h hl⟩
theorem Vd.tuple {k : Nat} {ds : List PyData} (h : ∀ d ∈ ds, Vd k d) (hl : ds.length ≤ 3) : Vd (k + 1) (.tuple ds) :=
  ⟨by simp only [valOk]; exact valOkAll_iff.mpr fun d hd => (h d hd).ok, Tm.tuple (fun d hd => (h d hd).tm) hl⟩
def spOne : Sp := fun vs H Q _ => ∃ (pw ps : Addr) (n : Int) (xs : List V), vs = [.ref pw, .ref ps] ∧ Wl H pw n ∧ H ps = some (.lst xs) ∧ ps ≠ pw ∧ 1 ≤ xs.length ∧ xs.length ≤ 1000 ∧ n ≤ 99999 ∧
  ∀ (v : V) (i : Nat) (H' : Hp), xs[i]? = some v → Mu [pw] H H' → Wl H' pw (n + 1) → Q v H'
def spVal (K : PySem.W.Frag) (k : Nat) : Sp := fun vs H Q _ => ∃ (pw : Addr) (n : Int), vs = [.ref pw, .int (k : Nat)] ∧ Wl H pw n ∧ n + costV k ≤ 100000 ∧
  ∀ v d H', Mu [pw] H H' → Wl H' pw (n + costV k) → Dp K H' v d → Vd k d → Q v H'
section
variable {K : PySem.W.Frag} {H0 H H' : Hp} {pw : Addr} {ts : List Th} {Q : VK} {E : XK} {n : Int}
theorem Ws.value {k : Nat} (W : Ws H0 H ts) (i : Nat) (h : ts[i]? = some (tWl pw n)) (hn : n + costV k ≤ 100000) (q : ∀ v d H', Ws H0 H' (ts.set i (tWl pw (n + costV k)) ++ [tIm K v d]) → Mu [pw] H H' → Vd k d → Dp K H' v d → Q v H') : spVal K k [.ref pw, .int (k : Nat)] H Q E :=
  ⟨pw, n, rfl, W.get i h, hn, fun v d H' mu w hd vd => q v d H' ((W.put i h (Wl.nt (W.get i h)) mu w stb_wl fun b hb => by rw [List.mem_singleton.mp hb]; exact w.ne).im hd (valOk_noL k d vd.ok)) mu vd hd⟩
end
end GL

namespace GL
open PySem PySem.Spec PyProof.Rows L2 Evl
/-! ## a law's reckoning of a disk -/
def rep0 (size : Nat) : List PyData × List PyData := (List.replicate size (.int 0), [])
def spRepd (K : PySem.W.Frag) : Sp := fun vs H Q _ => ∃ (size : Nat) (pe : Addr) (es : List PyData), vs = [.int (size : Nat), .ref pe] ∧ LD K pe es H ∧ (∀ e ∈ es, isE size e) ∧ 1 ≤ size ∧ size ≤ 128 ∧ es.length ≤ 1000 ∧
  ∀ pt ps pp H', Ex H H' → H pt = none → H ps = none → H pp = none → ps ≠ pp → H' pt = some (.tup [.ref ps, .ref pp]) → LD K ps (es.foldl rep1 (rep0 size)).1 H' → LD K pp (es.foldl rep1 (rep0 size)).2 H' → Q (.ref pt) H'
/-- what such a pair keeps to -/
structure RpOk (size : Nat) (q : List PyData × List PyData) : Prop where
  l : q.1.length = size
  v : valOkAll 8 q.1 = true
  w : ∀ x ∈ q.2, isB size x
theorem RpOk.zero {size : Nat} : RpOk size (rep0 size) := ⟨List.length_replicate, valOkAll_iff.mpr fun d hd => by rw [List.eq_of_mem_replicate hd]; simp [valOk], fun x hx => absurd hx List.not_mem_nil⟩
theorem setAll_ok {size : Nat} : ∀ {w s : List PyData}, s.length = size → valOkAll 8 s = true → (∀ x ∈ w, isB size x) → (setAll s w).length = size ∧ valOkAll 8 (setAll s w) = true
  | [], s, h1, h2, _ => ⟨h1, h2⟩
  | x :: w, s, h1, h2, h3 => by
    obtain ⟨b, v, rfl, b0, b1, hv⟩ := h3 x List.mem_cons_self
    show (setAll (s.set b.toNat v) w).length = size ∧ _
    exact setAll_ok (by rw [List.length_set]; exact h1) (valOkAll_set h2 hv) fun y hy => h3 y (List.mem_cons_of_mem _ hy)
theorem setAll_snoc {s w : List PyData} {b : Int} {v : PyData} : setAll s (w ++ [pW b v]) = (setAll s w).set b.toNat v := by
  unfold setAll
  rw [List.foldl_append]
  rfl
theorem RpOk.next {size : Nat} {q : List PyData × List PyData} (h : RpOk size q) {e : PyData} (he : isE size e) : RpOk size (rep1 q e) := by
  rcases he with ⟨b, v, rfl, b0, b1, hv⟩ | rfl
  · refine ⟨h.l, h.v, fun x hx => ?_⟩
    rcases List.mem_append.mp (show x ∈ q.2 ++ [pW b v] from hx) with z | z
    · exact h.w x z
    · rw [List.mem_singleton.mp z]; exact ⟨b, v, rfl, b0, b1, hv⟩
  · obtain ⟨a, b⟩ := setAll_ok h.l h.v h.w
    exact ⟨a, b, fun x hx => absurd hx List.not_mem_nil⟩
def seen3 (D : DS) : PyData := .list [.list D.s, .list D.w, .list D.d]
def spSeen3 (K : PySem.W.Frag) (C : Addr) : Sp := fun vs H Q _ => ∃ (a : Addr) (F : List Addr) (D : DS) (k w : Nat), vs = [.ref a] ∧ DiskAt K H C a F D ∧ Tm k w (seen3 D) ∧ k ≤ 60 ∧ w ≤ 600000 ∧ ∀ H', Ex H H' → Q (.str (seen3 D).shown) H'
def spKept : Sp := fun vs H Q _ => ∃ (pw : Addr) (n : Int) (m : Nat), vs = [.ref pw, .int (m : Nat)] ∧ Wl H pw n ∧ m ≤ 1000 ∧ n + m ≤ 100000 ∧
  ∀ p (l : List Int) H', H p = none → Mu [pw] H H' → Wl H' pw (n + m) → H' p = some (.lst (l.map V.int)) → l.Pairwise (· < ·) → (∀ i ∈ l, 0 ≤ i ∧ i < m) → Q (.ref p) H'
/-- a wrong choice, and what is due for it -/
def BadCh (K : PySem.W.Frag) (m : Nat) (H : Hp) (v : V) (pl : V) : Prop := ∃ d, Dq K H v d ∧ ((isLs d = false ∧ pl = .non) ∨ ∃ ds k, d = .list ds ∧ chk m ds 0 0 = some k ∧ pl = .int (k : Nat))
def spBadK (K : PySem.W.Frag) : Sp := fun vs H Q _ => ∃ (pw pk : Addr) (n : Int) (m : Nat) (l : List Int), vs = [.ref pw, .ref pk, .int (m : Nat)] ∧ Wl H pw n ∧ H pk = some (.lst (l.map V.int)) ∧ pk ≠ pw ∧ m ≤ 1000 ∧ n + 4 ≤ 100000 ∧ l.Pairwise (· < ·) ∧ (∀ i ∈ l, 0 ≤ i ∧ i < m) ∧
  ∀ pt v pl H', H pt = none → Mu [pw] H H' → Wl H' pw (n + 4) → H' pt = some (.tup [v, pl]) → BadCh K m H' v pl → Q (.ref pt) H'
structure Sh (d : PyData) : Prop where
  sh : d.showable = true
  dep : d.depth ≤ 60
  len : d.shown.length ≤ sizeLine
theorem Tm.sh {k w : Nat} {d : PyData} (h : Tm k w d) (hk : k ≤ 60) (hw : w ≤ 600000) : Sh d := ⟨h.show_, Nat.le_trans h.dep hk, h.fits hw⟩
theorem sh_dict : Sh (.dict []) := ⟨by simp [PyData.showable, PyData.showableKv], by simp [PyData.depth, PyData.depthKv], by decide +kernel⟩
def spRaised (K : PySem.W.Frag) (C : Addr) : Sp := fun vs H Q _ => ∃ (a : Addr) (F : List Addr) (D : DS) (v : V) (way : Int), vs = [.ref a, .int way, v] ∧ DiskAt K H C a F D ∧ D.d.length ≤ 50000 ∧
  ((way = 0 ∧ ∃ d, Dq K H v d ∧ betw d 0 D.d.length = false ∧ Sh d ∧ ∀ p H', H p = none → Ex H H' → H' p = some (.tup [.str "count", .str d.shown, .int 1]) → Q (.ref p) H') ∨
   (way = 1 ∧ ∃ pl, BadCh K D.w.length H v pl ∧ ∀ p H', H p = none → Ex H H' → H' p = some (.tup [.str "choice", pl, .int 1]) → Q (.ref p) H'))
theorem chk_pre {n : Nat} {rest : List PyData} : ∀ {l : List Int} {lo : Int} {a : Nat}, l.Pairwise (· < ·) → (∀ i ∈ l, lo ≤ i ∧ i < n) → ∃ lo', lo ≤ lo' ∧ (∀ i ∈ l, i < lo') ∧ chk n (l.map .int ++ rest) lo a = chk n rest lo' (a + l.length)
  | [], lo, a, _, _ => ⟨lo, Int.le_refl _, fun i hi => absurd hi List.not_mem_nil, rfl⟩
  | i :: l, lo, a, p, h => by
    have hi := h i List.mem_cons_self
    obtain ⟨lo', h1, h2, h3⟩ := chk_pre (n := n) (rest := rest) (l := l) (lo := i + 1) (a := a + 1) (List.pairwise_cons.mp p).2 fun j hj => by
      have h1 := (List.pairwise_cons.mp p).1 j hj
      have h2 := h j (List.mem_cons_of_mem _ hj)
      omega
    refine ⟨lo', by omega, fun j hj => ?_, ?_⟩
    · rcases List.mem_cons.mp hj with z | z
      · omega
      · exact h2 j z
    · show (if betw (.int i) lo ((n : Int) - 1) = true then chk n (l.map .int ++ rest) (i + 1) (a + 1) else some a) = _
      rw [if_pos (betw_to hi.1 (by omega)), h3, List.length_cons]
      congr 1
      omega
theorem chk_bad {n : Nat} {d : PyData} {rest : List PyData} {lo : Int} {a : Nat} (h : betw d lo ((n : Int) - 1) = false) : chk n (d :: rest) lo a = some a := by
  show (if betw d lo ((n : Int) - 1) = true then _ else some a) = _
  rw [h, if_neg Bool.false_ne_true]
theorem betw_no {d : PyData} {l m : Int} (h : isI d = false) : betw d l m = false := by unfold betw; rw [h, Bool.false_and]
theorem betw_lo {i l m : Int} (h : i < l) : betw (.int i) l m = false := by
  show (true && (decide (l ≤ i) && decide (i ≤ m))) = false
  rw [Bool.true_and, decide_eq_false (by omega), Bool.false_and]
theorem betw_hi {i l m : Int} (h : m < i) : betw (.int i) l m = false := by
  show (true && (decide (l ≤ i) && decide (i ≤ m))) = false
  rw [Bool.true_and, decide_eq_false (show ¬ i ≤ m by omega), Bool.and_false]
end GL
namespace GL
open PySem PySem.Spec PyProof.Rows L2 Evl
theorem cutV_drop {xs : List V} {n : Int} (h0 : 0 ≤ n) : cutV xs (some n) none = xs.drop n.toNat := by
  unfold cutV
  have e1 : HT.sIx xs.length 0 (some n) = min n.toNat xs.length := by
    unfold HT.sIx
    simp only
    split <;> omega
  have e2 : HT.sIx xs.length xs.length none = xs.length := rfl
  rw [e1, e2]
  by_cases h : n.toNat ≤ xs.length
  · rw [Nat.min_eq_left h, List.take_of_length_le (by rw [List.length_drop]; exact Nat.le_refl _)]
  · rw [Nat.min_eq_right (by omega), List.drop_length, List.drop_of_length_le (by omega), List.take_nil]
theorem eqv_nil (l : List Int) : PyData.eqv (dI l) (.list []) = decide (l = []) := by
  cases l with
  | nil => simp [dI, PyData.eqv, PyData.eqvAll]
  | cons a l => simp [dI, PyData.eqv, PyData.eqvAll]
theorem atI_last {xs : List V} (h : xs ≠ []) : atI xs (-1) = some (xs.getLast h) := by
  have hl : 0 < xs.length := List.length_pos_iff.mpr h
  unfold atI ixN
  rw [if_neg (by decide), if_pos (by omega)]
  show xs[((-1 : Int) + (xs.length : Int)).toNat]? = _
  rw [show ((-1 : Int) + (xs.length : Int)).toNat = xs.length - 1 from by omega, List.getLast_eq_getElem, List.getElem?_eq_getElem (by omega)]
theorem chk_last {m : Nat} {l : List Int} {x : Int} (p : l.Pairwise (· < ·)) (h : ∀ i ∈ l, 0 ≤ i ∧ i < m) (hx : x ∈ l) : chk m ((l ++ [x]).map .int) 0 0 = some l.length := by
  rw [List.map_append]
  obtain ⟨lo, _, h2, h3⟩ := chk_pre (n := m) (rest := [x].map .int) (lo := 0) (a := 0) p h
  rw [h3, show ([x].map PyData.int) = [PyData.int x] from rfl, chk_bad (betw_lo (h2 x hx)), Nat.zero_add]
theorem chk_rev {m : Nat} {l : List Int} (p : l.Pairwise (· < ·)) (h : ∀ i ∈ l, 0 ≤ i ∧ i < m) (hl : 1 < l.length) : chk m (l.reverse.map .int) 0 0 = some 1 := by
  have e : ∃ x y r, l.reverse = x :: y :: r := by
    match h2 : l.reverse with
    | [] => have := congrArg List.length h2; rw [List.length_reverse] at this; rw [this] at hl; exact absurd hl (by simp)
    | [a] => have := congrArg List.length h2; rw [List.length_reverse] at this; rw [this] at hl; exact absurd hl (by simp)
    | x :: y :: r => exact ⟨x, y, r, rfl⟩
  obtain ⟨x, y, r, e⟩ := e
  have pr := List.pairwise_reverse.mpr p
  rw [e] at pr ⊢
  have hxy : y < x := (List.pairwise_cons.mp pr).1 y List.mem_cons_self
  have hx := h x (by rw [← List.mem_reverse, e]; exact List.mem_cons_self)
  show (if betw (.int x) 0 ((m : Int) - 1) = true then chk m (.int y :: r.map .int) (x + 1) 1 else some 0) = some 1
  rw [if_pos (betw_to hx.1 (by omega)), chk_bad (betw_lo (by omega))]
theorem chk_ins {m k : Nat} {l : List Int} {d : PyData} {rest : List PyData} (p : l.Pairwise (· < ·)) (h : ∀ i ∈ l, 0 ≤ i ∧ i < m) (hk : k ≤ l.length) (hd : ∀ lo : Int, 0 ≤ lo → betw d lo ((m : Int) - 1) = false) : chk m ((l.take k).map .int ++ d :: rest) 0 0 = some k := by
  obtain ⟨lo, h1, _, h3⟩ := chk_pre (n := m) (rest := d :: rest) (lo := 0) (a := 0) (p.sublist (List.take_sublist k l)) fun i hi => h i (List.mem_of_mem_take hi)
  rw [h3, chk_bad (hd lo h1), List.length_take, Nat.zero_add, Nat.min_eq_left hk]
theorem asc_len0 {m : Int} : ∀ {l : List Int} {lo : Int}, l.Pairwise (· < ·) → (∀ i ∈ l, lo ≤ i ∧ i < m) → l ≠ [] → (l.length : Int) ≤ m - lo
  | [], _, _, _, h => absurd rfl h
  | [a], lo, _, h, _ => by have := h a List.mem_cons_self; simp; omega
  | a :: b :: l, lo, p, h, _ => by
    have ha := h a List.mem_cons_self
    have := asc_len0 (m := m) (l := b :: l) (lo := a + 1) (List.pairwise_cons.mp p).2 (fun i hi => by
      have h1 := (List.pairwise_cons.mp p).1 i hi
      have h2 := h i (List.mem_cons_of_mem _ hi)
      omega) (by simp)
    simp only [List.length_cons] at this ⊢
    omega
theorem asc_len {m : Nat} {l : List Int} (p : l.Pairwise (· < ·)) (h : ∀ i ∈ l, 0 ≤ i ∧ i < m) : l.length ≤ m := by
  by_cases z : l = []
  · rw [z]; exact Nat.zero_le _
  · have := asc_len0 p h z
    omega
theorem ints_take {l : List Int} {k : Nat} : (l.map V.int).take k = (l.take k).map V.int := by rw [List.map_take]
theorem ints_drop {l : List Int} {k : Nat} : (l.map V.int).drop k = (l.drop k).map V.int := by rw [List.map_drop]
end GL

namespace GL
open PySem PySem.Spec PyProof.Rows L2 Evl
def spGoes (K : PySem.W.Frag) (C : Addr) : Sp := fun vs H Q _ => ∃ (a pd : Addr) (F : List Addr) (ds : List PyData), vs = [.ref a, .ref pd] ∧ DiskAt K H C a F (DS.new ds) ∧ LD K pd ds H ∧ pd ∉ F ∧ (∀ x ∈ ds, Vd 2 x) ∧
  ∀ H', Mu F H H' → Q (.bl true) H'
def spFlushed (K : PySem.W.Frag) (C : Addr) : Sp := fun vs H Q _ => ∃ (a pe : Addr) (F : List Addr) (D : DS), vs = [.ref a, .ref pe] ∧ DiskAt K H C a F D ∧ LD K pe D.d H ∧ pe ∉ F ∧ (∀ x ∈ D.d, Tm 3 4000 x) ∧ D.d.length ≤ 100 ∧
  ∀ H', Mu F H H' → Q (.bl true) H'
def spOddC (K : PySem.W.Frag) (C : Addr) : Sp := fun vs H Q _ => ∃ (a : Addr) (F : List Addr) (D : DS), vs = [.ref a, .int (D.d.length : Nat)] ∧ DiskAt K H C a F D ∧ D.d.length ≤ 1000 ∧ ∀ H', Ex H H' → Q (.bl true) H'
theorem tm_pW {b : Int} {v : PyData} {k w : Nat} (hb : b.natAbs < 1000000) (hv : Tm k w v) (hw : 20 ≤ w) : Tm (k + 1) (2 * (w + 1)) (pW b v) := by
  refine Tm.tuple (n := 2) (fun d hd => ?_) (by simp)
  rcases List.mem_cons.mp hd with e | e
  · rw [e]; exact (Tm.int hb).mono (Nat.zero_le _) hw
  · rw [List.mem_singleton.mp e]; exact hv
theorem tm_eW {b : Int} {v : PyData} {k w : Nat} (hb : b.natAbs < 1000000) (hv : Tm k w v) (hw : 20 ≤ w) : Tm (k + 1) (3 * (w + 1)) (eW b v) := by
  refine Tm.tuple (n := 3) (fun d hd => ?_) (by simp)
  rcases List.mem_cons.mp hd with e | e
  · rw [e]; exact (Tm.str (n := 20) (by decide +kernel) (by decide +kernel)).mono (Nat.zero_le _) hw
  rcases List.mem_cons.mp e with e | e
  · rw [e]; exact (Tm.int hb).mono (Nat.zero_le _) hw
  · rw [List.mem_singleton.mp e]; exact hv
theorem tm_eF {k w : Nat} (hk : 1 ≤ k) (hw : 21 ≤ w) : Tm k w eF := by
  refine (Tm.tuple (k := 0) (w := 20) (n := 1) (fun d hd => ?_) (by simp)).mono hk (by omega)
  rw [List.mem_singleton.mp hd]
  exact Tm.str (by decide +kernel) (by decide +kernel)
theorem tm_list3 {k w : Nat} {a b c : PyData} (ha : Tm k w a) (hb : Tm k w b) (hc : Tm k w c) : Tm (k + 1) (3 * (w + 1)) (.list [a, b, c]) := by
  refine Tm.list (n := 3) (fun d hd => ?_) (by simp)
  rcases List.mem_cons.mp hd with e | e
  · rw [e]; exact ha
  rcases List.mem_cons.mp e with e | e
  · rw [e]; exact hb
  · rw [List.mem_singleton.mp e]; exact hc
end GL
namespace GL
open PySem PySem.Spec PyProof.Rows L2 Evl
theorem call_reprS {X : Cx} {c : Bool} {k : Nat} {a : Addr} {pn : List (Addr × Obj)} (hr : Rm c k X.A) : CallR (X.suite a pn) (.builtin "repr") (rRepr X.K) := call_reprD (X := X.suite a pn) (hr.mark _)
theorem call_isiS {X : Cx} {a : Addr} {pn : List (Addr × Obj)} : CallR (X.suite a pn) (.builtin "isinstance") (rIsi X.K) := call_isi
theorem call_lenS {X : Cx} {a : Addr} {pn : List (Addr × Obj)} : CallR (X.suite a pn) (.builtin "len") (rLenU X.K) := call_lenU
theorem op_eqS {X : Cx} {c : Bool} {k : Nat} {a : Addr} {pn : List (Addr × Obj)} (hr : Rm c k X.A) : OpR (X.suite a pn) (compareOp .Eq) (rEqU X.K) := op_eqU (X := X.suite a pn) (hr.mark (some (.ref a))).u64
theorem op_neS {X : Cx} {c : Bool} {k : Nat} {a : Addr} {pn : List (Addr × Obj)} (hr : Rm c k X.A) : OpR (X.suite a pn) (compareOp .NotEq) (rNeU X.K) := op_neU (X := X.suite a pn) (hr.mark (some (.ref a))).u64
theorem ix_seqS {X : Cx} {a : Addr} {pn : List (Addr × Obj)} : IxR (X.suite a pn) (rIx X.K) := ix_seq
end GL
namespace GL
open PySem PySem.Spec PyProof.Rows L2 Evl
abbrev H00 : Hp := fun _ => none
theorem Mu.apart {F G : List Addr} {H H1 H2 H3 : Hp} (m : Mu F H H1) (e : Ex H1 H2) (fr : ∀ b ∈ G, H1 b = none) (m2 : Mu G H2 H3) : Mu F H H3 := fun b o h n => by
  have h1 := m b o h n
  refine m2 b o (e b o h1) fun z => ?_
  rw [fr b z] at h1
  cases h1
section
variable {K : PySem.W.Frag} {H0 H H' : Hp} {C a p pw : Addr} {F : List Addr} {D : DS} {ts : List Th} {ds : List PyData} {n : Int}
/-- what stands already, side by side -/
theorem Ws.nil : Ws H00 H [] := ⟨(fun a o h => by cases h), fun _ h => absurd h List.not_mem_nil, fun _ h => absurd h List.not_mem_nil, fun _ h => absurd h List.not_mem_nil, fun _ h => absurd h List.not_mem_nil, List.Pairwise.nil⟩
theorem Ws.add (W : Ws H00 H ts) {F : List Addr} {P : Hp → Prop} (hp : P H) (st : Stb (F, P)) (mm : ∀ b ∈ F, H b ≠ none) (dj : ∀ t ∈ ts, ∀ b ∈ t.1, b ∉ F) : Ws H00 H (ts ++ [(F, P)]) := by
  refine ⟨W.ex, ?_, ?_, ?_, fun _ _ _ _ => rfl, ?_⟩
  · intro s hs
    rcases List.mem_append.mp hs with z | z
    · exact W.p s z
    · rw [List.mem_singleton.mp z]; exact hp
  · intro s hs
    rcases List.mem_append.mp hs with z | z
    · exact W.st s z
    · rw [List.mem_singleton.mp z]; exact st
  · intro s hs
    rcases List.mem_append.mp hs with z | z
    · exact W.mem s z
    · rw [List.mem_singleton.mp z]; exact mm
  · refine List.pairwise_append.mpr ⟨W.dj, List.pairwise_singleton _ _, fun s hs u hu b hb hb' => ?_⟩
    rw [List.mem_singleton.mp hu] at hb'
    exact dj s hs b hb hb'
theorem Ws.dk1 (d : DiskAt K H C a F D) : Ws H00 H [tDk K C a F D] := (Ws.nil (H := H)).add d stb_dk d.mem fun t ht => absurd ht List.not_mem_nil
theorem Ws.dk2 (d : DiskAt K H C a F D) (l : LD K p ds H) (no : p ∉ F) : Ws H00 H [tDk K C a F D, tLd K p ds] :=
  (Ws.dk1 d).add l stb_ld (fun b hb => by rw [List.mem_singleton.mp hb]; exact l.ne) fun t ht b hb hb' => by
    rw [List.mem_singleton.mp ht] at hb
    rw [List.mem_singleton.mp hb'] at hb
    exact no hb
end
theorem DS.Ok.nws {D : DS} (h : D.Ok) : noLAll D.w = true ∧ noLAll D.s = true ∧ noLAll D.d = true := ⟨h.nw, h.ns, h.nd⟩
end GL
namespace GL
open PySem PySem.Spec PyProof.Rows L2 Evl
theorem strOk_of (s : String) : PyData.strOk (Str.ofString s) = true := by
  unfold PyData.strOk
  rw [Array.all_eq_true_iff_forall_mem]
  intro c hc
  have h := Array.mem_toList_iff.mpr hc
  rw [PyProof.Rows.signs_ofString] at h
  obtain ⟨ch, _, rfl⟩ := List.mem_map.mp h
  have v := ch.valid
  rw [decide_eq_true_eq]
  rcases v with v | ⟨_, v⟩
  · exact Nat.lt_trans v (by decide)
  · exact v
theorem tm_shown_int {i : Int} (h : i.natAbs < 10 ^ 21) : Tm 0 30 (.str (PyData.shown (.int i))) := by
  refine Tm.str ?_ ?_
  · exact strOk_of _
  · have := shown_int25 h
    exact Nat.le_trans (show (PyData.shown (.int i)).cps.size ≤ 25 from this) (by decide)
end GL

namespace GL
open PySem PySem.Spec PyProof.Rows L2 Evl
/-! ## more of things that stand apart -/
theorem da_ints {K : PySem.W.Frag} {H : Hp} : ∀ {l : List Int} {xs : List V}, DpAll K H xs (l.map .int) → xs = l.map V.int
  | [], _, h => dpa_nil h
  | i :: l, _, h => by
    obtain ⟨v, r, rfl, h1, h2⟩ := dpa_cons h
    rw [dp_int h1, da_ints h2]
    rfl
theorem ints_cut {ns : List Int} {lo hi : Option Int} : ∃ ms : List Int, cutV (ns.map V.int) lo hi = ms.map V.int ∧ ms.length ≤ ns.length := by
  have e : ∃ ms : List Int, cutV (ns.map V.int) lo hi = ms.map V.int := ⟨(ns.drop (HT.sIx (ns.map V.int).length 0 lo)).take (HT.sIx (ns.map V.int).length (ns.map V.int).length hi - HT.sIx (ns.map V.int).length 0 lo), by unfold cutV; rw [List.map_take, List.map_drop]⟩
  obtain ⟨ms, e⟩ := e
  refine ⟨ms, e, ?_⟩
  have := cutV_length (ns.map V.int) lo hi
  rw [e, List.length_map, List.length_map] at this
  omega
theorem ints_at {l : List Int} {i : Nat} {x : V} (h : (l.map V.int)[i]? = some x) : ∃ c, x = V.int c ∧ l[i]? = some c := by
  rw [List.getElem?_map] at h
  cases z : l[i]? with
  | none => rw [z] at h; cases h
  | some c => rw [z] at h; exact ⟨c, (Option.some.inj h).symm, rfl⟩
def tLd2 (K : PySem.W.Frag) (p : Addr) (ds : List PyData) (q : Addr) (es : List PyData) : Th := ([p, q], fun H => LD K p ds H ∧ LD K q es H)
section
variable {K : PySem.W.Frag} {H0 H H' : Hp} {C a p q pw : Addr} {F : List Addr} {D : DS} {ts : List Th} {Q : VK} {E : XK} {n : Int} {ds es : List PyData}
theorem stb_ld2 : Stb (tLd2 K p ds q es) := fun G H H' h m nt hd =>
  ⟨stb_ld G H H' h.1 m nt (fun b hb => hd b (by rw [List.mem_singleton.mp hb]; exact List.mem_cons_self)), stb_ld G H H' h.2 m nt (fun b hb => hd b (by rw [List.mem_singleton.mp hb]; exact List.mem_cons_of_mem _ List.mem_cons_self))⟩
theorem Ws.sub {us : List Th} (W : Ws H0 H ts) (h : us.Sublist ts) : Ws H0 H us :=
  ⟨W.ex, fun t ht => W.p t (h.subset ht), fun t ht => W.st t (h.subset ht), fun t ht => W.mem t (h.subset ht), fun t ht => W.f0 t (h.subset ht), W.dj.sublist h⟩
theorem Ws.take (W : Ws H0 H ts) (n : Nat) : Ws H0 H (ts.take n) := W.sub (List.take_sublist n ts)
theorem Ws.wlUp {n' : Int} (W : Ws H0 H ts) (i : Nat) (h : ts[i]? = some (tWl pw n)) (hn : n ≤ n') : Ws H0 H (ts.set i (tWl pw n')) :=
  W.put i h (Wl.nt (W.get i h)) (Mu.refl _ _) ((show Wl H pw n from W.get i h).mono hn) stb_wl fun b hb => by rw [List.mem_singleton.mp hb]; exact Wl.ne (W.get i h)
/-- what stands already and is no other thing's -/
theorem Ws.also (W : Ws H0 H ts) {F : List Addr} {P : Hp → Prop} (f0 : ∀ b ∈ F, H0 b = none) (hp : P H) (st : Stb (F, P)) (mm : ∀ b ∈ F, H b ≠ none) (dj : ∀ t ∈ ts, ∀ b ∈ t.1, b ∉ F) : Ws H0 H (ts ++ [(F, P)]) := by
  refine ⟨W.ex, ?_, ?_, ?_, ?_, ?_⟩
  · intro s hs
    rcases List.mem_append.mp hs with z | z
    · exact W.p s z
    · rw [List.mem_singleton.mp z]; exact hp
  · intro s hs
    rcases List.mem_append.mp hs with z | z
    · exact W.st s z
    · rw [List.mem_singleton.mp z]; exact st
  · intro s hs
    rcases List.mem_append.mp hs with z | z
    · exact W.mem s z
    · rw [List.mem_singleton.mp z]; exact mm
  · intro s hs
    rcases List.mem_append.mp hs with z | z
    · exact W.f0 s z
    · rw [List.mem_singleton.mp z]; exact f0
  · refine List.pairwise_append.mpr ⟨W.dj, List.pairwise_singleton _ _, fun s hs u hu b hb hb' => ?_⟩
    rw [List.mem_singleton.mp hu] at hb'
    exact dj s hs b hb hb'
theorem Ws.two (W : Ws H0 H ts) (e : Ex H H') (np : H p = none) (nq : H q = none) (lp : LD K p ds H') (lq : LD K q es H') : Ws H0 H' (ts ++ [tLd2 K p ds q es]) := by
  refine W.new e (fun b hb => ?_) ⟨lp, lq⟩ stb_ld2 fun b hb => ?_
  · rcases List.mem_cons.mp hb with z | z
    · rw [z]; exact np
    · rw [List.mem_singleton.mp z]; exact nq
  · rcases List.mem_cons.mp hb with z | z
    · rw [z]; exact lp.ne
    · rw [List.mem_singleton.mp z]; exact lq.ne
theorem Ws.make {size : Int} {x dx : Addr} (W : Ws H0 H ts) (h1 : 1 ≤ size) (h2 : size ≤ 128) (nx : H x = none) (ndx : H dx = none) (hne : dx ≠ x)
    (k : ∀ H' F, Ws H0 H' (ts ++ [tDk K C x F (DS.new (List.replicate size.toNat (.int 0)))]) → Ex H H' → Q .non H') :
    spDInit K C [.ref x, .int size] (upd (upd H dx (.own x)) x (.ins C dx [])) Q E := by
  have e6 : Ex H (upd (upd H dx (.own x)) x (.ins C dx [])) := (Ex.new ndx).trans (Ex.new (by rw [upd_ne hne.symm]; exact nx))
  refine ⟨x, dx, .int size, .int size, rfl, upd_same, .inl (.int _), fun _ H7 F hD hF => ?_, fun z => ?_⟩
  · have e7 : Ex H H7 := fun b o hb => hF.mu b o (e6 b o hb) (by simp; exact ne_of_none hb nx)
    have f0 : ∀ b ∈ F, H b = none := fun b hb => (hF.sub b hb).elim (fun z => by rw [List.mem_singleton.mp z]; exact nx) fun z => fresh_back e6 z
    exact k H7 F (W.disk e7 f0 hD) e7
  · rw [betw_to h1 h2] at z; cases z
theorem noLAll_set {i : Nat} {d : PyData} (nx : noLAll ds = true) (nl : noL d = true) : noLAll (ds.set i d) = true := by
  rw [noLAll_iff] at nx ⊢
  intro y hy
  rcases List.mem_or_eq_of_mem_set hy with z | z
  · exact nx y z
  · rw [z]; exact nl
theorem noLAll_app {ds es : List PyData} (h1 : noLAll ds = true) (h2 : noLAll es = true) : noLAll (ds ++ es) = true := by
  rw [noLAll_iff] at *
  intro y hy
  rcases List.mem_append.mp hy with z | z
  · exact h1 y z
  · exact h2 y z
theorem noLAll_take {ds : List PyData} {n : Nat} (h : noLAll ds = true) : noLAll (ds.take n) = true := noLAll_iff.mpr fun x hx => noLAll_iff.mp h x (List.mem_of_mem_take hx)
theorem noLAll_ints {l : List Int} : noLAll (l.map .int) = true := noLAll_iff.mpr fun x hx => by
  obtain ⟨i, _, rfl⟩ := List.mem_map.mp hx
  simp [noL]
theorem Ws.setL {b : Int} {v : V} {d : PyData} {R : Hp → Prop} (W : Ws H0 H ts) (i : Nat) (h : ts[i]? = some (tLd K p ds)) (h0 : 0 ≤ b) (h1 : b < ds.length) (hv : Dp K H v d) (nl : noL d = true)
    (k : ∀ H', Ws H0 H' (ts.set i (tLd K p (ds.set b.toNat d))) → Mu [p] H H' → R H') : rSetL (.ref p) (.int b) v H R := by
  obtain ⟨xs, g, dx, nx⟩ := (show LD K p ds H from W.get i h)
  refine rd_setL g h0 (by rw [da_len dx]; exact h1) ?_
  have m : Mu [p] H (upd H p (.lst (xs.set b.toNat v))) := (Mu.refl [p] H).set (List.mem_singleton.mpr rfl) _
  exact k _ (W.put i (P' := LD K p (ds.set b.toNat d)) h (nt_lst g) m ⟨_, upd_same, da_set _ (dpAll_mu m (nt_lst g) _ _ nx dx) (dp_mu m (nt_lst g) _ _ nl hv), noLAll_set nx nl⟩ stb_ld fun b hb => by rw [List.mem_singleton.mp hb, upd_same]; simp) m
theorem Ws.app {v : V} {d : PyData} {xs : List V} (W : Ws H0 H ts) (i : Nat) (h : ts[i]? = some (tLd K p ds)) (g : H p = some (.lst xs)) (hv : Dp K H v d) (nl : noL d = true) : Ws H0 (upd H p (.lst (xs ++ [v]))) (ts.set i (tLd K p (ds ++ [d]))) := by
  obtain ⟨xs', g', dx, nx⟩ := (show LD K p ds H from W.get i h)
  rw [g] at g'
  cases g'
  have m : Mu [p] H (upd H p (.lst (xs ++ [v]))) := (Mu.refl [p] H).set (List.mem_singleton.mpr rfl) _
  exact W.put i (P' := LD K p (ds ++ [d])) h (nt_lst g) m ⟨_, upd_same, da_app (dpAll_mu m (nt_lst g) _ _ nx dx) (da_one (dp_mu m (nt_lst g) _ _ nl hv)), noLAll_app nx (noLAll_iff.mpr fun y hy => by rw [List.mem_singleton.mp hy]; exact nl)⟩ stb_ld fun b hb => by rw [List.mem_singleton.mp hb, upd_same]; simp
theorem Ws.putWl {n' : Int} (W : Ws H0 H ts) (i : Nat) (h : ts[i]? = some (tWl pw n)) (mu : Mu [pw] H H') (w : Wl H' pw n') : Ws H0 H' (ts.set i (tWl pw n')) :=
  W.put i h (Wl.nt (W.get i h)) mu w stb_wl fun b hb => by rw [List.mem_singleton.mp hb]; exact w.ne
theorem Ws.kept {m : Nat} (W : Ws H0 H ts) (i : Nat) (h : ts[i]? = some (tWl pw n)) (hm : m ≤ 1000) (hn : n + m ≤ 100000)
    (k : ∀ p (l : List Int) H', Ws H0 H' (ts.set i (tWl pw (n + m)) ++ [tLd K p (l.map .int)]) → l.Pairwise (· < ·) → (∀ i ∈ l, 0 ≤ i ∧ i < m) → Q (.ref p) H') : spKept [.ref pw, .int (m : Nat)] H Q E := by
  refine ⟨pw, n, m, rfl, W.get i h, hm, hn, fun p l H' np mu w g asc rng => ?_⟩
  have W1 := W.putWl i h mu w
  have hp0 : H0 p = none := fresh_back W.ex np
  refine k p l H' (W1.also (F := [p]) (P := LD K p (l.map .int)) (fun b hb => by rw [List.mem_singleton.mp hb]; exact hp0) ⟨_, g, ints_dp l, noLAll_ints⟩ stb_ld (fun b hb => by rw [List.mem_singleton.mp hb, g]; simp) ?_) asc rng
  intro t ht b hb hb'
  obtain rfl := List.mem_singleton.mp hb'
  rcases List.mem_or_eq_of_mem_set ht with z | z
  · exact W.mem t z b hb np
  · rw [z] at hb
    obtain rfl := List.mem_singleton.mp hb
    exact Wl.ne (W.get i h) np
theorem Ws.badK {m : Nat} {l : List Int} {pk : Addr} (W : Ws H0 H ts) (i j : Nat) (h : ts[i]? = some (tWl pw n)) (hj : ts[j]? = some (tLd K pk (l.map .int))) (hij : i ≠ j) (hm : m ≤ 1000) (hn : n + 4 ≤ 100000) (asc : l.Pairwise (· < ·)) (rng : ∀ i ∈ l, 0 ≤ i ∧ i < m)
    (k : ∀ pt v pl H', Ws H0 H' (ts.set i (tWl pw (n + 4))) → H' pt = some (.tup [v, pl]) → BadCh K m H' v pl → Q (.ref pt) H') : spBadK K [.ref pw, .ref pk, .int (m : Nat)] H Q E := by
  obtain ⟨xs, g, dx, nx⟩ := (show LD K pk (l.map .int) H from W.get j hj)
  obtain rfl := da_ints dx
  have hne : pk ≠ pw := fun z => W.apart h hj hij pw (List.mem_singleton.mpr rfl) (by rw [← z]; exact List.mem_singleton.mpr rfl)
  exact ⟨pw, pk, n, m, l, rfl, W.get i h, g, hne, hm, hn, asc, rng, fun pt v pl H' np mu w gt hb => k pt v pl H' (W.putWl i h mu w) gt hb⟩
end
/-! ## a disk of drawn values -/
def evOk (k : Nat) (x : PyData) : Prop := (∃ b v, x = eW b v ∧ b.natAbs < 1000 ∧ Vd k v) ∨ x = eF
structure Dv (k n : Nat) (D : DS) : Prop where
  vf : ∀ x ∈ D.f, Vd k x
  vs : ∀ x ∈ D.s, Vd k x
  vn : ∀ x ∈ D.n, Vd k x
  vw : ∀ x ∈ D.w, ∃ b v, x = pW b v ∧ b.natAbs < 1000 ∧ Vd k v
  vd : ∀ x ∈ D.d, evOk k x
  lw : D.w.length ≤ n
  ld : D.d.length ≤ n
section
variable {k n n' : Nat} {D : DS} {b : Int} {v : PyData} {ds : List PyData}
theorem Dv.new (h : ∀ x ∈ ds, Vd k x) : Dv k 0 (DS.new ds) := ⟨h, h, h, fun x hx => absurd hx List.not_mem_nil, fun x hx => absurd hx List.not_mem_nil, Nat.le_refl _, Nat.le_refl _⟩
theorem Dv.up (h : Dv k n D) (z : n ≤ n') : Dv k n' D := ⟨h.vf, h.vs, h.vn, h.vw, h.vd, Nat.le_trans h.lw z, Nat.le_trans h.ld z⟩
theorem Dv.wr (h : Dv k n D) (hb : b.natAbs < 1000) (hv : Vd k v) : Dv k (n + 1) (D.wr b v) := by
  refine ⟨h.vf, h.vs, fun x hx => ?_, fun x hx => ?_, fun x hx => ?_, ?_, ?_⟩
  · rcases List.mem_or_eq_of_mem_set hx with z | z
    · exact h.vn x z
    · rw [z]; exact hv
  · rcases List.mem_append.mp hx with z | z
    · exact h.vw x z
    · rw [List.mem_singleton.mp z]; exact ⟨b, v, rfl, hb, hv⟩
  · rcases List.mem_append.mp hx with z | z
    · exact h.vd x z
    · rw [List.mem_singleton.mp z]; exact .inl ⟨b, v, rfl, hb, hv⟩
  · show (D.w ++ _).length ≤ _; rw [List.length_append]; exact Nat.succ_le_succ h.lw
  · show (D.d ++ _).length ≤ _; rw [List.length_append]; exact Nat.succ_le_succ h.ld
theorem Dv.fl (h : Dv k n D) : Dv k (n + 1) D.fl := by
  refine ⟨h.vf, h.vn, h.vn, fun x hx => absurd hx List.not_mem_nil, fun x hx => ?_, Nat.zero_le _, ?_⟩
  · rcases List.mem_append.mp hx with z | z
    · exact h.vd x z
    · rw [List.mem_singleton.mp z]; exact .inr rfl
  · show (D.d ++ _).length ≤ _; rw [List.length_append]; exact Nat.succ_le_succ h.ld
theorem Dv.ap {e : PyData} (h : Dv k n D) (he : evOk k e) : Dv k (n + 1) (D.ap e) := by
  rcases he with ⟨b, v, rfl, hb, hv⟩ | rfl
  · exact h.wr hb hv
  · exact h.fl
theorem Dv.run : ∀ {es : List PyData} {D : DS} {n : Nat}, Dv k n D → (∀ e ∈ es, evOk k e) → Dv k (n + es.length) (D.run es)
  | [], _, _, h, _ => h
  | e :: es, D, n, h, he => by
    have := Dv.run (h.ap (he e List.mem_cons_self)) fun x hx => he x (List.mem_cons_of_mem _ hx)
    rw [List.length_cons, show n + (es.length + 1) = n + 1 + es.length from by omega]
    exact this
theorem Dv.tw (h : Dv 2 n D) : ∀ x ∈ D.w, Tm 3 2366 x := fun x hx => by
  obtain ⟨b, v, rfl, hb, hv⟩ := h.vw x hx
  exact (tm_pW (by omega) (hv.tm.mono (Nat.le_refl _) (show wtV 2 ≤ 1182 by decide)) (by decide)).mono (by decide) (by decide)
theorem Dv.td (h : Dv 2 n D) : ∀ x ∈ D.d, Tm 3 3549 x := fun x hx => by
  rcases h.vd x hx with ⟨b, v, rfl, hb, hv⟩ | rfl
  · exact (tm_eW (by omega) (hv.tm.mono (Nat.le_refl _) (show wtV 2 ≤ 1182 by decide)) (by decide)).mono (by decide) (by decide)
  · exact tm_eF (by decide) (by decide)
theorem tm_list3w {k wa wb wc : Nat} {a b c : PyData} (ha : Tm k wa a) (hb : Tm k wb b) (hc : Tm k wc c) : Tm (k + 1) (wa + wb + wc + 3) (.list [a, b, c]) := by
  refine ⟨?_, ?_, ?_, ?_, ?_⟩
  · simp [PyData.canLay0, PyData.canLayAll0, ha.lay, hb.lay, hc.lay]
  · simp [PyData.intsShort, PyData.intsShortAll, ha.iS, hb.iS, hc.iS]
  · simp [PyData.showable, PyData.showableAll, ha.show_, hb.show_, hc.show_]
  · have := ha.dep; have := hb.dep; have := hc.dep
    simp only [PyData.depth, PyData.depthAll]
    omega
  · have := ha.wt; have := hb.wt; have := hc.wt
    simp only [PyData.weight, PyData.weightAll]
    omega
theorem tm_vals (h : ∀ x ∈ ds, Vd 2 x) (hl : ds.length ≤ 128) : Tm 4 151424 (.list ds) := (Tm.list (k := 2) (w := 1182) (n := 128) (fun d hd => (h d hd).tm.mono (Nat.le_refl _) (by decide)) hl).mono (by decide) (by decide)
theorem Dv.seen3 (h : Dv 2 60 D) (ok : D.Ok) : Tm 5 510000 (GL.seen3 D) := by
  unfold GL.seen3
  refine (tm_list3w (k := 4) (wa := 151424) (wb := 142020) (wc := 213000) (tm_vals h.vs (by rw [ok.ls]; exact ok.hi)) ?_ ?_).mono (by decide) (by decide)
  · exact (Tm.list (k := 3) (n := 60) h.tw h.lw).mono (by decide) (by decide)
  · exact (Tm.list (k := 3) (n := 60) h.td h.ld).mono (by decide) (by decide)
theorem cr_snoc {ks : List PyData} {k : PyData} (h : D.w[(intOf k).toNat]? = some (pW b v)) : D.cr (ks ++ [k]) = (D.cr ks).set b.toNat v := by
  unfold DS.cr
  rw [List.foldl_append]
  show (match D.w[(intOf k).toNat]? with | some x => putW _ x | none => _) = _
  rw [h]
  rfl
theorem cr_go {P : PyData → Prop} (hw : ∀ x ∈ D.w, ∃ b v, x = pW b v ∧ P v) : ∀ (ks acc : List PyData), (∀ x ∈ acc, P x) → (∀ x ∈ ks.foldl (fun acc k => match D.w[(intOf k).toNat]? with | some x => putW acc x | none => acc) acc, P x) ∧ (ks.foldl (fun acc k => match D.w[(intOf k).toNat]? with | some x => putW acc x | none => acc) acc).length = acc.length
  | [], acc, h => ⟨h, rfl⟩
  | k :: ks, acc, h => by
    rw [List.foldl_cons]
    cases z : D.w[(intOf k).toNat]? with
    | none => exact cr_go hw ks acc h
    | some x =>
      obtain ⟨b, v, rfl, hv⟩ := hw x (List.mem_of_getElem? z)
      have h1 : putW acc (pW b v) = acc.set b.toNat v := rfl
      dsimp only
      rw [h1]
      obtain ⟨p, q⟩ := cr_go hw ks (acc.set b.toNat v) fun y hy => by
        rcases List.mem_or_eq_of_mem_set hy with z | z
        · exact h y z
        · rw [z]; exact hv
      exact ⟨p, by rw [q, List.length_set]⟩
theorem Dv.cr (h : Dv k n D) (ks : List PyData) : (∀ x ∈ D.cr ks, Vd k x) ∧ (D.cr ks).length = D.s.length :=
  cr_go (fun x hx => by obtain ⟨b, v, e, _, hv⟩ := h.vw x hx; exact ⟨b, v, e, hv⟩) ks D.s h.vs
end
end GL
namespace GL
open PySem PySem.Spec PyProof.Rows L2 Evl
theorem chk_le {n : Nat} : ∀ {ds : List PyData} {l : Int} {a k : Nat}, l ≤ n → chk n ds l a = some k → (k : Int) ≤ a + (n - l)
  | [], _, _, _, _, h => by cases h
  | d :: ds, l, a, k, hl, h => by
    unfold chk at h
    split at h
    · rename_i hb
      obtain ⟨j, rfl, h1, h2⟩ := betw_of hb
      have := chk_le (ds := ds) (l := intOf (.int j) + 1) (show j + 1 ≤ (n : Int) by omega) h
      have e : intOf (.int j) = j := rfl
      rw [e] at this
      omega
    · cases h
      omega
section
variable {K : PySem.W.Frag} {H H' : Hp} {p : Addr} {Q : VK} {ds : List PyData}
theorem LD.sq (h : LD K p ds H) : ∃ xs, SqL K H p xs ∧ DpAll K H xs ds := by
  obtain ⟨xs, g, d, _⟩ := h
  exact ⟨xs, sq_of g, d⟩
theorem LD.take {m : Nat} (h : LD K p ds H) (k : ∀ q H', H q = none → Ex H H' → LD K q (ds.take m) H' → Q (.ref q) H') : rSlLN K (.ref p) none (some (m : Int)) H Q := by
  obtain ⟨xs, g, d, nl⟩ := h
  refine rdn_sl (sq_of g) fun q H' nq e gq => k q H' nq e ?_
  rw [cutV_take (by omega), show ((m : Int).toNat) = m from by omega] at gq
  exact ⟨_, gq, dpAll_ex e _ _ (da_take m d), noLAll_take nl⟩
theorem LD.copy (h : LD K p ds H) (k : ∀ q H', H q = none → Ex H H' → LD K q ds H' → Q (.ref q) H') : rListN K [.ref p] H Q := by
  obtain ⟨xs, g, d, nl⟩ := h
  exact rdn_list (sq_of g) fun q H' nq e gq => k q H' nq e ⟨_, gq, dpAll_ex e _ _ d, nl⟩
theorem LD.len (h : LD K p ds H) (q : Q (.int ds.length) H) : rLenU K [.ref p] H Q := by
  obtain ⟨xs, g, d, nl⟩ := h
  refine rd_lenL (sq_of g) ?_
  rw [da_len d]
  exact q
theorem Ws.ld {H0 : Hp} {ts : List Th} (W : Ws H0 H ts) (e : Ex H H') (np : H p = none) (l : LD K p ds H') : Ws H0 H' (ts ++ [tLd K p ds]) :=
  W.new e (fun b hb => by rw [List.mem_singleton.mp hb]; exact np) l stb_ld fun b hb => by rw [List.mem_singleton.mp hb]; exact l.ne
end
end GL

namespace GL
open PySem PySem.Spec PyProof.Rows L2 Evl
/-! ## a class of the text with its own ==, its own repr -/
def owB (K : PySem.W.Frag) (C : Addr) : Bool :=
  eqV2 (PySem.W.findIn K (.ref C) "__ne__") (some (some (.builtin "object.__ne__"))) && (decide (PySem.W.mroIn K C (.type "object") = some true) &&
  (eqV2 (PySem.W.findIn K (.ref C) "__class__") (some (some (.builtin "object.__class__"))) && (eqV2 (PySem.W.specialIn K (.builtin "object.__class__") "__get__") (some (some (.builtin "getset_descriptor.__get__"))) &&
  (decide (PySem.W.takesIn K (.builtin "object.__class__") = some true) && (decide (PySem.W.kitOne K (.ref C) (.ref C) = some true) && (decide (PySem.W.kitOne K (.type "tuple") (.ref C) = some false) &&
  (decide (PySem.W.kitOne K (.type "str") (.ref C) = some false) && (PySem.W.notFirst K C (.type "tuple") && PySem.W.notFirst K C (.type "str")))))))))
structure OwC (K : PySem.W.Frag) (C : Addr) : Prop where
  ne : PySem.W.findIn K (.ref C) "__ne__" = some (some (.builtin "object.__ne__"))
  ob : PySem.W.mroIn K C (.type "object") = some true
  cl : PySem.W.findIn K (.ref C) "__class__" = some (some (.builtin "object.__class__"))
  gt : PySem.W.specialIn K (.builtin "object.__class__") "__get__" = some (some (.builtin "getset_descriptor.__get__"))
  tk : PySem.W.takesIn K (.builtin "object.__class__") = some true
  kc : PySem.W.kitOne K (.ref C) (.ref C) = some true
  kt : PySem.W.kitOne K (.type "tuple") (.ref C) = some false
  ks : PySem.W.kitOne K (.type "str") (.ref C) = some false
  nt : PySem.W.notFirst K C (.type "tuple") = true
  ns : PySem.W.notFirst K C (.type "str") = true
theorem owB_ok {K : PySem.W.Frag} {C : Addr} (h : owB K C = true) : OwC K C := by
  unfold owB at h
  obtain ⟨h1, h⟩ := bT_ok h
  obtain ⟨h2, h⟩ := bT_ok h
  obtain ⟨h3, h⟩ := bT_ok h
  obtain ⟨h4, h⟩ := bT_ok h
  obtain ⟨h5, h⟩ := bT_ok h
  obtain ⟨h6, h⟩ := bT_ok h
  obtain ⟨h7, h⟩ := bT_ok h
  obtain ⟨h8, h⟩ := bT_ok h
  obtain ⟨h9, h10⟩ := bT_ok h
  exact ⟨eqV2_ok h1, of_decide_eq_true h2, eqV2_ok h3, eqV2_ok h4, of_decide_eq_true h5, of_decide_eq_true h6, of_decide_eq_true h7, of_decide_eq_true h8, h9, h10⟩
theorem Rm.in1 {c : Bool} {k : Nat} {A : Around} (r : Rm c (k + 1) A) : Rm c k A.in1 :=
  ⟨r.hd, by have z := r.dp; show A.depth + 3 * k + 5 < _; omega, by have z := r.un; show A.units + 1 + 16 * k + 200 < _; omega, r.gd⟩
theorem notFirst_self {K : PySem.W.Frag} {C : Addr} : PySem.W.notFirst K C (.ref C) = true := by simp [PySem.W.notFirst]
section
variable {prog : Program} {w : World} {M : Model} {A : Around} {E : Value → Shared → Prop} {s : Shared} {K : PySem.W.Frag} {x C f : Addr} {ox : Obj} {od : Option Obj} {name : Str} {b tb : Value}
open PySem.W in
theorem ifBound_B {id : String} {args : List Value} {Q : Option Value → Shared → Prop} (X : K.In s.heap) (I : InstAt s.heap x ox C od) (hs : findIn K (.ref C) name = some (some (.builtin id)))
    (hb : ∀ self, bindSpecial (.builtin id) self = pure (.builtin id, [self])) (h : wpAny M A (call (.builtin id) (.ref x :: args)) (fun v => Q (some v)) E s) : wpAny M A (callSpecialIfBound? (.ref x) name args) Q E s := by
  simp only [callSpecialIfBound?, bindSpecialIfBound?]
  refine wpAny_holding (wpAny_bind (wpAny_bind (wpAny_bind (I.type.here ((looks_findIn X hs).here ?_)))))
  refine wpAny_bind (wpAny_askSetting (wpAny_ite ?_))
  have fin : wpAny M A (call (.builtin id) ([.ref x] ++ args) >>= fun v => pure (some v)) Q E s := wpAny_bind (wpAny_mono h (fun v s' h' => wpAny_pure h') fun _ _ h' => h')
  split
  · exact wpAny_bind ((Looks.of_pure (hb _)).here (wpAny_pure (by exact fin)))
  · exact wpAny_tryCatch (wpAny_bind ((Looks.of_pure (hb _)).here (wpAny_pure (by exact fin))))
open PySem.W Builtin in
theorem one_K {Q : Value → Shared → Prop} (hu : A.in1.units < cLine) (X : K.In s.heap) (I : InstAt s.heap x ox C od) (hn : findIn K (.ref C) "__ne__" = some (some (.builtin "object.__ne__"))) (hm : mroIn K C (.type "object") = some true)
    (hs : findIn K (.ref C) "__eq__" = some (some (.ref f))) (hf : isFn K (.ref f) = true)
    (h : wpAny (model prog w) A.in1 (call (.ref f) [.ref x, b]) (fun v s' => ∃ t, v = .bool t ∧ Q (.bool (!t)) s') E s) : wpAny (model prog w) A (call (.builtin "object.__ne__") [.ref x, b]) Q E s := by
  refine wpAny_call (codeAny_call_builtin PySem.F.slot_object_ne.plain PySem.F.entry_object_ne (check_slot (i := "object.__ne__") (owner := "object") (n := "__ne__") (by decide +kernel) (by decide +kernel) (I.type.andThen (looks_mroIn X hm)) (PySem.F.args_object_ne_2 _ _) ?_))
  unfold Builtin.«object.__ne__»
  refine wpAny_bind (m := slotArgs "__ne__" 1 _) (wpAny_pure ?_)
  refine wpAny_bind (m := cRoomFor _ _) (wpAny_cRoomFor hu ?_)
  refine wpAny_bind (m := callSpecialIfBound? (.ref x) (Str.ofString "__eq__") _) (ifBound_K X I hs hf (wpAny_mono h (fun r s' hq => ?_) fun _ _ y => y))
  obtain ⟨t, rfl, q⟩ := hq
  exact wpAny_bind (wpAny_truthy_bool (wpAny_pure q))
open PySem.W in
theorem cmp_ne {Q : Value → Shared → Prop} (hu0 : A.units < cLine) (hu : A.in1.units < cLine) (X : K.In s.heap) (I : InstAt s.heap x ox C od) (hb : Looks (model prog w) s.heap (typeOf b) tb) (hnf : notFirst K C tb = true)
    (hn : findIn K (.ref C) "__ne__" = some (some (.builtin "object.__ne__"))) (hm : mroIn K C (.type "object") = some true)
    (hs : findIn K (.ref C) "__eq__" = some (some (.ref f))) (hf : isFn K (.ref f) = true)
    (h : wpAny (model prog w) A.in1 (call (.ref f) [.ref x, b]) (fun v s' => ∃ t, v = .bool t ∧ Q (.bool (!t)) s') E s) : wpAny (model prog w) A (richCompare .NotEq (.ref x) b) Q E s := by
  have one : wpAny (model prog w) A (tryCompare (.ref x) "__ne__" b) (fun r s' => ∃ v, r = some v ∧ Q v s') E s := by
    unfold tryCompare
    refine wpAny_bind (ifBound_B X I hn PySem.F.slot_object_ne.bind (one_K hu X I hn hm hs hf (wpAny_mono h (fun v s' hv => ?_) fun _ _ e => e)))
    obtain ⟨t, rfl, q⟩ := hv
    exact ⟨t, rfl, wpAny_pure ⟨_, rfl, q⟩⟩
  unfold richCompare
  simp only [oneThing_ref]
  refine wpAny_holding (wpAny_bind (wpAny_cRoomFor hu0 ?_))
  rw [cmpInfo_NotEq]
  dsimp only
  refine wpAny_bind (I.type.here (wpAny_bind (hb.here ?_)))
  split
  · rename_i q
    have e : subIn K tb (.ref C) = some false := by
      rcases Bool.or_eq_true_iff.mp hnf with e | e
      · rw [beq_iff_eq.mp e] at q; simp at q
      · exact beq_iff_eq.mp e
    refine wpAny_bind ((looks_subIn X e).here ?_)
    simp only [Bool.false_eq_true, if_false]
    refine wpAny_bind (wpAny_mono one (fun r s' z => ?_) fun _ _ e => e)
    obtain ⟨v, rfl, hq⟩ := z
    exact wpAny_pure hq
  · refine wpAny_bind (wpAny_pure ?_)
    simp only [Bool.false_eq_true, if_false]
    refine wpAny_bind (wpAny_mono one (fun r s' z => ?_) fun _ _ e => e)
    obtain ⟨v, rfl, hq⟩ := z
    exact wpAny_pure hq
end
/-- the type of what it is compared with -/
inductive TyC (H : Hp) (C : Addr) : V → Value → Prop
  | ins {a dx : Addr} {fs : List (Str × V)} (h : H a = some (.ins C dx fs)) : TyC H C (.ref a) (.ref C)
  | tup {a : Addr} {xs : List V} (h : H a = some (.tup xs)) : TyC H C (.ref a) (.type "tuple")
  | str (x : Str) : TyC H C (.str x) (.type "str")
section
variable {X : Cx} {c : Bool} {k : Nat} {sp : Sp} {C f : Addr} {pins : List (Addr × Obj)} {σ : L2.St} {H : Hp} {s : Shared}
theorem TyC.tx {K : PySem.W.Frag} {y : V} {t : Value} (h : TyC H C y t) (o : OwC K C) (cl : Cls K C) : TyX K H y t := by
  cases h with
  | ins h => exact .base (.ins h cl o.cl o.gt o.tk o.ob)
  | tup h => exact .base (.tup h)
  | str x => exact .base (.str x)
theorem TyC.nf {K : PySem.W.Frag} {y : V} {t : Value} (h : TyC H C y t) (o : OwC K C) : PySem.W.notFirst K C t = true := by
  cases h with
  | ins h => exact notFirst_self
  | tup h => exact o.nt
  | str x => exact o.ns
theorem TyC.looks {y : V} {u t : Value} (h : TyC H C y t) (I : Inv X pins σ H s) (ry : RelV y u) : PySem.W.Looks (model X.prog X.w) s.heap (typeOf u) t := by
  cases h with
  | ins h =>
    obtain rfl : u = Value.ref _ := ry
    obtain ⟨mA, J, _⟩ := ins_get I.hok h
    obtain ⟨od, J, _⟩ := J.look
    exact J.type
  | tup h =>
    obtain rfl : u = Value.ref _ := ry
    obtain ⟨its, r, e, z⟩ := I.tuple (.inl (.inl h))
    obtain ⟨o, ho, hc, _⟩ := e
    exact fun A Q E s k q => wpAny_typeOf_ref (k _ _ ho) (by rw [hc]; exact q)
  | str x =>
    obtain ⟨t, rfl⟩ := ry
    exact PySem.W.Looks.of_pure rfl
/-- a call by a builtin's hand -/
theorem go_fnA {A : Around} {Q : VK} {us : List Value} {vs : List V} (hA : A.frames = X.A.frames) (G : Held c X.prog X.w X.K X.mg X.base k f sp) (hr : Rm c k A)
    (I : Inv X pins σ H s) (r : Vals vs us) (h : sp vs H Q E0) : wpAny (model X.prog X.w) A (call (.ref f) us) (EP X pins σ Q) X.xe s := by
  obtain ⟨fd, ps, ds, dvs, sp0, F, hb, hd, g⟩ := G
  have r2 : Vals (vs ++ dvs) (us ++ ds) := r.append hd
  have h0 := g vs H Q E0 h
  have hl : (us ++ ds).length = ps.length := by
    rw [← r2.length]
    exact F.len _ _ _ _ h0
  have e0 : Env0 X.prog X.w X.K X.mg X.base A X.stack s H := by
    have e := I.env0
    exact ⟨by rw [hA]; exact e.frames, e.mod, e.bs, e.bsz, e.funs, e.frf, e.hok, e.bare⟩
  have core := F.run A X.stack s H ⟨us, []⟩ (us ++ ds) (vs ++ dvs) Q E0 hr e0 (hb s us I.kIn hl) r2 h0
  refine wpAny_call (codeAny_mono core fun r s' hq => ?_)
  match r, hq with
  | .error e, hq => exact arr0 (X := X) (σ := σ) pins H s e s' I hq
  | .ok (.ret u), hq => exact I.after hq
  | .ok .next, hq => exact hq.elim
  | .ok .brk, hq => exact hq.elim
  | .ok .cont, hq => exact hq.elim
def rOwn (K : PySem.W.Frag) (C : Addr) (g : Bool → Bool) (sp : Sp) : R2 := fun x y H Q => ∃ a dx fs t, x = .ref a ∧ H a = some (.ins C dx fs) ∧ TyC H C y t ∧ sp [x, y] H (fun v H' => ∃ b, v = .bl b ∧ Q (.bl (g b)) H') E0
theorem op_ownEq (G : GM c X.prog X.w X.K X.mg X.base C "__eq__" k sp) (o : OwC X.K C) (hr : Rm c k X.A) : OpR X (compareOp .Eq) (rOwn X.K C id sp) := by
  intro pins s σ H x y v u Q I rx ry h
  obtain ⟨a, dx, fs, t, rfl, ha, ty, hsp⟩ := h
  obtain ⟨f, F, hm⟩ := G.ex
  obtain rfl : v = Value.ref a := rx
  obtain ⟨mA, J, _⟩ := ins_get I.hok ha
  obtain ⟨od, J, _⟩ := J.look
  obtain ⟨m, hF⟩ := I.fr
  show wpAny (model X.prog X.w) X.A (richCompare .Eq (.ref a) u) (EP X pins σ Q) X.xe s
  refine PySem.W.cmp_K (op := .Eq) (tb := t) (by have := hr.un; omega) hF I.ok.mod.kin J (ty.looks I ry) (ty.nf o) hm.at_ hm.fn (wpAny_mono (go_fn (us := [.ref a, u]) (vs := [.ref a, y]) F hr arr0 I (.cons rfl (.cons ry .nil)) hsp) (fun w s' hw => ?_) fun _ _ e => e)
  obtain ⟨z, H', I', rz, b, rfl, q⟩ := hw
  obtain rfl : w = Value.bool b := rz
  exact ⟨.bl b, H', I', rfl, q⟩
theorem op_ownNe (G : GM c X.prog X.w X.K X.mg X.base C "__eq__" k sp) (o : OwC X.K C) (hr : Rm c (k + 1) X.A) : OpR X (compareOp .NotEq) (rOwn X.K C not sp) := by
  intro pins s σ H x y v u Q I rx ry h
  obtain ⟨a, dx, fs, t, rfl, ha, ty, hsp⟩ := h
  obtain ⟨f, F, hm⟩ := G.ex
  obtain rfl : v = Value.ref a := rx
  obtain ⟨mA, J, _⟩ := ins_get I.hok ha
  obtain ⟨od, J, _⟩ := J.look
  show wpAny (model X.prog X.w) X.A (richCompare .NotEq (.ref a) u) (EP X pins σ Q) X.xe s
  refine cmp_ne (tb := t) (by have := hr.un; omega) (by have := hr.un; show X.A.units + 1 < _; omega) I.kIn J (ty.looks I ry) (ty.nf o) o.ne o.ob hm.at_ hm.fn (wpAny_mono (go_fnA (A := X.A.in1) (us := [.ref a, u]) (vs := [.ref a, y]) rfl F hr.in1 I (.cons rfl (.cons ry .nil)) hsp) (fun w s' hw => ?_) fun _ _ e => e)
  obtain ⟨z, H', I', rz, b, rfl, q⟩ := hw
  obtain rfl : w = Value.bool b := rz
  exact ⟨b, rfl, .bl (!b), H', I', rfl, q⟩
def rReprO (C : Addr) (sp : Sp) : List V → Hp → VK → Prop := fun xs H Q => ∃ a dx fs, xs = [.ref a] ∧ H a = some (.ins C dx fs) ∧ sp xs H (fun v H' => ∃ z, v = .str z ∧ Q (.str z) H') E0
theorem call_reprO (G : GM c X.prog X.w X.K X.mg X.base C "__repr__" k sp) (hr : Rm c (k + 1) X.A) : CallR X (.builtin "repr") (rReprO C sp) := by
  intro pins s σ H xs us Q I r h
  obtain ⟨a, dx, fs, rfl, ha, hsp⟩ := h
  obtain ⟨u, rfl, ru⟩ := vals1 r
  obtain rfl : u = Value.ref a := ru
  obtain ⟨f, F, hm⟩ := G.ex
  obtain ⟨mA, J, _⟩ := ins_get I.hok ha
  obtain ⟨od, J, _⟩ := J.look
  obtain ⟨m, hF⟩ := I.fr
  refine PySem.W.repr_K (by have := hr.un; show X.A.units + 1 < _; omega) hF I.ok.mod.kin J hm.at_ hm.fn (wpAny_mono (go_fnA (A := X.A.in1) (us := [.ref a]) (vs := [.ref a]) rfl F hr.in1 I (.cons rfl .nil) hsp) (fun w s' hw => ?_) fun _ _ e => e)
  obtain ⟨z, H', I', rz, t, rfl, q⟩ := hw
  obtain ⟨tk, rfl⟩ := rz
  exact ⟨.str t, H', I', ⟨tk, rfl⟩, q⟩
end
section
variable {K : PySem.W.Frag} {σ : L2.St} {H : Hp} {D : Ends} {Q : VK}
theorem rd_lstRg {te : L2.St → Hp → (Int → Int → Hp → Prop) → Prop} (h : te σ H fun a b H1 => RgOk a b ∧ ∀ q, H1 q = none → Q (.ref q) (upd H1 q (.lst (rgV a b)))) : tLstRg te σ H Q := h
theorem rd_rg2 {ta tb : TE} {R : Int → Int → Hp → Prop} (h : ta σ H fun x H1 => tb σ H1 fun y H2 => ∃ i j, x = .int i ∧ y = .int j ∧ R i j H2) : tRg2 ta tb σ H R := h
theorem rd_fmt {te : TE} (h : te σ H fun x H1 => (∃ y : Str, x = .str y ∧ y.length ≤ sizeLine ∧ Q (.str y) H1) ∨ ∃ i : Int, x = .int i ∧ i.natAbs.log2 < 1920 ∧ Q (.str (toString i)) H1) : tFmt te σ H Q := h
theorem rd_js {t : TE} {ts : List TE} {acc : Str} {R : Str → Hp → Prop} (h : t σ H fun x H1 => ∃ y : Str, x = .str y ∧ (acc ++ y).length ≤ sizeLine ∧ tJs ts (acc ++ y) σ H1 R) : tJs (t :: ts) acc σ H R := h
theorem rd_js0 {acc : Str} {R : Str → Hp → Prop} (h : R acc H) : tJs [] acc σ H R := h
end
end GL

namespace GL
open PySem PySem.Spec PyProof.Rows L2 Evl
/-! ## a layout -/
def lfs (s h : Int) : List (Str × V) := [("_slots", .int s), ("_homes", .int h)]
def LyAt (H : Hp) (C a : Addr) (s h : Int) : Prop := ∃ dx, H a = some (.ins C dx (lfs s h))
def tLy (C a : Addr) (s h : Int) : Th := ([a], fun H => LyAt H C a s h)
section
variable {K : PySem.W.Frag} {H0 H H' : Hp} {C a : Addr} {s h : Int} {ts : List Th}
theorem stb_ly : Stb (tLy C a s h) := fun G H H' ⟨dx, e⟩ m nt hd => ⟨dx, m _ _ e (hd a (List.mem_singleton.mpr rfl))⟩
theorem LyAt.exd (l : LyAt H C a s h) (e : Ex H H') : LyAt H' C a s h := let ⟨dx, g⟩ := l; ⟨dx, e _ _ g⟩
theorem LyAt.ne (l : LyAt H C a s h) : H a ≠ none := let ⟨dx, g⟩ := l; by rw [g]; simp
def lynames : List Str := ("_slots" : Str) :: ("_homes" : Str) :: []
theorem lfs_no {m : Str} (h : lynames.elem m = false) : (lfs s h').lookup m = none := by
  have h2 : ∀ y ∈ lynames, m ≠ y := fun y hy e => by
    subst e
    rw [List.elem_iff.mpr hy] at h
    cases h
  have n1 := h2 "_slots" (List.mem_of_getElem? (i := 0) rfl)
  have n2 := h2 "_homes" (List.mem_of_getElem? (i := 1) rfl)
  unfold lfs
  simp only [List.lookup, beq_eq_false_iff_ne.mpr n1, beq_eq_false_iff_ne.mpr n2]
theorem LyAt.self {Z : Prop} {m : Str} (l : LyAt H C a s h) (hm : lynames.elem m = false) (z : Z) : ∃ a' dx fs, V.ref a = .ref a' ∧ H a' = some (.ins C dx fs) ∧ fs.lookup m = none ∧ Z :=
  let ⟨dx, g⟩ := l; ⟨a, dx, _, rfl, g, lfs_no hm, z⟩
theorem LyAt.slots {Z : V → Prop} (l : LyAt H C a s h) (c : Cls K C) (n : NoAttr K C "_slots") (z : Z (.int s)) : ∃ a' C' dx fs v, V.ref a = .ref a' ∧ H a' = some (.ins C' dx fs) ∧ Cls K C' ∧ NoAttr K C' "_slots" ∧ fs.lookup ("_slots" : Str) = some v ∧ Z v :=
  let ⟨dx, g⟩ := l; ⟨a, C, dx, _, _, rfl, g, c, n, rfl, z⟩
theorem LyAt.homes {Z : V → Prop} (l : LyAt H C a s h) (c : Cls K C) (n : NoAttr K C "_homes") (z : Z (.int h)) : ∃ a' C' dx fs v, V.ref a = .ref a' ∧ H a' = some (.ins C' dx fs) ∧ Cls K C' ∧ NoAttr K C' "_homes" ∧ fs.lookup ("_homes" : Str) = some v ∧ Z v :=
  let ⟨dx, g⟩ := l; ⟨a, C, dx, _, _, rfl, g, c, n, rfl, z⟩
theorem Ws.layout (W : Ws H0 H ts) (e : Ex H H') (na : H a = none) (l : LyAt H' C a s h) : Ws H0 H' (ts ++ [tLy C a s h]) :=
  W.new e (fun b hb => by rw [List.mem_singleton.mp hb]; exact na) l stb_ly fun b hb => by rw [List.mem_singleton.mp hb]; exact l.ne
end
def badL (K : PySem.W.Frag) (t : Str) (H : Hp) (E : XK) : Prop := ∀ (H' : Hp) (d : Addr), Ex H H' → H d = none → H' d = some (.xd [("why", .str t)]) → E (.ref (He.ga K "BadLayout")) (some d) H'
section
variable (K : PySem.W.Frag) (C : Addr)
def spLyInit : Sp := fun vs H Q E => ∃ (a dx : Addr) (v w : V) (d e : PyData), vs = [.ref a, v, w] ∧ H a = some (.ins C dx []) ∧ Dq K H v d ∧ Dq K H w e ∧
  (betw d 8 64 = true → betw e 4 32 = true → ∀ H', LyAt H' C a (intOf d) (intOf e) → Mu [a] H H' → Q .non H') ∧
  (betw d 8 64 = false → badL K "slots" H E) ∧ (betw d 8 64 = true → betw e 4 32 = false → badL K "homes" H E)
def spLyGet (g : Int → Int → Int) : Sp := fun vs H Q _ => ∃ (a : Addr) (s h : Int), vs = [.ref a] ∧ LyAt H C a s h ∧ Q (.int (g s h)) H
def spLyBlk (g lim : Int → Int → Int) : Sp := fun vs H Q E => ∃ (a : Addr) (s h : Int) (v : V) (d : PyData), vs = [.ref a, v] ∧ LyAt H C a s h ∧ Dq K H v d ∧
  (betw d 0 (lim s h - 1) = true → Q (.int (g s h + intOf d)) H) ∧ (betw d 0 (lim s h - 1) = false → badC K "BadBlock" "block" v H E)
def spLyEq : Sp := fun vs H Q _ => ∃ (a : Addr) (s h : Int) (y : V), vs = [.ref a, y] ∧ LyAt H C a s h ∧
  ((∃ b s' h', y = .ref b ∧ LyAt H C b s' h' ∧ Q (.bl (decide (s = s') && decide (h = h'))) H) ∨ ∃ t, TyX K H y t ∧ PySem.W.kitOne K t (.ref C) = some false ∧ Q (.bl false) H)
def lyS (s h : Int) : Str := ((((Str.empty ++ ("Layout(" : Str)) ++ Str.ofString (toString s)) ++ (", " : Str)) ++ Str.ofString (toString h)) ++ (")" : Str)
def spLyRepr : Sp := fun vs H Q _ => ∃ (a : Addr) (s h : Int), vs = [.ref a] ∧ LyAt H C a s h ∧ s.natAbs < 1000 ∧ h.natAbs < 1000 ∧ Q (.str (lyS s h)) H
def tail0 : PyData := .tuple [.str "tail", .int 1, .int 0]
def spNewDisk (CD : Addr) : Sp := fun vs H Q _ => ∃ (a : Addr) (s h : Nat), vs = [.ref a] ∧ LyAt H C a (s : Nat) (h : Nat) ∧ s ≤ 64 ∧ h ≤ 32 ∧
  ∀ x F H', Ex H H' → (∀ b ∈ F, H b = none) → DiskAt K H' CD x F ((DS.new (List.replicate (1 + s + h) (.int 0))).wr 0 tail0).fl → Q (.ref x) H'
end
end GL

namespace GL
open PySem PySem.Spec PyProof.Rows L2 Evl
/-! ## whole numbers in a row -/
def rg (a : Int) (n : Nat) : List Int := (List.range n).map fun k : Nat => a + (k : Int)
theorem rg_succ (a : Int) (n : Nat) : rg a (n + 1) = rg a n ++ [a + n] := by unfold rg; rw [List.range_succ, List.map_append]; rfl
theorem rg_app (a : Int) (n : Nat) : ∀ m : Nat, rg a (n + m) = rg a n ++ rg (a + n) m
  | 0 => by simp [rg]
  | m + 1 => by
    rw [show n + (m + 1) = n + m + 1 from rfl, rg_succ, rg_app a n m, rg_succ, List.append_assoc]
    congr 3
    omega
theorem rg_len (a : Int) (n : Nat) : (rg a n).length = n := by unfold rg; rw [List.length_map, List.length_range]
theorem rg_V (a b : Int) : rgV a b = (rg a (b - a).toNat).map V.int := by unfold rgV rg; rw [List.map_map]; rfl
theorem rg_mem {a : Int} {n : Nat} {i : Int} (h : i ∈ rg a n) : a ≤ i ∧ i < a + n := by
  unfold rg at h
  obtain ⟨k, hk, rfl⟩ := List.mem_map.mp h
  have := List.mem_range.mp hk
  omega
theorem log_small {i : Int} (h : i.natAbs < 1000) : i.natAbs.log2 < 1920 := by
  by_cases z : i.natAbs = 0
  · rw [z]; decide
  · have := (Nat.log2_lt z).mpr (show i.natAbs < 2 ^ 10 by omega)
    omega
theorem int_len {i : Int} (h : i.natAbs < 1000) : (Str.ofString (toString i)).length ≤ 25 := shown_int25 (by omega)
theorem fit_app {x y : Str} {a b : Nat} (h : x.length ≤ a) (k : y.length ≤ b) : (x ++ y).length ≤ a + b := by rw [Str.length_append]; omega
theorem fit_ok {x : Str} {a : Nat} (h : x.length ≤ a) (k : a ≤ 100000) : x.length ≤ sizeLine := by rw [sizeLine_eq]; omega
/-! ## what a law does with a layout -/
section
variable (K : PySem.W.Frag) (C : Addr)
def spMade : Sp := fun vs H Q _ => ∃ (v w : V) (d e : PyData), vs = [v, w] ∧ Dq K H v d ∧ Dq K H w e ∧
  (betw d 8 64 = true → betw e 4 32 = true → ∀ a H', Ex H H' → H a = none → LyAt H' C a (intOf d) (intOf e) → Q (.ref a) H') ∧
  (betw d 8 64 = false → ∀ H', Ex H H' → Q (.str "slots") H') ∧ (betw d 8 64 = true → betw e 4 32 = false → ∀ H', Ex H H' → Q (.str "homes") H')
def limB (way s h : Int) : Int := if way = 0 then s else h
def spBadL : Sp := fun vs H Q _ => ∃ (a : Addr) (s h way : Int) (v : V) (d : PyData), vs = [.ref a, .int way, v] ∧ (way = 0 ∨ way = 1) ∧ LyAt H C a s h ∧ Dq K H v d ∧ Sh d ∧ betw d 0 (limB way s h - 1) = false ∧
  ∀ p H', H p = none → Ex H H' → H' p = some (.tup [.str d.shown, .int 1]) → Q (.ref p) H'
def spLies : Sp := fun vs H Q _ => ∃ (a : Addr) (s h : Nat), vs = [.ref a, .int (s : Nat), .int (h : Nat)] ∧ LyAt H C a (s : Nat) (h : Nat) ∧ s ≤ 64 ∧ h ≤ 32 ∧ ∀ H', Ex H H' → Q (.bl true) H'
end
end GL
namespace GL
open PySem PySem.Spec PyProof.Rows L2 Evl
section
variable {K : PySem.W.Frag} {H0 H H' : Hp} {C a b p : Addr} {s h s' h' : Int} {ts : List Th} {Q : VK} {E : XK} {g : Bool → Bool} {t : Bool}
theorem Ws.makeLy {x dx : Addr} (W : Ws H0 H ts) (s1 : 8 ≤ s) (s2 : s ≤ 64) (h1 : 4 ≤ h) (h2 : h ≤ 32) (nx : H x = none) (ndx : H dx = none) (hne : dx ≠ x)
    (k : ∀ H', Ws H0 H' (ts ++ [tLy C x s h]) → Ex H H' → Q .non H') : spLyInit K C [.ref x, .int s, .int h] (upd (upd H dx (.own x)) x (.ins C dx [])) Q E := by
  have e6 : Ex H (upd (upd H dx (.own x)) x (.ins C dx [])) := (Ex.new ndx).trans (Ex.new (by rw [upd_ne hne.symm]; exact nx))
  refine ⟨x, dx, .int s, .int h, .int s, .int h, rfl, upd_same, .inl (.int _), .inl (.int _), fun _ _ H1 l m => ?_, fun z => ?_, fun _ z => ?_⟩
  · have e7 : Ex H H1 := fun b o hb => m b o (e6 b o hb) (by simp; exact ne_of_none hb nx)
    exact k H1 (W.layout e7 nx l) e7
  · rw [betw_to s1 s2] at z; cases z
  · rw [betw_to h1 h2] at z; cases z
theorem LyAt.cmp (la : LyAt H C a s h) (lb : LyAt H C b s' h') (hb : g (decide (s = s') && decide (h = h')) = t) (q : Q (.bl t) H) : rOwn K C g (spLyEq K C) (.ref a) (.ref b) H Q := by
  obtain ⟨dx, ga⟩ := id la
  obtain ⟨dy, gb⟩ := id lb
  subst hb
  exact ⟨a, dx, _, _, rfl, ga, .ins gb, a, s, h, _, rfl, la, .inl ⟨b, s', h', rfl, lb, _, rfl, q⟩⟩
theorem LyAt.cmpT {xs : List V} (o : OwC K C) (la : LyAt H C a s h) (hp : H p = some (.tup xs)) (hb : g false = t) (q : Q (.bl t) H) : rOwn K C g (spLyEq K C) (.ref a) (.ref p) H Q := by
  obtain ⟨dx, ga⟩ := id la
  subst hb
  exact ⟨a, dx, _, _, rfl, ga, .tup hp, a, s, h, _, rfl, la, .inr ⟨_, .base (.tup hp), o.kt, _, rfl, q⟩⟩
theorem LyAt.cmpS {x : Str} (o : OwC K C) (la : LyAt H C a s h) (hb : g false = t) (q : Q (.bl t) H) : rOwn K C g (spLyEq K C) (.ref a) (.str x) H Q := by
  obtain ⟨dx, ga⟩ := id la
  subst hb
  exact ⟨a, dx, _, _, rfl, ga, .str x, a, s, h, _, rfl, la, .inr ⟨_, .base (.str x), o.ks, _, rfl, q⟩⟩
theorem LyAt.repr (la : LyAt H C a s h) (h1 : s.natAbs < 1000) (h2 : h.natAbs < 1000) (q : Q (.str (lyS s h)) H) : rReprO C (spLyRepr C) [.ref a] H Q := by
  obtain ⟨dx, ga⟩ := id la
  exact ⟨a, dx, _, rfl, ga, a, s, h, rfl, la, h1, h2, _, rfl, q⟩
theorem tail_s (n : Nat) : (List.replicate (1 + n) (PyData.int 0)).set 0 tail0 = tail0 :: List.replicate n (.int 0) := by
  rw [Nat.add_comm, List.replicate_succ]
  rfl
theorem tm_tail0 : Tm 1 63 tail0 := by
  refine (Tm.tuple (k := 0) (w := 20) (n := 3) (fun d hd => ?_) (by simp)).mono (by decide) (by decide)
  rcases List.mem_cons.mp hd with e | e
  · rw [e]; exact Tm.str (by decide +kernel) (by decide +kernel)
  rcases List.mem_cons.mp e with e | e
  · rw [e]; exact Tm.int (by decide)
  · rw [List.mem_singleton.mp e]; exact Tm.int (by decide)
end
end GL

namespace GL
open PySem PySem.Spec PyProof.Rows L2 Evl
/-! ## text times a number -/
def rRepS : R2 := fun x y H Q => ∃ z n, x = .str z ∧ y = .int n ∧ MulOk z n ∧ Q (.str (Txt.mul z n)) H
theorem op_repS {X : Cx} : OpR X (binaryOp .Mult) rRepS := by
  intro pins s σ H x y v u Q I rx ry h
  obtain ⟨z, n, rfl, rfl, ok, q⟩ := h
  obtain ⟨t, rfl⟩ := rx
  obtain ⟨t', rfl⟩ := ry
  exact SB.mul ok fun t' k => ⟨.str (Txt.mul z n), H, I.tok _, ⟨_, rfl⟩, q⟩
theorem fold_arr (l : List (Array Nat)) : ∀ acc : Array Nat, (l.foldl (· ++ ·) acc).toList = acc.toList ++ (l.map (·.toList)).flatten := by
  induction l with
  | nil => intro acc; simp
  | cons a l ih => intro acc; rw [List.foldl_cons, ih]; simp
theorem flat_len (c : List Nat) : ∀ n : Nat, (List.replicate n c).flatten.length = n * c.length
  | 0 => by simp
  | n + 1 => by rw [List.replicate_succ, List.flatten_cons, List.length_append, flat_len c n, Nat.add_mul, Nat.one_mul, Nat.add_comm]
theorem mul_size {x : Str} {n : Int} (h : 0 ≤ n) : (Txt.mul x n).cps.size ≤ n.toNat * x.cps.size := by
  unfold Txt.mul
  split
  · exact Nat.zero_le _
  · split
    · rename_i h1 h2
      exact Nat.le_mul_of_pos_left _ (by omega)
    · rw [← Array.length_toList]
      show ((List.replicate n.toNat x.cps).foldl (· ++ ·) #[]).toList.length ≤ _
      rw [fold_arr, List.map_replicate]
      show ([] ++ _ : List Nat).length ≤ _
      rw [List.nil_append, flat_len, Array.length_toList]
      exact Nat.le_refl _
theorem mul_ok {x : Str} {n : Int} (h : PyData.strOk x = true) : PyData.strOk (Txt.mul x n) = true := by
  unfold Txt.mul
  split
  · decide +kernel
  · split
    · exact h
    · unfold PyData.strOk at h ⊢
      rw [Array.all_eq_true_iff_forall_mem] at h ⊢
      intro c hc
      have h2 := Array.mem_toList_iff.mpr hc
      have h2 : c ∈ ((List.replicate n.toNat x.cps).foldl (· ++ ·) #[]).toList := h2
      rw [fold_arr, List.map_replicate] at h2
      obtain ⟨l, hl, hc2⟩ := List.mem_flatten.mp (show c ∈ (List.replicate n.toNat x.cps.toList).flatten from by simpa using h2)
      rw [List.eq_of_mem_replicate hl] at hc2
      exact h c (Array.mem_toList_iff.mp hc2)
theorem q_mul0 : ∀ k ∈ List.range 130, MulOk ("q" : Str) (k : Int) := by
  unfold MulOk
  decide +kernel
theorem q_mul {n : Int} (h0 : 0 ≤ n) (h1 : n < 130) : MulOk ("q" : Str) n ∧ PyData.strOk (Txt.mul ("q" : Str) n) = true ∧ (Txt.mul ("q" : Str) n).cps.size ≤ 130 := by
  obtain ⟨k, rfl⟩ : ∃ k : Nat, n = (k : Int) := ⟨n.toNat, by omega⟩
  refine ⟨q_mul0 k (List.mem_range.mpr (by omega)), mul_ok (by decide +kernel), ?_⟩
  have := mul_size (x := ("q" : Str)) h0
  have e : ("q" : Str).cps.size = 1 := by decide +kernel
  rw [e] at this
  omega
/-! ## a law's own record of a disk: a dict of three lists -/
section
variable {K : PySem.W.Frag} {σ : L2.St} {H : Hp} {D : Ends} {Q : VK}
theorem rd_dget {td ty : TE} (h : td σ H fun x H1 => ty σ H1 fun y H2 => ∃ a v, x = .ref a ∧ DGet H2 a y (some v) ∧ Q v H2) : tDGet td ty σ H Q := h
theorem rd_dput {td ty tv : TE} (h : tv σ H fun v H1 => td σ H1 fun x H2 => ty σ H2 fun y H3 => ∃ a H4, x = .ref a ∧ DPut H3 a y v H4 ∧ D.nx σ H4) : sDPut td ty tv D σ H := h
theorem rd_disp {trs : List (TE × TE)} (h : ∀ p, H p = none → tPairs trs σ (upd H p (.dK [])) fun ps H2 => H2 p = some (.dK []) ∧ ∃ kvs : List (Key × V), ps = kvs.map (fun kv => (kV kv.1, kv.2)) ∧ kvs.length ≤ 15 ∧ Q (.ref p) (upd H2 p (.dK (mergeK [] kvs)))) : tDisp trs σ H Q := h
theorem rd_pairs {tk tv : TE} {r : List (TE × TE)} {R : List (V × V) → Hp → Prop} (h : tk σ H fun x H1 => tv σ H1 fun y H2 => tPairs r σ H2 fun ps H3 => R ((x, y) :: ps) H3) : tPairs ((tk, tv) :: r) σ H R := h
theorem rd_pairs0 {R : List (V × V) → Hp → Prop} (h : R [] H) : tPairs [] σ H R := h
end
def mkv (ps pp pe : Addr) : List (Key × V) := [(.inr ("safe" : Str), .ref ps), (.inr ("pending" : Str), .ref pp), (.inr ("events" : Str), .ref pe)]
section
variable {K : PySem.W.Frag} {H H' : Hp} {pm ps pp pe p : Addr} {D : DS} {F G : List Addr} {Z : V → Prop}
theorem kne1 : ¬ (Sum.inr ("safe" : Str) : Key) = .inr ("pending" : Str) := by decide +kernel
theorem kne2 : ¬ (Sum.inr ("safe" : Str) : Key) = .inr ("events" : Str) := by decide +kernel
theorem kne3 : ¬ (Sum.inr ("pending" : Str) : Key) = .inr ("events" : Str) := by decide +kernel
theorem kne4 : ¬ (Sum.inr ("events" : Str) : Key) = .inr ("pending" : Str) := by decide +kernel
theorem mkv_s : valV (mkv ps pp pe) (.inr ("safe" : Str)) = some (.ref ps) := valV_pos rfl
theorem mkv_p : valV (mkv ps pp pe) (.inr ("pending" : Str)) = some (.ref pp) := (valV_neg kne1).trans (valV_pos rfl)
theorem mkv_e : valV (mkv ps pp pe) (.inr ("events" : Str)) = some (.ref pe) := (valV_neg kne2).trans ((valV_neg kne3).trans (valV_pos rfl))
theorem mkv_put : putK (mkv ps pp pe) (.inr ("pending" : Str)) (.ref p) = mkv ps p pe := by
  unfold putK mkv
  simp only [List.any_cons, List.any_nil, List.map_cons, List.map_nil, decide_eq_false kne1, decide_eq_false kne4, if_neg kne1, if_neg kne4, decide_true, if_true, Bool.false_or, Bool.true_or]
theorem dget_s (g : H pm = some (.dK (mkv ps pp pe))) (q : Z (.ref ps)) : ∃ a v, V.ref pm = .ref a ∧ DGet H a (.str "safe") (some v) ∧ Z v := ⟨pm, _, rfl, by have := DGet.k (k := .inr ("safe" : Str)) g; rw [mkv_s] at this; exact this, q⟩
theorem dget_p (g : H pm = some (.dK (mkv ps pp pe))) (q : Z (.ref pp)) : ∃ a v, V.ref pm = .ref a ∧ DGet H a (.str "pending") (some v) ∧ Z v := ⟨pm, _, rfl, by have := DGet.k (k := .inr ("pending" : Str)) g; rw [mkv_p] at this; exact this, q⟩
theorem dget_e (g : H pm = some (.dK (mkv ps pp pe))) (q : Z (.ref pe)) : ∃ a v, V.ref pm = .ref a ∧ DGet H a (.str "events") (some v) ∧ Z v := ⟨pm, _, rfl, by have := DGet.k (k := .inr ("events" : Str)) g; rw [mkv_e] at this; exact this, q⟩
theorem dput_p {R : Hp → Prop} (g : H pm = some (.dK (mkv ps pp pe))) (q : R (upd H pm (.dK (mkv ps p pe)))) : ∃ a H4, V.ref pm = .ref a ∧ DPut H a (.str "pending") (.ref p) H4 ∧ R H4 :=
  ⟨pm, _, rfl, by have := DPut.k (k := .inr ("pending" : Str)) (v := .ref p) g (by rw [sizeLine_eq]; show 3 < 16777216; decide); rw [mkv_put] at this; exact this, q⟩
structure MAt (K : PySem.W.Frag) (H : Hp) (pm : Addr) (F : List Addr) (D : DS) : Prop where
  ex : ∃ (ps pp pe : Addr) (xs xp xe : List V), F = [pm, ps, pp, pe] ∧ Ob H [(pm, .dK (mkv ps pp pe)), (ps, .lst xs), (pp, .lst xp), (pe, .lst xe)] ∧ DpAll K H xs D.s ∧ DpAll K H xp D.w ∧ DpAll K H xe D.d
  ok : D.Ok
theorem MAt.exd (h : MAt K H pm F D) (e : Ex H H') : MAt K H' pm F D := by
  obtain ⟨⟨ps, pp, pe, xs, xp, xe, hF, O, d1, d2, d3⟩, ok⟩ := h
  exact ⟨⟨ps, pp, pe, xs, xp, xe, hF, O.ex e, dpAll_ex e _ _ d1, dpAll_ex e _ _ d2, dpAll_ex e _ _ d3⟩, ok⟩
theorem MAt.mu (h : MAt K H pm F D) (m : Mu G H H') (nt : NT G H) (hd : ∀ b ∈ F, b ∉ G) : MAt K H' pm F D := by
  obtain ⟨⟨ps, pp, pe, xs, xp, xe, hF, O, d1, d2, d3⟩, ok⟩ := h
  subst hF
  refine ⟨⟨ps, pp, pe, xs, xp, xe, rfl, O.mu m fun q hq => hd q.1 ?_, dpAll_mu m nt _ _ ok.ns d1, dpAll_mu m nt _ _ ok.nw d2, dpAll_mu m nt _ _ ok.nd d3⟩, ok⟩
  have z : q.1 ∈ ([(pm, .dK (mkv ps pp pe)), (ps, .lst xs), (pp, .lst xp), (pe, .lst xe)] : List (Addr × HO)).map (·.1) := List.mem_map_of_mem hq
  exact z
theorem MAt.nt (h : MAt K H pm F D) : NT F H := by
  obtain ⟨⟨ps, pp, pe, xs, xp, xe, hF, O, _⟩, ok⟩ := h
  subst hF
  intro b hb xs hr
  have no : ∀ (o : HO), H b = some o → (∀ y, o ≠ .tup y) → (∀ z y, o ≠ .frz z y) → False := fun o h n1 n2 => by
    rcases hr with q | ⟨z, q⟩
    · rw [h] at q; exact n1 _ (Option.some.inj q)
    · rw [h] at q; exact n2 _ _ (Option.some.inj q)
  simp only [List.mem_cons, List.not_mem_nil, or_false] at hb
  rcases hb with rfl | rfl | rfl | rfl
  · exact no _ (O.get 0) (fun _ z => by cases z) fun _ _ z => by cases z
  · exact no _ (O.get 1) (fun _ z => by cases z) fun _ _ z => by cases z
  · exact no _ (O.get 2) (fun _ z => by cases z) fun _ _ z => by cases z
  · exact no _ (O.get 3) (fun _ z => by cases z) fun _ _ z => by cases z
theorem MAt.mem (h : MAt K H pm F D) : ∀ b ∈ F, H b ≠ none := by
  obtain ⟨⟨ps, pp, pe, xs, xp, xe, hF, O, _⟩, ok⟩ := h
  subst hF
  intro b hb
  simp only [List.mem_cons, List.not_mem_nil, or_false] at hb
  rcases hb with rfl | rfl | rfl | rfl
  · rw [O.get 0]; simp
  · rw [O.get 1]; simp
  · rw [O.get 2]; simp
  · rw [O.get 3]; simp
def tM (K : PySem.W.Frag) (pm : Addr) (F : List Addr) (D : DS) : Th := (F, fun H => MAt K H pm F D)
theorem stb_m : Stb (tM K pm F D) := fun G H H' h m nt hd => MAt.mu h m nt hd
end
/-! ## a step, what is due for it -/
inductive Stp where
  | fl
  | rd (v : V) (d : PyData)
  | wr (v u : V) (d e : PyData)
structure Sh2 (d : PyData) : Prop extends Sh d where
  ts : Tm 0 30 (.str d.shown)
def Stp.at_ (K : PySem.W.Frag) (H : Hp) (p : Addr) : Stp → Prop
  | .fl => H p = some (.tup [.str "flush"])
  | .rd v d => H p = some (.tup [.str "read", v]) ∧ Dq K H v d ∧ Sh2 d
  | .wr v u d e => H p = some (.tup [.str "write", v, u]) ∧ Dq K H v d ∧ Sh2 d ∧ Dq K H u e
def rBlk (d : PyData) : PyData := .tuple [.str "block", .str d.shown]
def Stp.res (D : DS) : Stp → PyData
  | .fl => .none
  | .rd _ d => if blk D d = true then .tuple [.str "value", (D.n[(intOf d).toNat]?).getD .none] else rBlk d
  | .wr _ _ d e => if blk D d = true then (if valOk 8 e = true then .none else .str "bad value") else rBlk d
def Stp.chg (D : DS) : Stp → Bool
  | .fl => true
  | .rd _ _ => false
  | .wr _ _ d e => blk D d && valOk 8 e
def Stp.to (D : DS) : Stp → DS
  | .fl => D.fl
  | .rd _ _ => D
  | .wr _ _ d e => if blk D d = true then (if valOk 8 e = true then D.wr (intOf d) e else D) else D
def Stp.good : Stp → Bool
  | .fl => true
  | .rd _ _ => true
  | .wr _ _ _ e => valOk 8 e
theorem Stp.exd {K : PySem.W.Frag} {H H' : Hp} {p : Addr} (e : Ex H H') : ∀ {st : Stp}, st.at_ K H p → st.at_ K H' p
  | .fl, h => e _ _ h
  | .rd _ _, h => ⟨e _ _ h.1, dq_ex e h.2.1, h.2.2⟩
  | .wr _ _ _ _, h => ⟨e _ _ h.1, dq_ex e h.2.1, h.2.2.1, dq_ex e h.2.2.2⟩
theorem Stp.mu {K : PySem.W.Frag} {H H' : Hp} {p : Addr} {F : List Addr} {D : DS} (m : Mu F H H') (nt : NT F H) (np : p ∉ F) : ∀ {st : Stp}, st.chg D = true → st.at_ K H p → st.at_ K H' p
  | .fl, _, h => m _ _ h np
  | .rd _ _, c, _ => by cases c
  | .wr v u d e, c, h => by
    have c : (blk D d && valOk 8 e) = true := c
    obtain ⟨c1, c2⟩ := Bool.and_eq_true_iff.mp c
    obtain ⟨i, rfl, _⟩ := betw_of c1
    obtain ⟨h1, h2, h3, h4⟩ := h
    obtain rfl := dq_int h2
    exact ⟨m _ _ h1 np, .inl (.int _), h3, .inl (dp_mu m nt _ _ (valOk_noL 8 _ c2) (dq_dp h4 fun kvs z => by rw [z] at c2; simp [valOk] at c2))⟩
section
variable (K : PySem.W.Frag) (C : Addr)
def spTold1 : Sp := fun vs H Q _ => ∃ (a p : Addr) (F : List Addr) (D : DS) (st : Stp), vs = [.ref a, .ref p] ∧ DiskAt K H C a F D ∧ st.at_ K H p ∧ D.d.length ≤ 50000 ∧
  (st.chg D = true → ∀ H' F', DiskAt K H' C a F' (st.to D) → Fr F F' H H' → Q .non H') ∧
  (st.chg D = false → ∀ r H', Ex H H' → Dp K H' r (st.res D) → Q r H')
def spDone : Sp := fun vs H Q _ => ∃ (pm p : Addr) (F : List Addr) (D : DS) (st : Stp), vs = [.ref pm, .ref p, .bl st.good] ∧ MAt K H pm F D ∧ st.at_ K H p ∧ p ∉ F ∧ D.n = setAll D.s D.w ∧ D.d.length ≤ 1000 ∧ D.w.length ≤ 1000 ∧
  (st.chg D = true → ∀ H' F', MAt K H' pm F' (st.to D) → Fr F F' H H' → Q .non H') ∧
  (st.chg D = false → ∀ r H', Ex H H' → Dp K H' r (st.res D) → Q r H')
end
end GL
namespace GL
open PySem PySem.Spec PyProof.Rows L2 Evl
section
variable {X : Cx} {c : Bool} {k : Nat} {pn : List (Addr × Obj)} {xe : Value → Shared → Prop}
theorem ix_seqT : IxR (X.tr pn xe) (rIx X.K) := ix_seq
theorem call_reprT (hr : Rm c k X.A) : CallR (X.tr pn xe) (.builtin "repr") (rRepr X.K) := call_reprD (X := X.tr pn xe) hr
theorem call_isiT : CallR (X.tr pn xe) (.builtin "isinstance") (rIsi X.K) := call_isi
theorem call_lenT : CallR (X.tr pn xe) (.builtin "len") (rLenU X.K) := call_lenU
theorem op_eqT (hr : Rm c k X.A) : OpR (X.tr pn xe) (compareOp .Eq) (rEqU X.K) := op_eqU (X := X.tr pn xe) hr.u64
theorem op_neT (hr : Rm c k X.A) : OpR (X.tr pn xe) (compareOp .NotEq) (rNeU X.K) := op_neU (X := X.tr pn xe) hr.u64
end
end GL

namespace GL
open PySem PySem.Spec PyProof.Rows L2 Evl
/-! ## the newest value of a block: the last one that waits for it, or the durable one -/
def pick (i : Int) (x : PyData) : List PyData := match x with
  | .tuple [.int b, v] => if b = i then [v] else []
  | _ => []
def sel (i : Int) (w : List PyData) : List PyData := (w.map (pick i)).flatten
theorem sel_take {i : Int} {w : List PyData} {j : Nat} {x : PyData} (h : w[j]? = some x) : sel i (w.take (j + 1)) = sel i (w.take j) ++ pick i x := by
  unfold sel
  rw [List.take_succ, h, Option.toList_some, List.map_append, List.flatten_append]
  simp
theorem pick_pW (i b : Int) (v : PyData) : pick i (pW b v) = if b = i then [v] else [] := rfl
theorem last_sel {size : Nat} {i : Int} (i0 : 0 ≤ i) : ∀ (w s : List PyData) (x : PyData), (∀ y ∈ w, isB size y) → s[i.toNat]? = some x → (x :: sel i w).getLast? = (setAll s w)[i.toNat]?
  | [], s, x, _, h => by
    show ([x] : List PyData).getLast? = s[i.toNat]?
    rw [h]; rfl
  | y :: w, s, x, hw, h => by
    obtain ⟨b, v, rfl, b0, b1, hv⟩ := hw y List.mem_cons_self
    have e : sel i (pW b v :: w) = (if b = i then [v] else []) ++ sel i w := rfl
    have e2 : setAll s (pW b v :: w) = setAll (s.set b.toNat v) w := rfl
    rw [e, e2]
    have hl : i.toNat < s.length := (List.getElem?_eq_some_iff.mp h).1
    by_cases z : b = i
    · subst z
      rw [if_pos rfl]
      show (x :: v :: sel b w).getLast? = _
      rw [List.getLast?_cons_cons]
      exact last_sel i0 w _ v (fun y hy => hw y (List.mem_cons_of_mem _ hy)) (by rw [List.getElem?_set, if_pos rfl, if_pos hl])
    · rw [if_neg z, List.nil_append]
      exact last_sel i0 w _ x (fun y hy => hw y (List.mem_cons_of_mem _ hy)) (by rw [List.getElem?_set, if_neg (by omega)]; exact h)
theorem da_last {K : PySem.W.Frag} {H : Hp} : ∀ {vs : List V} {ds : List PyData} (h : vs ≠ []), DpAll K H vs ds → ∃ e, ds.getLast? = some e ∧ Dp K H (vs.getLast h) e
  | [], _, h, _ => absurd rfl h
  | [v], ds, _, d => by
    cases d with
    | cons h1 h2 => cases h2; exact ⟨_, rfl, h1⟩
  | v :: u :: vs, ds, _, d => by
    cases d with
    | cons h1 h2 =>
      cases h2 with
      | cons h3 h4 =>
        obtain ⟨e, h5, h6⟩ := da_last (vs := u :: vs) (List.cons_ne_nil _ _) (.cons h3 h4)
        exact ⟨e, by rw [List.getLast?_cons_cons]; exact h5, by rw [List.getLast_cons (List.cons_ne_nil _ _)]; exact h6⟩
theorem setAll_len {size : Nat} : ∀ (w s : List PyData), (∀ x ∈ w, isB size x) → (setAll s w).length = s.length
  | [], s, _ => rfl
  | x :: w, s, h => by
    obtain ⟨b, v, rfl, _⟩ := h x List.mem_cons_self
    show (setAll (s.set b.toNat v) w).length = _
    rw [setAll_len w _ fun y hy => h y (List.mem_cons_of_mem _ hy), List.length_set]
end GL
namespace GL
open PySem PySem.Spec PyProof.Rows L2 Evl
theorem sel_ok {size : Nat} {i : Int} {w : List PyData} (h : ∀ x ∈ w, isB size x) : valOkAll 8 (sel i w) = true := valOkAll_iff.mpr fun d hd => by
  unfold sel at hd
  obtain ⟨l, hl, hd⟩ := List.mem_flatten.mp hd
  obtain ⟨x, hx, rfl⟩ := List.mem_map.mp hl
  obtain ⟨b, v, rfl, _, _, hv⟩ := h x hx
  rw [pick_pW] at hd
  split at hd
  · rw [List.mem_singleton.mp hd]; exact hv
  · cases hd
def notTup : HO → Bool
  | .tup _ => false
  | .frz _ _ => false
  | _ => true
theorem Ob.nt {H : Hp} {l : List (Addr × HO)} (O : Ob H l) (h : l.all (fun q => notTup q.2) = true) : NT (l.map (·.1)) H := fun b hb xs hr => by
  obtain ⟨q, hq, rfl⟩ := List.mem_map.mp hb
  have e := O.at_ q hq
  have n := List.all_eq_true.mp h q hq
  rcases hr with z | ⟨o, z⟩ <;> rw [e] at z <;> rw [Option.some.inj z] at n <;> cases n
theorem Ob.newX {H H2 : Hp} {l : List (Addr × HO)} {q : Addr} {o : HO} (O : Ob H l) (e : Ex H H2) (nq : H q = none) (gq : H2 q = some o) : Ob H2 (l ++ [(q, o)]) := by
  have hne : ∀ z ∈ l, z.1 ≠ q := fun z hz => ne_of_none (O.at_ z hz) nq
  refine ⟨fun z hz => ?_, ?_⟩
  · rcases List.mem_append.mp hz with y | y
    · exact e _ _ (O.at_ z y)
    · cases List.mem_singleton.mp y
      exact gq
  · rw [List.map_append, List.nodup_append]
    refine ⟨O.nd, by simp, fun x hx y hy => ?_⟩
    obtain ⟨z, hz, rfl⟩ := List.mem_map.mp hx
    have : y = q := by simpa using hy
    subst this
    exact hne z hz
theorem Mu.sub {F G : List Addr} {H H' : Hp} (m : Mu F H H') (h : ∀ b ∈ F, b ∈ G) : Mu G H H' := fun b o hb hn => m b o hb fun z => hn (h b z)
end GL
namespace GL
open PySem PySem.Spec PyProof.Rows L2 Evl
section
variable {X : Cx} {s : Shared} {H : Hp} {sc : Scope} {env : Env} {fp : List Addr} {c : Bool} {k : Nat}
theorem pg_tupB {es : List Expr} {j : Nat} {t : TGs} {n : Nat} {pos : Pos} (hc : X.calm = true) (h : PGs (X.blk s H sc env fp) es t)
    (hn : (assignEach es (X.blk s H sc env fp).env).length = n := by rfl) (hst : (assignEach es (X.blk s H sc env fp).env).findIdx? (·.1) = none := by rfl) : PG (X.blk s H sc env fp) (.Tuple es j pos) (gTup X.K n t) :=
  pg_tup (X := X.blk s H sc env fp) hc h hn hst
theorem ix_seqB : IxR (X.blk s H sc env fp) (rIx X.K) := ix_seq
theorem op_eqB (hr : Rm c k X.A) : OpR (X.blk s H sc env fp) (compareOp .Eq) (rEqU X.K) := op_eqU (X := X.blk s H sc env fp) hr.u64
theorem op_neB (hr : Rm c k X.A) : OpR (X.blk s H sc env fp) (compareOp .NotEq) (rNeU X.K) := op_neU (X := X.blk s H sc env fp) hr.u64
theorem call_lenB : CallR (X.blk s H sc env fp) (.builtin "len") (rLenU X.K) := call_lenU
theorem call_isiB : CallR (X.blk s H sc env fp) (.builtin "isinstance") (rIsi X.K) := call_isi
theorem call_reprB (hr : Rm c k X.A) : CallR (X.blk s H sc env fp) (.builtin "repr") (rRepr X.K) := call_reprD (X := X.blk s H sc env fp) hr
end
end GL

namespace GL
open PySem PySem.Spec PyProof.Rows L2 Evl
/-! ## how much a disk's data weighs -/
theorem wt_app : ∀ (a b : List PyData), PyData.weightAll (a ++ b) = PyData.weightAll a + PyData.weightAll b
  | [], b => by simp [PyData.weightAll]
  | x :: a, b => by simp only [List.cons_append, PyData.weightAll, wt_app a b]; omega
theorem wt_one (x : PyData) : PyData.weightAll [x] = x.weight + 1 := by simp only [PyData.weightAll]
theorem wt_set : ∀ (a : List PyData) (i : Nat) (x : PyData), PyData.weightAll (a.set i x) ≤ PyData.weightAll a + x.weight
  | [], i, x => by simp [PyData.weightAll]
  | y :: a, 0, x => by simp only [List.set_cons_zero, PyData.weightAll]; omega
  | y :: a, i + 1, x => by have := wt_set a i x; simp only [List.set_cons_succ, PyData.weightAll]; omega
theorem wt_pW (b : Int) (v : PyData) : (pW b v).weight = (PyData.int b).weight + 1 + (v.weight + 1) := by simp only [pW, PyData.weight, PyData.weightAll]
theorem wt_setAll {size : Nat} : ∀ (w s : List PyData), (∀ x ∈ w, isB size x) → PyData.weightAll (setAll s w) ≤ PyData.weightAll s + PyData.weightAll w
  | [], s, _ => by simp [setAll, PyData.weightAll]
  | x :: w, s, h => by
    obtain ⟨b, v, rfl, _⟩ := h x List.mem_cons_self
    have e : setAll s (pW b v :: w) = setAll (s.set b.toNat v) w := rfl
    have h1 := wt_setAll w (s.set b.toNat v) fun y hy => h y (List.mem_cons_of_mem _ hy)
    have h2 := wt_set s b.toNat v
    have h3 := wt_pW b v
    rw [e]
    simp only [PyData.weightAll]
    omega
structure Dw (n : Nat) (D : DS) : Prop where
  dv : Dv 3 n D
  hs : D.n = setAll D.s D.w
  w1 : PyData.weightAll D.s + PyData.weightAll D.w ≤ 2688 + 3600 * n
  w2 : PyData.weightAll D.d ≤ 3600 * n
section
variable {n n' : Nat} {D : DS} {b : Int} {v : PyData}
theorem Dw.up (h : Dw n D) (z : n ≤ n') : Dw n' D := ⟨h.dv.up z, h.hs, by have := h.w1; omega, by have := h.w2; omega⟩
theorem Dw.new {size : Nat} (h : size ≤ 128) : Dw 0 (DS.new (List.replicate size (.int 0))) := by
  have t : ∀ d ∈ List.replicate size (PyData.int 0), Tm 0 20 d := fun d hd => by rw [List.eq_of_mem_replicate hd]; exact Tm.int (by decide)
  refine ⟨Dv.new fun y hy => by rw [List.eq_of_mem_replicate hy]; exact (Vd.int (by decide)).up (Nat.zero_le _), rfl, ?_, by show PyData.weightAll [] ≤ _; simp [PyData.weightAll]⟩
  have := (tm_all t).2.2.2.2
  rw [List.length_replicate] at this
  show PyData.weightAll (List.replicate size (.int 0)) + PyData.weightAll [] ≤ _
  have e : PyData.weightAll [] = 0 := by simp [PyData.weightAll]
  omega
theorem Dw.wr (h : Dw n D) (hb : b.natAbs < 1000) (hv : Vd 3 v) : Dw (n + 1) (D.wr b v) := by
  have w3 : wtV 3 = 3549 := by decide
  have a1 := hv.tm.wt
  rw [w3] at a1
  have a2 := (Tm.int (i := b) (by omega)).wt
  have a3 : (PyData.str ("write" : Str)).weight ≤ 20 := (Tm.str (n := 20) (by decide +kernel) (by decide +kernel)).wt
  have p1 := wt_pW b v
  have p2 : (eW b v).weight = (PyData.str ("write" : Str)).weight + 1 + ((PyData.int b).weight + 1 + (v.weight + 1)) := by simp only [eW, PyData.weight, PyData.weightAll]
  refine ⟨h.dv.wr hb hv, ?_, ?_, ?_⟩
  · show D.n.set b.toNat v = setAll D.s (D.w ++ [pW b v])
    rw [setAll_snoc, h.hs]
  · show PyData.weightAll D.s + PyData.weightAll (D.w ++ [pW b v]) ≤ _
    rw [wt_app, wt_one]
    have := h.w1
    omega
  · show PyData.weightAll (D.d ++ [eW b v]) ≤ _
    rw [wt_app, wt_one]
    have := h.w2
    omega
theorem Dw.fl (h : Dw n D) (ok : D.Ok) : Dw (n + 1) D.fl := by
  refine ⟨h.dv.fl, rfl, ?_, ?_⟩
  · show PyData.weightAll D.n + PyData.weightAll [] ≤ _
    have e : PyData.weightAll [] = 0 := by simp [PyData.weightAll]
    rw [h.hs]
    have := wt_setAll D.w D.s ok.bw
    have := h.w1
    omega
  · show PyData.weightAll (D.d ++ [eF]) ≤ _
    rw [wt_app, wt_one]
    have a := (tm_eF (k := 1) (w := 30) (by decide) (by decide)).wt
    have := h.w2
    omega
theorem Dw.to (h : Dw n D) (ok : D.Ok) : ∀ {st : Stp}, st.chg D = true → (∀ v u d e, st = .wr v u d e → Vd 3 e) → Dw (n + 1) (st.to D)
  | .fl, _, _ => h.fl ok
  | .rd _ _, c, _ => by cases c
  | .wr v u d e, c, hv => by
    have c : (blk D d && valOk 8 e) = true := c
    obtain ⟨c1, c2⟩ := Bool.and_eq_true_iff.mp c
    obtain ⟨i, rfl, i0, i1⟩ := betw_of c1
    show Dw (n + 1) (if blk D (.int i) = true then (if valOk 8 e = true then D.wr (intOf (.int i)) e else D) else D)
    rw [if_pos c1, if_pos c2]
    have := ok.hi
    exact h.wr (by show i.natAbs < 1000; omega) (hv _ _ _ _ rfl)
end
theorem Stp.same {D : DS} : ∀ {st : Stp}, st.chg D = false → st.to D = D
  | .fl, c => by cases c
  | .rd _ _, _ => rfl
  | .wr v u d e, c => by
    have c : (blk D d && valOk 8 e) = false := c
    show (if blk D d = true then (if valOk 8 e = true then D.wr (intOf d) e else D) else D) = D
    by_cases h1 : blk D d = true
    · rw [if_pos h1, if_neg (fun h2 => by rw [h1, h2] at c; cases c)]
    · rw [if_neg h1]
theorem Stp.to_f {D : DS} : ∀ {st : Stp}, (st.to D).f = D.f
  | .fl => rfl
  | .rd _ _ => rfl
  | .wr v u d e => by
    show (if blk D d = true then (if valOk 8 e = true then D.wr (intOf d) e else D) else D).f = D.f
    split
    · split <;> rfl
    · rfl
theorem tm_exact {k w : Nat} {ds : List PyData} (h : ∀ d ∈ ds, Tm k w d) : Tm (k + 1) (PyData.weightAll ds) (.list ds) := by
  obtain ⟨a, b, c, e, f⟩ := tm_all h
  refine ⟨by simpa [PyData.canLay0] using a, by simpa [PyData.intsShort] using b, by simpa [PyData.showable] using c, by simp only [PyData.depth]; omega, ?_⟩
  simp only [PyData.weight]
  exact Nat.le_refl _
def seen4 (D : DS) : PyData := .list [.list D.w, .list D.s, .list D.d, .int (D.f.length : Nat)]
def seen3w (D : DS) : PyData := .list [.list D.w, .list D.s, .list D.d]
section
variable {n : Nat} {D : DS}
theorem Dv.t3 (h : Dv 3 n D) : (∀ x ∈ D.w, Tm 4 10000 x) ∧ (∀ x ∈ D.s, Tm 4 10000 x) ∧ (∀ x ∈ D.d, Tm 4 20000 x) := by
  have w3 : wtV 3 ≤ 3549 := by decide
  refine ⟨fun x hx => ?_, fun x hx => (h.vs x hx).tm.mono (by decide) (Nat.le_trans w3 (by decide)), fun x hx => ?_⟩
  · obtain ⟨b, v, rfl, hb, hv⟩ := h.vw x hx
    exact (tm_pW (by omega) (hv.tm.mono (Nat.le_refl _) w3) (by decide)).mono (by decide) (by decide)
  · rcases h.vd x hx with ⟨b, v, rfl, hb, hv⟩ | rfl
    · exact (tm_eW (by omega) (hv.tm.mono (Nat.le_refl _) w3) (by decide)).mono (by decide) (by decide)
    · exact tm_eF (by decide) (by decide)
theorem Dw.t4 (h : Dw 61 D) (hl : D.f.length ≤ 128) : Tm 6 600000 (seen4 D) ∧ Tm 6 600000 (seen3w D) := by
  obtain ⟨tw, ts, td⟩ := h.dv.t3
  have a := tm_exact tw
  have b := tm_exact ts
  have c := tm_exact td
  have d := (Tm.int (i := (D.f.length : Nat)) (by omega)).mono (k' := 5) (w' := 20) (by decide) (by decide)
  have h1 := h.w1
  have h2 := h.w2
  refine ⟨⟨?_, ?_, ?_, ?_, ?_⟩, (tm_list3w a b c).mono (by decide) (by omega)⟩
  · simp [seen4, PyData.canLay0, PyData.canLayAll0, a.lay, b.lay, c.lay, d.lay]
    have := a.lay; have := b.lay; have := c.lay; simp_all [PyData.canLay0]
  · have := a.iS; have := b.iS; have := c.iS; have := d.iS
    simp_all [seen4, PyData.intsShort, PyData.intsShortAll]
  · have := a.show_; have := b.show_; have := c.show_; have := d.show_
    simp_all [seen4, PyData.showable, PyData.showableAll]
  · have := a.dep; have := b.dep; have := c.dep; have := d.dep
    simp only [seen4, PyData.depth, PyData.depthAll] at *
    omega
  · have := a.wt; have := b.wt; have := c.wt; have := d.wt
    simp only [seen4, PyData.weight, PyData.weightAll] at *
    omega
theorem Dw.res (h : Dw n D) : ∀ {st : Stp}, st.chg D = false → (∀ v d, st = .rd v d → Sh2 d) → (∀ v u d e, st = .wr v u d e → Sh2 d) → Tm 5 20000 (st.res D)
  | .fl, c, _, _ => by cases c
  | .rd v d, _, s1, _ => by
    show Tm 5 20000 (if blk D d = true then .tuple [.str "value", (D.n[(intOf d).toNat]?).getD .none] else rBlk d)
    have w3 : wtV 3 ≤ 3549 := by decide
    split
    · refine (Tm.tuple (k := 3) (w := 3549) (n := 2) (fun y hy => ?_) (by simp)).mono (by decide) (by decide)
      rcases List.mem_cons.mp hy with e | e
      · rw [e]; exact (Tm.str (n := 20) (by decide +kernel) (by decide +kernel)).mono (by decide) (by decide)
      · rw [List.mem_singleton.mp e]
        cases z : D.n[(intOf d).toNat]? with
        | none => exact Tm.none.mono (by decide) (by decide)
        | some x => exact (h.dv.vn x (List.mem_of_getElem? z)).tm.mono (Nat.le_refl _) w3
    · refine (Tm.tuple (k := 0) (w := 30) (n := 2) (fun y hy => ?_) (by simp)).mono (by decide) (by decide)
      rcases List.mem_cons.mp hy with e | e
      · rw [e]; exact Tm.str (by decide +kernel) (by decide +kernel)
      · rw [List.mem_singleton.mp e]; exact (s1 v d rfl).ts
  | .wr v u d e, _, _, s2 => by
    show Tm 5 20000 (if blk D d = true then (if valOk 8 e = true then .none else .str "bad value") else rBlk d)
    split
    · split
      · exact Tm.none.mono (by decide) (by decide)
      · exact (Tm.str (n := 20) (by decide +kernel) (by decide +kernel)).mono (by decide) (by decide)
    · refine (Tm.tuple (k := 0) (w := 30) (n := 2) (fun y hy => ?_) (by simp)).mono (by decide) (by decide)
      rcases List.mem_cons.mp hy with e | e
      · rw [e]; exact Tm.str (by decide +kernel) (by decide +kernel)
      · rw [List.mem_singleton.mp e]; exact (s2 v u d _ rfl).ts
end
def spStands (K : PySem.W.Frag) (C : Addr) : Sp := fun vs H Q _ => ∃ (a pm : Addr) (F G : List Addr) (D : DS), vs = [.ref a, .ref pm] ∧ DiskAt K H C a F D ∧ MAt K H pm G D ∧ Tm 6 600000 (seen4 D) ∧ Tm 6 600000 (seen3w D) ∧ D.d.length ≤ 1000 ∧ ∀ H', Ex H H' → Q (.bl true) H'
end GL
namespace GL
open PySem PySem.Spec PyProof.Rows L2 Evl
theorem mkv_merge {ps pp pe : Addr} : mergeK [] (mkv ps pp pe) = mkv ps pp pe := by
  have k1 : ¬ (Sum.inr ("pending" : Str) : Key) = .inr ("safe" : Str) := by decide +kernel
  have k2 : ¬ (Sum.inr ("events" : Str) : Key) = .inr ("safe" : Str) := by decide +kernel
  unfold mergeK mkv
  simp only [List.foldl_cons, List.foldl_nil, putK, List.any_nil, List.any_cons, decide_eq_false kne1, decide_eq_false kne2, decide_eq_false kne3, Bool.false_or, Bool.false_eq_true, if_false, List.nil_append, List.cons_append]
end GL

namespace K01
open PySem PySem.Spec PyProof.Rows L2 Evl GL
local macro_rules | `(tactic| walk_at "r1") => `(tactic| first
  | with_reducible refine GL.rd_nx ?_
  | with_reducible refine GL.rd_rt ?_
  | with_reducible refine GL.rd_seq ?_
  | with_reducible refine GL.rd_set ?_
  | with_reducible refine GL.rd_asg ?_
  | with_reducible refine GL.rd_ret ?_
  | with_reducible refine GL.rd_retN ?_
  | with_reducible refine GL.rd_drop ?_
  | with_reducible refine GL.rd_if ?_
  | with_reducible refine GL.rd_ifE ?_
  | with_reducible refine GL.rd_next ?_
  | ((with_reducible refine GL.rd_var (v := ?_) ?_ ?_); rotate_left 1; · exact rfl)
  | with_reducible refine GL.rd_c ?_
  | with_reducible refine GL.rd_op ?_
  | with_reducible refine GL.rd_un ?_
  | with_reducible refine GL.rd_i0 ?_
  | with_reducible refine GL.rd_u ?_
  | with_reducible refine GL.rd_eqII ?_
  | with_reducible refine GL.rd_neII ?_
  | with_reducible refine GL.rd_eqSS ?_
  | with_reducible refine GL.rd_neSS ?_
  | with_reducible refine GL.rd_chain ?_
  | with_reducible refine GL.rd_isbl ?_
  | with_reducible refine GL.rd_test ?_
  | with_reducible refine GL.rd_tB ?_
  | with_reducible refine GL.rd_not ?_
  | with_reducible refine GL.rd_and ?_
  | with_reducible refine GL.rd_or ?_
  | with_reducible refine GL.rd_andV ?_
  | with_reducible refine GL.rd_orV ?_
  | with_reducible refine GL.rd_notV ?_
  | with_reducible refine GL.rd_nil ?_
  | with_reducible refine GL.rd_cons ?_
  | with_reducible refine GL.rd_cb ?_
  | with_reducible refine GL.rd_tup ?_
  | with_reducible refine GL.rd_lst ?_
  | with_reducible refine GL.rd_fld ?_
  | with_reducible refine GL.rd_setf ?_
  | with_reducible refine GL.rd_call ?_
  | with_reducible refine GL.rd_call0 ?_
  | with_reducible refine GL.rd_meth ?_
  | with_reducible refine GL.rd_raise ?_
  | with_reducible refine GL.rd_xmk ?_
  | with_reducible refine GL.rd_ix ?_
  | with_reducible refine GL.rd_for ?_
  | with_reducible refine GL.rd_iL ?_
  | with_reducible refine GL.rd_iT ?_
  | with_reducible refine GL.rd_iR1 ?_
  | with_reducible refine GL.rd_iE ?_
  | with_reducible refine GL.rd_gname ?_
  | with_reducible refine GL.rd_gcons ?_
  | with_reducible refine GL.rd_gnil ?_
  | with_reducible refine GL.rd_gsub ?_
  | with_reducible refine GL.rd_bm ?_
  | with_reducible refine GL.rd_bm0 ?_
  | with_reducible refine GL.rd_sl ?_
  | with_reducible refine GL.rd_noPart ?_
  | with_reducible refine GL.rd_part ?_
  | with_reducible refine GL.rd_isint ?_
  | with_reducible refine GL.rd_brk ?_
  | with_reducible refine GL.rd_cont ?_
  | with_reducible refine GL.rd_lc ?_
  | with_reducible refine GL.rd_meth0 ?_
  | with_reducible refine GL.rd_dnewN ?_
  | with_reducible refine GL.rd_par ?_
  | with_reducible refine GL.rd_two ?_
  | with_reducible refine GL.rd_revL ?_
  | with_reducible refine GL.rd_lstN ?_
  | with_reducible refine GL.rd_tupN ?_
  | with_reducible refine GL.rd_fxf ?_
  | with_reducible refine GL.rd_fxp ?_
  | with_reducible refine GL.rd_callE ?_
  | with_reducible refine GL.rd_int1b ?_
  | with_reducible refine GL.rd_make ?_
  | with_reducible refine GL.rd_yes ?_
  | with_reducible refine GL.rd_revR ?_
  | with_reducible refine GL.rd_rg1 ?_
  | with_reducible refine GL.rd_lstRg ?_
  | with_reducible refine GL.rd_dget ?_
  | with_reducible refine GL.rd_dput ?_
  | with_reducible refine GL.rd_pairs ?_
  | with_reducible refine GL.rd_pairs0 ?_
  | with_reducible refine GL.rd_rg2 ?_
  | with_reducible refine GL.rd_fmt ?_
  | with_reducible refine GL.rd_js ?_
  | with_reducible refine GL.rd_js0 ?_
  | with_reducible refine L2.iteT ?_
  | with_reducible refine GL.rd_ntF ?_
  | with_reducible refine GL.rd_ntT ?_
  | with_reducible refine L2.iteF ?_)
local macro_rules | `(tactic| walk_at "rd") => `(tactic| repeat walk_at "r1")
def top (i : Nat) : Stmt := PySem.Challenge.pw_revokelog_k01_whole_disks_step_by_step.main.body.getD i (.Pass ⟨0, 0, 0, 0⟩)
abbrev s_LogError_init : Stmt := inClass (top 2) 0
abbrev s_BadLayout_init : Stmt := inClass (top 3) 0
abbrev s_BadBlock_init : Stmt := inClass (top 4) 0
abbrev s_BadValue_init : Stmt := inClass (top 5) 0
abbrev s_BadCount_init : Stmt := inClass (top 6) 0
abbrev s_BadChoice_init : Stmt := inClass (top 7) 0
abbrev s_TooMany_init : Stmt := inClass (top 8) 0
abbrev s_NoSpace_init : Stmt := inClass (top 9) 0
abbrev s_BadPath_init : Stmt := inClass (top 10) 0
abbrev s_NoEntry_init : Stmt := inClass (top 11) 0
abbrev s_HasEntry_init : Stmt := inClass (top 12) 0
abbrev s_NotEmpty_init : Stmt := inClass (top 13) 0
abbrev s_NoRoom_init : Stmt := inClass (top 14) 0
abbrev s_BadRule_init : Stmt := inClass (top 15) 0
abbrev s_BadStep_init : Stmt := inClass (top 16) 0
abbrev s_is_integer : Stmt := top 18
abbrev s_is_between : Stmt := top 19
abbrev s_is_value : Stmt := top 20
abbrev s_Disk_init : Stmt := inClass (top 24) 0
abbrev s_Disk_begin : Stmt := inClass (top 24) 1
abbrev s_Disk_blocks : Stmt := inClass (top 24) 2
abbrev s_Disk_read : Stmt := inClass (top 24) 3
abbrev s_Disk_write : Stmt := inClass (top 24) 4
abbrev s_Disk_flush : Stmt := inClass (top 24) 5
abbrev s_Disk_pending : Stmt := inClass (top 24) 6
abbrev s_Disk_durable : Stmt := inClass (top 24) 7
abbrev s_Disk_events : Stmt := inClass (top 24) 8
abbrev s_Disk_after : Stmt := inClass (top 24) 9
abbrev s_Disk_crashed : Stmt := inClass (top 24) 10
abbrev s_Disk_check_block : Stmt := inClass (top 24) 11
abbrev s_Disk_check_choice : Stmt := inClass (top 24) 12
abbrev s_l_cell_at : Stmt := top 26
abbrev s_l_well : Stmt := top 27
abbrev s_l_draw : Stmt := top 28
abbrev s_l_one : Stmt := top 29
abbrev s_l_value : Stmt := top 30
abbrev s_l_classes_of : Stmt := top 31
abbrev s_l_odd_value : Stmt := top 32
abbrev s_l_told : Stmt := top 33
abbrev s_l_is_block : Stmt := top 34
abbrev s_l_done : Stmt := top 35
abbrev s_l_step : Stmt := top 36
abbrev s_l_stands : Stmt := top 37
abbrev s_l_bad_size : Stmt := top 38
abbrev s_law : Stmt := top 39
theorem sc_LogError_init : FnScope ["self", "why"] ["self", "why"] (defScope s_LogError_init) := ⟨rfl, rfl, rfl, by decide +kernel, rfl, by decide +kernel, by decide +kernel⟩
theorem sc_BadLayout_init : FnScope ["self", "why"] ["self", "why"] (defScope s_BadLayout_init) := ⟨rfl, rfl, rfl, by decide +kernel, rfl, by decide +kernel, by decide +kernel⟩
theorem sc_BadBlock_init : FnScope ["self", "block"] ["self", "block"] (defScope s_BadBlock_init) := ⟨rfl, rfl, rfl, by decide +kernel, rfl, by decide +kernel, by decide +kernel⟩
theorem sc_BadValue_init : FnScope ["self", "why"] ["self", "why"] (defScope s_BadValue_init) := ⟨rfl, rfl, rfl, by decide +kernel, rfl, by decide +kernel, by decide +kernel⟩
theorem sc_BadCount_init : FnScope ["self", "count"] ["self", "count"] (defScope s_BadCount_init) := ⟨rfl, rfl, rfl, by decide +kernel, rfl, by decide +kernel, by decide +kernel⟩
theorem sc_BadChoice_init : FnScope ["self", "at"] ["self", "at"] (defScope s_BadChoice_init) := ⟨rfl, rfl, rfl, by decide +kernel, rfl, by decide +kernel, by decide +kernel⟩
theorem sc_TooMany_init : FnScope ["self", "limit"] ["self", "limit"] (defScope s_TooMany_init) := ⟨rfl, rfl, rfl, by decide +kernel, rfl, by decide +kernel, by decide +kernel⟩
theorem sc_NoSpace_init : FnScope ["self", "needed", "free"] ["self", "needed", "free"] (defScope s_NoSpace_init) := ⟨rfl, rfl, rfl, by decide +kernel, rfl, by decide +kernel, by decide +kernel⟩
theorem sc_BadPath_init : FnScope ["self", "path"] ["self", "path"] (defScope s_BadPath_init) := ⟨rfl, rfl, rfl, by decide +kernel, rfl, by decide +kernel, by decide +kernel⟩
theorem sc_NoEntry_init : FnScope ["self", "path"] ["self", "path"] (defScope s_NoEntry_init) := ⟨rfl, rfl, rfl, by decide +kernel, rfl, by decide +kernel, by decide +kernel⟩
theorem sc_HasEntry_init : FnScope ["self", "path"] ["self", "path"] (defScope s_HasEntry_init) := ⟨rfl, rfl, rfl, by decide +kernel, rfl, by decide +kernel, by decide +kernel⟩
theorem sc_NotEmpty_init : FnScope ["self", "path"] ["self", "path"] (defScope s_NotEmpty_init) := ⟨rfl, rfl, rfl, by decide +kernel, rfl, by decide +kernel, by decide +kernel⟩
theorem sc_NoRoom_init : FnScope ["self", "needed", "free"] ["self", "needed", "free"] (defScope s_NoRoom_init) := ⟨rfl, rfl, rfl, by decide +kernel, rfl, by decide +kernel, by decide +kernel⟩
theorem sc_BadRule_init : FnScope ["self", "rule"] ["self", "rule"] (defScope s_BadRule_init) := ⟨rfl, rfl, rfl, by decide +kernel, rfl, by decide +kernel, by decide +kernel⟩
theorem sc_BadStep_init : FnScope ["self", "at"] ["self", "at"] (defScope s_BadStep_init) := ⟨rfl, rfl, rfl, by decide +kernel, rfl, by decide +kernel, by decide +kernel⟩
theorem sc_is_integer : FnScope ["thing"] ["thing"] (defScope s_is_integer) := ⟨rfl, rfl, rfl, by decide +kernel, rfl, by decide +kernel, by decide +kernel⟩
theorem sc_is_between : FnScope ["thing", "least", "most"] ["thing", "least", "most"] (defScope s_is_between) := ⟨rfl, rfl, rfl, by decide +kernel, rfl, by decide +kernel, by decide +kernel⟩
theorem sc_is_value : FnScope ["thing", "deepest", "part"] ["thing", "deepest"] (defScope s_is_value) := ⟨rfl, rfl, rfl, by decide +kernel, rfl, by decide +kernel, by decide +kernel⟩
theorem sc_Disk_init : FnScope ["self", "blocks"] ["self", "blocks"] (defScope s_Disk_init) := ⟨rfl, rfl, rfl, by decide +kernel, rfl, by decide +kernel, by decide +kernel⟩
theorem sc_Disk_begin : FnScope ["self", "values"] ["self", "values"] (defScope s_Disk_begin) := ⟨rfl, rfl, rfl, by decide +kernel, rfl, by decide +kernel, by decide +kernel⟩
theorem sc_Disk_blocks : FnScope ["self"] ["self"] (defScope s_Disk_blocks) := ⟨rfl, rfl, rfl, by decide +kernel, rfl, by decide +kernel, by decide +kernel⟩
theorem sc_Disk_read : FnScope ["self", "block"] ["self", "block"] (defScope s_Disk_read) := ⟨rfl, rfl, rfl, by decide +kernel, rfl, by decide +kernel, by decide +kernel⟩
theorem sc_Disk_write : FnScope ["self", "block", "value"] ["self", "block", "value"] (defScope s_Disk_write) := ⟨rfl, rfl, rfl, by decide +kernel, rfl, by decide +kernel, by decide +kernel⟩
theorem sc_Disk_flush : FnScope ["self"] ["self"] (defScope s_Disk_flush) := ⟨rfl, rfl, rfl, by decide +kernel, rfl, by decide +kernel, by decide +kernel⟩
theorem sc_Disk_pending : FnScope ["self"] ["self"] (defScope s_Disk_pending) := ⟨rfl, rfl, rfl, by decide +kernel, rfl, by decide +kernel, by decide +kernel⟩
theorem sc_Disk_durable : FnScope ["self"] ["self"] (defScope s_Disk_durable) := ⟨rfl, rfl, rfl, by decide +kernel, rfl, by decide +kernel, by decide +kernel⟩
theorem sc_Disk_events : FnScope ["self"] ["self"] (defScope s_Disk_events) := ⟨rfl, rfl, rfl, by decide +kernel, rfl, by decide +kernel, by decide +kernel⟩
theorem sc_Disk_after : FnScope ["self", "many"] ["self", "many"] (defScope s_Disk_after) := ⟨rfl, rfl, rfl, by decide +kernel, rfl, by decide +kernel, by decide +kernel⟩
theorem sc_Disk_crashed : FnScope ["self", "kept"] ["self", "kept"] (defScope s_Disk_crashed) := ⟨rfl, rfl, rfl, by decide +kernel, rfl, by decide +kernel, by decide +kernel⟩
theorem sc_Disk_check_block : FnScope ["self", "block"] ["self", "block"] (defScope s_Disk_check_block) := ⟨rfl, rfl, rfl, by decide +kernel, rfl, by decide +kernel, by decide +kernel⟩
theorem sc_Disk_check_choice : FnScope ["self", "kept"] ["self", "kept"] (defScope s_Disk_check_choice) := ⟨rfl, rfl, rfl, by decide +kernel, rfl, by decide +kernel, by decide +kernel⟩
theorem sc_l_cell_at : FnScope ["_law_script", "_law_k"] ["_law_script", "_law_k"] (defScope s_l_cell_at) := ⟨rfl, rfl, rfl, by decide +kernel, rfl, by decide +kernel, by decide +kernel⟩
theorem sc_l_well : FnScope ["_law_cell"] ["_law_cell"] (defScope s_l_well) := ⟨rfl, rfl, rfl, by decide +kernel, rfl, by decide +kernel, by decide +kernel⟩
theorem sc_l_draw : FnScope ["_law_well_here", "_law_many", "_law_found", "_law_salt", "_law_base", "_law_number"] ["_law_well_here", "_law_many"] (defScope s_l_draw) := ⟨rfl, rfl, rfl, by decide +kernel, rfl, by decide +kernel, by decide +kernel⟩
theorem sc_l_one : FnScope ["_law_well_here", "_law_some"] ["_law_well_here", "_law_some"] (defScope s_l_one) := ⟨rfl, rfl, rfl, by decide +kernel, rfl, by decide +kernel, by decide +kernel⟩
theorem sc_l_value : FnScope ["_law_well_here", "_law_depth", "_law_way", "_law_k"] ["_law_well_here", "_law_depth"] (defScope s_l_value) := ⟨rfl, rfl, rfl, by decide +kernel, rfl, by decide +kernel, by decide +kernel⟩
theorem sc_l_classes_of : FnScope ["_law_e", "_law_kinds"] ["_law_e"] (defScope s_l_classes_of) := ⟨rfl, rfl, rfl, by decide +kernel, rfl, by decide +kernel, by decide +kernel⟩
theorem sc_l_odd_value : FnScope ["_law_well_here", "_law_deep", "_law_k"] ["_law_well_here"] (defScope s_l_odd_value) := ⟨rfl, rfl, rfl, by decide +kernel, rfl, by decide +kernel, by decide +kernel⟩
theorem sc_l_told : FnScope ["_law_disk", "_law_step_here", "_law_e"] ["_law_disk", "_law_step_here"] (defScope s_l_told) := ⟨rfl, rfl, rfl, by decide +kernel, rfl, by decide +kernel, by decide +kernel⟩
theorem sc_l_is_block : FnScope ["_law_value_here", "_law_size"] ["_law_value_here", "_law_size"] (defScope s_l_is_block) := ⟨rfl, rfl, rfl, by decide +kernel, rfl, by decide +kernel, by decide +kernel⟩
theorem sc_l_done : FnScope ["_law_m", "_law_step_here", "_law_is_good", "_law_block", "_law_value_here", "_law_some"] ["_law_m", "_law_step_here", "_law_is_good"] (defScope s_l_done) := ⟨rfl, rfl, rfl, by decide +kernel, rfl, by decide +kernel, by decide +kernel⟩
theorem sc_l_step : FnScope ["_law_well_here", "_law_size", "_law_block", "_law_way"] ["_law_well_here", "_law_size"] (defScope s_l_step) := ⟨rfl, rfl, rfl, by decide +kernel, rfl, by decide +kernel, by decide +kernel⟩
theorem sc_l_stands : FnScope ["_law_disk", "_law_m", "_law_found", "_law_some"] ["_law_disk", "_law_m"] (defScope s_l_stands) := ⟨rfl, rfl, rfl, by decide +kernel, rfl, by decide +kernel, by decide +kernel⟩
theorem sc_l_bad_size : FnScope ["_law_size", "_law_e"] ["_law_size"] (defScope s_l_bad_size) := ⟨rfl, rfl, rfl, by decide +kernel, rfl, by decide +kernel, by decide +kernel⟩
theorem sc_law : FnScope ["_law_script", "_law_cell", "_law_well_here", "_law_size", "_law_disk", "_law_m", "_law_turn", "_law_step_here", "_law_is_good", "_law_deep", "_law_k", "_law_odd"] ["_law_script"] (defScope s_law) := ⟨rfl, rfl, rfl, by decide +kernel, rfl, by decide +kernel, by decide +kernel⟩
def d_LogError_init : He.DefD := ⟨("LogError", some "__init__"), "__init__", "LogError.__init__", defArgs s_LogError_init, defBody s_LogError_init, defScope s_LogError_init, [], []⟩
def d_BadLayout_init : He.DefD := ⟨("BadLayout", some "__init__"), "__init__", "BadLayout.__init__", defArgs s_BadLayout_init, defBody s_BadLayout_init, defScope s_BadLayout_init, [], []⟩
def d_BadBlock_init : He.DefD := ⟨("BadBlock", some "__init__"), "__init__", "BadBlock.__init__", defArgs s_BadBlock_init, defBody s_BadBlock_init, defScope s_BadBlock_init, [], []⟩
def d_BadValue_init : He.DefD := ⟨("BadValue", some "__init__"), "__init__", "BadValue.__init__", defArgs s_BadValue_init, defBody s_BadValue_init, defScope s_BadValue_init, [.str "not a valid value"], []⟩
def d_BadCount_init : He.DefD := ⟨("BadCount", some "__init__"), "__init__", "BadCount.__init__", defArgs s_BadCount_init, defBody s_BadCount_init, defScope s_BadCount_init, [], []⟩
def d_BadChoice_init : He.DefD := ⟨("BadChoice", some "__init__"), "__init__", "BadChoice.__init__", defArgs s_BadChoice_init, defBody s_BadChoice_init, defScope s_BadChoice_init, [], []⟩
def d_TooMany_init : He.DefD := ⟨("TooMany", some "__init__"), "__init__", "TooMany.__init__", defArgs s_TooMany_init, defBody s_TooMany_init, defScope s_TooMany_init, [], []⟩
def d_NoSpace_init : He.DefD := ⟨("NoSpace", some "__init__"), "__init__", "NoSpace.__init__", defArgs s_NoSpace_init, defBody s_NoSpace_init, defScope s_NoSpace_init, [], []⟩
def d_BadPath_init : He.DefD := ⟨("BadPath", some "__init__"), "__init__", "BadPath.__init__", defArgs s_BadPath_init, defBody s_BadPath_init, defScope s_BadPath_init, [], []⟩
def d_NoEntry_init : He.DefD := ⟨("NoEntry", some "__init__"), "__init__", "NoEntry.__init__", defArgs s_NoEntry_init, defBody s_NoEntry_init, defScope s_NoEntry_init, [], []⟩
def d_HasEntry_init : He.DefD := ⟨("HasEntry", some "__init__"), "__init__", "HasEntry.__init__", defArgs s_HasEntry_init, defBody s_HasEntry_init, defScope s_HasEntry_init, [], []⟩
def d_NotEmpty_init : He.DefD := ⟨("NotEmpty", some "__init__"), "__init__", "NotEmpty.__init__", defArgs s_NotEmpty_init, defBody s_NotEmpty_init, defScope s_NotEmpty_init, [], []⟩
def d_NoRoom_init : He.DefD := ⟨("NoRoom", some "__init__"), "__init__", "NoRoom.__init__", defArgs s_NoRoom_init, defBody s_NoRoom_init, defScope s_NoRoom_init, [], []⟩
def d_BadRule_init : He.DefD := ⟨("BadRule", some "__init__"), "__init__", "BadRule.__init__", defArgs s_BadRule_init, defBody s_BadRule_init, defScope s_BadRule_init, [], []⟩
def d_BadStep_init : He.DefD := ⟨("BadStep", some "__init__"), "__init__", "BadStep.__init__", defArgs s_BadStep_init, defBody s_BadStep_init, defScope s_BadStep_init, [], []⟩
def d_is_integer : He.DefD := ⟨("is_integer", none), "is_integer", "is_integer", defArgs s_is_integer, defBody s_is_integer, defScope s_is_integer, [], []⟩
def d_is_between : He.DefD := ⟨("is_between", none), "is_between", "is_between", defArgs s_is_between, defBody s_is_between, defScope s_is_between, [], []⟩
def d_is_value : He.DefD := ⟨("is_value", none), "is_value", "is_value", defArgs s_is_value, defBody s_is_value, defScope s_is_value, [], []⟩
def d_Disk_init : He.DefD := ⟨("Disk", some "__init__"), "__init__", "Disk.__init__", defArgs s_Disk_init, defBody s_Disk_init, defScope s_Disk_init, [], []⟩
def d_Disk_begin : He.DefD := ⟨("Disk", some "_begin"), "_begin", "Disk._begin", defArgs s_Disk_begin, defBody s_Disk_begin, defScope s_Disk_begin, [], []⟩
def d_Disk_blocks : He.DefD := ⟨("Disk", some "blocks"), "blocks", "Disk.blocks", defArgs s_Disk_blocks, defBody s_Disk_blocks, defScope s_Disk_blocks, [], []⟩
def d_Disk_read : He.DefD := ⟨("Disk", some "read"), "read", "Disk.read", defArgs s_Disk_read, defBody s_Disk_read, defScope s_Disk_read, [], []⟩
def d_Disk_write : He.DefD := ⟨("Disk", some "write"), "write", "Disk.write", defArgs s_Disk_write, defBody s_Disk_write, defScope s_Disk_write, [], []⟩
def d_Disk_flush : He.DefD := ⟨("Disk", some "flush"), "flush", "Disk.flush", defArgs s_Disk_flush, defBody s_Disk_flush, defScope s_Disk_flush, [], []⟩
def d_Disk_pending : He.DefD := ⟨("Disk", some "pending"), "pending", "Disk.pending", defArgs s_Disk_pending, defBody s_Disk_pending, defScope s_Disk_pending, [], []⟩
def d_Disk_durable : He.DefD := ⟨("Disk", some "durable"), "durable", "Disk.durable", defArgs s_Disk_durable, defBody s_Disk_durable, defScope s_Disk_durable, [], []⟩
def d_Disk_events : He.DefD := ⟨("Disk", some "events"), "events", "Disk.events", defArgs s_Disk_events, defBody s_Disk_events, defScope s_Disk_events, [], []⟩
def d_Disk_after : He.DefD := ⟨("Disk", some "after"), "after", "Disk.after", defArgs s_Disk_after, defBody s_Disk_after, defScope s_Disk_after, [], []⟩
def d_Disk_crashed : He.DefD := ⟨("Disk", some "crashed"), "crashed", "Disk.crashed", defArgs s_Disk_crashed, defBody s_Disk_crashed, defScope s_Disk_crashed, [], []⟩
def d_Disk_check_block : He.DefD := ⟨("Disk", some "_check_block"), "_check_block", "Disk._check_block", defArgs s_Disk_check_block, defBody s_Disk_check_block, defScope s_Disk_check_block, [], []⟩
def d_Disk_check_choice : He.DefD := ⟨("Disk", some "_check_choice"), "_check_choice", "Disk._check_choice", defArgs s_Disk_check_choice, defBody s_Disk_check_choice, defScope s_Disk_check_choice, [], []⟩
def d_l_cell_at : He.DefD := ⟨("_law_cell_at", none), "_law_cell_at", "_law_cell_at", defArgs s_l_cell_at, defBody s_l_cell_at, defScope s_l_cell_at, [], []⟩
def d_l_well : He.DefD := ⟨("_law_well", none), "_law_well", "_law_well", defArgs s_l_well, defBody s_l_well, defScope s_l_well, [], []⟩
def d_l_draw : He.DefD := ⟨("_law_draw", none), "_law_draw", "_law_draw", defArgs s_l_draw, defBody s_l_draw, defScope s_l_draw, [], []⟩
def d_l_one : He.DefD := ⟨("_law_one", none), "_law_one", "_law_one", defArgs s_l_one, defBody s_l_one, defScope s_l_one, [], []⟩
def d_l_value : He.DefD := ⟨("_law_value", none), "_law_value", "_law_value", defArgs s_l_value, defBody s_l_value, defScope s_l_value, [], []⟩
def d_l_classes_of : He.DefD := ⟨("_law_classes_of", none), "_law_classes_of", "_law_classes_of", defArgs s_l_classes_of, defBody s_l_classes_of, defScope s_l_classes_of, [], []⟩
def d_l_odd_value : He.DefD := ⟨("_law_odd_value", none), "_law_odd_value", "_law_odd_value", defArgs s_l_odd_value, defBody s_l_odd_value, defScope s_l_odd_value, [], []⟩
def d_l_told : He.DefD := ⟨("_law_told", none), "_law_told", "_law_told", defArgs s_l_told, defBody s_l_told, defScope s_l_told, [], []⟩
def d_l_is_block : He.DefD := ⟨("_law_is_block", none), "_law_is_block", "_law_is_block", defArgs s_l_is_block, defBody s_l_is_block, defScope s_l_is_block, [], []⟩
def d_l_done : He.DefD := ⟨("_law_done", none), "_law_done", "_law_done", defArgs s_l_done, defBody s_l_done, defScope s_l_done, [], []⟩
def d_l_step : He.DefD := ⟨("_law_step", none), "_law_step", "_law_step", defArgs s_l_step, defBody s_l_step, defScope s_l_step, [], []⟩
def d_l_stands : He.DefD := ⟨("_law_stands", none), "_law_stands", "_law_stands", defArgs s_l_stands, defBody s_l_stands, defScope s_l_stands, [], []⟩
def d_l_bad_size : He.DefD := ⟨("_law_bad_size", none), "_law_bad_size", "_law_bad_size", defArgs s_l_bad_size, defBody s_l_bad_size, defScope s_l_bad_size, [], []⟩
def d_law : He.DefD := ⟨("law", none), "law", "law", defArgs s_law, defBody s_law, defScope s_law, [], []⟩
def fn : List He.DefD := [d_LogError_init, d_BadLayout_init, d_BadBlock_init, d_BadValue_init, d_BadCount_init, d_BadChoice_init, d_TooMany_init, d_NoSpace_init, d_BadPath_init, d_NoEntry_init, d_HasEntry_init, d_NotEmpty_init, d_NoRoom_init, d_BadRule_init, d_BadStep_init, d_is_integer, d_is_between, d_is_value, d_Disk_init, d_Disk_begin, d_Disk_blocks, d_Disk_read, d_Disk_write, d_Disk_flush, d_Disk_pending, d_Disk_durable, d_Disk_events, d_Disk_after, d_Disk_crashed, d_Disk_check_block, d_Disk_check_choice, d_l_cell_at, d_l_well, d_l_draw, d_l_one, d_l_value, d_l_classes_of, d_l_odd_value, d_l_told, d_l_is_block, d_l_done, d_l_step, d_l_stands, d_l_bad_size, d_law]
def fa0 : List He.Fa := [.glo "is_integer", .glo "is_between", .glo "is_value", .glo "_law_cell_at", .glo "_law_well", .glo "_law_draw", .glo "_law_one", .glo "_law_value", .glo "_law_classes_of", .glo "_law_odd_value", .glo "_law_told", .glo "_law_is_block", .glo "_law_done", .glo "_law_step", .glo "_law_stands", .glo "_law_bad_size", .glo "law", .glo "LogError", .glo "BadLayout", .glo "BadBlock", .glo "BadValue", .glo "BadCount", .glo "BadChoice", .glo "TooMany", .glo "NoSpace", .glo "BadPath", .glo "NoEntry", .glo "HasEntry", .glo "NotEmpty", .glo "NoRoom"]
def fa1 : List He.Fa := [.glo "BadRule", .glo "BadStep", .glo "Disk", .int "MOST_BLOCKS" 128, .int "DEEPEST_VALUE" 8, .free "ValueError", .free "bool", .free "int", .free "isinstance", .free "len", .free "list", .free "range", .free "repr", .free "str", .free "tuple", .meth "LogError" "__init__", .meth "BadLayout" "__init__", .meth "BadBlock" "__init__", .meth "BadValue" "__init__", .meth "BadCount" "__init__", .meth "BadChoice" "__init__", .meth "TooMany" "__init__", .meth "NoSpace" "__init__", .meth "BadPath" "__init__", .meth "NoEntry" "__init__", .meth "HasEntry" "__init__", .meth "NotEmpty" "__init__", .meth "NoRoom" "__init__", .meth "BadRule" "__init__", .meth "BadStep" "__init__"]
def fa2 : List He.Fa := [.cls "Disk", .mkr "Disk", .meth "Disk" "__init__", .meth "Disk" "_begin", .meth "Disk" "blocks", .meth "Disk" "read", .meth "Disk" "write", .meth "Disk" "flush", .meth "Disk" "pending", .meth "Disk" "durable", .meth "Disk" "events", .meth "Disk" "after", .meth "Disk" "crashed", .meth "Disk" "_check_block", .meth "Disk" "_check_choice", .noat "Disk" "_first", .noat "Disk" "_settled", .noat "Disk" "_newest", .noat "Disk" "_waiting", .noat "Disk" "_done"]
def fa : List He.Fa := fa0 ++ fa1 ++ fa2
def errs : List (Str × List Str) := [("BadLayout", []), ("BadBlock", ["block"]), ("BadValue", []), ("BadCount", ["count"]), ("BadChoice", ["at"]), ("TooMany", ["limit"]), ("NoSpace", ["needed", "free"]), ("BadPath", ["path"]), ("NoEntry", ["path"]), ("HasEntry", ["path"]), ("NotEmpty", ["path"]), ("NoRoom", ["needed", "free"]), ("BadRule", ["rule"]), ("BadStep", ["at"])]
def ex (K : PySem.W.Frag) : Bool := GL.errB K "LogError" errs && GL.veB K
abbrev R : PySem.W.OpenRow := PySem.W.OpenLaw.row PySem.Challenge.rw_revokelog_k01_whole_disks_step_by_step
abbrev hk : PySem.W.Hook := GL.hookG 4 fa fn ex
def ob (s : PySem.W.SharedT) : GL.AlG := GL.obG 4 fa fn ex (HandSHeadRun.getT s)
theorem ob_eq (s : PySem.W.SharedT) : ob s = hk.obs s.abs := GL.obG_eq (HandSHeadRun.getT_eq s)
def loose : List Str := (("_wall" : Str) :: ("LogError" : Str) :: ("BadLayout" : Str) :: ("BadBlock" : Str) :: ("BadValue" : Str) :: ("BadCount" : Str) :: ("BadChoice" : Str) :: ("TooMany" : Str) :: ("NoSpace" : Str) :: ("BadPath" : Str) :: ("NoEntry" : Str) :: ("HasEntry" : Str) :: ("NotEmpty" : Str) :: ("NoRoom" : Str) :: ("BadRule" : Str) :: ("BadStep" : Str) :: ("is_integer" : Str) :: ("is_between" : Str) :: ("is_value" : Str) :: ("Disk" : Str) :: ("_law_cell_at" : Str) :: ("_law_well" : Str) :: ("_law_draw" : Str) :: ("_law_one" : Str) :: ("_law_value" : Str) :: ("_law_classes_of" : Str) :: ("_law_odd_value" : Str) :: ("_law_told" : Str) :: ("_law_is_block" : Str) :: ("_law_done" : Str) :: ("_law_step" : Str) :: ("_law_stands" : Str) :: ("_law_bad_size" : Str) :: ("MOST_BLOCKS" : Str) :: ("DEEPEST_VALUE" : Str) :: [])
structure Txt (K : PySem.W.Frag) (mg : Str → Option Value) : Prop where
  says : He.SaysD fa fn K
  ex : ex K = true
  top : ∃ h : Heap, K.In h ∧ h.Ns mainGlobals mg
section
variable {K : PySem.W.Frag} {mg : Str → Option Value}
theorem Txt.ve (T : Txt K mg) : PySem.W.findCls K (.type "ValueError") (.type "type") "__init__" = some (.val (.builtin "ValueError.__init__")) := GL.veB_ok (Bool.and_eq_true_iff.mp T.ex).2
theorem Txt.err (T : Txt K mg) : GL.errB K "LogError" errs = true := (Bool.and_eq_true_iff.mp T.ex).1
theorem Txt.g_is_integer (T : Txt K mg) : mg "is_integer" = some (.ref (He.ga K "is_integer")) := by obtain ⟨h, a, b⟩ := T.top; exact He.glo_ok a b (T.says.fact 0 (f := .glo "is_integer") rfl)
theorem Txt.g_is_between (T : Txt K mg) : mg "is_between" = some (.ref (He.ga K "is_between")) := by obtain ⟨h, a, b⟩ := T.top; exact He.glo_ok a b (T.says.fact 1 (f := .glo "is_between") rfl)
theorem Txt.g_is_value (T : Txt K mg) : mg "is_value" = some (.ref (He.ga K "is_value")) := by obtain ⟨h, a, b⟩ := T.top; exact He.glo_ok a b (T.says.fact 2 (f := .glo "is_value") rfl)
theorem Txt.g__law_cell_at (T : Txt K mg) : mg "_law_cell_at" = some (.ref (He.ga K "_law_cell_at")) := by obtain ⟨h, a, b⟩ := T.top; exact He.glo_ok a b (T.says.fact 3 (f := .glo "_law_cell_at") rfl)
theorem Txt.g__law_well (T : Txt K mg) : mg "_law_well" = some (.ref (He.ga K "_law_well")) := by obtain ⟨h, a, b⟩ := T.top; exact He.glo_ok a b (T.says.fact 4 (f := .glo "_law_well") rfl)
theorem Txt.g__law_draw (T : Txt K mg) : mg "_law_draw" = some (.ref (He.ga K "_law_draw")) := by obtain ⟨h, a, b⟩ := T.top; exact He.glo_ok a b (T.says.fact 5 (f := .glo "_law_draw") rfl)
theorem Txt.g__law_one (T : Txt K mg) : mg "_law_one" = some (.ref (He.ga K "_law_one")) := by obtain ⟨h, a, b⟩ := T.top; exact He.glo_ok a b (T.says.fact 6 (f := .glo "_law_one") rfl)
theorem Txt.g__law_value (T : Txt K mg) : mg "_law_value" = some (.ref (He.ga K "_law_value")) := by obtain ⟨h, a, b⟩ := T.top; exact He.glo_ok a b (T.says.fact 7 (f := .glo "_law_value") rfl)
theorem Txt.g__law_classes_of (T : Txt K mg) : mg "_law_classes_of" = some (.ref (He.ga K "_law_classes_of")) := by obtain ⟨h, a, b⟩ := T.top; exact He.glo_ok a b (T.says.fact 8 (f := .glo "_law_classes_of") rfl)
theorem Txt.g__law_odd_value (T : Txt K mg) : mg "_law_odd_value" = some (.ref (He.ga K "_law_odd_value")) := by obtain ⟨h, a, b⟩ := T.top; exact He.glo_ok a b (T.says.fact 9 (f := .glo "_law_odd_value") rfl)
theorem Txt.g__law_told (T : Txt K mg) : mg "_law_told" = some (.ref (He.ga K "_law_told")) := by obtain ⟨h, a, b⟩ := T.top; exact He.glo_ok a b (T.says.fact 10 (f := .glo "_law_told") rfl)
theorem Txt.g__law_is_block (T : Txt K mg) : mg "_law_is_block" = some (.ref (He.ga K "_law_is_block")) := by obtain ⟨h, a, b⟩ := T.top; exact He.glo_ok a b (T.says.fact 11 (f := .glo "_law_is_block") rfl)
theorem Txt.g__law_done (T : Txt K mg) : mg "_law_done" = some (.ref (He.ga K "_law_done")) := by obtain ⟨h, a, b⟩ := T.top; exact He.glo_ok a b (T.says.fact 12 (f := .glo "_law_done") rfl)
theorem Txt.g__law_step (T : Txt K mg) : mg "_law_step" = some (.ref (He.ga K "_law_step")) := by obtain ⟨h, a, b⟩ := T.top; exact He.glo_ok a b (T.says.fact 13 (f := .glo "_law_step") rfl)
theorem Txt.g__law_stands (T : Txt K mg) : mg "_law_stands" = some (.ref (He.ga K "_law_stands")) := by obtain ⟨h, a, b⟩ := T.top; exact He.glo_ok a b (T.says.fact 14 (f := .glo "_law_stands") rfl)
theorem Txt.g__law_bad_size (T : Txt K mg) : mg "_law_bad_size" = some (.ref (He.ga K "_law_bad_size")) := by obtain ⟨h, a, b⟩ := T.top; exact He.glo_ok a b (T.says.fact 15 (f := .glo "_law_bad_size") rfl)
theorem Txt.g_law (T : Txt K mg) : mg "law" = some (.ref (He.ga K "law")) := by obtain ⟨h, a, b⟩ := T.top; exact He.glo_ok a b (T.says.fact 16 (f := .glo "law") rfl)
theorem Txt.g_LogError (T : Txt K mg) : mg "LogError" = some (.ref (He.ga K "LogError")) := by obtain ⟨h, a, b⟩ := T.top; exact He.glo_ok a b (T.says.fact 17 (f := .glo "LogError") rfl)
theorem Txt.g_BadLayout (T : Txt K mg) : mg "BadLayout" = some (.ref (He.ga K "BadLayout")) := by obtain ⟨h, a, b⟩ := T.top; exact He.glo_ok a b (T.says.fact 18 (f := .glo "BadLayout") rfl)
theorem Txt.g_BadBlock (T : Txt K mg) : mg "BadBlock" = some (.ref (He.ga K "BadBlock")) := by obtain ⟨h, a, b⟩ := T.top; exact He.glo_ok a b (T.says.fact 19 (f := .glo "BadBlock") rfl)
theorem Txt.g_BadValue (T : Txt K mg) : mg "BadValue" = some (.ref (He.ga K "BadValue")) := by obtain ⟨h, a, b⟩ := T.top; exact He.glo_ok a b (T.says.fact 20 (f := .glo "BadValue") rfl)
theorem Txt.g_BadCount (T : Txt K mg) : mg "BadCount" = some (.ref (He.ga K "BadCount")) := by obtain ⟨h, a, b⟩ := T.top; exact He.glo_ok a b (T.says.fact 21 (f := .glo "BadCount") rfl)
theorem Txt.g_BadChoice (T : Txt K mg) : mg "BadChoice" = some (.ref (He.ga K "BadChoice")) := by obtain ⟨h, a, b⟩ := T.top; exact He.glo_ok a b (T.says.fact 22 (f := .glo "BadChoice") rfl)
theorem Txt.g_TooMany (T : Txt K mg) : mg "TooMany" = some (.ref (He.ga K "TooMany")) := by obtain ⟨h, a, b⟩ := T.top; exact He.glo_ok a b (T.says.fact 23 (f := .glo "TooMany") rfl)
theorem Txt.g_NoSpace (T : Txt K mg) : mg "NoSpace" = some (.ref (He.ga K "NoSpace")) := by obtain ⟨h, a, b⟩ := T.top; exact He.glo_ok a b (T.says.fact 24 (f := .glo "NoSpace") rfl)
theorem Txt.g_BadPath (T : Txt K mg) : mg "BadPath" = some (.ref (He.ga K "BadPath")) := by obtain ⟨h, a, b⟩ := T.top; exact He.glo_ok a b (T.says.fact 25 (f := .glo "BadPath") rfl)
theorem Txt.g_NoEntry (T : Txt K mg) : mg "NoEntry" = some (.ref (He.ga K "NoEntry")) := by obtain ⟨h, a, b⟩ := T.top; exact He.glo_ok a b (T.says.fact 26 (f := .glo "NoEntry") rfl)
theorem Txt.g_HasEntry (T : Txt K mg) : mg "HasEntry" = some (.ref (He.ga K "HasEntry")) := by obtain ⟨h, a, b⟩ := T.top; exact He.glo_ok a b (T.says.fact 27 (f := .glo "HasEntry") rfl)
theorem Txt.g_NotEmpty (T : Txt K mg) : mg "NotEmpty" = some (.ref (He.ga K "NotEmpty")) := by obtain ⟨h, a, b⟩ := T.top; exact He.glo_ok a b (T.says.fact 28 (f := .glo "NotEmpty") rfl)
theorem Txt.g_NoRoom (T : Txt K mg) : mg "NoRoom" = some (.ref (He.ga K "NoRoom")) := by obtain ⟨h, a, b⟩ := T.top; exact He.glo_ok a b (T.says.fact 29 (f := .glo "NoRoom") rfl)
theorem Txt.g_BadRule (T : Txt K mg) : mg "BadRule" = some (.ref (He.ga K "BadRule")) := by obtain ⟨h, a, b⟩ := T.top; exact He.glo_ok a b (T.says.fact 30 (f := .glo "BadRule") rfl)
theorem Txt.g_BadStep (T : Txt K mg) : mg "BadStep" = some (.ref (He.ga K "BadStep")) := by obtain ⟨h, a, b⟩ := T.top; exact He.glo_ok a b (T.says.fact 31 (f := .glo "BadStep") rfl)
theorem Txt.g_Disk (T : Txt K mg) : mg "Disk" = some (.ref (He.ga K "Disk")) := by obtain ⟨h, a, b⟩ := T.top; exact He.glo_ok a b (T.says.fact 32 (f := .glo "Disk") rfl)
theorem Txt.i_MOST_BLOCKS (T : Txt K mg) : ∃ t, mg "MOST_BLOCKS" = some (.int 128 t) := by obtain ⟨h, a, b⟩ := T.top; exact He.int_ok a b (T.says.fact 33 (f := .int "MOST_BLOCKS" 128) rfl)
theorem Txt.i_DEEPEST_VALUE (T : Txt K mg) : ∃ t, mg "DEEPEST_VALUE" = some (.int 8 t) := by obtain ⟨h, a, b⟩ := T.top; exact He.int_ok a b (T.says.fact 34 (f := .int "DEEPEST_VALUE" 8) rfl)
theorem Txt.f_ValueError (T : Txt K mg) : mg "ValueError" = none := by obtain ⟨h, a, b⟩ := T.top; exact He.free_ok a b (T.says.fact 35 (f := .free "ValueError") rfl)
theorem Txt.f_bool (T : Txt K mg) : mg "bool" = none := by obtain ⟨h, a, b⟩ := T.top; exact He.free_ok a b (T.says.fact 36 (f := .free "bool") rfl)
theorem Txt.f_int (T : Txt K mg) : mg "int" = none := by obtain ⟨h, a, b⟩ := T.top; exact He.free_ok a b (T.says.fact 37 (f := .free "int") rfl)
theorem Txt.f_isinstance (T : Txt K mg) : mg "isinstance" = none := by obtain ⟨h, a, b⟩ := T.top; exact He.free_ok a b (T.says.fact 38 (f := .free "isinstance") rfl)
theorem Txt.f_len (T : Txt K mg) : mg "len" = none := by obtain ⟨h, a, b⟩ := T.top; exact He.free_ok a b (T.says.fact 39 (f := .free "len") rfl)
theorem Txt.f_list (T : Txt K mg) : mg "list" = none := by obtain ⟨h, a, b⟩ := T.top; exact He.free_ok a b (T.says.fact 40 (f := .free "list") rfl)
theorem Txt.f_range (T : Txt K mg) : mg "range" = none := by obtain ⟨h, a, b⟩ := T.top; exact He.free_ok a b (T.says.fact 41 (f := .free "range") rfl)
theorem Txt.f_repr (T : Txt K mg) : mg "repr" = none := by obtain ⟨h, a, b⟩ := T.top; exact He.free_ok a b (T.says.fact 42 (f := .free "repr") rfl)
theorem Txt.f_str (T : Txt K mg) : mg "str" = none := by obtain ⟨h, a, b⟩ := T.top; exact He.free_ok a b (T.says.fact 43 (f := .free "str") rfl)
theorem Txt.f_tuple (T : Txt K mg) : mg "tuple" = none := by obtain ⟨h, a, b⟩ := T.top; exact He.free_ok a b (T.says.fact 44 (f := .free "tuple") rfl)
theorem Txt.m_LogError_init (T : Txt K mg) : Meth K (He.ga K "LogError") "__init__" (He.ma K (He.ga K "LogError") "__init__") := He.meth_ok (T.says.fact 45 (f := .meth "LogError" "__init__") rfl)
theorem Txt.m_BadLayout_init (T : Txt K mg) : Meth K (He.ga K "BadLayout") "__init__" (He.ma K (He.ga K "BadLayout") "__init__") := He.meth_ok (T.says.fact 46 (f := .meth "BadLayout" "__init__") rfl)
theorem Txt.m_BadBlock_init (T : Txt K mg) : Meth K (He.ga K "BadBlock") "__init__" (He.ma K (He.ga K "BadBlock") "__init__") := He.meth_ok (T.says.fact 47 (f := .meth "BadBlock" "__init__") rfl)
theorem Txt.m_BadValue_init (T : Txt K mg) : Meth K (He.ga K "BadValue") "__init__" (He.ma K (He.ga K "BadValue") "__init__") := He.meth_ok (T.says.fact 48 (f := .meth "BadValue" "__init__") rfl)
theorem Txt.m_BadCount_init (T : Txt K mg) : Meth K (He.ga K "BadCount") "__init__" (He.ma K (He.ga K "BadCount") "__init__") := He.meth_ok (T.says.fact 49 (f := .meth "BadCount" "__init__") rfl)
theorem Txt.m_BadChoice_init (T : Txt K mg) : Meth K (He.ga K "BadChoice") "__init__" (He.ma K (He.ga K "BadChoice") "__init__") := He.meth_ok (T.says.fact 50 (f := .meth "BadChoice" "__init__") rfl)
theorem Txt.m_TooMany_init (T : Txt K mg) : Meth K (He.ga K "TooMany") "__init__" (He.ma K (He.ga K "TooMany") "__init__") := He.meth_ok (T.says.fact 51 (f := .meth "TooMany" "__init__") rfl)
theorem Txt.m_NoSpace_init (T : Txt K mg) : Meth K (He.ga K "NoSpace") "__init__" (He.ma K (He.ga K "NoSpace") "__init__") := He.meth_ok (T.says.fact 52 (f := .meth "NoSpace" "__init__") rfl)
theorem Txt.m_BadPath_init (T : Txt K mg) : Meth K (He.ga K "BadPath") "__init__" (He.ma K (He.ga K "BadPath") "__init__") := He.meth_ok (T.says.fact 53 (f := .meth "BadPath" "__init__") rfl)
theorem Txt.m_NoEntry_init (T : Txt K mg) : Meth K (He.ga K "NoEntry") "__init__" (He.ma K (He.ga K "NoEntry") "__init__") := He.meth_ok (T.says.fact 54 (f := .meth "NoEntry" "__init__") rfl)
theorem Txt.m_HasEntry_init (T : Txt K mg) : Meth K (He.ga K "HasEntry") "__init__" (He.ma K (He.ga K "HasEntry") "__init__") := He.meth_ok (T.says.fact 55 (f := .meth "HasEntry" "__init__") rfl)
theorem Txt.m_NotEmpty_init (T : Txt K mg) : Meth K (He.ga K "NotEmpty") "__init__" (He.ma K (He.ga K "NotEmpty") "__init__") := He.meth_ok (T.says.fact 56 (f := .meth "NotEmpty" "__init__") rfl)
theorem Txt.m_NoRoom_init (T : Txt K mg) : Meth K (He.ga K "NoRoom") "__init__" (He.ma K (He.ga K "NoRoom") "__init__") := He.meth_ok (T.says.fact 57 (f := .meth "NoRoom" "__init__") rfl)
theorem Txt.m_BadRule_init (T : Txt K mg) : Meth K (He.ga K "BadRule") "__init__" (He.ma K (He.ga K "BadRule") "__init__") := He.meth_ok (T.says.fact 58 (f := .meth "BadRule" "__init__") rfl)
theorem Txt.m_BadStep_init (T : Txt K mg) : Meth K (He.ga K "BadStep") "__init__" (He.ma K (He.ga K "BadStep") "__init__") := He.meth_ok (T.says.fact 59 (f := .meth "BadStep" "__init__") rfl)
theorem Txt.c_Disk (T : Txt K mg) : Cls K (He.ga K "Disk") := He.cls_ok (T.says.fact 60 (f := .cls "Disk") rfl)
theorem Txt.k_Disk (T : Txt K mg) : Mk K (He.ga K "Disk") (He.ma K (He.ga K "Disk") "__init__") := He.mkr_ok (T.says.fact 61 (f := .mkr "Disk") rfl)
theorem Txt.m_Disk_init (T : Txt K mg) : Meth K (He.ga K "Disk") "__init__" (He.ma K (He.ga K "Disk") "__init__") := He.meth_ok (T.says.fact 62 (f := .meth "Disk" "__init__") rfl)
theorem Txt.m_Disk_begin (T : Txt K mg) : Meth K (He.ga K "Disk") "_begin" (He.ma K (He.ga K "Disk") "_begin") := He.meth_ok (T.says.fact 63 (f := .meth "Disk" "_begin") rfl)
theorem Txt.m_Disk_blocks (T : Txt K mg) : Meth K (He.ga K "Disk") "blocks" (He.ma K (He.ga K "Disk") "blocks") := He.meth_ok (T.says.fact 64 (f := .meth "Disk" "blocks") rfl)
theorem Txt.m_Disk_read (T : Txt K mg) : Meth K (He.ga K "Disk") "read" (He.ma K (He.ga K "Disk") "read") := He.meth_ok (T.says.fact 65 (f := .meth "Disk" "read") rfl)
theorem Txt.m_Disk_write (T : Txt K mg) : Meth K (He.ga K "Disk") "write" (He.ma K (He.ga K "Disk") "write") := He.meth_ok (T.says.fact 66 (f := .meth "Disk" "write") rfl)
theorem Txt.m_Disk_flush (T : Txt K mg) : Meth K (He.ga K "Disk") "flush" (He.ma K (He.ga K "Disk") "flush") := He.meth_ok (T.says.fact 67 (f := .meth "Disk" "flush") rfl)
theorem Txt.m_Disk_pending (T : Txt K mg) : Meth K (He.ga K "Disk") "pending" (He.ma K (He.ga K "Disk") "pending") := He.meth_ok (T.says.fact 68 (f := .meth "Disk" "pending") rfl)
theorem Txt.m_Disk_durable (T : Txt K mg) : Meth K (He.ga K "Disk") "durable" (He.ma K (He.ga K "Disk") "durable") := He.meth_ok (T.says.fact 69 (f := .meth "Disk" "durable") rfl)
theorem Txt.m_Disk_events (T : Txt K mg) : Meth K (He.ga K "Disk") "events" (He.ma K (He.ga K "Disk") "events") := He.meth_ok (T.says.fact 70 (f := .meth "Disk" "events") rfl)
theorem Txt.m_Disk_after (T : Txt K mg) : Meth K (He.ga K "Disk") "after" (He.ma K (He.ga K "Disk") "after") := He.meth_ok (T.says.fact 71 (f := .meth "Disk" "after") rfl)
theorem Txt.m_Disk_crashed (T : Txt K mg) : Meth K (He.ga K "Disk") "crashed" (He.ma K (He.ga K "Disk") "crashed") := He.meth_ok (T.says.fact 72 (f := .meth "Disk" "crashed") rfl)
theorem Txt.m_Disk_check_block (T : Txt K mg) : Meth K (He.ga K "Disk") "_check_block" (He.ma K (He.ga K "Disk") "_check_block") := He.meth_ok (T.says.fact 73 (f := .meth "Disk" "_check_block") rfl)
theorem Txt.m_Disk_check_choice (T : Txt K mg) : Meth K (He.ga K "Disk") "_check_choice" (He.ma K (He.ga K "Disk") "_check_choice") := He.meth_ok (T.says.fact 74 (f := .meth "Disk" "_check_choice") rfl)
theorem Txt.n_Disk_first (T : Txt K mg) : NoAttr K (He.ga K "Disk") "_first" := He.noat_ok (T.says.fact 75 (f := .noat "Disk" "_first") rfl)
theorem Txt.n_Disk_settled (T : Txt K mg) : NoAttr K (He.ga K "Disk") "_settled" := He.noat_ok (T.says.fact 76 (f := .noat "Disk" "_settled") rfl)
theorem Txt.n_Disk_newest (T : Txt K mg) : NoAttr K (He.ga K "Disk") "_newest" := He.noat_ok (T.says.fact 77 (f := .noat "Disk" "_newest") rfl)
theorem Txt.n_Disk_waiting (T : Txt K mg) : NoAttr K (He.ga K "Disk") "_waiting" := He.noat_ok (T.says.fact 78 (f := .noat "Disk" "_waiting") rfl)
theorem Txt.n_Disk_done (T : Txt K mg) : NoAttr K (He.ga K "Disk") "_done" := He.noat_ok (T.says.fact 79 (f := .noat "Disk" "_done") rfl)
theorem Txt.x_BadLayout (T : Txt K mg) : GL.ErrC K "LogError" errs "BadLayout" ∧ ∀ f ∈ ([] : List Str), PySem.W.findIn K (.ref (He.ga K "BadLayout")) f = some none := GL.errB_at (p := ("BadLayout", [])) T.err (List.mem_of_getElem? (i := 0) rfl)
theorem Txt.x_BadBlock (T : Txt K mg) : GL.ErrC K "LogError" errs "BadBlock" ∧ ∀ f ∈ (["block"] : List Str), PySem.W.findIn K (.ref (He.ga K "BadBlock")) f = some none := GL.errB_at (p := ("BadBlock", ["block"])) T.err (List.mem_of_getElem? (i := 1) rfl)
theorem Txt.x_BadValue (T : Txt K mg) : GL.ErrC K "LogError" errs "BadValue" ∧ ∀ f ∈ ([] : List Str), PySem.W.findIn K (.ref (He.ga K "BadValue")) f = some none := GL.errB_at (p := ("BadValue", [])) T.err (List.mem_of_getElem? (i := 2) rfl)
theorem Txt.x_BadCount (T : Txt K mg) : GL.ErrC K "LogError" errs "BadCount" ∧ ∀ f ∈ (["count"] : List Str), PySem.W.findIn K (.ref (He.ga K "BadCount")) f = some none := GL.errB_at (p := ("BadCount", ["count"])) T.err (List.mem_of_getElem? (i := 3) rfl)
theorem Txt.x_BadChoice (T : Txt K mg) : GL.ErrC K "LogError" errs "BadChoice" ∧ ∀ f ∈ (["at"] : List Str), PySem.W.findIn K (.ref (He.ga K "BadChoice")) f = some none := GL.errB_at (p := ("BadChoice", ["at"])) T.err (List.mem_of_getElem? (i := 4) rfl)
theorem Txt.x_TooMany (T : Txt K mg) : GL.ErrC K "LogError" errs "TooMany" ∧ ∀ f ∈ (["limit"] : List Str), PySem.W.findIn K (.ref (He.ga K "TooMany")) f = some none := GL.errB_at (p := ("TooMany", ["limit"])) T.err (List.mem_of_getElem? (i := 5) rfl)
theorem Txt.x_NoSpace (T : Txt K mg) : GL.ErrC K "LogError" errs "NoSpace" ∧ ∀ f ∈ (["needed", "free"] : List Str), PySem.W.findIn K (.ref (He.ga K "NoSpace")) f = some none := GL.errB_at (p := ("NoSpace", ["needed", "free"])) T.err (List.mem_of_getElem? (i := 6) rfl)
theorem Txt.x_BadPath (T : Txt K mg) : GL.ErrC K "LogError" errs "BadPath" ∧ ∀ f ∈ (["path"] : List Str), PySem.W.findIn K (.ref (He.ga K "BadPath")) f = some none := GL.errB_at (p := ("BadPath", ["path"])) T.err (List.mem_of_getElem? (i := 7) rfl)
theorem Txt.x_NoEntry (T : Txt K mg) : GL.ErrC K "LogError" errs "NoEntry" ∧ ∀ f ∈ (["path"] : List Str), PySem.W.findIn K (.ref (He.ga K "NoEntry")) f = some none := GL.errB_at (p := ("NoEntry", ["path"])) T.err (List.mem_of_getElem? (i := 8) rfl)
theorem Txt.x_HasEntry (T : Txt K mg) : GL.ErrC K "LogError" errs "HasEntry" ∧ ∀ f ∈ (["path"] : List Str), PySem.W.findIn K (.ref (He.ga K "HasEntry")) f = some none := GL.errB_at (p := ("HasEntry", ["path"])) T.err (List.mem_of_getElem? (i := 9) rfl)
theorem Txt.x_NotEmpty (T : Txt K mg) : GL.ErrC K "LogError" errs "NotEmpty" ∧ ∀ f ∈ (["path"] : List Str), PySem.W.findIn K (.ref (He.ga K "NotEmpty")) f = some none := GL.errB_at (p := ("NotEmpty", ["path"])) T.err (List.mem_of_getElem? (i := 10) rfl)
theorem Txt.x_NoRoom (T : Txt K mg) : GL.ErrC K "LogError" errs "NoRoom" ∧ ∀ f ∈ (["needed", "free"] : List Str), PySem.W.findIn K (.ref (He.ga K "NoRoom")) f = some none := GL.errB_at (p := ("NoRoom", ["needed", "free"])) T.err (List.mem_of_getElem? (i := 11) rfl)
theorem Txt.x_BadRule (T : Txt K mg) : GL.ErrC K "LogError" errs "BadRule" ∧ ∀ f ∈ (["rule"] : List Str), PySem.W.findIn K (.ref (He.ga K "BadRule")) f = some none := GL.errB_at (p := ("BadRule", ["rule"])) T.err (List.mem_of_getElem? (i := 12) rfl)
theorem Txt.x_BadStep (T : Txt K mg) : GL.ErrC K "LogError" errs "BadStep" ∧ ∀ f ∈ (["at"] : List Str), PySem.W.findIn K (.ref (He.ga K "BadStep")) f = some none := GL.errB_at (p := ("BadStep", ["at"])) T.err (List.mem_of_getElem? (i := 13) rfl)
theorem Txt.def_LogError_init (T : Txt K mg) : ∃ fd, FunD K "__init__" "LogError.__init__" (defArgs s_LogError_init) (defBody s_LogError_init) (defScope s_LogError_init) [] [] (He.fAd K ("LogError", some "__init__")) fd := T.says.def_ 0 (d := d_LogError_init) rfl
theorem Txt.def_BadLayout_init (T : Txt K mg) : ∃ fd, FunD K "__init__" "BadLayout.__init__" (defArgs s_BadLayout_init) (defBody s_BadLayout_init) (defScope s_BadLayout_init) [] [] (He.fAd K ("BadLayout", some "__init__")) fd := T.says.def_ 1 (d := d_BadLayout_init) rfl
theorem Txt.def_BadBlock_init (T : Txt K mg) : ∃ fd, FunD K "__init__" "BadBlock.__init__" (defArgs s_BadBlock_init) (defBody s_BadBlock_init) (defScope s_BadBlock_init) [] [] (He.fAd K ("BadBlock", some "__init__")) fd := T.says.def_ 2 (d := d_BadBlock_init) rfl
theorem Txt.def_BadValue_init (T : Txt K mg) : ∃ fd, FunD K "__init__" "BadValue.__init__" (defArgs s_BadValue_init) (defBody s_BadValue_init) (defScope s_BadValue_init) [.str "not a valid value"] [] (He.fAd K ("BadValue", some "__init__")) fd := T.says.def_ 3 (d := d_BadValue_init) rfl
theorem Txt.def_BadCount_init (T : Txt K mg) : ∃ fd, FunD K "__init__" "BadCount.__init__" (defArgs s_BadCount_init) (defBody s_BadCount_init) (defScope s_BadCount_init) [] [] (He.fAd K ("BadCount", some "__init__")) fd := T.says.def_ 4 (d := d_BadCount_init) rfl
theorem Txt.def_BadChoice_init (T : Txt K mg) : ∃ fd, FunD K "__init__" "BadChoice.__init__" (defArgs s_BadChoice_init) (defBody s_BadChoice_init) (defScope s_BadChoice_init) [] [] (He.fAd K ("BadChoice", some "__init__")) fd := T.says.def_ 5 (d := d_BadChoice_init) rfl
theorem Txt.def_TooMany_init (T : Txt K mg) : ∃ fd, FunD K "__init__" "TooMany.__init__" (defArgs s_TooMany_init) (defBody s_TooMany_init) (defScope s_TooMany_init) [] [] (He.fAd K ("TooMany", some "__init__")) fd := T.says.def_ 6 (d := d_TooMany_init) rfl
theorem Txt.def_NoSpace_init (T : Txt K mg) : ∃ fd, FunD K "__init__" "NoSpace.__init__" (defArgs s_NoSpace_init) (defBody s_NoSpace_init) (defScope s_NoSpace_init) [] [] (He.fAd K ("NoSpace", some "__init__")) fd := T.says.def_ 7 (d := d_NoSpace_init) rfl
theorem Txt.def_BadPath_init (T : Txt K mg) : ∃ fd, FunD K "__init__" "BadPath.__init__" (defArgs s_BadPath_init) (defBody s_BadPath_init) (defScope s_BadPath_init) [] [] (He.fAd K ("BadPath", some "__init__")) fd := T.says.def_ 8 (d := d_BadPath_init) rfl
theorem Txt.def_NoEntry_init (T : Txt K mg) : ∃ fd, FunD K "__init__" "NoEntry.__init__" (defArgs s_NoEntry_init) (defBody s_NoEntry_init) (defScope s_NoEntry_init) [] [] (He.fAd K ("NoEntry", some "__init__")) fd := T.says.def_ 9 (d := d_NoEntry_init) rfl
theorem Txt.def_HasEntry_init (T : Txt K mg) : ∃ fd, FunD K "__init__" "HasEntry.__init__" (defArgs s_HasEntry_init) (defBody s_HasEntry_init) (defScope s_HasEntry_init) [] [] (He.fAd K ("HasEntry", some "__init__")) fd := T.says.def_ 10 (d := d_HasEntry_init) rfl
theorem Txt.def_NotEmpty_init (T : Txt K mg) : ∃ fd, FunD K "__init__" "NotEmpty.__init__" (defArgs s_NotEmpty_init) (defBody s_NotEmpty_init) (defScope s_NotEmpty_init) [] [] (He.fAd K ("NotEmpty", some "__init__")) fd := T.says.def_ 11 (d := d_NotEmpty_init) rfl
theorem Txt.def_NoRoom_init (T : Txt K mg) : ∃ fd, FunD K "__init__" "NoRoom.__init__" (defArgs s_NoRoom_init) (defBody s_NoRoom_init) (defScope s_NoRoom_init) [] [] (He.fAd K ("NoRoom", some "__init__")) fd := T.says.def_ 12 (d := d_NoRoom_init) rfl
theorem Txt.def_BadRule_init (T : Txt K mg) : ∃ fd, FunD K "__init__" "BadRule.__init__" (defArgs s_BadRule_init) (defBody s_BadRule_init) (defScope s_BadRule_init) [] [] (He.fAd K ("BadRule", some "__init__")) fd := T.says.def_ 13 (d := d_BadRule_init) rfl
theorem Txt.def_BadStep_init (T : Txt K mg) : ∃ fd, FunD K "__init__" "BadStep.__init__" (defArgs s_BadStep_init) (defBody s_BadStep_init) (defScope s_BadStep_init) [] [] (He.fAd K ("BadStep", some "__init__")) fd := T.says.def_ 14 (d := d_BadStep_init) rfl
theorem Txt.def_is_integer (T : Txt K mg) : ∃ fd, FunD K "is_integer" "is_integer" (defArgs s_is_integer) (defBody s_is_integer) (defScope s_is_integer) [] [] (He.fAd K ("is_integer", none)) fd := T.says.def_ 15 (d := d_is_integer) rfl
theorem Txt.def_is_between (T : Txt K mg) : ∃ fd, FunD K "is_between" "is_between" (defArgs s_is_between) (defBody s_is_between) (defScope s_is_between) [] [] (He.fAd K ("is_between", none)) fd := T.says.def_ 16 (d := d_is_between) rfl
theorem Txt.def_is_value (T : Txt K mg) : ∃ fd, FunD K "is_value" "is_value" (defArgs s_is_value) (defBody s_is_value) (defScope s_is_value) [] [] (He.fAd K ("is_value", none)) fd := T.says.def_ 17 (d := d_is_value) rfl
theorem Txt.def_Disk_init (T : Txt K mg) : ∃ fd, FunD K "__init__" "Disk.__init__" (defArgs s_Disk_init) (defBody s_Disk_init) (defScope s_Disk_init) [] [] (He.fAd K ("Disk", some "__init__")) fd := T.says.def_ 18 (d := d_Disk_init) rfl
theorem Txt.def_Disk_begin (T : Txt K mg) : ∃ fd, FunD K "_begin" "Disk._begin" (defArgs s_Disk_begin) (defBody s_Disk_begin) (defScope s_Disk_begin) [] [] (He.fAd K ("Disk", some "_begin")) fd := T.says.def_ 19 (d := d_Disk_begin) rfl
theorem Txt.def_Disk_blocks (T : Txt K mg) : ∃ fd, FunD K "blocks" "Disk.blocks" (defArgs s_Disk_blocks) (defBody s_Disk_blocks) (defScope s_Disk_blocks) [] [] (He.fAd K ("Disk", some "blocks")) fd := T.says.def_ 20 (d := d_Disk_blocks) rfl
theorem Txt.def_Disk_read (T : Txt K mg) : ∃ fd, FunD K "read" "Disk.read" (defArgs s_Disk_read) (defBody s_Disk_read) (defScope s_Disk_read) [] [] (He.fAd K ("Disk", some "read")) fd := T.says.def_ 21 (d := d_Disk_read) rfl
theorem Txt.def_Disk_write (T : Txt K mg) : ∃ fd, FunD K "write" "Disk.write" (defArgs s_Disk_write) (defBody s_Disk_write) (defScope s_Disk_write) [] [] (He.fAd K ("Disk", some "write")) fd := T.says.def_ 22 (d := d_Disk_write) rfl
theorem Txt.def_Disk_flush (T : Txt K mg) : ∃ fd, FunD K "flush" "Disk.flush" (defArgs s_Disk_flush) (defBody s_Disk_flush) (defScope s_Disk_flush) [] [] (He.fAd K ("Disk", some "flush")) fd := T.says.def_ 23 (d := d_Disk_flush) rfl
theorem Txt.def_Disk_pending (T : Txt K mg) : ∃ fd, FunD K "pending" "Disk.pending" (defArgs s_Disk_pending) (defBody s_Disk_pending) (defScope s_Disk_pending) [] [] (He.fAd K ("Disk", some "pending")) fd := T.says.def_ 24 (d := d_Disk_pending) rfl
theorem Txt.def_Disk_durable (T : Txt K mg) : ∃ fd, FunD K "durable" "Disk.durable" (defArgs s_Disk_durable) (defBody s_Disk_durable) (defScope s_Disk_durable) [] [] (He.fAd K ("Disk", some "durable")) fd := T.says.def_ 25 (d := d_Disk_durable) rfl
theorem Txt.def_Disk_events (T : Txt K mg) : ∃ fd, FunD K "events" "Disk.events" (defArgs s_Disk_events) (defBody s_Disk_events) (defScope s_Disk_events) [] [] (He.fAd K ("Disk", some "events")) fd := T.says.def_ 26 (d := d_Disk_events) rfl
theorem Txt.def_Disk_after (T : Txt K mg) : ∃ fd, FunD K "after" "Disk.after" (defArgs s_Disk_after) (defBody s_Disk_after) (defScope s_Disk_after) [] [] (He.fAd K ("Disk", some "after")) fd := T.says.def_ 27 (d := d_Disk_after) rfl
theorem Txt.def_Disk_crashed (T : Txt K mg) : ∃ fd, FunD K "crashed" "Disk.crashed" (defArgs s_Disk_crashed) (defBody s_Disk_crashed) (defScope s_Disk_crashed) [] [] (He.fAd K ("Disk", some "crashed")) fd := T.says.def_ 28 (d := d_Disk_crashed) rfl
theorem Txt.def_Disk_check_block (T : Txt K mg) : ∃ fd, FunD K "_check_block" "Disk._check_block" (defArgs s_Disk_check_block) (defBody s_Disk_check_block) (defScope s_Disk_check_block) [] [] (He.fAd K ("Disk", some "_check_block")) fd := T.says.def_ 29 (d := d_Disk_check_block) rfl
theorem Txt.def_Disk_check_choice (T : Txt K mg) : ∃ fd, FunD K "_check_choice" "Disk._check_choice" (defArgs s_Disk_check_choice) (defBody s_Disk_check_choice) (defScope s_Disk_check_choice) [] [] (He.fAd K ("Disk", some "_check_choice")) fd := T.says.def_ 30 (d := d_Disk_check_choice) rfl
theorem Txt.def_l_cell_at (T : Txt K mg) : ∃ fd, FunD K "_law_cell_at" "_law_cell_at" (defArgs s_l_cell_at) (defBody s_l_cell_at) (defScope s_l_cell_at) [] [] (He.fAd K ("_law_cell_at", none)) fd := T.says.def_ 31 (d := d_l_cell_at) rfl
theorem Txt.def_l_well (T : Txt K mg) : ∃ fd, FunD K "_law_well" "_law_well" (defArgs s_l_well) (defBody s_l_well) (defScope s_l_well) [] [] (He.fAd K ("_law_well", none)) fd := T.says.def_ 32 (d := d_l_well) rfl
theorem Txt.def_l_draw (T : Txt K mg) : ∃ fd, FunD K "_law_draw" "_law_draw" (defArgs s_l_draw) (defBody s_l_draw) (defScope s_l_draw) [] [] (He.fAd K ("_law_draw", none)) fd := T.says.def_ 33 (d := d_l_draw) rfl
theorem Txt.def_l_one (T : Txt K mg) : ∃ fd, FunD K "_law_one" "_law_one" (defArgs s_l_one) (defBody s_l_one) (defScope s_l_one) [] [] (He.fAd K ("_law_one", none)) fd := T.says.def_ 34 (d := d_l_one) rfl
theorem Txt.def_l_value (T : Txt K mg) : ∃ fd, FunD K "_law_value" "_law_value" (defArgs s_l_value) (defBody s_l_value) (defScope s_l_value) [] [] (He.fAd K ("_law_value", none)) fd := T.says.def_ 35 (d := d_l_value) rfl
theorem Txt.def_l_classes_of (T : Txt K mg) : ∃ fd, FunD K "_law_classes_of" "_law_classes_of" (defArgs s_l_classes_of) (defBody s_l_classes_of) (defScope s_l_classes_of) [] [] (He.fAd K ("_law_classes_of", none)) fd := T.says.def_ 36 (d := d_l_classes_of) rfl
theorem Txt.def_l_odd_value (T : Txt K mg) : ∃ fd, FunD K "_law_odd_value" "_law_odd_value" (defArgs s_l_odd_value) (defBody s_l_odd_value) (defScope s_l_odd_value) [] [] (He.fAd K ("_law_odd_value", none)) fd := T.says.def_ 37 (d := d_l_odd_value) rfl
theorem Txt.def_l_told (T : Txt K mg) : ∃ fd, FunD K "_law_told" "_law_told" (defArgs s_l_told) (defBody s_l_told) (defScope s_l_told) [] [] (He.fAd K ("_law_told", none)) fd := T.says.def_ 38 (d := d_l_told) rfl
theorem Txt.def_l_is_block (T : Txt K mg) : ∃ fd, FunD K "_law_is_block" "_law_is_block" (defArgs s_l_is_block) (defBody s_l_is_block) (defScope s_l_is_block) [] [] (He.fAd K ("_law_is_block", none)) fd := T.says.def_ 39 (d := d_l_is_block) rfl
theorem Txt.def_l_done (T : Txt K mg) : ∃ fd, FunD K "_law_done" "_law_done" (defArgs s_l_done) (defBody s_l_done) (defScope s_l_done) [] [] (He.fAd K ("_law_done", none)) fd := T.says.def_ 40 (d := d_l_done) rfl
theorem Txt.def_l_step (T : Txt K mg) : ∃ fd, FunD K "_law_step" "_law_step" (defArgs s_l_step) (defBody s_l_step) (defScope s_l_step) [] [] (He.fAd K ("_law_step", none)) fd := T.says.def_ 41 (d := d_l_step) rfl
theorem Txt.def_l_stands (T : Txt K mg) : ∃ fd, FunD K "_law_stands" "_law_stands" (defArgs s_l_stands) (defBody s_l_stands) (defScope s_l_stands) [] [] (He.fAd K ("_law_stands", none)) fd := T.says.def_ 42 (d := d_l_stands) rfl
theorem Txt.def_l_bad_size (T : Txt K mg) : ∃ fd, FunD K "_law_bad_size" "_law_bad_size" (defArgs s_l_bad_size) (defBody s_l_bad_size) (defScope s_l_bad_size) [] [] (He.fAd K ("_law_bad_size", none)) fd := T.says.def_ 43 (d := d_l_bad_size) rfl
theorem Txt.def_law (T : Txt K mg) : ∃ fd, FunD K "law" "law" (defArgs s_law) (defBody s_law) (defScope s_law) [] [] (He.fAd K ("law", none)) fd := T.says.def_ 44 (d := d_law) rfl
end

/-! ## errors -/
theorem g_LogError_init {c : Bool} {P : Program} {w : World} {K : PySem.W.Frag} {mg : Str → Option Value} {base : Heap} (T : Txt K mg) : GL.GD c P w K mg base "LogError" "__init__" 1 (spLE K) := by
  obtain ⟨fd, F⟩ := T.def_LogError_init
  have hb : Binds K fd ["self", "why"] [] := F.bindsN (fun _ _ _ _ _ _ us hl => match us, hl with | [_, _], _ => rfl)
  have hf : GL.Fn c P w K mg base 1 (He.fAd K ("LogError", some "__init__")) fd ["self", "why"] (spLE K) := by
    refine GL.fn_def (k := 0) F sc_LogError_init ?len ?body
    case len => intro vs H Q E h; obtain ⟨_,_,_,rfl,_⟩ := h; rfl
    case body =>
      intro cdv A outer s H vs Q E hr h
      refine ⟨_, (pss_cons (ps_expr (pe_veinit rfl T.f_ValueError T.ve (pa_cons (pv 0) (pa_cons (pv 1) pa_nil))))
  (pss_one (ps_ost (pv 0) (pv 1)))), ?_⟩
      obtain ⟨a, C, v, rfl, hC, hw, ha, k⟩ := h
      exact ⟨_, rfl, _, rfl, a, C, [v], rfl, by simp, hC, ha, _, rfl, _, rfl, a, C, rfl, hC, hw, .inl ⟨ha, fun dx h1 h2 => k dx h1 h2⟩⟩
  exact ⟨_, _, GL.Held.plain hf hb, T.g_LogError, GL.errB_base T.err⟩
theorem g_BadBlock_init {c : Bool} {P : Program} {w : World} {K : PySem.W.Frag} {mg : Str → Option Value} {base : Heap} (T : Txt K mg) : GL.GX c P w K mg base "BadBlock" (He.ga K "BadBlock") 2 (spX K (He.ga K "BadBlock") (mk1 "block" "not a valid block, slot or home")) := by
  obtain ⟨fd, F⟩ := T.def_BadBlock_init
  have hb : Binds K fd ["self", "block"] [] := F.bindsN (fun _ _ _ _ _ _ us hl => match us, hl with | [_, _], _ => rfl)
  have hf : GL.Fn c P w K mg base 2 (He.fAd K ("BadBlock", some "__init__")) fd ["self", "block"] (spX K (He.ga K "BadBlock") (mk1 "block" "not a valid block, slot or home")) := by
    refine GL.fn_def (k := 1) F sc_BadBlock_init ?len ?body
    case len => intro vs H Q E h; exact len1 h
    case body =>
      intro cdv A outer s H vs Q E hr h
      exact ⟨_, (pss_cons (ps_expr (GL.ge_clsm (g_LogError_init T) hr GL.tk_top rfl (pa_cons (pv 0) (pa_cons pe_str pa_nil))))
  (pss_one (ps_ost (pv 0) (pv 1)))), err1 T.x_BadBlock.1.oex (T.x_BadBlock.2 _ (by simp)) T.x_BadBlock.1.why h⟩
  exact ⟨_, GL.Held.plain hf hb, T.x_BadBlock.1.oex, T.g_BadBlock, (T.m_BadBlock_init).1, beq_iff_eq.mp (T.m_BadBlock_init).2⟩
theorem fn_BadValue_init {c : Bool} {P : Program} {w : World} {K : PySem.W.Frag} {mg : Str → Option Value} {base : Heap} (T : Txt K mg) : ∃ fd, FunD K "__init__" "BadValue.__init__" (defArgs s_BadValue_init) (defBody s_BadValue_init) (defScope s_BadValue_init) [.str "not a valid value"] [] (He.fAd K ("BadValue", some "__init__")) fd ∧ GL.Fn c P w K mg base 2 (He.fAd K ("BadValue", some "__init__")) fd ["self", "why"] (spX K (He.ga K "BadValue") mkW) := by
  obtain ⟨fd, F⟩ := T.def_BadValue_init
  have hf : GL.Fn c P w K mg base 2 (He.fAd K ("BadValue", some "__init__")) fd ["self", "why"] (spX K (He.ga K "BadValue") mkW) := by
    refine GL.fn_def (k := 1) F sc_BadValue_init ?len ?body
    case len => intro vs H Q E h; exact lenW h
    case body =>
      intro cdv A outer s H vs Q E hr h
      exact ⟨_, (pss_one (ps_expr (GL.ge_clsm (g_LogError_init T) hr GL.tk_top rfl (pa_cons (pv 0) (pa_cons (pv 1) pa_nil))))), errW T.x_BadValue.1.oex T.x_BadValue.1.why h⟩
  exact ⟨fd, F, hf⟩
theorem g_BadValue_init0 {c : Bool} {P : Program} {w : World} {K : PySem.W.Frag} {mg : Str → Option Value} {base : Heap} (T : Txt K mg) : GL.GX c P w K mg base "BadValue" (He.ga K "BadValue") 2 (spX K (He.ga K "BadValue") (mkW0 "not a valid value")) := by
  obtain ⟨fd, F, hf⟩ := fn_BadValue_init (c := c) (P := P) (w := w) (base := base) T
  obtain ⟨ds, rd, hb⟩ := F.binds1 (ps := ["self", "why"]) 1 0 (by simp) rfl (fun _ _ _ _ _ _ _ us its hu hi => match us, its, hu, hi with | [_], [_], _, _ => ⟨_, rfl, rfl⟩)
  exact ⟨_, ⟨fd, _, ds, _, _, hf, hb, rd, fun vs H Q E h => mkW0_W h⟩, T.x_BadValue.1.oex, T.g_BadValue, (T.m_BadValue_init).1, beq_iff_eq.mp (T.m_BadValue_init).2⟩
theorem g_BadValue_init {c : Bool} {P : Program} {w : World} {K : PySem.W.Frag} {mg : Str → Option Value} {base : Heap} (T : Txt K mg) : GL.GX c P w K mg base "BadValue" (He.ga K "BadValue") 2 (spX K (He.ga K "BadValue") mkW) := by
  obtain ⟨fd, F, hf⟩ := fn_BadValue_init (c := c) (P := P) (w := w) (base := base) T
  obtain ⟨ds, rd, hb⟩ := F.binds1 (ps := ["self", "why"]) 2 1 (by simp) rfl (fun _ _ _ _ _ _ _ us its hu hi => match us, its, hu, hi with | [_, _], [_], _, _ => ⟨_, rfl, rfl⟩)
  exact ⟨_, ⟨fd, _, ds, _, _, hf, hb, rd, fun vs H Q E h => by rw [show (List.drop 1 ([.str "not a valid value"] : List V)) = [] from rfl, List.append_nil]; exact h⟩, T.x_BadValue.1.oex, T.g_BadValue, (T.m_BadValue_init).1, beq_iff_eq.mp (T.m_BadValue_init).2⟩
theorem g_BadCount_init {c : Bool} {P : Program} {w : World} {K : PySem.W.Frag} {mg : Str → Option Value} {base : Heap} (T : Txt K mg) : GL.GX c P w K mg base "BadCount" (He.ga K "BadCount") 2 (spX K (He.ga K "BadCount") (mk1 "count" "not an integer in the range asked for")) := by
  obtain ⟨fd, F⟩ := T.def_BadCount_init
  have hb : Binds K fd ["self", "count"] [] := F.bindsN (fun _ _ _ _ _ _ us hl => match us, hl with | [_, _], _ => rfl)
  have hf : GL.Fn c P w K mg base 2 (He.fAd K ("BadCount", some "__init__")) fd ["self", "count"] (spX K (He.ga K "BadCount") (mk1 "count" "not an integer in the range asked for")) := by
    refine GL.fn_def (k := 1) F sc_BadCount_init ?len ?body
    case len => intro vs H Q E h; exact len1 h
    case body =>
      intro cdv A outer s H vs Q E hr h
      exact ⟨_, (pss_cons (ps_expr (GL.ge_clsm (g_LogError_init T) hr GL.tk_top rfl (pa_cons (pv 0) (pa_cons pe_str pa_nil))))
  (pss_one (ps_ost (pv 0) (pv 1)))), err1 T.x_BadCount.1.oex (T.x_BadCount.2 _ (by simp)) T.x_BadCount.1.why h⟩
  exact ⟨_, GL.Held.plain hf hb, T.x_BadCount.1.oex, T.g_BadCount, (T.m_BadCount_init).1, beq_iff_eq.mp (T.m_BadCount_init).2⟩

/-! ## values -/
theorem g_is_integer {c : Bool} {P : Program} {w : World} {K : PySem.W.Frag} {mg : Str → Option Value} {base : Heap} (T : Txt K mg) : GL.GF c P w K mg base "is_integer" 1 (spIsInt K) := by
  obtain ⟨fd, F⟩ := T.def_is_integer
  have hb : Binds K fd ["thing"] [] := F.bindsN (fun _ _ _ _ _ _ us hl => match us, hl with | [_], _ => rfl)
  have hf : GL.Fn c P w K mg base 1 (He.fAd K ("is_integer", none)) fd ["thing"] (spIsInt K) := by
    refine GL.fn_def (k := 0) F sc_is_integer ?len ?body
    case len => intro vs H Q E h; obtain ⟨_,_,rfl,_⟩ := h; rfl
    case body =>
      intro cdv A outer s H vs Q E hr h
      refine ⟨_, (pss_one (ps_ret (pe_and (pe_callB call_isi rfl T.f_isinstance boot_isinstance (pa_cons (pv 0) (pa_cons (pe_bltn (v := .ty "int") rfl T.f_int boot_int rfl) pa_nil))) (pe_one (pe_not (pe_callB call_isi rfl T.f_isinstance boot_isinstance (pa_cons (pv 0) (pa_cons (pe_bltn (v := .ty "bool") rfl T.f_bool boot_bool rfl) pa_nil)))))))), ?_⟩
      obtain ⟨v, d, rfl, hd, k⟩ := h
      walk_at "rd"
      refine rd_isi hd (kit_int d) ?_
      cases d <;> walk_at "rd" <;> first | exact k | (refine rd_isi hd (kit_bool _) ?_; walk_at "rd"; exact k)
  exact ⟨_, GL.Held.plain hf hb, T.g_is_integer, F.kp⟩
theorem g_is_between {c : Bool} {P : Program} {w : World} {K : PySem.W.Frag} {mg : Str → Option Value} {base : Heap} (T : Txt K mg) : GL.GF c P w K mg base "is_between" 2 (spBetw K) := by
  obtain ⟨fd, F⟩ := T.def_is_between
  have hb : Binds K fd ["thing", "least", "most"] [] := F.bindsN (fun _ _ _ _ _ _ us hl => match us, hl with | [_, _, _], _ => rfl)
  have hf : GL.Fn c P w K mg base 2 (He.fAd K ("is_between", none)) fd ["thing", "least", "most"] (spBetw K) := by
    refine GL.fn_def (k := 1) F sc_is_between ?len ?body
    case len => intro vs H Q E h; obtain ⟨_,_,_,_,rfl,_⟩ := h; rfl
    case body =>
      intro cdv A outer s H vs Q E hr h
      refine ⟨_, (pss_one (ps_ret (pe_and (GL.ge_call (g_is_integer T) hr GL.tk_top rfl (pa_cons (pv 0) pa_nil)) (pe_one (pe_chain op_le op_le (pv 1) (pv 0) (pv 2)))))), ?_⟩
      obtain ⟨v, d, l, m, rfl, hd, k⟩ := h
      walk_at "rd"
      refine ⟨v, d, rfl, hd, ?_⟩
      unfold betw at k
      cases e : isI d
      · rw [e] at k
        walk_at "rd"
        exact k
      · rw [e] at k
        walk_at "rd"
        match d, hd, e, k with
        | .int i, hd, _, k =>
          obtain rfl := dq_int hd
          walk_at "rd"
          have k : Q (.bl (decide (l ≤ i) && decide (i ≤ m))) H := k
          cases e2 : decide (l ≤ i) <;> rw [e2] at k <;> walk_at "rd" <;> exact k
  exact ⟨_, GL.Held.plain hf hb, T.g_is_between, F.kp⟩

theorem g_is_value_v {c : Bool} {P : Program} {w : World} {K : PySem.W.Frag} {mg : Str → Option Value} {base : Heap} (T : Txt K mg) (k : Nat) : GL.GF c P w K mg base "is_value" k (fun _ _ _ _ => False) := by
  obtain ⟨fd, F⟩ := T.def_is_value
  have hb : Binds K fd ["thing", "deepest"] [] := F.bindsN (fun _ _ _ _ _ _ us hl => match us, hl with | [_, _], _ => rfl)
  exact ⟨_, GL.Held.plain ⟨fun _ _ _ _ h => h.elim, fun _ _ _ _ _ _ _ _ _ _ _ _ _ h => h.elim⟩ hb, T.g_is_value, F.kp⟩
theorem is_value_step {P : Program} {w : World} {K : PySem.W.Frag} {mg : Str → Option Value} {base : Heap} (T : Txt K mg) (n : Nat) (g_is_value : Txt K mg → GL.GF true P w K mg base "is_value" (n + 1) (fun vs H Q E => 1 ≤ n ∧ spIsVal K (n - 1) vs H Q E)) : GL.GF true P w K mg base "is_value" (n+2) (spIsVal K n) := by
  obtain ⟨fd, F⟩ := T.def_is_value
  have hb : Binds K fd ["thing", "deepest"] [] := F.bindsN (fun _ _ _ _ _ _ us hl => match us, hl with | [_, _], _ => rfl)
  have hf : GL.Fn true P w K mg base (n+2) (He.fAd K ("is_value", none)) fd ["thing", "deepest"] (spIsVal K n) := by
    refine GL.fn_def (k := ((n+2) - 1)) F sc_is_value ?len ?body
    case len => intro vs H Q E h; obtain ⟨_,_,rfl,_⟩ := h; rfl
    case body =>
      intro cdv A outer s H vs Q E hr h
      refine ⟨_, (pss_cons (ps_if (pt_not (pt_val (pe_callB call_isi rfl T.f_isinstance boot_isinstance (pa_cons (pv 0) (pa_cons (pe_bltn (v := .ty "tuple") rfl T.f_tuple boot_tuple rfl) pa_nil))))) (pss_one (ps_ret (pe_or (pe_callB call_isi rfl T.f_isinstance boot_isinstance (pa_cons (pv 0) (pa_cons (pe_bltn (v := .ty "str") rfl T.f_str boot_str rfl) pa_nil))) (pe_one (GL.ge_call (g_is_integer T) (hr.mono (by first | decide | omega)) GL.tk_top rfl (pa_cons (pv 0) pa_nil)))))) pss_nil)
  (pss_cons (ps_if (pt_cmpR op_lt (pv 1) pe_int (nomark _)) (pss_one (ps_ret pe_bl)) pss_nil)
  (pss_cons (ps_for (GL.po_top) rfl (pi_tup (pv 0)) (pg_name (i := 2) sc_is_value.nd rfl (Or.inl rfl)) (pss_one (ps_if (pt_not (pt_val (GL.ge_call (g_is_value T) hr GL.tk_top rfl (pa_cons (pv 2) (pa_cons (pe_op op_sub (pv 1) pe_int) pa_nil))))) (pss_one (ps_ret pe_bl)) pss_nil)))
  (pss_one (ps_ret pe_bl))))), ?_⟩
      obtain ⟨v, d, rfl, hd, k⟩ := h
      walk_at "rd"
      refine rd_isi hd (kit_tuple d) ?_
      walk_at "rd"
      have other : isT d = false → valOk n d = (isS d || isI d) := fun e => by cases d <;> first | (simp [isT] at e; done) | simp [valOk, isS, isI]
      cases e : isT d with
      | false =>
        walk_at "rd"
        refine rd_isi hd (kit_str d) ?_
        have e1 := other e
        cases e2 : isS d with
        | true =>
          walk_at "rd"
          rw [e1, e2] at k
          exact k
        | false =>
          walk_at "rd"
          refine ⟨v, d, rfl, hd, ?_⟩
          rw [e1, e2] at k
          walk_at "rd"
          exact k
      | true =>
        walk_at "rd"
        have hd' : Dp K H v d := dq_dp hd (fun _ z => by rw [z] at e; cases e)
        match d, hd', e, k with
        | .tuple ds, .tup (xs := xs) (a := p) hs ha, _, k =>
          by_cases hn : n = 0
          · subst hn
            have z : decide (((0 : Nat) : Int) < 1) = true := by decide
            rw [z]
            walk_at "rd"
            exact k
          · have z : decide ((n : Int) < 1) = false := by simp; omega
            rw [z]
            walk_at "rd"
            obtain ⟨m, rfl⟩ : ∃ m, n = m + 1 := ⟨n - 1, by omega⟩
            have k : Q (.bl (valOkAll m ds)) H := k
            refine ⟨_, rfl, ⟨_, hs⟩, for_tup (xs := xs) (fun i σ H2 => ∃ u, σ = [some (.ref p), some (.int ((m + 1 : Nat) : Int)), u] ∧ H2 = H ∧ valOkAll m (ds.take i) = true) ⟨none, rfl, rfl, by simp [valOkAll]⟩ (fun i σ H2 _ ⟨u, _, eH, _⟩ => by rw [eH]; exact hs) ?_ ?_⟩
            · rintro i x σ H2 hi ⟨u, rfl, rfl, hv⟩
              obtain ⟨dd, hdi, hdd⟩ := da_getV ha hi
              walk_at "rd"
              refine ⟨by omega, x, dd, ?_, .inl hdd, ?_⟩
              · simp
              have il : i < ds.length := (List.getElem?_eq_some_iff.mp hdi).1
              have et : ds.take (i + 1) = ds.take i ++ [dd] := by
                rw [List.take_succ, hdi]
                rfl
              have e3 : valOkAll m (ds.take (i + 1)) = valOk m dd := by
                rw [et]
                have : ∀ (l : List PyData), valOkAll m l = true → valOkAll m (l ++ [dd]) = valOk m dd := by
                  intro l
                  induction l with
                  | nil => simp [valOkAll]
                  | cons a l ih => intro h; simp only [List.cons_append, valOkAll, Bool.and_eq_true] at h ⊢; rw [h.1, ih h.2, Bool.true_and]
                exact this _ hv
              walk_at "rd"
              cases e4 : valOk m dd with
              | false =>
                have e4' : valOk (m + 1 - 1) dd = false := e4
                rw [e4']
                walk_at "rd"
                have e5 : valOkAll m ds = false := by
                  cases z : valOkAll m ds with
                  | false => rfl
                  | true => rw [valOkAll_iff.mp z dd (List.mem_of_getElem? hdi)] at e4; cases e4
                rw [e5] at k
                exact k
              | true =>
                have e4' : valOk (m + 1 - 1) dd = true := e4
                rw [e4']
                walk_at "rd"
                exact ⟨_, rfl, rfl, by rw [e3, e4]⟩
            · rintro σ H2 ⟨u, rfl, rfl, hv⟩
              walk_at "rd"
              rw [List.take_of_length_le (Nat.le_of_eq (da_len ha).symm)] at hv
              rw [hv] at k
              exact k
  exact ⟨_, GL.Held.plain hf hb, T.g_is_value, F.kp⟩
theorem g_is_value_n {P : Program} {w : World} {K : PySem.W.Frag} {mg : Str → Option Value} {base : Heap} (T : Txt K mg) : ∀ n : Nat, GL.GF true P w K mg base "is_value" (n + 2) (spIsVal K n)
  | 0 => is_value_step T 0 fun T => by
    obtain ⟨f, h, r⟩ := (g_is_value_v T 1 : GL.GF true P w K mg base "is_value" 1 _)
    exact ⟨f, h.imp fun _ _ _ _ z => absurd z.1 (by decide), r⟩
  | n + 1 => is_value_step T (n + 1) fun T => by
    obtain ⟨f, h, r⟩ := g_is_value_n (P := P) (w := w) (base := base) T n
    exact ⟨f, h.imp fun _ _ _ _ z => z.2, r⟩
theorem g_is_value {P : Program} {w : World} {K : PySem.W.Frag} {mg : Str → Option Value} {base : Heap} (T : Txt K mg) : GL.GF true P w K mg base "is_value" 10 (spIsVal K 8) := g_is_value_n T 8

/-! ## Disk -/
theorem g_Disk_begin {c : Bool} {P : Program} {w : World} {K : PySem.W.Frag} {mg : Str → Option Value} {base : Heap} (T : Txt K mg) : GL.GM c P w K mg base (He.ga K "Disk") "_begin" 1 (spBegin K (He.ga K "Disk")) := by
  obtain ⟨fd, F⟩ := T.def_Disk_begin
  have hb : Binds K fd ["self", "values"] [] := F.bindsN (fun _ _ _ _ _ _ us hl => match us, hl with | [_, _], _ => rfl)
  have hf : GL.Fn c P w K mg base 1 (He.fAd K ("Disk", some "_begin")) fd ["self", "values"] (spBegin K (He.ga K "Disk")) := by
    refine GL.fn_def (k := 0) F sc_Disk_begin ?len ?body
    case len => intro vs H Q E h; obtain ⟨_,_,_,_,_,_,rfl,_⟩ := h; rfl
    case body =>
      intro cdv A outer s H vs Q E hr h
      refine ⟨_, (pss_cons (ps_fld (pv 0) (pe_callTy call_list_of rfl T.f_list boot_list (pa_cons (pv 1) pa_nil)) rfl)
  (pss_cons (ps_fld (pv 0) (pe_callTy call_list_of rfl T.f_list boot_list (pa_cons (pv 1) pa_nil)) rfl)
  (pss_cons (ps_fld (pv 0) (pe_callTy call_list_of rfl T.f_list boot_list (pa_cons (pv 1) pa_nil)) rfl)
  (pss_cons (ps_fld (pv 0) (pe_lst pa_nil) rfl)
  (pss_one (ps_fld (pv 0) (pe_lst pa_nil) rfl)))))), ?_⟩
      obtain ⟨a, p, dx, fs, xs, ds, rfl, ha, hfs, hs, hd, h1, h2, h3, k⟩ := h
      have l0 : fs.length ≤ 5 := by rcases hfs with rfl | ⟨q1, q2, q3, q4, q5, rfl⟩ <;> simp [dfs]
      have ma : a ∈ ([a] : List Addr) := List.mem_singleton.mpr rfl
      have O0 : Ob H [(a, .ins (He.ga K "Disk") dx fs)] := ⟨fun q hq => by rw [List.mem_singleton.mp hq]; exact ha, by simp⟩
      have nl : NLs [a] H := nls_ins ha
      walk_at "rd"
      refine ⟨p, xs, rfl, .inl hs, fun l1 n1 => ?_⟩
      have O1 := (O0.new n1 (.lst xs)).set 0 (.ins (He.ga K "Disk") dx (putF "_first" (.ref l1) fs))
      have m1 : Mu [a] H _ := ((Mu.refl [a] H).new n1 (.lst xs)).set ma (.ins (He.ga K "Disk") dx (putF "_first" (.ref l1) fs))
      walk_at "rd"
      refine ⟨a, _, dx, fs, rfl, (O0.new n1 (.lst xs)).get 0, T.c_Disk, T.n_Disk_first, by omega, ?_⟩
      have f1 := putF_len "_first" (.ref l1) fs
      walk_at "rd"
      refine ⟨p, xs, rfl, .inl (sql_mu m1 nl hs), fun l2 n2 => ?_⟩
      have O2 := (O1.new n2 (.lst xs)).set 0 (.ins (He.ga K "Disk") dx (putF "_settled" (.ref l2) (putF "_first" (.ref l1) fs)))
      have m2 : Mu [a] H _ := (m1.new n2 (.lst xs)).set ma (.ins (He.ga K "Disk") dx (putF "_settled" (.ref l2) (putF "_first" (.ref l1) fs)))
      walk_at "rd"
      refine ⟨a, _, dx, _, rfl, (O1.new n2 (.lst xs)).get 0, T.c_Disk, T.n_Disk_settled, by omega, ?_⟩
      have f2 := putF_len "_settled" (.ref l2) (putF "_first" (.ref l1) fs)
      walk_at "rd"
      refine ⟨p, xs, rfl, .inl (sql_mu m2 nl hs), fun l3 n3 => ?_⟩
      have O3 := (O2.new n3 (.lst xs)).set 0 (.ins (He.ga K "Disk") dx (putF "_newest" (.ref l3) (putF "_settled" (.ref l2) (putF "_first" (.ref l1) fs))))
      have m3 : Mu [a] H _ := (m2.new n3 (.lst xs)).set ma (.ins (He.ga K "Disk") dx (putF "_newest" (.ref l3) (putF "_settled" (.ref l2) (putF "_first" (.ref l1) fs))))
      walk_at "rd"
      refine ⟨a, _, dx, _, rfl, (O2.new n3 (.lst xs)).get 0, T.c_Disk, T.n_Disk_newest, by omega, ?_⟩
      have f3 := putF_len "_newest" (.ref l3) (putF "_settled" (.ref l2) (putF "_first" (.ref l1) fs))
      walk_at "rd"
      refine ⟨Nat.zero_le _, fun l4 n4 => ?_⟩
      have O4 := (O3.new n4 (.lst [])).set 0 (.ins (He.ga K "Disk") dx (putF "_waiting" (.ref l4) (putF "_newest" (.ref l3) (putF "_settled" (.ref l2) (putF "_first" (.ref l1) fs)))))
      have m4 : Mu [a] H _ := (m3.new n4 (.lst [])).set ma (.ins (He.ga K "Disk") dx (putF "_waiting" (.ref l4) (putF "_newest" (.ref l3) (putF "_settled" (.ref l2) (putF "_first" (.ref l1) fs)))))
      walk_at "rd"
      refine ⟨a, _, dx, _, rfl, (O3.new n4 (.lst [])).get 0, T.c_Disk, T.n_Disk_waiting, by omega, ?_⟩
      have f4 := putF_len "_waiting" (.ref l4) (putF "_newest" (.ref l3) (putF "_settled" (.ref l2) (putF "_first" (.ref l1) fs)))
      walk_at "rd"
      refine ⟨Nat.zero_le _, fun l5 n5 => ?_⟩
      have O5 := (O4.new n5 (.lst [])).set 0 (.ins (He.ga K "Disk") dx (putF "_done" (.ref l5) (putF "_waiting" (.ref l4) (putF "_newest" (.ref l3) (putF "_settled" (.ref l2) (putF "_first" (.ref l1) fs))))))
      have m5 : Mu [a] H _ := (m4.new n5 (.lst [])).set ma (.ins (He.ga K "Disk") dx (putF "_done" (.ref l5) (putF "_waiting" (.ref l4) (putF "_newest" (.ref l3) (putF "_settled" (.ref l2) (putF "_first" (.ref l1) fs))))))
      walk_at "rd"
      refine ⟨a, _, dx, _, rfl, (O4.new n5 (.lst [])).get 0, T.c_Disk, T.n_Disk_done, by omega, ?_⟩
      have e5 := put5 (v1 := .ref l1) (v2 := .ref l2) (v3 := .ref l3) (v4 := .ref l4) (v5 := .ref l5) hfs
      rw [e5] at O5 m5 ⊢
      have hd' := dpAll_mu m5 (nt_ins ha) _ _ (valOkAll_noL 8 _ h3) hd
      refine k _ [a, l1, l2, l3, l4, l5] ⟨⟨dx, l1, l2, l3, l4, l5, xs, xs, xs, [], [], rfl, O5, hd', hd', hd', .nil, .nil⟩, DS.Ok.new h1 h2 h3⟩ ⟨m5, fun b hb => ?_⟩
      simp only [List.mem_cons, List.not_mem_nil, or_false] at hb
      rcases hb with rfl | rfl | rfl | rfl | rfl | rfl
      · exact .inl ma
      · exact .inr n1
      · exact m1.back n2
      · exact m2.back n3
      · exact m3.back n4
      · exact m4.back n5
  exact ⟨_, GL.Held.plain hf hb, T.m_Disk_begin⟩

theorem g_Disk_init {P : Program} {w : World} {K : PySem.W.Frag} {mg : Str → Option Value} {base : Heap} (T : Txt K mg) : GL.GK true P w K mg base "Disk" (He.ga K "Disk") 4 (spDInit K (He.ga K "Disk")) := by
  obtain ⟨fd, F⟩ := T.def_Disk_init
  have hb : Binds K fd ["self", "blocks"] [] := F.bindsN (fun _ _ _ _ _ _ us hl => match us, hl with | [_, _], _ => rfl)
  have hf : GL.Fn true P w K mg base 4 (He.fAd K ("Disk", some "__init__")) fd ["self", "blocks"] (spDInit K (He.ga K "Disk")) := by
    refine GL.fn_def (k := 3) F sc_Disk_init ?len ?body
    case len => intro vs H Q E h; obtain ⟨_,_,_,_,rfl,_⟩ := h; rfl
    case body =>
      intro cdv A outer s H vs Q E hr h
      refine ⟨_, (pss_cons (ps_if (pt_not (pt_val (GL.ge_call (g_is_between T) (hr.mono (by first | decide | omega)) GL.tk_top rfl (pa_cons (pv 1) (pa_cons pe_int (pa_cons (GL.pe_gint rfl T.i_MOST_BLOCKS) pa_nil)))))) (pss_one (ps_raise rfl GL.tk_top (GL.ge_exc (g_BadCount_init T) (hr.mono (by first | decide | omega)) rfl (pa_cons (pv 1) pa_nil)))) pss_nil)
  (pss_one (ps_expr (GL.ge_meth (pv 0) T.c_Disk (g_Disk_begin T) (hr.mono (by first | decide | omega)) GL.tk_top (pa_cons (pe_op op_rep (pe_lst (pa_cons pe_int pa_nil)) (pv 1)) pa_nil))))), ?_⟩
      obtain ⟨a, dx, v, d, rfl, ha, hd, kT, kF⟩ := h
      walk_at "rd"
      refine ⟨v, d, 1, 128, rfl, hd, ?_⟩
      cases e : betw d 1 128 with
      | false =>
        walk_at "rd"
        exact ⟨by simp, _, rfl, fun x hx => kF e _ x _ (Ex.new hx) hx upd_same⟩
      | true =>
        walk_at "rd"
        match d, hd, e, kT with
        | .int i, hd, e, kT =>
          obtain rfl := dq_int hd
          have kT := kT e
          unfold betw isI intOf at e
          simp only [Bool.true_and, Bool.and_eq_true, decide_eq_true_eq] at e
          refine ⟨_, _, _, rfl, ha, rfl, ?_⟩
          walk_at "rd"
          refine ⟨by decide, fun p hp => ?_⟩
          walk_at "rd"
          refine ⟨p, i, [.int 0], rfl, rfl, upd_same, by omega, by omega, sz_of (by simp; omega), fun q hq => ?_⟩
          rw [flat_rep]
          walk_at "rd"
          have e1 : Ex H (upd (upd H p (.lst [.int 0])) q (.lst (List.replicate i.toNat (.int 0)))) := (Ex.new hp).trans (Ex.new hq)
          refine ⟨a, q, dx, [], List.replicate i.toNat (.int 0), List.replicate i.toNat (.int 0), rfl, e1 _ _ ha, .inl rfl, sq_of upd_same, da_rep (.int 0) _, ?_, ?_, ?_, fun H' F' hD hF => kT H' F' hD (Fr.afterEx e1 hF)⟩
          · rw [List.length_replicate]; omega
          · rw [List.length_replicate]; omega
          · exact valOkAll_iff.mpr fun d hd => by rw [List.eq_of_mem_replicate hd]; simp [valOk]
  exact ⟨_, GL.Held.plain hf hb, T.k_Disk, T.g_Disk⟩
theorem g_Disk_blocks {c : Bool} {P : Program} {w : World} {K : PySem.W.Frag} {mg : Str → Option Value} {base : Heap} (T : Txt K mg) : GL.GM c P w K mg base (He.ga K "Disk") "blocks" 1 (spBlocks K (He.ga K "Disk")) := by
  obtain ⟨fd, F⟩ := T.def_Disk_blocks
  have hb : Binds K fd ["self"] [] := F.bindsN (fun _ _ _ _ _ _ us hl => match us, hl with | [_], _ => rfl)
  have hf : GL.Fn c P w K mg base 1 (He.fAd K ("Disk", some "blocks")) fd ["self"] (spBlocks K (He.ga K "Disk")) := by
    refine GL.fn_def (k := 0) F sc_Disk_blocks ?len ?body
    case len => intro vs H Q E h; obtain ⟨_,_,_,rfl,_⟩ := h; rfl
    case body =>
      intro cdv A outer s H vs Q E hr h
      refine ⟨_, (pss_one (ps_ret (pe_callB (GL.call_lenU) rfl T.f_len boot_len (pa_cons (pe_fld (pv 0) rfl) pa_nil)))), ?_⟩
      obtain ⟨a, F, D, rfl, ⟨⟨dx, p1, p2, p3, p4, p5, x1, x2, x3, x4, x5, hF, O, d1, d2, d3, d4, d5⟩, ok⟩, k⟩ := h
      walk_at "rd"
      refine ⟨_, _, _, _, _, rfl, O.get 0, T.c_Disk, T.n_Disk_first, rfl, ?_⟩
      walk_at "rd"
      refine rd_lenL (sq_of (O.get 1)) ?_
      rw [da_len d1]
      exact k
  exact ⟨_, GL.Held.plain hf hb, T.m_Disk_blocks⟩
theorem g_Disk_pending {c : Bool} {P : Program} {w : World} {K : PySem.W.Frag} {mg : Str → Option Value} {base : Heap} (T : Txt K mg) : GL.GM c P w K mg base (He.ga K "Disk") "pending" 1 (spLook K (He.ga K "Disk") (fun D => D.w)) := by
  obtain ⟨fd, F⟩ := T.def_Disk_pending
  have hb : Binds K fd ["self"] [] := F.bindsN (fun _ _ _ _ _ _ us hl => match us, hl with | [_], _ => rfl)
  have hf : GL.Fn c P w K mg base 1 (He.fAd K ("Disk", some "pending")) fd ["self"] (spLook K (He.ga K "Disk") (fun D => D.w)) := by
    refine GL.fn_def (k := 0) F sc_Disk_pending ?len ?body
    case len => intro vs H Q E h; obtain ⟨_,_,_,rfl,_⟩ := h; rfl
    case body =>
      intro cdv A outer s H vs Q E hr h
      refine ⟨_, (pss_one (ps_ret (pe_callTy call_list_of rfl T.f_list boot_list (pa_cons (pe_fld (pv 0) rfl) pa_nil)))), ?_⟩
      obtain ⟨a, F, D, rfl, ⟨⟨dx, p1, p2, p3, p4, p5, x1, x2, x3, x4, x5, hF, O, d1, d2, d3, d4, d5⟩, ok⟩, k⟩ := h
      walk_at "rd"
      refine ⟨_, _, _, _, _, rfl, O.get 0, T.c_Disk, T.n_Disk_waiting, rfl, ?_⟩
      walk_at "rd"
      exact ⟨p4, x4, rfl, .inl (sq_of (O.get 4)), fun l n => k l x4 _ n (Ex.new n) upd_same (dpAll_ex (Ex.new n) _ _ d4)⟩
  exact ⟨_, GL.Held.plain hf hb, T.m_Disk_pending⟩
theorem g_Disk_durable {c : Bool} {P : Program} {w : World} {K : PySem.W.Frag} {mg : Str → Option Value} {base : Heap} (T : Txt K mg) : GL.GM c P w K mg base (He.ga K "Disk") "durable" 1 (spLook K (He.ga K "Disk") (fun D => D.s)) := by
  obtain ⟨fd, F⟩ := T.def_Disk_durable
  have hb : Binds K fd ["self"] [] := F.bindsN (fun _ _ _ _ _ _ us hl => match us, hl with | [_], _ => rfl)
  have hf : GL.Fn c P w K mg base 1 (He.fAd K ("Disk", some "durable")) fd ["self"] (spLook K (He.ga K "Disk") (fun D => D.s)) := by
    refine GL.fn_def (k := 0) F sc_Disk_durable ?len ?body
    case len => intro vs H Q E h; obtain ⟨_,_,_,rfl,_⟩ := h; rfl
    case body =>
      intro cdv A outer s H vs Q E hr h
      refine ⟨_, (pss_one (ps_ret (pe_callTy call_list_of rfl T.f_list boot_list (pa_cons (pe_fld (pv 0) rfl) pa_nil)))), ?_⟩
      obtain ⟨a, F, D, rfl, ⟨⟨dx, p1, p2, p3, p4, p5, x1, x2, x3, x4, x5, hF, O, d1, d2, d3, d4, d5⟩, ok⟩, k⟩ := h
      walk_at "rd"
      refine ⟨_, _, _, _, _, rfl, O.get 0, T.c_Disk, T.n_Disk_settled, rfl, ?_⟩
      walk_at "rd"
      exact ⟨p2, x2, rfl, .inl (sq_of (O.get 2)), fun l n => k l x2 _ n (Ex.new n) upd_same (dpAll_ex (Ex.new n) _ _ d2)⟩
  exact ⟨_, GL.Held.plain hf hb, T.m_Disk_durable⟩
theorem g_Disk_events {c : Bool} {P : Program} {w : World} {K : PySem.W.Frag} {mg : Str → Option Value} {base : Heap} (T : Txt K mg) : GL.GM c P w K mg base (He.ga K "Disk") "events" 1 (spLook K (He.ga K "Disk") (fun D => D.d)) := by
  obtain ⟨fd, F⟩ := T.def_Disk_events
  have hb : Binds K fd ["self"] [] := F.bindsN (fun _ _ _ _ _ _ us hl => match us, hl with | [_], _ => rfl)
  have hf : GL.Fn c P w K mg base 1 (He.fAd K ("Disk", some "events")) fd ["self"] (spLook K (He.ga K "Disk") (fun D => D.d)) := by
    refine GL.fn_def (k := 0) F sc_Disk_events ?len ?body
    case len => intro vs H Q E h; obtain ⟨_,_,_,rfl,_⟩ := h; rfl
    case body =>
      intro cdv A outer s H vs Q E hr h
      refine ⟨_, (pss_one (ps_ret (pe_callTy call_list_of rfl T.f_list boot_list (pa_cons (pe_fld (pv 0) rfl) pa_nil)))), ?_⟩
      obtain ⟨a, F, D, rfl, ⟨⟨dx, p1, p2, p3, p4, p5, x1, x2, x3, x4, x5, hF, O, d1, d2, d3, d4, d5⟩, ok⟩, k⟩ := h
      walk_at "rd"
      refine ⟨_, _, _, _, _, rfl, O.get 0, T.c_Disk, T.n_Disk_done, rfl, ?_⟩
      walk_at "rd"
      exact ⟨p5, x5, rfl, .inl (sq_of (O.get 5)), fun l n => k l x5 _ n (Ex.new n) upd_same (dpAll_ex (Ex.new n) _ _ d5)⟩
  exact ⟨_, GL.Held.plain hf hb, T.m_Disk_events⟩
theorem g_Disk_check_block {P : Program} {w : World} {K : PySem.W.Frag} {mg : Str → Option Value} {base : Heap} (T : Txt K mg) : GL.GM true P w K mg base (He.ga K "Disk") "_check_block" 4 (spCheckB K (He.ga K "Disk")) := by
  obtain ⟨fd, F⟩ := T.def_Disk_check_block
  have hb : Binds K fd ["self", "block"] [] := F.bindsN (fun _ _ _ _ _ _ us hl => match us, hl with | [_, _], _ => rfl)
  have hf : GL.Fn true P w K mg base 4 (He.fAd K ("Disk", some "_check_block")) fd ["self", "block"] (spCheckB K (He.ga K "Disk")) := by
    refine GL.fn_def (k := 3) F sc_Disk_check_block ?len ?body
    case len => intro vs H Q E h; obtain ⟨_,_,_,_,_,rfl,_⟩ := h; rfl
    case body =>
      intro cdv A outer s H vs Q E hr h
      refine ⟨_, (pss_one (ps_if (pt_not (pt_val (GL.ge_call (g_is_between T) (hr.mono (by first | decide | omega)) GL.tk_top rfl (pa_cons (pv 1) (pa_cons pe_int (pa_cons (pe_op op_sub (pe_callB (GL.call_lenU) rfl T.f_len boot_len (pa_cons (pe_fld (pv 0) rfl) pa_nil)) pe_int) pa_nil)))))) (pss_one (ps_raise rfl GL.tk_top (GL.ge_exc (g_BadBlock_init T) (hr.mono (by first | decide | omega)) rfl (pa_cons (pv 1) pa_nil)))) pss_nil)), ?_⟩
      obtain ⟨a, F, D, v, d, rfl, ⟨⟨dx, p1, p2, p3, p4, p5, x1, x2, x3, x4, x5, hF, O, d1, d2, d3, d4, d5⟩, ok⟩, hd, kT, kF⟩ := h
      walk_at "rd"
      refine ⟨_, _, _, _, _, rfl, O.get 0, T.c_Disk, T.n_Disk_first, rfl, ?_⟩
      walk_at "rd"
      refine rd_lenL (sq_of (O.get 1)) ?_
      rw [da_len d1]
      walk_at "rd"
      refine ⟨v, d, 0, _, rfl, hd, ?_⟩
      unfold blk at kT kF
      cases e : betw d 0 ((D.f.length : Int) - 1) with
      | false =>
        walk_at "rd"
        exact ⟨by simp, _, rfl, fun x hx => kF e _ x _ (Ex.new hx) hx upd_same⟩
      | true =>
        walk_at "rd"
        exact kT e
  exact ⟨_, GL.Held.plain hf hb, T.m_Disk_check_block⟩
theorem g_Disk_read {P : Program} {w : World} {K : PySem.W.Frag} {mg : Str → Option Value} {base : Heap} (T : Txt K mg) : GL.GM true P w K mg base (He.ga K "Disk") "read" 5 (spRead K (He.ga K "Disk")) := by
  obtain ⟨fd, F⟩ := T.def_Disk_read
  have hb : Binds K fd ["self", "block"] [] := F.bindsN (fun _ _ _ _ _ _ us hl => match us, hl with | [_, _], _ => rfl)
  have hf : GL.Fn true P w K mg base 5 (He.fAd K ("Disk", some "read")) fd ["self", "block"] (spRead K (He.ga K "Disk")) := by
    refine GL.fn_def (k := 4) F sc_Disk_read ?len ?body
    case len => intro vs H Q E h; obtain ⟨_,_,_,_,_,rfl,_⟩ := h; rfl
    case body =>
      intro cdv A outer s H vs Q E hr h
      refine ⟨_, (pss_cons (ps_expr (GL.ge_meth (pv 0) T.c_Disk (g_Disk_check_block T) hr GL.tk_top (pa_cons (pv 1) pa_nil)))
  (pss_one (ps_ret (pe_ix ix_seq (pe_fld (pv 0) rfl) (pv 1) (fun _ _ => rfl))))), ?_⟩
      obtain ⟨a, F, D, v, d, rfl, hD, hd, kT, kF⟩ := h
      obtain ⟨⟨dx, p1, p2, p3, p4, p5, x1, x2, x3, x4, x5, hF, O, d1, d2, d3, d4, d5⟩, ok⟩ := id hD
      walk_at "rd"
      refine ⟨_, _, _, rfl, (O.get 0), rfl, ?_⟩
      walk_at "rd"
      refine ⟨a, F, D, v, d, rfl, hD, hd, fun e => ?_, fun e => kF e⟩
      walk_at "rd"
      refine ⟨_, _, _, _, _, rfl, O.get 0, T.c_Disk, T.n_Disk_newest, rfl, ?_⟩
      walk_at "rd"
      have kT := kT e
      obtain ⟨i, rfl, h0, h1⟩ := betw_of e
      obtain rfl := dq_int hd
      have hl : i.toNat < D.n.length := by rw [ok.ln]; omega
      obtain ⟨u, hu, ru⟩ := da_get d3 (List.getElem?_eq_getElem hl)
      exact rd_ixL (sq_of (O.get 3)) (by rw [atI_nat h0 (by rw [da_len d3]; omega)]; exact hu) (kT u _ (List.getElem?_eq_getElem hl) ru)
  exact ⟨_, GL.Held.plain hf hb, T.m_Disk_read⟩
theorem g_Disk_write {P : Program} {w : World} {K : PySem.W.Frag} {mg : Str → Option Value} {base : Heap} (T : Txt K mg) : GL.GM true P w K mg base (He.ga K "Disk") "write" 11 (spWrite K (He.ga K "Disk")) := by
  obtain ⟨fd, F⟩ := T.def_Disk_write
  have hb : Binds K fd ["self", "block", "value"] [] := F.bindsN (fun _ _ _ _ _ _ us hl => match us, hl with | [_, _, _], _ => rfl)
  have hf : GL.Fn true P w K mg base 11 (He.fAd K ("Disk", some "write")) fd ["self", "block", "value"] (spWrite K (He.ga K "Disk")) := by
    refine GL.fn_def (k := 10) F sc_Disk_write ?len ?body
    case len => intro vs H Q E h; obtain ⟨_,_,_,_,_,_,_,rfl,_⟩ := h; rfl
    case body =>
      intro cdv A outer s H vs Q E hr h
      refine ⟨_, (pss_cons (ps_expr (GL.ge_meth (pv 0) T.c_Disk (g_Disk_check_block T) (hr.mono (by first | decide | omega)) GL.tk_top (pa_cons (pv 1) pa_nil)))
  (pss_cons (ps_if (pt_not (pt_val (GL.ge_call (g_is_value T) hr GL.tk_top rfl (pa_cons (pv 2) (pa_cons (GL.pe_gint rfl T.i_DEEPEST_VALUE) pa_nil))))) (pss_one (ps_raise rfl GL.tk_top (GL.ge_exc0 (g_BadValue_init0 T) (hr.mono (by first | decide | omega)) rfl))) pss_nil)
  (pss_cons (ps_asg (pv 2) (pg_sub (pe_fld (pv 0) rfl) (pv 1) set_list))
  (pss_cons (ps_expr (pe_bm PySem.F.plainAttrs_list PySem.F.slot_list_append PySem.F.type_list_append mt_append (pe_fld (pv 0) rfl) (pa_cons (pe_tup (pa_cons (pv 1) (pa_cons (pv 2) pa_nil))) pa_nil)))
  (pss_one (ps_expr (pe_bm PySem.F.plainAttrs_list PySem.F.slot_list_append PySem.F.type_list_append mt_append (pe_fld (pv 0) rfl) (pa_cons (pe_tup (pa_cons pe_str (pa_cons (pv 1) (pa_cons (pv 2) pa_nil)))) pa_nil)))))))), ?_⟩
      obtain ⟨a, F, D, v, u, d, e, rfl, hD, hd, he, hl, kT, kF, kV⟩ := h
      obtain ⟨⟨dx, p1, p2, p3, p4, p5, x1, x2, x3, x4, x5, hF, O, d1, d2, d3, d4, d5⟩, ok⟩ := id hD
      subst hF
      walk_at "rd"
      refine ⟨_, _, _, rfl, (O.get 0), rfl, ?_⟩
      walk_at "rd"
      refine ⟨a, _, D, v, d, rfl, hD, hd, fun b => ?_, fun b => kF b⟩
      walk_at "rd"
      refine ⟨u, e, rfl, he, ?_⟩
      cases hv : valOk 8 e with
      | false =>
        walk_at "rd"
        exact ⟨by simp, _, rfl, fun x hx => kV b hv _ x _ (Ex.new hx) hx upd_same⟩
      | true =>
        walk_at "rd"
        have kT := kT b hv
        obtain ⟨i, rfl, h0, h1⟩ := betw_of b
        obtain rfl := dq_int hd
        have he := dq_dp he (fun kvs z => by rw [z] at hv; simp [valOk] at hv)
        refine ⟨_, _, _, _, _, rfl, O.get 0, T.c_Disk, T.n_Disk_newest, rfl, ?_⟩
        walk_at "rd"
        refine rd_setL (O.get 3) h0 (by rw [da_len d3, ok.ln]; omega) ?_
        have O1 := O.set 3 (.lst (x3.set i.toNat u))
        have m1 := (Mu.refl [a, p1, p2, p3, p4, p5] H).set (p := p3) (by simp) (.lst (x3.set i.toNat u))
        walk_at "rd"
        refine ⟨_, _, _, _, _, rfl, O1.get 0, T.c_Disk, T.n_Disk_waiting, rfl, ?_⟩
        refine rd_tyL (O1.get 4) ?_
        walk_at "rd"
        refine ⟨sz_of (by simp), fun q hq => ?_⟩
        have O2 := O1.new hq (.tup [.int i, u])
        have m2 := m1.new hq (.tup [.int i, u])
        walk_at "rd"
        have l4 := da_len d4
        have l5 := da_len d5
        have lw := ok.lw
        refine rd_app (O2.get 4) (by omega) ?_
        have O3 := O2.set 4 (.lst (x4 ++ [.ref q]))
        have m3 := m2.set (p := p4) (by simp) (.lst (x4 ++ [.ref q]))
        walk_at "rd"
        refine ⟨_, _, _, _, _, rfl, O3.get 0, T.c_Disk, T.n_Disk_done, rfl, ?_⟩
        refine rd_tyL (O3.get 5) ?_
        walk_at "rd"
        refine ⟨sz_of (by simp), fun r hr => ?_⟩
        have O4 := O3.new hr (.tup [.str "write", .int i, u])
        have m4 := m3.new hr (.tup [.str "write", .int i, u])
        walk_at "rd"
        refine rd_app (O4.get 5) (by omega) ?_
        have O5 := O4.set 5 (.lst (x5 ++ [.ref r]))
        have m5 := m4.set (p := p5) (by simp) (.lst (x5 ++ [.ref r]))
        walk_at "rd"
        have nt := hD.nt
        have up : ∀ {xs : List V} {ds : List PyData}, noLAll ds = true → DpAll K H xs ds → DpAll K _ xs ds := fun n z => dpAll_mu m5 nt _ _ n z
        have he' := dp_mu m5 nt _ _ (valOk_noL 8 _ hv) he
        refine kT _ [a, p1, p2, p3, p4, p5] ⟨⟨dx, p1, p2, p3, p4, p5, x1, x2, _, _, _, rfl, ?_, up ok.nf d1, up ok.ns d2, da_set _ (up ok.nn d3) he', da_app (up ok.nw d4) (da_one (.tup (st_of (O5.get 6)) (.cons (.int i) (.cons he' .nil)))), da_app (up ok.nd d5) (da_one (.tup (st_of (O5.get 7)) (.cons (.str _) (.cons (.int i) (.cons he' .nil)))))⟩, ok.wr h0 (show i < _ from by omega) hv⟩ ⟨m5, fun z hz => .inl hz⟩
        exact O5.mem _ (fun z hz => List.mem_append_left _ (List.mem_append_left _ hz)) O.nd
  exact ⟨_, GL.Held.plain hf hb, T.m_Disk_write⟩
theorem g_Disk_flush {P : Program} {w : World} {K : PySem.W.Frag} {mg : Str → Option Value} {base : Heap} (T : Txt K mg) : GL.GM true P w K mg base (He.ga K "Disk") "flush" 1 (spFlush K (He.ga K "Disk")) := by
  obtain ⟨fd, F⟩ := T.def_Disk_flush
  have hb : Binds K fd ["self"] [] := F.bindsN (fun _ _ _ _ _ _ us hl => match us, hl with | [_], _ => rfl)
  have hf : GL.Fn true P w K mg base 1 (He.fAd K ("Disk", some "flush")) fd ["self"] (spFlush K (He.ga K "Disk")) := by
    refine GL.fn_def (k := 0) F sc_Disk_flush ?len ?body
    case len => intro vs H Q E h; obtain ⟨_,_,_,rfl,_⟩ := h; rfl
    case body =>
      intro cdv A outer s H vs Q E hr h
      refine ⟨_, (pss_cons (ps_fld (pv 0) (pe_callTy call_list_of rfl T.f_list boot_list (pa_cons (pe_fld (pv 0) rfl) pa_nil)) rfl)
  (pss_cons (ps_fld (pv 0) (pe_lst pa_nil) rfl)
  (pss_one (ps_expr (pe_bm PySem.F.plainAttrs_list PySem.F.slot_list_append PySem.F.type_list_append mt_append (pe_fld (pv 0) rfl) (pa_cons (pe_tup (pa_cons pe_str pa_nil)) pa_nil)))))), ?_⟩
      obtain ⟨a, F, D, rfl, hD, hl, k⟩ := h
      obtain ⟨⟨dx, p1, p2, p3, p4, p5, x1, x2, x3, x4, x5, hF, O, d1, d2, d3, d4, d5⟩, ok⟩ := id hD
      subst hF
      walk_at "rd"
      refine ⟨_, _, _, _, _, rfl, O.get 0, T.c_Disk, T.n_Disk_newest, rfl, ?_⟩
      walk_at "rd"
      refine ⟨p3, x3, rfl, .inl (sq_of (O.get 3)), fun l1 n1 => ?_⟩
      have O1 := O.new n1 (.lst x3)
      have m1 := (Mu.refl [a, p1, p2, p3, p4, p5] H).new n1 (.lst x3)
      walk_at "rd"
      refine ⟨a, _, dx, _, rfl, O1.get 0, T.c_Disk, T.n_Disk_settled, by rw [dfs_len]; decide, ?_⟩
      rw [dfs_p2]
      have O2 := O1.set 0 (.ins (He.ga K "Disk") dx (dfs p1 l1 p3 p4 p5))
      have m2 := m1.set (p := a) (by simp) (.ins (He.ga K "Disk") dx (dfs p1 l1 p3 p4 p5))
      walk_at "rd"
      refine ⟨Nat.zero_le _, fun l2 n2 => ?_⟩
      have O3 := O2.new n2 (.lst [])
      have m3 := m2.new n2 (.lst [])
      walk_at "rd"
      refine ⟨a, _, dx, _, rfl, O3.get 0, T.c_Disk, T.n_Disk_waiting, by rw [dfs_len]; decide, ?_⟩
      rw [dfs_p4]
      have O4 := O3.set 0 (.ins (He.ga K "Disk") dx (dfs p1 l1 p3 l2 p5))
      have m4 := m3.set (p := a) (by simp) (.ins (He.ga K "Disk") dx (dfs p1 l1 p3 l2 p5))
      walk_at "rd"
      refine ⟨_, _, _, _, _, rfl, O4.get 0, T.c_Disk, T.n_Disk_done, rfl, ?_⟩
      refine rd_tyL (O4.get 5) ?_
      walk_at "rd"
      refine ⟨by decide, fun r hr => ?_⟩
      have O5 := O4.new hr (.tup [.str "flush"])
      have m5 := m4.new hr (.tup [.str "flush"])
      walk_at "rd"
      have l5 := da_len d5
      refine rd_app (O5.get 5) (by omega) ?_
      have O6 := O5.set 5 (.lst (x5 ++ [.ref r]))
      have m6 := m5.set (p := p5) (by simp) (.lst (x5 ++ [.ref r]))
      walk_at "rd"
      have nt := hD.nt
      have up : ∀ {xs : List V} {ds : List PyData}, noLAll ds = true → DpAll K H xs ds → DpAll K _ xs ds := fun n z => dpAll_mu m6 nt _ _ n z
      have O7 := O6.mem [(a, .ins (He.ga K "Disk") dx (dfs p1 l1 p3 l2 p5)), (p1, .lst x1), (l1, .lst x3), (p3, .lst x3), (l2, .lst []), (p5, .lst (x5 ++ [.ref r]))] (by
        intro q hq
        simp only [List.mem_cons, List.not_mem_nil, or_false] at hq
        rcases hq with rfl | rfl | rfl | rfl | rfl | rfl
        · exact List.mem_of_getElem? (i := 0) rfl
        · exact List.mem_of_getElem? (i := 1) rfl
        · exact List.mem_of_getElem? (i := 6) rfl
        · exact List.mem_of_getElem? (i := 3) rfl
        · exact List.mem_of_getElem? (i := 7) rfl
        · exact List.mem_of_getElem? (i := 5) rfl) (by
        simp only [List.map_cons, List.map_nil, List.nodup_cons, List.mem_cons, List.not_mem_nil, or_false, not_or, not_false_eq_true, List.nodup_nil, and_true]
        exact ⟨⟨O6.ne 0 1, O6.ne 0 6, O6.ne 0 3, O6.ne 0 7, O6.ne 0 5⟩, ⟨O6.ne 1 6, O6.ne 1 3, O6.ne 1 7, O6.ne 1 5⟩, ⟨O6.ne 6 3, O6.ne 6 7, O6.ne 6 5⟩, ⟨O6.ne 3 7, O6.ne 3 5⟩, O6.ne 7 5⟩)
      refine k _ [a, p1, l1, p3, l2, p5] ⟨⟨dx, p1, l1, p3, l2, p5, x1, x3, x3, [], _, rfl, O7, up ok.nf d1, up ok.nn d3, up ok.nn d3, .nil, da_app (up ok.nd d5) (da_one (.tup (st_of (O6.get 8)) (.cons (.str _) .nil)))⟩, ok.fl⟩ ⟨m6, fun z hz => ?_⟩
      simp only [List.mem_cons, List.not_mem_nil, or_false] at hz
      rcases hz with rfl | rfl | rfl | rfl | rfl | rfl
      · exact .inl (by simp)
      · exact .inl (by simp)
      · exact .inr n1
      · exact .inl (by simp)
      · exact m2.back n2
      · exact .inl (by simp)
  exact ⟨_, GL.Held.plain hf hb, T.m_Disk_flush⟩

/-! ## the law's own defs -/
theorem g_l_cell_at {c : Bool} {P : Program} {w : World} {K : PySem.W.Frag} {mg : Str → Option Value} {base : Heap} (T : Txt K mg) : GL.GF c P w K mg base "_law_cell_at" 1 (spLCell K) := by
  obtain ⟨fd, F⟩ := T.def_l_cell_at
  have hb : Binds K fd ["_law_script", "_law_k"] [] := F.bindsN (fun _ _ _ _ _ _ us hl => match us, hl with | [_, _], _ => rfl)
  have hf : GL.Fn c P w K mg base 1 (He.fAd K ("_law_cell_at", none)) fd ["_law_script", "_law_k"] (spLCell K) := by
    refine GL.fn_def (k := 0) F sc_l_cell_at ?len ?body
    case len => intro vs H Q E h; obtain ⟨_,_,_,rfl,_⟩ := h; rfl
    case body =>
      intro cdv A outer s H vs Q E hr h
      refine ⟨_, (pss_cons (ps_if (pt_cmpR op_lt (pv 1) (pe_callB (GL.call_lenU) rfl T.f_len boot_len (pa_cons (pv 0) pa_nil)) (nomark _)) (pss_one (ps_ret (pe_ix ix_seq (pv 0) (pv 1) (fun _ _ => rfl)))) pss_nil)
  (pss_one (ps_ret pe_int))), ?_⟩
      obtain ⟨a, k, ns, rfl, hs, h0, kQ⟩ := h
      walk_at "rd"
      refine rd_lenL hs ?_
      walk_at "rd"
      cases e : decide (k < ((ns.map V.int).length : Int)) with
      | false =>
        walk_at "rd"
        exact kQ 0
      | true =>
        walk_at "rd"
        have hk : k < ((ns.map V.int).length : Int) := of_decide_eq_true e
        have hl : k.toNat < (ns.map V.int).length := by omega
        have hl2 : k.toNat < ns.length := by rw [List.length_map] at hl; exact hl
        exact rd_ixL hs (by rw [atI_nat h0 hk, List.getElem?_eq_getElem hl, List.getElem_map]) (kQ _)
  exact ⟨_, GL.Held.plain hf hb, T.g__law_cell_at, F.kp⟩
theorem g_l_well0 {c : Bool} {P : Program} {w : World} {K : PySem.W.Frag} {mg : Str → Option Value} {base : Heap} (T : Txt K mg) : GL.GF c P w K mg base "_law_well" 1 spWell := by
  obtain ⟨fd, F⟩ := T.def_l_well
  have hb : Binds K fd ["_law_cell"] [] := F.bindsN (fun _ _ _ _ _ _ us hl => match us, hl with | [_], _ => rfl)
  have hf : GL.Fn c P w K mg base 1 (He.fAd K ("_law_well", none)) fd ["_law_cell"] spWell := by
    refine GL.fn_def (k := 0) F sc_l_well ?len ?body
    case len => intro vs H Q E h; obtain ⟨_,rfl,_⟩ := h; rfl
    case body =>
      intro cdv A outer s H vs Q E hr h
      refine ⟨_, (pss_one (ps_ret (pe_lst (pa_cons (pe_ix ix_seq (pe_lst (pa_cons pe_int (pa_cons (pv 0) pa_nil))) (pe_callTy call_int1 rfl T.f_int boot_int (pa_cons (pe_cmpR op_ge (pv 0) (pe_op op_pow pe_int pe_int) (nomark _)) pa_nil)) (fun _ _ => rfl)) (pa_cons (pv 0) (pa_cons pe_int pa_nil)))))), ?_⟩
      obtain ⟨c, rfl, kQ⟩ := h
      walk_at "rd"
      refine ⟨sz_of (by simp), fun p hp => ?_⟩
      have e1 := Ex.new hp (o := .lst [.int 0, .int c])
      walk_at "rd"
      refine rd_i ⟨by decide, by decide, by decide⟩ ?_
      walk_at "rd"
      have fin : ∀ x : Int, ([V.int x, V.int c, V.int 0] : List V).length ≤ sizeLine ∧ ∀ q, (upd H p (.lst [.int 0, .int c])) q = none → Q (.ref q) (upd (upd H p (.lst [.int 0, .int c])) q (.lst [.int x, .int c, .int 0])) :=
        fun x => ⟨sz_of (by simp), fun q hq => kQ q x _ (fresh_back e1 hq) (e1.trans (Ex.new hq)) upd_same⟩
      cases e : decide ((10 : Int) ^ (18 : Int).toNat ≤ c) with
      | false =>
        refine .inr ⟨_, rfl, ?_⟩
        refine rd_ixL (xs := [.int 0, .int c]) (sq_of upd_same) (v := .int 0) ?_ ?_
        · rfl
        walk_at "rd"
        exact fin 0
      | true =>
        refine .inr ⟨_, rfl, ?_⟩
        refine rd_ixL (xs := [.int 0, .int c]) (sq_of upd_same) (v := .int c) ?_ ?_
        · rfl
        walk_at "rd"
        exact fin c
  exact ⟨_, GL.Held.plain hf hb, T.g__law_well, F.kp⟩
theorem g_l_draw0 {c : Bool} {P : Program} {w : World} {K : PySem.W.Frag} {mg : Str → Option Value} {base : Heap} (T : Txt K mg) : GL.GF c P w K mg base "_law_draw" 1 spDraw := by
  obtain ⟨fd, F⟩ := T.def_l_draw
  have hb : Binds K fd ["_law_well_here", "_law_many"] [] := F.bindsN (fun _ _ _ _ _ _ us hl => match us, hl with | [_, _], _ => rfl)
  have hf : GL.Fn c P w K mg base 1 (He.fAd K ("_law_draw", none)) fd ["_law_well_here", "_law_many"] spDraw := by
    refine GL.fn_def (k := 0) F sc_l_draw ?len ?body
    case len => intro vs H Q E h; obtain ⟨_,_,_,_,_,rfl,_⟩ := h; rfl
    case body =>
      intro cdv A outer s H vs Q E hr h
      refine ⟨_, (pss_cons (ps_if (pt_cmpR op_gt (pe_ix ix_seq (pv 0) pe_int (fun _ _ => rfl)) pe_int (nomark _)) (pss_cons (ps_set (i := 2) sc_l_draw.nd rfl (Or.inl rfl) (pe_op op_mod (pe_callTy call_int1 rfl T.f_int boot_int (pa_cons (pe_ix ix_seq (pv 0) pe_int (fun _ _ => rfl)) pa_nil)) (pv 1)))
  (pss_cons (ps_asg (pe_op op_fdivW (pe_ix ix_seq (pv 0) pe_int (fun _ _ => rfl)) (pv 1)) (pg_sub (pv 0) pe_int set_list))
  (pss_one (ps_ret (pv 2))))) pss_nil)
  (pss_cons (ps_asg (pe_op op_add (pe_ix ix_seq (pv 0) pe_int (fun _ _ => rfl)) pe_int) (pg_sub (pv 0) pe_int set_list))
  (pss_cons (ps_set (i := 3) sc_l_draw.nd rfl (Or.inl rfl) (pe_op op_mod (pe_callTy call_int1 rfl T.f_int boot_int (pa_cons (pe_op op_fdivW (pe_ix ix_seq (pv 0) pe_int (fun _ _ => rfl)) pe_int) pa_nil)) pe_int))
  (pss_cons (ps_set (i := 4) sc_l_draw.nd rfl (Or.inl rfl) (pe_op op_add (pe_op op_add (pe_op op_add (pe_op op_mod (pe_callTy call_int1 rfl T.f_int boot_int (pa_cons (pe_ix ix_seq (pv 0) pe_int (fun _ _ => rfl)) pa_nil)) pe_int) (pe_op op_mul pe_int (pe_ix ix_seq (pv 0) pe_int (fun _ _ => rfl)))) (pv 3)) pe_int))
  (pss_cons (ps_set (i := 5) sc_l_draw.nd rfl (Or.inl rfl) (pe_op op_mod (pe_callTy call_int1 rfl T.f_int boot_int (pa_cons (pe_op op_pow (pv 4) pe_int) pa_nil)) pe_int))
  (pss_cons (ps_set (i := 5) sc_l_draw.nd rfl (Or.inl rfl) (pe_op op_mod (pe_callTy call_int1 rfl T.f_int boot_int (pa_cons (pe_op op_mul (pv 5) (pe_op op_add (pe_op op_add (pe_op op_fdivW (pv 5) pe_int) pe_int) (pe_ix ix_seq (pv 0) pe_int (fun _ _ => rfl)))) pa_nil)) pe_int))
  (pss_one (ps_ret (pe_op op_mod (pe_callTy call_int1 rfl T.f_int boot_int (pa_cons (pe_op op_mod (pe_callTy call_int1 rfl T.f_int boot_int (pa_cons (pe_op op_mul (pv 5) (pe_op op_add (pe_op op_fdivW (pv 5) pe_int) pe_int)) pa_nil)) pe_int) pa_nil)) (pv 1)))))))))), ?_⟩
      obtain ⟨p, m, x, c, n, rfl, hp, hm, hmx, hn0, hn1, kQ⟩ := h
      walk_at "rd"
      refine rd_ixL (sq_of hp) (v := .int x) rfl ?_
      walk_at "rd"
      cases e : decide ((0 : Int) < x) with
      | true =>
        walk_at "rd"
        refine rd_ixL (sq_of hp) (v := .int x) rfl ?_
        walk_at "rd"
        refine .inl ⟨_, rfl, ?_⟩
        walk_at "rd"
        refine rd_i (show 0 < m by omega) ?_
        walk_at "rd"
        refine rd_ixL (sq_of hp) (v := .int x) rfl ?_
        walk_at "rd"
        refine rd_i (div_ok (by omega) hmx) ?_
        walk_at "rd"
        refine rd_setL hp (by decide) (by simp) ?_
        walk_at "rd"
        exact kQ _ _ _ (Int.emod_nonneg _ (by omega)) (Int.emod_lt_of_pos _ (by omega)) (Int.le_refl _) (by omega)
      | false =>
        walk_at "rd"
        refine rd_ixL (sq_of hp) (v := .int n) rfl ?_
        walk_at "rd"
        refine rd_setL hp (by decide) (by simp) ?_
        walk_at "rd"
        have hp1 : (upd H p (.lst (([V.int x, V.int c, V.int n]).set (2 : Int).toNat (V.int (n + 1))))) p = some (.lst [.int x, .int c, .int (n + 1)]) := upd_same
        refine rd_ixL (sq_of hp1) (v := .int c) rfl ?_
        walk_at "rd"
        refine rd_i ⟨by decide, by decide⟩ ?_
        walk_at "rd"
        refine .inl ⟨_, rfl, ?_⟩
        walk_at "rd"
        refine rd_i (by decide) ?_
        walk_at "rd"
        refine rd_ixL (sq_of hp1) (v := .int c) rfl ?_
        walk_at "rd"
        refine .inl ⟨_, rfl, ?_⟩
        walk_at "rd"
        refine rd_i (by decide) ?_
        walk_at "rd"
        refine rd_ixL (sq_of hp1) (v := .int (n + 1)) rfl ?_
        walk_at "rd"
        refine rd_i (.inl ⟨by decide, by decide⟩) ?_
        walk_at "rd"
        have a1 := Int.emod_nonneg c (show (2147483629 : Int) ≠ 0 by decide)
        have a2 := Int.emod_lt_of_pos c (show (0 : Int) < 2147483629 by decide)
        have b1 := Int.emod_nonneg (c / 2147483629) (show (65521 : Int) ≠ 0 by decide)
        have b2 := Int.emod_lt_of_pos (c / 2147483629) (show (0 : Int) < 65521 by decide)
        refine rd_i ⟨by decide, by decide, by omega⟩ ?_
        walk_at "rd"
        refine .inl ⟨_, rfl, ?_⟩
        walk_at "rd"
        refine rd_i (by decide) ?_
        walk_at "rd"
        generalize (c % 2147483629 + 7919 * (n + 1) + c / 2147483629 % 65521 + 1) ^ (5 : Int).toNat = z1
        have c1 := Int.emod_nonneg z1 (show (2147483647 : Int) ≠ 0 by decide)
        have c2 := Int.emod_lt_of_pos z1 (show (0 : Int) < 2147483647 by decide)
        generalize z1 % 2147483647 = z2 at c1 c2 ⊢
        refine rd_i ⟨by decide, by decide⟩ ?_
        walk_at "rd"
        refine rd_ixL (sq_of hp1) (v := .int (n + 1)) rfl ?_
        walk_at "rd"
        refine rd_i (.inl ⟨by omega, by omega⟩) ?_
        walk_at "rd"
        refine .inl ⟨_, rfl, ?_⟩
        walk_at "rd"
        refine rd_i (by decide) ?_
        walk_at "rd"
        generalize z2 * (z2 / 1009 + 69621 + (n + 1)) = z3
        have d1 := Int.emod_nonneg z3 (show (2147483629 : Int) ≠ 0 by decide)
        have d2 := Int.emod_lt_of_pos z3 (show (0 : Int) < 2147483629 by decide)
        generalize z3 % 2147483629 = z4 at d1 d2 ⊢
        refine rd_i ⟨by decide, by decide⟩ ?_
        walk_at "rd"
        refine rd_i (.inl ⟨by omega, by omega⟩) ?_
        walk_at "rd"
        refine .inl ⟨_, rfl, ?_⟩
        walk_at "rd"
        refine rd_i (by decide) ?_
        walk_at "rd"
        refine .inl ⟨_, rfl, ?_⟩
        walk_at "rd"
        refine rd_i (show 0 < m by omega) ?_
        walk_at "rd"
        exact kQ _ x (n + 1) (Int.emod_nonneg _ (by omega)) (Int.emod_lt_of_pos _ (by omega)) (by omega) (Int.le_refl _)
  exact ⟨_, GL.Held.plain hf hb, T.g__law_draw, F.kp⟩

theorem g_l_well {c : Bool} {P : Program} {w : World} {K : PySem.W.Frag} {mg : Str → Option Value} {base : Heap} (T : Txt K mg) : GL.GF c P w K mg base "_law_well" 1 spWellN := by
  obtain ⟨f, h, r⟩ := g_l_well0 (c := c) (P := P) (w := w) (base := base) T
  exact ⟨f, h.imp fun _ _ _ _ z => wellN z, r⟩
theorem g_l_draw {c : Bool} {P : Program} {w : World} {K : PySem.W.Frag} {mg : Str → Option Value} {base : Heap} (T : Txt K mg) : GL.GF c P w K mg base "_law_draw" 1 spDrawN := by
  obtain ⟨f, h, r⟩ := g_l_draw0 (c := c) (P := P) (w := w) (base := base) T
  exact ⟨f, h.imp fun _ _ _ _ z => drawN z, r⟩

theorem g_l_one {c : Bool} {P : Program} {w : World} {K : PySem.W.Frag} {mg : Str → Option Value} {base : Heap} (T : Txt K mg) : GL.GF c P w K mg base "_law_one" 2 spOne := by
  obtain ⟨fd, F⟩ := T.def_l_one
  have hb : Binds K fd ["_law_well_here", "_law_some"] [] := F.bindsN (fun _ _ _ _ _ _ us hl => match us, hl with | [_, _], _ => rfl)
  have hf : GL.Fn c P w K mg base 2 (He.fAd K ("_law_one", none)) fd ["_law_well_here", "_law_some"] spOne := by
    refine GL.fn_def (k := 1) F sc_l_one ?len ?body
    case len => intro vs H Q E h; obtain ⟨_,_,_,_,rfl,_⟩ := h; rfl
    case body =>
      intro cdv A outer s H vs Q E hr h
      refine ⟨_, (pss_one (ps_ret (pe_ix ix_seq (pv 1) (GL.ge_call (g_l_draw T) hr GL.tk_top rfl (pa_cons (pv 0) (pa_cons (pe_callB (GL.call_lenU) rfl T.f_len boot_len (pa_cons (pv 1) pa_nil)) pa_nil))) (fun _ _ => rfl)))), ?_⟩
      obtain ⟨pw, ps, n, xs, rfl, hw, hp, hne, l1, l2, hn, k⟩ := h
      walk_at "rd"
      refine rd_lenL (sq_of hp) ?_
      walk_at "rd"
      refine ⟨pw, _, n, rfl, hw, by omega, by omega, by omega, fun r H1 h0 h1 mu w => ?_⟩
      have hl : r.toNat < xs.length := by omega
      exact rd_ixL (sq_of (mu _ _ hp (by simp; exact hne))) (by rw [atI_nat h0 h1, List.getElem?_eq_getElem hl]) (k _ r.toNat _ (List.getElem?_eq_getElem hl) mu w)
  exact ⟨_, GL.Held.plain hf hb, T.g__law_one, F.kp⟩
theorem g_l_value_v {P : Program} {w : World} {K : PySem.W.Frag} {mg : Str → Option Value} {base : Heap} (T : Txt K mg) (k : Nat) : GL.GF true P w K mg base "_law_value" k (fun _ _ _ _ => False) := by
  obtain ⟨fd, F⟩ := T.def_l_value
  have hb : Binds K fd ["_law_well_here", "_law_depth"] [] := F.bindsN (fun _ _ _ _ _ _ us hl => match us, hl with | [_, _], _ => rfl)
  exact ⟨_, GL.Held.plain ⟨fun _ _ _ _ h => h.elim, fun _ _ _ _ _ _ _ _ _ _ _ _ _ h => h.elim⟩ hb, T.g__law_value, F.kp⟩
theorem l_value_step {P : Program} {w : World} {K : PySem.W.Frag} {mg : Str → Option Value} {base : Heap} (T : Txt K mg) (k : Nat) (g_l_value : Txt K mg → GL.GF true P w K mg base "_law_value" (k + 2) (fun vs H Q E => 1 ≤ k ∧ spVal K (k - 1) vs H Q E)) : GL.GF true P w K mg base "_law_value" (k+3) (spVal K k) := by
  obtain ⟨fd, F⟩ := T.def_l_value
  have hb : Binds K fd ["_law_well_here", "_law_depth"] [] := F.bindsN (fun _ _ _ _ _ _ us hl => match us, hl with | [_, _], _ => rfl)
  have hf : GL.Fn true P w K mg base (k+3) (He.fAd K ("_law_value", none)) fd ["_law_well_here", "_law_depth"] (spVal K k) := by
    refine GL.fn_def (k := ((k+3) - 1)) F sc_l_value ?len ?body
    case len => intro vs H Q E h; obtain ⟨_,_,rfl,_⟩ := h; rfl
    case body =>
      intro cdv A outer s H vs Q E hr h
      refine ⟨_, (pss_cons (ps_set (i := 2) sc_l_value.nd rfl (Or.inl rfl) (GL.ge_call (g_l_draw T) (hr.mono (by first | decide | omega)) GL.tk_top rfl (pa_cons (pv 0) (pa_cons pe_int pa_nil))))
  (pss_cons (ps_if (pt_cmpR op_lt (pv 2) pe_int (nomark _)) (pss_one (ps_ret (pe_op op_sub (GL.ge_call (g_l_draw T) (hr.mono (by first | decide | omega)) GL.tk_top rfl (pa_cons (pv 0) (pa_cons pe_int pa_nil))) pe_int))) pss_nil)
  (pss_cons (ps_if (pt_cmpR op_eq (pv 2) pe_int (nomark _)) (pss_one (ps_ret (pe_op op_sub (pe_op op_pow pe_int pe_int) (GL.ge_call (g_l_draw T) (hr.mono (by first | decide | omega)) GL.tk_top rfl (pa_cons (pv 0) (pa_cons (pe_op op_pow pe_int pe_int) pa_nil)))))) pss_nil)
  (pss_cons (ps_if (PW.pt (pw_or (pt_cmpR op_eq (pv 2) pe_int (nomark _)) (pw_or1 (pt_cmpR op_eq (pv 1) pe_int (nomark _))))) (pss_one (ps_ret (GL.ge_call (g_l_one T) (hr.mono (by first | decide | omega)) GL.tk_top rfl (pa_cons (pv 0) (pa_cons (GL.pe_lstN (pa_cons pe_str (pa_cons pe_str (pa_cons pe_str (pa_cons pe_str (pa_cons pe_str (pa_cons (pe_op GL.op_repS pe_str (GL.ge_call (g_l_draw T) (hr.mono (by first | decide | omega)) GL.tk_top rfl (pa_cons (pv 0) (pa_cons pe_int pa_nil)))) pa_nil))))))) pa_nil))))) pss_nil)
  (pss_one (ps_ret (pe_callTy call_tuple_of rfl T.f_tuple boot_tuple (pa_cons (pe_lc (own := [("_law_k", 3)]) rfl sc_l_value.nd (pi_range1 rfl T.f_range (pa_cons (GL.ge_call (g_l_draw T) (hr.mono (by first | decide | omega)) GL.tk_top rfl (pa_cons (pv 0) (pa_cons pe_int pa_nil))) pa_nil)) (blkOk_by (own := [("_law_k", 3)]) (N := ["_law_well_here", "_law_depth", "_law_way", "_law_k"]) (sc := defScope s_l_value) (by decide +kernel)) (fun _ _ _ _ _ => (pg_name (i := 3) sc_l_value.nd rfl (Or.inl rfl))) (fun _ _ _ _ _ => pts_nil) (fun _ _ _ _ _ => (GL.ge_callF (g_l_value T) hr rfl (pa_cons (pv 0) (pa_cons (pe_op op_sub (pv 1) pe_int) pa_nil))))) pa_nil)))))))), ?_⟩
      obtain ⟨pw, n, rfl, hw, hn, kQ⟩ := h
      have cg := costV_ge k
      walk_at "rd"
      refine ⟨pw, 6, n, rfl, hw, by decide, by decide, by omega, fun r1 H1 h10 h11 m1 w1 => ?_⟩
      walk_at "rd"
      cases z1 : decide (r1 < 2) with
      | true =>
        walk_at "rd"
        refine ⟨pw, 9, n + 1, rfl, w1, by decide, by decide, by omega, fun r2 H2 h20 h21 m2 w2 => ?_⟩
        walk_at "rd"
        exact kQ _ _ H2 (m1.trans m2 fun b hb => .inl hb) (w2.mono (by omega)) (.int _) ((Vd.int (i := r2 - 4) (by omega)).up (Nat.zero_le _))
      | false =>
        walk_at "rd"
        cases z2 : decide (r1 = 2) with
        | true =>
          walk_at "rd"
          refine rd_i ⟨by decide, by decide, by decide⟩ ?_
          walk_at "rd"
          refine rd_i ⟨by decide, by decide, by decide⟩ ?_
          walk_at "rd"
          refine ⟨pw, _, n + 1, rfl, w1, by decide, by decide, by omega, fun r2 H2 h20 h21 m2 w2 => ?_⟩
          have h21 : r2 < 1000000000 := h21
          walk_at "rd"
          exact kQ _ _ H2 (m1.trans m2 fun b hb => .inl hb) (w2.mono (by omega)) (.int _) ((Vd.int (i := (10 : Int) ^ (20 : Int).toNat - r2) (by
            have e : (10 : Int) ^ (20 : Int).toNat = 100000000000000000000 := by decide
            rw [e]; omega)).up (Nat.zero_le _))
        | false =>
          walk_at "rd"
          have leaf : ∀ {H1 H2 : Hp} {p : Addr} {E' : XK} {r : Int}, Mu [pw] H H1 → Wl H1 pw (n + 1 + 1) → H1 p = none → Ex H1 H2 → 0 ≤ r → r < 130 → H2 p = some (.lst [.str "", .str "a", .str "log", .str "tail", .str "copy", .str (Txt.mul "q" r)]) → spOne [.ref pw, .ref p] H2 Q E' := fun {H1 H2 p E' r} m1 w1 np e2 r0 r1 hp => by
            have hne : p ≠ pw := fun z => w1.ne (by rw [← z]; exact np)
            refine ⟨pw, p, n + 1 + 1, _, rfl, w1.exd e2, hp, hne, by simp, by simp, by omega, fun v i H3 hi m3 w3 => ?_⟩
            have hv : ∃ x : Str, v = .str x ∧ PyData.strOk x = true ∧ x.cps.size ≤ 130 := by
              have hm := List.mem_of_getElem? hi
              simp only [List.mem_cons, List.not_mem_nil, or_false] at hm
              rcases hm with rfl | rfl | rfl | rfl | rfl | rfl
              rotate_left 5
              · exact ⟨_, rfl, (q_mul r0 r1).2⟩
              all_goals exact ⟨_, rfl, by decide +kernel, by decide +kernel⟩
            obtain ⟨x, rfl, hx1, hx2⟩ := hv
            exact kQ _ _ H3 ((m1.thenEx e2).trans m3 fun b hb => .inl hb) (w3.mono (by omega)) (.str x) ((Vd.str hx1 hx2).up (Nat.zero_le _))
          cases z3 : decide (r1 = 3) with
          | true =>
            walk_at "rd"
            refine ⟨pw, 130, n + 1, rfl, w1, by decide, by decide, by omega, fun r2 H2 h20 h21 m2 w2 => ?_⟩
            walk_at "rd"
            refine ⟨_, _, rfl, rfl, (q_mul h20 h21).1, ?_⟩
            walk_at "rd"
            refine ⟨by simp, fun p H3 np e3 hp => ?_⟩
            walk_at "rd"
            exact leaf (m1.trans m2 fun b hb => .inl hb) w2 np e3 h20 h21 hp
          | false =>
            walk_at "rd"
            cases z4 : decide (((k : Nat) : Int) = 0) with
            | true =>
              walk_at "rd"
              refine ⟨pw, 130, n + 1, rfl, w1, by decide, by decide, by omega, fun r2 H2 h20 h21 m2 w2 => ?_⟩
              walk_at "rd"
              refine ⟨_, _, rfl, rfl, (q_mul h20 h21).1, ?_⟩
              walk_at "rd"
              refine ⟨by simp, fun p H3 np e3 hp => ?_⟩
              walk_at "rd"
              exact leaf (m1.trans m2 fun b hb => .inl hb) w2 np e3 h20 h21 hp
            | false =>
              walk_at "rd"
              have hk : k ≠ 0 := fun z => by rw [z] at z4; simp at z4
              obtain ⟨j, rfl⟩ : ∃ j, k = j + 1 := ⟨k - 1, by omega⟩
              have hc : costV (j + 1) = 2 + 3 * costV j := rfl
              have cj := costV_ge j
              refine ⟨pw, 4, n + 1, rfl, w1, by decide, by decide, by omega, fun r2 H2 h20 h21 m2 w2 => ?_⟩
              walk_at "rd"
              refine ⟨_, rfl, by omega, by omega, fun d nd => ?_⟩
              have m02 : Mu [pw] H H2 := m1.trans m2 fun b hb => .inl hb
              have dpw : d ≠ pw := fun z => w2.ne (by rw [← z]; exact nd)
              have nd0 : H d = none := by
                rcases m02.back nd with z | z
                · exact absurd (List.mem_singleton.mp z) dpw
                · exact z
              refine lc_range (fun i H3 => ∃ ys ds, H3 d = some (.lst ys) ∧ DpAll K H3 ys ds ∧ ds.length = i ∧ (∀ x ∈ ds, Vd j x) ∧ Mu [pw] H H3 ∧ Wl H3 pw (n + 2 + i * costV j)) ⟨[], [], upd_same, .nil, rfl, fun x hx => absurd hx List.not_mem_nil, m02.new nd _, ?_⟩ ?_ ?_
              · rw [Int.natCast_zero, Int.zero_mul, Int.add_zero]
                exact (w2.exd (Ex.new nd)).mono (by omega)
              · rintro i H3 hi ⟨ys, ds, hd, hy, hl, hv, m3, w3⟩
                walk_at "rd"
                refine ⟨rfl, ?_⟩
                walk_at "rd"
                have hi3 : (i : Int) ≤ 2 := by omega
                have hic : (i : Int) * costV j ≤ 2 * costV j := Int.mul_le_mul_of_nonneg_right hi3 (by omega)
                have ej : ((j + 1 : Nat) : Int) - 1 = ((j : Nat) : Int) := by omega
                rw [ej]
                refine ⟨by omega, pw, n + 2 + i * costV j, rfl, w3, by show n + 2 + ↑i * costV j + costV j ≤ 100000; omega, fun v dv H4 m4 w4 hdv vd => ?_⟩
                have vd : Vd j dv := vd
                have hd4 : H4 d = some (.lst ys) := m4 _ _ hd (by simp; exact dpw)
                have nlds : noLAll ds = true := noLAll_iff.mpr fun x hx => valOk_noL j x (hv x hx).ok
                have hy4 := dpAll_mu m4 w3.nt _ _ nlds hy
                have ly := da_len hy
                refine ⟨ys, hd4, sz_lt (by omega), _, ds ++ [dv], upd_same, ?_, by rw [List.length_append, hl]; rfl, fun x hx => ?_, (m3.trans m4 fun b hb => .inl hb).fresh nd0 _, ?_⟩
                · have m5 : Mu [d] H4 (upd H4 d (.lst (ys ++ [v]))) := (Mu.refl [d] H4).set (List.mem_singleton.mpr rfl) _
                  exact da_app (dpAll_mu m5 (nt_lst hd4) _ _ nlds hy4) (da_one (dp_mu m5 (nt_lst hd4) _ _ (valOk_noL j _ vd.ok) hdv))
                · rcases List.mem_append.mp hx with z | z
                  · exact hv x z
                  · rw [List.mem_singleton.mp z]; exact vd
                · obtain ⟨x, c, q, h1, h2, h3⟩ := w4
                  have e : n + 2 + ((i + 1 : Nat) : Int) * costV j = n + 2 + i * costV j + costV j := by
                    rw [show ((i + 1 : Nat) : Int) = (i : Int) + 1 from rfl, Int.add_mul, Int.one_mul]; omega
                  rw [e]
                  exact ⟨x, c, q, by rw [upd_ne dpw.symm]; exact h1, h2, h3⟩
              · rintro H3 ⟨ys, ds, hd, hy, hl, hv, m3, w3⟩
                walk_at "rd"
                have hi3 : ((r2.toNat : Nat) : Int) ≤ 3 := by omega
                have hic : ((r2.toNat : Nat) : Int) * costV j ≤ 3 * costV j := Int.mul_le_mul_of_nonneg_right hi3 (by omega)
                refine ⟨d, ys, rfl, .inl ⟨sq_of hd, fun l nl => ?_⟩⟩
                exact kQ _ _ _ (m3.new nl _) ((w3.exd (Ex.new nl)).mono (by omega)) (.tup (st_of upd_same) (dpAll_ex (Ex.new nl) _ _ hy)) (Vd.tuple hv (by omega))
  exact ⟨_, GL.Held.plain hf hb, T.g__law_value, F.kp⟩
theorem g_l_value_n {P : Program} {w : World} {K : PySem.W.Frag} {mg : Str → Option Value} {base : Heap} (T : Txt K mg) : ∀ k : Nat, GL.GF true P w K mg base "_law_value" (k + 3) (spVal K k)
  | 0 => l_value_step T 0 fun T => by
    obtain ⟨f, h, r⟩ := (g_l_value_v T 2 : GL.GF true P w K mg base "_law_value" 2 _)
    exact ⟨f, h.imp fun _ _ _ _ z => absurd z.1 (by decide), r⟩
  | k + 1 => l_value_step T (k + 1) fun T => by
    obtain ⟨f, h, r⟩ := g_l_value_n (P := P) (w := w) (base := base) T k
    exact ⟨f, h.imp fun _ _ _ _ z => z.2, r⟩

def names : List Str := ("BadBlock" : Str) :: ("BadChoice" : Str) :: ("BadCount" : Str) :: ("BadLayout" : Str) :: ("BadPath" : Str) :: ("BadRule" : Str) :: ("BadStep" : Str) :: ("BadValue" : Str) :: ("HasEntry" : Str) :: ("NoEntry" : Str) :: ("NoRoom" : Str) :: ("NoSpace" : Str) :: ("NotEmpty" : Str) :: ("TooMany" : Str) :: []
theorem ix_err (y : Str) (h : (errs.map (·.1)).elem y = true) : ∃ q ∈ errs, q.1 = y := by
  have := List.elem_iff.mp h
  obtain ⟨q, hq, e⟩ := List.mem_map.mp this
  exact ⟨q, hq, e⟩
theorem g_l_classes_of {c : Bool} {P : Program} {w : World} {K : PySem.W.Frag} {mg : Str → Option Value} {base : Heap} (T : Txt K mg) : GL.GF c P w K mg base "_law_classes_of" 1 (spClasses K errs names) := by
  obtain ⟨fd, F⟩ := T.def_l_classes_of
  have hb : Binds K fd ["_law_e"] [] := F.bindsN (fun _ _ _ _ _ _ us hl => match us, hl with | [_], _ => rfl)
  have hf : GL.Fn c P w K mg base 1 (He.fAd K ("_law_classes_of", none)) fd ["_law_e"] (spClasses K errs names) := by
    refine GL.fn_def (k := 0) F sc_l_classes_of ?len ?body
    case len => intro vs H Q E h; obtain ⟨_,_,_,rfl,_⟩ := h; rfl
    case body =>
      intro cdv A outer s H vs Q E hr h
      refine ⟨_, (pss_cons (ps_set (i := 1) sc_l_classes_of.nd rfl (Or.inl rfl) (GL.pe_lstN (pa_cons (pe_callB GL.call_isF rfl T.f_isinstance boot_isinstance (pa_cons (pv 0) (pa_cons (pe_glob (v := .ref (He.ga K "BadBlock")) rfl T.g_BadBlock rfl) pa_nil))) (pa_cons (pe_callB GL.call_isF rfl T.f_isinstance boot_isinstance (pa_cons (pv 0) (pa_cons (pe_glob (v := .ref (He.ga K "BadChoice")) rfl T.g_BadChoice rfl) pa_nil))) (pa_cons (pe_callB GL.call_isF rfl T.f_isinstance boot_isinstance (pa_cons (pv 0) (pa_cons (pe_glob (v := .ref (He.ga K "BadCount")) rfl T.g_BadCount rfl) pa_nil))) (pa_cons (pe_callB GL.call_isF rfl T.f_isinstance boot_isinstance (pa_cons (pv 0) (pa_cons (pe_glob (v := .ref (He.ga K "BadLayout")) rfl T.g_BadLayout rfl) pa_nil))) pa_nil))))))
  (pss_cons (ps_set (i := 1) sc_l_classes_of.nd rfl (Or.inl rfl) (pe_op GL.op_catN (pv 1) (GL.pe_lstN (pa_cons (pe_callB GL.call_isF rfl T.f_isinstance boot_isinstance (pa_cons (pv 0) (pa_cons (pe_glob (v := .ref (He.ga K "BadPath")) rfl T.g_BadPath rfl) pa_nil))) (pa_cons (pe_callB GL.call_isF rfl T.f_isinstance boot_isinstance (pa_cons (pv 0) (pa_cons (pe_glob (v := .ref (He.ga K "BadRule")) rfl T.g_BadRule rfl) pa_nil))) (pa_cons (pe_callB GL.call_isF rfl T.f_isinstance boot_isinstance (pa_cons (pv 0) (pa_cons (pe_glob (v := .ref (He.ga K "BadStep")) rfl T.g_BadStep rfl) pa_nil))) (pa_cons (pe_callB GL.call_isF rfl T.f_isinstance boot_isinstance (pa_cons (pv 0) (pa_cons (pe_glob (v := .ref (He.ga K "BadValue")) rfl T.g_BadValue rfl) pa_nil))) pa_nil)))))))
  (pss_cons (ps_set (i := 1) sc_l_classes_of.nd rfl (Or.inl rfl) (pe_op GL.op_catN (pv 1) (GL.pe_lstN (pa_cons (pe_callB GL.call_isF rfl T.f_isinstance boot_isinstance (pa_cons (pv 0) (pa_cons (pe_glob (v := .ref (He.ga K "HasEntry")) rfl T.g_HasEntry rfl) pa_nil))) (pa_cons (pe_callB GL.call_isF rfl T.f_isinstance boot_isinstance (pa_cons (pv 0) (pa_cons (pe_glob (v := .ref (He.ga K "NoEntry")) rfl T.g_NoEntry rfl) pa_nil))) (pa_cons (pe_callB GL.call_isF rfl T.f_isinstance boot_isinstance (pa_cons (pv 0) (pa_cons (pe_glob (v := .ref (He.ga K "NoRoom")) rfl T.g_NoRoom rfl) pa_nil))) (pa_cons (pe_callB GL.call_isF rfl T.f_isinstance boot_isinstance (pa_cons (pv 0) (pa_cons (pe_glob (v := .ref (He.ga K "NoSpace")) rfl T.g_NoSpace rfl) pa_nil))) pa_nil)))))))
  (pss_cons (ps_set (i := 1) sc_l_classes_of.nd rfl (Or.inl rfl) (pe_op GL.op_catN (pv 1) (GL.pe_lstN (pa_cons (pe_callB GL.call_isF rfl T.f_isinstance boot_isinstance (pa_cons (pv 0) (pa_cons (pe_glob (v := .ref (He.ga K "NotEmpty")) rfl T.g_NotEmpty rfl) pa_nil))) (pa_cons (pe_callB GL.call_isF rfl T.f_isinstance boot_isinstance (pa_cons (pv 0) (pa_cons (pe_glob (v := .ref (He.ga K "TooMany")) rfl T.g_TooMany rfl) pa_nil))) pa_nil)))))
  (pss_one (ps_ret (pe_op op_add (pe_op op_add (pe_bm PySem.F.plainAttrs_list PySem.F.slot_list_count PySem.F.type_list_count GL.mt_countT (pv 1) (pa_cons pe_bl pa_nil)) (pe_callTy call_int1 rfl T.f_int boot_int (pa_cons (pe_not (pe_callB GL.call_isF rfl T.f_isinstance boot_isinstance (pa_cons (pv 0) (pa_cons (pe_glob (v := .ref (He.ga K "LogError")) rfl T.g_LogError rfl) pa_nil)))) pa_nil))) (pe_callTy call_int1 rfl T.f_int boot_int (pa_cons (pe_not (pe_callB call_isi rfl T.f_isinstance boot_isinstance (pa_cons (GL.ge_fxf (pv 0)) (pa_cons (pe_bltn (v := .ty "str") rfl T.f_str boot_str rfl) pa_nil)))) pa_nil))))))))), ?_⟩
      obtain ⟨a, x, fs, rfl, he, hx, kQ⟩ := h
      have go : ∀ {H : Hp} {y : Str} {Q : VK}, Err K errs H a x fs → (errs.map (·.1)).elem y = true → Q (.bl (decide (x = y))) H → rIsF K [.ref a, .ref (He.ga K y)] H Q := fun he hy k => by
        obtain ⟨q, hq, e⟩ := ix_err _ hy
        exact he.isi hq e k
      walk_at "rd"
      refine go he (by decide +kernel) ?_
      walk_at "rd"
      refine go he (by decide +kernel) ?_
      walk_at "rd"
      refine go he (by decide +kernel) ?_
      walk_at "rd"
      refine go he (by decide +kernel) ?_
      walk_at "rd"
      refine ⟨by simp, fun l1 H1 n1 e1 g1 => ?_⟩
      have he1 := he.exd e1
      walk_at "rd"
      refine go he1 (by decide +kernel) ?_
      walk_at "rd"
      refine go he1 (by decide +kernel) ?_
      walk_at "rd"
      refine go he1 (by decide +kernel) ?_
      walk_at "rd"
      refine go he1 (by decide +kernel) ?_
      walk_at "rd"
      refine ⟨by simp, fun l2 H2 n2 e2 g2 => ?_⟩
      walk_at "rd"
      refine rdn_cat (e2 _ _ g1) g2 (by simp) fun l3 H3 n3 e3 g3 => ?_
      have he3 := (he1.exd e2).exd e3
      walk_at "rd"
      refine go he3 (by decide +kernel) ?_
      walk_at "rd"
      refine go he3 (by decide +kernel) ?_
      walk_at "rd"
      refine go he3 (by decide +kernel) ?_
      walk_at "rd"
      refine go he3 (by decide +kernel) ?_
      walk_at "rd"
      refine ⟨by simp, fun l4 H4 n4 e4 g4 => ?_⟩
      walk_at "rd"
      refine rdn_cat (e4 _ _ g3) g4 (by simp) fun l5 H5 n5 e5 g5 => ?_
      have he5 := (he3.exd e4).exd e5
      walk_at "rd"
      refine go he5 (by decide +kernel) ?_
      walk_at "rd"
      refine go he5 (by decide +kernel) ?_
      walk_at "rd"
      refine ⟨by simp, fun l6 H6 n6 e6 g6 => ?_⟩
      walk_at "rd"
      refine rdn_cat (e6 _ _ g5) g6 (by simp) fun l7 H7 n7 e7 g7 => ?_
      have he7 := (he5.exd e6).exd e7
      walk_at "rd"
      refine rd_tyL g7 ?_
      walk_at "rd"
      refine ⟨_, _, _, rfl, rfl, sq_of g7, rfl, rfl, ?_⟩
      walk_at "rd"
      refine he7.isb ?_
      walk_at "rd"
      refine .inr ⟨_, rfl, ?_⟩
      walk_at "rd"
      refine he7.fwhy fun t => ?_
      walk_at "rd"
      refine rd_isi (.inl (.str t)) (kit_str _) ?_
      walk_at "rd"
      refine .inr ⟨_, rfl, ?_⟩
      walk_at "rd"
      have key : ∀ y ∈ names, ((([V.bl (decide (y = "BadBlock")), V.bl (decide (y = "BadChoice")), V.bl (decide (y = "BadCount")), V.bl (decide (y = "BadLayout"))] ++ [V.bl (decide (y = "BadPath")), V.bl (decide (y = "BadRule")), V.bl (decide (y = "BadStep")), V.bl (decide (y = "BadValue"))]) ++
          [V.bl (decide (y = "HasEntry")), V.bl (decide (y = "NoEntry")), V.bl (decide (y = "NoRoom")), V.bl (decide (y = "NoSpace"))]) ++ [V.bl (decide (y = "NotEmpty")), V.bl (decide (y = "TooMany"))]).countP (fun z => L2.eqV z (.bl true)) = 1 := by decide +kernel
      rw [key x hx]
      exact kQ _ ((((((e1.trans e2).trans e3).trans e4).trans e5).trans e6).trans e7)
  exact ⟨_, GL.Held.plain hf hb, T.g__law_classes_of, F.kp⟩

def nest : Nat → PyData
  | 0 => .int 7
  | n + 1 => .tuple [nest n]
theorem nest_noL : ∀ n, noL (nest n) = true
  | 0 => by simp [nest, noL]
  | n + 1 => by simp [nest, noL, noLAll, nest_noL n]
theorem nest_tm : ∀ n, Tm n (20 + n) (nest n)
  | 0 => Tm.int (by decide)
  | n + 1 => (Tm.tuple (n := 1) (fun d hd => by rw [List.mem_singleton.mp hd]; exact nest_tm n) (by simp)).mono (Nat.le_refl _) (by omega)
def spOddV (K : PySem.W.Frag) : Sp := fun vs H Q _ => ∃ (pw : Addr) (n : Int), vs = [.ref pw] ∧ Wl H pw n ∧ n ≤ 99990 ∧ ∀ v d H', Mu [pw] H H' → Wl H' pw (n + 1) → Dq K H' v d → valOk 8 d = false → Q v H'
theorem g_l_odd_value {P : Program} {w : World} {K : PySem.W.Frag} {mg : Str → Option Value} {base : Heap} (T : Txt K mg) : GL.GF true P w K mg base "_law_odd_value" 3 (spOddV K) := by
  obtain ⟨fd, F⟩ := T.def_l_odd_value
  have hb : Binds K fd ["_law_well_here"] [] := F.bindsN (fun _ _ _ _ _ _ us hl => match us, hl with | [_], _ => rfl)
  have hf : GL.Fn true P w K mg base 3 (He.fAd K ("_law_odd_value", none)) fd ["_law_well_here"] (spOddV K) := by
    refine GL.fn_def (k := 2) F sc_l_odd_value ?len ?body
    case len => intro vs H Q E h; obtain ⟨_,_,rfl,_⟩ := h; rfl
    case body =>
      intro cdv A outer s H vs Q E hr h
      refine ⟨_, (pss_cons (ps_set (i := 1) sc_l_odd_value.nd rfl (Or.inl rfl) pe_int)
  (pss_cons (ps_for (GL.po_top) rfl (pi_range1 rfl T.f_range (pa_cons pe_int pa_nil)) (pg_name (i := 2) sc_l_odd_value.nd rfl (Or.inl rfl)) (pss_one (ps_set (i := 1) sc_l_odd_value.nd rfl (Or.inl rfl) (GL.pe_tupN (pa_cons (pv 1) pa_nil)))))
  (pss_one (ps_ret (GL.ge_call (g_l_one T) hr GL.tk_top rfl (pa_cons (pv 0) (pa_cons (GL.pe_lstN (pa_cons pe_non (pa_cons pe_bl (pa_cons (GL.pe_lstN (pa_cons pe_int pa_nil)) (pa_cons (GL.pe_tupN (pa_cons pe_int (pa_cons pe_non pa_nil))) (pa_cons (GL.pe_tupN (pa_cons (GL.pe_tupN (pa_cons pe_int (pa_cons (GL.pe_lstN (pa_cons pe_int pa_nil)) pa_nil))) pa_nil)) (pa_cons GL.pe_dnewN (pa_cons (GL.pe_tupN (pa_cons pe_int (pa_cons (GL.pe_tupN (pa_cons pe_bl pa_nil)) pa_nil))) (pa_cons (pv 1) (pa_cons (GL.pe_tupN (pa_cons (pv 1) pa_nil)) pa_nil)))))))))) pa_nil))))))), ?_⟩
      obtain ⟨pw, n, rfl, hw, hn, kQ⟩ := h
      walk_at "rd"
      refine ⟨_, rfl, by decide, by decide, ?_⟩
      refine for_range (fun i σ H1 => ∃ v u, σ = [some (.ref pw), some v, u] ∧ Ex H H1 ∧ Dp K H1 v (nest i)) ⟨.int 7, none, rfl, Ex.refl _, .int _⟩ ?_ ?_
      · rintro i σ H1 hi ⟨v, u, rfl, e1, hv⟩
        walk_at "rd"
        refine ⟨by simp, fun p H2 np e2 hp => ?_⟩
        walk_at "rd"
        exact ⟨_, _, rfl, e1.trans e2, .tup (st_of hp) (.cons (dp_ex e2 _ _ hv) .nil)⟩
      rintro σ H1 ⟨v, u, rfl, e1, hv⟩
      have hv : Dp K H1 v (nest 9) := hv
      walk_at "rd"
      refine ⟨by simp, fun p1 H2 n1 e2 g1 => ?_⟩
      walk_at "rd"
      refine ⟨by simp, fun p2 H3 n2 e3 g2 => ?_⟩
      walk_at "rd"
      refine ⟨by simp, fun p3 H4 n3 e4 g3 => ?_⟩
      walk_at "rd"
      refine ⟨by simp, fun p4 H5 n4 e5 g4 => ?_⟩
      walk_at "rd"
      refine ⟨by simp, fun p5 H6 n5 e6 g5 => ?_⟩
      walk_at "rd"
      intro p6 H7 n6 e7 g6
      walk_at "rd"
      refine ⟨by simp, fun p7 H8 n7 e8 g7 => ?_⟩
      walk_at "rd"
      refine ⟨by simp, fun p8 H9 n8 e9 g8 => ?_⟩
      walk_at "rd"
      refine ⟨by simp, fun p9 H10 n9 e10 g9 => ?_⟩
      walk_at "rd"
      refine ⟨by simp, fun p10 H11 n10 e11 g10 => ?_⟩
      walk_at "rd"
      have w1 := hw.exd e1
      have w2 := w1.exd e2
      have w3 := w2.exd e3
      have w4 := w3.exd e4
      have w5 := w4.exd e5
      have w6 := w5.exd e6
      have w7 := w6.exd e7
      have w8 := w7.exd e8
      have w9 := w8.exd e9
      have w10 := w9.exd e10
      have w11 := w10.exd e11
      have q : ∀ {H : Hp} {p : Addr}, Wl H pw n → H p = none → p ≠ pw := fun w np z => w.ne (by rw [← z]; exact np)
      refine ⟨pw, p10, n, _, rfl, w11, g10, q w10 n10, by simp, by simp, by omega, fun r i H12 hi m12 w12 => ?_⟩
      have ea : Ex H1 H11 := (((((((((e2.trans e3).trans e4).trans e5).trans e6).trans e7).trans e8).trans e9).trans e10).trans e11)
      have kp : ∀ {p : Addr} {o : HO}, H11 p = some o → p ≠ pw → H12 p = some o := fun h hne => m12 _ _ h (by simp; exact hne)
      have f1 := kp ((((((((((e3.trans e4).trans e5).trans e6).trans e7).trans e8).trans e9).trans e10).trans e11)) _ _ g1) (q w1 n1)
      have f2 := kp (((((((((e4.trans e5).trans e6).trans e7).trans e8).trans e9).trans e10).trans e11)) _ _ g2) (q w2 n2)
      have f3 := kp ((((((((e5.trans e6).trans e7).trans e8).trans e9).trans e10).trans e11)) _ _ g3) (q w3 n3)
      have f4 := kp (((((((e6.trans e7).trans e8).trans e9).trans e10).trans e11)) _ _ g4) (q w4 n4)
      have f5 := kp ((((((e7.trans e8).trans e9).trans e10).trans e11)) _ _ g5) (q w5 n5)
      have f6 := kp (((((e8.trans e9).trans e10).trans e11)) _ _ g6) (q w6 n6)
      have f7 := kp ((((e9.trans e10).trans e11)) _ _ g7) (q w7 n7)
      have f8 := kp (((e10.trans e11)) _ _ g8) (q w8 n8)
      have f9 := kp (e11 _ _ g9) (q w9 n9)
      have hv12 : Dp K H12 v (nest 9) := dp_mu m12 w11.nt _ _ (nest_noL 9) (dp_ex ea _ _ hv)
      have fin : ∀ d, Dq K H12 r d → valOk 8 d = false → Q r H12 := fun d hd hb => kQ r d H12 ((Mu.ofEx (e1.trans ea)).trans m12 fun b hb => .inl hb) w12 hd hb
      have hmem := List.mem_of_getElem? hi
      simp only [List.mem_cons, List.not_mem_nil, or_false] at hmem
      rcases hmem with rfl | rfl | rfl | rfl | rfl | rfl | rfl | rfl | rfl
      · exact fin .none (.inl .non) (by simp [valOk])
      · exact fin (.bool true) (.inl (.bl _)) (by simp [valOk])
      · exact fin (.list [.int 1]) (.inl (.lst (sq_of f1) (.cons (.int _) .nil))) (by simp [valOk])
      · exact fin (.tuple [.int 1, .none]) (.inl (.tup (st_of f2) (.cons (.int _) (.cons .non .nil)))) (by simp [valOk, valOkAll])
      · exact fin (.tuple [.tuple [.int 1, .list [.int 2]]]) (.inl (.tup (st_of f5) (.cons (.tup (st_of f4) (.cons (.int _) (.cons (.lst (sq_of f3) (.cons (.int _) .nil)) .nil))) .nil))) (by simp [valOk, valOkAll])
      · exact fin (.dict []) (.inr ⟨p6, rfl, f6, rfl⟩) (by simp [valOk])
      · exact fin (.tuple [.int 1, .tuple [.bool false]]) (.inl (.tup (st_of f8) (.cons (.int _) (.cons (.tup (st_of f7) (.cons (.bl _) .nil)) .nil)))) (by simp [valOk, valOkAll])
      · exact fin (nest 9) (.inl hv12) (by decide +kernel)
      · exact fin (nest 10) (.inl (.tup (st_of f9) (.cons hv12 .nil))) (by decide +kernel)
  exact ⟨_, GL.Held.plain hf hb, T.g__law_odd_value, F.kp⟩
def spIsB (K : PySem.W.Frag) : Sp := fun vs H Q _ => ∃ v d n, vs = [v, .int n] ∧ Dq K H v d ∧ Q (.bl (betw d 0 (n - 1))) H
theorem g_l_is_block {c : Bool} {P : Program} {w : World} {K : PySem.W.Frag} {mg : Str → Option Value} {base : Heap} (T : Txt K mg) : GL.GF c P w K mg base "_law_is_block" 1 (spIsB K) := by
  obtain ⟨fd, F⟩ := T.def_l_is_block
  have hb : Binds K fd ["_law_value_here", "_law_size"] [] := F.bindsN (fun _ _ _ _ _ _ us hl => match us, hl with | [_, _], _ => rfl)
  have hf : GL.Fn c P w K mg base 1 (He.fAd K ("_law_is_block", none)) fd ["_law_value_here", "_law_size"] (spIsB K) := by
    refine GL.fn_def (k := 0) F sc_l_is_block ?len ?body
    case len => intro vs H Q E h; obtain ⟨_,_,_,rfl,_⟩ := h; rfl
    case body =>
      intro cdv A outer s H vs Q E hr h
      refine ⟨_, (pss_one (ps_ret (pe_and (pe_callB call_isi rfl T.f_isinstance boot_isinstance (pa_cons (pv 0) (pa_cons (pe_bltn (v := .ty "int") rfl T.f_int boot_int rfl) pa_nil))) (pe_and (pe_not (pe_callB call_isi rfl T.f_isinstance boot_isinstance (pa_cons (pv 0) (pa_cons (pe_bltn (v := .ty "bool") rfl T.f_bool boot_bool rfl) pa_nil)))) (pe_one (pe_chain op_le op_lt pe_int (pv 0) (pv 1))))))), ?_⟩
      obtain ⟨v, d, n, rfl, hd, k⟩ := h
      walk_at "rd"
      refine rd_isi hd (kit_int d) ?_
      cases d with
      | int i =>
        obtain rfl := dq_int hd
        walk_at "rd"
        refine rd_isi hd (kit_bool _) ?_
        walk_at "rd"
        have k : Q (.bl (decide (0 ≤ i) && decide (i ≤ n - 1))) H := k
        rw [show decide (i ≤ n - 1) = decide (i < n) from decide_eq_decide.mpr (by omega)] at k
        cases e2 : decide ((0 : Int) ≤ i) <;> rw [e2] at k <;> walk_at "rd" <;> exact k
      | bool b =>
        walk_at "rd"
        refine rd_isi hd (kit_bool _) ?_
        walk_at "rd"
        exact k
      | _ => walk_at "rd"; exact k
  exact ⟨_, GL.Held.plain hf hb, T.g__law_is_block, F.kp⟩

theorem ixq (K : PySem.W.Frag) (x y : Str) (hy : (errs.map (·.1)).elem y = true) (e : ErrC K "LogError" errs x) : PySem.W.exmOne K (.ref (He.ga K x)) (.ref (He.ga K y)) = some (decide (x = y)) := by
  obtain ⟨q, hq, e2⟩ := ix_err y hy
  have := e.exm q hq
  rw [e2] at this
  exact this
theorem kixq (K : PySem.W.Frag) (x y : Str) (hy : (errs.map (·.1)).elem y = true) (e : ErrC K "LogError" errs x) : PySem.W.kitOne K (.ref (He.ga K x)) (.ref (He.ga K y)) = some (decide (x = y)) := by
  obtain ⟨q, hq, e2⟩ := ix_err y hy
  have := e.kit q hq
  rw [e2] at this
  exact this
theorem g_l_told {P : Program} {w : World} {K : PySem.W.Frag} {mg : Str → Option Value} {base : Heap} (T : Txt K mg) : GL.GF true P w K mg base "_law_told" 12 (spTold1 K (He.ga K "Disk")) := by
  obtain ⟨fd, F⟩ := T.def_l_told
  have hb : Binds K fd ["_law_disk", "_law_step_here"] [] := F.bindsN (fun _ _ _ _ _ _ us hl => match us, hl with | [_, _], _ => rfl)
  have hf : GL.Fn true P w K mg base 12 (He.fAd K ("_law_told", none)) fd ["_law_disk", "_law_step_here"] (spTold1 K (He.ga K "Disk")) := by
    refine GL.fn_def (k := 11) F sc_l_told ?len ?body
    case len => intro vs H Q E h; obtain ⟨_,_,_,_,_,rfl,_⟩ := h; rfl
    case body =>
      intro cdv A outer s H vs Q E hr h
      refine ⟨_, (pss_one (GL.gs_try rfl rfl GL.tk_top (fun W pn xe tk hpo => (pss_cons (ps_if (pt_cmpR op_eq (pe_ix GL.ix_seqT (pv 1) pe_int (fun _ _ => rfl)) pe_str (nomark _)) (pss_one (ps_ret (GL.ge_meth (pv 0) T.c_Disk (g_Disk_write T) hr tk (pa_cons (pe_ix GL.ix_seqT (pv 1) pe_int (fun _ _ => rfl)) (pa_cons (pe_ix GL.ix_seqT (pv 1) pe_int (fun _ _ => rfl)) pa_nil))))) pss_nil)
  (pss_cons (ps_if (pt_cmpR op_eq (pe_ix GL.ix_seqT (pv 1) pe_int (fun _ _ => rfl)) pe_str (nomark _)) (pss_one (ps_ret (GL.pe_tupN (pa_cons pe_str (pa_cons (GL.ge_meth (pv 0) T.c_Disk (g_Disk_read T) (hr.mono (by first | decide | omega)) tk (pa_cons (pe_ix GL.ix_seqT (pv 1) pe_int (fun _ _ => rfl)) pa_nil)) pa_nil))))) pss_nil)
  (pss_one (ps_ret (GL.ge_meth0 (pv 0) T.c_Disk (g_Disk_flush T) (hr.mono (by first | decide | omega)) tk)))))) (GL.ClOk.named (i := 2) sc_l_told.nd rfl rfl ⟨rfl, by decide, (.inl T.g_LogError)⟩ (fun a oe cls d pn hz hf hnb => (pss_cons (ps_if (pt_cmpR op_ne (GL.ge_callE (g_l_classes_of T) ((hr.mono (by first | decide | omega)).mark _) hz hf hnb rfl (pa_cons (pv 2) pa_nil)) pe_int (nomark _)) (pss_one (ps_ret pe_str)) pss_nil)
  (pss_cons (ps_if (pt_val (pe_callB (GL.call_isP hz hf) rfl T.f_isinstance boot_isinstance (pa_cons (pv 2) (pa_cons (pe_glob (v := .ref (He.ga K "BadBlock")) rfl T.g_BadBlock rfl) pa_nil)))) (pss_one (ps_ret (GL.pe_tupN (pa_cons pe_str (pa_cons (pe_callB (GL.call_reprS hr) rfl T.f_repr boot_repr (pa_cons (GL.ge_fxp hz hf (pv 2)) pa_nil)) pa_nil))))) pss_nil)
  (pss_one (ps_ret (pe_ix GL.ix_seqS (GL.pe_lstN (pa_cons pe_str (pa_cons pe_str pa_nil))) (pe_callTy call_int1 rfl T.f_int boot_int (pa_cons (pe_callB (GL.call_isP hz hf) rfl T.f_isinstance boot_isinstance (pa_cons (pv 2) (pa_cons (pe_glob (v := .ref (He.ga K "BadValue")) rfl T.g_BadValue rfl) pa_nil))) pa_nil)) (fun _ _ => rfl))))))) GL.ClOk.nil))), ?_⟩
      obtain ⟨a, p, F, D, st, rfl, hD, hst, hl, kT, kF⟩ := h
      walk_at "rd"
      match st, hst, kT, kF with
      | .fl, hst, kT, kF =>
        have hst : H p = some (.tup [.str "flush"]) := hst
        refine rd_ixT (st_of hst) (v := .str "flush") rfl ?_
        walk_at "rd"
        rw [show decide (("flush" : Str) = "write") = false from by decide +kernel]
        walk_at "rd"
        refine rd_ixT (st_of hst) (v := .str "flush") rfl ?_
        walk_at "rd"
        rw [show decide (("flush" : Str) = "read") = false from by decide +kernel]
        walk_at "rd"
        refine hD.self (by decide +kernel) ?_
        walk_at "rd"
        exact ⟨a, F, D, rfl, hD, hl, fun H' F' d f => kT rfl H' F' d f⟩
      | .rd v d, hst, kT, kF =>
        obtain ⟨h1, h2, sh⟩ := hst
        refine rd_ixT (st_of h1) (v := .str "read") rfl ?_
        walk_at "rd"
        rw [show decide (("read" : Str) = "write") = false from by decide +kernel]
        walk_at "rd"
        refine rd_ixT (st_of h1) (v := .str "read") rfl ?_
        walk_at "rd"
        rw [show decide (("read" : Str) = "read") = true from by decide +kernel]
        walk_at "rd"
        refine hD.self (by decide +kernel) ?_
        walk_at "rd"
        refine rd_ixT (st_of h1) (v := v) rfl ?_
        walk_at "rd"
        refine ⟨a, F, D, v, d, rfl, hD, h2, fun hb u e he hu => ?_, fun hb H' dd t e1 nd hdd => ?_⟩
        · walk_at "rd"
          refine ⟨by simp, fun q H2 nq e2 gq => ?_⟩
          refine kF rfl _ H2 e2 ?_
          show Dp K H2 (.ref q) (if blk D d = true then _ else _)
          rw [if_pos hb, he]
          exact .tup (st_of gq) (.cons (.str _) (.cons (dp_ex e2 _ _ hu) .nil))
        · refine ⟨true, T.x_BadBlock.1.eb, fun _ b hb2 => ?_, (fun z => by cases z)⟩
          walk_at "rd"
          intro o hz hf nb
          have e2 := Ex.new nb (o := FX o b)
          refine ⟨b, "BadBlock", _, rfl, ⟨⟨o, dd, upd_same, hz, hf, e2 _ _ hdd⟩, T.x_BadBlock.1, t, rfl⟩, by decide +kernel, fun H2 e3 => ?_⟩
          have e4 : Ex H' (del H2 b) := ex_del nb e3
          walk_at "rd"
          rw [show (!decide ((1 : Int) = 1)) = false from by decide]
          walk_at "rd"
          refine ⟨_, _, _, _, true, rfl, rfl, rfl, e4 _ _ hdd, T.x_BadBlock.1.xc, kixq K "BadBlock" "BadBlock" (by decide +kernel) T.x_BadBlock.1, ?_⟩
          walk_at "rd"
          refine ⟨rfl, _, _, _, _, rfl, rfl, T.x_BadBlock.1.xc, T.x_BadBlock.2 _ (by simp), e4 _ _ hdd, rfl, ?_⟩
          walk_at "rd"
          refine ⟨v, d, rfl, dq_ex (e1.trans e4) h2, sh.sh, sh.dep, sh.len, ?_⟩
          walk_at "rd"
          refine ⟨by simp, fun q H5 nq e5 gq => ?_⟩
          refine kF rfl _ H5 ((e1.trans e4).trans e5) ?_
          show Dp K H5 (.ref q) (if blk D d = true then _ else _)
          rw [hb, if_neg Bool.false_ne_true]
          exact .tup (st_of gq) (.cons (.str _) (.cons (.str _) .nil))
      | .wr v u d e, hst, kT, kF =>
        obtain ⟨h1, h2, sh, h3⟩ := hst
        refine rd_ixT (st_of h1) (v := .str "write") rfl ?_
        walk_at "rd"
        rw [show decide (("write" : Str) = "write") = true from by decide +kernel]
        walk_at "rd"
        refine hD.self (by decide +kernel) ?_
        walk_at "rd"
        refine rd_ixT (st_of h1) (v := v) rfl ?_
        walk_at "rd"
        refine rd_ixT (st_of h1) (v := u) rfl ?_
        walk_at "rd"
        refine ⟨a, F, D, v, u, d, e, rfl, hD, h2, h3, hl, fun hb hv H' F' hD' hf' => ?_, fun hb H' dd t e1 nd hdd => ?_, fun hb hv H' dd t e1 nd hdd => ?_⟩
        · refine kT (by show (blk D d && valOk 8 e) = true; rw [hb, hv]; rfl) H' F' ?_ hf'
          show DiskAt K H' _ a F' (if blk D d = true then (if valOk 8 e = true then D.wr (intOf d) e else D) else D)
          rw [if_pos hb, if_pos hv]
          exact hD'
        · refine ⟨true, T.x_BadBlock.1.eb, fun _ b hb2 => ?_, (fun z => by cases z)⟩
          walk_at "rd"
          intro o hz hf nb
          have e2 := Ex.new nb (o := FX o b)
          refine ⟨b, "BadBlock", _, rfl, ⟨⟨o, dd, upd_same, hz, hf, e2 _ _ hdd⟩, T.x_BadBlock.1, t, rfl⟩, by decide +kernel, fun H2 e3 => ?_⟩
          have e4 : Ex H' (del H2 b) := ex_del nb e3
          walk_at "rd"
          rw [show (!decide ((1 : Int) = 1)) = false from by decide]
          walk_at "rd"
          refine ⟨_, _, _, _, true, rfl, rfl, rfl, e4 _ _ hdd, T.x_BadBlock.1.xc, kixq K "BadBlock" "BadBlock" (by decide +kernel) T.x_BadBlock.1, ?_⟩
          walk_at "rd"
          refine ⟨rfl, _, _, _, _, rfl, rfl, T.x_BadBlock.1.xc, T.x_BadBlock.2 _ (by simp), e4 _ _ hdd, rfl, ?_⟩
          walk_at "rd"
          refine ⟨v, d, rfl, dq_ex (e1.trans e4) h2, sh.sh, sh.dep, sh.len, ?_⟩
          walk_at "rd"
          refine ⟨by simp, fun q H5 nq e5 gq => ?_⟩
          refine kF (by show (blk D d && valOk 8 e) = false; rw [hb]; rfl) _ H5 ((e1.trans e4).trans e5) ?_
          show Dp K H5 (.ref q) (if blk D d = true then _ else _)
          rw [hb, if_neg Bool.false_ne_true]
          exact .tup (st_of gq) (.cons (.str _) (.cons (.str _) .nil))
        · refine ⟨true, T.x_BadValue.1.eb, fun _ b hb2 => ?_, (fun z => by cases z)⟩
          walk_at "rd"
          intro o hz hf nb
          have e2 := Ex.new nb (o := FX o b)
          refine ⟨b, "BadValue", _, rfl, ⟨⟨o, dd, upd_same, hz, hf, e2 _ _ hdd⟩, T.x_BadValue.1, t, rfl⟩, by decide +kernel, fun H2 e3 => ?_⟩
          have e4 : Ex H' (del H2 b) := ex_del nb e3
          walk_at "rd"
          rw [show (!decide ((1 : Int) = 1)) = false from by decide]
          walk_at "rd"
          refine ⟨_, _, _, _, false, rfl, rfl, rfl, e4 _ _ hdd, T.x_BadValue.1.xc, kixq K "BadValue" "BadBlock" (by decide +kernel) T.x_BadValue.1, ?_⟩
          walk_at "rd"
          refine ⟨by simp, fun q H5 nq e5 gq => ?_⟩
          walk_at "rd"
          refine ⟨_, _, _, _, true, rfl, rfl, rfl, e5 _ _ (e4 _ _ hdd), T.x_BadValue.1.xc, kixq K "BadValue" "BadValue" (by decide +kernel) T.x_BadValue.1, ?_⟩
          walk_at "rd"
          refine .inr ⟨_, rfl, ?_⟩
          refine rd_ixL (xs := [.str "other", .str "bad value"]) (sq_of gq) (v := .str "bad value") ?_ ?_
          · rfl
          refine kF (by show (blk D d && valOk 8 e) = false; rw [hv]; exact Bool.and_false _) _ H5 ((e1.trans e4).trans e5) ?_
          show Dp K H5 (.str "bad value") (if blk D d = true then (if valOk 8 e = true then _ else _) else _)
          rw [if_pos hb, hv, if_neg Bool.false_ne_true]
          exact .str _
  exact ⟨_, GL.Held.plain hf hb, T.g__law_told, F.kp⟩
def spBadSz (K : PySem.W.Frag) : Sp := fun vs H Q _ => ∃ (v : V) (d : PyData), vs = [v] ∧ Dq K H v d ∧ Sh d ∧ betw d 1 128 = false ∧ ∀ H', Ex H H' → Q (.str d.shown) H'
theorem g_l_bad_size {P : Program} {w : World} {K : PySem.W.Frag} {mg : Str → Option Value} {base : Heap} (T : Txt K mg) : GL.GF true P w K mg base "_law_bad_size" 6 (spBadSz K) := by
  obtain ⟨fd, F⟩ := T.def_l_bad_size
  have hb : Binds K fd ["_law_size"] [] := F.bindsN (fun _ _ _ _ _ _ us hl => match us, hl with | [_], _ => rfl)
  have hf : GL.Fn true P w K mg base 6 (He.fAd K ("_law_bad_size", none)) fd ["_law_size"] (spBadSz K) := by
    refine GL.fn_def (k := 5) F sc_l_bad_size ?len ?body
    case len => intro vs H Q E h; obtain ⟨_,_,rfl,_⟩ := h; rfl
    case body =>
      intro cdv A outer s H vs Q E hr h
      refine ⟨_, (pss_cons (GL.gs_try rfl rfl GL.tk_top (fun W pn xe tk hpo => (pss_one (ps_expr (GL.ge_make (g_Disk_init T) (hr.mono (by first | decide | omega)) tk rfl (pa_cons (pv 0) pa_nil))))) (GL.ClOk.named (i := 1) sc_l_bad_size.nd rfl rfl ⟨rfl, by decide, (.inl T.g_BadCount)⟩ (fun a oe cls d pn hz hf hnb => (pss_one (ps_ret (pe_callB (GL.call_reprS hr) rfl T.f_repr boot_repr (pa_cons (GL.ge_fxp hz hf (pv 1)) pa_nil))))) GL.ClOk.nil))
  (pss_one (ps_ret pe_str))), ?_⟩
      obtain ⟨v, d, rfl, hd, sh, hb, kQ⟩ := h
      walk_at "rd"
      intro x dx nx ndx hne
      have e0 : Ex H (upd (upd H dx (.own x)) x (.ins (He.ga K "Disk") dx [])) := (Ex.new ndx).trans (Ex.new (by rw [upd_ne hne.symm]; exact nx))
      refine ⟨x, dx, v, d, rfl, upd_same, dq_ex e0 hd, fun z => ?_, fun _ H1 dd t e1 nd hdd => ?_⟩
      · rw [hb] at z; cases z
      refine ⟨true, ixq K "BadCount" "BadCount" (by decide +kernel) T.x_BadCount.1, fun _ b hb2 => ?_, (fun z => by cases z)⟩
      walk_at "rd"
      refine ⟨rfl, _, _, _, _, rfl, rfl, T.x_BadCount.1.xc, T.x_BadCount.2 _ (by simp), hdd, rfl, ?_⟩
      walk_at "rd"
      refine ⟨v, d, rfl, dq_ex (e0.trans e1) hd, sh.sh, sh.dep, sh.len, ?_⟩
      walk_at "rd"
      exact kQ _ (e0.trans e1)
  exact ⟨_, GL.Held.plain hf hb, T.g__law_bad_size, F.kp⟩
def Stp.vd : Stp → Prop
  | .wr _ _ _ e => valOk 8 e = true → Vd 3 e
  | _ => True
def spStep (K : PySem.W.Frag) : Sp := fun vs H Q _ => ∃ (pw : Addr) (size : Nat) (n : Int), vs = [.ref pw, .int (size : Nat)] ∧ Wl H pw n ∧ 1 ≤ size ∧ size ≤ 128 ∧ n + 200 ≤ 100000 ∧
  ∀ pt p st H', Mu [pw] H H' → Wl H' pw (n + 200) → H p = none → H' pt = some (.tup [.ref p, .bl st.good]) → st.at_ K H' p → Stp.vd st → Q (.ref pt) H'
theorem g_l_value {P : Program} {w : World} {K : PySem.W.Frag} {mg : Str → Option Value} {base : Heap} (T : Txt K mg) : GL.GF true P w K mg base "_law_value" 6 (spVal K 3) := g_l_value_n T 3

theorem g_l_step {P : Program} {w : World} {K : PySem.W.Frag} {mg : Str → Option Value} {base : Heap} (T : Txt K mg) : GL.GF true P w K mg base "_law_step" 7 (spStep K) := by
  obtain ⟨fd, F⟩ := T.def_l_step
  have hb : Binds K fd ["_law_well_here", "_law_size"] [] := F.bindsN (fun _ _ _ _ _ _ us hl => match us, hl with | [_, _], _ => rfl)
  have hf : GL.Fn true P w K mg base 7 (He.fAd K ("_law_step", none)) fd ["_law_well_here", "_law_size"] (spStep K) := by
    refine GL.fn_def (k := 6) F sc_l_step ?len ?body
    case len => intro vs H Q E h; obtain ⟨_,_,_,rfl,_⟩ := h; rfl
    case body =>
      intro cdv A outer s H vs Q E hr h
      refine ⟨_, (pss_cons (ps_set (i := 2) sc_l_step.nd rfl (Or.inl rfl) (GL.ge_call (g_l_draw T) (hr.mono (by first | decide | omega)) GL.tk_top rfl (pa_cons (pv 0) (pa_cons (pv 1) pa_nil))))
  (GL.pss_consK (ps_if (pt_cmpR op_eq (GL.ge_call (g_l_draw T) (hr.mono (by first | decide | omega)) GL.tk_top rfl (pa_cons (pv 0) (pa_cons pe_int pa_nil))) pe_int (nomark _)) (pss_one (ps_set (i := 2) sc_l_step.nd rfl (Or.inl rfl) (GL.ge_call (g_l_one T) (hr.mono (by first | decide | omega)) GL.tk_top rfl (pa_cons (pv 0) (pa_cons (GL.pe_lstN (pa_cons (pe_un un_neg pe_int) (pa_cons (pv 1) (pa_cons pe_bl (pa_cons pe_bl (pa_cons pe_non (pa_cons pe_str (pa_cons (GL.pe_lstN (pa_cons pe_int pa_nil)) (pa_cons (GL.pe_tupN (pa_cons pe_int pa_nil)) (pa_cons GL.pe_dnewN (pa_cons (pe_op op_pow pe_int pe_int) pa_nil))))))))))) pa_nil))))) pss_nil)
  (pss_cons (ps_set (i := 3) sc_l_step.nd rfl (Or.inl rfl) (GL.ge_call (g_l_draw T) (hr.mono (by first | decide | omega)) GL.tk_top rfl (pa_cons (pv 0) (pa_cons pe_int pa_nil))))
  (pss_cons (ps_if (pt_cmpR op_eq (pv 3) pe_int (nomark _)) (pss_one (ps_ret (GL.pe_tupN (pa_cons (GL.pe_tupN (pa_cons pe_str pa_nil)) (pa_cons pe_bl pa_nil))))) pss_nil)
  (pss_cons (ps_if (pt_cmpR op_lt (pv 3) pe_int (nomark _)) (pss_one (ps_ret (GL.pe_tupN (pa_cons (GL.pe_tupN (pa_cons pe_str (pa_cons (pv 2) pa_nil))) (pa_cons pe_bl pa_nil))))) pss_nil)
  (pss_cons (ps_if (pt_cmpR op_eq (pv 3) pe_int (nomark _)) (pss_one (ps_ret (GL.pe_tupN (pa_cons (GL.pe_tupN (pa_cons pe_str (pa_cons (pv 2) (pa_cons (GL.ge_call (g_l_odd_value T) (hr.mono (by first | decide | omega)) GL.tk_top rfl (pa_cons (pv 0) pa_nil)) pa_nil)))) (pa_cons pe_bl pa_nil))))) pss_nil)
  (pss_one (ps_ret (GL.pe_tupN (pa_cons (GL.pe_tupN (pa_cons pe_str (pa_cons (pv 2) (pa_cons (GL.ge_call (g_l_value T) hr GL.tk_top rfl (pa_cons (pv 0) (pa_cons pe_int pa_nil))) pa_nil)))) (pa_cons pe_bl pa_nil))))))))))), ?_⟩
      obtain ⟨pw, size, n, rfl, hw, s1, s2, hn, kQ⟩ := h
      have fr : ∀ {H' : Hp} {p : Addr} {k : Int}, Mu [pw] H H' → Wl H' pw k → H' p = none → H p = none := fun {H' p k} m w np => by
        rcases m.back np with z | z
        · exact absurd np (by rw [List.mem_singleton.mp z]; exact w.ne)
        · exact z
      walk_at "rd"
      refine ⟨pw, size, n, rfl, hw, by omega, by omega, by omega, fun r1 H1 a0 a1 m1 w1 => ?_⟩
      walk_at "rd"
      refine rd_join (fun σ' H' => ∃ v d, σ' = [some (.ref pw), some (.int (size : Nat)), some v, none] ∧ Mu [pw] H H' ∧ Wl H' pw (n + 3) ∧ Sh2 d ∧ (∀ H'', (∀ b o, H' b = some o → b ≠ pw → H'' b = some o) → Dq K H'' v d)) ?_ fun kk => ?_
      rotate_left
      · walk_at "rd"
        refine ⟨pw, 8, n + 1, rfl, w1, by decide, by decide, by omega, fun r2 H2 b0 b1 m2 w2 => ?_⟩
        have m02 : Mu [pw] H H2 := m1.trans m2 fun b hb => .inl hb
        walk_at "rd"
        cases z : decide (r2 = 0) with
        | false =>
          walk_at "rd"
          exact kk _ _ ⟨.int r1, .int r1, rfl, m02, w2.mono (by omega), ⟨(Tm.int (by omega)).sh (by decide) (by decide), tm_shown_int (by omega)⟩, fun _ _ => .inl (.int _)⟩
        | true =>
          walk_at "rd"
          refine ⟨by simp, fun p1 H3 n1 e3 g1 => ?_⟩
          walk_at "rd"
          refine ⟨by simp, fun p2 H4 n2 e4 g2 => ?_⟩
          walk_at "rd"
          intro p3 H5 n3 e5 g3
          walk_at "rd"
          refine rd_i ⟨by decide, by decide, by decide⟩ ?_
          walk_at "rd"
          refine ⟨by simp, fun p4 H6 n4 e6 g4 => ?_⟩
          walk_at "rd"
          have w3 := w2.exd e3
          have w4 := w3.exd e4
          have w5 := w4.exd e5
          have w6 := w5.exd e6
          have q : ∀ {H : Hp} {p : Addr}, Wl H pw (n + 1 + 1) → H p = none → p ≠ pw := fun w np z => w.ne (by rw [← z]; exact np)
          refine ⟨pw, p4, n + 1 + 1, _, rfl, w6, g4, q w5 n4, by simp, by simp, by omega, fun v i H7 hi m7 w7 => ?_⟩
          have g1' : H7 p1 = some (.lst [.int 0]) := m7 _ _ (((e4.trans e5).trans e6) _ _ g1) (by simp; exact q w2 n1)
          have g2' : H7 p2 = some (.tup [.int 0]) := m7 _ _ ((e5.trans e6) _ _ g2) (by simp; exact q w3 n2)
          have g3' : H7 p3 = some (.dK []) := m7 _ _ (e6 _ _ g3) (by simp; exact q w4 n3)
          have t1 : ∀ i : Int, i.natAbs < 10 ^ 21 → Sh (.int i) := fun i h => (Tm.intB h).sh (by decide) (by decide)
          have hv : ∃ d, Sh2 d ∧ (∀ H'', (∀ b o, H7 b = some o → b ≠ pw → H'' b = some o) → Dq K H'' v d) := by
            have hmem := List.mem_of_getElem? hi
            simp only [List.mem_cons, List.not_mem_nil, or_false] at hmem
            rcases hmem with rfl | rfl | rfl | rfl | rfl | rfl | rfl | rfl | rfl | rfl
            · exact ⟨_, ⟨t1 _ (by decide), tm_shown_int (by decide)⟩, fun _ _ => .inl (.int _)⟩
            · exact ⟨_, ⟨t1 _ (by omega), tm_shown_int (by omega)⟩, fun _ _ => .inl (.int _)⟩
            · exact ⟨_, ⟨(Tm.bool true).sh (by decide) (by decide), Tm.str (by decide +kernel) (by decide +kernel)⟩, fun _ _ => .inl (.bl _)⟩
            · exact ⟨_, ⟨(Tm.bool false).sh (by decide) (by decide), Tm.str (by decide +kernel) (by decide +kernel)⟩, fun _ _ => .inl (.bl _)⟩
            · exact ⟨_, ⟨Tm.none.sh (by decide) (by decide), Tm.str (by decide +kernel) (by decide +kernel)⟩, fun _ _ => .inl .non⟩
            · exact ⟨_, ⟨(Tm.str (n := 20) (by decide +kernel) (by decide +kernel)).sh (by decide) (by decide), Tm.str (by decide +kernel) (by decide +kernel)⟩, fun _ _ => .inl (.str _)⟩
            · exact ⟨.list [.int 0], ⟨(Tm.list (k := 0) (w := 20) (n := 1) (fun d hd => by rw [List.mem_singleton.mp hd]; exact Tm.int (by decide)) (by simp)).sh (by decide) (by decide), Tm.str (by decide +kernel) (by decide +kernel)⟩, fun H'' k => .inl (.lst (sq_of (k _ _ g1' (q w2 n1))) (.cons (.int _) .nil))⟩
            · exact ⟨.tuple [.int 0], ⟨(Tm.tuple (k := 0) (w := 20) (n := 1) (fun d hd => by rw [List.mem_singleton.mp hd]; exact Tm.int (by decide)) (by simp)).sh (by decide) (by decide), Tm.str (by decide +kernel) (by decide +kernel)⟩, fun H'' k => .inl (.tup (st_of (k _ _ g2' (q w3 n2))) (.cons (.int _) .nil))⟩
            · exact ⟨.dict [], ⟨sh_dict, Tm.str (by decide +kernel) (by decide +kernel)⟩, fun H'' k => .inr ⟨p3, rfl, k _ _ g3' (q w4 n3), rfl⟩⟩
            · exact ⟨_, ⟨t1 _ (by decide), tm_shown_int (by decide)⟩, fun _ _ => .inl (.int _)⟩
          obtain ⟨d, sh, hd⟩ := hv
          walk_at "rd"
          exact kk _ _ ⟨v, d, rfl, (m02.thenEx (((e3.trans e4).trans e5).trans e6)).trans m7 fun b hb => .inl hb, w7.mono (by omega), sh, hd⟩
      rintro σ H8 ⟨v, d, rfl, m8, w8, sh, hd⟩
      walk_at "rd"
      refine ⟨pw, 10, n + 3, rfl, w8, by decide, by decide, by omega, fun way H9 c0 c1 m9 w9 => ?_⟩
      have m09 : Mu [pw] H H9 := m8.trans m9 fun b hb => .inl hb
      have hd9 : ∀ H'', (∀ b o, H9 b = some o → b ≠ pw → H'' b = some o) → Dq K H'' v d := fun H'' k => hd H'' fun b o h ne => k b o (m9 _ _ h (by simp; exact ne)) ne
      walk_at "rd"
      cases z1 : decide (way = 0) with
      | true =>
        walk_at "rd"
        refine ⟨by simp, fun p H10 np e10 gp => ?_⟩
        walk_at "rd"
        refine ⟨by simp, fun pt H11 npt e11 gt => ?_⟩
        exact kQ pt p .fl H11 (m09.thenEx (e10.trans e11)) ((w9.exd (e10.trans e11)).mono (by omega)) (fr m09 w9 np) gt (e11 _ _ gp) True.intro
      | false =>
        walk_at "rd"
        cases z2 : decide (way < 3) with
        | true =>
          walk_at "rd"
          refine ⟨by simp, fun p H10 np e10 gp => ?_⟩
          walk_at "rd"
          refine ⟨by simp, fun pt H11 npt e11 gt => ?_⟩
          exact kQ pt p (.rd v d) H11 (m09.thenEx (e10.trans e11)) ((w9.exd (e10.trans e11)).mono (by omega)) (fr m09 w9 np) gt ⟨e11 _ _ gp, hd9 _ fun b o h _ => (e10.trans e11) b o h, sh⟩ True.intro
        | false =>
          walk_at "rd"
          cases z3 : decide (way = 3) with
          | true =>
            walk_at "rd"
            refine ⟨pw, n + 3 + 1, rfl, w9, by omega, fun u e H10 m10 w10 he hv => ?_⟩
            have m010 : Mu [pw] H H10 := m09.trans m10 fun b hb => .inl hb
            walk_at "rd"
            refine ⟨by simp, fun p H11 np e11 gp => ?_⟩
            walk_at "rd"
            refine ⟨by simp, fun pt H12 npt e12 gt => ?_⟩
            have hg : Stp.good (.wr v u d e) = false := hv
            exact kQ pt p (.wr v u d e) H12 (m010.thenEx (e11.trans e12)) ((w10.exd (e11.trans e12)).mono (by omega)) (fr m010 w10 np) (by rw [hg]; exact gt) ⟨e12 _ _ gp, hd9 _ fun b o h ne => (e11.trans e12) b o (m10 _ _ h (by simp; exact ne)), sh, dq_ex (e11.trans e12) he⟩ (fun z => by rw [hv] at z; cases z)
          | false =>
            walk_at "rd"
            have c3 : costV 3 = 107 := by decide
            refine ⟨pw, n + 3 + 1, rfl, w9, by rw [c3]; omega, fun u e H10 m10 w10 he vd => ?_⟩
            have m010 : Mu [pw] H H10 := m09.trans m10 fun b hb => .inl hb
            walk_at "rd"
            refine ⟨by simp, fun p H11 np e11 gp => ?_⟩
            walk_at "rd"
            refine ⟨by simp, fun pt H12 npt e12 gt => ?_⟩
            have hg : Stp.good (.wr v u d e) = true := valOk_mono 3 8 _ (by decide) vd.ok
            exact kQ pt p (.wr v u d e) H12 (m010.thenEx (e11.trans e12)) ((w10.exd (e11.trans e12)).mono (by rw [c3]; omega)) (fr m010 w10 np) (by rw [hg]; exact gt) ⟨e12 _ _ gp, hd9 _ fun b o h ne => (e11.trans e12) b o (m10 _ _ h (by simp; exact ne)), sh, .inl (dp_ex (e11.trans e12) _ _ he)⟩ (fun _ => vd)
  exact ⟨_, GL.Held.plain hf hb, T.g__law_step, F.kp⟩

theorem g_l_done {P : Program} {w : World} {K : PySem.W.Frag} {mg : Str → Option Value} {base : Heap} (T : Txt K mg) : GL.GF true P w K mg base "_law_done" 2 (spDone K) := by
  obtain ⟨fd, F⟩ := T.def_l_done
  have hb : Binds K fd ["_law_m", "_law_step_here", "_law_is_good"] [] := F.bindsN (fun _ _ _ _ _ _ us hl => match us, hl with | [_, _, _], _ => rfl)
  have hf : GL.Fn true P w K mg base 2 (He.fAd K ("_law_done", none)) fd ["_law_m", "_law_step_here", "_law_is_good"] (spDone K) := by
    refine GL.fn_def (k := 1) F sc_l_done ?len ?body
    case len => intro vs H Q E h; obtain ⟨_,_,_,_,_,rfl,_⟩ := h; rfl
    case body =>
      intro cdv A outer s H vs Q E hr h
      refine ⟨_, (pss_cons (ps_if (pt_cmpR op_eq (pe_ix ix_seq (pv 1) pe_int (fun _ _ => rfl)) pe_str (nomark _)) (pss_cons (ps_for (GL.po_top) rfl (pi_list (pe_dget hr.u1 (pv 0) pe_str (fun _ _ => rfl))) (pg_tup rfl (pgs_cons (pg_name (i := 3) sc_l_done.nd rfl (Or.inl rfl)) (pgs_cons (pg_name (i := 4) sc_l_done.nd rfl (Or.inl rfl)) pgs_nil))) (pss_one (ps_asg (pv 4) (pg_sub (pe_dget hr.u1 (pv 0) pe_str (fun _ _ => rfl)) (pv 3) set_list))))
  (pss_cons (ps_dput hr.u1 (pv 0) pe_str (GL.pe_lstN pa_nil) rfl)
  (pss_cons (ps_expr (pe_bm PySem.F.plainAttrs_list PySem.F.slot_list_append PySem.F.type_list_append mt_append (pe_dget hr.u1 (pv 0) pe_str (fun _ _ => rfl)) (pa_cons (GL.pe_tupN (pa_cons pe_str pa_nil)) pa_nil)))
  (pss_one (ps_ret pe_non))))) pss_nil)
  (pss_cons (ps_if (pt_not (pt_val (GL.ge_call (g_l_is_block T) hr GL.tk_top rfl (pa_cons (pe_ix ix_seq (pv 1) pe_int (fun _ _ => rfl)) (pa_cons (pe_callB (GL.call_lenU) rfl T.f_len boot_len (pa_cons (pe_dget hr.u1 (pv 0) pe_str (fun _ _ => rfl)) pa_nil)) pa_nil))))) (pss_one (ps_ret (GL.pe_tupN (pa_cons pe_str (pa_cons (pe_callB (GL.call_reprD hr) rfl T.f_repr boot_repr (pa_cons (pe_ix ix_seq (pv 1) pe_int (fun _ _ => rfl)) pa_nil)) pa_nil))))) pss_nil)
  (pss_cons (ps_if (pt_cmpR op_eq (pe_ix ix_seq (pv 1) pe_int (fun _ _ => rfl)) pe_str (nomark _)) (pss_cons (ps_setLc (i := 5) (own := [("_law_block", 3), ("_law_value_here", 4)]) rfl sc_l_done.nd rfl rfl (sw_true rfl rfl rfl (by decide +kernel)) (pi_list (pe_dget hr.u1 (pv 0) pe_str (fun _ _ => rfl))) (blkOk_by (own := [("_law_block", 3), ("_law_value_here", 4)]) (N := ["_law_m", "_law_step_here", "_law_is_good", "_law_block", "_law_value_here", "_law_some"]) (sc := defScope s_l_done) (by decide +kernel)) (fun _ _ _ _ _ => (GL.pg_tupB (n := 2) rfl (pgs_cons (pg_name (i := 3) sc_l_done.nd rfl (Or.inl rfl)) (pgs_cons (pg_name (i := 4) sc_l_done.nd rfl (Or.inl rfl)) pgs_nil)))) (fun _ _ _ _ _ => (pts_one (pt_cmpR (GL.op_eqB hr) (pv 3) (pe_ix GL.ix_seqB (pv 1) pe_int (fun _ _ => rfl)) (nomark _)))) (fun _ _ _ _ _ => (pv 4)))
  (pss_one (ps_ret (GL.pe_tupN (pa_cons pe_str (pa_cons (pe_ix ix_seq (pe_op GL.op_catN (GL.pe_lstN (pa_cons (pe_ix ix_seq (pe_dget hr.u1 (pv 0) pe_str (fun _ _ => rfl)) (pe_ix ix_seq (pv 1) pe_int (fun _ _ => rfl)) (fun _ _ => rfl)) pa_nil)) (pv 5)) (pe_un un_neg pe_int) (fun _ _ => rfl)) pa_nil)))))) pss_nil)
  (pss_cons (ps_if (pt_not (pt_val (pv 2))) (pss_one (ps_ret pe_str)) pss_nil)
  (pss_cons (ps_dput hr.u1 (pv 0) pe_str (pe_op GL.op_catN (pe_dget hr.u1 (pv 0) pe_str (fun _ _ => rfl)) (GL.pe_lstN (pa_cons (GL.pe_tupN (pa_cons (pe_ix ix_seq (pv 1) pe_int (fun _ _ => rfl)) (pa_cons (pe_ix ix_seq (pv 1) pe_int (fun _ _ => rfl)) pa_nil))) pa_nil))) rfl)
  (pss_cons (ps_expr (pe_bm PySem.F.plainAttrs_list PySem.F.slot_list_append PySem.F.type_list_append mt_append (pe_dget hr.u1 (pv 0) pe_str (fun _ _ => rfl)) (pa_cons (GL.pe_tupN (pa_cons pe_str (pa_cons (pe_ix ix_seq (pv 1) pe_int (fun _ _ => rfl)) (pa_cons (pe_ix ix_seq (pv 1) pe_int (fun _ _ => rfl)) pa_nil)))) pa_nil)))
  (pss_one (ps_ret pe_non)))))))), ?_⟩
      obtain ⟨pm, p, F, D, st, rfl, hM, hst, npF, hnw, hl, hlw, kT, kF⟩ := h
      obtain ⟨⟨ps, pp, pe, xs, xp, xe, hF, O, d1, d2, d3⟩, ok⟩ := id hM
      subst hF
      have lx := da_len d1
      have lp := da_len d2
      have le := da_len d3
      walk_at "rd"
      match st, hst, kT, kF with
      | .fl, hst, kT, kF =>
        have hst : H p = some (.tup [.str "flush"]) := hst
        refine rd_ixT (st_of hst) (v := .str "flush") rfl ?_
        walk_at "rd"
        rw [show decide (("flush" : Str) = "flush") = true from by decide +kernel]
        walk_at "rd"
        refine dget_p (O.get 0) ?_
        walk_at "rd"
        refine ⟨pp, rfl, ⟨_, sq_of (O.get 2)⟩, for_list (xs := xp) (fun j σ' H1 => ∃ v3 v4 zs, σ' = [some (.ref pm), some (.ref p), some (.bl true), v3, v4, none] ∧ Ob H1 [(pm, .dK (mkv ps pp pe)), (ps, .lst zs), (pp, .lst xp), (pe, .lst xe)] ∧ Mu [ps] H H1 ∧ DpAll K H1 zs (setAll D.s (D.w.take j)))
          ⟨none, none, xs, rfl, O, Mu.refl _ _, d1⟩ (fun j σ' H1 _ ⟨_, _, _, _, O1, _⟩ => sq_of (O1.get 2)) ?_ ?_⟩
        · rintro j y σ' H1 hj ⟨v3, v4, zs, rfl, O1, m1, dz⟩
          obtain ⟨yd, hyd, hy1⟩ := da_getV d2 hj
          obtain ⟨b, v, rfl, b0, b1, hv⟩ := ok.bw yd (List.mem_of_getElem? hyd)
          have hy2 := dp_mu m1 (nt_lst (O.get 1)) _ _ (noL_pW hv) hy1
          obtain ⟨p', x2, rfl, ht', hx2⟩ := dp_pW hy2
          refine rd_gtup ht' rfl ?_
          walk_at "rd"
          refine dget_s (O1.get 0) ?_
          walk_at "rd"
          have lz := da_len dz
          have bw' : ∀ x ∈ D.w.take j, isB D.f.length x := fun x hx => ok.bw x (List.mem_of_mem_take hx)
          have ls := setAll_len (D.w.take j) D.s bw'
          have nz : noLAll (setAll D.s (D.w.take j)) = true := valOkAll_noL 8 _ (setAll_ok ok.ls ok.vs bw').2
          refine rd_setL (O1.get 1) b0 (by rw [lz, ls, ok.ls]; exact b1) ?_
          walk_at "rd"
          have O2 := O1.set 1 (.lst (zs.set b.toNat x2))
          have m2 : Mu [ps] H1 (upd H1 ps (.lst (zs.set b.toNat x2))) := (Mu.refl [ps] H1).set (List.mem_singleton.mpr rfl) _
          walk_at "rd"
          refine ⟨_, _, _, rfl, O2, m1.trans m2 fun b hb => .inl hb, ?_⟩
          rw [List.take_succ, hyd, Option.toList_some, setAll_snoc]
          exact da_set _ (dpAll_mu m2 (nt_lst (O1.get 1)) _ _ nz dz) (dp_mu m2 (nt_lst (O1.get 1)) _ _ (valOk_noL 8 _ hv) hx2)
        · rintro σ' H1 ⟨v3, v4, zs, rfl, O1, m1, dz⟩
          rw [List.take_of_length_le (by rw [← lp]; exact Nat.le_refl _), ← hnw] at dz
          walk_at "rd"
          refine ⟨by simp, fun q H2 nq e2 gq => ?_⟩
          walk_at "rd"
          have O2 := O1.newX e2 nq gq
          refine dput_p (O2.get 0) ?_
          walk_at "rd"
          have O3 := O2.set 0 (.dK (mkv ps q pe))
          walk_at "rd"
          refine dget_e (O3.get 0) ?_
          walk_at "rd"
          refine rd_tyL (O3.get 3) ?_
          walk_at "rd"
          refine ⟨by simp, fun r H4 nr e4 gr => ?_⟩
          have O4 := O3.newX e4 nr gr
          walk_at "rd"
          refine rd_app (O4.get 3) (by omega) ?_
          walk_at "rd"
          have O5 := O4.set 3 (.lst (xe ++ [.ref r]))
          walk_at "rd"
          have ms : Mu [pm, ps, pp, pe] H H1 := m1.sub (by simp)
          have mt : Mu [pm, ps, pp, pe] H1 _ := ((((Mu.ofEx e2).set (p := pm) (by simp) (.dK (mkv ps q pe))).thenEx e4).set (p := pe) (by simp) (.lst (xe ++ [.ref r])))
          have mf := ms.trans mt fun b hb => .inl hb
          refine kT rfl _ [pm, ps, q, pe] ⟨⟨ps, q, pe, zs, [], _, rfl, ?_, dpAll_mu mt (O1.nt rfl) _ _ ok.nn dz, .nil, da_app (dpAll_mu mf (O.nt rfl) _ _ ok.nd d3) (da_one (.tup (st_of (O5.get 5)) (.cons (.str _) .nil)))⟩, ok.fl⟩ ⟨mf, fun b hb => ?_⟩
          · refine O5.mem _ (fun z hz => ?_) ?_
            · simp only [List.mem_cons, List.not_mem_nil, or_false] at hz
              rcases hz with rfl | rfl | rfl | rfl
              · exact List.mem_of_getElem? (i := 0) rfl
              · exact List.mem_of_getElem? (i := 1) rfl
              · exact List.mem_of_getElem? (i := 4) rfl
              · exact List.mem_of_getElem? (i := 3) rfl
            · simp only [List.map_cons, List.map_nil, List.nodup_cons, List.mem_cons, List.not_mem_nil, or_false, not_or, not_false_eq_true, List.nodup_nil, and_true]
              exact ⟨⟨O5.ne 0 1, O5.ne 0 4, O5.ne 0 3⟩, ⟨O5.ne 1 4, O5.ne 1 3⟩, O5.ne 4 3⟩
          · simp only [List.mem_cons, List.not_mem_nil, or_false] at hb
            rcases hb with rfl | rfl | rfl | rfl
            · exact .inl (by simp)
            · exact .inl (by simp)
            · exact ms.back nq
            · exact .inl (by simp)
      | .rd v d, hst, kT, kF =>
        obtain ⟨h1, h2, sh⟩ := hst
        refine rd_ixT (st_of h1) (v := .str "read") rfl ?_
        walk_at "rd"
        rw [show decide (("read" : Str) = "flush") = false from by decide +kernel]
        walk_at "rd"
        refine rd_ixT (st_of h1) (v := v) rfl ?_
        walk_at "rd"
        refine dget_s (O.get 0) ?_
        walk_at "rd"
        refine rd_lenL (sq_of (O.get 1)) ?_
        walk_at "rd"
        refine ⟨v, d, _, rfl, h2, ?_⟩
        have eb : betw d 0 ((xs.length : Int) - 1) = blk D d := by rw [lx, ok.ls]; rfl
        rw [eb]
        cases hb : blk D d with
        | false =>
          walk_at "rd"
          refine rd_ixT (st_of h1) (v := v) rfl ?_
          walk_at "rd"
          refine ⟨v, d, rfl, h2, sh.sh, sh.dep, sh.len, ?_⟩
          walk_at "rd"
          refine ⟨by simp, fun q H2 nq e2 gq => ?_⟩
          refine kF rfl _ H2 e2 ?_
          show Dp K H2 (.ref q) (if blk D d = true then _ else _)
          rw [hb, if_neg Bool.false_ne_true]
          exact .tup (st_of gq) (.cons (.str _) (.cons (.str _) .nil))
        | true =>
          walk_at "rd"
          obtain ⟨i, rfl, i0, i1⟩ := betw_of hb
          obtain rfl := dq_int h2
          refine rd_ixT (st_of h1) (v := .str "read") rfl ?_
          walk_at "rd"
          rw [show decide (("read" : Str) = "read") = true from by decide +kernel]
          walk_at "rd"
          refine dget_p (O.get 0) ?_
          walk_at "rd"
          refine ⟨pp, rfl, ⟨_, sq_of (O.get 2)⟩, fun dd ndd => ?_⟩
          refine lc_list (xs := xp) (fun j H1 => ∃ ys, H1 dd = some (.lst ys) ∧ Ex H H1 ∧ DpAll K H1 ys (sel i (D.w.take j)) ∧ ys.length ≤ j) ⟨[], upd_same, Ex.new ndd, .nil, Nat.le_refl _⟩ (fun j H1 _ ⟨_, _, e1, _⟩ => sq_of (e1 _ _ (O.get 2))) ?_ ?_
          · rintro j y H1 hj ⟨ys, gd, e1, dy, ly⟩
            have hjl := (List.getElem?_eq_some_iff.mp hj).1
            obtain ⟨yd, hyd, hy1⟩ := da_getV d2 hj
            obtain ⟨b, v', rfl, b0, b1, hv⟩ := ok.bw yd (List.mem_of_getElem? hyd)
            obtain ⟨p', x2, rfl, ht', hx2⟩ := dp_pW (dp_ex e1 _ _ hy1)
            refine rd_gtup ht' rfl ?_
            walk_at "rd"
            refine ⟨rfl, ?_⟩
            walk_at "rd"
            refine rd_ixT (st_of (e1 _ _ h1)) (v := .int i) rfl ?_
            walk_at "rd"
            refine rd_eqUf ?_
            walk_at "rd"
            have bw' : ∀ x ∈ D.w.take j, isB D.f.length x := fun x hx => ok.bw x (List.mem_of_mem_take hx)
            cases z : decide (b = i) with
            | true =>
              refine ite2 (fun _ => ?_) fun z => absurd rfl z
              walk_at "rd"
              have m2 : Mu [dd] H1 (upd H1 dd (.lst (ys ++ [x2]))) := (Mu.refl [dd] H1).set (List.mem_singleton.mpr rfl) _
              refine ⟨ys, gd, sz_lt (by omega), ys ++ [x2], upd_same, e1.mut ndd, ?_, by rw [List.length_append]; simp; omega⟩
              rw [sel_take hyd, pick_pW, if_pos (of_decide_eq_true z)]
              exact da_app (dpAll_mu m2 (nt_lst gd) _ _ (valOkAll_noL 8 _ (sel_ok bw')) dy) (da_one (dp_mu m2 (nt_lst gd) _ _ (valOk_noL 8 _ hv) hx2))
            | false =>
              refine ite2 (fun z => absurd z (by simp)) fun _ => ?_
              refine ⟨ys, gd, e1, ?_, by omega⟩
              rw [sel_take hyd, pick_pW, if_neg (of_decide_eq_false z), List.append_nil]
              exact dy
          rintro H1 ⟨ys, gd, e1, dy, ly⟩
          rw [List.take_of_length_le (by rw [← lp]; exact Nat.le_refl _)] at dy
          have O1 := O.ex e1
          have hil : i.toNat < D.s.length := by rw [ok.ls]; omega
          obtain ⟨x0, hx0, dx0⟩ := da_get d1 (List.getElem?_eq_getElem hil)
          walk_at "rd"
          refine dget_s (O1.get 0) ?_
          walk_at "rd"
          refine rd_ixT (st_of (e1 _ _ h1)) (v := .int i) rfl ?_
          walk_at "rd"
          refine rd_ixL (sq_of (O1.get 1)) (by rw [atI_nat i0 (by rw [lx, ok.ls]; omega)]; exact hx0) ?_
          walk_at "rd"
          refine ⟨by simp, fun q H2 nq e2 gq => ?_⟩
          walk_at "rd"
          refine rdn_cat gq (e2 _ _ gd) (by simp; omega) fun q2 H3 nq2 e3 gq2 => ?_
          walk_at "rd"
          have ne : ([x0] ++ ys : List V) ≠ [] := by simp
          have dall : DpAll K H3 ([x0] ++ ys) (D.s[i.toNat] :: sel i D.w) := .cons (dp_ex ((e1.trans e2).trans e3) _ _ dx0) (dpAll_ex (e2.trans e3) _ _ dy)
          obtain ⟨e, he, dle⟩ := da_last ne dall
          refine rd_ixL (sq_of gq2) (atI_last ne) ?_
          walk_at "rd"
          refine ⟨by simp, fun q3 H4 nq3 e4 gq3 => ?_⟩
          refine kF rfl _ H4 (((e1.trans e2).trans e3).trans e4) ?_
          show Dp K H4 (.ref q3) (if blk D (.int i) = true then .tuple [.str "value", (D.n[(intOf (.int i)).toNat]?).getD .none] else _)
          have hn : D.n[(intOf (.int i)).toNat]? = some e := by
            rw [hnw]
            show (setAll D.s D.w)[i.toNat]? = _
            rw [← last_sel i0 D.w D.s _ ok.bw (List.getElem?_eq_getElem hil)]
            exact he
          rw [if_pos hb, hn]
          exact .tup (st_of gq3) (.cons (.str _) (.cons (dp_ex e4 _ _ dle) .nil))
      | .wr v u d e, hst, kT, kF =>
        obtain ⟨h1, h2, sh, h3⟩ := hst
        refine rd_ixT (st_of h1) (v := .str "write") rfl ?_
        walk_at "rd"
        rw [show decide (("write" : Str) = "flush") = false from by decide +kernel]
        walk_at "rd"
        refine rd_ixT (st_of h1) (v := v) rfl ?_
        walk_at "rd"
        refine dget_s (O.get 0) ?_
        walk_at "rd"
        refine rd_lenL (sq_of (O.get 1)) ?_
        walk_at "rd"
        refine ⟨v, d, _, rfl, h2, ?_⟩
        have eb : betw d 0 ((xs.length : Int) - 1) = blk D d := by rw [lx, ok.ls]; rfl
        rw [eb]
        cases hb : blk D d with
        | false =>
          walk_at "rd"
          refine rd_ixT (st_of h1) (v := v) rfl ?_
          walk_at "rd"
          refine ⟨v, d, rfl, h2, sh.sh, sh.dep, sh.len, ?_⟩
          walk_at "rd"
          refine ⟨by simp, fun q H2 nq e2 gq => ?_⟩
          refine kF (by show (blk D d && valOk 8 e) = false; rw [hb]; rfl) _ H2 e2 ?_
          show Dp K H2 (.ref q) (if blk D d = true then _ else _)
          rw [hb, if_neg Bool.false_ne_true]
          exact .tup (st_of gq) (.cons (.str _) (.cons (.str _) .nil))
        | true =>
          walk_at "rd"
          refine rd_ixT (st_of h1) (v := .str "write") rfl ?_
          walk_at "rd"
          rw [show decide (("write" : Str) = "read") = false from by decide +kernel]
          walk_at "rd"
          have hg : Stp.good (.wr v u d e) = valOk 8 e := rfl
          rw [hg]
          cases hv : valOk 8 e with
          | false =>
            walk_at "rd"
            refine kF (by show (blk D d && valOk 8 e) = false; rw [hv]; exact Bool.and_false _) _ H (Ex.refl _) ?_
            show Dp K H (.str "bad value") (if blk D d = true then (if valOk 8 e = true then _ else _) else _)
            rw [if_pos hb, hv, if_neg Bool.false_ne_true]
            exact .str _
          | true =>
            walk_at "rd"
            obtain ⟨i, rfl, i0, i1⟩ := betw_of hb
            obtain rfl := dq_int h2
            have he := dq_dp h3 fun kvs z => by rw [z] at hv; simp [valOk] at hv
            refine dget_p (O.get 0) ?_
            walk_at "rd"
            refine rd_ixT (st_of h1) (v := .int i) rfl ?_
            walk_at "rd"
            refine rd_ixT (st_of h1) (v := u) rfl ?_
            walk_at "rd"
            refine ⟨by simp, fun q1 H1 n1 e1 g1 => ?_⟩
            walk_at "rd"
            refine ⟨by simp, fun q2 H2 n2 e2 g2 => ?_⟩
            have O2 := ((O.newX e1 n1 g1).newX e2 n2 g2)
            refine rdn_cat (O2.get 2) (O2.get 5) (by simp; omega) fun q H3 nq e3 gq => ?_
            walk_at "rd"
            have O3 := O2.newX e3 nq gq
            walk_at "rd"
            refine dput_p (O3.get 0) ?_
            walk_at "rd"
            have O4 := O3.set 0 (.dK (mkv ps q pe))
            have e13 := (e1.trans e2).trans e3
            have m4 : Mu [pm, ps, pp, pe] H _ := (Mu.ofEx e13).set (p := pm) (by simp) (.dK (mkv ps q pe))
            have h14 : (upd H3 pm (.dK (mkv ps q pe))) p = some (.tup [.str "write", .int i, u]) := m4 _ _ h1 npF
            walk_at "rd"
            refine dget_e (O4.get 0) ?_
            walk_at "rd"
            refine rd_tyL (O4.get 3) ?_
            walk_at "rd"
            refine rd_ixT (st_of h14) (v := .int i) rfl ?_
            walk_at "rd"
            refine rd_ixT (st_of h14) (v := u) rfl ?_
            walk_at "rd"
            refine ⟨by simp, fun r H5 nr e5 gr => ?_⟩
            have O5 := O4.newX e5 nr gr
            walk_at "rd"
            refine rd_app (O5.get 3) (by omega) ?_
            walk_at "rd"
            have O6 := O5.set 3 (.lst (xe ++ [.ref r]))
            walk_at "rd"
            have mf := (m4.thenEx e5).set (p := pe) (by simp) (.lst (xe ++ [.ref r]))
            have nt := O.nt rfl
            have hef := dp_mu mf nt _ _ (valOk_noL 8 _ hv) he
            have okw : (D.wr i e).Ok := ok.wr i0 (by omega) hv
            refine kT (by show (blk D (.int i) && valOk 8 e) = true; rw [hb, hv]; rfl) _ [pm, ps, q, pe] ?_ ⟨mf, fun b hb => ?_⟩
            · show MAt K _ pm _ (if blk D (.int i) = true then (if valOk 8 e = true then D.wr i e else D) else D)
              rw [if_pos hb, if_pos hv]
              refine ⟨⟨ps, q, pe, xs, _, _, rfl, ?_, dpAll_mu mf nt _ _ ok.ns d1, da_app (dpAll_mu mf nt _ _ ok.nw d2) (da_one (.tup (st_of (O6.get 4)) (.cons (.int _) (.cons hef .nil)))), da_app (dpAll_mu mf nt _ _ ok.nd d3) (da_one (.tup (st_of (O6.get 7)) (.cons (.str _) (.cons (.int _) (.cons hef .nil)))))⟩, okw⟩
              refine O6.mem _ (fun z hz => ?_) ?_
              · simp only [List.mem_cons, List.not_mem_nil, or_false] at hz
                rcases hz with rfl | rfl | rfl | rfl
                · exact List.mem_of_getElem? (i := 0) rfl
                · exact List.mem_of_getElem? (i := 1) rfl
                · exact List.mem_of_getElem? (i := 6) rfl
                · exact List.mem_of_getElem? (i := 3) rfl
              · simp only [List.map_cons, List.map_nil, List.nodup_cons, List.mem_cons, List.not_mem_nil, or_false, not_or, not_false_eq_true, List.nodup_nil, and_true]
                exact ⟨⟨O6.ne 0 1, O6.ne 0 6, O6.ne 0 3⟩, ⟨O6.ne 1 6, O6.ne 1 3⟩, O6.ne 6 3⟩
            · simp only [List.mem_cons, List.not_mem_nil, or_false] at hb
              rcases hb with rfl | rfl | rfl | rfl
              · exact .inl (by simp)
              · exact .inl (by simp)
              · exact .inr (fresh_back (e1.trans e2) nq)
              · exact .inl (by simp)
  exact ⟨_, GL.Held.plain hf hb, T.g__law_done, F.kp⟩

theorem g_l_stands {P : Program} {w : World} {K : PySem.W.Frag} {mg : Str → Option Value} {base : Heap} (T : Txt K mg) : GL.GF true P w K mg base "_law_stands" 2 (spStands K (He.ga K "Disk")) := by
  obtain ⟨fd, F⟩ := T.def_l_stands
  have hb : Binds K fd ["_law_disk", "_law_m"] [] := F.bindsN (fun _ _ _ _ _ _ us hl => match us, hl with | [_, _], _ => rfl)
  have hf : GL.Fn true P w K mg base 2 (He.fAd K ("_law_stands", none)) fd ["_law_disk", "_law_m"] (spStands K (He.ga K "Disk")) := by
    refine GL.fn_def (k := 1) F sc_l_stands ?len ?body
    case len => intro vs H Q E h; obtain ⟨_,_,_,_,_,rfl,_⟩ := h; rfl
    case body =>
      intro cdv A outer s H vs Q E hr h
      refine ⟨_, (pss_cons (ps_set (i := 2) sc_l_stands.nd rfl (Or.inl rfl) (GL.pe_lstN (pa_cons (GL.ge_meth0 (pv 0) T.c_Disk (g_Disk_pending T) hr GL.tk_top) (pa_cons (GL.ge_meth0 (pv 0) T.c_Disk (g_Disk_durable T) hr GL.tk_top) (pa_cons (GL.ge_meth0 (pv 0) T.c_Disk (g_Disk_events T) hr GL.tk_top) (pa_cons (GL.ge_meth0 (pv 0) T.c_Disk (g_Disk_blocks T) hr GL.tk_top) pa_nil))))))
  (pss_cons (ps_if (pt_cmpR op_ne (pe_callB (GL.call_reprD hr) rfl T.f_repr boot_repr (pa_cons (pv 2) pa_nil)) (pe_callB (GL.call_reprD hr) rfl T.f_repr boot_repr (pa_cons (GL.pe_lstN (pa_cons (pe_dget hr.u1 (pv 1) pe_str (fun _ _ => rfl)) (pa_cons (pe_dget hr.u1 (pv 1) pe_str (fun _ _ => rfl)) (pa_cons (pe_dget hr.u1 (pv 1) pe_str (fun _ _ => rfl)) (pa_cons (pe_callB (GL.call_lenU) rfl T.f_len boot_len (pa_cons (pe_dget hr.u1 (pv 1) pe_str (fun _ _ => rfl)) pa_nil)) pa_nil))))) pa_nil)) (nomark _)) (pss_one (ps_ret pe_bl)) pss_nil)
  (pss_cons (ps_for (GL.po_top) rfl (pi_list (pe_slice GL.sl_listN (pv 2) po_none (po_some pe_int))) (pg_name (i := 3) sc_l_stands.nd rfl (Or.inl rfl)) (pss_one (ps_expr (pe_bm PySem.F.plainAttrs_list PySem.F.slot_list_append PySem.F.type_list_append mt_append (pv 3) (pa_cons pe_int pa_nil)))))
  (pss_one (ps_ret (pe_cmpR op_eq (pe_callB (GL.call_reprD hr) rfl T.f_repr boot_repr (pa_cons (GL.pe_lstN (pa_cons (GL.ge_meth0 (pv 0) T.c_Disk (g_Disk_pending T) hr GL.tk_top) (pa_cons (GL.ge_meth0 (pv 0) T.c_Disk (g_Disk_durable T) hr GL.tk_top) (pa_cons (GL.ge_meth0 (pv 0) T.c_Disk (g_Disk_events T) hr GL.tk_top) pa_nil)))) pa_nil)) (pe_callB (GL.call_reprD hr) rfl T.f_repr boot_repr (pa_cons (GL.pe_lstN (pa_cons (pe_dget hr.u1 (pv 1) pe_str (fun _ _ => rfl)) (pa_cons (pe_dget hr.u1 (pv 1) pe_str (fun _ _ => rfl)) (pa_cons (pe_dget hr.u1 (pv 1) pe_str (fun _ _ => rfl)) pa_nil)))) pa_nil)) (nomark _))))))), ?_⟩
      obtain ⟨a, pm, F, G, D, rfl, hD, hM, t4, t3, hl, kQ⟩ := h
      have ok := hD.ok
      have hlw : D.w.length ≤ 1000 := Nat.le_trans ok.lw hl
      have hls : D.s.length ≤ 128 := by rw [ok.ls]; exact ok.hi
      walk_at "rd"
      refine hD.self (by decide +kernel) ?_
      walk_at "rd"
      refine ⟨a, F, D, rfl, hD, fun p1 x1 H1 n1 e1 g1 d1 => ?_⟩
      have hD1 := hD.exd e1
      walk_at "rd"
      refine hD1.self (by decide +kernel) ?_
      walk_at "rd"
      refine ⟨a, F, D, rfl, hD1, fun p2 x2 H2 n2 e2 g2 d2 => ?_⟩
      have hD2 := hD1.exd e2
      walk_at "rd"
      refine hD2.self (by decide +kernel) ?_
      walk_at "rd"
      refine ⟨a, F, D, rfl, hD2, fun p3 x3 H3 n3 e3 g3 d3 => ?_⟩
      have hD3 := hD2.exd e3
      walk_at "rd"
      refine hD3.self (by decide +kernel) ?_
      walk_at "rd"
      refine ⟨a, F, D, rfl, hD3, ?_⟩
      walk_at "rd"
      refine ⟨by simp, fun q H4 nq e4 gq => ?_⟩
      walk_at "rd"
      have e13 := (e1.trans e2).trans e3
      have e04 := e13.trans e4
      have l1 : x1.length = D.w.length := da_len d1
      have l2 : x2.length = D.s.length := da_len d2
      have l3 : x3.length = D.d.length := da_len d3
      have O4 : Ob H4 [(q, .lst [.ref p1, .ref p2, .ref p3, .int (D.f.length : Nat)]), (p1, .lst x1), (p2, .lst x2), (p3, .lst x3)] := by
        have q0 : Ob H4 [(q, .lst [.ref p1, .ref p2, .ref p3, .int (D.f.length : Nat)])] := ⟨fun z hz => by rw [List.mem_singleton.mp hz]; exact gq, by simp⟩
        refine ⟨fun z hz => ?_, ?_⟩
        · simp only [List.mem_cons, List.not_mem_nil, or_false] at hz
          rcases hz with rfl | rfl | rfl | rfl
          · exact gq
          · exact ((e2.trans e3).trans e4) _ _ g1
          · exact (e3.trans e4) _ _ g2
          · exact e4 _ _ g3
        · have a1 : q ≠ p1 := fun z => by rw [z, (e2.trans e3) _ _ g1] at nq; cases nq
          have a2 : q ≠ p2 := fun z => by rw [z, e3 _ _ g2] at nq; cases nq
          have a3 : q ≠ p3 := fun z => by rw [z, g3] at nq; cases nq
          have a4 : p1 ≠ p2 := fun z => by rw [← z, g1] at n2; cases n2
          have a5 : p1 ≠ p3 := fun z => by rw [← z, e2 _ _ g1] at n3; cases n3
          have a6 : p2 ≠ p3 := fun z => by rw [← z, g2] at n3; cases n3
          simp [a1, a2, a3, a4, a5, a6]
      refine rd_repr (d := seen4 D) (.lst (sq_of gq) (.cons (.lst (sq_of (O4.get 1)) (dpAll_ex ((e2.trans e3).trans e4) _ _ d1)) (.cons (.lst (sq_of (O4.get 2)) (dpAll_ex (e3.trans e4) _ _ d2)) (.cons (.lst (sq_of (O4.get 3)) (dpAll_ex e4 _ _ d3)) (.cons (.int _) .nil))))) t4 (by decide) (by decide) ?_
      walk_at "rd"
      have hM4 := hM.exd e04
      obtain ⟨⟨ps, pp, pe, xs, xp, xe, hG, OM, m1, m2, m3⟩, _⟩ := id hM4
      refine dget_p (OM.get 0) ?_
      walk_at "rd"
      refine dget_s (OM.get 0) ?_
      walk_at "rd"
      refine dget_e (OM.get 0) ?_
      walk_at "rd"
      refine dget_s (OM.get 0) ?_
      walk_at "rd"
      refine rd_lenL (sq_of (OM.get 1)) ?_
      walk_at "rd"
      refine ⟨by simp, fun q5 H5 n5 e5 g5 => ?_⟩
      walk_at "rd"
      have lf : ((xs.length : Nat) : Int) = ((D.f.length : Nat) : Int) := by rw [da_len m1, ok.ls]
      rw [lf] at g5
      refine rd_repr (d := seen4 D) (.lst (sq_of g5) (.cons (.lst (sq_of (e5 _ _ (OM.get 2))) (dpAll_ex e5 _ _ m2)) (.cons (.lst (sq_of (e5 _ _ (OM.get 1))) (dpAll_ex e5 _ _ m1)) (.cons (.lst (sq_of (e5 _ _ (OM.get 3))) (dpAll_ex e5 _ _ m3)) (.cons (.int _) .nil))))) t4 (by decide) (by decide) ?_
      walk_at "rd"
      rw [show (!decide ((seen4 D).shown = (seen4 D).shown)) = false from by simp]
      walk_at "rd"
      -- the returned lists are changed
      refine rdn_sl (sq_of (e5 _ _ gq)) fun q6 H6 n6 e6 g6 => ?_
      have hc : cutV [V.ref p1, V.ref p2, V.ref p3, V.int (D.f.length : Nat)] none (some 3) = [V.ref p1, V.ref p2, V.ref p3] := cutV_take (by decide)
      rw [hc] at g6
      walk_at "rd"
      have O6 := (O4.ex e5).newX e6 n6 g6
      have e06 := (e04.trans e5).trans e6
      have h1 : H p1 = none := n1
      have h2 : H p2 = none := fresh_back e1 n2
      have h3 : H p3 = none := fresh_back (e1.trans e2) n3
      refine ⟨q6, rfl, ⟨_, sq_of g6⟩, for_list (xs := [V.ref p1, V.ref p2, V.ref p3]) (fun i σ H7 => ∃ u y1 y2 y3, σ = [some (.ref a), some (.ref pm), some (.ref q), u] ∧ Ex H H7 ∧ H7 q6 = some (.lst [V.ref p1, V.ref p2, V.ref p3]) ∧ Ob H7 [(p1, .lst y1), (p2, .lst y2), (p3, .lst y3), (q6, .lst [V.ref p1, V.ref p2, V.ref p3])] ∧ y1.length ≤ 2000 + i ∧ y2.length ≤ 2000 + i ∧ y3.length ≤ 2000 + i)
        ⟨none, x1, x2, x3, rfl, e06, g6, O6.mem _ (fun z hz => ?_) ?_, by omega, by omega, by omega⟩ (fun i σ H7 _ ⟨_, _, _, _, _, _, g, _⟩ => sq_of g) ?_ ?_⟩
      · simp only [List.mem_cons, List.not_mem_nil, or_false] at hz
        rcases hz with rfl | rfl | rfl | rfl
        · exact List.mem_of_getElem? (i := 1) rfl
        · exact List.mem_of_getElem? (i := 2) rfl
        · exact List.mem_of_getElem? (i := 3) rfl
        · exact List.mem_of_getElem? (i := 4) rfl
      · simp only [List.map_cons, List.map_nil, List.nodup_cons, List.mem_cons, List.not_mem_nil, or_false, not_or, not_false_eq_true, List.nodup_nil, and_true]
        exact ⟨⟨O6.ne 1 2, O6.ne 1 3, O6.ne 1 4⟩, ⟨O6.ne 2 3, O6.ne 2 4⟩, O6.ne 3 4⟩
      · rintro i y σ H7 hi ⟨u, y1, y2, y3, rfl, e7, g7, O7, b1, b2, b3⟩
        have hi3 : i < 3 := (List.getElem?_eq_some_iff.mp hi).1
        walk_at "rd"
        match i, hi, hi3, b1, b2, b3 with
        | 0, hi, _, b1, b2, b3 =>
          obtain rfl : V.ref p1 = y := Option.some.inj hi
          refine rd_tyL (O7.get 0) ?_
          walk_at "rd"
          refine rd_app (O7.get 0) (by omega) ?_
          walk_at "rd"
          have O8 := O7.set 0 (.lst (y1 ++ [.int 0]))
          exact ⟨_, _, _, _, rfl, e7.mut h1, O8.get 3, O8, by rw [List.length_append]; simp; omega, by omega, by omega⟩
        | 1, hi, _, b1, b2, b3 =>
          obtain rfl : V.ref p2 = y := Option.some.inj hi
          refine rd_tyL (O7.get 1) ?_
          walk_at "rd"
          refine rd_app (O7.get 1) (by omega) ?_
          walk_at "rd"
          have O8 := O7.set 1 (.lst (y2 ++ [.int 0]))
          exact ⟨_, _, _, _, rfl, e7.mut h2, O8.get 3, O8, by omega, by rw [List.length_append]; simp; omega, by omega⟩
        | 2, hi, _, b1, b2, b3 =>
          obtain rfl : V.ref p3 = y := Option.some.inj hi
          refine rd_tyL (O7.get 2) ?_
          walk_at "rd"
          refine rd_app (O7.get 2) (by omega) ?_
          walk_at "rd"
          have O8 := O7.set 2 (.lst (y3 ++ [.int 0]))
          exact ⟨_, _, _, _, rfl, e7.mut h3, O8.get 3, O8, by omega, by omega, by rw [List.length_append]; simp; omega⟩
      rintro σ H7 ⟨u, y1, y2, y3, rfl, e7, _, _, _, _, _⟩
      clear O4 O6 OM m1 m2 m3 hM4
      have hD7 := hD.exd e7
      walk_at "rd"
      refine hD7.self (by decide +kernel) ?_
      walk_at "rd"
      refine ⟨a, F, D, rfl, hD7, fun r1 z1 H8 k8 e8 g8 c8 => ?_⟩
      have hD8 := hD7.exd e8
      walk_at "rd"
      refine hD8.self (by decide +kernel) ?_
      walk_at "rd"
      refine ⟨a, F, D, rfl, hD8, fun r2 z2 H9 k9 e9 g9 c9 => ?_⟩
      have hD9 := hD8.exd e9
      walk_at "rd"
      refine hD9.self (by decide +kernel) ?_
      walk_at "rd"
      refine ⟨a, F, D, rfl, hD9, fun r3 z3 H10 k10 e10 g10 c10 => ?_⟩
      walk_at "rd"
      refine ⟨by simp, fun q11 H11 k11 e11 g11 => ?_⟩
      walk_at "rd"
      refine rd_repr (d := seen3w D) (.lst (sq_of g11) (.cons (.lst (sq_of (((e9.trans e10).trans e11) _ _ g8)) (dpAll_ex ((e9.trans e10).trans e11) _ _ c8)) (.cons (.lst (sq_of ((e10.trans e11) _ _ g9)) (dpAll_ex (e10.trans e11) _ _ c9)) (.cons (.lst (sq_of (e11 _ _ g10)) (dpAll_ex e11 _ _ c10)) .nil)))) t3 (by decide) (by decide) ?_
      walk_at "rd"
      have e0b := (((e7.trans e8).trans e9).trans e10).trans e11
      obtain ⟨⟨ps, pp, pe, xs, xp, xe, hG, OM, m1, m2, m3⟩, _⟩ := hM.exd e0b
      refine dget_p (OM.get 0) ?_
      walk_at "rd"
      refine dget_s (OM.get 0) ?_
      walk_at "rd"
      refine dget_e (OM.get 0) ?_
      walk_at "rd"
      refine ⟨by simp, fun q12 H12 k12 e12 g12 => ?_⟩
      walk_at "rd"
      refine rd_repr (d := seen3w D) (.lst (sq_of g12) (.cons (.lst (sq_of (e12 _ _ (OM.get 2))) (dpAll_ex e12 _ _ m2)) (.cons (.lst (sq_of (e12 _ _ (OM.get 1))) (dpAll_ex e12 _ _ m1)) (.cons (.lst (sq_of (e12 _ _ (OM.get 3))) (dpAll_ex e12 _ _ m3)) .nil)))) t3 (by decide) (by decide) ?_
      walk_at "rd"
      rw [show (decide ((seen3w D).shown = (seen3w D).shown)) = true from by simp]
      exact kQ _ (e0b.trans e12)
  exact ⟨_, GL.Held.plain hf hb, T.g__law_stands, F.kp⟩

def spLaw (K : PySem.W.Frag) : Sp := fun vs H Q _ => ∃ (a : Addr) (ns : List Int), vs = [.ref a] ∧ SqL K H a (ns.map V.int) ∧ ns.length ≤ 63 ∧ ∀ H', Q (.bl true) H'
theorem fn_law {P : Program} {w : World} {K : PySem.W.Frag} {mg : Str → Option Value} {base : Heap} {fd : FuncData} (F : FunD K "law" "law" (defArgs s_law) (defBody s_law) (defScope s_law) [] [] (He.fAd K ("law", none)) fd) (T : Txt K mg) : GL.Fn true P w K mg base 13 (He.fAd K ("law", none)) fd ["_law_script"] (spLaw K) := by
    refine GL.fn_def (k := 12) F sc_law ?len ?body
    case len => intro vs H Q E h; obtain ⟨_,_,rfl,_⟩ := h; rfl
    case body =>
      intro cdv A outer s H vs Q E hr h
      refine ⟨_, (pss_cons (ps_for (GL.po_top) rfl (pi_list (pe_op GL.op_catN (GL.pe_lstN (pa_cons (GL.ge_call (g_l_cell_at T) (hr.mono (by first | decide | omega)) GL.tk_top rfl (pa_cons (pv 0) (pa_cons pe_int pa_nil))) pa_nil)) (pe_slice GL.sl_listN (pv 0) (po_some pe_int) (po_some pe_int)))) (pg_name (i := 1) sc_law.nd rfl (Or.inl rfl)) (pss_cons (ps_set (i := 2) sc_law.nd rfl (Or.inl rfl) (GL.ge_call (g_l_well T) (hr.mono (by first | decide | omega)) GL.tk_top rfl (pa_cons (pv 1) pa_nil)))
  (pss_cons (ps_set (i := 3) sc_law.nd rfl (Or.inl rfl) (pe_ix ix_seq (GL.pe_lstN (pa_cons (pe_op op_add pe_int (GL.ge_call (g_l_draw T) (hr.mono (by first | decide | omega)) GL.tk_top rfl (pa_cons (pv 2) (pa_cons pe_int pa_nil)))) (pa_cons (pe_op op_add pe_int (GL.ge_call (g_l_draw T) (hr.mono (by first | decide | omega)) GL.tk_top rfl (pa_cons (pv 2) (pa_cons pe_int pa_nil)))) pa_nil))) (pe_op op_fdivW (GL.ge_call (g_l_draw T) (hr.mono (by first | decide | omega)) GL.tk_top rfl (pa_cons (pv 2) (pa_cons pe_int pa_nil))) pe_int) (fun _ _ => rfl)))
  (pss_cons (ps_set (i := 4) sc_law.nd rfl (Or.inl rfl) (GL.ge_make (g_Disk_init T) (hr.mono (by first | decide | omega)) GL.tk_top rfl (pa_cons (pv 3) pa_nil)))
  (pss_cons (ps_set (i := 5) sc_law.nd rfl (Or.inl rfl) (pe_disp (pps_cons pe_str (pe_op op_rep (GL.pe_lstN (pa_cons pe_int pa_nil)) (pv 3)) (pps_cons pe_str (GL.pe_lstN pa_nil) (pps_cons pe_str (GL.pe_lstN pa_nil) pps_nil))) (by rfl) (by rfl) (fun z => by cases z) (by decide)))
  (pss_cons (ps_for (GL.po_top) rfl (pi_range1 rfl T.f_range (pa_cons (GL.ge_call (g_l_draw T) (hr.mono (by first | decide | omega)) GL.tk_top rfl (pa_cons (pv 2) (pa_cons pe_int pa_nil))) pa_nil)) (pg_name (i := 6) sc_law.nd rfl (Or.inl rfl)) (pss_cons (ps_asg (GL.ge_call (g_l_step T) (hr.mono (by first | decide | omega)) GL.tk_top rfl (pa_cons (pv 2) (pa_cons (pv 3) pa_nil))) (pg_tup rfl (pgs_cons (pg_name (i := 7) sc_law.nd rfl (Or.inl rfl)) (pgs_cons (pg_name (i := 8) sc_law.nd rfl (Or.inl rfl)) pgs_nil))))
  (pss_cons (ps_if (pt_cmpR op_ne (pe_callB (GL.call_reprD hr) rfl T.f_repr boot_repr (pa_cons (GL.ge_call (g_l_told T) hr GL.tk_top rfl (pa_cons (pv 4) (pa_cons (pv 7) pa_nil))) pa_nil)) (pe_callB (GL.call_reprD hr) rfl T.f_repr boot_repr (pa_cons (GL.ge_call (g_l_done T) (hr.mono (by first | decide | omega)) GL.tk_top rfl (pa_cons (pv 5) (pa_cons (pv 7) (pa_cons (pv 8) pa_nil)))) pa_nil)) (nomark _)) (pss_one (ps_ret pe_bl)) pss_nil)
  (pss_one (ps_if (pt_not (pt_val (GL.ge_call (g_l_stands T) (hr.mono (by first | decide | omega)) GL.tk_top rfl (pa_cons (pv 4) (pa_cons (pv 5) pa_nil))))) (pss_one (ps_ret pe_bl)) pss_nil)))))
  (pss_cons (ps_set (i := 9) sc_law.nd rfl (Or.inl rfl) pe_int)
  (pss_cons (ps_for (GL.po_top) rfl (pi_range1 rfl T.f_range (pa_cons pe_int pa_nil)) (pg_name (i := 10) sc_law.nd rfl (Or.inl rfl)) (pss_one (ps_set (i := 9) sc_law.nd rfl (Or.inl rfl) (GL.pe_tupN (pa_cons (pv 9) pa_nil)))))
  (pss_cons (ps_if (PW.pt (pw_or (pt_cmpR op_notN (GL.ge_meth (pv 4) T.c_Disk (g_Disk_write T) (hr.mono (by first | decide | omega)) GL.tk_top (pa_cons (pe_op op_sub (pv 3) pe_int) (pa_cons (pv 9) pa_nil))) pe_non (nomark _)) (pw_or1 (pt_cmpR (GL.op_neU hr.u64) (GL.ge_meth (pv 4) T.c_Disk (g_Disk_read T) (hr.mono (by first | decide | omega)) GL.tk_top (pa_cons (pe_op op_sub (pv 3) pe_int) pa_nil)) (pv 9) (nomark _))))) (pss_one (ps_ret pe_bl)) pss_nil)
  (pss_one (ps_for (GL.po_top) rfl (pi_list (GL.pe_lstN (pa_cons pe_int (pa_cons pe_int (pa_cons pe_bl (pa_cons pe_non (pa_cons pe_str (pa_cons (pe_un un_neg pe_int) (pa_cons (GL.pe_tupN (pa_cons pe_int pa_nil)) (pa_cons (GL.pe_lstN (pa_cons pe_int pa_nil)) pa_nil)))))))))) (pg_name (i := 11) sc_law.nd rfl (Or.inl rfl)) (pss_one (ps_if (pt_cmpR op_ne (GL.ge_call (g_l_bad_size T) (hr.mono (by first | decide | omega)) GL.tk_top rfl (pa_cons (pv 11) pa_nil)) (pe_callB (GL.call_reprD hr) rfl T.f_repr boot_repr (pa_cons (pv 11) pa_nil)) (nomark _)) (pss_one (ps_ret pe_bl)) pss_nil)))))))))))))
  (pss_one (ps_ret pe_bl))), ?_⟩
      obtain ⟨a, ns, rfl, hs, hl, kQ⟩ := h
      walk_at "rd"
      refine ⟨a, 0, ns, rfl, hs, Int.le_refl _, fun i0 => ?_⟩
      walk_at "rd"
      refine ⟨by simp, fun p0 H1 n0 e1 g0 => ?_⟩
      walk_at "rd"
      refine rdn_sl (ex_l e1 hs) fun p1 H2 n1 e2 g1 => ?_
      obtain ⟨ms, hms, hml⟩ := ints_cut (ns := ns) (lo := some 1) (hi := some 5)
      rw [hms] at g1
      refine rdn_cat (e2 _ _ g0) g1 (by rw [List.length_map, List.length_singleton]; omega) fun p2 H3 n2 e3 g2 => ?_
      have hxs : [V.int i0] ++ ms.map V.int = (i0 :: ms).map V.int := rfl
      rw [hxs] at g2
      refine ⟨p2, rfl, ⟨_, sq_of g2⟩, for_list (xs := (i0 :: ms).map V.int) (fun i σ H4 => ∃ u1 u2 u3 u4 u5 u6 u7 u8 u9 u10 u11, σ = [some (.ref a), u1, u2, u3, u4, u5, u6, u7, u8, u9, u10, u11] ∧ Ex H3 H4)
        ⟨none, none, none, none, none, none, none, none, none, none, none, rfl, Ex.refl _⟩ (fun i σ H4 _ ⟨_, _, _, _, _, _, _, _, _, _, _, _, e4⟩ => sq_of (e4 _ _ g2)) ?_ ?_⟩
      rotate_left
      · rintro σ H4 ⟨u1, u2, u3, u4, u5, u6, u7, u8, u9, u10, u11, rfl, e4⟩
        walk_at "rd"
        exact kQ _
      rintro i x σ H0 hi ⟨u1, u2, u3, u4, u5, u6, u7, u8, u9, u10, u11, rfl, e0⟩
      obtain ⟨c, rfl, _⟩ := ints_at hi
      walk_at "rd"
      refine ⟨c, rfl, fun pw H4 nw e4 w4 => ?_⟩
      have W1 := (Ws.start (H := H0)).well e4 nw w4
      walk_at "rd"
      refine W1.draw 0 rfl (by decide) (by decide) (by decide) fun r1 H5 r10 r11 W2 _ => ?_
      walk_at "rd"
      refine W2.draw 0 rfl (by decide) (by decide) (by decide) fun r2 H6 r20 r21 W3 _ => ?_
      walk_at "rd"
      refine ⟨by simp, fun q7 H7 n7 e7 g7 => ?_⟩
      have w3 : Wl H6 pw 2 := W3.get 0 rfl
      have ne7 : q7 ≠ pw := fun z => w3.ne (by rw [← z]; exact n7)
      have W7 := W3.exd e7
      walk_at "rd"
      refine W7.draw 0 rfl (by decide) (by decide) (by decide) fun r3 H8 r30 r31 W8 m8 => ?_
      walk_at "rd"
      refine rd_i (div_ok (by decide) (by decide)) ?_
      have g8 : H8 q7 = some (.lst [.int (1 + r1), .int (1 + r2)]) := m8 _ _ g7 (by simp; exact ne7)
      obtain ⟨size, s1, s2, hat⟩ : ∃ sz : Nat, 1 ≤ sz ∧ sz ≤ 128 ∧ atI [V.int (1 + r1), V.int (1 + r2)] (r3 / 5) = some (.int (sz : Int)) := by
        have q : r3 / 5 = 0 ∨ r3 / 5 = 1 := by omega
        rcases q with q | q <;> rw [q]
        · exact ⟨(1 + r1).toNat, by omega, by omega, by rw [show (((1 + r1).toNat : Nat) : Int) = 1 + r1 from by omega]; rfl⟩
        · exact ⟨(1 + r2).toNat, by omega, by omega, by rw [show (((1 + r2).toNat : Nat) : Int) = 1 + r2 from by omega]; rfl⟩
      refine rd_ixL (sq_of g8) hat ?_
      walk_at "rd"
      intro x dx nx ndx hne
      refine W8.make (by omega) (by omega) nx ndx hne fun H9 F9 W9 _ => ⟨rfl, ?_⟩
      rw [show ((size : Int).toNat) = size from by omega] at W9
      walk_at "rd"
      -- the law's own record
      refine rd_disp fun pm npm => ?_
      have O0 : Ob (upd H9 pm (.dK [])) [(pm, .dK [])] := ⟨fun z hz => by rw [List.mem_singleton.mp hz]; exact upd_same, by simp⟩
      have e9 := Ex.new npm (o := .dK [])
      walk_at "rd"
      refine ⟨by simp, fun q10 H10 n10 e10 g10 => ?_⟩
      walk_at "rd"
      refine ⟨q10, _, [.int 0], rfl, rfl, g10, by omega, by omega, sz_of (by simp; omega), fun ps nps => ?_⟩
      rw [flat_rep, show ((size : Int).toNat) = size from by omega]
      have e11 := Ex.new nps (o := .lst (List.replicate size (.int 0)))
      have O11 := ((O0.ex e10).newX e11 nps upd_same)
      walk_at "rd"
      refine ⟨by simp, fun pp H12 npp e12 gpp => ?_⟩
      have O12 := O11.newX e12 npp gpp
      walk_at "rd"
      refine ⟨by simp, fun pe H13 npe e13 gpe => ?_⟩
      have O13 := O12.newX e13 npe gpe
      walk_at "rd"
      refine ⟨O13.get 0, mkv ps pp pe, rfl, (by show 3 ≤ 15; decide), ?_⟩
      rw [mkv_merge]
      have O14 := O13.set 0 (.dK (mkv ps pp pe))
      have e913 := (((e9.trans e10).trans e11).trans e12).trans e13
      have e914 : Ex H9 (upd H13 pm (.dK (mkv ps pp pe))) := e913.mut npm
      have ok0 : (DS.new (List.replicate size (.int 0))).Ok := DiskAt.ok (W9.get 1 rfl)
      have M14 : MAt K (upd H13 pm (.dK (mkv ps pp pe))) pm [pm, ps, pp, pe] (DS.new (List.replicate size (.int 0))) := ⟨⟨ps, pp, pe, _, [], [], rfl, O14, da_rep (.int 0) _, .nil, .nil⟩, ok0⟩
      have W14 := W9.new (F := [pm, ps, pp, pe]) (P := fun H => MAt K H pm [pm, ps, pp, pe] (DS.new (List.replicate size (.int 0)))) e914 (fun b hb => by
        simp only [List.mem_cons, List.not_mem_nil, or_false] at hb
        rcases hb with rfl | rfl | rfl | rfl
        · exact npm
        · exact fresh_back (e9.trans e10) nps
        · exact fresh_back ((e9.trans e10).trans e11) npp
        · exact fresh_back (((e9.trans e10).trans e11).trans e12) npe) M14 stb_m M14.mem
      walk_at "rd"
      refine W14.draw 0 rfl (by decide) (by decide) (by decide) fun r4 H15 r40 r41 W15 _ => ?_
      walk_at "rd"
      refine ⟨_, rfl, by omega, by omega, ?_⟩
      refine for_range (fun i σ' H' => ∃ F G D v6 v7 v8, σ' = [some (.ref a), some (.int c), some (.ref pw), some (.int (size : Int)), some (.ref x), some (.ref pm), v6, v7, v8, u9, u10, u11] ∧ Ws H0 H' [tWl pw (10 + 300 * (i : Int)), tDk K (He.ga K "Disk") x F D, tM K pm G D] ∧ D.f.length = size ∧ Dw i D)
        ⟨F9, [pm, ps, pp, pe], DS.new (List.replicate size (.int 0)), u6, u7, u8, rfl, W15.wlUp (n' := 10 + 300 * ((0 : Nat) : Int)) 0 rfl (by decide), List.length_replicate, Dw.new s2⟩ ?_ ?_
      · rintro j σ' H' hj ⟨F, G, D, v6, v7, v8, rfl, W, fl, dw⟩
        have ok : D.Ok := DiskAt.ok (W.get 1 rfl)
        have ld := dw.dv.ld
        have lw := dw.dv.lw
        have hj61 : j < 61 := by omega
        walk_at "rd"
        refine ⟨pw, size, 10 + 300 * (j : Int), rfl, W.get 0 rfl, s1, s2, by omega, fun pt p st H1 mu wl np gt hst hvd => ?_⟩
        have W1 := W.putWl 0 rfl mu wl
        have npF : p ∉ F := DiskAt.notIn (W.get 1 rfl) np
        have npG : p ∉ G := fun z => MAt.mem (W.get 2 rfl) p z np
        refine rd_gtup (st_of gt) rfl ?_
        walk_at "rd"
        refine ⟨x, p, F, D, st, rfl, W1.get 1 rfl, hst, by omega, fun hc H2 F2 hd2 f2 => ?_, fun hc r H2 e2 hr => ?_⟩
        · have W2 := W1.step 1 rfl (DiskAt.nt (W1.get 1 rfl)) f2 hd2 stb_dk hd2.mem
          have hst2 := Stp.mu f2.mu (DiskAt.nt (W1.get 1 rfl)) npF hc hst
          walk_at "rd"
          refine rd_repr (d := .none) .non Tm.none (by decide) (by decide) ?_
          walk_at "rd"
          refine ⟨pm, p, G, D, st, rfl, W2.get 2 rfl, hst2, npG, dw.hs, by omega, by omega, fun _ H3 G3 hm3 f3 => ?_, fun hc2 => by rw [hc] at hc2; cases hc2⟩
          have W3 := W2.step 2 rfl (MAt.nt (W2.get 2 rfl)) f3 hm3 stb_m hm3.mem
          walk_at "rd"
          refine rd_repr (d := .none) .non Tm.none (by decide) (by decide) ?_
          walk_at "rd"
          rw [show (!decide (PyData.none.shown = PyData.none.shown)) = false from by simp]
          walk_at "rd"
          have dw2 := dw.to ok hc fun v u d e z => by
            subst z
            exact hvd (Bool.and_eq_true_iff.mp (show (blk D d && valOk 8 e) = true from hc)).2
          have fl2 : (st.to D).f.length = size := by rw [Stp.to_f]; exact fl
          have t := (dw2.up (n' := 61) (by omega)).t4 (by omega)
          refine ⟨x, pm, F2, G3, st.to D, rfl, W3.get 1 rfl, W3.get 2 rfl, t.1, t.2, by have := dw2.dv.ld; omega, fun H4 e4 => ?_⟩
          walk_at "rd"
          exact ⟨F2, G3, _, _, _, _, rfl, (W3.exd e4).wlUp (n' := 10 + 300 * ((j + 1 : Nat) : Int)) 0 rfl (by omega), fl2, dw2⟩
        · have W2 := W1.exd e2
          have tr := dw.res hc (fun v d e => by subst e; exact hst.2.2) (fun v u d e' e => by subst e; exact hst.2.2.1)
          walk_at "rd"
          refine rd_repr (d := st.res D) hr tr (by decide) (by decide) ?_
          walk_at "rd"
          refine ⟨pm, p, G, D, st, rfl, W2.get 2 rfl, Stp.exd e2 hst, npG, dw.hs, by omega, by omega, (fun hc2 => by rw [hc] at hc2; cases hc2), fun _ r2 H3 e3 hr2 => ?_⟩
          have W3 := W2.exd e3
          walk_at "rd"
          refine rd_repr (d := st.res D) hr2 tr (by decide) (by decide) ?_
          walk_at "rd"
          rw [show (!decide ((st.res D).shown = (st.res D).shown)) = false from by simp]
          walk_at "rd"
          have t := (dw.up (n' := 61) (by omega)).t4 (by omega)
          refine ⟨x, pm, F, G, D, rfl, W3.get 1 rfl, W3.get 2 rfl, t.1, t.2, by omega, fun H4 e4 => ?_⟩
          walk_at "rd"
          exact ⟨F, G, D, _, _, _, rfl, (W3.exd e4).wlUp (n' := 10 + 300 * ((j + 1 : Nat) : Int)) 0 rfl (by omega), fl, dw.up (Nat.le_succ _)⟩
      clear W1 W2 W3 W7 W8 W9 W14 W15
      rintro σ' H16 ⟨F, G, D, v6, v7, v8, rfl, W16, fl, dw⟩
      have ld := dw.dv.ld
      have ok : D.Ok := DiskAt.ok (W16.get 1 rfl)
      have ln := ok.ln
      walk_at "rd"
      -- a value as deep as may be
      refine ⟨_, rfl, by decide, by decide, ?_⟩
      refine for_range (fun i σ' H' => ∃ v v10, σ' = [some (.ref a), some (.int c), some (.ref pw), some (.int (size : Int)), some (.ref x), some (.ref pm), v6, v7, v8, some v, v10, u11] ∧ Ex H16 H' ∧ Dp K H' v (nest i)) ⟨.int 7, u10, rfl, Ex.refl _, .int _⟩ ?_ ?_
      · rintro i σ' H' hi ⟨v, v10, rfl, e1', hv⟩
        walk_at "rd"
        refine ⟨by simp, fun p H2' np e2' hp => ?_⟩
        walk_at "rd"
        exact ⟨_, _, rfl, e1'.trans e2', .tup (st_of hp) (.cons (dp_ex e2' _ _ hv) .nil)⟩
      rintro σ' H17 ⟨v, v10, rfl, e17, hv⟩
      have hv : Dp K H17 v (nest 8) := hv
      have W17 := W16.exd e17
      walk_at "rd"
      refine W17.self 1 rfl (by decide +kernel) ?_
      walk_at "rd"
      refine W17.write (b := (size : Int) - 1) 1 rfl (by omega) (by omega) hv (by decide +kernel) (by omega) fun H18 F18 W18 f18 => ?_
      walk_at "rd"
      refine ⟨rfl, ?_⟩
      walk_at "rd"
      rw [show (!decide (V.non = V.non)) = false from by simp]
      walk_at "rd"
      refine W18.self 1 rfl (by decide +kernel) ?_
      walk_at "rd"
      have hidx : (D.wr ((size : Int) - 1) (nest 8)).n[((size : Int) - 1).toNat]? = some (nest 8) := by
        show (D.n.set ((size : Int) - 1).toNat (nest 8))[((size : Int) - 1).toNat]? = _
        rw [List.getElem?_set, if_pos rfl, if_pos (by omega)]
      refine ⟨x, F18, D.wr ((size : Int) - 1) (nest 8), .int ((size : Int) - 1), .int ((size : Int) - 1), rfl, W18.get 1 rfl, .inl (.int _), fun _ u e he hu => ?_, fun z => ?_⟩
      rotate_left
      · have z2 : blk (D.wr ((size : Int) - 1) (nest 8)) (.int ((size : Int) - 1)) = true := blk_int (by omega) (show (size : Int) - 1 < D.f.length by omega)
        rw [z2] at z; cases z
      have he : e = nest 8 := Option.some.inj (he.symm.trans hidx)
      subst he
      walk_at "rd"
      refine rd_neSame hu (dp_mu f18.mu (DiskAt.nt (W17.get 1 rfl)) _ _ (nest_noL 8) hv) (nest_tm 8) (by decide) ?_
      walk_at "rd"
      -- sizes that are none
      refine ⟨by simp, fun q1 H19 n19 e19 g19 => ?_⟩
      walk_at "rd"
      refine ⟨by simp, fun q2 H20 n20 e20 g20 => ?_⟩
      walk_at "rd"
      refine ⟨by simp, fun q3 H21 n21 e21 g21 => ?_⟩
      walk_at "rd"
      have W21 := W18.exd ((e19.trans e20).trans e21)
      refine ⟨q3, rfl, ⟨_, sq_of g21⟩, for_list (xs := _) (fun i σ H22 => ∃ w11, σ = [some (.ref a), some (.int c), some (.ref pw), some (.int (size : Int)), some (.ref x), some (.ref pm), v6, v7, v8, some v, v10, w11] ∧ Ex H21 H22) ⟨u11, rfl, Ex.refl _⟩ (fun i σ H22 _ ⟨_, _, e4⟩ => sq_of (e4 _ _ g21)) ?_ ?_⟩
      · rintro j y σ H22 hj ⟨w11, rfl, e22⟩
        have hx : ∃ d, (∀ H', Ex H22 H' → Dq K H' y d) ∧ betw d 1 128 = false ∧ Sh d := by
          have hm := List.mem_of_getElem? hj
          simp only [List.mem_cons, List.not_mem_nil, or_false] at hm
          have t1 : ∀ i : Int, i.natAbs < 10 ^ 21 → Sh (.int i) := fun i h => (Tm.intB h).sh (by decide) (by decide)
          rcases hm with rfl | rfl | rfl | rfl | rfl | rfl | rfl | rfl
          · exact ⟨.int 0, fun _ _ => .inl (.int _), betw_lo (by decide), t1 _ (by decide)⟩
          · exact ⟨.int 129, fun _ _ => .inl (.int _), betw_hi (by decide), t1 _ (by decide)⟩
          · exact ⟨.bool true, fun _ _ => .inl (.bl _), betw_no rfl, (Tm.bool _).sh (by decide) (by decide)⟩
          · exact ⟨.none, fun _ _ => .inl .non, betw_no rfl, Tm.none.sh (by decide) (by decide)⟩
          · exact ⟨.str "3", fun _ _ => .inl (.str _), betw_no rfl, (Tm.str (n := 20) (by decide +kernel) (by decide +kernel)).sh (by decide) (by decide)⟩
          · exact ⟨.int (-1), fun _ _ => .inl (.int _), betw_lo (by decide), t1 _ (by decide)⟩
          · exact ⟨.tuple [.int 1], fun H' e => .inl (.tup (st_of ((((e20.trans e21).trans e22).trans e) _ _ g19)) (.cons (.int 1) .nil)), betw_no rfl, (Tm.tuple (k := 0) (w := 20) (n := 1) (fun d hd => by rw [List.mem_singleton.mp hd]; exact Tm.int (by decide)) (by simp)).sh (by decide) (by decide)⟩
          · exact ⟨.list [.int 2], fun H' e => .inl (.lst (sq_of (((e21.trans e22).trans e) _ _ g20)) (.cons (.int 2) .nil)), betw_no rfl, (Tm.list (k := 0) (w := 20) (n := 1) (fun d hd => by rw [List.mem_singleton.mp hd]; exact Tm.int (by decide)) (by simp)).sh (by decide) (by decide)⟩
        obtain ⟨d, hd, hb, sh⟩ := hx
        walk_at "rd"
        refine ⟨y, d, rfl, hd _ (Ex.refl _), sh, hb, fun H23 e23 => ?_⟩
        walk_at "rd"
        refine ⟨y, d, rfl, hd _ e23, sh.sh, sh.dep, sh.len, ?_⟩
        walk_at "rd"
        rw [show (!decide (d.shown = d.shown)) = false from by simp]
        walk_at "rd"
        exact ⟨_, rfl, e22.trans e23⟩
      rintro σ H22 ⟨w11, rfl, e22⟩
      walk_at "rd"
      exact ⟨_, _, _, _, _, _, _, _, _, _, _, rfl, e0.trans (W21.exd e22).ex⟩


theorem facts {P : Program} {w : World} {K : PySem.W.Frag} {h : Heap} {mg : Str → Option Value} {f : Addr} (X : K.In h) (G : h.Ns mainGlobals mg) (hfa : mg ("law" : Str) = some (.ref f)) (c : He.SaysD fa fn K) (x : ex K = true) :
    ∃ fd : FuncData, (∀ (s : Shared) (v : Value), BindsTo s fd ⟨[v], []⟩ [("_law_script", v)]) ∧ ∀ base : Heap, K.In base → base.Ns mainGlobals mg → GL.Fn true P w K mg base 13 f fd ["_law_script"] (spLaw K) := by
  have T : Txt K mg := ⟨c, x, h, X, G⟩
  obtain ⟨fd, F⟩ := T.def_law
  have e := hfa.symm.trans T.g_law
  cases e
  have b := FunD.bindsA (ps := ["_law_script"]) F fun _ _ _ _ _ _ us hl => match us, hl with | [_], _ => rfl
  exact ⟨fd, fun s v => b s [v] rfl, fun base _ _ => fn_law F T⟩
theorem run (w : World) : HandSHeadRun.RunEq R (PySem.W.view R.prog [39]) hk ob 8000 loose w := by
  intro os
  kernel_rfl

end K01
open PySem PySem.W PySem.Calls PyProof.Rows
theorem PySem.Challenge.cw_revokelog_k01_whole_disks_step_by_step_holds : PySem.Challenge.rw_revokelog_k01_whole_disks_step_by_step.Holds := by
  w_on; o_law
  refine HandSHeadRun.head_any (r := OpenLaw.row PySem.Challenge.rw_revokelog_k01_whole_disks_step_by_step) (q := view K01.R.prog [39]) (H := K01.hk) (ob := K01.ob) (M := 8000) (loose := K01.loose) (d := HandSHeadRun.topDef K01.R.prog 39) (kwd := []) K01.ob_eq
    (by kernel_rfl) (fun s => by kernel_rfl) K01.run (by kernel_rfl) (by kernel_rfl) (by kernel_rfl) (by rfl) (by first | assumption | decide +kernel) (by decide +kernel) ⟨rfl, rfl, rfl, rfl, rfl, by decide +kernel⟩ ?hw ?hc
  case hw => w_witness2
  case hc =>
    refine GL.walk_end (l := PySem.Challenge.rw_revokelog_k01_whole_disks_step_by_step) (n := 63) (k := 13) (x := "_law_script") rfl (by decide) (by kernel_rfl) ⟨fun _ => rfl, by decide, by decide, rfl⟩ ?F
    intro w mg fa h Y G hmg0
    obtain ⟨K, KX, c, x⟩ := Y
    have hmg : mg ("law" : PySem.Str) = some (.ref fa) := by
      have e : (HandSHeadRun.topDef K01.R.prog 39).name = ("law" : PySem.Str) := by kernel_rfl
      rw [← e]
      exact hmg0
    obtain ⟨fd, hb, hF⟩ := K01.facts (P := (PySem.Challenge.rw_revokelog_k01_whole_disks_step_by_step).prog) (w := w) KX G hmg c x
    exact ⟨K, fd, K01.spLaw K, KX, hb, fun H a ns hl _ hS => ⟨a, ns, rfl, hS, hl, fun _ => rfl⟩, hF⟩
