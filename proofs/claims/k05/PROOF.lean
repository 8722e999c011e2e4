import PyProof.Rows.All
import Wide.All
import OpenK.AllK
import Wide.FinOn
import HandS.ForMost
import HandS.ForExc
import KE.KExcSuper
import HandS.ExcInit
import KE.KExcIs
import HandS.IsInst
import HandS.ExcValue
import HandS.TryMany
import HandS.ExcField
import HandS.Deep
import HandS.Evl
import HandS.Lambda
import HandS.EndTab
import KE.KDflt
import KE.KRevSl
import HandS.TupAny
import HandS.Iter
import KE.GoesEnum
import HandS.Star
import HandS.ClsMeth
import HandS.CallLocal
import HandS.Property
import HandS.Words
import HandS.Dict
import PySem.Challenge.RW_shortspans_k05_whole_styles_refused
set_option Elab.async false
set_option linter.all false
set_option maxRecDepth 100000
set_option maxHeartbeats 0
set_option exponentiation.threshold 100000
/-! Defs that are called where no repr is being made (so that they may call repr). -/
namespace L2
open PySem PySem.Spec PyProof.Rows
/-- room, and no guard stands around -/
structure RoomG (k : Nat) (A : Around) : Prop where
  r : Room k A
  g : A.guards = some []
theorem RoomG.mono {j k : Nat} {A : Around} (r : RoomG k A) (h : j ≤ k) : RoomG j A := ⟨r.r.mono h, r.g⟩
theorem RoomG.deeper {k : Nat} {A : Around} (r : RoomG (k + 1) A) (env : Env) : RoomG k (A.deeper env) := ⟨r.r.deeper env, r.g⟩
structure FnG (P : Program) (w : World) (K : PySem.W.Frag) (mg : Str → Option Value) (base : Heap) (CX : CXT) (k : Nat) (f : Addr) (fd : FuncData) (ps : List Str) (sp : Sp) : Prop where
  len : ∀ vs H Q E, sp vs H Q E → vs.length = ps.length
  run : ∀ (A : Around) (outer : List Env) (s : Shared) (H : Hp) (args : Args) (us : List Value) (vs : List V) (Q : VK) (E : XK), RoomG k A → Env0 P w K mg base A outer s H → BindsTo s fd args (ps.zip us) → Vals vs us → sp vs H Q E →
    codeAny (model P w) A (.call (.ref f) args) (CR CX outer P w H s Q E) s
theorem FnG.of {P : Program} {w : World} {K : PySem.W.Frag} {mg : Str → Option Value} {base : Heap} {CX : CXT} {k : Nat} {f : Addr} {fd : FuncData} {ps : List Str} {sp : Sp} (F : FnOk P w K mg base CX k f fd ps sp) : FnG P w K mg base CX k f fd ps sp :=
  ⟨F.len, fun A outer s H args us vs Q E hr => F.run A outer s H args us vs Q E hr.r⟩
theorem FnG.mono {P : Program} {w : World} {K : PySem.W.Frag} {mg : Str → Option Value} {base : Heap} {CX : CXT} {j k : Nat} {f : Addr} {fd : FuncData} {ps : List Str} {sp : Sp} (F : FnG P w K mg base CX j f fd ps sp) (h : j ≤ k) : FnG P w K mg base CX k f fd ps sp :=
  ⟨F.len, fun A outer s H args us vs Q E hr => F.run A outer s H args us vs Q E (hr.mono h)⟩
theorem FnG.imp {P : Program} {w : World} {K : PySem.W.Frag} {mg : Str → Option Value} {base : Heap} {CX : CXT} {k : Nat} {f : Addr} {fd : FuncData} {ps : List Str} {sp sp' : Sp} (F : FnG P w K mg base CX k f fd ps sp)
    (h : ∀ vs H Q E, sp' vs H Q E → sp vs H Q E) : FnG P w K mg base CX k f fd ps sp' :=
  ⟨fun vs H Q E q => F.len vs H Q E (h _ _ _ _ q), fun A outer s H args us vs Q E hr he hb hv hs => F.run A outer s H args us vs Q E hr he hb hv (h _ _ _ _ hs)⟩
section
variable {X : Cx} {CX : CXT} {k : Nat} {f C : Addr} {fd : FuncData} {ps : List Str} {sp : Sp} {dvs : List V} {ds : List Value} {E : XK} {x m : Str} {p pos apos : Pos} {e o : Expr} {es : List Expr} {ta : TE} {t : TA}
theorem run_fnG {pins : List (Addr × Obj)} {σ : St} {H : Hp} {s : Shared} {Q : VK} {us : List Value} {vs : List V} (F : FnG X.prog X.w X.K X.mg X.base CX k f fd ps sp) (hr : RoomG k X.A) (hb : Binds X.K fd ps ds) (hd : Vals dvs ds) (hx : Passes CX X E)
    (I : Inv X pins σ H s) (r : Vals vs us) (h : sp (vs ++ dvs) H Q E) : wpAny (model X.prog X.w) X.A (call (.ref f) us) (EP X pins σ Q) X.xe s := by
  have r2 : Vals (vs ++ dvs) (us ++ ds) := r.append hd
  have hl : (us ++ ds).length = ps.length := by rw [← r2.length]; exact F.len _ _ _ _ h
  refine wpAny_call (codeAny_mono (F.run X.A X.stack s H ⟨us, []⟩ (us ++ ds) (vs ++ dvs) Q E hr I.env0 (hb s us I.kIn hl) r2 h) fun r s' hq => ?_)
  cases r with
  | error e => exact hx pins σ H s e s' I hq
  | ok fl =>
    cases fl with
    | ret u => exact I.after hq
    | next => exact False.elim hq
    | brk => exact False.elim hq
    | cont => exact False.elim hq
theorem pe_callG (F : FnG X.prog X.w X.K X.mg X.base CX k f fd ps sp) (hr : RoomG k X.A) (hg : Gl X x) (hm : X.mg x = some (.ref f)) (hk : PySem.W.keepIn X.K (.ref f) = true) (hb : Binds X.K fd ps ds) (hd : Vals dvs ds) (hx : Passes CX X E)
    (ha : PA X (e :: es) t) (hdb : (x == ("__debug__" : Str)) = false := by decide) (he : starEach (e :: es) X.env = (false, eval e X.env) :: starEach es X.env := by rfl) (hpl : (backTo pos (starEach es X.env)).any (·.1) = false := by rfl) :
    PE X (.Call (.Name x p) (e :: es) [] pos) (tCall sp dvs E t) := by
  refine ⟨fun pins s σ H Q I h => ?_⟩
  refine wpAny_Call_Name_kw (ld_glob I hg hm ?_ hdb)
  refine PySem.W.callWith_K (h₀ := X.base) I.ok.mod.kin hk (thn (ha.run pos pins s σ H _ I h) fun us s1 ⟨vs, H1, I1, r, q⟩ => ⟨I1.kIn, ?_⟩) he hpl
  exact run_fnG F hr hb hd hx I1 r q
theorem pe_call0G (F : FnG X.prog X.w X.K X.mg X.base CX k f fd ps sp) (hr : RoomG k X.A) (hg : Gl X x) (hm : X.mg x = some (.ref f)) (hk : PySem.W.keepIn X.K (.ref f) = true) (hb : Binds X.K fd ps ds) (hd : Vals dvs ds) (hx : Passes CX X E)
    (hdb : (x == ("__debug__" : Str)) = false := by decide) : PE X (.Call (.Name x p) [] [] pos) (tCall sp dvs E tNil) := by
  refine ⟨fun pins s σ H Q I h => ?_⟩
  refine wpAny_Call_Name_kw (ld_glob I hg hm ?_ hdb)
  exact PySem.W.callWith_K0 I.kIn hk (run_fnG (us := []) F hr hb hd hx I .nil h)
end
theorem fn_ofG {CX : CXT} {P : Program} {w : World} {K : PySem.W.Frag} {mg : Str → Option Value} {base : Heap} {k : Nat} {f : Addr} {name qual : Str} {params : Arguments} {body : List Stmt} {scope : Scope} {dV kV doc pm cdv ct oc : Value} {an od : Option Addr}
    {osl : Array (Option Value)} {N ps : List Str} {sp : Sp} (lk : K.lookup f = some ⟨oc, od, .func (PySem.W.fnOf name qual params body scope dV kV doc pm an cdv ct), osl⟩) (hcd : PySem.W.codeIn K cdv qual = true) (S : FnScope N ps scope)
    (len : ∀ vs H Q E, sp vs H Q E → vs.length = ps.length)
    (hbody : ∀ (A : Around) (outer : List Env) (s : Shared) (H : Hp) (vs : List V) (Q : VK) (E : XK), RoomG k (A.deeper (envOfC qual scope s.heap.objs.size f cdv)) → sp vs H Q E →
      ∃ t, PSs (cxOf CX P w K mg base N qual scope f cdv A outer s H E) body t ∧ t { nx := fun _ H' => Q .non H', rt := Q } (start N vs) H) :
    FnG P w K mg base CX (k + 1) f (PySem.W.fnOf name qual params body scope dV kV doc pm an cdv ct) ps sp := by
  refine ⟨len, fun A outer s H args us vs Q E hr e0 hb r hsp => ?_⟩
  have hl := len _ _ _ _ hsp
  have KX : K.In s.heap := e0.mod.kin.keeps fun b o e => (e0.bs b o e).1
  have lim : s.heap.NoLimit := e0.mod.nolimit.keeps fun b o e => (e0.bs b o e).1
  have hkind : ∀ y ∈ ps.zip us, scope.names.lookup y.1 = some .local ∨ (scope.names.lookup y.1 = some .cell ∧ ((cellsFrom (s.heap.objs.size + 1) scope.names []).lookup y.1).isSome = true) := fun ⟨n, v⟩ hy => by
    rcases S.par n (List.of_mem_zip hy).1 with q | q
    · exact .inl q
    · exact .inr ⟨q, PySem.W.cellsFrom_some _ _ _ (.inl q)⟩
  refine codeAny_call_function hr.r.depth (KX _ _ lk) rfl S.co S.gen rfl (PySem.W.codeRec_of KX hcd) (hb _ _ _ _ ?_)
  refine wpAny_newFunctionEnv_cells S.kind hkind fun env he s1 x => ?_
  subst he
  refine ⟨lim.keeps x.toInCall.keep, codeAny_func ?_⟩
  obtain ⟨t, ht, hq⟩ := hbody A outer s H vs Q E (hr.deeper _) hsp
  have I : Inv (cxOf CX P w K mg base N qual scope f cdv A outer s H E) [] (start N vs) H s1 := inv_start S hr.r.hd e0 hl r x
  refine wpAny_mono (ht.run [] s1 (start N vs) H _ I hq) (fun fl s' hs => ?_) fun e s' hs => hs
  have fin : ∀ {σ' : St} {H' : Hp} {v : V} {u : Value}, Inv (cxOf CX P w K mg base N qual scope f cdv A outer s H E) [] σ' H' s' → RelV v u → Q v H' → CE outer P w H s Q u s' :=
    fun {σ' H' v u} J rv q => ⟨v, H', J.os, J.bare, J.base, J.hok, rv, q⟩
  cases fl with
  | ret u =>
    obtain ⟨v, σ', H', J, rv, q⟩ := hs
    exact fin J rv q
  | next =>
    obtain ⟨σ', H', J, q⟩ := hs
    exact fin (v := V.non) (u := Value.none) J rfl q
  | brk =>
    obtain ⟨_, _, _, q⟩ := hs
    exact False.elim q
  | cont =>
    obtain ⟨_, _, _, q⟩ := hs
    exact False.elim q
section
variable {P : Program} {w : World} {K : PySem.W.Frag} {mg : Str → Option Value} {base : Heap}
theorem Fun.okG {x qual : Str} {st : Stmt} {f : Addr} {fd : FuncData} {N ps : List Str} {k : Nat} {sp : Sp} (F : Fun K x qual st f fd) (S : FnScope N ps (defScope st)) (len : ∀ vs H Q E, sp vs H Q E → vs.length = ps.length)
    (hbody : ∀ (cdv : Value) (A : Around) (outer : List Env) (s : Shared) (H : Hp) (vs : List V) (Q : VK) (E : XK), RoomG k (A.deeper (envOfC qual (defScope st) s.heap.objs.size f cdv)) → sp vs H Q E →
      ∃ t, PSs (cxOf CX0 P w K mg base N qual (defScope st) f cdv A outer s H E).nox (defBody st) t ∧ t { nx := fun _ H' => Q .non H', rt := Q } (start N vs) H) : FnG P w K mg base CX0 (k + 1) f fd ps sp := by
  obtain ⟨oc, od, kV, doc, pm, an, cdv, ct, osl, rfl, lk, hcd⟩ := F.ex
  refine fn_ofG lk hcd S len fun A outer s H vs Q E hr hsp => ?_
  obtain ⟨t, h, q⟩ := hbody cdv A outer s H vs Q E hr hsp
  exact ⟨t, h.nox, q⟩
theorem Fun.okXG {x qual : Str} {st : Stmt} {f : Addr} {fd : FuncData} {N ps : List Str} {k : Nat} {sp : Sp} (F : Fun K x qual st f fd) (S : FnScope N ps (defScope st)) (len : ∀ vs H Q E, sp vs H Q E → vs.length = ps.length)
    (hbody : ∀ (cdv : Value) (A : Around) (outer : List Env) (s : Shared) (H : Hp) (vs : List V) (Q : VK) (E : XK), RoomG k (A.deeper (envOfC qual (defScope st) s.heap.objs.size f cdv)) → sp vs H Q E →
      ∃ t, PSs (cxOf (L2.CX P w) P w K mg base N qual (defScope st) f cdv A outer s H E) (defBody st) t ∧ t { nx := fun _ H' => Q .non H', rt := Q } (start N vs) H) : FnG P w K mg base (L2.CX P w) (k + 1) f fd ps sp := by
  obtain ⟨oc, od, kV, doc, pm, an, cdv, ct, osl, rfl, lk, hcd⟩ := F.ex
  exact fn_ofG lk hcd S len fun A outer s H vs Q E hr hsp => hbody cdv A outer s H vs Q E hr hsp
end
/-! ### the head -/
theorem law_callG {P : Program} {w : World} {K : PySem.W.Frag} {mg mb : Str → Option Value} {CX : CXT} {k : Nat} {fa a : Addr} {fd : FuncData} {x : Str} {sp : Sp} {s₁ : Shared} {vs : List Value} {ns : List Int}
    (KX : K.In s₁.heap) (hns : s₁.heap.Ns mainGlobals mg) (hb : s₁.heap.Ns builtinsNs mb) (hbb : ∀ x : Str, x ≠ "__name__" → mb x = bootBuiltins x) (hlim : s₁.heap.NoLimit) (hg : s₁.gens = #[])
    (ha : s₁.heap.get? a = some { cls := .type "list", data := .seq vs.toArray }) (hi : IntsAre vs ns) (hl : ns.length ≤ sizeLine) (hr : RoomG k callerA)
    (F : ∀ base : Heap, K.In base → base.Ns mainGlobals mg → FnG P w K mg base CX k fa fd [x] sp) (hbind : ∀ (s : Shared) (u : Value), BindsTo s fd ⟨[u], []⟩ [(x, u)])
    (hsp : ∀ H : Hp, Only H → SqL K H a (ns.map V.int) → sp [.ref a] H (fun v _ => v = .bl true) fun _ _ _ => False)
    (hCX : ∀ H e s', CX [] H s₁ (fun _ _ _ => False) e s' → False) :
    codeAny (model P w) callerA (.call (.ref fa) ⟨[.ref a], []⟩) (fun r s' => r = .ok (.ret (.bool true)) ∧ OldK s₁.heap s'.heap ∧ s'.os = s₁.os ∧ AllBare s'.gens) s₁ := by
  have rv := vals_ints hi
  have lenV := hi.length
  have core : ∀ H : Hp, Only H → SqL K H a (ns.map V.int) → HOk P w H s₁.heap → (∀ b, H b ≠ none → b = a) → (H a ≠ none → K.lookup a = none) →
      codeAny (model P w) callerA (.call (.ref fa) ⟨[.ref a], []⟩) (fun r s' => r = .ok (.ret (.bool true)) ∧ OldK s₁.heap s'.heap ∧ s'.os = s₁.os ∧ AllBare s'.gens) s₁ := by
    intro H hO hS hok hA hK
    have base_of : ∀ {b : Addr} {o : Obj}, s₁.heap.get? b = some o → H b = none → (hidT s₁.heap H).get? b = some o := fun e n => hidT_get e n
    have noA : ∀ {b : Addr} {o : Obj} {es : Array DictEntry} {ep : Nat}, s₁.heap.get? b = some o → o.data = .dict es ep → H b = none := fun {b o es ep} e d => by
      cases q : H b with
      | none => rfl
      | some u =>
        have e' : b = a := hA b (by rw [q]; simp)
        subst e'
        rw [ha] at e; cases e
        have d' : Data.seq vs.toArray _ = Data.dict es ep := d
        cases d'
    have nsK : ∀ {b : Addr} {m : Str → Option Value}, s₁.heap.Ns b m → (hidT s₁.heap H).Ns b m := fun {b m} ⟨o, es, ep, e, d, r⟩ => ⟨o, es, ep, base_of e (noA e d), d, r⟩
    have hKb : K.In (hidT s₁.heap H) := fun b o e => base_of (KX b o e) (by
      cases q : H b with
      | none => rfl
      | some u =>
        have e' : b = a := hA b (by rw [q]; simp)
        subst e'
        rw [hK (by rw [q]; simp)] at e; cases e)
    have hM : Mod K mg (hidT s₁.heap H) := ⟨hKb, nsK hns, ⟨mb, nsK hb, hbb⟩, let ⟨mc, h1, h2⟩ := hlim; ⟨mc, nsK h1, h2⟩⟩
    have e0 : Env0 P w K mg (hidT s₁.heap H) callerA [] s₁ H := ⟨rfl, hM, fun b o e => of_hidT e, Nat.le_of_eq (hidT_size _ _), trivial, fun b hb => absurd (show b ∈ ([] : List Addr) from hb) (by simp), hok, .of_eq hg⟩
    refine codeAny_mono ((F _ hKb (nsK hns)).run callerA [] s₁ H ⟨[.ref a], []⟩ [.ref a] [.ref a] _ _ hr e0 (hbind s₁ (.ref a)) (.cons rfl .nil) (hsp H hO hS)) fun r s' h => ?_
    cases r with
    | error e => exact (hCX H e s' h).elim
    | ok fl =>
      cases fl with
      | next => exact False.elim h
      | brk => exact False.elim h
      | cont => exact False.elim h
      | ret u =>
        obtain ⟨v, H', os, bare, un, hok', r', q⟩ := h
        have q' : v = .bl true := q
        subst q'
        obtain rfl : u = Value.bool true := r'
        refine ⟨rfl, OldK.of_keep fun b o e => ?_, os, bare⟩
        cases q : H b with
        | none => exact un.keep b o e q (by intro z; exact absurd (show b ∈ ([] : List Addr) from z) (by simp)) (by simp)
        | some u =>
          rcases hO b with z | ⟨ob, xs, z⟩
          · rw [q] at z; cases z
          · have z2 := un.frzs b ob _ z
            obtain ⟨e1, _⟩ := hok b _ z
            obtain ⟨e2, _⟩ := hok' b _ z2
            rw [e] at e1; cases e1
            exact e2
  cases hk : K.lookup a with
  | some o =>
    have e := KX a o hk
    rw [ha] at e
    cases e
    refine core (fun _ => none) (fun _ => .inl rfl) (.inr ⟨_, vs.toArray, _, hk, rfl, rfl, rfl, by rw [List.size_toArray, lenV]; exact hl, by simpa using rv⟩) (fun b u z => by have z' : (none : Option HO) = some u := z; cases z') (fun b z => absurd rfl z) fun z => absurd rfl z
  | none =>
    refine core (fun b => if b = a then some (.frz { cls := .type "list", data := .seq vs.toArray } (.lst (ns.map V.int))) else none) (fun b => ?_) (.inl (.inr ⟨{ cls := .type "list", data := .seq vs.toArray }, if_pos rfl⟩)) (fun b u z => ?_) (fun b z => ?_) fun _ => hk
    · by_cases hb : b = a
      · exact .inr ⟨_, _, if_pos hb⟩
      · exact .inl (if_neg hb)
    · by_cases hb : b = a
      · have z' := (if_pos hb).symm.trans z
        cases z'
        subst hb
        exact ⟨ha, by rw [List.length_map]; exact hl, vs, _, rv, ha⟩
      · have z' := (if_neg hb).symm.trans z
        cases z'
    · by_cases hb : b = a
      · exact hb
      · exact absurd (if_neg hb) z
theorem walk_ofG {l : PySem.W.OpenLaw} {n k : Nat} {q : Program} {loose : List Str} {XP : (Str → Option Value) → Heap → Prop} {YP : World → Heap → Prop} {d : DefRec} {K : Params → PySem.W.Frag} {CX : World → CXT} {sp : World → Sp} {x : Str}
    (hn : l.most = some n) (hn2 : n ≤ sizeLine) (hdf : d.params.defaults = []) (hr : RoomG k callerA)
    (hY : ∀ (w : World) (h : Heap), YP w h → (K w.params).In h)
    (F : ∀ (w : World) (mg : Str → Option Value) (fa : Addr) (h : Heap), (K w.params).In h → h.Ns mainGlobals mg → mg d.name = some (.ref fa) →
      ∃ fd : FuncData, (∀ (s : Shared) (u : Value), BindsTo s fd ⟨[u], []⟩ [(x, u)]) ∧
        ∀ base : Heap, (K w.params).In base → base.Ns mainGlobals mg → FnG l.prog w (K w.params) mg base (CX w) k fa fd [x] (sp w))
    (hsp : ∀ (w : World) (H : Hp) (a : Addr) (ns : List Int), ns.length ≤ n → Only H → SqL (K w.params) H a (ns.map V.int) → sp w [.ref a] H (fun v _ => v = .bl true) fun _ _ _ => False)
    (hCX : ∀ (w : World) (H : Hp) (s : Shared) (e : Value) (s' : Shared), CX w [] H s (fun _ _ _ => False) e s' → False) :
    PySem.W.WalkO q loose XP YP l.row.toRowW d [] (fun f vs => PySem.call f vs) := by
  refine Att.attach_call hn hdf fun w s₀ s₁ mg mb fa o pm cd doc a vs ns G Y ho hd hcd hmg hobj hints hlen hg => ?_
  have KX := hY w _ Y
  obtain ⟨fd, hb, hF⟩ := F w mg fa _ KX G.T.g hmg
  exact law_callG KX G.T.g G.T.b G.T.builtins G.T.nolimit hg hobj hints (Nat.le_trans hlen hn2) hr hF hb (fun H hO hS => hsp w H a ns hlen hO hS) fun H e s' => hCX w H s₁ e s'
end L2

/-! An own exception class whose __init__ says super().__init__(text) and then stores its arguments: made. -/
namespace ExM
open PySem PySem.W PySem.Calls PyProof.Rows

/-- what stands around a body's globals -/
structure GlobAt (h : Heap) (mg : Str → Option Value) : Prop where
  g : h.Ns mainGlobals mg
  b : ∃ mb, h.Ns builtinsNs mb ∧ mb "super" = some (.type "super")
  s : mg "super" = none
  lim : h.NoLimit
theorem GlobAt.keeps {h h' : Heap} {mg : Str → Option Value} (x : GlobAt h mg) (k : ∀ b o, h.get? b = some o → h'.get? b = some o) : GlobAt h' mg :=
  ⟨x.g.keeps k, let ⟨mb, a, c⟩ := x.b; ⟨mb, a.keeps k, c⟩, x.s, x.lim.keeps k⟩

/-- what the library tells of a built-in __init__ that is the base's -/
structure InF (B i : String) : Prop where
  entry : entryFor table i = some Builtin.«BaseException.__init__»
  kind : builtinKind i = some .slot
  row : Manifest.signature? i = some ⟨.positional, "*", B, .self, [⟨"args", .varPos, false⟩]⟩
  noStar : (B != "*") = true
  plain : plainId i = true
  sup : KxsFacts B i
/-- what the written part says of the class at C and of its __init__ at f (its __class__ cell at cc) -/
structure Ini (K : Frag) (prog : Program) (C f cc : Addr) (qual : Str) (params : Arguments) (body : List Stmt) (scope : Scope) (bmB : List Value) (B newId initId : String) : Prop where
  cls : ∃ nm q N bs bm sn sub ab col dd k0 k1 k2 k3 k5, K.lookup C = some (excClassObj nm q C N bs bm true sn sub ab col dd k0 k1 k2 k3 k5 newId) ∧ excTail bmB bm = true
  new : ∃ Bn initN bmN, ExcBaseFacts Bn newId initN bmN ∧ bmB.contains (.type Bn) = true ∧ bmB.contains (.type "AttributeError") = false ∧ bmB.contains (.type "NameError") = false
  ini : InF B initId
  pass : ∀ self, refuseLoop self "__setattr__" bmB = pure ()
  obj : bmB.contains (.type "object") = true
  sa : findIn K (.ref C) "__setattr__" = some (some (.builtin "object.__setattr__"))
  iC : findIn K (.ref C) "__init__" = some (some (.ref f))
  tF : typeIn K (.ref f) = some (.type "function")
  kC : keepIn K (.ref C) = true
  exC : subIn K (.ref C) (.type "BaseException") = some true
  bC : subIn K (.ref C) (.type B) = some true
  tyC : typeIn K (.ref C) = some (.type "type")
  op : nsIn K cStatics "thirdparty.any" = some none
  al : ks_superIn K C C "__init__" = some (some (.builtin initId))
  fn : ∃ (oc : Value) (od : Option Addr) (kV doc pm : Value) (an : Option Addr) (cda : Addr) (ct : Value) (osl : Array (Option Value)),
    K.lookup f = some ⟨oc, od, .func (ksFn "__init__" qual params body scope .none kV doc pm an (.ref cda) ct cc), osl⟩ ∧ codeIn K (.ref cda) qual = true ∧
    ∃ ccl cdd vs ccs file tf, K.lookup cda = some ⟨ccl, cdd, .fields vs, ccs⟩ ∧ vs[2]? = some (.str file tf) ∧ ((prog.main.file : Str) == file) = true
  cell : ∃ cl cld csl, K.lookup cc = some ⟨cl, cld, .cell (some (.ref C)), csl⟩
  top : (prog.main.scope.names.lookup ("super" : Str)).isSome = false
  sS : scope.names.lookup ("super" : Str) = some .globalImplicit
  sC : scope.names.lookup ("__class__" : Str) = some .free
  sk : scope.kind = .function

section
variable {prog : Program} {w : World} {A : Around} {E : Value → Shared → Prop} {h : Heap} {g : Array GenState} {d : Drawn} {t : Nat} {os : OsState}
variable {K : Frag} {mg : Str → Option Value} {C f cc x L : Addr} {qual : Str} {params : Arguments} {body : List Stmt} {scope : Scope} {bmB : List Value} {B newId initId : String}

theorem Ini.cd (T : Ini K prog C f cc qual params body scope bmB B newId initId) : ∃ cd : ClassData, clsIn K C = some cd ∧ (∃ bm, cd.mro = .ref C :: bm ∧ excTail bmB bm = true) ∧ cd.hasDict = true := by
  obtain ⟨nm, q, N, bs, bm, sn, sub, ab, col, dd, k0, k1, k2, k3, k5, hC, hbm⟩ := T.cls
  exact ⟨{ name := nm, bases := bs, mro := .ref C :: bm, ns := N, qualname := q, hasDict := true, slotNames := sn, subclasses := sub, abstract := ab, collection := col, hasDel := false }, by unfold clsIn; rw [hC] <;> rfl, ⟨bm, rfl, hbm⟩, rfl⟩

/-- super() in the body, self at x, an exception of C without a dict -/
theorem super_made (T : Ini K prog C f cc qual params body scope bmB B newId initId) {cda : Addr} {oc : Value} {od : Option Addr} {kV doc pm ct : Value} {an : Option Addr} {osl : Array (Option Value)} {m : Str → Option Value} {ox : Obj}
    (hf : K.lookup f = some ⟨oc, od, .func (ksFn "__init__" qual params body scope .none kV doc pm an (.ref cda) ct cc), osl⟩)
    (hcda : ∃ ccl cdd vs ccs file tf, K.lookup cda = some ⟨ccl, cdd, .fields vs, ccs⟩ ∧ vs[2]? = some (.str file tf) ∧ ((prog.main.file : Str) == file) = true)
    {ar : Arg} (hp : (params.posonlyargs ++ params.args).head? = some ar) (hka : scope.names.lookup ar.arg = some .local) (X : K.In h) (G : GlobAt h mg) (hn : h.Ns L m) (hv : m ar.arg = some (.ref x)) (hx : h.get? x = some ox) (hc : ox.cls = .ref C) (hd : ∀ c, ox.data ≠ .cls c)
    {bd : List Stmt} {p0 p1 : Pos} {whole : Sem Value} {Q : Value → Shared → Prop}
    (hq : ∀ h', h'.get? h.objs.size = some (ks_superObj C x C) → (∀ b o, h.get? b = some o → h'.get? b = some o) → Q (.ref h.objs.size) ⟨h', g, d, t, os⟩) :
    _root_.PySem.wpAt (model prog w) A (.func bd (ksEnv qual scope L f (.ref cda) cc)) (attributeBase (.Call (.Name "super" p0) [] [] p1) "__init__" (ksEnv qual scope L f (.ref cda) cc) whole) Q E ⟨h, g, d, t, os⟩ := by
  obtain ⟨ccl, cdd, vs, ccs, file, tf, hcode, hvs, hfile⟩ := hcda
  obtain ⟨cl, cld, csl, hcell⟩ := T.cell
  obtain ⟨cd, hcd, ⟨bm, hm, hbm⟩, hh⟩ := T.cd
  obtain ⟨oD, hD1, hD2⟩ : ∃ oD, h.get? C = some oD ∧ oD.data = .cls cd := by
    unfold clsIn at hcd
    split at hcd
    · rename_i c0 d0 cd' sl ho
      cases hcd
      exact ⟨_, X _ _ ho, rfl⟩
    · cases hcd
  have hsub : Looks (model prog w) h (isSubtype (.ref C) (.ref C)) true := looks_mroIn X (by unfold mroIn; rw [hcd, Option.bind_some, hm]; simp)
  obtain ⟨mb, hb, hbs⟩ := G.b
  refine ks_wpAt_super_base (env := ksEnv qual scope L f (.ref cda) cc) T.sS T.sC (by decide) rfl (X _ _ hf) rfl hp rfl (X _ _ hcode) rfl hvs hfile T.top ?_
  refine ks_loadName_global T.sk T.sS (loadGlobal_builtin (env := ksEnv qual scope L f (.ref cda) cc) G.g G.s hb hbs ⟨rfl, ?_⟩)
  refine wpAny_loadName_free T.sk T.sC rfl ⟨_, X _ _ hcell, rfl⟩ ?_
  refine wpAny_loadName_local T.sk hka hn hv ?_
  refine ks_wpAny_isType_cls hD1 hD2 ⟨rfl, ?_⟩
  exact ks_wpAny_call_super hD1 hD2 hx hc hd hsub fun h' e k => hq h' e k

theorem check_bound {M : Model} {B i newId : String} (F : InF B i) {nm q : Str} {C N e : Addr} {oe : Obj} {bs bm : List Value} {hdct : Bool} {sn : List Str} {sub : List Value} {ab : Bool} {col : Option Bool} {dd : Option Addr} {k0 k1 k2 k3 k5 : Option Value} {rest : List Value} {Q : Unit → Shared → Prop}
    (hC : h.get? C = some (excClassObj nm q C N bs bm hdct sn sub ab col dd k0 k1 k2 k3 k5 newId)) (he : h.get? e = some oe) (hcls : oe.cls = .ref C) (hq : Q () ⟨h, g, d, t, os⟩) : wpAny M A (checkBoundCall i ⟨.ref e :: rest, []⟩) Q E ⟨h, g, d, t, os⟩ := by
  have hshort := F.noStar
  simp only [checkBoundCall, F.kind, F.row]
  repeat (first | (with_reducible refine wpAny_loadPart_at he ?_; rw [hcls]) | with_reducible refine wpAny_loadPart_at hC ?_ | wp_step)
  refine wpAny_onRaise ?_
  rw [show ∀ (a b : String) (n : Nat), Bind.check ⟨.positional, "*", B, .self, [⟨"args", .varPos, false⟩]⟩ a b n (List.map (fun x => x.fst) ({ pos := Value.ref e :: rest } : Args).kw) = pure () from
    fun a b n => check_star_args _ _ _ _ _ _]
  exact wpAny_pure hq
/-- the bound __init__ of the built-in base, called: the exception's args are laid anew -/
theorem bound_called (T : Ini K prog C f cc qual params body scope bmB B newId initId) {u t0 : Addr} {dv : Option Addr} {rest : List Value} {Q : Value → Shared → Prop} (X : K.In h)
    (hx : h.get? x = some (excObj C t0 dv .none)) (hu : h.get? u = some (kxs_mw initId x)) (hz : rest.length ≤ sizeLine)
    (hq : ∀ h' t1, (∀ b o, b ≠ x → h.get? b = some o → h'.get? b = some o) → h'.get? x = some (excObj C t1 dv .none) → Q .none ⟨h', g, d, t, os⟩) :
    wpAny (model prog w) A (call (.ref u) rest) Q E ⟨h, g, d, t, os⟩ := by
  obtain ⟨nm, q, N, bs, bm, sn, sub, ab, col, dd, k0, k1, k2, k3, k5, hC, hbm⟩ := T.cls
  have FB := T.ini
  refine wpAny_call (codeAny_of_tree ?_)
  show wpAny _ A.in1 (callAny (.ref u) ⟨rest, []⟩) _ _ _
  simp only [callAny]
  refine wpAny_bind (wpAny_load hu ?_)
  simp only [kxs_mw, show (Value.type "method-wrapper" == Value.type "method" || Value.type "method-wrapper" == Value.type "builtin_function_or_method" || Value.type "method-wrapper" == Value.type "method-wrapper") = true by decide, if_true]
  refine KFB.if_so (by decide) ?_
  refine wpAny_bind (check_bound FB (X _ _ hC) hx rfl ?_)
  refine wpAny_bind (wpAny_pure (wpAny_pure ?_))
  refine ⟨plainId_quiet FB.plain _, codeAny_builtin FB.entry ?_⟩
  exact exc_init_tree (cls := .ref C) (t0 := t0) (dv := dv) (c2 := .none) (c3 := .none) (b4 := .bool false) hx hz fun h' k e' _ => hq h' _ k e'

/-- the statement super().__init__(text) -/
theorem super_said (T : Ini K prog C f cc qual params body scope bmB B newId initId) {cda : Addr} {oc : Value} {od : Option Addr} {kV doc pm ct : Value} {an : Option Addr} {osl : Array (Option Value)} {m : Str → Option Value} {t0 : Addr}
    (hf : K.lookup f = some ⟨oc, od, .func (ksFn "__init__" qual params body scope .none kV doc pm an (.ref cda) ct cc), osl⟩)
    (hcda : ∃ ccl cdd vs ccs file tf, K.lookup cda = some ⟨ccl, cdd, .fields vs, ccs⟩ ∧ vs[2]? = some (.str file tf) ∧ ((prog.main.file : Str) == file) = true)
    {ar : Arg} (hp : (params.posonlyargs ++ params.args).head? = some ar) (hka : scope.names.lookup ar.arg = some .local) (X : K.In h) (G : GlobAt h mg) (hn : h.Ns L m) (hv : m ar.arg = some (.ref x)) (hx : h.get? x = some (excObj C t0 none .none)) (hxL : x ≠ L) (hxK : K.lookup x = none)
    {bd : List Stmt} {p0 p1 p2 p3 p4 p5 : Pos} {msg : Str} {j : Nat} {Q : Flow → Shared → Prop}
    (hq : ∀ h' tk t1, (∀ b o, b ≠ x → h.get? b = some o → h'.get? b = some o) → h'.get? x = some (excObj C t1 none .none) → Q .next ⟨h', g, d, tk, os⟩)
    (hi : interactive (ksEnv qual scope L f (.ref cda) cc) = false) {pl : Sem Bool}
    (hev : eval (.Call (.Attribute (.Call (.Name "super" p0) [] [] p1) "__init__" p2) [.Constant (.str msg) j p3] [] p4) (ksEnv qual scope L f (.ref cda) cc) = (do
      let ov ← attributeBase (.Call (.Name "super" p0) [] [] p1) "__init__" (ksEnv qual scope L f (.ref cda) cc) (eval (.Call (.Name "super" p0) [] [] p1) (ksEnv qual scope L f (.ref cda) cc))
      standAt p2.atName
      let (fx, first) ← holding [ov] (getMethod ov "__init__" pl)
      callWith p4 fx first (backTo p4 (starEach [.Constant (.str msg) j p3] (ksEnv qual scope L f (.ref cda) cc))) [])) :
    _root_.PySem.wpAt (model prog w) A (.func bd (ksEnv qual scope L f (.ref cda) cc))
      (exec (.Expr (.Call (.Attribute (.Call (.Name "super" p0) [] [] p1) "__init__" p2) [.Constant (.str msg) j p3] [] p4) p5) (ksEnv qual scope L f (.ref cda) cc)) Q E ⟨h, g, d, t, os⟩ := by
  refine ks_wpAt_Expr_any ?_ hi rfl
  refine ks_wpAt_MethodCall ?_ hev
  refine super_made T hf hcda hp hka X G hn hv hx rfl (fun c z => by cases z) fun h1 e1 k1 => ?_
  have X1 : K.In h1 := X.keeps k1
  have hx1 := k1 _ _ hx
  obtain ⟨cd, hcd, ⟨bm, hm, hbm⟩, hh⟩ := T.cd
  have I1 : InstAt h1 x (excObj C t0 none .none) C none := ⟨hx1, rfl, rfl, trivial⟩
  have hI : Looks (model prog w) h1 (isInstance (.ref x) (.type B)) true := I1.type.andThen (looks_subIn X1 T.bC)
  have hal : alongIn K "__init__" ((cd.mro.dropWhile (· != .ref C)).drop 1) = some (some (.builtin initId)) := by
    have z := T.al
    unfold ks_superIn at z
    rw [hcd] at z
    exact z
  refine kxs_getMethod T.ini.sup e1 (looks_opaque X1 T.op) (l₀ := cd.mro) (fun A Q E s k q => wpAny_bind ((looks_clsIn X1 hcd) A _ E s k (wpAny_pure q))) rfl X1 hal hI (ks_ne X1 I1 hcd) (by decide) ?_
  have k2 : ∀ b o, h1.get? b = some o → (h1.push (kxs_mw initId x)).get? b = some o := fun b o e => Heap.get?_push_of_some _ e
  have hu : (h1.push (kxs_mw initId x)).get? h1.objs.size = some (kxs_mw initId x) := Heap.get?_push_at rfl rfl
  refine kxs_callWith (i := initId) (x := x) rfl (evalArgs_plain ?_)
  show wpAny _ _ (spliced ((false, eval (.Constant (.str msg) j p3) _) :: backTo p4 (starEach [] _))) _ _ _
  refine Calls.spliced_cons (Calls.Constant_str ?_)
  refine Calls.spliced_nil ⟨hu, ?_⟩
  refine bound_called T (X1.keeps k2) (k2 _ _ hx1) hu (by rw [sizeLine_eq]; exact (by decide : 1 ≤ 16777216)) fun h3 t1 k3 e3 => ?_
  exact hq h3 _ t1 (fun b o hb e => k3 b o hb (k2 b o (k1 b o e))) e3

/-- what a new exception with one dict is: the class at C, its dict at dx -/
structure Own (h h' : Heap) (x C dx : Addr) (m : Str → Option Value) : Prop where
  keep : ∀ b o, b ≠ x → h.get? b = some o → h'.get? b = some o
  obj : ∃ t1, h'.get? x = some (excObj C t1 (some dx) .none)
  dbig : h.objs.size ≤ dx
  dne : dx ≠ x
  ns : h'.Ns1 dx m

section
open Builtin Builtin.ObjectAttr
/-- the built-in store at such an exception -/
theorem store_walk (T : Ini K prog C f cc qual params body scope bmB B newId initId) {name : Str} {tk : Tok} {v : Value} {ox : Obj} {od : Option Obj} {R : Result → Shared → Prop}
    (X : K.In h) (I : InstAt h x ox C od) (ha : findIn K (.ref C) name = some none)
    (hq : wpAny (model prog w) A.in1 (storeInOwnDict (.ref x) (.ref C) (.str name tk) name v false)
      (fun fin s' => match fin with | .done f => R (.ok f) s' | .again c' => c'.quiet = true ∧ codeAny (model prog w) A c' R s') (fun e s' => R (.error e) s') ⟨h, g, d, t, os⟩) :
    codeAny (model prog w) A (.call (.builtin "object.__setattr__") ⟨[.ref x, .str name tk, v], []⟩) R ⟨h, g, d, t, os⟩ := by
  obtain ⟨cd, hcd, ⟨bm, hm, hbm⟩, hh⟩ := T.cd
  have SF := F.store_object
  have hpass : refuseLoop (.ref x) "__setattr__" cd.mro = pure () := by
    rw [hm, refuseLoop_ref]
    exact excTail_pass _ (T.pass _) bm hbm
  have hob : cd.mro.contains (.type "object") = true := by
    rw [hm, List.contains_cons, excTail_contains "object" bm hbm]
    exact Bool.or_eq_true_iff.mpr (.inr (T.obj))
  have sub : Looks (model prog w) h (isInstance (.ref x) (.type "object")) true := I.type.andThen (looks_mroIn X (by unfold mroIn; rw [hcd, Option.bind_some, if_neg (by rw [hm]; exact Bool.false_ne_true), hob]))
  refine codeAny_call_builtin SF.slot.plain SF.entry (@check_slot (model prog w) _ _ ⟨h, g, d, t, os⟩ "object.__setattr__" "object" "__setattr__" (.ref x) [.str name tk, v] [] _ SF.kind SF.split sub (SF.args (.ref x) (.str name tk) v) ?_)
  have hmr : Looks (model prog w) h (mroOf (.ref C)) cd.mro := (looks_clsIn X hcd).andThen .now
  have L3 : Looks (model prog w) h (storeTaker? none) none := .now
  rw [osa_eq, refuse_eq]
  refine wpAny_bind (wpAny_bind (I.type.at (wpAny_bind (hmr.at ?_))))
  rw [hpass]
  exact wpAny_pure (wpAny_bind (I.type.at (wpAny_bind ((looks_findIn X ha).at (wpAny_bind (L3.at hq))))))
/-- self.name = v, the first one -/
theorem store_first (T : Ini K prog C f cc qual params body scope bmB B newId initId) {name : Str} {v : Value} {fv : Array Value} {Q : Unit → Shared → Prop}
    (X : K.In h) (hx : h.get? x = some { cls := .ref C, data := .fields fv }) (ha : findIn K (.ref C) name = some none)
    (hq : ∀ h' tk' dx, (∀ b o, b ≠ x → h.get? b = some o → h'.get? b = some o) → h.objs.size ≤ dx → dx ≠ x → h'.get? x = some { cls := .ref C, dict := some dx, data := .fields fv } →
      h'.Ns1 dx (fun y => if y = name then some v else none) → Q () ⟨h', g, d, tk', os⟩) :
    wpAny (model prog w) A (setAttr (.ref x) name v) Q E ⟨h, g, d, t, os⟩ := by
  obtain ⟨cd, hcd, ⟨bm, hm, hbm⟩, hh⟩ := T.cd
  have I : InstAt h x { cls := .ref C, data := .fields fv } C none := ⟨hx, rfl, rfl, trivial⟩
  have hxs : x ≠ h.objs.size := Nat.ne_of_lt (Heap.lt_size hx)
  have hcls : Looks (model prog w) h (classData C) cd := looks_clsIn X hcd
  refine set_plain X I T.sa (store_walk T X I ha ?_)
  obtain ⟨nm, bs, mro, ns, qn, hd, sn, sb, ab, col, del⟩ := cd
  dsimp only at hh
  subst hh
  unfold storeInOwnDict ownDictForStores
  repeat (first | with_reducible refine HandSPX.store_in_new ?_ ?_ | with_reducible refine wpAny_loadPart_at hx ?_ | with_reducible refine hcls.at ?_ | wp_step)
  · exact ⟨_, #[], _, (Heap.get?_update_ne _ _ _ _ hxs.symm).trans (Heap.get?_push_at rfl rfl), rfl, fun e he => absurd he (by simp), fun _ => rfl⟩
  · intro h' tk' hn' hs
    have hx₁ : (h.push { cls := .type "dict", data := .dict #[] }).get? x = some { cls := .ref C, data := .fields fv } := Heap.get?_push_of_some _ hx
    refine hq h' tk' h.objs.size (fun b o hb ho => ?_) (Nat.le_refl _) hxs.symm ?_ hn'
    · exact (hs.2 b (Nat.ne_of_lt (Heap.lt_size ho))).trans ((Heap.get?_update_ne _ _ _ _ hb).trans (Heap.get?_push_of_some _ ho))
    · exact (hs.2 x hxs).trans (Heap.get?_update_self _ hx₁ rfl)
/-- a further one -/
theorem store_more (T : Ini K prog C f cc qual params body scope bmB B newId initId) {dx : Addr} {name : Str} {v : Value} {fv : Array Value} {m0 : Str → Option Value} {nl : List Str} {Q : Unit → Shared → Prop}
    (X : K.In h) (hx : h.get? x = some { cls := .ref C, dict := some dx, data := .fields fv }) (hns : h.Ns1 dx m0) (hw : Within m0 nl) (hz : nl.length ≤ 1000) (ha : findIn K (.ref C) name = some none)
    (hq : ∀ h' tk', (∀ b o, b ≠ dx → h.get? b = some o → h'.get? b = some o) → h'.Ns1 dx (fun y => if y = name then some v else m0 y) → Q () ⟨h', g, d, tk', os⟩) :
    wpAny (model prog w) A (setAttr (.ref x) name v) Q E ⟨h, g, d, t, os⟩ := by
  obtain ⟨cd, hcd, ⟨bm, hm, hbm⟩, hh⟩ := T.cd
  obtain ⟨oD, esD, epD, hoD, hdD, _⟩ := hns.count hw
  have I : InstAt h x { cls := .ref C, dict := some dx, data := .fields fv } C (some oD) := ⟨hx, rfl, rfl, hoD⟩
  have hcls : Looks (model prog w) h (classData C) cd := looks_clsIn X hcd
  refine set_plain X I T.sa (store_walk T X I ha ?_)
  obtain ⟨nm, bs, mro, ns, qn, hd, sn, sb, ab, col, del⟩ := cd
  dsimp only at hh
  subst hh
  unfold storeInOwnDict ownDictForStores
  repeat (first | with_reducible refine OEX.store_in_old hns hw hz ?_ | with_reducible refine wpAny_loadPart_at hx ?_ | with_reducible refine hcls.at ?_ | wp_step)
  intro h' tk' hn' hs
  exact hq h' tk' (fun b o hb ho => (hs.2 b hb).trans ho) hn'
end

end
end ExM

/-! Own exceptions called with keywords; own exceptions over KeyError (whose __new__ is LookupError's). -/
namespace ExM
open PySem PySem.W PySem.Calls
section
variable {M : Model} {prog : Program} {w : World} {A : Around} {E : Value → Shared → Prop} {R : Result → Shared → Prop} {h : Heap} {g : Array GenState} {d : Drawn} {t : Nat} {os : OsState}
variable {nm q : Str} {C N : Addr} {bs bm bmN : List Value} {hdct : Bool} {sn : List Str} {sub : List Value} {ab : Bool} {col : Option Bool} {dd : Option Addr} {k0 k1 k2 k3 k5 : Option Value} {Bn newId initN : String}
/-- what the class's mro says of the built-in that makes its instances -/
structure NewM (C : Addr) (bm : List Value) (Bn : String) : Prop where
  hb : (Value.ref C :: bm).contains (.type Bn) = true
  ha : (Value.ref C :: bm).contains (.type "AttributeError") = false
  hn : (Value.ref C :: bm).contains (.type "NameError") = false
theorem check_newK (F : ExcBaseFacts Bn newId initN bmN) (m : NewM C bm Bn) {rest : List Value} {kw : List (Str × Value)} {Q : Unit → Shared → Prop}
    (hC : h.get? C = some (excClassObj nm q C N bs bm hdct sn sub ab col dd k0 k1 k2 k3 k5 newId)) (hq : Q () ⟨h, g, d, t, os⟩) : wpAny M A (checkBuiltinCall newId ⟨.ref C :: rest, kw⟩) Q E ⟨h, g, d, t, os⟩ := by
  have hcont := m.hb
  have hstar := F.noStar
  simp only [checkBuiltinCall, F.newKind, F.newSplit, F.newRow]
  repeat (first | refine wpAny_loadPart_at hC ?_ | (refine wpAny_isSubtype_exc hC ?_; rw [hcont]) | refine wpAny_staticBase_exc hC ?_ | refine wpAny_madeBy_exc hC ?_ | simp only [bne_self_eq_false, Bool.false_eq_true, if_false] | wp_step)
  exact hq
theorem newK (F : ExcBaseFacts Bn newId initN bmN) (m : NewM C bm Bn) {rest : List Value} {kw : List (Str × Value)}
    (hC : h.get? C = some (excClassObj nm q C N bs bm hdct sn sub ab col dd k0 k1 k2 k3 k5 newId))
    (hq : R (.ok (.ret (.ref (h.objs.size + 1)))) ⟨(h.push { cls := .type "tuple", data := .seq rest.toArray }).push
      { cls := .ref C, data := .fields #[.ref h.objs.size, .none, .none, .none, .bool false, .none] }, g, d, t, os⟩) (hrest : rest.length ≤ sizeLine) :
    codeAny (model prog w) A (.builtin newId ⟨.ref C :: rest, kw⟩) R ⟨h, g, d, t, os⟩ := by
  have hends := F.ends
  have hcB := m.hb
  have hcA := m.ha
  have hcN := m.hn
  refine codeAny_builtinAt F.entry ?_
  unfold Builtin.«BaseException.__new__»
  refine wpAt_bind ?_
  show wpAt _ _ _ (stack >>= _) _ _ _
  refine wpAt_bind (wpAt_stack fun p below => wpAt_of_wpAny ?_)
  wp_walk
  refine wpAt_of_wpAny ?_
  rw [F.owner]
  repeat (first | with_reducible refine wpAny_madeHere_exc F.canon hC ?_ | with_reducible refine wpAny_loadPart_at hC ?_ | (with_reducible refine wpAny_isSubtype_exc hC ?_; first | rw [hcB] | rw [hcA] | rw [hcN]) | wp_step)
  show R _ _
  rw [Heap.size_push]
  exact hq
theorem type_callK (F : ExcBaseFacts Bn newId initN bmN) (m : NewM C bm Bn) {rest : List Value} {kw : List (Str × Value)} {fI : Addr} {Q : Fin → Shared → Prop}
    (hC : h.get? C = some (excClassObj nm q C N bs bm hdct sn sub ab col dd k0 k1 k2 k3 k5 newId))
    (hi : W.Looks (model prog w) h (typeLookup (.ref C) "__init__") (some (.ref fI))) (hb : ∀ self, W.Looks (model prog w) h (bindSpecial (.ref fI) self) (.ref fI, [self])) (hrest : rest.length ≤ sizeLine)
    (hq : codeAny (model prog w) A (.call (.ref fI) ⟨.ref (h.objs.size + 1) :: rest, kw⟩)
      (fun r s' => match r with | .ok (.ret v) => v = .none ∧ Q (.done (.ret (.ref (h.objs.size + 1)))) s' | .ok _ => False | .error e => E e s')
      ⟨(h.push (W.kdv_tup rest)).push (HandSPX.excO C h.objs.size), g, d, t, os⟩) :
    wpAny (model prog w) A (Builtin.«type.__call__» ⟨.ref C :: rest, kw⟩) Q E ⟨h, g, d, t, os⟩ := by
  repeat (first | with_reducible refine wpAny_loadPart_at hC ?_ | with_reducible refine wpAny_madeBy_exc hC ?_ | wp_step)
  refine codeAny_call_builtin_code (Code.quiet_builtin _ F.quiet) (check_newK F m hC ?_)
  refine newK F m hC ?_ hrest
  show wpAny _ _ _ _ _ _
  have k : ∀ b o, h.get? b = some o → ((h.push (W.kdv_tup rest)).push (HandSPX.excO C h.objs.size)).get? b = some o := fun b o e => Heap.get?_push_of_some _ (Heap.get?_push_of_some _ e)
  have hC₁ := k _ _ hC
  have hget : ((h.push (W.kdv_tup rest)).push (HandSPX.excO C h.objs.size)).get? (h.objs.size + 1) = some (HandSPX.excO C h.objs.size) := by heap_get
  have hcC : (Value.ref C :: bm).contains (.ref C) = true := by simp
  have i1 := hi.keeps k
  have b1 := (hb (.ref (h.objs.size + 1))).keeps k
  unfold isInstance
  repeat (first | with_reducible refine wpAny_loadPart_at hget ?_ | (with_reducible refine wpAny_isSubtype_exc hC₁ ?_; rw [hcC]) | wp_step)
  show wpAny _ _ (typeLookup (.ref C) _) _ _ _
  refine i1.at ?_
  refine wpAny_holding (wpAny_bind (b1.at ?_))
  refine wpAny_bind (wpAny_call (codeAny_mono hq fun r s' z => ?_))
  rcases r with e | (v | _ | _ | _) <;> first | exact z | exact z.elim | skip
  obtain ⟨rfl, z⟩ := z
  first
    | exact wpAny_pure (wpAny_pure z)
    | (wp_walk; exact z)
theorem check_typeK {rest : List Value} {kw : List (Str × Value)} {Q : Unit → Shared → Prop} (hC : h.get? C = some (excClassObj nm q C N bs bm hdct sn sub ab col dd k0 k1 k2 k3 k5 newId))
    (hq : Q () ⟨h, g, d, t, os⟩) : wpAny M A (checkBuiltinCall "type.__call__" ⟨.ref C :: rest, kw⟩) Q E ⟨h, g, d, t, os⟩ := by
  have f3 := tc_sub
  have hT : (⟨h, g, d, t, os⟩ : Shared).TypeIs (.ref C) "type" := ⟨_, hC, rfl⟩
  simp only [checkBuiltinCall, tc_kind, tc_split]
  repeat (any_goals (first | assumption | with_reducible refine wpAny_loadPart_at hC ?_ | with_reducible refine wpAny_onRaise ?_ | with_reducible refine wpAny_map ?_ | wp_step))
theorem call_K (F : ExcBaseFacts Bn newId initN bmN) (m : NewM C bm Bn) {rest : List Value} {kw : List (Str × Value)} {fI : Addr}
    (hC : h.get? C = some (excClassObj nm q C N bs bm hdct sn sub ab col dd k0 k1 k2 k3 k5 newId))
    (hi : W.Looks (model prog w) h (typeLookup (.ref C) "__init__") (some (.ref fI))) (hb : ∀ self, W.Looks (model prog w) h (bindSpecial (.ref fI) self) (.ref fI, [self])) (hrest : rest.length ≤ sizeLine)
    (hq : codeAny (model prog w) (A.under (.builtin "type.__call__" ⟨.ref C :: rest, kw⟩)) (.call (.ref fI) ⟨.ref (h.objs.size + 1) :: rest, kw⟩) (W.InitBack (h.objs.size + 1) R)
      ⟨(h.push (W.kdv_tup rest)).push (HandSPX.excO C h.objs.size), g, d, t, os⟩) :
    codeAny (model prog w) A (.call (.ref C) ⟨rest, kw⟩) R ⟨h, g, d, t, os⟩ := by
  have f1 := tc_lookup
  have f2 := tc_bind (.ref C)
  have hTy : (⟨h, g, d, t, os⟩ : Shared).TypeIs (.ref C) "type" := ⟨_, hC, rfl⟩
  refine codeAny_of_tree ?_
  show wpAny _ _ (callAny (.ref C) _) _ _ _
  repeat (any_goals (first | assumption | with_reducible refine wpAny_loadPart_at hC ?_ | wp_step))
  refine ⟨rfl, ?_⟩
  refine codeAny_call_builtin_at (Code.quiet_builtin _ (by decide +kernel)) entry_typeCall (check_typeK hC (type_callK F m hC hi hb hrest ?_))
  refine codeAny_mono hq fun r s' z => ?_
  rcases r with e | (v | _ | _ | _) <;> exact z
end
end ExM

namespace ExM
open PySem PySem.W PySem.Calls PyProof.Rows
section
variable {prog : Program} {w : World} {A : Around} {E : Value → Shared → Prop} {s : Shared}
variable {K : Frag} {mg : Str → Option Value} {C f cc x L : Addr} {qual : Str} {scope : Scope} {bmB : List Value} {B newId initId : String}

abbrev supSt (msg : Str) (j : Nat) (p0 p1 p2 p3 p4 p5 : Pos) : Stmt := .Expr (.Call (.Attribute (.Call (.Name "super" p0) [] [] p1) "__init__" p2) [.Constant (.str msg) j p3] [] p4) p5
abbrev putSt (fld : Str) (q1 q2 q3 q4 : Pos) : Stmt := .Assign [.Attribute (.Name "self" q1) fld q2] (.Name fld q3) q4
/-- what is computed of the scope -/
structure Sc (scope : Scope) (params : Arguments) (flds : List Str) : Prop where
  self : scope.names.lookup ("self" : Str) = some .local
  fl : ∀ y ∈ flds, scope.names.lookup y = some .local
  nc : ∀ y ∈ scope.names, y.2 ≠ .cell
  co : scope.isCoroutine = false
  gen : scope.isGenerator = false
  hd : ∃ ar, (params.posonlyargs ++ params.args).head? = some ar ∧ ar.arg = "self"
  nd : ∀ y ∈ flds, y ≠ "self" ∧ (y == ("__debug__" : Str)) = false
/-- super().__init__ is evaluated so -/
def Ev (qual : Str) (scope : Scope) (f cc : Addr) (msg : Str) (j : Nat) (p0 p1 p2 p3 p4 : Pos) : Prop := ∀ (L : Addr) (cd : Value), interactive (ksEnv qual scope L f cd cc) = false ∧ ∃ pl : Sem Bool,
  eval (.Call (.Attribute (.Call (.Name "super" p0) [] [] p1) "__init__" p2) [.Constant (.str msg) j p3] [] p4) (ksEnv qual scope L f cd cc) = (do
      let ov ← attributeBase (.Call (.Name "super" p0) [] [] p1) "__init__" (ksEnv qual scope L f cd cc) (eval (.Call (.Name "super" p0) [] [] p1) (ksEnv qual scope L f cd cc))
      standAt p2.atName
      let (fx, first) ← holding [ov] (getMethod ov "__init__" pl)
      callWith p4 fx first (backTo p4 (starEach [.Constant (.str msg) j p3] (ksEnv qual scope L f cd cc))) [])

theorem ld_local {M : Model} {cd : Value} {m : Str → Option Value} {y : Str} {pos : Pos} {v : Value} {Q : Value → Shared → Prop} (hn : s.heap.Ns L m) (hv : m y = some v) (hk : scope.kind = .function) (hl : scope.names.lookup y = some .local) (hd : (y == ("__debug__" : Str)) = false) (h : Q v s) :
    wpAny M A (eval (.Name y pos) (ksEnv qual scope L f cd cc)) Q E s := wpAny_Name (wpAny_loadName_local hk hl hn hv h) hd

variable {params : Arguments} {msg fld : Str} {j : Nat} {p0 p1 p2 p3 p4 p5 q1 q2 q3 q4 : Pos}
/-- __init__ of one field, run on a fresh exception -/
theorem init_one (T : Ini K prog C f cc qual params [supSt msg j p0 p1 p2 p3 p4 p5, putSt fld q1 q2 q3 q4] scope bmB B newId initId) (S : Sc scope params [fld]) (V : Ev qual scope f cc msg j p0 p1 p2 p3 p4) (hno : findIn K (.ref C) fld = some none)
    {t0 : Addr} {v : Value} {args : Args} {R : Result → Shared → Prop} (X : K.In s.heap) (G : GlobAt s.heap mg) (hx : s.heap.get? x = some (excObj C t0 none .none)) (hxK : K.lookup x = none) (hroom : A.depth < recursionLimit)
    (hb : ∀ (kV doc pm : Value) (an : Option Addr) (cdv ct : Value), BindsTo s (ksFn "__init__" qual params [supSt msg j p0 p1 p2 p3 p4 p5, putSt fld q1 q2 q3 q4] scope .none kV doc pm an cdv ct cc) args [(("self" : Str), .ref x), (fld, v)])
    (hq : ∀ h' tk dx, Own s.heap h' x C dx (fun y => if y = fld then some v else none) → R (.ok (.ret .none)) { s with heap := h', toks := tk }) :
    codeAny (model prog w) A (.call (.ref f) args) R s := by
  obtain ⟨oc, od, kV, doc, pm, an, cda, ct, osl, ho, hcd, hcda⟩ := T.fn
  obtain ⟨ar, har, hself⟩ := S.hd
  have hfn := S.nd fld (by simp)
  obtain ⟨hp, g, d, t, os⟩ := s
  refine ks_codeAny_call_defAt (fd := ksFn "__init__" qual params [supSt msg j p0 p1 p2 p3 p4 p5, putSt fld q1 q2 q3 q4] scope .none kV doc pm an (.ref cda) ct cc) (body := [supSt msg j p0 p1 p2 p3 p4 p5, putSt fld q1 q2 q3 q4]) hroom (X _ _ ho) rfl G.lim (codeRec_of X hcd) rfl (hb _ _ _ _ _ _) S.nc
    (fun y hy => ?_) (fun h0 hns k0 => ?_) S.co S.gen T.sk
  · rcases List.mem_cons.mp hy with rfl | hy
    · exact S.self
    · rcases List.mem_cons.mp hy with rfl | hy
      · exact S.fl _ (by simp)
      · exact absurd hy (by simp)
  have X0 : K.In h0 := X.keeps k0
  have G0 := G.keeps k0
  have hx0 := k0 _ _ hx
  have hxL : x ≠ hp.objs.size := Nat.ne_of_lt (Heap.lt_size hx)
  have m1 : (fun y => ([(("self" : Str), Value.ref x), (fld, v)] : List (Str × Value)).reverse.lookup y) "self" = some (Value.ref x) := by
    have e : (("self" : Str) == fld) = false := by simpa using fun z => hfn.1 z.symm
    simp [List.lookup, e]
  have m2 : (fun y => ([(("self" : Str), Value.ref x), (fld, v)] : List (Str × Value)).reverse.lookup y) fld = some v := by simp [List.lookup]
  obtain ⟨hin, pl, hev⟩ := V hp.objs.size (.ref cda)
  refine ks_wpAt_execs_cons ?_
  refine super_said T (g := g) (d := d) (os := os) (t := t + [(("self" : Str), Value.ref x), (fld, v)].length) ho hcda har (by rw [hself]; exact S.self) X0 G0 hns (by rw [hself]; exact m1) hx0 hxL hxK (fun h1 tk1 t1 k1 e1 => ?_) hin hev
  refine _root_.PySem.wpAt_of_wpAny ?_
  have X1 : K.In h1 := fun b o e => k1 b o (fun z => by rw [z, hxK] at e; cases e) (X0 b o e)
  have hns1 : h1.Ns hp.objs.size (fun y => ([(("self" : Str), Value.ref x), (fld, v)] : List (Str × Value)).reverse.lookup y) := by
    obtain ⟨o, es, ep, a, b⟩ := hns
    exact ⟨o, es, ep, k1 _ _ (Ne.symm hxL) a, b⟩
  refine wpAny_execs_cons (plainObj_wpAny_Assign_Attribute ?_)
  refine ld_local hns1 m2 T.sk (S.fl _ (by simp)) hfn.2 (ld_local hns1 m1 T.sk S.self (by decide) ?_)
  refine store_first T X1 e1 hno fun h2 tk2 dx k2 dn dne e2 n2 => ?_
  refine wpAny_execs_nil ?_
  have hz : hp.objs.size ≤ h1.objs.size := by
    obtain ⟨o, es, ep, a, b⟩ := hns1
    exact Nat.le_of_lt (Heap.lt_size a)
  exact hq h2 tk2 dx ⟨fun b o hb e => k2 b o hb (k1 b o hb (k0 b o e)), ⟨t1, e2⟩, Nat.le_trans hz dn, dne, n2⟩

/-- __init__ without a field -/
theorem init_none (T : Ini K prog C f cc qual params [supSt msg j p0 p1 p2 p3 p4 p5] scope bmB B newId initId) (S : Sc scope params []) (V : Ev qual scope f cc msg j p0 p1 p2 p3 p4)
    {t0 : Addr} {args : Args} {R : Result → Shared → Prop} (X : K.In s.heap) (G : GlobAt s.heap mg) (hx : s.heap.get? x = some (excObj C t0 none .none)) (hxK : K.lookup x = none) (hroom : A.depth < recursionLimit)
    (hb : ∀ (kV doc pm : Value) (an : Option Addr) (cdv ct : Value), BindsTo s (ksFn "__init__" qual params [supSt msg j p0 p1 p2 p3 p4 p5] scope .none kV doc pm an cdv ct cc) args [(("self" : Str), .ref x)])
    (hq : ∀ h' tk t1, (∀ b o, b ≠ x → s.heap.get? b = some o → h'.get? b = some o) → h'.get? x = some (excObj C t1 none .none) → R (.ok (.ret .none)) { s with heap := h', toks := tk }) :
    codeAny (model prog w) A (.call (.ref f) args) R s := by
  obtain ⟨oc, od, kV, doc, pm, an, cda, ct, osl, ho, hcd, hcda⟩ := T.fn
  obtain ⟨ar, har, hself⟩ := S.hd
  obtain ⟨hp, g, d, t, os⟩ := s
  refine ks_codeAny_call_defAt (fd := ksFn "__init__" qual params [supSt msg j p0 p1 p2 p3 p4 p5] scope .none kV doc pm an (.ref cda) ct cc) (body := [supSt msg j p0 p1 p2 p3 p4 p5]) hroom (X _ _ ho) rfl G.lim (codeRec_of X hcd) rfl (hb _ _ _ _ _ _) S.nc
    (fun y hy => ?_) (fun h0 hns k0 => ?_) S.co S.gen T.sk
  · rcases List.mem_cons.mp hy with rfl | hy
    · exact S.self
    · exact absurd hy (by simp)
  have hx0 := k0 _ _ hx
  have hxL : x ≠ hp.objs.size := Nat.ne_of_lt (Heap.lt_size hx)
  have m1 : (fun y => ([(("self" : Str), Value.ref x)] : List (Str × Value)).reverse.lookup y) "self" = some (Value.ref x) := by simp [List.lookup]
  obtain ⟨hin, pl, hev⟩ := V hp.objs.size (.ref cda)
  refine ks_wpAt_execs_cons ?_
  refine super_said T (g := g) (d := d) (os := os) (t := t + [(("self" : Str), Value.ref x)].length) ho hcda har (by rw [hself]; exact S.self) (X.keeps k0) (G.keeps k0) hns (by rw [hself]; exact m1) hx0 hxL hxK (fun h1 tk1 t1 k1 e1 => ?_) hin hev
  refine _root_.PySem.wpAt_of_wpAny (wpAny_execs_nil ?_)
  exact hq h1 tk1 t1 (fun b o hb e => k1 b o hb (k0 b o e)) e1
variable {fld2 : Str} {r1 r2 r3 r4 : Pos}
/-- __init__ of two fields -/
theorem init_two (T : Ini K prog C f cc qual params [supSt msg j p0 p1 p2 p3 p4 p5, putSt fld q1 q2 q3 q4, putSt fld2 r1 r2 r3 r4] scope bmB B newId initId) (S : Sc scope params [fld, fld2]) (V : Ev qual scope f cc msg j p0 p1 p2 p3 p4) (hno : findIn K (.ref C) fld = some none)
    (hno2 : findIn K (.ref C) fld2 = some none) (hff : fld ≠ fld2)
    {t0 : Addr} {v v2 : Value} {args : Args} {R : Result → Shared → Prop} (X : K.In s.heap) (G : GlobAt s.heap mg) (hx : s.heap.get? x = some (excObj C t0 none .none)) (hxK : K.lookup x = none) (hroom : A.depth < recursionLimit)
    (hb : ∀ (kV doc pm : Value) (an : Option Addr) (cdv ct : Value), BindsTo s (ksFn "__init__" qual params [supSt msg j p0 p1 p2 p3 p4 p5, putSt fld q1 q2 q3 q4, putSt fld2 r1 r2 r3 r4] scope .none kV doc pm an cdv ct cc) args [(("self" : Str), .ref x), (fld, v), (fld2, v2)])
    (hq : ∀ h' tk dx, Own s.heap h' x C dx (fun y => if y = fld2 then some v2 else if y = fld then some v else none) → R (.ok (.ret .none)) { s with heap := h', toks := tk }) :
    codeAny (model prog w) A (.call (.ref f) args) R s := by
  obtain ⟨oc, od, kV, doc, pm, an, cda, ct, osl, ho, hcd, hcda⟩ := T.fn
  obtain ⟨ar, har, hself⟩ := S.hd
  have hf1 := S.nd fld (by simp)
  have hf2 := S.nd fld2 (by simp)
  obtain ⟨hp, g, d, t, os⟩ := s
  refine ks_codeAny_call_defAt (fd := ksFn "__init__" qual params [supSt msg j p0 p1 p2 p3 p4 p5, putSt fld q1 q2 q3 q4, putSt fld2 r1 r2 r3 r4] scope .none kV doc pm an (.ref cda) ct cc)
    (body := [supSt msg j p0 p1 p2 p3 p4 p5, putSt fld q1 q2 q3 q4, putSt fld2 r1 r2 r3 r4]) hroom (X _ _ ho) rfl G.lim (codeRec_of X hcd) rfl (hb _ _ _ _ _ _) S.nc
    (fun y hy => ?_) (fun h0 hns k0 => ?_) S.co S.gen T.sk
  · rcases List.mem_cons.mp hy with rfl | hy
    · exact S.self
    · rcases List.mem_cons.mp hy with rfl | hy
      · exact S.fl _ (by simp)
      · rcases List.mem_cons.mp hy with rfl | hy
        · exact S.fl _ (by simp)
        · exact absurd hy (by simp)
  have X0 : K.In h0 := X.keeps k0
  have hx0 := k0 _ _ hx
  have hxL : x ≠ hp.objs.size := Nat.ne_of_lt (Heap.lt_size hx)
  have e1' : (("self" : Str) == fld) = false := by simpa using fun z => hf1.1 z.symm
  have e2' : (("self" : Str) == fld2) = false := by simpa using fun z => hf2.1 z.symm
  have e3' : (fld == fld2) = false := by simpa using hff
  have m1 : (fun y => ([(("self" : Str), Value.ref x), (fld, v), (fld2, v2)] : List (Str × Value)).reverse.lookup y) "self" = some (Value.ref x) := by simp [List.lookup, e1', e2']
  have m2 : (fun y => ([(("self" : Str), Value.ref x), (fld, v), (fld2, v2)] : List (Str × Value)).reverse.lookup y) fld = some v := by simp [List.lookup, e3']
  have m3 : (fun y => ([(("self" : Str), Value.ref x), (fld, v), (fld2, v2)] : List (Str × Value)).reverse.lookup y) fld2 = some v2 := by simp [List.lookup]
  obtain ⟨hin, pl, hev⟩ := V hp.objs.size (.ref cda)
  refine ks_wpAt_execs_cons ?_
  refine super_said T (g := g) (d := d) (os := os) (t := t + [(("self" : Str), Value.ref x), (fld, v), (fld2, v2)].length) ho hcda har (by rw [hself]; exact S.self) X0 (G.keeps k0) hns (by rw [hself]; exact m1) hx0 hxL hxK (fun h1 tk1 t1 k1 e1 => ?_) hin hev
  refine _root_.PySem.wpAt_of_wpAny ?_
  have X1 : K.In h1 := fun b o e => k1 b o (fun z => by rw [z, hxK] at e; cases e) (X0 b o e)
  have hns1 : h1.Ns hp.objs.size (fun y => ([(("self" : Str), Value.ref x), (fld, v), (fld2, v2)] : List (Str × Value)).reverse.lookup y) := by
    obtain ⟨o, es, ep, a, b⟩ := hns
    exact ⟨o, es, ep, k1 _ _ (Ne.symm hxL) a, b⟩
  refine wpAny_execs_cons (plainObj_wpAny_Assign_Attribute ?_)
  refine ld_local hns1 m2 T.sk (S.fl _ (by simp)) hf1.2 (ld_local hns1 m1 T.sk S.self (by decide) ?_)
  refine store_first T X1 e1 hno fun h2 tk2 dx k2 dn dne e2 n2 => ?_
  have X2 : K.In h2 := fun b o e => k2 b o (fun z => by rw [z, hxK] at e; cases e) (X1 b o e)
  have hz : hp.objs.size < h1.objs.size := by
    obtain ⟨o, es, ep, a, b⟩ := hns1
    exact Heap.lt_size a
  have hns2 : h2.Ns hp.objs.size (fun y => ([(("self" : Str), Value.ref x), (fld, v), (fld2, v2)] : List (Str × Value)).reverse.lookup y) := by
    obtain ⟨o, es, ep, a, b⟩ := hns1
    exact ⟨o, es, ep, k2 _ _ (Ne.symm hxL) a, b⟩
  refine wpAny_execs_cons (plainObj_wpAny_Assign_Attribute ?_)
  refine ld_local hns2 m3 T.sk (S.fl _ (by simp)) hf2.2 (ld_local hns2 m1 T.sk S.self (by decide) ?_)
  have hw : Within (fun y => if y = fld then some v else none) [fld] := Within.cons fld v Within.nil
  refine store_more T X2 e2 n2 hw (show 1 ≤ 1000 by decide) hno2 fun h3 tk3 k3 n3 => ?_
  refine wpAny_execs_nil ?_
  have nd : ∀ {b : Addr} {o : Obj}, h1.get? b = some o → b ≠ dx := fun {b o} e => Nat.ne_of_lt (Nat.lt_of_lt_of_le (Heap.lt_size e) dn)
  exact hq h3 tk3 dx ⟨fun b o hb e => k3 b o (nd (k1 b o hb (k0 b o e))) (k2 b o hb (k1 b o hb (k0 b o e))), ⟨t1, k3 _ _ (Ne.symm dne) e2⟩, Nat.le_trans (Nat.le_of_lt hz) dn, dne, n3⟩

/-- a made exception: all that stood stands -/
structure Made (h h' : Heap) (e C : Addr) (d : Option Addr) (m : Str → Option Value) : Prop where
  keep : ∀ b o, h.get? b = some o → h'.get? b = some o
  new : h.objs.size ≤ e
  obj : ∃ t1, h'.get? e = some (excObj C t1 d .none)
  dict : ∀ dx, d = some dx → h.objs.size ≤ dx ∧ dx ≠ e ∧ h'.Ns1 dx m
theorem call_made {us : List Value} {kw : List (Str × Value)} {body : List Stmt} (T : Ini K prog C f cc qual params body scope bmB B newId initId) (X : K.In s.heap) (hz : us.length ≤ sizeLine) {R : Result → Shared → Prop} {dopt : Option Addr → Prop} {m : Str → Option Value}
    (hrun : ∀ (h0 : Heap), (∀ b o, s.heap.get? b = some o → h0.get? b = some o) → h0.objs.size = s.heap.objs.size + 2 → K.lookup (s.heap.objs.size + 1) = none → h0.get? (s.heap.objs.size + 1) = some (excObj C s.heap.objs.size none .none) →
      ∀ R' : Result → Shared → Prop, (∀ h' tk d, dopt d → (∀ b o, b ≠ s.heap.objs.size + 1 → h0.get? b = some o → h'.get? b = some o) → (∃ t1, h'.get? (s.heap.objs.size + 1) = some (excObj C t1 d .none)) →
          (∀ dx, d = some dx → h0.objs.size ≤ dx ∧ dx ≠ s.heap.objs.size + 1 ∧ h'.Ns1 dx m) → R' (.ok (.ret .none)) { s with heap := h', toks := tk }) →
        codeAny (model prog w) (A.under (.builtin "type.__call__" ⟨.ref C :: us, kw⟩)) (.call (.ref f) ⟨.ref (s.heap.objs.size + 1) :: us, kw⟩) R' { s with heap := h0 })
    (hq : ∀ h' tk e d, dopt d → Made s.heap h' e C d m → R (.ok (.ret (.ref e))) { s with heap := h', toks := tk }) :
    codeAny (model prog w) A (.call (.ref C) ⟨us, kw⟩) R s := by
  obtain ⟨nm, q, N, bs, bm, sn, sub, ab, col, dd, k0, k1, k2, k3, k5, hC, hbm⟩ := T.cls
  obtain ⟨Bn, initN, bmN, FB, c1, c2, c3⟩ := T.new
  have M : NewM C bm Bn := ⟨by rw [List.contains_cons, excTail_contains Bn bm hbm, c1, Bool.or_true], by rw [List.contains_cons, excTail_contains "AttributeError" bm hbm, c2]; rfl, by rw [List.contains_cons, excTail_contains "NameError" bm hbm, c3]; rfl⟩
  obtain ⟨hp, g, dr, tk, os⟩ := s
  have k : ∀ b o, hp.get? b = some o → ((hp.push (kdv_tup us)).push (HandSPX.excO C hp.objs.size)).get? b = some o := fun b o e => Heap.get?_push_of_some _ (Heap.get?_push_of_some _ e)
  have hget : ((hp.push (kdv_tup us)).push (HandSPX.excO C hp.objs.size)).get? (hp.objs.size + 1) = some (HandSPX.excO C hp.objs.size) := by heap_get
  have hnx : K.lookup (hp.objs.size + 1) = none := by
    cases e : K.lookup (hp.objs.size + 1) with
    | none => rfl
    | some o => exact absurd (Nat.lt_of_succ_lt (Heap.lt_size (X _ _ e))) (Nat.lt_irrefl _)
  have hsz : ((hp.push (kdv_tup us)).push (HandSPX.excO C hp.objs.size)).objs.size = hp.objs.size + 2 := by rw [Heap.size_push, Heap.size_push]
  refine call_K FB M (X _ _ hC) (looks_findIn X T.iC) (fun self => bind_fn X self T.tF) hz ?_
  refine hrun _ k hsz hnx hget _ fun h' tk' d hd k' hx' hdict => ?_
  refine ⟨rfl, hq h' tk' (hp.objs.size + 1) d hd ⟨fun b o e => k' b o (Nat.ne_of_lt (Nat.lt_succ_of_lt (Heap.lt_size e))) (k b o e), Nat.le_succ _, hx', fun dx e => ?_⟩⟩
  obtain ⟨a, b, c⟩ := hdict dx e
  rw [hsz] at a
  exact ⟨Nat.le_trans (Nat.le_add_right _ 2) a, b, c⟩
/-- how the arguments are given: by place, or by the fields' names -/
inductive ArgOk : List Str → Args → List Value → Prop
  | pos {flds : List Str} {us : List Value} (h : us.length = flds.length) : ArgOk flds ⟨us, []⟩ us
  | kw1 {f : Str} {v : Value} : ArgOk [f] ⟨[], [(f, v)]⟩ [v]
  | kw2 {f f2 : Str} {v v2 : Value} : ArgOk [f, f2] ⟨[], [(f2, v2), (f, v)]⟩ [v, v2]
theorem ArgOk.pz {flds : List Str} {a : Args} {us : List Value} (h : ArgOk flds a us) (hf : flds.length ≤ 2) : a.pos.length ≤ sizeLine := by
  rw [sizeLine_eq]
  cases h with
  | pos h => show us.length ≤ _; omega
  | kw1 => exact Nat.zero_le _
  | kw2 => exact Nat.zero_le _
theorem ArgOk.len {flds : List Str} {a : Args} {us : List Value} (h : ArgOk flds a us) : us.length = flds.length := by
  cases h with
  | pos h => exact h
  | kw1 => rfl
  | kw2 => rfl
theorem made_one (T : Ini K prog C f cc qual params [supSt msg j p0 p1 p2 p3 p4 p5, putSt fld q1 q2 q3 q4] scope bmB B newId initId) (S : Sc scope params [fld]) (V : Ev qual scope f cc msg j p0 p1 p2 p3 p4) (hno : findIn K (.ref C) fld = some none)
    {a : Args} {v : Value} {R : Result → Shared → Prop} (ha : ArgOk [fld] a [v]) (X : K.In s.heap) (G : GlobAt s.heap mg) (hroom : A.depth + 1 < recursionLimit)
    (hb : ∀ (s' : Shared) (x : Addr) (kV doc pm : Value) (an : Option Addr) (cdv ct : Value), BindsTo s' (ksFn "__init__" qual params [supSt msg j p0 p1 p2 p3 p4 p5, putSt fld q1 q2 q3 q4] scope .none kV doc pm an cdv ct cc) ⟨.ref x :: a.pos, a.kw⟩ [(("self" : Str), .ref x), (fld, v)])
    (hq : ∀ h' tk e d, Made s.heap h' e C (some d) (fun y => if y = fld then some v else none) → R (.ok (.ret (.ref e))) { s with heap := h', toks := tk }) :
    codeAny (model prog w) A (.call (.ref C) a) R s := by
  refine call_made (us := a.pos) (kw := a.kw) (dopt := fun d => ∃ dx, d = some dx) (m := fun y => if y = fld then some v else none) T X (ha.pz (show 1 ≤ 2 by decide)) (fun h0 k0 hsz hnx hx R' hR => ?_) (fun h' tk e d ⟨dx, hd⟩ M => by subst hd; exact hq h' tk e dx M)
  refine init_one T S V hno (s := { s with heap := h0 }) (X.keeps k0) (G.keeps k0) hx hnx ?_ (fun _ _ _ _ _ _ => hb _ _ _ _ _ _ _ _) fun h' tk dx O => ?_
  · show A.depth + 1 < recursionLimit
    exact hroom
  · exact hR h' tk (some dx) ⟨dx, rfl⟩ O.keep O.obj fun dy e => by cases e; exact ⟨O.dbig, O.dne, O.ns⟩
theorem made_two (T : Ini K prog C f cc qual params [supSt msg j p0 p1 p2 p3 p4 p5, putSt fld q1 q2 q3 q4, putSt fld2 r1 r2 r3 r4] scope bmB B newId initId) (S : Sc scope params [fld, fld2]) (V : Ev qual scope f cc msg j p0 p1 p2 p3 p4) (hno : findIn K (.ref C) fld = some none)
    (hno2 : findIn K (.ref C) fld2 = some none) (hff : fld ≠ fld2) {a : Args} {v v2 : Value} {R : Result → Shared → Prop} (ha : ArgOk [fld, fld2] a [v, v2]) (X : K.In s.heap) (G : GlobAt s.heap mg) (hroom : A.depth + 1 < recursionLimit)
    (hb : ∀ (s' : Shared) (x : Addr) (kV doc pm : Value) (an : Option Addr) (cdv ct : Value), BindsTo s' (ksFn "__init__" qual params [supSt msg j p0 p1 p2 p3 p4 p5, putSt fld q1 q2 q3 q4, putSt fld2 r1 r2 r3 r4] scope .none kV doc pm an cdv ct cc) ⟨.ref x :: a.pos, a.kw⟩ [(("self" : Str), .ref x), (fld, v), (fld2, v2)])
    (hq : ∀ h' tk e d, Made s.heap h' e C (some d) (fun y => if y = fld2 then some v2 else if y = fld then some v else none) → R (.ok (.ret (.ref e))) { s with heap := h', toks := tk }) :
    codeAny (model prog w) A (.call (.ref C) a) R s := by
  refine call_made (us := a.pos) (kw := a.kw) (dopt := fun d => ∃ dx, d = some dx) (m := fun y => if y = fld2 then some v2 else if y = fld then some v else none) T X (ha.pz (show 2 ≤ 2 by decide)) (fun h0 k0 hsz hnx hx R' hR => ?_) (fun h' tk e d ⟨dx, hd⟩ M => by subst hd; exact hq h' tk e dx M)
  refine init_two T S V hno hno2 hff (s := { s with heap := h0 }) (X.keeps k0) (G.keeps k0) hx hnx ?_ (fun _ _ _ _ _ _ => hb _ _ _ _ _ _ _ _) fun h' tk dx O => ?_
  · show A.depth + 1 < recursionLimit
    exact hroom
  · exact hR h' tk (some dx) ⟨dx, rfl⟩ O.keep O.obj fun dy e => by cases e; exact ⟨O.dbig, O.dne, O.ns⟩
theorem made_none (T : Ini K prog C f cc qual params [supSt msg j p0 p1 p2 p3 p4 p5] scope bmB B newId initId) (S : Sc scope params []) (V : Ev qual scope f cc msg j p0 p1 p2 p3 p4)
    {a : Args} {R : Result → Shared → Prop} (ha : ArgOk [] a []) (X : K.In s.heap) (G : GlobAt s.heap mg) (hroom : A.depth + 1 < recursionLimit)
    (hb : ∀ (s' : Shared) (x : Addr) (kV doc pm : Value) (an : Option Addr) (cdv ct : Value), BindsTo s' (ksFn "__init__" qual params [supSt msg j p0 p1 p2 p3 p4 p5] scope .none kV doc pm an cdv ct cc) ⟨.ref x :: a.pos, a.kw⟩ [(("self" : Str), .ref x)])
    (hq : ∀ h' tk e, Made s.heap h' e C none (fun _ => none) → R (.ok (.ret (.ref e))) { s with heap := h', toks := tk }) :
    codeAny (model prog w) A (.call (.ref C) a) R s := by
  refine call_made (us := a.pos) (kw := a.kw) (dopt := fun d => d = none) (m := fun _ => none) T X (ha.pz (by decide)) (fun h0 k0 hsz hnx hx R' hR => ?_) (fun h' tk e d hd M => by subst hd; exact hq h' tk e M)
  refine init_none T S V (s := { s with heap := h0 }) (X.keeps k0) (G.keeps k0) hx hnx ?_ (fun _ _ _ _ _ _ => hb _ _ _ _ _ _ _ _) fun h' tk t1 kk e1 => ?_
  · show A.depth + 1 < recursionLimit
    exact hroom
  · exact hR h' tk none rfl kk ⟨t1, e1⟩ fun dy e => by cases e
end
end ExM

/-! Own exceptions as values: made, raised, caught by a clause over a tuple of classes, kept, asked. -/
namespace L2
open PySem PySem.Spec PyProof.Rows ExM

/-- at e: an exception of the class cls, its own dict d -/
def exv (e : Addr) (cls : Value) (d : Option Addr) : HO := .ext fun h => ∃ (oe : Obj) (vs : Array Value), h.get? e = some oe ∧ Zc cls d oe ∧ oe.data = .fields vs
theorem exv_ok {P : Program} {w : World} {H : Hp} {h : Heap} {e : Addr} {cls : Value} {d : Option Addr} {oe : Obj} {vs : Array Value} (he : h.get? e = some oe) (hz : Zc cls d oe) (hd : oe.data = .fields vs) : ObjOk P w H h e (exv e cls d) :=
  ⟨⟨oe, vs, he, hz, hd⟩, ⟨oe, he⟩, fun _ _ ⟨o, v, q, r⟩ k => ⟨o, v, k o q, r⟩⟩
theorem exv_at {P : Program} {w : World} {H : Hp} {h : Heap} {e : Addr} {cls : Value} {d : Option Addr} (hok : HOk P w H h) (he : H e = some (exv e cls d)) : ∃ (oe : Obj) (vs : Array Value), h.get? e = some oe ∧ Zc cls d oe ∧ oe.data = .fields vs := by
  have x : ObjOk P w H h e (.ext fun h => ∃ (oe : Obj) (vs : Array Value), h.get? e = some oe ∧ Zc cls d oe ∧ oe.data = .fields vs) := hok e _ he
  exact x.1

/-- calling the class at C with as many values as fields makes an exception that holds them (the last field first) -/
structure Mks (prog : Program) (K : PySem.W.Frag) (mg : Str → Option Value) (C : Addr) (flds : List Str) : Prop where
  call : ∀ (w : World) (A : Around) (s : Shared) (a : Args) (us : List Value) (R : Result → Shared → Prop), ArgOk flds a us → K.In s.heap → GlobAt s.heap mg → A.depth + 1 < recursionLimit →
    (∀ h' tk e d m, Made s.heap h' e C d m → (flds = [] ↔ d = none) → (∀ f, m f = (flds.zip us).reverse.lookup f) → R (.ok (.ret (.ref e))) { s with heap := h', toks := tk }) → codeAny (model prog w) A (.call (.ref C) a) R s
  kC : PySem.W.keepIn K (.ref C) = true
  exC : PySem.W.subIn K (.ref C) (.type "BaseException") = some true
  tyC : PySem.W.typeIn K (.ref C) = some (.type "type")

abbrev PV : Str × V → Str × Value → Prop := fun p q => p.1 = q.1 ∧ RelV p.2 q.2
theorem relO_look : ∀ {ps : List (Str × V)} {qs : List (Str × Value)}, Paired PV ps qs → ∀ f, RelO (ps.lookup f) (qs.lookup f)
  | _, _, .nil, _ => True.intro
  | _, _, .cons (a := p) (b := q) r t, f => by
    obtain ⟨g, v⟩ := p
    obtain ⟨g', u⟩ := q
    obtain ⟨e, r⟩ := r
    dsimp only at e r
    subst e
    by_cases h : f = g
    · subst h
      simp only [List.lookup, beq_self_eq_true]
      exact r
    · have e : (f == g) = false := by simpa using h
      simpa [List.lookup, e] using relO_look t f
theorem pv_zip : ∀ {fs : List Str} {vs : List V} {us : List Value}, Vals vs us → Paired PV (fs.zip vs) (fs.zip us)
  | [], _, _, _ => by simpa using Paired.nil
  | _ :: _, _, _, .nil => by simpa using Paired.nil
  | _ :: _, _, _, .cons r t => .cons ⟨rfl, r⟩ (pv_zip t)
theorem paired_app {α β : Type} {F : α → β → Prop} : ∀ {a : List α} {b : List β} {c : List α} {d : List β}, Paired F a b → Paired F c d → Paired F (a ++ c) (b ++ d)
  | _, _, _, _, .nil, s => s
  | _, _, _, _, .cons r t, s => .cons r (paired_app t s)
theorem paired_rev {α β : Type} {F : α → β → Prop} : ∀ {a : List α} {b : List β}, Paired F a b → Paired F a.reverse b.reverse
  | _, _, .nil => .nil
  | _, _, .cons r t => by
    rw [List.reverse_cons, List.reverse_cons]
    exact paired_app (paired_rev t) (.cons r .nil)
theorem relO_rev {fs : List Str} {vs : List V} {us : List Value} (r : Vals vs us) (hl : vs.length = fs.length) (f : Str) : RelO ((fs.zip vs).reverse.lookup f) ((fs.zip us).reverse.lookup f) := relO_look (paired_rev (pv_zip r)) f

section
variable {X : Cx} {pins : List (Addr × Obj)} {σ : St} {H : Hp} {s : Shared}
theorem Inv.globAt (I : Inv X pins σ H s) (hs : X.mg "super" = none) : GlobAt s.heap X.mg := by
  obtain ⟨mb, h1, h2⟩ := I.mod.blt
  exact ⟨I.mod.glob.keeps I.bk, ⟨mb, h1.keeps I.bk, (h2 "super" (by decide)).trans (by decide +kernel)⟩, hs, I.nolimit⟩
end

section
variable {X : Cx} {C : Addr} {x : Str} {flds : List Str} {es : List Expr} {e : Expr} {ta : TA} {p pos : Pos} {k : Nat}
/-- C(e, ..) for a raise: its dict alone is told -/
def tMks (C : Addr) (flds : List Str) (ta : TA) : St → Hp → XK → Prop := fun σ H Q => ta σ H fun vs H1 => vs.length = flds.length ∧ ∀ d, H1 d = none → Q (.ref C) (some d) (upd H1 d (.xd (flds.zip vs).reverse))
theorem pmk_mks (T : Mks X.prog X.K X.mg C flds) (hs : X.mg "super" = none) (hr : Room k X.A) (hne : flds ≠ []) (ha : PA X (e :: es) ta) (hg : Gl X x) (hm : X.mg x = some (.ref C)) (hdb : (x == ("__debug__" : Str)) = false := by decide)
    (he : starEach (e :: es) X.env = (false, eval e X.env) :: starEach es X.env := by rfl) (hpl : (backTo pos (starEach es X.env)).any (·.1) = false := by rfl) :
    PMk X (.Call (.Name x p) (e :: es) [] pos) (tMks C flds ta) := by
  intro pins s σ H Q I h
  refine wpAny_Call_Name_kw (ld_glob I hg hm ?_ hdb)
  refine PySem.W.callWith_K (h₀ := X.base) I.ok.mod.kin T.kC (thn (ha.run pos pins s σ H _ I h) fun us s1 ⟨vs, H1, I1, r1, hl, q1⟩ => ⟨I1.kIn, ?_⟩) he hpl
  show wpAny _ _ (call (.ref C) us) _ _ _
  have hlu : us.length = flds.length := r1.length.symm.trans hl
  refine wpAny_call (T.call _ _ _ _ us _ (.pos hlu) I1.kIn (I1.globAt hs) (by have := hr.dp; omega) fun h' tk' e d m M hd hmm => ?_)
  show MkP X pins σ Q (.ref e) _
  obtain ⟨d, rfl⟩ : ∃ dd, d = some dd := by
    cases d with
    | none => exact absurd (hd.mpr rfl) hne
    | some dd => exact ⟨dd, rfl⟩
  obtain ⟨t1, hoe⟩ := M.obj
  obtain ⟨db, dne, hns⟩ := M.dict d rfl
  obtain ⟨hp, g, dr, tk, os⟩ := s1
  obtain ⟨G, g1, g2⟩ := restrict h' fun b => decide (b ≠ e)
  have gk : ∀ b, b ≠ e → G.get? b = h'.get? b := fun b hb => g1 b (decide_eq_true hb)
  have ge : G.get? e = none := g2 e (by simp)
  have old : ∀ b o, hp.get? b = some o → G.get? b = some o := fun b o q => (gk b (Nat.ne_of_lt (Nat.lt_of_lt_of_le (Heap.lt_size q) M.new))).trans (M.keep b o q)
  have ob : ObjOk X.prog X.w (upd H1 d (.xd (flds.zip vs).reverse)) G d (.xd (flds.zip vs).reverse) :=
    ⟨_, hns.at (fun o q => (gk d dne).trans q), fun f => by rw [hmm f]; exact relO_rev r1 hl f⟩
  have J : Inv X pins σ (upd H1 d (.xd (flds.zip vs).reverse)) ⟨G, g, dr, tk', os⟩ := I1.laid (t' := tk') old db ob
  refine ⟨e, _, _, ⟨G, g, dr, tk', os⟩, _, .ref C, some d, rfl, J, fun b o q => ?_, ge, hoe, ⟨rfl, rfl⟩, rfl, rfl, ?_, rfl, I1.bare, raises_own T.exC T.tyC, q1 d (I1.hok.fresh db)⟩
  · by_cases hb : b = e
    · rw [hb, ge] at q
      cases q
    · exact (gk b hb).symm.trans q
  · rw [upd_ne (Ne.symm dne)]
    exact I1.hok.fresh M.new
/-- C() for a raise -/
theorem pmk_mks0 (T : Mks X.prog X.K X.mg C []) (hs : X.mg "super" = none) (hr : Room k X.A) (hg : Gl X x) (hm : X.mg x = some (.ref C)) (hdb : (x == ("__debug__" : Str)) = false := by decide) :
    PMk X (.Call (.Name x p) [] [] pos) (fun σ H Q => Q (.ref C) none H) := by
  intro pins s σ H Q I h
  refine wpAny_Call_Name_kw (ld_glob I hg hm ?_ hdb)
  refine PySem.W.callWith_K0 I.kIn T.kC ?_
  refine wpAny_call (T.call _ _ _ _ [] _ (.pos rfl) I.kIn (I.globAt hs) (by have := hr.dp; omega) fun h' tk' e d m M hd hmm => ?_)
  show MkP X pins σ Q (.ref e) _
  obtain rfl : d = none := hd.mp rfl
  obtain ⟨t1, hoe⟩ := M.obj
  have na : H e = none := I.hok.fresh M.new
  have nn : s.heap.get? e = none := by
    cases q : s.heap.get? e with
    | none => rfl
    | some o => exact absurd (Nat.lt_of_lt_of_le (Heap.lt_size q) M.new) (Nat.lt_irrefl _)
  exact ⟨e, _, _, s, _, .ref C, none, rfl, I, M.keep, nn, hoe, ⟨rfl, rfl⟩, rfl, rfl, na, rfl, I.bare, raises_own T.exC T.tyC, h⟩
/-- C(e, ..) as a value: the exception is kept -/
def tMkv (C : Addr) (flds : List Str) (ta : TA) : TE := fun σ H Q => ta σ H fun vs H1 => vs.length = flds.length ∧ ∀ e d, H1 e = none → H1 d = none → d ≠ e → Q (.ref e) (upd (upd H1 d (.xd (flds.zip vs).reverse)) e (exv e (.ref C) (some d)))
theorem pe_mkv (T : Mks X.prog X.K X.mg C flds) (hs : X.mg "super" = none) (hr : Room k X.A) (hne : flds ≠ []) (ha : PA X (e :: es) ta) (hg : Gl X x) (hm : X.mg x = some (.ref C)) (hdb : (x == ("__debug__" : Str)) = false := by decide)
    (he : starEach (e :: es) X.env = (false, eval e X.env) :: starEach es X.env := by rfl) (hpl : (backTo pos (starEach es X.env)).any (·.1) = false := by rfl) :
    PE X (.Call (.Name x p) (e :: es) [] pos) (tMkv C flds ta) := by
  refine ⟨fun pins s σ H Q I h => ?_⟩
  refine wpAny_Call_Name_kw (ld_glob I hg hm ?_ hdb)
  refine PySem.W.callWith_K (h₀ := X.base) I.ok.mod.kin T.kC (thn (ha.run pos pins s σ H _ I h) fun us s1 ⟨vs, H1, I1, r1, hl, q1⟩ => ⟨I1.kIn, ?_⟩) he hpl
  show wpAny _ _ (call (.ref C) us) _ _ _
  have hlu : us.length = flds.length := r1.length.symm.trans hl
  refine wpAny_call (T.call _ _ _ _ us _ (.pos hlu) I1.kIn (I1.globAt hs) (by have := hr.dp; omega) fun h' tk' e d m M hd hmm => ?_)
  obtain ⟨d, rfl⟩ : ∃ dd, d = some dd := by
    cases d with
    | none => exact absurd (hd.mpr rfl) hne
    | some dd => exact ⟨dd, rfl⟩
  obtain ⟨t1, hoe⟩ := M.obj
  obtain ⟨db, dne, hns⟩ := M.dict d rfl
  obtain ⟨hp, g, dr, tk, os⟩ := s1
  obtain ⟨G, g1, g2⟩ := restrict h' fun b => decide (b ≠ e)
  have gk : ∀ b, b ≠ e → G.get? b = h'.get? b := fun b hb => g1 b (decide_eq_true hb)
  have ge : G.get? e = none := g2 e (by simp)
  have gs : ∀ b o, G.get? b = some o → h'.get? b = some o := fun b o q => by
    by_cases hb : b = e
    · rw [hb, ge] at q
      cases q
    · exact (gk b hb).symm.trans q
  have old : ∀ b o, hp.get? b = some o → G.get? b = some o := fun b o q => (gk b (Nat.ne_of_lt (Nat.lt_of_lt_of_le (Heap.lt_size q) M.new))).trans (M.keep b o q)
  have ob : ObjOk X.prog X.w (upd H1 d (.xd (flds.zip vs).reverse)) G d (.xd (flds.zip vs).reverse) :=
    ⟨_, hns.at (fun o q => (gk d dne).trans q), fun f => by rw [hmm f]; exact relO_rev r1 hl f⟩
  have J : Inv X pins σ (upd H1 d (.xd (flds.zip vs).reverse)) ⟨G, g, dr, tk', os⟩ := I1.laid (t' := tk') old db ob
  have ne1 : H1 e = none := I1.hok.fresh M.new
  have ne2 : (upd H1 d (.xd (flds.zip vs).reverse)) e = none := by
    rw [upd_ne (Ne.symm dne)]
    exact ne1
  exact ⟨.ref e, _, J.laidN (t' := tk') gs ge ne2 (exv_ok hoe ⟨rfl, rfl⟩ rfl), rfl, q1 e d ne1 (I1.hok.fresh db) dne⟩
theorem pe_mkv0 (T : Mks X.prog X.K X.mg C []) (hs : X.mg "super" = none) (hr : Room k X.A) (hg : Gl X x) (hm : X.mg x = some (.ref C)) (hdb : (x == ("__debug__" : Str)) = false := by decide) :
    PE X (.Call (.Name x p) [] [] pos) (fun σ H Q => ∀ e, H e = none → Q (.ref e) (upd H e (exv e (.ref C) none))) := by
  refine ⟨fun pins s σ H Q I h => ?_⟩
  refine wpAny_Call_Name_kw (ld_glob I hg hm ?_ hdb)
  refine PySem.W.callWith_K0 I.kIn T.kC ?_
  refine wpAny_call (T.call _ _ _ _ [] _ (.pos rfl) I.kIn (I.globAt hs) (by have := hr.dp; omega) fun h' tk' e d m M hd hmm => ?_)
  obtain rfl : d = none := hd.mp rfl
  obtain ⟨t1, hoe⟩ := M.obj
  have na : H e = none := I.hok.fresh M.new
  exact ⟨.ref e, _, I.laid (t' := tk') M.keep M.new (exv_ok hoe ⟨rfl, rfl⟩ rfl), rfl, h e na⟩
/-- C(f = e) -/
def tMkvK (C : Addr) (flds : List Str) (g : List V → List V) (ta : TA) : TE := fun σ H Q => ta σ H fun vs H1 => vs.length = flds.length ∧ ∀ e d, H1 e = none → H1 d = none → d ≠ e → Q (.ref e) (upd (upd H1 d (.xd (flds.zip (g vs)).reverse)) e (exv e (.ref C) (some d)))
theorem mkv_end {pins : List (Addr × Obj)} {σ : St} {H1 : Hp} {Q : VK} {s1 : Shared} {a : Args} {us : List Value} {vs : List V} (T : Mks X.prog X.K X.mg C flds) (hs : X.mg "super" = none) (hr : Room k X.A) (hne : flds ≠ []) (I1 : Inv X pins σ H1 s1) (r1 : Vals vs us) (ha : ArgOk flds a us)
    (q1 : ∀ e d, H1 e = none → H1 d = none → d ≠ e → Q (.ref e) (upd (upd H1 d (.xd (flds.zip vs).reverse)) e (exv e (.ref C) (some d)))) :
    wpAny (model X.prog X.w) X.A (call (.ref C) a.pos a.kw) (EP X pins σ Q) X.xe s1 := by
  have hl : vs.length = flds.length := r1.length.trans ha.len
  refine wpAny_call (T.call _ _ _ _ us _ ha I1.kIn (I1.globAt hs) (by have := hr.dp; omega) fun h' tk' e d m M hd hmm => ?_)
  obtain ⟨d, rfl⟩ : ∃ dd, d = some dd := by
    cases d with
    | none => exact absurd (hd.mpr rfl) hne
    | some dd => exact ⟨dd, rfl⟩
  obtain ⟨t1, hoe⟩ := M.obj
  obtain ⟨db, dne, hns⟩ := M.dict d rfl
  obtain ⟨hp, g, dr, tk, os⟩ := s1
  obtain ⟨G, g1, g2⟩ := restrict h' fun b => decide (b ≠ e)
  have gk : ∀ b, b ≠ e → G.get? b = h'.get? b := fun b hb => g1 b (decide_eq_true hb)
  have ge : G.get? e = none := g2 e (by simp)
  have gs : ∀ b o, G.get? b = some o → h'.get? b = some o := fun b o q => by
    by_cases hb : b = e
    · rw [hb, ge] at q
      cases q
    · exact (gk b hb).symm.trans q
  have old : ∀ b o, hp.get? b = some o → G.get? b = some o := fun b o q => (gk b (Nat.ne_of_lt (Nat.lt_of_lt_of_le (Heap.lt_size q) M.new))).trans (M.keep b o q)
  have ob : ObjOk X.prog X.w (upd H1 d (.xd (flds.zip vs).reverse)) G d (.xd (flds.zip vs).reverse) :=
    ⟨_, hns.at (fun o q => (gk d dne).trans q), fun f => by rw [hmm f]; exact relO_rev r1 hl f⟩
  have J : Inv X pins σ (upd H1 d (.xd (flds.zip vs).reverse)) ⟨G, g, dr, tk', os⟩ := I1.laid (t' := tk') old db ob
  have ne1 : H1 e = none := I1.hok.fresh M.new
  have ne2 : (upd H1 d (.xd (flds.zip vs).reverse)) e = none := by
    rw [upd_ne (Ne.symm dne)]
    exact ne1
  exact ⟨.ref e, _, J.laidN (t' := tk') gs ge ne2 (exv_ok hoe ⟨rfl, rfl⟩ rfl), rfl, q1 e d ne1 (I1.hok.fresh db) dne⟩
end
end L2

namespace L2
open PySem PySem.Spec PyProof.Rows ExM
section
variable {X : Cx} {pins : List (Addr × Obj)} {σ : St} {H : Hp} {s : Shared}
/-- a pinned object that was not there at the entry is tracked from now on -/
theorem Inv.track {a : Addr} {oe : Obj} {o : HO} (I : Inv X ((a, oe) :: pins) σ H s) (n0 : X.s_0.heap.get? a = none) (hp : ∀ p ∈ X.pn ++ pins, p.1 ≠ a) (hk : ∀ v, oe.data ≠ .cell v) (new : ObjOk X.prog X.w (upd H a o) s.heap a o) : Inv X pins σ (upd H a o) s := by
  obtain ⟨ea, na, nL, nF, _⟩ := I.pin (a, oe) (List.mem_append_right _ List.mem_cons_self)
  dsimp only at ea na nL nF
  have sub : ∀ p ∈ X.pn ++ pins, p ∈ X.pn ++ (a, oe) :: pins := fun p hp => (List.mem_append.mp hp).elim (List.mem_append_left _) fun z => List.mem_append_right _ (List.mem_cons_of_mem _ z)
  have old : ∀ b u, X.s_0.heap.get? b = some u → b ≠ a := fun b u e z => by
    rw [z, n0] at e
    cases e
  refine ⟨I.ok, I.os, I.bare, ⟨I.base.keep, I.base.slot, fun b u e n hx => ?_, I.base.there, fun b xs e => ?_, fun b u v e => ?_, fun b ps e => ?_⟩, I.loc, I.cell, ?_, fun x c e => ?_, fun p h => ?_, fun b u e => ?_, I.len⟩
  · rw [upd_ne (old b u e)]
    exact I.base.free b u e n hx
  · have q := I.base.tups b xs e
    rw [upd_ne (ne_of_none q na)]
    exact q
  · have q := I.base.frzs b u v e
    rw [upd_ne (ne_of_none q na)]
    exact q
  · obtain ⟨m, q⟩ := I.base.tbls b ps e
    exact ⟨m, by rw [upd_ne (ne_of_none q na)]; exact q⟩
  · rw [upd_ne (Ne.symm nL)]
    exact I.free
  · have hc : c ≠ a := fun z => by
      obtain ⟨v, oc, hoc, hd⟩ := I.cell x c e
      rw [z, ea] at hoc
      cases hoc
      exact hk v hd
    rw [upd_ne hc]
    exact I.freeC x c e
  · obtain ⟨e, n, ne, nf, d⟩ := I.pin p (sub p h)
    exact ⟨e, by rw [upd_ne (hp p h)]; exact n, ne, nf, d⟩
  · by_cases hb : b = a
    · subst hb
      rw [upd_same] at e
      cases e
      exact new
    · rw [upd_ne hb] at e
      exact (I.hok b u e).stay (fun _ _ _ q => q) (fun c q => by rw [upd_ne (ne_of_none q na)]; exact q) fun c xs q => by rw [upd_ne (ne_of_none q na)]; exact q
end

/-- what the clause 'except (c1, .., c4) as n' wishes: behind the suite the exception is an object that is kept -/
def wAsT (K : PySem.W.Frag) (cs : List Value) (i : Nat) (ts : Addr → Value → Option Addr → TS) (Wout : WX) (D : Ends) : WX := fun cls d σ H =>
  ∃ b, PySem.W.exmAny K cls cs = some b ∧ (b = true → ∀ a, H a = none → ts a cls d { nx := fun σ' H' => D.nx (σ'.set i none) (upd H' a (exv a cls d)), rt := fun _ _ => False } (σ.set i (some (.ref a))) H) ∧
    (b = false → Wout cls d σ H)
/-- a global class, as an expression of a clause -/
inductive NamesT (X : Cx) : List Expr → List Value → Prop
  | nil : NamesT X [] []
  | cons {x : Str} {c : Addr} {np : Pos} {es : List Expr} {cs : List Value} (hg : Gl X x) (hm : X.mg x = some (.ref c)) (hd : (x == ("__debug__" : Str)) = false) (r : NamesT X es cs) : NamesT X (.Name x np :: es) (.ref c :: cs)
theorem NamesT.run {X : Cx} {pins : List (Addr × Obj)} {σ : St} {H : Hp} {s : Shared} {A : Around} {E : Value → Shared → Prop} {pos : Pos} (hk : X.env.scope.kind = .function) (hgl : s.heap.Ns X.env.globals X.mg) : ∀ {es : List Expr} {cs : List Value}, NamesT X es cs → ∀ {Q : List Value → Shared → Prop}, Q cs s →
    wpAny (model X.prog X.w) A (spliced (backTo pos (starEach es X.env))) Q E s
  | _, _, .nil, _, q => Calls.spliced_nil q
  | _, _, .cons (x := x) (c := c) (np := np) (es := es) hg hm hd r, Q, q => by
    rw [show starEach (.Name x np :: es) X.env = (false, eval (.Name x np) X.env) :: starEach es X.env from rfl]
    show wpAny _ _ (spliced ((false, eval (.Name x np) X.env) :: backTo pos (starEach es X.env))) _ _ s
    refine Calls.spliced_cons (Calls.Name_function_global hk hg (Calls.loadGlobal_global hgl hm ?_) hd)
    exact NamesT.run (pins := pins) (σ := σ) (H := H) hk hgl r q
section
variable {X : Cx} {n : Str} {i kx : Nat} {body suite : List Stmt} {b₀ : Stmt} {tpos pos pos' : Pos} {es : List Expr} {c1 c2 c3 c4 : Value} {tb : WX → TS} {ts : Addr → Value → Option Addr → TS} {Wout : WX}
theorem ps_try_asT (hs : X.stack = X.env :: X.outer) (hf : X.env.frame = some X.env.locals) (hN : X.N.Nodup) (hi : X.N[i]? = some n) (hln : X.env.kindOf n = some .local) (hc : NamesT X es [c1, c2, c3, c4]) (hex : X.ex = []) (tk : Takes X Wout)
    (hb : ∀ (W : WX) (pn : List (Addr × Obj)) (xe : Value → Shared → Prop), Takes (X.tr pn xe) W → PassesOwn (model X.prog X.w) X.A X.env xe → PSs (X.tr pn xe) body (tb W))
    (hsu : ∀ (a : Addr) (oe : Obj) (cls : Value) (d : Option Addr) (pn : List (Addr × Obj)), Zc cls d oe → (∃ vs, oe.data = .fields vs) → PSs (X.suite a ((a, oe) :: pn)) (b₀ :: suite) (ts a cls d)) :
    PS X (.Try body [.ExceptHandler (some (.Tuple es kx tpos)) (some n) (b₀ :: suite) pos'] [] [] pos) (fun D σ H => tb (wAsT X.K [c1, c2, c3, c4] i ts Wout D) D σ H) := by
  refine ⟨fun pins s σ H D I h => ?_⟩
  have ok := I.ok
  have hfr : X.A.frames = some (X.env :: X.outer) := by rw [ok.frames, hs]
  refine wpAny_Try_except (wpAny_mono ((hb (wAsT X.K [c1, c2, c3, c4] i ts Wout D) (X.pn ++ pins) (fun e s₁ => wpAny (model X.prog X.w) X.A (noteFrame e X.env) (fun _ s₂ => wpAny (model X.prog X.w) X.A (setFlight e none) (fun _ s₃ =>
    wpAny (model X.prog X.w) X.A (handleBy e X.env [.ExceptHandler (some (.Tuple es kx tpos)) (some n) (b₀ :: suite) pos']) (SP X pins D) X.xe s₃) X.xe s₂) X.xe s₁) (fun u s' xx => ?_) PassesOwn.looking).run [] s σ H D (I.toTry _) h) (fun f s1 hsp => ?_) (fun e s1 he => he))
  · obtain ⟨a, B, sI, pins', σ', H', cls, d, rfl, J', nb, up, sky, na, os, ag, b, hb1, hyes, hno⟩ := xx
    have J : Inv X pins σ' H' sI := J'.ofTry ok
    have sky' : Sky B (X.env :: X.outer) a (Zc cls d) X.env.locals s'.heap := by rw [← hs]; exact sky
    show wpAny (model X.prog X.w) X.A (noteFrame (.ref a) X.env) _ _ _
    refine Sky.land Zc.steady hfr hf sky' fun h3 fl3 up3 => ?_
    have J3 : Inv X pins σ' H' { s' with heap := h3 } := J.landed nb fl3.1 (up.trans up3) os ag
    obtain ⟨oe3, vs3, he3, hz3, hd3⟩ := fl3.there
    have nfr : a ∉ frs (X.env :: X.outer) := fun hm => by
      obtain ⟨_, o', e', hnf⟩ := fl3.2.2.1.mem hm
      rw [he3] at e'
      cases e'
      exact hnf _ hd3
    have nL : a ≠ X.env.locals := fun z => nfr (List.mem_filterMap.mpr ⟨X.env, List.mem_cons_self, by rw [hf, z]⟩)
    have nF : a ∉ X.fs := fun hm => by
      obtain ⟨e, he, q⟩ := List.mem_filterMap.mp hm
      exact nfr (List.mem_filterMap.mpr ⟨e, List.mem_cons_of_mem _ he, q⟩)
    have aB : B.get? a = none := fl3.2.1
    have aI : sI.heap.get? a = none := by
      cases q : sI.heap.get? a with
      | none => rfl
      | some o =>
        have z := nb a o q (by rw [hs]; exact nfr)
        rw [aB] at z
        cases z
    have a0 : X.s_0.heap.get? a = none := by
      cases q : X.s_0.heap.get? a with
      | none => rfl
      | some o =>
        obtain ⟨o', z⟩ := J.base.there a o q (by rw [hex]; exact fun z => nomatch z)
        rw [aI] at z
        cases z
    have apn : ∀ p ∈ X.pn ++ pins, p.1 ≠ a := fun p hp z => by
      obtain ⟨e, _⟩ := J.pin p hp
      rw [z, aI] at e
      cases e
    refine wpAny_handleBy_cons (codeAny_handlers_test ?_) (by intro q; cases q)
    have LT : ∀ {g : Heap}, g.get? a = some oe3 → PySem.W.Looks (model X.prog X.w) g (typeOf (.ref a)) cls := fun {g} e A Q E s k q => wpAny_typeOf_ref (k _ _ e) (by rw [hz3.1]; exact q)
    refine wpAny_Tuple_spliced (NamesT.run (pins := pins) (σ := σ') (H := H') ok.kind (by rw [ok.glob]; exact J3.mod.glob.keeps J3.bk) hc ⟨by rw [sizeLine_eq]; exact (by decide : 4 ≤ 16777216), ?_⟩)
    have kT : ∀ b o, h3.get? b = some o → (h3.push { cls := .type "tuple", data := .seq [c1, c2, c3, c4].toArray }).get? b = some o := fun b o e => Heap.get?_push_of_some _ e
    have LM := PySem.W.exm_tup4 (M := model X.prog X.w) (J3.kIn.keeps kT) (LT (kT _ _ he3)) (Heap.get?_push_size h3 rfl) hb1
    refine LM.here ?_
    have fl3' : HandSPX.FlyingZ B (X.env :: X.outer) a (Zc cls d) (h3.push { cls := .type "tuple", data := .seq [c1, c2, c3, c4].toArray }) := by
      obtain ⟨f1, f2, f3, oe, vs, T, oT, tts, e1, e2, e3, e4, e5, e6, e7, e8, e9⟩ := fl3
      exact ⟨fun b o e => kT b o (f1 b o e), f2, f3.of_keeps fun b o e _ => ⟨o, kT b o e, rfl⟩, oe, vs, T, oT, tts, kT _ _ e1, e2, e3, e4, e5, e6, kT _ _ e7, e8, e9⟩
    have upT : h3.UpToSlots (h3.push { cls := .type "tuple", data := .seq [c1, c2, c3, c4].toArray }) := Heap.UpToSlots.of_keeps kT
    cases b with
    | true =>
      refine codeAny_handlers_suite_as ?_
      refine HandSPX.lands_againZ fl3' fun h4 fl4 up4 => ?_
      have J4 : Inv X pins σ' H' { s' with heap := h4 } := J.landed nb fl4.1 (((up.trans up3).trans upT).trans up4) os ag
      obtain ⟨oe4, vs4, he4, hz4, hd4⟩ := fl4.there
      have S4 := J4.suite he4 hd4 na nL nF
      refine store_ok (X := X.suite a ((a, oe4) :: (X.pn ++ pins))) (v := .ref a) S4 hN hi (.inl hln) rfl (fun s5 S5 => ?_) (.inr hln)
      refine wpAny_mono ((hsu a oe4 cls d (X.pn ++ pins) hz4 ⟨_, hd4⟩).run [] s5 _ H' _ S5 (hyes rfl a na)) (fun f s6 hsp => ?_) (fun _ _ z => False.elim z)
      have back : ∀ {σ6 : St} {H6 : Hp}, Inv (X.suite a ((a, oe4) :: (X.pn ++ pins))) [] σ6 H6 s6 → Inv X ((a, oe4) :: pins) σ6 H6 s6 := fun {σ6 H6} S6 =>
        ⟨ok, S6.os, S6.bare, S6.base, S6.loc, S6.cell, S6.free, S6.freeC, fun p hp => S6.pin p (by
          rcases List.mem_append.mp hp with z | z
          · exact List.mem_append_left _ (List.mem_cons_of_mem _ (List.mem_append_left _ z))
          · rcases List.mem_cons.mp z with z | z
            · rw [z]
              exact List.mem_append_left _ List.mem_cons_self
            · exact List.mem_append_left _ (List.mem_cons_of_mem _ (List.mem_append_right _ z))), S6.hok, S6.len⟩
      cases f with
      | next =>
        obtain ⟨σ6, H6, S6, q6⟩ := hsp
        refine gone_ok (back S6) hN hi hln fun s7 J7 => ?_
        have e7 := (J7.pin (a, oe4) (List.mem_append_right _ List.mem_cons_self)).1
        exact ⟨_, _, J7.track a0 apn (fun v z => by rw [hd4] at z; cases z) (exv_ok e7 hz4 hd4), q6⟩
      | brk =>
        obtain ⟨σ6, H6, S6, q6⟩ := hsp
        exact False.elim q6
      | cont =>
        obtain ⟨σ6, H6, S6, q6⟩ := hsp
        exact False.elim q6
      | ret u =>
        obtain ⟨v6, σ6, H6, S6, r6, q6⟩ := hsp
        exact False.elim q6
    | false =>
      show wpAny _ X.A (handleBy (.ref a) X.env []) _ _ _
      refine wpAny_handleBy_nil ?_
      obtain ⟨k1, k2, k3, oe, vs, T, oT, ts', he, hz, hd, h1, hr⟩ := id fl3'
      unfold PySem.passOn
      refine wpAny_bind (wpAny_field he hd h1 ?_)
      rw [if_neg (show ¬ ((Value.ref T == Value.none) = true) from by simp)]
      have fin : wpAny (model X.prog X.w) X.A (setFlight (.ref a) X.env.frame) (fun _ s4 => wpAny (model X.prog X.w) X.A (throw (.ref a) : Sem Flow) (SP X pins D) X.xe s4) X.xe { s' with heap := h3.push { cls := .type "tuple", data := .seq [c1, c2, c3, c4].toArray } } := by
        rw [hf]
        refine HandSPX.setFlight_upZ fl3' fun h4 hh4 up4 => wpAny_throw (tk _ _ ?_)
        exact ⟨a, B, sI, pins, σ', H', cls, d, rfl, J, nb, ((up.trans up3).trans upT).trans up4, .inr (.inr (by rw [hs]; exact hh4)), na, os, ag, hno rfl⟩
      first
        | exact wpAny_bind (wpAny_pure (wpAny_bind fin))
        | exact wpAny_bind fin
  · cases f with
    | next =>
      obtain ⟨σ', H', J', q⟩ := hsp
      exact wpAny_execs_nil ⟨σ', H', J'.ofTry ok, q⟩
    | brk =>
      obtain ⟨σ', H', J', q⟩ := hsp
      exact ⟨σ', H', J'.ofTry ok, q⟩
    | cont =>
      obtain ⟨σ', H', J', q⟩ := hsp
      exact ⟨σ', H', J'.ofTry ok, q⟩
    | ret u =>
      obtain ⟨v, σ', H', J', r, q⟩ := hsp
      exact ⟨v, σ', H', J'.ofTry ok, r, q⟩
end
end L2

namespace L2
open PySem PySem.Spec PyProof.Rows ExM
/-- what an own exception class must say, so that its instances are asked rightly -/
structure XcC (K : PySem.W.Frag) (C : Addr) : Prop where
  ga : PySem.W.findIn K (.ref C) "__getattribute__" = some (some (.builtin "BaseException.__getattribute__"))
  gg : PySem.W.findIn K (.ref C) "__getattr__" = some none
  exC : PySem.W.subIn K (.ref C) (.type "BaseException") = some true
  hd : PySem.W.hasDictIn K C = true
  ha : PySem.W.findIn K (.ref C) "__class__" = some (some (.builtin "object.__class__"))
  hn : PySem.W.specialIn K (.builtin "object.__class__") "__get__" = some (some (.builtin "getset_descriptor.__get__"))
  ht : PySem.W.takesIn K (.builtin "object.__class__") = some true
  hm : PySem.W.mroIn K C (.type "object") = some true
def xcB (K : PySem.W.Frag) (C : Addr) : Bool := decide (PySem.W.findIn K (.ref C) "__getattribute__" = some (some (.builtin "BaseException.__getattribute__"))) && (decide (PySem.W.findIn K (.ref C) "__getattr__" = some none) &&
  (decide (PySem.W.subIn K (.ref C) (.type "BaseException") = some true) && (PySem.W.hasDictIn K C && (decide (PySem.W.findIn K (.ref C) "__class__" = some (some (.builtin "object.__class__"))) &&
  (decide (PySem.W.specialIn K (.builtin "object.__class__") "__get__" = some (some (.builtin "getset_descriptor.__get__"))) && (decide (PySem.W.takesIn K (.builtin "object.__class__") = some true) && decide (PySem.W.mroIn K C (.type "object") = some true)))))))
theorem xcB_ok {K : PySem.W.Frag} {C : Addr} (h : xcB K C = true) : XcC K C := by
  obtain ⟨h1, h⟩ := Bool.and_eq_true_iff.mp h
  obtain ⟨h2, h⟩ := Bool.and_eq_true_iff.mp h
  obtain ⟨h3, h⟩ := Bool.and_eq_true_iff.mp h
  obtain ⟨h4, h⟩ := Bool.and_eq_true_iff.mp h
  obtain ⟨h5, h⟩ := Bool.and_eq_true_iff.mp h
  obtain ⟨h6, h⟩ := Bool.and_eq_true_iff.mp h
  obtain ⟨h7, h8⟩ := Bool.and_eq_true_iff.mp h
  exact ⟨of_decide_eq_true h1, of_decide_eq_true h2, of_decide_eq_true h3, h4, of_decide_eq_true h5, of_decide_eq_true h6, of_decide_eq_true h7, of_decide_eq_true h8⟩
section
variable {X : Cx} {pins : List (Addr × Obj)} {σ : St} {H : Hp} {s : Shared}
theorem exv_inst (I : Inv X pins σ H s) {a C : Addr} {d : Option Addr} (ha : H a = some (exv a (.ref C) d)) (hd : ∀ dx, d = some dx → ∃ o, s.heap.get? dx = some o) : ∃ oe od, PySem.W.InstAt s.heap a oe C od ∧ (d = none → od = none) ∧ ∀ dx, d = some dx → od = s.heap.get? dx := by
  obtain ⟨oe, vs, h1, hz, h2⟩ := exv_at I.hok ha
  obtain ⟨oc, od, oda, osl⟩ := oe
  obtain ⟨z1, z2⟩ := hz
  dsimp only at z1 z2 h2
  subst z1 z2 h2
  cases od with
  | none => exact ⟨_, none, ⟨h1, rfl, rfl, trivial⟩, fun _ => rfl, fun _ z => by cases z⟩
  | some dx =>
    obtain ⟨o, ho⟩ := hd dx rfl
    exact ⟨_, some o, ⟨h1, rfl, rfl, ho⟩, fun z => by (cases z), fun dy z => by cases z; exact ho.symm⟩
theorem isIn_some {K : PySem.W.Frag} {C : Addr} (h : PySem.W.hasDictIn K C = true) : (PySem.W.clsIn K C).isSome = true := by
  obtain ⟨cd, hc, _⟩ := PySem.W.any_some h
  rw [hc]
  rfl
end
/-- isinstance(e, c), e a kept exception -/
def rIsX (K : PySem.W.Frag) : List V → Hp → VK → Prop := fun xs H Q => ∃ (a C : Addr) (d : Option Addr) (c : V) (u : Value) (b : Bool), xs = [.ref a, c] ∧ ClsV c u ∧ H a = some (exv a (.ref C) d) ∧ (∀ dx, d = some dx → ∃ fs, H dx = some (.xd fs)) ∧ XcC K C ∧ PySem.W.kitOne K (.ref C) u = some b ∧ Q (.bl b) H
theorem call_isX {X : Cx} : CallR X (.builtin "isinstance") (rIsX X.K) := by
  intro pins s σ H xs us Q I r h
  obtain ⟨a, C, d, c, u, b, rfl, k, ha, hd, T, e, q⟩ := h
  obtain ⟨u1, u2, rfl, r1, r2⟩ := vals2 r
  have e2 := k.eq r2
  subst e2
  cases (show u1 = Value.ref a from r1)
  obtain ⟨oe, od, J, _⟩ := exv_inst I ha fun dx z => by
    obtain ⟨fs, hf⟩ := hd dx z
    obtain ⟨mA, ⟨o, _, _, ho, _⟩, _⟩ := (show ObjOk X.prog X.w H s.heap dx (.xd fs) from I.hok dx _ hf)
    exact ⟨o, ho⟩
  exact PySem.W.kia_one (PySem.W.kitx_exc (isIn_some T.hd) T.ga T.gg T.exC T.ha T.hn T.ht T.hm) I.kIn J e (fun z => nomatch z) fun tk => ⟨.bl b, H, I.tok tk, rfl, q⟩
/-- e.f, e a kept exception -/
def tXfT (K : PySem.W.Frag) (f : Str) (te : TE) : TE := fun σ H Q => te σ H fun x H1 => ∃ (a C dd : Addr) (fs : List (Str × V)) (v : V), x = .ref a ∧ H1 a = some (exv a (.ref C) (some dd)) ∧ H1 dd = some (.xd fs) ∧ XcC K C ∧ PySem.W.findIn K (.ref C) f = some none ∧ fs.lookup f = some v ∧ Q v H1
theorem pe_xfT {X : Cx} {e : Expr} {te : TE} {pos : Pos} {n : Str} (he : PE X e te) (hb : attributeBase e n X.env (eval e X.env) = eval e X.env := by rfl) : PE X (.Attribute e n pos) (tXfT X.K n te) := by
  refine ⟨fun pins s σ H Q I h => ?_⟩
  refine attr_of hb (thn (he.run pins s σ H _ I h) fun u s1 ⟨x, H1, I1, rx, a, C, dd, fs, v, ex, ea, ed, T, hno, l, q⟩ => ?_)
  subst ex
  obtain rfl : u = Value.ref a := rx
  have hx : ObjOk X.prog X.w H1 s1.heap dd (.xd fs) := I1.hok dd _ ed
  obtain ⟨mA, hns, hr⟩ := hx
  obtain ⟨od, ho, hl⟩ := lookIn_ns hns
  obtain ⟨u, hu, ru⟩ := RelO.some_of (v := v) (o := mA n) (by rw [← l]; exact hr n)
  obtain ⟨oe, od', J, _, hod⟩ := exv_inst I1 ea fun dx z => by cases z; exact ⟨od, ho⟩
  have e1 : od' = some od := (hod dd rfl).trans ho
  subst e1
  exact HandSPX.exc_get I1.kIn J T.ga T.gg T.exC (PySem.W.findObj_own T.hd hno rfl (by rw [hl, hu])) (handed_of ru) ⟨v, H1, I1.tok _, ru, q⟩
end L2

/-! repr of data. -/
namespace L2
open PySem PySem.Spec PyProof.Rows

theorem guards_in1 {A : Around} (h : A.guards = some []) : A.in1.guards = some [] := h
/-! data without a dict holds none -/
mutual
theorem Dp.noDict {K : PySem.W.Frag} {H : Hp} : ∀ {v : V} {d : PyData}, Dp K H v d → d.hasDict = false
  | _, .none, _ => by simp only [PyData.hasDict]
  | _, .bool _, _ => by simp only [PyData.hasDict]
  | _, .int _, _ => by simp only [PyData.hasDict]
  | _, .str _, _ => by simp only [PyData.hasDict]
  | _, .list ds, h => by
    cases h with
    | lst hs ha =>
      simp only [PyData.hasDict]
      exact DpAll.noDict ha
  | _, .tuple ds, h => by
    cases h with
    | tup hs ha =>
      simp only [PyData.hasDict]
      exact DpAll.noDict ha
  | _, .dict _, h => by cases h
theorem DpAll.noDict {K : PySem.W.Frag} {H : Hp} : ∀ {vs : List V} {ds : List PyData}, DpAll K H vs ds → PyData.hasDictAll ds = false
  | _, [], _ => by simp only [PyData.hasDictAll]
  | _, d :: ds, h => by
    cases h with
    | cons h1 h2 => simp only [PyData.hasDictAll, Dp.noDict h1, DpAll.noDict h2, Bool.or_self]
end
/-- repr(v), v data that is read -/
def rRepr (K : PySem.W.Frag) : List V → Hp → VK → Prop := fun xs H Q => ∃ v d, xs = [v] ∧ Dp K H v d ∧ d.showable = true ∧ d.shown.length ≤ sizeLine ∧ d.depth ≤ 60 ∧ Q (.str d.shown) H
theorem call_repr {X : Cx} (hg : X.A.guards = some []) (hu : X.A.units + 64 < cLine) : CallR X (.builtin "repr") (rRepr X.K) := by
  intro pins s σ H xs us Q I r h
  obtain ⟨v, d, rfl, hd, hs, hz, hdp, q⟩ := h
  cases r with
  | @cons _ u _ us r1 r2 =>
    cases r2
    show wpAny _ _ (call (.builtin "repr") [u]) _ _ _
    obtain ⟨as, rd⟩ := Dp.reads I d v u hd r1
    have nd := Dp.noDict hd
    cases rd with
    | none => exact P.repr_of_none ⟨.str _, H, I.tok _, ⟨_, rfl⟩, by simpa [PyData.shown] using q⟩
    | bool b => exact P.repr_of_bool ⟨.str _, H, I.tok _, ⟨_, rfl⟩, by simpa [PyData.shown] using q⟩
    | int i t => exact P.repr_of_int (by simpa [PyData.showable] using hs) ⟨.str _, H, I.tok _, ⟨_, rfl⟩, by simpa [PyData.shown] using q⟩
    | str x t => exact P.repr_of_str ⟨.str _, H, I.tok _, ⟨_, rfl⟩, by simpa [PyData.shown] using q⟩ (by simpa [PyData.shown] using hz)
    | list h1 h2 h3 h4 =>
      exact repr_of_reads' (.list h1 h2 h3 h4) hs (fun z => by rw [nd] at z; cases z) hg (by omega) (fun _ _ e => e) (fun h' u tk k => ⟨.str _, H, I.kept (t' := tk) k, ⟨_, rfl⟩, q⟩) hz
    | tuple h1 h2 h3 h4 =>
      exact repr_of_reads' (.tuple h1 h2 h3 h4) hs (fun z => by rw [nd] at z; cases z) hg (by omega) (fun _ _ e => e) (fun h' u tk k => ⟨.str _, H, I.kept (t' := tk) k, ⟨_, rfl⟩, q⟩) hz
    | dict => cases hd

/-! ### how long a repr may be -/
mutual
def cap : PyData → Nat
  | .none => 4
  | .bool _ => 5
  | .int _ => 1921
  | .str x => 10 * x.length + 2
  | .list xs | .tuple xs => capAll xs + 4
  | .dict _ => 0
def capAll : List PyData → Nat
  | [] => 0
  | x :: xs => cap x + 2 + capAll xs
end
mutual
/-- every sign of every text is one that a repr writes in ten signs at most; ints have a repr -/
def plainD : PyData → Prop
  | .none | .bool _ => True
  | .int i => i.natAbs.log2 < 1920
  | .str x => ∀ c ∈ x.cps.toList, c < 16 ^ 8
  | .list xs | .tuple xs => plainAll xs
  | .dict _ => False
def plainAll : List PyData → Prop
  | [] => True
  | x :: xs => plainD x ∧ plainAll xs
end
theorem textFrom_cap : ∀ (ts : List Str) (k : Nat) (acc : Str), (textFrom k acc ts).length ≤ acc.length + (ts.map fun t => t.length + 2).sum
  | [], k, acc => by simp [textFrom]
  | t :: r, k, acc => by
    have ih := textFrom_cap r (k + 1) (acc ++ (if k > 0 then ", " else "" : String) ++ t)
    have e : (acc ++ ((if k > 0 then ", " else "" : String) : Str) ++ t).length ≤ acc.length + 2 + t.length := by
      rw [strLen_append, strLen_append]
      have : ((if k > 0 then ", " else "" : String) : Str).length ≤ 2 := by split <;> decide
      omega
    simp only [textFrom, List.map_cons, List.sum_cons]
    omega
theorem piled_cap : ∀ ts : List Str, piled ts = (ts.map fun t => t.length + 2).sum
  | [] => rfl
  | t :: r => by simp [piled, piled_cap r]
theorem join_cap (ts : List Str) : (Str.join ", " ts).length ≤ (ts.map fun t => t.length + 2).sum := by
  by_cases h : ts = []
  · subst h
    show Str.empty.length ≤ _
    exact Nat.le_of_eq (show Str.empty.length = 0 by decide)
  · have := join_length_add ts h
    rw [piled_cap] at this
    omega
mutual
theorem shown_cap : ∀ d : PyData, plainD d → d.showable = true ∧ d.shown.length ≤ cap d
  | .none, _ => ⟨by simp [PyData.showable], by simp only [PyData.shown, cap]; decide⟩
  | .bool b, _ => ⟨by simp [PyData.showable], by simp only [PyData.shown, cap]; cases b <;> decide⟩
  | .int i, h => by
    have h' : i.natAbs.log2 < 1920 := by simpa [plainD] using h
    refine ⟨by simp [PyData.showable, h'], ?_⟩
    simp only [PyData.shown, cap]
    have := int_text_length_le (a := i) (k := 1920) (by decide) h'
    rw [PySem.ofString_length]
    omega
  | .str x, h => by
    have h' : ∀ c ∈ x.cps.toList, c < 16 ^ 8 := by simpa [plainD] using h
    exact ⟨by simp [PyData.showable], by simp only [PyData.shown, cap]; exact StrLaws.reprText_len x h'⟩
  | .list xs, h => by
    have h' : plainAll xs := by simpa [plainD] using h
    obtain ⟨a, b⟩ := shown_capAll xs h'
    refine ⟨by simpa [PyData.showable] using a, ?_⟩
    simp only [PyData.shown, cap, listText]
    rw [strLen_append]
    have := textFrom_cap (PyData.shownAll xs) 0 "["
    have e1 : (("[" : Str)).length = 1 := by decide
    have e2 : (("]" : Str)).length = 1 := by decide
    omega
  | .tuple xs, h => by
    have h' : plainAll xs := by simpa [plainD] using h
    obtain ⟨a, b⟩ := shown_capAll xs h'
    refine ⟨by simpa [PyData.showable] using a, ?_⟩
    simp only [PyData.shown, cap, tupleText]
    rw [strLen_append, strLen_append]
    have := join_cap (PyData.shownAll xs)
    have e1 : (("(" : Str)).length = 1 := by decide
    have e2 : (((if (PyData.shownAll xs).length == 1 then ",)" else ")" : String) : Str)).length ≤ 2 := by split <;> decide
    omega
  | .dict _, h => by simp [plainD] at h
theorem shown_capAll : ∀ ds : List PyData, plainAll ds → PyData.showableAll ds = true ∧ ((PyData.shownAll ds).map fun t => t.length + 2).sum ≤ capAll ds
  | [], _ => ⟨by simp [PyData.showableAll], by simp [PyData.shownAll, capAll]⟩
  | d :: ds, h => by
    have h' : plainD d ∧ plainAll ds := by simpa [plainAll] using h
    obtain ⟨a, b⟩ := shown_cap d h'.1
    obtain ⟨c, e⟩ := shown_capAll ds h'.2
    refine ⟨by simp [PyData.showableAll, a, c], ?_⟩
    simp only [PyData.shownAll, capAll, List.map_cons, List.sum_cons]
    omega
end
/-- repr(v) as a rule: its wants in one -/
def rReprP (K : PySem.W.Frag) : List V → Hp → VK → Prop := fun xs H Q => ∃ v d, xs = [v] ∧ Dp K H v d ∧ plainD d ∧ cap d ≤ 16777216 ∧ d.depth ≤ 60 ∧ Q (.str d.shown) H
theorem call_reprP {X : Cx} (hg : X.A.guards = some []) (hu : X.A.units + 64 < cLine) : CallR X (.builtin "repr") (rReprP X.K) := by
  intro pins s σ H xs us Q I r h
  obtain ⟨v, d, e, hd, hp, hz, hdp, q⟩ := h
  obtain ⟨a, b⟩ := shown_cap d hp
  exact call_repr hg hu pins s σ H xs us Q I r ⟨v, d, e, hd, a, by rw [sizeLine_eq]; omega, hdp, q⟩
end L2

/-! Own exceptions: keywords; what the four built-in bases are; the class as the top has made it. -/
namespace L2
open PySem PySem.Spec PyProof.Rows ExM
section
variable {X : Cx} {C : Addr} {x f f2 : Str} {e e2 : Expr} {te te2 : TE} {p pos kp kp2 : Pos} {k : Nat}
/-- C(f = e) -/
theorem pe_mkvK1 (T : Mks X.prog X.K X.mg C [f]) (hs : X.mg "super" = none) (hr : Room k X.A) (he : PE X e te) (hg : Gl X x) (hm : X.mg x = some (.ref C)) (hdb : (x == ("__debug__" : Str)) = false := by decide)
    (hall : (backToKw pos (keywordEach [⟨some f, e, kp⟩] X.env)).all (·.1.isSome) = true := by rfl) (hks : (backToKw pos (keywordEach [⟨some f, e, kp⟩] X.env)).filterMap (·.1) = [f] := by rfl)
    (hpl : ((backTo pos (starEach [] X.env)).any (·.1) || (backToKw pos (keywordEach [⟨some f, e, kp⟩] X.env)).any (·.1.isNone)) = false := by rfl) :
    PE X (.Call (.Name x p) [] [⟨some f, e, kp⟩] pos) (tMkv C [f] (tCons te tNil)) := by
  refine ⟨fun pins s σ H Q I h => ?_⟩
  refine wpAny_Call_Name_kw (ld_glob I hg hm ?_ hdb)
  refine PySem.W.callWith_KW0 (h₀ := X.base) I.ok.mod.kin T.kC hall ?_ hpl
  refine thn ((pk_cons (nm := some f) (kpos := kp) he pk_nil).run pos pins s σ H _ I h) fun us s1 ⟨vs, H1, I1, r1, hl, q1⟩ => ⟨I1.kIn, ?_⟩
  rw [hks]
  cases r1 with
  | nil => exact absurd hl (by simp)
  | @cons v u vs' us' r1 r2 =>
    cases r2 with
    | nil => exact mkv_end (a := ⟨[], [(f, u)]⟩) T hs hr (by simp) I1 (.cons r1 .nil) .kw1 q1
    | cons _ _ => exact absurd hl (by simp)
/-- C(f2 = e2, f = e), the fields being f, f2 -/
def tMkv2 (C : Addr) (f f2 : Str) (ta : TA) : TE := fun σ H Q => ta σ H fun vs H1 => ∃ a b, vs = [b, a] ∧ ∀ e d, H1 e = none → H1 d = none → d ≠ e → Q (.ref e) (upd (upd H1 d (.xd [(f2, b), (f, a)])) e (exv e (.ref C) (some d)))
theorem pe_mkvK2 (T : Mks X.prog X.K X.mg C [f, f2]) (hs : X.mg "super" = none) (hr : Room k X.A) (he2 : PE X e2 te2) (he : PE X e te) (hg : Gl X x) (hm : X.mg x = some (.ref C)) (hdb : (x == ("__debug__" : Str)) = false := by decide)
    (hall : (backToKw pos (keywordEach [⟨some f2, e2, kp2⟩, ⟨some f, e, kp⟩] X.env)).all (·.1.isSome) = true := by rfl) (hks : (backToKw pos (keywordEach [⟨some f2, e2, kp2⟩, ⟨some f, e, kp⟩] X.env)).filterMap (·.1) = [f2, f] := by rfl)
    (hpl : ((backTo pos (starEach [] X.env)).any (·.1) || (backToKw pos (keywordEach [⟨some f2, e2, kp2⟩, ⟨some f, e, kp⟩] X.env)).any (·.1.isNone)) = false := by rfl) :
    PE X (.Call (.Name x p) [] [⟨some f2, e2, kp2⟩, ⟨some f, e, kp⟩] pos) (tMkv2 C f f2 (tCons te2 (tCons te tNil))) := by
  refine ⟨fun pins s σ H Q I h => ?_⟩
  refine wpAny_Call_Name_kw (ld_glob I hg hm ?_ hdb)
  refine PySem.W.callWith_KW0 (h₀ := X.base) I.ok.mod.kin T.kC hall ?_ hpl
  refine thn ((pk_cons (nm := some f2) (kpos := kp2) he2 (pk_cons (nm := some f) (kpos := kp) he pk_nil)).run pos pins s σ H _ I h) fun us s1 ⟨vs, H1, I1, r1, a, b, ev, q1⟩ => ⟨I1.kIn, ?_⟩
  rw [hks]
  subst ev
  obtain ⟨u1, u2, rfl, r1, r2⟩ := vals2 r1
  exact mkv_end (a := ⟨[], [(f2, u1), (f, u2)]⟩) T hs hr (by simp) I1 (.cons r2 (.cons r1 .nil)) .kw2 q1
end
end L2
namespace ExM
open PySem PySem.W PySem.Calls PyProof.Rows
/-- what the library tells of a built-in base: its __new__ (perhaps its own base's), its __init__ -/
structure BaseF (bmB : List Value) (B newId initId : String) : Prop where
  new : ∃ Bn initN bmN, ExcBaseFacts Bn newId initN bmN ∧ bmB.contains (.type Bn) = true ∧ bmB.contains (.type "AttributeError") = false ∧ bmB.contains (.type "NameError") = false
  ini : InF B initId
  pass : ∀ self, refuseLoop self "__setattr__" bmB = pure ()
  obj : bmB.contains (.type "object") = true
theorem inF_of {B newId i : String} (F : ExcCallFacts B newId i) (K : KxsFacts B i) : InF B i := ⟨F.initEntry, F.initKind, F.initRow, F.noStar, F.init.plain, K⟩
theorem base_VE : BaseF [.type "ValueError", .type "Exception", .type "BaseException", .type "object"] "ValueError" "ValueError.__new__" "ValueError.__init__" :=
  ⟨⟨_, _, _, F.excBase_ValueError, by decide +kernel, by decide +kernel, by decide +kernel⟩, inF_of F.excBase_ValueError.toExcCallFacts kxs_ValueError, F.store_ValueError.passes, by decide +kernel⟩
theorem base_OE : BaseF [.type "OverflowError", .type "ArithmeticError", .type "Exception", .type "BaseException", .type "object"] "OverflowError" "OverflowError.__new__" "OverflowError.__init__" :=
  ⟨⟨_, _, _, F.excBase_OverflowError, by decide +kernel, by decide +kernel, by decide +kernel⟩, inF_of F.excBase_OverflowError.toExcCallFacts kxs_OverflowError, F.store_OverflowError.passes, by decide +kernel⟩
theorem base_RE : BaseF [.type "RuntimeError", .type "Exception", .type "BaseException", .type "object"] "RuntimeError" "RuntimeError.__new__" "RuntimeError.__init__" :=
  ⟨⟨_, _, _, F.excBase_RuntimeError, by decide +kernel, by decide +kernel, by decide +kernel⟩, inF_of F.excBase_RuntimeError.toExcCallFacts kxs_RuntimeError, F.store_RuntimeError.passes, by decide +kernel⟩
theorem kxs_KE : KxsFacts "KeyError" "KeyError.__init__" := ⟨by show builtinType _ = _; rw [builtinType_eq_fast]; kernel_rfl, by first | kernel_rfl | rfl⟩
theorem base_KE : BaseF [.type "KeyError", .type "LookupError", .type "Exception", .type "BaseException", .type "object"] "KeyError" "LookupError.__new__" "KeyError.__init__" :=
  ⟨⟨_, _, _, F.excBase_LookupError, by decide +kernel, by decide +kernel, by decide +kernel⟩,
    ⟨entryFor_alias (id' := "BaseException.__init__") (by rw [fastTable_eq_tree]; kernel_rfl) (by first | rfl | decide +kernel) (by decide +kernel) (by rw [fastTable_eq_tree]; kernel_rfl), by kernel_rfl, by kernel_rfl, by decide +kernel, by decide +kernel, kxs_KE⟩,
    fun self => by kernel_rfl, by decide +kernel⟩
end ExM

namespace L2
open PySem PySem.Spec PyProof.Rows ExM
open PySem (cStatics)
open PySem.W (Frag findIn typeIn keepIn subIn nsIn codeIn ksFn ks_superIn excTail)
/-- what k_is finds of a class and its __init__ -/
structure Cfs (K : Frag) (prog : Program) (C f cc cda : Addr) (qual : Str) (params : Arguments) (body : List Stmt) (scope : Scope) (bmB : List Value) (B newId initId : String) : Prop where
  cls : ∃ nm q N bs bm sn sub ab col dd k0 k1 k2 k3 k5, K.lookup C = some (excClassObj nm q C N bs bm true sn sub ab col dd k0 k1 k2 k3 k5 newId) ∧ excTail bmB bm = true
  sa : findIn K (.ref C) "__setattr__" = some (some (.builtin "object.__setattr__"))
  iC : findIn K (.ref C) "__init__" = some (some (.ref f))
  tF : typeIn K (.ref f) = some (.type "function")
  kC : keepIn K (.ref C) = true
  exC : subIn K (.ref C) (.type "BaseException") = some true
  bC : subIn K (.ref C) (.type B) = some true
  tyC : typeIn K (.ref C) = some (.type "type")
  op : nsIn K cStatics "thirdparty.any" = some none
  al : ks_superIn K C C "__init__" = some (some (.builtin initId))
  lf : ∃ (oc : Value) (od : Option Addr) (kV doc pm : Value) (an : Option Addr) (ct : Value) (osl : Array (Option Value)), K.lookup f = some ⟨oc, od, .func (ksFn "__init__" qual params body scope .none kV doc pm an (.ref cda) ct cc), osl⟩
  cf : codeIn K (.ref cda) qual = true
  lcd : ∃ ccl cdd vs ccs file tf, K.lookup cda = some ⟨ccl, cdd, .fields vs, ccs⟩ ∧ vs[2]? = some (.str file tf) ∧ ((prog.main.file : Str) == file) = true
  cell : ∃ cl cld csl, K.lookup cc = some ⟨cl, cld, .cell (some (.ref C)), csl⟩
  top : (prog.main.scope.names.lookup ("super" : Str)).isSome = false
theorem cfs_mk {K : Frag} {prog : Program} {C f cc cda : Addr} {qual : Str} {params : Arguments} {body : List Stmt} {scope : Scope} {bmB : List Value} {B newId initId : String}
    {nm q : Str} {N : Addr} {bs bm : List Value} {sn : List Str} {sub : List Value} {ab : Bool} {col : Option Bool} {dd : Option Addr} {k0 k1 k2 k3 k5 : Option Value} {oc kV doc pm ct : Value} {od an : Option Addr} {osl : Array (Option Value)}
    {ccl : Value} {cdd : Option Addr} {vs : Array Value} {ccs : Array (Option Value)} {file : Str} {tf : Tok} {cl : Value} {cld : Option Addr} {csl : Array (Option Value)}
    (lc : K.lookup C = some (excClassObj nm q C N bs bm true sn sub ab col dd k0 k1 k2 k3 k5 newId)) (iC : findIn K (.ref C) "__init__" = some (some (.ref f)))
    (lf : K.lookup f = some ⟨oc, od, .func (ksFn "__init__" qual params body scope .none kV doc pm an (.ref cda) ct cc), osl⟩) (lcd : K.lookup cda = some ⟨ccl, cdd, .fields vs, ccs⟩) (lcc : K.lookup cc = some ⟨cl, cld, .cell (some (.ref C)), csl⟩)
    (sa : findIn K (.ref C) "__setattr__" = some (some (.builtin "object.__setattr__"))) (tF : typeIn K (.ref f) = some (.type "function")) (kC : keepIn K (.ref C) = true) (exC : subIn K (.ref C) (.type "BaseException") = some true) (bC : subIn K (.ref C) (.type B) = some true)
    (tyC : typeIn K (.ref C) = some (.type "type")) (op : nsIn K cStatics "thirdparty.any" = some none) (cf : codeIn K (.ref cda) qual = true)
    (al : ks_superIn K C C "__init__" = some (some (.builtin initId))) (tl : excTail bmB bm = true) (v2 : vs[2]? = some (.str file tf)) (hf : ((prog.main.file : Str) == file) = true) (top : (prog.main.scope.names.lookup ("super" : Str)).isSome = false) :
    Cfs K prog C f cc cda qual params body scope bmB B newId initId :=
  ⟨⟨_, _, _, _, _, _, _, _, _, _, _, _, _, _, _, lc, tl⟩, sa, iC, tF, kC, exC, bC, tyC, op, al, ⟨_, _, _, _, _, _, _, _, lf⟩, cf, ⟨_, _, _, _, _, _, lcd, v2, hf⟩, ⟨_, _, _, lcc⟩, top⟩
section
variable {K : Frag} {prog : Program} {mg : Str → Option Value} {C f cc cda : Addr} {qual : Str} {params : Arguments} {body : List Stmt} {scope : Scope} {bmB : List Value} {B newId initId : String} {msg fld fld2 : Str} {j : Nat} {p0 p1 p2 p3 p4 p5 q1 q2 q3 q4 r1 r2 r3 r4 : Pos}
theorem Cfs.ini (F : Cfs K prog C f cc cda qual params body scope bmB B newId initId) (b : BaseF bmB B newId initId) (hs : scope.names.lookup ("super" : Str) = some .globalImplicit) (hc : scope.names.lookup ("__class__" : Str) = some .free) (hk : scope.kind = .function) :
    Ini K prog C f cc qual params body scope bmB B newId initId := by
  obtain ⟨oc, od, kV, doc, pm, an, ct, osl, lf⟩ := F.lf
  exact ⟨F.cls, b.new, b.ini, b.pass, b.obj, F.sa, F.iC, F.tF, F.kC, F.exC, F.bC, F.tyC, F.op, F.al, ⟨oc, od, kV, doc, pm, an, cda, ct, osl, lf, F.cf, F.lcd⟩, F.cell, F.top, hs, hc, hk⟩
theorem mks_one (F : Cfs K prog C f cc cda qual params [supSt msg j p0 p1 p2 p3 p4 p5, putSt fld q1 q2 q3 q4] scope bmB B newId initId) (b : BaseF bmB B newId initId) (hs : scope.names.lookup ("super" : Str) = some .globalImplicit) (hc : scope.names.lookup ("__class__" : Str) = some .free) (hk : scope.kind = .function)
    (S : Sc scope params [fld]) (V : Ev qual scope f cc msg j p0 p1 p2 p3 p4) (hno : findIn K (.ref C) fld = some none)
    (hb : ∀ (a : Args) (v : Value), ArgOk [fld] a [v] → ∀ (x : Addr) (kV doc pm : Value) (an : Option Addr) (cdv ct : Value), bindArgs (ksFn "__init__" qual params [supSt msg j p0 p1 p2 p3 p4 p5, putSt fld q1 q2 q3 q4] scope .none kV doc pm an cdv ct cc) ⟨.ref x :: a.pos, a.kw⟩ = pure [(("self" : Str), .ref x), (fld, v)]) :
    Mks prog K mg C [fld] where
  kC := F.kC
  exC := F.exC
  tyC := F.tyC
  call := fun w A s a us R ha X G hd hq => by
    obtain ⟨v, rfl⟩ : ∃ v, us = [v] := by
      have z := ha.len
      match us, z with
      | [v], _ => exact ⟨v, rfl⟩
    refine made_one (F.ini b hs hc hk) S V hno ha X G hd (fun s' x kV doc pm an cdv ct => .of_eq (hb a v ha x kV doc pm an cdv ct)) fun h' tk e d M => hq h' tk e (some d) _ M (by simp) fun y => ?_
    by_cases h : y = fld
    · subst h
      simp
    · have e : (y == fld) = false := by simpa using h
      simp [h, List.lookup, e]
theorem mks_none (F : Cfs K prog C f cc cda qual params [supSt msg j p0 p1 p2 p3 p4 p5] scope bmB B newId initId) (b : BaseF bmB B newId initId) (hs : scope.names.lookup ("super" : Str) = some .globalImplicit) (hc : scope.names.lookup ("__class__" : Str) = some .free) (hk : scope.kind = .function)
    (S : Sc scope params []) (V : Ev qual scope f cc msg j p0 p1 p2 p3 p4)
    (hb : ∀ (x : Addr) (kV doc pm : Value) (an : Option Addr) (cdv ct : Value), bindArgs (ksFn "__init__" qual params [supSt msg j p0 p1 p2 p3 p4 p5] scope .none kV doc pm an cdv ct cc) ⟨[.ref x], []⟩ = pure [(("self" : Str), .ref x)]) :
    Mks prog K mg C [] where
  kC := F.kC
  exC := F.exC
  tyC := F.tyC
  call := fun w A s a us R ha X G hd hq => by
    have ea : a = ⟨[], []⟩ ∧ us = [] := by
      cases ha with
      | pos h =>
        have z := List.length_eq_zero_iff.mp h
        subst z
        exact ⟨rfl, rfl⟩
    obtain ⟨rfl, rfl⟩ := ea
    exact made_none (F.ini b hs hc hk) S V ha X G hd (fun s' x kV doc pm an cdv ct => .of_eq (hb x kV doc pm an cdv ct)) fun h' tk e M => hq h' tk e none _ M (by simp) fun y => by simp
theorem mks_two (F : Cfs K prog C f cc cda qual params [supSt msg j p0 p1 p2 p3 p4 p5, putSt fld q1 q2 q3 q4, putSt fld2 r1 r2 r3 r4] scope bmB B newId initId) (b : BaseF bmB B newId initId) (hs : scope.names.lookup ("super" : Str) = some .globalImplicit) (hc : scope.names.lookup ("__class__" : Str) = some .free) (hk : scope.kind = .function)
    (S : Sc scope params [fld, fld2]) (V : Ev qual scope f cc msg j p0 p1 p2 p3 p4) (hno : findIn K (.ref C) fld = some none) (hno2 : findIn K (.ref C) fld2 = some none) (hff : fld ≠ fld2)
    (hb : ∀ (a : Args) (v v2 : Value), ArgOk [fld, fld2] a [v, v2] → ∀ (x : Addr) (kV doc pm : Value) (an : Option Addr) (cdv ct : Value), bindArgs (ksFn "__init__" qual params [supSt msg j p0 p1 p2 p3 p4 p5, putSt fld q1 q2 q3 q4, putSt fld2 r1 r2 r3 r4] scope .none kV doc pm an cdv ct cc) ⟨.ref x :: a.pos, a.kw⟩ = pure [(("self" : Str), .ref x), (fld, v), (fld2, v2)]) :
    Mks prog K mg C [fld, fld2] where
  kC := F.kC
  exC := F.exC
  tyC := F.tyC
  call := fun w A s a us R ha X G hd hq => by
    obtain ⟨v, v2, rfl⟩ : ∃ v v2, us = [v, v2] := by
      have z := ha.len
      match us, z with
      | [v, v2], _ => exact ⟨v, v2, rfl⟩
    refine made_two (F.ini b hs hc hk) S V hno hno2 hff ha X G hd (fun s' x kV doc pm an cdv ct => .of_eq (hb a v v2 ha x kV doc pm an cdv ct)) fun h' tk e d M => hq h' tk e (some d) _ M (by simp) fun y => ?_
    by_cases h2 : y = fld2
    · subst h2
      simp
    · have e2 : (y == fld2) = false := by simpa using h2
      by_cases h : y = fld
      · subst h
        simp [List.lookup, e2, h2]
      · have e : (y == fld) = false := by simpa using h
        simp [h, h2, List.lookup, e, e2]
end
end L2

namespace L2
open PySem PySem.Spec PyProof.Rows ExM
/-- what the clause 'except c as n' wishes: behind the suite the exception is an object that is kept -/
def wAs1T (K : PySem.W.Frag) (c : Value) (i : Nat) (ts : Addr → Value → Option Addr → TS) (Wout : WX) (D : Ends) : WX := fun cls d σ H =>
  ∃ b, PySem.W.exmOne K cls c = some b ∧ (b = true → ∀ a, H a = none → ts a cls d { nx := fun σ' H' => D.nx (σ'.set i none) (upd H' a (exv a cls d)), rt := fun _ _ => False } (σ.set i (some (.ref a))) H) ∧
    (b = false → Wout cls d σ H)
section
variable {X : Cx} {x n : Str} {i : Nat} {body suite : List Stmt} {b₀ : Stmt} {np pos pos' : Pos} {c : Value} {tb : WX → TS} {ts : Addr → Value → Option Addr → TS} {Wout : WX}
theorem ps_try_as1T (hs : X.stack = X.env :: X.outer) (hf : X.env.frame = some X.env.locals) (hN : X.N.Nodup) (hi : X.N[i]? = some n) (hln : X.env.kindOf n = some .local) (hc : Names X x c) (hex : X.ex = []) (tk : Takes X Wout)
    (hb : ∀ (W : WX) (pn : List (Addr × Obj)) (xe : Value → Shared → Prop), Takes (X.tr pn xe) W → PassesOwn (model X.prog X.w) X.A X.env xe → PSs (X.tr pn xe) body (tb W))
    (hsu : ∀ (a : Addr) (oe : Obj) (cls : Value) (d : Option Addr) (pn : List (Addr × Obj)), Zc cls d oe → (∃ vs, oe.data = .fields vs) → PSs (X.suite a ((a, oe) :: pn)) (b₀ :: suite) (ts a cls d)) :
    PS X (.Try body [.ExceptHandler (some (.Name x np)) (some n) (b₀ :: suite) pos'] [] [] pos) (fun D σ H => tb (wAs1T X.K c i ts Wout D) D σ H) := by
  refine ⟨fun pins s σ H D I h => ?_⟩
  have ok := I.ok
  have hfr : X.A.frames = some (X.env :: X.outer) := by rw [ok.frames, hs]
  refine wpAny_Try_except (wpAny_mono ((hb (wAs1T X.K c i ts Wout D) (X.pn ++ pins) (fun e s₁ => wpAny (model X.prog X.w) X.A (noteFrame e X.env) (fun _ s₂ => wpAny (model X.prog X.w) X.A (setFlight e none) (fun _ s₃ =>
    wpAny (model X.prog X.w) X.A (handleBy e X.env [.ExceptHandler (some (.Name x np)) (some n) (b₀ :: suite) pos']) (SP X pins D) X.xe s₃) X.xe s₂) X.xe s₁) (fun u s' xx => ?_) PassesOwn.looking).run [] s σ H D (I.toTry _) h) (fun f s1 hsp => ?_) (fun e s1 he => he))
  · obtain ⟨a, B, sI, pins', σ', H', cls, d, rfl, J', nb, up, sky, na, os, ag, b, hb1, hyes, hno⟩ := xx
    have J : Inv X pins σ' H' sI := J'.ofTry ok
    have sky' : Sky B (X.env :: X.outer) a (Zc cls d) X.env.locals s'.heap := by rw [← hs]; exact sky
    show wpAny (model X.prog X.w) X.A (noteFrame (.ref a) X.env) _ _ _
    refine Sky.land Zc.steady hfr hf sky' fun h3 fl3 up3 => ?_
    have J3 : Inv X pins σ' H' { s' with heap := h3 } := J.landed nb fl3.1 (up.trans up3) os ag
    obtain ⟨oe3, vs3, he3, hz3, hd3⟩ := fl3.there
    have nfr : a ∉ frs (X.env :: X.outer) := fun hm => by
      obtain ⟨_, o', e', hnf⟩ := fl3.2.2.1.mem hm
      rw [he3] at e'
      cases e'
      exact hnf _ hd3
    have nL : a ≠ X.env.locals := fun z => nfr (List.mem_filterMap.mpr ⟨X.env, List.mem_cons_self, by rw [hf, z]⟩)
    have nF : a ∉ X.fs := fun hm => by
      obtain ⟨e, he, q⟩ := List.mem_filterMap.mp hm
      exact nfr (List.mem_filterMap.mpr ⟨e, List.mem_cons_of_mem _ he, q⟩)
    have aB : B.get? a = none := fl3.2.1
    have aI : sI.heap.get? a = none := by
      cases q : sI.heap.get? a with
      | none => rfl
      | some o =>
        have z := nb a o q (by rw [hs]; exact nfr)
        rw [aB] at z
        cases z
    have a0 : X.s_0.heap.get? a = none := by
      cases q : X.s_0.heap.get? a with
      | none => rfl
      | some o =>
        obtain ⟨o', z⟩ := J.base.there a o q (by rw [hex]; exact fun z => nomatch z)
        rw [aI] at z
        cases z
    have apn : ∀ p ∈ X.pn ++ pins, p.1 ≠ a := fun p hp z => by
      obtain ⟨e, _⟩ := J.pin p hp
      rw [z, aI] at e
      cases e
    refine wpAny_handleBy_cons (codeAny_handlers_test ?_) (by intro q; cases q)
    have S3 := J3.suite he3 hd3 na nL nF
    have LT : PySem.W.Looks (model X.prog X.w) h3 (typeOf (.ref a)) cls := fun A Q E s k q => wpAny_typeOf_ref (k _ _ he3) (by rw [hz3.1]; exact q)
    have LM := PySem.W.exm_one (M := model X.prog X.w) (J3.kIn) LT hb1
    have test : ∀ {Q : Value → Shared → Prop} {E : Value → Shared → Prop}, Q c { s' with heap := h3 } → wpAny (model X.prog X.w) (X.A.mark (some (.ref a))) (eval (.Name x np) X.env) Q E { s' with heap := h3 } := fun {Q E} q => by
      obtain ⟨hg, hdbg, hm | ⟨hm, hv, hnn⟩⟩ := hc
      · exact ld_glob (X := X.suite a ((a, oe3) :: (X.pn ++ pins))) S3 hg hm q hdbg
      · exact ld_blt (X := X.suite a ((a, oe3) :: (X.pn ++ pins))) S3 hg hm hv q hnn hdbg
    refine test (LM.here ?_)
    cases b with
    | true =>
      refine codeAny_handlers_suite_as ?_
      refine HandSPX.lands_againZ fl3 fun h4 fl4 up4 => ?_
      have J4 : Inv X pins σ' H' { s' with heap := h4 } := J.landed nb fl4.1 ((up.trans up3).trans up4) os ag
      obtain ⟨oe4, vs4, he4, hz4, hd4⟩ := fl4.there
      have S4 := J4.suite he4 hd4 na nL nF
      refine store_ok (X := X.suite a ((a, oe4) :: (X.pn ++ pins))) (v := .ref a) S4 hN hi (.inl hln) rfl (fun s5 S5 => ?_) (.inr hln)
      refine wpAny_mono ((hsu a oe4 cls d (X.pn ++ pins) hz4 ⟨_, hd4⟩).run [] s5 _ H' _ S5 (hyes rfl a na)) (fun f s6 hsp => ?_) (fun _ _ z => False.elim z)
      have back : ∀ {σ6 : St} {H6 : Hp}, Inv (X.suite a ((a, oe4) :: (X.pn ++ pins))) [] σ6 H6 s6 → Inv X ((a, oe4) :: pins) σ6 H6 s6 := fun {σ6 H6} S6 =>
        ⟨ok, S6.os, S6.bare, S6.base, S6.loc, S6.cell, S6.free, S6.freeC, fun p hp => S6.pin p (by
          rcases List.mem_append.mp hp with z | z
          · exact List.mem_append_left _ (List.mem_cons_of_mem _ (List.mem_append_left _ z))
          · rcases List.mem_cons.mp z with z | z
            · rw [z]
              exact List.mem_append_left _ List.mem_cons_self
            · exact List.mem_append_left _ (List.mem_cons_of_mem _ (List.mem_append_right _ z))), S6.hok, S6.len⟩
      cases f with
      | next =>
        obtain ⟨σ6, H6, S6, q6⟩ := hsp
        refine gone_ok (back S6) hN hi hln fun s7 J7 => ?_
        have e7 := (J7.pin (a, oe4) (List.mem_append_right _ List.mem_cons_self)).1
        exact ⟨_, _, J7.track a0 apn (fun v z => by rw [hd4] at z; cases z) (exv_ok e7 hz4 hd4), q6⟩
      | brk =>
        obtain ⟨σ6, H6, S6, q6⟩ := hsp
        exact False.elim q6
      | cont =>
        obtain ⟨σ6, H6, S6, q6⟩ := hsp
        exact False.elim q6
      | ret u =>
        obtain ⟨v6, σ6, H6, S6, r6, q6⟩ := hsp
        exact False.elim q6
    | false =>
      show wpAny _ X.A (handleBy (.ref a) X.env []) _ _ _
      refine wpAny_handleBy_nil ?_
      obtain ⟨k1, k2, k3, oe, vs, T, oT, ts', he, hz, hd, h1, hr⟩ := id fl3
      unfold PySem.passOn
      refine wpAny_bind (wpAny_field he hd h1 ?_)
      rw [if_neg (show ¬ ((Value.ref T == Value.none) = true) from by simp)]
      have fin : wpAny (model X.prog X.w) X.A (setFlight (.ref a) X.env.frame) (fun _ s4 => wpAny (model X.prog X.w) X.A (throw (.ref a) : Sem Flow) (SP X pins D) X.xe s4) X.xe { s' with heap := h3 } := by
        rw [hf]
        refine HandSPX.setFlight_upZ fl3 fun h4 hh4 up4 => wpAny_throw (tk _ _ ?_)
        exact ⟨a, B, sI, pins, σ', H', cls, d, rfl, J, nb, (up.trans up3).trans up4, .inr (.inr (by rw [hs]; exact hh4)), na, os, ag, hno rfl⟩
      first
        | exact wpAny_bind (wpAny_pure (wpAny_bind fin))
        | exact wpAny_bind fin
  · cases f with
    | next =>
      obtain ⟨σ', H', J', q⟩ := hsp
      exact wpAny_execs_nil ⟨σ', H', J'.ofTry ok, q⟩
    | brk =>
      obtain ⟨σ', H', J', q⟩ := hsp
      exact ⟨σ', H', J'.ofTry ok, q⟩
    | cont =>
      obtain ⟨σ', H', J', q⟩ := hsp
      exact ⟨σ', H', J'.ofTry ok, q⟩
    | ret u =>
      obtain ⟨v, σ', H', J', r, q⟩ := hsp
      exact ⟨v, σ', H', J'.ofTry ok, r, q⟩
end
end L2

/-! repr of data that may be a small dict, and of lists of such. -/
namespace L2
open PySem PySem.Spec PyProof.Rows
/-- data without a dict, or a dict of one int under a text -/
inductive Di (K : PySem.W.Frag) (H : Hp) : V → PyData → Prop
  | dp {v : V} {d : PyData} : Dp K H v d → Di K H v d
  | dic {a : Addr} {k : Str} {i : Int} : H a = some (.dK [(Sum.inr k, .int i)]) → Di K H (.ref a) (.dict [(.str k, .int i)])
inductive DiAll (K : PySem.W.Frag) (H : Hp) : List V → List PyData → Prop
  | nil : DiAll K H [] []
  | cons {v : V} {vs : List V} {d : PyData} {ds : List PyData} : Di K H v d → DiAll K H vs ds → DiAll K H (v :: vs) (d :: ds)
inductive ReadsI (h : Heap) : List Value → List PyData → Prop
  | nil : ReadsI h [] []
  | cons {v : Value} {vs : List Value} {d : PyData} {ds : List PyData} {as : List Addr} : Reads h v d as → (d.hasDict = true → sysModules ∉ as) → ReadsI h vs ds → ReadsI h (v :: vs) (d :: ds)
theorem ReadsI.all {h : Heap} : ∀ {vs : List Value} {ds : List PyData}, ReadsI h vs ds → ∃ as, ReadsAll h vs ds as
  | _, _, .nil => ⟨_, .nil⟩
  | _, _, .cons r _ t => let ⟨_, q⟩ := t.all; ⟨_, .cons r q⟩
theorem ReadsI.repr {prog : Program} {w : World} {h₀ : Heap} : ∀ {vs : List Value} {ds : List PyData}, ReadsI h₀ vs ds → PyData.showableAll ds = true → (∀ t ∈ PyData.shownAll ds, t.length ≤ sizeLine) →
    ∃ bs, ReadAtMost h₀ (PyData.depthAll ds) bs ∧ ReprAllK prog w bs h₀ (PyData.depthAll ds) vs (PyData.shownAll ds)
  | _, _, .nil, _, _ => ⟨[], (fun _ h => nomatch h), by simp only [PyData.shownAll]; exact .nil⟩
  | _, _, .cons (d := d) (ds := ds) r m t, hs, hz => by
    have hs' : d.showable = true ∧ PyData.showableAll ds = true := by simpa [PyData.showableAll] using hs
    obtain ⟨b1, hb1, k1⟩ := ReprK.of_reads (prog := prog) (w := w) r hs'.1 m (hz _ (by simp only [PyData.shownAll]; exact List.mem_cons_self ..))
    obtain ⟨b2, hb2, k2⟩ := ReadsI.repr (prog := prog) (w := w) t hs'.2 (fun t ht => hz t (by simp only [PyData.shownAll]; exact List.mem_cons_of_mem _ ht))
    have l1 : d.depth ≤ PyData.depthAll (d :: ds) := by simp only [PyData.depthAll]; omega
    have l2 : PyData.depthAll ds ≤ PyData.depthAll (d :: ds) := by simp only [PyData.depthAll]; omega
    refine ⟨b1 ++ b2, (hb1.mono l1).append (hb2.mono l2), ?_⟩
    simp only [PyData.depthAll, PyData.shownAll]
    have k1' : ReprK prog w b1 h₀ d.depth _ _ := k1
    exact .cons ((k1'.more fun b hb => List.mem_append_left _ hb).level_le (Nat.le_max_left _ _)) (k2.more_le (fun b hb => List.mem_append_right _ hb) (Nat.le_max_right _ _))
section
variable {X : Cx} {pins : List (Addr × Obj)} {σ : St} {H : Hp} {s : Shared}
theorem Di.reads (I : Inv X pins σ H s) {d : PyData} {v : V} {u : Value} (h : Di X.K H v d) (r : RelV v u) : ∃ as, Reads s.heap u d as ∧ (d.hasDict = true → sysModules ∉ as) := by
  cases h with
  | dp h =>
    obtain ⟨as, q⟩ := Dp.reads I d v u h r
    exact ⟨as, q, fun z => by rw [Dp.noDict h] at z; cases z⟩
  | @dic a k i hs =>
    cases r
    obtain ⟨_, hne, vs, rel, o, es, ep, ho, ⟨hx, _, _⟩, hd, _, hp, _⟩ := dk_of I.hok hs
    cases rel with
    | @cons _ q _ qs r1 r2 =>
      cases r2
      obtain ⟨qk, qv⟩ := q
      obtain ⟨e1, rv⟩ := r1
      dsimp only at e1 rv
      subst e1
      cases es with
      | mk es =>
      cases hp with
      | @cons e _ es' _ hk hv' hp' =>
        cases hp'
        rcases keyIs_shape (show keyIs (Sum.inr k) e.key = true from hk) with ⟨_, _, e2, _⟩ | ⟨y, t, e2, e3⟩
        · cases e2
        · cases e2
          dsimp only at hv'
          obtain ⟨tt, rfl⟩ := rv
          refine ⟨_, Reads.dict ho hx hd (kvs := [(.str k, .int i)]) (as := [] ++ []) (bs := [] ++ []) ?_ ?_, fun _ h => ?_⟩
          · exact .cons (by dsimp only; rw [e3]; exact .str _ _) .nil
          · exact .cons (by dsimp only; rw [hv']; exact .int _ _) .nil
          · simp only [List.append_nil, List.mem_cons, List.not_mem_nil, or_false] at h
            rw [← h] at hne
            exact absurd hne (by decide)
theorem DiAll.reads (I : Inv X pins σ H s) : ∀ {ds : List PyData} {vs : List V} {us : List Value}, DiAll X.K H vs ds → Vals vs us → ReadsI s.heap us ds
  | [], _, _, h, r => by
    cases h
    cases r
    exact .nil
  | d :: ds, _, _, h, r => by
    cases h with
    | cons h1 h2 =>
      cases r with
      | cons r1 r2 =>
        obtain ⟨as, q, m⟩ := Di.reads I h1 r1
        exact .cons q m (DiAll.reads I h2 r2)
end
/-- repr(v) -/
def rRepr1 (K : PySem.W.Frag) : List V → Hp → VK → Prop := fun xs H Q => ∃ v d, xs = [v] ∧ Di K H v d ∧ d.showable = true ∧ d.shown.length ≤ sizeLine ∧ d.depth ≤ 60 ∧ Q (.str d.shown) H
/-- repr(xs), xs a list of such -/
def rReprL (K : PySem.W.Frag) : List V → Hp → VK → Prop := fun xs H Q => ∃ a vs ds, xs = [.ref a] ∧ SqL K H a vs ∧ DiAll K H vs ds ∧ (PyData.list ds).showable = true ∧ (PyData.list ds).shown.length ≤ sizeLine ∧ PyData.depthAll ds ≤ 60 ∧ Q (.str (PyData.list ds).shown) H
theorem call_repr1 {X : Cx} (hg : X.A.guards = some []) (hu : X.A.units + 64 < cLine) : CallR X (.builtin "repr") (rRepr1 X.K) := by
  intro pins s σ H xs us Q I r h
  obtain ⟨v, d, rfl, hd, hs, hz, hdp, q⟩ := h
  cases r with
  | @cons _ u _ us r1 r2 =>
    cases r2
    show wpAny _ _ (call (.builtin "repr") [u]) _ _ _
    obtain ⟨as, rd, hm⟩ := Di.reads I hd r1
    cases rd with
    | none => exact P.repr_of_none ⟨.str _, H, I.tok _, ⟨_, rfl⟩, by simpa [PyData.shown] using q⟩
    | bool b => exact P.repr_of_bool ⟨.str _, H, I.tok _, ⟨_, rfl⟩, by simpa [PyData.shown] using q⟩
    | int i t => exact P.repr_of_int (by simpa [PyData.showable] using hs) ⟨.str _, H, I.tok _, ⟨_, rfl⟩, by simpa [PyData.shown] using q⟩
    | str x t => exact P.repr_of_str ⟨.str _, H, I.tok _, ⟨_, rfl⟩, by simpa [PyData.shown] using q⟩ (by simpa [PyData.shown] using hz)
    | list h1 h2 h3 h4 =>
      exact repr_of_reads' (.list h1 h2 h3 h4) hs hm hg (by omega) (fun _ _ e => e) (fun h' u tk k => ⟨.str _, H, I.kept (t' := tk) k, ⟨_, rfl⟩, q⟩) hz
    | tuple h1 h2 h3 h4 =>
      exact repr_of_reads' (.tuple h1 h2 h3 h4) hs hm hg (by omega) (fun _ _ e => e) (fun h' u tk k => ⟨.str _, H, I.kept (t' := tk) k, ⟨_, rfl⟩, q⟩) hz
    | dict h1 h2 h3 h4 h5 =>
      exact repr_of_reads' (.dict h1 h2 h3 h4 h5) hs hm hg (by omega) (fun _ _ e => e) (fun h' u tk k => ⟨.str _, H, I.kept (t' := tk) k, ⟨_, rfl⟩, q⟩) hz
theorem call_reprL {X : Cx} (hg : X.A.guards = some []) (hu : X.A.units + 64 < cLine) : CallR X (.builtin "repr") (rReprL X.K) := by
  intro pins s σ H xs us Q I r h
  obtain ⟨a, vs, ds, rfl, hS, hd, hs, hz, hdp, q⟩ := h
  cases r with
  | @cons _ u _ us r1 r2 =>
    cases r2
    cases r1
    show wpAny _ _ (call (.builtin "repr") [.ref a]) _ _ _
    obtain ⟨its, rv, ⟨o, n, h1, h2, _, h3⟩, _⟩ := I.list hS
    have RI := DiAll.reads I hd rv
    obtain ⟨as, h4⟩ := RI.all
    have hz' : (listText (PyData.shownAll ds)).length ≤ sizeLine := by simpa only [PyData.shown] using hz
    obtain ⟨bs, hb, hk⟩ := RI.repr (prog := X.prog) (w := X.w) (by simpa [PyData.showable] using hs) (fun t ht => Nat.le_trans (listText_mem_le ht) hz')
    have h4' : ReadsAll s.heap its.toArray.toList ds as := by simpa using h4
    have hna : a ∉ bs := not_mem_of_deeper (.list h1 h2 h3 h4') (by simp only [PyData.depth]; omega) hb
    have fin : ∀ {h' u tk}, (∀ b o, s.heap.get? b = some o → h'.get? b = some o) → EP X pins σ Q (.str (PyData.list ds).shown u) { s with heap := h', toks := tk } := fun {h' u tk} k => ⟨.str _, H, I.kept (t' := tk) k, ⟨_, rfl⟩, q⟩
    refine call_repr_slot (by omega) ⟨o, h1, h2⟩ F.slot_list_repr.toG ?_
    cases its with
    | nil =>
      cases h4
      have e : (PyData.list []).shown = ("[]" : Str) := by simp only [PyData.shown, PyData.shownAll, listText_nil]
      refine call_list_repr_empty ⟨o, h1, h2⟩ h1 h3 ⟨_, _, rfl, ?_⟩
      rw [← e]
      exact fin fun _ _ e => e
    | cons x l =>
      refine call_list_reprK h1 h2 h3 hna (by simpa using hk.length_eq) (fun i y e => hk.item i y (by simpa using e)) hg (fun b _ => Clear.nil b) (by show X.A.units + 1 + _ < _; omega) (fun _ _ e => e) (fun h' u tk k => ⟨_, _, rfl, ?_⟩) hz'
      have := fin (h' := h') (u := u) (tk := tk) k
      simpa only [PyData.shown] using this
end L2

/-! General readings (any law): data that is small, made exceptions, texts that are compared. -/
namespace L2
open PySem PySem.Spec PyProof.Rows Evl
section
variable {K : PySem.W.Frag} {σ : L2.St} {H : Hp} {ta tb : TE}
/-- xs + ys, both lists tracked: a new list -/
theorem el_cat {l : Addr} {xs ys : List V} (ha : Ev ta σ H (.ref l)) (hl : H l = some (.lst xs)) (hb : EvL tb σ H ys) (hz : xs.length + ys.length ≤ 100000) : EvL (tOp rCat ta tb) σ H (xs ++ ys) := fun H1 e Q q =>
  ha H1 e _ fun H2 e2 => hb H2 (e.trans e2) _ fun b H3 hb0 e3 hb3 => ⟨l, b, xs, ys, rfl, rfl, e3 _ _ (e2 _ _ (e _ _ hl)), hb3, sz_of hz, fun p hp => q p _ (fresh_back (e2.trans e3) hp) ((e2.trans e3).trans (Ex.new hp)) upd_same⟩
end
end L2
namespace L2
open PySem PySem.Spec PyProof.Rows Evl
mutual
theorem Dp.ex {K : PySem.W.Frag} {H H' : Hp} (e : Ex H H') : ∀ {v : V} {d : PyData}, Dp K H v d → Dp K H' v d
  | _, .none, h => by cases h; exact .non
  | _, .bool _, h => by cases h; exact .bl _
  | _, .int _, h => by cases h; exact .int _
  | _, .str _, h => by cases h; exact .str _
  | _, .list ds, h => by
    cases h with
    | lst hs ha => exact .lst (ex_l e hs) (DpAll.ex e ha)
  | _, .tuple ds, h => by
    cases h with
    | tup hs ha => exact .tup (ex_t e hs) (DpAll.ex e ha)
  | _, .dict _, h => by cases h
theorem DpAll.ex {K : PySem.W.Frag} {H H' : Hp} (e : Ex H H') : ∀ {vs : List V} {ds : List PyData}, DpAll K H vs ds → DpAll K H' vs ds
  | _, [], h => by cases h; exact .nil
  | _, d :: ds, h => by
    cases h with
    | cons h1 h2 => exact .cons (Dp.ex e h1) (DpAll.ex e h2)
end
theorem Di.ex {K : PySem.W.Frag} {H H' : Hp} (e : Ex H H') {v : V} {d : PyData} : Di K H v d → Di K H' v d
  | .dp h => .dp (h.ex e)
  | .dic h => .dic (e _ _ h)
theorem DiAll.ex {K : PySem.W.Frag} {H H' : Hp} (e : Ex H H') : ∀ {vs : List V} {ds : List PyData}, DiAll K H vs ds → DiAll K H' vs ds
  | _, _, .nil => .nil
  | _, _, .cons h t => .cons (h.ex e) (t.ex e)
/-- small data: shown in four thousand signs at most -/
structure Sm (d : PyData) : Prop where
  a : d.showable = true
  b : d.shown.length ≤ 4000
  c : d.depth ≤ 3
inductive SmAll : List PyData → Prop
  | nil : SmAll []
  | cons {d : PyData} {ds : List PyData} : Sm d → SmAll ds → SmAll (d :: ds)
theorem SmAll.show : ∀ {ds : List PyData}, SmAll ds → PyData.showableAll ds = true ∧ ((PyData.shownAll ds).map fun t => t.length + 2).sum ≤ 4002 * ds.length ∧ PyData.depthAll ds ≤ 3
  | _, .nil => ⟨by simp [PyData.showableAll], by simp [PyData.shownAll], by simp [PyData.depthAll]⟩
  | _, .cons (d := d) (ds := ds) h t => by
    obtain ⟨a, b, c⟩ := t.show
    refine ⟨by simp [PyData.showableAll, h.a, a], ?_, ?_⟩
    · simp only [PyData.shownAll, List.map_cons, List.sum_cons, List.length_cons]
      have := h.b
      omega
    · simp only [PyData.depthAll]
      have := h.c
      omega
theorem SmAll.list {ds : List PyData} (h : SmAll ds) (hl : ds.length ≤ 100) : (PyData.list ds).showable = true ∧ (PyData.list ds).shown.length ≤ sizeLine ∧ PyData.depthAll ds ≤ 60 := by
  obtain ⟨a, b, c⟩ := h.show
  refine ⟨by simpa [PyData.showable] using a, ?_, by omega⟩
  simp only [PyData.shown, listText]
  rw [strLen_append, sizeLine_eq]
  have := textFrom_cap (PyData.shownAll ds) 0 "["
  have e1 : (("[" : Str)).length = 1 := by decide
  have e2 : (("]" : Str)).length = 1 := by decide
  omega
section
variable {K : PySem.W.Frag} {σ : L2.St} {H : Hp} {ta tb te : TE}
theorem ev_repr1 {v : V} {d : PyData} (h : Ev te σ H v) (hd : Di K H v d) (s : Sm d) : Ev (tCB (rRepr1 K) (tCons te tNil)) σ H (.str d.shown) :=
  ev_cb (ea_cons h ea_nil) fun H1 e Q q => ⟨v, d, rfl, hd.ex e, s.a, Nat.le_trans s.b (by rw [sizeLine_eq]; omega), Nat.le_trans s.c (by decide), q H1 (Ex.refl H1)⟩
theorem ev_reprL {vs : List V} {ds : List PyData} (h : EvL te σ H vs) (hd : DiAll K H vs ds) (s : SmAll ds) (hl : ds.length ≤ 100) : Ev (tCB (rReprL K) (tCons te tNil)) σ H (.str (PyData.list ds).shown) := fun H1 e Q q =>
  h H1 e _ fun p H2 hp e2 h2 => ⟨p, vs, ds, rfl, sq_of h2, hd.ex (e.trans e2), (s.list hl).1, (s.list hl).2.1, (s.list hl).2.2, q H2 e2⟩
theorem ev_reprV {a : Addr} {vs : List V} {ds : List PyData} (h : Ev te σ H (.ref a)) (ha : H a = some (.lst vs)) (hd : DiAll K H vs ds) (s : SmAll ds) (hl : ds.length ≤ 100) : Ev (tCB (rReprL K) (tCons te tNil)) σ H (.str (PyData.list ds).shown) := fun H1 e Q q =>
  h H1 e _ fun H2 e2 => ⟨a, vs, ds, rfl, sq_of (e2 _ _ (e _ _ ha)), hd.ex (e.trans e2), (s.list hl).1, (s.list hl).2.1, (s.list hl).2.2, q H2 e2⟩
/-- two equal texts are not unlike -/
theorem ev_neS {z : Str} (ha : Ev ta σ H (.str z)) (hb : Ev tb σ H (.str z)) : EvT (tTest (tOp rNe ta tb)) σ H false :=
  et_test (ev_is (ev_op ha hb (rv_ne rfl)) (by simp))
/-- xs * k: a new list -/
theorem el_rep {xs : List V} {k : Int} (ha : EvL ta σ H xs) (hb : ∀ H1, Ev tb σ H1 (.int k)) (h0 : 0 ≤ k ∧ k ≤ 100) (hz : xs.length ≤ 100) : EvL (tOp rRep ta tb) σ H (List.replicate k.toNat xs).flatten := fun H1 e Q q =>
  ha H1 e _ fun l H2 hl e2 h2 => hb H2 H2 (Ex.refl _) _ fun H3 e3 => ⟨l, k, xs, rfl, rfl, e3 _ _ h2, by omega, by omega, by
    have : k.toNat ≤ 100 := by omega
    have : xs.length * k.toNat ≤ 100 * 100 := Nat.mul_le_mul hz this
    rw [sizeLine_eq]; omega, fun p hp => q p _ (fresh_back (e2.trans e3) hp) ((e2.trans e3).trans (Ex.new hp)) upd_same⟩
end
end L2
namespace Toy
open PySem L2 Evl
def nmN : Nat → Str
  | 0 => "SpanError" | 1 => "BadBase" | 2 => "BadNumber" | 3 => "BadDigits" | 4 => "BadRange" | 5 => "BadRule" | 6 => "BadReader" | 7 => "BadManner" | 8 => "BadEntry" | 9 => "BadName"
  | 10 => "BadText" | 11 => "OtherBase" | 12 => "TooMany" | 13 => "Missing" | _ => "NothingLeft"
/-- an exception that is kept at e, of the class at C -/
def ExAt (H : Hp) (e C : Addr) (d : Option Addr) : Prop := H e = some (exv e (.ref C) d) ∧ ∀ dx, d = some dx → ∃ fs, H dx = some (.xd fs)
theorem ExAt.ex {H H' : Hp} {e C : Addr} {d : Option Addr} (x : ExAt H e C d) (k : Ex H H') : ExAt H' e C d := ⟨k _ _ x.1, fun dx z => let ⟨fs, h⟩ := x.2 dx z; ⟨fs, k _ _ h⟩⟩
section
variable {K : PySem.W.Frag}
/-- e.f as a reading -/
theorem ev_xf {σ : St} {H : Hp} {f : Str} {te : TE} {e C d : Addr} {fs : List (Str × V)} {v : V} (h : Ev te σ H (.ref e)) (x : ExAt H e C (some d)) (hd : H d = some (.xd fs)) (T : XcC K C) (no : PySem.W.findIn K (.ref C) f = some none) (l : fs.lookup f = some v) :
    Ev (tXfT K f te) σ H v := fun H1 k Q q => h H1 k _ fun H2 k2 => ⟨e, C, d, fs, v, rfl, (x.ex (k.trans k2)).1, k2 _ _ (k _ _ hd), T, no, l, q H2 k2⟩
end
theorem shaped_bls (bs : List Bool) : SeqAt.shaped (.list (bs.map PyData.bool)) = true := by
  have lay : ∀ bs : List Bool, PyData.canLayAll0 (bs.map PyData.bool) = true := fun bs => by
    induction bs with
    | nil => rfl
    | cons n ns ih => simp only [List.map_cons, PyData.canLayAll0, PyData.canLay0, ih, Bool.and_self]
  have dep : ∀ bs : List Bool, PyData.depthAll (bs.map PyData.bool) ≤ 1 := fun bs => by
    induction bs with
    | nil => simp [PyData.depthAll]
    | cons n ns ih => simp only [List.map_cons, PyData.depthAll, PyData.depth]; omega
  have h := dep bs
  refine Bool.and_eq_true_iff.mpr ⟨?_, decide_eq_true ?_⟩
  · simpa only [PyData.canLay0] using lay bs
  · simp only [PyData.depth]
    omega
theorem dpAll_bls {K : PySem.W.Frag} {H : Hp} : ∀ bs : List Bool, DpAll K H (bs.map V.bl) (bs.map PyData.bool)
  | [] => .nil
  | b :: bs => .cons (.bl b) (dpAll_bls bs)
/-- two lists of the same truths are not unlike -/
theorem et_neB {K : PySem.W.Frag} {σ : St} {H : Hp} {ta tb : TE} {bs : List Bool} (ha : EvL ta σ H (bs.map V.bl)) (hb : EvL tb σ H (bs.map V.bl)) : EvT (tTest (tOp (rNeD K) ta tb)) σ H false :=
  et_test (ev_opLL ha hb fun p q H1 hp hq e => fun H2 e2 Q k => ⟨_, _, .lst (sq_of (e2 _ _ hp)) (dpAll_bls bs), .lst (sq_of (e2 _ _ hq)) (dpAll_bls bs), shaped_bls bs, shaped_bls bs, by
    rw [SeqAt.eqv_refl _ (Bool.and_eq_true_iff.mp (shaped_bls bs)).1]
    exact k _ (Ex.refl _)⟩)
/-- an exception of the class at C with one field -/
def Made1 (H : Hp) (e C : Addr) (f : Str) (v : V) : Prop := ∃ d, ExAt H e C (some d) ∧ H d = some (.xd [(f, v)])
theorem Made1.ex {H H' : Hp} {e C : Addr} {f : Str} {v : V} (x : Made1 H e C f v) (k : Ex H H') : Made1 H' e C f v := let ⟨d, a, b⟩ := x; ⟨d, a.ex k, k _ _ b⟩
def EvM (te : TE) (σ : St) (H : Hp) (C : Addr) (f : Str) (v : V) : Prop := ∀ H1, Ex H H1 → ∀ Q : VK, (∀ e H2, H1 e = none → Ex H1 H2 → Made1 H2 e C f v → Q (.ref e) H2) → te σ H1 Q
theorem em_mk {σ : St} {H : Hp} {te : TE} {C : Addr} {f : Str} {v : V} (h : Ev te σ H v) : EvM (tMkv C [f] (tCons te tNil)) σ H C f v := fun H1 e Q q =>
  h H1 e _ fun H2 e2 => ⟨rfl, fun x d hx hd hne => by
    have hx' : (upd H2 d (.xd [(f, v)])) x = none := by
      rw [upd_ne (Ne.symm hne)]
      exact hx
    exact q x _ (fresh_back e2 hx) (e2.trans ((Ex.new hd).trans (Ex.new hx'))) ⟨d, ⟨upd_same, fun dx z => by cases z; exact ⟨_, (Ex.new hx') _ _ upd_same⟩⟩, (Ex.new hx') _ _ upd_same⟩⟩
theorem ev_xfM {K : PySem.W.Frag} {σ : St} {H : Hp} {te : TE} {C : Addr} {f : Str} {v : V} (h : EvM te σ H C f v) (T : XcC K C) (no : PySem.W.findIn K (.ref C) f = some none) : Ev (tXfT K f te) σ H v := fun H1 k Q q =>
  h H1 k _ fun e H2 he e2 ⟨d, x, hd⟩ => ⟨e, C, d, _, v, rfl, x.1, hd, T, no, by simp [List.lookup], q H2 e2⟩
/-- a value of the law: data that is small -/
def Val (K : PySem.W.Frag) (H : Hp) (v : V) : Prop := ∃ d, Di K H v d ∧ Sm d
theorem sm_int {i : Int} (h : i.natAbs < 2 ^ 200) : Sm (.int i) := by
  have hl : i.natAbs.log2 < 1920 := by
    by_cases hz : i.natAbs = 0
    · rw [hz]; decide
    · exact Nat.lt_of_lt_of_le ((Nat.log2_lt hz).mpr h) (by decide)
  obtain ⟨a, b⟩ := shown_cap (.int i) (by simpa [plainD] using hl)
  exact ⟨a, Nat.le_trans b (by simp [cap]), by simp [PyData.depth]⟩
theorem Val.ex {K : PySem.W.Frag} {H H' : Hp} {v : V} (x : Val K H v) (e : Ex H H') : Val K H' v := let ⟨d, a, b⟩ := x; ⟨d, a.ex e, b⟩
theorem et_andF {σ : St} {H : Hp} {t u : TT} {a : Bool} (h1 : EvT t σ H a) (h2 : a = true → EvT u σ H false) : EvT (tAnd t u) σ H false := et_is (et_and h1 h2) (by simp)
theorem mk_at {H : Hp} {x d C : Addr} {f : Str} {v : V} (hx : H x = none) (hd : H d = none) (hne : d ≠ x) : Ex H (upd (upd H d (.xd [(f, v)])) x (exv x (.ref C) (some d))) ∧ Made1 (upd (upd H d (.xd [(f, v)])) x (exv x (.ref C) (some d))) x C f v := by
  have hx' : (upd H d (.xd [(f, v)])) x = none := by
    rw [upd_ne (Ne.symm hne)]
    exact hx
  exact ⟨(Ex.new hd).trans (Ex.new hx'), d, ⟨upd_same, fun dx z => by cases z; exact ⟨_, (Ex.new hx') _ _ upd_same⟩⟩, (Ex.new hx') _ _ upd_same⟩
theorem any_end {A : Hp → Prop} {G : Hp → Prop} {Hf : Hp} (a : A Hf) (k : ∀ Hf, A Hf → G Hf) : G Hf := k Hf a
theorem mk2_at {H : Hp} {x d C : Addr} {f f2 : Str} {a b : V} (hx : H x = none) (hd : H d = none) (hne : d ≠ x) : Ex H (upd (upd H d (.xd [(f2, b), (f, a)])) x (exv x (.ref C) (some d))) ∧ ExAt (upd (upd H d (.xd [(f2, b), (f, a)])) x (exv x (.ref C) (some d))) x C (some d) ∧ (upd (upd H d (.xd [(f2, b), (f, a)])) x (exv x (.ref C) (some d))) d = some (.xd [(f2, b), (f, a)]) := by
  have hx' : (upd H d (.xd [(f2, b), (f, a)])) x = none := by
    rw [upd_ne (Ne.symm hne)]
    exact hx
  exact ⟨(Ex.new hd).trans (Ex.new hx'), ⟨upd_same, fun dx z => by cases z; exact ⟨_, (Ex.new hx') _ _ upd_same⟩⟩, (Ex.new hx') _ _ upd_same⟩
end Toy

namespace Dr
open PySem L2
def top (i : Nat) : Stmt := PySem.Challenge.pw_shortspans_k05_whole_styles_refused.main.body.getD i (.Pass ⟨0, 0, 0, 0⟩)
abbrev sMixed : Stmt := top 52
abbrev sBegin : Stmt := top 53
abbrev sDraw : Stmt := top 54
abbrev sOf : Stmt := top 55
/-- the built-ins that the draws name -/
structure TxB (mg : Str → Option Value) : Prop where
  int : mg "int" = none
  len : mg "len" = none
  list : mg "list" = none
section
variable {P : Program} {w : World} {K : PySem.W.Frag} {mg : Str → Option Value} {base : Heap}
def spMixed : Sp := fun vs H Q _ => ∃ c k : Int, vs = [.int c, .int k] ∧ 0 ≤ k ∧ k < 2 ^ 40 ∧ ∀ r : Int, 0 ≤ r → r < 2147483629 → Q (.int r) H
theorem scMixed : FnScope ["cell", "k"] ["cell", "k"] (defScope sMixed) := ⟨rfl, rfl, rfl, by decide +kernel, rfl, by decide +kernel, by decide +kernel⟩
theorem ok_mixed {f : Addr} {fd : FuncData} (F : Fun K "_law_mixed" "_law_mixed" sMixed f fd) (T : TxB mg) : FnOk P w K mg base CX0 1 f fd ["cell", "k"] spMixed := by
  refine F.ok scMixed (fun vs H Q E h => ?_) (fun cdv A outer s H vs Q E hr h => ?_)
  · obtain ⟨c, k, rfl, _⟩ := h
    rfl
  · obtain ⟨c, k, rfl, h0, h1, q⟩ := h
    refine ⟨_, pss_cons (ps_set (i := 0) scMixed.nd rfl (.inl rfl) (pe_op op_mod (pe_callTy call_int1 (by rfl) T.int (by decide +kernel) (pa_cons (pv 0) pa_nil)) pe_int))
      (pss_one (ps_ret (pe_op op_mod (pe_op op_mul (pe_op op_mod (pe_op op_add (pe_op op_add (pe_op op_mul (pv 0) (pe_op op_add pe_int (pe_op op_mul (pe_op op_mul pe_int (pv 1)) (pv 1)))) (pe_op op_mul pe_int (pv 1))) pe_int) pe_int) pe_int) pe_int))), ?_⟩
    have e0 : (0 : Int) < 2147483647 := by decide
    have e1 : (0 : Int) < 2147483629 := by decide
    have a0 := Int.emod_nonneg c (Int.ne_of_gt e0)
    have a1 := Int.emod_lt_of_pos c e0
    refine ⟨_, rfl, .inl ⟨_, rfl, _, _, rfl, rfl, e0, ?_⟩⟩
    refine ⟨_, rfl, _, rfl, _, _, rfl, rfl, .inl ⟨by decide, by decide⟩, _, rfl, _, _, rfl, rfl, .inl ⟨by omega, by omega⟩, _, _, rfl, rfl, _, _, rfl, rfl, .inl ⟨by omega, by omega⟩, _, rfl, _, _, rfl, rfl, .inl ⟨by decide, by decide⟩, _, _, rfl, rfl, _, _, rfl, rfl, _, _, rfl, rfl, e0, _, _, rfl, rfl, .inl ⟨?_, ?_⟩, _, _, rfl, rfl, e1, ?_⟩
    · exact Int.lt_of_lt_of_le (by decide) (Int.emod_nonneg _ (Int.ne_of_gt e0))
    · exact Int.lt_trans (Int.emod_lt_of_pos _ e0) (by decide)
    · exact q _ (Int.emod_nonneg _ (Int.ne_of_gt e1)) (Int.emod_lt_of_pos _ e1)
end
end Dr
namespace Dr
open PySem L2
/-- the drawer's state: at p, its cells at c, what is left of the great ones at l; a draws were made -/
structure StAt (H : Hp) (p c l : Addr) (n : Nat) (a : Int) : Prop where
  d : H p = some (.dK [(Sum.inr "cells", .ref c), (Sum.inr "lefts", .ref l), (Sum.inr "at", .int a)])
  c : ∃ cs : List Int, H c = some (.lst (cs.map V.int)) ∧ cs.length = n
  l : ∃ ls : List Int, H l = some (.lst (ls.map V.int)) ∧ ls.length = n
  n0 : 0 < n
  n1 : n ≤ 63
  a0 : 0 ≤ a
theorem StAt.ne {H : Hp} {p c l : Addr} {n : Nat} {a : Int} (S : StAt H p c l n a) : p ≠ c ∧ p ≠ l := by
  obtain ⟨cs, hc, _⟩ := S.c
  obtain ⟨ls, hl, _⟩ := S.l
  exact ⟨ne_of S.d hc (by intro z; cases z), ne_of S.d hl (by intro z; cases z)⟩
/-- all that was tracked stands, but for the drawer's own dict and list -/
def SameB (H H' : Hp) (p l : Addr) : Prop := ∀ b o, H b = some o → b ≠ p → b ≠ l → H' b = some o
section
variable {P : Program} {w : World} {K : PySem.W.Frag} {mg : Str → Option Value} {base : Heap}
def spBegin (K : PySem.W.Frag) : Sp := fun vs H Q _ => ∃ (s : Addr) (ns : List Int), vs = [.ref s] ∧ SqL K H s (ns.map V.int) ∧ ns.length ≤ 63 ∧
  ∀ (p c l : Addr) (n : Nat) (H' : Hp), Same H H' → H p = none → H l = none → StAt H' p c l n 0 → l ≠ c → Q (.ref p) H'
theorem scBegin : FnScope ["script", "cells", "cell"] ["script"] (defScope sBegin) := ⟨rfl, rfl, rfl, by decide +kernel, rfl, by decide +kernel, by decide +kernel⟩
abbrev kC : Key := Sum.inr ("cells" : Str)
abbrev kL : Key := Sum.inr ("lefts" : Str)
abbrev kA : Key := Sum.inr ("at" : Str)
theorem k12 : ¬ kC = kL := by decide +kernel
theorem k13 : ¬ kC = kA := by decide +kernel
theorem k23 : ¬ kL = kA := by decide +kernel
abbrev dk3 (a b c : V) : List (Key × V) := [(kC, a), (kL, b), (kA, c)]
theorem merge3 (a b c : V) : mergeK [] (dk3 a b c) = dk3 a b c := by
  have d12 : decide (kC = kL) = false := decide_eq_false k12
  have d13 : decide (kC = kA) = false := decide_eq_false k13
  have d23 : decide (kL = kA) = false := decide_eq_false k23
  simp only [mergeK, List.foldl_cons, List.foldl_nil, putK, List.any_nil, Bool.false_eq_true, if_false, List.nil_append, List.any_cons, d12, d13, d23, Bool.or_false, List.cons_append]
theorem put_at (a b c z : V) : putK (dk3 a b c) kA z = dk3 a b z := by
  have d13 : decide (kC = kA) = false := decide_eq_false k13
  have d23 : decide (kL = kA) = false := decide_eq_false k23
  simp only [putK, List.any_cons, List.any_nil, d13, d23, Bool.false_or, Bool.or_false, decide_true, if_true, List.map_cons, List.map_nil, if_neg k13, if_neg k23]
theorem val_cells (a b c : V) : valV (dk3 a b c) kC = some a := valV_pos rfl
theorem val_lefts (a b c : V) : valV (dk3 a b c) kL = some b := (valV_neg k12).trans (valV_pos rfl)
theorem val_at (a b c : V) : valV (dk3 a b c) kA = some c := (valV_neg k13).trans ((valV_neg k23).trans (valV_pos rfl))
theorem lay_ints : ∀ ns : List Int, PyData.canLayAll0 (ns.map PyData.int) = true
  | [] => rfl
  | n :: ns => by
    simp only [List.map_cons, PyData.canLayAll0, PyData.canLay0, lay_ints ns, Bool.and_self]
theorem depth_ints : ∀ ns : List Int, PyData.depthAll (ns.map PyData.int) ≤ 1
  | [] => by simp [PyData.depthAll]
  | n :: ns => by
    have := depth_ints ns
    simp only [List.map_cons, PyData.depthAll, PyData.depth]
    omega
theorem shaped_ints (ns : List Int) : SeqAt.shaped (.list (ns.map PyData.int)) = true := by
  have h := depth_ints ns
  refine Bool.and_eq_true_iff.mpr ⟨?_, decide_eq_true ?_⟩
  · simpa only [PyData.canLay0] using lay_ints ns
  · simp only [PyData.depth]
    omega
theorem eqv_nil (ns : List Int) : PyData.eqv (.list (ns.map .int)) (.list []) = decide (ns = []) := by
  cases ns with
  | nil => simp [PyData.eqv, PyData.eqvAll]
  | cons n ns => simp [PyData.eqv, PyData.eqvAll]
theorem dpAll_ints {K : PySem.W.Frag} {H : Hp} : ∀ ns : List Int, DpAll K H (ns.map V.int) (ns.map PyData.int)
  | [] => .nil
  | n :: ns => .cons (.int n) (dpAll_ints ns)
theorem ok_begin {f : Addr} {fd : FuncData} (F : Fun K "_law_begin" "_law_begin" sBegin f fd) (T : TxB mg) : FnOk P w K mg base CX0 1 f fd ["script"] (spBegin K) := by
  refine F.ok scBegin (fun vs H Q E h => ?_) (fun cdv A outer s H vs Q E hr h => ?_)
  · obtain ⟨s, ns, rfl, _⟩ := h
    rfl
  · obtain ⟨sc, ns, rfl, hS, hlen, q⟩ := h
    refine ⟨_, pss_cons (ps_set (i := 1) scBegin.nd rfl (.inl rfl) (pe_ifExp (pt_cmpR (op_neD hr.units) (pv 0) (pe_lst pa_nil) (nomark _)) (pe_callTy call_list_of (by rfl) T.list (by decide +kernel) (pa_cons (pv 0) pa_nil)) (pe_lst (pa_cons pe_int pa_nil))))
      (pss_one (ps_ret (pe_disp (pps_cons pe_str (pv 1) (pps_cons pe_str (pe_lc (own := [("cell", 2)]) (g := gName 2) (tt := tYes) rfl scBegin.nd (pi_list (pv 1)) (blkOk_by (N := ["script", "cells", "cell"]) (sc := defScope sBegin) (by decide +kernel))
        (fun _ _ _ _ _ => pg_name (i := 2) scBegin.nd rfl (Or.inl rfl)) (fun _ _ _ _ _ => pts_nil) (fun _ _ _ _ _ => pe_ifExp (pt_cmpR op_ge (pv 2) (pe_op op_pow pe_int pe_int) (nomark _)) (pv 2) pe_int)) (pps_cons pe_str pe_int pps_nil))) (by rfl) (by rfl) (fun z => by cases z) (by decide)))), ?_⟩
    refine ⟨_, rfl, (by show (0:Nat) ≤ sizeLine; rw [sizeLine_eq]; omega), fun p0 np0 => ?_⟩
    refine ⟨.list (ns.map .int), .list [], .lst ((Same.seq (fun b o e => by rw [upd_ne (ne_of_none e np0)]; exact e) hS)) (dpAll_ints ns), .lst (SqL.of upd_same) .nil, shaped_ints ns, by decide +kernel, ?_⟩
    rw [eqv_nil]
    have sp0 : Same H (upd H p0 (.lst [])) := fun b o e => by
      rw [upd_ne (ne_of_none e np0)]
      exact e
    have sel : ∃ b : Bool, (!decide (ns = [])) = b ∧ ∀ G : Addr → Hp → Prop, (∀ (c : Addr) (H1 : Hp) (xs : List Int), xs ≠ [] → xs.length ≤ 63 → Same H H1 → H1 c = some (.lst (xs.map V.int)) → G c H1) →
        (b = true → ∀ c, (upd H p0 (.lst [])) c = none → G c (upd (upd H p0 (.lst [])) c (.lst (ns.map V.int)))) ∧ (b = false → ∀ c, (upd H p0 (.lst [])) c = none → G c (upd (upd H p0 (.lst [])) c (.lst [V.int 0]))) := by
      refine ⟨_, rfl, fun G g => ⟨fun hb c nc => ?_, fun hb c nc => ?_⟩⟩
      · refine g c _ ns (fun z => by rw [decide_eq_true z] at hb; cases hb) hlen (fun b o e => ?_) upd_same
        rw [upd_ne (ne_of_none e (sp0.free nc))]
        exact sp0 b o e
      · refine g c _ [0] (by simp) (by decide) (fun b o e => ?_) upd_same
        rw [upd_ne (ne_of_none e (sp0.free nc))]
        exact sp0 b o e
    obtain ⟨b, hb, sel⟩ := sel
    refine ⟨b, by rw [hb], ?_⟩
    have fin : ∀ (c : Addr) (H1 : Hp) (xs : List Int), xs ≠ [] → xs.length ≤ 63 → Same H H1 → H1 c = some (.lst (xs.map V.int)) → (fun (x : V) (H1 : Hp) =>
      gName 1 x (L2.start ["script", "cells", "cell"] [V.ref sc]) H1
        ({ nx := tRet (tDisp [(tC (V.str "cells"), tVar 1), (tC (V.str "lefts"), tLc (iList K (tVar 1)) (gName 2) tYes
                        (tIf (tTest (tOp (rI0 fun i j => V.bl (decide (j ≤ i))) (tVar 2) (tOp (rI CPow fun i j => V.int (i ^ j.toNat)) (tC (V.int 10)) (tC (V.int 18))))) (tVar 2) (tC (V.int 0)))
                        (List.map (fun x => x.2) ([(("cell" : Str), 2)] : List (Str × Nat)))), (tC (V.str "at"), tC (V.int 0))]) { nx := fun x H' => Q V.non H', rt := Q }, rt := Q } : Ends).nx) (V.ref c) H1 := by
      intro c H1 xs hx hl s1 hc
      show ∀ p, H1 p = none → _
      intro p np
      have npc : c ≠ p := ne_of_none hc np
      have sp : Same H1 (upd H1 p (.dK [])) := fun b o e => by
        rw [upd_ne (ne_of_none e np)]
        exact e
      refine ⟨_, rfl, _, rfl, c, rfl, ⟨_, SqL.of (sp _ _ hc)⟩, fun D nD => lc_list (K := K) (a := c) (xs := xs.map V.int) (fun i H2 => ∃ ls : List Int, H2 D = some (.lst (ls.map V.int)) ∧ ls.length = i ∧ Same (upd H1 p (.dK [])) H2) ?_ ?_ ?_ ?_⟩
      · exact ⟨[], upd_same, rfl, fun b o e => by rw [upd_ne (ne_of_none e nD)]; exact e⟩
      · rintro i H2 _ ⟨ls, _, _, s2⟩
        exact SqL.of (s2 _ _ (sp _ _ hc))
      · rintro i x H2 hi ⟨ls, hD, hn, s2⟩
        rw [List.getElem?_map] at hi
        obtain ⟨z, hz, rfl⟩ := Option.map_eq_some_iff.mp hi
        have hlt : i < xs.length := (List.getElem?_eq_some_iff.mp hz).1
        have stp : ∀ y : Int, ∃ acc, H2 D = some (.lst acc) ∧ acc.length < sizeLine ∧ ∃ ls : List Int, (upd H2 D (.lst (acc ++ [V.int y]))) D = some (.lst (ls.map V.int)) ∧ ls.length = i + 1 ∧ Same (upd H1 p (.dK [])) (upd H2 D (.lst (acc ++ [V.int y]))) := fun y =>
          ⟨_, hD, by rw [List.length_map, sizeLine_eq]; omega, ls ++ [y], by rw [upd_same, List.map_append]; rfl, by rw [List.length_append, hn]; rfl, fun b o e => by rw [upd_ne (ne_of_none e nD)]; exact s2 b o e⟩
        refine ⟨rfl, ?_⟩
        rw [show (tYes : TT) = fun _ H Q => Q true H from rfl]
        dsimp only
        rw [if_pos rfl]
        refine ⟨_, rfl, _, _, rfl, rfl, ⟨by decide, by decide, by decide⟩, _, _, rfl, rfl, _, rfl, ?_⟩
        refine ite2 (fun _ => ?_) (fun _ => ?_)
        · exact ⟨_, rfl, stp z⟩
        · exact stp 0
      · rintro H2 ⟨ls, hD, hn, s2⟩
        rw [List.length_map] at hn
        have hp2 : H2 p = some (.dK []) := s2 _ _ upd_same
        have npD : D ≠ p := fun z => by
          rw [z, upd_same] at nD
          cases nD
        have ncD : D ≠ c := fun z => by
          rw [z, upd_ne npc, hc] at nD
          cases nD
        refine ⟨hp2, [(Sum.inr "cells", .ref c), (Sum.inr "lefts", .ref D), (Sum.inr "at", .int 0)], rfl, by show 3 ≤ 15; decide, ?_⟩
        have nDH : H D = none := by
          rw [upd_ne npD] at nD
          exact s1.free nD
        have hm := merge3 (V.ref c) (V.ref D) (V.int 0)
        refine q p c D xs.length _ (fun b o e => ?_) (s1.free np) nDH ⟨by rw [upd_same, hm], ⟨xs, by rw [upd_ne npc]; exact s2 _ _ (sp _ _ hc), rfl⟩, ⟨ls, by rw [upd_ne npD]; exact hD, hn⟩, List.length_pos_iff.mpr hx, hl, Int.le_refl 0⟩ ncD
        rw [upd_ne (ne_of_none e (s1.free np))]
        exact s2 _ _ (sp _ _ (s1 _ _ e))
    cases b with
    | true => exact iteT ⟨_, rfl, sc, _, rfl, .inl (Same.seq sp0 hS), fun c nc => (sel _ fin).1 rfl c nc⟩
    | false => exact iteF ⟨by show 1 ≤ sizeLine; rw [sizeLine_eq]; omega, fun c nc => (sel _ fin).2 rfl c nc⟩
end
end Dr
namespace Dr
open PySem L2
structure TxD (K : PySem.W.Frag) (mg : Str → Option Value) (fm : Addr) : Prop extends TxB mg where
  mixed : mg "_law_mixed" = some (.ref fm)
  kMixed : PySem.W.keepIn K (.ref fm) = true
section
variable {P : Program} {w : World} {K : PySem.W.Frag} {mg : Str → Option Value} {base : Heap}
def spDraw : Sp := fun vs H Q _ => ∃ (p c l : Addr) (n : Nat) (a m : Int), vs = [.ref p, .int m] ∧ StAt H p c l n a ∧ l ≠ c ∧ a < 2 ^ 39 ∧ 0 < m ∧ m < 1073741824 ∧
  ∀ (r : Int) (H' : Hp), 0 ≤ r → r < m → StAt H' p c l n (a + 1) → SameB H H' p l → (∀ b, H b = none → H' b = none) → Q (.int r) H'
theorem scDraw : FnScope ["state", "many", "at", "place", "left", "number"] ["state", "many"] (defScope sDraw) := ⟨rfl, rfl, rfl, by decide +kernel, rfl, by decide +kernel, by decide +kernel⟩
theorem ok_draw {f fm : Addr} {fd fdm : FuncData} (F : Fun K "_law_draw" "_law_draw" sDraw f fd) (FM : Fun K "_law_mixed" "_law_mixed" sMixed fm fdm) (bM : Binds K fdm ["cell", "k"] []) (T : TxD K mg fm) : FnOk P w K mg base CX0 2 f fd ["state", "many"] spDraw := by
  have GM : FnOk P w K mg base CX0 1 fm fdm ["cell", "k"] spMixed := ok_mixed FM T.toTxB
  refine F.ok scDraw (fun vs H Q E h => ?_) (fun cdv A outer s H vs Q E hr h => ?_)
  · obtain ⟨p, c, l, n, a, m, rfl, _⟩ := h
    rfl
  · obtain ⟨p, c, l, n, a, m, rfl, S, nlc, ha, m0, m1, q⟩ := h
    have hu := hu_of hr
    have hix : ∀ {X : Cx}, X.A.units + 1 < cLine → X.A.units + 1 < cLine := fun h => h
    refine ⟨_, pss_cons (ps_set (i := 2) scDraw.nd rfl (.inl rfl) (pe_dget hu (pv 0) pe_str (fun _ _ => rfl)))
      (pss_cons (ps_dput hu (pv 0) pe_str (pe_op op_add (pv 2) pe_int) rfl)
      (pss_cons (ps_set (i := 3) scDraw.nd rfl (.inl rfl) (pe_op op_mod (pe_callTy call_int1 (by rfl) T.int (by decide +kernel) (pa_cons (pv 2) pa_nil)) (pe_callB call_len_seq (by rfl) T.len (by decide +kernel) (pa_cons (pe_dget hu (pv 0) pe_str (fun _ _ => rfl)) pa_nil))))
      (pss_cons (ps_set (i := 4) scDraw.nd rfl (.inl rfl) (pe_ix ix_list (pe_dget hu (pv 0) pe_str (fun _ _ => rfl)) (pv 3) (fun _ _ => rfl)))
      (pss_cons (ps_if (pt_cmpR op_gt (pv 4) pe_int (nomark _))
        (pss_cons (ps_asg (pe_op op_fdiv (pv 4) (pv 1)) (pg_sub (pe_dget hu (pv 0) pe_str (fun _ _ => rfl)) (pv 3) set_list))
          (pss_one (ps_ret (pe_op op_mod (pe_callTy call_int1 (by rfl) T.int (by decide +kernel) (pa_cons (pv 4) pa_nil)) (pv 1))))) pss_nil)
      (pss_cons (ps_set (i := 5) scDraw.nd rfl (.inl rfl) (pe_call GM hr (by rfl) T.mixed T.kMixed bM .nil pass0 (pa_cons (pe_call GM hr (by rfl) T.mixed T.kMixed bM .nil pass0 (pa_cons (pe_ix ix_list (pe_dget hu (pv 0) pe_str (fun _ _ => rfl)) (pv 3) (fun _ _ => rfl)) (pa_cons (pv 2) pa_nil))) (pa_cons (pe_op op_add pe_int (pv 2)) pa_nil))))
      (pss_one (ps_ret (pe_op op_mod (pe_op op_fdiv (pe_callTy call_int1 (by rfl) T.int (by decide +kernel) (pa_cons (pe_op op_add (pe_op op_mul (pv 5) pe_int) (pe_call GM hr (by rfl) T.mixed T.kMixed bM .nil pass0 (pa_cons (pv 5) (pa_cons (pe_op op_add pe_int (pv 2)) pa_nil)))) pa_nil)) pe_int) (pv 1))))))))), ?_⟩
    obtain ⟨cs, hc, hcn⟩ := S.c
    obtain ⟨ls, hl, hln⟩ := S.l
    obtain ⟨npc, npl⟩ := S.ne
    have n0 := S.n0
    have a0 := S.a0
    refine ⟨_, rfl, p, _, rfl, DGet.k (k := kA) S.d, ?_⟩
    -- state['at'] = at + 1
    obtain ⟨H1, eH1⟩ : ∃ H1, H1 = upd H p (.dK (dk3 (.ref c) (.ref l) (.int (a + 1)))) := ⟨_, rfl⟩
    have dp : DPut H p (kV kA) (.int (a + 1)) H1 := by
      rw [eH1, ← put_at (.ref c) (.ref l) (.int a)]
      exact DPut.k (k := kA) S.d (by show 3 < sizeLine; rw [PySem.sizeLine_eq]; omega)
    refine ⟨_, rfl, _, _, rfl, rfl, _, rfl, p, H1, rfl, dp, ?_⟩
    have hp1 : H1 p = some (.dK (dk3 (.ref c) (.ref l) (.int (a + 1)))) := by rw [eH1, upd_same]
    have hc1 : H1 c = some (.lst (cs.map V.int)) := by rw [eH1, upd_ne npc.symm]; exact hc
    have hl1 : H1 l = some (.lst (ls.map V.int)) := by rw [eH1, upd_ne npl.symm]; exact hl
    have sb1 : SameB H H1 p l := fun b o e h1 h2 => by rw [eH1, upd_ne h1]; exact e
    have nn1 : ∀ b, H b = none → H1 b = none := fun b e => by
      rw [eH1, upd_ne (fun z => by rw [z, S.d] at e; cases e)]
      exact e
    -- spot
    have np : (0 : Int) < ((cs.map V.int).length : Int) := by rw [List.length_map, hcn]; omega
    refine ⟨_, rfl, .inl ⟨_, rfl, _, rfl, p, _, rfl, DGet.k (k := kC) hp1, c, _, rfl, .inl (SqL.of hc1), _, _, rfl, rfl, np, ?_⟩⟩
    have eN : ((cs.map V.int).length : Int) = (n : Int) := by rw [List.length_map, hcn]
    rw [eN]
    obtain ⟨k, hk, hkn⟩ : ∃ k : Nat, a % (n : Int) = (k : Int) ∧ k < n := by
      have h1 := Int.emod_nonneg a (show (n : Int) ≠ 0 by omega)
      have h2 := Int.emod_lt_of_pos a (show (0 : Int) < n by omega)
      exact ⟨(a % n).toNat, by omega, by omega⟩
    rw [show ((fun i j : Int => V.int (i % j)) a (n : Int)) = V.int (k : Int) from congrArg V.int hk]
    obtain ⟨x, hx⟩ : ∃ x, ls[k]? = some x := ⟨ls[k]'(by omega), by simp [show k < ls.length by omega]⟩
    obtain ⟨y, hy⟩ : ∃ y, cs[k]? = some y := ⟨cs[k]'(by omega), by simp [show k < cs.length by omega]⟩
    have hx' : (ls.map V.int)[k]? = some (V.int x) := by rw [List.getElem?_map, hx]; rfl
    have hy' : (cs.map V.int)[k]? = some (V.int y) := by rw [List.getElem?_map, hy]; rfl
    refine ⟨_, rfl, p, _, rfl, DGet.k (k := kL) hp1, _, rfl, l, _, _, _, rfl, rfl, SqL.of hl1, atI_nat hx', ?_⟩
    refine ⟨_, rfl, _, _, rfl, rfl, _, rfl, ?_⟩
    refine ite2 (fun _ => ?_) (fun _ => ?_)
    · -- a great one is used up
      refine ⟨_, rfl, _, rfl, _, _, rfl, rfl, ⟨m0, m1⟩, _, rfl, p, _, rfl, DGet.k (k := kL) hp1, _, rfl, l, _, _, k, rfl, rfl, hl1, ?_, ?_⟩
      · unfold ixN
        rw [if_pos (by omega), if_pos (by rw [List.length_map]; omega)]
        simp
      refine ⟨_, rfl, .inl ⟨_, rfl, _, rfl, _, _, rfl, rfl, m0, ?_⟩⟩
      refine q _ _ (Int.emod_nonneg _ (by omega)) (Int.emod_lt_of_pos _ m0) ⟨?_, ⟨cs, ?_, hcn⟩, ⟨ls.set k (x / m), ?_, by rw [List.length_set]; exact hln⟩, n0, S.n1, by omega⟩ (fun b o e h1 h2 => ?_) fun b e => ?_
      · rw [upd_ne npl]; exact hp1
      · rw [upd_ne nlc.symm]; exact hc1
      · rw [upd_same, List.map_set]
      · rw [upd_ne h2]; exact sb1 b o e h1 h2
      · rw [upd_ne (fun z => by rw [z, hl] at e; cases e)]; exact nn1 b e
    · -- number
      have r0 : ∀ {z : Int}, 0 ≤ z → z < 2147483629 → -(2 ^ 64) < z ∧ z < 2 ^ 64 := fun {z} h1 h2 => ⟨by omega, by omega⟩
      refine ⟨_, rfl, p, _, rfl, DGet.k (k := kC) hp1, _, rfl, c, _, _, _, rfl, rfl, SqL.of hc1, atI_nat hy', _, rfl, y, a, rfl, a0, by omega, fun z1 z10 z11 => ?_⟩
      refine ⟨_, rfl, _, _, rfl, rfl, z1, 40 + a, rfl, by omega, by omega, fun z2 z20 z21 => ?_⟩
      refine ⟨_, rfl, _, _, rfl, rfl, .inl (r0 z20 z21), _, rfl, _, rfl, _, _, rfl, rfl, z2, 7 + a, rfl, by omega, by omega, fun z3 z30 z31 => ?_⟩
      refine ⟨_, _, rfl, rfl, .inl ⟨_, rfl, _, _, rfl, rfl, ⟨by decide, by decide⟩, _, rfl, _, _, rfl, rfl, m0, ?_⟩⟩
      exact q _ _ (Int.emod_nonneg _ (by omega)) (Int.emod_lt_of_pos _ m0) ⟨hp1, ⟨cs, hc1, hcn⟩, ⟨ls, hl1, hln⟩, n0, S.n1, by omega⟩ sb1 nn1
end
end Dr
namespace Dr
open PySem L2
structure TxO (K : PySem.W.Frag) (mg : Str → Option Value) (fm fdr : Addr) : Prop extends TxD K mg fm where
  draw : mg "_law_draw" = some (.ref fdr)
  kDraw : PySem.W.keepIn K (.ref fdr) = true
section
variable {P : Program} {w : World} {K : PySem.W.Frag} {mg : Str → Option Value} {base : Heap}
def spOf : Sp := fun vs H Q _ => ∃ (p c l so : Addr) (n : Nat) (a : Int) (xs : List V), vs = [.ref p, .ref so] ∧ StAt H p c l n a ∧ l ≠ c ∧ a < 2 ^ 39 ∧ H so = some (.lst xs) ∧ so ≠ p ∧ so ≠ l ∧ 0 < xs.length ∧ xs.length < 1073741824 ∧
  ∀ (i : Nat) (v : V) (H' : Hp), xs[i]? = some v → StAt H' p c l n (a + 1) → SameB H H' p l → (∀ b, H b = none → H' b = none) → Q v H'
theorem scOf : FnScope ["state", "some"] ["state", "some"] (defScope sOf) := ⟨rfl, rfl, rfl, by decide +kernel, rfl, by decide +kernel, by decide +kernel⟩
theorem ok_of {f fm fdr : Addr} {fd fdm fdd : FuncData} (F : Fun K "_law_of" "_law_of" sOf f fd) (GD : FnOk P w K mg base CX0 2 fdr fdd ["state", "many"] spDraw) (bD : Binds K fdd ["state", "many"] []) (T : TxO K mg fm fdr) : FnOk P w K mg base CX0 3 f fd ["state", "some"] spOf := by
  refine F.ok scOf (fun vs H Q E h => ?_) (fun cdv A outer s H vs Q E hr h => ?_)
  · obtain ⟨p, c, l, so, n, a, xs, rfl, _⟩ := h
    rfl
  · obtain ⟨p, c, l, so, n, a, xs, rfl, S, nlc, ha, hso, n1, n2, x0, x1, q⟩ := h
    refine ⟨_, pss_one (ps_ret (pe_ix ix_list (pv 1) (pe_call GD hr (by rfl) T.draw T.kDraw bD .nil pass0 (pa_cons (pv 0) (pa_cons (pe_callB call_len_seq (by rfl) T.len (by decide +kernel) (pa_cons (pv 1) pa_nil)) pa_nil))) (fun _ _ => rfl))), ?_⟩
    refine ⟨_, rfl, _, rfl, _, rfl, so, _, rfl, .inl (SqL.of hso), p, c, l, n, a, _, rfl, S, nlc, ha, by omega, by omega, fun r H' r0 r1 S' sb nn => ?_⟩
    obtain ⟨k, hk⟩ : ∃ k : Nat, r = (k : Int) := ⟨r.toNat, by omega⟩
    subst hk
    obtain ⟨v, hv⟩ : ∃ v, xs[k]? = some v := ⟨xs[k]'(by omega), by simp [show k < xs.length by omega]⟩
    exact ⟨so, xs, k, v, rfl, rfl, SqL.of (sb so _ hso n1 n2), atI_nat hv, q k v H' hv S' sb nn⟩
end
end Dr
namespace Dr
open PySem L2 Evl
theorem StAt.ex {H H' : Hp} {p c l : Addr} {n : Nat} {a : Int} (S : StAt H p c l n a) (e : Ex H H') : StAt H' p c l n a :=
  ⟨e _ _ S.d, let ⟨cs, h, k⟩ := S.c; ⟨cs, e _ _ h, k⟩, let ⟨ls, h, k⟩ := S.l; ⟨ls, e _ _ h, k⟩, S.n0, S.n1, S.a0⟩
end Dr

/-! f(lambda: e) and f(lambda at=0: e), f a def that keeps what the lambda raises. -/
namespace LamR
open PySem PySem.Spec PyProof.Rows L2 LamX
open PySem.W (kdv_obj kdv_fn kdv_tup)
/-- a lambda's names: captured ones, globals, and names of its own that the def around has not -/
structure LamN (sc scope : Scope) (N : List Str) : Prop where
  kind : scope.kind = .function
  co : scope.isCoroutine = false
  gen : scope.isGenerator = false
  cell : ∀ y ∈ scope.names, y.2 ≠ .cell
  own : ∀ y ∈ scope.names, y.2 = .local → y.1 ∉ N
  free : ∀ y ∈ scope.names, y.2 = .free → sc.names.lookup y.1 = some .cell ∨ sc.names.lookup y.1 = some .free
def lamNB (sc scope : Scope) (N : List Str) : Bool :=
  decide (scope.kind = .function) && (!scope.isCoroutine && (!scope.isGenerator && ((scope.names.all fun y => !decide (y.2 = .cell)) && ((scope.names.all fun y => !decide (y.2 = .local) || !N.contains y.1) &&
    (scope.names.all fun y => !decide (y.2 = .free) || (decide (sc.names.lookup y.1 = some .cell) || decide (sc.names.lookup y.1 = some .free)))))))
theorem lamN_by {sc scope : Scope} {N : List Str} (h : lamNB sc scope N = true) : LamN sc scope N := by
  unfold lamNB at h
  simp only [Bool.and_eq_true, Bool.or_eq_true, Bool.not_eq_true', decide_eq_true_eq, decide_eq_false_iff_not, List.all_eq_true] at h
  obtain ⟨h1, h2, h3, h4, h5, h6⟩ := h
  refine ⟨h1, h2, h3, h4, fun y hy e => ?_, fun y hy e => ?_⟩
  · rcases h5 y hy with z | z
    · exact absurd e z
    · simpa using z
  · rcases h6 y hy with z | z
    · exact absurd e z
    · exact z
theorem LamN.has {X : Cx} {scope : Scope} {N : List Str} (L : LamN X.env.scope scope N) (ok : X.Ok) : ∀ y ∈ scope.names, y.2 = .free → ∃ c, X.env.cells.lookup y.1 = some c := fun y hy e => by
  rcases L.free y hy e with k | k
  · exact ok.has _ (.inl k)
  · exact ok.has _ (.inr k)
section
variable {X : Cx} {pins : List (Addr × Obj)} {σ : L2.St} {H HZ : Hp} {s s1 : Shared}
theorem lam_startR {A : Around} {outer : List Env} {E : XK} {scope : Scope} {f c' : Addr} {h₁ : Heap} {tk : Nat} {mL : Str → Option Value} (I : Inv X pins σ H s) (L : LamN X.env.scope scope X.N) (e0 : Env0 X.prog X.w X.K X.mg X.base A outer s1 HZ) (hd : A.handled = none)
    (un : Un (frs X.stack) [] H HZ s.heap s1.heap) (hns : h₁.Ns s1.heap.objs.size mL) (kp : ∀ b o, s1.heap.get? b = some o → h₁.get? b = some o) :
    Inv (lamCx X A outer s1 HZ E scope f c') [] σ HZ { s1 with heap := h₁, toks := tk } := by
  have hfree := L.has I.ok
  have cm : ∀ {y c}, (cloFrom X.env.cells scope.names []).lookup y = some c → X.env.cells.lookup y = some c := fun {y c} e => by
    rcases cloFrom_mem (PySem.mem_of_lookup e) with hm | ⟨h1, h2⟩
    · exact absurd hm (by simp)
    · obtain ⟨c1, hc⟩ := hfree _ h1 rfl
      have hc : X.env.cells.lookup y = some c1 := hc
      have e2 : c = c1 := by
        rw [h2, hc] <;> rfl
      rw [e2, hc]
  have look : ∀ {y}, scope.names.lookup y = some .free → ∃ c, (cloFrom X.env.cells scope.names []).lookup y = some c := fun {y} hl =>
    mem_lookup (cloFrom_has (cells := X.env.cells) (acc := []) (show (y, NameKind.free) ∈ scope.names from PySem.mem_of_lookup hl))
  have cellK : ∀ {c : Addr} {v : Option Value}, H c = none → s.heap.IsCell c v → h₁.IsCell c v := fun {c v} n ⟨o, ho, hd⟩ =>
    let ⟨_, q⟩ := un.any ho n (by simp)
    ⟨_, kp _ _ q, hd⟩
  have noA : ∀ b : Addr, b ∉ (lamCx X A outer s1 HZ E scope f c').ex := fun b z => absurd (show b ∈ ([] : List Addr) from z) (by simp)
  have visC : ∀ {y}, scope.names.lookup y ≠ some .cell := fun {y} k => L.cell _ (PySem.mem_of_lookup k) rfl
  refine ⟨⟨e0.mod, L.kind, rfl, rfl, Nat.le_refl _, fun y z c e1 e2 => I.ok.inj y z c (cm e1) (cm e2), fun y hy => ?_, fun y c z _ => Bool.noConfusion (show false = true from z), fun _ => hd, Around.frames_deeper e0.frames, .inr ⟨rfl, rfl⟩, fun b z => absurd z (noA b), e0.bs, e0.bsz, fun b _ _ => noA b,
      fun b z => absurd z (noA b), e0.funs, e0.frf⟩,
    rfl, e0.bare, Un.kept kp, ⟨_, hns, fun i y v e1 e2 e3 => ?_⟩, fun y c e => ?_, e0.hok.fresh (Nat.le_refl _), fun y c e => ?_, fun q hq => absurd (show q ∈ ([] : List (Addr × Obj)) from hq) (by simp), e0.hok.kept kp, I.len⟩
  · have hy : scope.names.lookup y = some .cell ∨ scope.names.lookup y = some .free := hy
    rcases hy with hy | hy
    · exact absurd hy visC
    · exact look hy
  · have e3 : Vis scope y := e3
    rcases e3 with k | k | k
    · exact absurd (List.mem_of_getElem? e1) (L.own _ (PySem.mem_of_lookup k) rfl)
    · exact absurd k visC
    · obtain ⟨m, hn, hl⟩ := I.loc
      obtain ⟨w', r, q⟩ := hl i y v e1 e2 (.inr (L.free _ (PySem.mem_of_lookup k) rfl))
      obtain ⟨c2, h2⟩ := look k
      refine ⟨w', r, .inr ⟨.inr k, c2, h2, ?_⟩⟩
      have c1 := cm h2
      rcases q with ⟨k', _⟩ | ⟨_, c3, e', z⟩
      · have k' : X.env.scope.names.lookup y = some .local := k'
        rcases L.free _ (PySem.mem_of_lookup k) rfl with k2 | k2 <;> rw [show X.env.scope.names.lookup y = _ from k2] at k' <;> cases k'
      · rw [c1] at e'
        cases e'
        exact cellK (I.freeC y _ c1) z
  · obtain ⟨w', z⟩ := I.cell y c (cm e)
    exact ⟨w', cellK (I.freeC y c (cm e)) z⟩
  · obtain ⟨v, o, ho, hd⟩ := I.cell y c (cm e)
    exact un.free c o ho (I.freeC y c (cm e)) (by simp)
/-- x(), in the def that got the lambda; what it raises is what that def's own wish takes, at its names as they are -/
theorem pe_actR {CXg : CXT} {Eg : XK} {Ng : List Str} {qg : Str} {sg : Scope} {g f c' : Addr} {cdg dV doc pm ctv : Value} {params : Arguments} {body : Expr} {scope : Scope} {k i : Nat} {a : Str} {pn : List (Addr × Obj)} {xe : Value → Shared → Prop} {W : WX} {tb : XK → TE} {p1 p2 : Pos} {binds : List (Str × Value)}
    (I : Inv X pins σ H s) (L : LamN X.env.scope scope X.N) (hf : s.heap.get? f = some (kdv_obj "<lambda>" (X.env.qual ++ "<lambda>") params (.expr body) scope (cloFrom X.env.cells scope.names []) dV doc pm c' ctv)) (hfn : H f = none) (hfr : f ∉ frs X.stack)
    (hbind : ∀ s1 : Shared, (∀ b o, s.heap.get? b = some o → H b = none → b ∉ frs X.stack → s1.heap.get? b = some o) → BindsTo s1 (kdv_fn "<lambda>" (X.env.qual ++ "<lambda>") params (.expr body) scope (cloFrom X.env.cells scope.names []) dV doc pm (.ref c') ctv) ⟨[], []⟩ binds)
    (hloc : ∀ y ∈ binds, scope.names.lookup y.1 = some .local)
    (tk : Takes ((cxOf CXg X.prog X.w X.K X.mg X.base Ng qg sg g cdg X.A X.stack s H Eg).tr pn xe) W) (hr : Room (k + 1) (X.A.deeper (envOfC qg sg s.heap.objs.size g cdg)))
    (hbody : ∀ (A : Around) (outer : List Env) (s : Shared) (H : Hp) (E : XK), Room k (A.deeper (lamEnv X scope s.heap.objs.size f c')) → PE (lamCx X A outer s H E scope f c') body (tb E))
    (hN : Ng[i]? = some a) (hv : Vis sg a) (hd : (a == ("__debug__" : Str)) = false := by decide) (hcd : (a == ("__classdict__" : Str)) = false := by decide) :
    PE ((cxOf CXg X.prog X.w X.K X.mg X.base Ng qg sg g cdg X.A X.stack s H Eg).tr pn xe) (.Call (.Name a p1) [] [] p2)
      (fun σZ HZ Q => σZ[i]? = some (some (.ref f)) ∧ HZ c' = some (CodeO c' (X.env.qual ++ "<lambda>")) ∧ ∃ (E : XK) (Q' : VK), (∀ cls d H', E cls d H' → W cls d σZ H') ∧ (∀ v H', Q' v H' → Q v H') ∧ tb E σ HZ Q') := by
  refine ⟨fun pinsZ sZ σZ HZ Q IZ h => ?_⟩
  obtain ⟨hs, hc, E, Q', hW, hQ, ht⟩ := h
  refine wpAny_Call_Name_kw (thn ((pe_var (pos := p1) (i := i) hN hv hd hcd).run pinsZ sZ σZ HZ (fun v H1 => v = .ref f ∧ H1 = HZ) IZ ⟨.ref f, hs, rfl, rfl⟩) fun u s1 ⟨v, H1, I1, r1, ev, eH⟩ => ?_)
  subst ev
  rw [eH] at I1
  obtain rfl : u = Value.ref f := r1
  have un : Un (frs X.stack) [] H HZ s.heap s1.heap := I1.base
  have keep : ∀ b o, s.heap.get? b = some o → H b = none → b ∉ frs X.stack → s1.heap.get? b = some o := fun b o e n nf => un.keep b o e n nf (fun z => absurd (show b ∈ ([] : List Addr) from z) (by simp))
  have of1 := keep f _ hf hfn hfr
  refine PySem.W.callWith_F0 ⟨_, _, _, _, of1⟩ ?_
  obtain ⟨⟨oc, vs, t, hoc, hdc, hvc⟩, _, _⟩ := I1.hok c' _ hc
  have rc : codeAny (model X.prog X.w) (X.A.deeper (envOfC qg sg s.heap.objs.size g cdg)) (.call (.ref f) ⟨[], []⟩) (CR (L2.CX X.prog X.w) (envOfC qg sg s.heap.objs.size g cdg :: X.stack) X.prog X.w HZ s1 Q E) s1 := by
    refine PySem.W.kla_callFunE hr.depth of1 rfl L.co L.gen rfl ⟨c', oc, vs, t, rfl, hoc, hdc, hvc⟩ (hbind s1 keep _ _ _ _ ?_)
    refine wpAny_newFunctionEnv L.cell hloc (fun h₁ hns hsb => ⟨I1.nolimit.fresh _ hsb, ?_⟩) L.kind
    show codeAny _ _ (.expr body (lamEnv X scope s1.heap.objs.size f c')) _ _
    have kp : ∀ b o, s1.heap.get? b = some o → h₁.get? b = some o := fun b o e => hsb.extBut b o (Nat.ne_of_lt (Heap.lt_size e)) (Heap.get?_push_of_some _ e)
    have J : Inv (lamCx X (X.A.deeper (envOfC qg sg s.heap.objs.size g cdg)) (envOfC qg sg s.heap.objs.size g cdg :: X.stack) s1 HZ E scope f c') [] σ HZ { s1 with heap := h₁, toks := s1.toks + binds.length } :=
      lam_startR I L I1.env0 hr.hd un hns kp
    exact PySem.W.kla_codeExpr (wpAny_mono ((hbody _ _ s1 HZ E (hr.deeper _)).run [] _ _ HZ Q' J ht) (fun v s' ⟨w', H', J', rv, q⟩ => ⟨w', H', J'.os, J'.bare, J'.base, J'.hok, rv, hQ _ _ q⟩) fun e s' hq => hq)
  refine wpAny_call (codeAny_mono rc fun r s' hq => ?_)
  cases r with
  | error e => exact tk e s' (XE.of_call I1 hW hq)
  | ok fl =>
    cases fl with
    | ret u => exact I1.after hq
    | next => exact False.elim hq
    | brk => exact False.elim hq
    | cont => exact False.elim hq
end
end LamR

namespace LamR
open PySem PySem.Spec PyProof.Rows L2 LamX
open PySem.W (kdv_obj kdv_fn kdv_tup)
section
variable {X : Cx} {pins : List (Addr × Obj)} {σ : L2.St} {H : Hp} {s : Shared}
/-- the lambda with one int as a default is made -/
theorem lam_makeD {T : List (Addr × Str)} {c P : Addr} {params : Arguments} {body : Expr} {scope : Scope} {pos cp : Pos} {j : Nat} {n : Int} {E : Value → Shared → Prop} {Q : Value → Shared → Prop} (I : Inv X pins σ H s) (TB : TabB X.base X.mg c P) (hcode : X.env.code = .ref c)
    (hm : (P, X.env.qual ++ "<lambda>") ∈ T) (hu : ∀ p ∈ T, p.1 = P → p.2 = X.env.qual ++ "<lambda>") (hT : Tabs T H) (hdef : params.defaults = [.Constant (.int n) j cp]) (hk0 : params.kw_defaults = []) (hfree : ∀ y ∈ scope.names, y.2 = .free → ∃ c, X.env.cells.lookup y.1 = some c)
    (hE : E = X.xe)
    (h : ∀ (f c' T₀ : Addr) (tk : Tok) (doc pm ctv : Value) (H1 : Hp) (s' : Shared), Inv X pins σ H1 s' → ExtN H H1 → Tabs T H1 →
      s'.heap.get? f = some (kdv_obj "<lambda>" (X.env.qual ++ "<lambda>") params (.expr body) scope (cloFrom X.env.cells scope.names []) (.ref T₀) doc pm c' ctv) → H1 f = none → f ∉ frs X.stack → H1 c' = some (CodeO c' (X.env.qual ++ "<lambda>")) →
      s'.heap.get? T₀ = some (kdv_tup [.int n tk]) → H1 T₀ = none → T₀ ∉ frs X.stack → Q (.ref f) s') :
    wpAny (model X.prog X.w) X.A (eval (.Lambda params body scope pos) X.env) Q E s := by
  subst hE
  obtain ⟨ps, hP, ht, ha⟩ := hT _ hm
  refine PySem.W.kdv_lam (by rw [hdef]; rfl) hk0 ?_
  rw [hdef]
  refine PySem.W.kdv_all1 (wpAny_Constant_int (PySem.W.kdv_all0 ?_))
  generalize hs1 : ({ s with toks := s.toks + 1 } : Shared) = s1
  have I1 : Inv X pins σ H s1 := by
    rw [← hs1]
    exact I.tok _
  generalize s.toks = tk
  rw [makeFunction_eq]
  simp only [List.zip_nil_right, List.filterMap_nil, List.isEmpty_nil, if_true, pure_bind, List.isEmpty_cons, Bool.false_eq_true, if_false]
  refine wpAny_bind (wpAny_newTextTuple ?_)
  obtain ⟨T₀, hT0⟩ : ∃ T₀, T₀ = s1.heap.objs.size := ⟨_, rfl⟩
  rw [← hT0]
  have n0 : H T₀ = none := I1.hok.fresh (Nat.le_of_eq hT0.symm)
  have g0 : (s1.heap.push (kdv_tup [.int n tk])).get? T₀ = some (kdv_tup [.int n tk]) := by
    rw [hT0]
    exact Heap.get?_push_size _ rfl
  have I2 : Inv X pins σ H { s1 with heap := s1.heap.push (kdv_tup [.int n tk]) } := I1.kept (t' := s1.toks) fun b o e => Heap.get?_push_of_some _ e
  have nofr : ∀ f, s1.heap.objs.size ≤ f → f ∉ frs X.stack := fun f hf z => by
    rcases List.mem_cons.mp (I1.stkSub _ z) with e | e
    · have h1 := I1.lt
      rw [← e] at h1
      exact Nat.lt_irrefl _ (Nat.lt_of_lt_of_le h1 hf)
    · exact I1.nofs hf e
  have f0 : T₀ ∉ frs X.stack := nofr _ (Nat.le_of_eq hT0.symm)
  have sz2 : (s1.heap.push (kdv_tup [.int n tk])).objs.size = T₀ + 1 := by rw [Heap.size_push, hT0]
  generalize hs2 : ({ s1 with heap := s1.heap.push (kdv_tup [.int n tk]) } : Shared) = s2 at I2 ⊢
  have hh2 : s2.heap = s1.heap.push (kdv_tup [.int n tk]) := by rw [← hs2]
  rw [← hh2] at g0 sz2
  have bP : s2.heap.BuiltinsAt X.mg P := TB.bm.keeps I2.bk
  have hP' : s2.heap.get? P = some { cls := .none, data := .fields ps } := I2.hok P _ hP
  cases hc : codeAmong pos ps.toList with
  | none =>
    refine PySem.W.kdv_makeTail (mg := X.mg) (c := c) (P := P) (ps := ps) (closure_ok hfree) I2.ok.glob (I2.mod.glob.keeps I2.bk) hcode (TB.code.keeps I2.bk) hP' ht hc TB.gP bP fun c' ctv doc h' tk' hx hge hlt hrec htb => ?_
    obtain ⟨c2, oc, vs, t, e2, hoc, hd, hv⟩ := hrec
    cases e2
    have hsz : s2.heap.objs.size ≤ h'.objs.size := Nat.le_trans hge (Nat.le_of_lt hlt)
    have nC : H c' = none := I2.hok.fresh hge
    have I3 := inv_table (t' := tk') (more := #[rawInt pos.line, rawInt pos.col, .ref c']) (h' := h'.push (kdv_obj "<lambda>" (X.env.qual ++ "<lambda>") params (.expr body) scope (cloFrom X.env.cells scope.names []) (.ref T₀) doc ((X.mg "__name__").getD .none) c' ctv)) I2 hP
      (fun b o hb e => Heap.get?_push_of_some _ (hx b o hb e)) (Heap.get?_push_of_some _ htb) hge ⟨oc, vs, t, Heap.get?_push_of_some _ hoc, hd, hv⟩
    have hE : ExtN H (upd (upd H P (.tbl (ps ++ #[rawInt pos.line, rawInt pos.col, .ref c']))) c' (CodeO c' (X.env.qual ++ "<lambda>"))) := fun b o e nt => by
      rw [upd_ne (ne_of_none e nC), upd_ne (fun z => nt ps (Option.some.inj (e.symm.trans (by rw [z]; exact hP))))]
      exact e
    have eL : (ps ++ #[rawInt pos.line, rawInt pos.col, .ref c']).toList = ps.toList ++ [rawInt pos.line, rawInt pos.col, .ref c'] := by simp
    have T0P : T₀ ≠ P := fun z => by
      rw [z, hP] at n0
      cases n0
    have T0c : T₀ ≠ c' := fun z => by omega
    refine h h'.objs.size c' T₀ tk doc ((X.mg "__name__").getD .none) ctv _ _ I3 hE (fun p hp => ?_) (Heap.get?_push_size _ rfl) ?_ (nofr _ (by omega)) upd_same (Heap.get?_push_of_some _ (hx _ _ T0P g0)) ?_ f0
    · by_cases hb : p.1 = P
      · rw [hu p hp hb, hb]
        refine ⟨_, by rw [upd_ne (ne_of_none hP nC), upd_same], by rw [eL]; exact PySem.TriplesOk_snoc _ _ _ _ ht, fun p' cv hcv => ?_⟩
        rw [eL] at hcv
        rcases among_app _ ht hcv with z | z
        · obtain ⟨c0, e1, e2⟩ := ha p' cv z
          exact ⟨c0, e1, hE _ _ e2 codeO_ne⟩
        · exact ⟨c', z, upd_same⟩
      · obtain ⟨ps', a1, a2, a3⟩ := hT p hp
        refine ⟨ps', by rw [upd_ne (ne_of_none a1 nC), upd_ne hb]; exact a1, a2, fun p' cv hcv => ?_⟩
        obtain ⟨c0, e1, e2⟩ := a3 p' cv hcv
        exact ⟨c0, e1, hE _ _ e2 codeO_ne⟩
    · have n1 : h'.objs.size ≠ c' := Nat.ne_of_gt hlt
      have n2 : h'.objs.size ≠ P := Nat.ne_of_gt (Nat.lt_of_lt_of_le (Heap.lt_size hP') hsz)
      rw [upd_ne n1, upd_ne n2]
      exact I2.hok.fresh hsz
    · rw [upd_ne T0c, upd_ne T0P]
      exact n0
  | some cv =>
    obtain ⟨c', e, hco⟩ := ha pos cv hc
    subst e
    refine PySem.W.kdv_makeTailHit (mg := X.mg) (c := c) (P := P) (ps := ps) (closure_ok hfree) I2.ok.glob (I2.mod.glob.keeps I2.bk) hcode (TB.code.keeps I2.bk) hP' ht hc bP fun ctv doc h' tk' hx hsz => ?_
    have I3 : Inv X pins σ H { s2 with heap := h'.push (kdv_obj "<lambda>" (X.env.qual ++ "<lambda>") params (.expr body) scope (cloFrom X.env.cells scope.names []) (.ref T₀) doc ((X.mg "__name__").getD .none) c' ctv), toks := tk' } := I2.kept fun b o e => Heap.get?_push_of_some _ (hx b o e)
    exact h h'.objs.size c' T₀ tk doc ((X.mg "__name__").getD .none) ctv H _ I3 (ExtN.refl H) hT (Heap.get?_push_size _ rfl) (I2.hok.fresh hsz) (nofr _ (by omega)) hco (Heap.get?_push_of_some _ (hx _ _ g0)) n0 f0
end
end LamR

namespace LamR
open PySem PySem.Spec PyProof.Rows L2 LamX
open PySem.W (kdv_obj kdv_fn kdv_tup)
/-- the def that calls what it got; TT: what it makes of the lambda's reading -/
def GivesR (X : Cx) (Ng : List Str) (x : Str) (sg : Scope) (g : Addr) (cdg : Value) (bg : List Stmt) (a : Str) (q : Str) (TT : (XK → Hp → VK → Prop) → Hp → VK → Prop) : Prop :=
  ∀ (f c' : Addr) (s : Shared) (H : Hp) (Q : VK) (tl : XK → Hp → VK → Prop),
    (∀ (W : WX) (pn : List (Addr × Obj)) (xe : Value → Shared → Prop) (p1 p2 : Pos), Takes ((cxOf C8.CX0 X.prog X.w X.K X.mg X.base Ng x sg g cdg X.A X.stack s H C8.E0).tr pn xe) W →
      PE ((cxOf C8.CX0 X.prog X.w X.K X.mg X.base Ng x sg g cdg X.A X.stack s H C8.E0).tr pn xe) (.Call (.Name a p1) [] [] p2) (fun σZ HZ Q => σZ[0]? = some (some (.ref f)) ∧ HZ c' = some (CodeO c' q) ∧ ∃ (E : XK) (Q' : VK), (∀ cls d H', E cls d H' → W cls d σZ H') ∧ (∀ v H', Q' v H' → Q v H') ∧ tl E HZ Q')) →
    H c' = some (CodeO c' q) → TT tl H Q →
    ∃ t, PSs (cxOf C8.CX0 X.prog X.w X.K X.mg X.base Ng x sg g cdg X.A X.stack s H C8.E0).nox bg t ∧ t { nx := fun _ H' => Q .non H', rt := Q } (L2.start Ng [.ref f]) H
section
variable {X : Cx} {T : List (Addr × Str)} {TT : (XK → Hp → VK → Prop) → Hp → VK → Prop} {x a : Str} {g c P : Addr} {k : Nat} {pg : Arguments} {bg : List Stmt} {sg : Scope} {dV kV doc pm cdv ct oc : Value} {an od : Option Addr} {osl : Array (Option Value)} {Ng : List Str}
    {params : Arguments} {body : Expr} {scope : Scope} {t : XK → TE} {p lpos pos : Pos}
/-- behind the lambda's making: the def is called -/
theorem lam_endR {pins : List (Addr × Obj)} {σ : L2.St} {H1 : Hp} {s' : Shared} {Q : VK} {f c' : Addr} {dL docL pmL ctL : Value} {binds : List (Str × Value)}
    (hk : PySem.W.keepIn X.K (.ref g) = true) (lk : X.K.lookup g = some ⟨oc, od, .func (PySem.W.fnOf x x pg bg sg dV kV doc pm an cdv ct), osl⟩) (hcg : PySem.W.codeIn X.K cdv x = true) (hb : L2.Binds X.K (PySem.W.fnOf x x pg bg sg dV kV doc pm an cdv ct) [a] []) (Sg : FnScope Ng [a] sg) (hNg : Ng[0]? = some a) (hva : Vis sg a)
    (hG : GivesR X Ng x sg g cdv bg a (X.env.qual ++ "<lambda>") TT) (hr : Room (k + 2) X.A) (L : LamN X.env.scope scope X.N)
    (hbody : ∀ (A : Around) (outer : List Env) (s : Shared) (H : Hp) (E : XK) (f c' : Addr), Room k (A.deeper (lamEnv X scope s.heap.objs.size f c')) → PE (lamCx X A outer s H E scope f c') body (t E))
    (I1 : Inv X pins σ H1 s') (hf : s'.heap.get? f = some (kdv_obj "<lambda>" (X.env.qual ++ "<lambda>") params (.expr body) scope (cloFrom X.env.cells scope.names []) dL docL pmL c' ctL)) (hfn : H1 f = none) (hfr : f ∉ frs X.stack) (hco : H1 c' = some (CodeO c' (X.env.qual ++ "<lambda>")))
    (hbind : ∀ s1 : Shared, (∀ b o, s'.heap.get? b = some o → H1 b = none → b ∉ frs X.stack → s1.heap.get? b = some o) → BindsTo s1 (kdv_fn "<lambda>" (X.env.qual ++ "<lambda>") params (.expr body) scope (cloFrom X.env.cells scope.names []) dL docL pmL (.ref c') ctL) ⟨[], []⟩ binds)
    (hloc : ∀ y ∈ binds, scope.names.lookup y.1 = some .local) (h : TT (fun E H' Q' => t E σ H' Q') H1 Q)
    (hd : (a == ("__debug__" : Str)) = false := by decide) (hcd : (a == ("__classdict__" : Str)) = false := by decide) :
    wpAny (model X.prog X.w) X.A (call (.ref g) [.ref f]) (EP X pins σ Q) X.xe s' := by
  have rc : codeAny (model X.prog X.w) X.A (.call (.ref g) ⟨[.ref f], []⟩) (CR C8.CX0 X.stack X.prog X.w H1 s' Q C8.E0) s' := by
    refine run_ofS (N := Ng) (ps := [a]) (us := [.ref f]) (vs := [.ref f]) lk hcg Sg hr I1.env0 (hb s' [.ref f] I1.kIn rfl) (.cons rfl .nil) rfl fun hr' => ?_
    obtain ⟨t', ht', hq'⟩ := hG f c' s' H1 Q (fun E H' Q' => t E σ H' Q') (fun W pn xe p1 p2 tk => pe_actR (i := 0) I1 L hf hfn hfr hbind hloc tk hr' (fun A outer s H E hr2 => hbody A outer s H E f c' hr2) hNg hva hd hcd) hco h
    exact ⟨t', ht'.nox, hq'⟩
  refine wpAny_call (codeAny_mono rc fun r s2 hq => ?_)
  cases r with
  | error e => exact (show False from hq).elim
  | ok fl =>
    cases fl with
    | ret u => exact I1.after hq
    | next => exact False.elim hq
    | brk => exact False.elim hq
    | cont => exact False.elim hq
/-- x(lambda: body) -/
theorem pe_lamcallR (hg : Gl X x) (hm : X.mg x = some (.ref g)) (hk : PySem.W.keepIn X.K (.ref g) = true)
    (lk : X.K.lookup g = some ⟨oc, od, .func (PySem.W.fnOf x x pg bg sg dV kV doc pm an cdv ct), osl⟩) (hcg : PySem.W.codeIn X.K cdv x = true) (hb : L2.Binds X.K (PySem.W.fnOf x x pg bg sg dV kV doc pm an cdv ct) [a] []) (Sg : FnScope Ng [a] sg) (hNg : Ng[0]? = some a) (hva : Vis sg a)
    (hG : GivesR X Ng x sg g cdv bg a (X.env.qual ++ "<lambda>") TT)
    (TB : TabB X.base X.mg c P) (hcode : X.env.code = .ref c) (hmT : (P, X.env.qual ++ "<lambda>") ∈ T) (hu : ∀ p ∈ T, p.1 = P → p.2 = X.env.qual ++ "<lambda>") (hr : Room (k + 2) X.A) (L : LamN X.env.scope scope X.N) (hdef : defaultsOf params X.env = ([], []))
    (hbind : ∀ (q : Str) (cl : List (Str × Addr)) (pm cv ctv : Value), bindArgs (PySem.W.kla_fn "<lambda>" q params body scope cl pm cv ctv) ⟨[], []⟩ = pure [])
    (hbody : ∀ (A : Around) (outer : List Env) (s : Shared) (H : Hp) (E : XK) (f c' : Addr), Room k (A.deeper (lamEnv X scope s.heap.objs.size f c')) → PE (lamCx X A outer s H E scope f c') body (t E))
    (hdb : (x == ("__debug__" : Str)) = false := by decide) (hd : (a == ("__debug__" : Str)) = false := by decide) (hcd : (a == ("__classdict__" : Str)) = false := by decide) :
    PE X (.Call (.Name x p) [.Lambda params body scope lpos] [] pos) (tLam T TT t) := by
  refine ⟨fun pins s σ H Q I ⟨hT, h⟩ => ?_⟩
  refine wpAny_Call_Name_kw (ld_glob I hg hm ?_ hdb)
  refine PySem.W.callWith_K (h₀ := X.base) I.ok.mod.kin hk ?_ (by rfl) (by rfl)
  show wpAny _ _ (spliced ((false, eval (.Lambda params body scope lpos) X.env) :: backTo pos (starEach [] X.env))) _ _ s
  refine Calls.spliced_cons (lam_make2 I TB hcode hmT hu hT hdef (L.has I.ok) fun f c' pm' ctv H1 s' I1 eN T1 hf hfn hfr hco => ?_)
  exact Calls.spliced_nil ⟨I1.kIn, lam_endR (binds := []) (dL := .none) (docL := .none) hk lk hcg hb Sg hNg hva hG hr L hbody I1 hf hfn hfr hco (fun s1 _ => .of_eq (hbind _ _ _ _ _)) (fun y hy => absurd hy (by simp)) (h H1 eN T1) hd hcd⟩
/-- x(lambda y=n: body) -/
theorem pe_lamcallD {y : Str} {n : Int} {j : Nat} {cp : Pos} (hg : Gl X x) (hm : X.mg x = some (.ref g)) (hk : PySem.W.keepIn X.K (.ref g) = true)
    (lk : X.K.lookup g = some ⟨oc, od, .func (PySem.W.fnOf x x pg bg sg dV kV doc pm an cdv ct), osl⟩) (hcg : PySem.W.codeIn X.K cdv x = true) (hb : L2.Binds X.K (PySem.W.fnOf x x pg bg sg dV kV doc pm an cdv ct) [a] []) (Sg : FnScope Ng [a] sg) (hNg : Ng[0]? = some a) (hva : Vis sg a)
    (hG : GivesR X Ng x sg g cdv bg a (X.env.qual ++ "<lambda>") TT)
    (TB : TabB X.base X.mg c P) (hcode : X.env.code = .ref c) (hmT : (P, X.env.qual ++ "<lambda>") ∈ T) (hu : ∀ p ∈ T, p.1 = P → p.2 = X.env.qual ++ "<lambda>") (hr : Room (k + 2) X.A) (L : LamN X.env.scope scope X.N)
    (hdef : params.defaults = [.Constant (.int n) j cp]) (hk0 : params.kw_defaults = []) (hyl : scope.names.lookup y = some .local)
    (hbind : ∀ (q : Str) (cl : List (Str × Addr)) (T₀ : Addr) (doc pm cv ctv u : Value), ∃ k : Option (Array Value) → Sem (List (Str × Value)), bindArgs (kdv_fn "<lambda>" q params (.expr body) scope cl (.ref T₀) doc pm cv ctv) ⟨[], []⟩ = seqItems? (.ref T₀) >>= k ∧ k (some #[u]) = pure [(y, u)])
    (hbody : ∀ (A : Around) (outer : List Env) (s : Shared) (H : Hp) (E : XK) (f c' : Addr), Room k (A.deeper (lamEnv X scope s.heap.objs.size f c')) → PE (lamCx X A outer s H E scope f c') body (t E))
    (hdb : (x == ("__debug__" : Str)) = false := by decide) (hd : (a == ("__debug__" : Str)) = false := by decide) (hcd : (a == ("__classdict__" : Str)) = false := by decide) :
    PE X (.Call (.Name x p) [.Lambda params body scope lpos] [] pos) (tLam T TT t) := by
  refine ⟨fun pins s σ H Q I ⟨hT, h⟩ => ?_⟩
  refine wpAny_Call_Name_kw (ld_glob I hg hm ?_ hdb)
  refine PySem.W.callWith_K (h₀ := X.base) I.ok.mod.kin hk ?_ (by rfl) (by rfl)
  show wpAny _ _ (spliced ((false, eval (.Lambda params body scope lpos) X.env) :: backTo pos (starEach [] X.env))) _ _ s
  refine Calls.spliced_cons (lam_makeD I TB hcode hmT hu hT hdef hk0 (L.has I.ok) rfl fun f c' T₀ tk doc' pm' ctv H1 s' I1 eN T1 hf hfn hfr hco g0 n0 f0 => ?_)
  refine Calls.spliced_nil ⟨I1.kIn, lam_endR (binds := [(y, .int n tk)]) hk lk hcg hb Sg hNg hva hG hr L hbody I1 hf hfn hfr hco (fun s1 kp => ?_) (fun z hz => ?_) (h H1 eN T1) hd hcd⟩
  · obtain ⟨kk, e1, e2⟩ := hbind (X.env.qual ++ "<lambda>") (cloFrom X.env.cells scope.names []) T₀ doc' pm' (.ref c') ctv (.int n tk)
    exact BindsTo.of_defaults rfl (kp _ _ g0 n0 f0) rfl e1 e2
  · rw [List.mem_singleton.mp hz]
    exact hyl
end
end LamR

/-! k02: what the program's own defs tell. -/
namespace Dg
open PySem L2 Evl
def top (i : Nat) : Stmt := PySem.Challenge.pw_shortspans_k05_whole_styles_refused.main.body.getD i (.Pass ⟨0, 0, 0, 0⟩)
abbrev sIsInt : Stmt := top 21
abbrev sIsFig : Stmt := top 23
abbrev sNeedB : Stmt := top 24
structure TxG (mg : Str → Option Value) : Prop where
  isi : mg "isinstance" = none
  int : mg "int" = none
  bool : mg "bool" = none
  str : mg "str" = none
  len : mg "len" = none
  sup : mg "super" = none
  fig : ∃ t, mg "FIGURES" = some (.str "0123456789" t)
  least : ∃ t, mg "LEAST_BASE" = some (.int 2 t)
  most : ∃ t, mg "MOST_BASE" = some (.int 10 t)
structure TxI (K : PySem.W.Frag) (mg : Str → Option Value) (fi : Addr) : Prop extends TxG mg where
  isInt : mg "is_integer" = some (.ref fi)
  kInt : PySem.W.keepIn K (.ref fi) = true
/-- whether a value is an integer -/
inductive Kn (K : PySem.W.Frag) (H : Hp) : V → Bool → Prop
  | int (i : Int) : Kn K H (.int i) true
  | oth {v : V} {a : String} {x y : Bool} (t : TyX K H v (.type a)) (h1 : kitB a "int" = some x) (h2 : kitB a "bool" = some y) (h : (x && !y) = false) : Kn K H v false
/-- whether a value is a number -/
inductive Nm (K : PySem.W.Frag) (H : Hp) : V → Bool → Prop
  | int (i : Int) : Nm K H (.int i) (decide (1 ≤ i))
  | oth {v : V} (h : Kn K H v false) : Nm K H v false
/-- whether a value is a base -/
inductive Bs (K : PySem.W.Frag) (H : Hp) : V → Bool → Prop
  | int (i : Int) : Bs K H (.int i) (decide (2 ≤ i) && decide (i ≤ 10))
  | oth {v : V} (h : Kn K H v false) : Bs K H v false
theorem tyx_ex {K : PySem.W.Frag} {H H' : Hp} {v : V} {a : String} (e : Ex H H') (t : TyX K H v (.type a)) : TyX K H' v (.type a) := by
  cases t with
  | base b =>
    cases b with
    | non => exact .base .non
    | bl x => exact .base (.bl x)
    | int i => exact .base (.int i)
    | str x => exact .base (.str x)
    | flt x => exact .base (.flt x)
    | lst h => exact .base (.lst (e _ _ h))
    | frz h => exact .base (.frz (e _ _ h))
    | tup h => exact .base (.tup (e _ _ h))
    | dK h => exact .base (.dK (e _ _ h))
    | dT h => exact .base (.dT (e _ _ h))
  | byt b => exact .byt b
  | set h => exact .set (e _ _ h)
  | kList h c => exact .kList h c
  | kTuple h c => exact .kTuple h c
  | kDict h c => exact .kDict h c
  | fTuple h => exact .fTuple (e _ _ h)
  | fDict h => exact .fDict (e _ _ h)
theorem Kn.ex {K : PySem.W.Frag} {H H' : Hp} {v : V} {b : Bool} (e : Ex H H') (k : Kn K H v b) : Kn K H' v b := by
  cases k with
  | int i => exact .int i
  | oth t h1 h2 h => exact .oth (tyx_ex e t) h1 h2 h
theorem Nm.ex {K : PySem.W.Frag} {H H' : Hp} {v : V} {b : Bool} (e : Ex H H') (k : Nm K H v b) : Nm K H' v b := by
  cases k with
  | int i => exact .int i
  | oth h => exact .oth (h.ex e)
theorem Bs.ex {K : PySem.W.Frag} {H H' : Hp} {v : V} {b : Bool} (e : Ex H H') (k : Bs K H v b) : Bs K H' v b := by
  cases k with
  | int i => exact .int i
  | oth h => exact .oth (h.ex e)
/-- the exception C(f = v) leaves -/
def Leaves (C : Addr) (f : Str) (v : V) (H : Hp) (E : XK) : Prop := ∀ H2 d, Ex H H2 → H2 d = none → E (.ref C) (some d) (upd H2 d (.xd [(f, v)]))
theorem Leaves.go {C : Addr} {f : Str} {v : V} {H H' : Hp} {E : XK} (l : Leaves C f v H E) (e : Ex H H') : Leaves C f v H' E := fun H2 d e2 hd => l H2 d (e.trans e2) hd
section
variable {P : Program} {w : World} {K : PySem.W.Frag} {mg : Str → Option Value} {base : Heap} {ca : Nat → Addr}
theorem ev_isi {σ : St} {H : Hp} {te : TE} {v : V} {a b : String} {r : Bool} (h : Ev te σ H v) (t : TyX K H v (.type a)) (k : kitB a b = some r) : Ev (tCB (rIsi K) (tCons te (tCons (tC (.ty b)) tNil))) σ H (.bl r) :=
  ev_cb (ea_cons h (ea_cons ev_c ea_nil)) fun H1 e Q q => ⟨v, .ty b, .type a, .type b, r, rfl, .ty b, tyx_ex e t, kit_ty k, q _ (Ex.refl _)⟩
def spIsInt (K : PySem.W.Frag) : Sp := fun vs H Q _ => ∃ v b, vs = [v] ∧ Kn K H v b ∧ RetV (.bl b) H Q
theorem scIsInt : FnScope ["value"] ["value"] (defScope sIsInt) := ⟨rfl, rfl, rfl, by decide +kernel, rfl, by decide +kernel, by decide +kernel⟩
theorem ok_isInt {f : Addr} {fd : FuncData} (F : Fun K "is_integer" "is_integer" sIsInt f fd) (T : TxG mg) : FnOk P w K mg base CX0 1 f fd ["value"] (spIsInt K) := by
  refine F.ok scIsInt (fun vs H Q E h => ?_) (fun cdv A outer s H vs Q E hr h => ?_)
  · obtain ⟨v, b, rfl, _⟩ := h
    rfl
  · obtain ⟨v, b, rfl, k, q⟩ := h
    refine ⟨_, pss_one (ps_ret (pe_and (pe_callB call_isi (by rfl) T.isi (by decide +kernel) (pa_cons (pv 0) (pa_cons (pe_bltn (by rfl) T.int (by decide +kernel) (v := .ty "int") rfl) pa_nil)))
      (pe_one (pe_not (pe_callB call_isi (by rfl) T.isi (by decide +kernel) (pa_cons (pv 0) (pa_cons (pe_bltn (by rfl) T.bool (by decide +kernel) (v := .ty "bool") rfl) pa_nil))))))), ?_⟩
    cases k with
    | int i => exact s_ret (ev_andV (ev_isi (ev_var rfl) (.base (.int i)) (r := true) (by decide +kernel)) (fun _ => ev_notV (ev_isi (ev_var rfl) (.base (.int i)) (r := false) (by decide +kernel)))) fun H1 e => q H1 e
    | oth t h1 h2 hx => exact s_ret (ev_is (ev_andV (ev_isi (ev_var rfl) t h1) (fun _ => ev_notV (ev_isi (ev_var rfl) t h2))) (by rw [hx])) fun H1 e => q H1 e
theorem ev_callI {σ : St} {H : Hp} {te : TE} {v : V} {b : Bool} (h : Ev te σ H v) (k : Kn K H v b) : Ev (tCall (spIsInt K) [] E0 (tCons te tNil)) σ H (.bl b) :=
  ev_call (ea_cons h ea_nil) fun H1 e Q q E => ⟨v, b, rfl, k.ex e, fun H2 e2 => q H2 e2⟩
/-- need_base, need_number: nothing, or the exception -/
def spNeed (J : Hp → V → Bool → Prop) (C : Addr) : Sp := fun vs H Q E => ∃ v b, vs = [v] ∧ J H v b ∧ (b = true → RetV .non H Q) ∧ (b = false → Leaves C "value" v H E)
theorem scNeedB : FnScope ["base"] ["base"] (defScope sNeedB) := ⟨rfl, rfl, rfl, by decide +kernel, rfl, by decide +kernel, by decide +kernel⟩
end
end Dg

namespace L2
open PySem PySem.Spec PyProof.Rows
section
variable {X : Cx} {e : Expr} {te : TE} {p2 p3 p4 pos : Pos} {j : Nat}
/-- xs[::-1] of a list: a new one -/
def tBack (K : PySem.W.Frag) (te : TE) : TE := fun σ H Q => te σ H fun x H2 => ∃ a xs, x = .ref a ∧ SqL K H2 a xs ∧ ∀ p, H2 p = none → Q (.ref p) (upd H2 p (.lst xs.reverse))
theorem vals_reverse : ∀ {xs : List V} {us : List Value}, Vals xs us → Vals xs.reverse us.reverse
  | _, _, .nil => .nil
  | _, _, .cons r t => by
    rw [List.reverse_cons, List.reverse_cons]
    exact (vals_reverse t).append (.cons r .nil)
theorem pe_back (he : PE X e te) : PE X (.Subscript e (.Slice none none (some (.UnaryOp .USub (.Constant (.int 1) j p3) p4)) p2) pos) (tBack X.K te) := by
  refine ⟨fun pins s σ H Q I h => ?_⟩
  refine Subscript_ (thn (he.run pins s σ H _ I h) fun v s1 ⟨x, H1, I1, r1, a, xs, ex, hx, q⟩ => ?_)
  subst ex
  obtain rfl : v = Value.ref a := r1
  refine wpAny_Slice ?_
  rw [evalPart_none]
  refine wpAny_pure (wpAny_pure ?_)
  rw [evalPart_some]
  refine thn ((pe_un (pos := p4) un_neg (pe_int (X := X) (i := 1) (j := j) (pos := p3))).run pins s1 σ H1 (fun y H2 => y = .int (-1) ∧ H2 = H1) I1 ⟨1, rfl, rfl, rfl⟩) fun vu s3 ⟨y, H3, I3, r3, ey, eH⟩ => ?_
  subst ey
  rw [eH] at I3
  obtain ⟨tk, rfl⟩ := r3
  have I4 : Inv X pins σ H1 { s3 with heap := s3.heap.push { cls := .type "slice", data := .fields #[.none, .none, .int (-1) tk] } } := I3.kept (t' := s3.toks) fun b ob q => Heap.get?_push_of_some _ q
  obtain ⟨its, r, ht, hz⟩ := I4.list hx
  show wpAny (model X.prog X.w) X.A (subscriptTail e (.Slice none none (some (.UnaryOp .USub (.Constant (.int 1) j p3) p4)) p2) (.ref a) (.ref s3.heap.objs.size)) (EP X pins σ Q) X.xe { s3 with heap := s3.heap.push { cls := .type "slice", data := .fields #[.none, .none, .int (-1) tk] } }
  refine tail_any (ops := _) ht.isList.typeIs slot_list_getitem.lookup ?_ (by with_unfolding_all rfl)
  refine wpAny_getItem_list_slice ht.isList (Heap.IsSliceOf.new ..) .none .none (.int _ _) (by simp) ?_ (by rw [List.size_toArray, ← r.length]; exact hz)
  rw [PySem.W.krv_pick]
  refine ⟨.ref _, _, I4.laid (t' := s3.toks) (o := .lst xs.reverse) (fun b ob q => Heap.get?_push_of_some _ q) (Nat.le_refl _) ?_, rfl, q _ (I4.hok.fresh (Nat.le_refl _))⟩
  exact ⟨by rw [List.length_reverse]; exact hz, its.reverse, 0, vals_reverse r, Heap.get?_push_size _ rfl⟩
end
end L2

namespace Evl
open PySem L2
/-- a <= b <= c of whole numbers -/
theorem ev_chI {σ : St} {H : Hp} {ta tb tc : TE} {a b c : Int} (ha : Ev ta σ H (.int a)) (hb : Ev tb σ H (.int b)) (hc : Ev tc σ H (.int c)) :
    Ev (tChain (rI0 fun i j => .bl (decide (i ≤ j))) (rI0 fun i j => .bl (decide (i ≤ j))) ta tb tc) σ H (.bl (decide (a ≤ b) && decide (b ≤ c))) := fun H1 e Q q =>
  ha H1 e _ fun H2 e2 => hb H2 (e.trans e2) _ fun H3 e3 => ⟨a, b, rfl, rfl, _, rfl, by
    by_cases h : a ≤ b
    · rw [if_pos (decide_eq_true h)]
      exact hc H3 ((e.trans e2).trans e3) _ fun H4 e4 => ⟨b, c, rfl, rfl, by
        have z := q H4 ((e2.trans e3).trans e4)
        rw [decide_eq_true h, Bool.true_and] at z
        exact z⟩
    · rw [if_neg (by simpa using h)]
      have z := q H3 (e2.trans e3)
      rw [decide_eq_false h, Bool.false_and] at z
      exact z⟩
end Evl
namespace Dg
open PySem L2 Evl
section
variable {P : Program} {w : World} {K : PySem.W.Frag} {mg : Str → Option Value} {base : Heap} {ca : Nat → Addr} {fi : Addr}
theorem ok_needB {f : Addr} {fd fdi : FuncData} (F : Fun K "need_base" "need_base" sNeedB f fd) (GI : FnOk P w K mg base CX0 1 fi fdi ["value"] (spIsInt K)) (bI : Binds K fdi ["value"] []) (T : TxI K mg fi)
    (M : Mks P K mg (ca 1) ["value"]) (gC : mg "BadBase" = some (.ref (ca 1))) : FnOk P w K mg base (L2.CX P w) 2 f fd ["base"] (spNeed (Bs K) (ca 1)) := by
  refine F.okX scNeedB (fun vs H Q E h => ?_) (fun cdv A outer s H vs Q E hr h => ?_)
  · obtain ⟨v, b, rfl, _⟩ := h
    rfl
  · obtain ⟨v, b, rfl, k, qy, qn⟩ := h
    obtain ⟨t1, hl⟩ := T.least
    obtain ⟨t2, hm⟩ := T.most
    refine ⟨_, pss_one (ps_if (PW.pt (pw_or (pt_not (pt_val (pe_call GI hr (by rfl) T.isInt T.kInt bI .nil pass0 (pa_cons (pv 0) pa_nil)))) (pw_or1 (pt_not (pt_chain op_le op_le (pe_glob (by rfl) hl (v := .int 2) ⟨_, rfl⟩) (pv 0) (pe_glob (by rfl) hm (v := .int 10) ⟨_, rfl⟩))))))
      (pss_one (ps_raise rfl (takes_of rfl rfl rfl rfl) (pmk_mks M T.sup hr (by simp) (pa_cons (pv 0) pa_nil) (by rfl) gC))) pss_nil), ?_⟩
    cases k with
    | int i =>
      refine s_when (b := !(decide (2 ≤ i) && decide (i ≤ 10))) (et_is (et_or (et_not (et_B (ev_callI (ev_var rfl) (.int i)))) fun _ => et_not (et_test (ev_chI ev_c (ev_var rfl) ev_c))) (by simp)) (fun z H1 e => ?_) (fun z H1 e => qy (by simpa using z) H1 e)
      exact ⟨_, rfl, rfl, fun d hd => qn (by rw [Bool.not_eq_true'] at z; exact z) H1 d e hd⟩
    | oth h =>
      refine s_when (b := true) (et_is (et_or (b := true) (et_not (et_B (ev_callI (ev_var rfl) h))) fun z => nomatch z) (by simp)) (fun z H1 e => ?_) (fun z => nomatch z)
      exact ⟨_, rfl, rfl, fun d hd => qn rfl H1 d e hd⟩
end
end Dg

namespace Evl
open PySem L2
/-- a comprehension over the signs of a text -/
theorem el_lcS {x : Str} {σ : St} {H : Hp} {tl : TE} {te : TE} {j : Nat} {vs : List Nat} (v : Nat → V) (h : Ev tl σ H (.str x)) (hz : x.length ≤ 40000) (hw : ∀ y, wipe ((wipe σ vs).set j (some y)) vs = wipe σ vs)
    (he : ∀ (i c : Nat) H1, Ex H H1 → x.cps[i]? = some c → Ev te ((wipe σ vs).set j (some (.str ⟨#[c]⟩))) H1 (v c)) :
    EvL (tLc (iStr tl) (gName j) tYes te vs) σ H (x.cps.toList.map v) := fun H0 e Q q => h H0 e _ fun H1 e1 => ⟨x, rfl, fun D hD => by
  have sz : x.cps.toList.length = x.cps.size := Array.length_toList
  refine ⟨fun i m H' => m = x.cps.size - i ∧ i ≤ x.cps.size ∧ H' D = some (.lst ((x.cps.toList.take i).map v)) ∧ Ex H1 H', ⟨x.cps.size, by simp, Nat.zero_le _, by simp [upd_same], Ex.new hD⟩, ?_⟩
  rintro i m H' ⟨rfl, hi, hL, ex⟩
  by_cases hlt : i < x.cps.size
  · refine .inr ⟨hlt, fun H2 => H2 D = some (.lst ((x.cps.toList.take (i + 1)).map v)) ∧ Ex H1 H2, fun H2 ⟨a, b⟩ => ⟨x.cps.size - (i + 1), by omega, rfl, hlt, a, b⟩, fun y H2 hy => ?_⟩
    obtain ⟨rfl, c, hc, rfl⟩ := hy
    refine ⟨hw _, ?_⟩
    rw [show (tYes : TT) = fun _ H Q => Q true H from rfl]
    dsimp only
    rw [if_pos rfl]
    refine he i c H2 ((e.trans e1).trans ex) hc H2 (Ex.refl _) _ fun H4 e4 => ⟨_, e4 _ _ hL, ?_, ?_, ?_⟩
    · rw [List.length_map, List.length_take, sizeLine_eq]
      have : x.cps.size ≤ 40000 := hz
      omega
    · rw [upd_same, List.take_add_one, List.map_append]
      have : x.cps.toList[i]? = some c := by rw [Array.getElem?_toList]; exact hc
      rw [this]
      rfl
    · exact (ex.trans e4).mut hD
  · have e3 : i = x.cps.size := by omega
    subst e3
    refine .inl ⟨Nat.le_refl _, q D H' (fresh_back e1 hD) (e1.trans ex) ?_⟩
    rw [List.take_of_length_le (by rw [sz]; exact Nat.le_refl _)] at hL
    exact hL⟩
end Evl
namespace Dg
open PySem L2 Evl TL
/-- whether a value is a text of 1 to so many digits of a base -/
def isFigs (β m : Nat) (x : Str) : Bool := (decide (1 ≤ x.length) && decide (x.length ≤ m)) && (tl x).all fun c => decide (48 ≤ c ∧ c < 48 + β)
def figsO (β m : Nat) : Option Str → Bool
  | some x => isFigs β m x
  | none => false
inductive Tx (K : PySem.W.Frag) (H : Hp) : V → Option Str → Prop
  | str (x : Str) : Tx K H (.str x) (some x)
  | oth {v : V} {a : String} (t : TyX K H v (.type a)) (h : kitB a "str" = some false) : Tx K H v none
theorem Tx.ex {K : PySem.W.Frag} {H H' : Hp} {v : V} {b : Option Str} (e : Ex H H') (k : Tx K H v b) : Tx K H' v b := by
  cases k with
  | str x => exact .str x
  | oth t h => exact .oth (tyx_ex e t) h
theorem cut_figs {β : Nat} (h2 : 2 ≤ β) (h10 : β ≤ 10) (c : Nat) : decide (c ∈ (cutS "0123456789" none (some (β : Int))).cps.toList) = decide (48 ≤ c ∧ c < 48 + β) := by
  have e : (cutS "0123456789" none (some (β : Int))).cps.toList = (List.range β).map (48 + ·) := by
    have cc : β = 2 ∨ β = 3 ∨ β = 4 ∨ β = 5 ∨ β = 6 ∨ β = 7 ∨ β = 8 ∨ β = 9 ∨ β = 10 := by omega
    rcases cc with rfl | rfl | rfl | rfl | rfl | rfl | rfl | rfl | rfl <;> decide +kernel
  rw [e]
  apply decide_eq_decide.mpr
  rw [List.mem_map]
  constructor
  · rintro ⟨a, ha, rfl⟩
    have := List.mem_range.mp ha
    omega
  · rintro ⟨a, b⟩
    exact ⟨c - 48, List.mem_range.mpr (by omega), by omega⟩
section
variable {P : Program} {w : World} {K : PySem.W.Frag} {mg : Str → Option Value} {base : Heap} {ca : Nat → Addr}
theorem ev_allL {σ : St} {H : Hp} {te : TE} {bs : List Bool} (h : EvL te σ H (bs.map V.bl)) : Ev (tCB (rAll K) (tCons te tNil)) σ H (.bl (bs.all id)) := fun H1 e Q q =>
  h H1 e _ fun p H2 hp e2 h2 => ⟨p, bs, rfl, sq_of h2, q H2 e2⟩
/-- is_figures(base, value, most) -/
def spIsFig (K : PySem.W.Frag) : Sp := fun vs H Q _ => ∃ (β m : Nat) (v : V) (o : Option Str), vs = [.int β, v, .int m] ∧ 2 ≤ β ∧ β ≤ 10 ∧ m ≤ 40000 ∧ Tx K H v o ∧ (∀ x, o = some x → x.length ≤ sizeLine) ∧ RetV (.bl (figsO β m o)) H Q
theorem scIsFig : FnScope ["base", "value", "most", "figure"] ["base", "value", "most"] (defScope sIsFig) := ⟨rfl, rfl, rfl, by decide +kernel, rfl, by decide +kernel, by decide +kernel⟩
theorem ok_isFig {f : Addr} {fd : FuncData} (F : Fun K "is_figures" "is_figures" sIsFig f fd) (T : TxG mg) (mA : mg "all" = none) : FnOk P w K mg base CX0 1 f fd ["base", "value", "most"] (spIsFig K) := by
  refine F.ok scIsFig (fun vs H Q E h => ?_) (fun cdv A outer s H vs Q E hr h => ?_)
  · obtain ⟨_, _, _, _, rfl, _⟩ := h
    rfl
  · obtain ⟨β, m, v, o, rfl, b2, b10, hm, k, hz, q⟩ := h
    obtain ⟨t1, hf⟩ := T.fig
    refine ⟨_, pss_cons (ps_if (PW.pt (pw_or (pt_not (pt_val (pe_callB call_isi (by rfl) T.isi (by decide +kernel) (pa_cons (pv 1) (pa_cons (pe_bltn (by rfl) T.str (by decide +kernel) (v := .ty "str") rfl) pa_nil))))) (pw_or1 (pt_not (pt_chain op_le op_le pe_int (pe_callB call_len_str (by rfl) T.len (by decide +kernel) (pa_cons (pv 1) pa_nil)) (pv 2)))))) (pss_one (ps_ret pe_bl)) pss_nil)
      (pss_one (ps_ret (pe_callB (cr_all rfl) (by rfl) mA (by decide +kernel) (pa_cons (pe_lc (own := [("figure", 3)]) (g := gName 3) (tt := tYes) rfl scIsFig.nd (pi_str (pv 1)) (blkOk_by (own := [("figure", 3)]) (N := ["base", "value", "most", "figure"]) (sc := defScope sIsFig) (by decide +kernel)) (fun _ _ _ _ _ => pg_name (i := 3) scIsFig.nd rfl (Or.inl rfl)) (fun _ _ _ _ _ => pts_nil)
        (fun _ _ _ _ _ => pe_cmpR op_in_sign (pv 3) (pe_slice (sl_str) (pe_glob (by rfl) hf (v := .str "0123456789") ⟨_, rfl⟩) po_none (po_some (pv 0))) (by rfl))) pa_nil)))), ?_⟩
    cases k with
    | oth t h =>
      exact q_when (b := true) (et_is (et_or (b := true) (et_not (et_B (ev_isi (ev_var rfl) t h))) fun z => nomatch z) (by simp)) (fun z H1 e => q H1 e) (fun z => nomatch z)
    | str x =>
      have hx := hz x rfl
      have eT : Ev (tCB (fun xs H Q => ∃ z : Str, xs = [.str z] ∧ z.length ≤ sizeLine ∧ Q (.int z.length) H) (tCons (tVar 1) tNil)) (L2.start ["base", "value", "most", "figure"] [.int β, .str x, .int m]) H (.int (x.length : Int)) :=
        ev_cb (ea_cons (ev_var rfl) ea_nil) fun H1 e Q q => ⟨x, rfl, hx, q _ (Ex.refl _)⟩
      refine q_when (b := !(decide ((1 : Int) ≤ (x.length : Int)) && decide ((x.length : Int) ≤ (m : Int)))) (et_is (et_or (et_not (et_B (ev_isi (r := true) (ev_var rfl) (.base (.str x)) (by decide +kernel)))) fun _ => et_not (et_test (ev_chI ev_c eT (ev_var rfl)))) (by simp)) (fun z H1 e => ?_) (fun z H1 e => ?_)
      · have e0 : isFigs β m x = false := by
          rw [Bool.not_eq_true'] at z
          unfold isFigs
          have : (decide (1 ≤ x.length) && decide (x.length ≤ m)) = false := by
            rw [← z]
            congr 1 <;> exact decide_eq_decide.mpr (by omega)
          rw [this, Bool.false_and]
        have q' := q
        dsimp only [figsO] at q'
        rw [e0] at q'
        exact q' H1 e
      · have z' : (decide ((1 : Int) ≤ (x.length : Int)) && decide ((x.length : Int) ≤ (m : Int))) = true := by simpa using z
        have hlen : x.length ≤ 40000 := by
          have := of_decide_eq_true (Bool.and_eq_true_iff.mp z').2
          omega
        have e1 : isFigs β m x = ((tl x).map fun c => decide (48 ≤ c ∧ c < 48 + β)).all id := by
          unfold isFigs
          have : (decide (1 ≤ x.length) && decide (x.length ≤ m)) = true := by
            rw [← z']
            congr 1 <;> exact decide_eq_decide.mpr (by omega)
          rw [this, Bool.true_and, List.all_map]
          rfl
        have q' := q
        dsimp only [figsO] at q'
        rw [e1] at q'
        refine s_ret (ev_allL (bs := (tl x).map fun c => decide (48 ≤ c ∧ c < 48 + β)) ?_) fun H2 e2 => q' H2 (e.trans e2)
        rw [List.map_map]
        refine el_lcS (v := fun c => V.bl (decide (48 ≤ c ∧ c < 48 + β))) (ev_var rfl) hlen (fun _ => rfl) (fun i c H2 e2 hc => ?_)
        refine ev_is (ev_op (ev_var rfl) (y := .str (cutS "0123456789" none (some (β : Int)))) (fun H3 e3 Q q => ⟨_, rfl, _, rfl, _, rfl, by decide, q H3 (Ex.refl _)⟩) (z := .bl (decide (c ∈ (cutS "0123456789" none (some (β : Int))).cps.toList))) (fun H3 e3 Q q => ⟨c, _, rfl, rfl, q H3 (Ex.refl _)⟩)) ?_
        rw [cut_figs b2 b10]
end
end Dg

/-! Things as data: what lies at the heap is that data; what a rule is, of data. -/
namespace Dt
open PySem L2 Evl Dg LamR LamX
open Dr (StAt SameB)
mutual
/-- the thing is that data, as the heap stands; texts are short -/
inductive Pt (H : Hp) : V → PyData → Prop
  | non : Pt H .non .none
  | bl (b : Bool) : Pt H (.bl b) (.bool b)
  | int (i : Int) : Pt H (.int i) (.int i)
  | str (x : Str) (h : x.length ≤ 3000) : Pt H (.str x) (.str x)
  | tup {a : Addr} {vs : List V} {ds : List PyData} : H a = some (.tup vs) → PtAll H vs ds → Pt H (.ref a) (.tuple ds)
  | lst {a : Addr} {vs : List V} {ds : List PyData} : H a = some (.lst vs) → PtAll H vs ds → Pt H (.ref a) (.list ds)
  | nil {a : Addr} : H a = some (.dK []) → Pt H (.ref a) (.dict [])
inductive PtAll (H : Hp) : List V → List PyData → Prop
  | nil : PtAll H [] []
  | cons {v : V} {d : PyData} {vs : List V} {ds : List PyData} : Pt H v d → PtAll H vs ds → PtAll H (v :: vs) (d :: ds)
end
mutual
theorem Pt.extN {H H' : Hp} (e : ExtN H H') : ∀ {v : V} {d : PyData}, Pt H v d → Pt H' v d
  | _, .none, h => by cases h; exact .non
  | _, .bool _, h => by cases h; exact .bl _
  | _, .int _, h => by cases h; exact .int _
  | _, .str _, h => by cases h with | str _ z => exact .str _ z
  | _, .tuple ds, h => by
    cases h with
    | tup hs ha => exact .tup (e _ _ hs (by simp)) (PtAll.extN e ha)
  | _, .list ds, h => by
    cases h with
    | lst hs ha => exact .lst (e _ _ hs (by simp)) (PtAll.extN e ha)
  | _, .dict _, h => by
    cases h with
    | nil hs => exact .nil (e _ _ hs (by simp))
theorem PtAll.extN {H H' : Hp} (e : ExtN H H') : ∀ {vs : List V} {ds : List PyData}, PtAll H vs ds → PtAll H' vs ds
  | _, [], h => by cases h; exact .nil
  | _, d :: ds, h => by
    cases h with
    | cons h1 h2 => exact .cons (Pt.extN e h1) (PtAll.extN e h2)
end
theorem Pt.ex {H H' : Hp} (e : Ex H H') {v : V} {d : PyData} (h : Pt H v d) : Pt H' v d := h.extN (ExtN.of e)
theorem PtAll.ex {H H' : Hp} (e : Ex H H') {vs : List V} {ds : List PyData} (h : PtAll H vs ds) : PtAll H' vs ds := h.extN (ExtN.of e)
def isI : PyData → Bool
  | .int _ => true
  | _ => false
mutual
/-- no list in it is a row of integers alone -/
def okD : PyData → Bool
  | .list ds => !(ds.all isI && !ds.isEmpty) && okDs ds
  | .tuple ds => okDs ds
  | _ => true
def okDs : List PyData → Bool
  | [] => true
  | d :: ds => okD d && okDs ds
end
theorem PtAll.ints {H : Hp} : ∀ {is : List Int} {ds : List PyData}, PtAll H (is.map V.int) ds → ds.all isI = true ∧ ds.length = is.length
  | [], ds, h => by
    cases h
    exact ⟨rfl, rfl⟩
  | i :: is, ds, h => by
    cases h with
    | cons h1 h2 =>
      obtain ⟨a, b⟩ := PtAll.ints h2
      cases h1
      exact ⟨by simp [isI, a], by simp [b]⟩
mutual
theorem Pt.same {H H' : Hp} {p c l : Addr} {n : Nat} {a : Int} (S : StAt H p c l n a) (e : SameB H H' p l) : ∀ {v : V} {d : PyData}, Pt H v d → okD d = true → Pt H' v d
  | _, .none, h, _ => by cases h; exact .non
  | _, .bool _, h, _ => by cases h; exact .bl _
  | _, .int _, h, _ => by cases h; exact .int _
  | _, .str _, h, _ => by cases h with | str _ z => exact .str _ z
  | _, .tuple ds, h, k => by
    cases h with
    | tup hs ha =>
      obtain ⟨ls, hl, _⟩ := S.l
      exact .tup (e _ _ hs (ne_of hs S.d (by intro z; cases z)) (ne_of hs hl (by intro z; cases z))) (PtAll.same S e ha (by rw [okD] at k; exact k))
  | _, .list ds, h, k => by
    cases h with
    | @lst a vs _ hs ha =>
      obtain ⟨ls, hl, hn⟩ := S.l
      rw [okD, Bool.and_eq_true] at k
      refine .lst (e _ _ hs (ne_of hs S.d (by intro z; cases z)) (fun z => ?_)) (PtAll.same S e ha k.2)
      rw [z, hl] at hs
      have hv : vs = ls.map V.int := by
        injection hs with hs
        injection hs with hs
        exact hs.symm
      rw [hv] at ha
      obtain ⟨q1, q2⟩ := PtAll.ints ha
      have n0 := S.n0
      have : ds.isEmpty = false := by
        cases ds with
        | nil =>
          rw [List.length_nil] at q2
          omega
        | cons _ _ => rfl
      rw [q1, this] at k
      exact absurd k.1 (by decide)
  | _, .dict _, h, _ => by
    cases h with
    | nil hs =>
      obtain ⟨ls, hl, _⟩ := S.l
      refine .nil (e _ _ hs (fun z => ?_) (ne_of hs hl (by intro z; cases z)))
      rw [z, S.d] at hs
      injection hs with hs
      injection hs with hs
      cases hs
theorem PtAll.same {H H' : Hp} {p c l : Addr} {n : Nat} {a : Int} (S : StAt H p c l n a) (e : SameB H H' p l) : ∀ {vs : List V} {ds : List PyData}, PtAll H vs ds → okDs ds = true → PtAll H' vs ds
  | _, [], h, _ => by cases h; exact .nil
  | _, d :: ds, h, k => by
    cases h with
    | cons h1 h2 =>
      rw [okDs, Bool.and_eq_true] at k
      exact .cons (Pt.same S e h1 k.1) (PtAll.same S e h2 k.2)
end
theorem PtAll.length {H : Hp} : ∀ {vs : List V} {ds : List PyData}, PtAll H vs ds → vs.length = ds.length
  | _, [], h => by cases h; rfl
  | _, d :: ds, h => by
    cases h with
    | cons h1 h2 => rw [List.length_cons, List.length_cons, PtAll.length h2]
theorem PtAll.get {H : Hp} : ∀ {vs : List V} {ds : List PyData}, PtAll H vs ds → ∀ {i : Nat} {d : PyData}, ds[i]? = some d → ∃ v, vs[i]? = some v ∧ Pt H v d
  | _, [], h, i, d, hd => by simp at hd
  | _, d :: ds, h, i, d', hd => by
    cases h with
    | cons h1 h2 =>
      cases i with
      | zero =>
        simp only [List.getElem?_cons_zero, Option.some.injEq] at hd
        subst hd
        exact ⟨_, rfl, h1⟩
      | succ i =>
        simp only [List.getElem?_cons_succ] at hd
        obtain ⟨v, hv, k⟩ := PtAll.get h2 hd
        exact ⟨v, by simpa using hv, k⟩
theorem PtAll.get2 {H : Hp} : ∀ {vs : List V} {ds : List PyData}, PtAll H vs ds → ∀ {i : Nat} {v : V}, vs[i]? = some v → ∃ d, ds[i]? = some d ∧ Pt H v d
  | _, [], h, i, v, hv => by
    cases h
    simp at hv
  | _, d :: ds, h, i, v', hv => by
    cases h with
    | cons h1 h2 =>
      cases i with
      | zero =>
        simp only [List.getElem?_cons_zero, Option.some.injEq] at hv
        subst hv
        exact ⟨_, rfl, h1⟩
      | succ i =>
        simp only [List.getElem?_cons_succ] at hv
        obtain ⟨d, hd, k⟩ := PtAll.get2 h2 hv
        exact ⟨d, by simpa using hd, k⟩
theorem PtAll.app {H : Hp} : ∀ {vs : List V} {ds : List PyData}, PtAll H vs ds → ∀ {ws : List V} {es : List PyData}, PtAll H ws es → PtAll H (vs ++ ws) (ds ++ es)
  | _, [], h, ws, es, k => by cases h; exact k
  | _, d :: ds, h, ws, es, k => by
    cases h with
    | cons h1 h2 => exact .cons h1 (PtAll.app h2 k)
theorem PtAll.take {H : Hp} : ∀ {vs : List V} {ds : List PyData}, PtAll H vs ds → ∀ n : Nat, PtAll H (vs.take n) (ds.take n)
  | _, [], h, n => by
    cases h
    rw [List.take_nil, List.take_nil]
    exact .nil
  | _, d :: ds, h, n => by
    cases h with
    | cons h1 h2 =>
      cases n with
      | zero => exact .nil
      | succ n =>
        rw [List.take_succ_cons, List.take_succ_cons]
        exact .cons h1 (PtAll.take h2 n)
/-- its type -/
def tyN : PyData → String
  | .none => "NoneType"
  | .bool _ => "bool"
  | .int _ => "int"
  | .str _ => "str"
  | .tuple _ => "tuple"
  | .list _ => "list"
  | .dict _ => "dict"
def isT : PyData → Bool
  | .tuple _ => true
  | _ => false
def isS : PyData → Bool
  | .str _ => true
  | _ => false
section
variable {K : PySem.W.Frag} {H : Hp} {v : V} {d : PyData}
theorem Pt.ty (h : Pt H v d) : TyX K H v (.type (tyN d)) := by
  cases h with
  | non => exact .base .non
  | bl b => exact .base (.bl b)
  | int i => exact .base (.int i)
  | str x _ => exact .base (.str x)
  | tup h _ => exact .base (.tup h)
  | lst h _ => exact .base (.lst h)
  | nil h => exact .base (.dK h)
theorem kit_tup (d : PyData) : kitB (tyN d) "tuple" = some (isT d) := by
  cases d <;> simp only [tyN, isT] <;> decide +kernel
theorem kit_str (d : PyData) : kitB (tyN d) "str" = some (isS d) := by
  cases d <;> simp only [tyN, isS] <;> decide +kernel
theorem Pt.kn (h : Pt H v d) : Kn K H v (isI d) := by
  have t : TyX K H v (.type (tyN d)) := h.ty
  cases h with
  | int i => exact .int i
  | non => exact .oth (x := false) (y := false) t (by show kitB "NoneType" "int" = _; decide +kernel) (by show kitB "NoneType" "bool" = _; decide +kernel) rfl
  | bl b => exact .oth (x := true) (y := true) t (by show kitB "bool" "int" = _; decide +kernel) (by show kitB "bool" "bool" = _; decide +kernel) rfl
  | str x _ => exact .oth (x := false) (y := false) t (by show kitB "str" "int" = _; decide +kernel) (by show kitB "str" "bool" = _; decide +kernel) rfl
  | tup h _ => exact .oth (x := false) (y := false) t (by show kitB "tuple" "int" = _; decide +kernel) (by show kitB "tuple" "bool" = _; decide +kernel) rfl
  | lst h _ => exact .oth (x := false) (y := false) t (by show kitB "list" "int" = _; decide +kernel) (by show kitB "list" "bool" = _; decide +kernel) rfl
  | nil h => exact .oth (x := false) (y := false) t (by show kitB "dict" "int" = _; decide +kernel) (by show kitB "dict" "bool" = _; decide +kernel) rfl
def txtD : PyData → Option Str
  | .str x => some x
  | _ => none
theorem Pt.tx (h : Pt H v d) : Tx K H v (txtD d) ∧ ∀ x, txtD d = some x → x.length ≤ sizeLine := by
  have t : TyX K H v (.type (tyN d)) := h.ty
  have k := kit_str d
  cases h with
  | str x z => exact ⟨.str x, fun y e => by
      cases e
      exact Nat.le_trans z (by rw [sizeLine_eq]; decide)⟩
  | non => exact ⟨.oth t k, fun y e => by cases e⟩
  | bl b => exact ⟨.oth t k, fun y e => by cases e⟩
  | int i => exact ⟨.oth t k, fun y e => by cases e⟩
  | tup h _ => exact ⟨.oth t k, fun y e => by cases e⟩
  | lst h _ => exact ⟨.oth t k, fun y e => by cases e⟩
  | nil h => exact ⟨.oth t k, fun y e => by cases e⟩
theorem ev_isiT {σ : St} {te : TE} (h : Ev te σ H v) (k : Pt H v d) : Ev (tCB (rIsi K) (tCons te (tCons (tC (.ty "tuple")) tNil))) σ H (.bl (isT d)) := ev_isi h k.ty (kit_tup d)
theorem ev_isiS {σ : St} {te : TE} (h : Ev te σ H v) (k : Pt H v d) : Ev (tCB (rIsi K) (tCons te (tCons (tC (.ty "str")) tNil))) σ H (.bl (isS d)) := ev_isi h k.ty (kit_str d)
end
/-- an integer from a least one to 6 -/
def sizeB (l : Int) : PyData → Bool
  | .int i => decide (l ≤ i) && decide (i ≤ 6)
  | _ => false
def intD : PyData → Int
  | .int i => i
  | _ => 0
def isN : PyData → Bool
  | .none => true
  | _ => false
def boundsB (a b : PyData) : Bool := sizeB 1 a && (isN b || sizeB (intD a) b)
def tupD : PyData → List PyData
  | .tuple ds => ds
  | _ => []
def eqS (w : Str) : PyData → Bool
  | .str x => decide (x = w)
  | _ => false
def begB (d : PyData) (w : Str) (n : Nat) : Bool := isT d && (decide ((tupD d).length = n) && eqS w ((tupD d).headD .none))
def at_ (i : Nat) (d : PyData) : PyData := (tupD d).getD i .none
def condB (β : Nat) (d : PyData) : Bool :=
  if begB d "ends" 2 = true then figsO β 2 (txtD (at_ 1 d)) else if begB d "near" 2 = true then sizeB 0 (at_ 1 d) else if (begB d "length" 3 || begB d "changed" 3) = true then boundsB (at_ 1 d) (at_ 2 d) else false
def keepB (d : PyData) : Bool := if (begB d "changed" 2 || begB d "last" 2) = true then sizeB 1 (at_ 1 d) else begB d "all" 1
def ruleB (β : Nat) (d : PyData) : Bool := isT d && (decide ((tupD d).length = 2) && (isT (at_ 0 d) && (decide ((tupD (at_ 0 d)).length ≤ 3) && ((tupD (at_ 0 d)).all (condB β) && keepB (at_ 1 d)))))
end Dt

/-! What the program's defs tell of data. -/
namespace Evl
open PySem L2
/-- a comprehension over a tuple -/
theorem el_lcT {K : PySem.W.Frag} {σ : St} {H : Hp} {t : TT} {te : TE} {a : Addr} {xs : List V} {tl : TE} {j : Nat} {vs : List Nat} (f : Nat → Bool) (v : Nat → V) (h : Ev tl σ H (.ref a)) (hx : SqT K H a xs) (hz : xs.length ≤ 40000) (hw : ∀ x, wipe ((wipe σ vs).set j (some x)) vs = wipe σ vs)
    (ht : ∀ (i : Nat) (x : V) H1, Ex H H1 → xs[i]? = some x → EvT t ((wipe σ vs).set j (some x)) H1 (f i)) (he : ∀ (i : Nat) (x : V) H1, Ex H H1 → xs[i]? = some x → f i = true → Ev te ((wipe σ vs).set j (some x)) H1 (v i)) :
    EvL (tLc (iTup K tl) (gName j) t te vs) σ H (given xs.length f v) := fun H0 e Q q => h H0 e _ fun H1 e1 => ⟨a, rfl, ⟨xs, ex_t (e.trans e1) hx⟩, fun Dl hD =>
  lc_tup (xs := xs) (Cw H1 f v Dl) ⟨hD, Ex.new hD, upd_same⟩ (fun i H' _ p => ex_t ((e.trans e1).trans p.2.1) hx) (fun i x H' hi p => ⟨hw x, cw_turn p (by have := (List.getElem?_eq_some_iff.mp hi).1; omega) (ht i x H1 (e.trans e1) hi) (fun hf => he i x H1 (e.trans e1) hi hf)⟩)
    (fun H' p => q Dl H' (fresh_back e1 p.1) (e1.trans p.2.1) p.2.2)⟩
theorem given_all {α : Type} (xs : List α) (g : α → V) (z : V) : given xs.length (fun _ => true) (fun i => match xs[i]? with | some x => g x | none => z) = xs.map g := by
  unfold given
  have e : (List.range xs.length).filter (fun _ => true) = List.range xs.length := List.filter_eq_self.mpr fun _ _ => rfl
  rw [e]
  apply List.ext_getElem?
  intro i
  rw [List.getElem?_map, List.getElem?_map]
  by_cases h : i < xs.length
  · have h1 : (List.range xs.length)[i]? = some i := by
      rw [List.getElem?_range h]
    rw [h1]
    simp [List.getElem?_eq_getElem h]
  · have h1 : (List.range xs.length)[i]? = none := List.getElem?_eq_none_iff.mpr (by rw [List.length_range]; omega)
    have h2 : xs[i]? = none := List.getElem?_eq_none_iff.mpr (by omega)
    rw [h1, h2]
    rfl
end Evl
namespace Dt
open PySem L2 Evl Dg LamR LamX
open Dr (StAt SameB)
abbrev sSize : Stmt := top 36
abbrev sBounds : Stmt := top 37
abbrev sBegins : Stmt := top 38
abbrev sCond : Stmt := top 39
abbrev sKeep : Stmt := top 40
abbrev sRule : Stmt := top 41
section
variable {K : PySem.W.Frag} {H : Hp} {v : V} {d : PyData}
theorem Pt.isN (h : Pt H v d) : decide (v = V.non) = Dt.isN d := by
  cases h <;> first | rfl | exact decide_eq_false (fun z => by cases z)
theorem sizeB_int {l : Int} (h : sizeB l d = true) (k : Pt H v d) : v = .int (intD d) := by
  cases k <;> first | rfl | cases h
/-- where it begins so, each of its places is there -/
theorem Pt.beg {w : Str} {n : Nat} (k : Pt H v d) (h : begB d w n = true) : ∃ a vs, v = .ref a ∧ H a = some (.tup vs) ∧ vs.length = n ∧ ∀ i, i < n → ∃ u, vs[i]? = some u ∧ Pt H u (at_ i d) := by
  unfold begB at h
  rw [Bool.and_eq_true, Bool.and_eq_true] at h
  obtain ⟨h1, h2, _⟩ := h
  cases k with
  | @tup a vs ds hs ha =>
    have hl : ds.length = n := of_decide_eq_true h2
    refine ⟨a, vs, rfl, hs, by rw [ha.length, hl], fun i hi => ?_⟩
    have hd : ds[i]? = some (at_ i (.tuple ds)) := by
      unfold at_ tupD
      rw [List.getD_eq_getElem?_getD, List.getElem?_eq_getElem (by omega)]
      rfl
    exact ha.get hd
  | _ => cases h1
end
section
variable {P : Program} {w : World} {K : PySem.W.Frag} {mg : Str → Option Value} {base : Heap} {ca : Nat → Addr}
def spSize : Sp := fun vs H Q _ => ∃ v d l, vs = [v, .int l] ∧ Pt H v d ∧ RetV (.bl (sizeB l d)) H Q
theorem scSize : FnScope ["value", "least"] ["value", "least"] (defScope sSize) := ⟨rfl, rfl, rfl, by decide +kernel, rfl, by decide +kernel, by decide +kernel⟩
theorem ok_size {f fi : Addr} {fd fdi : FuncData} (F : Fun K "is_size" "is_size" sSize f fd) (GI : FnOk P w K mg base CX0 1 fi fdi ["value"] (spIsInt K)) (bI : Binds K fdi ["value"] []) (T : TxI K mg fi) (hM : ∃ t, mg "MOST_SIZE" = some (.int 6 t)) :
    FnOk P w K mg base CX0 2 f fd ["value", "least"] spSize := by
  refine F.ok scSize (fun vs H Q E h => ?_) (fun cdv A outer s H vs Q E hr h => ?_)
  · obtain ⟨v, d, l, rfl, _⟩ := h
    rfl
  · obtain ⟨v, d, l, rfl, k, q⟩ := h
    obtain ⟨t, hm⟩ := hM
    refine ⟨_, pss_one (ps_ret (pe_and (pe_call GI hr (by rfl) T.isInt T.kInt bI .nil pass0 (pa_cons (pv 0) pa_nil)) (pe_one (pe_chain op_le op_le (pv 1) (pv 0) (pe_glob (by rfl) hm (v := .int 6) ⟨_, rfl⟩))))), ?_⟩
    have kn := k.kn (K := K)
    cases hd : isI d with
    | true =>
      cases k with
      | int i => exact s_ret (ev_is (ev_andV (ev_callI (ev_var rfl) (.int i)) (fun _ => ev_chI (ev_var rfl) (ev_var rfl) ev_c)) (by simp [sizeB])) fun H1 e => q H1 e
      | _ => cases hd
    | false =>
      have e : sizeB l d = false := by cases d <;> first | rfl | cases hd
      rw [e] at q
      rw [hd] at kn
      exact s_ret (ev_is (ev_andV (b := false) (ev_callI (ev_var rfl) kn) (fun z => nomatch z)) (by simp)) fun H1 e => q H1 e
theorem ev_size {σ : St} {H : Hp} {ta tb : TE} {v : V} {d : PyData} {l : Int} (ha : Ev ta σ H v) (hb : Ev tb σ H (.int l)) (k : Pt H v d) : Ev (tCall spSize [] E0 (tCons ta (tCons tb tNil))) σ H (.bl (sizeB l d)) :=
  ev_call (ea_cons ha (ea_cons hb ea_nil)) fun H1 e Q q E => ⟨v, d, l, rfl, k.ex e, fun H2 e2 => q H2 e2⟩
structure TxR (K : PySem.W.Frag) (mg : Str → Option Value) (fi fb ff fs fbd fbg fc fk : Addr) : Prop extends TxI K mg fi where
  needB : mg "need_base" = some (.ref fb)
  kNB : PySem.W.keepIn K (.ref fb) = true
  isFig : mg "is_figures" = some (.ref ff)
  kFig : PySem.W.keepIn K (.ref ff) = true
  size : mg "is_size" = some (.ref fs)
  kSz : PySem.W.keepIn K (.ref fs) = true
  bounds : mg "are_bounds" = some (.ref fbd)
  kBd : PySem.W.keepIn K (.ref fbd) = true
  begins : mg "begins" = some (.ref fbg)
  kBg : PySem.W.keepIn K (.ref fbg) = true
  cond : mg "is_condition" = some (.ref fc)
  kCd : PySem.W.keepIn K (.ref fc) = true
  keep : mg "is_keep" = some (.ref fk)
  kKp : PySem.W.keepIn K (.ref fk) = true
  tuple : mg "tuple" = none
  all : mg "all" = none
  msize : ∃ t, mg "MOST_SIZE" = some (.int 6 t)
  mconds : ∃ t, mg "MOST_CONDITIONS" = some (.int 3 t)
  mend : ∃ t, mg "MOST_ENDING" = some (.int 2 t)
variable {fi fb ff fs fbd fbg fc fk : Addr}
def spBounds : Sp := fun vs H Q _ => ∃ va vb a b, vs = [va, vb] ∧ Pt H va a ∧ Pt H vb b ∧ RetV (.bl (boundsB a b)) H Q
theorem scBounds : FnScope ["least", "most"] ["least", "most"] (defScope sBounds) := ⟨rfl, rfl, rfl, by decide +kernel, rfl, by decide +kernel, by decide +kernel⟩
theorem ok_bounds {f : Addr} {fd fds : FuncData} (F : Fun K "are_bounds" "are_bounds" sBounds f fd) (GS : FnOk P w K mg base CX0 2 fs fds ["value", "least"] spSize) (bS : Binds K fds ["value", "least"] []) (T : TxR K mg fi fb ff fs fbd fbg fc fk) :
    FnOk P w K mg base CX0 3 f fd ["least", "most"] spBounds := by
  refine F.ok scBounds (fun vs H Q E h => ?_) (fun cdv A outer s H vs Q E hr h => ?_)
  · obtain ⟨va, vb, a, b, rfl, _⟩ := h
    rfl
  · obtain ⟨va, vb, a, b, rfl, ka, kb, q⟩ := h
    refine ⟨_, pss_one (ps_ret (pe_and (pe_call GS hr (by rfl) T.size T.kSz bS .nil pass0 (pa_cons (pv 0) (pa_cons pe_int pa_nil)))
      (pe_one (pe_or (pe_cmpR op_isN (pv 1) pe_non (nomark _)) (pe_one (pe_call GS hr (by rfl) T.size T.kSz bS .nil pass0 (pa_cons (pv 1) (pa_cons (pv 0) pa_nil)))))))), ?_⟩
    refine s_ret (ev_andV (ev_size (ev_var rfl) ev_c ka) fun z => ev_orV (a := Dt.isN b) (ev_op (y := .non) (ev_var rfl) ev_c fun H1 e Q k => ⟨rfl, by rw [kb.isN]; exact k _ (Ex.refl _)⟩) fun _ => ?_) fun H1 e => q H1 e
    have hi := sizeB_int z ka
    subst hi
    exact ev_size (ev_var rfl) (ev_var rfl) kb
theorem ev_bounds {σ : St} {H : Hp} {ta tb : TE} {va vb : V} {a b : PyData} (ha : Ev ta σ H va) (hb : Ev tb σ H vb) (ka : Pt H va a) (kb : Pt H vb b) : Ev (tCall spBounds [] E0 (tCons ta (tCons tb tNil))) σ H (.bl (boundsB a b)) :=
  ev_call (ea_cons ha (ea_cons hb ea_nil)) fun H1 e Q q E => ⟨va, vb, a, b, rfl, ka.ex e, kb.ex e, fun H2 e2 => q H2 e2⟩
def spBegins : Sp := fun vs H Q _ => ∃ v d w n, vs = [v, .str w, .int ((n : Nat) : Int)] ∧ 1 ≤ n ∧ Pt H v d ∧ RetV (.bl (begB d w n)) H Q
theorem scBegins : FnScope ["value", "word", "many"] ["value", "word", "many"] (defScope sBegins) := ⟨rfl, rfl, rfl, by decide +kernel, rfl, by decide +kernel, by decide +kernel⟩
theorem ev_lenT {σ : St} {H : Hp} {te : TE} {a : Addr} {vs : List V} (h : Ev te σ H (.ref a)) (ht : H a = some (.tup vs)) : Ev (tCB (rLenS K) (tCons te tNil)) σ H (.int (vs.length : Int)) :=
  ev_cb (ea_cons h ea_nil) fun H1 e Q q => ⟨a, vs, rfl, .inr (st_of (e _ _ ht)), q _ (Ex.refl _)⟩
theorem ev_at {σ : St} {H : Hp} {te : TE} {a : Addr} {vs : List V} {i : Nat} {u : V} (h : Ev te σ H (.ref a)) (ht : H a = some (.tup vs)) (hu : vs[i]? = some u) : Ev (tOp (rIxT K) te (tC (.int (i : Int)))) σ H u :=
  ev_op h ev_c (rv_ixT (st_of ht) (atI_nat hu))
theorem ok_begins {f : Addr} {fd : FuncData} (F : Fun K "begins" "begins" sBegins f fd) (T : TxR K mg fi fb ff fs fbd fbg fc fk) : FnOk P w K mg base CX0 1 f fd ["value", "word", "many"] spBegins := by
  refine F.ok scBegins (fun vs H Q E h => ?_) (fun cdv A outer s H vs Q E hr h => ?_)
  · obtain ⟨v, d, w, n, rfl, _⟩ := h
    rfl
  · obtain ⟨v, d, x, n, rfl, n1, k, q⟩ := h
    refine ⟨_, pss_cons (ps_if (PW.pt (pw_or (pt_not (pt_val (pe_callB call_isi (by rfl) T.isi (by decide +kernel) (pa_cons (pv 0) (pa_cons (pe_bltn (by rfl) T.tuple (by decide +kernel) (v := .ty "tuple") rfl) pa_nil)))))
        (pw_or1 (pt_cmpR op_ne (pe_callB call_len_seq (by rfl) T.len (by decide +kernel) (pa_cons (pv 0) pa_nil)) (pv 2) (nomark _))))) (pss_one (ps_ret pe_bl)) pss_nil)
      (pss_one (ps_ret (pe_and (pe_callB call_isi (by rfl) T.isi (by decide +kernel) (pa_cons (pe_ix ix_tup (pv 0) pe_int (fun _ _ => rfl)) (pa_cons (pe_bltn (by rfl) T.str (by decide +kernel) (v := .ty "str") rfl) pa_nil)))
        (pe_one (pe_cmpR op_eq (pe_ix ix_tup (pv 0) pe_int (fun _ _ => rfl)) (pv 1) (nomark _)))))), ?_⟩
    cases hT : isT d with
    | false =>
      have e0 : begB d x n = false := by unfold begB; rw [hT]; rfl
      rw [e0] at q
      exact q_when (b := true) (et_is (et_or (b := true) (et_not (et_B (ev_is (w := .bl false) (ev_isiT (ev_var rfl) k) (by rw [hT])))) fun z => nomatch z) (by simp)) (fun z H1 e => q H1 e) (fun z => nomatch z)
    | true =>
      cases k with
      | @tup a us ds hs ha =>
        have hl := ha.length
        refine q_when (b := !decide (ds.length = n)) (et_is (et_or (et_not (et_B (ev_isiT (d := .tuple ds) (ev_var rfl) (.tup hs ha)))) fun _ => et_test (ev_op (ev_lenT (ev_var rfl) hs) (ev_var rfl) (rv_ne rfl))) (by
          simp only [isT, Bool.not_true, Bool.false_or]
          congr 1
          refine decide_eq_decide.mpr ⟨fun z => ?_, fun z => ?_⟩
          · injection z with z
            omega
          · rw [show (us.length : Int) = (n : Int) by omega])) (fun z H1 e => ?_) (fun z H1 e => ?_)
        · have e0 : begB (.tuple ds) x n = false := by
            unfold begB tupD
            rw [Bool.not_eq_true'] at z
            rw [z]
            simp
          rw [e0] at q
          exact q H1 e
        · have z' : ds.length = n := by simpa using z
          cases ds with
          | nil =>
            rw [List.length_nil] at z'
            omega
          | cons d0 ds =>
            cases ha with
            | @cons u0 _ us _ k0 kr =>
              have hs1 := e _ _ hs
              have k1 := k0.ex e
              have e0 : begB (.tuple (d0 :: ds)) x n = (isS d0 && eqS x d0) := by
                unfold begB
                show (isT _ && (decide ((d0 :: ds).length = n) && eqS x d0)) = _
                rw [decide_eq_true z']
                cases d0 <;> simp [isT, isS, eqS]
              rw [e0] at q
              cases hS : isS d0 with
              | false =>
                rw [hS] at q
                exact s_ret (ev_is (ev_andV (b := false) (ev_is (w := .bl false) (ev_isiS (ev_at (i := 0) (ev_var rfl) hs1 rfl) k1) (by rw [hS])) (fun z => nomatch z)) (by simp)) fun H2 e2 => q H2 (e.trans e2)
              | true =>
                cases k0 with
                | str y hy =>
                  refine s_ret (ev_andV (ev_isiS (d := .str y) (ev_at (i := 0) (ev_var rfl) hs1 rfl) k1) (fun _ => ev_is (ev_op (ev_at (i := 0) (ev_var rfl) hs1 rfl) (ev_var rfl) (rv_eq rfl)) (w := .bl (decide (y = x))) ?_)) fun H2 e2 => q H2 (e.trans e2)
                  congr 1
                  refine decide_eq_decide.mpr ⟨fun z => ?_, fun z => ?_⟩
                  · injection z
                  · rw [z]
                | _ => cases hS
      | _ => cases hT
theorem ev_beg {σ : St} {H : Hp} {te : TE} {v : V} {d : PyData} {x : Str} {n : Nat} (h : Ev te σ H v) (k : Pt H v d) (n1 : 1 ≤ n) : Ev (tCall spBegins [] E0 (tCons te (tCons (tC (.str x)) (tCons (tC (.int (n : Int))) tNil)))) σ H (.bl (begB d x n)) :=
  ev_call (ea_cons h (ea_cons ev_c (ea_cons ev_c ea_nil))) fun H1 e Q q E => ⟨v, d, x, n, rfl, n1, k.ex e, fun H2 e2 => q H2 e2⟩
def spCond : Sp := fun vs H Q _ => ∃ (β : Nat) (v : V) (d : PyData), vs = [.int β, v] ∧ 2 ≤ β ∧ β ≤ 10 ∧ Pt H v d ∧ RetV (.bl (condB β d)) H Q
theorem scCond : FnScope ["base", "value"] ["base", "value"] (defScope sCond) := ⟨rfl, rfl, rfl, by decide +kernel, rfl, by decide +kernel, by decide +kernel⟩
theorem ok_cond {f : Addr} {fd fdf fds fdb fdg : FuncData} (F : Fun K "is_condition" "is_condition" sCond f fd) (GF : FnOk P w K mg base CX0 3 ff fdf ["base", "value", "most"] (spIsFig K)) (bF : Binds K fdf ["base", "value", "most"] [])
    (GS : FnOk P w K mg base CX0 3 fs fds ["value", "least"] spSize) (bS : Binds K fds ["value", "least"] []) (GB : FnOk P w K mg base CX0 3 fbd fdb ["least", "most"] spBounds) (bB : Binds K fdb ["least", "most"] [])
    (GG : FnOk P w K mg base CX0 3 fbg fdg ["value", "word", "many"] spBegins) (bG : Binds K fdg ["value", "word", "many"] []) (T : TxR K mg fi fb ff fs fbd fbg fc fk) :
    FnOk P w K mg base CX0 4 f fd ["base", "value"] spCond := by
  refine F.ok scCond (fun vs H Q E h => ?_) (fun cdv A outer s H vs Q E hr h => ?_)
  · obtain ⟨β, v, d, rfl, _⟩ := h
    rfl
  · obtain ⟨β, v, d, rfl, b2, b10, k, q⟩ := h
    obtain ⟨t, hm⟩ := T.mend
    refine ⟨_, pss_cons (ps_if (pt_val (pe_call GG hr (by rfl) T.begins T.kBg bG .nil pass0 (pa_cons (pv 1) (pa_cons pe_str (pa_cons pe_int pa_nil)))))
        (pss_one (ps_ret (pe_call GF hr (by rfl) T.isFig T.kFig bF .nil pass0 (pa_cons (pv 0) (pa_cons (pe_ix ix_tup (pv 1) pe_int (fun _ _ => rfl)) (pa_cons (pe_glob (by rfl) hm (v := .int 2) ⟨_, rfl⟩) pa_nil)))))) pss_nil)
      (pss_cons (ps_if (pt_val (pe_call GG hr (by rfl) T.begins T.kBg bG .nil pass0 (pa_cons (pv 1) (pa_cons pe_str (pa_cons pe_int pa_nil)))))
        (pss_one (ps_ret (pe_call GS hr (by rfl) T.size T.kSz bS .nil pass0 (pa_cons (pe_ix ix_tup (pv 1) pe_int (fun _ _ => rfl)) (pa_cons pe_int pa_nil))))) pss_nil)
      (pss_cons (ps_if (PW.pt (pw_or (pt_val (pe_call GG hr (by rfl) T.begins T.kBg bG .nil pass0 (pa_cons (pv 1) (pa_cons pe_str (pa_cons pe_int pa_nil))))) (pw_or1 (pt_val (pe_call GG hr (by rfl) T.begins T.kBg bG .nil pass0 (pa_cons (pv 1) (pa_cons pe_str (pa_cons pe_int pa_nil))))))))
        (pss_one (ps_ret (pe_call GB hr (by rfl) T.bounds T.kBd bB .nil pass0 (pa_cons (pe_ix ix_tup (pv 1) pe_int (fun _ _ => rfl)) (pa_cons (pe_ix ix_tup (pv 1) pe_int (fun _ _ => rfl)) pa_nil))))) pss_nil)
      (pss_one (ps_ret pe_bl)))), ?_⟩
    refine q_when (b := begB d "ends" 2) (et_B (ev_beg (n := 2) (ev_var rfl) k (by decide))) (fun z H1 e => ?_) (fun z H1 e => ?_)
    · have e0 : condB β d = figsO β 2 (txtD (at_ 1 d)) := by unfold condB; rw [if_pos z]
      rw [e0] at q
      obtain ⟨a, us, rfl, hs, _, hi⟩ := k.beg z
      obtain ⟨u, hu, ku⟩ := hi 1 (by decide)
      have k1 := (ku.ex e).tx (K := K)
      exact s_ret (ev_call (ea_cons (ev_var rfl) (ea_cons (ev_at (i := 1) (ev_var rfl) (e _ _ hs) hu) (ea_cons ev_c ea_nil))) fun H2 e2 Q2 q2 E2 => ⟨β, 2, u, _, rfl, b2, b10, by decide, k1.1.ex e2, k1.2, fun H3 e3 => q2 H3 e3⟩) fun H2 e2 => q H2 (e.trans e2)
    · have k1 := k.ex e
      refine q_when (b := begB d "near" 2) (et_B (ev_beg (n := 2) (ev_var rfl) k1 (by decide))) (fun z2 H2 e2 => ?_) (fun z2 H2 e2 => ?_)
      · have e0 : condB β d = sizeB 0 (at_ 1 d) := by unfold condB; rw [if_neg (by rw [z]; decide), if_pos z2]
        rw [e0] at q
        obtain ⟨a, us, rfl, hs, _, hi⟩ := (k1.ex e2).beg z2
        obtain ⟨u, hu, ku⟩ := hi 1 (by decide)
        exact s_ret (ev_size (ev_at (i := 1) (ev_var rfl) hs hu) ev_c ku) fun H3 e3 => q H3 ((e.trans e2).trans e3)
      · have k2 := k1.ex e2
        refine q_when (b := (begB d "length" 3 || begB d "changed" 3)) (et_or (et_B (ev_beg (n := 3) (ev_var rfl) k2 (by decide))) fun _ => et_B (ev_beg (n := 3) (ev_var rfl) k2 (by decide))) (fun z3 H3 e3 => ?_) (fun z3 H3 e3 => ?_)
        · have e0 : condB β d = boundsB (at_ 1 d) (at_ 2 d) := by unfold condB; rw [if_neg (by rw [z]; decide), if_neg (by rw [z2]; decide), if_pos z3]
          rw [e0] at q
          have key : ∃ a us, v = .ref a ∧ H3 a = some (.tup us) ∧ us.length = 3 ∧ ∀ i, i < 3 → ∃ u, us[i]? = some u ∧ Pt H3 u (at_ i d) := by
            rcases Bool.or_eq_true_iff.mp z3 with y | y
            · exact (k2.ex e3).beg y
            · exact (k2.ex e3).beg y
          obtain ⟨a, us, rfl, hs, _, hi⟩ := key
          obtain ⟨u, hu, ku⟩ := hi 1 (by decide)
          obtain ⟨u2, hu2, ku2⟩ := hi 2 (by decide)
          exact s_ret (ev_bounds (ev_at (i := 1) (ev_var rfl) hs hu) (ev_at (i := 2) (ev_var rfl) hs hu2) ku ku2) fun H4 e4 => q H4 (((e.trans e2).trans e3).trans e4)
        · have e0 : condB β d = false := by unfold condB; rw [if_neg (by rw [z]; decide), if_neg (by rw [z2]; decide), if_neg (by rw [z3]; decide)]
          rw [e0] at q
          exact s_ret ev_c fun H4 e4 => q H4 (((e.trans e2).trans e3).trans e4)
def spKeep : Sp := fun vs H Q _ => ∃ v d, vs = [v] ∧ Pt H v d ∧ RetV (.bl (keepB d)) H Q
theorem scKeep : FnScope ["value"] ["value"] (defScope sKeep) := ⟨rfl, rfl, rfl, by decide +kernel, rfl, by decide +kernel, by decide +kernel⟩
theorem ok_keep {f : Addr} {fd fds fdg : FuncData} (F : Fun K "is_keep" "is_keep" sKeep f fd) 
    (GS : FnOk P w K mg base CX0 2 fs fds ["value", "least"] spSize) (bS : Binds K fds ["value", "least"] [])
    (GG : FnOk P w K mg base CX0 2 fbg fdg ["value", "word", "many"] spBegins) (bG : Binds K fdg ["value", "word", "many"] []) (T : TxR K mg fi fb ff fs fbd fbg fc fk) :
    FnOk P w K mg base CX0 3 f fd ["value"] spKeep := by
  refine F.ok scKeep (fun vs H Q E h => ?_) (fun cdv A outer s H vs Q E hr h => ?_)
  · obtain ⟨v, d, rfl, _⟩ := h
    rfl
  · obtain ⟨v, d, rfl, k, q⟩ := h
    refine ⟨_, pss_cons (ps_if (PW.pt (pw_or (pt_val (pe_call GG hr (by rfl) T.begins T.kBg bG .nil pass0 (pa_cons (pv 0) (pa_cons pe_str (pa_cons pe_int pa_nil))))) (pw_or1 (pt_val (pe_call GG hr (by rfl) T.begins T.kBg bG .nil pass0 (pa_cons (pv 0) (pa_cons pe_str (pa_cons pe_int pa_nil))))))))
        (pss_one (ps_ret (pe_call GS hr (by rfl) T.size T.kSz bS .nil pass0 (pa_cons (pe_ix ix_tup (pv 0) pe_int (fun _ _ => rfl)) (pa_cons pe_int pa_nil))))) pss_nil)
      (pss_one (ps_ret (pe_call GG hr (by rfl) T.begins T.kBg bG .nil pass0 (pa_cons (pv 0) (pa_cons pe_str (pa_cons pe_int pa_nil)))))), ?_⟩
    refine q_when (b := (begB d "changed" 2 || begB d "last" 2)) (et_or (et_B (ev_beg (n := 2) (ev_var rfl) k (by decide))) fun _ => et_B (ev_beg (n := 2) (ev_var rfl) k (by decide))) (fun z H1 e => ?_) (fun z H1 e => ?_)
    · have e0 : keepB d = sizeB 1 (at_ 1 d) := by unfold keepB; rw [if_pos z]
      rw [e0] at q
      have key : ∃ a us, v = .ref a ∧ H1 a = some (.tup us) ∧ us.length = 2 ∧ ∀ i, i < 2 → ∃ u, us[i]? = some u ∧ Pt H1 u (at_ i d) := by
        rcases Bool.or_eq_true_iff.mp z with y | y
        · exact (k.ex e).beg y
        · exact (k.ex e).beg y
      obtain ⟨a, us, rfl, hs, _, hi⟩ := key
      obtain ⟨u, hu, ku⟩ := hi 1 (by decide)
      exact s_ret (ev_size (ev_at (i := 1) (ev_var rfl) hs hu) ev_c ku) fun H3 e3 => q H3 (e.trans e3)
    · have e0 : keepB d = begB d "all" 1 := by unfold keepB; rw [if_neg (by rw [z]; decide)]
      rw [e0] at q
      exact s_ret (ev_beg (n := 1) (ev_var rfl) (k.ex e) (by decide)) fun H3 e3 => q H3 (e.trans e3)
def spRule (K : PySem.W.Frag) (ca : Nat → Addr) : Sp := fun vs H Q E => ∃ vb v d b, vs = [vb, v] ∧ Bs K H vb b ∧ Pt H v d ∧ (b = false → Leaves (ca 1) "value" vb H E) ∧ (b = true → ∃ β : Nat, vb = .int β ∧ 2 ≤ β ∧ β ≤ 10 ∧ RetV (.bl (ruleB β d)) H Q)
theorem scRule : FnScope ["base", "value", "conditions", "keep", "condition"] ["base", "value"] (defScope sRule) := ⟨rfl, rfl, rfl, by decide +kernel, rfl, by decide +kernel, by decide +kernel⟩
theorem ok_rule {f : Addr} {fd fdn fdc fdk : FuncData} (F : Fun K "is_rule" "is_rule" sRule f fd) (GN : FnOk P w K mg base (L2.CX P w) 4 fb fdn ["base"] (spNeed (Bs K) (ca 1))) (bN : Binds K fdn ["base"] [])
    (GC : FnOk P w K mg base CX0 4 fc fdc ["base", "value"] spCond) (bC : Binds K fdc ["base", "value"] []) (GK : FnOk P w K mg base CX0 4 fk fdk ["value"] spKeep) (bK : Binds K fdk ["value"] []) (T : TxR K mg fi fb ff fs fbd fbg fc fk) :
    FnOk P w K mg base (L2.CX P w) 5 f fd ["base", "value"] (spRule K ca) := by
  refine F.okX scRule (fun vs H Q E h => ?_) (fun cdv A outer s H vs Q E hr h => ?_)
  · obtain ⟨vb, v, d, b, rfl, _⟩ := h
    rfl
  · obtain ⟨vb, v, d, b, rfl, kb, k, l1, hq⟩ := h
    obtain ⟨t, hm⟩ := T.mconds
    refine ⟨_, pss_cons (ps_expr (pe_callS GN hr (by rfl) T.needB T.kNB bN (fun σ => passAt (takes_of rfl rfl rfl rfl) σ) (pa_cons (pv 0) pa_nil)))
      (pss_cons (ps_if (PW.pt (pw_or (pt_not (pt_val (pe_callB call_isi (by rfl) T.isi (by decide +kernel) (pa_cons (pv 1) (pa_cons (pe_bltn (by rfl) T.tuple (by decide +kernel) (v := .ty "tuple") rfl) pa_nil)))))
        (pw_or1 (pt_cmpR op_ne (pe_callB call_len_seq (by rfl) T.len (by decide +kernel) (pa_cons (pv 1) pa_nil)) pe_int (nomark _))))) (pss_one (ps_ret pe_bl)) pss_nil)
      (pss_cons (ps_asg (pv 1) (pg_tup (by rfl) (pgs_cons (pg_name (i := 2) scRule.nd rfl (.inl rfl)) (pgs_cons (pg_name (i := 3) scRule.nd rfl (.inl rfl)) pgs_nil))))
      (pss_cons (ps_if (PW.pt (pw_or (pt_not (pt_val (pe_callB call_isi (by rfl) T.isi (by decide +kernel) (pa_cons (pv 2) (pa_cons (pe_bltn (by rfl) T.tuple (by decide +kernel) (v := .ty "tuple") rfl) pa_nil)))))
        (pw_or1 (pt_cmpR op_gt (pe_callB call_len_seq (by rfl) T.len (by decide +kernel) (pa_cons (pv 2) pa_nil)) (pe_glob (by rfl) hm (v := .int 3) ⟨_, rfl⟩) (nomark _))))) (pss_one (ps_ret pe_bl)) pss_nil)
      (pss_one (ps_ret (pe_and (pe_callB (cr_all rfl) (by rfl) T.all (by decide +kernel) (pa_cons (pe_lc (own := [("condition", 4)]) (g := gName 4) (tt := tYes) rfl scRule.nd (pi_tup (pv 2)) (blkOk_by (own := [("condition", 4)]) (N := ["base", "value", "conditions", "keep", "condition"]) (sc := defScope sRule) (by decide +kernel))
          (fun _ _ _ _ _ => pg_name (i := 4) scRule.nd rfl (Or.inl rfl)) (fun _ _ _ _ _ => pts_nil)
          (fun _ _ _ _ _ => pe_call GC hr (by rfl) T.cond T.kCd bC .nil pass0 (pa_cons (pv 0) (pa_cons (pv 4) pa_nil)))) pa_nil))
        (pe_one (pe_call GK hr (by rfl) T.keep T.kKp bK .nil pass0 (pa_cons (pv 3) pa_nil))))))))), ?_⟩
    refine ⟨_, rfl, vb, b, rfl, kb, fun hb H1 e1 => ?_, fun hb => l1 hb⟩
    obtain ⟨β, rfl, b2, b10, q⟩ := hq hb
    have k1 := k.ex e1
    cases hT : isT d with
    | false =>
      have e0 : ruleB β d = false := by unfold ruleB; rw [hT]; rfl
      rw [e0] at q
      exact q_when (b := true) (et_is (et_or (b := true) (et_not (et_B (ev_is (w := .bl false) (ev_isiT (ev_var rfl) k1) (by rw [hT])))) fun z => nomatch z) (by simp)) (fun z H2 e => q H2 (e1.trans e)) (fun z => nomatch z)
    | true =>
      cases k1 with
      | @tup a us ds hs ha =>
        have hl := ha.length
        refine q_when (b := !decide (ds.length = 2)) (et_is (et_or (et_not (et_B (ev_isiT (d := .tuple ds) (ev_var rfl) (.tup hs ha)))) fun _ => et_test (ev_op (ev_lenT (ev_var rfl) hs) ev_c (rv_ne rfl))) (by
          simp only [isT, Bool.not_true, Bool.false_or]
          congr 1
          refine decide_eq_decide.mpr ⟨fun z => ?_, fun z => ?_⟩
          · injection z with z
            omega
          · rw [show (us.length : Int) = 2 by omega])) (fun z H2 e2 => ?_) (fun z H2 e2 => ?_)
        · have e0 : ruleB β (.tuple ds) = false := by
            unfold ruleB tupD
            rw [Bool.not_eq_true'] at z
            simp only [z]
            simp
          rw [e0] at q
          exact q H2 (e1.trans e2)
        · have z' : ds.length = 2 := by simpa using z
          match ds, us, ha, z' with
          | [cd, kd], _, .cons (v := vc) kc (.cons (v := vk) kk .nil), _ =>
            have hs2 := e2 _ _ hs
            have kc2 := kc.ex e2
            have kk2 := kk.ex e2
            have e0 : ruleB β (.tuple [cd, kd]) = (isT cd && (decide ((tupD cd).length ≤ 3) && ((tupD cd).all (condB β) && keepB kd))) := rfl
            rw [e0] at q
            refine ⟨_, rfl, a, _, rfl, st_of hs2, rfl, _, _, rfl, _, _, rfl, rfl, ?_⟩
            cases hC : isT cd with
            | false =>
              rw [hC] at q
              exact q_when (b := true) (et_is (et_or (b := true) (et_not (et_B (ev_is (w := .bl false) (ev_isiT (ev_var rfl) kc2) (by rw [hC])))) fun z => nomatch z) (by simp)) (fun z H3 e => q H3 ((e1.trans e2).trans e)) (fun z => nomatch z)
            | true =>
              cases kc2 with
              | @tup ac ws cs hcs hca =>
                have hcl := hca.length
                refine q_when (b := !decide (cs.length ≤ 3)) (et_is (et_or (et_not (et_B (ev_isiT (d := .tuple cs) (ev_var rfl) (.tup hcs hca)))) fun _ => et_test (ev_op (ev_lenT (ev_var rfl) hcs) ev_c rv_I0)) (by
                  simp only [isT, Bool.not_true, Bool.false_or]
                  by_cases h : cs.length ≤ 3
                  · rw [decide_eq_true h, decide_eq_false (by omega)]
                    rfl
                  · rw [decide_eq_false h, decide_eq_true (by omega)]
                    rfl)) (fun z3 H3 e3 => ?_) (fun z3 H3 e3 => ?_)
                · rw [Bool.not_eq_true'] at z3
                  unfold tupD at q
                  simp only [z3, Bool.false_and, Bool.and_false] at q
                  exact q H3 ((e1.trans e2).trans e3)
                · have z4 : cs.length ≤ 3 := by simpa using z3
                  unfold tupD at q
                  simp only [decide_eq_true z4, isT, Bool.true_and] at q
                  have eL : EvL (tLc (iTup K (tVar 2)) (gName 4) tYes (tCall spCond [] E0 (tCons (tVar 0) (tCons (tVar 4) tNil))) [4]) [some (.int β), some (.ref a), some (.ref ac), some vk, none] H3 ((cs.map (condB β)).map V.bl) := by
                    rw [List.map_map, ← given_all cs (V.bl ∘ condB β) .non, ← hcl]
                    refine el_lcT (fun _ => true) _ (ev_var rfl) (st_of (e3 _ _ hcs)) (by omega) (fun _ => rfl) (fun i x H4 e4 hx => fun H5 e5 Q5 q5 => q5 H5 (Ex.refl _)) (fun i x H4 e4 hx _ => ?_)
                    obtain ⟨dd, hd, kd'⟩ := hca.get2 hx
                    rw [hd]
                    exact ev_call (ea_cons (ev_var rfl) (ea_cons (ev_var rfl) ea_nil)) fun H5 e5 Q5 q5 E5 => ⟨β, x, dd, rfl, b2, b10, (kd'.ex (e3.trans e4)).ex e5, fun H6 e6 => q5 H6 e6⟩
                  refine s_ret (ev_andV (ev_is (ev_allL eL) (w := .bl (cs.all (condB β))) (by rw [List.all_map]; rfl)) fun _ => ev_call (ea_cons (ev_var rfl) ea_nil) fun H5 e5 Q5 q5 E5 => ⟨vk, kd, rfl, (kk2.ex e3).ex e5, fun H6 e6 => q5 H6 e6⟩) fun H4 e4 => q H4 (((e1.trans e2).trans e3).trans e4)
              | _ => cases hC
      | _ => cases hT
end
end Dt

/-! Displays as data; the law's drawn rules. -/
namespace Dt
open PySem L2 Evl Dg LamR LamX
open Dr (StAt SameB)
/-- a value that is that data -/
def EvP (te : TE) (σ : St) (H : Hp) (D : PyData) : Prop := ∀ H1, Ex H H1 → ∀ Q : VK, (∀ v H2, Ex H1 H2 → Pt H2 v D → Q v H2) → te σ H1 Q
def EvPA (ta : TA) (σ : St) (H : Hp) (Ds : List PyData) : Prop := ∀ H1, Ex H H1 → ∀ Q : List V → Hp → Prop, (∀ vs H2, Ex H1 H2 → PtAll H2 vs Ds → Q vs H2) → ta σ H1 Q
section
variable {K : PySem.W.Frag} {σ : St} {H : Hp} {te ta tb : TE} {D E : PyData} {Ds Es : List PyData}
theorem ep_c {v : V} (h : ∀ H, Pt H v D) : EvP (tC v) σ H D := fun H1 _ _ q => q v H1 (Ex.refl H1) (h H1)
theorem ep_v {v : V} (h : Ev te σ H v) (k : Pt H v D) : EvP te σ H D := fun H1 e Q q => h H1 e Q fun H2 e2 => q v H2 e2 (k.ex (e.trans e2))
theorem ep_non : EvP (tC .non) σ H .none := ep_c fun _ => .non
theorem ep_bl {b : Bool} : EvP (tC (.bl b)) σ H (.bool b) := ep_c fun _ => .bl b
theorem ep_int {i : Int} : EvP (tC (.int i)) σ H (.int i) := ep_c fun _ => .int i
theorem ep_str {x : Str} (h : x.length ≤ 3000) : EvP (tC (.str x)) σ H (.str x) := ep_c fun _ => .str x h
theorem epa_nil : EvPA tNil σ H [] := fun H1 _ _ q => q [] H1 (Ex.refl H1) .nil
theorem epa_cons {tr : TA} (h : EvP te σ H D) (hr : EvPA tr σ H Ds) : EvPA (tCons te tr) σ H (D :: Ds) := fun H1 e _ q =>
  h H1 e _ fun v H2 e2 k => hr H2 (e.trans e2) _ fun vs H3 e3 ks => q (v :: vs) H3 (e2.trans e3) (.cons (k.ex e3) ks)
theorem ep_tup {ta : TA} (h : EvPA ta σ H Ds) (hl : Ds.length ≤ 100000) : EvP (tTup ta) σ H (.tuple Ds) := fun H1 e _ q =>
  h H1 e _ fun vs H2 e2 ks => ⟨sz_of (by rw [ks.length]; exact hl), fun p hp => q (.ref p) _ (e2.trans (Ex.new hp)) (.tup upd_same (ks.ex (Ex.new hp)))⟩
theorem ep_lst {ta : TA} (h : EvPA ta σ H Ds) (hl : Ds.length ≤ 100000) : EvP (tLst ta) σ H (.list Ds) := fun H1 e _ q =>
  h H1 e _ fun vs H2 e2 ks => ⟨sz_of (by rw [ks.length]; exact hl), fun p hp => q (.ref p) _ (e2.trans (Ex.new hp)) (.lst upd_same (ks.ex (Ex.new hp)))⟩
theorem ep_cat (ha : EvP ta σ H (.list Ds)) (hb : EvP tb σ H (.list Es)) (hl : Ds.length + Es.length ≤ 100000) : EvP (tOp rCat ta tb) σ H (.list (Ds ++ Es)) := fun H1 e _ q =>
  ha H1 e _ fun v H2 e2 k => hb H2 (e.trans e2) _ fun w H3 e3 k3 => by
    cases k with
    | @lst a vs _ ha hv =>
      cases k3 with
      | @lst b ws _ hb hw =>
        exact ⟨a, b, vs, ws, rfl, rfl, e3 _ _ ha, hb, sz_of (by rw [hv.length, hw.length]; exact hl), fun p hp => q (.ref p) _ ((e2.trans e3).trans (Ex.new hp)) (.lst upd_same (((hv.ex e3).app hw).ex (Ex.new hp)))⟩
theorem ep_if {t : TT} {b : Bool} (h : EvT t σ H b) (h1 : b = true → EvP ta σ H D) (h2 : b = false → EvP tb σ H D) : EvP (tIf t ta tb) σ H D := fun H1 e Q q => h H1 e _ fun H2 e2 => by
  cases b with
  | true => exact iteT (h1 rfl H2 (e.trans e2) _ fun v H3 e3 k => q v H3 (e2.trans e3) k)
  | false => exact iteF (h2 rfl H2 (e.trans e2) _ fun v H3 e3 k => q v H3 (e2.trans e3) k)
theorem s_retP {DD : Ends} (h : EvP te σ H D) (k : ∀ v H1, Ex H H1 → Pt H1 v D → DD.rt v H1) : tRet te DD σ H := h H (Ex.refl H) _ k
theorem s_asgP {DD : Ends} {i : Nat} (h : EvP te σ H D) (k : ∀ v H1, Ex H H1 → Pt H1 v D → DD.nx (σ.set i (some v)) H1) : tAsg te (gName i) DD σ H := h H (Ex.refl H) _ fun v H1 e kk => k v H1 e kk
theorem q_asgP {DD : Ends} {tz : TS} {i : Nat} (h : EvP te σ H D) (k : ∀ v H1, Ex H H1 → Pt H1 v D → tz DD (σ.set i (some v)) H1) : tSeq (tAsg te (gName i)) tz DD σ H := s_asgP (DD := { DD with nx := tz DD }) h k
end
theorem sameB_trans {H H1 H2 : Hp} {p l : Addr} (a : SameB H H1 p l) (b : SameB H1 H2 p l) : SameB H H2 p l := fun x o h h1 h2 => b x o (a x o h h1 h2) h1 h2
theorem sameB_ex {H H1 : Hp} {p l : Addr} (e : Ex H H1) : SameB H H1 p l := fun x o h _ _ => e x o h
mutual
/-- tuples and what is plain alone -/
def noL : PyData → Bool
  | .list _ => false
  | .dict _ => false
  | .tuple ds => noLs ds
  | _ => true
def noLs : List PyData → Bool
  | [] => true
  | d :: ds => noL d && noLs ds
end
mutual
theorem noL_ok : ∀ {d : PyData}, noL d = true → okD d = true
  | .none, _ => rfl
  | .bool _, _ => rfl
  | .int _, _ => rfl
  | .str _, _ => rfl
  | .tuple ds, h => by
    rw [okD]
    exact noLs_ok (by rw [noL] at h; exact h)
  | .list _, h => by rw [noL] at h; cases h
  | .dict _, h => by rw [noL] at h; cases h
theorem noLs_ok : ∀ {ds : List PyData}, noLs ds = true → okDs ds = true
  | [], _ => rfl
  | d :: ds, h => by
    rw [noLs, Bool.and_eq_true] at h
    rw [okDs, noL_ok h.1, noLs_ok h.2]
    rfl
end
theorem noLs_app : ∀ {ds es : List PyData}, noLs ds = true → noLs es = true → noLs (ds ++ es) = true
  | [], _, _, k => k
  | d :: ds, es, h, k => by
    rw [noLs, Bool.and_eq_true] at h
    show (noL d && noLs (ds ++ es)) = true
    rw [h.1, noLs_app h.2 k]
    rfl
/-- tuples stay -/
def TupK (H H' : Hp) : Prop := ∀ a xs, H a = some (.tup xs) → H' a = some (.tup xs)
theorem TupK.trans {H H1 H2 : Hp} (a : TupK H H1) (b : TupK H1 H2) : TupK H H2 := fun x xs h => b x xs (a x xs h)
theorem tupK_ex {H H' : Hp} (e : Ex H H') : TupK H H' := fun a xs h => e _ _ h
theorem tupK_same {H H' : Hp} {p c l : Addr} {n : Nat} {a : Int} (S : StAt H p c l n a) (e : SameB H H' p l) : TupK H H' := fun x xs h => by
  obtain ⟨ls, hl, _⟩ := S.l
  exact e _ _ h (ne_of h S.d (by intro z; cases z)) (ne_of h hl (by intro z; cases z))
theorem tupK_upd {H : Hp} {x : Addr} {ys zs : List V} (h : H x = some (.lst ys)) : TupK H (upd H x (.lst zs)) := fun a xs ha => by
  rw [upd_ne (ne_of ha h (by intro z; cases z))]
  exact ha
mutual
theorem Pt.tk {H H' : Hp} (e : TupK H H') : ∀ {v : V} {d : PyData}, Pt H v d → noL d = true → Pt H' v d
  | _, .none, h, _ => by cases h; exact .non
  | _, .bool _, h, _ => by cases h; exact .bl _
  | _, .int _, h, _ => by cases h; exact .int _
  | _, .str _, h, _ => by cases h with | str _ z => exact .str _ z
  | _, .tuple ds, h, k => by
    cases h with
    | tup hs ha => exact .tup (e _ _ hs) (PtAll.tk e ha (by rw [noL] at k; exact k))
  | _, .list _, _, k => by rw [noL] at k; cases k
  | _, .dict _, _, k => by rw [noL] at k; cases k
theorem PtAll.tk {H H' : Hp} (e : TupK H H') : ∀ {vs : List V} {ds : List PyData}, PtAll H vs ds → noLs ds = true → PtAll H' vs ds
  | _, [], h, _ => by cases h; exact .nil
  | _, d :: ds, h, k => by
    cases h with
    | cons h1 h2 =>
      rw [noLs, Bool.and_eq_true] at k
      exact .cons (Pt.tk e h1 k.1) (PtAll.tk e h2 k.2)
end
theorem off_of {H : Hp} {p c l x : Addr} {n : Nat} {a : Int} (S : StAt H p c l n a) (h : H x = none) : x ≠ p ∧ x ≠ l := by
  obtain ⟨ls, hls, _⟩ := S.l
  exact ⟨(ne_of_none S.d h).symm, (ne_of_none hls h).symm⟩
/-- one draw -/
theorem rd_draw {σ : St} {H : Hp} {te : TE} {Q : VK} {p c l : Addr} {n : Nat} {a m : Int} (h0 : σ[0]? = some (some (.ref p))) (hm : Ev te σ H (.int m)) (S : StAt H p c l n a) (nlc : l ≠ c) (ha : a < 2 ^ 39) (m0 : 0 < m) (m1 : m < 1073741824)
    (k : ∀ (r : Nat) (H' : Hp), (r : Int) < m → StAt H' p c l n (a + 1) → SameB H H' p l → Q (.int (r : Int)) H') : tCall Dr.spDraw [] E0 (tCons (tVar 0) (tCons te tNil)) σ H Q :=
  ⟨_, h0, hm H (Ex.refl H) _ fun H2 e2 => ⟨p, c, l, n, a, m, rfl, S.ex e2, nlc, ha, m0, m1, fun r H' r0 r1 S' sb nn => by
    obtain ⟨ρ, rfl⟩ : ∃ ρ : Nat, r = ρ := ⟨r.toNat, by omega⟩
    exact k ρ H' r1 S' (sameB_trans (sameB_ex e2) sb)⟩⟩
/-! what small data is, of rules -/
theorem beg2 (x w : Str) (d : PyData) : begB (.tuple [.str x, d]) w 2 = decide (x = w) := by simp [begB, isT, tupD, eqS]
theorem beg3 (x w : Str) (d e : PyData) : begB (.tuple [.str x, d, e]) w 3 = decide (x = w) := by simp [begB, isT, tupD, eqS]
theorem beg23 (x w : Str) (d : PyData) : begB (.tuple [.str x, d]) w 3 = false := by simp [begB, isT, tupD, eqS]
theorem beg32 (x w : Str) (d e : PyData) : begB (.tuple [.str x, d, e]) w 2 = false := by simp [begB, isT, tupD, eqS]
theorem keep_chg {s : Int} (h1 : 1 ≤ s) (h2 : s ≤ 6) : keepB (.tuple [.str "changed", .int s]) = true := by
  unfold keepB
  rw [beg2, decide_eq_true rfl]
  simp [at_, tupD, sizeB, h1, h2]
theorem keep_last {s : Int} (h1 : 1 ≤ s) (h2 : s ≤ 6) : keepB (.tuple [.str "last", .int s]) = true := by
  unfold keepB
  rw [beg2, beg2, decide_eq_true (p := ("last" : Str) = "last") rfl]
  simp [at_, tupD, sizeB, h1, h2]
theorem cond_ends {β : Nat} {x : Str} (h : isFigs β 2 x = true) : condB β (.tuple [.str "ends", .str x]) = true := by
  unfold condB
  rw [beg2, decide_eq_true rfl]
  simpa [at_, tupD, txtD, figsO] using h
theorem cond_near {β : Nat} {i : Int} (h1 : 0 ≤ i) (h2 : i ≤ 6) : condB β (.tuple [.str "near", .int i]) = true := by
  unfold condB
  rw [beg2, beg2, decide_eq_false (p := ("near" : Str) = "ends") (by decide +kernel), decide_eq_true (p := ("near" : Str) = "near") rfl]
  simp [at_, tupD, sizeB, h1, h2]
theorem cond_len {β : Nat} {x : Str} {i : Int} {d : PyData} (hx : x = "length" ∨ x = "changed") (h1 : 1 ≤ i) (h2 : i ≤ 6) (hd : d = .none ∨ ∃ j : Int, d = .int j ∧ i ≤ j ∧ j ≤ 6) : condB β (.tuple [.str x, .int i, d]) = true := by
  unfold condB
  rw [beg32, beg32, beg3, beg3]
  have e : (decide (x = "length") || decide (x = "changed")) = true := by
    rcases hx with rfl | rfl
    · rw [decide_eq_true rfl]; rfl
    · rw [decide_eq_true (p := ("changed" : Str) = "changed") rfl, Bool.or_true]
  rw [e]
  rcases hd with rfl | ⟨j, rfl, h3, h4⟩
  · simp [at_, tupD, boundsB, sizeB, intD, isN, h1, h2]
  · simp [at_, tupD, boundsB, sizeB, intD, isN, h1, h2, h3, h4]
theorem rule_mk {β : Nat} {cs : List PyData} {k : PyData} : ruleB β (.tuple [.tuple cs, k]) = (decide (cs.length ≤ 3) && (cs.all (condB β) && keepB k)) := rfl
abbrev sLCond : Stmt := top 57
abbrev sLKeep : Stmt := top 58
abbrev sLRules : Stmt := top 59
section
variable {P : Program} {w : World} {K : PySem.W.Frag} {mg : Str → Option Value} {base : Heap} {fm fdr : Addr}
def spLKeep : Sp := fun vs H Q _ => ∃ (p c l : Addr) (n m : Nat) (a : Int), vs = [.ref p, .int m] ∧ StAt H p c l n a ∧ l ≠ c ∧ a < 2 ^ 39 - 100 ∧ 1 ≤ m ∧ m ≤ 6 ∧
  ∀ (v : V) (d : PyData) (H' : Hp), keepB d = true → noL d = true → Pt H' v d → StAt H' p c l n (a + 2) → SameB H H' p l → Q v H'
theorem scLKeep : FnScope ["state", "most", "word", "size"] ["state", "most"] (defScope sLKeep) := ⟨rfl, rfl, rfl, by decide +kernel, rfl, by decide +kernel, by decide +kernel⟩
theorem ok_lkeep {f : Addr} {fd fdd : FuncData} (F : Fun K "_law_keep" "_law_keep" sLKeep f fd) (GD : FnOk P w K mg base CX0 2 fdr fdd ["state", "many"] Dr.spDraw) (bD : Binds K fdd ["state", "many"] []) (T : Dr.TxO K mg fm fdr) :
    FnOk P w K mg base CX0 3 f fd ["state", "most"] spLKeep := by
  refine F.ok scLKeep (fun vs H Q E h => ?_) (fun cdv A outer s H vs Q E hr h => ?_)
  · obtain ⟨p, c, l, n, m, a, rfl, _⟩ := h
    rfl
  · obtain ⟨p, c, l, n, m, a, rfl, S, nlc, ha, m1, m6, q⟩ := h
    refine ⟨_, pss_cons (ps_par (i := 2) (j := 3) (by rfl) scLKeep.nd rfl rfl (by decide) rfl rfl (pa_cons (pe_ix ix_list (pe_lst (pa_cons pe_str (pa_cons pe_str (pa_cons pe_str (pa_cons pe_str pa_nil))))) (pe_call GD hr (by rfl) T.draw T.kDraw bD .nil pass0 (pa_cons (pv 0) (pa_cons pe_int pa_nil))) (fun _ _ => rfl))
        (pa_cons (pe_op op_add pe_int (pe_call GD hr (by rfl) T.draw T.kDraw bD .nil pass0 (pa_cons (pv 0) (pa_cons (pv 1) pa_nil)))) pa_nil)) (by rfl))
      (pss_one (ps_ret (pe_ifExp (pt_cmpR op_eq (pv 2) pe_str (nomark _)) (pe_tup (pa_cons (pv 2) pa_nil)) (pe_tup (pa_cons (pv 2) (pa_cons (pv 3) pa_nil)))))), ?_⟩
    refine ⟨(by show (4:Nat) ≤ sizeLine; rw [sizeLine_eq]; omega), fun lr nlr => ?_⟩
    have e0 := Ex.new (o := .lst [.str "all", .str "changed", .str "last", .str "last"]) nlr
    have S0 := S.ex e0
    have hl : lr ≠ p ∧ lr ≠ l := by
      obtain ⟨ls, hls, _⟩ := S.l
      exact ⟨(ne_of_none S.d nlr).symm, (ne_of_none hls nlr).symm⟩
    refine rd_draw (p := p) rfl ev_c S0 nlc (by omega) (by decide) (by decide) fun r H1 hr1 S1 sb1 => ?_
    have g1 : H1 lr = some (.lst [.str "all", .str "changed", .str "last", .str "last"]) := sb1 _ _ upd_same hl.1 hl.2
    have key : ∃ x : Str, ([V.str "all", .str "changed", .str "last", .str "last"])[r]? = some (.str x) ∧ (x = "all" ∨ x = "changed" ∨ x = "last") := by
      have cc : r = 0 ∨ r = 1 ∨ r = 2 ∨ r = 3 := by omega
      rcases cc with rfl | rfl | rfl | rfl
      · exact ⟨_, rfl, .inl rfl⟩
      · exact ⟨_, rfl, .inr (.inl rfl)⟩
      · exact ⟨_, rfl, .inr (.inr rfl)⟩
      · exact ⟨_, rfl, .inr (.inr rfl)⟩
    obtain ⟨x, hx, hcase⟩ := key
    refine ⟨lr, _, _, _, rfl, rfl, SqL.of g1, atI_nat hx, ?_⟩
    refine rd_draw (p := p) rfl (ev_var rfl) S1 nlc (by omega) (by omega) (by omega) fun r2 H2 hr2 S2 sb2 => ?_
    refine ⟨_, _, rfl, rfl, _, _, rfl, ?_⟩
    have sb3 := sameB_trans (sameB_trans (sameB_ex e0) sb1) sb2
    have fin : ∀ d, keepB d = true → noL d = true → ∀ v H', Ex H2 H' → Pt H' v d → Q v H' := fun d kd od v H' e k => q v d H' kd od k (by
      have := S2.ex e
      rw [show a + 1 + 1 = a + 2 by omega] at this
      exact this) (sameB_trans sb3 (sameB_ex e))
    rcases hcase with rfl | rfl | rfl
    · refine s_retP (D := .tuple [.str "all"]) (ep_if (b := true) (et_test (ev_is (ev_op (ev_var rfl) ev_c (rv_eq rfl)) (by rw [decide_eq_true rfl]))) (fun _ => ep_tup (epa_cons (ep_v (ev_var rfl) (.str _ (by decide))) epa_nil) (by decide)) (fun z => nomatch z)) fun v H' e k => fin _ (by decide +kernel) (by decide +kernel) v H' e k
    · refine s_retP (D := .tuple [.str "changed", .int (1 + (r2 : Int))]) (ep_if (b := false) (et_test (ev_is (ev_op (ev_var rfl) ev_c (rv_eq rfl)) (by rw [decide_eq_false (by decide +kernel)]))) (fun z => nomatch z) (fun _ => ep_tup (epa_cons (ep_v (ev_var rfl) (.str _ (by decide))) (epa_cons (ep_v (ev_var rfl) (.int _)) epa_nil)) (by simp))) fun v H' e k => fin _ (keep_chg (by omega) (by omega)) rfl v H' e k
    · refine s_retP (D := .tuple [.str "last", .int (1 + (r2 : Int))]) (ep_if (b := false) (et_test (ev_is (ev_op (ev_var rfl) ev_c (rv_eq rfl)) (by rw [decide_eq_false (by decide +kernel)]))) (fun z => nomatch z) (fun _ => ep_tup (epa_cons (ep_v (ev_var rfl) (.str _ (by decide))) (epa_cons (ep_v (ev_var rfl) (.int _)) epa_nil)) (by simp))) fun v H' e k => fin _ (keep_last (by omega) (by omega)) rfl v H' e k
end
end Dt

/-! The law's drawn conditions. -/
namespace Dt
open PySem L2 Evl Dg LamR LamX TL
open Dr (StAt SameB)
theorem fig_at {r : Nat} (h : r < 10) : ("0123456789" : Str).cps.toList[r]? = some (48 + r) := by
  have cc : r = 0 ∨ r = 1 ∨ r = 2 ∨ r = 3 ∨ r = 4 ∨ r = 5 ∨ r = 6 ∨ r = 7 ∨ r = 8 ∨ r = 9 := by omega
  rcases cc with rfl | rfl | rfl | rfl | rfl | rfl | rfl | rfl | rfl | rfl <;> decide +kernel
section
variable {P : Program} {w : World} {K : PySem.W.Frag} {mg : Str → Option Value} {base : Heap} {fm fdr : Addr}
def spLCond : Sp := fun vs H Q _ => ∃ (p c l : Addr) (n β m : Nat) (a : Int), vs = [.ref p, .int β, .int m] ∧ StAt H p c l n a ∧ l ≠ c ∧ a < 2 ^ 39 - 100 ∧ 2 ≤ β ∧ β ≤ 10 ∧ 1 ≤ m ∧ m ≤ 6 ∧
  ∀ (v : V) (d : PyData) (H' : Hp) (b : Int), condB β d = true → noL d = true → Pt H' v d → a ≤ b → b ≤ a + 10 → StAt H' p c l n b → SameB H H' p l → Q v H'
theorem scLCond : FnScope ["state", "base", "most", "way", "least", "top", "text", "k"] ["state", "base", "most"] (defScope sLCond) := ⟨rfl, rfl, rfl, by decide +kernel, rfl, by decide +kernel, by decide +kernel⟩
theorem ok_lcond {f : Addr} {fd fdd : FuncData} (F : Fun K "_law_condition" "_law_condition" sLCond f fd) (GD : FnOk P w K mg base CX0 2 fdr fdd ["state", "many"] Dr.spDraw) (bD : Binds K fdd ["state", "many"] []) (T : Dr.TxO K mg fm fdr) (mR : mg "range" = none) (mM : mg "min" = none) :
    FnOk P w K mg base CX0 3 f fd ["state", "base", "most"] spLCond := by
  refine F.ok scLCond (fun vs H Q E h => ?_) (fun cdv A outer s H vs Q E hr h => ?_)
  · obtain ⟨p, c, l, n, β, m, a, rfl, _⟩ := h
    rfl
  · obtain ⟨p, c, l, n, β, m, a, rfl, S, nlc, ha, b2, b10, m1, m6, q⟩ := h
    refine ⟨_, pss_cons (ps_par (i := 3) (j := 4) (by rfl) scLCond.nd rfl rfl (by decide) rfl rfl (pa_cons (pe_call GD hr (by rfl) T.draw T.kDraw bD .nil pass0 (pa_cons (pv 0) (pa_cons pe_int pa_nil))) (pa_cons (pe_op op_add pe_int (pe_call GD hr (by rfl) T.draw T.kDraw bD .nil pass0 (pa_cons (pv 0) (pa_cons (pv 2) pa_nil)))) pa_nil)) (by rfl))
      (pss_cons (ps_set (i := 5) scLCond.nd rfl (.inl rfl) (pe_ix ix_list (pe_lst (pa_cons pe_non (pa_cons (pe_op op_add (pv 4) (pe_call GD hr (by rfl) T.draw T.kDraw bD .nil pass0 (pa_cons (pv 0) (pa_cons (pe_op op_add (pe_op op_sub (pv 2) (pv 4)) pe_int) pa_nil)))) pa_nil))) (pe_call GD hr (by rfl) T.draw T.kDraw bD .nil pass0 (pa_cons (pv 0) (pa_cons pe_int pa_nil))) (fun _ _ => rfl)))
      (pss_cons (ps_if (pt_cmpR op_eq (pv 3) pe_int (nomark _))
        (pss_cons (ps_set (i := 6) scLCond.nd rfl (.inl rfl) pe_str)
        (pss_cons (ps_for PassesOwn.never rfl (pi_range1 (by rfl) mR (pa_cons (pe_op op_add pe_int (pe_call GD hr (by rfl) T.draw T.kDraw bD .nil pass0 (pa_cons (pv 0) (pa_cons (pe_callB (call_min2 (by rfl)) (by rfl) mM (by decide +kernel) (pa_cons pe_int (pa_cons (pv 2) pa_nil))) pa_nil)))) pa_nil)) (pg_name (i := 7) scLCond.nd rfl (.inl rfl))
          (pss_one (ps_set (i := 6) scLCond.nd rfl (.inl rfl) (pe_op op_add_str (pv 6) (pe_ix ix_str pe_str (pe_call GD hr (by rfl) T.draw T.kDraw bD .nil pass0 (pa_cons (pv 0) (pa_cons (pv 1) pa_nil))) (fun _ _ => rfl))))))
        (pss_one (ps_ret (pe_tup (pa_cons pe_str (pa_cons (pv 6) pa_nil))))))) pss_nil)
      (pss_cons (ps_if (pt_cmpR op_eq (pv 3) pe_int (nomark _)) (pss_one (ps_ret (pe_tup (pa_cons pe_str (pa_cons (pe_op op_sub (pv 4) (pe_call GD hr (by rfl) T.draw T.kDraw bD .nil pass0 (pa_cons (pv 0) (pa_cons pe_int pa_nil)))) pa_nil))))) pss_nil)
      (pss_one (ps_ret (pe_tup (pa_cons (pe_ix ix_list (pe_lst (pa_cons pe_str (pa_cons pe_str pa_nil))) (pe_op op_sub (pv 3) pe_int) (fun _ _ => rfl)) (pa_cons (pv 4) (pa_cons (pv 5) pa_nil))))))))), ?_⟩
    refine rd_draw (p := p) rfl ev_c S nlc (by omega) (by decide) (by decide) fun r H1 hr1 S1 sb1 => ?_
    refine rd_draw (p := p) rfl (ev_var rfl) S1 nlc (by omega) (by omega) (by omega) fun r2 H2 hr2 S2 sb2 => ?_
    refine ⟨_, _, rfl, rfl, _, _, rfl, ?_⟩
    refine ⟨_, rfl, rd_draw (p := p) rfl (ev_op (ev_op (ev_var rfl) (ev_var rfl) rv_I0) ev_c rv_I0) S2 nlc (by omega) (by omega) (by omega) fun r3 H3 hr3 S3 sb3 => ⟨_, _, rfl, rfl, (by show (2:Nat) ≤ sizeLine; rw [sizeLine_eq]; omega), fun lr nlr => ?_⟩⟩
    have e3 := Ex.new (o := .lst [.non, .int (1 + (r2 : Int) + (r3 : Int))]) nlr
    have o3 := off_of S3 nlr
    refine rd_draw (p := p) rfl ev_c (S3.ex e3) nlc (by omega) (by decide) (by decide) fun r4 H4 hr4 S4 sb4 => ?_
    have g4 : H4 lr = some (.lst [.non, .int (1 + (r2 : Int) + (r3 : Int))]) := sb4 _ _ upd_same o3.1 o3.2
    have key : ∃ (z : V) (d : PyData), ([V.non, .int (1 + (r2 : Int) + (r3 : Int))])[r4]? = some z ∧ (∀ H', Pt H' z d) ∧ noL d = true ∧ (d = .none ∨ ∃ j : Int, d = .int j ∧ (1 + (r2 : Int)) ≤ j ∧ j ≤ 6) := by
      have cc : r4 = 0 ∨ r4 = 1 := by omega
      rcases cc with rfl | rfl
      · exact ⟨_, _, rfl, fun _ => .non, rfl, .inl rfl⟩
      · exact ⟨_, _, rfl, fun _ => .int _, rfl, .inr ⟨_, rfl, by omega, by omega⟩⟩
    obtain ⟨z, dz, hz, kz, nz, cz⟩ := key
    refine ⟨lr, _, _, _, rfl, rfl, SqL.of g4, atI_nat hz, ?_⟩
    have sb := sameB_trans (sameB_trans (sameB_trans (sameB_trans sb1 sb2) sb3) (sameB_ex e3)) sb4
    have et : ∀ (k : Nat) (H' : Hp), EvT (tTest (tOp rEq (tVar 3) (tC (.int (k : Int))))) [some (.ref p), some (.int β), some (.int m), some (.int (r : Int)), some (.int (1 + (r2 : Int))), some z, none, none] H' (decide (r = k)) := fun k H' =>
      et_test (ev_is (ev_op (ev_var rfl) ev_c (rv_eq rfl)) (by
        congr 1
        refine decide_eq_decide.mpr ⟨fun y => ?_, fun y => by rw [y]⟩
        injection y with y
        omega))
    refine q_when (et 0 H4) (fun z0 H5 e5 => ?_) (fun z0 H5 e5 => ?_)
    · -- ends
      refine q_asg ev_c fun H6 e6 => ?_
      have S6 := (S4.ex e5).ex e6
      have sb6 := sameB_trans (sameB_trans sb (sameB_ex e5)) (sameB_ex e6)
      refine rd_draw (p := p) (te := _) rfl (ev_cb (ea_cons ev_c (ea_cons (ev_var rfl) ea_nil)) fun H1 _ Q k => ⟨_, _, rfl, k _ (Ex.refl _)⟩) S6 nlc (by omega) (by split <;> omega) (by split <;> omega) fun r5 H7 hr5 S7 sb7 => ?_
      have r52 : r5 < 2 := by
        have := hr5
        split at this <;> omega
      refine ⟨_, _, rfl, rfl, _, rfl, by omega, by omega, ?_⟩
      rw [show (1 + (r5 : Int)).toNat = 1 + r5 by omega]
      refine for_range (n := 1 + r5) (fun i σ' H' => ∃ (t : Str) (x7 : Option V) (b : Int), σ' = [some (.ref p), some (.int β), some (.int m), some (.int (r : Int)), some (.int (1 + (r2 : Int))), some z, some (.str t), x7] ∧ t.length = i ∧ ((tl t).all fun c => decide (48 ≤ c ∧ c < 48 + β)) = true ∧
        b = a + 5 + i ∧ StAt H' p c l n b ∧ SameB H H' p l) ⟨"", _, a + 5, rfl, rfl, rfl, (by omega), (by rw [show a + 5 = a + 1 + 1 + 1 + 1 + 1 by omega]; exact S7), sameB_trans sb6 sb7⟩ (fun i σ' H' hi hI => ?_) (fun σ' H' hI => ?_)
      · obtain ⟨t, x7, b, rfl, ht, hf, rfl, S', sb'⟩ := hI
        refine ⟨_, rfl, rd_draw (p := p) rfl (ev_var rfl) S' nlc (by omega) (by omega) (by omega) fun r6 H8 hr6 S8 sb8 => ?_⟩
        refine ⟨_, _, 48 + r6, rfl, rfl, by decide, atI_nat (fig_at (by omega)), _, _, rfl, rfl, ?_, ?_⟩
        · rw [ht, show (Str.length ⟨#[48 + r6]⟩) = 1 from rfl, sizeLine_eq]
          omega
        · refine ⟨_, _, _, rfl, ?_, ?_, rfl, (by rw [show a + 5 + ((i + 1 : Nat) : Int) = a + 5 + (i : Int) + 1 by omega]; exact S8), sameB_trans sb' sb8⟩
          · rw [TL.len_tl, tl_append, List.length_append, ← TL.len_tl, ht]
            rfl
          · rw [tl_append, List.all_append, hf]
            show (decide (48 ≤ 48 + r6 ∧ 48 + r6 < 48 + β) && true) = true
            rw [decide_eq_true ⟨by omega, by omega⟩]
            rfl
      · obtain ⟨t, x7, b, rfl, ht, hf, rfl, S', sb'⟩ := hI
        refine s_retP (D := .tuple [.str "ends", .str t]) (ep_tup (epa_cons (ep_str (by decide)) (epa_cons (ep_v (ev_var rfl) (.str t (by omega))) epa_nil)) (by simp)) fun v H9 e9 k9 => ?_
        refine q v _ H9 _ (cond_ends ?_) rfl k9 (by omega) (by omega) (S'.ex e9) (sameB_trans sb' (sameB_ex e9))
        unfold isFigs
        rw [hf, decide_eq_true (by omega), decide_eq_true (by omega)]
        rfl
    · have S5 := S4.ex e5
      have sb5 := sameB_trans sb (sameB_ex e5)
      refine q_when (et 1 H5) (fun z1 H6 e6 => ?_) (fun z1 H6 e6 => ?_)
      · -- near
        refine ⟨_, rfl, rd_draw (p := p) rfl ev_c (S5.ex e6) nlc (by omega) (by decide) (by decide) fun r5 H7 hr5 S7 sb7 => ⟨_, _, rfl, rfl, (by show (2:Nat) ≤ sizeLine; rw [sizeLine_eq]; omega), fun tp ntp => ?_⟩⟩
        have e7 := Ex.new (o := .tup [.str "near", .int (1 + (r2 : Int) - (r5 : Int))]) ntp
        refine q _ (.tuple [.str "near", .int (1 + (r2 : Int) - (r5 : Int))]) _ _ (cond_near (by omega) (by omega)) rfl (.tup upd_same (.cons (.str _ (by decide)) (.cons (.int _) .nil))) (by omega) (by omega) (S7.ex e7) (sameB_trans (sameB_trans (sameB_trans sb5 (sameB_ex e6)) sb7) (sameB_ex e7))
      · -- length, changed
        have hrr : r = 2 ∨ r = 3 := by
          have y0 : ¬ r = 0 := of_decide_eq_false z0
          have y1 : ¬ r = 1 := of_decide_eq_false z1
          omega
        have hx : ∃ x : Str, (x = "length" ∨ x = "changed") ∧ ([V.str "length", .str "changed"])[r - 2]? = some (.str x) ∧ x.length ≤ 3000 := by
          rcases hrr with rfl | rfl
          · exact ⟨_, .inl rfl, rfl, by decide⟩
          · exact ⟨_, .inr rfl, rfl, by decide⟩
        obtain ⟨x, hx1, hx2, hx3⟩ := hx
        refine s_retP (D := .tuple [.str x, .int (1 + (r2 : Int)), dz]) (ep_tup (epa_cons (ep_v (ev_opL1 (el_lst (ea_cons ev_c (ea_cons ev_c ea_nil)) (by simp)) (fun H7 e7 => ev_op (ev_var rfl) ev_c rv_I0) fun p7 H7 h7 e7 => rv_ixL (sq_of h7) (by
            show atI _ ((r : Int) - 2) = _
            rw [show (r : Int) - 2 = ((r - 2 : Nat) : Int) by omega]
            exact atI_nat hx2)) (.str x hx3)) (epa_cons (ep_v (ev_var rfl) (.int _)) (epa_cons (ep_v (ev_var rfl) (kz _)) epa_nil))) (by simp)) fun v H9 e9 k9 => ?_
        refine q v _ H9 _ (cond_len hx1 (by omega) (by omega) cz) ?_ k9 (by omega) (by omega) ((S5.ex e6).ex e9) (sameB_trans (sameB_trans sb5 (sameB_ex e6)) (sameB_ex e9))
        show (true && (true && (noL dz && true))) = true
        rw [nz]
        rfl
end
end Dt

/-! The law's drawn rules. -/
namespace Dt
open PySem L2 Evl Dg LamR LamX TL
open Dr (StAt SameB)
section
variable {P : Program} {w : World} {K : PySem.W.Frag} {mg : Str → Option Value} {base : Heap} {fm fdr flc flk : Addr}
theorem stAt_upd {H : Hp} {p c l x : Addr} {n : Nat} {a : Int} {o : HO} (S : StAt H p c l n a) (h : x ≠ p ∧ x ≠ c ∧ x ≠ l) : StAt (upd H x o) p c l n a :=
  ⟨by rw [upd_ne h.1.symm]; exact S.d, let ⟨cs, k, z⟩ := S.c; ⟨cs, by rw [upd_ne h.2.1.symm]; exact k, z⟩, let ⟨ls, k, z⟩ := S.l; ⟨ls, by rw [upd_ne h.2.2.symm]; exact k, z⟩, S.n0, S.n1, S.a0⟩
theorem off3 {H : Hp} {p c l x : Addr} {n : Nat} {a : Int} (S : StAt H p c l n a) (h : H x = none) : x ≠ p ∧ x ≠ c ∧ x ≠ l := by
  obtain ⟨ls, hls, _⟩ := S.l
  obtain ⟨cs, hcs, _⟩ := S.c
  exact ⟨(ne_of_none S.d h).symm, (ne_of_none hcs h).symm, (ne_of_none hls h).symm⟩
theorem sameB_upd {H H' : Hp} {p l x : Addr} {o : HO} (e : SameB H H' p l) (h : H x = none) : SameB H (upd H' x o) p l := fun b u hb h1 h2 => by
  rw [upd_ne (ne_of_none hb h)]
  exact e b u hb h1 h2
/-- rules as a law draws them: so many with conditions, and a last one -/
def Rls (β : Nat) (Ds : List PyData) : Prop := ∃ Es k, Ds = Es ++ [.tuple [.tuple [], k]] ∧ keepB k = true ∧ Es.all (ruleB β) = true
theorem Rls.all {β : Nat} {Ds : List PyData} (h : Rls β Ds) : Ds.all (ruleB β) = true := by
  obtain ⟨Es, k, rfl, hk, he⟩ := h
  rw [List.all_append, he]
  show (ruleB β (.tuple [.tuple [], k]) && true) = true
  rw [rule_mk, hk]
  rfl
def spLRules : Sp := fun vs H Q _ => ∃ (p c l : Addr) (n β m y : Nat) (a : Int), vs = [.ref p, .int β, .int m, .int y] ∧ StAt H p c l n a ∧ l ≠ c ∧ a < 2 ^ 39 - 10000 ∧ 2 ≤ β ∧ β ≤ 10 ∧ 1 ≤ m ∧ m ≤ 6 ∧ y ≤ 8 ∧
  ∀ (v : V) (Ds : List PyData) (H' : Hp) (b : Int), Rls β Ds → Ds.length ≤ y + 1 → noLs Ds = true → Pt H' v (.tuple Ds) → a ≤ b → b ≤ a + 1000 → StAt H' p c l n b → SameB H H' p l → Q v H'
theorem scLRules : FnScope ["state", "base", "most", "many", "found", "k", "some", "j"] ["state", "base", "most", "many"] (defScope sLRules) := ⟨rfl, rfl, rfl, by decide +kernel, rfl, by decide +kernel, by decide +kernel⟩
theorem Pt.tupI {H : Hp} {v : V} {ds : List PyData} (h : Pt H v (.tuple ds)) : ∃ a vs, v = .ref a ∧ H a = some (.tup vs) ∧ PtAll H vs ds := by
  cases h with
  | tup hs ha => exact ⟨_, _, rfl, hs, ha⟩
theorem ok_lrules {f : Addr} {fd fdd fdc fdk : FuncData} (F : Fun K "_law_rules" "_law_rules" sLRules f fd) (GD : FnOk P w K mg base CX0 3 fdr fdd ["state", "many"] Dr.spDraw) (bD : Binds K fdd ["state", "many"] []) (T : Dr.TxO K mg fm fdr)
    (GC : FnOk P w K mg base CX0 3 flc fdc ["state", "base", "most"] spLCond) (bC : Binds K fdc ["state", "base", "most"] []) (gC : mg "_law_condition" = some (.ref flc)) (kC : PySem.W.keepIn K (.ref flc) = true)
    (GK : FnOk P w K mg base CX0 3 flk fdk ["state", "most"] spLKeep) (bK : Binds K fdk ["state", "most"] []) (gK : mg "_law_keep" = some (.ref flk)) (kK : PySem.W.keepIn K (.ref flk) = true) (mR : mg "range" = none) (mT : mg "tuple" = none) :
    FnOk P w K mg base CX0 4 f fd ["state", "base", "most", "many"] spLRules := by
  refine F.ok scLRules (fun vs H Q E h => ?_) (fun cdv A outer s H vs Q E hr h => ?_)
  · obtain ⟨p, c, l, n, β, m, y, a, rfl, _⟩ := h
    rfl
  · obtain ⟨p, c, l, n, β, m, y, a, rfl, S, nlc, ha, b2, b10, m1, m6, y8, q⟩ := h
    refine ⟨_, pss_cons (ps_set (i := 4) scLRules.nd rfl (.inl rfl) (pe_lst pa_nil))
      (pss_cons (ps_for PassesOwn.never rfl (pi_range1 (by rfl) mR (pa_cons (pe_call GD hr (by rfl) T.draw T.kDraw bD .nil pass0 (pa_cons (pv 0) (pa_cons (pe_op op_add (pv 3) pe_int) pa_nil))) pa_nil)) (pg_name (i := 5) scLRules.nd rfl (.inl rfl))
        (pss_cons (ps_set (i := 6) scLRules.nd rfl (.inl rfl) (pe_callTy call_tuple_of (by rfl) mT (by decide +kernel) (pa_cons (pe_lc (own := [("j", 7)]) (g := gName 7) (tt := tYes) rfl scLRules.nd (pi_range1 (by rfl) mR (pa_cons (pe_ix ix_list (pe_lst (pa_cons pe_int (pa_cons pe_int (pa_cons pe_int (pa_cons pe_int (pa_cons pe_int (pa_cons pe_int (pa_cons pe_int pa_nil)))))))) (pe_call GD hr (by rfl) T.draw T.kDraw bD .nil pass0 (pa_cons (pv 0) (pa_cons pe_int pa_nil))) (fun _ _ => rfl)) pa_nil))
            (blkOk_by (own := [("j", 7)]) (N := ["state", "base", "most", "many", "found", "k", "some", "j"]) (sc := defScope sLRules) (by decide +kernel)) (fun _ _ _ _ _ => pg_name (i := 7) scLRules.nd rfl (Or.inl rfl)) (fun _ _ _ _ _ => pts_nil)
            (fun _ _ _ _ _ => pe_call GC hr (by rfl) gC kC bC .nil pass0 (pa_cons (pv 0) (pa_cons (pv 1) (pa_cons (pv 2) pa_nil))))) pa_nil)))
        (pss_one (ps_expr (pe_bm PySem.F.plainAttrs_list PySem.F.slot_list_append PySem.F.type_list_append mt_append (pv 4) (pa_cons (pe_tup (pa_cons (pv 6) (pa_cons (pe_call GK hr (by rfl) gK kK bK .nil pass0 (pa_cons (pv 0) (pa_cons (pv 2) pa_nil))) pa_nil))) pa_nil))))))
      (pss_one (ps_ret (pe_op op_catA (pe_callTy call_tuple_of (by rfl) mT (by decide +kernel) (pa_cons (pv 4) pa_nil)) (pe_tup (pa_cons (pe_tup (pa_cons (pe_tup pa_nil) (pa_cons (pe_call GK hr (by rfl) gK kK bK .nil pass0 (pa_cons (pv 0) (pa_cons (pv 2) pa_nil))) pa_nil))) pa_nil)))))), ?_⟩
    refine ⟨(Nat.zero_le _), fun fl nfl => ?_⟩
    have e0 := Ex.new (o := .lst []) nfl
    have ofl := off_of S nfl
    have ofl3 := off3 S nfl
    refine rd_draw (p := p) rfl (ev_op (ev_var rfl) ev_c rv_I0) (S.ex e0) nlc (by omega) (by omega) (by omega) fun r H1 hr1 S1 sb1 => ?_
    have hr8 : r ≤ y := by omega
    have sb01 := sameB_trans (sameB_ex (p := p) (l := l) e0) sb1
    have f1 : H1 fl = some (.lst []) := sb1 _ _ upd_same ofl.1 ofl.2
    refine ⟨_, rfl, by omega, by omega, ?_⟩
    rw [show ((r : Nat) : Int).toNat = r by omega]
    refine for_range (n := r) (fun i σ' H' => ∃ (x5 x6 : Option V) (us : List V) (Es : List PyData) (b : Int), σ' = [some (.ref p), some (.int β), some (.int m), some (.int y), some (.ref fl), x5, x6, none] ∧ H' fl = some (.lst us) ∧ Es.length = i ∧ PtAll H' us Es ∧ Es.all (ruleB β) = true ∧ noLs Es = true ∧
      a ≤ b ∧ b ≤ a + 1 + 50 * i ∧ StAt H' p c l n b ∧ SameB H H' p l) ⟨_, _, [], [], a + 1, rfl, f1, rfl, .nil, rfl, rfl, by omega, by omega, S1, sb01⟩ (fun i σ' H2 hi hI => ?_) (fun σ' H2 hI => ?_)
    · -- one more rule
      obtain ⟨x5, x6, us, Es, b, rfl, hfl, hn, ks, kR, kN, ab, ba, S2, sb2⟩ := hI
      refine ⟨(by show (7:Nat) ≤ sizeLine; rw [sizeLine_eq]; omega), fun lr nlr => ?_⟩
      have e3 := Ex.new (o := .lst [.int 1, .int 1, .int 1, .int 2, .int 2, .int 3, .int 0]) nlr
      have o3 := off_of S2 nlr
      refine rd_draw (p := p) rfl ev_c (S2.ex e3) nlc (by omega) (by decide) (by decide) fun r4 H4 hr4 S4 sb4 => ?_
      have g4 : H4 lr = some (.lst [.int 1, .int 1, .int 1, .int 2, .int 2, .int 3, .int 0]) := sb4 _ _ upd_same o3.1 o3.2
      have key : ∃ z : Nat, ([V.int 1, .int 1, .int 1, .int 2, .int 2, .int 3, .int 0])[r4]? = some (.int (z : Int)) ∧ z ≤ 3 := by
        have cc : r4 = 0 ∨ r4 = 1 ∨ r4 = 2 ∨ r4 = 3 ∨ r4 = 4 ∨ r4 = 5 ∨ r4 = 6 := by omega
        rcases cc with rfl | rfl | rfl | rfl | rfl | rfl | rfl
        · exact ⟨1, rfl, by decide⟩
        · exact ⟨1, rfl, by decide⟩
        · exact ⟨1, rfl, by decide⟩
        · exact ⟨2, rfl, by decide⟩
        · exact ⟨2, rfl, by decide⟩
        · exact ⟨3, rfl, by decide⟩
        · exact ⟨0, rfl, by decide⟩
      obtain ⟨z, hz, z3⟩ := key
      refine ⟨lr, _, _, _, rfl, rfl, SqL.of g4, atI_nat hz, _, rfl, by omega, by omega, fun Dl nDl => ?_⟩
      rw [show ((z : Nat) : Int).toNat = z by omega]
      have e5 := Ex.new (o := .lst []) nDl
      have oD := off_of S4 nDl
      have tk4 : TupK H2 H4 := (tupK_ex e3).trans (tupK_same (S2.ex e3) sb4)
      have f4 : H4 fl = some (.lst us) := sb4 _ _ (e3 _ _ hfl) ofl.1 ofl.2
      have oD3 := off3 S4 nDl
      have nD0 : H Dl = none := by
        cases hz0 : H Dl with
        | none => rfl
        | some o => exact absurd (nDl.symm.trans (sameB_trans (sameB_trans sb2 (sameB_ex e3)) sb4 _ _ hz0 oD.1 oD.2)) (by simp)
      have nDf : Dl ≠ fl := (ne_of_none f4 nDl).symm
      have sb24 := sameB_trans (sameB_trans sb2 (sameB_ex e3)) sb4
      refine lc_range (lo := 0) (n := z) (fun j H' => ∃ (ws : List V) (Cs : List PyData) (b' : Int), H' Dl = some (.lst ws) ∧ Cs.length = j ∧ PtAll H' ws Cs ∧ Cs.all (condB β) = true ∧ noLs Cs = true ∧ b + 1 ≤ b' ∧ b' ≤ b + 1 + 10 * j ∧ StAt H' p c l n b' ∧ SameB H H' p l ∧ H' fl = some (.lst us) ∧ TupK H2 H')
        ⟨[], [], b + 1, upd_same, rfl, .nil, rfl, rfl, by omega, by omega, S4.ex e5, sameB_trans sb24 (sameB_ex e5), e5 _ _ f4, tk4.trans (tupK_ex e5)⟩ (fun j H5 hj hJ => ?_) (fun H5 hJ => ?_)
      · obtain ⟨ws, Cs, b', hD, hCl, kC', cC, nC, c1, c2, S5, sb5, f5, t5⟩ := hJ
        refine ⟨rfl, ?_⟩
        rw [show (tYes : TT) = fun _ H Q => Q true H from rfl]
        dsimp only
        rw [if_pos rfl]
        refine ⟨_, rfl, _, rfl, _, rfl, p, c, l, n, β, m, b', rfl, S5, nlc, by omega, b2, b10, m1, m6, fun v d H6 b6 cd nl kd d1 d2 S6 sb6 => ?_⟩
        have hD6 : H6 Dl = some (.lst ws) := sb6 _ _ hD oD.1 oD.2
        have t6 := tupK_same S5 sb6
        refine ⟨ws, hD6, by rw [kC'.length, hCl, sizeLine_eq]; omega, ws ++ [v], Cs ++ [d], b6, upd_same, by rw [List.length_append, hCl]; rfl, ((kC'.tk (t6.trans (tupK_upd hD6)) nC).app (.cons (kd.tk (tupK_upd hD6) nl) .nil)), ?_, ?_, by omega, by omega, ?_, ?_, ?_, (t5.trans t6).trans (tupK_upd hD6)⟩
        · rw [List.all_append, cC]
          show (condB β d && true) = true
          rw [cd]
          rfl
        · exact noLs_app nC (by show (noL d && true) = true; rw [nl]; rfl)
        · exact stAt_upd S6 oD3
        · exact sameB_upd (sameB_trans sb5 sb6) nD0
        · rw [upd_ne nDf.symm]
          exact sb6 _ _ f5 ofl.1 ofl.2
      · obtain ⟨ws, Cs, b', hD, hCl, kC', cC, nC, c1, c2, S5, sb5, f5, t5⟩ := hJ
        refine ⟨Dl, ws, rfl, .inl ⟨SqL.of hD, fun tp ntp => ?_⟩⟩
        have e6 := Ex.new (o := .tup ws) ntp
        have pc : Pt (upd H5 tp (.tup ws)) (.ref tp) (.tuple Cs) := .tup upd_same (kC'.ex e6)
        refine ⟨_, rfl, .inl ⟨rfl, _, SqL.of (e6 _ _ f5)⟩, ?_⟩
        refine ⟨_, rfl, _, rfl, _, rfl, p, c, l, n, m, b', rfl, S5.ex e6, nlc, by omega, m1, m6, fun v d H6 kd nd kv S6 sb6 => ⟨(by show (2:Nat) ≤ sizeLine; rw [sizeLine_eq]; omega), fun t2 nt2 => ?_⟩⟩
        have e7 := Ex.new (o := .tup [.ref tp, v]) nt2
        have t6 : TupK H5 (upd H6 t2 (.tup [.ref tp, v])) := ((tupK_ex e6).trans (tupK_same (S5.ex e6) sb6)).trans (tupK_ex e7)
        have f6 : (upd H6 t2 (.tup [.ref tp, v])) fl = some (.lst us) := e7 _ _ (sb6 _ _ (e6 _ _ f5) ofl.1 ofl.2)
        have pr : Pt (upd H6 t2 (.tup [.ref tp, v])) (.ref t2) (.tuple [.tuple Cs, d]) := .tup upd_same (.cons ((pc.same (S5.ex e6) sb6 (by rw [okD]; exact noLs_ok nC)).ex e7) (.cons (kv.ex e7) .nil))
        have nr : noL (.tuple [.tuple Cs, d]) = true := by
          show (noLs Cs && (noL d && true)) = true
          rw [nC, nd]
          rfl
        refine ⟨fl, us, _, rfl, rfl, f6, by rw [ks.length, hn, sizeLine_eq]; omega, _, _, us ++ [.ref t2], Es ++ [.tuple [.tuple Cs, d]], b' + 2, rfl, upd_same, by rw [List.length_append, hn]; rfl, ?_, ?_, ?_, by omega, by omega, stAt_upd (S6.ex e7) ofl3, sameB_upd (sameB_trans (sameB_trans (sameB_trans sb5 (sameB_ex e6)) sb6) (sameB_ex e7)) nfl⟩
        · exact (ks.tk ((t5.trans t6).trans (tupK_upd f6)) kN).app (.cons (pr.tk (tupK_upd f6) nr) .nil)
        · rw [List.all_append, kR]
          show (ruleB β (.tuple [.tuple Cs, d]) && true) = true
          rw [rule_mk, cC, kd, decide_eq_true (by omega)]
          rfl
        · exact noLs_app kN (by show (noL _ && true) = true; rw [nr]; rfl)
    · obtain ⟨x5, x6, us, Es, b, rfl, hfl, hn, ks, kR, kN, ab, ba, S2, sb2⟩ := hI
      refine ⟨_, rfl, fl, us, rfl, .inl ⟨SqL.of hfl, fun tp ntp => ?_⟩⟩
      have e3 := Ex.new (o := .tup us) ntp
      refine ⟨(by show (0:Nat) ≤ sizeLine; exact Nat.zero_le _), fun tn ntn => ?_⟩
      have e4 := Ex.new (o := .tup []) ntn
      refine ⟨_, rfl, _, rfl, p, c, l, n, m, b, rfl, (S2.ex e3).ex e4, nlc, by omega, m1, m6, fun v d H6 kd nd kv S6 sb6 => ⟨(by show (2:Nat) ≤ sizeLine; rw [sizeLine_eq]; omega), fun t2 nt2 => ⟨(by show (1:Nat) ≤ sizeLine; rw [sizeLine_eq]; omega), fun t3 nt3 => ?_⟩⟩⟩
      have e7 := Ex.new (o := .tup [.ref tn, v]) nt2
      have e8 := Ex.new (o := .tup [.ref t2]) nt3
      have S34 := (S2.ex e3).ex e4
      have t36 : TupK H2 H6 := ((tupK_ex e3).trans (tupK_ex e4)).trans (tupK_same S34 sb6)
      have e78 := e7.trans e8
      have gtp : H6 tp = some (.tup us) := tupK_same S34 sb6 _ _ (e4 _ _ upd_same)
      have gtn : H6 tn = some (.tup []) := tupK_same S34 sb6 _ _ upd_same
      have kl : Pt (upd (upd H6 t2 (.tup [.ref tn, v])) t3 (.tup [.ref t2])) (.ref t2) (.tuple [.tuple [], d]) := .tup (e8 _ _ upd_same) (.cons (.tup (e78 _ _ gtn) .nil) (.cons (kv.ex e78) .nil))
      have ks8 : PtAll (upd (upd H6 t2 (.tup [.ref tn, v])) t3 (.tup [.ref t2])) us Es := ks.tk (t36.trans (tupK_ex e78)) kN
      have sb8 := sameB_trans (sameB_trans (sameB_trans (sameB_trans sb2 (sameB_ex e3)) (sameB_ex e4)) sb6) (sameB_ex e78)
      have nl : noLs (Es ++ [.tuple [.tuple [], d]]) = true := noLs_app kN (by show ((true && (noL d && true)) && true) = true; rw [nd]; rfl)
      have hlen : (Es ++ [PyData.tuple [.tuple [], d]]).length ≤ y + 1 := by
        rw [List.length_append, hn]
        show r + 1 ≤ y + 1
        omega
      refine ⟨tp, t3, us, [.ref t2], rfl, rfl, st_of (e78 _ _ gtp), st_of upd_same, by rw [ks.length, hn, sizeLine_eq]; simp only [List.length_cons, List.length_nil]; omega, fun hz => ?_, fun _ z => (by simp at z), fun hz _ t9 nt9 => ?_⟩
      · have he : Es = [] := by
          have := ks.length
          rw [hz] at this
          exact List.length_eq_zero_iff.mp this.symm
        subst he
        refine q _ [.tuple [.tuple [], d]] _ (b + 2) ⟨[], d, rfl, kd, rfl⟩ hlen nl (.tup upd_same (.cons kl .nil)) (by omega) (by omega) (S6.ex e78) sb8
      · have e9 := Ex.new (o := .tup (us ++ [.ref t2])) nt9
        exact q _ _ _ (b + 2) ⟨Es, d, rfl, kd, kR⟩ hlen nl (.tup upd_same ((ks8.app (.cons kl .nil)).ex e9)) (by omega) (by omega) ((S6.ex e78).ex e9) (sameB_trans sb8 (sameB_ex e9))
end
end Dt

/-! The end of a law whose defs make lambdas and call repr. -/
namespace LamR
open PySem PySem.Spec PyProof.Rows L2 LamX
/-- a table of code objects, still empty -/
abbrev bare : Obj := { cls := .none, data := .fields #[] }
/-- what is known where the law is called; cs: code objects with their tables -/
structure HeadAt (K : PySem.W.Frag) (mg mb : Str → Option Value) (cs : List (Addr × Addr)) (s : Shared) : Prop where
  kin : K.In s.heap
  glob : s.heap.Ns mainGlobals mg
  blt : s.heap.Ns builtinsNs mb
  boot : ∀ x : Str, x ≠ "__name__" → mb x = bootBuiltins x
  lim : s.heap.NoLimit
  gens : s.gens = #[]
  tab : ∀ p ∈ cs, s.heap.get? p.2 = some bare
  off : ∀ p ∈ cs, K.lookup p.2 = none
  cod : ∀ p ∈ cs, PySem.W.CodeHd s.heap p.1 p.2
  bmod : ∃ (m : Addr) (o : Obj), mg "__builtins__" = some (.ref m) ∧ m ≠ builtinsNs ∧ s.heap.get? m = some o ∧ o.cls = .type "module" ∧ o.dict = some builtinsNs ∧ o.data = .plain
/-- what is followed: the tables, and the script where the written part has it not -/
structure Hid (K : PySem.W.Frag) (cs : List (Addr × Addr)) (a : Addr) (H : Hp) : Prop where
  only : ∀ b, H b ≠ none → b = a ∨ ∃ p ∈ cs, b = p.2
  mine : H a = none ∨ (K.lookup a = none ∧ ∃ o xs, H a = some (.frz o (.lst xs)))
  tabs : ∀ p ∈ cs, H p.2 = some (.tbl #[])
section
variable {P : Program} {w : World} {K : PySem.W.Frag} {mg mb : Str → Option Value} {cs : List (Addr × Addr)} {s : Shared} {a : Addr} {H : Hp} {vs : List Value}
/-- neither a list nor an empty row of fields: it is not followed -/
theorem Hid.out (h : Hid K cs a H) (D : HeadAt K mg mb cs s) (ha : s.heap.get? a = some { cls := .type "list", data := .seq vs.toArray }) {b : Addr} {o : Obj} (e : s.heap.get? b = some o) (nl : ∀ us n, o.data ≠ .seq us n) (nf : o.data ≠ .fields #[]) : H b = none := by
  by_cases z : H b = none
  · exact z
  · exfalso
    rcases h.only b z with q | ⟨p, hp, q⟩ <;> subst q
    · cases ha.symm.trans e
      exact nl _ _ rfl
    · cases (D.tab p hp).symm.trans e
      exact nf rfl
theorem Hid.stays (h : Hid K cs a H) (D : HeadAt K mg mb cs s) (ha : s.heap.get? a = some { cls := .type "list", data := .seq vs.toArray }) {b : Addr} {o : Obj} (e : s.heap.get? b = some o) (nl : ∀ us n, o.data ≠ .seq us n) (nf : o.data ≠ .fields #[]) : (hidT s.heap H).get? b = some o := hidT_get e (h.out D ha e nl nf)
theorem Hid.names (h : Hid K cs a H) (D : HeadAt K mg mb cs s) (ha : s.heap.get? a = some { cls := .type "list", data := .seq vs.toArray }) {b : Addr} {m : Str → Option Value} (n : s.heap.Ns b m) : (hidT s.heap H).Ns b m := by
  obtain ⟨o, es, ep, e, d, r⟩ := n
  refine ⟨o, es, ep, h.stays D ha e (fun us n z => ?_) (fun z => ?_), d, r⟩ <;> cases d.symm.trans z
theorem Hid.frag (h : Hid K cs a H) (D : HeadAt K mg mb cs s) : K.In (hidT s.heap H) := fun b o e => by
  refine hidT_get (D.kin b o e) ?_
  by_cases z : H b = none
  · exact z
  · exfalso
    rcases h.only b z with q | ⟨p, hp, q⟩ <;> subst q
    · rcases h.mine with y | ⟨y, _⟩
      · exact z y
      · cases y.symm.trans e
    · cases (D.off p hp).symm.trans e
theorem Hid.table (h : Hid K cs a H) (D : HeadAt K mg mb cs s) (ha : s.heap.get? a = some { cls := .type "list", data := .seq vs.toArray }) : ∀ p ∈ cs, TabB (hidT s.heap H) mg p.1 p.2 := fun p hp => by
  have tp := D.tab p hp
  have gl := D.glob
  refine ⟨?_, ?_, fun z => ?_⟩
  · obtain ⟨o, us, file, tf, flags, tg, inF, text, tt, e1, k1, k2, k3, rest⟩ := D.cod p hp
    refine ⟨o, us, file, tf, flags, tg, inF, text, tt, h.stays D ha e1 (fun vs n z => ?_) (fun z => ?_), k1, k2, k3, rest⟩
    · cases k2.symm.trans z
    · cases k2.symm.trans z
      simp at k3
  · obtain ⟨m, o, y1, y2, y3, y4, y5, y6⟩ := D.bmod
    refine ⟨m, o, y1, y2, fun q => ?_, fun q => ?_, h.stays D ha y3 (fun vs n z => ?_) (fun z => ?_), y4, y5, y6⟩
    · obtain ⟨o', es, ep, e', d', _⟩ := gl
      subst q
      cases y3.symm.trans e'
      cases y6.symm.trans d'
    · subst q
      cases y3.symm.trans tp
      cases y6
    · cases y6.symm.trans z
    · cases y6.symm.trans z
  · obtain ⟨o', es, ep, e', d', _⟩ := gl
    rw [z] at e'
    cases tp.symm.trans e'
    cases d'
/-- the call of the law, at what is followed -/
theorem call_at {CX : CXT} {k : Nat} {fa : Addr} {fd : FuncData} {x : Str} {sp : Sp} (h : Hid K cs a H) (D : HeadAt K mg mb cs s) (ha : s.heap.get? a = some { cls := .type "list", data := .seq vs.toArray }) (ok : HOk P w H s.heap) (hr : RoomG k callerA)
    (F : ∀ base : Heap, K.In base → base.Ns mainGlobals mg → (∀ p ∈ cs, TabB base mg p.1 p.2) → FnG P w K mg base CX k fa fd [x] sp) (hb : BindsTo s fd ⟨[.ref a], []⟩ [(x, .ref a)]) (hsp : sp [.ref a] H (fun v _ => v = .bl true) fun _ _ _ => False) (hCX : ∀ e s', CX [] H s (fun _ _ _ => False) e s' → False) :
    codeAny (model P w) callerA (.call (.ref fa) ⟨[.ref a], []⟩) (fun r s' => r = .ok (.ret (.bool true)) ∧ OldK s.heap s'.heap ∧ s'.os = s.os ∧ AllBare s'.gens) s := by
  have fr := h.frag D
  have gl := h.names D ha D.glob
  obtain ⟨mc, lim1, lim2⟩ := D.lim
  have env : Env0 P w K mg (hidT s.heap H) callerA [] s H :=
    ⟨rfl, ⟨fr, gl, ⟨mb, h.names D ha D.blt, D.boot⟩, ⟨mc, h.names D ha lim1, lim2⟩⟩, fun b o e => of_hidT e, Nat.le_of_eq (hidT_size _ _), trivial, fun b z => absurd (show b ∈ ([] : List Addr) from z) (by simp), ok, .of_eq D.gens⟩
  refine codeAny_mono ((F _ fr gl (h.table D ha)).run callerA [] s H ⟨[.ref a], []⟩ [.ref a] [.ref a] _ _ hr env hb (.cons rfl .nil) hsp) fun r s' hq => ?_
  match r, hq with
  | .error e, hq => exact (hCX e s' hq).elim
  | .ok (.ret u), ⟨v, H', os, gens, un, ok', rel, q⟩ =>
    have q : v = .bl true := q
    subst q
    have rel : u = Value.bool true := rel
    subst rel
    -- what was there is there still, but for the tables, which may have grown
    have old : ∀ b o, (∀ p ∈ cs, b ≠ p.2) → s.heap.get? b = some o → s'.heap.get? b = some o := fun b o nb e => by
      by_cases z : H b = none
      · exact un.keep b o e z (fun y => absurd (show b ∈ ([] : List Addr) from y) (by simp)) (by simp)
      · rcases h.only b z with y | ⟨p, hp, y⟩
        · subst y
          rcases h.mine with y | ⟨_, ob, xs, y⟩
          · exact (z y).elim
          · have g1 := (ok b _ y).1
            have g2 := (ok' b _ (un.frzs b ob _ y)).1
            cases e.symm.trans g1
            exact g2
        · exact (nb p hp y).elim
    have more : ∀ p ∈ cs, ∃ us : Array Value, s'.heap.get? p.2 = some { cls := .none, data := .fields us } := fun p hp =>
      let ⟨us, y⟩ := un.tbls p.2 #[] (h.tabs p hp)
      ⟨_, ok' p.2 _ y⟩
    refine ⟨rfl, ⟨fun b o e => ?_, fun b o e => ?_⟩, os, gens⟩
    · by_cases y : ∃ p ∈ cs, b = p.2
      · obtain ⟨p, hp, rfl⟩ := y
        obtain ⟨us, g⟩ := more p hp
        have tp := D.tab p hp
        cases tp.symm.trans e
        exact .inr (.inl ⟨((D.cod p hp).tab tp).isCodeTable, rfl, #[], us, rfl, by rw [Array.empty_append]; exact g⟩)
      · exact .inl (old b o (fun p hp z => y ⟨p, hp, z⟩) e)
    · by_cases y : ∃ p ∈ cs, b = p.2
      · obtain ⟨p, hp, rfl⟩ := y
        obtain ⟨us, g⟩ := more p hp
        exact ⟨_, g⟩
      · exact ⟨o, old b o (fun p hp z => y ⟨p, hp, z⟩) e⟩
  | .ok .next, hq => exact False.elim hq
  | .ok .brk, hq => exact False.elim hq
  | .ok .cont, hq => exact False.elim hq
/-- the script is followed as a list that stays, or stands in the written part -/
theorem call_law {CX : CXT} {k : Nat} {fa : Addr} {fd : FuncData} {x : Str} {sp : Sp} {ns : List Int} (D : HeadAt K mg mb cs s) (ha : s.heap.get? a = some { cls := .type "list", data := .seq vs.toArray }) (hi : IntsAre vs ns) (hl : ns.length ≤ sizeLine) (hr : RoomG k callerA)
    (F : ∀ base : Heap, K.In base → base.Ns mainGlobals mg → (∀ p ∈ cs, TabB base mg p.1 p.2) → FnG P w K mg base CX k fa fd [x] sp) (hb : ∀ u : Value, BindsTo s fd ⟨[u], []⟩ [(x, u)])
    (hsp : ∀ H : Hp, (∀ p ∈ cs, H p.2 = some (.tbl #[])) → SqL K H a (ns.map V.int) → sp [.ref a] H (fun v _ => v = .bl true) fun _ _ _ => False) (hCX : ∀ H e s', CX [] H s (fun _ _ _ => False) e s' → False) :
    codeAny (model P w) callerA (.call (.ref fa) ⟨[.ref a], []⟩) (fun r s' => r = .ok (.ret (.bool true)) ∧ OldK s.heap s'.heap ∧ s'.os = s.os ∧ AllBare s'.gens) s := by
  have rel := vals_ints hi
  have na : ∀ p ∈ cs, p.2 ≠ a := fun p hp z => by
    have tp := D.tab p hp
    rw [z] at tp
    cases ha.symm.trans tp
  have tabled : ∀ b, (∃ p ∈ cs, b = p.2) → s.heap.get? b = some bare := fun b ⟨p, hp, z⟩ => by
    rw [z]
    exact D.tab p hp
  classical
  let own : Option HO := if K.lookup a = none then some (.frz { cls := .type "list", data := .seq vs.toArray } (.lst (ns.map V.int))) else none
  let H : Hp := fun b => if b = a then own else if ∃ p ∈ cs, b = p.2 then some (.tbl #[]) else none
  have Ha : H a = own := if_pos rfl
  have Ht : ∀ p ∈ cs, H p.2 = some (.tbl #[]) := fun p hp => (if_neg (na p hp)).trans (if_pos ⟨p, hp, rfl⟩)
  have Hid0 : Hid K cs a H := by
    refine ⟨fun b z => ?_, ?_, Ht⟩
    · by_cases y : b = a
      · exact .inl y
      · by_cases y2 : ∃ p ∈ cs, b = p.2
        · exact .inr y2
        · exact (z ((if_neg y).trans (if_neg y2))).elim
    · rw [Ha]
      by_cases y : K.lookup a = none
      · exact .inr ⟨y, _, _, if_pos y⟩
      · exact .inl (if_neg y)
  have seq : SqL K H a (ns.map V.int) := by
    cases y : K.lookup a with
    | none => exact .inl (.inr ⟨_, Ha.trans (if_pos y)⟩)
    | some o =>
      cases (D.kin a o y).symm.trans ha
      exact .inr ⟨_, vs.toArray, _, y, rfl, rfl, rfl, by rw [List.size_toArray, hi.length]; exact hl, by simpa using rel⟩
  have ok : HOk P w H s.heap := fun b u z => by
    by_cases y : b = a
    · subst y
      rw [Ha] at z
      by_cases y2 : K.lookup b = none
      · cases (if_pos y2).symm.trans z
        exact ⟨ha, by rw [List.length_map]; exact hl, vs, _, rel, ha⟩
      · cases (if_neg y2).symm.trans z
    · by_cases y2 : ∃ p ∈ cs, b = p.2
      · cases ((if_neg y).trans (if_pos y2)).symm.trans z
        exact tabled b y2
      · cases ((if_neg y).trans (if_neg y2)).symm.trans z
  exact call_at Hid0 D ha ok hr F (hb _) (hsp H Ht seq) fun e s' => hCX H e s'
end
/-- the whole walk -/
theorem walk_T {l : PySem.W.OpenLaw} {n k : Nat} {q : Program} {loose : List Str} {XP : (Str → Option Value) → Heap → Prop} {YP : World → Heap → Prop} {d : DefRec} {K : Params → PySem.W.Frag} {CX : World → CXT} {x : Str} {cs : List (Addr × Addr)} {sp : World → Sp}
    (hn : l.most = some n) (hn2 : n ≤ sizeLine) (hdf : d.params.defaults = []) (hr : RoomG k callerA) (hY : ∀ (w : World) (h : Heap), YP w h → (K w.params).In h)
    (hT : ∀ (w : World) (h : Heap), YP w h → ∀ p ∈ cs, h.get? p.2 = some bare) (nT : ∀ w : World, ∀ p ∈ cs, (K w.params).lookup p.2 = none) (hC : ∀ w : World, ∀ p ∈ cs, PySem.W.codeHdIn (K w.params) p.1 p.2 = true)
    (F : ∀ (w : World) (mg : Str → Option Value) (fa : Addr) (h : Heap), (K w.params).In h → h.Ns mainGlobals mg → mg d.name = some (.ref fa) → ∃ fd : FuncData, (∀ (s : Shared) (u : Value), BindsTo s fd ⟨[u], []⟩ [(x, u)]) ∧
      ∀ base : Heap, (K w.params).In base → base.Ns mainGlobals mg → (∀ p ∈ cs, TabB base mg p.1 p.2) → FnG l.prog w (K w.params) mg base (CX w) k fa fd [x] (sp w))
    (hsp : ∀ (w : World) (H : Hp) (a : Addr) (ns : List Int), ns.length ≤ n → (∀ p ∈ cs, H p.2 = some (.tbl #[])) → SqL (K w.params) H a (ns.map V.int) → sp w [.ref a] H (fun v _ => v = .bl true) fun _ _ _ => False)
    (hCX : ∀ (w : World) (H : Hp) (s : Shared) (e : Value) (s' : Shared), CX w [] H s (fun _ _ _ => False) e s' → False) :
    PySem.W.WalkO q loose XP YP l.row.toRowW d [] (fun f vs => PySem.call f vs) := by
  refine Att.attach_call hn hdf fun w s₀ s₁ mg mb fa o pm cd doc a vs ns G Y _ _ _ hmg hobj hints hlen hg => ?_
  have kin := hY w _ Y
  obtain ⟨fd, hb, hF⟩ := F w mg fa _ kin G.T.g hmg
  exact call_law ⟨kin, G.T.g, G.T.b, G.T.builtins, G.T.nolimit, hg, hT w _ Y, nT w, fun p hp => PySem.W.codeHd_of_K kin (hC w p hp), G.T.bmain⟩ hobj hints (Nat.le_trans hlen hn2) hr hF (hb s₁) (fun H hH hS => hsp w H a ns hlen hH hS) fun H e s' => hCX w H s₁ e s'
end LamR

/-! enumerate over a tuple. -/
namespace PySem
open Sem (wp)
theorem meets_enumerate_newB1 {v : Value} {o : Obj} {H : Heap → Prop} (B : Begins v o H) :
    Meets (Builtin.«enumerate.__new__» ⟨[.type "enumerate", v], []⟩) (fun _ R s => H s.heap ∧
      R (.ok (.ret (.ref (s.heap.push o).objs.size))) { s with heap := (s.heap.push o).push { cls := .type "enumerate", data := .fields #[.none, .bool false, .ref s.heap.objs.size, rawInt 0, .none, .none] } }) :=
  .of_wp fun prog w A R s h => by
    obtain ⟨hp, g, d, tk, os⟩ := s; obtain ⟨h1, h⟩ := h
    have hsub := sub_enumerate
    have q1 : ∀ {A' : Around} {E : Value → Shared → Prop} {Q : Value → Shared → Prop}, Q (.ref hp.objs.size) ⟨hp.push o, g, d, tk, os⟩ → wpAny (model prog w) A' (pyIter v) Q E ⟨hp, g, d, tk, os⟩ :=
      fun q => B.iter prog w _ _ ⟨hp, g, d, tk, os⟩ _ h1 q
    wp_walk using q1
    refine wpAny_stack_any fun st => wpAny_pure ?_
    split
    · rename_i c _ _ _ _ _
      cases (c == Value.type "enumerate")
      · wp_walk using q1
        exact ⟨_, rfl, h⟩
      · wp_walk using q1
        exact ⟨_, rfl, h⟩
    · wp_walk using q1
      exact ⟨_, rfl, h⟩
section
variable {prog : Program} {w : World} {A : Around} {E : Value → Shared → Prop} {s : Shared}
theorem call_enumerate_tuple {l : Addr} {items : Array Value} {Q : Value → Shared → Prop} (hL : s.heap.IsTuple l items)
    (h : ∀ h', IsEnum h' (s.heap.objs.size + 1) s.heap.objs.size 0 .none → h'.IsTupleIter s.heap.objs.size l 0 → h'.objs.size = s.heap.objs.size + 2 →
      (∀ b o, s.heap.get? b = some o → h'.get? b = some o) → Q (.ref (s.heap.objs.size + 1)) { s with heap := h' }) :
    wpAny (model prog w) A (call (.type "enumerate") [.ref l]) Q E s := by
  refine callType_new F.called_enumerate (by decide) (F.typeCall_enumerate_1 _) (F.newCall_enumerate_1 _) (fun obj => F.args_object_init_2 obj _) F.entry_enumerate_new
    (meets_enumerate_newB1 (begins_tuple l items)) ⟨hL, ?_⟩
  have hz : (s.heap.push { cls := .type "tuple_iterator", data := .fields #[.ref l, .int 0 0] }).objs.size = s.heap.objs.size + 1 := Heap.size_push ..
  show _ ∧ _
  rw [hz]
  have he : IsEnum ((s.heap.push { cls := .type "tuple_iterator", data := .fields #[.ref l, .int 0 0] }).push
      { cls := .type "enumerate", data := .fields #[.none, .bool false, .ref s.heap.objs.size, rawInt 0, .none, .none] }) (s.heap.objs.size + 1) s.heap.objs.size 0 .none := by
    have := Heap.get?_push_size (s.heap.push { cls := .type "tuple_iterator", data := .fields #[.ref l, .int 0 0] })
      (o := { cls := .type "enumerate", data := .fields #[.none, .bool false, .ref s.heap.objs.size, rawInt 0, .none, .none] }) rfl
    rw [hz] at this; exact this
  refine ⟨⟨_, he, rfl⟩, h _ he ⟨_, Heap.get?_push_of_some _ (Heap.get?_push_size _ rfl), rfl, rfl⟩ (by rw [Heap.size_push, hz]) fun b o x => Heap.get?_push_of_some _ (Heap.get?_push_of_some _ x)⟩
end
end PySem
namespace L2
open PySem PySem.Spec PyProof.Rows
/-- the tuple at a at each turn, each item in a new pair -/
def IteT (K : PySem.W.Frag) (a : Addr) : It :=
  ⟨fun i H => ∃ (xs : List V) (x : V), SqT K H a xs ∧ xs[i]? = some x, fun i H v H' => ∃ T x, v = .ref T ∧ H T = none ∧ H' = upd H T (.tup [.int (i : Nat), x]) ∧ ∀ xs, SqT K H a xs → xs[i]? = some x, fun i H => ∃ xs : List V, SqT K H a xs ∧ xs.length = i⟩
theorem turn_enumT {P : Program} {w : World} {K : PySem.W.Frag} {elts : List Expr} {kk : Nat} {tpos : Pos} (a e it : Addr) :
    Turn P w K (.Tuple elts kk tpos) (IteT K a) [e, it] e (fun i h => (∃ old, IsEnum h e it ((i : Nat) : Int) old) ∧ h.IsTupleIter it a i ∧ e ≠ it) where
  mem := by simp
  obj := fun i h st b hb => by
    obtain ⟨⟨old, he⟩, ⟨o, ho, hc, hd⟩, _⟩ := st
    have e' : b = e ∨ b = it := by simpa using hb
    rcases e' with z | z
    · rw [z]; exact ⟨_, he, fun v q => nomatch q⟩
    · rw [z]; exact ⟨o, ho, fun v q => by rw [hd] at q; cases q⟩
  keep := fun i h h' st k => let ⟨⟨old, he⟩, hi, hne⟩ := st; ⟨⟨old, k e (by simp) _ he⟩, hi.at fun o q => k it (by simp) o q, hne⟩
  item := by
    intro X hP hw hK hc i pins s σ H E I hf st hg
    subst hP hw hK
    obtain ⟨⟨old, he⟩, hit, hne⟩ := st
    obtain ⟨xs, x, hq, hx⟩ := hg
    obtain ⟨its, rv, p, hz⟩ := I.tuple hq
    have pt : s.heap.IsTuple a its.toArray := p
    obtain ⟨u, hu, ru⟩ := rv.get hx
    have hel : e < s.heap.objs.size := Heap.lt_size he
    have hil : it < s.heap.objs.size := by obtain ⟨_, q, _⟩ := hit; exact Heap.lt_size q
    have hae : e ≠ a := fun z => by
      obtain ⟨o, ho, hc', _⟩ := id pt
      rw [← z] at ho
      cases ho.symm.trans he
      exact absurd hc' (by show ¬ (Value.type "enumerate" = .type "tuple"); decide +kernel)
    have hai : a ≠ it := fun z => by
      obtain ⟨o, ho, hc', _⟩ := id pt
      obtain ⟨o2, ho2, hc2, _⟩ := id hit
      rw [z] at ho
      cases ho.symm.trans ho2
      exact absurd (hc'.symm.trans hc2) (by decide +kernel)
    have hlt : i < its.toArray.size := by
      have := (List.getElem?_eq_some_iff.mp hu).1
      simpa using this
    have hcm : X.A.in1.handled = none := I.ok.hd hc
    refine wpAny_pyNext_enum_itemD (Draws.tuple hcm it a hai its.toArray) he ⟨hit, pt⟩ hlt hne (by simp [hne, hae]) fun x' h' tk hPx ho st' hT hsz hk => ?_
    have exu : x' = u := by
      have : its[i]? = some x' := by simpa using hPx
      rw [hu] at this
      exact (Option.some.inj this).symm
    subst exu
    obtain ⟨hit', _⟩ := st'
    refine ⟨_, rfl, wpAny_letOwnedTupleGo_enum (s := { s with heap := h', toks := tk + 1 }) ho fun h'' he' sb => ?_⟩
    have hT2 : h''.get? s.heap.objs.size = some { cls := .type "tuple", data := .seq #[.int i tk, x'] } := (sb.2 _ (Nat.ne_of_gt hel)).trans hT
    have new : ObjOk X.prog X.w (upd H s.heap.objs.size (.tup [.int (i : Nat), x])) h'' s.heap.objs.size (.tup [.int (i : Nat), x]) :=
      ⟨by show 2 ≤ sizeLine; decide, [.int i tk, x'], .cons ⟨_, rfl⟩ (.cons ru .nil), ⟨_, hT2, rfl, _, rfl⟩⟩
    have I1 : Inv X pins σ (upd H s.heap.objs.size (.tup [.int (i : Nat), x])) { s with heap := h'', toks := tk + 1 } :=
      I.turnedNew (ch := [e, it]) (fun b ob hb q => (sb.2 b (fun z => hb (by simp [z]))).trans (hk b ob (fun z => hb (by simp [z])) (fun z => hb (by simp [z])) q)) hf (Nat.le_refl _) new
    refine ⟨.ref s.heap.objs.size, _, I1, rfl, ⟨_, x, rfl, I.hok.fresh (Nat.le_refl _), rfl, fun ys hy => by rw [I.tuple_inj hy hq]; exact hx⟩, ⟨⟨x', ?_⟩, hit'.at fun o q => (sb.2 it (Ne.symm hne)).trans q, hne⟩, fun b hb => ?_⟩
    · have e1 : ((i + 1 : Nat) : Int) = (i : Int) + 1 := by omega
      rw [e1]; exact he'
    · have hb' : b < s.heap.objs.size := by
        have e' : b = e ∨ b = it := by simpa using hb
        rcases e' with z | z
        · rw [z]; exact hel
        · rw [z]; exact hil
      rw [upd_ne (Nat.ne_of_lt hb')]
      exact (hf b hb).1
  done := by
    intro X hP hw hK hc i pins s σ H E I hf st hg
    subst hP hw hK
    obtain ⟨⟨old, he⟩, hit, hne⟩ := st
    obtain ⟨xs, hq, hx⟩ := hg
    obtain ⟨its, rv, p, hz⟩ := I.tuple hq
    have pt : s.heap.IsTuple a its.toArray := p
    obtain ⟨f0, f1, f2, f3, f4, f5⟩ := hf it (by simp)
    have hl := rv.length
    have hai : a ≠ it := fun z => by
      obtain ⟨o, ho, hc', _⟩ := id pt
      obtain ⟨o2, ho2, hc2, _⟩ := id hit
      rw [z] at ho
      cases ho.symm.trans ho2
      exact absurd (hc'.symm.trans hc2) (by decide +kernel)
    have hcm : X.A.in1.handled = none := I.ok.hd hc
    have hi : i = its.toArray.size := by
      rw [← hx, hl]
      simp
    subst hi
    exact wpAny_pyNext_enum_endD (Draws.tuple hcm it a hai its.toArray) he ⟨hit, pt⟩ fun h' eb => ⟨rfl, I.turned (t' := s.toks) (fun b o hb q => eb b o hb q) f0 f1 f3 f4 f5⟩
  self := fun A i s Q E st h => let ⟨⟨_, he⟩, _⟩ := st; wpAny_pyIter_enum he h
def iEnumT (K : PySem.W.Frag) (ta : TA) : TI := fun σ H R => ta σ H fun vs H1 => ∃ a xs, vs = [.ref a] ∧ SqT K H1 a xs ∧ R (IteT K a) H1
theorem pi_enumT {X : Cx} {e : Expr} {ta : TA} {p pos tpos : Pos} {elts : List Expr} {kk : Nat} (hg : Gl X "enumerate") (hm : X.mg "enumerate" = none) (ha : PA X [e] ta) (hs : starEach [e] X.env = [(false, eval e X.env)] := by rfl) :
    PI X (.Tuple elts kk tpos) (.Call (.Name "enumerate" p) [e] [] pos) (iEnumT X.K ta) := by
  refine ⟨fun pins s σ H R I h => ?_⟩
  refine Call_ (ld_blt I hg hm boot_enumerate (PyProof.Rows.callWith_type1 (thn (ha.run pos pins s σ H _ I h) fun us s1 ⟨vs, H1, I1, r1, q1⟩ => ?_) hs rfl))
  obtain ⟨a, xs, ex, hq, q⟩ := q1
  subst ex
  cases r1 with
  | cons r rr =>
    cases rr
    cases r
    obtain ⟨its, rv, p', hz⟩ := I1.tuple hq
    refine call_enumerate_tuple (show s1.heap.IsTuple a its.toArray from p') fun h' he hit hsz hk => wpAny_pyIter_enum he ?_
    have I2 : Inv X pins σ H1 { s1 with heap := h' } := I1.kept (t' := s1.toks) hk
    refine ⟨s1.heap.objs.size + 1, [s1.heap.objs.size + 1, s1.heap.objs.size], _, _, H1, rfl, I2, turn_enumT a (s1.heap.objs.size + 1) s1.heap.objs.size, ⟨⟨.none, he⟩, hit, Nat.succ_ne_self _⟩, fun b hb => ?_, q⟩
    have e' : b = s1.heap.objs.size + 1 ∨ b = s1.heap.objs.size := by simpa using hb
    have hle : s1.heap.objs.size ≤ b := by
      rcases e' with z | z
      · rw [z]; exact Nat.le_add_right _ _
      · rw [z]; exact Nat.le_refl _
    exact I1.fpOk hle (I1.hok.fresh hle)
theorem for_enumT {K : PySem.W.Frag} {a : Addr} {xs : List V} {g : TG} {tb : TS} {D : Ends} {σ : St} {H : Hp} (Pv : Nat → St → Hp → Prop) (h0 : Pv 0 σ H) (hl : ∀ i σ H, i ≤ xs.length → Pv i σ H → SqT K H a xs)
    (hs : ∀ i x T σ H, xs[i]? = some x → Pv i σ H → H T = none → g (.ref T) σ (upd H T (.tup [.int (i : Nat), x])) fun σ2 H2 => tb { D with nx := Pv (i + 1), ct := Pv (i + 1), bk := D.nx } σ2 H2) (hd : ∀ σ H, Pv xs.length σ H → D.nx σ H) :
    ∃ W : Nat → Nat → St → Hp → Prop, (∃ m, W 0 m σ H) ∧ ∀ i m σ H, W i m σ H →
      ((IteT K a).stop i H ∧ D.nx σ H) ∨ ((IteT K a).go i H ∧ ∃ N : St → Hp → Prop, (∀ σ' H', N σ' H' → ∃ m', m' < m ∧ W (i + 1) m' σ' H') ∧ ∀ x H', (IteT K a).yld i H x H' → g x σ H' fun σ2 H2 => tb { D with nx := N, ct := N, bk := D.nx } σ2 H2) := by
  refine ⟨fun i m σ H => m = xs.length - i ∧ i ≤ xs.length ∧ Pv i σ H, ⟨xs.length, by simp, Nat.zero_le _, h0⟩, ?_⟩
  rintro i m σ H ⟨rfl, hi, p⟩
  have q := hl i σ H hi p
  by_cases hlt : i < xs.length
  · refine .inr ⟨⟨xs, xs[i], q, by simp [hlt]⟩, Pv (i + 1), fun σ' H' p' => ⟨xs.length - (i + 1), by omega, rfl, hlt, p'⟩, fun x H' y => ?_⟩
    obtain ⟨T, z, rfl, hT, rfl, hz⟩ := y
    exact hs i z T σ H (hz xs q) p hT
  · have e : i = xs.length := by omega
    subst e
    exact .inl ⟨⟨xs, q, rfl⟩, hd σ H p⟩
end L2

/-! A class that a local name holds, called with a starred argument. -/
namespace L2
open PySem PySem.Spec PyProof.Rows StX ClX
section
variable {X : Cx} {CX : CXT} {k i : Nat} {f C : Addr} {sp : Sp} {E : XK} {x : Str} {e fe : Expr} {es : List Expr} {te tf : TE} {t : TA} {p pos : Pos}
theorem pe_makeLS (M : Mk X.K C f) (F : FnR X.prog X.w X.K X.mg X.base CX k f sp) (hr : Room (k + 1) X.A) (hN : X.N[i]? = some x) (hv : Vis X.env.scope x) (hx : Passes CX X E) (ha : PA X (e :: es) t)
    (hdb : (x == ("__debug__" : Str)) = false := by decide) (hcd : (x == ("__classdict__" : Str)) = false := by decide)
    (he : starEach (e :: es) X.env = (false, eval e X.env) :: starEach es X.env := by rfl) (hst : (backTo pos (starEach es X.env)).any (·.1) = true := by rfl) : PE X (.Call (.Name x p) (e :: es) [] pos) (fun σ H Q => σ[i]? = some (some (.ref C)) ∧ tMakeR C sp E t σ H Q) := by
  refine ⟨fun pins s σ H Q I h => ?_⟩
  obtain ⟨hs, ht⟩ := h
  refine wpAny_Call_Name_kw (thn ((pe_var (pos := p) hN hv hdb hcd).run pins s σ H (fun v H1 => v = .ref C ∧ H1 = H) I ⟨.ref C, hs, rfl, rfl⟩) fun u s1 ⟨v, H1, I1, r1, q1⟩ => ?_)
  obtain ⟨rfl, rfl⟩ := q1
  cases r1
  refine PySem.W.callWith_S2 (h₀ := X.base) I.ok.mod.kin M.kp (thn (ha.run pos pins s1 σ _ _ I1 ht) fun us s2 ⟨vs, H2, I2, r, q⟩ => ⟨I2.kIn, ?_⟩) he hst
  exact run_makeR M F hr hx I2 r q
/-- .. the class by its own name -/
theorem pe_makeRS (M : Mk X.K C f) (F : FnR X.prog X.w X.K X.mg X.base CX k f sp) (hr : Room (k + 1) X.A) (hg : Gl X x) (hm : X.mg x = some (.ref C)) (hx : Passes CX X E) (ha : PA X (e :: es) t) (hdb : (x == ("__debug__" : Str)) = false := by decide)
    (he : starEach (e :: es) X.env = (false, eval e X.env) :: starEach es X.env := by rfl) (hst : (backTo pos (starEach es X.env)).any (·.1) = true := by rfl) : PE X (.Call (.Name x p) (e :: es) [] pos) (tMakeR C sp E t) := by
  refine ⟨fun pins s σ H Q I h => ?_⟩
  refine wpAny_Call_Name_kw (ld_glob I hg hm ?_ hdb)
  refine PySem.W.callWith_S2 (h₀ := X.base) I.ok.mod.kin M.kp (thn (ha.run pos pins s σ H _ I h) fun us s1 ⟨vs, H1, I1, r, q⟩ => ⟨I1.kIn, ?_⟩) he hst
  exact run_makeR M F hr hx I1 r q
end
end L2

/-! Styles: what is due of rules, and what the program's defs tell. -/
namespace Evl
open PySem L2
theorem given_one (xs : List V) : given xs.length (fun _ => true) (fun i => xs.getD i V.non) = xs := by
  unfold given
  have e : (List.range xs.length).filter (fun _ => true) = List.range xs.length := List.filter_eq_self.mpr fun _ _ => rfl
  rw [e]
  apply List.ext_getElem?
  intro i
  rw [List.getElem?_map]
  by_cases h : i < xs.length
  · rw [List.getElem?_range h]
    simp [List.getElem?_eq_getElem h]
  · have h1 : (List.range xs.length)[i]? = none := List.getElem?_eq_none_iff.mpr (by rw [List.length_range]; omega)
    have h2 : xs[i]? = none := List.getElem?_eq_none_iff.mpr (by omega)
    rw [h1, h2]
    rfl
end Evl
namespace Dt
open PySem L2 Evl Dg LamR LamX
open Dr (StAt SameB)
/-! the shapes of what is a condition, a keep, a rule -/
theorem beg_inv {d : PyData} {w : Str} {n : Nat} (h : begB d w n = true) : ∃ ds, d = .tuple ds ∧ ds.length = n ∧ eqS w (ds.headD .none) = true := by
  unfold begB at h
  rw [Bool.and_eq_true, Bool.and_eq_true] at h
  obtain ⟨h1, h2, h3⟩ := h
  cases d with
  | tuple ds => exact ⟨ds, rfl, of_decide_eq_true h2, h3⟩
  | _ => cases h1
theorem eqS_inv {w : Str} {d : PyData} (h : eqS w d = true) : d = .str w := by
  cases d with
  | str x =>
    have e : x = w := of_decide_eq_true h
    rw [e]
  | _ => cases h
theorem beg2_inv {d : PyData} {w : Str} (h : begB d w 2 = true) : ∃ u, d = .tuple [.str w, u] := by
  obtain ⟨ds, rfl, hl, h3⟩ := beg_inv h
  match ds, hl with
  | [a, b], _ =>
    have := eqS_inv h3
    exact ⟨b, by rw [show a = .str w from this]⟩
theorem beg3_inv {d : PyData} {w : Str} (h : begB d w 3 = true) : ∃ u v, d = .tuple [.str w, u, v] := by
  obtain ⟨ds, rfl, hl, h3⟩ := beg_inv h
  match ds, hl with
  | [a, b, c], _ =>
    have := eqS_inv h3
    exact ⟨b, c, by rw [show a = .str w from this]⟩
theorem size_inv {l : Int} {d : PyData} (h : sizeB l d = true) : ∃ i : Int, d = .int i ∧ l ≤ i ∧ i ≤ 6 := by
  cases d with
  | int i =>
    unfold sizeB at h
    rw [Bool.and_eq_true] at h
    exact ⟨i, rfl, of_decide_eq_true h.1, of_decide_eq_true h.2⟩
  | _ => cases h
theorem bounds_inv {a b : PyData} (h : boundsB a b = true) : ∃ i : Int, a = .int i ∧ 1 ≤ i ∧ i ≤ 6 ∧ (b = .none ∨ ∃ j : Int, b = .int j ∧ i ≤ j ∧ j ≤ 6) := by
  unfold boundsB at h
  rw [Bool.and_eq_true, Bool.or_eq_true] at h
  obtain ⟨h1, h2⟩ := h
  obtain ⟨i, rfl, h3, h4⟩ := size_inv h1
  refine ⟨i, rfl, h3, h4, ?_⟩
  rcases h2 with h2 | h2
  · cases b with
    | none => exact .inl rfl
    | _ => cases h2
  · exact .inr (size_inv h2)
inductive CondS (β : Nat) : PyData → Prop
  | ends (x : Str) (h : isFigs β 2 x = true) : CondS β (.tuple [.str "ends", .str x])
  | near (i : Int) (h0 : 0 ≤ i) (h6 : i ≤ 6) : CondS β (.tuple [.str "near", .int i])
  | len (w : Str) (hw : w = "length" ∨ w = "changed") (i : Int) (h1 : 1 ≤ i) (h6 : i ≤ 6) (e : PyData) (he : e = .none ∨ ∃ j : Int, e = .int j ∧ i ≤ j ∧ j ≤ 6) : CondS β (.tuple [.str w, .int i, e])
theorem cond_inv {β : Nat} {d : PyData} (h : condB β d = true) : CondS β d := by
  unfold condB at h
  cases h1 : begB d "ends" 2 with
  | true =>
    rw [h1, if_pos rfl] at h
    obtain ⟨u, rfl⟩ := beg2_inv h1
    have h' : figsO β 2 (txtD u) = true := h
    cases u with
    | str x => exact .ends x h'
    | _ => cases h'
  | false =>
    rw [h1, if_neg (by decide)] at h
    cases h2 : begB d "near" 2 with
    | true =>
      rw [h2, if_pos rfl] at h
      obtain ⟨u, rfl⟩ := beg2_inv h2
      obtain ⟨i, e, a, b⟩ := size_inv (d := u) h
      rw [e]
      exact .near i a b
    | false =>
      rw [h2, if_neg (by decide)] at h
      cases h3 : (begB d "length" 3 || begB d "changed" 3) with
      | true =>
        rw [h3, if_pos rfl] at h
        rcases Bool.or_eq_true_iff.mp h3 with h4 | h4
        · obtain ⟨u, v, rfl⟩ := beg3_inv h4
          obtain ⟨i, e, a, b, c⟩ := bounds_inv (a := u) (b := v) h
          rw [e]
          exact .len _ (.inl rfl) i a b v c
        · obtain ⟨u, v, rfl⟩ := beg3_inv h4
          obtain ⟨i, e, a, b, c⟩ := bounds_inv (a := u) (b := v) h
          rw [e]
          exact .len _ (.inr rfl) i a b v c
      | false =>
        rw [h3, if_neg (by decide)] at h
        cases h
inductive KeepS : PyData → Prop
  | all : KeepS (.tuple [.str "all"])
  | size (w : Str) (hw : w = "changed" ∨ w = "last") (i : Int) (h1 : 1 ≤ i) (h6 : i ≤ 6) : KeepS (.tuple [.str w, .int i])
theorem keep_inv {d : PyData} (h : keepB d = true) : KeepS d := by
  unfold keepB at h
  cases h1 : (begB d "changed" 2 || begB d "last" 2) with
  | true =>
    rw [h1, if_pos rfl] at h
    rcases Bool.or_eq_true_iff.mp h1 with h4 | h4
    · obtain ⟨u, rfl⟩ := beg2_inv h4
      obtain ⟨i, e, a, b⟩ := size_inv (d := u) h
      rw [e]
      exact .size _ (.inl rfl) i a b
    · obtain ⟨u, rfl⟩ := beg2_inv h4
      obtain ⟨i, e, a, b⟩ := size_inv (d := u) h
      rw [e]
      exact .size _ (.inr rfl) i a b
  | false =>
    rw [h1, if_neg (by decide)] at h
    obtain ⟨ds, rfl, hl, h3⟩ := beg_inv h
    match ds, hl with
    | [a], _ =>
      have := eqS_inv h3
      rw [show a = .str "all" from this]
      exact .all
theorem rule_inv {β : Nat} {d : PyData} (h : ruleB β d = true) : ∃ cs k, d = .tuple [.tuple cs, k] ∧ cs.length ≤ 3 ∧ (∀ c ∈ cs, CondS β c) ∧ KeepS k := by
  unfold ruleB at h
  rw [Bool.and_eq_true, Bool.and_eq_true, Bool.and_eq_true, Bool.and_eq_true, Bool.and_eq_true] at h
  obtain ⟨h1, h2, h3, h4, h5, h6⟩ := h
  cases d with
  | tuple ds =>
    have hl : ds.length = 2 := of_decide_eq_true h2
    match ds, hl with
    | [c, k], _ =>
      have h3' : isT c = true := h3
      cases c with
      | tuple cs => exact ⟨cs, k, rfl, of_decide_eq_true h4, fun c hc => cond_inv (List.all_eq_true.mp h5 c hc), keep_inv h6⟩
      | _ => cases h3'
  | _ => cases h1
theorem cond_noL {β : Nat} {d : PyData} (h : CondS β d) : noL d = true ∧ isT d = true := by
  cases h with
  | ends x h => exact ⟨rfl, rfl⟩
  | near i h0 h6 => exact ⟨rfl, rfl⟩
  | len w hw i h1 h6 e he =>
    rcases he with rfl | ⟨j, rfl, _, _⟩ <;> exact ⟨rfl, rfl⟩
theorem keep_noL {d : PyData} (h : KeepS d) : noL d = true ∧ isT d = true := by
  cases h <;> exact ⟨rfl, rfl⟩
theorem noLs_all : ∀ {ds : List PyData}, (∀ d ∈ ds, noL d = true) → noLs ds = true
  | [], _ => rfl
  | d :: ds, h => by
    rw [noLs, h d List.mem_cons_self, noLs_all fun e he => h e (List.mem_cons_of_mem _ he)]
    rfl
theorem rule_noL {β : Nat} {d : PyData} (h : ruleB β d = true) : noL d = true := by
  obtain ⟨cs, k, rfl, _, hc, hk⟩ := rule_inv h
  show (noLs cs && (noL k && true)) = true
  rw [noLs_all fun c h => (cond_noL (hc c h)).1, (keep_noL hk).1]
  rfl
theorem rules_noL {β : Nat} {ds : List PyData} (h : ds.all (ruleB β) = true) : noLs ds = true := noLs_all fun d hd => rule_noL (List.all_eq_true.mp h d hd)
/-! what is due of a row of rules -/
def badAt (β : Nat) : List PyData → Nat → Option Nat
  | [], _ => none
  | d :: ds, k => if ruleB β d = true then badAt β ds (k + 1) else some k
theorem badAt_all {β : Nat} : ∀ {ds : List PyData} {k : Nat}, ds.all (ruleB β) = true → badAt β ds k = none
  | [], _, _ => rfl
  | d :: ds, k, h => by
    rw [List.all_cons, Bool.and_eq_true] at h
    unfold badAt
    rw [if_pos h.1]
    exact badAt_all h.2
theorem badAt_none {β : Nat} : ∀ {ds : List PyData} {k : Nat}, badAt β ds k = none → ds.all (ruleB β) = true
  | [], _, _ => rfl
  | d :: ds, k, h => by
    unfold badAt at h
    by_cases hd : ruleB β d = true
    · rw [if_pos hd] at h
      rw [List.all_cons, hd, badAt_none h]
      rfl
    · rw [if_neg hd] at h
      cases h
theorem badAt_at {β : Nat} : ∀ {i : Nat} {ds : List PyData} {k : Nat} {d : PyData}, (ds.take i).all (ruleB β) = true → ds[i]? = some d → ruleB β d = false → badAt β ds k = some (k + i)
  | _, [], _, _, _, h, _ => by simp at h
  | 0, e :: ds, k, d, _, h, hd => by
    simp only [List.getElem?_cons_zero, Option.some.injEq] at h
    subst h
    unfold badAt
    rw [if_neg (by rw [hd]; decide)]
    rfl
  | i + 1, e :: ds, k, d, ha, h, hd => by
    rw [List.take_succ_cons, List.all_cons, Bool.and_eq_true] at ha
    unfold badAt
    rw [if_pos ha.1]
    simp only [List.getElem?_cons_succ] at h
    rw [badAt_at ha.2 h hd]
    congr 1
    omega
/-- the last one has conditions -/
def lastC (ds : List PyData) : Bool := decide (0 < (tupD (at_ 0 (ds.getLastD .none))).length)
/-- none: nothing is wrong; else the place -/
def dueD (β : Nat) (ds : List PyData) : Option PyData :=
  if 1 ≤ ds.length ∧ ds.length ≤ 8 then (match badAt β ds 0 with
    | some k => some (.int (k : Int))
    | none => if lastC ds = true then some (.int ((ds.length : Int) - 1)) else none) else some .none
theorem due_len {β : Nat} {ds : List PyData} (h : ¬ (1 ≤ ds.length ∧ ds.length ≤ 8)) : dueD β ds = some .none := by unfold dueD; rw [if_neg h]
theorem due_bad {β : Nat} {ds : List PyData} {i : Nat} {d : PyData} (h : 1 ≤ ds.length ∧ ds.length ≤ 8) (ha : (ds.take i).all (ruleB β) = true) (hi : ds[i]? = some d) (hd : ruleB β d = false) : dueD β ds = some (.int (i : Int)) := by
  unfold dueD
  rw [if_pos h, badAt_at ha hi hd, Nat.zero_add]
theorem due_last {β : Nat} {ds : List PyData} (h : 1 ≤ ds.length ∧ ds.length ≤ 8) (ha : ds.all (ruleB β) = true) : dueD β ds = if lastC ds = true then some (.int ((ds.length : Int) - 1)) else none := by
  unfold dueD
  rw [if_pos h, badAt_all ha]
theorem due_none {β : Nat} {ds : List PyData} (h : dueD β ds = none) : (1 ≤ ds.length ∧ ds.length ≤ 8) ∧ ds.all (ruleB β) = true ∧ lastC ds = false := by
  unfold dueD at h
  by_cases h1 : 1 ≤ ds.length ∧ ds.length ≤ 8
  · rw [if_pos h1] at h
    cases hb : badAt β ds 0 with
    | some k =>
      rw [hb] at h
      cases h
    | none =>
      rw [hb] at h
      refine ⟨h1, badAt_none hb, ?_⟩
      cases hl : lastC ds with
      | false => rfl
      | true =>
        rw [hl] at h
        cases h
  · rw [if_neg h1] at h
    cases h
def plV : PyData → V
  | .int i => .int i
  | _ => .non
/-- the refusal, or going on -/
structure Due (ca : Nat → Addr) (H : Hp) (E : XK) (o : Option PyData) (G : Prop) : Prop where
  bad : ∀ pl, o = some pl → Leaves (ca 5) "place" (plV pl) H E
  ok : o = none → G
end Dt

namespace Dt
open PySem L2 Evl Dg LamR LamX StX ClX
open Dr (StAt SameB)
abbrev sNeedRules : Stmt := top 42
abbrev sPlain : Stmt := top 44
abbrev clStyle : Stmt := top 50
abbrev sInit : Stmt := inClass clStyle 0
abbrev sOfS : Stmt := inClass clStyle 1
abbrev rTupOf (K : PySem.W.Frag) : List V → Hp → VK → Prop := fun xs H Q => ∃ p ys, xs = [V.ref p] ∧ ((SqL K H p ys ∧ ∀ l, H l = none → Q (V.ref l) (upd H l (.tup ys))) ∨ (SqT K H p ys ∧ Q (V.ref p) H))
section
variable {K : PySem.W.Frag} {σ : St} {H : Hp} {t0 t1 te : TE} {E : St → XK} {β : Nat} {D : PyData} {ca : Nat → Addr}
theorem bs_yes (b2 : 2 ≤ β) (b10 : β ≤ 10) : Bs K H (.int β) true := by
  have e : (decide ((2 : Int) ≤ (β : Int)) && decide ((β : Int) ≤ 10)) = true := by
    rw [decide_eq_true (by omega), decide_eq_true (by omega)]
    rfl
  rw [← e]
  exact .int β
theorem ev_rule (b2 : 2 ≤ β) (b10 : β ≤ 10) (h0 : Ev t0 σ H (.int β)) (h1 : EvP t1 σ H D) : Ev (tCallS (spRule K ca) E (tCons t0 (tCons t1 tNil))) σ H (.bl (ruleB β D)) := fun H1 e Q q =>
  h0 H1 e _ fun H2 e2 => h1 H2 (e.trans e2) _ fun v H3 e3 k => ⟨.int β, v, D, true, rfl, bs_yes b2 b10, k, (fun z => nomatch z), fun _ => ⟨β, rfl, b2, b10, fun H4 e4 => q H4 ((e2.trans e3).trans e4)⟩⟩
theorem ep_tupOf {r : List V → Hp → VK → Prop} (hr : ∀ (p : Addr) (ys : List V) (H : Hp) (Q : VK), SqL K H p ys → (∀ l, H l = none → Q (.ref l) (upd H l (.tup ys))) → r [.ref p] H Q) {Ds : List PyData} (h : EvP t0 σ H (.list Ds)) : EvP (tCB r (tCons t0 tNil)) σ H (.tuple Ds) := fun H1 e Q q =>
  h H1 e _ fun v H2 e2 k => by
    cases k with
    | @lst a vs _ ha hv => exact hr a vs H2 _ (sq_of ha) fun l hl => q (.ref l) _ (e2.trans (Ex.new hl)) (.tup upd_same (hv.ex (Ex.new hl)))
theorem ep_tupId {r : List V → Hp → VK → Prop} (hr : ∀ (p : Addr) (ys : List V) (H : Hp) (Q : VK), SqT K H p ys → Q (.ref p) H → r [.ref p] H Q) {Ds : List PyData} (h : EvP t0 σ H (.tuple Ds)) : EvP (tCB r (tCons t0 tNil)) σ H (.tuple Ds) := fun H1 e Q q =>
  h H1 e _ fun v H2 e2 k => by
    cases k with
    | @tup a vs _ ha hv => exact hr a vs H2 _ (st_of ha) (q (.ref a) _ e2 (.tup ha hv))
theorem ev_tupId {r : List V → Hp → VK → Prop} (hr : ∀ (p : Addr) (ys : List V) (H : Hp) (Q : VK), SqT K H p ys → Q (.ref p) H → r [.ref p] H Q) {a : Addr} {vs : List V} (h : Ev t0 σ H (.ref a)) (ha : H a = some (.tup vs)) : Ev (tCB r (tCons t0 tNil)) σ H (.ref a) := fun H1 e Q q =>
  h H1 e _ fun H2 e2 => hr a vs H2 _ (st_of (e2 _ _ (e _ _ ha))) (q _ e2)
theorem ep_L {xs : List V} {ds : List PyData} (h : EvL t0 σ H xs) (k : PtAll H xs ds) : EvP t0 σ H (.list ds) := fun H1 e Q q => h H1 e _ fun p H2 hp e2 h2 => q (.ref p) H2 e2 (.lst h2 (k.ex (e.trans e2)))
end
theorem Pt.tupI' {H : Hp} {v : V} {ds : List PyData} (h : Pt H v (.tuple ds)) : ∃ a vs, v = .ref a ∧ H a = some (.tup vs) ∧ PtAll H vs ds := by
  cases h with
  | tup hs ha => exact ⟨_, _, rfl, hs, ha⟩
structure TxY (K : PySem.W.Frag) (mg : Str → Option Value) (fnb frl fnr fpl : Addr) (ca : Nat → Addr) : Prop where
  needB : mg "need_base" = some (.ref fnb)
  kNB : PySem.W.keepIn K (.ref fnb) = true
  rule : mg "is_rule" = some (.ref frl)
  kRl : PySem.W.keepIn K (.ref frl) = true
  needR : mg "need_rules" = some (.ref fnr)
  kNR : PySem.W.keepIn K (.ref fnr) = true
  plain : mg "plain_rule" = some (.ref fpl)
  kPl : PySem.W.keepIn K (.ref fpl) = true
  badRule : mg "BadRule" = some (.ref (ca 5))
  len : mg "len" = none
  tuple : mg "tuple" = none
  enum : mg "enumerate" = none
  isi : mg "isinstance" = none
  sup : mg "super" = none
  list : mg "list" = none
  mrules : ∃ t, mg "MOST_RULES" = some (.int 8 t)
section
variable {P : Program} {w : World} {K : PySem.W.Frag} {mg : Str → Option Value} {base : Heap} {ca : Nat → Addr} {fnb frl fnr fpl : Addr}
def spNeedRules (ca : Nat → Addr) : Sp := fun vs H Q E => ∃ (β : Nat) (t : Addr) (rs : List V) (Ds : List PyData), vs = [.int β, .ref t] ∧ 2 ≤ β ∧ β ≤ 10 ∧ H t = some (.tup rs) ∧ PtAll H rs Ds ∧ Due ca H E (dueD β Ds) (RetV .non H Q)
theorem scNeedRules : FnScope ["base", "rules", "number", "rule", "last"] ["base", "rules"] (defScope sNeedRules) := ⟨rfl, rfl, rfl, by decide +kernel, rfl, by decide +kernel, by decide +kernel⟩
theorem ok_needRules {f : Addr} {fd fdr : FuncData} (F : Fun K "need_rules" "need_rules" sNeedRules f fd) (GR : FnOk P w K mg base (L2.CX P w) 5 frl fdr ["base", "value"] (spRule K ca)) (bR : Binds K fdr ["base", "value"] []) (M : Mks P K mg (ca 5) ["place"]) (T : TxY K mg fnb frl fnr fpl ca) :
    FnOk P w K mg base (L2.CX P w) 6 f fd ["base", "rules"] (spNeedRules ca) := by
  refine F.okX scNeedRules (fun vs H Q E h => ?_) (fun cdv A outer s H vs Q E hr h => ?_)
  · obtain ⟨β, t, rs, Ds, rfl, _⟩ := h
    rfl
  · obtain ⟨β, t, rs, Ds, rfl, b2, b10, ht, ka, due⟩ := h
    obtain ⟨tm, hm⟩ := T.mrules
    refine ⟨_, pss_cons (ps_if (pt_not (pt_chain op_le op_le pe_int (pe_callB call_len_seq (by rfl) T.len (by decide +kernel) (pa_cons (pv 1) pa_nil)) (pe_glob (by rfl) hm (v := .int 8) ⟨_, rfl⟩)))
        (pss_one (ps_raise rfl (takes_of rfl rfl rfl rfl) (pmk_mks M T.sup hr (by simp) (pa_cons pe_non pa_nil) (by rfl) T.badRule))) pss_nil)
      (pss_cons (ps_for (passes_of rfl) rfl (pi_enumT (by rfl) T.enum (pa_cons (pv 1) pa_nil)) (pg_tup (by rfl) (pgs_cons (pg_name (i := 2) scNeedRules.nd rfl (.inl rfl)) (pgs_cons (pg_name (i := 3) scNeedRules.nd rfl (.inl rfl)) pgs_nil)))
        (pss_one (ps_if (pt_not (pt_val (pe_callS GR hr (by rfl) T.rule T.kRl bR (fun σ => passAt (takes_of rfl rfl rfl rfl) σ) (pa_cons (pv 0) (pa_cons (pv 3) pa_nil)))))
          (pss_one (ps_raise rfl (takes_of rfl rfl rfl rfl) (pmk_mks M T.sup hr (by simp) (pa_cons (pv 2) pa_nil) (by rfl) T.badRule))) pss_nil)))
      (pss_cons (ps_set (i := 4) scNeedRules.nd rfl (.inl rfl) (pe_op op_sub (pe_callB call_len_seq (by rfl) T.len (by decide +kernel) (pa_cons (pv 1) pa_nil)) pe_int))
      (pss_one (ps_if (pt_cmpR op_gt (pe_callB call_len_seq (by rfl) T.len (by decide +kernel) (pa_cons (pe_ix ix_tup (pe_ix ix_tup (pv 1) (pv 4) (fun _ _ => rfl)) pe_int (fun _ _ => rfl)) pa_nil)) pe_int (nomark _))
        (pss_one (ps_raise rfl (takes_of rfl rfl rfl rfl) (pmk_mks M T.sup hr (by simp) (pa_cons (pv 4) pa_nil) (by rfl) T.badRule))) pss_nil)))), ?_⟩
    have hl := ka.length
    have leaf : ∀ {pl : PyData} {v : V} {H1 : Hp}, dueD β Ds = some pl → plV pl = v → Ex H H1 → Leaves (ca 5) "place" v H1 E := fun hp hv e => hv ▸ (due.bad _ hp).go e
    refine q_when (b := !(decide (1 ≤ Ds.length) && decide (Ds.length ≤ 8))) (et_is (et_not (et_test (ev_chI ev_c (ev_lenT (K := K) (ev_var rfl) ht) ev_c))) (by
      rw [hl]
      congr 1
      congr 1 <;> exact decide_eq_decide.mpr (by omega))) (fun z H1 e1 => ?_) (fun z H1 e1 => ?_)
    · have hb : ¬ (1 ≤ Ds.length ∧ Ds.length ≤ 8) := fun ⟨a, b⟩ => by
        rw [decide_eq_true a, decide_eq_true b] at z
        cases z
      exact ⟨rfl, fun d hd => leaf (due_len hb) rfl e1 H1 d (Ex.refl _) hd⟩
    · have hb : 1 ≤ Ds.length ∧ Ds.length ≤ 8 := by
        rw [Bool.not_eq_false', Bool.and_eq_true] at z
        exact ⟨of_decide_eq_true z.1, of_decide_eq_true z.2⟩
      refine ⟨_, rfl, t, rs, rfl, st_of (e1 _ _ ht), for_enumT (xs := rs) (fun i σ' H' => (∃ x2 x3, σ' = [some (.int β), some (.ref t), x2, x3, none]) ∧ Ex H H' ∧ (Ds.take i).all (ruleB β) = true)
        ⟨⟨_, _, rfl⟩, e1, rfl⟩ (fun i σ' H' _ hI => st_of (hI.2.1 _ _ ht)) (fun i x T' σ' H' hx hI hT => ?_) (fun σ' H' hI => ?_)⟩
      · obtain ⟨⟨x2, x3, rfl⟩, e2, hg⟩ := hI
        obtain ⟨dx, hdx, kx⟩ := ka.get2 hx
        have e3 := e2.trans (Ex.new (o := .tup [.int (i : Nat), x]) hT)
        refine ⟨T', _, rfl, st_of upd_same, rfl, _, _, rfl, _, _, rfl, rfl, ?_⟩
        refine s_when (b := !ruleB β dx) (et_not (et_B (ev_rule b2 b10 (ev_var rfl) (ep_v (ev_var rfl) (kx.ex e3))))) (fun z4 H4 e4 => ?_) (fun z4 H4 e4 => ?_)
        · exact ⟨_, rfl, rfl, fun d hd => leaf (due_bad hb hg hdx (by simpa using z4)) rfl (e3.trans e4) H4 d (Ex.refl _) hd⟩
        · refine ⟨⟨_, _, rfl⟩, e3.trans e4, ?_⟩
          rw [List.take_add_one, hdx, List.all_append, hg]
          have : ruleB β dx = true := by simpa using z4
          simp [this]
      · obtain ⟨⟨x2, x3, rfl⟩, e2, hg⟩ := hI
        rw [hl, List.take_length] at hg
        have ht2 := e2 _ _ ht
        refine q_asg (ev_op (ev_lenT (K := K) (ev_var rfl) ht2) ev_c rv_I0) fun H3 e3 => ?_
        have ht3 := e3 _ _ ht2
        have hpos : Ds.length - 1 < Ds.length := by omega
        obtain ⟨dl, hdl⟩ : ∃ dl, Ds[Ds.length - 1]? = some dl := ⟨_, List.getElem?_eq_getElem hpos⟩
        obtain ⟨u, hu, ku⟩ := ka.get hdl
        have hr2 : ruleB β dl = true := List.all_eq_true.mp hg _ (List.mem_of_getElem? hdl)
        obtain ⟨cs, kk, rfl, hc3, hcs, hks⟩ := rule_inv hr2
        obtain ⟨au, us, rfl, hau, kus⟩ := ((ku.ex e2).ex e3).tupI'
        obtain ⟨uc, huc, kuc⟩ := kus.get (i := 0) rfl
        obtain ⟨ac, vcs, rfl, hac, kcs⟩ := kuc.tupI'
        have hlast : lastC Ds = decide (0 < cs.length) := by
          unfold lastC
          have : Ds.getLastD .none = .tuple [.tuple cs, kk] := by
            rw [List.getLastD_eq_getLast?, List.getLast?_eq_getElem?, hdl]
            rfl
          rw [this]
          rfl
        have elast : Ev (tOp (rIxT K) (tVar 1) (tVar 4)) [some (.int β), some (.ref t), x2, x3, some (.int ((rs.length : Int) - 1))] H3 (.ref au) := ev_op (ev_var rfl) (ev_var rfl) (rv_ixT (st_of ht3) (by
          rw [show (rs.length : Int) - 1 = ((Ds.length - 1 : Nat) : Int) by omega]
          exact atI_nat hu))
        refine s_when (b := decide (0 < cs.length)) (et_is (et_test (ev_op (ev_lenT (K := K) (ev_at (K := K) (i := 0) elast hau huc) hac) ev_c rv_I0)) (by
          rw [kcs.length]
          exact decide_eq_decide.mpr (by omega))) (fun z H4 e4 => ?_) (fun z H4 e4 => ?_)
        · refine ⟨_, rfl, rfl, fun d hd => leaf (v := .int ((rs.length : Int) - 1)) (due_last hb hg |>.trans (by rw [hlast, z]; rfl)) (by rw [hl]; rfl) ((e2.trans e3).trans e4) H4 d (Ex.refl _) hd⟩
        · exact due.ok (due_last hb hg |>.trans (by rw [hlast, z]; rfl)) H4 ((e2.trans e3).trans e4)
def spPlain : Sp := fun vs H Q _ => ∃ v cs k, vs = [v] ∧ Pt H v (.tuple [.tuple cs, k]) ∧ (∀ c ∈ cs, isT c = true) ∧ isT k = true ∧ cs.length ≤ 3 ∧ ∀ v' H', Ex H H' → Pt H' v' (.tuple [.tuple cs, k]) → Q v' H'
theorem scPlain : FnScope ["rule", "conditions", "keep", "condition"] ["rule"] (defScope sPlain) := ⟨rfl, rfl, rfl, by decide +kernel, rfl, by decide +kernel, by decide +kernel⟩
theorem ok_plain {f : Addr} {fd : FuncData} (F : Fun K "plain_rule" "plain_rule" sPlain f fd) (T : TxY K mg fnb frl fnr fpl ca) : FnOk P w K mg base CX0 1 f fd ["rule"] spPlain := by
  refine F.ok scPlain (fun vs H Q E h => ?_) (fun cdv A outer s H vs Q E hr h => ?_)
  · obtain ⟨v, cs, k, rfl, _⟩ := h
    rfl
  · obtain ⟨v, cs, k, rfl, kv, hcs, hk, hc3, q⟩ := h
    refine ⟨_, pss_cons (ps_asg (pv 0) (pg_tup (by rfl) (pgs_cons (pg_name (i := 1) scPlain.nd rfl (.inl rfl)) (pgs_cons (pg_name (i := 2) scPlain.nd rfl (.inl rfl)) pgs_nil))))
      (pss_one (ps_ret (pe_tup (pa_cons (pe_callTy call_tuple_of (by rfl) T.tuple (by decide +kernel) (pa_cons (pe_lc (own := [("condition", 3)]) (g := gName 3) (tt := tYes) rfl scPlain.nd (pi_tup (pv 1)) (blkOk_by (own := [("condition", 3)]) (N := ["rule", "conditions", "keep", "condition"]) (sc := defScope sPlain) (by decide +kernel))
          (fun _ _ _ _ _ => pg_name (i := 3) scPlain.nd rfl (Or.inl rfl)) (fun _ _ _ _ _ => pts_nil) (fun _ _ _ _ _ => pe_callTy (T := "tuple") (r := rTupOf K) call_tuple_of (by rfl) T.tuple (by decide +kernel) (pa_cons (pv 3) pa_nil))) pa_nil))
        (pa_cons (pe_callTy call_tuple_of (by rfl) T.tuple (by decide +kernel) (pa_cons (pv 2) pa_nil)) pa_nil))))), ?_⟩
    obtain ⟨a, us, rfl, ha, kus⟩ := kv.tupI'
    cases kus with
    | @cons vc _ _ _ kc kus =>
      cases kus with
      | @cons vk _ _ _ kk kus =>
        cases kus with
        | nil =>
          obtain ⟨ac, ws, rfl, hac, kws⟩ := kc.tupI'
          refine ⟨_, rfl, a, _, rfl, st_of ha, rfl, _, _, rfl, _, _, rfl, rfl, ?_⟩
          cases k with
          | tuple ks =>
            have hl := kws.length
            dsimp only
            refine s_retP (D := .tuple [.tuple cs, .tuple ks]) (ep_tup (epa_cons (ep_tupOf (K := K) (fun p ys H Q hs hq => ⟨p, ys, rfl, .inl ⟨hs, hq⟩⟩) (ep_L (xs := ws) ?_ kws)) (epa_cons (ep_tupId (K := K) (fun p ys H Q hs hq => ⟨p, ys, rfl, .inr ⟨hs, hq⟩⟩) (ep_v (ev_var rfl) kk)) epa_nil)) (by simp)) fun v H1 e1 k1 => q v H1 e1 k1
            have := el_lcT (K := K) (σ := [some (.ref a), some (.ref ac), some vk, none]) (H := H) (tl := tVar 1) (j := 3) (vs := [3]) (t := tYes) (te := tCB (rTupOf K) (tCons (tVar 3) tNil)) (fun _ => true) (fun i => ws.getD i .non) (ev_var rfl) (st_of hac) (by omega) (fun _ => rfl) (fun i x H4 e4 hx => fun H5 e5 Q5 q5 => q5 H5 (Ex.refl _)) (fun i x H4 e4 hx _ => by
              obtain ⟨dd, hd, kd⟩ := kws.get2 hx
              have hdt := hcs dd (List.mem_of_getElem? hd)
              have : ws.getD i .non = x := by rw [List.getD_eq_getElem?_getD, hx]; rfl
              rw [this]
              cases dd with
              | tuple es =>
                obtain ⟨ax, xs, rfl, hax, _⟩ := (kd.ex e4).tupI'
                exact ev_tupId (K := K) (fun p ys H Q hs hq => ⟨p, ys, rfl, .inr ⟨hs, hq⟩⟩) (ev_var rfl) hax
              | _ => cases hdt)
            rw [given_one] at this
            exact this
          | _ => cases hk
end
end Dt

namespace Dt
open PySem L2 Evl Dg LamR LamX StX ClX
open Dr (StAt SameB)
/-- the style's object at x: its base, its rules -/
def StyAt (H : Hp) (C x : Addr) (β : Nat) (Ds : List PyData) : Prop := ∃ dx t, H x = some (.ins C dx [("stored_base", .int (β : Int)), ("stored_rules", .ref t)]) ∧ Pt H (.ref t) (.tuple Ds)
theorem StyAt.extN {H H' : Hp} {C x : Addr} {β : Nat} {Ds : List PyData} (h : StyAt H C x β Ds) (e : ExtN H H') : StyAt H' C x β Ds := let ⟨dx, t, h1, h2⟩ := h; ⟨dx, t, e _ _ h1 (by simp), h2.extN e⟩
theorem StyAt.ex {H H' : Hp} {C x : Addr} {β : Nat} {Ds : List PyData} (h : StyAt H C x β Ds) (e : Ex H H') : StyAt H' C x β Ds := h.extN (ExtN.of e)
theorem StyAt.same {H H' : Hp} {p c l : Addr} {n : Nat} {a : Int} {C x : Addr} {β : Nat} {Ds : List PyData} (S : StAt H p c l n a) (h : StyAt H C x β Ds) (e : SameB H H' p l) (k : noLs Ds = true) : StyAt H' C x β Ds := by
  obtain ⟨dx, t, h1, h2⟩ := h
  obtain ⟨ls, hl, _⟩ := S.l
  exact ⟨dx, t, e _ _ h1 (ne_of h1 S.d (by intro z; cases z)) (ne_of h1 hl (by intro z; cases z)), h2.tk (tupK_same S e) (by rw [noL]; exact k)⟩
section
variable {P : Program} {w : World} {K : PySem.W.Frag} {mg : Str → Option Value} {base : Heap} {ca : Nat → Addr} {fnb frl fnr fpl : Addr} {C : Addr}
def spInit (K : PySem.W.Frag) (C : Addr) (ca : Nat → Addr) : Sp := fun vs H Q E => ∃ (x t dx : Addr) (vb : V) (rs : List V) (Ds : List PyData) (b : Bool), vs = [.ref x, vb, .ref t] ∧ H x = some (.ins C dx []) ∧ H t = some (.tup rs) ∧ PtAll H rs Ds ∧ Bs K H vb b ∧
  (b = false → Leaves (ca 1) "value" vb H E) ∧ (b = true → ∃ β : Nat, vb = .int β ∧ 2 ≤ β ∧ β ≤ 10 ∧ Due ca H E (dueD β Ds) (∀ (t2 : Addr) (H' : Hp), (∀ b o, H b = some o → b ≠ x → H' b = some o) → H' x = some (.ins C dx [("stored_base", .int (β : Int)), ("stored_rules", .ref t2)]) → Pt H' (.ref t2) (.tuple Ds) → Q .non H'))
theorem scInit : FnScope ["self", "base", "rules", "rule"] ["self", "base", "rules"] (defScope sInit) := ⟨rfl, rfl, rfl, by decide +kernel, rfl, by decide +kernel, by decide +kernel⟩
def spInitR (K : PySem.W.Frag) (C : Addr) (ca : Nat → Addr) : Sp := fun vs H Q E => ∃ ws rest, vs = ws ++ rest ∧ ws.length = 2 ∧ rest.length ≤ sizeLine ∧ ∀ p, H p = Option.none → spInit K C ca (ws ++ [V.ref p]) (upd H p (.tup rest)) Q E
theorem ok_init {f : Addr} {oc kV doc pm cdv ct : Value} {od an : Option Addr} {osl : Array (Option Value)} {fdn fdr fdp : FuncData} (lk : K.lookup f = some ⟨oc, od, .func (PySem.W.fnOf "__init__" "Style.__init__" (defArgs sInit) (defBody sInit) (defScope sInit) .none kV doc pm an cdv ct), osl⟩) (hcd : PySem.W.codeIn K cdv "Style.__init__" = true)
    (cl : Cls K C) (n1 : NoAttr K C "stored_base") (n2 : NoAttr K C "stored_rules") (GN : FnOk P w K mg base (L2.CX P w) 6 fnb fdn ["base"] (spNeed (Bs K) (ca 1))) (bN : Binds K fdn ["base"] [])
    (GR : FnOk P w K mg base (L2.CX P w) 6 fnr fdr ["base", "rules"] (spNeedRules ca)) (bR : Binds K fdr ["base", "rules"] []) (GP : FnOk P w K mg base CX0 6 fpl fdp ["rule"] spPlain) (bP : Binds K fdp ["rule"] []) (T : TxY K mg fnb frl fnr fpl ca) :
    FnR P w K mg base (L2.CX P w) 7 f (spInitR K C ca) := by
  refine fn_star (k := 6) (ps := ["self", "base"]) (pv := "rules") (sp := spInit K C ca) lk hcd scInit cxUp (bind_star2 (B := fun l => bindArgs (PySem.W.fnOf "__init__" "Style.__init__" (defArgs sInit) (defBody sInit) (defScope sInit) .none kV doc pm an cdv ct) ⟨l, []⟩) (p1 := "self") (p2 := "base") (pv := "rules") (fun a b => rfl) (fun a b r rs => rfl)) (fun A outer s H vs Q E hr h => ?_)
  obtain ⟨x, t, dx, vb, rs, Ds, b, rfl, hx, ht, ka, kb, l1, hq⟩ := h
  refine ⟨_, pss_cons (ps_expr (pe_callS GN hr (by rfl) T.needB T.kNB bN (fun σ => passAt (takes_of rfl rfl rfl rfl) σ) (pa_cons (pv 1) pa_nil)))
    (pss_cons (ps_expr (pe_callS GR hr (by rfl) T.needR T.kNR bR (fun σ => passAt (takes_of rfl rfl rfl rfl) σ) (pa_cons (pv 1) (pa_cons (pv 2) pa_nil))))
    (pss_cons (ps_fld (pv 0) (pv 1) rfl)
    (pss_one (ps_fld (pv 0) (pe_callTy (T := "tuple") (r := rTupOf K) call_tuple_of (by rfl) T.tuple (by decide +kernel) (pa_cons (pe_lc (own := [("rule", 3)]) (g := gName 3) (tt := tYes) rfl scInit.nd (pi_tup (pv 2)) (blkOk_by (own := [("rule", 3)]) (N := ["self", "base", "rules", "rule"]) (sc := defScope sInit) (by decide +kernel))
      (fun _ _ _ _ _ => pg_name (i := 3) scInit.nd rfl (Or.inl rfl)) (fun _ _ _ _ _ => pts_nil) (fun _ _ _ _ _ => pe_call GP hr (by rfl) T.plain T.kPl bP .nil pass0 (pa_cons (pv 3) pa_nil))) pa_nil)) rfl)))), ?_⟩
  refine ⟨_, rfl, vb, b, rfl, kb, fun hb H1 e1 => ?_, fun hb => l1 hb⟩
  obtain ⟨β, rfl, b2, b10, due⟩ := hq hb
  refine ⟨_, rfl, _, rfl, β, t, rs, Ds, rfl, b2, b10, e1 _ _ ht, ka.ex e1, ⟨fun pl hp => (due.bad pl hp).go e1, fun hn H2 e2 => ?_⟩⟩
  have e12 := e1.trans e2
  obtain ⟨hlen, hall, _⟩ := due_none hn
  have hnl := rules_noL hall
  have hl := ka.length
  refine ⟨_, rfl, _, rfl, x, C, dx, [], rfl, e12 _ _ hx, cl, n1, by decide, ?_⟩
  dsimp only [putF]
  have kx0 : ∀ b o, H b = some o → b ≠ x → (upd H2 x (.ins C dx [("stored_base", .int (β : Int))])) b = some o := fun b o h hb => by
    rw [upd_ne hb]
    exact e12 _ _ h
  have txt : t ≠ x := ne_of ht hx (by intro z; cases z)
  refine ⟨_, rfl, t, rfl, ⟨rs, st_of (kx0 _ _ ht txt)⟩, fun Dl nDl => ?_⟩
  have nDx : Dl ≠ x := fun z => by
    rw [z, upd_same] at nDl
    cases nDl
  have nDH : H Dl = none := by
    cases hz : H Dl with
    | none => rfl
    | some o => exact absurd (nDl.symm.trans (kx0 _ _ hz nDx)) (by simp)
  refine lc_tup (xs := rs) (fun j H' => ∃ ws, H' Dl = some (.lst ws) ∧ PtAll H' ws (Ds.take j) ∧ (∀ b o, H b = some o → b ≠ x → H' b = some o) ∧ H' x = some (.ins C dx [("stored_base", .int (β : Int))]))
    ⟨[], upd_same, .nil, fun b o h hb => by rw [upd_ne (ne_of_none h nDH)]; exact kx0 b o h hb, by rw [upd_ne nDx.symm]; exact upd_same⟩ (fun i H' _ hI => st_of (hI.choose_spec.2.2.1 _ _ ht txt)) (fun i y H4 hy hI => ?_) (fun H4 hI => ?_)
  · obtain ⟨ws, hD, kw, kx, hx4⟩ := hI
    obtain ⟨dd, hdd, kd⟩ := ka.get2 hy
    have hi : i < rs.length := (List.getElem?_eq_some_iff.mp hy).1
    have hrd : ruleB β dd = true := List.all_eq_true.mp hall dd (List.mem_of_getElem? hdd)
    have tk4 : TupK H H4 := fun a xs h => kx a _ h (ne_of h hx (by intro z; cases z))
    obtain ⟨cs, k, rfl, hc3, hcs, hks⟩ := rule_inv hrd
    refine ⟨rfl, ?_⟩
    rw [show (tYes : TT) = fun _ H Q => Q true H from rfl]
    dsimp only
    rw [if_pos rfl]
    refine ⟨_, rfl, y, cs, k, rfl, kd.tk tk4 (rule_noL hrd), fun c hc => (cond_noL (hcs c hc)).2, (keep_noL hks).2, hc3, fun v' H5 e5 k5 => ⟨ws, e5 _ _ hD, ?_, ws ++ [v'], upd_same, ?_, fun b o h hb => ?_, ?_⟩⟩
    · rw [kw.length, List.length_take, sizeLine_eq]
      omega
    · rw [List.take_add_one, hdd]
      have tk5 : TupK H4 (upd H5 Dl (.lst (ws ++ [v']))) := (tupK_ex e5).trans (tupK_upd (e5 _ _ hD))
      exact (kw.tk tk5 (rules_noL (by
        refine List.all_eq_true.mpr fun d hd => List.all_eq_true.mp hall d (List.mem_of_mem_take hd)))).app (.cons (k5.tk (tupK_upd (e5 _ _ hD)) (rule_noL hrd)) .nil)
    · rw [upd_ne (ne_of_none h nDH)]
      exact e5 _ _ (kx b o h hb)
    · rw [upd_ne nDx.symm]
      exact e5 _ _ hx4
  · obtain ⟨ws, hD, kw, kx, hx4⟩ := hI
    rw [hl, List.take_length] at kw
    refine ⟨Dl, ws, rfl, .inl ⟨SqL.of hD, fun t2 nt2 => ?_⟩⟩
    have e5 := Ex.new (o := .tup ws) nt2
    refine ⟨_, rfl, x, C, dx, _, rfl, e5 _ _ hx4, cl, n2, (by simp), ?_⟩
    have hx5 := e5 _ _ hx4
    refine due.ok hn t2 _ (fun b o h hb => ?_) upd_same ?_
    · rw [upd_ne hb]
      exact e5 _ _ (kx b o h hb)
    · have k2 : Pt (upd H4 t2 (.tup ws)) (.ref t2) (.tuple Ds) := .tup upd_same (kw.ex e5)
      refine k2.tk (fun a xs h => ?_) (by rw [noL]; exact hnl)
      rw [upd_ne (ne_of h hx5 (by intro z; cases z))]
      exact h
/-- what Style.of asks of its rules -/
def dueO (β : Nat) : PyData → Option PyData
  | .tuple ds => dueD β ds
  | .list ds => dueD β ds
  | _ => some .none
def seqD : PyData → List PyData
  | .tuple ds => ds
  | .list ds => ds
  | _ => []
def isQ : PyData → Bool
  | .tuple _ => true
  | .list _ => true
  | _ => false
theorem kit_list (d : PyData) : kitB (tyN d) "list" = some (match d with | .list _ => true | _ => false) := by
  cases d <;> simp only [tyN] <;> decide +kernel
theorem kit_seq (d : PyData) : PySem.W.kitAny K (.type (tyN d)) [.type "list", .type "tuple"] = some (isQ d) := by
  have h1 := kit_ty (K := K) (kit_list d)
  have h2 := kit_ty (K := K) (kit_tup d)
  cases d <;> simp only [PySem.W.kitAny, h1, h2, isQ, isT]
def spOfS (K : PySem.W.Frag) (C : Addr) (ca : Nat → Addr) : Sp := fun vs H Q E => ∃ (vb v : V) (d : PyData) (b : Bool), vs = [.ref C, vb, v] ∧ Bs K H vb b ∧ Pt H v d ∧ (seqD d).length ≤ 100000 ∧
  (b = false → Leaves (ca 1) "value" vb H E) ∧ (b = true → ∃ β : Nat, vb = .int β ∧ 2 ≤ β ∧ β ≤ 10 ∧ Due ca H E (dueO β d) (∀ (x : Addr) (H' : Hp), Ex H H' → StyAt H' C x β (seqD d) → Q (.ref x) H'))
theorem scOfS : FnScope ["cls", "base", "rules"] ["cls", "base", "rules"] (defScope sOfS) := ⟨rfl, rfl, rfl, by decide +kernel, rfl, by decide +kernel, by decide +kernel⟩
theorem ok_ofS {f fi : Addr} {fd fdn : FuncData} (F : Fun K "of" "Style.of" sOfS f fd) (M : Mk K C fi) (GI : FnR P w K mg base (L2.CX P w) 7 fi (spInitR K C ca)) (GN : FnOk P w K mg base (L2.CX P w) 8 fnb fdn ["base"] (spNeed (Bs K) (ca 1))) (bN : Binds K fdn ["base"] [])
    (M5 : Mks P K mg (ca 5) ["place"]) (T : TxY K mg fnb frl fnr fpl ca) : FnOk P w K mg base (L2.CX P w) 9 f fd ["cls", "base", "rules"] (spOfS K C ca) := by
  refine F.okX scOfS (fun vs H Q E h => ?_) (fun cdv A outer s H vs Q E hr h => ?_)
  · obtain ⟨vb, v, d, b, rfl, _⟩ := h
    rfl
  · obtain ⟨vb, v, d, b, rfl, kb, kv, hsz, l1, hq⟩ := h
    refine ⟨_, pss_cons (ps_expr (pe_callS GN hr (by rfl) T.needB T.kNB bN (fun σ => passAt (takes_of rfl rfl rfl rfl) σ) (pa_cons (pv 1) pa_nil)))
      (pss_cons (ps_if (pt_not (pt_val (pe_callB call_isiT (by rfl) T.isi (by decide +kernel) (pa_cons (pv 2) (pa_cons (pe_tup (pa_cons (pe_bltn (by rfl) T.list (by decide +kernel) (v := .ty "list") rfl) (pa_cons (pe_bltn (by rfl) T.tuple (by decide +kernel) (v := .ty "tuple") rfl) pa_nil))) pa_nil)))))
        (pss_one (ps_raise rfl (takes_of rfl rfl rfl rfl) (pmk_mks M5 T.sup hr (by simp) (pa_cons pe_non pa_nil) (by rfl) T.badRule))) pss_nil)
      (pss_one (ps_ret (pe_makeLS (i := 0) M GI hr rfl (.inl rfl) (fun pins σ H s e s' I c => passAt (takes_of rfl rfl rfl rfl) σ pins H s e s' I c) (pa_cons (pv 1) (pa_star (pv 2) pa_nil)))))), ?_⟩
    refine ⟨_, rfl, vb, b, rfl, kb, fun hb H1 e1 => ?_, fun hb => l1 hb⟩
    obtain ⟨β, rfl, b2, b10, due⟩ := hq hb
    have k1 := kv.ex e1
    dsimp only
    refine q_when (b := !isQ d) (et_not (et_B (fun H2 e2 Q2 q2 => ⟨_, rfl, (by show (2:Nat) ≤ sizeLine; rw [sizeLine_eq]; omega), fun tp ntp => ⟨v, tp, _, _, [.type "list", .type "tuple"], isQ d, rfl, upd_same, .cons (.ty "list") (.cons (.ty "tuple") .nil), tyx_ex (Ex.new ntp) (k1.ex e2).ty, kit_seq d, q2 _ (Ex.new ntp)⟩⟩))) (fun z H2 e2 => ?_) (fun z H2 e2 => ?_)
    · have hd : dueO β d = some .none := by
        have : isQ d = false := by simpa using z
        cases d <;> first | rfl | cases this
      exact ⟨rfl, fun dd hdd => ((due.bad _ hd).go (e1.trans e2)) H2 dd (Ex.refl _) hdd⟩
    · have e12 := e1.trans e2
      have k2 := kv.ex e12
      have key : ∃ a vs, v = .ref a ∧ (SqT K H2 a vs ∨ SqL K H2 a vs) ∧ PtAll H2 vs (seqD d) ∧ dueO β d = dueD β (seqD d) := by
        have hq' : isQ d = true := by simpa using z
        cases k2 with
        | tup hs ha => exact ⟨_, _, rfl, .inl (st_of hs), ha, rfl⟩
        | lst hs ha => exact ⟨_, _, rfl, .inr (sq_of hs), ha, rfl⟩
        | _ => cases hq'
      obtain ⟨a, us, rfl, hs, kus, hdue⟩ := key
      have hl := kus.length
      refine ⟨rfl, _, rfl, _, rfl, a, us, rfl, hs, fun x dx hx hdx hne => ?_⟩
      refine ⟨[.ref x, .int β], us ++ [], rfl, rfl, ?_, fun p hp => ?_⟩
      · rw [List.append_nil, hl, sizeLine_eq]
        omega
      have eA : Ex H2 (upd (upd H2 dx (.own x)) x (.ins C dx [])) := (Ex.new hdx).trans (Ex.new (by rw [upd_ne (Ne.symm hne)]; exact hx))
      have eB := Ex.new (o := .tup (us ++ [])) hp
      have eAB := eA.trans eB
      refine ⟨x, p, dx, .int β, us ++ [], seqD d, true, rfl, eB _ _ upd_same, upd_same, (List.append_nil us).symm ▸ kus.ex eAB, bs_yes b2 b10, (fun z => nomatch z), fun _ => ⟨β, rfl, b2, b10, ⟨fun pl hpl => ((due.bad pl (hdue.trans hpl)).go (e12.trans eAB)), fun hn t2 H' kx hx' k' => ⟨rfl, ?_⟩⟩⟩⟩
      refine due.ok (hdue.trans hn) x H' (fun b o h => ?_) ⟨dx, t2, hx', k'⟩
      exact kx b o (eAB _ _ (e12 _ _ h)) (ne_of_none (e12 _ _ h) hx)
end
end Dt

/-! Rules as they are shown, laid and cut. -/
namespace Dt
open PySem L2 Evl Dg LamR LamX TL
open Dr (StAt SameB)
/-! Data that stands in the written form -/
mutual
/-- no dict in it -/
def noK : PyData → Bool
  | .list ds => noKs ds
  | .dict _ => false
  | .tuple ds => noKs ds
  | _ => true
def noKs : List PyData → Bool
  | [] => true
  | d :: ds => noK d && noKs ds
end
mutual
theorem noL_K : ∀ {d : PyData}, noL d = true → noK d = true
  | .none, _ => rfl
  | .bool _, _ => rfl
  | .int _, _ => rfl
  | .str _, _ => rfl
  | .tuple ds, h => by
    rw [noK]
    exact noLs_K (by rw [noL] at h; exact h)
  | .list _, h => by rw [noL] at h; cases h
  | .dict _, h => by rw [noL] at h; cases h
theorem noLs_K : ∀ {ds : List PyData}, noLs ds = true → noKs ds = true
  | [], _ => rfl
  | d :: ds, h => by
    rw [noLs, Bool.and_eq_true] at h
    rw [noKs, noL_K h.1, noLs_K h.2]
    rfl
end
mutual
theorem Pt.dp {K : PySem.W.Frag} {H : Hp} : ∀ {v : V} {d : PyData}, Pt H v d → noK d = true → Dp K H v d
  | _, .none, h, _ => by cases h; exact .non
  | _, .bool _, h, _ => by cases h; exact .bl _
  | _, .int _, h, _ => by cases h; exact .int _
  | _, .str _, h, _ => by cases h with | str _ _ => exact .str _
  | _, .tuple ds, h, k => by
    cases h with
    | tup hs ha => exact .tup (st_of hs) (PtAll.dp ha (by rw [noK] at k; exact k))
  | _, .list ds, h, k => by
    cases h with
    | lst hs ha => exact .lst (sq_of hs) (PtAll.dp ha (by rw [noK] at k; exact k))
  | _, .dict _, _, k => by rw [noK] at k; cases k
theorem PtAll.dp {K : PySem.W.Frag} {H : Hp} : ∀ {vs : List V} {ds : List PyData}, PtAll H vs ds → noKs ds = true → DpAll K H vs ds
  | _, [], h, _ => by cases h; exact .nil
  | _, d :: ds, h, k => by
    cases h with
    | cons h1 h2 =>
      rw [noKs, Bool.and_eq_true] at k
      exact .cons (Pt.dp h1 k.1) (PtAll.dp h2 k.2)
end
theorem PtAll.drop {H : Hp} : ∀ {vs : List V} {ds : List PyData}, PtAll H vs ds → ∀ n : Nat, PtAll H (vs.drop n) (ds.drop n)
  | _, [], h, n => by
    cases h
    rw [List.drop_nil, List.drop_nil]
    exact .nil
  | _, d :: ds, h, n => by
    cases h with
    | cons h1 h2 =>
      cases n with
      | zero => exact .cons h1 h2
      | succ n => exact PtAll.drop h2 n
def cutD (ds : List PyData) (lo hi : Option Int) : List PyData := (ds.drop (HT.sIx ds.length 0 lo)).take (HT.sIx ds.length ds.length hi - HT.sIx ds.length 0 lo)
theorem mem_cut {ds : List PyData} {lo hi : Option Int} {d : PyData} (h : d ∈ cutD ds lo hi) : d ∈ ds := List.mem_of_mem_drop (List.mem_of_mem_take h)
theorem len_cut (ds : List PyData) (lo hi : Option Int) : (cutD ds lo hi).length ≤ ds.length := by
  unfold cutD
  rw [List.length_take, List.length_drop]
  omega
theorem cut_whole {ds : List PyData} {lo hi : Option Int} (h : HT.sIx ds.length 0 lo = 0 ∧ HT.sIx ds.length ds.length hi = ds.length) : cutD ds lo hi = ds := by
  unfold cutD
  rw [h.1, h.2, List.drop_zero, Nat.sub_zero, List.take_length]
theorem PtAll.cut {H : Hp} {vs : List V} {ds : List PyData} (h : PtAll H vs ds) (lo hi : Option Int) : PtAll H (cutV vs lo hi) (cutD ds lo hi) := by
  unfold cutV cutD
  rw [h.length]
  exact (h.drop _).take _
section
variable {K : PySem.W.Frag} {H : Hp} {Q : VK}
theorem rd_sl {a : Addr} {xs : List V} {Ds : List PyData} {lo hi : Option Int} (h : H a = some (.tup xs)) (ka : PtAll H xs Ds) (k : ∀ b H' ys, Ex H H' → H' b = some (.tup ys) → PtAll H' ys (cutD Ds lo hi) → Q (.ref b) H') : rSlA K (.ref a) lo hi H Q := by
  refine ⟨a, xs, rfl, st_of h, fun hw => ?_, fun hw p hp => ?_⟩
  · rw [ka.length] at hw
    exact k a H xs (Ex.refl H) h (by rw [cut_whole hw]; exact ka)
  · exact k p _ _ (Ex.new hp) upd_same ((ka.cut lo hi).ex (Ex.new hp))
theorem rd_cat {a b : Addr} {xs ys : List V} {Ds Es : List PyData} (ha : H a = some (.tup xs)) (hb : H b = some (.tup ys)) (ka : PtAll H xs Ds) (kb : PtAll H ys Es) (hl : Ds.length + Es.length ≤ 100000) (k : ∀ c H' zs, Ex H H' → H' c = some (.tup zs) → PtAll H' zs (Ds ++ Es) → Q (.ref c) H') : rCatA K (.ref a) (.ref b) H Q := by
  refine ⟨a, b, xs, ys, rfl, rfl, st_of ha, st_of hb, sz_of (by rw [ka.length, kb.length]; exact hl), fun hx => ?_, fun hx hy => ?_, fun hx hy p hp => ?_⟩
  · have : Ds = [] := by
      have := ka.length
      rw [hx] at this
      exact List.length_eq_zero_iff.mp this.symm
    subst this
    exact k b H ys (Ex.refl H) hb kb
  · have : Es = [] := by
      have := kb.length
      rw [hy] at this
      exact List.length_eq_zero_iff.mp this.symm
    subst this
    rw [List.append_nil] at k
    exact k a H xs (Ex.refl H) ha ka
  · exact k p _ _ (Ex.new hp) upd_same ((ka.app kb).ex (Ex.new hp))
end
/-! small: what is shown of a rule -/
structure Ts (d : PyData) (m n : Nat) : Prop where
  p : plainD d
  c : cap d ≤ m
  e : d.depth ≤ n
  l : d.canLay0 = true
theorem ts_int {i : Int} (h : i.natAbs < 2 ^ 64) : Ts (.int i) 1921 0 := ⟨by
  show i.natAbs.log2 < 1920
  by_cases hz : i.natAbs = 0
  · rw [hz]; decide
  · exact Nat.lt_of_lt_of_le ((Nat.log2_lt hz).mpr h) (by decide), by simp [cap], by simp [PyData.depth], rfl⟩
theorem figs1 : ∀ c < 10, (PyData.str ⟨#[48 + c]⟩).canLay0 = true := by decide +kernel
theorem figs2 : ∀ c < 10, ∀ d < 10, (PyData.str ⟨#[48 + c, 48 + d]⟩).canLay0 = true := by decide +kernel
theorem figs_cases {β : Nat} {x : Str} (b10 : β ≤ 10) (h : isFigs β 2 x = true) : (∃ c, c < 10 ∧ x = ⟨#[48 + c]⟩) ∨ ∃ c d, c < 10 ∧ d < 10 ∧ x = ⟨#[48 + c, 48 + d]⟩ := by
  unfold isFigs at h
  rw [Bool.and_eq_true, Bool.and_eq_true] at h
  obtain ⟨⟨h1, h2⟩, h3⟩ := h
  have h1 := of_decide_eq_true h1
  have h2 := of_decide_eq_true h2
  obtain ⟨⟨l⟩⟩ := x
  have hl : (Str.length ⟨⟨l⟩⟩) = l.length := rfl
  rw [hl] at h1 h2
  have h3 : l.all (fun c => decide (48 ≤ c ∧ c < 48 + β)) = true := h3
  match l, h1, h2, h3 with
  | [a], _, _, h3 =>
    simp only [List.all_cons, List.all_nil, Bool.and_true, decide_eq_true_eq] at h3
    exact .inl ⟨a - 48, by omega, by rw [show 48 + (a - 48) = a by omega]⟩
  | [a, b], _, _, h3 =>
    simp only [List.all_cons, List.all_nil, Bool.and_true, Bool.and_eq_true, decide_eq_true_eq] at h3
    exact .inr ⟨a - 48, b - 48, by omega, by omega, by rw [show 48 + (a - 48) = a by omega, show 48 + (b - 48) = b by omega]⟩
theorem ts_figs {β : Nat} {x : Str} (b10 : β ≤ 10) (h : isFigs β 2 x = true) : Ts (.str x) 22 0 := by
  rcases figs_cases b10 h with ⟨c, hc, rfl⟩ | ⟨c, d, hc, hd, rfl⟩
  · exact ⟨fun e he => by
      have : e = 48 + c := by simpa using he
      rw [this]
      exact Nat.lt_of_lt_of_le (show 48 + c < 58 by omega) (by decide), by simp [cap, Str.length], by simp [PyData.depth], figs1 c hc⟩
  · exact ⟨fun e he => by
      have : e = 48 + c ∨ e = 48 + d := by simpa using he
      rcases this with rfl | rfl
      · exact Nat.lt_of_lt_of_le (show 48 + c < 58 by omega) (by decide)
      · exact Nat.lt_of_lt_of_le (show 48 + d < 58 by omega) (by decide), by simp [cap, Str.length], by simp [PyData.depth], figs2 c hc d hd⟩
theorem ts_word {w : Str} (h : w = "ends" ∨ w = "near" ∨ w = "length" ∨ w = "changed" ∨ w = "all" ∨ w = "last") : Ts (.str w) 72 0 := by
  have one : ∀ {w : Str}, (∀ c ∈ w.cps.toList, c < 16 ^ 8) → w.length ≤ 7 → (PyData.str w).canLay0 = true → Ts (.str w) 72 0 := fun h1 h2 h3 => ⟨h1, by simp only [cap]; omega, by simp [PyData.depth], h3⟩
  rcases h with rfl | rfl | rfl | rfl | rfl | rfl <;> exact one (by decide) (by decide) (by decide +kernel)
theorem ts_non : Ts .none 4 0 := ⟨trivial, by simp [cap], by simp [PyData.depth], rfl⟩
theorem Ts.up {d : PyData} {m m' n n' : Nat} (t : Ts d m n) (h : m ≤ m') (k : n ≤ n') : Ts d m' n' := ⟨t.p, Nat.le_trans t.c h, Nat.le_trans t.e k, t.l⟩
inductive TsAll (m n : Nat) : List PyData → Prop
  | nil : TsAll m n []
  | cons {d : PyData} {ds : List PyData} : Ts d m n → TsAll m n ds → TsAll m n (d :: ds)
theorem TsAll.tup {m n : Nat} {ds : List PyData} (h : TsAll m n ds) : Ts (.tuple ds) (ds.length * (m + 2) + 4) (n + 1) := by
  have key : plainAll ds ∧ capAll ds ≤ ds.length * (m + 2) ∧ PyData.depthAll ds ≤ n ∧ PyData.canLayAll0 ds = true := by
    induction h with
    | nil => exact ⟨trivial, Nat.zero_le _, Nat.zero_le _, rfl⟩
    | cons h t ih =>
      obtain ⟨a, b, c, d⟩ := ih
      refine ⟨⟨h.p, a⟩, ?_, ?_, ?_⟩
      · have := h.c
        simp only [capAll, List.length_cons, Nat.add_mul]
        omega
      · have := h.e
        simp only [PyData.depthAll]
        omega
      · simp only [PyData.canLayAll0, h.l, d, Bool.and_self]
  obtain ⟨a, b, c, d⟩ := key
  exact ⟨a, by simp only [cap]; omega, by simp only [PyData.depth]; omega, by simpa only [PyData.canLay0] using d⟩
theorem tsAll_of {m n : Nat} : ∀ {ds : List PyData}, (∀ d ∈ ds, Ts d m n) → TsAll m n ds
  | [], _ => .nil
  | d :: ds, h => .cons (h d List.mem_cons_self) (tsAll_of fun e he => h e (List.mem_cons_of_mem _ he))
theorem ts_cond {β : Nat} {d : PyData} (b10 : β ≤ 10) (h : CondS β d) : Ts d 6000 1 := by
  cases h with
  | ends x hx => exact (TsAll.tup (m := 1921) (n := 0) (.cons ((ts_word (.inl rfl)).up (by decide) (by decide)) (.cons ((ts_figs b10 hx).up (by decide) (by decide)) .nil))).up (by simp) (by decide)
  | near i h0 h6 => exact (TsAll.tup (m := 1921) (n := 0) (.cons ((ts_word (.inr (.inl rfl))).up (by decide) (by decide)) (.cons (ts_int (by omega)) .nil))).up (by simp) (by decide)
  | len w hw i h1 h6 e he =>
    have tw : Ts (.str w) 72 0 := ts_word (by rcases hw with rfl | rfl <;> simp)
    have te : Ts e 1921 0 := by
      rcases he with rfl | ⟨j, rfl, _, _⟩
      · exact ts_non.up (by decide) (by decide)
      · exact ts_int (by omega)
    exact (TsAll.tup (m := 1921) (n := 0) (.cons (tw.up (by decide) (by decide)) (.cons (ts_int (by omega)) (.cons te .nil)))).up (by simp) (by decide)
theorem ts_keep {d : PyData} (h : KeepS d) : Ts d 6000 1 := by
  cases h with
  | all => exact (TsAll.tup (m := 1921) (n := 0) (.cons ((ts_word (by simp)).up (by decide) (by decide)) .nil)).up (by decide) (by decide)
  | size w hw i h1 h6 =>
    have tw : Ts (.str w) 72 0 := ts_word (by rcases hw with rfl | rfl <;> simp)
    exact (TsAll.tup (m := 1921) (n := 0) (.cons (tw.up (by decide) (by decide)) (.cons (ts_int (by omega)) .nil))).up (by simp) (by decide)
theorem ts_conds {β : Nat} {cs : List PyData} (b10 : β ≤ 10) (h3 : cs.length ≤ 3) (h : ∀ c ∈ cs, CondS β c) : Ts (.tuple cs) 20000 2 := (TsAll.tup (m := 6000) (n := 1) (tsAll_of fun c hc => ts_cond b10 (h c hc))).up (by omega) (by decide)
theorem ts_rule {β : Nat} {d : PyData} (b10 : β ≤ 10) (h : ruleB β d = true) : Ts d 50000 3 := by
  obtain ⟨cs, k, rfl, h3, hc, hk⟩ := rule_inv h
  exact (TsAll.tup (m := 20000) (n := 2) (.cons (ts_conds b10 h3 hc) (.cons ((ts_keep hk).up (by decide) (by decide)) .nil))).up (by simp) (by decide)
theorem ts_rules {β : Nat} {ds : List PyData} (b10 : β ≤ 10) (h : ds.all (ruleB β) = true) (hl : ds.length ≤ 20) : Ts (.tuple ds) 1100000 4 :=
  (TsAll.tup (m := 50000) (n := 3) (tsAll_of fun d hd => ts_rule b10 (List.all_eq_true.mp h d hd))).up (by omega) (by decide)
theorem Ts.shaped {d : PyData} {m n : Nat} (t : Ts d m n) (h : n ≤ 60) : SeqAt.shaped d = true := Bool.and_eq_true_iff.mpr ⟨t.l, decide_eq_true (by have := t.e; omega)⟩
theorem eqv_none (cs : List PyData) : PyData.eqv (.tuple cs) (.tuple []) = decide (cs = []) := by
  cases cs with
  | nil => simp [PyData.eqv, PyData.eqvAll]
  | cons n ns => simp [PyData.eqv, PyData.eqvAll]
end Dt

/-! What is shown of a rule is shown of none of the odd things. -/
namespace Dt
open PySem L2 Evl Dg LamR LamX TL
open Dr (StAt SameB)
def oddD : List PyData := [.none, .int 5, .str "all", .tuple [], .tuple [.tuple [], .tuple [.str "all", .int 1]], .tuple [.list [], .tuple [.str "all"]], .tuple [.tuple [.tuple [.str "near", .int 9]], .tuple [.str "all"]], .list [.tuple [], .tuple [.str "all"]]]
theorem odd_no {β : Nat} {d : PyData} (h : d ∈ oddD) : ruleB β d = false := by
  have cc : d = .none ∨ d = .int 5 ∨ d = .str "all" ∨ d = .tuple [] ∨ d = .tuple [.tuple [], .tuple [.str "all", .int 1]] ∨ d = .tuple [.list [], .tuple [.str "all"]] ∨ d = .tuple [.tuple [.tuple [.str "near", .int 9]], .tuple [.str "all"]] ∨ d = .list [.tuple [], .tuple [.str "all"]] := by simpa [oddD] using h
  cases hr : ruleB β d with
  | false => rfl
  | true =>
    obtain ⟨cs, k, e, _, hc, hk⟩ := rule_inv hr
    rcases cc with rfl | rfl | rfl | rfl | rfl | rfl | rfl | rfl
    · cases e
    · cases e
    · cases e
    · cases e
    · injection e with e
      injection e with e1 e
      injection e with e2 _
      subst e2
      cases hk with
      | size w hw i h1 h6 => rcases hw with hw | hw <;> exact absurd hw (by decide +kernel)
    · injection e with e
      injection e with e1 e
      cases e1
    · injection e with e
      injection e with e1 e
      injection e1 with e1
      subst e1
      have := hc _ List.mem_cons_self
      cases this with
      | near i h0 h6 => omega
    · cases e
theorem tl_tup2 (a b : PyData) : tl (PyData.tuple [a, b]).shown = 40 :: (tl a.shown ++ (44 :: 32 :: (tl b.shown ++ [41]))) := by
  have e : (PyData.tuple [a, b]).shown = ("(" : Str) ++ (a.shown ++ ", " ++ b.shown) ++ (")" : Str) := by
    simp only [PyData.shown, PyData.shownAll, PySem.tupleText]
    rfl
  rw [e]
  simp only [tl_append]
  have e1 : tl ("(" : Str) = [40] := by decide
  have e2 : tl (")" : Str) = [41] := by decide
  have e3 : tl (", " : Str) = [44, 32] := by decide
  rw [e1, e2]
  show [40] ++ (tl a.shown ++ tl (", " : Str) ++ tl b.shown) ++ [41] = _
  rw [e3]
  simp
theorem tl_tup0 : tl (PyData.tuple []).shown = [40, 41] := by decide +kernel
theorem tl_tupC (c : PyData) (r : List PyData) : ∃ rest, tl (PyData.tuple (c :: r)).shown = 40 :: (tl c.shown ++ rest) := by
  have e1 : tl ("(" : Str) = [40] := by decide
  cases r with
  | nil =>
    refine ⟨tl (",)" : Str), ?_⟩
    have e : (PyData.tuple [c]).shown = ("(" : Str) ++ c.shown ++ (",)" : Str) := by
      simp only [PyData.shown, PyData.shownAll, PySem.tupleText]
      rfl
    rw [e, tl_append, tl_append, e1]
    simp
  | cons d r =>
    refine ⟨tl (", " : Str) ++ tl (Str.join ", " (PyData.shownAll (d :: r))) ++ tl (")" : Str), ?_⟩
    have e : (PyData.tuple (c :: d :: r)).shown = ("(" : Str) ++ (c.shown ++ ", " ++ Str.join ", " (PyData.shownAll (d :: r))) ++ (")" : Str) := by
      simp only [PyData.shown, PyData.shownAll, PySem.tupleText]
      rfl
    rw [e, tl_append, tl_append, tl_append, tl_append, e1]
    simp
theorem tl_ends : tl (PyData.str "ends").shown = [39, 101, 110, 100, 115, 39] := by decide +kernel
theorem tl_near : tl (PyData.str "near").shown = [39, 110, 101, 97, 114, 39] := by decide +kernel
theorem tl_len : tl (PyData.str "length").shown = [39, 108, 101, 110, 103, 116, 104, 39] := by decide +kernel
theorem tl_chg : tl (PyData.str "changed").shown = [39, 99, 104, 97, 110, 103, 101, 100, 39] := by decide +kernel
/-- how a condition begins: with no sign of 'near', 9 -/
theorem cond_head {β : Nat} {c : PyData} (h : CondS β c) : ∃ x y rest, tl c.shown = 40 :: 39 :: x :: rest ∧ (x = 110 → ∃ d r2, tl c.shown = [40, 39, 110, 101, 97, 114, 39, 44, 32] ++ (d :: r2) ∧ d ≠ 57) ∧ y = x := by
  cases h with
  | ends x hx =>
    refine ⟨101, 101, _, by rw [tl_tup2, tl_ends]; rfl, fun z => absurd z (by decide), rfl⟩
  | near i h0 h6 =>
    refine ⟨110, 110, _, by rw [tl_tup2, tl_near]; rfl, fun _ => ?_, rfl⟩
    have cc : i = 0 ∨ i = 1 ∨ i = 2 ∨ i = 3 ∨ i = 4 ∨ i = 5 ∨ i = 6 := by omega
    have one : ∀ (j : Int) (d : Nat), tl (PyData.int j).shown = [d] → d ≠ 57 → ∃ d r2, tl (PyData.tuple [.str "near", .int j]).shown = [40, 39, 110, 101, 97, 114, 39, 44, 32] ++ (d :: r2) ∧ d ≠ 57 := fun j d hj hd => ⟨d, [41], by rw [tl_tup2, tl_near, hj]; rfl, hd⟩
    rcases cc with rfl | rfl | rfl | rfl | rfl | rfl | rfl
    · exact one 0 48 (by decide +kernel) (by decide)
    · exact one 1 49 (by decide +kernel) (by decide)
    · exact one 2 50 (by decide +kernel) (by decide)
    · exact one 3 51 (by decide +kernel) (by decide)
    · exact one 4 52 (by decide +kernel) (by decide)
    · exact one 5 53 (by decide +kernel) (by decide)
    · exact one 6 54 (by decide +kernel) (by decide)
  | len w hw i h1 h6 e he =>
    rcases hw with rfl | rfl
    · obtain ⟨rest, hr⟩ := tl_tupC (.str "length") [.int i, e]
      exact ⟨108, 108, _, by rw [hr, tl_len]; rfl, fun z => absurd z (by decide), rfl⟩
    · obtain ⟨rest, hr⟩ := tl_tupC (.str "changed") [.int i, e]
      exact ⟨99, 99, _, by rw [hr, tl_chg]; rfl, fun z => absurd z (by decide), rfl⟩
theorem keep_ne {k : PyData} (h : KeepS k) : tl k.shown ≠ tl (PyData.tuple [.str "all", .int 1]).shown := by
  cases h with
  | all => decide +kernel
  | size w hw i h1 h6 =>
    intro z
    rw [tl_tup2, tl_tup2] at z
    have e3 : tl (PyData.str "all").shown = [39, 97, 108, 108, 39] := by decide +kernel
    rw [e3] at z
    rcases hw with rfl | rfl
    · rw [tl_chg] at z
      simp at z
    · have e4 : tl (PyData.str "last").shown = [39, 108, 97, 115, 116, 39] := by decide +kernel
      rw [e4] at z
      simp at z
theorem rule_shown {β : Nat} {d o : PyData} (h : ruleB β d = true) (ho : o ∈ oddD) : o.shown ≠ d.shown := by
  intro z
  obtain ⟨cs, k, rfl, _, hc, hk⟩ := rule_inv h
  have hz : tl o.shown = tl (PyData.tuple [.tuple cs, k]).shown := by rw [z]
  rw [tl_tup2] at hz
  have cc : o = .none ∨ o = .int 5 ∨ o = .str "all" ∨ o = .tuple [] ∨ o = .tuple [.tuple [], .tuple [.str "all", .int 1]] ∨ o = .tuple [.list [], .tuple [.str "all"]] ∨ o = .tuple [.tuple [.tuple [.str "near", .int 9]], .tuple [.str "all"]] ∨ o = .list [.tuple [], .tuple [.str "all"]] := by simpa [oddD] using ho
  have second : ∃ r, tl (PyData.tuple cs).shown = 40 :: r := by
    cases cs with
    | nil => exact ⟨_, tl_tup0⟩
    | cons c r =>
      obtain ⟨rest, hr⟩ := tl_tupC c r
      exact ⟨_, hr⟩
  obtain ⟨r2, hr2⟩ := second
  rcases cc with rfl | rfl | rfl | rfl | rfl | rfl | rfl | rfl
  · rw [show tl (PyData.none).shown = [78, 111, 110, 101] by decide +kernel] at hz
    simp at hz
  · rw [show tl (PyData.int 5).shown = [53] by decide +kernel] at hz
    simp at hz
  · rw [show tl (PyData.str "all").shown = [39, 97, 108, 108, 39] by decide +kernel] at hz
    simp at hz
  · rw [tl_tup0, hr2] at hz
    simp at hz
  · rw [tl_tup2, tl_tup0] at hz
    cases cs with
    | nil =>
      rw [tl_tup0] at hz
      simp only [List.cons_append, List.nil_append, List.cons.injEq, true_and] at hz
      exact keep_ne hk (List.append_cancel_right hz).symm
    | cons c r =>
      obtain ⟨rest, hr⟩ := tl_tupC c r
      obtain ⟨x, y, r3, hx, _, _⟩ := cond_head (hc c List.mem_cons_self)
      rw [hr, hx] at hz
      simp at hz
  · rw [tl_tup2, hr2] at hz
    rw [show tl (PyData.list []).shown = [91, 93] by decide +kernel] at hz
    simp at hz
  · cases cs with
    | nil =>
      rw [tl_tup0] at hz
      rw [show tl (PyData.tuple [.tuple [.tuple [.str "near", .int 9]], .tuple [.str "all"]]).shown = [40, 40, 40, 39, 110, 101, 97, 114, 39, 44, 32, 57, 41, 44, 41, 44, 32, 40, 39, 97, 108, 108, 39, 44, 41, 41] by decide +kernel] at hz
      simp at hz
    | cons c r =>
      obtain ⟨rest, hr⟩ := tl_tupC c r
      obtain ⟨x, y, r3, hx, hn, _⟩ := cond_head (hc c List.mem_cons_self)
      rw [show tl (PyData.tuple [.tuple [.tuple [.str "near", .int 9]], .tuple [.str "all"]]).shown = [40, 40, 40, 39, 110, 101, 97, 114, 39, 44, 32, 57, 41, 44, 41, 44, 32, 40, 39, 97, 108, 108, 39, 44, 41, 41] by decide +kernel, hr] at hz
      have hx110 : x = 110 := by
        rw [hx] at hz
        simp only [List.cons_append, List.cons.injEq, true_and] at hz
        exact hz.1.symm
      obtain ⟨dg, r4, h4, hd⟩ := hn hx110
      rw [h4] at hz
      simp only [List.cons_append, List.nil_append, List.cons.injEq, true_and] at hz
      exact hd hz.1.symm
  · rw [show tl (PyData.list [.tuple [], .tuple [.str "all"]]).shown = [91, 40, 41, 44, 32, 40, 39, 97, 108, 108, 39, 44, 41, 93] by decide +kernel] at hz
    simp at hz
/-- the odd things' texts -/
def oddT : List V := oddD.map fun o => V.str o.shown
theorem in_odd {d : PyData} {β : Nat} (h : ruleB β d = true ∨ d ∈ oddD) : inV (.str d.shown) oddT = !ruleB β d := by
  unfold inV oddT
  rw [List.any_map]
  rcases h with h | h
  · rw [h]
    refine List.any_eq_false.mpr fun o ho => ?_
    have := rule_shown h ho
    show ¬ (eqV (V.str o.shown) (V.str d.shown)) = true
    simp [eqV, this]
  · rw [odd_no h]
    refine List.any_eq_true.mpr ⟨d, h, ?_⟩
    show eqV (V.str d.shown) (V.str d.shown) = true
    simp [eqV]
/-- rules, and odd things -/
def Mix (β : Nat) (Ds : List PyData) : Prop := ∀ d ∈ Ds, ruleB β d = true ∨ d ∈ oddD
theorem odd_ok : okDs oddD = true ∧ noKs oddD = true := by decide +kernel
theorem okDs_mem : ∀ {ds : List PyData} {d : PyData}, okDs ds = true → d ∈ ds → okD d = true
  | [], _, _, h => by cases h
  | e :: ds, d, k, h => by
    rw [okDs, Bool.and_eq_true] at k
    rcases List.mem_cons.mp h with rfl | h
    · exact k.1
    · exact okDs_mem k.2 h
theorem noKs_mem : ∀ {ds : List PyData} {d : PyData}, noKs ds = true → d ∈ ds → noK d = true
  | [], _, _, h => by cases h
  | e :: ds, d, k, h => by
    rw [noKs, Bool.and_eq_true] at k
    rcases List.mem_cons.mp h with rfl | h
    · exact k.1
    · exact noKs_mem k.2 h
theorem okDs_all : ∀ {ds : List PyData}, (∀ d ∈ ds, okD d = true) → okDs ds = true
  | [], _ => rfl
  | d :: ds, h => by
    rw [okDs, h d List.mem_cons_self, okDs_all fun e he => h e (List.mem_cons_of_mem _ he)]
    rfl
theorem Mix.ok {β : Nat} {Ds : List PyData} (h : Mix β Ds) : okDs Ds = true := okDs_all fun d hd => by
  rcases h d hd with k | k
  · exact noL_ok (rule_noL k)
  · exact okDs_mem odd_ok.1 k
theorem mix_noK {β : Nat} {d : PyData} (h : ruleB β d = true ∨ d ∈ oddD) : noK d = true := by
  rcases h with k | k
  · exact noL_K (rule_noL k)
  · exact noKs_mem odd_ok.2 k
theorem ts_odd {d : PyData} (h : d ∈ oddD) : Ts d 50000 3 := by
  have cc : d = .none ∨ d = .int 5 ∨ d = .str "all" ∨ d = .tuple [] ∨ d = .tuple [.tuple [], .tuple [.str "all", .int 1]] ∨ d = .tuple [.list [], .tuple [.str "all"]] ∨ d = .tuple [.tuple [.tuple [.str "near", .int 9]], .tuple [.str "all"]] ∨ d = .list [.tuple [], .tuple [.str "all"]] := by simpa [oddD] using h
  have tall : Ts (.str "all") 72 0 := ts_word (by simp)
  have t1 : Ts (.tuple [.str "all"]) 100 1 := (TsAll.tup (.cons tall .nil)).up (by simp) (by decide)
  have t0 : Ts (.tuple []) 4 1 := (TsAll.tup (m := 0) (n := 0) .nil).up (by simp) (by decide)
  have l0 : Ts (.list []) 4 1 := ⟨trivial, by simp [cap, capAll], by simp [PyData.depth, PyData.depthAll], rfl⟩
  rcases cc with rfl | rfl | rfl | rfl | rfl | rfl | rfl | rfl
  · exact ts_non.up (by decide) (by decide)
  · exact (ts_int (by decide)).up (by decide) (by decide)
  · exact tall.up (by decide) (by decide)
  · exact t0.up (by decide) (by decide)
  · have t2 : Ts (.tuple [.str "all", .int 1]) 4000 1 := (TsAll.tup (m := 1921) (n := 0) (.cons (tall.up (by decide) (by decide)) (.cons (ts_int (by decide)) .nil))).up (by simp) (by decide)
    exact (TsAll.tup (m := 4000) (n := 1) (.cons (t0.up (by decide) (by decide)) (.cons t2 .nil))).up (by simp) (by decide)
  · exact (TsAll.tup (m := 4000) (n := 1) (.cons (l0.up (by decide) (by decide)) (.cons (t1.up (by decide) (by decide)) .nil))).up (by simp) (by decide)
  · have tn : Ts (.str "near") 72 0 := ts_word (by simp)
    have t2 : Ts (.tuple [.str "near", .int 9]) 4000 1 := (TsAll.tup (m := 1921) (n := 0) (.cons (tn.up (by decide) (by decide)) (.cons (ts_int (by decide)) .nil))).up (by simp) (by decide)
    have t3 : Ts (.tuple [.tuple [.str "near", .int 9]]) 4100 2 := (TsAll.tup (m := 4000) (n := 1) (.cons t2 .nil)).up (by simp) (by decide)
    exact (TsAll.tup (m := 4100) (n := 2) (.cons t3 (.cons (t1.up (by decide) (by decide)) .nil))).up (by simp) (by decide)
  · have := TsAll.tup (m := 100) (n := 1) (.cons (t0.up (by decide) (by decide)) (.cons (t1.up (by decide) (by decide)) .nil))
    exact ⟨this.p, Nat.le_trans this.c (by simp), Nat.le_trans this.e (by decide), this.l⟩
theorem ts_mix {β : Nat} {d : PyData} (b10 : β ≤ 10) (h : ruleB β d = true ∨ d ∈ oddD) : Ts d 50000 3 := by
  rcases h with k | k
  · exact ts_rule b10 k
  · exact ts_odd k
theorem Ts.show {d : PyData} {m n : Nat} (t : Ts d m n) (h : m ≤ 16000000) (k : n ≤ 60) : d.showable = true ∧ d.shown.length ≤ sizeLine ∧ d.depth ≤ 60 := by
  obtain ⟨a, b⟩ := shown_cap d t.p
  have := t.c
  have := t.e
  exact ⟨a, by rw [sizeLine_eq]; omega, by omega⟩
end Dt

/-! repr of a word with a thing (which may be a small dict), and of lists of such. -/
namespace L2
open PySem PySem.Spec PyProof.Rows Evl
/-- what Di tells, an empty dict, or a tuple of a text and such -/
inductive Dj (K : PySem.W.Frag) (H : Hp) : V → PyData → Prop
  | di {v : V} {d : PyData} : Di K H v d → Dj K H v d
  | nil {a : Addr} : H a = some (.dK []) → Dj K H (.ref a) (.dict [])
  | pair {a : Addr} {x : Str} {v : V} {d : PyData} : SqT K H a [.str x, v] → Dj K H v d → Dj K H (.ref a) (.tuple [.str x, d])
inductive DjAll (K : PySem.W.Frag) (H : Hp) : List V → List PyData → Prop
  | nil : DjAll K H [] []
  | cons {v : V} {vs : List V} {d : PyData} {ds : List PyData} : Dj K H v d → DjAll K H vs ds → DjAll K H (v :: vs) (d :: ds)
section
variable {X : Cx} {pins : List (Addr × Obj)} {σ : St} {H : Hp} {s : Shared}
theorem Dj.reads (I : Inv X pins σ H s) {v : V} {d : PyData} (h : Dj X.K H v d) : ∀ {u : Value}, RelV v u → ∃ as, Reads s.heap u d as ∧ (d.hasDict = true → sysModules ∉ as) := by
  induction h with
  | di h => exact fun r => Di.reads I h r
  | @nil a hs =>
    intro u r
    cases r
    obtain ⟨_, hne, vs, rel, o, es, ep, ho, ⟨hx, _, _⟩, hd, _, hp, _⟩ := dk_of I.hok hs
    cases rel
    cases es with
    | mk es =>
    cases hp
    refine ⟨_, Reads.dict ho hx hd (kvs := []) (as := []) (bs := []) .nil .nil, fun _ h => ?_⟩
    simp only [List.append_nil, List.mem_cons, List.not_mem_nil, or_false] at h
    rw [← h] at hne
    exact absurd hne (by decide)
  | @pair a x v d hs hv ih =>
    intro u r
    cases r
    obtain ⟨its, rv, ⟨o, ho, hc, n, hd⟩, _⟩ := I.tuple hs
    obtain ⟨u1, u2, rfl, ⟨t, rfl⟩, r2⟩ := vals2 rv
    obtain ⟨bs, hr, hm⟩ := ih r2
    refine ⟨_, Reads.tuple ho hc hd (.cons (.str _ _) (.cons hr .nil)), fun z h => hm ?_ ?_⟩
    · simpa [PyData.hasDict, PyData.hasDictAll] using z
    · simpa using h
theorem DjAll.reads (I : Inv X pins σ H s) : ∀ {ds : List PyData} {vs : List V} {us : List Value}, DjAll X.K H vs ds → Vals vs us → ReadsI s.heap us ds
  | [], _, _, h, r => by
    cases h
    cases r
    exact .nil
  | d :: ds, _, _, h, r => by
    cases h with
    | cons h1 h2 =>
      cases r with
      | cons r1 r2 =>
        obtain ⟨as, q, m⟩ := Dj.reads I h1 r1
        exact .cons q m (DjAll.reads I h2 r2)
theorem Dj.ex {K : PySem.W.Frag} {H H' : Hp} (e : Ex H H') {v : V} {d : PyData} (h : Dj K H v d) : Dj K H' v d := by
  induction h with
  | di h => exact .di (h.ex e)
  | nil h => exact .nil (e _ _ h)
  | pair h _ ih => exact .pair (ex_t e h) ih
theorem DjAll.ex {K : PySem.W.Frag} {H H' : Hp} (e : Ex H H') : ∀ {vs : List V} {ds : List PyData}, DjAll K H vs ds → DjAll K H' vs ds
  | _, _, .nil => .nil
  | _, _, .cons h t => .cons (h.ex e) (t.ex e)
end
def rReprJ (K : PySem.W.Frag) : List V → Hp → VK → Prop := fun xs H Q => ∃ v d, xs = [v] ∧ Dj K H v d ∧ d.showable = true ∧ d.shown.length ≤ sizeLine ∧ d.depth ≤ 60 ∧ Q (.str d.shown) H
def rReprK (K : PySem.W.Frag) : List V → Hp → VK → Prop := fun xs H Q => ∃ a vs ds, xs = [.ref a] ∧ SqL K H a vs ∧ DjAll K H vs ds ∧ (PyData.list ds).showable = true ∧ (PyData.list ds).shown.length ≤ sizeLine ∧ PyData.depthAll ds ≤ 60 ∧ Q (.str (PyData.list ds).shown) H
theorem call_reprJ {X : Cx} (hg : X.A.guards = some []) (hu : X.A.units + 64 < cLine) : CallR X (.builtin "repr") (rReprJ X.K) := by
  intro pins s σ H xs us Q I r h
  obtain ⟨v, d, rfl, hd, hs, hz, hdp, q⟩ := h
  cases r with
  | @cons _ u _ us r1 r2 =>
    cases r2
    show wpAny _ _ (call (.builtin "repr") [u]) _ _ _
    obtain ⟨as, rd, hm⟩ := Dj.reads I hd r1
    cases rd with
    | none => exact P.repr_of_none ⟨.str _, H, I.tok _, ⟨_, rfl⟩, by simpa [PyData.shown] using q⟩
    | bool b => exact P.repr_of_bool ⟨.str _, H, I.tok _, ⟨_, rfl⟩, by simpa [PyData.shown] using q⟩
    | int i t => exact P.repr_of_int (by simpa [PyData.showable] using hs) ⟨.str _, H, I.tok _, ⟨_, rfl⟩, by simpa [PyData.shown] using q⟩
    | str x t => exact P.repr_of_str ⟨.str _, H, I.tok _, ⟨_, rfl⟩, by simpa [PyData.shown] using q⟩ (by simpa [PyData.shown] using hz)
    | list h1 h2 h3 h4 => exact repr_of_reads' (.list h1 h2 h3 h4) hs hm hg (by omega) (fun _ _ e => e) (fun h' u tk k => ⟨.str _, H, I.kept (t' := tk) k, ⟨_, rfl⟩, q⟩) hz
    | tuple h1 h2 h3 h4 => exact repr_of_reads' (.tuple h1 h2 h3 h4) hs hm hg (by omega) (fun _ _ e => e) (fun h' u tk k => ⟨.str _, H, I.kept (t' := tk) k, ⟨_, rfl⟩, q⟩) hz
    | dict h1 h2 h3 h4 h5 => exact repr_of_reads' (.dict h1 h2 h3 h4 h5) hs hm hg (by omega) (fun _ _ e => e) (fun h' u tk k => ⟨.str _, H, I.kept (t' := tk) k, ⟨_, rfl⟩, q⟩) hz
theorem call_reprK {X : Cx} (hg : X.A.guards = some []) (hu : X.A.units + 64 < cLine) : CallR X (.builtin "repr") (rReprK X.K) := by
  intro pins s σ H xs us Q I r h
  obtain ⟨a, vs, ds, rfl, hS, hd, hs, hz, hdp, q⟩ := h
  cases r with
  | @cons _ u _ us r1 r2 =>
    cases r2
    cases r1
    show wpAny _ _ (call (.builtin "repr") [.ref a]) _ _ _
    obtain ⟨its, rv, ⟨o, n, h1, h2, _, h3⟩, _⟩ := I.list hS
    have RI := DjAll.reads I hd rv
    obtain ⟨as, h4⟩ := RI.all
    have hz' : (listText (PyData.shownAll ds)).length ≤ sizeLine := by simpa only [PyData.shown] using hz
    obtain ⟨bs, hb, hk⟩ := RI.repr (prog := X.prog) (w := X.w) (by simpa [PyData.showable] using hs) (fun t ht => Nat.le_trans (listText_mem_le ht) hz')
    have h4' : ReadsAll s.heap its.toArray.toList ds as := by simpa using h4
    have hna : a ∉ bs := not_mem_of_deeper (.list h1 h2 h3 h4') (by simp only [PyData.depth]; omega) hb
    have fin : ∀ {h' u tk}, (∀ b o, s.heap.get? b = some o → h'.get? b = some o) → EP X pins σ Q (.str (PyData.list ds).shown u) { s with heap := h', toks := tk } := fun {h' u tk} k => ⟨.str _, H, I.kept (t' := tk) k, ⟨_, rfl⟩, q⟩
    refine call_repr_slot (by omega) ⟨o, h1, h2⟩ F.slot_list_repr.toG ?_
    cases its with
    | nil =>
      cases h4
      have e : (PyData.list []).shown = ("[]" : Str) := by simp only [PyData.shown, PyData.shownAll, listText_nil]
      refine call_list_repr_empty ⟨o, h1, h2⟩ h1 h3 ⟨_, _, rfl, ?_⟩
      rw [← e]
      exact fin fun _ _ e => e
    | cons x l =>
      refine call_list_reprK h1 h2 h3 hna (by simpa using hk.length_eq) (fun i y e => hk.item i y (by simpa using e)) hg (fun b _ => Clear.nil b) (by show X.A.units + 1 + _ < _; omega) (fun _ _ e => e) (fun h' u tk k => ⟨_, _, rfl, ?_⟩) hz'
      have := fin (h' := h') (u := u) (tk := tk) k
      simpa only [PyData.shown] using this
section
variable {K : PySem.W.Frag} {σ : L2.St} {H : Hp} {te : TE}
theorem ev_reprJ {v : V} {d : PyData} (h : Ev te σ H v) (hd : Dj K H v d) (s : Sm d) : Ev (tCB (rReprJ K) (tCons te tNil)) σ H (.str d.shown) :=
  ev_cb (ea_cons h ea_nil) fun H1 e Q q => ⟨v, d, rfl, hd.ex e, s.a, Nat.le_trans s.b (by rw [sizeLine_eq]; omega), Nat.le_trans s.c (by decide), q H1 (Ex.refl H1)⟩
theorem ev_reprK {vs : List V} {ds : List PyData} (h : EvL te σ H vs) (hd : DjAll K H vs ds) (s : SmAll ds) (hl : ds.length ≤ 100) : Ev (tCB (rReprK K) (tCons te tNil)) σ H (.str (PyData.list ds).shown) := fun H1 e Q q =>
  h H1 e _ fun p H2 hp e2 h2 => ⟨p, vs, ds, rfl, sq_of h2, hd.ex (e.trans e2), (s.list hl).1, (s.list hl).2.1, (s.list hl).2.2, q H2 e2⟩
end
end L2

/-! k05: what is due, the drawn rows. -/
namespace Dt
open PySem L2 Evl Dg LamR LamX TL ExM
open Dr (StAt SameB)
abbrev sLDue : Stmt := top 60
abbrev sLRow : Stmt := top 61
def badL (β : Nat) : List PyData → Nat → List Nat
  | [], _ => []
  | d :: ds, k => if ruleB β d = true then badL β ds (k + 1) else k :: badL β ds (k + 1)
theorem badL_head {β : Nat} : ∀ (ds : List PyData) (k : Nat), (badL β ds k).head? = badAt β ds k
  | [], _ => rfl
  | d :: ds, k => by
    unfold badL badAt
    by_cases h : ruleB β d = true
    · rw [if_pos h, if_pos h]
      exact badL_head ds (k + 1)
    · rw [if_neg h, if_neg h]
      rfl
theorem badL_range {β : Nat} : ∀ (ds : List PyData) (k : Nat), ((List.range ds.length).filter fun i => !ruleB β (ds.getD i .none)).map (· + k) = badL β ds k
  | [], k => rfl
  | d :: ds, k => by
    rw [List.length_cons, List.range_succ_eq_map, List.filter_cons, List.filter_map]
    have ih := badL_range (β := β) ds (k + 1)
    have e : ((List.range ds.length).filter ((fun i => !ruleB β ((d :: ds).getD i .none)) ∘ Nat.succ)) = (List.range ds.length).filter fun i => !ruleB β (ds.getD i .none) := by
      congr 1
    rw [e]
    unfold badL
    by_cases h : ruleB β d = true
    · rw [if_pos h, if_neg (by simp [h])]
      rw [← ih, List.map_map]
      congr 1
      funext i
      show Nat.succ i + k = i + (k + 1)
      omega
    · rw [if_neg h, if_pos (by simp [h]), List.map_cons, ← ih, List.map_map]
      congr 1
      · simp
      · congr 1
        funext i
        show Nat.succ i + k = i + (k + 1)
        omega
def dueL : Option PyData → List V
  | none => []
  | some pl => [plV pl]
section
variable {P : Program} {w : World} {K : PySem.W.Frag} {mg : Str → Option Value} {base : Heap} {fm fdr fo flr : Addr}
def spLDue : Sp := fun vs H Q _ => ∃ (r o : Addr) (rs : List V) (Ds : List PyData) (β : Nat), vs = [.ref r, .ref o] ∧ 2 ≤ β ∧ β ≤ 10 ∧ H r = some (.tup rs) ∧ PtAll H rs Ds ∧ H o = some (.lst oddT) ∧ Mix β Ds ∧ Ds.length ≤ 100 ∧ ∀ p H', H p = none → Ex H H' → H' p = some (.lst (dueL (dueD β Ds))) → Q (.ref p) H'
theorem scDue : FnScope ["rules", "odd", "wrong", "k"] ["rules", "odd"] (defScope sLDue) := ⟨rfl, rfl, rfl, by decide +kernel, rfl, by decide +kernel, by decide +kernel⟩
theorem ok_ldue {f : Addr} {fd : FuncData} (F : Fun K "_law_due" "_law_due" sLDue f fd) (mLn : mg "len" = none) (mR : mg "range" = none) (mP : mg "repr" = none) : FnG P w K mg base CX0 3 f fd ["rules", "odd"] spLDue := by
  refine F.okG scDue (fun vs H Q E h => ?_) (fun cdv A outer s H vs Q E hr h => ?_)
  · obtain ⟨r, o, rs, Ds, β, rfl, _⟩ := h
    rfl
  · obtain ⟨r, o, rs, Ds, β, rfl, b2, b10, hr0, ka, ho, mix, h100, q⟩ := h
    have hu64 : (A.deeper (PyProof.Rows.envOfC "_law_due" (defScope sLDue) s.heap.objs.size f cdv)).units + 64 < cLine := by have := hr.r.units; omega
    refine ⟨_, pss_cons (ps_if (pt_not (pt_chain op_le op_le pe_int (pe_callB call_len_seq (by rfl) mLn (by decide +kernel) (pa_cons (pv 0) pa_nil)) pe_int)) (pss_one (ps_ret (pe_lst (pa_cons pe_non pa_nil)))) pss_nil)
      (pss_cons (ps_setLc (own := [("k", 3)]) (g := gName 3) (i := 2) (by rfl) scDue.nd rfl rfl (sw_true rfl rfl rfl (by decide +kernel)) (pi_range1 (by rfl) mR (pa_cons (pe_callB call_len_seq (by rfl) mLn (by decide +kernel) (pa_cons (pv 0) pa_nil)) pa_nil)) (blkOk_by (own := [("k", 3)]) (N := ["rules", "odd", "wrong", "k"]) (sc := defScope sLDue) (by decide +kernel))
        (fun _ _ _ _ _ => pg_name (i := 3) scDue.nd rfl (Or.inl rfl)) (fun _ _ _ _ _ => pts_one (pt_cmpR (r := rIn K false) op_in_seq (pe_callB (id := "repr") (r := rReprJ K) (call_reprJ hr.g hu64) (by rfl) mP (by decide +kernel) (pa_cons (pe_ix (r := rIxT K) ix_tup (pv 0) (pv 3) (fun _ _ => rfl)) pa_nil)) (pv 1) (by rfl))) (fun _ _ _ _ _ => pv 3))
      (pss_cons (ps_if (pt_cmpR (op_neD (show _ + 64 < cLine from hu64)) (pv 2) (pe_lst pa_nil) (nomark _)) (pss_one (ps_ret (pe_slice sl_list (pv 2) po_none (po_some pe_int)))) pss_nil)
      (pss_one (ps_ret (pe_ifExp (pt_cmpR (op_eqD (show _ + 64 < cLine from hu64)) (pe_ix ix_tup (pe_ix ix_tup (pv 0) (pe_un un_neg pe_int) (fun _ _ => rfl)) pe_int (fun _ _ => rfl)) (pe_tup pa_nil) (nomark _)) (pe_lst pa_nil) (pe_lst (pa_cons (pe_op op_sub (pe_callB call_len_seq (by rfl) mLn (by decide +kernel) (pa_cons (pv 0) pa_nil)) pe_int) pa_nil))))))), ?_⟩
    have hl := ka.length
    refine q_when (b := !(decide (1 ≤ Ds.length) && decide (Ds.length ≤ 8))) (et_is (et_not (et_test (ev_chI ev_c (ev_lenT (K := K) (ev_var rfl) hr0) ev_c))) (by
      rw [hl]
      congr 1
      congr 1 <;> exact decide_eq_decide.mpr (by omega))) (fun z H1 e1 => ?_) (fun z H1 e1 => ?_)
    · have hb : ¬ (1 ≤ Ds.length ∧ Ds.length ≤ 8) := fun ⟨a, b⟩ => by
        rw [decide_eq_true a, decide_eq_true b] at z
        cases z
      refine s_retL (xs := [.non]) (el_lst (ea_cons ev_c ea_nil) (by simp)) fun p H2 np e2 h2 => q p H2 (fresh_back e1 np) (e1.trans e2) ?_
      rw [due_len hb]
      exact h2
    · have hb : 1 ≤ Ds.length ∧ Ds.length ≤ 8 := by
        rw [Bool.not_eq_false', Bool.and_eq_true] at z
        exact ⟨of_decide_eq_true z.1, of_decide_eq_true z.2⟩
      have hr1 := e1 _ _ hr0
      have ho1 := e1 _ _ ho
      refine q_asgL (xs := ((badL β Ds 0).map fun i : Nat => (i : Int)).map V.int) ?_ fun pw H2 npw e2 h2 => ?_
      · have := el_lcR1 (σ := [some (.ref r), some (.ref o), none, none]) (H := H1) (ta := tCons (tCB (rLenS K) (tCons (tVar 0) tNil)) tNil) (j := 3) (vs := [3]) (t := tTest (tOp (rIn K false) (tCB (rReprJ K) (tCons (tOp (rIxT K) (tVar 0) (tVar 3)) tNil)) (tVar 1))) (te := tVar 3) (n := (rs.length : Int)) (fun i => !ruleB β (Ds.getD i .none)) (fun i => .int (i : Int)) (ea_cons (ev_lenT (K := K) (ev_var rfl) hr1) ea_nil) (by omega) (fun _ => rfl) (fun i H4 e4 hi => ?_) (fun i H4 e4 hi _ => ev_var rfl)
        · rw [List.map_map, ← badL_range Ds 0, List.map_map]
          unfold given at this
          rw [show ((rs.length : Int)).toNat = Ds.length by omega] at this
          exact this
        · have hlt : i < Ds.length := by omega
          have hd : Ds[i]? = some (Ds.getD i .none) := by
            rw [List.getD_eq_getElem?_getD, List.getElem?_eq_getElem hlt]
            rfl
          obtain ⟨u, hu, ku⟩ := ka.get hd
          have hm := mix _ (List.mem_of_getElem? hd)
          obtain ⟨y1, y2, y3⟩ := (ts_mix b10 hm).show (by decide) (by decide)
          refine et_is (et_test (ev_op (ev_cb (ea_cons (ev_op (ev_var rfl) (ev_var rfl) (rv_ixT (st_of (e4 _ _ hr1)) (atI_nat hu))) ea_nil) fun H5 e5 Q5 q5 => ⟨u, _, rfl, .di (.dp ((ku.ex ((e1.trans e4).trans e5)).dp (mix_noK hm))), y1, y2, y3, q5 _ (Ex.refl _)⟩) (ev_var rfl) (rv_isL (sq_of (e4 _ _ ho1)) rfl (by
            refine List.all_eq_true.mpr fun v hv => ?_
            unfold oddT at hv
            obtain ⟨d, _, rfl⟩ := List.mem_map.mp hv
            rfl)))) (in_odd hm)
      · have e12 := e1.trans e2
        refine q_when (b := !decide ((badL β Ds 0).map (fun i : Nat => (i : Int)) = [])) (et_test (ev_opL (ev_var rfl) (el_lst ea_nil (by simp)) fun p3 H3 h3 e3 => fun H4 e4 Q4 q4 => ⟨.list (((badL β Ds 0).map fun i : Nat => (i : Int)).map PyData.int), .list [], .lst (sq_of (e4 _ _ (e3 _ _ h2))) (Dr.dpAll_ints _), .lst (sq_of (e4 _ _ h3)) .nil, Dr.shaped_ints _, by decide +kernel, by
          rw [Dr.eqv_nil]
          exact q4 _ (Ex.refl _)⟩)) (fun z3 H3 e3 => ?_) (fun z3 H3 e3 => ?_)
        · obtain ⟨k, ks, hk⟩ : ∃ k ks, badL β Ds 0 = k :: ks := by
            cases hbl : badL β Ds 0 with
            | nil =>
              rw [hbl] at z3
              cases z3
            | cons k ks => exact ⟨k, ks, rfl⟩
          have hba : badAt β Ds 0 = some k := by rw [← badL_head, hk]; rfl
          have hdue : dueD β Ds = some (.int (k : Int)) := by
            unfold dueD
            rw [if_pos hb, hba]
          refine s_retL (el_sl (ev_var rfl) eo_none (eo_some ev_c) (sq_of (e3 _ _ h2))) fun p4 H4 np e4 h4 => q p4 H4 (fresh_back (e12.trans e3) np) ((e12.trans e3).trans e4) ?_
          rw [hdue, h4]
          congr 2
          rw [hk]
          unfold cutV
          simp [HT.sIx, dueL, plV]
        · have hbl : badL β Ds 0 = [] := by
            cases hbl : badL β Ds 0 with
            | nil => rfl
            | cons k ks =>
              rw [hbl] at z3
              simp at z3
          have hba : badAt β Ds 0 = none := by rw [← badL_head, hbl]; rfl
          have hall := badAt_none hba
          have e13 := e12.trans e3
          have hpos : Ds.length - 1 < Ds.length := by omega
          obtain ⟨dl, hdl⟩ : ∃ dl, Ds[Ds.length - 1]? = some dl := ⟨_, List.getElem?_eq_getElem hpos⟩
          obtain ⟨u, hu, ku⟩ := ka.get hdl
          have hr2 : ruleB β dl = true := List.all_eq_true.mp hall _ (List.mem_of_getElem? hdl)
          obtain ⟨cs, kk, rfl, hc3, hcs, hks⟩ := rule_inv hr2
          obtain ⟨au, us, rfl, hau, kus⟩ := (ku.ex e13).tupI'
          obtain ⟨uc, huc, kuc⟩ := kus.get (i := 0) rfl
          have hlast : lastC Ds = decide (0 < cs.length) := by
            unfold lastC
            have : Ds.getLastD .none = .tuple [.tuple cs, kk] := by
              rw [List.getLastD_eq_getLast?, List.getLast?_eq_getElem?, hdl]
              rfl
            rw [this]
            rfl
          have hdue := due_last hb hall
          rw [hlast] at hdue
          have tcs := ts_conds b10 hc3 hcs
          have hnk : noK (.tuple cs) = true := noL_K (by rw [noL]; exact noLs_all fun c hc => (cond_noL (hcs c hc)).1)
          have elast : Ev (tOp (rIxT K) (tVar 0) (tUn (rU fun i => V.int (-i)) (tC (.int 1)))) [some (.ref r), some (.ref o), some (.ref pw), none] H3 (.ref au) := ev_op (ev_var rfl) (ev_un ev_c ru_neg) (rv_ixT (st_of (e13 _ _ hr0)) (by
            unfold atI ixN
            rw [if_neg (by decide), if_pos (by omega)]
            show rs[((-1 : Int) + (rs.length : Int)).toNat]? = _
            rw [show ((-1 : Int) + (rs.length : Int)).toNat = Ds.length - 1 by omega]
            exact hu))
          have eT : EvT (tTest (tOp (rEqD K) (tOp (rIxT K) (tOp (rIxT K) (tVar 0) (tUn (rU fun i => V.int (-i)) (tC (.int 1)))) (tC (.int ((0 : Nat) : Int)))) (tTup tNil))) [some (.ref r), some (.ref o), some (.ref pw), none] H3 (decide (cs = [])) :=
            et_test (ev_opU (ev_at (K := K) (i := 0) elast hau huc) (eu_tup ea_nil (by simp)) fun p4 H4 h4 e4 => fun H5 e5 Q5 q5 => ⟨.tuple cs, .tuple [], (kuc.ex (e4.trans e5)).dp hnk, .tup (st_of (e5 _ _ h4)) .nil, tcs.shaped (by decide), by decide +kernel, by
              rw [eqv_none]
              exact q5 _ (Ex.refl _)⟩)
          refine s_retL (xs := dueL (dueD β Ds)) (fun H4 e4 Q4 q4 => eT H4 e4 _ fun H5 e5 => ?_) fun p6 H6 np e6 h6 => q p6 H6 (fresh_back e13 np) (e13.trans e6) h6
          by_cases hcn : cs = []
          · rw [decide_eq_true hcn]
            have : dueD β Ds = none := by rw [hdue, hcn]; rfl
            rw [this] at q4
            exact iteT (el_lst (σ := [some (.ref r), some (.ref o), some (.ref pw), none]) ea_nil (by simp) H5 (Ex.refl _) _ fun p7 H7 n7 e7 h7 => q4 p7 H7 (fresh_back e5 n7) (e5.trans e7) h7)
          · rw [decide_eq_false hcn]
            have : dueD β Ds = some (.int ((Ds.length : Int) - 1)) := by
              rw [hdue, decide_eq_true (List.length_pos_iff.mpr hcn), if_pos rfl]
            rw [this] at q4
            refine iteF (el_lst (σ := [some (.ref r), some (.ref o), some (.ref pw), none]) (vs := [.int ((rs.length : Int) - 1)]) (ea_cons (ev_op (ev_lenT (K := K) (ev_var rfl) (e5 _ _ (e4 _ _ (e13 _ _ hr0)))) ev_c rv_I0) ea_nil) (by simp) H5 (Ex.refl _) _ fun p7 H7 n7 e7 h7 => q4 p7 H7 (fresh_back e5 n7) (e5.trans e7) ?_)
            rw [h7, hl]
            rfl
end
end Dt

/-! k05: the drawn rows. -/
namespace Dt
open PySem L2 Evl Dg LamR LamX TL ExM
open Dr (StAt SameB)
def near2 : PyData := .tuple [.tuple [.tuple [.str "near", .int 2]], .tuple [.str "all"]]
theorem near2_ok {β : Nat} : ruleB β near2 = true := by
  show ruleB β (.tuple [.tuple [.tuple [.str "near", .int 2]], .tuple [.str "all"]]) = true
  rw [rule_mk]
  have h1 : condB β (.tuple [.str "near", .int 2]) = true := cond_near (by decide) (by decide)
  have h2 : keepB (.tuple [.str "all"]) = true := by decide +kernel
  simp [h1, h2]
theorem Mix.app {β : Nat} {Ds Es : List PyData} (h : Mix β Ds) (k : Mix β Es) : Mix β (Ds ++ Es) := fun d hd => by
  rcases List.mem_append.mp hd with z | z
  · exact h d z
  · exact k d z
theorem Mix.cut {β : Nat} {Ds : List PyData} (h : Mix β Ds) (lo hi : Option Int) : Mix β (cutD Ds lo hi) := fun d hd => h d (mem_cut hd)
theorem Rls.mix {β : Nat} {Ds : List PyData} (h : Rls β Ds) : Mix β Ds := fun d hd => .inl (List.all_eq_true.mp h.all d hd)
theorem sameB_off {H H' : Hp} {p l o : Addr} {x : HO} (e : SameB H H' p l) (h : H o = some x) (h1 : o ≠ p) (h2 : o ≠ l) : H' o = some x := e _ _ h h1 h2
section
variable {P : Program} {w : World} {K : PySem.W.Frag} {mg : Str → Option Value} {base : Heap} {fm fdr fo flr : Addr}
def spLRow : Sp := fun vs H Q _ => ∃ (p c l o : Addr) (n β : Nat) (a : Int) (os : List V), vs = [.ref p, .int β, .ref o] ∧ StAt H p c l n a ∧ l ≠ c ∧ a < 2 ^ 39 - 100000 ∧ 2 ≤ β ∧ β ≤ 10 ∧ H o = some (.lst os) ∧ PtAll H os oddD ∧ o ≠ p ∧ o ≠ l ∧
  ∀ (v : V) (Ds : List PyData) (H' : Hp) (b : Int), Mix β Ds → Ds.length ≤ 20 → Pt H' v (.tuple Ds) → a ≤ b → b ≤ a + 5000 → StAt H' p c l n b → SameB H H' p l → Q v H'
theorem scRow : FnScope ["state", "base", "odd", "rules", "way", "k", "at", "thing"] ["state", "base", "odd"] (defScope sLRow) := ⟨rfl, rfl, rfl, by decide +kernel, rfl, by decide +kernel, by decide +kernel⟩
/-- the row as it stands -/
structure RowAt (H H' : Hp) (p c l o : Addr) (n β : Nat) (b : Int) (os : List V) (v : V) (Ds : List PyData) (m : Nat) : Prop where
  s : StAt H' p c l n b
  sb : SameB H H' p l
  ho : H' o = some (.lst os)
  ko : PtAll H' os oddD
  k : Pt H' v (.tuple Ds)
  mix : Mix β Ds
  len : Ds.length ≤ m
theorem RowAt.ex {H H' H2 : Hp} {p c l o : Addr} {n β : Nat} {b : Int} {os : List V} {v : V} {Ds : List PyData} {m : Nat} (R : RowAt H H' p c l o n β b os v Ds m) (e : Ex H' H2) : RowAt H H2 p c l o n β b os v Ds m :=
  ⟨R.s.ex e, sameB_trans R.sb (sameB_ex e), e _ _ R.ho, R.ko.ex e, R.k.ex e, R.mix, R.len⟩
theorem RowAt.same {H H' H2 : Hp} {p c l o : Addr} {n β : Nat} {b b' : Int} {os : List V} {v : V} {Ds : List PyData} {m : Nat} (R : RowAt H H' p c l o n β b os v Ds m) (S : StAt H2 p c l n b') (e : SameB H' H2 p l) (h1 : o ≠ p) (h2 : o ≠ l) : RowAt H H2 p c l o n β b' os v Ds m :=
  ⟨S, sameB_trans R.sb e, e _ _ R.ho h1 h2, R.ko.same R.s e odd_ok.1, R.k.same R.s e (by rw [okD]; exact R.mix.ok), R.mix, R.len⟩
theorem RowAt.new {H H' H2 : Hp} {p c l o : Addr} {n β : Nat} {b : Int} {os : List V} {v v2 : V} {Ds Es : List PyData} {m m2 : Nat} (R : RowAt H H' p c l o n β b os v Ds m) (e : Ex H' H2) (k : Pt H2 v2 (.tuple Es)) (h : Mix β Es) (hl : Es.length ≤ m2) : RowAt H H2 p c l o n β b os v2 Es m2 :=
  ⟨R.s.ex e, sameB_trans R.sb (sameB_ex e), e _ _ R.ho, R.ko.ex e, k, h, hl⟩
theorem RowAt.up {H H' : Hp} {p c l o : Addr} {n β : Nat} {b : Int} {os : List V} {v : V} {Ds : List PyData} {m m2 : Nat} (R : RowAt H H' p c l o n β b os v Ds m) (h : m ≤ m2) : RowAt H H' p c l o n β b os v Ds m2 := ⟨R.s, R.sb, R.ho, R.ko, R.k, R.mix, Nat.le_trans R.len h⟩
theorem ok_lrow {f : Addr} {fd fdd fdo fdr' : FuncData} (F : Fun K "_law_row" "_law_row" sLRow f fd) (GD : FnOk P w K mg base CX0 4 fdr fdd ["state", "many"] Dr.spDraw) (bD : Binds K fdd ["state", "many"] []) (T : Dr.TxO K mg fm fdr)
    (GO : FnOk P w K mg base CX0 4 fo fdo ["state", "some"] Dr.spOf) (bO : Binds K fdo ["state", "some"] []) (gO : mg "_law_of" = some (.ref fo)) (kO : PySem.W.keepIn K (.ref fo) = true)
    (GR : FnOk P w K mg base CX0 4 flr fdr' ["state", "base", "most", "many"] spLRules) (bR : Binds K fdr' ["state", "base", "most", "many"] []) (gR : mg "_law_rules" = some (.ref flr)) (kR : PySem.W.keepIn K (.ref flr) = true) (mR : mg "range" = none) :
    FnOk P w K mg base CX0 5 f fd ["state", "base", "odd"] spLRow := by
  refine F.ok scRow (fun vs H Q E h => ?_) (fun cdv A outer s H vs Q E hr h => ?_)
  · obtain ⟨p, c, l, o, n, β, a, os, rfl, _⟩ := h
    rfl
  · obtain ⟨p, c, l, o, n, β, a, os, rfl, S, nlc, ha, b2, b10, ho, ko, op, ol, q⟩ := h
    refine ⟨_, pss_cons (ps_par (i := 3) (j := 4) (by rfl) scRow.nd rfl rfl (by decide) rfl rfl (pa_cons (pe_call GR hr (by rfl) gR kR bR .nil pass0 (pa_cons (pv 0) (pa_cons (pv 1) (pa_cons pe_int (pa_cons pe_int pa_nil))))) (pa_cons (pe_call GD hr (by rfl) T.draw T.kDraw bD .nil pass0 (pa_cons (pv 0) (pa_cons pe_int pa_nil))) pa_nil)) (by rfl))
      (pss_cut (ps_if (pt_cmpR op_eq (pv 4) pe_int (nomark _)) (pss_one (ps_set (i := 3) scRow.nd rfl (.inl rfl) (pe_slice sl_tupA (pe_op op_catA (pv 3) (pe_call GR hr (by rfl) gR kR bR .nil pass0 (pa_cons (pv 0) (pa_cons (pv 1) (pa_cons pe_int (pa_cons pe_int pa_nil)))))) po_none (po_some (pe_call GD hr (by rfl) T.draw T.kDraw bD .nil pass0 (pa_cons (pv 0) (pa_cons pe_int pa_nil))))))) pss_nil)
      (pss_cut (ps_if (pt_cmpR op_eq (pv 4) pe_int (nomark _)) (pss_one (ps_set (i := 3) scRow.nd rfl (.inl rfl) (pe_op op_catA (pv 3) (pe_tup (pa_cons (pe_tup (pa_cons (pe_tup (pa_cons (pe_tup (pa_cons pe_str (pa_cons pe_int pa_nil))) pa_nil)) (pa_cons (pe_tup (pa_cons pe_str pa_nil)) pa_nil))) pa_nil))))) pss_nil)
      (pss_cons (ps_for PassesOwn.never rfl (pi_range1 (by rfl) mR (pa_cons (pe_ix ix_list (pe_lst (pa_cons pe_int (pa_cons pe_int (pa_cons pe_int pa_nil)))) (pe_call GD hr (by rfl) T.draw T.kDraw bD .nil pass0 (pa_cons (pv 0) (pa_cons pe_int pa_nil))) (fun _ _ => rfl)) pa_nil)) (pg_name (i := 5) scRow.nd rfl (.inl rfl))
        (pss_cons (ps_par (i := 6) (j := 7) (by rfl) scRow.nd rfl rfl (by decide) rfl rfl (pa_cons (pe_call GD hr (by rfl) T.draw T.kDraw bD .nil pass0 (pa_cons (pv 0) (pa_cons (pe_op op_add (pe_callB call_len_seq (by rfl) T.len (by decide +kernel) (pa_cons (pv 3) pa_nil)) pe_int) pa_nil))) (pa_cons (pe_call GO hr (by rfl) gO kO bO .nil pass0 (pa_cons (pv 0) (pa_cons (pv 2) pa_nil))) pa_nil)) (by rfl))
        (pss_one (ps_set (i := 3) scRow.nd rfl (.inl rfl) (pe_op op_catA (pe_op op_catA (pe_slice sl_tupA (pv 3) po_none (po_some (pv 6))) (pe_tup (pa_cons (pv 7) pa_nil))) (pe_slice sl_tupA (pv 3) (po_some (pe_op op_add (pv 6) (pe_call GD hr (by rfl) T.draw T.kDraw bD .nil pass0 (pa_cons (pv 0) (pa_cons pe_int pa_nil))))) po_none))))))
      (pss_one (ps_ret (pv 3)))))), ?_⟩
    refine ⟨_, rfl, _, rfl, p, c, l, n, β, 6, 7, a, rfl, S, nlc, by omega, b2, b10, by decide, by decide, by decide, fun v1 Ds1 H1 b1 hR1 hl1 nl1 k1 ab1 ba1 S1 sb1 => ?_⟩
    refine rd_draw (p := p) rfl ev_c S1 nlc (by omega) (by decide) (by decide) fun r2 H2 hr2 S2 sb2 => ?_
    have R1 : RowAt H H1 p c l o n β b1 os v1 Ds1 8 := ⟨S1, sb1, sb1 _ _ ho op ol, ko.same S sb1 odd_ok.1, k1, hR1.mix, by omega⟩
    have R2 := R1.same S2 sb2 op ol
    refine ⟨_, _, rfl, ?_⟩
    have et : ∀ (v : V) (k : Nat) (H' : Hp), EvT (tTest (tOp rEq (tVar 4) (tC (.int (k : Int))))) [some (.ref p), some (.int β), some (.ref o), some v, some (.int (r2 : Int)), none, none, none] H' (decide (r2 = k)) := fun v k H' =>
      et_test (ev_is (ev_op (ev_var rfl) ev_c (rv_eq rfl)) (by
        congr 1
        refine decide_eq_decide.mpr ⟨fun y => ?_, fun y => by rw [y]⟩
        injection y with y
        omega))
    dsimp only
    refine q_cut (M := fun σ' H' => ∃ v Ds b, σ' = [some (.ref p), some (.int β), some (.ref o), some v, some (.int (r2 : Int)), none, none, none] ∧ a ≤ b ∧ b ≤ a + 2050 ∧ RowAt H H' p c l o n β b os v Ds 16) ?_ fun σ3 H3 hM => ?_
    · refine s_when (et v1 0 H2) (fun z H3 e3 => ?_) (fun z H3 e3 => ⟨v1, Ds1, _, rfl, by omega, by omega, (R2.ex e3).up (by decide)⟩)
      have R3 := R2.ex e3
      refine ⟨_, rfl, _, rfl, _, rfl, p, c, l, n, β, 6, 7, _, rfl, R3.s, nlc, by omega, b2, b10, by decide, by decide, by decide, fun v4 Ds4 H4 b4 hR4 hl4 nl4 k4 ab4 ba4 S4 sb4 => ?_⟩
      have R4 := R3.same S4 sb4 op ol
      obtain ⟨a1, xs1, rfl, h1, ka1⟩ := R4.k.tupI'
      obtain ⟨a4, xs4, rfl, h4, ka4⟩ := k4.tupI'
      have l4 := R4.len
      refine rd_cat h1 h4 ka1 ka4 (by omega) fun c5 H5 zs e5 h5 kz => ?_
      have R5 := R4.new (m2 := 16) e5 (.tup h5 kz) (R4.mix.app hR4.mix) (by rw [List.length_append]; omega)
      refine rd_draw (p := p) rfl ev_c R5.s nlc (by omega) (by decide) (by decide) fun r6 H6 hr6 S6 sb6 => ⟨_, rfl, ?_⟩
      have R6 := R5.same S6 sb6 op ol
      obtain ⟨a6, xs6, e6, h6, ka6⟩ := R6.k.tupI'
      cases e6
      refine rd_sl h6 ka6 fun b7 H7 ys e7 h7 k7 => ?_
      exact ⟨_, _, _, rfl, by omega, by omega, R6.new e7 (.tup h7 k7) (R6.mix.cut _ _) (Nat.le_trans (len_cut _ _ _) R6.len)⟩
    · obtain ⟨v3, Ds3, b3, rfl, ab3, ba3, R3⟩ := hM
      refine q_cut (M := fun σ' H' => ∃ v Ds b, σ' = [some (.ref p), some (.int β), some (.ref o), some v, some (.int (r2 : Int)), none, none, none] ∧ a ≤ b ∧ b ≤ a + 2050 ∧ RowAt H H' p c l o n β b os v Ds 17) ?_ fun σ4 H4 hM => ?_
      · refine s_when (et v3 1 H3) (fun z H4 e4 => ?_) (fun z H4 e4 => ⟨v3, Ds3, _, rfl, ab3, ba3, (R3.ex e4).up (by decide)⟩)
        have R4 := R3.ex e4
        refine ⟨_, rfl, (ep_tup (epa_cons (ep_tup (epa_cons (ep_tup (epa_cons (ep_tup (epa_cons (ep_str (by decide)) (epa_cons ep_int epa_nil)) (by simp)) epa_nil) (by simp)) (epa_cons (ep_tup (epa_cons (ep_str (by decide)) epa_nil) (by simp)) epa_nil)) (by simp)) epa_nil) (by simp)) H4 (Ex.refl _) _ fun v5 H5 e5 k5 => ?_⟩
        have R5 := R4.ex e5
        obtain ⟨a1, xs1, rfl, h1, ka1⟩ := R5.k.tupI'
        obtain ⟨a4, xs4, rfl, h4, ka4⟩ := (show Pt H5 v5 (.tuple [near2]) from k5).tupI'
        have l4 := R5.len
        refine rd_cat h1 h4 ka1 ka4 (by simp only [List.length_cons, List.length_nil]; omega) fun c5 H6 zs e6 h6 kz => ?_
        exact ⟨_, _, _, rfl, ab3, ba3, R5.new (m2 := 17) e6 (.tup h6 kz) (R5.mix.app fun d hd => .inl (by rw [List.mem_singleton.mp hd]; exact near2_ok)) (by rw [List.length_append]; simp only [List.length_cons, List.length_nil]; omega)⟩
      · obtain ⟨v4, Ds4, b4, rfl, ab4, ba4, R4⟩ := hM
        refine ⟨(by show (3:Nat) ≤ sizeLine; rw [sizeLine_eq]; omega), fun lr nlr => ?_⟩
        have e5 := Ex.new (o := .lst [.int 0, .int 1, .int 2]) nlr
        have o5 := off_of R4.s nlr
        refine rd_draw (p := p) rfl ev_c (R4.ex e5).s nlc (by omega) (by decide) (by decide) fun r6 H6 hr6 S6 sb6 => ?_
        have R6 := (R4.ex e5).same S6 sb6 op ol
        have g6 : H6 lr = some (.lst [.int 0, .int 1, .int 2]) := sb6 _ _ upd_same o5.1 o5.2
        have key : ∃ z : Nat, ([V.int 0, .int 1, .int 2])[r6]? = some (.int (z : Int)) ∧ z ≤ 2 := by
          have cc : r6 = 0 ∨ r6 = 1 ∨ r6 = 2 := by omega
          rcases cc with rfl | rfl | rfl
          · exact ⟨0, rfl, by decide⟩
          · exact ⟨1, rfl, by decide⟩
          · exact ⟨2, rfl, by decide⟩
        obtain ⟨z, hz, z2⟩ := key
        refine ⟨lr, _, _, _, rfl, rfl, SqL.of g6, atI_nat hz, _, rfl, by omega, by omega, ?_⟩
        rw [show ((z : Nat) : Int).toNat = z by omega]
        refine for_range (n := z) (fun i σ' H' => ∃ v Ds b x5 x6 x7, σ' = [some (.ref p), some (.int β), some (.ref o), some v, some (.int (r2 : Int)), x5, x6, x7] ∧ a ≤ b ∧ b ≤ a + 2100 + 10 * i ∧ RowAt H H' p c l o n β b os v Ds (17 + i)) ⟨v4, Ds4, _, _, _, _, rfl, by omega, by omega, R6⟩ (fun i σ' H7 hi hI => ?_) (fun σ' H7 hI => ?_)
        · obtain ⟨v7, Ds7, b7, x5, x6, x7, rfl, ab7, ba7, R7⟩ := hI
          obtain ⟨a7, xs7, rfl, h7, ka7⟩ := R7.k.tupI'
          have l7 := R7.len
          have hl7 := ka7.length
          refine rd_draw (p := p) rfl (ev_op (ev_lenT (K := K) (ev_var rfl) h7) ev_c rv_I0) R7.s nlc (by omega) (by omega) (by omega) fun r8 H8 hr8 S8 sb8 => ?_
          have R8 := R7.same S8 sb8 op ol
          refine ⟨_, rfl, _, rfl, p, c, l, o, n, _, os, rfl, R8.s, nlc, by omega, R8.ho, op, ol, by rw [R8.ko.length]; decide, by rw [R8.ko.length]; decide, fun i9 v9 H9 hv9 S9 sb9 nn9 => ⟨_, _, rfl, ?_⟩⟩
          have R9 := R8.same S9 sb9 op ol
          obtain ⟨d9, hd9, k9⟩ := R9.ko.get2 hv9
          have hm9 : d9 ∈ oddD := List.mem_of_getElem? hd9
          obtain ⟨ax, xsx, ex, hx9, kx9⟩ := R9.k.tupI'
          cases ex
          refine ⟨_, rfl, _, rfl, _, rfl, rd_sl hx9 kx9 fun bA HA ysA eA hA kA => ?_⟩
          refine ⟨_, rfl, (by show (1:Nat) ≤ sizeLine; rw [sizeLine_eq]; omega), fun tp ntp => ?_⟩
          have eB := Ex.new (o := .tup [v9]) ntp
          have kB : PtAll (upd HA tp (.tup [v9])) [v9] [d9] := .cons ((k9.ex eA).ex eB) .nil
          refine rd_cat (eB _ _ hA) upd_same (kA.ex eB) kB (by
            have := len_cut Ds7 none (some (r8 : Int))
            simp only [List.length_cons, List.length_nil]
            omega) fun cC HC zsC eC hC kC => ?_
          have RC := ((R9.ex eA).ex eB).ex eC
          have mixC : Mix β (cutD Ds7 none (some (r8 : Int)) ++ [d9]) := (R9.mix.cut _ _).app fun d hd => .inr (by rw [List.mem_singleton.mp hd]; exact hm9)
          refine ⟨_, rfl, _, rfl, rd_draw (p := p) rfl ev_c RC.s nlc (by omega) (by decide) (by decide) fun rD HD hrD SD sbD => ⟨_, _, rfl, rfl, _, rfl, ?_⟩⟩
          have RD := RC.same SD sbD op ol
          have kCD := (Pt.tup hC kC : Pt HC (.ref cC) (.tuple (cutD Ds7 none (some (r8 : Int)) ++ [d9]))).same RC.s sbD (by rw [okD]; exact mixC.ok)
          obtain ⟨ay, xsy, ey, hyD, kyD⟩ := RD.k.tupI'
          cases ey
          dsimp only [tNoPart]
          refine rd_sl hyD kyD fun bE HE ysE eE hE kE => ?_
          obtain ⟨az, xsz, ez, hz1, kz1⟩ := kCD.tupI'
          cases ez
          have lF : (cutD Ds7 none (some (r8 : Int))).length + (cutD Ds7 (some ((r8 : Int) + (rD : Int))) none).length ≤ Ds7.length := by
            unfold cutD
            rw [List.length_take, List.length_take, List.length_drop, List.length_drop]
            rw [HT.sIx_none, HT.sIx_none, HT.sIx_nat, show (r8 : Int) + (rD : Int) = ((r8 + rD : Nat) : Int) by omega, HT.sIx_nat]
            omega
          refine rd_cat (eE _ _ hz1) hE (kz1.ex eE) kE (by simp only [List.length_append, List.length_cons, List.length_nil]; omega) fun cF HF zsF eF hF kF => ?_
          exact ⟨_, _, _, _, _, _, rfl, by omega, by omega, (RD.ex eE).new (m2 := 17 + (i + 1)) eF (.tup hF kF) (mixC.app (R9.mix.cut _ _)) (by simp only [List.length_append, List.length_cons, List.length_nil]; omega)⟩
        · obtain ⟨v7, Ds7, b7, x5, x6, x7, rfl, ab7, ba7, R7⟩ := hI
          have := R7.len
          exact ⟨_, rfl, q v7 Ds7 H7 b7 R7.mix (by omega) R7.k (by omega) (by omega) R7.s R7.sb⟩
end
end Dt

/-! len(x), x of an own class with __len__. -/
namespace L2
open PySem PySem.Spec PyProof.Rows
section
variable {X : Cx} {k : Nat} {C g : Addr} {fd : FuncData} {ps : List Str} {sp : Sp}
theorem call_len_own (hs : PySem.W.findIn X.K (.ref C) "__len__" = some (some (.ref g))) (hf : PySem.W.isFn X.K (.ref g) = true) (F : FnOk X.prog X.w X.K X.mg X.base CX0 k g fd ps sp) (hr : Room (k + 1) X.A) (hb : Binds X.K fd ps []) :
    CallR X (.builtin "len") (fun xs H Q => ∃ a dx fs, xs = [.ref a] ∧ H a = some (.ins C dx fs) ∧ sp [.ref a] H (fun v H' => ∃ n : Nat, v = .int n ∧ n ≤ sizeLine ∧ Q (.int n) H') E0) := by
  intro pins s σ H xs us Q I r h
  obtain ⟨a, dx, fs, rfl, ha, h⟩ := h
  cases r with
  | cons r0 rr =>
    cases rr
    cases r0
    obtain ⟨mA, O, _⟩ := ins_get I.hok ha
    obtain ⟨od, J, _⟩ := O.look
    have hl : ([Value.ref a] ++ []).length = ps.length := by
      rw [← F.len _ _ _ _ h]
      rfl
    refine Calls.call_function_entry kind_len plain_len entry_len (args_len1 _) ?_
    unfold Builtin.«len»
    refine wpAny_bind (m := oneArg "len" _) (wpAny_pure ?_)
    refine wpAny_bind (m := callSpecial? (.ref a) (Str.ofString "__len__")) (PySem.W.special_fn I.kIn J hs (beq_iff_eq.mp hf) (wpAny_call (codeAny_mono (F.run X.A.in1 X.stack s H ⟨[.ref a], []⟩ [.ref a] [.ref a] _ E0 hr.in1 I.env0.in1 (by
      have := hb s [.ref a] I.kIn (by simpa using hl)
      simpa using this) (.cons rfl .nil) h) fun r s' hq => ?_)))
    cases r with
    | error er => exact False.elim hq
    | ok fl =>
      cases fl with
      | ret u =>
        obtain ⟨v, H', I3, rv, n, ev, hn, q3⟩ := I.after hq
        subst ev
        obtain ⟨t, rfl⟩ := rv
        refine wpAny_bind (wpAny_holding (wpAny_pure ?_))
        refine wpAny_bind (wpAny_letGo ?_)
        rw [sizeLine_eq] at hn
        show wpAny _ _ (if (n : Int) < 0 then _ else _) _ _ _
        rw [if_neg (by omega)]
        show wpAny _ _ (if (n : Int) ≥ 2 ^ 63 then _ else _) _ _ _
        rw [if_neg (by omega)]
        exact wpAny_bind (wpAny_mkInt (wpAny_pure ⟨_, rfl, ⟨.int n, H', I3.tok _, ⟨_, rfl⟩, q3⟩⟩))
      | next => exact False.elim hq
      | brk => exact False.elim hq
      | cont => exact False.elim hq
end
end L2

namespace Told
open PySem L2 Evl LamR LamX
abbrev stR : Stmt := PySem.Challenge.pw_shortspans_k05_whole_styles_refused.main.body.getD 56 (.Pass ⟨0, 0, 0, 0⟩)
def wdN : Nat → Str
  | 1 => "base"
  | 2 => "number"
  | 3 => "digits"
  | 4 => "range"
  | 5 => "rule"
  | 6 => "reader"
  | 7 => "manner"
  | 8 => "entry"
  | 9 => "name"
  | 10 => "text"
  | 11 => "other"
  | 12 => "many"
  | 13 => "missing"
  | _ => "nothing"
def fdN : Nat → Str
  | 5 => "place"
  | 8 => "place"
  | 12 => "most"
  | 13 => "name"
  | _ => "value"
/-- an exception of the class with number n, with its dict; what is told of it behind its word -/
def Says (ca : Nat → Addr) (H : Hp) (cls : Value) (d : Option Addr) (n : Nat) (vs : List V) : Prop :=
  cls = .ref (ca n) ∧ 1 ≤ n ∧ n ≤ 14 ∧ (((n = 11 ∨ n = 14) ∧ d = none ∧ vs = []) ∨ (n = 10 ∧ ∃ dd a b, d = some dd ∧ H dd = some (.xd [("word", b), ("line", a)]) ∧ vs = [a, b]) ∨
    (n ≠ 10 ∧ n ≠ 11 ∧ n ≠ 14 ∧ ∃ dd v, d = some dd ∧ H dd = some (.xd [(fdN n, v)]) ∧ vs = [v]))
/-- what _law_raised makes of a lambda's reading; fl: its own list, ahead of the call -/
def TTold (ca : Nat → Addr) : (XK → Hp → VK → Prop) → Hp → VK → Prop := fun tl H Q => ∀ fl, H fl = none →
  tl (fun cls d H' => Ex (upd H fl (.lst [])) H' ∧ ∃ n vs, Says ca H' cls d n vs ∧ ∀ rt H2, (upd H fl (.lst [])) rt = none → (∀ b o, H' b = some o → b ≠ fl → H2 b = some o) → H2 rt = some (.tup (.str (wdN n) :: vs)) → Q (.ref rt) H2)
    (upd H fl (.lst [])) (fun v H' => Ex (upd H fl (.lst [])) H' ∧ ∀ rt H2, (upd H fl (.lst [])) rt = none → Ex H' H2 → H2 rt = some (.tup []) → Q (.ref rt) H2)
structure TxT (mg : Str → Option Value) (ca : Nat → Addr) : Prop where
  own : ∀ i, i < 15 → mg (Toy.nmN i) = some (.ref (ca i))
  isi : mg "isinstance" = none
  len : mg "len" = none
/-- what the classes' rows say -/
structure RwT (K : PySem.W.Frag) (ca : Nat → Addr) : Prop where
  xc : ∀ i, 1 ≤ i → i ≤ 14 → XcC K (ca i)
  kit : ∀ n i, 1 ≤ n → n ≤ 14 → 1 ≤ i → i ≤ 14 → PySem.W.kitOne K (.ref (ca n)) (.ref (ca i)) = some (decide (i = n))
  exm : ∀ n, 1 ≤ n → n ≤ 14 → PySem.W.exmAny K (.ref (ca n)) [.ref (ca 0), .ref (ca 12), .ref (ca 13), .ref (ca 14)] = some true
  no : ∀ i, 1 ≤ i → i ≤ 14 → i ≠ 10 → i ≠ 11 → i ≠ 14 → PySem.W.findIn K (.ref (ca i)) (fdN i) = some none
  line : PySem.W.findIn K (.ref (ca 10)) "line" = some none
  word : PySem.W.findIn K (.ref (ca 10)) "word" = some none
theorem scR : FnScope ["asked", "caught", "found", "e"] ["asked"] (defScope stR) := ⟨rfl, rfl, rfl, by decide +kernel, rfl, by decide +kernel, by decide +kernel⟩
/-- behind the first i of the fourteen questions -/
def Mid (f a fl : Addr) (H3 : Hp) (n : Nat) (vs : List V) (i : Nat) : St → Hp → Prop := fun σ H2 => σ = [some (.ref f), some (.ref a), some (.ref fl), none] ∧ (∀ b o, H3 b = some o → b ≠ fl → H2 b = some o) ∧
  ((i < n ∧ H2 fl = some (.lst [])) ∨ (n ≤ i ∧ ∃ rt, H3 rt = none ∧ H2 fl = some (.lst [.ref rt]) ∧ H2 rt = some (.tup (.str (wdN n) :: vs))))
theorem mid_step {K : PySem.W.Frag} {ca : Nat → Addr} {f a fl : Addr} {H3 H2 : Hp} {n i : Nat} {vs : List V} {d : Option Addr} {te : TE} {D : Ends} {σ : St} (R : RwT K ca) (n1 : 1 ≤ n) (n14 : n ≤ 14) (i1 : 1 ≤ i) (i14 : i ≤ 14) (x : Toy.ExAt H3 a (ca n) d) (afl : a ≠ fl)
    (dfl : ∀ dd, d = some dd → dd ≠ fl) (hte : i = n → ∀ H2 : Hp, (∀ b o, H3 b = some o → b ≠ fl → H2 b = some o) → EvU te [some (.ref f), some (.ref a), some (.ref fl), none] H2 (.str (wdN n) :: vs)) (m : Mid f a fl H3 n vs (i - 1) σ H2) :
    tIfS (tB (tCB (rIsX K) (tCons (tVar 1) (tCons (tC (.ref (ca i))) tNil)))) (tDrop (tBM K "list" rAppend (tVar 2) (tCons te tNil))) tNext { D with nx := Mid f a fl H3 n vs i } σ H2 := by
  obtain ⟨rfl, kp, alt⟩ := m
  refine s_when (b := decide (i = n)) (et_B (ev_cb (ea_cons (ev_var rfl) (ea_cons ev_c ea_nil)) fun H4 e4 Q q => ⟨a, ca n, d, .ref (ca i), _, _, rfl, .own _, e4 _ _ (kp _ _ x.1 afl), fun dx z => ?_, R.xc n n1 n14, R.kit n i n1 n14 i1 i14, q _ (Ex.refl _)⟩)) (fun z H4 e4 => ?_) (fun z H4 e4 => ?_)
  · obtain ⟨fs, h⟩ := x.2 dx z
    exact ⟨fs, e4 _ _ (kp _ _ h (dfl dx z))⟩
  · have hin := of_decide_eq_true z
    rcases alt with ⟨_, hf⟩ | ⟨z2, _⟩
    · refine s_appU (e4 _ _ hf) (ev_var rfl) (hte hin H4 fun b o e nb => e4 _ _ (kp b o e nb)) (by simp) fun p H5 hp e5 h5 => ?_
      have pf : p ≠ fl := fun z => by
        rw [z, e4 _ _ hf] at hp
        cases hp
      refine ⟨rfl, fun b o e nb => ?_, .inr ⟨by omega, p, ?_, upd_same, ?_⟩⟩
      · rw [upd_ne nb]
        exact e5 _ _ (e4 _ _ (kp b o e nb))
      · cases q : H3 p with
        | none => rfl
        | some o =>
          have := e4 _ _ (kp p o q pf)
          rw [this] at hp
          cases hp
      · rw [upd_ne pf]
        exact h5
    · omega
  · have hin : ¬ i = n := of_decide_eq_false z
    refine ⟨rfl, fun b o e nb => e4 _ _ (kp b o e nb), ?_⟩
    rcases alt with ⟨z2, hf⟩ | ⟨z2, rt, h1, h2, h3⟩
    · exact .inl ⟨by omega, e4 _ _ hf⟩
    · exact .inr ⟨by omega, rt, h1, e4 _ _ h2, e4 _ _ h3⟩
section
variable {X : Cx} {q : Str} {g : Addr} {cdg : Value} {ca : Nat → Addr}
theorem raised_gives (T : TxT X.mg ca) (R : RwT X.K ca) : GivesR X ["asked", "caught", "found", "e"] "_law_raised" (defScope stR) g cdg (defBody stR) "asked" q (TTold ca) := by
  intro f c' s H Q tl act hc h
  let X0 : Cx := (cxOf C8.CX0 X.prog X.w X.K X.mg X.base ["asked", "caught", "found", "e"] "_law_raised" (defScope stR) g cdg X.A X.stack s H C8.E0).nox
  refine ⟨_, (pss_cons (ps_par (i := 1) (j := 2) (by rfl) scR.nd rfl rfl (by decide) rfl rfl (pa_cons pe_non (pa_cons (pe_lst pa_nil) pa_nil)) (by rfl)) (pss_cons (ps_try_asT (X := X0) (i := 3) (tb := fun W D σ H => σ[0]? = some (some (V.ref f)) ∧ H c' = some (CodeO c' q) ∧ ∃ (E : XK) (Q' : VK), (∀ cls d H', E cls d H' → W cls d σ H') ∧ (∀ v H', Q' v H' → D.nx σ H') ∧ tl E H Q') rfl rfl scR.nd rfl rfl (.cons (by rfl) (T.own 0 (by decide)) (by decide) (.cons (by rfl) (T.own 12 (by decide)) (by decide) (.cons (by rfl) (T.own 13 (by decide)) (by decide) (.cons (by rfl) (T.own 14 (by decide)) (by decide) .nil)))) rfl L2.takes0 (fun W pn xe tk _ => ⟨fun pins s' σ H' D I h' => (pss_one (ps_expr (act W pn xe _ _ tk))).run pins s' σ H' D I (show tDrop (fun σZ HZ Q => σZ[0]? = some (some (V.ref f)) ∧ HZ c' = some (CodeO c' q) ∧ ∃ (E : XK) (Q' : VK), (∀ cls d H', E cls d H' → W cls d σZ H') ∧ (∀ v H', Q' v H' → Q v H') ∧ tl E HZ Q') D σ H' from h')⟩) (fun a oe cls d pn hz hf => pss_one (ps_set (i := 1) scR.nd rfl (.inl rfl) (pv 3)))) (pss_cons (ps_if (pt_cmpR op_isN (pv 1) pe_non (nomark _)) (pss_one (ps_ret (pe_tup pa_nil))) pss_nil) (pss_cut (ps_if (pt_val (pe_callB call_isX (by rfl) T.isi (by decide +kernel) (pa_cons (pv 1) (pa_cons (pe_glob (by rfl) (T.own 1 (by decide)) (v := .ref (ca 1)) rfl) pa_nil)))) (pss_one (ps_expr (pe_bm PySem.F.plainAttrs_list PySem.F.slot_list_append PySem.F.type_list_append mt_append (pv 2) (pa_cons (pe_tup (pa_cons pe_str (pa_cons (pe_xfT (pv 1)) pa_nil))) pa_nil)))) pss_nil) (pss_cut (ps_if (pt_val (pe_callB call_isX (by rfl) T.isi (by decide +kernel) (pa_cons (pv 1) (pa_cons (pe_glob (by rfl) (T.own 2 (by decide)) (v := .ref (ca 2)) rfl) pa_nil)))) (pss_one (ps_expr (pe_bm PySem.F.plainAttrs_list PySem.F.slot_list_append PySem.F.type_list_append mt_append (pv 2) (pa_cons (pe_tup (pa_cons pe_str (pa_cons (pe_xfT (pv 1)) pa_nil))) pa_nil)))) pss_nil) (pss_cut (ps_if (pt_val (pe_callB call_isX (by rfl) T.isi (by decide +kernel) (pa_cons (pv 1) (pa_cons (pe_glob (by rfl) (T.own 3 (by decide)) (v := .ref (ca 3)) rfl) pa_nil)))) (pss_one (ps_expr (pe_bm PySem.F.plainAttrs_list PySem.F.slot_list_append PySem.F.type_list_append mt_append (pv 2) (pa_cons (pe_tup (pa_cons pe_str (pa_cons (pe_xfT (pv 1)) pa_nil))) pa_nil)))) pss_nil) (pss_cut (ps_if (pt_val (pe_callB call_isX (by rfl) T.isi (by decide +kernel) (pa_cons (pv 1) (pa_cons (pe_glob (by rfl) (T.own 4 (by decide)) (v := .ref (ca 4)) rfl) pa_nil)))) (pss_one (ps_expr (pe_bm PySem.F.plainAttrs_list PySem.F.slot_list_append PySem.F.type_list_append mt_append (pv 2) (pa_cons (pe_tup (pa_cons pe_str (pa_cons (pe_xfT (pv 1)) pa_nil))) pa_nil)))) pss_nil) (pss_cut (ps_if (pt_val (pe_callB call_isX (by rfl) T.isi (by decide +kernel) (pa_cons (pv 1) (pa_cons (pe_glob (by rfl) (T.own 5 (by decide)) (v := .ref (ca 5)) rfl) pa_nil)))) (pss_one (ps_expr (pe_bm PySem.F.plainAttrs_list PySem.F.slot_list_append PySem.F.type_list_append mt_append (pv 2) (pa_cons (pe_tup (pa_cons pe_str (pa_cons (pe_xfT (pv 1)) pa_nil))) pa_nil)))) pss_nil) (pss_cut (ps_if (pt_val (pe_callB call_isX (by rfl) T.isi (by decide +kernel) (pa_cons (pv 1) (pa_cons (pe_glob (by rfl) (T.own 6 (by decide)) (v := .ref (ca 6)) rfl) pa_nil)))) (pss_one (ps_expr (pe_bm PySem.F.plainAttrs_list PySem.F.slot_list_append PySem.F.type_list_append mt_append (pv 2) (pa_cons (pe_tup (pa_cons pe_str (pa_cons (pe_xfT (pv 1)) pa_nil))) pa_nil)))) pss_nil) (pss_cut (ps_if (pt_val (pe_callB call_isX (by rfl) T.isi (by decide +kernel) (pa_cons (pv 1) (pa_cons (pe_glob (by rfl) (T.own 7 (by decide)) (v := .ref (ca 7)) rfl) pa_nil)))) (pss_one (ps_expr (pe_bm PySem.F.plainAttrs_list PySem.F.slot_list_append PySem.F.type_list_append mt_append (pv 2) (pa_cons (pe_tup (pa_cons pe_str (pa_cons (pe_xfT (pv 1)) pa_nil))) pa_nil)))) pss_nil) (pss_cut (ps_if (pt_val (pe_callB call_isX (by rfl) T.isi (by decide +kernel) (pa_cons (pv 1) (pa_cons (pe_glob (by rfl) (T.own 8 (by decide)) (v := .ref (ca 8)) rfl) pa_nil)))) (pss_one (ps_expr (pe_bm PySem.F.plainAttrs_list PySem.F.slot_list_append PySem.F.type_list_append mt_append (pv 2) (pa_cons (pe_tup (pa_cons pe_str (pa_cons (pe_xfT (pv 1)) pa_nil))) pa_nil)))) pss_nil) (pss_cut (ps_if (pt_val (pe_callB call_isX (by rfl) T.isi (by decide +kernel) (pa_cons (pv 1) (pa_cons (pe_glob (by rfl) (T.own 9 (by decide)) (v := .ref (ca 9)) rfl) pa_nil)))) (pss_one (ps_expr (pe_bm PySem.F.plainAttrs_list PySem.F.slot_list_append PySem.F.type_list_append mt_append (pv 2) (pa_cons (pe_tup (pa_cons pe_str (pa_cons (pe_xfT (pv 1)) pa_nil))) pa_nil)))) pss_nil) (pss_cut (ps_if (pt_val (pe_callB call_isX (by rfl) T.isi (by decide +kernel) (pa_cons (pv 1) (pa_cons (pe_glob (by rfl) (T.own 10 (by decide)) (v := .ref (ca 10)) rfl) pa_nil)))) (pss_one (ps_expr (pe_bm PySem.F.plainAttrs_list PySem.F.slot_list_append PySem.F.type_list_append mt_append (pv 2) (pa_cons (pe_tup (pa_cons pe_str (pa_cons (pe_xfT (pv 1)) (pa_cons (pe_xfT (pv 1)) pa_nil)))) pa_nil)))) pss_nil) (pss_cut (ps_if (pt_val (pe_callB call_isX (by rfl) T.isi (by decide +kernel) (pa_cons (pv 1) (pa_cons (pe_glob (by rfl) (T.own 11 (by decide)) (v := .ref (ca 11)) rfl) pa_nil)))) (pss_one (ps_expr (pe_bm PySem.F.plainAttrs_list PySem.F.slot_list_append PySem.F.type_list_append mt_append (pv 2) (pa_cons (pe_tup (pa_cons pe_str pa_nil)) pa_nil)))) pss_nil) (pss_cut (ps_if (pt_val (pe_callB call_isX (by rfl) T.isi (by decide +kernel) (pa_cons (pv 1) (pa_cons (pe_glob (by rfl) (T.own 12 (by decide)) (v := .ref (ca 12)) rfl) pa_nil)))) (pss_one (ps_expr (pe_bm PySem.F.plainAttrs_list PySem.F.slot_list_append PySem.F.type_list_append mt_append (pv 2) (pa_cons (pe_tup (pa_cons pe_str (pa_cons (pe_xfT (pv 1)) pa_nil))) pa_nil)))) pss_nil) (pss_cut (ps_if (pt_val (pe_callB call_isX (by rfl) T.isi (by decide +kernel) (pa_cons (pv 1) (pa_cons (pe_glob (by rfl) (T.own 13 (by decide)) (v := .ref (ca 13)) rfl) pa_nil)))) (pss_one (ps_expr (pe_bm PySem.F.plainAttrs_list PySem.F.slot_list_append PySem.F.type_list_append mt_append (pv 2) (pa_cons (pe_tup (pa_cons pe_str (pa_cons (pe_xfT (pv 1)) pa_nil))) pa_nil)))) pss_nil) (pss_cut (ps_if (pt_val (pe_callB call_isX (by rfl) T.isi (by decide +kernel) (pa_cons (pv 1) (pa_cons (pe_glob (by rfl) (T.own 14 (by decide)) (v := .ref (ca 14)) rfl) pa_nil)))) (pss_one (ps_expr (pe_bm PySem.F.plainAttrs_list PySem.F.slot_list_append PySem.F.type_list_append mt_append (pv 2) (pa_cons (pe_tup (pa_cons pe_str pa_nil)) pa_nil)))) pss_nil) (pss_one (ps_ret (pe_ifExp (pt_cmpR op_eq (pe_callB call_len_seq (by rfl) T.len (by decide +kernel) (pa_cons (pv 2) pa_nil)) pe_int (nomark _)) (pe_ix ix_list (pv 2) pe_int (fun _ _ => rfl)) (pe_tup (pa_cons pe_str (pa_cons (pe_callB call_len_seq (by rfl) T.len (by decide +kernel) (pa_cons (pv 2) pa_nil)) pa_nil))))))))))))))))))))))), ?_⟩
  have z0 : (0 : Nat) ≤ sizeLine := Nat.zero_le _
  refine ⟨z0, fun fl hfl => ⟨_, _, rfl, ?_⟩⟩
  refine ⟨rfl, (Ex.new hfl) _ _ hc, _, _, ?hW, ?hQ, h fl hfl⟩
  case hQ =>
    rintro v H' ⟨ex, k⟩
    refine ⟨_, rfl, rfl, _, rfl, ite2 (fun _ => ?_) (fun z => absurd rfl z)⟩
    exact ⟨z0, fun rt hrt => k rt _ (fresh_back ex hrt) (Ex.new hrt) upd_same⟩
  case hW =>
    rintro cls d H' ⟨ex, n, vs, ⟨rfl, n1, n14, S⟩, k⟩
    refine ⟨true, R.exm n n1 n14, fun _ a ha => ?_, fun z => nomatch z⟩
    refine ⟨_, rfl, ?_⟩
    refine ⟨_, rfl, rfl, _, rfl, ite2 (fun z => absurd (of_decide_eq_true z) (fun z => nomatch z)) (fun _ => ?_)⟩
    have xH := Ex.new (o := exv a (.ref (ca n)) d) ha
    have hflH : H' fl = some (.lst []) := ex _ _ upd_same
    have afl : a ≠ fl := fun z => by
      rw [z, hflH] at ha
      cases ha
    have dfl : ∀ dd fs, H' dd = some (.xd fs) → dd ≠ fl := fun dd fs e z => by
      rw [z, hflH] at e
      cases e
    have XA : Toy.ExAt (upd H' a (exv a (.ref (ca n)) d)) a (ca n) d ∧ ∀ dd, d = some dd → dd ≠ fl := by
      rcases S with ⟨_, rfl, _⟩ | ⟨_, dd, va, vb, rfl, hd, _⟩ | ⟨_, _, _, dd, v, rfl, hd, _⟩
      · exact ⟨⟨upd_same, fun _ z => nomatch z⟩, fun _ z => nomatch z⟩
      · exact ⟨⟨upd_same, fun dx z => by cases z; exact ⟨_, xH _ _ hd⟩⟩, fun dx z => by cases z; exact dfl _ _ hd⟩
      · exact ⟨⟨upd_same, fun dx z => by cases z; exact ⟨_, xH _ _ hd⟩⟩, fun dx z => by cases z; exact dfl _ _ hd⟩
    obtain ⟨XA, dfl'⟩ := XA
    have m0 : Mid f a fl (upd H' a (exv a (.ref (ca n)) d)) n vs 0 [some (.ref f), some (.ref a), some (.ref fl), none] (upd H' a (exv a (.ref (ca n)) d)) := ⟨rfl, fun b o e _ => e, .inl ⟨n1, xH _ _ hflH⟩⟩
    generalize upd H' a (exv a (.ref (ca n)) d) = H3 at XA m0 xH ⊢
    have one : ∀ i, i = n → i ≠ 10 → i ≠ 11 → i ≠ 14 → ∀ H2 : Hp, (∀ b o, H3 b = some o → b ≠ fl → H2 b = some o) → EvU (tTup (tCons (tC (.str (wdN i))) (tCons (tXfT X.K (fdN i) (tVar 1)) tNil))) [some (.ref f), some (.ref a), some (.ref fl), none] H2 (.str (wdN n) :: vs) := by
      rintro i rfl z10 z11 z14 H2 kp
      rcases S with ⟨z | z, _⟩ | ⟨z, _⟩ | ⟨_, _, _, dd, v, rfl, hd, rfl⟩
      · exact absurd z z11
      · exact absurd z z14
      · exact absurd z z10
      · refine eu_tup (ea_cons ev_c (ea_cons ?_ ea_nil)) (by simp)
        exact Toy.ev_xf (ev_var rfl) (C := ca i) (d := dd) ⟨kp _ _ XA.1 afl, fun dx z => by cases z; exact ⟨_, kp _ _ (xH _ _ hd) (dfl _ _ hd)⟩⟩ (kp _ _ (xH _ _ hd) (dfl _ _ hd)) (R.xc i n1 n14) (R.no i n1 n14 z10 z11 z14) (by simp [List.lookup])
    have ten : 10 = n → ∀ H2 : Hp, (∀ b o, H3 b = some o → b ≠ fl → H2 b = some o) → EvU (tTup (tCons (tC (.str "text")) (tCons (tXfT X.K "line" (tVar 1)) (tCons (tXfT X.K "word" (tVar 1)) tNil)))) [some (.ref f), some (.ref a), some (.ref fl), none] H2 (.str (wdN n) :: vs) := by
      rintro rfl H2 kp
      rcases S with ⟨z | z, _⟩ | ⟨_, dd, va, vb, rfl, hd, rfl⟩ | ⟨z, _⟩
      · omega
      · omega
      · have xa : Toy.ExAt H2 a (ca 10) (some dd) := ⟨kp _ _ XA.1 afl, fun dx z => by cases z; exact ⟨_, kp _ _ (xH _ _ hd) (dfl _ _ hd)⟩⟩
        have hh := kp _ _ (xH _ _ hd) (dfl _ _ hd)
        exact eu_tup (ea_cons ev_c (ea_cons (Toy.ev_xf (ev_var rfl) xa hh (R.xc 10 n1 n14) R.line rfl) (ea_cons (Toy.ev_xf (ev_var rfl) xa hh (R.xc 10 n1 n14) R.word rfl) ea_nil))) (by simp)
      · exact absurd rfl z
    have none_ : ∀ i, i = n → (i = 11 ∨ i = 14) → ∀ H2 : Hp, (∀ b o, H3 b = some o → b ≠ fl → H2 b = some o) → EvU (tTup (tCons (tC (.str (wdN i))) tNil)) [some (.ref f), some (.ref a), some (.ref fl), none] H2 (.str (wdN n) :: vs) := by
      rintro i rfl zi H2 kp
      rcases S with ⟨_, _, rfl⟩ | ⟨z, _⟩ | ⟨_, z2, z3, _⟩
      · exact eu_tup (ea_cons ev_c ea_nil) (by simp)
      · omega
      · omega
    refine q_cut (mid_step (i := 1) R n1 n14 (by decide) (by decide) XA afl dfl' (fun z => one 1 z (by decide) (by decide) (by decide)) m0) (fun σ1 H1' m1 => ?_)
    refine q_cut (mid_step (i := 2) R n1 n14 (by decide) (by decide) XA afl dfl' (fun z => one 2 z (by decide) (by decide) (by decide)) m1) (fun σ2 H2' m2 => ?_)
    refine q_cut (mid_step (i := 3) R n1 n14 (by decide) (by decide) XA afl dfl' (fun z => one 3 z (by decide) (by decide) (by decide)) m2) (fun σ3 H3' m3 => ?_)
    refine q_cut (mid_step (i := 4) R n1 n14 (by decide) (by decide) XA afl dfl' (fun z => one 4 z (by decide) (by decide) (by decide)) m3) (fun σ4 H4' m4 => ?_)
    refine q_cut (mid_step (i := 5) R n1 n14 (by decide) (by decide) XA afl dfl' (fun z => one 5 z (by decide) (by decide) (by decide)) m4) (fun σ5 H5' m5 => ?_)
    refine q_cut (mid_step (i := 6) R n1 n14 (by decide) (by decide) XA afl dfl' (fun z => one 6 z (by decide) (by decide) (by decide)) m5) (fun σ6 H6' m6 => ?_)
    refine q_cut (mid_step (i := 7) R n1 n14 (by decide) (by decide) XA afl dfl' (fun z => one 7 z (by decide) (by decide) (by decide)) m6) (fun σ7 H7' m7 => ?_)
    refine q_cut (mid_step (i := 8) R n1 n14 (by decide) (by decide) XA afl dfl' (fun z => one 8 z (by decide) (by decide) (by decide)) m7) (fun σ8 H8' m8 => ?_)
    refine q_cut (mid_step (i := 9) R n1 n14 (by decide) (by decide) XA afl dfl' (fun z => one 9 z (by decide) (by decide) (by decide)) m8) (fun σ9 H9' m9 => ?_)
    refine q_cut (mid_step (i := 10) R n1 n14 (by decide) (by decide) XA afl dfl' (fun z => ten z) m9) (fun σ10 H10' m10 => ?_)
    refine q_cut (mid_step (i := 11) R n1 n14 (by decide) (by decide) XA afl dfl' (fun z => none_ 11 z (by decide)) m10) (fun σ11 H11' m11 => ?_)
    refine q_cut (mid_step (i := 12) R n1 n14 (by decide) (by decide) XA afl dfl' (fun z => one 12 z (by decide) (by decide) (by decide)) m11) (fun σ12 H12' m12 => ?_)
    refine q_cut (mid_step (i := 13) R n1 n14 (by decide) (by decide) XA afl dfl' (fun z => one 13 z (by decide) (by decide) (by decide)) m12) (fun σ13 H13' m13 => ?_)
    refine q_cut (mid_step (i := 14) R n1 n14 (by decide) (by decide) XA afl dfl' (fun z => none_ 14 z (by decide)) m13) (fun σ14 H14' m14 => ?_)
    obtain ⟨rfl, kp, alt⟩ := m14
    rcases alt with ⟨z, _⟩ | ⟨_, rt, h1, h2, h3⟩
    · omega
    · refine s_ret (v := .ref rt) (ev_if (b := true) (et_is (et_test (ev_op (ev_len (ev_var rfl) (sq_of h2)) ev_c (rv_eq rfl))) (decide_eq_true rfl)) (fun _ => ev_op (ev_var rfl) ev_c (rv_ixL (sq_of h2) (atI_nat (j := 0) rfl))) (fun z => nomatch z)) fun H6 e6 => ?_
      exact k rt H6 (fresh_back (ex.trans xH) h1) (fun b o e nb => e6 _ _ (kp b o (xH b o e) nb)) (e6 _ _ h3)
end
end Told

/-! What lies at an address of the written part, told by the part itself. -/
namespace L2
open PySem PySem.Spec PyProof.Rows ExM
open PySem (cStatics)
open PySem.W (Frag findIn typeIn keepIn subIn nsIn codeIn ksFn ks_superIn excTail)
/-! what lies at an address of the written part -/
def oO (K : Frag) (a : Addr) : Obj := (K.lookup a).getD default
def fO (K : Frag) (a : Addr) : FuncData := match (oO K a).data with
  | .func fd => fd
  | _ => default
def cO (K : Frag) (a : Addr) : ClassData := match (oO K a).data with
  | .cls cd => cd
  | _ => default
def vO (K : Frag) (a : Addr) : Array Value := match (oO K a).data with
  | .fields vs => vs
  | _ => #[]
def sO (v : Option Value) : Str × Tok := match v with
  | some (.str x t) => (x, t)
  | _ => default
def slO (K : Frag) (a : Addr) (i : Nat) : Option Value := ((oO K a).slots[i]?).getD none
theorem cfs_mkO {K : Frag} {prog : Program} {C f cc cda : Addr} {qual : Str} {params : Arguments} {body : List Stmt} {scope : Scope} {bmB : List Value} {B newId initId : String}
    (lc : K.lookup C = some (excClassObj (cO K C).name (cO K C).qualname C (cO K C).ns (cO K C).bases (cO K C).mro.tail true (cO K C).slotNames (cO K C).subclasses (cO K C).abstract (cO K C).collection (oO K C).dict (slO K C 0) (slO K C 1) (slO K C 2) (slO K C 3) (slO K C 5) newId))
    (iC : findIn K (.ref C) "__init__" = some (some (.ref f)))
    (lf : K.lookup f = some ⟨(oO K f).cls, (oO K f).dict, .func (ksFn "__init__" qual params body scope .none (fO K f).kwdefaults (fO K f).doc (fO K f).pyModule (fO K f).annotations (.ref cda) (fO K f).closureTuple cc), (oO K f).slots⟩)
    (lcd : K.lookup cda = some ⟨(oO K cda).cls, (oO K cda).dict, .fields (vO K cda), (oO K cda).slots⟩) (lcc : K.lookup cc = some ⟨(oO K cc).cls, (oO K cc).dict, .cell (some (.ref C)), (oO K cc).slots⟩)
    (sa : findIn K (.ref C) "__setattr__" = some (some (.builtin "object.__setattr__"))) (tF : typeIn K (.ref f) = some (.type "function")) (kC : keepIn K (.ref C) = true) (exC : subIn K (.ref C) (.type "BaseException") = some true) (bC : subIn K (.ref C) (.type B) = some true)
    (tyC : typeIn K (.ref C) = some (.type "type")) (op : nsIn K cStatics "thirdparty.any" = some none) (cf : codeIn K (.ref cda) qual = true)
    (al : ks_superIn K C C "__init__" = some (some (.builtin initId))) (tl : excTail bmB (cO K C).mro.tail = true) (v2 : (vO K cda)[2]? = some (.str (sO (vO K cda)[2]?).1 (sO (vO K cda)[2]?).2)) (hf : ((prog.main.file : Str) == (sO (vO K cda)[2]?).1) = true) (top : (prog.main.scope.names.lookup ("super" : Str)).isSome = false) :
    Cfs K prog C f cc cda qual params body scope bmB B newId initId :=
  cfs_mk lc iC lf lcd lcc sa tF kC exC bC tyC op cf al tl v2 hf top
end L2
namespace L2
open PySem
/-- a def as the top has written it -/
def fdX (K : PySem.W.Frag) (name : Str) (st : Stmt) (f : Addr) : FuncData := PySem.W.fnOf name name (defArgs st) (defBody st) (defScope st) .none (fO K f).kwdefaults (fO K f).doc (fO K f).pyModule (fO K f).annotations (fO K f).code (fO K f).closureTuple
end L2

section
open PySem PySem.W PyProof.Rows
set_option maxRecDepth 100000
set_option maxHeartbeats 0
open_top hd05 for PySem.Challenge.rw_shortspans_k05_whole_styles_refused
end
/-! k05: what the top has written, at its addresses. -/
namespace KH05
open PySem L2 Evl ExM Dg Dt
abbrev P05 : Program := PySem.Challenge.pw_shortspans_k05_whole_styles_refused
noncomputable abbrev K05 : Params → PySem.W.Frag := hd05.heap_39
def ca05 : Nat → Addr
  | 0 => 31
  | 1 => 53
  | 2 => 74
  | 3 => 95
  | 4 => 116
  | 5 => 137
  | 6 => 158
  | 7 => 179
  | 8 => 200
  | 9 => 221
  | 10 => 242
  | 11 => 263
  | 12 => 284
  | 13 => 306
  | 14 => 328
  | _ => 0
section
variable (p : Params) {mg : Str → Option Value}
theorem cfs1 : Cfs (K05 p) P05 53 50 38 49 "BadBase.__init__" (defArgs (inClass (top 3) 0)) (defBody (inClass (top 3) 0)) (defScope (inClass (top 3) 0)) [.type "ValueError", .type "Exception", .type "BaseException", .type "object"] "ValueError" "ValueError.__new__" "ValueError.__init__" :=
  cfs_mkO (by kernel_rfl) (by kernel_rfl) (by kernel_rfl) (by kernel_rfl) (by kernel_rfl) (by kernel_rfl) (by kernel_rfl) (by kernel_rfl) (by kernel_rfl) (by kernel_rfl) (by kernel_rfl) (by kernel_rfl) (by kernel_rfl) (by kernel_rfl) (by kernel_rfl) (by kernel_rfl) (by kernel_rfl) (by kernel_rfl)
theorem mk1 : Mks P05 (K05 p) mg 53 ["value"] :=
  mks_one (cfs1 p) base_VE rfl rfl rfl ⟨rfl, by decide +kernel, by decide +kernel, rfl, rfl, ⟨_, rfl, rfl⟩, by decide +kernel⟩ (fun L cd => ⟨rfl, _, rfl⟩) (by kernel_rfl)
    (fun a v h x kV doc pm an cdv ct => match h with | .pos _ => by kernel_rfl | .kw1 => by kernel_rfl)
theorem cfs2 : Cfs (K05 p) P05 74 71 59 70 "BadNumber.__init__" (defArgs (inClass (top 4) 0)) (defBody (inClass (top 4) 0)) (defScope (inClass (top 4) 0)) [.type "ValueError", .type "Exception", .type "BaseException", .type "object"] "ValueError" "ValueError.__new__" "ValueError.__init__" :=
  cfs_mkO (by kernel_rfl) (by kernel_rfl) (by kernel_rfl) (by kernel_rfl) (by kernel_rfl) (by kernel_rfl) (by kernel_rfl) (by kernel_rfl) (by kernel_rfl) (by kernel_rfl) (by kernel_rfl) (by kernel_rfl) (by kernel_rfl) (by kernel_rfl) (by kernel_rfl) (by kernel_rfl) (by kernel_rfl) (by kernel_rfl)
theorem mk2 : Mks P05 (K05 p) mg 74 ["value"] :=
  mks_one (cfs2 p) base_VE rfl rfl rfl ⟨rfl, by decide +kernel, by decide +kernel, rfl, rfl, ⟨_, rfl, rfl⟩, by decide +kernel⟩ (fun L cd => ⟨rfl, _, rfl⟩) (by kernel_rfl)
    (fun a v h x kV doc pm an cdv ct => match h with | .pos _ => by kernel_rfl | .kw1 => by kernel_rfl)
theorem cfs3 : Cfs (K05 p) P05 95 92 80 91 "BadDigits.__init__" (defArgs (inClass (top 5) 0)) (defBody (inClass (top 5) 0)) (defScope (inClass (top 5) 0)) [.type "ValueError", .type "Exception", .type "BaseException", .type "object"] "ValueError" "ValueError.__new__" "ValueError.__init__" :=
  cfs_mkO (by kernel_rfl) (by kernel_rfl) (by kernel_rfl) (by kernel_rfl) (by kernel_rfl) (by kernel_rfl) (by kernel_rfl) (by kernel_rfl) (by kernel_rfl) (by kernel_rfl) (by kernel_rfl) (by kernel_rfl) (by kernel_rfl) (by kernel_rfl) (by kernel_rfl) (by kernel_rfl) (by kernel_rfl) (by kernel_rfl)
theorem mk3 : Mks P05 (K05 p) mg 95 ["value"] :=
  mks_one (cfs3 p) base_VE rfl rfl rfl ⟨rfl, by decide +kernel, by decide +kernel, rfl, rfl, ⟨_, rfl, rfl⟩, by decide +kernel⟩ (fun L cd => ⟨rfl, _, rfl⟩) (by kernel_rfl)
    (fun a v h x kV doc pm an cdv ct => match h with | .pos _ => by kernel_rfl | .kw1 => by kernel_rfl)
theorem cfs4 : Cfs (K05 p) P05 116 113 101 112 "BadRange.__init__" (defArgs (inClass (top 6) 0)) (defBody (inClass (top 6) 0)) (defScope (inClass (top 6) 0)) [.type "ValueError", .type "Exception", .type "BaseException", .type "object"] "ValueError" "ValueError.__new__" "ValueError.__init__" :=
  cfs_mkO (by kernel_rfl) (by kernel_rfl) (by kernel_rfl) (by kernel_rfl) (by kernel_rfl) (by kernel_rfl) (by kernel_rfl) (by kernel_rfl) (by kernel_rfl) (by kernel_rfl) (by kernel_rfl) (by kernel_rfl) (by kernel_rfl) (by kernel_rfl) (by kernel_rfl) (by kernel_rfl) (by kernel_rfl) (by kernel_rfl)
theorem mk4 : Mks P05 (K05 p) mg 116 ["value"] :=
  mks_one (cfs4 p) base_VE rfl rfl rfl ⟨rfl, by decide +kernel, by decide +kernel, rfl, rfl, ⟨_, rfl, rfl⟩, by decide +kernel⟩ (fun L cd => ⟨rfl, _, rfl⟩) (by kernel_rfl)
    (fun a v h x kV doc pm an cdv ct => match h with | .pos _ => by kernel_rfl | .kw1 => by kernel_rfl)
theorem cfs5 : Cfs (K05 p) P05 137 134 122 133 "BadRule.__init__" (defArgs (inClass (top 7) 0)) (defBody (inClass (top 7) 0)) (defScope (inClass (top 7) 0)) [.type "ValueError", .type "Exception", .type "BaseException", .type "object"] "ValueError" "ValueError.__new__" "ValueError.__init__" :=
  cfs_mkO (by kernel_rfl) (by kernel_rfl) (by kernel_rfl) (by kernel_rfl) (by kernel_rfl) (by kernel_rfl) (by kernel_rfl) (by kernel_rfl) (by kernel_rfl) (by kernel_rfl) (by kernel_rfl) (by kernel_rfl) (by kernel_rfl) (by kernel_rfl) (by kernel_rfl) (by kernel_rfl) (by kernel_rfl) (by kernel_rfl)
theorem mk5 : Mks P05 (K05 p) mg 137 ["place"] :=
  mks_one (cfs5 p) base_VE rfl rfl rfl ⟨rfl, by decide +kernel, by decide +kernel, rfl, rfl, ⟨_, rfl, rfl⟩, by decide +kernel⟩ (fun L cd => ⟨rfl, _, rfl⟩) (by kernel_rfl)
    (fun a v h x kV doc pm an cdv ct => match h with | .pos _ => by kernel_rfl | .kw1 => by kernel_rfl)
theorem cfs6 : Cfs (K05 p) P05 158 155 143 154 "BadReader.__init__" (defArgs (inClass (top 8) 0)) (defBody (inClass (top 8) 0)) (defScope (inClass (top 8) 0)) [.type "ValueError", .type "Exception", .type "BaseException", .type "object"] "ValueError" "ValueError.__new__" "ValueError.__init__" :=
  cfs_mkO (by kernel_rfl) (by kernel_rfl) (by kernel_rfl) (by kernel_rfl) (by kernel_rfl) (by kernel_rfl) (by kernel_rfl) (by kernel_rfl) (by kernel_rfl) (by kernel_rfl) (by kernel_rfl) (by kernel_rfl) (by kernel_rfl) (by kernel_rfl) (by kernel_rfl) (by kernel_rfl) (by kernel_rfl) (by kernel_rfl)
theorem mk6 : Mks P05 (K05 p) mg 158 ["value"] :=
  mks_one (cfs6 p) base_VE rfl rfl rfl ⟨rfl, by decide +kernel, by decide +kernel, rfl, rfl, ⟨_, rfl, rfl⟩, by decide +kernel⟩ (fun L cd => ⟨rfl, _, rfl⟩) (by kernel_rfl)
    (fun a v h x kV doc pm an cdv ct => match h with | .pos _ => by kernel_rfl | .kw1 => by kernel_rfl)
theorem cfs7 : Cfs (K05 p) P05 179 176 164 175 "BadManner.__init__" (defArgs (inClass (top 9) 0)) (defBody (inClass (top 9) 0)) (defScope (inClass (top 9) 0)) [.type "ValueError", .type "Exception", .type "BaseException", .type "object"] "ValueError" "ValueError.__new__" "ValueError.__init__" :=
  cfs_mkO (by kernel_rfl) (by kernel_rfl) (by kernel_rfl) (by kernel_rfl) (by kernel_rfl) (by kernel_rfl) (by kernel_rfl) (by kernel_rfl) (by kernel_rfl) (by kernel_rfl) (by kernel_rfl) (by kernel_rfl) (by kernel_rfl) (by kernel_rfl) (by kernel_rfl) (by kernel_rfl) (by kernel_rfl) (by kernel_rfl)
theorem mk7 : Mks P05 (K05 p) mg 179 ["value"] :=
  mks_one (cfs7 p) base_VE rfl rfl rfl ⟨rfl, by decide +kernel, by decide +kernel, rfl, rfl, ⟨_, rfl, rfl⟩, by decide +kernel⟩ (fun L cd => ⟨rfl, _, rfl⟩) (by kernel_rfl)
    (fun a v h x kV doc pm an cdv ct => match h with | .pos _ => by kernel_rfl | .kw1 => by kernel_rfl)
theorem cfs8 : Cfs (K05 p) P05 200 197 185 196 "BadEntry.__init__" (defArgs (inClass (top 10) 0)) (defBody (inClass (top 10) 0)) (defScope (inClass (top 10) 0)) [.type "ValueError", .type "Exception", .type "BaseException", .type "object"] "ValueError" "ValueError.__new__" "ValueError.__init__" :=
  cfs_mkO (by kernel_rfl) (by kernel_rfl) (by kernel_rfl) (by kernel_rfl) (by kernel_rfl) (by kernel_rfl) (by kernel_rfl) (by kernel_rfl) (by kernel_rfl) (by kernel_rfl) (by kernel_rfl) (by kernel_rfl) (by kernel_rfl) (by kernel_rfl) (by kernel_rfl) (by kernel_rfl) (by kernel_rfl) (by kernel_rfl)
theorem mk8 : Mks P05 (K05 p) mg 200 ["place"] :=
  mks_one (cfs8 p) base_VE rfl rfl rfl ⟨rfl, by decide +kernel, by decide +kernel, rfl, rfl, ⟨_, rfl, rfl⟩, by decide +kernel⟩ (fun L cd => ⟨rfl, _, rfl⟩) (by kernel_rfl)
    (fun a v h x kV doc pm an cdv ct => match h with | .pos _ => by kernel_rfl | .kw1 => by kernel_rfl)
theorem cfs9 : Cfs (K05 p) P05 221 218 206 217 "BadName.__init__" (defArgs (inClass (top 11) 0)) (defBody (inClass (top 11) 0)) (defScope (inClass (top 11) 0)) [.type "ValueError", .type "Exception", .type "BaseException", .type "object"] "ValueError" "ValueError.__new__" "ValueError.__init__" :=
  cfs_mkO (by kernel_rfl) (by kernel_rfl) (by kernel_rfl) (by kernel_rfl) (by kernel_rfl) (by kernel_rfl) (by kernel_rfl) (by kernel_rfl) (by kernel_rfl) (by kernel_rfl) (by kernel_rfl) (by kernel_rfl) (by kernel_rfl) (by kernel_rfl) (by kernel_rfl) (by kernel_rfl) (by kernel_rfl) (by kernel_rfl)
theorem mk9 : Mks P05 (K05 p) mg 221 ["value"] :=
  mks_one (cfs9 p) base_VE rfl rfl rfl ⟨rfl, by decide +kernel, by decide +kernel, rfl, rfl, ⟨_, rfl, rfl⟩, by decide +kernel⟩ (fun L cd => ⟨rfl, _, rfl⟩) (by kernel_rfl)
    (fun a v h x kV doc pm an cdv ct => match h with | .pos _ => by kernel_rfl | .kw1 => by kernel_rfl)
theorem cfs10 : Cfs (K05 p) P05 242 239 227 238 "BadText.__init__" (defArgs (inClass (top 12) 0)) (defBody (inClass (top 12) 0)) (defScope (inClass (top 12) 0)) [.type "ValueError", .type "Exception", .type "BaseException", .type "object"] "ValueError" "ValueError.__new__" "ValueError.__init__" :=
  cfs_mkO (by kernel_rfl) (by kernel_rfl) (by kernel_rfl) (by kernel_rfl) (by kernel_rfl) (by kernel_rfl) (by kernel_rfl) (by kernel_rfl) (by kernel_rfl) (by kernel_rfl) (by kernel_rfl) (by kernel_rfl) (by kernel_rfl) (by kernel_rfl) (by kernel_rfl) (by kernel_rfl) (by kernel_rfl) (by kernel_rfl)
theorem cfs11 : Cfs (K05 p) P05 263 260 248 259 "OtherBase.__init__" (defArgs (inClass (top 13) 0)) (defBody (inClass (top 13) 0)) (defScope (inClass (top 13) 0)) [.type "ValueError", .type "Exception", .type "BaseException", .type "object"] "ValueError" "ValueError.__new__" "ValueError.__init__" :=
  cfs_mkO (by kernel_rfl) (by kernel_rfl) (by kernel_rfl) (by kernel_rfl) (by kernel_rfl) (by kernel_rfl) (by kernel_rfl) (by kernel_rfl) (by kernel_rfl) (by kernel_rfl) (by kernel_rfl) (by kernel_rfl) (by kernel_rfl) (by kernel_rfl) (by kernel_rfl) (by kernel_rfl) (by kernel_rfl) (by kernel_rfl)
theorem cfs12 : Cfs (K05 p) P05 284 281 269 280 "TooMany.__init__" (defArgs (inClass (top 14) 0)) (defBody (inClass (top 14) 0)) (defScope (inClass (top 14) 0)) [.type "OverflowError", .type "ArithmeticError", .type "Exception", .type "BaseException", .type "object"] "OverflowError" "OverflowError.__new__" "OverflowError.__init__" :=
  cfs_mkO (by kernel_rfl) (by kernel_rfl) (by kernel_rfl) (by kernel_rfl) (by kernel_rfl) (by kernel_rfl) (by kernel_rfl) (by kernel_rfl) (by kernel_rfl) (by kernel_rfl) (by kernel_rfl) (by kernel_rfl) (by kernel_rfl) (by kernel_rfl) (by kernel_rfl) (by kernel_rfl) (by kernel_rfl) (by kernel_rfl)
theorem mk12 : Mks P05 (K05 p) mg 284 ["most"] :=
  mks_one (cfs12 p) base_OE rfl rfl rfl ⟨rfl, by decide +kernel, by decide +kernel, rfl, rfl, ⟨_, rfl, rfl⟩, by decide +kernel⟩ (fun L cd => ⟨rfl, _, rfl⟩) (by kernel_rfl)
    (fun a v h x kV doc pm an cdv ct => match h with | .pos _ => by kernel_rfl | .kw1 => by kernel_rfl)
theorem cfs13 : Cfs (K05 p) P05 306 303 291 302 "Missing.__init__" (defArgs (inClass (top 15) 0)) (defBody (inClass (top 15) 0)) (defScope (inClass (top 15) 0)) [.type "KeyError", .type "LookupError", .type "Exception", .type "BaseException", .type "object"] "KeyError" "LookupError.__new__" "KeyError.__init__" :=
  cfs_mkO (by kernel_rfl) (by kernel_rfl) (by kernel_rfl) (by kernel_rfl) (by kernel_rfl) (by kernel_rfl) (by kernel_rfl) (by kernel_rfl) (by kernel_rfl) (by kernel_rfl) (by kernel_rfl) (by kernel_rfl) (by kernel_rfl) (by kernel_rfl) (by kernel_rfl) (by kernel_rfl) (by kernel_rfl) (by kernel_rfl)
theorem mk13 : Mks P05 (K05 p) mg 306 ["name"] :=
  mks_one (cfs13 p) base_KE rfl rfl rfl ⟨rfl, by decide +kernel, by decide +kernel, rfl, rfl, ⟨_, rfl, rfl⟩, by decide +kernel⟩ (fun L cd => ⟨rfl, _, rfl⟩) (by kernel_rfl)
    (fun a v h x kV doc pm an cdv ct => match h with | .pos _ => by kernel_rfl | .kw1 => by kernel_rfl)
theorem cfs14 : Cfs (K05 p) P05 328 325 313 324 "NothingLeft.__init__" (defArgs (inClass (top 16) 0)) (defBody (inClass (top 16) 0)) (defScope (inClass (top 16) 0)) [.type "RuntimeError", .type "Exception", .type "BaseException", .type "object"] "RuntimeError" "RuntimeError.__new__" "RuntimeError.__init__" :=
  cfs_mkO (by kernel_rfl) (by kernel_rfl) (by kernel_rfl) (by kernel_rfl) (by kernel_rfl) (by kernel_rfl) (by kernel_rfl) (by kernel_rfl) (by kernel_rfl) (by kernel_rfl) (by kernel_rfl) (by kernel_rfl) (by kernel_rfl) (by kernel_rfl) (by kernel_rfl) (by kernel_rfl) (by kernel_rfl) (by kernel_rfl)
theorem rwT05 : Told.RwT (K05 p) ca05 where
  xc := fun i h1 h14 => by
    have c : i = 1 ∨ i = 2 ∨ i = 3 ∨ i = 4 ∨ i = 5 ∨ i = 6 ∨ i = 7 ∨ i = 8 ∨ i = 9 ∨ i = 10 ∨ i = 11 ∨ i = 12 ∨ i = 13 ∨ i = 14 := by omega
    rcases c with rfl | rfl | rfl | rfl | rfl | rfl | rfl | rfl | rfl | rfl | rfl | rfl | rfl | rfl
    · exact xcB_ok (show xcB (K05 p) 53 = true by kernel_rfl)
    · exact xcB_ok (show xcB (K05 p) 74 = true by kernel_rfl)
    · exact xcB_ok (show xcB (K05 p) 95 = true by kernel_rfl)
    · exact xcB_ok (show xcB (K05 p) 116 = true by kernel_rfl)
    · exact xcB_ok (show xcB (K05 p) 137 = true by kernel_rfl)
    · exact xcB_ok (show xcB (K05 p) 158 = true by kernel_rfl)
    · exact xcB_ok (show xcB (K05 p) 179 = true by kernel_rfl)
    · exact xcB_ok (show xcB (K05 p) 200 = true by kernel_rfl)
    · exact xcB_ok (show xcB (K05 p) 221 = true by kernel_rfl)
    · exact xcB_ok (show xcB (K05 p) 242 = true by kernel_rfl)
    · exact xcB_ok (show xcB (K05 p) 263 = true by kernel_rfl)
    · exact xcB_ok (show xcB (K05 p) 284 = true by kernel_rfl)
    · exact xcB_ok (show xcB (K05 p) 306 = true by kernel_rfl)
    · exact xcB_ok (show xcB (K05 p) 328 = true by kernel_rfl)
  kit := fun n i n1 n14 i1 i14 => by
    have h : ((List.range 14).all fun n => (List.range 14).all fun i => decide (PySem.W.kitOne (K05 p) (.ref (ca05 (n + 1))) (.ref (ca05 (i + 1))) = some (decide (i + 1 = n + 1)))) = true := by kernel_rfl
    have h1 := List.all_eq_true.mp h (n - 1) (List.mem_range.mpr (by omega))
    have h2 := of_decide_eq_true (List.all_eq_true.mp h1 (i - 1) (List.mem_range.mpr (by omega)))
    rw [show n - 1 + 1 = n by omega, show i - 1 + 1 = i by omega] at h2
    exact h2
  exm := fun n n1 n14 => by
    have h : ((List.range 14).all fun n => decide (PySem.W.exmAny (K05 p) (.ref (ca05 (n + 1))) [.ref (ca05 0), .ref (ca05 12), .ref (ca05 13), .ref (ca05 14)] = some true)) = true := by kernel_rfl
    have h2 := of_decide_eq_true (List.all_eq_true.mp h (n - 1) (List.mem_range.mpr (by omega)))
    rw [show n - 1 + 1 = n by omega] at h2
    exact h2
  no := fun i i1 i14 z10 z11 z14 => by
    have c : i = 1 ∨ i = 2 ∨ i = 3 ∨ i = 4 ∨ i = 5 ∨ i = 6 ∨ i = 7 ∨ i = 8 ∨ i = 9 ∨ i = 10 ∨ i = 11 ∨ i = 12 ∨ i = 13 ∨ i = 14 := by omega
    rcases c with rfl | rfl | rfl | rfl | rfl | rfl | rfl | rfl | rfl | rfl | rfl | rfl | rfl | rfl
    · exact (show PySem.W.findIn (K05 p) (.ref 53) "value" = some none by kernel_rfl)
    · exact (show PySem.W.findIn (K05 p) (.ref 74) "value" = some none by kernel_rfl)
    · exact (show PySem.W.findIn (K05 p) (.ref 95) "value" = some none by kernel_rfl)
    · exact (show PySem.W.findIn (K05 p) (.ref 116) "value" = some none by kernel_rfl)
    · exact (show PySem.W.findIn (K05 p) (.ref 137) "place" = some none by kernel_rfl)
    · exact (show PySem.W.findIn (K05 p) (.ref 158) "value" = some none by kernel_rfl)
    · exact (show PySem.W.findIn (K05 p) (.ref 179) "value" = some none by kernel_rfl)
    · exact (show PySem.W.findIn (K05 p) (.ref 200) "place" = some none by kernel_rfl)
    · exact (show PySem.W.findIn (K05 p) (.ref 221) "value" = some none by kernel_rfl)
    · exact absurd rfl z10
    · exact absurd rfl z11
    · exact (show PySem.W.findIn (K05 p) (.ref 284) "most" = some none by kernel_rfl)
    · exact (show PySem.W.findIn (K05 p) (.ref 306) "name" = some none by kernel_rfl)
    · exact absurd rfl z14
  line := (show PySem.W.findIn (K05 p) (.ref 242) "line" = some none by kernel_rfl)
  word := (show PySem.W.findIn (K05 p) (.ref 242) "word" = some none by kernel_rfl)
theorem kp_is_integer : PySem.W.keepIn (K05 p) (.ref 338) = true := by kernel_rfl
theorem fn_is_integer : Fun (K05 p) "is_integer" "is_integer" (top 21) 338 (fdX (K05 p) "is_integer" (top 21) 338) :=
  fun_mk (st := top 21) (show (K05 p).lookup 338 = some ⟨(oO (K05 p) 338).cls, (oO (K05 p) 338).dict, .func (fdX (K05 p) "is_integer" (top 21) 338), (oO (K05 p) 338).slots⟩ by kernel_rfl) (show PySem.W.codeIn (K05 p) (fO (K05 p) 338).code "is_integer" = true by kernel_rfl) (kp_is_integer p)
theorem bd_is_integer : Binds (K05 p) (fdX (K05 p) "is_integer" (top 21) 338) ["value"] [] := (fn_is_integer p).binds (ps := ["value"]) fun _ _ _ _ _ _ us hl => match us, hl with | [_], _ => rfl
theorem kp_is_figures : PySem.W.keepIn (K05 p) (.ref 350) = true := by kernel_rfl
theorem fn_is_figures : Fun (K05 p) "is_figures" "is_figures" (top 23) 350 (fdX (K05 p) "is_figures" (top 23) 350) :=
  fun_mk (st := top 23) (show (K05 p).lookup 350 = some ⟨(oO (K05 p) 350).cls, (oO (K05 p) 350).dict, .func (fdX (K05 p) "is_figures" (top 23) 350), (oO (K05 p) 350).slots⟩ by kernel_rfl) (show PySem.W.codeIn (K05 p) (fO (K05 p) 350).code "is_figures" = true by kernel_rfl) (kp_is_figures p)
theorem bd_is_figures : Binds (K05 p) (fdX (K05 p) "is_figures" (top 23) 350) ["base", "value", "most"] [] := (fn_is_figures p).binds (ps := ["base", "value", "most"]) fun _ _ _ _ _ _ us hl => match us, hl with | [_, _, _], _ => rfl
theorem kp_need_base : PySem.W.keepIn (K05 p) (.ref 357) = true := by kernel_rfl
theorem fn_need_base : Fun (K05 p) "need_base" "need_base" (top 24) 357 (fdX (K05 p) "need_base" (top 24) 357) :=
  fun_mk (st := top 24) (show (K05 p).lookup 357 = some ⟨(oO (K05 p) 357).cls, (oO (K05 p) 357).dict, .func (fdX (K05 p) "need_base" (top 24) 357), (oO (K05 p) 357).slots⟩ by kernel_rfl) (show PySem.W.codeIn (K05 p) (fO (K05 p) 357).code "need_base" = true by kernel_rfl) (kp_need_base p)
theorem bd_need_base : Binds (K05 p) (fdX (K05 p) "need_base" (top 24) 357) ["base"] [] := (fn_need_base p).binds (ps := ["base"]) fun _ _ _ _ _ _ us hl => match us, hl with | [_], _ => rfl
theorem kp_is_size : PySem.W.keepIn (K05 p) (.ref 406) = true := by kernel_rfl
theorem fn_is_size : Fun (K05 p) "is_size" "is_size" (top 36) 406 (fdX (K05 p) "is_size" (top 36) 406) :=
  fun_mk (st := top 36) (show (K05 p).lookup 406 = some ⟨(oO (K05 p) 406).cls, (oO (K05 p) 406).dict, .func (fdX (K05 p) "is_size" (top 36) 406), (oO (K05 p) 406).slots⟩ by kernel_rfl) (show PySem.W.codeIn (K05 p) (fO (K05 p) 406).code "is_size" = true by kernel_rfl) (kp_is_size p)
theorem bd_is_size : Binds (K05 p) (fdX (K05 p) "is_size" (top 36) 406) ["value", "least"] [] := (fn_is_size p).binds (ps := ["value", "least"]) fun _ _ _ _ _ _ us hl => match us, hl with | [_, _], _ => rfl
theorem kp_are_bounds : PySem.W.keepIn (K05 p) (.ref 413) = true := by kernel_rfl
theorem fn_are_bounds : Fun (K05 p) "are_bounds" "are_bounds" (top 37) 413 (fdX (K05 p) "are_bounds" (top 37) 413) :=
  fun_mk (st := top 37) (show (K05 p).lookup 413 = some ⟨(oO (K05 p) 413).cls, (oO (K05 p) 413).dict, .func (fdX (K05 p) "are_bounds" (top 37) 413), (oO (K05 p) 413).slots⟩ by kernel_rfl) (show PySem.W.codeIn (K05 p) (fO (K05 p) 413).code "are_bounds" = true by kernel_rfl) (kp_are_bounds p)
theorem bd_are_bounds : Binds (K05 p) (fdX (K05 p) "are_bounds" (top 37) 413) ["least", "most"] [] := (fn_are_bounds p).binds (ps := ["least", "most"]) fun _ _ _ _ _ _ us hl => match us, hl with | [_, _], _ => rfl
theorem kp_begins : PySem.W.keepIn (K05 p) (.ref 420) = true := by kernel_rfl
theorem fn_begins : Fun (K05 p) "begins" "begins" (top 38) 420 (fdX (K05 p) "begins" (top 38) 420) :=
  fun_mk (st := top 38) (show (K05 p).lookup 420 = some ⟨(oO (K05 p) 420).cls, (oO (K05 p) 420).dict, .func (fdX (K05 p) "begins" (top 38) 420), (oO (K05 p) 420).slots⟩ by kernel_rfl) (show PySem.W.codeIn (K05 p) (fO (K05 p) 420).code "begins" = true by kernel_rfl) (kp_begins p)
theorem bd_begins : Binds (K05 p) (fdX (K05 p) "begins" (top 38) 420) ["value", "word", "many"] [] := (fn_begins p).binds (ps := ["value", "word", "many"]) fun _ _ _ _ _ _ us hl => match us, hl with | [_, _, _], _ => rfl
theorem kp_is_condition : PySem.W.keepIn (K05 p) (.ref 427) = true := by kernel_rfl
theorem fn_is_condition : Fun (K05 p) "is_condition" "is_condition" (top 39) 427 (fdX (K05 p) "is_condition" (top 39) 427) :=
  fun_mk (st := top 39) (show (K05 p).lookup 427 = some ⟨(oO (K05 p) 427).cls, (oO (K05 p) 427).dict, .func (fdX (K05 p) "is_condition" (top 39) 427), (oO (K05 p) 427).slots⟩ by kernel_rfl) (show PySem.W.codeIn (K05 p) (fO (K05 p) 427).code "is_condition" = true by kernel_rfl) (kp_is_condition p)
theorem bd_is_condition : Binds (K05 p) (fdX (K05 p) "is_condition" (top 39) 427) ["base", "value"] [] := (fn_is_condition p).binds (ps := ["base", "value"]) fun _ _ _ _ _ _ us hl => match us, hl with | [_, _], _ => rfl
theorem kp_is_keep : PySem.W.keepIn (K05 p) (.ref 434) = true := by kernel_rfl
theorem fn_is_keep : Fun (K05 p) "is_keep" "is_keep" (top 40) 434 (fdX (K05 p) "is_keep" (top 40) 434) :=
  fun_mk (st := top 40) (show (K05 p).lookup 434 = some ⟨(oO (K05 p) 434).cls, (oO (K05 p) 434).dict, .func (fdX (K05 p) "is_keep" (top 40) 434), (oO (K05 p) 434).slots⟩ by kernel_rfl) (show PySem.W.codeIn (K05 p) (fO (K05 p) 434).code "is_keep" = true by kernel_rfl) (kp_is_keep p)
theorem bd_is_keep : Binds (K05 p) (fdX (K05 p) "is_keep" (top 40) 434) ["value"] [] := (fn_is_keep p).binds (ps := ["value"]) fun _ _ _ _ _ _ us hl => match us, hl with | [_], _ => rfl
theorem kp_is_rule : PySem.W.keepIn (K05 p) (.ref 439) = true := by kernel_rfl
theorem fn_is_rule : Fun (K05 p) "is_rule" "is_rule" (top 41) 439 (fdX (K05 p) "is_rule" (top 41) 439) :=
  fun_mk (st := top 41) (show (K05 p).lookup 439 = some ⟨(oO (K05 p) 439).cls, (oO (K05 p) 439).dict, .func (fdX (K05 p) "is_rule" (top 41) 439), (oO (K05 p) 439).slots⟩ by kernel_rfl) (show PySem.W.codeIn (K05 p) (fO (K05 p) 439).code "is_rule" = true by kernel_rfl) (kp_is_rule p)
theorem bd_is_rule : Binds (K05 p) (fdX (K05 p) "is_rule" (top 41) 439) ["base", "value"] [] := (fn_is_rule p).binds (ps := ["base", "value"]) fun _ _ _ _ _ _ us hl => match us, hl with | [_, _], _ => rfl
theorem kp_need_rules : PySem.W.keepIn (K05 p) (.ref 446) = true := by kernel_rfl
theorem fn_need_rules : Fun (K05 p) "need_rules" "need_rules" (top 42) 446 (fdX (K05 p) "need_rules" (top 42) 446) :=
  fun_mk (st := top 42) (show (K05 p).lookup 446 = some ⟨(oO (K05 p) 446).cls, (oO (K05 p) 446).dict, .func (fdX (K05 p) "need_rules" (top 42) 446), (oO (K05 p) 446).slots⟩ by kernel_rfl) (show PySem.W.codeIn (K05 p) (fO (K05 p) 446).code "need_rules" = true by kernel_rfl) (kp_need_rules p)
theorem bd_need_rules : Binds (K05 p) (fdX (K05 p) "need_rules" (top 42) 446) ["base", "rules"] [] := (fn_need_rules p).binds (ps := ["base", "rules"]) fun _ _ _ _ _ _ us hl => match us, hl with | [_, _], _ => rfl
theorem kp_plain_rule : PySem.W.keepIn (K05 p) (.ref 458) = true := by kernel_rfl
theorem fn_plain_rule : Fun (K05 p) "plain_rule" "plain_rule" (top 44) 458 (fdX (K05 p) "plain_rule" (top 44) 458) :=
  fun_mk (st := top 44) (show (K05 p).lookup 458 = some ⟨(oO (K05 p) 458).cls, (oO (K05 p) 458).dict, .func (fdX (K05 p) "plain_rule" (top 44) 458), (oO (K05 p) 458).slots⟩ by kernel_rfl) (show PySem.W.codeIn (K05 p) (fO (K05 p) 458).code "plain_rule" = true by kernel_rfl) (kp_plain_rule p)
theorem bd_plain_rule : Binds (K05 p) (fdX (K05 p) "plain_rule" (top 44) 458) ["rule"] [] := (fn_plain_rule p).binds (ps := ["rule"]) fun _ _ _ _ _ _ us hl => match us, hl with | [_], _ => rfl
theorem kp_l_mixed : PySem.W.keepIn (K05 p) (.ref 627) = true := by kernel_rfl
theorem fn_l_mixed : Fun (K05 p) "_law_mixed" "_law_mixed" (top 52) 627 (fdX (K05 p) "_law_mixed" (top 52) 627) :=
  fun_mk (st := top 52) (show (K05 p).lookup 627 = some ⟨(oO (K05 p) 627).cls, (oO (K05 p) 627).dict, .func (fdX (K05 p) "_law_mixed" (top 52) 627), (oO (K05 p) 627).slots⟩ by kernel_rfl) (show PySem.W.codeIn (K05 p) (fO (K05 p) 627).code "_law_mixed" = true by kernel_rfl) (kp_l_mixed p)
theorem bd_l_mixed : Binds (K05 p) (fdX (K05 p) "_law_mixed" (top 52) 627) ["cell", "k"] [] := (fn_l_mixed p).binds (ps := ["cell", "k"]) fun _ _ _ _ _ _ us hl => match us, hl with | [_, _], _ => rfl
theorem kp_l_begin : PySem.W.keepIn (K05 p) (.ref 632) = true := by kernel_rfl
theorem fn_l_begin : Fun (K05 p) "_law_begin" "_law_begin" (top 53) 632 (fdX (K05 p) "_law_begin" (top 53) 632) :=
  fun_mk (st := top 53) (show (K05 p).lookup 632 = some ⟨(oO (K05 p) 632).cls, (oO (K05 p) 632).dict, .func (fdX (K05 p) "_law_begin" (top 53) 632), (oO (K05 p) 632).slots⟩ by kernel_rfl) (show PySem.W.codeIn (K05 p) (fO (K05 p) 632).code "_law_begin" = true by kernel_rfl) (kp_l_begin p)
theorem bd_l_begin : Binds (K05 p) (fdX (K05 p) "_law_begin" (top 53) 632) ["script"] [] := (fn_l_begin p).binds (ps := ["script"]) fun _ _ _ _ _ _ us hl => match us, hl with | [_], _ => rfl
theorem kp_l_draw : PySem.W.keepIn (K05 p) (.ref 639) = true := by kernel_rfl
theorem fn_l_draw : Fun (K05 p) "_law_draw" "_law_draw" (top 54) 639 (fdX (K05 p) "_law_draw" (top 54) 639) :=
  fun_mk (st := top 54) (show (K05 p).lookup 639 = some ⟨(oO (K05 p) 639).cls, (oO (K05 p) 639).dict, .func (fdX (K05 p) "_law_draw" (top 54) 639), (oO (K05 p) 639).slots⟩ by kernel_rfl) (show PySem.W.codeIn (K05 p) (fO (K05 p) 639).code "_law_draw" = true by kernel_rfl) (kp_l_draw p)
theorem bd_l_draw : Binds (K05 p) (fdX (K05 p) "_law_draw" (top 54) 639) ["state", "many"] [] := (fn_l_draw p).binds (ps := ["state", "many"]) fun _ _ _ _ _ _ us hl => match us, hl with | [_, _], _ => rfl
theorem kp_l_of : PySem.W.keepIn (K05 p) (.ref 646) = true := by kernel_rfl
theorem fn_l_of : Fun (K05 p) "_law_of" "_law_of" (top 55) 646 (fdX (K05 p) "_law_of" (top 55) 646) :=
  fun_mk (st := top 55) (show (K05 p).lookup 646 = some ⟨(oO (K05 p) 646).cls, (oO (K05 p) 646).dict, .func (fdX (K05 p) "_law_of" (top 55) 646), (oO (K05 p) 646).slots⟩ by kernel_rfl) (show PySem.W.codeIn (K05 p) (fO (K05 p) 646).code "_law_of" = true by kernel_rfl) (kp_l_of p)
theorem bd_l_of : Binds (K05 p) (fdX (K05 p) "_law_of" (top 55) 646) ["state", "some"] [] := (fn_l_of p).binds (ps := ["state", "some"]) fun _ _ _ _ _ _ us hl => match us, hl with | [_, _], _ => rfl
theorem kp_l_raised : PySem.W.keepIn (K05 p) (.ref 653) = true := by kernel_rfl
theorem fn_l_raised : Fun (K05 p) "_law_raised" "_law_raised" (top 56) 653 (fdX (K05 p) "_law_raised" (top 56) 653) :=
  fun_mk (st := top 56) (show (K05 p).lookup 653 = some ⟨(oO (K05 p) 653).cls, (oO (K05 p) 653).dict, .func (fdX (K05 p) "_law_raised" (top 56) 653), (oO (K05 p) 653).slots⟩ by kernel_rfl) (show PySem.W.codeIn (K05 p) (fO (K05 p) 653).code "_law_raised" = true by kernel_rfl) (kp_l_raised p)
theorem bd_l_raised : Binds (K05 p) (fdX (K05 p) "_law_raised" (top 56) 653) ["asked"] [] := (fn_l_raised p).binds (ps := ["asked"]) fun _ _ _ _ _ _ us hl => match us, hl with | [_], _ => rfl
theorem kp_l_condition : PySem.W.keepIn (K05 p) (.ref 660) = true := by kernel_rfl
theorem fn_l_condition : Fun (K05 p) "_law_condition" "_law_condition" (top 57) 660 (fdX (K05 p) "_law_condition" (top 57) 660) :=
  fun_mk (st := top 57) (show (K05 p).lookup 660 = some ⟨(oO (K05 p) 660).cls, (oO (K05 p) 660).dict, .func (fdX (K05 p) "_law_condition" (top 57) 660), (oO (K05 p) 660).slots⟩ by kernel_rfl) (show PySem.W.codeIn (K05 p) (fO (K05 p) 660).code "_law_condition" = true by kernel_rfl) (kp_l_condition p)
theorem bd_l_condition : Binds (K05 p) (fdX (K05 p) "_law_condition" (top 57) 660) ["state", "base", "most"] [] := (fn_l_condition p).binds (ps := ["state", "base", "most"]) fun _ _ _ _ _ _ us hl => match us, hl with | [_, _, _], _ => rfl
theorem kp_l_keep : PySem.W.keepIn (K05 p) (.ref 667) = true := by kernel_rfl
theorem fn_l_keep : Fun (K05 p) "_law_keep" "_law_keep" (top 58) 667 (fdX (K05 p) "_law_keep" (top 58) 667) :=
  fun_mk (st := top 58) (show (K05 p).lookup 667 = some ⟨(oO (K05 p) 667).cls, (oO (K05 p) 667).dict, .func (fdX (K05 p) "_law_keep" (top 58) 667), (oO (K05 p) 667).slots⟩ by kernel_rfl) (show PySem.W.codeIn (K05 p) (fO (K05 p) 667).code "_law_keep" = true by kernel_rfl) (kp_l_keep p)
theorem bd_l_keep : Binds (K05 p) (fdX (K05 p) "_law_keep" (top 58) 667) ["state", "most"] [] := (fn_l_keep p).binds (ps := ["state", "most"]) fun _ _ _ _ _ _ us hl => match us, hl with | [_, _], _ => rfl
theorem kp_l_rules : PySem.W.keepIn (K05 p) (.ref 672) = true := by kernel_rfl
theorem fn_l_rules : Fun (K05 p) "_law_rules" "_law_rules" (top 59) 672 (fdX (K05 p) "_law_rules" (top 59) 672) :=
  fun_mk (st := top 59) (show (K05 p).lookup 672 = some ⟨(oO (K05 p) 672).cls, (oO (K05 p) 672).dict, .func (fdX (K05 p) "_law_rules" (top 59) 672), (oO (K05 p) 672).slots⟩ by kernel_rfl) (show PySem.W.codeIn (K05 p) (fO (K05 p) 672).code "_law_rules" = true by kernel_rfl) (kp_l_rules p)
theorem bd_l_rules : Binds (K05 p) (fdX (K05 p) "_law_rules" (top 59) 672) ["state", "base", "most", "many"] [] := (fn_l_rules p).binds (ps := ["state", "base", "most", "many"]) fun _ _ _ _ _ _ us hl => match us, hl with | [_, _, _, _], _ => rfl
theorem kp_l_due : PySem.W.keepIn (K05 p) (.ref 677) = true := by kernel_rfl
theorem fn_l_due : Fun (K05 p) "_law_due" "_law_due" (top 60) 677 (fdX (K05 p) "_law_due" (top 60) 677) :=
  fun_mk (st := top 60) (show (K05 p).lookup 677 = some ⟨(oO (K05 p) 677).cls, (oO (K05 p) 677).dict, .func (fdX (K05 p) "_law_due" (top 60) 677), (oO (K05 p) 677).slots⟩ by kernel_rfl) (show PySem.W.codeIn (K05 p) (fO (K05 p) 677).code "_law_due" = true by kernel_rfl) (kp_l_due p)
theorem bd_l_due : Binds (K05 p) (fdX (K05 p) "_law_due" (top 60) 677) ["rules", "odd"] [] := (fn_l_due p).binds (ps := ["rules", "odd"]) fun _ _ _ _ _ _ us hl => match us, hl with | [_, _], _ => rfl
theorem kp_l_row : PySem.W.keepIn (K05 p) (.ref 684) = true := by kernel_rfl
theorem fn_l_row : Fun (K05 p) "_law_row" "_law_row" (top 61) 684 (fdX (K05 p) "_law_row" (top 61) 684) :=
  fun_mk (st := top 61) (show (K05 p).lookup 684 = some ⟨(oO (K05 p) 684).cls, (oO (K05 p) 684).dict, .func (fdX (K05 p) "_law_row" (top 61) 684), (oO (K05 p) 684).slots⟩ by kernel_rfl) (show PySem.W.codeIn (K05 p) (fO (K05 p) 684).code "_law_row" = true by kernel_rfl) (kp_l_row p)
theorem bd_l_row : Binds (K05 p) (fdX (K05 p) "_law_row" (top 61) 684) ["state", "base", "odd"] [] := (fn_l_row p).binds (ps := ["state", "base", "odd"]) fun _ _ _ _ _ _ us hl => match us, hl with | [_, _, _], _ => rfl
theorem kp_law : PySem.W.keepIn (K05 p) (.ref 689) = true := by kernel_rfl
theorem fn_law : Fun (K05 p) "law" "law" (top 62) 689 (fdX (K05 p) "law" (top 62) 689) :=
  fun_mk (st := top 62) (show (K05 p).lookup 689 = some ⟨(oO (K05 p) 689).cls, (oO (K05 p) 689).dict, .func (fdX (K05 p) "law" (top 62) 689), (oO (K05 p) 689).slots⟩ by kernel_rfl) (show PySem.W.codeIn (K05 p) (fO (K05 p) 689).code "law" = true by kernel_rfl) (kp_law p)
theorem bd_law : Binds (K05 p) (fdX (K05 p) "law" (top 62) 689) ["script"] [] := (fn_law p).binds (ps := ["script"]) fun _ _ _ _ _ _ us hl => match us, hl with | [_], _ => rfl
theorem mkS : Mk (K05 p) 616 503 := ⟨by kernel_rfl, by kernel_rfl, by kernel_rfl, by kernel_rfl⟩
theorem clS : Cls (K05 p) 616 := ⟨by kernel_rfl, by kernel_rfl, by kernel_rfl, by kernel_rfl⟩
theorem naB : NoAttr (K05 p) 616 "stored_base" := (show PySem.W.findIn (K05 p) (.ref 616) "stored_base" = some none by kernel_rfl)
theorem naR : NoAttr (K05 p) 616 "stored_rules" := (show PySem.W.findIn (K05 p) (.ref 616) "stored_rules" = some none by kernel_rfl)
theorem lkInit : (K05 p).lookup 503 = some ⟨(oO (K05 p) 503).cls, (oO (K05 p) 503).dict, .func (PySem.W.fnOf "__init__" "Style.__init__" (defArgs sInit) (defBody sInit) (defScope sInit) .none (fO (K05 p) 503).kwdefaults (fO (K05 p) 503).doc (fO (K05 p) 503).pyModule (fO (K05 p) 503).annotations (fO (K05 p) 503).code (fO (K05 p) 503).closureTuple), (oO (K05 p) 503).slots⟩ := by kernel_rfl
theorem cdInit : PySem.W.codeIn (K05 p) (fO (K05 p) 503).code "Style.__init__" = true := by kernel_rfl
noncomputable abbrev fdOf (p : Params) : FuncData := PySem.W.fnOf "of" "Style.of" (defArgs sOfS) (defBody sOfS) (defScope sOfS) .none (fO (K05 p) 510).kwdefaults (fO (K05 p) 510).doc (fO (K05 p) 510).pyModule (fO (K05 p) 510).annotations (fO (K05 p) 510).code (fO (K05 p) 510).closureTuple
theorem fnOfS : Fun (K05 p) "of" "Style.of" sOfS 510 (fdOf p) := ⟨⟨_, _, _, _, _, _, _, _, _, rfl, (show (K05 p).lookup 510 = some ⟨(oO (K05 p) 510).cls, (oO (K05 p) 510).dict, .func (PySem.W.fnOf "of" "Style.of" (defArgs sOfS) (defBody sOfS) (defScope sOfS) .none (fO (K05 p) 510).kwdefaults (fO (K05 p) 510).doc (fO (K05 p) 510).pyModule (fO (K05 p) 510).annotations (fO (K05 p) 510).code (fO (K05 p) 510).closureTuple), (oO (K05 p) 510).slots⟩ by kernel_rfl), by kernel_rfl⟩, by kernel_rfl⟩
theorem bdOfS : Binds (K05 p) (fdOf p) ["cls", "base", "rules"] [] := (fnOfS p).binds (ps := ["cls", "base", "rules"]) fun _ _ _ _ _ _ us hl => match us, hl with | [_, _, _], _ => rfl
theorem crS : ClX.CRead (K05 p) 616 (.type "type") := ⟨by kernel_rfl, by kernel_rfl⟩
theorem cmOf : ClX.CMet (K05 p) 616 (.type "type") "of" 512 510 := ⟨by kernel_rfl, ⟨((PySem.W.recIn (K05 p) 512 "classmethod").getD []).tail, by kernel_rfl⟩, by kernel_rfl⟩
theorem prB : PropOf (K05 p) 616 "base" 521 520 := ⟨by kernel_rfl, by kernel_rfl, by kernel_rfl, ⟨((PySem.W.recIn (K05 p) 521 "property").getD []).tail, by kernel_rfl⟩⟩
theorem prR : PropOf (K05 p) 616 "rules" 529 528 := ⟨by kernel_rfl, by kernel_rfl, by kernel_rfl, ⟨((PySem.W.recIn (K05 p) 529 "property").getD []).tail, by kernel_rfl⟩⟩
abbrev sGetB : Stmt := inClass clStyle 2
abbrev sGetR : Stmt := inClass clStyle 3
abbrev sLen : Stmt := inClass clStyle 8
theorem lkB : (K05 p).lookup 520 = some ⟨(oO (K05 p) 520).cls, (oO (K05 p) 520).dict, .func (PySem.W.fnOf "base" "Style.base" (defArgs sGetB) (defBody sGetB) (defScope sGetB) .none (fO (K05 p) 520).kwdefaults (fO (K05 p) 520).doc (fO (K05 p) 520).pyModule (fO (K05 p) 520).annotations (fO (K05 p) 520).code (fO (K05 p) 520).closureTuple), (oO (K05 p) 520).slots⟩ := by kernel_rfl
theorem lkR : (K05 p).lookup 528 = some ⟨(oO (K05 p) 528).cls, (oO (K05 p) 528).dict, .func (PySem.W.fnOf "rules" "Style.rules" (defArgs sGetR) (defBody sGetR) (defScope sGetR) .none (fO (K05 p) 528).kwdefaults (fO (K05 p) 528).doc (fO (K05 p) 528).pyModule (fO (K05 p) 528).annotations (fO (K05 p) 528).code (fO (K05 p) 528).closureTuple), (oO (K05 p) 528).slots⟩ := by kernel_rfl
theorem cdB : PySem.W.codeIn (K05 p) (fO (K05 p) 520).code "Style.base" = true := by kernel_rfl
theorem cdR : PySem.W.codeIn (K05 p) (fO (K05 p) 528).code "Style.rules" = true := by kernel_rfl
theorem scGetB : FnScope ["self"] ["self"] (defScope sGetB) := ⟨rfl, rfl, rfl, by decide +kernel, rfl, by decide +kernel, by decide +kernel⟩
theorem scGetR : FnScope ["self"] ["self"] (defScope sGetR) := ⟨rfl, rfl, rfl, by decide +kernel, rfl, by decide +kernel, by decide +kernel⟩
theorem scLen : FnScope ["self"] ["self"] (defScope sLen) := ⟨rfl, rfl, rfl, by decide +kernel, rfl, by decide +kernel, by decide +kernel⟩
noncomputable abbrev fdLen (p : Params) : FuncData := PySem.W.fnOf "__len__" "Style.__len__" (defArgs sLen) (defBody sLen) (defScope sLen) .none (fO (K05 p) 564).kwdefaults (fO (K05 p) 564).doc (fO (K05 p) 564).pyModule (fO (K05 p) 564).annotations (fO (K05 p) 564).code (fO (K05 p) 564).closureTuple
theorem fnLen : Fun (K05 p) "__len__" "Style.__len__" sLen 564 (fdLen p) := ⟨⟨_, _, _, _, _, _, _, _, _, rfl, (show (K05 p).lookup 564 = some ⟨(oO (K05 p) 564).cls, (oO (K05 p) 564).dict, .func (PySem.W.fnOf "__len__" "Style.__len__" (defArgs sLen) (defBody sLen) (defScope sLen) .none (fO (K05 p) 564).kwdefaults (fO (K05 p) 564).doc (fO (K05 p) 564).pyModule (fO (K05 p) 564).annotations (fO (K05 p) 564).code (fO (K05 p) 564).closureTuple), (oO (K05 p) 564).slots⟩ by kernel_rfl), by kernel_rfl⟩, by kernel_rfl⟩
theorem bdLen : Binds (K05 p) (fdLen p) ["self"] [] := (fnLen p).binds (ps := ["self"]) fun _ _ _ _ _ _ us hl => match us, hl with | [_], _ => rfl
theorem isLen : PySem.W.findIn (K05 p) (.ref 616) "__len__" = some (some (.ref 564)) := by kernel_rfl
theorem fLen : PySem.W.isFn (K05 p) (.ref 564) = true := by kernel_rfl
noncomputable abbrev fdB (p : Params) : FuncData := PySem.W.fnOf "base" "Style.base" (defArgs sGetB) (defBody sGetB) (defScope sGetB) .none (fO (K05 p) 520).kwdefaults (fO (K05 p) 520).doc (fO (K05 p) 520).pyModule (fO (K05 p) 520).annotations (fO (K05 p) 520).code (fO (K05 p) 520).closureTuple
noncomputable abbrev fdR (p : Params) : FuncData := PySem.W.fnOf "rules" "Style.rules" (defArgs sGetR) (defBody sGetR) (defScope sGetR) .none (fO (K05 p) 528).kwdefaults (fO (K05 p) 528).doc (fO (K05 p) 528).pyModule (fO (K05 p) 528).annotations (fO (K05 p) 528).code (fO (K05 p) 528).closureTuple
theorem kpB : PySem.W.keepIn (K05 p) (.ref 520) = true := by kernel_rfl
theorem kpR : PySem.W.keepIn (K05 p) (.ref 528) = true := by kernel_rfl
theorem bdB : Binds (K05 p) (fdB p) ["self"] [] := (Fun.mk ⟨_, _, _, _, _, _, _, _, _, rfl, lkB p, cdB p⟩ (kpB p) : Fun (K05 p) "base" "Style.base" sGetB 520 (fdB p)).binds (ps := ["self"]) fun _ _ _ _ _ _ us hl => match us, hl with | [_], _ => rfl
theorem bdR : Binds (K05 p) (fdR p) ["self"] [] := (Fun.mk ⟨_, _, _, _, _, _, _, _, _, rfl, lkR p, cdR p⟩ (kpR p) : Fun (K05 p) "rules" "Style.rules" sGetR 528 (fdR p)).binds (ps := ["self"]) fun _ _ _ _ _ _ us hl => match us, hl with | [_], _ => rfl
end
end KH05

namespace KH05
open PySem L2 Evl ExM Dg Dt
theorem lk_rules (b r : V) : ([(("stored_base" : Str), b), ("stored_rules", r)]).lookup ("stored_rules" : Str) = some r := by
  have h : (("stored_rules" : Str) == "stored_base") = false := by decide +kernel
  simp [List.lookup, h]
theorem lk_base (b r : V) : ([(("stored_base" : Str), b), ("stored_rules", r)]).lookup ("stored_base" : Str) = some b := by simp [List.lookup]
def spSLen (C : Addr) : Sp := fun vs H Q _ => ∃ (a : Addr) (β : Nat) (Ds : List PyData), vs = [.ref a] ∧ StyAt H C a β Ds ∧ Q (.int (Ds.length : Int)) H
theorem ok_slen {P : Program} {w : World} {K : PySem.W.Frag} {mg : Str → Option Value} {base : Heap} {f C : Addr} {fd : FuncData} (F : Fun K "__len__" "Style.__len__" sLen f fd) (cl : Cls K C) (n2 : NoAttr K C "stored_rules") (hl : mg "len" = none) : FnOk P w K mg base CX0 1 f fd ["self"] (spSLen C) := by
  refine F.ok scLen (fun vs H Q E h => ?_) (fun cdv A outer s H vs Q E hr h => ?_)
  · obtain ⟨a, β, Ds, rfl, _⟩ := h
    rfl
  · obtain ⟨a, β, Ds, rfl, ⟨dx, t, ha, k⟩, q⟩ := h
    obtain ⟨t', us, e, hu, ku⟩ := k.tupI'
    cases e
    refine ⟨_, pss_one (ps_ret (pe_callB call_len_seq (by rfl) hl (by decide +kernel) (pa_cons (pe_fld (pv 0) rfl) pa_nil))), ?_⟩
    refine ⟨_, rfl, a, C, dx, _, .ref t, rfl, ha, cl, n2, lk_rules _ _, t, us, rfl, .inr (st_of hu), ?_⟩
    rw [ku.length]
    exact q
def tkO (v : Option (Option Value)) : Tok := match v with
  | some (some (.int _ t)) => t
  | some (some (.str _ t)) => t
  | _ => default
section
variable {w : World} {mg : Str → Option Value} {h base : Heap} (X : (K05 w.params).In h) (G : h.Ns mainGlobals mg)
include X G
theorem txR : TxR (K05 w.params) mg 338 357 350 406 413 420 427 434 where
  isi := PySem.W.mg_none_of X G (show PySem.W.nsIn (K05 w.params) mainGlobals "isinstance" = some none by kernel_rfl)
  int := PySem.W.mg_none_of X G (show PySem.W.nsIn (K05 w.params) mainGlobals "int" = some none by kernel_rfl)
  bool := PySem.W.mg_none_of X G (show PySem.W.nsIn (K05 w.params) mainGlobals "bool" = some none by kernel_rfl)
  str := PySem.W.mg_none_of X G (show PySem.W.nsIn (K05 w.params) mainGlobals "str" = some none by kernel_rfl)
  len := PySem.W.mg_none_of X G (show PySem.W.nsIn (K05 w.params) mainGlobals "len" = some none by kernel_rfl)
  sup := PySem.W.mg_none_of X G (show PySem.W.nsIn (K05 w.params) mainGlobals "super" = some none by kernel_rfl)
  fig := (by
    obtain ⟨t, e⟩ : ∃ t, PySem.W.nsIn (K05 w.params) mainGlobals "FIGURES" = some (some (.str "0123456789" t)) := ⟨tkO (PySem.W.nsIn (K05 w.params) mainGlobals "FIGURES"), by kernel_rfl⟩
    exact ⟨t, PySem.W.mg_of X G e⟩)
  least := (by
    obtain ⟨t, e⟩ : ∃ t, PySem.W.nsIn (K05 w.params) mainGlobals "LEAST_BASE" = some (some (.int 2 t)) := ⟨tkO (PySem.W.nsIn (K05 w.params) mainGlobals "LEAST_BASE"), by kernel_rfl⟩
    exact ⟨t, PySem.W.mg_of X G e⟩)
  most := (by
    obtain ⟨t, e⟩ : ∃ t, PySem.W.nsIn (K05 w.params) mainGlobals "MOST_BASE" = some (some (.int 10 t)) := ⟨tkO (PySem.W.nsIn (K05 w.params) mainGlobals "MOST_BASE"), by kernel_rfl⟩
    exact ⟨t, PySem.W.mg_of X G e⟩)
  isInt := PySem.W.mg_of X G (show PySem.W.nsIn (K05 w.params) mainGlobals "is_integer" = some (some (.ref 338)) by kernel_rfl)
  kInt := kp_is_integer _
  needB := PySem.W.mg_of X G (show PySem.W.nsIn (K05 w.params) mainGlobals "need_base" = some (some (.ref 357)) by kernel_rfl)
  kNB := kp_need_base _
  isFig := PySem.W.mg_of X G (show PySem.W.nsIn (K05 w.params) mainGlobals "is_figures" = some (some (.ref 350)) by kernel_rfl)
  kFig := kp_is_figures _
  size := PySem.W.mg_of X G (show PySem.W.nsIn (K05 w.params) mainGlobals "is_size" = some (some (.ref 406)) by kernel_rfl)
  kSz := kp_is_size _
  bounds := PySem.W.mg_of X G (show PySem.W.nsIn (K05 w.params) mainGlobals "are_bounds" = some (some (.ref 413)) by kernel_rfl)
  kBd := kp_are_bounds _
  begins := PySem.W.mg_of X G (show PySem.W.nsIn (K05 w.params) mainGlobals "begins" = some (some (.ref 420)) by kernel_rfl)
  kBg := kp_begins _
  cond := PySem.W.mg_of X G (show PySem.W.nsIn (K05 w.params) mainGlobals "is_condition" = some (some (.ref 427)) by kernel_rfl)
  kCd := kp_is_condition _
  keep := PySem.W.mg_of X G (show PySem.W.nsIn (K05 w.params) mainGlobals "is_keep" = some (some (.ref 434)) by kernel_rfl)
  kKp := kp_is_keep _
  tuple := PySem.W.mg_none_of X G (show PySem.W.nsIn (K05 w.params) mainGlobals "tuple" = some none by kernel_rfl)
  all := PySem.W.mg_none_of X G (show PySem.W.nsIn (K05 w.params) mainGlobals "all" = some none by kernel_rfl)
  msize := (by
    obtain ⟨t, e⟩ : ∃ t, PySem.W.nsIn (K05 w.params) mainGlobals "MOST_SIZE" = some (some (.int 6 t)) := ⟨tkO (PySem.W.nsIn (K05 w.params) mainGlobals "MOST_SIZE"), by kernel_rfl⟩
    exact ⟨t, PySem.W.mg_of X G e⟩)
  mconds := (by
    obtain ⟨t, e⟩ : ∃ t, PySem.W.nsIn (K05 w.params) mainGlobals "MOST_CONDITIONS" = some (some (.int 3 t)) := ⟨tkO (PySem.W.nsIn (K05 w.params) mainGlobals "MOST_CONDITIONS"), by kernel_rfl⟩
    exact ⟨t, PySem.W.mg_of X G e⟩)
  mend := (by
    obtain ⟨t, e⟩ : ∃ t, PySem.W.nsIn (K05 w.params) mainGlobals "MOST_ENDING" = some (some (.int 2 t)) := ⟨tkO (PySem.W.nsIn (K05 w.params) mainGlobals "MOST_ENDING"), by kernel_rfl⟩
    exact ⟨t, PySem.W.mg_of X G e⟩)
theorem txY : TxY (K05 w.params) mg 357 439 446 458 ca05 where
  needB := PySem.W.mg_of X G (show PySem.W.nsIn (K05 w.params) mainGlobals "need_base" = some (some (.ref 357)) by kernel_rfl)
  kNB := kp_need_base _
  rule := PySem.W.mg_of X G (show PySem.W.nsIn (K05 w.params) mainGlobals "is_rule" = some (some (.ref 439)) by kernel_rfl)
  kRl := kp_is_rule _
  needR := PySem.W.mg_of X G (show PySem.W.nsIn (K05 w.params) mainGlobals "need_rules" = some (some (.ref 446)) by kernel_rfl)
  kNR := kp_need_rules _
  plain := PySem.W.mg_of X G (show PySem.W.nsIn (K05 w.params) mainGlobals "plain_rule" = some (some (.ref 458)) by kernel_rfl)
  kPl := kp_plain_rule _
  badRule := PySem.W.mg_of X G (show PySem.W.nsIn (K05 w.params) mainGlobals "BadRule" = some (some (.ref 137)) by kernel_rfl)
  len := PySem.W.mg_none_of X G (show PySem.W.nsIn (K05 w.params) mainGlobals "len" = some none by kernel_rfl)
  tuple := PySem.W.mg_none_of X G (show PySem.W.nsIn (K05 w.params) mainGlobals "tuple" = some none by kernel_rfl)
  enum := PySem.W.mg_none_of X G (show PySem.W.nsIn (K05 w.params) mainGlobals "enumerate" = some none by kernel_rfl)
  isi := PySem.W.mg_none_of X G (show PySem.W.nsIn (K05 w.params) mainGlobals "isinstance" = some none by kernel_rfl)
  sup := PySem.W.mg_none_of X G (show PySem.W.nsIn (K05 w.params) mainGlobals "super" = some none by kernel_rfl)
  list := PySem.W.mg_none_of X G (show PySem.W.nsIn (K05 w.params) mainGlobals "list" = some none by kernel_rfl)
  mrules := (by
    obtain ⟨t, e⟩ : ∃ t, PySem.W.nsIn (K05 w.params) mainGlobals "MOST_RULES" = some (some (.int 8 t)) := ⟨tkO (PySem.W.nsIn (K05 w.params) mainGlobals "MOST_RULES"), by kernel_rfl⟩
    exact ⟨t, PySem.W.mg_of X G e⟩)
theorem txO : Dr.TxO (K05 w.params) mg 627 639 where
  int := PySem.W.mg_none_of X G (show PySem.W.nsIn (K05 w.params) mainGlobals "int" = some none by kernel_rfl)
  len := PySem.W.mg_none_of X G (show PySem.W.nsIn (K05 w.params) mainGlobals "len" = some none by kernel_rfl)
  list := PySem.W.mg_none_of X G (show PySem.W.nsIn (K05 w.params) mainGlobals "list" = some none by kernel_rfl)
  mixed := PySem.W.mg_of X G (show PySem.W.nsIn (K05 w.params) mainGlobals "_law_mixed" = some (some (.ref 627)) by kernel_rfl)
  kMixed := kp_l_mixed _
  draw := PySem.W.mg_of X G (show PySem.W.nsIn (K05 w.params) mainGlobals "_law_draw" = some (some (.ref 639)) by kernel_rfl)
  kDraw := kp_l_draw _
theorem txT : Told.TxT mg ca05 where
  own := fun i hi => by
    have c : i = 0 ∨ i = 1 ∨ i = 2 ∨ i = 3 ∨ i = 4 ∨ i = 5 ∨ i = 6 ∨ i = 7 ∨ i = 8 ∨ i = 9 ∨ i = 10 ∨ i = 11 ∨ i = 12 ∨ i = 13 ∨ i = 14 := by omega
    rcases c with rfl | rfl | rfl | rfl | rfl | rfl | rfl | rfl | rfl | rfl | rfl | rfl | rfl | rfl | rfl
    · exact PySem.W.mg_of X G (show PySem.W.nsIn (K05 w.params) mainGlobals "SpanError" = some (some (.ref 31)) by kernel_rfl)
    · exact PySem.W.mg_of X G (show PySem.W.nsIn (K05 w.params) mainGlobals "BadBase" = some (some (.ref 53)) by kernel_rfl)
    · exact PySem.W.mg_of X G (show PySem.W.nsIn (K05 w.params) mainGlobals "BadNumber" = some (some (.ref 74)) by kernel_rfl)
    · exact PySem.W.mg_of X G (show PySem.W.nsIn (K05 w.params) mainGlobals "BadDigits" = some (some (.ref 95)) by kernel_rfl)
    · exact PySem.W.mg_of X G (show PySem.W.nsIn (K05 w.params) mainGlobals "BadRange" = some (some (.ref 116)) by kernel_rfl)
    · exact PySem.W.mg_of X G (show PySem.W.nsIn (K05 w.params) mainGlobals "BadRule" = some (some (.ref 137)) by kernel_rfl)
    · exact PySem.W.mg_of X G (show PySem.W.nsIn (K05 w.params) mainGlobals "BadReader" = some (some (.ref 158)) by kernel_rfl)
    · exact PySem.W.mg_of X G (show PySem.W.nsIn (K05 w.params) mainGlobals "BadManner" = some (some (.ref 179)) by kernel_rfl)
    · exact PySem.W.mg_of X G (show PySem.W.nsIn (K05 w.params) mainGlobals "BadEntry" = some (some (.ref 200)) by kernel_rfl)
    · exact PySem.W.mg_of X G (show PySem.W.nsIn (K05 w.params) mainGlobals "BadName" = some (some (.ref 221)) by kernel_rfl)
    · exact PySem.W.mg_of X G (show PySem.W.nsIn (K05 w.params) mainGlobals "BadText" = some (some (.ref 242)) by kernel_rfl)
    · exact PySem.W.mg_of X G (show PySem.W.nsIn (K05 w.params) mainGlobals "OtherBase" = some (some (.ref 263)) by kernel_rfl)
    · exact PySem.W.mg_of X G (show PySem.W.nsIn (K05 w.params) mainGlobals "TooMany" = some (some (.ref 284)) by kernel_rfl)
    · exact PySem.W.mg_of X G (show PySem.W.nsIn (K05 w.params) mainGlobals "Missing" = some (some (.ref 306)) by kernel_rfl)
    · exact PySem.W.mg_of X G (show PySem.W.nsIn (K05 w.params) mainGlobals "NothingLeft" = some (some (.ref 328)) by kernel_rfl)
  isi := PySem.W.mg_none_of X G (show PySem.W.nsIn (K05 w.params) mainGlobals "isinstance" = some none by kernel_rfl)
  len := PySem.W.mg_none_of X G (show PySem.W.nsIn (K05 w.params) mainGlobals "len" = some none by kernel_rfl)
theorem mgStyle : mg "Style" = some (.ref 616) := PySem.W.mg_of X G (show PySem.W.nsIn (K05 w.params) mainGlobals "Style" = some (some (.ref 616)) by kernel_rfl)
theorem f_isInt : FnOk P05 w (K05 w.params) mg base CX0 1 338 (fdX (K05 w.params) "is_integer" (top 21) 338) ["value"] (spIsInt (K05 w.params)) := ok_isInt (fn_is_integer _) (txR X G).toTxG
theorem f_isFig : FnOk P05 w (K05 w.params) mg base CX0 1 350 (fdX (K05 w.params) "is_figures" (top 23) 350) ["base", "value", "most"] (spIsFig (K05 w.params)) := ok_isFig (fn_is_figures _) (txR X G).toTxG (txR X G).all
theorem f_needB : FnOk P05 w (K05 w.params) mg base (L2.CX P05 w) 2 357 (fdX (K05 w.params) "need_base" (top 24) 357) ["base"] (spNeed (Bs (K05 w.params)) (ca05 1)) := ok_needB (ca := ca05) (fn_need_base _) (f_isInt X G) (bd_is_integer _) (txR X G).toTxI (mk1 _) (PySem.W.mg_of X G (show PySem.W.nsIn (K05 w.params) mainGlobals "BadBase" = some (some (.ref 53)) by kernel_rfl))
theorem f_size : FnOk P05 w (K05 w.params) mg base CX0 2 406 (fdX (K05 w.params) "is_size" (top 36) 406) ["value", "least"] spSize := ok_size (fn_is_size _) (f_isInt X G) (bd_is_integer _) (txR X G).toTxI (txR X G).msize
theorem f_bounds : FnOk P05 w (K05 w.params) mg base CX0 3 413 (fdX (K05 w.params) "are_bounds" (top 37) 413) ["least", "most"] spBounds := ok_bounds (fn_are_bounds _) (f_size X G) (bd_is_size _) (txR X G)
theorem f_begins : FnOk P05 w (K05 w.params) mg base CX0 1 420 (fdX (K05 w.params) "begins" (top 38) 420) ["value", "word", "many"] spBegins := ok_begins (fn_begins _) (txR X G)
theorem f_cond : FnOk P05 w (K05 w.params) mg base CX0 4 427 (fdX (K05 w.params) "is_condition" (top 39) 427) ["base", "value"] spCond := ok_cond (fn_is_condition _) ((f_isFig X G).mono (by decide)) (bd_is_figures _) ((f_size X G).mono (by decide)) (bd_is_size _) (f_bounds X G) (bd_are_bounds _) ((f_begins X G).mono (by decide)) (bd_begins _) (txR X G)
theorem f_keep : FnOk P05 w (K05 w.params) mg base CX0 3 434 (fdX (K05 w.params) "is_keep" (top 40) 434) ["value"] spKeep := ok_keep (fn_is_keep _) (f_size X G) (bd_is_size _) ((f_begins X G).mono (by decide)) (bd_begins _) (txR X G)
theorem f_rule : FnOk P05 w (K05 w.params) mg base (L2.CX P05 w) 5 439 (fdX (K05 w.params) "is_rule" (top 41) 439) ["base", "value"] (spRule (K05 w.params) ca05) := ok_rule (ca := ca05) (fn_is_rule _) ((f_needB X G).mono (by decide)) (bd_need_base _) (f_cond X G) (bd_is_condition _) ((f_keep X G).mono (by decide)) (bd_is_keep _) (txR X G)
theorem f_needR : FnOk P05 w (K05 w.params) mg base (L2.CX P05 w) 6 446 (fdX (K05 w.params) "need_rules" (top 42) 446) ["base", "rules"] (spNeedRules ca05) := ok_needRules (ca := ca05) (fn_need_rules _) (f_rule X G) (bd_is_rule _) (mk5 _) (txY X G)
theorem f_plain : FnOk P05 w (K05 w.params) mg base CX0 1 458 (fdX (K05 w.params) "plain_rule" (top 44) 458) ["rule"] spPlain := ok_plain (fn_plain_rule _) (txY X G)
theorem f_init : FnR P05 w (K05 w.params) mg base (L2.CX P05 w) 7 503 (spInitR (K05 w.params) 616 ca05) := ok_init (ca := ca05) (lkInit _) (cdInit _) (clS _) (naB _) (naR _) ((f_needB X G).mono (by decide)) (bd_need_base _) (f_needR X G) (bd_need_rules _) ((f_plain X G).mono (by decide)) (bd_plain_rule _) (txY X G)
theorem f_ofS : FnOk P05 w (K05 w.params) mg base (L2.CX P05 w) 9 510 (fdOf w.params) ["cls", "base", "rules"] (spOfS (K05 w.params) 616 ca05) := ok_ofS (ca := ca05) (fnOfS _) (mkS _) (f_init X G) ((f_needB X G).mono (by decide)) (bd_need_base _) (mk5 _) (txY X G)
theorem f_base : FnOk P05 w (K05 w.params) mg base CX0 1 520 (fdB w.params) ["self"] (getSp 616 "stored_base") := fn_getter (N := ["self"]) (lkB _) (cdB _) scGetB rfl rfl (clS _) (naB _)
theorem f_rules : FnOk P05 w (K05 w.params) mg base CX0 1 528 (fdR w.params) ["self"] (getSp 616 "stored_rules") := fn_getter (N := ["self"]) (lkR _) (cdR _) scGetR rfl rfl (clS _) (naR _)
theorem f_len : FnOk P05 w (K05 w.params) mg base CX0 1 564 (fdLen w.params) ["self"] (spSLen 616) := ok_slen (fnLen _) (clS _) (naR _) (PySem.W.mg_none_of X G (show PySem.W.nsIn (K05 w.params) mainGlobals "len" = some none by kernel_rfl))
theorem f_mixed : FnOk P05 w (K05 w.params) mg base CX0 1 627 (fdX (K05 w.params) "_law_mixed" (top 52) 627) ["cell", "k"] Dr.spMixed := Dr.ok_mixed (fn_l_mixed _) (txO X G).toTxB
theorem f_begin : FnOk P05 w (K05 w.params) mg base CX0 1 632 (fdX (K05 w.params) "_law_begin" (top 53) 632) ["script"] (Dr.spBegin (K05 w.params)) := Dr.ok_begin (fn_l_begin _) (txO X G).toTxB
theorem f_draw : FnOk P05 w (K05 w.params) mg base CX0 2 639 (fdX (K05 w.params) "_law_draw" (top 54) 639) ["state", "many"] Dr.spDraw := Dr.ok_draw (fn_l_draw _) (fn_l_mixed _) (bd_l_mixed _) (txO X G).toTxD
theorem f_of : FnOk P05 w (K05 w.params) mg base CX0 3 646 (fdX (K05 w.params) "_law_of" (top 55) 646) ["state", "some"] Dr.spOf := Dr.ok_of (fdm := fdX (K05 w.params) "_law_mixed" (top 52) 627) (fn_l_of _) (f_draw X G) (bd_l_draw _) (txO X G)
theorem f_lcond : FnOk P05 w (K05 w.params) mg base CX0 3 660 (fdX (K05 w.params) "_law_condition" (top 57) 660) ["state", "base", "most"] spLCond := ok_lcond (fn_l_condition _) (f_draw X G) (bd_l_draw _) (txO X G) (PySem.W.mg_none_of X G (show PySem.W.nsIn (K05 w.params) mainGlobals "range" = some none by kernel_rfl)) (PySem.W.mg_none_of X G (show PySem.W.nsIn (K05 w.params) mainGlobals "min" = some none by kernel_rfl))
theorem f_lkeep : FnOk P05 w (K05 w.params) mg base CX0 3 667 (fdX (K05 w.params) "_law_keep" (top 58) 667) ["state", "most"] spLKeep := ok_lkeep (fn_l_keep _) (f_draw X G) (bd_l_draw _) (txO X G)
theorem f_lrules : FnOk P05 w (K05 w.params) mg base CX0 4 672 (fdX (K05 w.params) "_law_rules" (top 59) 672) ["state", "base", "most", "many"] spLRules := ok_lrules (fn_l_rules _) ((f_draw X G).mono (by decide)) (bd_l_draw _) (txO X G) (f_lcond X G) (bd_l_condition _) (PySem.W.mg_of X G (show PySem.W.nsIn (K05 w.params) mainGlobals "_law_condition" = some (some (.ref 660)) by kernel_rfl)) (kp_l_condition _) (f_lkeep X G) (bd_l_keep _) (PySem.W.mg_of X G (show PySem.W.nsIn (K05 w.params) mainGlobals "_law_keep" = some (some (.ref 667)) by kernel_rfl)) (kp_l_keep _) (PySem.W.mg_none_of X G (show PySem.W.nsIn (K05 w.params) mainGlobals "range" = some none by kernel_rfl)) (PySem.W.mg_none_of X G (show PySem.W.nsIn (K05 w.params) mainGlobals "tuple" = some none by kernel_rfl))
theorem f_ldue : FnG P05 w (K05 w.params) mg base CX0 3 677 (fdX (K05 w.params) "_law_due" (top 60) 677) ["rules", "odd"] spLDue := ok_ldue (fn_l_due _) (PySem.W.mg_none_of X G (show PySem.W.nsIn (K05 w.params) mainGlobals "len" = some none by kernel_rfl)) (PySem.W.mg_none_of X G (show PySem.W.nsIn (K05 w.params) mainGlobals "range" = some none by kernel_rfl)) (PySem.W.mg_none_of X G (show PySem.W.nsIn (K05 w.params) mainGlobals "repr" = some none by kernel_rfl))
theorem f_lrow : FnOk P05 w (K05 w.params) mg base CX0 5 684 (fdX (K05 w.params) "_law_row" (top 61) 684) ["state", "base", "odd"] spLRow := ok_lrow (fn_l_row _) ((f_draw X G).mono (by decide)) (bd_l_draw _) (txO X G) ((f_of X G).mono (by decide)) (bd_l_of _) (PySem.W.mg_of X G (show PySem.W.nsIn (K05 w.params) mainGlobals "_law_of" = some (some (.ref 646)) by kernel_rfl)) (kp_l_of _) (f_lrules X G) (bd_l_rules _) (PySem.W.mg_of X G (show PySem.W.nsIn (K05 w.params) mainGlobals "_law_rules" = some (some (.ref 672)) by kernel_rfl)) (kp_l_rules _) (PySem.W.mg_none_of X G (show PySem.W.nsIn (K05 w.params) mainGlobals "range" = some none by kernel_rfl))
end
end KH05

/-! k05: the law's context, the things that it passes, what a refused call is read as. -/
namespace KH05
open PySem L2 Evl ExM Dg LamR LamX Told
open Dr (StAt)
abbrev sLaw : Stmt := top 62
abbrev nLaw : List Str := ["script", "state", "odd", "turn", "base", "rules", "due", "heard", "bad", "rows", "style", "thing", "told", "last", "some"]
theorem scLaw : FnScope nLaw ["script"] (defScope sLaw) := ⟨rfl, rfl, rfl, by decide +kernel, rfl, by decide +kernel, by decide +kernel⟩
def inLaw (i : Nat) : Stmt := (defBody sLaw).getD i (.Pass ⟨0, 0, 0, 0⟩)
/-- a statement of the law's loop, by its place -/
def inLoop (i : Nat) : Stmt := match inLaw 2 with
  | .For _ _ b _ _ => b.getD i (.Pass ⟨0, 0, 0, 0⟩)
  | s => s
noncomputable abbrev XL (w : World) (mg : Str → Option Value) (base : Heap) (c : Addr) (A : Around) (outer : List Env) (s : Shared) (H : Hp) (E : XK) : Cx := (cxOf CX0 P05 w (K05 w.params) mg base nLaw "law" (defScope sLaw) 689 (.ref c) A outer s H E).nox
/-- a thing that the law passes -/
inductive Pv (H : Hp) : V → PyData → Prop
  | non : Pv H .non .none
  | bl (b : Bool) : Pv H (.bl b) (.bool b)
  | int (i : Int) : Pv H (.int i) (.int i)
  | str (x : Str) : Pv H (.str x) (.str x)
  | tup {a : Addr} {is : List Int} : H a = some (.tup (is.map V.int)) → Pv H (.ref a) (.tuple (is.map PyData.int))
  | lst {a : Addr} {is : List Int} : H a = some (.lst (is.map V.int)) → Pv H (.ref a) (.list (is.map PyData.int))
  | pair {a : Addr} {v u : V} {d e : PyData} : H a = some (.tup [v, u]) → Pv H v d → Pv H u e → Pv H (.ref a) (.tuple [d, e])
theorem Pv.extN {H H' : Hp} {v : V} {d : PyData} (h : Pv H v d) (e : ExtN H H') : Pv H' v d := by
  induction h with
  | non => exact .non
  | bl b => exact .bl b
  | int i => exact .int i
  | str x => exact .str x
  | tup h => exact .tup (e _ _ h (by simp))
  | lst h => exact .lst (e _ _ h (by simp))
  | pair h _ _ i1 i2 => exact .pair (e _ _ h (by simp)) i1 i2
theorem Pv.ex {H H' : Hp} {v : V} {d : PyData} (h : Pv H v d) (e : Ex H H') : Pv H' v d := h.extN (ExtN.of e)
section
variable {K : PySem.W.Frag} {H : Hp} {v : V} {d : PyData}
theorem dpAll_ints : ∀ is : List Int, DpAll K H (is.map V.int) (is.map PyData.int)
  | [] => .nil
  | i :: is => .cons (.int i) (dpAll_ints is)
theorem Pv.dp (h : Pv H v d) : Dp K H v d := by
  induction h with
  | non => exact .non
  | bl b => exact .bl b
  | int i => exact .int i
  | str x => exact .str x
  | tup h => exact .tup (st_of h) (dpAll_ints _)
  | lst h => exact .lst (sq_of h) (dpAll_ints _)
  | pair h _ _ i1 i2 => exact .tup (st_of h) (.cons i1 (.cons i2 .nil))
theorem Pv.dj (h : Pv H v d) : Dj K H v d := .di (.dp h.dp)
/-- no int -/
def isI : PyData → Bool
  | .int _ => true
  | _ => false
theorem Pv.kn (h : Pv H v d) (n : isI d = false) : Kn K H v false := by
  cases h with
  | non => exact .oth (x := false) (y := false) (.base .non) (by decide) (by decide) rfl
  | bl b => exact .oth (x := true) (y := true) (.base (.bl b)) (by decide) (by decide) rfl
  | int i => cases n
  | str x => exact .oth (x := false) (y := false) (.base (.str x)) (by decide) (by decide) rfl
  | tup h => exact .oth (x := false) (y := false) (.base (.tup h)) (by decide) (by decide) rfl
  | lst h => exact .oth (x := false) (y := false) (.base (.lst h)) (by decide) (by decide) rfl
  | pair h _ _ => exact .oth (x := false) (y := false) (.base (.tup h)) (by decide) (by decide) rfl
/-- no base -/
def noB : PyData → Bool
  | .int i => !(decide (2 ≤ i) && decide (i ≤ 10))
  | _ => true
/-- no number -/
def noN : PyData → Bool
  | .int i => !decide (1 ≤ i)
  | _ => true
theorem Pv.bs (h : Pv H v d) (n : noB d = true) : Bs K H v false := by
  cases hd : isI d with
  | false => exact .oth (h.kn hd)
  | true =>
    cases h with
    | int i =>
      have e : (decide (2 ≤ i) && decide (i ≤ 10)) = false := by
        cases z : (decide (2 ≤ i) && decide (i ≤ 10)) with
        | false => rfl
        | true =>
          rw [noB, z] at n
          cases n
      rw [← e]
      exact .int i
    | _ => cases hd
theorem Pv.nm (h : Pv H v d) : Nm K H v (!noN d) := by
  cases hd : isI d with
  | false =>
    have e : (!noN d) = false := by
      cases d <;> first | rfl | cases hd
    rw [e]
    exact .oth (h.kn hd)
  | true =>
    cases h with
    | int i =>
      have e : (!noN (.int i)) = decide (1 ≤ i) := by simp [noN]
      rw [e]
      exact .int i
    | _ => cases hd
end
/-- small data: shown in two thousand signs at most -/
structure Sq (d : PyData) : Prop where
  a : d.showable = true
  b : d.shown.length ≤ 3950
  c : d.depth ≤ 2
theorem sq_plain {d : PyData} (h : plainD d) (hc : cap d ≤ 3950) (c : d.depth ≤ 2) : Sq d := ⟨(shown_cap d h).1, Nat.le_trans (shown_cap d h).2 hc, c⟩
theorem Sq.pair {x : Str} {d : PyData} (hx : (PyData.str x).shown.length ≤ 30) (s : Sq d) : Sm (.tuple [.str x, d]) := by
  refine ⟨?_, ?_, ?_⟩
  · simp [PyData.showable, PyData.showableAll, s.a]
  · have h := join_cap [(PyData.str x).shown, d.shown]
    have e1 : (("(" : Str)).length = 1 := by decide
    have e2 : ((")" : Str)).length = 1 := by decide
    have hs := s.b
    have e3 : (PyData.tuple [.str x, d]).shown = ("(" : Str) ++ Str.join ", " [(PyData.str x).shown, d.shown] ++ (")" : Str) := by
      simp only [PyData.shown, PyData.shownAll, PySem.tupleText]
      rfl
    rw [e3, strLen_append, strLen_append]
    simp only [List.map_cons, List.map_nil, List.sum_cons, List.sum_nil] at h
    omega
  · have := s.c
    simp only [PyData.depth, PyData.depthAll]
    omega
/-- the drawer stands, and so do the tables -/
structure Lw (T : List (Addr × Str)) (p c l : Addr) (n : Nat) (a : Int) (H : Hp) : Prop where
  s : StAt H p c l n a
  t : Tabs T H
section
variable {T : List (Addr × Str)} {p c l : Addr} {n : Nat} {a b : Int} {H H' : Hp}
theorem stAt_extN (S : StAt H p c l n a) (e : ExtN H H') : StAt H' p c l n a :=
  ⟨e _ _ S.d (by simp), let ⟨cs, h, k⟩ := S.c; ⟨cs, e _ _ h (by simp), k⟩, let ⟨ls, h, k⟩ := S.l; ⟨ls, e _ _ h (by simp), k⟩, S.n0, S.n1, S.a0⟩
theorem Lw.ex (L : Lw T p c l n a H) (e : Ex H H') : Lw T p c l n a H' := ⟨L.s.ex e, L.t.ext e⟩
theorem Lw.extN (W : Lw T p c l n a H) (e : ExtN H H') (t : Tabs T H') : Lw T p c l n a H' := ⟨stAt_extN W.s e, t⟩
theorem tabs_same (S : StAt H p c l n a) (t : Tabs T H) (e : Dr.SameB H H' p l) : Tabs T H' := fun q hq => by
  obtain ⟨ls, hl, _⟩ := S.l
  obtain ⟨ps, h1, h2, h3⟩ := t q hq
  refine ⟨ps, e _ _ h1 (ne_of h1 S.d (by intro z; cases z)) (ne_of h1 hl (by intro z; cases z)), h2, fun pos cv hc => ?_⟩
  obtain ⟨co, e1, e2⟩ := h3 pos cv hc
  exact ⟨co, e1, e _ _ e2 (ne_of e2 S.d (by intro z; cases z)) (ne_of e2 hl (by intro z; cases z))⟩
theorem Lw.same (L : Lw T p c l n a H) (S : StAt H' p c l n b) (e : Dr.SameB H H' p l) : Lw T p c l n b H' := ⟨S, tabs_same L.s L.t e⟩
theorem Lw.off (L : Lw T p c l n a H) {x : Addr} (h : H x = none) : x ≠ p ∧ x ≠ l := by
  obtain ⟨ls, hl, _⟩ := L.s.l
  exact ⟨(ne_of_none L.s.d h).symm, (ne_of_none hl h).symm⟩
end
/-- what stands when one empty list goes on to be filled -/
def KeepsA (A : List V → Hp → Prop) : Prop := ∀ vs H H2 fl, A vs H → H fl = some (.lst []) → (∀ b o, H b = some o → b ≠ fl → H2 b = some o) → A vs H2
section
variable {K : PySem.W.Frag} {ca : Nat → Addr} {T : List (Addr × Str)} {t : XK → TE} {σ : St} {H : Hp} {Q : VK} {n : Nat} {A : List V → Hp → Prop}
/-- the lambda raises: the word and what the exception holds stand in a new tuple -/
theorem rd_raisedA (hT : Tabs T H) (kA : KeepsA A) (call : ∀ H1, ExtN H H1 → ∀ HZ, Ex H1 HZ → ∀ (E : XK) (Q' : VK), (∀ cls d H2 vs, Ex HZ H2 → Says ca H2 cls d n vs → A vs H2 → E cls d H2) → t E σ HZ Q')
    (k : ∀ vs rt H2, ExtN H H2 → Tabs T H2 → A vs H2 → H2 rt = some (.tup (.str (wdN n) :: vs)) → Q (.ref rt) H2) : tLam T (TTold ca) t σ H Q :=
  ⟨hT, fun H1 e1 T1 fl hfl => call H1 e1 _ (Ex.new hfl) _ _ fun cls d H2 vs e2 S a => ⟨e2, n, vs, S, fun rt H3 _ kp h3 => by
    have all : ∀ b o, H1 b = some o → H3 b = some o := fun b o e => kp b o (e2 b o ((Ex.new hfl) b o e)) (ne_of_none e hfl)
    exact k vs rt H3 (fun b o e nt => all b o (e1 b o e nt)) (T1.ext all) (kA vs H2 H3 fl a (e2 _ _ upd_same) kp) h3⟩⟩
theorem says_one {H : Hp} {d : Addr} {i : Nat} {v : V} (i1 : 1 ≤ i) (i14 : i ≤ 14) (z10 : i ≠ 10) (z11 : i ≠ 11) (z14 : i ≠ 14) (h : H d = some (.xd [(fdN i, v)])) : Says ca H (.ref (ca i)) (some d) i [v] :=
  ⟨rfl, i1, i14, .inr (.inr ⟨z10, z11, z14, d, v, rfl, h, rfl⟩)⟩
/-- the value itself -/
def Is1 (v : V) : List V → Hp → Prop := fun vs _ => vs = [v]
theorem is1_keeps (v : V) : KeepsA (Is1 v) := fun _ _ _ _ h _ _ => h
theorem leaves_of {HZ : Hp} {E : XK} {i : Nat} {v : V} (i1 : 1 ≤ i) (i14 : i ≤ 14) (z10 : i ≠ 10) (z11 : i ≠ 11) (z14 : i ≠ 14) (hf : fdN i = "value") (hE : ∀ cls d H2 vs, Ex HZ H2 → Says ca H2 cls d i vs → Is1 v vs H2 → E cls d H2) : Leaves (ca i) "value" v HZ E := fun H2 d e hd =>
  hE _ _ _ [v] (e.trans (Ex.new hd)) (says_one i1 i14 z10 z11 z14 (by rw [hf]; exact upd_same)) rfl
/-- a pair of that data -/
def IsP (D : PyData) : List V → Hp → Prop := fun vs H => ∃ t v u d e, D = .tuple [d, e] ∧ vs = [.ref t] ∧ H t = some (.tup [v, u]) ∧ Pv H v d ∧ Pv H u e
theorem Pv.fill {H H2 : Hp} {fl : Addr} {v : V} {d : PyData} (h : Pv H v d) (hd : d ≠ .list []) (hd2 : ∀ x y, d ≠ .tuple [x, y]) (hf : H fl = some (.lst [])) (kp : ∀ b o, H b = some o → b ≠ fl → H2 b = some o) : Pv H2 v d := by
  cases h with
  | non => exact .non
  | bl b => exact .bl b
  | int i => exact .int i
  | str x => exact .str x
  | tup h => exact .tup (kp _ _ h (fun z => by rw [z, hf] at h; cases h))
  | @lst a is h =>
    refine .lst (kp _ _ h (fun z => hd ?_))
    rw [z, hf] at h
    have : is.map V.int = [] := by
      injection h with h
      injection h with h
      exact h.symm
    rw [List.map_eq_nil_iff.mp this]
    rfl
  | pair h _ _ => exact absurd rfl (hd2 _ _)
theorem isP_keeps {d e : PyData} (h1 : d ≠ .list []) (h2 : ∀ x y, d ≠ .tuple [x, y]) (h3 : e ≠ .list []) (h4 : ∀ x y, e ≠ .tuple [x, y]) : KeepsA (IsP (.tuple [d, e])) := fun vs H H2 fl ⟨t, v, u, d', e', hD, hv, ht, pv, pu⟩ hf kp => by
  injection hD with hD
  injection hD with hD1 hD
  injection hD with hD2 _
  subst hD1 hD2
  exact ⟨t, v, u, _, _, rfl, hv, kp _ _ ht (fun z => by rw [z, hf] at ht; cases ht), pv.fill h1 h2 hf kp, pu.fill h3 h4 hf kp⟩
theorem IsP.pv {D : PyData} {vs : List V} {H : Hp} (h : IsP D vs H) : ∃ v, vs = [v] ∧ Pv H v D := by
  obtain ⟨t, v, u, d, e, rfl, rfl, ht, pv, pu⟩ := h
  exact ⟨_, rfl, .pair ht pv pu⟩
end
end KH05

namespace KH05
open PySem L2 Evl ExM Dg Dt LamR LamX Told TL StX ClX
open Dr (StAt SameB)
structure TxL (mg : Str → Option Value) : Prop where
  of : mg "_law_of" = some (.ref 646)
  row : mg "_law_row" = some (.ref 684)
  due : mg "_law_due" = some (.ref 677)
  begin : mg "_law_begin" = some (.ref 632)
  raised : mg "_law_raised" = some (.ref 653)
  repr : mg "repr" = none
  range : mg "range" = none
  min : mg "min" = none
theorem lk05 (p : Params) : (K05 p).lookup 653 = some ⟨(oO (K05 p) 653).cls, (oO (K05 p) 653).dict, .func (fdX (K05 p) "_law_raised" (top 56) 653), (oO (K05 p) 653).slots⟩ := by kernel_rfl
theorem hcd05 (p : Params) : PySem.W.codeIn (K05 p) (fO (K05 p) 653).code "_law_raised" = true := by kernel_rfl
structure Rm (w : World) (mg : Str → Option Value) (base : Heap) (c : Addr) (A : Around) (outer : List Env) (s : Shared) (H : Hp) (E : XK) (P : Addr) (T : List (Addr × Str)) : Prop where
  hr : RoomG 14 (XL w mg base c A outer s H E).A
  hu64 : (XL w mg base c A outer s H E).A.units + 64 < cLine
  TB : TabB base mg c P
  hT : (P, ("law.<locals>.<lambda>" : Str)) ∈ T
  hu : ∀ p ∈ T, p.1 = P → p.2 = ("law.<locals>.<lambda>" : Str)
/-- the odd things' list -/
structure Od (H : Hp) (o p l : Addr) (os : List V) : Prop where
  ho : H o = some (.lst os)
  ko : PtAll H os oddD
  op : o ≠ p
  ol : o ≠ l
/-- the row -/
structure Ru (H : Hp) (β : Nat) (vr : V) (Ds : List PyData) : Prop where
  b2 : 2 ≤ β
  b10 : β ≤ 10
  k : Pt H vr (.tuple Ds)
  mix : Mix β Ds
  len : Ds.length ≤ 20
section
variable {H H' : Hp} {o p c l : Addr} {n : Nat} {a : Int} {os : List V} {β : Nat} {vr : V} {Ds : List PyData}
theorem Od.extN (O : Od H o p l os) (e : ExtN H H') : Od H' o p l os := ⟨e _ _ O.ho (by simp), O.ko.extN e, O.op, O.ol⟩
theorem Od.ex (O : Od H o p l os) (e : Ex H H') : Od H' o p l os := O.extN (ExtN.of e)
theorem Od.same (S : StAt H p c l n a) (O : Od H o p l os) (e : SameB H H' p l) : Od H' o p l os := ⟨e _ _ O.ho O.op O.ol, O.ko.same S e odd_ok.1, O.op, O.ol⟩
theorem Ru.extN (R : Ru H β vr Ds) (e : ExtN H H') : Ru H' β vr Ds := ⟨R.b2, R.b10, R.k.extN e, R.mix, R.len⟩
theorem Ru.ex (R : Ru H β vr Ds) (e : Ex H H') : Ru H' β vr Ds := R.extN (ExtN.of e)
theorem Ru.same (S : StAt H p c l n a) (R : Ru H β vr Ds) (e : SameB H H' p l) : Ru H' β vr Ds := ⟨R.b2, R.b10, R.k.same S e (by rw [okD]; exact R.mix.ok), R.mix, R.len⟩
end
abbrev rListOf (K : PySem.W.Frag) : List V → Hp → VK → Prop := fun xs H Q => ∃ p ys, xs = [V.ref p] ∧ (SqL K H p ys ∨ SqT K H p ys) ∧ ∀ l, H l = none → Q (V.ref l) (upd H l (.lst ys))
/-- what is told of the refusal -/
def resD : Option PyData → PyData
  | none => .tuple []
  | some pl => .tuple [.str "rule", pl]
theorem due_pl {β : Nat} {Ds : List PyData} (h20 : Ds.length ≤ 20) {pl : PyData} (h : dueD β Ds = some pl) : (∀ H, Pt H (plV pl) pl) ∧ noK pl = true ∧ Ts pl 1921 0 := by
  have one : ∀ i : Int, i.natAbs < 2 ^ 64 → (∀ H, Pt H (plV (.int i)) (.int i)) ∧ noK (.int i) = true ∧ Ts (.int i) 1921 0 := fun i hi => ⟨fun _ => .int i, rfl, ts_int hi⟩
  unfold dueD at h
  by_cases h1 : 1 ≤ Ds.length ∧ Ds.length ≤ 8
  · rw [if_pos h1] at h
    cases hb : badAt β Ds 0 with
    | some k =>
      rw [hb] at h
      injection h with h
      subst h
      have : k ≤ 100 := by
        have hh := badL_head (β := β) Ds 0
        rw [hb] at hh
        have hm : k ∈ badL β Ds 0 := by
          cases hbl : badL β Ds 0 with
          | nil =>
            rw [hbl] at hh
            cases hh
          | cons x xs =>
            rw [hbl] at hh
            cases hh
            exact List.mem_cons_self
        rw [← badL_range Ds 0] at hm
        obtain ⟨i, hi, e⟩ := List.mem_map.mp hm
        have := List.mem_range.mp (List.mem_filter.mp hi).1
        omega
      exact one k (by omega)
    | none =>
      rw [hb] at h
      cases hl : lastC Ds with
      | false =>
        rw [hl] at h
        cases h
      | true =>
        rw [hl] at h
        injection h with h
        subst h
        exact one _ (by omega)
  · rw [if_neg h1] at h
    injection h with h
    subst h
    exact ⟨fun _ => .non, rfl, ts_non.up (by decide) (by decide)⟩
theorem res_ok {β : Nat} {Ds : List PyData} (h20 : Ds.length ≤ 20) : noK (resD (dueD β Ds)) = true ∧ Ts (resD (dueD β Ds)) 2100 1 := by
  cases h : dueD β Ds with
  | none => exact ⟨rfl, (TsAll.tup (m := 0) (n := 0) .nil).up (by simp) (by decide)⟩
  | some pl =>
    obtain ⟨_, k, ts⟩ := due_pl h20 h
    have tr : Ts (.str "rule") 72 0 := ⟨by show ∀ c ∈ (("rule" : Str)).cps.toList, c < 16 ^ 8; decide, by decide, by simp [PyData.depth], by decide +kernel⟩
    refine ⟨?_, ?_⟩
    · show (true && (noK pl && true)) = true
      rw [k]
      rfl
    · have t2 := TsAll.tup (m := 1921) (n := 0) (.cons (tr.up (by decide) (by decide)) (.cons ts .nil))
      refine ⟨t2.p, ?_, t2.e, t2.l⟩
      have h1 := ts.c
      have h2 := tr.c
      show capAll [.str "rule", pl] + 4 ≤ 2100
      simp only [capAll]
      omega
section
variable {K : PySem.W.Frag} {ca : Nat → Addr} {T : List (Addr × Str)} {t : XK → TE} {σ : St} {H : Hp} {Q : VK}
theorem leavesF_of {HZ : Hp} {E : XK} {i : Nat} {v : V} {f : Str} (i1 : 1 ≤ i) (i14 : i ≤ 14) (z10 : i ≠ 10) (z11 : i ≠ 11) (z14 : i ≠ 14) (hf : fdN i = f) (hE : ∀ cls d H2 vs, Ex HZ H2 → Says ca H2 cls d i vs → Is1 v vs H2 → E cls d H2) : Leaves (ca i) f v HZ E := fun H2 d e hd =>
  hE _ _ _ [v] (e.trans (Ex.new hd)) (says_one i1 i14 z10 z11 z14 (by rw [hf]; exact upd_same)) rfl
/-- the lambda comes back: an empty tuple -/
theorem rd_back (hT : Tabs T H) (call : ∀ H1, ExtN H H1 → ∀ HZ, Ex H1 HZ → ∀ (E : XK) (Q' : VK), (∀ v H2, Ex HZ H2 → Q' v H2) → t E σ HZ Q') (k : ∀ rt H2, ExtN H H2 → Tabs T H2 → H2 rt = some (.tup []) → Q (.ref rt) H2) : tLam T (TTold ca) t σ H Q :=
  ⟨hT, fun H1 e1 T1 fl hfl => call H1 e1 _ (Ex.new hfl) _ _ fun v H2 e2 => ⟨e2, fun rt H3 nrt e3 h3 => by
    have all : Ex H1 H3 := ((Ex.new hfl).trans e2).trans e3
    exact k rt H3 (e1.trans (ExtN.of all)) (T1.ext all) h3⟩⟩
/-- a style is made, or refused for its rules -/
theorem rd_due {o : Option PyData} (hT : Tabs T H) (hpl : ∀ pl, o = some pl → ∀ H, Pt H (plV pl) pl) (call : ∀ H1, ExtN H H1 → ∀ HZ, Ex H1 HZ → ∀ (E : XK) (Q' : VK), Due ca HZ E o (∀ x H2, Ex HZ H2 → Q' x H2) → t E σ HZ Q')
    (k : ∀ rt H2, ExtN H H2 → Tabs T H2 → Pt H2 (.ref rt) (resD o) → Q (.ref rt) H2) : tLam T (TTold ca) t σ H Q := by
  cases o with
  | none => exact rd_back hT (fun H1 e1 HZ eZ E Q' hQ => call H1 e1 HZ eZ E Q' ⟨fun pl h => (by cases h), fun _ => hQ⟩) fun rt H2 e T2 h2 => k rt H2 e T2 (.tup h2 .nil)
  | some pl =>
    refine rd_raisedA (n := 5) (A := Is1 (plV pl)) hT (is1_keeps _) (fun H1 e1 HZ eZ E Q' hE => call H1 e1 HZ eZ E Q' ⟨fun pl' h => ?_, fun h => by cases h⟩) fun vs rt H2 e T2 a g => k rt H2 e T2 ?_
    · injection h with h
      subst h
      exact leavesF_of (by decide) (by decide) (by decide) (by decide) (by decide) rfl hE
    · have a' : vs = [plV pl] := a
      subst a'
      exact .tup g (.cons (.str _ (by decide)) (.cons (hpl pl rfl H2) .nil))
end
theorem Pt.pv0 {H : Hp} {b : V} {d : PyData} (h : Pv H b d) : True := trivial
theorem djP {K : PySem.W.Frag} {H : Hp} {v : V} {d : PyData} (h : Pt H v d) (k : noK d = true) : Dj K H v d := .di (.dp (h.dp k))
theorem tsSm {d : PyData} {m n : Nat} (t : Ts d m n) (hm : m ≤ 4000) (hn : n ≤ 3) : Sm d := by
  obtain ⟨a, b⟩ := shown_cap d t.p
  have := t.c
  have := t.e
  exact ⟨a, by omega, by omega⟩
section
variable {w : World} {mg : Str → Option Value} {h base : Heap} (X : (K05 w.params).In h) (G : h.Ns mainGlobals mg) {c : Addr} {A : Around} {outer : List Env} {s : Shared} {H0 : Hp} {E0 : XK} {P : Addr} {T : List (Addr × Str)} (R : Rm w mg base c A outer s H0 E0 P T) (L : TxL mg)
include X G R L
theorem row0 : ∃ t, PS (XL w mg base c A outer s H0 E0) (inLoop 0) t ∧ ∀ (D : Ends) (H : Hp) (sc p cc l o : Addr) (n : Nat) (a : Int) (x3 x4 x5 x6 x7 x8 x9 x10 x11 x12 x13 x14 : Option V), l ≠ cc → a + 2 < 2 ^ 39 → Lw T p cc l n a H →
    (∀ (β : Nat) (H' : Hp), 2 ≤ β → β ≤ 10 → SameB H H' p l → Lw T p cc l n (a + 1) H' → D.nx [some (.ref sc), some (.ref p), some (.ref o), x3, some (.int β), x5, x6, x7, x8, x9, x10, x11, x12, x13, x14] H') → t D [some (.ref sc), some (.ref p), some (.ref o), x3, x4, x5, x6, x7, x8, x9, x10, x11, x12, x13, x14] H := by
  obtain ⟨hr, hu64, TB, hT, hu⟩ := R
  refine ⟨_, (ps_set (i := 4) scLaw.nd rfl (.inr rfl) (pe_op op_add pe_int (pe_call (f_draw X G) (hr.r.mono (by decide)) (by rfl) (txO X G).draw (kp_l_draw _) (bd_l_draw _) .nil pass0 (pa_cons (pv 1) (pa_cons pe_int pa_nil))))), fun D H sc p cc l o n a x3 x4 x5 x6 x7 x8 x9 x10 x11 x12 x13 x14 nlc ha W q => ?_⟩
  refine rd_draw (p := p) rfl ev_c W.s nlc (by omega) (by decide) (by decide) fun r H1 hr1 S1 sb1 => ⟨_, _, rfl, rfl, ?_⟩
  show D.nx (List.set _ 4 (some (V.int (2 + (r : Int))))) H1
  rw [show 2 + (r : Int) = ((2 + r : Nat) : Int) by omega]
  exact q (2 + r) H1 (by omega) (by omega) sb1 (W.same S1 sb1)
theorem row1 : ∃ t, PS (XL w mg base c A outer s H0 E0) (inLoop 1) t ∧ ∀ (D : Ends) (H : Hp) (sc p cc l o : Addr) (n : Nat) (a : Int) (x3 x4 x5 x6 x7 x8 x9 x10 x11 x12 x13 x14 : Option V) (β : Nat) (os : List V), l ≠ cc → a + 200000 < 2 ^ 39 → Lw T p cc l n a H → Od H o p l os → 2 ≤ β → β ≤ 10 → x4 = some (.int β) →
    (∀ (vr : V) (Ds : List PyData) (H' : Hp) (b : Int), Ru H' β vr Ds → a ≤ b → b ≤ a + 5000 → SameB H H' p l → Lw T p cc l n b H' → D.nx [some (.ref sc), some (.ref p), some (.ref o), x3, x4, some (vr), x6, x7, x8, x9, x10, x11, x12, x13, x14] H') → t D [some (.ref sc), some (.ref p), some (.ref o), x3, x4, x5, x6, x7, x8, x9, x10, x11, x12, x13, x14] H := by
  obtain ⟨hr, hu64, TB, hT, hu⟩ := R
  refine ⟨_, (ps_set (i := 5) scLaw.nd rfl (.inr rfl) (pe_call (f_lrow X G) (hr.r.mono (by decide)) (by rfl) L.row (kp_l_row _) (bd_l_row _) .nil pass0 (pa_cons (pv 1) (pa_cons (pv 4) (pa_cons (pv 2) pa_nil))))), fun D H sc p cc l o n a x3 x4 x5 x6 x7 x8 x9 x10 x11 x12 x13 x14 β os nlc ha W O b2 b10 h4 q => ?_⟩
  subst h4
  exact ⟨_, rfl, _, rfl, _, rfl, p, cc, l, o, n, β, a, os, rfl, W.s, nlc, by omega, b2, b10, O.ho, O.ko, O.op, O.ol, fun v Ds H1 b hM hl k ab ba S1 sb1 => q v Ds H1 b ⟨b2, b10, k, hM, hl⟩ ab ba sb1 (W.same S1 sb1)⟩
theorem row2 : ∃ t, PS (XL w mg base c A outer s H0 E0) (inLoop 2) t ∧ ∀ (D : Ends) (H : Hp) (sc p cc l o : Addr) (n : Nat) (a : Int) (x3 x4 x5 x6 x7 x8 x9 x10 x11 x12 x13 x14 : Option V) (β : Nat) (vr : V) (Ds : List PyData) (os : List V), Od H o p l os → Ru H β vr Ds → x5 = some vr →
    (∀ (pd : Addr) (H' : Hp), H pd = none → Ex H H' → H' pd = some (.lst (dueL (dueD β Ds))) → D.nx [some (.ref sc), some (.ref p), some (.ref o), x3, x4, x5, some (.ref pd), x7, x8, x9, x10, x11, x12, x13, x14] H') → t D [some (.ref sc), some (.ref p), some (.ref o), x3, x4, x5, x6, x7, x8, x9, x10, x11, x12, x13, x14] H := by
  obtain ⟨hr, hu64, TB, hT, hu⟩ := R
  refine ⟨_, (ps_set (i := 6) scLaw.nd rfl (.inl rfl) (pe_callG (f_ldue X G) (hr.mono (by decide)) (by rfl) L.due (kp_l_due _) (bd_l_due _) .nil pass0 (pa_cons (pv 5) (pa_cons (pe_lc (own := [("thing", 11)]) (g := gName 11) (tt := tYes) rfl scLaw.nd (pi_list (pv 2)) (blkOk_by (own := [("thing", 11)]) (N := nLaw) (sc := defScope sLaw) (by decide +kernel)) (fun _ _ _ _ _ => pg_name (i := 11) scLaw.nd rfl (Or.inl rfl)) (fun _ _ _ _ _ => pts_nil) (fun _ _ _ _ _ => pe_callB (id := "repr") (r := rReprJ (K05 w.params)) (call_reprJ hr.g hu64) (by rfl) L.repr (by decide +kernel) (pa_cons (pv 11) pa_nil))) pa_nil)))), fun D H sc p cc l o n a x3 x4 x5 x6 x7 x8 x9 x10 x11 x12 x13 x14 β vr Ds os O Rr h5 q => ?_⟩
  subst h5
  obtain ⟨ar, rs, rfl, har, kr⟩ := Rr.k.tupI'
  have hlen : os.length = 8 := O.ko.length
  refine ⟨_, rfl, ?_⟩
  have eL := el_lcL (K := K05 w.params) (σ := [some (.ref sc), some (.ref p), some (.ref o), x3, x4, some (.ref ar), x6, x7, x8, x9, x10, x11, x12, x13, x14]) (H := H) (a := o) (xs := os) (tl := tVar 2) (j := 11) (vs := [11]) (t := tYes) (te := tCB (rReprJ (K05 w.params)) (tCons (tVar 11) tNil)) (fun _ => true) (fun i => oddT.getD i .non) (ev_var rfl) (sq_of O.ho) (by omega) (fun _ => rfl) (fun i x H4 e4 hx => fun H5 e5 Q5 q5 => q5 H5 (Ex.refl _)) (fun i x H4 e4 hx _ => by
    obtain ⟨dd, hd, kd⟩ := O.ko.get2 hx
    have hm : dd ∈ oddD := List.mem_of_getElem? hd
    have e : oddT.getD i .non = V.str dd.shown := by
      unfold oddT
      rw [List.getD_eq_getElem?_getD, List.getElem?_map, hd]
      rfl
    rw [e]
    obtain ⟨y1, y2, y3⟩ := (ts_odd hm).show (by decide) (by decide)
    exact ev_cb (ea_cons (ev_var rfl) ea_nil) fun H5 e5 Q5 q5 => ⟨x, dd, rfl, djP ((kd.ex e4).ex e5) (noKs_mem odd_ok.2 hm), y1, y2, y3, q5 _ (Ex.refl _)⟩)
  rw [show os.length = oddT.length from hlen, given_one] at eL
  exact eL H (Ex.refl H) _ fun po H1 npo e1 h1 => ⟨ar, po, rs, Ds, β, rfl, Rr.b2, Rr.b10, e1 _ _ har, kr.ex e1, h1, Rr.mix, by have := Rr.len; omega, fun pd H2 np e2 h2 => q pd H2 (fresh_back e1 np) (e1.trans e2) h2⟩
theorem row3 : ∃ t, PS (XL w mg base c A outer s H0 E0) (inLoop 3) t ∧ ∀ (D : Ends) (H : Hp) (sc p cc l o : Addr) (n : Nat) (a : Int) (x3 x4 x5 x6 x7 x8 x9 x10 x11 x12 x13 x14 : Option V) (β : Nat) (vr : V) (Ds : List PyData), Lw T p cc l n a H → Ru H β vr Ds →
    (∀ (tp r1 r2 : Addr) (H' : Hp), ExtN H H' → Lw T p cc l n a H' → H' tp = some (.lst [.ref r1, .ref r2]) → Pt H' (.ref r1) (resD (dueD β Ds)) → Pt H' (.ref r2) (resD (dueD β Ds)) → D.nx [some (.ref sc), some (.ref p), some (.ref o), x3, some (.int β), some (vr), x6, some (.ref tp), x8, x9, x10, x11, x12, x13, x14] H') → t D [some (.ref sc), some (.ref p), some (.ref o), x3, some (.int β), some (vr), x6, x7, x8, x9, x10, x11, x12, x13, x14] H := by
  obtain ⟨hr, hu64, TB, hT, hu⟩ := R
  refine ⟨_, (ps_set (i := 7) scLaw.nd rfl (.inl rfl) (pe_lst (pa_cons (pe_lamcallR (k := 10) (T := T) (by rfl) L.raised (kp_l_raised _) (lk05 _) (hcd05 _) (bd_l_raised _) Told.scR rfl (.inl rfl) (Told.raised_gives (ca := ca05) (txT X G) (rwT05 _)) TB rfl hT hu (hr.r.mono (by decide)) (lamN_by (show lamNB (defScope sLaw) _ nLaw = true by decide +kernel)) (by rfl) (fun _ _ _ _ _ => by rfl) (fun A outer s H E f c' hr' => (pe_cmeth (pe_glob (by rfl) (mgStyle X G) (v := .ref 616) rfl) (crS _) (cmOf _) ((f_ofS X G).raw (bdOfS _) .nil) (hr'.mono (by decide)) (fun pins σ H s e s' I c => passAt (takes_of rfl rfl rfl rfl) σ pins H s e s' I c) (pa_cons (pv 4) (pa_cons (pv 5) pa_nil))))) (pa_cons (pe_lamcallD (k := 10) (T := T) (y := "at") (n := 0) (by rfl) L.raised (kp_l_raised _) (lk05 _) (hcd05 _) (bd_l_raised _) Told.scR rfl (.inl rfl) (Told.raised_gives (ca := ca05) (txT X G) (rwT05 _)) TB rfl hT hu (hr.r.mono (by decide)) (lamN_by (show lamNB (defScope sLaw) _ nLaw = true by decide +kernel)) (by rfl) (by rfl) (by rfl) (fun _ _ _ _ _ _ _ _ => ⟨_, by rfl, by rfl⟩) (fun A outer s H E f c' hr' => (pe_cmeth (pe_glob (by rfl) (mgStyle X G) (v := .ref 616) rfl) (crS _) (cmOf _) ((f_ofS X G).raw (bdOfS _) .nil) (hr'.mono (by decide)) (fun pins σ H s e s' I c => passAt (takes_of rfl rfl rfl rfl) σ pins H s e s' I c) (pa_cons (pv 4) (pa_cons (pe_callTy (T := "list") (r := rListOf (K05 w.params)) call_list_of (by rfl) (txO X G).list (by decide +kernel) (pa_cons (pv 5) pa_nil)) pa_nil))))) pa_nil)))), fun D H sc p cc l o n a x3 x4 x5 x6 x7 x8 x9 x10 x11 x12 x13 x14 β vr Ds W Rr q => ?_⟩
  have b2 := Rr.b2
  have b10 := Rr.b10
  have h20 := Rr.len
  obtain ⟨ar, rs, rfl, har, kr⟩ := Rr.k.tupI'
  refine rd_due (o := dueD β Ds) W.t (fun pl h => (due_pl h20 h).1) (fun H1 f1 HZ eZ E Q' hD => ⟨rfl, _, rfl, _, rfl, .int β, .ref ar, .tuple Ds, true, rfl, bs_yes b2 b10, Rr.k.extN (f1.trans (ExtN.of eZ)), by show Ds.length ≤ 100000; omega, (fun z => nomatch z), fun _ => ⟨β, rfl, b2, b10, ⟨hD.bad, fun hn x H2 e2 _ => hD.ok hn (.ref x) H2 e2⟩⟩⟩) fun r1 H1 x1 T1 k1 => ?_
  refine rd_due (o := dueD β Ds) T1 (fun pl h => (due_pl h20 h).1) (fun H2 f2 HZ eZ E Q' hD => ?_) fun r2 H2 x2 T2 k2 => ⟨(by show (2:Nat) ≤ sizeLine; rw [sizeLine_eq]; omega), fun tp ntp => ?_⟩
  · have f := (x1.trans f2).trans (ExtN.of eZ)
    refine ⟨rfl, _, rfl, _, rfl, ar, rs, rfl, .inr (st_of (f _ _ har (by simp))), fun l1 nl1 => ?_⟩
    have el := Ex.new (o := .lst rs) nl1
    refine ⟨.int β, .ref l1, .list Ds, true, rfl, bs_yes b2 b10, .lst upd_same ((kr.extN f).ex el), by show Ds.length ≤ 100000; omega, (fun z => nomatch z), fun _ => ⟨β, rfl, b2, b10, ⟨fun pl h => (hD.bad pl h).go el, fun hn x H2 e2 _ => hD.ok hn (.ref x) H2 (el.trans e2)⟩⟩⟩
  · have en := Ex.new (o := .lst [.ref r1, .ref r2]) ntp
    exact q tp r1 r2 _ ((x1.trans x2).trans (ExtN.of en)) ((W.extN (x1.trans x2) T2).ex en) upd_same ((k1.extN x2).ex en) (k2.ex en)
theorem row4 : ∃ t, PS (XL w mg base c A outer s H0 E0) (inLoop 4) t ∧ ∀ (D : Ends) (H : Hp) (sc p cc l o : Addr) (n : Nat) (a : Int) (x3 x4 x5 x6 x7 x8 x9 x10 x11 x12 x13 x14 : Option V) (β : Nat) (Ds : List PyData) (pd tp r1 r2 : Addr), Ds.length ≤ 20 → H pd = some (.lst (dueL (dueD β Ds))) → H tp = some (.lst [.ref r1, .ref r2]) → Pt H (.ref r1) (resD (dueD β Ds)) → Pt H (.ref r2) (resD (dueD β Ds)) →
    (∀ (H' : Hp), Ex H H' → D.nx [some (.ref sc), some (.ref p), some (.ref o), x3, x4, x5, some (.ref pd), some (.ref tp), x8, x9, x10, x11, x12, x13, x14] H') → t D [some (.ref sc), some (.ref p), some (.ref o), x3, x4, x5, some (.ref pd), some (.ref tp), x8, x9, x10, x11, x12, x13, x14] H := by
  obtain ⟨hr, hu64, TB, hT, hu⟩ := R
  refine ⟨_, (ps_if (pt_cmpR op_ne (pe_callB (call_reprK hr.g hu64) (by rfl) L.repr (by decide +kernel) (pa_cons (pv 7) pa_nil)) (pe_callB (call_reprK hr.g hu64) (by rfl) L.repr (by decide +kernel) (pa_cons (pe_op op_rep (pe_lst (pa_cons (pe_ifExp (pt_cmpR (op_neD (show _ + 64 < cLine from hu64)) (pv 6) (pe_lst pa_nil) (nomark _)) (pe_tup (pa_cons pe_str (pa_cons (pe_ix ix_list (pv 6) pe_int (fun _ _ => rfl)) pa_nil))) (pe_tup pa_nil)) pa_nil)) pe_int) pa_nil)) (nomark _)) (pss_one (ps_ret pe_bl)) pss_nil), fun D H sc p cc l o n a x3 x4 x5 x6 x7 x8 x9 x10 x11 x12 x13 x14 β Ds pd tp r1 r2 h20 hpd g0 k1 k2 q => ?_⟩
  obtain ⟨nk, ts⟩ := res_ok (β := β) h20
  have sp := tsSm ts (by decide) (by decide)
  obtain ⟨y1, y2, y3⟩ := SmAll.list (.cons sp (.cons sp .nil)) (by simp)
  refine ⟨_, rfl, tp, _, [resD (dueD β Ds), resD (dueD β Ds)], rfl, sq_of g0, .cons (djP k1 nk) (.cons (djP k2 nk) .nil), y1, y2, y3, ?_⟩
  have eI : EvP (tIf (tTest (tOp (rNeD (K05 w.params)) (tVar 6) (tLst tNil))) (tTup (tCons (tC (.str "rule")) (tCons (tOp (rIxL (K05 w.params)) (tVar 6) (tC (.int ((0 : Nat) : Int)))) tNil))) (tTup tNil)) [some (.ref sc), some (.ref p), some (.ref o), x3, x4, x5, some (.ref pd), some (.ref tp), x8, x9, x10, x11, x12, x13, x14] H (resD (dueD β Ds)) := by
    cases hd : dueD β Ds with
    | none =>
      rw [hd] at hpd
      refine ep_if (b := false) (et_test (ev_opL (ev_var rfl) (el_lst ea_nil (by simp)) fun p3 H3 h3 e3 => fun H4 e4 Q4 q4 => ⟨.list [], .list [], .lst (sq_of (e4 _ _ (e3 _ _ hpd))) .nil, .lst (sq_of (e4 _ _ h3)) .nil, by decide +kernel, by decide +kernel, by
        rw [show PyData.eqv (.list []) (.list []) = true by decide +kernel]
        exact q4 _ (Ex.refl _)⟩)) (fun z => nomatch z) fun _ => ep_tup epa_nil (by simp)
    | some pl =>
      rw [hd] at hpd
      obtain ⟨kp, np, tsp⟩ := due_pl h20 hd
      have hneq : PyData.eqv (.list [pl]) (.list []) = false := by simp [PyData.eqv, PyData.eqvAll]
      have tsl : SeqAt.shaped (.list [pl]) = true := by
        have := tsp.l
        have := tsp.e
        refine Bool.and_eq_true_iff.mpr ⟨by simp only [PyData.canLay0, PyData.canLayAll0, tsp.l, Bool.and_self], decide_eq_true ?_⟩
        simp only [PyData.depth, PyData.depthAll]
        omega
      refine ep_if (b := true) (et_test (ev_opL (ev_var rfl) (el_lst ea_nil (by simp)) fun p3 H3 h3 e3 => fun H4 e4 Q4 q4 => ⟨.list [pl], .list [], .lst (sq_of (e4 _ _ (e3 _ _ hpd))) (.cons ((kp _).dp np) .nil), .lst (sq_of (e4 _ _ h3)) .nil, tsl, by decide +kernel, by
        rw [hneq]
        exact q4 _ (Ex.refl _)⟩)) (fun _ => ep_tup (epa_cons (ep_str (by decide)) (epa_cons (ep_v (ev_op (ev_var rfl) ev_c (rv_ixL (sq_of hpd) (atI_nat (j := 0) rfl))) (kp _)) epa_nil)) (by simp)) fun z => nomatch z
  refine eI H (Ex.refl H) _ fun v5 H5 e5 k5 => ⟨(by show (1:Nat) ≤ sizeLine; rw [sizeLine_eq]; omega), fun l1 nl1 => ⟨l1, 2, [v5], rfl, rfl, upd_same, by decide, by decide, by rw [sizeLine_eq]; simp, fun p1 hp1 => ?_⟩⟩
  have f2 := Ex.new (o := .lst [v5]) nl1
  have f3 := Ex.new (o := .lst [v5, v5]) hp1
  have pt : Dj (K05 w.params) _ v5 (resD (dueD β Ds)) := djP (k5.ex (f2.trans f3)) nk
  refine ⟨p1, [v5, v5], [resD (dueD β Ds), resD (dueD β Ds)], rfl, sq_of upd_same, .cons pt (.cons pt .nil), y1, y2, y3, rfl, _, rfl, ?_⟩
  rw [decide_eq_true rfl]
  exact q _ ((e5.trans f2).trans f3)
end
end KH05

namespace KH05
open PySem L2 Evl ExM Dg Dt LamR LamX Told TL StX ClX
open Dr (StAt SameB)
theorem sm_sz {d : PyData} (s : Sm d) : d.showable = true ∧ d.shown.length ≤ sizeLine ∧ d.depth ≤ 60 := ⟨s.a, Nat.le_trans s.b (by rw [sizeLine_eq]; decide), Nat.le_trans s.c (by decide)⟩
theorem wd_len {n : Nat} (h1 : 1 ≤ n) (h3 : n ≤ 5) : (PyData.str (wdN n)).shown.length ≤ 30 := by
  have cc : n = 1 ∨ n = 2 ∨ n = 3 ∨ n = 4 ∨ n = 5 := by omega
  rcases cc with rfl | rfl | rfl | rfl | rfl <;> decide +kernel
theorem pl_i {i : Int} (h : i.natAbs < 2 ^ 64) : plainD (.int i) := by
  show i.natAbs.log2 < 1920
  by_cases hz : i.natAbs = 0
  · rw [hz]; decide
  · exact Nat.lt_of_lt_of_le ((Nat.log2_lt hz).mpr h) (by decide)
theorem pl_str {x : Str} (h : ∀ c ∈ x.cps.toList, c < 16 ^ 8) : plainD (.str x) := h
abbrev bigI : Int := (10 : Int) ^ ((20 : Int).toNat)
abbrev xsBad (t1 : Addr) : List V := [.non, .int 1, .int 11, .int 0, .bl true, .str "10", .ref t1, .int bigI]
theorem bad_val {H : Hp} {t1 p l : Addr} (h1 : H t1 = some (.tup [.int 2])) (o1 : t1 ≠ p ∧ t1 ≠ l) {i : Nat} {v : V} (h : (xsBad t1)[i]? = some v) : ∃ d, (∀ H', SameB H H' p l → Pv H' v d) ∧ noB d = true ∧ Sq d ∧ noL d = true := by
  have hi : i < 8 := (List.getElem?_eq_some_iff.mp h).1
  have cc : i = 0 ∨ i = 1 ∨ i = 2 ∨ i = 3 ∨ i = 4 ∨ i = 5 ∨ i = 6 ∨ i = 7 := by omega
  rcases cc with rfl | rfl | rfl | rfl | rfl | rfl | rfl | rfl <;> cases h
  · exact ⟨_, fun _ _ => .non, rfl, sq_plain trivial (by simp [cap]) (by simp [PyData.depth]), rfl⟩
  · exact ⟨_, fun _ _ => .int 1, rfl, sq_plain (pl_i (by decide)) (by simp [cap]) (by simp [PyData.depth]), rfl⟩
  · exact ⟨_, fun _ _ => .int 11, rfl, sq_plain (pl_i (by decide)) (by simp [cap]) (by simp [PyData.depth]), rfl⟩
  · exact ⟨_, fun _ _ => .int 0, rfl, sq_plain (pl_i (by decide)) (by simp [cap]) (by simp [PyData.depth]), rfl⟩
  · exact ⟨_, fun _ _ => .bl true, rfl, sq_plain trivial (by simp [cap]) (by simp [PyData.depth]), rfl⟩
  · exact ⟨_, fun _ _ => .str "10", rfl, sq_plain (pl_str (by intro c hc; exact (by decide : ∀ c ∈ (("10" : Str)).cps.toList, c < 16 ^ 8) c hc)) (by decide) (by simp [PyData.depth]), rfl⟩
  · exact ⟨.tuple [.int 2], fun H' e => .tup (is := [2]) (e _ _ h1 o1.1 o1.2), rfl, sq_plain ⟨pl_i (by decide), trivial⟩ (by simp [cap, capAll]) (by simp [PyData.depth, PyData.depthAll]), rfl⟩
  · exact ⟨_, fun _ _ => .int bigI, by decide +kernel, sq_plain (show bigI.natAbs.log2 < 1920 by decide +kernel) (by simp [cap]) (by simp [PyData.depth]), rfl⟩
theorem Pv.tk {H H' : Hp} (e : TupK H H') {v : V} {d : PyData} (h : Pv H v d) (k : noL d = true) : Pv H' v d := by
  induction h with
  | non => exact .non
  | bl b => exact .bl b
  | int i => exact .int i
  | str x => exact .str x
  | tup h => exact .tup (e _ _ h)
  | lst h => rw [noL] at k; cases k
  | pair h _ _ i1 i2 =>
    rw [noL, noLs, noLs, noLs, Bool.and_eq_true, Bool.and_eq_true] at k
    exact .pair (e _ _ h) (i1 k.1) (i2 k.2.1)
theorem noQ_due {d : PyData} (h : isQ d = false) (β : Nat) : dueO β d = some .none ∧ seqD d = [] := by
  cases d <;> first | exact ⟨rfl, rfl⟩ | cases h
theorem due_nil {β : Nat} {Ds : List PyData} (h20 : Ds.length ≤ 20) {K : PySem.W.Frag} {σ : St} {H : Hp} {pd : Addr} (h6 : σ[6]? = some (some (.ref pd))) (hpd : H pd = some (.lst (dueL (dueD β Ds)))) : EvT (tTest (tOp (rEqD K) (tVar 6) (tLst tNil))) σ H (dueD β Ds).isNone := by
  cases hd : dueD β Ds with
  | none =>
    rw [hd] at hpd
    exact et_test (ev_opL (ev_var h6) (el_lst ea_nil (by simp)) fun p3 H3 h3 e3 => fun H4 e4 Q4 q4 => ⟨.list [], .list [], .lst (sq_of (e4 _ _ (e3 _ _ hpd))) .nil, .lst (sq_of (e4 _ _ h3)) .nil, by decide +kernel, by decide +kernel, by
      rw [show PyData.eqv (.list []) (.list []) = true by decide +kernel]
      exact q4 _ (Ex.refl _)⟩)
  | some pl =>
    rw [hd] at hpd
    obtain ⟨kp, np, tsp⟩ := due_pl h20 hd
    have hneq : PyData.eqv (.list [pl]) (.list []) = false := by simp [PyData.eqv, PyData.eqvAll]
    have tsl : SeqAt.shaped (.list [pl]) = true := by
      have := tsp.l
      have := tsp.e
      refine Bool.and_eq_true_iff.mpr ⟨by simp only [PyData.canLay0, PyData.canLayAll0, tsp.l, Bool.and_self], decide_eq_true ?_⟩
      simp only [PyData.depth, PyData.depthAll]
      omega
    exact et_test (ev_opL (ev_var h6) (el_lst ea_nil (by simp)) fun p3 H3 h3 e3 => fun H4 e4 Q4 q4 => ⟨.list [pl], .list [], .lst (sq_of (e4 _ _ (e3 _ _ hpd))) (.cons ((kp _).dp np) .nil), .lst (sq_of (e4 _ _ h3)) .nil, tsl, by decide +kernel, by
      rw [hneq]
      exact q4 _ (Ex.refl _)⟩)
section
variable {w : World} {mg : Str → Option Value} {h base : Heap} (X : (K05 w.params).In h) (G : h.Ns mainGlobals mg) {c : Addr} {A : Around} {outer : List Env} {s : Shared} {H0 : Hp} {E0 : XK} {P : Addr} {T : List (Addr × Str)} (R : Rm w mg base c A outer s H0 E0 P T) (L : TxL mg)
include X G R L
theorem row5 : ∃ t, PS (XL w mg base c A outer s H0 E0) (inLoop 5) t ∧ ∀ (D : Ends) (H : Hp) (sc p cc l o : Addr) (n : Nat) (a : Int) (x3 x4 x5 x6 x7 x8 x9 x10 x11 x12 x13 x14 : Option V), l ≠ cc → a + 1000 < 2 ^ 39 → Lw T p cc l n a H →
    (∀ (v : V) (d : PyData) (H' : Hp), SameB H H' p l → Pv H' v d → noB d = true → Sq d → noL d = true → Lw T p cc l n (a + 1) H' → D.nx [some (.ref sc), some (.ref p), some (.ref o), x3, x4, x5, x6, x7, some (v), x9, x10, x11, x12, x13, x14] H') → t D [some (.ref sc), some (.ref p), some (.ref o), x3, x4, x5, x6, x7, x8, x9, x10, x11, x12, x13, x14] H := by
  obtain ⟨hr, hu64, TB, hT, hu⟩ := R
  refine ⟨_, (ps_set (i := 8) scLaw.nd rfl (.inr rfl) (pe_call (f_of X G) (hr.r.mono (by decide)) (by rfl) L.of (kp_l_of _) (bd_l_of _) .nil pass0 (pa_cons (pv 1) (pa_cons (pe_lst (pa_cons pe_non (pa_cons pe_int (pa_cons pe_int (pa_cons pe_int (pa_cons pe_bl (pa_cons pe_str (pa_cons (pe_tup (pa_cons pe_int pa_nil)) (pa_cons (pe_op op_pow pe_int pe_int) pa_nil))))))))) pa_nil)))), fun D H sc p cc l o n a x3 x4 x5 x6 x7 x8 x9 x10 x11 x12 x13 x14 nlc ha W q => ?_⟩
  refine ⟨_, rfl, (by show (1:Nat) ≤ sizeLine; rw [sizeLine_eq]; omega), fun t1 nt1 => ⟨_, _, rfl, rfl, ⟨by decide, by decide, by decide⟩, (by show (8:Nat) ≤ sizeLine; rw [sizeLine_eq]; omega), fun so nso => ?_⟩⟩
  have a1 := Ex.new (o := .tup [.int 2]) nt1
  have a2 := Ex.new (o := .lst (xsBad t1)) nso
  have o1 := W.off nt1
  have o2 := (W.ex a1).off nso
  have W1 := (W.ex a1).ex a2
  refine ⟨p, cc, l, so, n, a, _, rfl, W1.s, nlc, by omega, upd_same, o2.1, o2.2, (by show 0 < 8; decide), (by show 8 < 1073741824; decide), fun i v H1 hv S1 sb1 nn1 => ?_⟩
  obtain ⟨d, k, nb, sq, nl⟩ := bad_val (sb1 _ _ (a2 _ _ upd_same) o1.1 o1.2) o1 hv
  exact q v d H1 (sameB_trans (sameB_ex (a1.trans a2)) sb1) (k _ (fun _ _ h _ _ => h)) nb sq nl (W1.same S1 sb1)
theorem row6 : ∃ t, PS (XL w mg base c A outer s H0 E0) (inLoop 6) t ∧ ∀ (D : Ends) (H : Hp) (sc p cc l o : Addr) (n : Nat) (a : Int) (x3 x4 x5 x6 x7 x8 x9 x10 x11 x12 x13 x14 : Option V) (β : Nat) (vr b : V) (Ds : List PyData) (d : PyData), Lw T p cc l n a H → Ru H β vr Ds → Pv H b d → noB d = true → Sq d →
    (∀ (H' : Hp), ExtN H H' → Lw T p cc l n a H' → D.nx [some (.ref sc), some (.ref p), some (.ref o), x3, x4, some (vr), x6, x7, some (b), x9, x10, x11, x12, x13, x14] H') → t D [some (.ref sc), some (.ref p), some (.ref o), x3, x4, some (vr), x6, x7, some (b), x9, x10, x11, x12, x13, x14] H := by
  obtain ⟨hr, hu64, TB, hT, hu⟩ := R
  refine ⟨_, (ps_if (pt_cmpR op_ne (pe_callB (call_reprJ hr.g hu64) (by rfl) L.repr (by decide +kernel) (pa_cons (pe_lamcallR (k := 10) (T := T) (by rfl) L.raised (kp_l_raised _) (lk05 _) (hcd05 _) (bd_l_raised _) Told.scR rfl (.inl rfl) (Told.raised_gives (ca := ca05) (txT X G) (rwT05 _)) TB rfl hT hu (hr.r.mono (by decide)) (lamN_by (show lamNB (defScope sLaw) _ nLaw = true by decide +kernel)) (by rfl) (fun _ _ _ _ _ => by rfl) (fun A outer s H E f c' hr' => (pe_cmeth (pe_glob (by rfl) (mgStyle X G) (v := .ref 616) rfl) (crS _) (cmOf _) ((f_ofS X G).raw (bdOfS _) .nil) (hr'.mono (by decide)) (fun pins σ H s e s' I c => passAt (takes_of rfl rfl rfl rfl) σ pins H s e s' I c) (pa_cons (pv 8) (pa_cons (pv 5) pa_nil))))) pa_nil)) (pe_callB (call_reprJ hr.g hu64) (by rfl) L.repr (by decide +kernel) (pa_cons (pe_tup (pa_cons pe_str (pa_cons (pv 8) pa_nil))) pa_nil)) (nomark _)) (pss_one (ps_ret pe_bl)) pss_nil), fun D H sc p cc l o n a x3 x4 x5 x6 x7 x8 x9 x10 x11 x12 x13 x14 β vr b Ds d W Rr pb nb sq q => ?_⟩
  have sp := sq.pair (x := "base") (wd_len (n := 1) (by decide) (by decide))
  obtain ⟨y1, y2, y3⟩ := sm_sz sp
  refine rd_raisedA (n := 1) (A := Is1 b) W.t (is1_keeps b) (fun H1 f1 HZ eZ E Q' hE => ⟨rfl, _, rfl, _, rfl, b, vr, .tuple Ds, false, rfl, (pb.extN (f1.trans (ExtN.of eZ))).bs nb, Rr.k.extN (f1.trans (ExtN.of eZ)), (by show Ds.length ≤ 100000; have := Rr.len; omega), fun _ => leaves_of (by decide) (by decide) (by decide) (by decide) (by decide) rfl hE, fun z => nomatch z⟩) fun vs1 r1 H1 x1 T1 a1 g1 => ?_
  have a1' : vs1 = [b] := a1
  subst a1'
  have pb1 := pb.extN x1
  refine ⟨.ref r1, .tuple [.str "base", d], rfl, .pair (st_of g1) pb1.dj, y1, y2, y3, _, rfl, (by show (2:Nat) ≤ sizeLine; rw [sizeLine_eq]; omega), fun t3 nt3 => ?_⟩
  have f4 := Ex.new (o := .tup [.str "base", b]) nt3
  refine ⟨.ref t3, .tuple [.str "base", d], rfl, .pair (st_of upd_same) (pb1.ex f4).dj, y1, y2, y3, rfl, _, rfl, ?_⟩
  rw [decide_eq_true rfl]
  exact q _ (x1.trans (ExtN.of f4)) ((W.extN x1 T1).ex f4)
theorem row7 : ∃ t, PS (XL w mg base c A outer s H0 E0) (inLoop 7) t ∧ ∀ (D : Ends) (H : Hp) (sc p cc l o : Addr) (n : Nat) (a : Int) (x3 x4 x5 x6 x7 x8 x9 x10 x11 x12 x13 x14 : Option V) (β : Nat) (vr : V) (Ds : List PyData) (pd : Addr), Ru H β vr Ds → H pd = some (.lst (dueL (dueD β Ds))) →
    (∀ (y9 y10 : Option V) (H' : Hp), Ex H H' → D.nx [some (.ref sc), some (.ref p), some (.ref o), x3, some (.int β), some (vr), some (.ref pd), x7, x8, y9, y10, x11, x12, x13, x14] H') → t D [some (.ref sc), some (.ref p), some (.ref o), x3, some (.int β), some (vr), some (.ref pd), x7, x8, x9, x10, x11, x12, x13, x14] H := by
  obtain ⟨hr, hu64, TB, hT, hu⟩ := R
  refine ⟨_, (ps_if (pt_cmpR (op_eqD (show _ + 64 < cLine from hu64)) (pv 6) (pe_lst pa_nil) (nomark _)) (pss_cons (ps_set (i := 9) scLaw.nd rfl (.inl rfl) (pe_callTy (T := "list") (r := rListOf (K05 w.params)) call_list_of (by rfl) (txO X G).list (by decide +kernel) (pa_cons (pv 5) pa_nil))) (pss_cons (ps_set (i := 10) scLaw.nd rfl (.inl rfl) (pe_cmeth (pe_glob (by rfl) (mgStyle X G) (v := .ref 616) rfl) (crS _) (cmOf _) ((f_ofS X G).raw (bdOfS _) .nil) (hr.r.mono (by decide)) (fun pins σ H s e s' I c => passAt L2.takes0 σ pins H s e s' I c) (pa_cons (pv 4) (pa_cons (pv 9) pa_nil)))) (pss_cons (ps_expr (pe_bm PySem.F.plainAttrs_list PySem.F.slot_list_append PySem.F.type_list_append mt_append (pv 9) (pa_cons (pe_ix ix_list (pv 9) pe_int (fun _ _ => rfl)) pa_nil))) (pss_one (ps_if (pt_cmpR op_ne (pe_callB (call_reprK hr.g hu64) (by rfl) L.repr (by decide +kernel) (pa_cons (pe_lst (pa_cons (pe_prop (pv 10) (clS _) (prB _) (f_base X G) (hr.r.mono (by decide)) (bdB _) .nil pass0 rfl) (pa_cons (pe_prop (pv 10) (clS _) (prR _) (f_rules X G) (hr.r.mono (by decide)) (bdR _) .nil pass0 rfl) (pa_cons (pe_callB (call_len_own (isLen _) (fLen _) (f_len X G) (hr.r.mono (by decide)) (bdLen _)) (by rfl) (txT X G).len (by decide +kernel) (pa_cons (pv 10) pa_nil)) pa_nil)))) pa_nil)) (pe_callB (call_reprK hr.g hu64) (by rfl) L.repr (by decide +kernel) (pa_cons (pe_lst (pa_cons (pv 4) (pa_cons (pv 5) (pa_cons (pe_callB call_len_seq (by rfl) (txT X G).len (by decide +kernel) (pa_cons (pv 5) pa_nil)) pa_nil)))) pa_nil)) (nomark _)) (pss_one (ps_ret pe_bl)) pss_nil))))) pss_nil), fun D H sc p cc l o n a x3 x4 x5 x6 x7 x8 x9 x10 x11 x12 x13 x14 β vr Ds pd Rr hpd q => ?_⟩
  have b2 := Rr.b2
  have b10 := Rr.b10
  have h20 := Rr.len
  obtain ⟨ar, rs, rfl, har, kr⟩ := Rr.k.tupI'
  refine s_when (b := (dueD β Ds).isNone) (due_nil h20 rfl hpd) (fun z H1 e1 => ?_) fun z H1 e1 => q _ _ H1 e1
  have hn : dueD β Ds = none := by simpa using z
  obtain ⟨hlen, hall, _⟩ := due_none hn
  have hnl := rules_noL hall
  have hlr := kr.length
  have har1 := e1 _ _ har
  have kr1 := kr.ex e1
  refine ⟨_, rfl, ar, rs, rfl, .inr (st_of har1), fun l1 nl1 => ?_⟩
  have e2 := Ex.new (o := .lst rs) nl1
  refine ⟨rfl, _, rfl, _, rfl, .int β, .ref l1, .list Ds, true, rfl, bs_yes b2 b10, .lst upd_same (kr1.ex e2), (by show Ds.length ≤ 100000; omega), (fun z => nomatch z), fun _ => ⟨β, rfl, b2, b10, ⟨fun pl h => absurd (hn.symm.trans h) (by simp), fun _ x H3 e3 sty => ?_⟩⟩⟩
  have hl3 := e3 _ _ (show (upd H1 l1 (.lst rs)) l1 = some (.lst rs) from upd_same)
  have e13 := (e2.trans e3)
  have har3 := e13 _ _ har1
  obtain ⟨v0, hv0⟩ : ∃ v0, rs[0]? = some v0 := ⟨_, List.getElem?_eq_getElem (by omega)⟩
  refine ⟨_, rfl, .inl ⟨rfl, _, SqL.of hl3⟩, _, rfl, l1, rs, 0, v0, rfl, rfl, SqL.of hl3, atI_nat (j := 0) hv0, l1, rs, v0, rfl, rfl, hl3, (by rw [sizeLine_eq]; omega), ?_⟩
  have eM : Ex H1 (upd H3 l1 (.lst (rs ++ [v0]))) := Ex.mut e13 nl1
  obtain ⟨dx, t, hx, kt⟩ := sty
  have hx4 : (upd H3 l1 (.lst (rs ++ [v0]))) x = some (.ins 616 dx [("stored_base", .int (β : Int)), ("stored_rules", .ref t)]) := by
    rw [upd_ne (ne_of hx hl3 (by intro z; cases z))]
    exact hx
  have kt4 : Pt (upd H3 l1 (.lst (rs ++ [v0]))) (.ref t) (.tuple Ds) := kt.tk (tupK_upd hl3) (by rw [noL]; exact hnl)
  have sty4 : StyAt (upd H3 l1 (.lst (rs ++ [v0]))) 616 x β Ds := ⟨dx, t, hx4, kt4⟩
  have har4 := eM _ _ har1
  have k4 : Pt (upd H3 l1 (.lst (rs ++ [v0]))) (.ref ar) (.tuple Ds) := .tup har4 (kr1.ex eM)
  have tsD := ts_rules b10 hall h20
  have nkD : noK (.tuple Ds) = true := noL_K (by rw [noL]; exact hnl)
  obtain ⟨z1, z2⟩ := shown_cap (.list [.int (β : Int), .tuple Ds, .int (Ds.length : Int)]) ⟨pl_i (by omega), tsD.p, pl_i (by omega), trivial⟩
  have y2 : (PyData.list [.int (β : Int), .tuple Ds, .int (Ds.length : Int)]).shown.length ≤ sizeLine := by
    refine Nat.le_trans z2 ?_
    have := tsD.c
    rw [sizeLine_eq]
    simp only [cap, capAll] at this ⊢
    omega
  have y3 : PyData.depthAll [.int (β : Int), .tuple Ds, .int (Ds.length : Int)] ≤ 60 := by
    have := tsD.e
    simp only [PyData.depthAll, PyData.depth] at this ⊢
    omega
  refine ⟨_, rfl, x, dx, _, rfl, hx4, x, dx, _, _, rfl, hx4, lk_base _ _, _, rfl, x, dx, _, rfl, hx4, x, dx, _, _, rfl, hx4, lk_rules _ _, _, rfl, x, dx, _, rfl, hx4, x, β, Ds, rfl, sty4, Ds.length, rfl, (by rw [sizeLine_eq]; omega), (by show (3:Nat) ≤ sizeLine; rw [sizeLine_eq]; omega), fun tp ntp => ?_⟩
  have e5 := Ex.new (o := .lst [.int (β : Int), .ref t, .int (Ds.length : Int)]) ntp
  refine ⟨tp, _, [.int (β : Int), .tuple Ds, .int (Ds.length : Int)], rfl, sq_of upd_same, .cons (djP (.int _) rfl) (.cons (djP (kt4.ex e5) nkD) (.cons (djP (.int _) rfl) .nil)), z1, y2, y3, _, rfl, _, rfl, _, rfl, ar, rs, rfl, .inr (st_of (e5 _ _ har4)), (by show (3:Nat) ≤ sizeLine; rw [sizeLine_eq]; omega), fun t2 nt2 => ?_⟩
  have e6 := Ex.new (o := .lst [.int (β : Int), .ref ar, .int (rs.length : Int)]) nt2
  refine ⟨t2, _, [.int (β : Int), .tuple Ds, .int (Ds.length : Int)], rfl, sq_of upd_same, .cons (djP (.int _) rfl) (.cons (djP ((k4.ex e5).ex e6) nkD) (.cons (djP (by rw [hlr]; exact .int _) rfl) .nil)), z1, y2, y3, rfl, _, rfl, ?_⟩
  rw [decide_eq_true rfl]
  exact q _ _ _ (((e1.trans eM).trans e5).trans e6)
theorem row8 : ∃ t, PS (XL w mg base c A outer s H0 E0) (inLoop 8) t ∧ ∀ (D : Ends) (H : Hp) (sc p cc l o : Addr) (n : Nat) (a : Int) (x3 x4 x5 x6 x7 x8 x9 x10 x11 x12 x13 x14 : Option V), l ≠ cc → a + 1000 < 2 ^ 39 → Lw T p cc l n a H →
    (∀ (v : V) (d : PyData) (H' : Hp), SameB H H' p l → Pt H' v d → isQ d = false → Lw T p cc l n (a + 1) H' → D.nx [some (.ref sc), some (.ref p), some (.ref o), x3, x4, x5, x6, x7, x8, x9, x10, some (v), x12, x13, x14] H') → t D [some (.ref sc), some (.ref p), some (.ref o), x3, x4, x5, x6, x7, x8, x9, x10, x11, x12, x13, x14] H := by
  obtain ⟨hr, hu64, TB, hT, hu⟩ := R
  refine ⟨_, (ps_set (i := 11) scLaw.nd rfl (.inr rfl) (pe_call (f_of X G) (hr.r.mono (by decide)) (by rfl) L.of (kp_l_of _) (bd_l_of _) .nil pass0 (pa_cons (pv 1) (pa_cons (pe_lst (pa_cons pe_non (pa_cons pe_int (pa_cons pe_str (pa_cons pe_dnewK (pa_cons pe_bl pa_nil)))))) pa_nil)))), fun D H sc p cc l o n a x3 x4 x5 x6 x7 x8 x9 x10 x11 x12 x13 x14 nlc ha W q => ?_⟩
  refine ⟨_, rfl, fun t1 nt1 => ⟨(by show (5:Nat) ≤ sizeLine; rw [sizeLine_eq]; omega), fun so nso => ?_⟩⟩
  have a1 := Ex.new (o := .dK []) nt1
  have a2 := Ex.new (o := .lst [.non, .int 5, .str "all", .ref t1, .bl true]) nso
  have o1 := W.off nt1
  have o2 := (W.ex a1).off nso
  have W1 := (W.ex a1).ex a2
  refine ⟨p, cc, l, so, n, a, _, rfl, W1.s, nlc, by omega, upd_same, o2.1, o2.2, (by show 0 < 5; decide), (by show 5 < 1073741824; decide), fun i v H1 hv S1 sb1 nn1 => ?_⟩
  have sbA := sameB_trans (sameB_ex (a1.trans a2)) sb1
  have WA := W1.same S1 sb1
  have hi : i < 5 := (List.getElem?_eq_some_iff.mp hv).1
  have cc' : i = 0 ∨ i = 1 ∨ i = 2 ∨ i = 3 ∨ i = 4 := by omega
  rcases cc' with rfl | rfl | rfl | rfl | rfl <;> cases hv
  · exact q _ .none H1 sbA .non rfl WA
  · exact q _ (.int 5) H1 sbA (.int 5) rfl WA
  · exact q _ (.str "all") H1 sbA (.str _ (by decide)) rfl WA
  · exact q _ (.dict []) H1 sbA (.nil (sb1 _ _ (a2 _ _ upd_same) o1.1 o1.2)) rfl WA
  · exact q _ (.bool true) H1 sbA (.bl true) rfl WA
theorem row9 : ∃ t, PS (XL w mg base c A outer s H0 E0) (inLoop 9) t ∧ ∀ (D : Ends) (H : Hp) (sc p cc l o : Addr) (n : Nat) (a : Int) (x3 x4 x5 x6 x7 x8 x9 x10 x11 x12 x13 x14 : Option V) (β : Nat) (b v : V) (d e : PyData), Lw T p cc l n a H → 2 ≤ β → β ≤ 10 → Pv H b d → noB d = true → Pt H v e → isQ e = false →
    (∀ (tp r1 r2 : Addr) (H' : Hp), ExtN H H' → Lw T p cc l n a H' → H' tp = some (.lst [.ref r1, .ref r2]) → H' r1 = some (.tup [.str "rule", .non]) → H' r2 = some (.tup [.str "base", b]) → D.nx [some (.ref sc), some (.ref p), some (.ref o), x3, some (.int β), x5, x6, x7, some (b), x9, x10, some (v), some (.ref tp), x13, x14] H') → t D [some (.ref sc), some (.ref p), some (.ref o), x3, some (.int β), x5, x6, x7, some (b), x9, x10, some (v), x12, x13, x14] H := by
  obtain ⟨hr, hu64, TB, hT, hu⟩ := R
  refine ⟨_, (ps_set (i := 12) scLaw.nd rfl (.inl rfl) (pe_lst (pa_cons (pe_lamcallR (k := 10) (T := T) (by rfl) L.raised (kp_l_raised _) (lk05 _) (hcd05 _) (bd_l_raised _) Told.scR rfl (.inl rfl) (Told.raised_gives (ca := ca05) (txT X G) (rwT05 _)) TB rfl hT hu (hr.r.mono (by decide)) (lamN_by (show lamNB (defScope sLaw) _ nLaw = true by decide +kernel)) (by rfl) (fun _ _ _ _ _ => by rfl) (fun A outer s H E f c' hr' => (pe_cmeth (pe_glob (by rfl) (mgStyle X G) (v := .ref 616) rfl) (crS _) (cmOf _) ((f_ofS X G).raw (bdOfS _) .nil) (hr'.mono (by decide)) (fun pins σ H s e s' I c => passAt (takes_of rfl rfl rfl rfl) σ pins H s e s' I c) (pa_cons (pv 4) (pa_cons (pv 11) pa_nil))))) (pa_cons (pe_lamcallD (k := 10) (T := T) (y := "at") (n := 0) (by rfl) L.raised (kp_l_raised _) (lk05 _) (hcd05 _) (bd_l_raised _) Told.scR rfl (.inl rfl) (Told.raised_gives (ca := ca05) (txT X G) (rwT05 _)) TB rfl hT hu (hr.r.mono (by decide)) (lamN_by (show lamNB (defScope sLaw) _ nLaw = true by decide +kernel)) (by rfl) (by rfl) (by rfl) (fun _ _ _ _ _ _ _ _ => ⟨_, by rfl, by rfl⟩) (fun A outer s H E f c' hr' => (pe_cmeth (pe_glob (by rfl) (mgStyle X G) (v := .ref 616) rfl) (crS _) (cmOf _) ((f_ofS X G).raw (bdOfS _) .nil) (hr'.mono (by decide)) (fun pins σ H s e s' I c => passAt (takes_of rfl rfl rfl rfl) σ pins H s e s' I c) (pa_cons (pv 8) (pa_cons (pv 11) pa_nil))))) pa_nil)))), fun D H sc p cc l o n a x3 x4 x5 x6 x7 x8 x9 x10 x11 x12 x13 x14 β b v d e W b2 b10 pb nb kv hq q => ?_⟩
  obtain ⟨hdue, hseq⟩ := noQ_due hq β
  have hl0 : (seqD e).length ≤ 100000 := by rw [hseq]; decide
  refine rd_raisedA (n := 5) (A := Is1 .non) W.t (is1_keeps .non) (fun H1 f1 HZ eZ E Q' hE => ⟨rfl, _, rfl, _, rfl, .int β, v, e, true, rfl, bs_yes b2 b10, kv.extN (f1.trans (ExtN.of eZ)), hl0, (fun z => nomatch z), fun _ => ⟨β, rfl, b2, b10, ⟨fun pl h => by
    injection hdue.symm.trans h with h
    subst h
    exact leavesF_of (by decide) (by decide) (by decide) (by decide) (by decide) rfl hE, fun h => absurd (hdue.symm.trans h) (by simp)⟩⟩⟩) fun vs1 r1 H1 x1 T1 a1 g1 => ?_
  refine rd_raisedA (n := 1) (A := Is1 b) T1 (is1_keeps b) (fun H2 f2 HZ eZ E Q' hE => ⟨rfl, _, rfl, _, rfl, b, v, e, false, rfl, (pb.extN ((x1.trans f2).trans (ExtN.of eZ))).bs nb, kv.extN ((x1.trans f2).trans (ExtN.of eZ)), (hl0), fun _ => leaves_of (by decide) (by decide) (by decide) (by decide) (by decide) rfl hE, fun z => nomatch z⟩) fun vs2 r2 H2 x2 T2 a2 g2 => ⟨(by show (2:Nat) ≤ sizeLine; rw [sizeLine_eq]; omega), fun tp ntp => ?_⟩
  have a1' : vs1 = [.non] := a1
  have a2' : vs2 = [b] := a2
  subst a1' a2'
  have en := Ex.new (o := .lst [.ref r1, .ref r2]) ntp
  exact q tp r1 r2 _ ((x1.trans x2).trans (ExtN.of en)) ((W.extN (x1.trans x2) T2).ex en) upd_same (en _ _ (x2 _ _ g1 (by simp))) (en _ _ g2)
theorem row10 : ∃ t, PS (XL w mg base c A outer s H0 E0) (inLoop 10) t ∧ ∀ (D : Ends) (H : Hp) (sc p cc l o : Addr) (n : Nat) (a : Int) (x3 x4 x5 x6 x7 x8 x9 x10 x11 x12 x13 x14 : Option V) (b : V) (d : PyData) (tp r1 r2 : Addr), Pv H b d → Sq d → H tp = some (.lst [.ref r1, .ref r2]) → H r1 = some (.tup [.str "rule", .non]) → H r2 = some (.tup [.str "base", b]) →
    (∀ (H' : Hp), Ex H H' → D.nx [some (.ref sc), some (.ref p), some (.ref o), x3, x4, x5, x6, x7, some (b), x9, x10, x11, some (.ref tp), x13, x14] H') → t D [some (.ref sc), some (.ref p), some (.ref o), x3, x4, x5, x6, x7, some (b), x9, x10, x11, some (.ref tp), x13, x14] H := by
  obtain ⟨hr, hu64, TB, hT, hu⟩ := R
  refine ⟨_, (ps_if (pt_cmpR op_ne (pe_callB (call_reprK hr.g hu64) (by rfl) L.repr (by decide +kernel) (pa_cons (pv 12) pa_nil)) (pe_callB (call_reprK hr.g hu64) (by rfl) L.repr (by decide +kernel) (pa_cons (pe_lst (pa_cons (pe_tup (pa_cons pe_str (pa_cons pe_non pa_nil))) (pa_cons (pe_tup (pa_cons pe_str (pa_cons (pv 8) pa_nil))) pa_nil))) pa_nil)) (nomark _)) (pss_one (ps_ret pe_bl)) pss_nil), fun D H sc p cc l o n a x3 x4 x5 x6 x7 x8 x9 x10 x11 x12 x13 x14 b d tp r1 r2 pb sq g0 g1 g2 q => ?_⟩
  have sp := sq.pair (x := "base") (wd_len (n := 1) (by decide) (by decide))
  have sn : Sm (.tuple [.str "rule", .none]) := Sq.pair (x := "rule") (wd_len (n := 5) (by decide) (by decide)) (sq_plain trivial (by simp [cap]) (by simp [PyData.depth]))
  obtain ⟨y1, y2, y3⟩ := SmAll.list (.cons sn (.cons sp .nil)) (by simp)
  refine ⟨_, rfl, tp, _, [.tuple [.str "rule", .none], .tuple [.str "base", d]], rfl, sq_of g0, .cons (.pair (st_of g1) (djP .non rfl)) (.cons (.pair (st_of g2) pb.dj) .nil), y1, y2, y3, (by show (2:Nat) ≤ sizeLine; rw [sizeLine_eq]; omega), fun t1 nt1 => ⟨_, rfl, (by show (2:Nat) ≤ sizeLine; rw [sizeLine_eq]; omega), fun t2 nt2 => ⟨(by show (2:Nat) ≤ sizeLine; rw [sizeLine_eq]; omega), fun l1 nl1 => ?_⟩⟩⟩
  have f1 := Ex.new (o := .tup [.str "rule", .non]) nt1
  have f2 := Ex.new (o := .tup [.str "base", b]) nt2
  have f3 := Ex.new (o := .lst [.ref t1, .ref t2]) nl1
  refine ⟨l1, _, [.tuple [.str "rule", .none], .tuple [.str "base", d]], rfl, sq_of upd_same, .cons (.pair (st_of ((f2.trans f3) _ _ upd_same)) (djP .non rfl)) (.cons (.pair (st_of (f3 _ _ upd_same)) (pb.ex ((f1.trans f2).trans f3)).dj) .nil), y1, y2, y3, rfl, _, rfl, ?_⟩
  rw [decide_eq_true rfl]
  exact q _ ((f1.trans f2).trans f3)
end
end KH05

namespace KH05
open PySem L2 Evl ExM Dg Dt LamR LamX Told TL StX ClX
open Dr (StAt SameB)
section
variable {w : World} {mg : Str → Option Value} {h base : Heap} (X : (K05 w.params).In h) (G : h.Ns mainGlobals mg) {c : Addr} {A : Around} {outer : List Env} {s : Shared} {H0 : Hp} {E0 : XK} {P : Addr} {T : List (Addr × Str)} (R : Rm w mg base c A outer s H0 E0 P T) (L : TxL mg)
include X G R L
theorem turnR : ∃ t, PSs (XL w mg base c A outer s H0 E0) [inLoop 0, inLoop 1, inLoop 2, inLoop 3, inLoop 4, inLoop 5, inLoop 6, inLoop 7, inLoop 8, inLoop 9, inLoop 10] t ∧ ∀ (D : Ends) (H : Hp) (sc p cc l o : Addr) (n : Nat) (a : Int) (x3 x4 x5 x6 x7 x8 x9 x10 x11 x12 x13 x14 : Option V) (os : List V), l ≠ cc → a + 300000 < 2 ^ 39 → Lw T p cc l n a H → Od H o p l os →
    (∀ (y3 y4 y5 y6 y7 y8 y9 y10 y11 y12 : Option V) (a' : Int) (H' : Hp), a ≤ a' → a' ≤ a + 6000 → Lw T p cc l n a' H' → Od H' o p l os → D.nx [some (.ref sc), some (.ref p), some (.ref o), y3, y4, y5, y6, y7, y8, y9, y10, y11, y12, x13, x14] H') → t D [some (.ref sc), some (.ref p), some (.ref o), x3, x4, x5, x6, x7, x8, x9, x10, x11, x12, x13, x14] H := by
  obtain ⟨t0, p0, q0⟩ := row0 X G R L
  obtain ⟨t1, p1, q1⟩ := row1 X G R L
  obtain ⟨t2, p2, q2⟩ := row2 X G R L
  obtain ⟨t3, p3, q3⟩ := row3 X G R L
  obtain ⟨t4, p4, q4⟩ := row4 X G R L
  obtain ⟨t5, p5, q5⟩ := row5 X G R L
  obtain ⟨t6, p6, q6⟩ := row6 X G R L
  obtain ⟨t7, p7, q7⟩ := row7 X G R L
  obtain ⟨t8, p8, q8⟩ := row8 X G R L
  obtain ⟨t9, p9, q9⟩ := row9 X G R L
  obtain ⟨t10, p10, q10⟩ := row10 X G R L
  refine ⟨_, (pss_cons p0 (pss_cons p1 (pss_cons p2 (pss_cons p3 (pss_cons p4 (pss_cons p5 (pss_cons p6 (pss_cons p7 (pss_cons p8 (pss_cons p9 (pss_one p10))))))))))), fun D H sc p cc l o n a x3 x4 x5 x6 x7 x8 x9 x10 x11 x12 x13 x14 os nlc ha W O q => ?_⟩
  refine q0 _ _ sc p cc l o n a _ _ _ _ _ _ _ _ _ _ _ _ nlc (by omega) W fun β H1 b2 b10 sb1 W1 => ?_
  have O1 := O.same W.s sb1
  refine q1 _ _ sc p cc l o n (a + 1) _ _ _ _ _ _ _ _ _ _ _ _ β os nlc (by omega) W1 O1 b2 b10 rfl fun vr Ds H2 a2 Rr c1 c2 sb2 W2 => ?_
  have O2 := O1.same W1.s sb2
  refine q2 _ _ sc p cc l o n a2 _ _ _ _ _ _ _ _ _ _ _ _ β vr Ds os O2 Rr rfl fun pd H3 npd e3 hpd => ?_
  have opd := W2.off npd
  have W3 := W2.ex e3
  have O3 := O2.ex e3
  have R3 := Rr.ex e3
  refine q3 _ _ sc p cc l o n a2 _ none none _ _ _ _ _ _ _ _ _ β vr Ds W3 R3 fun tp r1 r2 H4 x4 W4 g0 k1 k2 => ?_
  have O4 := O3.extN x4
  have R4 := R3.extN x4
  have hpd4 := x4 _ _ hpd (by simp)
  refine q4 _ _ sc p cc l o n a2 _ _ _ none none _ _ _ _ _ _ _ β Ds pd tp r1 r2 Rr.len hpd4 g0 k1 k2 fun H5 e5 => ?_
  have W5 := W4.ex e5
  have O5 := O4.ex e5
  have R5 := R4.ex e5
  have hpd5 := e5 _ _ hpd4
  refine q5 _ _ sc p cc l o n a2 _ _ _ _ _ _ _ _ _ _ _ _ nlc (by omega) W5 fun b d H6 sb6 pb nb sq nlb W6 => ?_
  have O6 := O5.same W5.s sb6
  have R6 := R5.same W5.s sb6
  have hpd6 := sb6 _ _ hpd5 opd.1 opd.2
  refine q6 _ _ sc p cc l o n (a2 + 1) _ _ none _ _ none _ _ _ _ _ _ β vr b Ds d W6 R6 pb nb sq fun H7 x7 W7 => ?_
  have O7 := O6.extN x7
  have R7 := R6.extN x7
  have hpd7 := x7 _ _ hpd6 (by simp)
  refine q7 _ _ sc p cc l o n (a2 + 1) _ none none none _ _ _ _ _ _ _ _ β vr Ds pd R7 hpd7 fun z9 z10 H8 e8 => ?_
  have W8 := W7.ex e8
  have O8 := O7.ex e8
  have pb8 : Pv H8 b d := (pb.extN x7).ex e8
  refine q8 _ _ sc p cc l o n (a2 + 1) _ _ _ _ _ _ _ _ _ _ _ _ nlc (by omega) W8 fun v e H9 sb9 kv hq W9 => ?_
  have O9 := O8.same W8.s sb9
  have pb9 := pb8.tk (tupK_same W8.s sb9) nlb
  refine q9 _ _ sc p cc l o n (a2 + 1 + 1) _ none _ _ _ none _ _ none _ _ _ β b v d e W9 b2 b10 pb9 nb kv hq fun tp2 s1 s2 H10 x10 W10 h0 h1 h2 => ?_
  have O10 := O9.extN x10
  refine q10 _ _ sc p cc l o n (a2 + 1 + 1) _ _ _ _ _ none _ _ _ none _ _ b d tp2 s1 s2 (pb9.extN x10) sq h0 h1 h2 fun H11 e11 => ?_
  exact q _ _ _ _ _ _ _ _ _ _ (a2 + 1 + 1) H11 (by omega) (by omega) (W10.ex e11) (O10.ex e11)
end
end KH05

namespace KH05
open PySem L2 Evl ExM Dg Dt LamR LamX Told TL StX ClX
open Dr (StAt SameB)
def lastD : PyData := .tuple [.tuple [], .tuple [.str "all"]]
theorem last_due : dueD 3 [lastD] = none ∧ dueD 4 [lastD, lastD] = none := by decide +kernel
theorem due_c : dueD 10 [] = some .none ∧ dueD 2 [.tuple []] = some (.int 0) := ⟨due_len (by simp), due_bad (i := 0) (d := .tuple []) ⟨by decide, by decide⟩ rfl rfl (by decide +kernel)⟩
theorem tabs_upd {T : List (Addr × Str)} {H : Hp} {x : Addr} {ys zs : List V} (t : Tabs T H) (h : H x = some (.lst ys)) : Tabs T (upd H x (.lst zs)) := fun q hq => by
  obtain ⟨ps, h1, h2, h3⟩ := t q hq
  refine ⟨ps, (by rw [upd_ne (ne_of h1 h (by intro z; cases z))]; exact h1), h2, fun pos cv hc => ?_⟩
  obtain ⟨co, e1, e2⟩ := h3 pos cv hc
  exact ⟨co, e1, by rw [upd_ne (ne_of e2 h (by intro z; cases z))]; exact e2⟩
/-- Style(.., ..) by its positional promise: what is passed behind the base -/
theorem rd_mk {K : PySem.W.Frag} {C : Addr} {ca : Nat → Addr} {H : Hp} {Q : VK} {E : XK} {β : Nat} {rs : List V} {Ds : List PyData} (b2 : 2 ≤ β) (b10 : β ≤ 10) (kr : PtAll H rs Ds) (h20 : rs.length ≤ 100) (hD : Due ca H E (dueD β Ds) (∀ x H', Ex H H' → StyAt H' C x β Ds → Q (.ref x) H')) :
    ∀ x dx, H x = Option.none → H dx = Option.none → dx ≠ x → spInitR K C ca (V.ref x :: (.int (β : Int) :: rs)) (upd (upd H dx (.own x)) x (.ins C dx [])) (fun v H2 => v = .non ∧ Q (.ref x) H2) E := fun x dx hx hdx hne => by
  refine ⟨[.ref x, .int β], rs, rfl, rfl, by rw [sizeLine_eq]; omega, fun p hp => ?_⟩
  have eA : Ex H (upd (upd H dx (.own x)) x (.ins C dx [])) := (Ex.new hdx).trans (Ex.new (by rw [upd_ne (Ne.symm hne)]; exact hx))
  have eB := Ex.new (o := .tup rs) hp
  have eAB := eA.trans eB
  refine ⟨x, p, dx, .int β, rs, Ds, true, rfl, eB _ _ upd_same, upd_same, kr.ex eAB, bs_yes b2 b10, (fun z => nomatch z), fun _ => ⟨β, rfl, b2, b10, ⟨fun pl hpl => (hD.bad pl hpl).go eAB, fun hn t2 H' kx hx' k' => ⟨rfl, ?_⟩⟩⟩⟩
  refine hD.ok hn x H' (fun b o h => ?_) ⟨dx, t2, hx', k'⟩
  exact kx b o (eAB _ _ h) (ne_of_none h hx)
/-- a base that is none -/
theorem rd_mkB {K : PySem.W.Frag} {C : Addr} {ca : Nat → Addr} {H : Hp} {Q : VK} {E : XK} {i : Int} {rs : List V} {Ds : List PyData} (hb : (decide (2 ≤ i) && decide (i ≤ 10)) = false) (kr : PtAll H rs Ds) (h20 : rs.length ≤ 100) (hL : Leaves (ca 1) "value" (.int i) H E) :
    ∀ x dx, H x = Option.none → H dx = Option.none → dx ≠ x → spInitR K C ca (V.ref x :: (.int i :: rs)) (upd (upd H dx (.own x)) x (.ins C dx [])) (fun v H2 => v = .non ∧ Q (.ref x) H2) E := fun x dx hx hdx hne => by
  refine ⟨[.ref x, .int i], rs, rfl, rfl, by rw [sizeLine_eq]; omega, fun p hp => ?_⟩
  have eA : Ex H (upd (upd H dx (.own x)) x (.ins C dx [])) := (Ex.new hdx).trans (Ex.new (by rw [upd_ne (Ne.symm hne)]; exact hx))
  have eB := Ex.new (o := .tup rs) hp
  have eAB := eA.trans eB
  exact ⟨x, p, dx, .int i, rs, Ds, false, rfl, eB _ _ upd_same, upd_same, kr.ex eAB, hb ▸ .int i, fun _ => hL.go eAB, fun z => nomatch z⟩
section
variable {w : World} {mg : Str → Option Value} {h base : Heap} (X : (K05 w.params).In h) (G : h.Ns mainGlobals mg) {c : Addr} {A : Around} {outer : List Env} {s : Shared} {H0 : Hp} {E0 : XK} {P : Addr} {T : List (Addr × Str)} (R : Rm w mg base c A outer s H0 E0 P T) (L : TxL mg)
include X G R L
theorem end3 : ∃ t, PS (XL w mg base c A outer s H0 E0) (inLaw 3) t ∧ ∀ (D : Ends) (H : Hp) (sc p cc l o : Addr) (n : Nat) (a : Int) (x3 x4 x5 x6 x7 x8 x9 x10 x11 x12 x13 x14 : Option V), (∀ (v : V) (H' : Hp), Ex H H' → Pt H' v lastD → D.nx [some (.ref sc), some (.ref p), some (.ref o), x3, x4, x5, x6, x7, x8, x9, x10, x11, x12, some (v), x14] H') → t D [some (.ref sc), some (.ref p), some (.ref o), x3, x4, x5, x6, x7, x8, x9, x10, x11, x12, x13, x14] H := by
  obtain ⟨hr, hu64, TB, hT, hu⟩ := R
  refine ⟨_, (ps_set (i := 13) scLaw.nd rfl (.inr rfl) (pe_tup (pa_cons (pe_tup pa_nil) (pa_cons (pe_tup (pa_cons pe_str pa_nil)) pa_nil)))), fun D H sc p cc l o n a x3 x4 x5 x6 x7 x8 x9 x10 x11 x12 x13 x14 q => ?_⟩
  exact s_asgP (D := lastD) (ep_tup (epa_cons (ep_tup epa_nil (by simp)) (epa_cons (ep_tup (epa_cons (ep_str (by decide)) epa_nil) (by simp)) epa_nil)) (by simp)) fun v H1 e1 k1 => q v H1 e1 k1
theorem end4 : ∃ t, PS (XL w mg base c A outer s H0 E0) (inLaw 4) t ∧ ∀ (D : Ends) (H : Hp) (sc p cc l o : Addr) (n : Nat) (a : Int) (x3 x4 x5 x6 x7 x8 x9 x10 x11 x12 x13 x14 : Option V), Tabs T H →
    (∀ (tp r1 r2 : Addr) (H' : Hp), ExtN H H' → Tabs T H' → H' tp = some (.lst [.ref r1, .ref r2]) → Pt H' (.ref r1) (.tuple [.str "rule", .none]) → Pt H' (.ref r2) (.tuple [.str "rule", .int 0]) → D.nx [some (.ref sc), some (.ref p), some (.ref o), x3, x4, x5, x6, x7, x8, x9, x10, x11, some (.ref tp), x13, x14] H') → t D [some (.ref sc), some (.ref p), some (.ref o), x3, x4, x5, x6, x7, x8, x9, x10, x11, x12, x13, x14] H := by
  obtain ⟨hr, hu64, TB, hT, hu⟩ := R
  refine ⟨_, (ps_set (i := 12) scLaw.nd rfl (.inl rfl) (pe_lst (pa_cons (pe_lamcallR (k := 10) (T := T) (by rfl) L.raised (kp_l_raised _) (lk05 _) (hcd05 _) (bd_l_raised _) Told.scR rfl (.inl rfl) (Told.raised_gives (ca := ca05) (txT X G) (rwT05 _)) TB rfl hT hu (hr.r.mono (by decide)) (lamN_by (show lamNB (defScope sLaw) _ nLaw = true by decide +kernel)) (by rfl) (fun _ _ _ _ _ => by rfl) (fun A outer s H E f c' hr' => (pe_makeR (mkS _) (f_init X G) (hr'.mono (by decide)) (by rfl) (mgStyle X G) (fun pins σ H s e s' I c => passAt (takes_of rfl rfl rfl rfl) σ pins H s e s' I c) (pa_cons pe_int pa_nil)))) (pa_cons (pe_lamcallD (k := 10) (T := T) (y := "at") (n := 0) (by rfl) L.raised (kp_l_raised _) (lk05 _) (hcd05 _) (bd_l_raised _) Told.scR rfl (.inl rfl) (Told.raised_gives (ca := ca05) (txT X G) (rwT05 _)) TB rfl hT hu (hr.r.mono (by decide)) (lamN_by (show lamNB (defScope sLaw) _ nLaw = true by decide +kernel)) (by rfl) (by rfl) (by rfl) (fun _ _ _ _ _ _ _ _ => ⟨_, by rfl, by rfl⟩) (fun A outer s H E f c' hr' => (pe_makeR (mkS _) (f_init X G) (hr'.mono (by decide)) (by rfl) (mgStyle X G) (fun pins σ H s e s' I c => passAt (takes_of rfl rfl rfl rfl) σ pins H s e s' I c) (pa_cons pe_int (pa_cons (pe_tup pa_nil) pa_nil))))) pa_nil)))), fun D H sc p cc l o n a x3 x4 x5 x6 x7 x8 x9 x10 x11 x12 x13 x14 W q => ?_⟩
  refine rd_due (o := some .none) W (fun pl h => by injection h with h; subst h; exact fun _ => .non) (fun H1 f1 HZ eZ E Q' hD => rd_mk (β := 10) (Ds := []) (by decide) (by decide) .nil (by decide) (by rw [due_c.1]; exact ⟨hD.bad, fun h => by cases h⟩)) fun r1 H1 x1 T1 k1 => ?_
  refine rd_due (o := some (.int 0)) T1 (fun pl h => by injection h with h; subst h; exact fun _ => .int 0) (fun H2 f2 HZ eZ E Q' hD => ⟨(by exact Nat.zero_le _), fun t0 nt0 => ?_⟩) fun r2 H2 x2 T2 k2 => ⟨(by show (2:Nat) ≤ sizeLine; rw [sizeLine_eq]; omega), fun tp ntp => ?_⟩
  · have e0 := Ex.new (o := .tup []) nt0
    exact rd_mk (β := 2) (Ds := [.tuple []]) (by decide) (by decide) (.cons (.tup upd_same .nil) .nil) (by simp) (by rw [due_c.2]; exact ⟨fun pl h => (hD.bad pl h).go e0, fun h => by cases h⟩)
  · have en := Ex.new (o := .lst [.ref r1, .ref r2]) ntp
    exact q tp r1 r2 _ ((x1.trans x2).trans (ExtN.of en)) (T2.ext en) upd_same ((k1.extN x2).ex en) (k2.ex en)
theorem end5 : ∃ t, PS (XL w mg base c A outer s H0 E0) (inLaw 5) t ∧ ∀ (D : Ends) (H : Hp) (sc p cc l o : Addr) (n : Nat) (a : Int) (x3 x4 x5 x6 x7 x8 x9 x10 x11 x12 x13 x14 : Option V) (tp r1 r2 : Addr) (v : V), Tabs T H → H tp = some (.lst [.ref r1, .ref r2]) → Pt H (.ref r1) (.tuple [.str "rule", .none]) → Pt H (.ref r2) (.tuple [.str "rule", .int 0]) → Pt H v lastD →
    (∀ (r3 : Addr) (H' : Hp), Tabs T H' → H' tp = some (.lst [.ref r1, .ref r2, .ref r3]) → Pt H' (.ref r1) (.tuple [.str "rule", .none]) → Pt H' (.ref r2) (.tuple [.str "rule", .int 0]) → Pt H' (.ref r3) (.tuple []) → Pt H' v lastD → D.nx [some (.ref sc), some (.ref p), some (.ref o), x3, x4, x5, x6, x7, x8, x9, x10, x11, some (.ref tp), some (v), x14] H') → t D [some (.ref sc), some (.ref p), some (.ref o), x3, x4, x5, x6, x7, x8, x9, x10, x11, some (.ref tp), some (v), x14] H := by
  obtain ⟨hr, hu64, TB, hT, hu⟩ := R
  refine ⟨_, (ps_expr (pe_bm PySem.F.plainAttrs_list PySem.F.slot_list_append PySem.F.type_list_append mt_append (pv 12) (pa_cons (pe_lamcallR (k := 10) (T := T) (by rfl) L.raised (kp_l_raised _) (lk05 _) (hcd05 _) (bd_l_raised _) Told.scR rfl (.inl rfl) (Told.raised_gives (ca := ca05) (txT X G) (rwT05 _)) TB rfl hT hu (hr.r.mono (by decide)) (lamN_by (show lamNB (defScope sLaw) _ nLaw = true by decide +kernel)) (by rfl) (fun _ _ _ _ _ => by rfl) (fun A outer s H E f c' hr' => (pe_makeR (mkS _) (f_init X G) (hr'.mono (by decide)) (by rfl) (mgStyle X G) (fun pins σ H s e s' I c => passAt (takes_of rfl rfl rfl rfl) σ pins H s e s' I c) (pa_cons pe_int (pa_cons (pv 13) pa_nil))))) pa_nil))), fun D H sc p cc l o n a x3 x4 x5 x6 x7 x8 x9 x10 x11 x12 x13 x14 tp r1 r2 v W g0 k1 k2 kv q => ?_⟩
  refine ⟨_, rfl, .inl ⟨rfl, _, SqL.of g0⟩, ?_⟩
  refine rd_due (o := none) W (fun pl h => by cases h) (fun H1 f1 HZ eZ E Q' hD => ⟨_, rfl, rd_mk (β := 3) (Ds := [lastD]) (by decide) (by decide) (.cons (kv.extN (f1.trans (ExtN.of eZ))) .nil) (by simp) (by rw [last_due.1]; exact ⟨fun pl h => (by cases h), fun _ x H2 e2 _ => hD.ok rfl (.ref x) H2 e2⟩)⟩) fun r3 H1 x1 T1 k3 => ?_
  have g1 := x1 _ _ g0 (by simp)
  refine ⟨tp, _, _, rfl, rfl, g1, (by rw [sizeLine_eq]; simp), ?_⟩
  have tk := tupK_upd (zs := [.ref r1, .ref r2, .ref r3]) g1
  refine q r3 _ (tabs_upd T1 g1) upd_same ((k1.extN x1).tk tk (by decide +kernel)) ((k2.extN x1).tk tk (by decide +kernel)) (k3.tk tk rfl) ((kv.extN x1).tk tk (by decide +kernel))
end
end KH05

namespace KH05
open PySem L2 Evl ExM Dg Dt LamR LamX Told TL StX ClX
open Dr (StAt SameB)
def someD : List PyData := [.tuple [.str "base", .int 1], .tuple [.str "base", .int 11]]
def toldD : List PyData := [.tuple [.str "rule", .none], .tuple [.str "rule", .int 0], .tuple []]
theorem rd_makeR {K : PySem.W.Frag} {C : Addr} {ca : Nat → Addr} {σ : St} {H : Hp} {t : TA} {Q : VK} {E : XK} {β : Nat} {rs : List V} {Ds : List PyData} (h : EvA t σ H (.int (β : Int) :: rs)) (b2 : 2 ≤ β) (b10 : β ≤ 10) (kr : PtAll H rs Ds) (h20 : rs.length ≤ 100) (hD : Due ca H E (dueD β Ds) (∀ x H', Ex H H' → StyAt H' C x β Ds → Q (.ref x) H')) : tMakeR C (spInitR K C ca) E t σ H Q :=
  h H (Ex.refl H) _ fun H2 e2 => rd_mk b2 b10 (kr.ex e2) h20 ⟨fun pl hp => (hD.bad pl hp).go e2, fun hn x H' e sty => hD.ok hn x H' (e2.trans e) sty⟩
section
variable {K : PySem.W.Frag} {σ : St} {H : Hp} {ta tb te : TE} {r : R2} {x z : V} {D : PyData}
theorem ev_opP (ha : Ev ta σ H x) (hb : EvP tb σ H D) (hr : ∀ v H1, Ex H H1 → Pt H1 v D → RV r x v H1 z) : Ev (tOp r ta tb) σ H z := fun H1 e Q q =>
  ha H1 e _ fun H2 e2 => hb H2 (e.trans e2) _ fun v H3 e3 k => hr v H3 ((e.trans e2).trans e3) k H3 (Ex.refl _) _ fun H4 e4 => q H4 ((e2.trans e3).trans e4)
theorem ptAll_dj : ∀ {vs : List V} {ds : List PyData}, PtAll H vs ds → noKs ds = true → DjAll K H vs ds
  | _, [], h, _ => by cases h; exact .nil
  | _, d :: ds, h, k => by
    cases h with
    | cons h1 h2 =>
      rw [noKs, Bool.and_eq_true] at k
      exact .cons (djP h1 k.1) (ptAll_dj h2 k.2)
theorem ev_reprP {ds : List PyData} (h : EvP te σ H (.list ds)) (nk : noKs ds = true) (y1 : (PyData.list ds).showable = true) (y2 : (PyData.list ds).shown.length ≤ sizeLine) (y3 : PyData.depthAll ds ≤ 60) : Ev (tCB (rReprK K) (tCons te tNil)) σ H (.str (PyData.list ds).shown) := fun H1 e Q q =>
  h H1 e _ fun v H2 e2 k => by
    cases k with
    | lst hs ha => exact ⟨_, _, ds, rfl, sq_of hs, ptAll_dj ha nk, y1, y2, y3, q H2 e2⟩
end
section
variable {w : World} {mg : Str → Option Value} {h base : Heap} (X : (K05 w.params).In h) (G : h.Ns mainGlobals mg) {c : Addr} {A : Around} {outer : List Env} {s : Shared} {H0 : Hp} {E0 : XK} {P : Addr} {T : List (Addr × Str)} (R : Rm w mg base c A outer s H0 E0 P T) (L : TxL mg)
include X G R L
theorem end6 : ∃ t, PS (XL w mg base c A outer s H0 E0) (inLaw 6) t ∧ ∀ (D : Ends) (H : Hp) (sc p cc l o : Addr) (n : Nat) (a : Int) (x3 x4 x5 x6 x7 x8 x9 x10 x11 x12 x13 x14 : Option V), Tabs T H → (∀ (v : V) (H' : Hp), ExtN H H' → Pt H' v (.list someD) → D.nx [some (.ref sc), some (.ref p), some (.ref o), x3, x4, x5, x6, x7, x8, x9, x10, x11, x12, x13, some (v)] H') → t D [some (.ref sc), some (.ref p), some (.ref o), x3, x4, x5, x6, x7, x8, x9, x10, x11, x12, x13, x14] H := by
  obtain ⟨hr, hu64, TB, hT, hu⟩ := R
  refine ⟨_, (ps_set (i := 14) scLaw.nd rfl (.inl rfl) (pe_lst (pa_cons (pe_lamcallR (k := 10) (T := T) (by rfl) L.raised (kp_l_raised _) (lk05 _) (hcd05 _) (bd_l_raised _) Told.scR rfl (.inl rfl) (Told.raised_gives (ca := ca05) (txT X G) (rwT05 _)) TB rfl hT hu (hr.r.mono (by decide)) (lamN_by (show lamNB (defScope sLaw) _ nLaw = true by decide +kernel)) (by rfl) (fun _ _ _ _ _ => by rfl) (fun A outer s H E f c' hr' => (pe_makeR (mkS _) (f_init X G) (hr'.mono (by decide)) (by rfl) (mgStyle X G) (fun pins σ H s e s' I c => passAt (takes_of rfl rfl rfl rfl) σ pins H s e s' I c) (pa_cons pe_int (pa_cons (pe_tup pa_nil) pa_nil))))) (pa_cons (pe_lamcallD (k := 10) (T := T) (y := "at") (n := 0) (by rfl) L.raised (kp_l_raised _) (lk05 _) (hcd05 _) (bd_l_raised _) Told.scR rfl (.inl rfl) (Told.raised_gives (ca := ca05) (txT X G) (rwT05 _)) TB rfl hT hu (hr.r.mono (by decide)) (lamN_by (show lamNB (defScope sLaw) _ nLaw = true by decide +kernel)) (by rfl) (by rfl) (by rfl) (fun _ _ _ _ _ _ _ _ => ⟨_, by rfl, by rfl⟩) (fun A outer s H E f c' hr' => (pe_makeR (mkS _) (f_init X G) (hr'.mono (by decide)) (by rfl) (mgStyle X G) (fun pins σ H s e s' I c => passAt (takes_of rfl rfl rfl rfl) σ pins H s e s' I c) (pa_cons pe_int pa_nil)))) pa_nil)))), fun D H sc p cc l o n a x3 x4 x5 x6 x7 x8 x9 x10 x11 x12 x13 x14 W q => ?_⟩
  refine rd_raisedA (n := 1) (A := Is1 (.int 1)) W (is1_keeps _) (fun H1 f1 HZ eZ E Q' hE => ⟨(by exact Nat.zero_le _), fun t0 nt0 => rd_mkB (Ds := [.tuple []]) (by decide) (.cons (.tup upd_same .nil) .nil) (by simp) ((leaves_of (by decide) (by decide) (by decide) (by decide) (by decide) rfl hE).go (Ex.new nt0))⟩) fun vs1 r1 H1 x1 T1 a1 g1 => ?_
  refine rd_raisedA (n := 1) (A := Is1 (.int 11)) T1 (is1_keeps _) (fun H2 f2 HZ eZ E Q' hE => rd_mkB (Ds := []) (by decide) .nil (by simp) (leaves_of (by decide) (by decide) (by decide) (by decide) (by decide) rfl hE)) fun vs2 r2 H2 x2 T2 a2 g2 => ⟨(by show (2:Nat) ≤ sizeLine; rw [sizeLine_eq]; omega), fun tp ntp => ?_⟩
  have a1' : vs1 = [.int 1] := a1
  have a2' : vs2 = [.int 11] := a2
  subst a1' a2'
  have en := Ex.new (o := .lst [.ref r1, .ref r2]) ntp
  exact q (.ref tp) _ ((x1.trans x2).trans (ExtN.of en)) (.lst upd_same (.cons (.tup (en _ _ (x2 _ _ g1 (by simp))) (.cons (.str _ (by decide)) (.cons (.int 1) .nil))) (.cons (.tup (en _ _ g2) (.cons (.str _ (by decide)) (.cons (.int 11) .nil))) .nil)))
theorem end7 : ∃ t, PS (XL w mg base c A outer s H0 E0) (inLaw 7) t ∧ ∀ (D : Ends) (H : Hp) (sc p cc l o : Addr) (n : Nat) (a : Int) (x3 x4 x5 x6 x7 x8 x9 x10 x11 x12 x13 x14 : Option V) (v : V), Pt H v (.list someD) → (∀ (H' : Hp), Ex H H' → D.nx [some (.ref sc), some (.ref p), some (.ref o), x3, x4, x5, x6, x7, x8, x9, x10, x11, x12, x13, some (v)] H') → t D [some (.ref sc), some (.ref p), some (.ref o), x3, x4, x5, x6, x7, x8, x9, x10, x11, x12, x13, some (v)] H := by
  obtain ⟨hr, hu64, TB, hT, hu⟩ := R
  refine ⟨_, (ps_if (pt_cmpR (op_neD (show _ + 64 < cLine from hu64)) (pv 14) (pe_lst (pa_cons (pe_tup (pa_cons pe_str (pa_cons pe_int pa_nil))) (pa_cons (pe_tup (pa_cons pe_str (pa_cons pe_int pa_nil))) pa_nil))) (nomark _)) (pss_one (ps_ret pe_bl)) pss_nil), fun D H sc p cc l o n a x3 x4 x5 x6 x7 x8 x9 x10 x11 x12 x13 x14 v kv q => ?_⟩
  have nk : noK (.list someD) = true := by decide +kernel
  have sh : SeqAt.shaped (.list someD) = true := by decide +kernel
  have eq : PyData.eqv (.list someD) (.list someD) = true := SeqAt.eqv_refl _ (Bool.and_eq_true_iff.mp sh).1
  refine s_when (b := false) (et_test (ev_opP (D := .list someD) (ev_var rfl) (ep_lst (epa_cons (ep_tup (epa_cons (ep_str (by decide)) (epa_cons ep_int epa_nil)) (by simp)) (epa_cons (ep_tup (epa_cons (ep_str (by decide)) (epa_cons ep_int epa_nil)) (by simp)) epa_nil)) (by decide)) fun u H1 e1 k1 => fun H2 e2 Q2 q2 => ⟨.list someD, .list someD, (kv.ex (e1.trans e2)).dp nk, (k1.ex e2).dp nk, sh, sh, by
    rw [eq]
    exact q2 _ (Ex.refl _)⟩)) (fun z => nomatch z) fun _ H' e => q H' e
theorem end8 : ∃ t, PS (XL w mg base c A outer s H0 E0) (inLaw 8) t ∧ ∀ (D : Ends) (H : Hp) (sc p cc l o : Addr) (n : Nat) (a : Int) (x3 x4 x5 x6 x7 x8 x9 x10 x11 x12 x13 x14 : Option V) (tp r1 r2 r3 : Addr) (v : V), H tp = some (.lst [.ref r1, .ref r2, .ref r3]) → Pt H (.ref r1) (.tuple [.str "rule", .none]) → Pt H (.ref r2) (.tuple [.str "rule", .int 0]) → Pt H (.ref r3) (.tuple []) → Pt H v lastD → (∀ (H' : Hp), D.rt (.bl true) H') → t D [some (.ref sc), some (.ref p), some (.ref o), x3, x4, x5, x6, x7, x8, x9, x10, x11, some (.ref tp), some (v), x14] H := by
  obtain ⟨hr, hu64, TB, hT, hu⟩ := R
  refine ⟨_, (ps_ret (pe_and (pe_cmpR op_eq (pe_callB (call_reprK hr.g hu64) (by rfl) L.repr (by decide +kernel) (pa_cons (pv 12) pa_nil)) (pe_callB (call_reprK hr.g hu64) (by rfl) L.repr (by decide +kernel) (pa_cons (pe_lst (pa_cons (pe_tup (pa_cons pe_str (pa_cons pe_non pa_nil))) (pa_cons (pe_tup (pa_cons pe_str (pa_cons pe_int pa_nil))) (pa_cons (pe_tup pa_nil) pa_nil)))) pa_nil)) (nomark _)) (pe_one (pe_cmpR (op_eqD (show _ + 64 < cLine from hu64)) (pe_prop (pe_makeR (mkS _) (f_init X G) (hr.r.mono (by decide)) (by rfl) (mgStyle X G) (fun pins σ H s e s' I c => passAt L2.takes0 σ pins H s e s' I c) (pa_cons pe_int (pa_cons (pv 13) (pa_cons (pv 13) pa_nil)))) (clS _) (prR _) (f_rules X G) (hr.r.mono (by decide)) (bdR _) .nil pass0 rfl) (pe_tup (pa_cons (pv 13) (pa_cons (pv 13) pa_nil))) (nomark _))))), fun D H sc p cc l o n a x3 x4 x5 x6 x7 x8 x9 x10 x11 x12 x13 x14 tp r1 r2 r3 v g0 k1 k2 k3 kv q => ?_⟩
  have nk : noKs toldD = true := by decide +kernel
  obtain ⟨y1, y2⟩ := shown_cap (.list toldD) ⟨⟨(by show ∀ c ∈ (("rule" : Str)).cps.toList, c < 16 ^ 8; decide), trivial, trivial⟩, ⟨(by show ∀ c ∈ (("rule" : Str)).cps.toList, c < 16 ^ 8; decide), pl_i (by decide), trivial⟩, trivial, trivial⟩
  have y2' : (PyData.list toldD).shown.length ≤ sizeLine := Nat.le_trans y2 (by rw [sizeLine_eq]; decide)
  have y3 : PyData.depthAll toldD ≤ 60 := by simp [toldD, PyData.depthAll, PyData.depth]
  have kt : Pt H (.ref tp) (.list toldD) := .lst g0 (.cons k1 (.cons k2 (.cons k3 .nil)))
  have e1 : Ev (tOp rEq (tCB (rReprK (K05 w.params)) (tCons (tVar 12) tNil)) (tCB (rReprK (K05 w.params)) (tCons (tLst (tCons (tTup (tCons (tC (.str "rule")) (tCons (tC .non) tNil))) (tCons (tTup (tCons (tC (.str "rule")) (tCons (tC (.int 0)) tNil))) (tCons (tTup tNil) tNil)))) tNil))) [some (.ref sc), some (.ref p), some (.ref o), x3, x4, x5, x6, x7, x8, x9, x10, x11, some (.ref tp), some (v), x14] H (.bl true) :=
    ev_is (ev_op (ev_reprP (ep_v (ev_var rfl) kt) nk y1 y2' y3) (ev_reprP (ds := toldD) (ep_lst (epa_cons (ep_tup (epa_cons (ep_str (by decide)) (epa_cons ep_non epa_nil)) (by simp)) (epa_cons (ep_tup (epa_cons (ep_str (by decide)) (epa_cons ep_int epa_nil)) (by simp)) (epa_cons (ep_tup epa_nil (by simp)) epa_nil))) (by decide)) nk y1 y2' y3) (rv_eq rfl)) (by rw [decide_eq_true rfl])
  have nk2 : noK (.tuple [lastD, lastD]) = true := by decide +kernel
  have sh : SeqAt.shaped (.tuple [lastD, lastD]) = true := by decide +kernel
  have eq : PyData.eqv (.tuple [lastD, lastD]) (.tuple [lastD, lastD]) = true := SeqAt.eqv_refl _ (Bool.and_eq_true_iff.mp sh).1
  refine s_ret (v := .bl true) (ev_is (ev_andV (a := true) (b := true) e1 fun _ => fun H1 f1 Q k => ?_) rfl) fun H' _ => q H'
  have kv1 := kv.ex f1
  dsimp only [tOp, tProp]
  refine rd_makeR (β := 4) (rs := [v, v]) (Ds := [lastD, lastD]) (ea_cons ev_c (ea_cons (ev_var rfl) (ea_cons (ev_var rfl) ea_nil))) (by decide) (by decide) (.cons kv1 (.cons kv1 .nil)) (by simp) ?_
  rw [last_due.2]
  refine ⟨fun pl h => (by cases h), fun _ x H2 e2 sty => ?_⟩
  obtain ⟨dx, t, hx, kt2⟩ := sty
  refine ⟨x, dx, _, rfl, hx, x, dx, _, _, rfl, hx, lk_rules _ _, _, rfl, _, rfl, (by show (2:Nat) ≤ sizeLine; rw [sizeLine_eq]; omega), fun t2 nt2 => ?_⟩
  have e3 := Ex.new (o := .tup [v, v]) nt2
  refine ⟨.tuple [lastD, lastD], .tuple [lastD, lastD], (kt2.ex e3).dp nk2, (Pt.tup upd_same (.cons ((kv1.ex e2).ex e3) (.cons ((kv1.ex e2).ex e3) .nil)) : Pt _ (.ref t2) (.tuple [lastD, lastD])).dp nk2, sh, sh, ?_⟩
  rw [eq]
  exact k _ (e2.trans e3)
end
end KH05

namespace KH05
open PySem L2 Evl ExM Dg Dt LamR LamX Told TL StX ClX
open Dr (StAt SameB)
abbrev T05 : List (Addr × Str) := [(686, ("law.<locals>.<lambda>" : Str))]
def spLaw5 (K : PySem.W.Frag) : Sp := fun vs H Q _ => ∃ (a : Addr) (ns : List Int), vs = [.ref a] ∧ SqL K H a (ns.map V.int) ∧ ns.length ≤ 63 ∧ Tabs T05 H ∧ ∀ H', Q (.bl true) H'
theorem lstI {H : Hp} {v : V} {ds : List PyData} (h : Pt H v (.list ds)) : ∃ a vs, v = .ref a ∧ H a = some (.lst vs) ∧ PtAll H vs ds := by
  cases h with
  | lst hs ha => exact ⟨_, _, rfl, hs, ha⟩
theorem lst_off {H : Hp} {p c l x : Addr} {n : Nat} {a : Int} {vs : List V} {ds : List PyData} (S : StAt H p c l n a) (h : H x = some (.lst vs)) (ha : PtAll H vs ds) (k : okD (.list ds) = true) : x ≠ p ∧ x ≠ l := by
  refine ⟨ne_of h S.d (by intro z; cases z), fun z => ?_⟩
  obtain ⟨ls, hl, hn⟩ := S.l
  rw [okD, Bool.and_eq_true] at k
  rw [z, hl] at h
  have hv : vs = ls.map V.int := by
    injection h with h
    injection h with h
    exact h.symm
  rw [hv] at ha
  obtain ⟨q1, q2⟩ := PtAll.ints ha
  have n0 := S.n0
  have : ds.isEmpty = false := by
    cases ds with
    | nil =>
      rw [List.length_nil] at q2
      omega
    | cons _ _ => rfl
  rw [q1, this] at k
  exact absurd k.1 (by decide)
section
variable {w : World} {mg : Str → Option Value} {h base : Heap} (X : (K05 w.params).In h) (G : h.Ns mainGlobals mg) {c : Addr} {A : Around} {outer : List Env} {s : Shared} {H0 : Hp} {E0 : XK} {P : Addr} {T : List (Addr × Str)} (R : Rm w mg base c A outer s H0 E0 P T) (L : TxL mg)
include X G R L
theorem lawR : ∃ t, PSs (XL w mg base c A outer s H0 E0) [inLaw 0, inLaw 1, inLaw 2, inLaw 3, inLaw 4, inLaw 5, inLaw 6, inLaw 7, inLaw 8] t ∧ ∀ (D : Ends) (H : Hp) (sc : Addr) (ns : List Int), SqL (K05 w.params) H sc (ns.map V.int) → ns.length ≤ 63 → Tabs T H →
    (∀ (H' : Hp), D.rt (.bl true) H') → t D (L2.start nLaw [V.ref sc]) H := by
  obtain ⟨tT, pT, qT⟩ := turnR X G R L
  obtain ⟨t3, p3, q3⟩ := end3 X G R L
  obtain ⟨t4, p4, q4⟩ := end4 X G R L
  obtain ⟨t5, p5, q5⟩ := end5 X G R L
  obtain ⟨t6, p6, q6⟩ := end6 X G R L
  obtain ⟨t7, p7, q7⟩ := end7 X G R L
  obtain ⟨t8, p8, q8⟩ := end8 X G R L
  obtain ⟨hr, hu64, TB, hT, hu⟩ := R
  refine ⟨_, pss_cons (ps_set (i := 1) scLaw.nd rfl (.inl rfl) (pe_call (f_begin X G) (hr.r.mono (by decide)) (by rfl) L.begin (kp_l_begin _) (bd_l_begin _) .nil pass0 (pa_cons (pv 0) pa_nil))) (pss_cons (ps_set (i := 2) scLaw.nd rfl (.inl rfl) (pe_lst (pa_cons pe_non (pa_cons pe_int (pa_cons pe_str (pa_cons (pe_tup pa_nil) (pa_cons (pe_tup (pa_cons (pe_tup pa_nil) (pa_cons (pe_tup (pa_cons pe_str (pa_cons pe_int pa_nil))) pa_nil))) (pa_cons (pe_tup (pa_cons (pe_lst pa_nil) (pa_cons (pe_tup (pa_cons pe_str pa_nil)) pa_nil))) (pa_cons (pe_tup (pa_cons (pe_tup (pa_cons (pe_tup (pa_cons pe_str (pa_cons pe_int pa_nil))) pa_nil)) (pa_cons (pe_tup (pa_cons pe_str pa_nil)) pa_nil))) (pa_cons (pe_lst (pa_cons (pe_tup pa_nil) (pa_cons (pe_tup (pa_cons pe_str pa_nil)) pa_nil))) pa_nil)))))))))) (pss_cons (ps_for PassesOwn.never rfl (pi_range1 (by rfl) L.range (pa_cons (pe_op op_add pe_int (pe_callB (call_min2 (by rfl)) (by rfl) L.min (by decide +kernel) (pa_cons pe_int (pa_cons (pe_callB call_len_seq (by rfl) (txT X G).len (by decide +kernel) (pa_cons (pv 0) pa_nil)) pa_nil)))) pa_nil)) (pg_name (i := 3) scLaw.nd rfl (.inl rfl)) pT) (pss_cons p3 (pss_cons p4 (pss_cons p5 (pss_cons p6 (pss_cons p7 (pss_one p8)))))))), fun D H sc ns hS hlen hTb q => ?_⟩
  refine ⟨_, rfl, sc, ns, rfl, hS, hlen, fun p cc l n H1 sm np nl S0 nlc => ?_⟩
  dsimp only
  refine q_asgP (D := .list oddD) (ep_lst (epa_cons ep_non (epa_cons ep_int (epa_cons (ep_str (by decide)) (epa_cons (ep_tup epa_nil (by simp)) (epa_cons (ep_tup (epa_cons (ep_tup epa_nil (by simp)) (epa_cons (ep_tup (epa_cons (ep_str (by decide)) (epa_cons ep_int epa_nil)) (by simp)) epa_nil)) (by simp)) (epa_cons (ep_tup (epa_cons (ep_lst epa_nil (by simp)) (epa_cons (ep_tup (epa_cons (ep_str (by decide)) epa_nil) (by simp)) epa_nil)) (by simp)) (epa_cons (ep_tup (epa_cons (ep_tup (epa_cons (ep_tup (epa_cons (ep_str (by decide)) (epa_cons ep_int epa_nil)) (by simp)) epa_nil) (by simp)) (epa_cons (ep_tup (epa_cons (ep_str (by decide)) epa_nil) (by simp)) epa_nil)) (by simp)) (epa_cons (ep_lst (epa_cons (ep_tup epa_nil (by simp)) (epa_cons (ep_tup (epa_cons (ep_str (by decide)) epa_nil) (by simp)) epa_nil)) (by first | decide | simp)) epa_nil)))))))) (by first | decide | simp)) fun vo H2 e2 k2 => ?_
  obtain ⟨o, os, rfl, ho, ko⟩ := lstI k2
  have S2 := S0.ex e2
  have off := lst_off S2 ho ko (by decide +kernel)
  have eL : Ev (tCB (rLenS (K05 w.params)) (tCons (tVar 0) tNil)) (((L2.start nLaw [V.ref sc]).set 1 (some (.ref p))).set 2 (some (.ref o))) H2 (.int ((ns.map V.int).length : Int)) := ev_len (ev_var rfl) (ex_l e2 (Same.seq sm hS))
  obtain ⟨N, hN, hN8⟩ : ∃ N : Nat, 4 + (if ((ns.map V.int).length : Int) < 8 then ((ns.map V.int).length : Int) else 8) = (N : Int) ∧ N ≤ 12 := by
    by_cases h : ((ns.map V.int).length : Int) < 8
    · rw [if_pos h]; exact ⟨4 + (ns.map V.int).length, by omega, by omega⟩
    · rw [if_neg h]; exact ⟨12, by omega, by omega⟩
  have eA : EvA (tCons (tOp (rI0 fun i j => V.int (i + j)) (tC (V.int 4)) (tCB (fun xs H Q => ∃ i j : Int, xs = [V.int i, V.int j] ∧ Q (V.int (if j < i then j else i)) H) (tCons (tC (V.int 8)) (tCons (tCB (rLenS (K05 w.params)) (tCons (tVar 0) tNil)) tNil)))) tNil)
      (((L2.start nLaw [V.ref sc]).set 1 (some (.ref p))).set 2 (some (.ref o))) H2 [V.int (N : Int)] := by
    rw [← hN]
    exact ea_cons (ev_op ev_c (ev_cb (ea_cons ev_c (ea_cons eL ea_nil)) fun H1 _ Q k => ⟨_, _, rfl, k _ (Ex.refl _)⟩) rv_I0) ea_nil
  refine q_forR1 (D := D) (n := (N : Int)) eA (by omega)
    (fun t σ H' => (∃ x3 x4 x5 x6 x7 x8 x9 x10 x11 x12, σ = [some (.ref sc), some (.ref p), some (.ref o), x3, x4, x5, x6, x7, x8, x9, x10, x11, x12, none, none]) ∧ ∃ a : Int, a ≤ 7000 * (t : Int) ∧ Lw T p cc l n a H' ∧ Od H' o p l os)
    (fun H3 e => ⟨⟨_, _, _, _, _, _, _, _, _, _, rfl⟩, 0, by omega, (⟨S0, hTb.ext sm⟩ : Lw T p cc l n 0 H1).ex (e2.trans e), (⟨ho, ko, off.1, off.2⟩ : Od H2 o p l os).ex e⟩) (fun t σ H3 ht ⟨⟨x3, x4, x5, x6, x7, x8, x9, x10, x11, x12, hσ⟩, a, ha, W, O⟩ => ?_) (fun σ H3 ⟨⟨x3, x4, x5, x6, x7, x8, x9, x10, x11, x12, hσ⟩, a, ha, W, O⟩ => ?_)
  · subst hσ
    refine qT _ _ _ _ cc l _ n a _ _ _ _ _ _ _ _ _ _ _ _ os nlc (by omega) W O fun y3 y4 y5 y6 y7 y8 y9 y10 y11 y12 a' H' a1 a2 W' O' => ?_
    exact ⟨⟨_, _, _, _, _, _, _, _, _, _, rfl⟩, a', by omega, W', O'⟩
  · subst hσ
    refine q3 _ _ sc p cc l o n a _ _ _ _ _ _ _ _ _ _ _ _ fun v H4 e4 kv => ?_
    refine q4 _ _ sc p cc l o n a _ _ _ _ _ _ _ _ _ _ _ _ (W.t.ext e4) fun tp r1 r2 H5 x5 T5 g0 k1 k2 => ?_
    refine q5 _ _ sc p cc l o n a _ _ _ _ _ _ _ _ _ none none _ tp r1 r2 v T5 g0 k1 k2 (kv.extN x5) fun r3 H6 T6 g6 k1 k2 k3 kv6 => ?_
    refine q6 _ _ sc p cc l o n a _ _ _ _ _ _ _ _ _ _ _ _ T6 fun u H7 x7 ku => ?_
    refine q7 _ _ sc p cc l o n a _ _ _ _ _ _ _ _ _ _ _ none u ku fun H8 e8 => ?_
    have x8 := x7.trans (ExtN.of e8)
    exact q8 _ _ sc p cc l o n a _ _ _ _ _ _ _ _ _ none none _ tp r1 r2 r3 v (x8 _ _ g6 (by simp)) (k1.extN x8) (k2.extN x8) (k3.extN x8) (kv6.extN x8) fun H9 => q H9
end
section
variable {w : World} {mg : Str → Option Value} {h base : Heap} (X : (K05 w.params).In h) (G : h.Ns mainGlobals mg)
include X G
theorem txL : TxL mg where
  of := PySem.W.mg_of X G (show PySem.W.nsIn (K05 w.params) mainGlobals "_law_of" = some (some (.ref 646)) by kernel_rfl)
  row := PySem.W.mg_of X G (show PySem.W.nsIn (K05 w.params) mainGlobals "_law_row" = some (some (.ref 684)) by kernel_rfl)
  due := PySem.W.mg_of X G (show PySem.W.nsIn (K05 w.params) mainGlobals "_law_due" = some (some (.ref 677)) by kernel_rfl)
  begin := PySem.W.mg_of X G (show PySem.W.nsIn (K05 w.params) mainGlobals "_law_begin" = some (some (.ref 632)) by kernel_rfl)
  raised := PySem.W.mg_of X G (show PySem.W.nsIn (K05 w.params) mainGlobals "_law_raised" = some (some (.ref 653)) by kernel_rfl)
  repr := PySem.W.mg_none_of X G (show PySem.W.nsIn (K05 w.params) mainGlobals "repr" = some none by kernel_rfl)
  range := PySem.W.mg_none_of X G (show PySem.W.nsIn (K05 w.params) mainGlobals "range" = some none by kernel_rfl)
  min := PySem.W.mg_none_of X G (show PySem.W.nsIn (K05 w.params) mainGlobals "min" = some none by kernel_rfl)
theorem ok_law05 (TB : TabB base mg 688 686) : FnG P05 w (K05 w.params) mg base CX0 15 689 (PySem.W.fnOf "law" "law" (defArgs sLaw) (defBody sLaw) (defScope sLaw) .none (fO (K05 w.params) 689).kwdefaults (fO (K05 w.params) 689).doc (fO (K05 w.params) 689).pyModule (fO (K05 w.params) 689).annotations (.ref 688) (fO (K05 w.params) 689).closureTuple) ["script"] (spLaw5 (K05 w.params)) := by
  have lk : (K05 w.params).lookup 689 = some ⟨(oO (K05 w.params) 689).cls, (oO (K05 w.params) 689).dict, .func (PySem.W.fnOf "law" "law" (defArgs sLaw) (defBody sLaw) (defScope sLaw) .none (fO (K05 w.params) 689).kwdefaults (fO (K05 w.params) 689).doc (fO (K05 w.params) 689).pyModule (fO (K05 w.params) 689).annotations (.ref 688) (fO (K05 w.params) 689).closureTuple), (oO (K05 w.params) 689).slots⟩ := by kernel_rfl
  have hcd : PySem.W.codeIn (K05 w.params) (.ref 688) "law" = true := by kernel_rfl
  refine fn_ofG lk hcd scLaw (fun vs H Q E h => ?_) (fun A outer s H vs Q E hr h => ?_)
  · obtain ⟨a, ns, rfl, _⟩ := h
    rfl
  · obtain ⟨sc, ns, rfl, hS, hlen, hTb, q⟩ := h
    have hu64 : (A.deeper (PyProof.Rows.envOfC "law" (defScope sLaw) s.heap.objs.size 689 (.ref 688))).units + 64 < cLine := by have := hr.r.units; omega
    obtain ⟨t, pt, qt⟩ := lawR (A := A) (outer := outer) (s := s) (H0 := H) (E0 := E) (T := T05) X G ⟨hr, hu64, TB, List.mem_singleton.mpr rfl, fun p hp _ => by rw [List.mem_singleton.mp hp]⟩ (txL X G)
    exact ⟨t, pt.nox, qt _ _ _ ns hS hlen hTb fun H' => q H'⟩
end
end KH05

namespace KH05
open PySem L2 Evl ExM Dg LamR LamX Told
theorem walk05 {q : Program} {loose : List Str} {XP : (Str → Option Value) → Heap → Prop} {YP : World → Heap → Prop} {d : DefRec} (hdf : d.params.defaults = []) (hd : d.name = ("law" : Str)) (hY : ∀ (w : World) (h : Heap), YP w h → (K05 w.params).In h) (hT : ∀ (w : World) (h : Heap), YP w h → ∀ P ∈ ([686] : List Addr), h.get? P = some (PySem.W.tabObj #[])) :
    PySem.W.WalkO q loose XP YP PySem.Challenge.rw_shortspans_k05_whole_styles_refused.row.toRowW d [] (fun f vs => PySem.call f vs) := by
  refine walk_T (l := PySem.Challenge.rw_shortspans_k05_whole_styles_refused) (n := 63) (k := 15) (K := K05) (CX := fun _ => CX0) (x := "script") (cs := [(688, 686)]) (sp := fun w => spLaw5 (K05 w.params)) rfl (by decide) hdf ⟨⟨rfl, by decide, by decide⟩, rfl⟩ hY
    (fun w h Y p hp => ?_) (fun w p hp => ?_) (fun w p hp => ?_) (fun w mg fa h X G hmg => ?_) (fun w H a ns hl hT hS => ?_) fun _ _ _ _ _ z => z
  · rw [List.mem_singleton.mp hp]
    exact hT w h Y 686 (List.mem_singleton.mpr rfl)
  · rw [List.mem_singleton.mp hp]
    exact (show (K05 w.params).lookup 686 = none by kernel_rfl)
  · rw [List.mem_singleton.mp hp]
    exact (show PySem.W.codeHdIn (K05 w.params) 688 686 = true by kernel_rfl)
  · rw [hd] at hmg
    have e := hmg.symm.trans (PySem.W.mg_of X G (show PySem.W.nsIn (K05 w.params) mainGlobals "law" = some (some (.ref 689)) by kernel_rfl))
    cases e
    exact ⟨_, fun s v => .of_eq rfl, fun base X' G' TB => ok_law05 X G (TB (688, 686) (List.mem_singleton.mpr rfl))⟩
  · exact ⟨a, ns, rfl, hS, hl, fun p hp => by
      rw [List.mem_singleton.mp hp]
      exact .nil (hT (688, 686) (List.mem_singleton.mpr rfl)), fun _ => rfl⟩
end KH05
open PySem PySem.W PyProof.Rows
set_option maxRecDepth 100000 in
set_option maxHeartbeats 0 in
theorem PySem.Challenge.cw_shortspans_k05_whole_styles_refused_holds : PySem.Challenge.rw_shortspans_k05_whole_styles_refused.Holds := by
  refine hd05 ?_
  exact KH05.walk05 rfl rfl (fun w h Y => km_in_of Y) (fun w h Y => km_tabs_of Y)

