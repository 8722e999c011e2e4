import PyProof.Rows.All
import Wide.All
import OpenK.AllK
import Wide.FinOn
import HandS.ForMost
import HandS.ForExc
import KE.KExcSuper
import HandS.ExcInit
import KE.KExcIs
import HandS.IsInst
import HandS.ExcValue
import HandS.TryMany
import HandS.ExcField
import HandS.Deep
import HandS.Evl
import HandS.Lambda
import HandS.EndTab
import KE.KDflt
import KE.KRevSl
import HandS.TupAny
import HandS.Words
import HandS.TupLe
import HandS.Dict
import PySem.Challenge.RW_shortspans_k04_rules_checked
set_option Elab.async false
set_option linter.all false
set_option maxRecDepth 100000
set_option maxHeartbeats 0
set_option exponentiation.threshold 100000
/-! Defs that are called where no repr is being made (so that they may call repr). -/
namespace L2
open PySem PySem.Spec PyProof.Rows
/-- room, and no guard stands around -/
structure RoomG (k : Nat) (A : Around) : Prop where
  r : Room k A
  g : A.guards = some []
theorem RoomG.mono {j k : Nat} {A : Around} (r : RoomG k A) (h : j ≤ k) : RoomG j A := ⟨r.r.mono h, r.g⟩
theorem RoomG.deeper {k : Nat} {A : Around} (r : RoomG (k + 1) A) (env : Env) : RoomG k (A.deeper env) := ⟨r.r.deeper env, r.g⟩
structure FnG (P : Program) (w : World) (K : PySem.W.Frag) (mg : Str → Option Value) (base : Heap) (CX : CXT) (k : Nat) (f : Addr) (fd : FuncData) (ps : List Str) (sp : Sp) : Prop where
  len : ∀ vs H Q E, sp vs H Q E → vs.length = ps.length
  run : ∀ (A : Around) (outer : List Env) (s : Shared) (H : Hp) (args : Args) (us : List Value) (vs : List V) (Q : VK) (E : XK), RoomG k A → Env0 P w K mg base A outer s H → BindsTo s fd args (ps.zip us) → Vals vs us → sp vs H Q E →
    codeAny (model P w) A (.call (.ref f) args) (CR CX outer P w H s Q E) s
theorem FnG.of {P : Program} {w : World} {K : PySem.W.Frag} {mg : Str → Option Value} {base : Heap} {CX : CXT} {k : Nat} {f : Addr} {fd : FuncData} {ps : List Str} {sp : Sp} (F : FnOk P w K mg base CX k f fd ps sp) : FnG P w K mg base CX k f fd ps sp :=
  ⟨F.len, fun A outer s H args us vs Q E hr => F.run A outer s H args us vs Q E hr.r⟩
theorem FnG.mono {P : Program} {w : World} {K : PySem.W.Frag} {mg : Str → Option Value} {base : Heap} {CX : CXT} {j k : Nat} {f : Addr} {fd : FuncData} {ps : List Str} {sp : Sp} (F : FnG P w K mg base CX j f fd ps sp) (h : j ≤ k) : FnG P w K mg base CX k f fd ps sp :=
  ⟨F.len, fun A outer s H args us vs Q E hr => F.run A outer s H args us vs Q E (hr.mono h)⟩
theorem FnG.imp {P : Program} {w : World} {K : PySem.W.Frag} {mg : Str → Option Value} {base : Heap} {CX : CXT} {k : Nat} {f : Addr} {fd : FuncData} {ps : List Str} {sp sp' : Sp} (F : FnG P w K mg base CX k f fd ps sp)
    (h : ∀ vs H Q E, sp' vs H Q E → sp vs H Q E) : FnG P w K mg base CX k f fd ps sp' :=
  ⟨fun vs H Q E q => F.len vs H Q E (h _ _ _ _ q), fun A outer s H args us vs Q E hr he hb hv hs => F.run A outer s H args us vs Q E hr he hb hv (h _ _ _ _ hs)⟩
section
variable {X : Cx} {CX : CXT} {k : Nat} {f C : Addr} {fd : FuncData} {ps : List Str} {sp : Sp} {dvs : List V} {ds : List Value} {E : XK} {x m : Str} {p pos apos : Pos} {e o : Expr} {es : List Expr} {ta : TE} {t : TA}
theorem run_fnG {pins : List (Addr × Obj)} {σ : St} {H : Hp} {s : Shared} {Q : VK} {us : List Value} {vs : List V} (F : FnG X.prog X.w X.K X.mg X.base CX k f fd ps sp) (hr : RoomG k X.A) (hb : Binds X.K fd ps ds) (hd : Vals dvs ds) (hx : Passes CX X E)
    (I : Inv X pins σ H s) (r : Vals vs us) (h : sp (vs ++ dvs) H Q E) : wpAny (model X.prog X.w) X.A (call (.ref f) us) (EP X pins σ Q) X.xe s := by
  have r2 : Vals (vs ++ dvs) (us ++ ds) := r.append hd
  have hl : (us ++ ds).length = ps.length := by rw [← r2.length]; exact F.len _ _ _ _ h
  refine wpAny_call (codeAny_mono (F.run X.A X.stack s H ⟨us, []⟩ (us ++ ds) (vs ++ dvs) Q E hr I.env0 (hb s us I.kIn hl) r2 h) fun r s' hq => ?_)
  cases r with
  | error e => exact hx pins σ H s e s' I hq
  | ok fl =>
    cases fl with
    | ret u => exact I.after hq
    | next => exact False.elim hq
    | brk => exact False.elim hq
    | cont => exact False.elim hq
theorem pe_callG (F : FnG X.prog X.w X.K X.mg X.base CX k f fd ps sp) (hr : RoomG k X.A) (hg : Gl X x) (hm : X.mg x = some (.ref f)) (hk : PySem.W.keepIn X.K (.ref f) = true) (hb : Binds X.K fd ps ds) (hd : Vals dvs ds) (hx : Passes CX X E)
    (ha : PA X (e :: es) t) (hdb : (x == ("__debug__" : Str)) = false := by decide) (he : starEach (e :: es) X.env = (false, eval e X.env) :: starEach es X.env := by rfl) (hpl : (backTo pos (starEach es X.env)).any (·.1) = false := by rfl) :
    PE X (.Call (.Name x p) (e :: es) [] pos) (tCall sp dvs E t) := by
  refine ⟨fun pins s σ H Q I h => ?_⟩
  refine wpAny_Call_Name_kw (ld_glob I hg hm ?_ hdb)
  refine PySem.W.callWith_K (h₀ := X.base) I.ok.mod.kin hk (thn (ha.run pos pins s σ H _ I h) fun us s1 ⟨vs, H1, I1, r, q⟩ => ⟨I1.kIn, ?_⟩) he hpl
  exact run_fnG F hr hb hd hx I1 r q
theorem pe_call0G (F : FnG X.prog X.w X.K X.mg X.base CX k f fd ps sp) (hr : RoomG k X.A) (hg : Gl X x) (hm : X.mg x = some (.ref f)) (hk : PySem.W.keepIn X.K (.ref f) = true) (hb : Binds X.K fd ps ds) (hd : Vals dvs ds) (hx : Passes CX X E)
    (hdb : (x == ("__debug__" : Str)) = false := by decide) : PE X (.Call (.Name x p) [] [] pos) (tCall sp dvs E tNil) := by
  refine ⟨fun pins s σ H Q I h => ?_⟩
  refine wpAny_Call_Name_kw (ld_glob I hg hm ?_ hdb)
  exact PySem.W.callWith_K0 I.kIn hk (run_fnG (us := []) F hr hb hd hx I .nil h)
end
theorem fn_ofG {CX : CXT} {P : Program} {w : World} {K : PySem.W.Frag} {mg : Str → Option Value} {base : Heap} {k : Nat} {f : Addr} {name qual : Str} {params : Arguments} {body : List Stmt} {scope : Scope} {dV kV doc pm cdv ct oc : Value} {an od : Option Addr}
    {osl : Array (Option Value)} {N ps : List Str} {sp : Sp} (lk : K.lookup f = some ⟨oc, od, .func (PySem.W.fnOf name qual params body scope dV kV doc pm an cdv ct), osl⟩) (hcd : PySem.W.codeIn K cdv qual = true) (S : FnScope N ps scope)
    (len : ∀ vs H Q E, sp vs H Q E → vs.length = ps.length)
    (hbody : ∀ (A : Around) (outer : List Env) (s : Shared) (H : Hp) (vs : List V) (Q : VK) (E : XK), RoomG k (A.deeper (envOfC qual scope s.heap.objs.size f cdv)) → sp vs H Q E →
      ∃ t, PSs (cxOf CX P w K mg base N qual scope f cdv A outer s H E) body t ∧ t { nx := fun _ H' => Q .non H', rt := Q } (start N vs) H) :
    FnG P w K mg base CX (k + 1) f (PySem.W.fnOf name qual params body scope dV kV doc pm an cdv ct) ps sp := by
  refine ⟨len, fun A outer s H args us vs Q E hr e0 hb r hsp => ?_⟩
  have hl := len _ _ _ _ hsp
  have KX : K.In s.heap := e0.mod.kin.keeps fun b o e => (e0.bs b o e).1
  have lim : s.heap.NoLimit := e0.mod.nolimit.keeps fun b o e => (e0.bs b o e).1
  have hkind : ∀ y ∈ ps.zip us, scope.names.lookup y.1 = some .local ∨ (scope.names.lookup y.1 = some .cell ∧ ((cellsFrom (s.heap.objs.size + 1) scope.names []).lookup y.1).isSome = true) := fun ⟨n, v⟩ hy => by
    rcases S.par n (List.of_mem_zip hy).1 with q | q
    · exact .inl q
    · exact .inr ⟨q, PySem.W.cellsFrom_some _ _ _ (.inl q)⟩
  refine codeAny_call_function hr.r.depth (KX _ _ lk) rfl S.co S.gen rfl (PySem.W.codeRec_of KX hcd) (hb _ _ _ _ ?_)
  refine wpAny_newFunctionEnv_cells S.kind hkind fun env he s1 x => ?_
  subst he
  refine ⟨lim.keeps x.toInCall.keep, codeAny_func ?_⟩
  obtain ⟨t, ht, hq⟩ := hbody A outer s H vs Q E (hr.deeper _) hsp
  have I : Inv (cxOf CX P w K mg base N qual scope f cdv A outer s H E) [] (start N vs) H s1 := inv_start S hr.r.hd e0 hl r x
  refine wpAny_mono (ht.run [] s1 (start N vs) H _ I hq) (fun fl s' hs => ?_) fun e s' hs => hs
  have fin : ∀ {σ' : St} {H' : Hp} {v : V} {u : Value}, Inv (cxOf CX P w K mg base N qual scope f cdv A outer s H E) [] σ' H' s' → RelV v u → Q v H' → CE outer P w H s Q u s' :=
    fun {σ' H' v u} J rv q => ⟨v, H', J.os, J.bare, J.base, J.hok, rv, q⟩
  cases fl with
  | ret u =>
    obtain ⟨v, σ', H', J, rv, q⟩ := hs
    exact fin J rv q
  | next =>
    obtain ⟨σ', H', J, q⟩ := hs
    exact fin (v := V.non) (u := Value.none) J rfl q
  | brk =>
    obtain ⟨_, _, _, q⟩ := hs
    exact False.elim q
  | cont =>
    obtain ⟨_, _, _, q⟩ := hs
    exact False.elim q
section
variable {P : Program} {w : World} {K : PySem.W.Frag} {mg : Str → Option Value} {base : Heap}
theorem Fun.okG {x qual : Str} {st : Stmt} {f : Addr} {fd : FuncData} {N ps : List Str} {k : Nat} {sp : Sp} (F : Fun K x qual st f fd) (S : FnScope N ps (defScope st)) (len : ∀ vs H Q E, sp vs H Q E → vs.length = ps.length)
    (hbody : ∀ (cdv : Value) (A : Around) (outer : List Env) (s : Shared) (H : Hp) (vs : List V) (Q : VK) (E : XK), RoomG k (A.deeper (envOfC qual (defScope st) s.heap.objs.size f cdv)) → sp vs H Q E →
      ∃ t, PSs (cxOf CX0 P w K mg base N qual (defScope st) f cdv A outer s H E).nox (defBody st) t ∧ t { nx := fun _ H' => Q .non H', rt := Q } (start N vs) H) : FnG P w K mg base CX0 (k + 1) f fd ps sp := by
  obtain ⟨oc, od, kV, doc, pm, an, cdv, ct, osl, rfl, lk, hcd⟩ := F.ex
  refine fn_ofG lk hcd S len fun A outer s H vs Q E hr hsp => ?_
  obtain ⟨t, h, q⟩ := hbody cdv A outer s H vs Q E hr hsp
  exact ⟨t, h.nox, q⟩
theorem Fun.okXG {x qual : Str} {st : Stmt} {f : Addr} {fd : FuncData} {N ps : List Str} {k : Nat} {sp : Sp} (F : Fun K x qual st f fd) (S : FnScope N ps (defScope st)) (len : ∀ vs H Q E, sp vs H Q E → vs.length = ps.length)
    (hbody : ∀ (cdv : Value) (A : Around) (outer : List Env) (s : Shared) (H : Hp) (vs : List V) (Q : VK) (E : XK), RoomG k (A.deeper (envOfC qual (defScope st) s.heap.objs.size f cdv)) → sp vs H Q E →
      ∃ t, PSs (cxOf (L2.CX P w) P w K mg base N qual (defScope st) f cdv A outer s H E) (defBody st) t ∧ t { nx := fun _ H' => Q .non H', rt := Q } (start N vs) H) : FnG P w K mg base (L2.CX P w) (k + 1) f fd ps sp := by
  obtain ⟨oc, od, kV, doc, pm, an, cdv, ct, osl, rfl, lk, hcd⟩ := F.ex
  exact fn_ofG lk hcd S len fun A outer s H vs Q E hr hsp => hbody cdv A outer s H vs Q E hr hsp
end
/-! ### the head -/
theorem law_callG {P : Program} {w : World} {K : PySem.W.Frag} {mg mb : Str → Option Value} {CX : CXT} {k : Nat} {fa a : Addr} {fd : FuncData} {x : Str} {sp : Sp} {s₁ : Shared} {vs : List Value} {ns : List Int}
    (KX : K.In s₁.heap) (hns : s₁.heap.Ns mainGlobals mg) (hb : s₁.heap.Ns builtinsNs mb) (hbb : ∀ x : Str, x ≠ "__name__" → mb x = bootBuiltins x) (hlim : s₁.heap.NoLimit) (hg : s₁.gens = #[])
    (ha : s₁.heap.get? a = some { cls := .type "list", data := .seq vs.toArray }) (hi : IntsAre vs ns) (hl : ns.length ≤ sizeLine) (hr : RoomG k callerA)
    (F : ∀ base : Heap, K.In base → base.Ns mainGlobals mg → FnG P w K mg base CX k fa fd [x] sp) (hbind : ∀ (s : Shared) (u : Value), BindsTo s fd ⟨[u], []⟩ [(x, u)])
    (hsp : ∀ H : Hp, Only H → SqL K H a (ns.map V.int) → sp [.ref a] H (fun v _ => v = .bl true) fun _ _ _ => False)
    (hCX : ∀ H e s', CX [] H s₁ (fun _ _ _ => False) e s' → False) :
    codeAny (model P w) callerA (.call (.ref fa) ⟨[.ref a], []⟩) (fun r s' => r = .ok (.ret (.bool true)) ∧ OldK s₁.heap s'.heap ∧ s'.os = s₁.os ∧ AllBare s'.gens) s₁ := by
  have rv := vals_ints hi
  have lenV := hi.length
  have core : ∀ H : Hp, Only H → SqL K H a (ns.map V.int) → HOk P w H s₁.heap → (∀ b, H b ≠ none → b = a) → (H a ≠ none → K.lookup a = none) →
      codeAny (model P w) callerA (.call (.ref fa) ⟨[.ref a], []⟩) (fun r s' => r = .ok (.ret (.bool true)) ∧ OldK s₁.heap s'.heap ∧ s'.os = s₁.os ∧ AllBare s'.gens) s₁ := by
    intro H hO hS hok hA hK
    have base_of : ∀ {b : Addr} {o : Obj}, s₁.heap.get? b = some o → H b = none → (hidT s₁.heap H).get? b = some o := fun e n => hidT_get e n
    have noA : ∀ {b : Addr} {o : Obj} {es : Array DictEntry} {ep : Nat}, s₁.heap.get? b = some o → o.data = .dict es ep → H b = none := fun {b o es ep} e d => by
      cases q : H b with
      | none => rfl
      | some u =>
        have e' : b = a := hA b (by rw [q]; simp)
        subst e'
        rw [ha] at e; cases e
        have d' : Data.seq vs.toArray _ = Data.dict es ep := d
        cases d'
    have nsK : ∀ {b : Addr} {m : Str → Option Value}, s₁.heap.Ns b m → (hidT s₁.heap H).Ns b m := fun {b m} ⟨o, es, ep, e, d, r⟩ => ⟨o, es, ep, base_of e (noA e d), d, r⟩
    have hKb : K.In (hidT s₁.heap H) := fun b o e => base_of (KX b o e) (by
      cases q : H b with
      | none => rfl
      | some u =>
        have e' : b = a := hA b (by rw [q]; simp)
        subst e'
        rw [hK (by rw [q]; simp)] at e; cases e)
    have hM : Mod K mg (hidT s₁.heap H) := ⟨hKb, nsK hns, ⟨mb, nsK hb, hbb⟩, let ⟨mc, h1, h2⟩ := hlim; ⟨mc, nsK h1, h2⟩⟩
    have e0 : Env0 P w K mg (hidT s₁.heap H) callerA [] s₁ H := ⟨rfl, hM, fun b o e => of_hidT e, Nat.le_of_eq (hidT_size _ _), trivial, fun b hb => absurd (show b ∈ ([] : List Addr) from hb) (by simp), hok, .of_eq hg⟩
    refine codeAny_mono ((F _ hKb (nsK hns)).run callerA [] s₁ H ⟨[.ref a], []⟩ [.ref a] [.ref a] _ _ hr e0 (hbind s₁ (.ref a)) (.cons rfl .nil) (hsp H hO hS)) fun r s' h => ?_
    cases r with
    | error e => exact (hCX H e s' h).elim
    | ok fl =>
      cases fl with
      | next => exact False.elim h
      | brk => exact False.elim h
      | cont => exact False.elim h
      | ret u =>
        obtain ⟨v, H', os, bare, un, hok', r', q⟩ := h
        have q' : v = .bl true := q
        subst q'
        obtain rfl : u = Value.bool true := r'
        refine ⟨rfl, OldK.of_keep fun b o e => ?_, os, bare⟩
        cases q : H b with
        | none => exact un.keep b o e q (by intro z; exact absurd (show b ∈ ([] : List Addr) from z) (by simp)) (by simp)
        | some u =>
          rcases hO b with z | ⟨ob, xs, z⟩
          · rw [q] at z; cases z
          · have z2 := un.frzs b ob _ z
            obtain ⟨e1, _⟩ := hok b _ z
            obtain ⟨e2, _⟩ := hok' b _ z2
            rw [e] at e1; cases e1
            exact e2
  cases hk : K.lookup a with
  | some o =>
    have e := KX a o hk
    rw [ha] at e
    cases e
    refine core (fun _ => none) (fun _ => .inl rfl) (.inr ⟨_, vs.toArray, _, hk, rfl, rfl, rfl, by rw [List.size_toArray, lenV]; exact hl, by simpa using rv⟩) (fun b u z => by have z' : (none : Option HO) = some u := z; cases z') (fun b z => absurd rfl z) fun z => absurd rfl z
  | none =>
    refine core (fun b => if b = a then some (.frz { cls := .type "list", data := .seq vs.toArray } (.lst (ns.map V.int))) else none) (fun b => ?_) (.inl (.inr ⟨{ cls := .type "list", data := .seq vs.toArray }, if_pos rfl⟩)) (fun b u z => ?_) (fun b z => ?_) fun _ => hk
    · by_cases hb : b = a
      · exact .inr ⟨_, _, if_pos hb⟩
      · exact .inl (if_neg hb)
    · by_cases hb : b = a
      · have z' := (if_pos hb).symm.trans z
        cases z'
        subst hb
        exact ⟨ha, by rw [List.length_map]; exact hl, vs, _, rv, ha⟩
      · have z' := (if_neg hb).symm.trans z
        cases z'
    · by_cases hb : b = a
      · exact hb
      · exact absurd (if_neg hb) z
theorem walk_ofG {l : PySem.W.OpenLaw} {n k : Nat} {q : Program} {loose : List Str} {XP : (Str → Option Value) → Heap → Prop} {YP : World → Heap → Prop} {d : DefRec} {K : Params → PySem.W.Frag} {CX : World → CXT} {sp : World → Sp} {x : Str}
    (hn : l.most = some n) (hn2 : n ≤ sizeLine) (hdf : d.params.defaults = []) (hr : RoomG k callerA)
    (hY : ∀ (w : World) (h : Heap), YP w h → (K w.params).In h)
    (F : ∀ (w : World) (mg : Str → Option Value) (fa : Addr) (h : Heap), (K w.params).In h → h.Ns mainGlobals mg → mg d.name = some (.ref fa) →
      ∃ fd : FuncData, (∀ (s : Shared) (u : Value), BindsTo s fd ⟨[u], []⟩ [(x, u)]) ∧
        ∀ base : Heap, (K w.params).In base → base.Ns mainGlobals mg → FnG l.prog w (K w.params) mg base (CX w) k fa fd [x] (sp w))
    (hsp : ∀ (w : World) (H : Hp) (a : Addr) (ns : List Int), ns.length ≤ n → Only H → SqL (K w.params) H a (ns.map V.int) → sp w [.ref a] H (fun v _ => v = .bl true) fun _ _ _ => False)
    (hCX : ∀ (w : World) (H : Hp) (s : Shared) (e : Value) (s' : Shared), CX w [] H s (fun _ _ _ => False) e s' → False) :
    PySem.W.WalkO q loose XP YP l.row.toRowW d [] (fun f vs => PySem.call f vs) := by
  refine Att.attach_call hn hdf fun w s₀ s₁ mg mb fa o pm cd doc a vs ns G Y ho hd hcd hmg hobj hints hlen hg => ?_
  have KX := hY w _ Y
  obtain ⟨fd, hb, hF⟩ := F w mg fa _ KX G.T.g hmg
  exact law_callG KX G.T.g G.T.b G.T.builtins G.T.nolimit hg hobj hints (Nat.le_trans hlen hn2) hr hF hb (fun H hO hS => hsp w H a ns hlen hO hS) fun H e s' => hCX w H s₁ e s'
end L2

/-! An own exception class whose __init__ says super().__init__(text) and then stores its arguments: made. -/
namespace ExM
open PySem PySem.W PySem.Calls PyProof.Rows

/-- what stands around a body's globals -/
structure GlobAt (h : Heap) (mg : Str → Option Value) : Prop where
  g : h.Ns mainGlobals mg
  b : ∃ mb, h.Ns builtinsNs mb ∧ mb "super" = some (.type "super")
  s : mg "super" = none
  lim : h.NoLimit
theorem GlobAt.keeps {h h' : Heap} {mg : Str → Option Value} (x : GlobAt h mg) (k : ∀ b o, h.get? b = some o → h'.get? b = some o) : GlobAt h' mg :=
  ⟨x.g.keeps k, let ⟨mb, a, c⟩ := x.b; ⟨mb, a.keeps k, c⟩, x.s, x.lim.keeps k⟩

/-- what the library tells of a built-in __init__ that is the base's -/
structure InF (B i : String) : Prop where
  entry : entryFor table i = some Builtin.«BaseException.__init__»
  kind : builtinKind i = some .slot
  row : Manifest.signature? i = some ⟨.positional, "*", B, .self, [⟨"args", .varPos, false⟩]⟩
  noStar : (B != "*") = true
  plain : plainId i = true
  sup : KxsFacts B i
/-- what the written part says of the class at C and of its __init__ at f (its __class__ cell at cc) -/
structure Ini (K : Frag) (prog : Program) (C f cc : Addr) (qual : Str) (params : Arguments) (body : List Stmt) (scope : Scope) (bmB : List Value) (B newId initId : String) : Prop where
  cls : ∃ nm q N bs bm sn sub ab col dd k0 k1 k2 k3 k5, K.lookup C = some (excClassObj nm q C N bs bm true sn sub ab col dd k0 k1 k2 k3 k5 newId) ∧ excTail bmB bm = true
  new : ∃ Bn initN bmN, ExcBaseFacts Bn newId initN bmN ∧ bmB.contains (.type Bn) = true ∧ bmB.contains (.type "AttributeError") = false ∧ bmB.contains (.type "NameError") = false
  ini : InF B initId
  pass : ∀ self, refuseLoop self "__setattr__" bmB = pure ()
  obj : bmB.contains (.type "object") = true
  sa : findIn K (.ref C) "__setattr__" = some (some (.builtin "object.__setattr__"))
  iC : findIn K (.ref C) "__init__" = some (some (.ref f))
  tF : typeIn K (.ref f) = some (.type "function")
  kC : keepIn K (.ref C) = true
  exC : subIn K (.ref C) (.type "BaseException") = some true
  bC : subIn K (.ref C) (.type B) = some true
  tyC : typeIn K (.ref C) = some (.type "type")
  op : nsIn K cStatics "thirdparty.any" = some none
  al : ks_superIn K C C "__init__" = some (some (.builtin initId))
  fn : ∃ (oc : Value) (od : Option Addr) (kV doc pm : Value) (an : Option Addr) (cda : Addr) (ct : Value) (osl : Array (Option Value)),
    K.lookup f = some ⟨oc, od, .func (ksFn "__init__" qual params body scope .none kV doc pm an (.ref cda) ct cc), osl⟩ ∧ codeIn K (.ref cda) qual = true ∧
    ∃ ccl cdd vs ccs file tf, K.lookup cda = some ⟨ccl, cdd, .fields vs, ccs⟩ ∧ vs[2]? = some (.str file tf) ∧ ((prog.main.file : Str) == file) = true
  cell : ∃ cl cld csl, K.lookup cc = some ⟨cl, cld, .cell (some (.ref C)), csl⟩
  top : (prog.main.scope.names.lookup ("super" : Str)).isSome = false
  sS : scope.names.lookup ("super" : Str) = some .globalImplicit
  sC : scope.names.lookup ("__class__" : Str) = some .free
  sk : scope.kind = .function

section
variable {prog : Program} {w : World} {A : Around} {E : Value → Shared → Prop} {h : Heap} {g : Array GenState} {d : Drawn} {t : Nat} {os : OsState}
variable {K : Frag} {mg : Str → Option Value} {C f cc x L : Addr} {qual : Str} {params : Arguments} {body : List Stmt} {scope : Scope} {bmB : List Value} {B newId initId : String}

theorem Ini.cd (T : Ini K prog C f cc qual params body scope bmB B newId initId) : ∃ cd : ClassData, clsIn K C = some cd ∧ (∃ bm, cd.mro = .ref C :: bm ∧ excTail bmB bm = true) ∧ cd.hasDict = true := by
  obtain ⟨nm, q, N, bs, bm, sn, sub, ab, col, dd, k0, k1, k2, k3, k5, hC, hbm⟩ := T.cls
  exact ⟨{ name := nm, bases := bs, mro := .ref C :: bm, ns := N, qualname := q, hasDict := true, slotNames := sn, subclasses := sub, abstract := ab, collection := col, hasDel := false }, by unfold clsIn; rw [hC] <;> rfl, ⟨bm, rfl, hbm⟩, rfl⟩

/-- super() in the body, self at x, an exception of C without a dict -/
theorem super_made (T : Ini K prog C f cc qual params body scope bmB B newId initId) {cda : Addr} {oc : Value} {od : Option Addr} {kV doc pm ct : Value} {an : Option Addr} {osl : Array (Option Value)} {m : Str → Option Value} {ox : Obj}
    (hf : K.lookup f = some ⟨oc, od, .func (ksFn "__init__" qual params body scope .none kV doc pm an (.ref cda) ct cc), osl⟩)
    (hcda : ∃ ccl cdd vs ccs file tf, K.lookup cda = some ⟨ccl, cdd, .fields vs, ccs⟩ ∧ vs[2]? = some (.str file tf) ∧ ((prog.main.file : Str) == file) = true)
    {ar : Arg} (hp : (params.posonlyargs ++ params.args).head? = some ar) (hka : scope.names.lookup ar.arg = some .local) (X : K.In h) (G : GlobAt h mg) (hn : h.Ns L m) (hv : m ar.arg = some (.ref x)) (hx : h.get? x = some ox) (hc : ox.cls = .ref C) (hd : ∀ c, ox.data ≠ .cls c)
    {bd : List Stmt} {p0 p1 : Pos} {whole : Sem Value} {Q : Value → Shared → Prop}
    (hq : ∀ h', h'.get? h.objs.size = some (ks_superObj C x C) → (∀ b o, h.get? b = some o → h'.get? b = some o) → Q (.ref h.objs.size) ⟨h', g, d, t, os⟩) :
    _root_.PySem.wpAt (model prog w) A (.func bd (ksEnv qual scope L f (.ref cda) cc)) (attributeBase (.Call (.Name "super" p0) [] [] p1) "__init__" (ksEnv qual scope L f (.ref cda) cc) whole) Q E ⟨h, g, d, t, os⟩ := by
  obtain ⟨ccl, cdd, vs, ccs, file, tf, hcode, hvs, hfile⟩ := hcda
  obtain ⟨cl, cld, csl, hcell⟩ := T.cell
  obtain ⟨cd, hcd, ⟨bm, hm, hbm⟩, hh⟩ := T.cd
  obtain ⟨oD, hD1, hD2⟩ : ∃ oD, h.get? C = some oD ∧ oD.data = .cls cd := by
    unfold clsIn at hcd
    split at hcd
    · rename_i c0 d0 cd' sl ho
      cases hcd
      exact ⟨_, X _ _ ho, rfl⟩
    · cases hcd
  have hsub : Looks (model prog w) h (isSubtype (.ref C) (.ref C)) true := looks_mroIn X (by unfold mroIn; rw [hcd, Option.bind_some, hm]; simp)
  obtain ⟨mb, hb, hbs⟩ := G.b
  refine ks_wpAt_super_base (env := ksEnv qual scope L f (.ref cda) cc) T.sS T.sC (by decide) rfl (X _ _ hf) rfl hp rfl (X _ _ hcode) rfl hvs hfile T.top ?_
  refine ks_loadName_global T.sk T.sS (loadGlobal_builtin (env := ksEnv qual scope L f (.ref cda) cc) G.g G.s hb hbs ⟨rfl, ?_⟩)
  refine wpAny_loadName_free T.sk T.sC rfl ⟨_, X _ _ hcell, rfl⟩ ?_
  refine wpAny_loadName_local T.sk hka hn hv ?_
  refine ks_wpAny_isType_cls hD1 hD2 ⟨rfl, ?_⟩
  exact ks_wpAny_call_super hD1 hD2 hx hc hd hsub fun h' e k => hq h' e k

theorem check_bound {M : Model} {B i newId : String} (F : InF B i) {nm q : Str} {C N e : Addr} {oe : Obj} {bs bm : List Value} {hdct : Bool} {sn : List Str} {sub : List Value} {ab : Bool} {col : Option Bool} {dd : Option Addr} {k0 k1 k2 k3 k5 : Option Value} {rest : List Value} {Q : Unit → Shared → Prop}
    (hC : h.get? C = some (excClassObj nm q C N bs bm hdct sn sub ab col dd k0 k1 k2 k3 k5 newId)) (he : h.get? e = some oe) (hcls : oe.cls = .ref C) (hq : Q () ⟨h, g, d, t, os⟩) : wpAny M A (checkBoundCall i ⟨.ref e :: rest, []⟩) Q E ⟨h, g, d, t, os⟩ := by
  have hshort := F.noStar
  simp only [checkBoundCall, F.kind, F.row]
  repeat (first | (with_reducible refine wpAny_loadPart_at he ?_; rw [hcls]) | with_reducible refine wpAny_loadPart_at hC ?_ | wp_step)
  refine wpAny_onRaise ?_
  rw [show ∀ (a b : String) (n : Nat), Bind.check ⟨.positional, "*", B, .self, [⟨"args", .varPos, false⟩]⟩ a b n (List.map (fun x => x.fst) ({ pos := Value.ref e :: rest } : Args).kw) = pure () from
    fun a b n => check_star_args _ _ _ _ _ _]
  exact wpAny_pure hq
/-- the bound __init__ of the built-in base, called: the exception's args are laid anew -/
theorem bound_called (T : Ini K prog C f cc qual params body scope bmB B newId initId) {u t0 : Addr} {dv : Option Addr} {rest : List Value} {Q : Value → Shared → Prop} (X : K.In h)
    (hx : h.get? x = some (excObj C t0 dv .none)) (hu : h.get? u = some (kxs_mw initId x)) (hz : rest.length ≤ sizeLine)
    (hq : ∀ h' t1, (∀ b o, b ≠ x → h.get? b = some o → h'.get? b = some o) → h'.get? x = some (excObj C t1 dv .none) → Q .none ⟨h', g, d, t, os⟩) :
    wpAny (model prog w) A (call (.ref u) rest) Q E ⟨h, g, d, t, os⟩ := by
  obtain ⟨nm, q, N, bs, bm, sn, sub, ab, col, dd, k0, k1, k2, k3, k5, hC, hbm⟩ := T.cls
  have FB := T.ini
  refine wpAny_call (codeAny_of_tree ?_)
  show wpAny _ A.in1 (callAny (.ref u) ⟨rest, []⟩) _ _ _
  simp only [callAny]
  refine wpAny_bind (wpAny_load hu ?_)
  simp only [kxs_mw, show (Value.type "method-wrapper" == Value.type "method" || Value.type "method-wrapper" == Value.type "builtin_function_or_method" || Value.type "method-wrapper" == Value.type "method-wrapper") = true by decide, if_true]
  refine KFB.if_so (by decide) ?_
  refine wpAny_bind (check_bound FB (X _ _ hC) hx rfl ?_)
  refine wpAny_bind (wpAny_pure (wpAny_pure ?_))
  refine ⟨plainId_quiet FB.plain _, codeAny_builtin FB.entry ?_⟩
  exact exc_init_tree (cls := .ref C) (t0 := t0) (dv := dv) (c2 := .none) (c3 := .none) (b4 := .bool false) hx hz fun h' k e' _ => hq h' _ k e'

/-- the statement super().__init__(text) -/
theorem super_said (T : Ini K prog C f cc qual params body scope bmB B newId initId) {cda : Addr} {oc : Value} {od : Option Addr} {kV doc pm ct : Value} {an : Option Addr} {osl : Array (Option Value)} {m : Str → Option Value} {t0 : Addr}
    (hf : K.lookup f = some ⟨oc, od, .func (ksFn "__init__" qual params body scope .none kV doc pm an (.ref cda) ct cc), osl⟩)
    (hcda : ∃ ccl cdd vs ccs file tf, K.lookup cda = some ⟨ccl, cdd, .fields vs, ccs⟩ ∧ vs[2]? = some (.str file tf) ∧ ((prog.main.file : Str) == file) = true)
    {ar : Arg} (hp : (params.posonlyargs ++ params.args).head? = some ar) (hka : scope.names.lookup ar.arg = some .local) (X : K.In h) (G : GlobAt h mg) (hn : h.Ns L m) (hv : m ar.arg = some (.ref x)) (hx : h.get? x = some (excObj C t0 none .none)) (hxL : x ≠ L) (hxK : K.lookup x = none)
    {bd : List Stmt} {p0 p1 p2 p3 p4 p5 : Pos} {msg : Str} {j : Nat} {Q : Flow → Shared → Prop}
    (hq : ∀ h' tk t1, (∀ b o, b ≠ x → h.get? b = some o → h'.get? b = some o) → h'.get? x = some (excObj C t1 none .none) → Q .next ⟨h', g, d, tk, os⟩)
    (hi : interactive (ksEnv qual scope L f (.ref cda) cc) = false) {pl : Sem Bool}
    (hev : eval (.Call (.Attribute (.Call (.Name "super" p0) [] [] p1) "__init__" p2) [.Constant (.str msg) j p3] [] p4) (ksEnv qual scope L f (.ref cda) cc) = (do
      let ov ← attributeBase (.Call (.Name "super" p0) [] [] p1) "__init__" (ksEnv qual scope L f (.ref cda) cc) (eval (.Call (.Name "super" p0) [] [] p1) (ksEnv qual scope L f (.ref cda) cc))
      standAt p2.atName
      let (fx, first) ← holding [ov] (getMethod ov "__init__" pl)
      callWith p4 fx first (backTo p4 (starEach [.Constant (.str msg) j p3] (ksEnv qual scope L f (.ref cda) cc))) [])) :
    _root_.PySem.wpAt (model prog w) A (.func bd (ksEnv qual scope L f (.ref cda) cc))
      (exec (.Expr (.Call (.Attribute (.Call (.Name "super" p0) [] [] p1) "__init__" p2) [.Constant (.str msg) j p3] [] p4) p5) (ksEnv qual scope L f (.ref cda) cc)) Q E ⟨h, g, d, t, os⟩ := by
  refine ks_wpAt_Expr_any ?_ hi rfl
  refine ks_wpAt_MethodCall ?_ hev
  refine super_made T hf hcda hp hka X G hn hv hx rfl (fun c z => by cases z) fun h1 e1 k1 => ?_
  have X1 : K.In h1 := X.keeps k1
  have hx1 := k1 _ _ hx
  obtain ⟨cd, hcd, ⟨bm, hm, hbm⟩, hh⟩ := T.cd
  have I1 : InstAt h1 x (excObj C t0 none .none) C none := ⟨hx1, rfl, rfl, trivial⟩
  have hI : Looks (model prog w) h1 (isInstance (.ref x) (.type B)) true := I1.type.andThen (looks_subIn X1 T.bC)
  have hal : alongIn K "__init__" ((cd.mro.dropWhile (· != .ref C)).drop 1) = some (some (.builtin initId)) := by
    have z := T.al
    unfold ks_superIn at z
    rw [hcd] at z
    exact z
  refine kxs_getMethod T.ini.sup e1 (looks_opaque X1 T.op) (l₀ := cd.mro) (fun A Q E s k q => wpAny_bind ((looks_clsIn X1 hcd) A _ E s k (wpAny_pure q))) rfl X1 hal hI (ks_ne X1 I1 hcd) (by decide) ?_
  have k2 : ∀ b o, h1.get? b = some o → (h1.push (kxs_mw initId x)).get? b = some o := fun b o e => Heap.get?_push_of_some _ e
  have hu : (h1.push (kxs_mw initId x)).get? h1.objs.size = some (kxs_mw initId x) := Heap.get?_push_at rfl rfl
  refine kxs_callWith (i := initId) (x := x) rfl (evalArgs_plain ?_)
  show wpAny _ _ (spliced ((false, eval (.Constant (.str msg) j p3) _) :: backTo p4 (starEach [] _))) _ _ _
  refine Calls.spliced_cons (Calls.Constant_str ?_)
  refine Calls.spliced_nil ⟨hu, ?_⟩
  refine bound_called T (X1.keeps k2) (k2 _ _ hx1) hu (by rw [sizeLine_eq]; exact (by decide : 1 ≤ 16777216)) fun h3 t1 k3 e3 => ?_
  exact hq h3 _ t1 (fun b o hb e => k3 b o hb (k2 b o (k1 b o e))) e3

/-- what a new exception with one dict is: the class at C, its dict at dx -/
structure Own (h h' : Heap) (x C dx : Addr) (m : Str → Option Value) : Prop where
  keep : ∀ b o, b ≠ x → h.get? b = some o → h'.get? b = some o
  obj : ∃ t1, h'.get? x = some (excObj C t1 (some dx) .none)
  dbig : h.objs.size ≤ dx
  dne : dx ≠ x
  ns : h'.Ns1 dx m

section
open Builtin Builtin.ObjectAttr
/-- the built-in store at such an exception -/
theorem store_walk (T : Ini K prog C f cc qual params body scope bmB B newId initId) {name : Str} {tk : Tok} {v : Value} {ox : Obj} {od : Option Obj} {R : Result → Shared → Prop}
    (X : K.In h) (I : InstAt h x ox C od) (ha : findIn K (.ref C) name = some none)
    (hq : wpAny (model prog w) A.in1 (storeInOwnDict (.ref x) (.ref C) (.str name tk) name v false)
      (fun fin s' => match fin with | .done f => R (.ok f) s' | .again c' => c'.quiet = true ∧ codeAny (model prog w) A c' R s') (fun e s' => R (.error e) s') ⟨h, g, d, t, os⟩) :
    codeAny (model prog w) A (.call (.builtin "object.__setattr__") ⟨[.ref x, .str name tk, v], []⟩) R ⟨h, g, d, t, os⟩ := by
  obtain ⟨cd, hcd, ⟨bm, hm, hbm⟩, hh⟩ := T.cd
  have SF := F.store_object
  have hpass : refuseLoop (.ref x) "__setattr__" cd.mro = pure () := by
    rw [hm, refuseLoop_ref]
    exact excTail_pass _ (T.pass _) bm hbm
  have hob : cd.mro.contains (.type "object") = true := by
    rw [hm, List.contains_cons, excTail_contains "object" bm hbm]
    exact Bool.or_eq_true_iff.mpr (.inr (T.obj))
  have sub : Looks (model prog w) h (isInstance (.ref x) (.type "object")) true := I.type.andThen (looks_mroIn X (by unfold mroIn; rw [hcd, Option.bind_some, if_neg (by rw [hm]; exact Bool.false_ne_true), hob]))
  refine codeAny_call_builtin SF.slot.plain SF.entry (@check_slot (model prog w) _ _ ⟨h, g, d, t, os⟩ "object.__setattr__" "object" "__setattr__" (.ref x) [.str name tk, v] [] _ SF.kind SF.split sub (SF.args (.ref x) (.str name tk) v) ?_)
  have hmr : Looks (model prog w) h (mroOf (.ref C)) cd.mro := (looks_clsIn X hcd).andThen .now
  have L3 : Looks (model prog w) h (storeTaker? none) none := .now
  rw [osa_eq, refuse_eq]
  refine wpAny_bind (wpAny_bind (I.type.at (wpAny_bind (hmr.at ?_))))
  rw [hpass]
  exact wpAny_pure (wpAny_bind (I.type.at (wpAny_bind ((looks_findIn X ha).at (wpAny_bind (L3.at hq))))))
/-- self.name = v, the first one -/
theorem store_first (T : Ini K prog C f cc qual params body scope bmB B newId initId) {name : Str} {v : Value} {fv : Array Value} {Q : Unit → Shared → Prop}
    (X : K.In h) (hx : h.get? x = some { cls := .ref C, data := .fields fv }) (ha : findIn K (.ref C) name = some none)
    (hq : ∀ h' tk' dx, (∀ b o, b ≠ x → h.get? b = some o → h'.get? b = some o) → h.objs.size ≤ dx → dx ≠ x → h'.get? x = some { cls := .ref C, dict := some dx, data := .fields fv } →
      h'.Ns1 dx (fun y => if y = name then some v else none) → Q () ⟨h', g, d, tk', os⟩) :
    wpAny (model prog w) A (setAttr (.ref x) name v) Q E ⟨h, g, d, t, os⟩ := by
  obtain ⟨cd, hcd, ⟨bm, hm, hbm⟩, hh⟩ := T.cd
  have I : InstAt h x { cls := .ref C, data := .fields fv } C none := ⟨hx, rfl, rfl, trivial⟩
  have hxs : x ≠ h.objs.size := Nat.ne_of_lt (Heap.lt_size hx)
  have hcls : Looks (model prog w) h (classData C) cd := looks_clsIn X hcd
  refine set_plain X I T.sa (store_walk T X I ha ?_)
  obtain ⟨nm, bs, mro, ns, qn, hd, sn, sb, ab, col, del⟩ := cd
  dsimp only at hh
  subst hh
  unfold storeInOwnDict ownDictForStores
  repeat (first | with_reducible refine HandSPX.store_in_new ?_ ?_ | with_reducible refine wpAny_loadPart_at hx ?_ | with_reducible refine hcls.at ?_ | wp_step)
  · exact ⟨_, #[], _, (Heap.get?_update_ne _ _ _ _ hxs.symm).trans (Heap.get?_push_at rfl rfl), rfl, fun e he => absurd he (by simp), fun _ => rfl⟩
  · intro h' tk' hn' hs
    have hx₁ : (h.push { cls := .type "dict", data := .dict #[] }).get? x = some { cls := .ref C, data := .fields fv } := Heap.get?_push_of_some _ hx
    refine hq h' tk' h.objs.size (fun b o hb ho => ?_) (Nat.le_refl _) hxs.symm ?_ hn'
    · exact (hs.2 b (Nat.ne_of_lt (Heap.lt_size ho))).trans ((Heap.get?_update_ne _ _ _ _ hb).trans (Heap.get?_push_of_some _ ho))
    · exact (hs.2 x hxs).trans (Heap.get?_update_self _ hx₁ rfl)
/-- a further one -/
theorem store_more (T : Ini K prog C f cc qual params body scope bmB B newId initId) {dx : Addr} {name : Str} {v : Value} {fv : Array Value} {m0 : Str → Option Value} {nl : List Str} {Q : Unit → Shared → Prop}
    (X : K.In h) (hx : h.get? x = some { cls := .ref C, dict := some dx, data := .fields fv }) (hns : h.Ns1 dx m0) (hw : Within m0 nl) (hz : nl.length ≤ 1000) (ha : findIn K (.ref C) name = some none)
    (hq : ∀ h' tk', (∀ b o, b ≠ dx → h.get? b = some o → h'.get? b = some o) → h'.Ns1 dx (fun y => if y = name then some v else m0 y) → Q () ⟨h', g, d, tk', os⟩) :
    wpAny (model prog w) A (setAttr (.ref x) name v) Q E ⟨h, g, d, t, os⟩ := by
  obtain ⟨cd, hcd, ⟨bm, hm, hbm⟩, hh⟩ := T.cd
  obtain ⟨oD, esD, epD, hoD, hdD, _⟩ := hns.count hw
  have I : InstAt h x { cls := .ref C, dict := some dx, data := .fields fv } C (some oD) := ⟨hx, rfl, rfl, hoD⟩
  have hcls : Looks (model prog w) h (classData C) cd := looks_clsIn X hcd
  refine set_plain X I T.sa (store_walk T X I ha ?_)
  obtain ⟨nm, bs, mro, ns, qn, hd, sn, sb, ab, col, del⟩ := cd
  dsimp only at hh
  subst hh
  unfold storeInOwnDict ownDictForStores
  repeat (first | with_reducible refine OEX.store_in_old hns hw hz ?_ | with_reducible refine wpAny_loadPart_at hx ?_ | with_reducible refine hcls.at ?_ | wp_step)
  intro h' tk' hn' hs
  exact hq h' tk' (fun b o hb ho => (hs.2 b hb).trans ho) hn'
end

end
end ExM

/-! Own exceptions called with keywords; own exceptions over KeyError (whose __new__ is LookupError's). -/
namespace ExM
open PySem PySem.W PySem.Calls
section
variable {M : Model} {prog : Program} {w : World} {A : Around} {E : Value → Shared → Prop} {R : Result → Shared → Prop} {h : Heap} {g : Array GenState} {d : Drawn} {t : Nat} {os : OsState}
variable {nm q : Str} {C N : Addr} {bs bm bmN : List Value} {hdct : Bool} {sn : List Str} {sub : List Value} {ab : Bool} {col : Option Bool} {dd : Option Addr} {k0 k1 k2 k3 k5 : Option Value} {Bn newId initN : String}
/-- what the class's mro says of the built-in that makes its instances -/
structure NewM (C : Addr) (bm : List Value) (Bn : String) : Prop where
  hb : (Value.ref C :: bm).contains (.type Bn) = true
  ha : (Value.ref C :: bm).contains (.type "AttributeError") = false
  hn : (Value.ref C :: bm).contains (.type "NameError") = false
theorem check_newK (F : ExcBaseFacts Bn newId initN bmN) (m : NewM C bm Bn) {rest : List Value} {kw : List (Str × Value)} {Q : Unit → Shared → Prop}
    (hC : h.get? C = some (excClassObj nm q C N bs bm hdct sn sub ab col dd k0 k1 k2 k3 k5 newId)) (hq : Q () ⟨h, g, d, t, os⟩) : wpAny M A (checkBuiltinCall newId ⟨.ref C :: rest, kw⟩) Q E ⟨h, g, d, t, os⟩ := by
  have hcont := m.hb
  have hstar := F.noStar
  simp only [checkBuiltinCall, F.newKind, F.newSplit, F.newRow]
  repeat (first | refine wpAny_loadPart_at hC ?_ | (refine wpAny_isSubtype_exc hC ?_; rw [hcont]) | refine wpAny_staticBase_exc hC ?_ | refine wpAny_madeBy_exc hC ?_ | simp only [bne_self_eq_false, Bool.false_eq_true, if_false] | wp_step)
  exact hq
theorem newK (F : ExcBaseFacts Bn newId initN bmN) (m : NewM C bm Bn) {rest : List Value} {kw : List (Str × Value)}
    (hC : h.get? C = some (excClassObj nm q C N bs bm hdct sn sub ab col dd k0 k1 k2 k3 k5 newId))
    (hq : R (.ok (.ret (.ref (h.objs.size + 1)))) ⟨(h.push { cls := .type "tuple", data := .seq rest.toArray }).push
      { cls := .ref C, data := .fields #[.ref h.objs.size, .none, .none, .none, .bool false, .none] }, g, d, t, os⟩) (hrest : rest.length ≤ sizeLine) :
    codeAny (model prog w) A (.builtin newId ⟨.ref C :: rest, kw⟩) R ⟨h, g, d, t, os⟩ := by
  have hends := F.ends
  have hcB := m.hb
  have hcA := m.ha
  have hcN := m.hn
  refine codeAny_builtinAt F.entry ?_
  unfold Builtin.«BaseException.__new__»
  refine wpAt_bind ?_
  show wpAt _ _ _ (stack >>= _) _ _ _
  refine wpAt_bind (wpAt_stack fun p below => wpAt_of_wpAny ?_)
  wp_walk
  refine wpAt_of_wpAny ?_
  rw [F.owner]
  repeat (first | with_reducible refine wpAny_madeHere_exc F.canon hC ?_ | with_reducible refine wpAny_loadPart_at hC ?_ | (with_reducible refine wpAny_isSubtype_exc hC ?_; first | rw [hcB] | rw [hcA] | rw [hcN]) | wp_step)
  show R _ _
  rw [Heap.size_push]
  exact hq
theorem type_callK (F : ExcBaseFacts Bn newId initN bmN) (m : NewM C bm Bn) {rest : List Value} {kw : List (Str × Value)} {fI : Addr} {Q : Fin → Shared → Prop}
    (hC : h.get? C = some (excClassObj nm q C N bs bm hdct sn sub ab col dd k0 k1 k2 k3 k5 newId))
    (hi : W.Looks (model prog w) h (typeLookup (.ref C) "__init__") (some (.ref fI))) (hb : ∀ self, W.Looks (model prog w) h (bindSpecial (.ref fI) self) (.ref fI, [self])) (hrest : rest.length ≤ sizeLine)
    (hq : codeAny (model prog w) A (.call (.ref fI) ⟨.ref (h.objs.size + 1) :: rest, kw⟩)
      (fun r s' => match r with | .ok (.ret v) => v = .none ∧ Q (.done (.ret (.ref (h.objs.size + 1)))) s' | .ok _ => False | .error e => E e s')
      ⟨(h.push (W.kdv_tup rest)).push (HandSPX.excO C h.objs.size), g, d, t, os⟩) :
    wpAny (model prog w) A (Builtin.«type.__call__» ⟨.ref C :: rest, kw⟩) Q E ⟨h, g, d, t, os⟩ := by
  repeat (first | with_reducible refine wpAny_loadPart_at hC ?_ | with_reducible refine wpAny_madeBy_exc hC ?_ | wp_step)
  refine codeAny_call_builtin_code (Code.quiet_builtin _ F.quiet) (check_newK F m hC ?_)
  refine newK F m hC ?_ hrest
  show wpAny _ _ _ _ _ _
  have k : ∀ b o, h.get? b = some o → ((h.push (W.kdv_tup rest)).push (HandSPX.excO C h.objs.size)).get? b = some o := fun b o e => Heap.get?_push_of_some _ (Heap.get?_push_of_some _ e)
  have hC₁ := k _ _ hC
  have hget : ((h.push (W.kdv_tup rest)).push (HandSPX.excO C h.objs.size)).get? (h.objs.size + 1) = some (HandSPX.excO C h.objs.size) := by heap_get
  have hcC : (Value.ref C :: bm).contains (.ref C) = true := by simp
  have i1 := hi.keeps k
  have b1 := (hb (.ref (h.objs.size + 1))).keeps k
  unfold isInstance
  repeat (first | with_reducible refine wpAny_loadPart_at hget ?_ | (with_reducible refine wpAny_isSubtype_exc hC₁ ?_; rw [hcC]) | wp_step)
  show wpAny _ _ (typeLookup (.ref C) _) _ _ _
  refine i1.at ?_
  refine wpAny_holding (wpAny_bind (b1.at ?_))
  refine wpAny_bind (wpAny_call (codeAny_mono hq fun r s' z => ?_))
  rcases r with e | (v | _ | _ | _) <;> first | exact z | exact z.elim | skip
  obtain ⟨rfl, z⟩ := z
  first
    | exact wpAny_pure (wpAny_pure z)
    | (wp_walk; exact z)
theorem check_typeK {rest : List Value} {kw : List (Str × Value)} {Q : Unit → Shared → Prop} (hC : h.get? C = some (excClassObj nm q C N bs bm hdct sn sub ab col dd k0 k1 k2 k3 k5 newId))
    (hq : Q () ⟨h, g, d, t, os⟩) : wpAny M A (checkBuiltinCall "type.__call__" ⟨.ref C :: rest, kw⟩) Q E ⟨h, g, d, t, os⟩ := by
  have f3 := tc_sub
  have hT : (⟨h, g, d, t, os⟩ : Shared).TypeIs (.ref C) "type" := ⟨_, hC, rfl⟩
  simp only [checkBuiltinCall, tc_kind, tc_split]
  repeat (any_goals (first | assumption | with_reducible refine wpAny_loadPart_at hC ?_ | with_reducible refine wpAny_onRaise ?_ | with_reducible refine wpAny_map ?_ | wp_step))
theorem call_K (F : ExcBaseFacts Bn newId initN bmN) (m : NewM C bm Bn) {rest : List Value} {kw : List (Str × Value)} {fI : Addr}
    (hC : h.get? C = some (excClassObj nm q C N bs bm hdct sn sub ab col dd k0 k1 k2 k3 k5 newId))
    (hi : W.Looks (model prog w) h (typeLookup (.ref C) "__init__") (some (.ref fI))) (hb : ∀ self, W.Looks (model prog w) h (bindSpecial (.ref fI) self) (.ref fI, [self])) (hrest : rest.length ≤ sizeLine)
    (hq : codeAny (model prog w) (A.under (.builtin "type.__call__" ⟨.ref C :: rest, kw⟩)) (.call (.ref fI) ⟨.ref (h.objs.size + 1) :: rest, kw⟩) (W.InitBack (h.objs.size + 1) R)
      ⟨(h.push (W.kdv_tup rest)).push (HandSPX.excO C h.objs.size), g, d, t, os⟩) :
    codeAny (model prog w) A (.call (.ref C) ⟨rest, kw⟩) R ⟨h, g, d, t, os⟩ := by
  have f1 := tc_lookup
  have f2 := tc_bind (.ref C)
  have hTy : (⟨h, g, d, t, os⟩ : Shared).TypeIs (.ref C) "type" := ⟨_, hC, rfl⟩
  refine codeAny_of_tree ?_
  show wpAny _ _ (callAny (.ref C) _) _ _ _
  repeat (any_goals (first | assumption | with_reducible refine wpAny_loadPart_at hC ?_ | wp_step))
  refine ⟨rfl, ?_⟩
  refine codeAny_call_builtin_at (Code.quiet_builtin _ (by decide +kernel)) entry_typeCall (check_typeK hC (type_callK F m hC hi hb hrest ?_))
  refine codeAny_mono hq fun r s' z => ?_
  rcases r with e | (v | _ | _ | _) <;> exact z
end
end ExM

namespace ExM
open PySem PySem.W PySem.Calls PyProof.Rows
section
variable {prog : Program} {w : World} {A : Around} {E : Value → Shared → Prop} {s : Shared}
variable {K : Frag} {mg : Str → Option Value} {C f cc x L : Addr} {qual : Str} {scope : Scope} {bmB : List Value} {B newId initId : String}

abbrev supSt (msg : Str) (j : Nat) (p0 p1 p2 p3 p4 p5 : Pos) : Stmt := .Expr (.Call (.Attribute (.Call (.Name "super" p0) [] [] p1) "__init__" p2) [.Constant (.str msg) j p3] [] p4) p5
abbrev putSt (fld : Str) (q1 q2 q3 q4 : Pos) : Stmt := .Assign [.Attribute (.Name "self" q1) fld q2] (.Name fld q3) q4
/-- what is computed of the scope -/
structure Sc (scope : Scope) (params : Arguments) (flds : List Str) : Prop where
  self : scope.names.lookup ("self" : Str) = some .local
  fl : ∀ y ∈ flds, scope.names.lookup y = some .local
  nc : ∀ y ∈ scope.names, y.2 ≠ .cell
  co : scope.isCoroutine = false
  gen : scope.isGenerator = false
  hd : ∃ ar, (params.posonlyargs ++ params.args).head? = some ar ∧ ar.arg = "self"
  nd : ∀ y ∈ flds, y ≠ "self" ∧ (y == ("__debug__" : Str)) = false
/-- super().__init__ is evaluated so -/
def Ev (qual : Str) (scope : Scope) (f cc : Addr) (msg : Str) (j : Nat) (p0 p1 p2 p3 p4 : Pos) : Prop := ∀ (L : Addr) (cd : Value), interactive (ksEnv qual scope L f cd cc) = false ∧ ∃ pl : Sem Bool,
  eval (.Call (.Attribute (.Call (.Name "super" p0) [] [] p1) "__init__" p2) [.Constant (.str msg) j p3] [] p4) (ksEnv qual scope L f cd cc) = (do
      let ov ← attributeBase (.Call (.Name "super" p0) [] [] p1) "__init__" (ksEnv qual scope L f cd cc) (eval (.Call (.Name "super" p0) [] [] p1) (ksEnv qual scope L f cd cc))
      standAt p2.atName
      let (fx, first) ← holding [ov] (getMethod ov "__init__" pl)
      callWith p4 fx first (backTo p4 (starEach [.Constant (.str msg) j p3] (ksEnv qual scope L f cd cc))) [])

theorem ld_local {M : Model} {cd : Value} {m : Str → Option Value} {y : Str} {pos : Pos} {v : Value} {Q : Value → Shared → Prop} (hn : s.heap.Ns L m) (hv : m y = some v) (hk : scope.kind = .function) (hl : scope.names.lookup y = some .local) (hd : (y == ("__debug__" : Str)) = false) (h : Q v s) :
    wpAny M A (eval (.Name y pos) (ksEnv qual scope L f cd cc)) Q E s := wpAny_Name (wpAny_loadName_local hk hl hn hv h) hd

variable {params : Arguments} {msg fld : Str} {j : Nat} {p0 p1 p2 p3 p4 p5 q1 q2 q3 q4 : Pos}
/-- __init__ of one field, run on a fresh exception -/
theorem init_one (T : Ini K prog C f cc qual params [supSt msg j p0 p1 p2 p3 p4 p5, putSt fld q1 q2 q3 q4] scope bmB B newId initId) (S : Sc scope params [fld]) (V : Ev qual scope f cc msg j p0 p1 p2 p3 p4) (hno : findIn K (.ref C) fld = some none)
    {t0 : Addr} {v : Value} {args : Args} {R : Result → Shared → Prop} (X : K.In s.heap) (G : GlobAt s.heap mg) (hx : s.heap.get? x = some (excObj C t0 none .none)) (hxK : K.lookup x = none) (hroom : A.depth < recursionLimit)
    (hb : ∀ (kV doc pm : Value) (an : Option Addr) (cdv ct : Value), BindsTo s (ksFn "__init__" qual params [supSt msg j p0 p1 p2 p3 p4 p5, putSt fld q1 q2 q3 q4] scope .none kV doc pm an cdv ct cc) args [(("self" : Str), .ref x), (fld, v)])
    (hq : ∀ h' tk dx, Own s.heap h' x C dx (fun y => if y = fld then some v else none) → R (.ok (.ret .none)) { s with heap := h', toks := tk }) :
    codeAny (model prog w) A (.call (.ref f) args) R s := by
  obtain ⟨oc, od, kV, doc, pm, an, cda, ct, osl, ho, hcd, hcda⟩ := T.fn
  obtain ⟨ar, har, hself⟩ := S.hd
  have hfn := S.nd fld (by simp)
  obtain ⟨hp, g, d, t, os⟩ := s
  refine ks_codeAny_call_defAt (fd := ksFn "__init__" qual params [supSt msg j p0 p1 p2 p3 p4 p5, putSt fld q1 q2 q3 q4] scope .none kV doc pm an (.ref cda) ct cc) (body := [supSt msg j p0 p1 p2 p3 p4 p5, putSt fld q1 q2 q3 q4]) hroom (X _ _ ho) rfl G.lim (codeRec_of X hcd) rfl (hb _ _ _ _ _ _) S.nc
    (fun y hy => ?_) (fun h0 hns k0 => ?_) S.co S.gen T.sk
  · rcases List.mem_cons.mp hy with rfl | hy
    · exact S.self
    · rcases List.mem_cons.mp hy with rfl | hy
      · exact S.fl _ (by simp)
      · exact absurd hy (by simp)
  have X0 : K.In h0 := X.keeps k0
  have G0 := G.keeps k0
  have hx0 := k0 _ _ hx
  have hxL : x ≠ hp.objs.size := Nat.ne_of_lt (Heap.lt_size hx)
  have m1 : (fun y => ([(("self" : Str), Value.ref x), (fld, v)] : List (Str × Value)).reverse.lookup y) "self" = some (Value.ref x) := by
    have e : (("self" : Str) == fld) = false := by simpa using fun z => hfn.1 z.symm
    simp [List.lookup, e]
  have m2 : (fun y => ([(("self" : Str), Value.ref x), (fld, v)] : List (Str × Value)).reverse.lookup y) fld = some v := by simp [List.lookup]
  obtain ⟨hin, pl, hev⟩ := V hp.objs.size (.ref cda)
  refine ks_wpAt_execs_cons ?_
  refine super_said T (g := g) (d := d) (os := os) (t := t + [(("self" : Str), Value.ref x), (fld, v)].length) ho hcda har (by rw [hself]; exact S.self) X0 G0 hns (by rw [hself]; exact m1) hx0 hxL hxK (fun h1 tk1 t1 k1 e1 => ?_) hin hev
  refine _root_.PySem.wpAt_of_wpAny ?_
  have X1 : K.In h1 := fun b o e => k1 b o (fun z => by rw [z, hxK] at e; cases e) (X0 b o e)
  have hns1 : h1.Ns hp.objs.size (fun y => ([(("self" : Str), Value.ref x), (fld, v)] : List (Str × Value)).reverse.lookup y) := by
    obtain ⟨o, es, ep, a, b⟩ := hns
    exact ⟨o, es, ep, k1 _ _ (Ne.symm hxL) a, b⟩
  refine wpAny_execs_cons (plainObj_wpAny_Assign_Attribute ?_)
  refine ld_local hns1 m2 T.sk (S.fl _ (by simp)) hfn.2 (ld_local hns1 m1 T.sk S.self (by decide) ?_)
  refine store_first T X1 e1 hno fun h2 tk2 dx k2 dn dne e2 n2 => ?_
  refine wpAny_execs_nil ?_
  have hz : hp.objs.size ≤ h1.objs.size := by
    obtain ⟨o, es, ep, a, b⟩ := hns1
    exact Nat.le_of_lt (Heap.lt_size a)
  exact hq h2 tk2 dx ⟨fun b o hb e => k2 b o hb (k1 b o hb (k0 b o e)), ⟨t1, e2⟩, Nat.le_trans hz dn, dne, n2⟩

/-- __init__ without a field -/
theorem init_none (T : Ini K prog C f cc qual params [supSt msg j p0 p1 p2 p3 p4 p5] scope bmB B newId initId) (S : Sc scope params []) (V : Ev qual scope f cc msg j p0 p1 p2 p3 p4)
    {t0 : Addr} {args : Args} {R : Result → Shared → Prop} (X : K.In s.heap) (G : GlobAt s.heap mg) (hx : s.heap.get? x = some (excObj C t0 none .none)) (hxK : K.lookup x = none) (hroom : A.depth < recursionLimit)
    (hb : ∀ (kV doc pm : Value) (an : Option Addr) (cdv ct : Value), BindsTo s (ksFn "__init__" qual params [supSt msg j p0 p1 p2 p3 p4 p5] scope .none kV doc pm an cdv ct cc) args [(("self" : Str), .ref x)])
    (hq : ∀ h' tk t1, (∀ b o, b ≠ x → s.heap.get? b = some o → h'.get? b = some o) → h'.get? x = some (excObj C t1 none .none) → R (.ok (.ret .none)) { s with heap := h', toks := tk }) :
    codeAny (model prog w) A (.call (.ref f) args) R s := by
  obtain ⟨oc, od, kV, doc, pm, an, cda, ct, osl, ho, hcd, hcda⟩ := T.fn
  obtain ⟨ar, har, hself⟩ := S.hd
  obtain ⟨hp, g, d, t, os⟩ := s
  refine ks_codeAny_call_defAt (fd := ksFn "__init__" qual params [supSt msg j p0 p1 p2 p3 p4 p5] scope .none kV doc pm an (.ref cda) ct cc) (body := [supSt msg j p0 p1 p2 p3 p4 p5]) hroom (X _ _ ho) rfl G.lim (codeRec_of X hcd) rfl (hb _ _ _ _ _ _) S.nc
    (fun y hy => ?_) (fun h0 hns k0 => ?_) S.co S.gen T.sk
  · rcases List.mem_cons.mp hy with rfl | hy
    · exact S.self
    · exact absurd hy (by simp)
  have hx0 := k0 _ _ hx
  have hxL : x ≠ hp.objs.size := Nat.ne_of_lt (Heap.lt_size hx)
  have m1 : (fun y => ([(("self" : Str), Value.ref x)] : List (Str × Value)).reverse.lookup y) "self" = some (Value.ref x) := by simp [List.lookup]
  obtain ⟨hin, pl, hev⟩ := V hp.objs.size (.ref cda)
  refine ks_wpAt_execs_cons ?_
  refine super_said T (g := g) (d := d) (os := os) (t := t + [(("self" : Str), Value.ref x)].length) ho hcda har (by rw [hself]; exact S.self) (X.keeps k0) (G.keeps k0) hns (by rw [hself]; exact m1) hx0 hxL hxK (fun h1 tk1 t1 k1 e1 => ?_) hin hev
  refine _root_.PySem.wpAt_of_wpAny (wpAny_execs_nil ?_)
  exact hq h1 tk1 t1 (fun b o hb e => k1 b o hb (k0 b o e)) e1
variable {fld2 : Str} {r1 r2 r3 r4 : Pos}
/-- __init__ of two fields -/
theorem init_two (T : Ini K prog C f cc qual params [supSt msg j p0 p1 p2 p3 p4 p5, putSt fld q1 q2 q3 q4, putSt fld2 r1 r2 r3 r4] scope bmB B newId initId) (S : Sc scope params [fld, fld2]) (V : Ev qual scope f cc msg j p0 p1 p2 p3 p4) (hno : findIn K (.ref C) fld = some none)
    (hno2 : findIn K (.ref C) fld2 = some none) (hff : fld ≠ fld2)
    {t0 : Addr} {v v2 : Value} {args : Args} {R : Result → Shared → Prop} (X : K.In s.heap) (G : GlobAt s.heap mg) (hx : s.heap.get? x = some (excObj C t0 none .none)) (hxK : K.lookup x = none) (hroom : A.depth < recursionLimit)
    (hb : ∀ (kV doc pm : Value) (an : Option Addr) (cdv ct : Value), BindsTo s (ksFn "__init__" qual params [supSt msg j p0 p1 p2 p3 p4 p5, putSt fld q1 q2 q3 q4, putSt fld2 r1 r2 r3 r4] scope .none kV doc pm an cdv ct cc) args [(("self" : Str), .ref x), (fld, v), (fld2, v2)])
    (hq : ∀ h' tk dx, Own s.heap h' x C dx (fun y => if y = fld2 then some v2 else if y = fld then some v else none) → R (.ok (.ret .none)) { s with heap := h', toks := tk }) :
    codeAny (model prog w) A (.call (.ref f) args) R s := by
  obtain ⟨oc, od, kV, doc, pm, an, cda, ct, osl, ho, hcd, hcda⟩ := T.fn
  obtain ⟨ar, har, hself⟩ := S.hd
  have hf1 := S.nd fld (by simp)
  have hf2 := S.nd fld2 (by simp)
  obtain ⟨hp, g, d, t, os⟩ := s
  refine ks_codeAny_call_defAt (fd := ksFn "__init__" qual params [supSt msg j p0 p1 p2 p3 p4 p5, putSt fld q1 q2 q3 q4, putSt fld2 r1 r2 r3 r4] scope .none kV doc pm an (.ref cda) ct cc)
    (body := [supSt msg j p0 p1 p2 p3 p4 p5, putSt fld q1 q2 q3 q4, putSt fld2 r1 r2 r3 r4]) hroom (X _ _ ho) rfl G.lim (codeRec_of X hcd) rfl (hb _ _ _ _ _ _) S.nc
    (fun y hy => ?_) (fun h0 hns k0 => ?_) S.co S.gen T.sk
  · rcases List.mem_cons.mp hy with rfl | hy
    · exact S.self
    · rcases List.mem_cons.mp hy with rfl | hy
      · exact S.fl _ (by simp)
      · rcases List.mem_cons.mp hy with rfl | hy
        · exact S.fl _ (by simp)
        · exact absurd hy (by simp)
  have X0 : K.In h0 := X.keeps k0
  have hx0 := k0 _ _ hx
  have hxL : x ≠ hp.objs.size := Nat.ne_of_lt (Heap.lt_size hx)
  have e1' : (("self" : Str) == fld) = false := by simpa using fun z => hf1.1 z.symm
  have e2' : (("self" : Str) == fld2) = false := by simpa using fun z => hf2.1 z.symm
  have e3' : (fld == fld2) = false := by simpa using hff
  have m1 : (fun y => ([(("self" : Str), Value.ref x), (fld, v), (fld2, v2)] : List (Str × Value)).reverse.lookup y) "self" = some (Value.ref x) := by simp [List.lookup, e1', e2']
  have m2 : (fun y => ([(("self" : Str), Value.ref x), (fld, v), (fld2, v2)] : List (Str × Value)).reverse.lookup y) fld = some v := by simp [List.lookup, e3']
  have m3 : (fun y => ([(("self" : Str), Value.ref x), (fld, v), (fld2, v2)] : List (Str × Value)).reverse.lookup y) fld2 = some v2 := by simp [List.lookup]
  obtain ⟨hin, pl, hev⟩ := V hp.objs.size (.ref cda)
  refine ks_wpAt_execs_cons ?_
  refine super_said T (g := g) (d := d) (os := os) (t := t + [(("self" : Str), Value.ref x), (fld, v), (fld2, v2)].length) ho hcda har (by rw [hself]; exact S.self) X0 (G.keeps k0) hns (by rw [hself]; exact m1) hx0 hxL hxK (fun h1 tk1 t1 k1 e1 => ?_) hin hev
  refine _root_.PySem.wpAt_of_wpAny ?_
  have X1 : K.In h1 := fun b o e => k1 b o (fun z => by rw [z, hxK] at e; cases e) (X0 b o e)
  have hns1 : h1.Ns hp.objs.size (fun y => ([(("self" : Str), Value.ref x), (fld, v), (fld2, v2)] : List (Str × Value)).reverse.lookup y) := by
    obtain ⟨o, es, ep, a, b⟩ := hns
    exact ⟨o, es, ep, k1 _ _ (Ne.symm hxL) a, b⟩
  refine wpAny_execs_cons (plainObj_wpAny_Assign_Attribute ?_)
  refine ld_local hns1 m2 T.sk (S.fl _ (by simp)) hf1.2 (ld_local hns1 m1 T.sk S.self (by decide) ?_)
  refine store_first T X1 e1 hno fun h2 tk2 dx k2 dn dne e2 n2 => ?_
  have X2 : K.In h2 := fun b o e => k2 b o (fun z => by rw [z, hxK] at e; cases e) (X1 b o e)
  have hz : hp.objs.size < h1.objs.size := by
    obtain ⟨o, es, ep, a, b⟩ := hns1
    exact Heap.lt_size a
  have hns2 : h2.Ns hp.objs.size (fun y => ([(("self" : Str), Value.ref x), (fld, v), (fld2, v2)] : List (Str × Value)).reverse.lookup y) := by
    obtain ⟨o, es, ep, a, b⟩ := hns1
    exact ⟨o, es, ep, k2 _ _ (Ne.symm hxL) a, b⟩
  refine wpAny_execs_cons (plainObj_wpAny_Assign_Attribute ?_)
  refine ld_local hns2 m3 T.sk (S.fl _ (by simp)) hf2.2 (ld_local hns2 m1 T.sk S.self (by decide) ?_)
  have hw : Within (fun y => if y = fld then some v else none) [fld] := Within.cons fld v Within.nil
  refine store_more T X2 e2 n2 hw (show 1 ≤ 1000 by decide) hno2 fun h3 tk3 k3 n3 => ?_
  refine wpAny_execs_nil ?_
  have nd : ∀ {b : Addr} {o : Obj}, h1.get? b = some o → b ≠ dx := fun {b o} e => Nat.ne_of_lt (Nat.lt_of_lt_of_le (Heap.lt_size e) dn)
  exact hq h3 tk3 dx ⟨fun b o hb e => k3 b o (nd (k1 b o hb (k0 b o e))) (k2 b o hb (k1 b o hb (k0 b o e))), ⟨t1, k3 _ _ (Ne.symm dne) e2⟩, Nat.le_trans (Nat.le_of_lt hz) dn, dne, n3⟩

/-- a made exception: all that stood stands -/
structure Made (h h' : Heap) (e C : Addr) (d : Option Addr) (m : Str → Option Value) : Prop where
  keep : ∀ b o, h.get? b = some o → h'.get? b = some o
  new : h.objs.size ≤ e
  obj : ∃ t1, h'.get? e = some (excObj C t1 d .none)
  dict : ∀ dx, d = some dx → h.objs.size ≤ dx ∧ dx ≠ e ∧ h'.Ns1 dx m
theorem call_made {us : List Value} {kw : List (Str × Value)} {body : List Stmt} (T : Ini K prog C f cc qual params body scope bmB B newId initId) (X : K.In s.heap) (hz : us.length ≤ sizeLine) {R : Result → Shared → Prop} {dopt : Option Addr → Prop} {m : Str → Option Value}
    (hrun : ∀ (h0 : Heap), (∀ b o, s.heap.get? b = some o → h0.get? b = some o) → h0.objs.size = s.heap.objs.size + 2 → K.lookup (s.heap.objs.size + 1) = none → h0.get? (s.heap.objs.size + 1) = some (excObj C s.heap.objs.size none .none) →
      ∀ R' : Result → Shared → Prop, (∀ h' tk d, dopt d → (∀ b o, b ≠ s.heap.objs.size + 1 → h0.get? b = some o → h'.get? b = some o) → (∃ t1, h'.get? (s.heap.objs.size + 1) = some (excObj C t1 d .none)) →
          (∀ dx, d = some dx → h0.objs.size ≤ dx ∧ dx ≠ s.heap.objs.size + 1 ∧ h'.Ns1 dx m) → R' (.ok (.ret .none)) { s with heap := h', toks := tk }) →
        codeAny (model prog w) (A.under (.builtin "type.__call__" ⟨.ref C :: us, kw⟩)) (.call (.ref f) ⟨.ref (s.heap.objs.size + 1) :: us, kw⟩) R' { s with heap := h0 })
    (hq : ∀ h' tk e d, dopt d → Made s.heap h' e C d m → R (.ok (.ret (.ref e))) { s with heap := h', toks := tk }) :
    codeAny (model prog w) A (.call (.ref C) ⟨us, kw⟩) R s := by
  obtain ⟨nm, q, N, bs, bm, sn, sub, ab, col, dd, k0, k1, k2, k3, k5, hC, hbm⟩ := T.cls
  obtain ⟨Bn, initN, bmN, FB, c1, c2, c3⟩ := T.new
  have M : NewM C bm Bn := ⟨by rw [List.contains_cons, excTail_contains Bn bm hbm, c1, Bool.or_true], by rw [List.contains_cons, excTail_contains "AttributeError" bm hbm, c2]; rfl, by rw [List.contains_cons, excTail_contains "NameError" bm hbm, c3]; rfl⟩
  obtain ⟨hp, g, dr, tk, os⟩ := s
  have k : ∀ b o, hp.get? b = some o → ((hp.push (kdv_tup us)).push (HandSPX.excO C hp.objs.size)).get? b = some o := fun b o e => Heap.get?_push_of_some _ (Heap.get?_push_of_some _ e)
  have hget : ((hp.push (kdv_tup us)).push (HandSPX.excO C hp.objs.size)).get? (hp.objs.size + 1) = some (HandSPX.excO C hp.objs.size) := by heap_get
  have hnx : K.lookup (hp.objs.size + 1) = none := by
    cases e : K.lookup (hp.objs.size + 1) with
    | none => rfl
    | some o => exact absurd (Nat.lt_of_succ_lt (Heap.lt_size (X _ _ e))) (Nat.lt_irrefl _)
  have hsz : ((hp.push (kdv_tup us)).push (HandSPX.excO C hp.objs.size)).objs.size = hp.objs.size + 2 := by rw [Heap.size_push, Heap.size_push]
  refine call_K FB M (X _ _ hC) (looks_findIn X T.iC) (fun self => bind_fn X self T.tF) hz ?_
  refine hrun _ k hsz hnx hget _ fun h' tk' d hd k' hx' hdict => ?_
  refine ⟨rfl, hq h' tk' (hp.objs.size + 1) d hd ⟨fun b o e => k' b o (Nat.ne_of_lt (Nat.lt_succ_of_lt (Heap.lt_size e))) (k b o e), Nat.le_succ _, hx', fun dx e => ?_⟩⟩
  obtain ⟨a, b, c⟩ := hdict dx e
  rw [hsz] at a
  exact ⟨Nat.le_trans (Nat.le_add_right _ 2) a, b, c⟩
/-- how the arguments are given: by place, or by the fields' names -/
inductive ArgOk : List Str → Args → List Value → Prop
  | pos {flds : List Str} {us : List Value} (h : us.length = flds.length) : ArgOk flds ⟨us, []⟩ us
  | kw1 {f : Str} {v : Value} : ArgOk [f] ⟨[], [(f, v)]⟩ [v]
  | kw2 {f f2 : Str} {v v2 : Value} : ArgOk [f, f2] ⟨[], [(f2, v2), (f, v)]⟩ [v, v2]
theorem ArgOk.pz {flds : List Str} {a : Args} {us : List Value} (h : ArgOk flds a us) (hf : flds.length ≤ 2) : a.pos.length ≤ sizeLine := by
  rw [sizeLine_eq]
  cases h with
  | pos h => show us.length ≤ _; omega
  | kw1 => exact Nat.zero_le _
  | kw2 => exact Nat.zero_le _
theorem ArgOk.len {flds : List Str} {a : Args} {us : List Value} (h : ArgOk flds a us) : us.length = flds.length := by
  cases h with
  | pos h => exact h
  | kw1 => rfl
  | kw2 => rfl
theorem made_one (T : Ini K prog C f cc qual params [supSt msg j p0 p1 p2 p3 p4 p5, putSt fld q1 q2 q3 q4] scope bmB B newId initId) (S : Sc scope params [fld]) (V : Ev qual scope f cc msg j p0 p1 p2 p3 p4) (hno : findIn K (.ref C) fld = some none)
    {a : Args} {v : Value} {R : Result → Shared → Prop} (ha : ArgOk [fld] a [v]) (X : K.In s.heap) (G : GlobAt s.heap mg) (hroom : A.depth + 1 < recursionLimit)
    (hb : ∀ (s' : Shared) (x : Addr) (kV doc pm : Value) (an : Option Addr) (cdv ct : Value), BindsTo s' (ksFn "__init__" qual params [supSt msg j p0 p1 p2 p3 p4 p5, putSt fld q1 q2 q3 q4] scope .none kV doc pm an cdv ct cc) ⟨.ref x :: a.pos, a.kw⟩ [(("self" : Str), .ref x), (fld, v)])
    (hq : ∀ h' tk e d, Made s.heap h' e C (some d) (fun y => if y = fld then some v else none) → R (.ok (.ret (.ref e))) { s with heap := h', toks := tk }) :
    codeAny (model prog w) A (.call (.ref C) a) R s := by
  refine call_made (us := a.pos) (kw := a.kw) (dopt := fun d => ∃ dx, d = some dx) (m := fun y => if y = fld then some v else none) T X (ha.pz (show 1 ≤ 2 by decide)) (fun h0 k0 hsz hnx hx R' hR => ?_) (fun h' tk e d ⟨dx, hd⟩ M => by subst hd; exact hq h' tk e dx M)
  refine init_one T S V hno (s := { s with heap := h0 }) (X.keeps k0) (G.keeps k0) hx hnx ?_ (fun _ _ _ _ _ _ => hb _ _ _ _ _ _ _ _) fun h' tk dx O => ?_
  · show A.depth + 1 < recursionLimit
    exact hroom
  · exact hR h' tk (some dx) ⟨dx, rfl⟩ O.keep O.obj fun dy e => by cases e; exact ⟨O.dbig, O.dne, O.ns⟩
theorem made_two (T : Ini K prog C f cc qual params [supSt msg j p0 p1 p2 p3 p4 p5, putSt fld q1 q2 q3 q4, putSt fld2 r1 r2 r3 r4] scope bmB B newId initId) (S : Sc scope params [fld, fld2]) (V : Ev qual scope f cc msg j p0 p1 p2 p3 p4) (hno : findIn K (.ref C) fld = some none)
    (hno2 : findIn K (.ref C) fld2 = some none) (hff : fld ≠ fld2) {a : Args} {v v2 : Value} {R : Result → Shared → Prop} (ha : ArgOk [fld, fld2] a [v, v2]) (X : K.In s.heap) (G : GlobAt s.heap mg) (hroom : A.depth + 1 < recursionLimit)
    (hb : ∀ (s' : Shared) (x : Addr) (kV doc pm : Value) (an : Option Addr) (cdv ct : Value), BindsTo s' (ksFn "__init__" qual params [supSt msg j p0 p1 p2 p3 p4 p5, putSt fld q1 q2 q3 q4, putSt fld2 r1 r2 r3 r4] scope .none kV doc pm an cdv ct cc) ⟨.ref x :: a.pos, a.kw⟩ [(("self" : Str), .ref x), (fld, v), (fld2, v2)])
    (hq : ∀ h' tk e d, Made s.heap h' e C (some d) (fun y => if y = fld2 then some v2 else if y = fld then some v else none) → R (.ok (.ret (.ref e))) { s with heap := h', toks := tk }) :
    codeAny (model prog w) A (.call (.ref C) a) R s := by
  refine call_made (us := a.pos) (kw := a.kw) (dopt := fun d => ∃ dx, d = some dx) (m := fun y => if y = fld2 then some v2 else if y = fld then some v else none) T X (ha.pz (show 2 ≤ 2 by decide)) (fun h0 k0 hsz hnx hx R' hR => ?_) (fun h' tk e d ⟨dx, hd⟩ M => by subst hd; exact hq h' tk e dx M)
  refine init_two T S V hno hno2 hff (s := { s with heap := h0 }) (X.keeps k0) (G.keeps k0) hx hnx ?_ (fun _ _ _ _ _ _ => hb _ _ _ _ _ _ _ _) fun h' tk dx O => ?_
  · show A.depth + 1 < recursionLimit
    exact hroom
  · exact hR h' tk (some dx) ⟨dx, rfl⟩ O.keep O.obj fun dy e => by cases e; exact ⟨O.dbig, O.dne, O.ns⟩
theorem made_none (T : Ini K prog C f cc qual params [supSt msg j p0 p1 p2 p3 p4 p5] scope bmB B newId initId) (S : Sc scope params []) (V : Ev qual scope f cc msg j p0 p1 p2 p3 p4)
    {a : Args} {R : Result → Shared → Prop} (ha : ArgOk [] a []) (X : K.In s.heap) (G : GlobAt s.heap mg) (hroom : A.depth + 1 < recursionLimit)
    (hb : ∀ (s' : Shared) (x : Addr) (kV doc pm : Value) (an : Option Addr) (cdv ct : Value), BindsTo s' (ksFn "__init__" qual params [supSt msg j p0 p1 p2 p3 p4 p5] scope .none kV doc pm an cdv ct cc) ⟨.ref x :: a.pos, a.kw⟩ [(("self" : Str), .ref x)])
    (hq : ∀ h' tk e, Made s.heap h' e C none (fun _ => none) → R (.ok (.ret (.ref e))) { s with heap := h', toks := tk }) :
    codeAny (model prog w) A (.call (.ref C) a) R s := by
  refine call_made (us := a.pos) (kw := a.kw) (dopt := fun d => d = none) (m := fun _ => none) T X (ha.pz (by decide)) (fun h0 k0 hsz hnx hx R' hR => ?_) (fun h' tk e d hd M => by subst hd; exact hq h' tk e M)
  refine init_none T S V (s := { s with heap := h0 }) (X.keeps k0) (G.keeps k0) hx hnx ?_ (fun _ _ _ _ _ _ => hb _ _ _ _ _ _ _ _) fun h' tk t1 kk e1 => ?_
  · show A.depth + 1 < recursionLimit
    exact hroom
  · exact hR h' tk none rfl kk ⟨t1, e1⟩ fun dy e => by cases e
end
end ExM

/-! Own exceptions as values: made, raised, caught by a clause over a tuple of classes, kept, asked. -/
namespace L2
open PySem PySem.Spec PyProof.Rows ExM

/-- at e: an exception of the class cls, its own dict d -/
def exv (e : Addr) (cls : Value) (d : Option Addr) : HO := .ext fun h => ∃ (oe : Obj) (vs : Array Value), h.get? e = some oe ∧ Zc cls d oe ∧ oe.data = .fields vs
theorem exv_ok {P : Program} {w : World} {H : Hp} {h : Heap} {e : Addr} {cls : Value} {d : Option Addr} {oe : Obj} {vs : Array Value} (he : h.get? e = some oe) (hz : Zc cls d oe) (hd : oe.data = .fields vs) : ObjOk P w H h e (exv e cls d) :=
  ⟨⟨oe, vs, he, hz, hd⟩, ⟨oe, he⟩, fun _ _ ⟨o, v, q, r⟩ k => ⟨o, v, k o q, r⟩⟩
theorem exv_at {P : Program} {w : World} {H : Hp} {h : Heap} {e : Addr} {cls : Value} {d : Option Addr} (hok : HOk P w H h) (he : H e = some (exv e cls d)) : ∃ (oe : Obj) (vs : Array Value), h.get? e = some oe ∧ Zc cls d oe ∧ oe.data = .fields vs := by
  have x : ObjOk P w H h e (.ext fun h => ∃ (oe : Obj) (vs : Array Value), h.get? e = some oe ∧ Zc cls d oe ∧ oe.data = .fields vs) := hok e _ he
  exact x.1

/-- calling the class at C with as many values as fields makes an exception that holds them (the last field first) -/
structure Mks (prog : Program) (K : PySem.W.Frag) (mg : Str → Option Value) (C : Addr) (flds : List Str) : Prop where
  call : ∀ (w : World) (A : Around) (s : Shared) (a : Args) (us : List Value) (R : Result → Shared → Prop), ArgOk flds a us → K.In s.heap → GlobAt s.heap mg → A.depth + 1 < recursionLimit →
    (∀ h' tk e d m, Made s.heap h' e C d m → (flds = [] ↔ d = none) → (∀ f, m f = (flds.zip us).reverse.lookup f) → R (.ok (.ret (.ref e))) { s with heap := h', toks := tk }) → codeAny (model prog w) A (.call (.ref C) a) R s
  kC : PySem.W.keepIn K (.ref C) = true
  exC : PySem.W.subIn K (.ref C) (.type "BaseException") = some true
  tyC : PySem.W.typeIn K (.ref C) = some (.type "type")

abbrev PV : Str × V → Str × Value → Prop := fun p q => p.1 = q.1 ∧ RelV p.2 q.2
theorem relO_look : ∀ {ps : List (Str × V)} {qs : List (Str × Value)}, Paired PV ps qs → ∀ f, RelO (ps.lookup f) (qs.lookup f)
  | _, _, .nil, _ => True.intro
  | _, _, .cons (a := p) (b := q) r t, f => by
    obtain ⟨g, v⟩ := p
    obtain ⟨g', u⟩ := q
    obtain ⟨e, r⟩ := r
    dsimp only at e r
    subst e
    by_cases h : f = g
    · subst h
      simp only [List.lookup, beq_self_eq_true]
      exact r
    · have e : (f == g) = false := by simpa using h
      simpa [List.lookup, e] using relO_look t f
theorem pv_zip : ∀ {fs : List Str} {vs : List V} {us : List Value}, Vals vs us → Paired PV (fs.zip vs) (fs.zip us)
  | [], _, _, _ => by simpa using Paired.nil
  | _ :: _, _, _, .nil => by simpa using Paired.nil
  | _ :: _, _, _, .cons r t => .cons ⟨rfl, r⟩ (pv_zip t)
theorem paired_app {α β : Type} {F : α → β → Prop} : ∀ {a : List α} {b : List β} {c : List α} {d : List β}, Paired F a b → Paired F c d → Paired F (a ++ c) (b ++ d)
  | _, _, _, _, .nil, s => s
  | _, _, _, _, .cons r t, s => .cons r (paired_app t s)
theorem paired_rev {α β : Type} {F : α → β → Prop} : ∀ {a : List α} {b : List β}, Paired F a b → Paired F a.reverse b.reverse
  | _, _, .nil => .nil
  | _, _, .cons r t => by
    rw [List.reverse_cons, List.reverse_cons]
    exact paired_app (paired_rev t) (.cons r .nil)
theorem relO_rev {fs : List Str} {vs : List V} {us : List Value} (r : Vals vs us) (hl : vs.length = fs.length) (f : Str) : RelO ((fs.zip vs).reverse.lookup f) ((fs.zip us).reverse.lookup f) := relO_look (paired_rev (pv_zip r)) f

section
variable {X : Cx} {pins : List (Addr × Obj)} {σ : St} {H : Hp} {s : Shared}
theorem Inv.globAt (I : Inv X pins σ H s) (hs : X.mg "super" = none) : GlobAt s.heap X.mg := by
  obtain ⟨mb, h1, h2⟩ := I.mod.blt
  exact ⟨I.mod.glob.keeps I.bk, ⟨mb, h1.keeps I.bk, (h2 "super" (by decide)).trans (by decide +kernel)⟩, hs, I.nolimit⟩
end

section
variable {X : Cx} {C : Addr} {x : Str} {flds : List Str} {es : List Expr} {e : Expr} {ta : TA} {p pos : Pos} {k : Nat}
/-- C(e, ..) for a raise: its dict alone is told -/
def tMks (C : Addr) (flds : List Str) (ta : TA) : St → Hp → XK → Prop := fun σ H Q => ta σ H fun vs H1 => vs.length = flds.length ∧ ∀ d, H1 d = none → Q (.ref C) (some d) (upd H1 d (.xd (flds.zip vs).reverse))
theorem pmk_mks (T : Mks X.prog X.K X.mg C flds) (hs : X.mg "super" = none) (hr : Room k X.A) (hne : flds ≠ []) (ha : PA X (e :: es) ta) (hg : Gl X x) (hm : X.mg x = some (.ref C)) (hdb : (x == ("__debug__" : Str)) = false := by decide)
    (he : starEach (e :: es) X.env = (false, eval e X.env) :: starEach es X.env := by rfl) (hpl : (backTo pos (starEach es X.env)).any (·.1) = false := by rfl) :
    PMk X (.Call (.Name x p) (e :: es) [] pos) (tMks C flds ta) := by
  intro pins s σ H Q I h
  refine wpAny_Call_Name_kw (ld_glob I hg hm ?_ hdb)
  refine PySem.W.callWith_K (h₀ := X.base) I.ok.mod.kin T.kC (thn (ha.run pos pins s σ H _ I h) fun us s1 ⟨vs, H1, I1, r1, hl, q1⟩ => ⟨I1.kIn, ?_⟩) he hpl
  show wpAny _ _ (call (.ref C) us) _ _ _
  have hlu : us.length = flds.length := r1.length.symm.trans hl
  refine wpAny_call (T.call _ _ _ _ us _ (.pos hlu) I1.kIn (I1.globAt hs) (by have := hr.dp; omega) fun h' tk' e d m M hd hmm => ?_)
  show MkP X pins σ Q (.ref e) _
  obtain ⟨d, rfl⟩ : ∃ dd, d = some dd := by
    cases d with
    | none => exact absurd (hd.mpr rfl) hne
    | some dd => exact ⟨dd, rfl⟩
  obtain ⟨t1, hoe⟩ := M.obj
  obtain ⟨db, dne, hns⟩ := M.dict d rfl
  obtain ⟨hp, g, dr, tk, os⟩ := s1
  obtain ⟨G, g1, g2⟩ := restrict h' fun b => decide (b ≠ e)
  have gk : ∀ b, b ≠ e → G.get? b = h'.get? b := fun b hb => g1 b (decide_eq_true hb)
  have ge : G.get? e = none := g2 e (by simp)
  have old : ∀ b o, hp.get? b = some o → G.get? b = some o := fun b o q => (gk b (Nat.ne_of_lt (Nat.lt_of_lt_of_le (Heap.lt_size q) M.new))).trans (M.keep b o q)
  have ob : ObjOk X.prog X.w (upd H1 d (.xd (flds.zip vs).reverse)) G d (.xd (flds.zip vs).reverse) :=
    ⟨_, hns.at (fun o q => (gk d dne).trans q), fun f => by rw [hmm f]; exact relO_rev r1 hl f⟩
  have J : Inv X pins σ (upd H1 d (.xd (flds.zip vs).reverse)) ⟨G, g, dr, tk', os⟩ := I1.laid (t' := tk') old db ob
  refine ⟨e, _, _, ⟨G, g, dr, tk', os⟩, _, .ref C, some d, rfl, J, fun b o q => ?_, ge, hoe, ⟨rfl, rfl⟩, rfl, rfl, ?_, rfl, I1.bare, raises_own T.exC T.tyC, q1 d (I1.hok.fresh db)⟩
  · by_cases hb : b = e
    · rw [hb, ge] at q
      cases q
    · exact (gk b hb).symm.trans q
  · rw [upd_ne (Ne.symm dne)]
    exact I1.hok.fresh M.new
/-- C() for a raise -/
theorem pmk_mks0 (T : Mks X.prog X.K X.mg C []) (hs : X.mg "super" = none) (hr : Room k X.A) (hg : Gl X x) (hm : X.mg x = some (.ref C)) (hdb : (x == ("__debug__" : Str)) = false := by decide) :
    PMk X (.Call (.Name x p) [] [] pos) (fun σ H Q => Q (.ref C) none H) := by
  intro pins s σ H Q I h
  refine wpAny_Call_Name_kw (ld_glob I hg hm ?_ hdb)
  refine PySem.W.callWith_K0 I.kIn T.kC ?_
  refine wpAny_call (T.call _ _ _ _ [] _ (.pos rfl) I.kIn (I.globAt hs) (by have := hr.dp; omega) fun h' tk' e d m M hd hmm => ?_)
  show MkP X pins σ Q (.ref e) _
  obtain rfl : d = none := hd.mp rfl
  obtain ⟨t1, hoe⟩ := M.obj
  have na : H e = none := I.hok.fresh M.new
  have nn : s.heap.get? e = none := by
    cases q : s.heap.get? e with
    | none => rfl
    | some o => exact absurd (Nat.lt_of_lt_of_le (Heap.lt_size q) M.new) (Nat.lt_irrefl _)
  exact ⟨e, _, _, s, _, .ref C, none, rfl, I, M.keep, nn, hoe, ⟨rfl, rfl⟩, rfl, rfl, na, rfl, I.bare, raises_own T.exC T.tyC, h⟩
/-- C(e, ..) as a value: the exception is kept -/
def tMkv (C : Addr) (flds : List Str) (ta : TA) : TE := fun σ H Q => ta σ H fun vs H1 => vs.length = flds.length ∧ ∀ e d, H1 e = none → H1 d = none → d ≠ e → Q (.ref e) (upd (upd H1 d (.xd (flds.zip vs).reverse)) e (exv e (.ref C) (some d)))
theorem pe_mkv (T : Mks X.prog X.K X.mg C flds) (hs : X.mg "super" = none) (hr : Room k X.A) (hne : flds ≠ []) (ha : PA X (e :: es) ta) (hg : Gl X x) (hm : X.mg x = some (.ref C)) (hdb : (x == ("__debug__" : Str)) = false := by decide)
    (he : starEach (e :: es) X.env = (false, eval e X.env) :: starEach es X.env := by rfl) (hpl : (backTo pos (starEach es X.env)).any (·.1) = false := by rfl) :
    PE X (.Call (.Name x p) (e :: es) [] pos) (tMkv C flds ta) := by
  refine ⟨fun pins s σ H Q I h => ?_⟩
  refine wpAny_Call_Name_kw (ld_glob I hg hm ?_ hdb)
  refine PySem.W.callWith_K (h₀ := X.base) I.ok.mod.kin T.kC (thn (ha.run pos pins s σ H _ I h) fun us s1 ⟨vs, H1, I1, r1, hl, q1⟩ => ⟨I1.kIn, ?_⟩) he hpl
  show wpAny _ _ (call (.ref C) us) _ _ _
  have hlu : us.length = flds.length := r1.length.symm.trans hl
  refine wpAny_call (T.call _ _ _ _ us _ (.pos hlu) I1.kIn (I1.globAt hs) (by have := hr.dp; omega) fun h' tk' e d m M hd hmm => ?_)
  obtain ⟨d, rfl⟩ : ∃ dd, d = some dd := by
    cases d with
    | none => exact absurd (hd.mpr rfl) hne
    | some dd => exact ⟨dd, rfl⟩
  obtain ⟨t1, hoe⟩ := M.obj
  obtain ⟨db, dne, hns⟩ := M.dict d rfl
  obtain ⟨hp, g, dr, tk, os⟩ := s1
  obtain ⟨G, g1, g2⟩ := restrict h' fun b => decide (b ≠ e)
  have gk : ∀ b, b ≠ e → G.get? b = h'.get? b := fun b hb => g1 b (decide_eq_true hb)
  have ge : G.get? e = none := g2 e (by simp)
  have gs : ∀ b o, G.get? b = some o → h'.get? b = some o := fun b o q => by
    by_cases hb : b = e
    · rw [hb, ge] at q
      cases q
    · exact (gk b hb).symm.trans q
  have old : ∀ b o, hp.get? b = some o → G.get? b = some o := fun b o q => (gk b (Nat.ne_of_lt (Nat.lt_of_lt_of_le (Heap.lt_size q) M.new))).trans (M.keep b o q)
  have ob : ObjOk X.prog X.w (upd H1 d (.xd (flds.zip vs).reverse)) G d (.xd (flds.zip vs).reverse) :=
    ⟨_, hns.at (fun o q => (gk d dne).trans q), fun f => by rw [hmm f]; exact relO_rev r1 hl f⟩
  have J : Inv X pins σ (upd H1 d (.xd (flds.zip vs).reverse)) ⟨G, g, dr, tk', os⟩ := I1.laid (t' := tk') old db ob
  have ne1 : H1 e = none := I1.hok.fresh M.new
  have ne2 : (upd H1 d (.xd (flds.zip vs).reverse)) e = none := by
    rw [upd_ne (Ne.symm dne)]
    exact ne1
  exact ⟨.ref e, _, J.laidN (t' := tk') gs ge ne2 (exv_ok hoe ⟨rfl, rfl⟩ rfl), rfl, q1 e d ne1 (I1.hok.fresh db) dne⟩
theorem pe_mkv0 (T : Mks X.prog X.K X.mg C []) (hs : X.mg "super" = none) (hr : Room k X.A) (hg : Gl X x) (hm : X.mg x = some (.ref C)) (hdb : (x == ("__debug__" : Str)) = false := by decide) :
    PE X (.Call (.Name x p) [] [] pos) (fun σ H Q => ∀ e, H e = none → Q (.ref e) (upd H e (exv e (.ref C) none))) := by
  refine ⟨fun pins s σ H Q I h => ?_⟩
  refine wpAny_Call_Name_kw (ld_glob I hg hm ?_ hdb)
  refine PySem.W.callWith_K0 I.kIn T.kC ?_
  refine wpAny_call (T.call _ _ _ _ [] _ (.pos rfl) I.kIn (I.globAt hs) (by have := hr.dp; omega) fun h' tk' e d m M hd hmm => ?_)
  obtain rfl : d = none := hd.mp rfl
  obtain ⟨t1, hoe⟩ := M.obj
  have na : H e = none := I.hok.fresh M.new
  exact ⟨.ref e, _, I.laid (t' := tk') M.keep M.new (exv_ok hoe ⟨rfl, rfl⟩ rfl), rfl, h e na⟩
/-- C(f = e) -/
def tMkvK (C : Addr) (flds : List Str) (g : List V → List V) (ta : TA) : TE := fun σ H Q => ta σ H fun vs H1 => vs.length = flds.length ∧ ∀ e d, H1 e = none → H1 d = none → d ≠ e → Q (.ref e) (upd (upd H1 d (.xd (flds.zip (g vs)).reverse)) e (exv e (.ref C) (some d)))
theorem mkv_end {pins : List (Addr × Obj)} {σ : St} {H1 : Hp} {Q : VK} {s1 : Shared} {a : Args} {us : List Value} {vs : List V} (T : Mks X.prog X.K X.mg C flds) (hs : X.mg "super" = none) (hr : Room k X.A) (hne : flds ≠ []) (I1 : Inv X pins σ H1 s1) (r1 : Vals vs us) (ha : ArgOk flds a us)
    (q1 : ∀ e d, H1 e = none → H1 d = none → d ≠ e → Q (.ref e) (upd (upd H1 d (.xd (flds.zip vs).reverse)) e (exv e (.ref C) (some d)))) :
    wpAny (model X.prog X.w) X.A (call (.ref C) a.pos a.kw) (EP X pins σ Q) X.xe s1 := by
  have hl : vs.length = flds.length := r1.length.trans ha.len
  refine wpAny_call (T.call _ _ _ _ us _ ha I1.kIn (I1.globAt hs) (by have := hr.dp; omega) fun h' tk' e d m M hd hmm => ?_)
  obtain ⟨d, rfl⟩ : ∃ dd, d = some dd := by
    cases d with
    | none => exact absurd (hd.mpr rfl) hne
    | some dd => exact ⟨dd, rfl⟩
  obtain ⟨t1, hoe⟩ := M.obj
  obtain ⟨db, dne, hns⟩ := M.dict d rfl
  obtain ⟨hp, g, dr, tk, os⟩ := s1
  obtain ⟨G, g1, g2⟩ := restrict h' fun b => decide (b ≠ e)
  have gk : ∀ b, b ≠ e → G.get? b = h'.get? b := fun b hb => g1 b (decide_eq_true hb)
  have ge : G.get? e = none := g2 e (by simp)
  have gs : ∀ b o, G.get? b = some o → h'.get? b = some o := fun b o q => by
    by_cases hb : b = e
    · rw [hb, ge] at q
      cases q
    · exact (gk b hb).symm.trans q
  have old : ∀ b o, hp.get? b = some o → G.get? b = some o := fun b o q => (gk b (Nat.ne_of_lt (Nat.lt_of_lt_of_le (Heap.lt_size q) M.new))).trans (M.keep b o q)
  have ob : ObjOk X.prog X.w (upd H1 d (.xd (flds.zip vs).reverse)) G d (.xd (flds.zip vs).reverse) :=
    ⟨_, hns.at (fun o q => (gk d dne).trans q), fun f => by rw [hmm f]; exact relO_rev r1 hl f⟩
  have J : Inv X pins σ (upd H1 d (.xd (flds.zip vs).reverse)) ⟨G, g, dr, tk', os⟩ := I1.laid (t' := tk') old db ob
  have ne1 : H1 e = none := I1.hok.fresh M.new
  have ne2 : (upd H1 d (.xd (flds.zip vs).reverse)) e = none := by
    rw [upd_ne (Ne.symm dne)]
    exact ne1
  exact ⟨.ref e, _, J.laidN (t' := tk') gs ge ne2 (exv_ok hoe ⟨rfl, rfl⟩ rfl), rfl, q1 e d ne1 (I1.hok.fresh db) dne⟩
end
end L2

namespace L2
open PySem PySem.Spec PyProof.Rows ExM
section
variable {X : Cx} {pins : List (Addr × Obj)} {σ : St} {H : Hp} {s : Shared}
/-- a pinned object that was not there at the entry is tracked from now on -/
theorem Inv.track {a : Addr} {oe : Obj} {o : HO} (I : Inv X ((a, oe) :: pins) σ H s) (n0 : X.s_0.heap.get? a = none) (hp : ∀ p ∈ X.pn ++ pins, p.1 ≠ a) (hk : ∀ v, oe.data ≠ .cell v) (new : ObjOk X.prog X.w (upd H a o) s.heap a o) : Inv X pins σ (upd H a o) s := by
  obtain ⟨ea, na, nL, nF, _⟩ := I.pin (a, oe) (List.mem_append_right _ List.mem_cons_self)
  dsimp only at ea na nL nF
  have sub : ∀ p ∈ X.pn ++ pins, p ∈ X.pn ++ (a, oe) :: pins := fun p hp => (List.mem_append.mp hp).elim (List.mem_append_left _) fun z => List.mem_append_right _ (List.mem_cons_of_mem _ z)
  have old : ∀ b u, X.s_0.heap.get? b = some u → b ≠ a := fun b u e z => by
    rw [z, n0] at e
    cases e
  refine ⟨I.ok, I.os, I.bare, ⟨I.base.keep, I.base.slot, fun b u e n hx => ?_, I.base.there, fun b xs e => ?_, fun b u v e => ?_, fun b ps e => ?_⟩, I.loc, I.cell, ?_, fun x c e => ?_, fun p h => ?_, fun b u e => ?_, I.len⟩
  · rw [upd_ne (old b u e)]
    exact I.base.free b u e n hx
  · have q := I.base.tups b xs e
    rw [upd_ne (ne_of_none q na)]
    exact q
  · have q := I.base.frzs b u v e
    rw [upd_ne (ne_of_none q na)]
    exact q
  · obtain ⟨m, q⟩ := I.base.tbls b ps e
    exact ⟨m, by rw [upd_ne (ne_of_none q na)]; exact q⟩
  · rw [upd_ne (Ne.symm nL)]
    exact I.free
  · have hc : c ≠ a := fun z => by
      obtain ⟨v, oc, hoc, hd⟩ := I.cell x c e
      rw [z, ea] at hoc
      cases hoc
      exact hk v hd
    rw [upd_ne hc]
    exact I.freeC x c e
  · obtain ⟨e, n, ne, nf, d⟩ := I.pin p (sub p h)
    exact ⟨e, by rw [upd_ne (hp p h)]; exact n, ne, nf, d⟩
  · by_cases hb : b = a
    · subst hb
      rw [upd_same] at e
      cases e
      exact new
    · rw [upd_ne hb] at e
      exact (I.hok b u e).stay (fun _ _ _ q => q) (fun c q => by rw [upd_ne (ne_of_none q na)]; exact q) fun c xs q => by rw [upd_ne (ne_of_none q na)]; exact q
end

/-- what the clause 'except (c1, .., c4) as n' wishes: behind the suite the exception is an object that is kept -/
def wAsT (K : PySem.W.Frag) (cs : List Value) (i : Nat) (ts : Addr → Value → Option Addr → TS) (Wout : WX) (D : Ends) : WX := fun cls d σ H =>
  ∃ b, PySem.W.exmAny K cls cs = some b ∧ (b = true → ∀ a, H a = none → ts a cls d { nx := fun σ' H' => D.nx (σ'.set i none) (upd H' a (exv a cls d)), rt := fun _ _ => False } (σ.set i (some (.ref a))) H) ∧
    (b = false → Wout cls d σ H)
/-- a global class, as an expression of a clause -/
inductive NamesT (X : Cx) : List Expr → List Value → Prop
  | nil : NamesT X [] []
  | cons {x : Str} {c : Addr} {np : Pos} {es : List Expr} {cs : List Value} (hg : Gl X x) (hm : X.mg x = some (.ref c)) (hd : (x == ("__debug__" : Str)) = false) (r : NamesT X es cs) : NamesT X (.Name x np :: es) (.ref c :: cs)
theorem NamesT.run {X : Cx} {pins : List (Addr × Obj)} {σ : St} {H : Hp} {s : Shared} {A : Around} {E : Value → Shared → Prop} {pos : Pos} (hk : X.env.scope.kind = .function) (hgl : s.heap.Ns X.env.globals X.mg) : ∀ {es : List Expr} {cs : List Value}, NamesT X es cs → ∀ {Q : List Value → Shared → Prop}, Q cs s →
    wpAny (model X.prog X.w) A (spliced (backTo pos (starEach es X.env))) Q E s
  | _, _, .nil, _, q => Calls.spliced_nil q
  | _, _, .cons (x := x) (c := c) (np := np) (es := es) hg hm hd r, Q, q => by
    rw [show starEach (.Name x np :: es) X.env = (false, eval (.Name x np) X.env) :: starEach es X.env from rfl]
    show wpAny _ _ (spliced ((false, eval (.Name x np) X.env) :: backTo pos (starEach es X.env))) _ _ s
    refine Calls.spliced_cons (Calls.Name_function_global hk hg (Calls.loadGlobal_global hgl hm ?_) hd)
    exact NamesT.run (pins := pins) (σ := σ) (H := H) hk hgl r q
section
variable {X : Cx} {n : Str} {i kx : Nat} {body suite : List Stmt} {b₀ : Stmt} {tpos pos pos' : Pos} {es : List Expr} {c1 c2 c3 c4 : Value} {tb : WX → TS} {ts : Addr → Value → Option Addr → TS} {Wout : WX}
theorem ps_try_asT (hs : X.stack = X.env :: X.outer) (hf : X.env.frame = some X.env.locals) (hN : X.N.Nodup) (hi : X.N[i]? = some n) (hln : X.env.kindOf n = some .local) (hc : NamesT X es [c1, c2, c3, c4]) (hex : X.ex = []) (tk : Takes X Wout)
    (hb : ∀ (W : WX) (pn : List (Addr × Obj)) (xe : Value → Shared → Prop), Takes (X.tr pn xe) W → PassesOwn (model X.prog X.w) X.A X.env xe → PSs (X.tr pn xe) body (tb W))
    (hsu : ∀ (a : Addr) (oe : Obj) (cls : Value) (d : Option Addr) (pn : List (Addr × Obj)), Zc cls d oe → (∃ vs, oe.data = .fields vs) → PSs (X.suite a ((a, oe) :: pn)) (b₀ :: suite) (ts a cls d)) :
    PS X (.Try body [.ExceptHandler (some (.Tuple es kx tpos)) (some n) (b₀ :: suite) pos'] [] [] pos) (fun D σ H => tb (wAsT X.K [c1, c2, c3, c4] i ts Wout D) D σ H) := by
  refine ⟨fun pins s σ H D I h => ?_⟩
  have ok := I.ok
  have hfr : X.A.frames = some (X.env :: X.outer) := by rw [ok.frames, hs]
  refine wpAny_Try_except (wpAny_mono ((hb (wAsT X.K [c1, c2, c3, c4] i ts Wout D) (X.pn ++ pins) (fun e s₁ => wpAny (model X.prog X.w) X.A (noteFrame e X.env) (fun _ s₂ => wpAny (model X.prog X.w) X.A (setFlight e none) (fun _ s₃ =>
    wpAny (model X.prog X.w) X.A (handleBy e X.env [.ExceptHandler (some (.Tuple es kx tpos)) (some n) (b₀ :: suite) pos']) (SP X pins D) X.xe s₃) X.xe s₂) X.xe s₁) (fun u s' xx => ?_) PassesOwn.looking).run [] s σ H D (I.toTry _) h) (fun f s1 hsp => ?_) (fun e s1 he => he))
  · obtain ⟨a, B, sI, pins', σ', H', cls, d, rfl, J', nb, up, sky, na, os, ag, b, hb1, hyes, hno⟩ := xx
    have J : Inv X pins σ' H' sI := J'.ofTry ok
    have sky' : Sky B (X.env :: X.outer) a (Zc cls d) X.env.locals s'.heap := by rw [← hs]; exact sky
    show wpAny (model X.prog X.w) X.A (noteFrame (.ref a) X.env) _ _ _
    refine Sky.land Zc.steady hfr hf sky' fun h3 fl3 up3 => ?_
    have J3 : Inv X pins σ' H' { s' with heap := h3 } := J.landed nb fl3.1 (up.trans up3) os ag
    obtain ⟨oe3, vs3, he3, hz3, hd3⟩ := fl3.there
    have nfr : a ∉ frs (X.env :: X.outer) := fun hm => by
      obtain ⟨_, o', e', hnf⟩ := fl3.2.2.1.mem hm
      rw [he3] at e'
      cases e'
      exact hnf _ hd3
    have nL : a ≠ X.env.locals := fun z => nfr (List.mem_filterMap.mpr ⟨X.env, List.mem_cons_self, by rw [hf, z]⟩)
    have nF : a ∉ X.fs := fun hm => by
      obtain ⟨e, he, q⟩ := List.mem_filterMap.mp hm
      exact nfr (List.mem_filterMap.mpr ⟨e, List.mem_cons_of_mem _ he, q⟩)
    have aB : B.get? a = none := fl3.2.1
    have aI : sI.heap.get? a = none := by
      cases q : sI.heap.get? a with
      | none => rfl
      | some o =>
        have z := nb a o q (by rw [hs]; exact nfr)
        rw [aB] at z
        cases z
    have a0 : X.s_0.heap.get? a = none := by
      cases q : X.s_0.heap.get? a with
      | none => rfl
      | some o =>
        obtain ⟨o', z⟩ := J.base.there a o q (by rw [hex]; exact fun z => nomatch z)
        rw [aI] at z
        cases z
    have apn : ∀ p ∈ X.pn ++ pins, p.1 ≠ a := fun p hp z => by
      obtain ⟨e, _⟩ := J.pin p hp
      rw [z, aI] at e
      cases e
    refine wpAny_handleBy_cons (codeAny_handlers_test ?_) (by intro q; cases q)
    have LT : ∀ {g : Heap}, g.get? a = some oe3 → PySem.W.Looks (model X.prog X.w) g (typeOf (.ref a)) cls := fun {g} e A Q E s k q => wpAny_typeOf_ref (k _ _ e) (by rw [hz3.1]; exact q)
    refine wpAny_Tuple_spliced (NamesT.run (pins := pins) (σ := σ') (H := H') ok.kind (by rw [ok.glob]; exact J3.mod.glob.keeps J3.bk) hc ⟨by rw [sizeLine_eq]; exact (by decide : 4 ≤ 16777216), ?_⟩)
    have kT : ∀ b o, h3.get? b = some o → (h3.push { cls := .type "tuple", data := .seq [c1, c2, c3, c4].toArray }).get? b = some o := fun b o e => Heap.get?_push_of_some _ e
    have LM := PySem.W.exm_tup4 (M := model X.prog X.w) (J3.kIn.keeps kT) (LT (kT _ _ he3)) (Heap.get?_push_size h3 rfl) hb1
    refine LM.here ?_
    have fl3' : HandSPX.FlyingZ B (X.env :: X.outer) a (Zc cls d) (h3.push { cls := .type "tuple", data := .seq [c1, c2, c3, c4].toArray }) := by
      obtain ⟨f1, f2, f3, oe, vs, T, oT, tts, e1, e2, e3, e4, e5, e6, e7, e8, e9⟩ := fl3
      exact ⟨fun b o e => kT b o (f1 b o e), f2, f3.of_keeps fun b o e _ => ⟨o, kT b o e, rfl⟩, oe, vs, T, oT, tts, kT _ _ e1, e2, e3, e4, e5, e6, kT _ _ e7, e8, e9⟩
    have upT : h3.UpToSlots (h3.push { cls := .type "tuple", data := .seq [c1, c2, c3, c4].toArray }) := Heap.UpToSlots.of_keeps kT
    cases b with
    | true =>
      refine codeAny_handlers_suite_as ?_
      refine HandSPX.lands_againZ fl3' fun h4 fl4 up4 => ?_
      have J4 : Inv X pins σ' H' { s' with heap := h4 } := J.landed nb fl4.1 (((up.trans up3).trans upT).trans up4) os ag
      obtain ⟨oe4, vs4, he4, hz4, hd4⟩ := fl4.there
      have S4 := J4.suite he4 hd4 na nL nF
      refine store_ok (X := X.suite a ((a, oe4) :: (X.pn ++ pins))) (v := .ref a) S4 hN hi (.inl hln) rfl (fun s5 S5 => ?_) (.inr hln)
      refine wpAny_mono ((hsu a oe4 cls d (X.pn ++ pins) hz4 ⟨_, hd4⟩).run [] s5 _ H' _ S5 (hyes rfl a na)) (fun f s6 hsp => ?_) (fun _ _ z => False.elim z)
      have back : ∀ {σ6 : St} {H6 : Hp}, Inv (X.suite a ((a, oe4) :: (X.pn ++ pins))) [] σ6 H6 s6 → Inv X ((a, oe4) :: pins) σ6 H6 s6 := fun {σ6 H6} S6 =>
        ⟨ok, S6.os, S6.bare, S6.base, S6.loc, S6.cell, S6.free, S6.freeC, fun p hp => S6.pin p (by
          rcases List.mem_append.mp hp with z | z
          · exact List.mem_append_left _ (List.mem_cons_of_mem _ (List.mem_append_left _ z))
          · rcases List.mem_cons.mp z with z | z
            · rw [z]
              exact List.mem_append_left _ List.mem_cons_self
            · exact List.mem_append_left _ (List.mem_cons_of_mem _ (List.mem_append_right _ z))), S6.hok, S6.len⟩
      cases f with
      | next =>
        obtain ⟨σ6, H6, S6, q6⟩ := hsp
        refine gone_ok (back S6) hN hi hln fun s7 J7 => ?_
        have e7 := (J7.pin (a, oe4) (List.mem_append_right _ List.mem_cons_self)).1
        exact ⟨_, _, J7.track a0 apn (fun v z => by rw [hd4] at z; cases z) (exv_ok e7 hz4 hd4), q6⟩
      | brk =>
        obtain ⟨σ6, H6, S6, q6⟩ := hsp
        exact False.elim q6
      | cont =>
        obtain ⟨σ6, H6, S6, q6⟩ := hsp
        exact False.elim q6
      | ret u =>
        obtain ⟨v6, σ6, H6, S6, r6, q6⟩ := hsp
        exact False.elim q6
    | false =>
      show wpAny _ X.A (handleBy (.ref a) X.env []) _ _ _
      refine wpAny_handleBy_nil ?_
      obtain ⟨k1, k2, k3, oe, vs, T, oT, ts', he, hz, hd, h1, hr⟩ := id fl3'
      unfold PySem.passOn
      refine wpAny_bind (wpAny_field he hd h1 ?_)
      rw [if_neg (show ¬ ((Value.ref T == Value.none) = true) from by simp)]
      have fin : wpAny (model X.prog X.w) X.A (setFlight (.ref a) X.env.frame) (fun _ s4 => wpAny (model X.prog X.w) X.A (throw (.ref a) : Sem Flow) (SP X pins D) X.xe s4) X.xe { s' with heap := h3.push { cls := .type "tuple", data := .seq [c1, c2, c3, c4].toArray } } := by
        rw [hf]
        refine HandSPX.setFlight_upZ fl3' fun h4 hh4 up4 => wpAny_throw (tk _ _ ?_)
        exact ⟨a, B, sI, pins, σ', H', cls, d, rfl, J, nb, ((up.trans up3).trans upT).trans up4, .inr (.inr (by rw [hs]; exact hh4)), na, os, ag, hno rfl⟩
      first
        | exact wpAny_bind (wpAny_pure (wpAny_bind fin))
        | exact wpAny_bind fin
  · cases f with
    | next =>
      obtain ⟨σ', H', J', q⟩ := hsp
      exact wpAny_execs_nil ⟨σ', H', J'.ofTry ok, q⟩
    | brk =>
      obtain ⟨σ', H', J', q⟩ := hsp
      exact ⟨σ', H', J'.ofTry ok, q⟩
    | cont =>
      obtain ⟨σ', H', J', q⟩ := hsp
      exact ⟨σ', H', J'.ofTry ok, q⟩
    | ret u =>
      obtain ⟨v, σ', H', J', r, q⟩ := hsp
      exact ⟨v, σ', H', J'.ofTry ok, r, q⟩
end
end L2

namespace L2
open PySem PySem.Spec PyProof.Rows ExM
/-- what an own exception class must say, so that its instances are asked rightly -/
structure XcC (K : PySem.W.Frag) (C : Addr) : Prop where
  ga : PySem.W.findIn K (.ref C) "__getattribute__" = some (some (.builtin "BaseException.__getattribute__"))
  gg : PySem.W.findIn K (.ref C) "__getattr__" = some none
  exC : PySem.W.subIn K (.ref C) (.type "BaseException") = some true
  hd : PySem.W.hasDictIn K C = true
  ha : PySem.W.findIn K (.ref C) "__class__" = some (some (.builtin "object.__class__"))
  hn : PySem.W.specialIn K (.builtin "object.__class__") "__get__" = some (some (.builtin "getset_descriptor.__get__"))
  ht : PySem.W.takesIn K (.builtin "object.__class__") = some true
  hm : PySem.W.mroIn K C (.type "object") = some true
def xcB (K : PySem.W.Frag) (C : Addr) : Bool := decide (PySem.W.findIn K (.ref C) "__getattribute__" = some (some (.builtin "BaseException.__getattribute__"))) && (decide (PySem.W.findIn K (.ref C) "__getattr__" = some none) &&
  (decide (PySem.W.subIn K (.ref C) (.type "BaseException") = some true) && (PySem.W.hasDictIn K C && (decide (PySem.W.findIn K (.ref C) "__class__" = some (some (.builtin "object.__class__"))) &&
  (decide (PySem.W.specialIn K (.builtin "object.__class__") "__get__" = some (some (.builtin "getset_descriptor.__get__"))) && (decide (PySem.W.takesIn K (.builtin "object.__class__") = some true) && decide (PySem.W.mroIn K C (.type "object") = some true)))))))
theorem xcB_ok {K : PySem.W.Frag} {C : Addr} (h : xcB K C = true) : XcC K C := by
  obtain ⟨h1, h⟩ := Bool.and_eq_true_iff.mp h
  obtain ⟨h2, h⟩ := Bool.and_eq_true_iff.mp h
  obtain ⟨h3, h⟩ := Bool.and_eq_true_iff.mp h
  obtain ⟨h4, h⟩ := Bool.and_eq_true_iff.mp h
  obtain ⟨h5, h⟩ := Bool.and_eq_true_iff.mp h
  obtain ⟨h6, h⟩ := Bool.and_eq_true_iff.mp h
  obtain ⟨h7, h8⟩ := Bool.and_eq_true_iff.mp h
  exact ⟨of_decide_eq_true h1, of_decide_eq_true h2, of_decide_eq_true h3, h4, of_decide_eq_true h5, of_decide_eq_true h6, of_decide_eq_true h7, of_decide_eq_true h8⟩
section
variable {X : Cx} {pins : List (Addr × Obj)} {σ : St} {H : Hp} {s : Shared}
theorem exv_inst (I : Inv X pins σ H s) {a C : Addr} {d : Option Addr} (ha : H a = some (exv a (.ref C) d)) (hd : ∀ dx, d = some dx → ∃ o, s.heap.get? dx = some o) : ∃ oe od, PySem.W.InstAt s.heap a oe C od ∧ (d = none → od = none) ∧ ∀ dx, d = some dx → od = s.heap.get? dx := by
  obtain ⟨oe, vs, h1, hz, h2⟩ := exv_at I.hok ha
  obtain ⟨oc, od, oda, osl⟩ := oe
  obtain ⟨z1, z2⟩ := hz
  dsimp only at z1 z2 h2
  subst z1 z2 h2
  cases od with
  | none => exact ⟨_, none, ⟨h1, rfl, rfl, trivial⟩, fun _ => rfl, fun _ z => by cases z⟩
  | some dx =>
    obtain ⟨o, ho⟩ := hd dx rfl
    exact ⟨_, some o, ⟨h1, rfl, rfl, ho⟩, fun z => by (cases z), fun dy z => by cases z; exact ho.symm⟩
theorem isIn_some {K : PySem.W.Frag} {C : Addr} (h : PySem.W.hasDictIn K C = true) : (PySem.W.clsIn K C).isSome = true := by
  obtain ⟨cd, hc, _⟩ := PySem.W.any_some h
  rw [hc]
  rfl
end
/-- isinstance(e, c), e a kept exception -/
def rIsX (K : PySem.W.Frag) : List V → Hp → VK → Prop := fun xs H Q => ∃ (a C : Addr) (d : Option Addr) (c : V) (u : Value) (b : Bool), xs = [.ref a, c] ∧ ClsV c u ∧ H a = some (exv a (.ref C) d) ∧ (∀ dx, d = some dx → ∃ fs, H dx = some (.xd fs)) ∧ XcC K C ∧ PySem.W.kitOne K (.ref C) u = some b ∧ Q (.bl b) H
theorem call_isX {X : Cx} : CallR X (.builtin "isinstance") (rIsX X.K) := by
  intro pins s σ H xs us Q I r h
  obtain ⟨a, C, d, c, u, b, rfl, k, ha, hd, T, e, q⟩ := h
  obtain ⟨u1, u2, rfl, r1, r2⟩ := vals2 r
  have e2 := k.eq r2
  subst e2
  cases (show u1 = Value.ref a from r1)
  obtain ⟨oe, od, J, _⟩ := exv_inst I ha fun dx z => by
    obtain ⟨fs, hf⟩ := hd dx z
    obtain ⟨mA, ⟨o, _, _, ho, _⟩, _⟩ := (show ObjOk X.prog X.w H s.heap dx (.xd fs) from I.hok dx _ hf)
    exact ⟨o, ho⟩
  exact PySem.W.kia_one (PySem.W.kitx_exc (isIn_some T.hd) T.ga T.gg T.exC T.ha T.hn T.ht T.hm) I.kIn J e (fun z => nomatch z) fun tk => ⟨.bl b, H, I.tok tk, rfl, q⟩
/-- e.f, e a kept exception -/
def tXfT (K : PySem.W.Frag) (f : Str) (te : TE) : TE := fun σ H Q => te σ H fun x H1 => ∃ (a C dd : Addr) (fs : List (Str × V)) (v : V), x = .ref a ∧ H1 a = some (exv a (.ref C) (some dd)) ∧ H1 dd = some (.xd fs) ∧ XcC K C ∧ PySem.W.findIn K (.ref C) f = some none ∧ fs.lookup f = some v ∧ Q v H1
theorem pe_xfT {X : Cx} {e : Expr} {te : TE} {pos : Pos} {n : Str} (he : PE X e te) (hb : attributeBase e n X.env (eval e X.env) = eval e X.env := by rfl) : PE X (.Attribute e n pos) (tXfT X.K n te) := by
  refine ⟨fun pins s σ H Q I h => ?_⟩
  refine attr_of hb (thn (he.run pins s σ H _ I h) fun u s1 ⟨x, H1, I1, rx, a, C, dd, fs, v, ex, ea, ed, T, hno, l, q⟩ => ?_)
  subst ex
  obtain rfl : u = Value.ref a := rx
  have hx : ObjOk X.prog X.w H1 s1.heap dd (.xd fs) := I1.hok dd _ ed
  obtain ⟨mA, hns, hr⟩ := hx
  obtain ⟨od, ho, hl⟩ := lookIn_ns hns
  obtain ⟨u, hu, ru⟩ := RelO.some_of (v := v) (o := mA n) (by rw [← l]; exact hr n)
  obtain ⟨oe, od', J, _, hod⟩ := exv_inst I1 ea fun dx z => by cases z; exact ⟨od, ho⟩
  have e1 : od' = some od := (hod dd rfl).trans ho
  subst e1
  exact HandSPX.exc_get I1.kIn J T.ga T.gg T.exC (PySem.W.findObj_own T.hd hno rfl (by rw [hl, hu])) (handed_of ru) ⟨v, H1, I1.tok _, ru, q⟩
end L2

/-! repr of data. -/
namespace L2
open PySem PySem.Spec PyProof.Rows

theorem guards_in1 {A : Around} (h : A.guards = some []) : A.in1.guards = some [] := h
/-! data without a dict holds none -/
mutual
theorem Dp.noDict {K : PySem.W.Frag} {H : Hp} : ∀ {v : V} {d : PyData}, Dp K H v d → d.hasDict = false
  | _, .none, _ => by simp only [PyData.hasDict]
  | _, .bool _, _ => by simp only [PyData.hasDict]
  | _, .int _, _ => by simp only [PyData.hasDict]
  | _, .str _, _ => by simp only [PyData.hasDict]
  | _, .list ds, h => by
    cases h with
    | lst hs ha =>
      simp only [PyData.hasDict]
      exact DpAll.noDict ha
  | _, .tuple ds, h => by
    cases h with
    | tup hs ha =>
      simp only [PyData.hasDict]
      exact DpAll.noDict ha
  | _, .dict _, h => by cases h
theorem DpAll.noDict {K : PySem.W.Frag} {H : Hp} : ∀ {vs : List V} {ds : List PyData}, DpAll K H vs ds → PyData.hasDictAll ds = false
  | _, [], _ => by simp only [PyData.hasDictAll]
  | _, d :: ds, h => by
    cases h with
    | cons h1 h2 => simp only [PyData.hasDictAll, Dp.noDict h1, DpAll.noDict h2, Bool.or_self]
end
/-- repr(v), v data that is read -/
def rRepr (K : PySem.W.Frag) : List V → Hp → VK → Prop := fun xs H Q => ∃ v d, xs = [v] ∧ Dp K H v d ∧ d.showable = true ∧ d.shown.length ≤ sizeLine ∧ d.depth ≤ 60 ∧ Q (.str d.shown) H
theorem call_repr {X : Cx} (hg : X.A.guards = some []) (hu : X.A.units + 64 < cLine) : CallR X (.builtin "repr") (rRepr X.K) := by
  intro pins s σ H xs us Q I r h
  obtain ⟨v, d, rfl, hd, hs, hz, hdp, q⟩ := h
  cases r with
  | @cons _ u _ us r1 r2 =>
    cases r2
    show wpAny _ _ (call (.builtin "repr") [u]) _ _ _
    obtain ⟨as, rd⟩ := Dp.reads I d v u hd r1
    have nd := Dp.noDict hd
    cases rd with
    | none => exact P.repr_of_none ⟨.str _, H, I.tok _, ⟨_, rfl⟩, by simpa [PyData.shown] using q⟩
    | bool b => exact P.repr_of_bool ⟨.str _, H, I.tok _, ⟨_, rfl⟩, by simpa [PyData.shown] using q⟩
    | int i t => exact P.repr_of_int (by simpa [PyData.showable] using hs) ⟨.str _, H, I.tok _, ⟨_, rfl⟩, by simpa [PyData.shown] using q⟩
    | str x t => exact P.repr_of_str ⟨.str _, H, I.tok _, ⟨_, rfl⟩, by simpa [PyData.shown] using q⟩ (by simpa [PyData.shown] using hz)
    | list h1 h2 h3 h4 =>
      exact repr_of_reads' (.list h1 h2 h3 h4) hs (fun z => by rw [nd] at z; cases z) hg (by omega) (fun _ _ e => e) (fun h' u tk k => ⟨.str _, H, I.kept (t' := tk) k, ⟨_, rfl⟩, q⟩) hz
    | tuple h1 h2 h3 h4 =>
      exact repr_of_reads' (.tuple h1 h2 h3 h4) hs (fun z => by rw [nd] at z; cases z) hg (by omega) (fun _ _ e => e) (fun h' u tk k => ⟨.str _, H, I.kept (t' := tk) k, ⟨_, rfl⟩, q⟩) hz
    | dict => cases hd

/-! ### how long a repr may be -/
mutual
def cap : PyData → Nat
  | .none => 4
  | .bool _ => 5
  | .int _ => 1921
  | .str x => 10 * x.length + 2
  | .list xs | .tuple xs => capAll xs + 4
  | .dict _ => 0
def capAll : List PyData → Nat
  | [] => 0
  | x :: xs => cap x + 2 + capAll xs
end
mutual
/-- every sign of every text is one that a repr writes in ten signs at most; ints have a repr -/
def plainD : PyData → Prop
  | .none | .bool _ => True
  | .int i => i.natAbs.log2 < 1920
  | .str x => ∀ c ∈ x.cps.toList, c < 16 ^ 8
  | .list xs | .tuple xs => plainAll xs
  | .dict _ => False
def plainAll : List PyData → Prop
  | [] => True
  | x :: xs => plainD x ∧ plainAll xs
end
theorem textFrom_cap : ∀ (ts : List Str) (k : Nat) (acc : Str), (textFrom k acc ts).length ≤ acc.length + (ts.map fun t => t.length + 2).sum
  | [], k, acc => by simp [textFrom]
  | t :: r, k, acc => by
    have ih := textFrom_cap r (k + 1) (acc ++ (if k > 0 then ", " else "" : String) ++ t)
    have e : (acc ++ ((if k > 0 then ", " else "" : String) : Str) ++ t).length ≤ acc.length + 2 + t.length := by
      rw [strLen_append, strLen_append]
      have : ((if k > 0 then ", " else "" : String) : Str).length ≤ 2 := by split <;> decide
      omega
    simp only [textFrom, List.map_cons, List.sum_cons]
    omega
theorem piled_cap : ∀ ts : List Str, piled ts = (ts.map fun t => t.length + 2).sum
  | [] => rfl
  | t :: r => by simp [piled, piled_cap r]
theorem join_cap (ts : List Str) : (Str.join ", " ts).length ≤ (ts.map fun t => t.length + 2).sum := by
  by_cases h : ts = []
  · subst h
    show Str.empty.length ≤ _
    exact Nat.le_of_eq (show Str.empty.length = 0 by decide)
  · have := join_length_add ts h
    rw [piled_cap] at this
    omega
mutual
theorem shown_cap : ∀ d : PyData, plainD d → d.showable = true ∧ d.shown.length ≤ cap d
  | .none, _ => ⟨by simp [PyData.showable], by simp only [PyData.shown, cap]; decide⟩
  | .bool b, _ => ⟨by simp [PyData.showable], by simp only [PyData.shown, cap]; cases b <;> decide⟩
  | .int i, h => by
    have h' : i.natAbs.log2 < 1920 := by simpa [plainD] using h
    refine ⟨by simp [PyData.showable, h'], ?_⟩
    simp only [PyData.shown, cap]
    have := int_text_length_le (a := i) (k := 1920) (by decide) h'
    rw [PySem.ofString_length]
    omega
  | .str x, h => by
    have h' : ∀ c ∈ x.cps.toList, c < 16 ^ 8 := by simpa [plainD] using h
    exact ⟨by simp [PyData.showable], by simp only [PyData.shown, cap]; exact StrLaws.reprText_len x h'⟩
  | .list xs, h => by
    have h' : plainAll xs := by simpa [plainD] using h
    obtain ⟨a, b⟩ := shown_capAll xs h'
    refine ⟨by simpa [PyData.showable] using a, ?_⟩
    simp only [PyData.shown, cap, listText]
    rw [strLen_append]
    have := textFrom_cap (PyData.shownAll xs) 0 "["
    have e1 : (("[" : Str)).length = 1 := by decide
    have e2 : (("]" : Str)).length = 1 := by decide
    omega
  | .tuple xs, h => by
    have h' : plainAll xs := by simpa [plainD] using h
    obtain ⟨a, b⟩ := shown_capAll xs h'
    refine ⟨by simpa [PyData.showable] using a, ?_⟩
    simp only [PyData.shown, cap, tupleText]
    rw [strLen_append, strLen_append]
    have := join_cap (PyData.shownAll xs)
    have e1 : (("(" : Str)).length = 1 := by decide
    have e2 : (((if (PyData.shownAll xs).length == 1 then ",)" else ")" : String) : Str)).length ≤ 2 := by split <;> decide
    omega
  | .dict _, h => by simp [plainD] at h
theorem shown_capAll : ∀ ds : List PyData, plainAll ds → PyData.showableAll ds = true ∧ ((PyData.shownAll ds).map fun t => t.length + 2).sum ≤ capAll ds
  | [], _ => ⟨by simp [PyData.showableAll], by simp [PyData.shownAll, capAll]⟩
  | d :: ds, h => by
    have h' : plainD d ∧ plainAll ds := by simpa [plainAll] using h
    obtain ⟨a, b⟩ := shown_cap d h'.1
    obtain ⟨c, e⟩ := shown_capAll ds h'.2
    refine ⟨by simp [PyData.showableAll, a, c], ?_⟩
    simp only [PyData.shownAll, capAll, List.map_cons, List.sum_cons]
    omega
end
/-- repr(v) as a rule: its wants in one -/
def rReprP (K : PySem.W.Frag) : List V → Hp → VK → Prop := fun xs H Q => ∃ v d, xs = [v] ∧ Dp K H v d ∧ plainD d ∧ cap d ≤ 16777216 ∧ d.depth ≤ 60 ∧ Q (.str d.shown) H
theorem call_reprP {X : Cx} (hg : X.A.guards = some []) (hu : X.A.units + 64 < cLine) : CallR X (.builtin "repr") (rReprP X.K) := by
  intro pins s σ H xs us Q I r h
  obtain ⟨v, d, e, hd, hp, hz, hdp, q⟩ := h
  obtain ⟨a, b⟩ := shown_cap d hp
  exact call_repr hg hu pins s σ H xs us Q I r ⟨v, d, e, hd, a, by rw [sizeLine_eq]; omega, hdp, q⟩
end L2

/-! Own exceptions: keywords; what the four built-in bases are; the class as the top has made it. -/
namespace L2
open PySem PySem.Spec PyProof.Rows ExM
section
variable {X : Cx} {C : Addr} {x f f2 : Str} {e e2 : Expr} {te te2 : TE} {p pos kp kp2 : Pos} {k : Nat}
/-- C(f = e) -/
theorem pe_mkvK1 (T : Mks X.prog X.K X.mg C [f]) (hs : X.mg "super" = none) (hr : Room k X.A) (he : PE X e te) (hg : Gl X x) (hm : X.mg x = some (.ref C)) (hdb : (x == ("__debug__" : Str)) = false := by decide)
    (hall : (backToKw pos (keywordEach [⟨some f, e, kp⟩] X.env)).all (·.1.isSome) = true := by rfl) (hks : (backToKw pos (keywordEach [⟨some f, e, kp⟩] X.env)).filterMap (·.1) = [f] := by rfl)
    (hpl : ((backTo pos (starEach [] X.env)).any (·.1) || (backToKw pos (keywordEach [⟨some f, e, kp⟩] X.env)).any (·.1.isNone)) = false := by rfl) :
    PE X (.Call (.Name x p) [] [⟨some f, e, kp⟩] pos) (tMkv C [f] (tCons te tNil)) := by
  refine ⟨fun pins s σ H Q I h => ?_⟩
  refine wpAny_Call_Name_kw (ld_glob I hg hm ?_ hdb)
  refine PySem.W.callWith_KW0 (h₀ := X.base) I.ok.mod.kin T.kC hall ?_ hpl
  refine thn ((pk_cons (nm := some f) (kpos := kp) he pk_nil).run pos pins s σ H _ I h) fun us s1 ⟨vs, H1, I1, r1, hl, q1⟩ => ⟨I1.kIn, ?_⟩
  rw [hks]
  cases r1 with
  | nil => exact absurd hl (by simp)
  | @cons v u vs' us' r1 r2 =>
    cases r2 with
    | nil => exact mkv_end (a := ⟨[], [(f, u)]⟩) T hs hr (by simp) I1 (.cons r1 .nil) .kw1 q1
    | cons _ _ => exact absurd hl (by simp)
/-- C(f2 = e2, f = e), the fields being f, f2 -/
def tMkv2 (C : Addr) (f f2 : Str) (ta : TA) : TE := fun σ H Q => ta σ H fun vs H1 => ∃ a b, vs = [b, a] ∧ ∀ e d, H1 e = none → H1 d = none → d ≠ e → Q (.ref e) (upd (upd H1 d (.xd [(f2, b), (f, a)])) e (exv e (.ref C) (some d)))
theorem pe_mkvK2 (T : Mks X.prog X.K X.mg C [f, f2]) (hs : X.mg "super" = none) (hr : Room k X.A) (he2 : PE X e2 te2) (he : PE X e te) (hg : Gl X x) (hm : X.mg x = some (.ref C)) (hdb : (x == ("__debug__" : Str)) = false := by decide)
    (hall : (backToKw pos (keywordEach [⟨some f2, e2, kp2⟩, ⟨some f, e, kp⟩] X.env)).all (·.1.isSome) = true := by rfl) (hks : (backToKw pos (keywordEach [⟨some f2, e2, kp2⟩, ⟨some f, e, kp⟩] X.env)).filterMap (·.1) = [f2, f] := by rfl)
    (hpl : ((backTo pos (starEach [] X.env)).any (·.1) || (backToKw pos (keywordEach [⟨some f2, e2, kp2⟩, ⟨some f, e, kp⟩] X.env)).any (·.1.isNone)) = false := by rfl) :
    PE X (.Call (.Name x p) [] [⟨some f2, e2, kp2⟩, ⟨some f, e, kp⟩] pos) (tMkv2 C f f2 (tCons te2 (tCons te tNil))) := by
  refine ⟨fun pins s σ H Q I h => ?_⟩
  refine wpAny_Call_Name_kw (ld_glob I hg hm ?_ hdb)
  refine PySem.W.callWith_KW0 (h₀ := X.base) I.ok.mod.kin T.kC hall ?_ hpl
  refine thn ((pk_cons (nm := some f2) (kpos := kp2) he2 (pk_cons (nm := some f) (kpos := kp) he pk_nil)).run pos pins s σ H _ I h) fun us s1 ⟨vs, H1, I1, r1, a, b, ev, q1⟩ => ⟨I1.kIn, ?_⟩
  rw [hks]
  subst ev
  obtain ⟨u1, u2, rfl, r1, r2⟩ := vals2 r1
  exact mkv_end (a := ⟨[], [(f2, u1), (f, u2)]⟩) T hs hr (by simp) I1 (.cons r2 (.cons r1 .nil)) .kw2 q1
end
end L2
namespace ExM
open PySem PySem.W PySem.Calls PyProof.Rows
/-- what the library tells of a built-in base: its __new__ (perhaps its own base's), its __init__ -/
structure BaseF (bmB : List Value) (B newId initId : String) : Prop where
  new : ∃ Bn initN bmN, ExcBaseFacts Bn newId initN bmN ∧ bmB.contains (.type Bn) = true ∧ bmB.contains (.type "AttributeError") = false ∧ bmB.contains (.type "NameError") = false
  ini : InF B initId
  pass : ∀ self, refuseLoop self "__setattr__" bmB = pure ()
  obj : bmB.contains (.type "object") = true
theorem inF_of {B newId i : String} (F : ExcCallFacts B newId i) (K : KxsFacts B i) : InF B i := ⟨F.initEntry, F.initKind, F.initRow, F.noStar, F.init.plain, K⟩
theorem base_VE : BaseF [.type "ValueError", .type "Exception", .type "BaseException", .type "object"] "ValueError" "ValueError.__new__" "ValueError.__init__" :=
  ⟨⟨_, _, _, F.excBase_ValueError, by decide +kernel, by decide +kernel, by decide +kernel⟩, inF_of F.excBase_ValueError.toExcCallFacts kxs_ValueError, F.store_ValueError.passes, by decide +kernel⟩
theorem base_OE : BaseF [.type "OverflowError", .type "ArithmeticError", .type "Exception", .type "BaseException", .type "object"] "OverflowError" "OverflowError.__new__" "OverflowError.__init__" :=
  ⟨⟨_, _, _, F.excBase_OverflowError, by decide +kernel, by decide +kernel, by decide +kernel⟩, inF_of F.excBase_OverflowError.toExcCallFacts kxs_OverflowError, F.store_OverflowError.passes, by decide +kernel⟩
theorem base_RE : BaseF [.type "RuntimeError", .type "Exception", .type "BaseException", .type "object"] "RuntimeError" "RuntimeError.__new__" "RuntimeError.__init__" :=
  ⟨⟨_, _, _, F.excBase_RuntimeError, by decide +kernel, by decide +kernel, by decide +kernel⟩, inF_of F.excBase_RuntimeError.toExcCallFacts kxs_RuntimeError, F.store_RuntimeError.passes, by decide +kernel⟩
theorem kxs_KE : KxsFacts "KeyError" "KeyError.__init__" := ⟨by show builtinType _ = _; rw [builtinType_eq_fast]; kernel_rfl, by first | kernel_rfl | rfl⟩
theorem base_KE : BaseF [.type "KeyError", .type "LookupError", .type "Exception", .type "BaseException", .type "object"] "KeyError" "LookupError.__new__" "KeyError.__init__" :=
  ⟨⟨_, _, _, F.excBase_LookupError, by decide +kernel, by decide +kernel, by decide +kernel⟩,
    ⟨entryFor_alias (id' := "BaseException.__init__") (by rw [fastTable_eq_tree]; kernel_rfl) (by first | rfl | decide +kernel) (by decide +kernel) (by rw [fastTable_eq_tree]; kernel_rfl), by kernel_rfl, by kernel_rfl, by decide +kernel, by decide +kernel, kxs_KE⟩,
    fun self => by kernel_rfl, by decide +kernel⟩
end ExM

namespace L2
open PySem PySem.Spec PyProof.Rows ExM
open PySem (cStatics)
open PySem.W (Frag findIn typeIn keepIn subIn nsIn codeIn ksFn ks_superIn excTail)
/-- what k_is finds of a class and its __init__ -/
structure Cfs (K : Frag) (prog : Program) (C f cc cda : Addr) (qual : Str) (params : Arguments) (body : List Stmt) (scope : Scope) (bmB : List Value) (B newId initId : String) : Prop where
  cls : ∃ nm q N bs bm sn sub ab col dd k0 k1 k2 k3 k5, K.lookup C = some (excClassObj nm q C N bs bm true sn sub ab col dd k0 k1 k2 k3 k5 newId) ∧ excTail bmB bm = true
  sa : findIn K (.ref C) "__setattr__" = some (some (.builtin "object.__setattr__"))
  iC : findIn K (.ref C) "__init__" = some (some (.ref f))
  tF : typeIn K (.ref f) = some (.type "function")
  kC : keepIn K (.ref C) = true
  exC : subIn K (.ref C) (.type "BaseException") = some true
  bC : subIn K (.ref C) (.type B) = some true
  tyC : typeIn K (.ref C) = some (.type "type")
  op : nsIn K cStatics "thirdparty.any" = some none
  al : ks_superIn K C C "__init__" = some (some (.builtin initId))
  lf : ∃ (oc : Value) (od : Option Addr) (kV doc pm : Value) (an : Option Addr) (ct : Value) (osl : Array (Option Value)), K.lookup f = some ⟨oc, od, .func (ksFn "__init__" qual params body scope .none kV doc pm an (.ref cda) ct cc), osl⟩
  cf : codeIn K (.ref cda) qual = true
  lcd : ∃ ccl cdd vs ccs file tf, K.lookup cda = some ⟨ccl, cdd, .fields vs, ccs⟩ ∧ vs[2]? = some (.str file tf) ∧ ((prog.main.file : Str) == file) = true
  cell : ∃ cl cld csl, K.lookup cc = some ⟨cl, cld, .cell (some (.ref C)), csl⟩
  top : (prog.main.scope.names.lookup ("super" : Str)).isSome = false
theorem cfs_mk {K : Frag} {prog : Program} {C f cc cda : Addr} {qual : Str} {params : Arguments} {body : List Stmt} {scope : Scope} {bmB : List Value} {B newId initId : String}
    {nm q : Str} {N : Addr} {bs bm : List Value} {sn : List Str} {sub : List Value} {ab : Bool} {col : Option Bool} {dd : Option Addr} {k0 k1 k2 k3 k5 : Option Value} {oc kV doc pm ct : Value} {od an : Option Addr} {osl : Array (Option Value)}
    {ccl : Value} {cdd : Option Addr} {vs : Array Value} {ccs : Array (Option Value)} {file : Str} {tf : Tok} {cl : Value} {cld : Option Addr} {csl : Array (Option Value)}
    (lc : K.lookup C = some (excClassObj nm q C N bs bm true sn sub ab col dd k0 k1 k2 k3 k5 newId)) (iC : findIn K (.ref C) "__init__" = some (some (.ref f)))
    (lf : K.lookup f = some ⟨oc, od, .func (ksFn "__init__" qual params body scope .none kV doc pm an (.ref cda) ct cc), osl⟩) (lcd : K.lookup cda = some ⟨ccl, cdd, .fields vs, ccs⟩) (lcc : K.lookup cc = some ⟨cl, cld, .cell (some (.ref C)), csl⟩)
    (sa : findIn K (.ref C) "__setattr__" = some (some (.builtin "object.__setattr__"))) (tF : typeIn K (.ref f) = some (.type "function")) (kC : keepIn K (.ref C) = true) (exC : subIn K (.ref C) (.type "BaseException") = some true) (bC : subIn K (.ref C) (.type B) = some true)
    (tyC : typeIn K (.ref C) = some (.type "type")) (op : nsIn K cStatics "thirdparty.any" = some none) (cf : codeIn K (.ref cda) qual = true)
    (al : ks_superIn K C C "__init__" = some (some (.builtin initId))) (tl : excTail bmB bm = true) (v2 : vs[2]? = some (.str file tf)) (hf : ((prog.main.file : Str) == file) = true) (top : (prog.main.scope.names.lookup ("super" : Str)).isSome = false) :
    Cfs K prog C f cc cda qual params body scope bmB B newId initId :=
  ⟨⟨_, _, _, _, _, _, _, _, _, _, _, _, _, _, _, lc, tl⟩, sa, iC, tF, kC, exC, bC, tyC, op, al, ⟨_, _, _, _, _, _, _, _, lf⟩, cf, ⟨_, _, _, _, _, _, lcd, v2, hf⟩, ⟨_, _, _, lcc⟩, top⟩
section
variable {K : Frag} {prog : Program} {mg : Str → Option Value} {C f cc cda : Addr} {qual : Str} {params : Arguments} {body : List Stmt} {scope : Scope} {bmB : List Value} {B newId initId : String} {msg fld fld2 : Str} {j : Nat} {p0 p1 p2 p3 p4 p5 q1 q2 q3 q4 r1 r2 r3 r4 : Pos}
theorem Cfs.ini (F : Cfs K prog C f cc cda qual params body scope bmB B newId initId) (b : BaseF bmB B newId initId) (hs : scope.names.lookup ("super" : Str) = some .globalImplicit) (hc : scope.names.lookup ("__class__" : Str) = some .free) (hk : scope.kind = .function) :
    Ini K prog C f cc qual params body scope bmB B newId initId := by
  obtain ⟨oc, od, kV, doc, pm, an, ct, osl, lf⟩ := F.lf
  exact ⟨F.cls, b.new, b.ini, b.pass, b.obj, F.sa, F.iC, F.tF, F.kC, F.exC, F.bC, F.tyC, F.op, F.al, ⟨oc, od, kV, doc, pm, an, cda, ct, osl, lf, F.cf, F.lcd⟩, F.cell, F.top, hs, hc, hk⟩
theorem mks_one (F : Cfs K prog C f cc cda qual params [supSt msg j p0 p1 p2 p3 p4 p5, putSt fld q1 q2 q3 q4] scope bmB B newId initId) (b : BaseF bmB B newId initId) (hs : scope.names.lookup ("super" : Str) = some .globalImplicit) (hc : scope.names.lookup ("__class__" : Str) = some .free) (hk : scope.kind = .function)
    (S : Sc scope params [fld]) (V : Ev qual scope f cc msg j p0 p1 p2 p3 p4) (hno : findIn K (.ref C) fld = some none)
    (hb : ∀ (a : Args) (v : Value), ArgOk [fld] a [v] → ∀ (x : Addr) (kV doc pm : Value) (an : Option Addr) (cdv ct : Value), bindArgs (ksFn "__init__" qual params [supSt msg j p0 p1 p2 p3 p4 p5, putSt fld q1 q2 q3 q4] scope .none kV doc pm an cdv ct cc) ⟨.ref x :: a.pos, a.kw⟩ = pure [(("self" : Str), .ref x), (fld, v)]) :
    Mks prog K mg C [fld] where
  kC := F.kC
  exC := F.exC
  tyC := F.tyC
  call := fun w A s a us R ha X G hd hq => by
    obtain ⟨v, rfl⟩ : ∃ v, us = [v] := by
      have z := ha.len
      match us, z with
      | [v], _ => exact ⟨v, rfl⟩
    refine made_one (F.ini b hs hc hk) S V hno ha X G hd (fun s' x kV doc pm an cdv ct => .of_eq (hb a v ha x kV doc pm an cdv ct)) fun h' tk e d M => hq h' tk e (some d) _ M (by simp) fun y => ?_
    by_cases h : y = fld
    · subst h
      simp
    · have e : (y == fld) = false := by simpa using h
      simp [h, List.lookup, e]
theorem mks_none (F : Cfs K prog C f cc cda qual params [supSt msg j p0 p1 p2 p3 p4 p5] scope bmB B newId initId) (b : BaseF bmB B newId initId) (hs : scope.names.lookup ("super" : Str) = some .globalImplicit) (hc : scope.names.lookup ("__class__" : Str) = some .free) (hk : scope.kind = .function)
    (S : Sc scope params []) (V : Ev qual scope f cc msg j p0 p1 p2 p3 p4)
    (hb : ∀ (x : Addr) (kV doc pm : Value) (an : Option Addr) (cdv ct : Value), bindArgs (ksFn "__init__" qual params [supSt msg j p0 p1 p2 p3 p4 p5] scope .none kV doc pm an cdv ct cc) ⟨[.ref x], []⟩ = pure [(("self" : Str), .ref x)]) :
    Mks prog K mg C [] where
  kC := F.kC
  exC := F.exC
  tyC := F.tyC
  call := fun w A s a us R ha X G hd hq => by
    have ea : a = ⟨[], []⟩ ∧ us = [] := by
      cases ha with
      | pos h =>
        have z := List.length_eq_zero_iff.mp h
        subst z
        exact ⟨rfl, rfl⟩
    obtain ⟨rfl, rfl⟩ := ea
    exact made_none (F.ini b hs hc hk) S V ha X G hd (fun s' x kV doc pm an cdv ct => .of_eq (hb x kV doc pm an cdv ct)) fun h' tk e M => hq h' tk e none _ M (by simp) fun y => by simp
theorem mks_two (F : Cfs K prog C f cc cda qual params [supSt msg j p0 p1 p2 p3 p4 p5, putSt fld q1 q2 q3 q4, putSt fld2 r1 r2 r3 r4] scope bmB B newId initId) (b : BaseF bmB B newId initId) (hs : scope.names.lookup ("super" : Str) = some .globalImplicit) (hc : scope.names.lookup ("__class__" : Str) = some .free) (hk : scope.kind = .function)
    (S : Sc scope params [fld, fld2]) (V : Ev qual scope f cc msg j p0 p1 p2 p3 p4) (hno : findIn K (.ref C) fld = some none) (hno2 : findIn K (.ref C) fld2 = some none) (hff : fld ≠ fld2)
    (hb : ∀ (a : Args) (v v2 : Value), ArgOk [fld, fld2] a [v, v2] → ∀ (x : Addr) (kV doc pm : Value) (an : Option Addr) (cdv ct : Value), bindArgs (ksFn "__init__" qual params [supSt msg j p0 p1 p2 p3 p4 p5, putSt fld q1 q2 q3 q4, putSt fld2 r1 r2 r3 r4] scope .none kV doc pm an cdv ct cc) ⟨.ref x :: a.pos, a.kw⟩ = pure [(("self" : Str), .ref x), (fld, v), (fld2, v2)]) :
    Mks prog K mg C [fld, fld2] where
  kC := F.kC
  exC := F.exC
  tyC := F.tyC
  call := fun w A s a us R ha X G hd hq => by
    obtain ⟨v, v2, rfl⟩ : ∃ v v2, us = [v, v2] := by
      have z := ha.len
      match us, z with
      | [v, v2], _ => exact ⟨v, v2, rfl⟩
    refine made_two (F.ini b hs hc hk) S V hno hno2 hff ha X G hd (fun s' x kV doc pm an cdv ct => .of_eq (hb a v v2 ha x kV doc pm an cdv ct)) fun h' tk e d M => hq h' tk e (some d) _ M (by simp) fun y => ?_
    by_cases h2 : y = fld2
    · subst h2
      simp
    · have e2 : (y == fld2) = false := by simpa using h2
      by_cases h : y = fld
      · subst h
        simp [List.lookup, e2, h2]
      · have e : (y == fld) = false := by simpa using h
        simp [h, h2, List.lookup, e, e2]
end
end L2

namespace L2
open PySem PySem.Spec PyProof.Rows ExM
/-- what the clause 'except c as n' wishes: behind the suite the exception is an object that is kept -/
def wAs1T (K : PySem.W.Frag) (c : Value) (i : Nat) (ts : Addr → Value → Option Addr → TS) (Wout : WX) (D : Ends) : WX := fun cls d σ H =>
  ∃ b, PySem.W.exmOne K cls c = some b ∧ (b = true → ∀ a, H a = none → ts a cls d { nx := fun σ' H' => D.nx (σ'.set i none) (upd H' a (exv a cls d)), rt := fun _ _ => False } (σ.set i (some (.ref a))) H) ∧
    (b = false → Wout cls d σ H)
section
variable {X : Cx} {x n : Str} {i : Nat} {body suite : List Stmt} {b₀ : Stmt} {np pos pos' : Pos} {c : Value} {tb : WX → TS} {ts : Addr → Value → Option Addr → TS} {Wout : WX}
theorem ps_try_as1T (hs : X.stack = X.env :: X.outer) (hf : X.env.frame = some X.env.locals) (hN : X.N.Nodup) (hi : X.N[i]? = some n) (hln : X.env.kindOf n = some .local) (hc : Names X x c) (hex : X.ex = []) (tk : Takes X Wout)
    (hb : ∀ (W : WX) (pn : List (Addr × Obj)) (xe : Value → Shared → Prop), Takes (X.tr pn xe) W → PassesOwn (model X.prog X.w) X.A X.env xe → PSs (X.tr pn xe) body (tb W))
    (hsu : ∀ (a : Addr) (oe : Obj) (cls : Value) (d : Option Addr) (pn : List (Addr × Obj)), Zc cls d oe → (∃ vs, oe.data = .fields vs) → PSs (X.suite a ((a, oe) :: pn)) (b₀ :: suite) (ts a cls d)) :
    PS X (.Try body [.ExceptHandler (some (.Name x np)) (some n) (b₀ :: suite) pos'] [] [] pos) (fun D σ H => tb (wAs1T X.K c i ts Wout D) D σ H) := by
  refine ⟨fun pins s σ H D I h => ?_⟩
  have ok := I.ok
  have hfr : X.A.frames = some (X.env :: X.outer) := by rw [ok.frames, hs]
  refine wpAny_Try_except (wpAny_mono ((hb (wAs1T X.K c i ts Wout D) (X.pn ++ pins) (fun e s₁ => wpAny (model X.prog X.w) X.A (noteFrame e X.env) (fun _ s₂ => wpAny (model X.prog X.w) X.A (setFlight e none) (fun _ s₃ =>
    wpAny (model X.prog X.w) X.A (handleBy e X.env [.ExceptHandler (some (.Name x np)) (some n) (b₀ :: suite) pos']) (SP X pins D) X.xe s₃) X.xe s₂) X.xe s₁) (fun u s' xx => ?_) PassesOwn.looking).run [] s σ H D (I.toTry _) h) (fun f s1 hsp => ?_) (fun e s1 he => he))
  · obtain ⟨a, B, sI, pins', σ', H', cls, d, rfl, J', nb, up, sky, na, os, ag, b, hb1, hyes, hno⟩ := xx
    have J : Inv X pins σ' H' sI := J'.ofTry ok
    have sky' : Sky B (X.env :: X.outer) a (Zc cls d) X.env.locals s'.heap := by rw [← hs]; exact sky
    show wpAny (model X.prog X.w) X.A (noteFrame (.ref a) X.env) _ _ _
    refine Sky.land Zc.steady hfr hf sky' fun h3 fl3 up3 => ?_
    have J3 : Inv X pins σ' H' { s' with heap := h3 } := J.landed nb fl3.1 (up.trans up3) os ag
    obtain ⟨oe3, vs3, he3, hz3, hd3⟩ := fl3.there
    have nfr : a ∉ frs (X.env :: X.outer) := fun hm => by
      obtain ⟨_, o', e', hnf⟩ := fl3.2.2.1.mem hm
      rw [he3] at e'
      cases e'
      exact hnf _ hd3
    have nL : a ≠ X.env.locals := fun z => nfr (List.mem_filterMap.mpr ⟨X.env, List.mem_cons_self, by rw [hf, z]⟩)
    have nF : a ∉ X.fs := fun hm => by
      obtain ⟨e, he, q⟩ := List.mem_filterMap.mp hm
      exact nfr (List.mem_filterMap.mpr ⟨e, List.mem_cons_of_mem _ he, q⟩)
    have aB : B.get? a = none := fl3.2.1
    have aI : sI.heap.get? a = none := by
      cases q : sI.heap.get? a with
      | none => rfl
      | some o =>
        have z := nb a o q (by rw [hs]; exact nfr)
        rw [aB] at z
        cases z
    have a0 : X.s_0.heap.get? a = none := by
      cases q : X.s_0.heap.get? a with
      | none => rfl
      | some o =>
        obtain ⟨o', z⟩ := J.base.there a o q (by rw [hex]; exact fun z => nomatch z)
        rw [aI] at z
        cases z
    have apn : ∀ p ∈ X.pn ++ pins, p.1 ≠ a := fun p hp z => by
      obtain ⟨e, _⟩ := J.pin p hp
      rw [z, aI] at e
      cases e
    refine wpAny_handleBy_cons (codeAny_handlers_test ?_) (by intro q; cases q)
    have S3 := J3.suite he3 hd3 na nL nF
    have LT : PySem.W.Looks (model X.prog X.w) h3 (typeOf (.ref a)) cls := fun A Q E s k q => wpAny_typeOf_ref (k _ _ he3) (by rw [hz3.1]; exact q)
    have LM := PySem.W.exm_one (M := model X.prog X.w) (J3.kIn) LT hb1
    have test : ∀ {Q : Value → Shared → Prop} {E : Value → Shared → Prop}, Q c { s' with heap := h3 } → wpAny (model X.prog X.w) (X.A.mark (some (.ref a))) (eval (.Name x np) X.env) Q E { s' with heap := h3 } := fun {Q E} q => by
      obtain ⟨hg, hdbg, hm | ⟨hm, hv, hnn⟩⟩ := hc
      · exact ld_glob (X := X.suite a ((a, oe3) :: (X.pn ++ pins))) S3 hg hm q hdbg
      · exact ld_blt (X := X.suite a ((a, oe3) :: (X.pn ++ pins))) S3 hg hm hv q hnn hdbg
    refine test (LM.here ?_)
    cases b with
    | true =>
      refine codeAny_handlers_suite_as ?_
      refine HandSPX.lands_againZ fl3 fun h4 fl4 up4 => ?_
      have J4 : Inv X pins σ' H' { s' with heap := h4 } := J.landed nb fl4.1 ((up.trans up3).trans up4) os ag
      obtain ⟨oe4, vs4, he4, hz4, hd4⟩ := fl4.there
      have S4 := J4.suite he4 hd4 na nL nF
      refine store_ok (X := X.suite a ((a, oe4) :: (X.pn ++ pins))) (v := .ref a) S4 hN hi (.inl hln) rfl (fun s5 S5 => ?_) (.inr hln)
      refine wpAny_mono ((hsu a oe4 cls d (X.pn ++ pins) hz4 ⟨_, hd4⟩).run [] s5 _ H' _ S5 (hyes rfl a na)) (fun f s6 hsp => ?_) (fun _ _ z => False.elim z)
      have back : ∀ {σ6 : St} {H6 : Hp}, Inv (X.suite a ((a, oe4) :: (X.pn ++ pins))) [] σ6 H6 s6 → Inv X ((a, oe4) :: pins) σ6 H6 s6 := fun {σ6 H6} S6 =>
        ⟨ok, S6.os, S6.bare, S6.base, S6.loc, S6.cell, S6.free, S6.freeC, fun p hp => S6.pin p (by
          rcases List.mem_append.mp hp with z | z
          · exact List.mem_append_left _ (List.mem_cons_of_mem _ (List.mem_append_left _ z))
          · rcases List.mem_cons.mp z with z | z
            · rw [z]
              exact List.mem_append_left _ List.mem_cons_self
            · exact List.mem_append_left _ (List.mem_cons_of_mem _ (List.mem_append_right _ z))), S6.hok, S6.len⟩
      cases f with
      | next =>
        obtain ⟨σ6, H6, S6, q6⟩ := hsp
        refine gone_ok (back S6) hN hi hln fun s7 J7 => ?_
        have e7 := (J7.pin (a, oe4) (List.mem_append_right _ List.mem_cons_self)).1
        exact ⟨_, _, J7.track a0 apn (fun v z => by rw [hd4] at z; cases z) (exv_ok e7 hz4 hd4), q6⟩
      | brk =>
        obtain ⟨σ6, H6, S6, q6⟩ := hsp
        exact False.elim q6
      | cont =>
        obtain ⟨σ6, H6, S6, q6⟩ := hsp
        exact False.elim q6
      | ret u =>
        obtain ⟨v6, σ6, H6, S6, r6, q6⟩ := hsp
        exact False.elim q6
    | false =>
      show wpAny _ X.A (handleBy (.ref a) X.env []) _ _ _
      refine wpAny_handleBy_nil ?_
      obtain ⟨k1, k2, k3, oe, vs, T, oT, ts', he, hz, hd, h1, hr⟩ := id fl3
      unfold PySem.passOn
      refine wpAny_bind (wpAny_field he hd h1 ?_)
      rw [if_neg (show ¬ ((Value.ref T == Value.none) = true) from by simp)]
      have fin : wpAny (model X.prog X.w) X.A (setFlight (.ref a) X.env.frame) (fun _ s4 => wpAny (model X.prog X.w) X.A (throw (.ref a) : Sem Flow) (SP X pins D) X.xe s4) X.xe { s' with heap := h3 } := by
        rw [hf]
        refine HandSPX.setFlight_upZ fl3 fun h4 hh4 up4 => wpAny_throw (tk _ _ ?_)
        exact ⟨a, B, sI, pins, σ', H', cls, d, rfl, J, nb, (up.trans up3).trans up4, .inr (.inr (by rw [hs]; exact hh4)), na, os, ag, hno rfl⟩
      first
        | exact wpAny_bind (wpAny_pure (wpAny_bind fin))
        | exact wpAny_bind fin
  · cases f with
    | next =>
      obtain ⟨σ', H', J', q⟩ := hsp
      exact wpAny_execs_nil ⟨σ', H', J'.ofTry ok, q⟩
    | brk =>
      obtain ⟨σ', H', J', q⟩ := hsp
      exact ⟨σ', H', J'.ofTry ok, q⟩
    | cont =>
      obtain ⟨σ', H', J', q⟩ := hsp
      exact ⟨σ', H', J'.ofTry ok, q⟩
    | ret u =>
      obtain ⟨v, σ', H', J', r, q⟩ := hsp
      exact ⟨v, σ', H', J'.ofTry ok, r, q⟩
end
end L2

/-! repr of data that may be a small dict, and of lists of such. -/
namespace L2
open PySem PySem.Spec PyProof.Rows
/-- data without a dict, or a dict of one int under a text -/
inductive Di (K : PySem.W.Frag) (H : Hp) : V → PyData → Prop
  | dp {v : V} {d : PyData} : Dp K H v d → Di K H v d
  | dic {a : Addr} {k : Str} {i : Int} : H a = some (.dK [(Sum.inr k, .int i)]) → Di K H (.ref a) (.dict [(.str k, .int i)])
inductive DiAll (K : PySem.W.Frag) (H : Hp) : List V → List PyData → Prop
  | nil : DiAll K H [] []
  | cons {v : V} {vs : List V} {d : PyData} {ds : List PyData} : Di K H v d → DiAll K H vs ds → DiAll K H (v :: vs) (d :: ds)
inductive ReadsI (h : Heap) : List Value → List PyData → Prop
  | nil : ReadsI h [] []
  | cons {v : Value} {vs : List Value} {d : PyData} {ds : List PyData} {as : List Addr} : Reads h v d as → (d.hasDict = true → sysModules ∉ as) → ReadsI h vs ds → ReadsI h (v :: vs) (d :: ds)
theorem ReadsI.all {h : Heap} : ∀ {vs : List Value} {ds : List PyData}, ReadsI h vs ds → ∃ as, ReadsAll h vs ds as
  | _, _, .nil => ⟨_, .nil⟩
  | _, _, .cons r _ t => let ⟨_, q⟩ := t.all; ⟨_, .cons r q⟩
theorem ReadsI.repr {prog : Program} {w : World} {h₀ : Heap} : ∀ {vs : List Value} {ds : List PyData}, ReadsI h₀ vs ds → PyData.showableAll ds = true → (∀ t ∈ PyData.shownAll ds, t.length ≤ sizeLine) →
    ∃ bs, ReadAtMost h₀ (PyData.depthAll ds) bs ∧ ReprAllK prog w bs h₀ (PyData.depthAll ds) vs (PyData.shownAll ds)
  | _, _, .nil, _, _ => ⟨[], (fun _ h => nomatch h), by simp only [PyData.shownAll]; exact .nil⟩
  | _, _, .cons (d := d) (ds := ds) r m t, hs, hz => by
    have hs' : d.showable = true ∧ PyData.showableAll ds = true := by simpa [PyData.showableAll] using hs
    obtain ⟨b1, hb1, k1⟩ := ReprK.of_reads (prog := prog) (w := w) r hs'.1 m (hz _ (by simp only [PyData.shownAll]; exact List.mem_cons_self ..))
    obtain ⟨b2, hb2, k2⟩ := ReadsI.repr (prog := prog) (w := w) t hs'.2 (fun t ht => hz t (by simp only [PyData.shownAll]; exact List.mem_cons_of_mem _ ht))
    have l1 : d.depth ≤ PyData.depthAll (d :: ds) := by simp only [PyData.depthAll]; omega
    have l2 : PyData.depthAll ds ≤ PyData.depthAll (d :: ds) := by simp only [PyData.depthAll]; omega
    refine ⟨b1 ++ b2, (hb1.mono l1).append (hb2.mono l2), ?_⟩
    simp only [PyData.depthAll, PyData.shownAll]
    have k1' : ReprK prog w b1 h₀ d.depth _ _ := k1
    exact .cons ((k1'.more fun b hb => List.mem_append_left _ hb).level_le (Nat.le_max_left _ _)) (k2.more_le (fun b hb => List.mem_append_right _ hb) (Nat.le_max_right _ _))
section
variable {X : Cx} {pins : List (Addr × Obj)} {σ : St} {H : Hp} {s : Shared}
theorem Di.reads (I : Inv X pins σ H s) {d : PyData} {v : V} {u : Value} (h : Di X.K H v d) (r : RelV v u) : ∃ as, Reads s.heap u d as ∧ (d.hasDict = true → sysModules ∉ as) := by
  cases h with
  | dp h =>
    obtain ⟨as, q⟩ := Dp.reads I d v u h r
    exact ⟨as, q, fun z => by rw [Dp.noDict h] at z; cases z⟩
  | @dic a k i hs =>
    cases r
    obtain ⟨_, hne, vs, rel, o, es, ep, ho, ⟨hx, _, _⟩, hd, _, hp, _⟩ := dk_of I.hok hs
    cases rel with
    | @cons _ q _ qs r1 r2 =>
      cases r2
      obtain ⟨qk, qv⟩ := q
      obtain ⟨e1, rv⟩ := r1
      dsimp only at e1 rv
      subst e1
      cases es with
      | mk es =>
      cases hp with
      | @cons e _ es' _ hk hv' hp' =>
        cases hp'
        rcases keyIs_shape (show keyIs (Sum.inr k) e.key = true from hk) with ⟨_, _, e2, _⟩ | ⟨y, t, e2, e3⟩
        · cases e2
        · cases e2
          dsimp only at hv'
          obtain ⟨tt, rfl⟩ := rv
          refine ⟨_, Reads.dict ho hx hd (kvs := [(.str k, .int i)]) (as := [] ++ []) (bs := [] ++ []) ?_ ?_, fun _ h => ?_⟩
          · exact .cons (by dsimp only; rw [e3]; exact .str _ _) .nil
          · exact .cons (by dsimp only; rw [hv']; exact .int _ _) .nil
          · simp only [List.append_nil, List.mem_cons, List.not_mem_nil, or_false] at h
            rw [← h] at hne
            exact absurd hne (by decide)
theorem DiAll.reads (I : Inv X pins σ H s) : ∀ {ds : List PyData} {vs : List V} {us : List Value}, DiAll X.K H vs ds → Vals vs us → ReadsI s.heap us ds
  | [], _, _, h, r => by
    cases h
    cases r
    exact .nil
  | d :: ds, _, _, h, r => by
    cases h with
    | cons h1 h2 =>
      cases r with
      | cons r1 r2 =>
        obtain ⟨as, q, m⟩ := Di.reads I h1 r1
        exact .cons q m (DiAll.reads I h2 r2)
end
/-- repr(v) -/
def rRepr1 (K : PySem.W.Frag) : List V → Hp → VK → Prop := fun xs H Q => ∃ v d, xs = [v] ∧ Di K H v d ∧ d.showable = true ∧ d.shown.length ≤ sizeLine ∧ d.depth ≤ 60 ∧ Q (.str d.shown) H
/-- repr(xs), xs a list of such -/
def rReprL (K : PySem.W.Frag) : List V → Hp → VK → Prop := fun xs H Q => ∃ a vs ds, xs = [.ref a] ∧ SqL K H a vs ∧ DiAll K H vs ds ∧ (PyData.list ds).showable = true ∧ (PyData.list ds).shown.length ≤ sizeLine ∧ PyData.depthAll ds ≤ 60 ∧ Q (.str (PyData.list ds).shown) H
theorem call_repr1 {X : Cx} (hg : X.A.guards = some []) (hu : X.A.units + 64 < cLine) : CallR X (.builtin "repr") (rRepr1 X.K) := by
  intro pins s σ H xs us Q I r h
  obtain ⟨v, d, rfl, hd, hs, hz, hdp, q⟩ := h
  cases r with
  | @cons _ u _ us r1 r2 =>
    cases r2
    show wpAny _ _ (call (.builtin "repr") [u]) _ _ _
    obtain ⟨as, rd, hm⟩ := Di.reads I hd r1
    cases rd with
    | none => exact P.repr_of_none ⟨.str _, H, I.tok _, ⟨_, rfl⟩, by simpa [PyData.shown] using q⟩
    | bool b => exact P.repr_of_bool ⟨.str _, H, I.tok _, ⟨_, rfl⟩, by simpa [PyData.shown] using q⟩
    | int i t => exact P.repr_of_int (by simpa [PyData.showable] using hs) ⟨.str _, H, I.tok _, ⟨_, rfl⟩, by simpa [PyData.shown] using q⟩
    | str x t => exact P.repr_of_str ⟨.str _, H, I.tok _, ⟨_, rfl⟩, by simpa [PyData.shown] using q⟩ (by simpa [PyData.shown] using hz)
    | list h1 h2 h3 h4 =>
      exact repr_of_reads' (.list h1 h2 h3 h4) hs hm hg (by omega) (fun _ _ e => e) (fun h' u tk k => ⟨.str _, H, I.kept (t' := tk) k, ⟨_, rfl⟩, q⟩) hz
    | tuple h1 h2 h3 h4 =>
      exact repr_of_reads' (.tuple h1 h2 h3 h4) hs hm hg (by omega) (fun _ _ e => e) (fun h' u tk k => ⟨.str _, H, I.kept (t' := tk) k, ⟨_, rfl⟩, q⟩) hz
    | dict h1 h2 h3 h4 h5 =>
      exact repr_of_reads' (.dict h1 h2 h3 h4 h5) hs hm hg (by omega) (fun _ _ e => e) (fun h' u tk k => ⟨.str _, H, I.kept (t' := tk) k, ⟨_, rfl⟩, q⟩) hz
theorem call_reprL {X : Cx} (hg : X.A.guards = some []) (hu : X.A.units + 64 < cLine) : CallR X (.builtin "repr") (rReprL X.K) := by
  intro pins s σ H xs us Q I r h
  obtain ⟨a, vs, ds, rfl, hS, hd, hs, hz, hdp, q⟩ := h
  cases r with
  | @cons _ u _ us r1 r2 =>
    cases r2
    cases r1
    show wpAny _ _ (call (.builtin "repr") [.ref a]) _ _ _
    obtain ⟨its, rv, ⟨o, n, h1, h2, _, h3⟩, _⟩ := I.list hS
    have RI := DiAll.reads I hd rv
    obtain ⟨as, h4⟩ := RI.all
    have hz' : (listText (PyData.shownAll ds)).length ≤ sizeLine := by simpa only [PyData.shown] using hz
    obtain ⟨bs, hb, hk⟩ := RI.repr (prog := X.prog) (w := X.w) (by simpa [PyData.showable] using hs) (fun t ht => Nat.le_trans (listText_mem_le ht) hz')
    have h4' : ReadsAll s.heap its.toArray.toList ds as := by simpa using h4
    have hna : a ∉ bs := not_mem_of_deeper (.list h1 h2 h3 h4') (by simp only [PyData.depth]; omega) hb
    have fin : ∀ {h' u tk}, (∀ b o, s.heap.get? b = some o → h'.get? b = some o) → EP X pins σ Q (.str (PyData.list ds).shown u) { s with heap := h', toks := tk } := fun {h' u tk} k => ⟨.str _, H, I.kept (t' := tk) k, ⟨_, rfl⟩, q⟩
    refine call_repr_slot (by omega) ⟨o, h1, h2⟩ F.slot_list_repr.toG ?_
    cases its with
    | nil =>
      cases h4
      have e : (PyData.list []).shown = ("[]" : Str) := by simp only [PyData.shown, PyData.shownAll, listText_nil]
      refine call_list_repr_empty ⟨o, h1, h2⟩ h1 h3 ⟨_, _, rfl, ?_⟩
      rw [← e]
      exact fin fun _ _ e => e
    | cons x l =>
      refine call_list_reprK h1 h2 h3 hna (by simpa using hk.length_eq) (fun i y e => hk.item i y (by simpa using e)) hg (fun b _ => Clear.nil b) (by show X.A.units + 1 + _ < _; omega) (fun _ _ e => e) (fun h' u tk k => ⟨_, _, rfl, ?_⟩) hz'
      have := fin (h' := h') (u := u) (tk := tk) k
      simpa only [PyData.shown] using this
end L2

/-! General readings (any law): data that is small, made exceptions, texts that are compared. -/
namespace L2
open PySem PySem.Spec PyProof.Rows Evl
section
variable {K : PySem.W.Frag} {σ : L2.St} {H : Hp} {ta tb : TE}
/-- xs + ys, both lists tracked: a new list -/
theorem el_cat {l : Addr} {xs ys : List V} (ha : Ev ta σ H (.ref l)) (hl : H l = some (.lst xs)) (hb : EvL tb σ H ys) (hz : xs.length + ys.length ≤ 100000) : EvL (tOp rCat ta tb) σ H (xs ++ ys) := fun H1 e Q q =>
  ha H1 e _ fun H2 e2 => hb H2 (e.trans e2) _ fun b H3 hb0 e3 hb3 => ⟨l, b, xs, ys, rfl, rfl, e3 _ _ (e2 _ _ (e _ _ hl)), hb3, sz_of hz, fun p hp => q p _ (fresh_back (e2.trans e3) hp) ((e2.trans e3).trans (Ex.new hp)) upd_same⟩
end
end L2
namespace L2
open PySem PySem.Spec PyProof.Rows Evl
mutual
theorem Dp.ex {K : PySem.W.Frag} {H H' : Hp} (e : Ex H H') : ∀ {v : V} {d : PyData}, Dp K H v d → Dp K H' v d
  | _, .none, h => by cases h; exact .non
  | _, .bool _, h => by cases h; exact .bl _
  | _, .int _, h => by cases h; exact .int _
  | _, .str _, h => by cases h; exact .str _
  | _, .list ds, h => by
    cases h with
    | lst hs ha => exact .lst (ex_l e hs) (DpAll.ex e ha)
  | _, .tuple ds, h => by
    cases h with
    | tup hs ha => exact .tup (ex_t e hs) (DpAll.ex e ha)
  | _, .dict _, h => by cases h
theorem DpAll.ex {K : PySem.W.Frag} {H H' : Hp} (e : Ex H H') : ∀ {vs : List V} {ds : List PyData}, DpAll K H vs ds → DpAll K H' vs ds
  | _, [], h => by cases h; exact .nil
  | _, d :: ds, h => by
    cases h with
    | cons h1 h2 => exact .cons (Dp.ex e h1) (DpAll.ex e h2)
end
theorem Di.ex {K : PySem.W.Frag} {H H' : Hp} (e : Ex H H') {v : V} {d : PyData} : Di K H v d → Di K H' v d
  | .dp h => .dp (h.ex e)
  | .dic h => .dic (e _ _ h)
theorem DiAll.ex {K : PySem.W.Frag} {H H' : Hp} (e : Ex H H') : ∀ {vs : List V} {ds : List PyData}, DiAll K H vs ds → DiAll K H' vs ds
  | _, _, .nil => .nil
  | _, _, .cons h t => .cons (h.ex e) (t.ex e)
/-- small data: shown in four thousand signs at most -/
structure Sm (d : PyData) : Prop where
  a : d.showable = true
  b : d.shown.length ≤ 4000
  c : d.depth ≤ 3
inductive SmAll : List PyData → Prop
  | nil : SmAll []
  | cons {d : PyData} {ds : List PyData} : Sm d → SmAll ds → SmAll (d :: ds)
theorem SmAll.show : ∀ {ds : List PyData}, SmAll ds → PyData.showableAll ds = true ∧ ((PyData.shownAll ds).map fun t => t.length + 2).sum ≤ 4002 * ds.length ∧ PyData.depthAll ds ≤ 3
  | _, .nil => ⟨by simp [PyData.showableAll], by simp [PyData.shownAll], by simp [PyData.depthAll]⟩
  | _, .cons (d := d) (ds := ds) h t => by
    obtain ⟨a, b, c⟩ := t.show
    refine ⟨by simp [PyData.showableAll, h.a, a], ?_, ?_⟩
    · simp only [PyData.shownAll, List.map_cons, List.sum_cons, List.length_cons]
      have := h.b
      omega
    · simp only [PyData.depthAll]
      have := h.c
      omega
theorem SmAll.list {ds : List PyData} (h : SmAll ds) (hl : ds.length ≤ 100) : (PyData.list ds).showable = true ∧ (PyData.list ds).shown.length ≤ sizeLine ∧ PyData.depthAll ds ≤ 60 := by
  obtain ⟨a, b, c⟩ := h.show
  refine ⟨by simpa [PyData.showable] using a, ?_, by omega⟩
  simp only [PyData.shown, listText]
  rw [strLen_append, sizeLine_eq]
  have := textFrom_cap (PyData.shownAll ds) 0 "["
  have e1 : (("[" : Str)).length = 1 := by decide
  have e2 : (("]" : Str)).length = 1 := by decide
  omega
section
variable {K : PySem.W.Frag} {σ : L2.St} {H : Hp} {ta tb te : TE}
theorem ev_repr1 {v : V} {d : PyData} (h : Ev te σ H v) (hd : Di K H v d) (s : Sm d) : Ev (tCB (rRepr1 K) (tCons te tNil)) σ H (.str d.shown) :=
  ev_cb (ea_cons h ea_nil) fun H1 e Q q => ⟨v, d, rfl, hd.ex e, s.a, Nat.le_trans s.b (by rw [sizeLine_eq]; omega), Nat.le_trans s.c (by decide), q H1 (Ex.refl H1)⟩
theorem ev_reprL {vs : List V} {ds : List PyData} (h : EvL te σ H vs) (hd : DiAll K H vs ds) (s : SmAll ds) (hl : ds.length ≤ 100) : Ev (tCB (rReprL K) (tCons te tNil)) σ H (.str (PyData.list ds).shown) := fun H1 e Q q =>
  h H1 e _ fun p H2 hp e2 h2 => ⟨p, vs, ds, rfl, sq_of h2, hd.ex (e.trans e2), (s.list hl).1, (s.list hl).2.1, (s.list hl).2.2, q H2 e2⟩
theorem ev_reprV {a : Addr} {vs : List V} {ds : List PyData} (h : Ev te σ H (.ref a)) (ha : H a = some (.lst vs)) (hd : DiAll K H vs ds) (s : SmAll ds) (hl : ds.length ≤ 100) : Ev (tCB (rReprL K) (tCons te tNil)) σ H (.str (PyData.list ds).shown) := fun H1 e Q q =>
  h H1 e _ fun H2 e2 => ⟨a, vs, ds, rfl, sq_of (e2 _ _ (e _ _ ha)), hd.ex (e.trans e2), (s.list hl).1, (s.list hl).2.1, (s.list hl).2.2, q H2 e2⟩
/-- two equal texts are not unlike -/
theorem ev_neS {z : Str} (ha : Ev ta σ H (.str z)) (hb : Ev tb σ H (.str z)) : EvT (tTest (tOp rNe ta tb)) σ H false :=
  et_test (ev_is (ev_op ha hb (rv_ne rfl)) (by simp))
/-- xs * k: a new list -/
theorem el_rep {xs : List V} {k : Int} (ha : EvL ta σ H xs) (hb : ∀ H1, Ev tb σ H1 (.int k)) (h0 : 0 ≤ k ∧ k ≤ 100) (hz : xs.length ≤ 100) : EvL (tOp rRep ta tb) σ H (List.replicate k.toNat xs).flatten := fun H1 e Q q =>
  ha H1 e _ fun l H2 hl e2 h2 => hb H2 H2 (Ex.refl _) _ fun H3 e3 => ⟨l, k, xs, rfl, rfl, e3 _ _ h2, by omega, by omega, by
    have : k.toNat ≤ 100 := by omega
    have : xs.length * k.toNat ≤ 100 * 100 := Nat.mul_le_mul hz this
    rw [sizeLine_eq]; omega, fun p hp => q p _ (fresh_back (e2.trans e3) hp) ((e2.trans e3).trans (Ex.new hp)) upd_same⟩
end
end L2
namespace Toy
open PySem L2 Evl
def nmN : Nat → Str
  | 0 => "SpanError" | 1 => "BadBase" | 2 => "BadNumber" | 3 => "BadDigits" | 4 => "BadRange" | 5 => "BadRule" | 6 => "BadReader" | 7 => "BadManner" | 8 => "BadEntry" | 9 => "BadName"
  | 10 => "BadText" | 11 => "OtherBase" | 12 => "TooMany" | 13 => "Missing" | _ => "NothingLeft"
/-- an exception that is kept at e, of the class at C -/
def ExAt (H : Hp) (e C : Addr) (d : Option Addr) : Prop := H e = some (exv e (.ref C) d) ∧ ∀ dx, d = some dx → ∃ fs, H dx = some (.xd fs)
theorem ExAt.ex {H H' : Hp} {e C : Addr} {d : Option Addr} (x : ExAt H e C d) (k : Ex H H') : ExAt H' e C d := ⟨k _ _ x.1, fun dx z => let ⟨fs, h⟩ := x.2 dx z; ⟨fs, k _ _ h⟩⟩
section
variable {K : PySem.W.Frag}
/-- e.f as a reading -/
theorem ev_xf {σ : St} {H : Hp} {f : Str} {te : TE} {e C d : Addr} {fs : List (Str × V)} {v : V} (h : Ev te σ H (.ref e)) (x : ExAt H e C (some d)) (hd : H d = some (.xd fs)) (T : XcC K C) (no : PySem.W.findIn K (.ref C) f = some none) (l : fs.lookup f = some v) :
    Ev (tXfT K f te) σ H v := fun H1 k Q q => h H1 k _ fun H2 k2 => ⟨e, C, d, fs, v, rfl, (x.ex (k.trans k2)).1, k2 _ _ (k _ _ hd), T, no, l, q H2 k2⟩
end
theorem shaped_bls (bs : List Bool) : SeqAt.shaped (.list (bs.map PyData.bool)) = true := by
  have lay : ∀ bs : List Bool, PyData.canLayAll0 (bs.map PyData.bool) = true := fun bs => by
    induction bs with
    | nil => rfl
    | cons n ns ih => simp only [List.map_cons, PyData.canLayAll0, PyData.canLay0, ih, Bool.and_self]
  have dep : ∀ bs : List Bool, PyData.depthAll (bs.map PyData.bool) ≤ 1 := fun bs => by
    induction bs with
    | nil => simp [PyData.depthAll]
    | cons n ns ih => simp only [List.map_cons, PyData.depthAll, PyData.depth]; omega
  have h := dep bs
  refine Bool.and_eq_true_iff.mpr ⟨?_, decide_eq_true ?_⟩
  · simpa only [PyData.canLay0] using lay bs
  · simp only [PyData.depth]
    omega
theorem dpAll_bls {K : PySem.W.Frag} {H : Hp} : ∀ bs : List Bool, DpAll K H (bs.map V.bl) (bs.map PyData.bool)
  | [] => .nil
  | b :: bs => .cons (.bl b) (dpAll_bls bs)
/-- two lists of the same truths are not unlike -/
theorem et_neB {K : PySem.W.Frag} {σ : St} {H : Hp} {ta tb : TE} {bs : List Bool} (ha : EvL ta σ H (bs.map V.bl)) (hb : EvL tb σ H (bs.map V.bl)) : EvT (tTest (tOp (rNeD K) ta tb)) σ H false :=
  et_test (ev_opLL ha hb fun p q H1 hp hq e => fun H2 e2 Q k => ⟨_, _, .lst (sq_of (e2 _ _ hp)) (dpAll_bls bs), .lst (sq_of (e2 _ _ hq)) (dpAll_bls bs), shaped_bls bs, shaped_bls bs, by
    rw [SeqAt.eqv_refl _ (Bool.and_eq_true_iff.mp (shaped_bls bs)).1]
    exact k _ (Ex.refl _)⟩)
/-- an exception of the class at C with one field -/
def Made1 (H : Hp) (e C : Addr) (f : Str) (v : V) : Prop := ∃ d, ExAt H e C (some d) ∧ H d = some (.xd [(f, v)])
theorem Made1.ex {H H' : Hp} {e C : Addr} {f : Str} {v : V} (x : Made1 H e C f v) (k : Ex H H') : Made1 H' e C f v := let ⟨d, a, b⟩ := x; ⟨d, a.ex k, k _ _ b⟩
def EvM (te : TE) (σ : St) (H : Hp) (C : Addr) (f : Str) (v : V) : Prop := ∀ H1, Ex H H1 → ∀ Q : VK, (∀ e H2, H1 e = none → Ex H1 H2 → Made1 H2 e C f v → Q (.ref e) H2) → te σ H1 Q
theorem em_mk {σ : St} {H : Hp} {te : TE} {C : Addr} {f : Str} {v : V} (h : Ev te σ H v) : EvM (tMkv C [f] (tCons te tNil)) σ H C f v := fun H1 e Q q =>
  h H1 e _ fun H2 e2 => ⟨rfl, fun x d hx hd hne => by
    have hx' : (upd H2 d (.xd [(f, v)])) x = none := by
      rw [upd_ne (Ne.symm hne)]
      exact hx
    exact q x _ (fresh_back e2 hx) (e2.trans ((Ex.new hd).trans (Ex.new hx'))) ⟨d, ⟨upd_same, fun dx z => by cases z; exact ⟨_, (Ex.new hx') _ _ upd_same⟩⟩, (Ex.new hx') _ _ upd_same⟩⟩
theorem ev_xfM {K : PySem.W.Frag} {σ : St} {H : Hp} {te : TE} {C : Addr} {f : Str} {v : V} (h : EvM te σ H C f v) (T : XcC K C) (no : PySem.W.findIn K (.ref C) f = some none) : Ev (tXfT K f te) σ H v := fun H1 k Q q =>
  h H1 k _ fun e H2 he e2 ⟨d, x, hd⟩ => ⟨e, C, d, _, v, rfl, x.1, hd, T, no, by simp [List.lookup], q H2 e2⟩
/-- a value of the law: data that is small -/
def Val (K : PySem.W.Frag) (H : Hp) (v : V) : Prop := ∃ d, Di K H v d ∧ Sm d
theorem sm_int {i : Int} (h : i.natAbs < 2 ^ 200) : Sm (.int i) := by
  have hl : i.natAbs.log2 < 1920 := by
    by_cases hz : i.natAbs = 0
    · rw [hz]; decide
    · exact Nat.lt_of_lt_of_le ((Nat.log2_lt hz).mpr h) (by decide)
  obtain ⟨a, b⟩ := shown_cap (.int i) (by simpa [plainD] using hl)
  exact ⟨a, Nat.le_trans b (by simp [cap]), by simp [PyData.depth]⟩
theorem Val.ex {K : PySem.W.Frag} {H H' : Hp} {v : V} (x : Val K H v) (e : Ex H H') : Val K H' v := let ⟨d, a, b⟩ := x; ⟨d, a.ex e, b⟩
theorem et_andF {σ : St} {H : Hp} {t u : TT} {a : Bool} (h1 : EvT t σ H a) (h2 : a = true → EvT u σ H false) : EvT (tAnd t u) σ H false := et_is (et_and h1 h2) (by simp)
theorem mk_at {H : Hp} {x d C : Addr} {f : Str} {v : V} (hx : H x = none) (hd : H d = none) (hne : d ≠ x) : Ex H (upd (upd H d (.xd [(f, v)])) x (exv x (.ref C) (some d))) ∧ Made1 (upd (upd H d (.xd [(f, v)])) x (exv x (.ref C) (some d))) x C f v := by
  have hx' : (upd H d (.xd [(f, v)])) x = none := by
    rw [upd_ne (Ne.symm hne)]
    exact hx
  exact ⟨(Ex.new hd).trans (Ex.new hx'), d, ⟨upd_same, fun dx z => by cases z; exact ⟨_, (Ex.new hx') _ _ upd_same⟩⟩, (Ex.new hx') _ _ upd_same⟩
theorem any_end {A : Hp → Prop} {G : Hp → Prop} {Hf : Hp} (a : A Hf) (k : ∀ Hf, A Hf → G Hf) : G Hf := k Hf a
theorem mk2_at {H : Hp} {x d C : Addr} {f f2 : Str} {a b : V} (hx : H x = none) (hd : H d = none) (hne : d ≠ x) : Ex H (upd (upd H d (.xd [(f2, b), (f, a)])) x (exv x (.ref C) (some d))) ∧ ExAt (upd (upd H d (.xd [(f2, b), (f, a)])) x (exv x (.ref C) (some d))) x C (some d) ∧ (upd (upd H d (.xd [(f2, b), (f, a)])) x (exv x (.ref C) (some d))) d = some (.xd [(f2, b), (f, a)]) := by
  have hx' : (upd H d (.xd [(f2, b), (f, a)])) x = none := by
    rw [upd_ne (Ne.symm hne)]
    exact hx
  exact ⟨(Ex.new hd).trans (Ex.new hx'), ⟨upd_same, fun dx z => by cases z; exact ⟨_, (Ex.new hx') _ _ upd_same⟩⟩, (Ex.new hx') _ _ upd_same⟩
end Toy

namespace Dr
open PySem L2
def top (i : Nat) : Stmt := PySem.Challenge.pw_shortspans_k04_rules_checked.main.body.getD i (.Pass ⟨0, 0, 0, 0⟩)
abbrev sMixed : Stmt := top 35
abbrev sBegin : Stmt := top 36
abbrev sDraw : Stmt := top 37
abbrev sOf : Stmt := top 38
/-- the built-ins that the draws name -/
structure TxB (mg : Str → Option Value) : Prop where
  int : mg "int" = none
  len : mg "len" = none
  list : mg "list" = none
section
variable {P : Program} {w : World} {K : PySem.W.Frag} {mg : Str → Option Value} {base : Heap}
def spMixed : Sp := fun vs H Q _ => ∃ c k : Int, vs = [.int c, .int k] ∧ 0 ≤ k ∧ k < 2 ^ 40 ∧ ∀ r : Int, 0 ≤ r → r < 2147483629 → Q (.int r) H
theorem scMixed : FnScope ["cell", "k"] ["cell", "k"] (defScope sMixed) := ⟨rfl, rfl, rfl, by decide +kernel, rfl, by decide +kernel, by decide +kernel⟩
theorem ok_mixed {f : Addr} {fd : FuncData} (F : Fun K "_law_mixed" "_law_mixed" sMixed f fd) (T : TxB mg) : FnOk P w K mg base CX0 1 f fd ["cell", "k"] spMixed := by
  refine F.ok scMixed (fun vs H Q E h => ?_) (fun cdv A outer s H vs Q E hr h => ?_)
  · obtain ⟨c, k, rfl, _⟩ := h
    rfl
  · obtain ⟨c, k, rfl, h0, h1, q⟩ := h
    refine ⟨_, pss_cons (ps_set (i := 0) scMixed.nd rfl (.inl rfl) (pe_op op_mod (pe_callTy call_int1 (by rfl) T.int (by decide +kernel) (pa_cons (pv 0) pa_nil)) pe_int))
      (pss_one (ps_ret (pe_op op_mod (pe_op op_mul (pe_op op_mod (pe_op op_add (pe_op op_add (pe_op op_mul (pv 0) (pe_op op_add pe_int (pe_op op_mul (pe_op op_mul pe_int (pv 1)) (pv 1)))) (pe_op op_mul pe_int (pv 1))) pe_int) pe_int) pe_int) pe_int))), ?_⟩
    have e0 : (0 : Int) < 2147483647 := by decide
    have e1 : (0 : Int) < 2147483629 := by decide
    have a0 := Int.emod_nonneg c (Int.ne_of_gt e0)
    have a1 := Int.emod_lt_of_pos c e0
    refine ⟨_, rfl, .inl ⟨_, rfl, _, _, rfl, rfl, e0, ?_⟩⟩
    refine ⟨_, rfl, _, rfl, _, _, rfl, rfl, .inl ⟨by decide, by decide⟩, _, rfl, _, _, rfl, rfl, .inl ⟨by omega, by omega⟩, _, _, rfl, rfl, _, _, rfl, rfl, .inl ⟨by omega, by omega⟩, _, rfl, _, _, rfl, rfl, .inl ⟨by decide, by decide⟩, _, _, rfl, rfl, _, _, rfl, rfl, _, _, rfl, rfl, e0, _, _, rfl, rfl, .inl ⟨?_, ?_⟩, _, _, rfl, rfl, e1, ?_⟩
    · exact Int.lt_of_lt_of_le (by decide) (Int.emod_nonneg _ (Int.ne_of_gt e0))
    · exact Int.lt_trans (Int.emod_lt_of_pos _ e0) (by decide)
    · exact q _ (Int.emod_nonneg _ (Int.ne_of_gt e1)) (Int.emod_lt_of_pos _ e1)
end
end Dr
namespace Dr
open PySem L2
/-- the drawer's state: at p, its cells at c, what is left of the great ones at l; a draws were made -/
structure StAt (H : Hp) (p c l : Addr) (n : Nat) (a : Int) : Prop where
  d : H p = some (.dK [(Sum.inr "cells", .ref c), (Sum.inr "lefts", .ref l), (Sum.inr "at", .int a)])
  c : ∃ cs : List Int, H c = some (.lst (cs.map V.int)) ∧ cs.length = n
  l : ∃ ls : List Int, H l = some (.lst (ls.map V.int)) ∧ ls.length = n
  n0 : 0 < n
  n1 : n ≤ 63
  a0 : 0 ≤ a
theorem StAt.ne {H : Hp} {p c l : Addr} {n : Nat} {a : Int} (S : StAt H p c l n a) : p ≠ c ∧ p ≠ l := by
  obtain ⟨cs, hc, _⟩ := S.c
  obtain ⟨ls, hl, _⟩ := S.l
  exact ⟨ne_of S.d hc (by intro z; cases z), ne_of S.d hl (by intro z; cases z)⟩
/-- all that was tracked stands, but for the drawer's own dict and list -/
def SameB (H H' : Hp) (p l : Addr) : Prop := ∀ b o, H b = some o → b ≠ p → b ≠ l → H' b = some o
section
variable {P : Program} {w : World} {K : PySem.W.Frag} {mg : Str → Option Value} {base : Heap}
def spBegin (K : PySem.W.Frag) : Sp := fun vs H Q _ => ∃ (s : Addr) (ns : List Int), vs = [.ref s] ∧ SqL K H s (ns.map V.int) ∧ ns.length ≤ 63 ∧
  ∀ (p c l : Addr) (n : Nat) (H' : Hp), Same H H' → H p = none → H l = none → StAt H' p c l n 0 → l ≠ c → Q (.ref p) H'
theorem scBegin : FnScope ["script", "cells", "cell"] ["script"] (defScope sBegin) := ⟨rfl, rfl, rfl, by decide +kernel, rfl, by decide +kernel, by decide +kernel⟩
abbrev kC : Key := Sum.inr ("cells" : Str)
abbrev kL : Key := Sum.inr ("lefts" : Str)
abbrev kA : Key := Sum.inr ("at" : Str)
theorem k12 : ¬ kC = kL := by decide +kernel
theorem k13 : ¬ kC = kA := by decide +kernel
theorem k23 : ¬ kL = kA := by decide +kernel
abbrev dk3 (a b c : V) : List (Key × V) := [(kC, a), (kL, b), (kA, c)]
theorem merge3 (a b c : V) : mergeK [] (dk3 a b c) = dk3 a b c := by
  have d12 : decide (kC = kL) = false := decide_eq_false k12
  have d13 : decide (kC = kA) = false := decide_eq_false k13
  have d23 : decide (kL = kA) = false := decide_eq_false k23
  simp only [mergeK, List.foldl_cons, List.foldl_nil, putK, List.any_nil, Bool.false_eq_true, if_false, List.nil_append, List.any_cons, d12, d13, d23, Bool.or_false, List.cons_append]
theorem put_at (a b c z : V) : putK (dk3 a b c) kA z = dk3 a b z := by
  have d13 : decide (kC = kA) = false := decide_eq_false k13
  have d23 : decide (kL = kA) = false := decide_eq_false k23
  simp only [putK, List.any_cons, List.any_nil, d13, d23, Bool.false_or, Bool.or_false, decide_true, if_true, List.map_cons, List.map_nil, if_neg k13, if_neg k23]
theorem val_cells (a b c : V) : valV (dk3 a b c) kC = some a := valV_pos rfl
theorem val_lefts (a b c : V) : valV (dk3 a b c) kL = some b := (valV_neg k12).trans (valV_pos rfl)
theorem val_at (a b c : V) : valV (dk3 a b c) kA = some c := (valV_neg k13).trans ((valV_neg k23).trans (valV_pos rfl))
theorem lay_ints : ∀ ns : List Int, PyData.canLayAll0 (ns.map PyData.int) = true
  | [] => rfl
  | n :: ns => by
    simp only [List.map_cons, PyData.canLayAll0, PyData.canLay0, lay_ints ns, Bool.and_self]
theorem depth_ints : ∀ ns : List Int, PyData.depthAll (ns.map PyData.int) ≤ 1
  | [] => by simp [PyData.depthAll]
  | n :: ns => by
    have := depth_ints ns
    simp only [List.map_cons, PyData.depthAll, PyData.depth]
    omega
theorem shaped_ints (ns : List Int) : SeqAt.shaped (.list (ns.map PyData.int)) = true := by
  have h := depth_ints ns
  refine Bool.and_eq_true_iff.mpr ⟨?_, decide_eq_true ?_⟩
  · simpa only [PyData.canLay0] using lay_ints ns
  · simp only [PyData.depth]
    omega
theorem eqv_nil (ns : List Int) : PyData.eqv (.list (ns.map .int)) (.list []) = decide (ns = []) := by
  cases ns with
  | nil => simp [PyData.eqv, PyData.eqvAll]
  | cons n ns => simp [PyData.eqv, PyData.eqvAll]
theorem dpAll_ints {K : PySem.W.Frag} {H : Hp} : ∀ ns : List Int, DpAll K H (ns.map V.int) (ns.map PyData.int)
  | [] => .nil
  | n :: ns => .cons (.int n) (dpAll_ints ns)
theorem ok_begin {f : Addr} {fd : FuncData} (F : Fun K "_law_begin" "_law_begin" sBegin f fd) (T : TxB mg) : FnOk P w K mg base CX0 1 f fd ["script"] (spBegin K) := by
  refine F.ok scBegin (fun vs H Q E h => ?_) (fun cdv A outer s H vs Q E hr h => ?_)
  · obtain ⟨s, ns, rfl, _⟩ := h
    rfl
  · obtain ⟨sc, ns, rfl, hS, hlen, q⟩ := h
    refine ⟨_, pss_cons (ps_set (i := 1) scBegin.nd rfl (.inl rfl) (pe_ifExp (pt_cmpR (op_neD hr.units) (pv 0) (pe_lst pa_nil) (nomark _)) (pe_callTy call_list_of (by rfl) T.list (by decide +kernel) (pa_cons (pv 0) pa_nil)) (pe_lst (pa_cons pe_int pa_nil))))
      (pss_one (ps_ret (pe_disp (pps_cons pe_str (pv 1) (pps_cons pe_str (pe_lc (own := [("cell", 2)]) (g := gName 2) (tt := tYes) rfl scBegin.nd (pi_list (pv 1)) (blkOk_by (N := ["script", "cells", "cell"]) (sc := defScope sBegin) (by decide +kernel))
        (fun _ _ _ _ _ => pg_name (i := 2) scBegin.nd rfl (Or.inl rfl)) (fun _ _ _ _ _ => pts_nil) (fun _ _ _ _ _ => pe_ifExp (pt_cmpR op_ge (pv 2) (pe_op op_pow pe_int pe_int) (nomark _)) (pv 2) pe_int)) (pps_cons pe_str pe_int pps_nil))) (by rfl) (by rfl) (fun z => by cases z) (by decide)))), ?_⟩
    refine ⟨_, rfl, (by show (0:Nat) ≤ sizeLine; rw [sizeLine_eq]; omega), fun p0 np0 => ?_⟩
    refine ⟨.list (ns.map .int), .list [], .lst ((Same.seq (fun b o e => by rw [upd_ne (ne_of_none e np0)]; exact e) hS)) (dpAll_ints ns), .lst (SqL.of upd_same) .nil, shaped_ints ns, by decide +kernel, ?_⟩
    rw [eqv_nil]
    have sp0 : Same H (upd H p0 (.lst [])) := fun b o e => by
      rw [upd_ne (ne_of_none e np0)]
      exact e
    have sel : ∃ b : Bool, (!decide (ns = [])) = b ∧ ∀ G : Addr → Hp → Prop, (∀ (c : Addr) (H1 : Hp) (xs : List Int), xs ≠ [] → xs.length ≤ 63 → Same H H1 → H1 c = some (.lst (xs.map V.int)) → G c H1) →
        (b = true → ∀ c, (upd H p0 (.lst [])) c = none → G c (upd (upd H p0 (.lst [])) c (.lst (ns.map V.int)))) ∧ (b = false → ∀ c, (upd H p0 (.lst [])) c = none → G c (upd (upd H p0 (.lst [])) c (.lst [V.int 0]))) := by
      refine ⟨_, rfl, fun G g => ⟨fun hb c nc => ?_, fun hb c nc => ?_⟩⟩
      · refine g c _ ns (fun z => by rw [decide_eq_true z] at hb; cases hb) hlen (fun b o e => ?_) upd_same
        rw [upd_ne (ne_of_none e (sp0.free nc))]
        exact sp0 b o e
      · refine g c _ [0] (by simp) (by decide) (fun b o e => ?_) upd_same
        rw [upd_ne (ne_of_none e (sp0.free nc))]
        exact sp0 b o e
    obtain ⟨b, hb, sel⟩ := sel
    refine ⟨b, by rw [hb], ?_⟩
    have fin : ∀ (c : Addr) (H1 : Hp) (xs : List Int), xs ≠ [] → xs.length ≤ 63 → Same H H1 → H1 c = some (.lst (xs.map V.int)) → (fun (x : V) (H1 : Hp) =>
      gName 1 x (L2.start ["script", "cells", "cell"] [V.ref sc]) H1
        ({ nx := tRet (tDisp [(tC (V.str "cells"), tVar 1), (tC (V.str "lefts"), tLc (iList K (tVar 1)) (gName 2) tYes
                        (tIf (tTest (tOp (rI0 fun i j => V.bl (decide (j ≤ i))) (tVar 2) (tOp (rI CPow fun i j => V.int (i ^ j.toNat)) (tC (V.int 10)) (tC (V.int 18))))) (tVar 2) (tC (V.int 0)))
                        (List.map (fun x => x.2) ([(("cell" : Str), 2)] : List (Str × Nat)))), (tC (V.str "at"), tC (V.int 0))]) { nx := fun x H' => Q V.non H', rt := Q }, rt := Q } : Ends).nx) (V.ref c) H1 := by
      intro c H1 xs hx hl s1 hc
      show ∀ p, H1 p = none → _
      intro p np
      have npc : c ≠ p := ne_of_none hc np
      have sp : Same H1 (upd H1 p (.dK [])) := fun b o e => by
        rw [upd_ne (ne_of_none e np)]
        exact e
      refine ⟨_, rfl, _, rfl, c, rfl, ⟨_, SqL.of (sp _ _ hc)⟩, fun D nD => lc_list (K := K) (a := c) (xs := xs.map V.int) (fun i H2 => ∃ ls : List Int, H2 D = some (.lst (ls.map V.int)) ∧ ls.length = i ∧ Same (upd H1 p (.dK [])) H2) ?_ ?_ ?_ ?_⟩
      · exact ⟨[], upd_same, rfl, fun b o e => by rw [upd_ne (ne_of_none e nD)]; exact e⟩
      · rintro i H2 _ ⟨ls, _, _, s2⟩
        exact SqL.of (s2 _ _ (sp _ _ hc))
      · rintro i x H2 hi ⟨ls, hD, hn, s2⟩
        rw [List.getElem?_map] at hi
        obtain ⟨z, hz, rfl⟩ := Option.map_eq_some_iff.mp hi
        have hlt : i < xs.length := (List.getElem?_eq_some_iff.mp hz).1
        have stp : ∀ y : Int, ∃ acc, H2 D = some (.lst acc) ∧ acc.length < sizeLine ∧ ∃ ls : List Int, (upd H2 D (.lst (acc ++ [V.int y]))) D = some (.lst (ls.map V.int)) ∧ ls.length = i + 1 ∧ Same (upd H1 p (.dK [])) (upd H2 D (.lst (acc ++ [V.int y]))) := fun y =>
          ⟨_, hD, by rw [List.length_map, sizeLine_eq]; omega, ls ++ [y], by rw [upd_same, List.map_append]; rfl, by rw [List.length_append, hn]; rfl, fun b o e => by rw [upd_ne (ne_of_none e nD)]; exact s2 b o e⟩
        refine ⟨rfl, ?_⟩
        rw [show (tYes : TT) = fun _ H Q => Q true H from rfl]
        dsimp only
        rw [if_pos rfl]
        refine ⟨_, rfl, _, _, rfl, rfl, ⟨by decide, by decide, by decide⟩, _, _, rfl, rfl, _, rfl, ?_⟩
        refine ite2 (fun _ => ?_) (fun _ => ?_)
        · exact ⟨_, rfl, stp z⟩
        · exact stp 0
      · rintro H2 ⟨ls, hD, hn, s2⟩
        rw [List.length_map] at hn
        have hp2 : H2 p = some (.dK []) := s2 _ _ upd_same
        have npD : D ≠ p := fun z => by
          rw [z, upd_same] at nD
          cases nD
        have ncD : D ≠ c := fun z => by
          rw [z, upd_ne npc, hc] at nD
          cases nD
        refine ⟨hp2, [(Sum.inr "cells", .ref c), (Sum.inr "lefts", .ref D), (Sum.inr "at", .int 0)], rfl, by show 3 ≤ 15; decide, ?_⟩
        have nDH : H D = none := by
          rw [upd_ne npD] at nD
          exact s1.free nD
        have hm := merge3 (V.ref c) (V.ref D) (V.int 0)
        refine q p c D xs.length _ (fun b o e => ?_) (s1.free np) nDH ⟨by rw [upd_same, hm], ⟨xs, by rw [upd_ne npc]; exact s2 _ _ (sp _ _ hc), rfl⟩, ⟨ls, by rw [upd_ne npD]; exact hD, hn⟩, List.length_pos_iff.mpr hx, hl, Int.le_refl 0⟩ ncD
        rw [upd_ne (ne_of_none e (s1.free np))]
        exact s2 _ _ (sp _ _ (s1 _ _ e))
    cases b with
    | true => exact iteT ⟨_, rfl, sc, _, rfl, .inl (Same.seq sp0 hS), fun c nc => (sel _ fin).1 rfl c nc⟩
    | false => exact iteF ⟨by show 1 ≤ sizeLine; rw [sizeLine_eq]; omega, fun c nc => (sel _ fin).2 rfl c nc⟩
end
end Dr
namespace Dr
open PySem L2
structure TxD (K : PySem.W.Frag) (mg : Str → Option Value) (fm : Addr) : Prop extends TxB mg where
  mixed : mg "_law_mixed" = some (.ref fm)
  kMixed : PySem.W.keepIn K (.ref fm) = true
section
variable {P : Program} {w : World} {K : PySem.W.Frag} {mg : Str → Option Value} {base : Heap}
def spDraw : Sp := fun vs H Q _ => ∃ (p c l : Addr) (n : Nat) (a m : Int), vs = [.ref p, .int m] ∧ StAt H p c l n a ∧ l ≠ c ∧ a < 2 ^ 39 ∧ 0 < m ∧ m < 1073741824 ∧
  ∀ (r : Int) (H' : Hp), 0 ≤ r → r < m → StAt H' p c l n (a + 1) → SameB H H' p l → (∀ b, H b = none → H' b = none) → Q (.int r) H'
theorem scDraw : FnScope ["state", "many", "at", "place", "left", "number"] ["state", "many"] (defScope sDraw) := ⟨rfl, rfl, rfl, by decide +kernel, rfl, by decide +kernel, by decide +kernel⟩
theorem ok_draw {f fm : Addr} {fd fdm : FuncData} (F : Fun K "_law_draw" "_law_draw" sDraw f fd) (FM : Fun K "_law_mixed" "_law_mixed" sMixed fm fdm) (bM : Binds K fdm ["cell", "k"] []) (T : TxD K mg fm) : FnOk P w K mg base CX0 2 f fd ["state", "many"] spDraw := by
  have GM : FnOk P w K mg base CX0 1 fm fdm ["cell", "k"] spMixed := ok_mixed FM T.toTxB
  refine F.ok scDraw (fun vs H Q E h => ?_) (fun cdv A outer s H vs Q E hr h => ?_)
  · obtain ⟨p, c, l, n, a, m, rfl, _⟩ := h
    rfl
  · obtain ⟨p, c, l, n, a, m, rfl, S, nlc, ha, m0, m1, q⟩ := h
    have hu := hu_of hr
    have hix : ∀ {X : Cx}, X.A.units + 1 < cLine → X.A.units + 1 < cLine := fun h => h
    refine ⟨_, pss_cons (ps_set (i := 2) scDraw.nd rfl (.inl rfl) (pe_dget hu (pv 0) pe_str (fun _ _ => rfl)))
      (pss_cons (ps_dput hu (pv 0) pe_str (pe_op op_add (pv 2) pe_int) rfl)
      (pss_cons (ps_set (i := 3) scDraw.nd rfl (.inl rfl) (pe_op op_mod (pe_callTy call_int1 (by rfl) T.int (by decide +kernel) (pa_cons (pv 2) pa_nil)) (pe_callB call_len_seq (by rfl) T.len (by decide +kernel) (pa_cons (pe_dget hu (pv 0) pe_str (fun _ _ => rfl)) pa_nil))))
      (pss_cons (ps_set (i := 4) scDraw.nd rfl (.inl rfl) (pe_ix ix_list (pe_dget hu (pv 0) pe_str (fun _ _ => rfl)) (pv 3) (fun _ _ => rfl)))
      (pss_cons (ps_if (pt_cmpR op_gt (pv 4) pe_int (nomark _))
        (pss_cons (ps_asg (pe_op op_fdiv (pv 4) (pv 1)) (pg_sub (pe_dget hu (pv 0) pe_str (fun _ _ => rfl)) (pv 3) set_list))
          (pss_one (ps_ret (pe_op op_mod (pe_callTy call_int1 (by rfl) T.int (by decide +kernel) (pa_cons (pv 4) pa_nil)) (pv 1))))) pss_nil)
      (pss_cons (ps_set (i := 5) scDraw.nd rfl (.inl rfl) (pe_call GM hr (by rfl) T.mixed T.kMixed bM .nil pass0 (pa_cons (pe_call GM hr (by rfl) T.mixed T.kMixed bM .nil pass0 (pa_cons (pe_ix ix_list (pe_dget hu (pv 0) pe_str (fun _ _ => rfl)) (pv 3) (fun _ _ => rfl)) (pa_cons (pv 2) pa_nil))) (pa_cons (pe_op op_add pe_int (pv 2)) pa_nil))))
      (pss_one (ps_ret (pe_op op_mod (pe_op op_fdiv (pe_callTy call_int1 (by rfl) T.int (by decide +kernel) (pa_cons (pe_op op_add (pe_op op_mul (pv 5) pe_int) (pe_call GM hr (by rfl) T.mixed T.kMixed bM .nil pass0 (pa_cons (pv 5) (pa_cons (pe_op op_add pe_int (pv 2)) pa_nil)))) pa_nil)) pe_int) (pv 1))))))))), ?_⟩
    obtain ⟨cs, hc, hcn⟩ := S.c
    obtain ⟨ls, hl, hln⟩ := S.l
    obtain ⟨npc, npl⟩ := S.ne
    have n0 := S.n0
    have a0 := S.a0
    refine ⟨_, rfl, p, _, rfl, DGet.k (k := kA) S.d, ?_⟩
    -- state['at'] = at + 1
    obtain ⟨H1, eH1⟩ : ∃ H1, H1 = upd H p (.dK (dk3 (.ref c) (.ref l) (.int (a + 1)))) := ⟨_, rfl⟩
    have dp : DPut H p (kV kA) (.int (a + 1)) H1 := by
      rw [eH1, ← put_at (.ref c) (.ref l) (.int a)]
      exact DPut.k (k := kA) S.d (by show 3 < sizeLine; rw [PySem.sizeLine_eq]; omega)
    refine ⟨_, rfl, _, _, rfl, rfl, _, rfl, p, H1, rfl, dp, ?_⟩
    have hp1 : H1 p = some (.dK (dk3 (.ref c) (.ref l) (.int (a + 1)))) := by rw [eH1, upd_same]
    have hc1 : H1 c = some (.lst (cs.map V.int)) := by rw [eH1, upd_ne npc.symm]; exact hc
    have hl1 : H1 l = some (.lst (ls.map V.int)) := by rw [eH1, upd_ne npl.symm]; exact hl
    have sb1 : SameB H H1 p l := fun b o e h1 h2 => by rw [eH1, upd_ne h1]; exact e
    have nn1 : ∀ b, H b = none → H1 b = none := fun b e => by
      rw [eH1, upd_ne (fun z => by rw [z, S.d] at e; cases e)]
      exact e
    -- spot
    have np : (0 : Int) < ((cs.map V.int).length : Int) := by rw [List.length_map, hcn]; omega
    refine ⟨_, rfl, .inl ⟨_, rfl, _, rfl, p, _, rfl, DGet.k (k := kC) hp1, c, _, rfl, .inl (SqL.of hc1), _, _, rfl, rfl, np, ?_⟩⟩
    have eN : ((cs.map V.int).length : Int) = (n : Int) := by rw [List.length_map, hcn]
    rw [eN]
    obtain ⟨k, hk, hkn⟩ : ∃ k : Nat, a % (n : Int) = (k : Int) ∧ k < n := by
      have h1 := Int.emod_nonneg a (show (n : Int) ≠ 0 by omega)
      have h2 := Int.emod_lt_of_pos a (show (0 : Int) < n by omega)
      exact ⟨(a % n).toNat, by omega, by omega⟩
    rw [show ((fun i j : Int => V.int (i % j)) a (n : Int)) = V.int (k : Int) from congrArg V.int hk]
    obtain ⟨x, hx⟩ : ∃ x, ls[k]? = some x := ⟨ls[k]'(by omega), by simp [show k < ls.length by omega]⟩
    obtain ⟨y, hy⟩ : ∃ y, cs[k]? = some y := ⟨cs[k]'(by omega), by simp [show k < cs.length by omega]⟩
    have hx' : (ls.map V.int)[k]? = some (V.int x) := by rw [List.getElem?_map, hx]; rfl
    have hy' : (cs.map V.int)[k]? = some (V.int y) := by rw [List.getElem?_map, hy]; rfl
    refine ⟨_, rfl, p, _, rfl, DGet.k (k := kL) hp1, _, rfl, l, _, _, _, rfl, rfl, SqL.of hl1, atI_nat hx', ?_⟩
    refine ⟨_, rfl, _, _, rfl, rfl, _, rfl, ?_⟩
    refine ite2 (fun _ => ?_) (fun _ => ?_)
    · -- a great one is used up
      refine ⟨_, rfl, _, rfl, _, _, rfl, rfl, ⟨m0, m1⟩, _, rfl, p, _, rfl, DGet.k (k := kL) hp1, _, rfl, l, _, _, k, rfl, rfl, hl1, ?_, ?_⟩
      · unfold ixN
        rw [if_pos (by omega), if_pos (by rw [List.length_map]; omega)]
        simp
      refine ⟨_, rfl, .inl ⟨_, rfl, _, rfl, _, _, rfl, rfl, m0, ?_⟩⟩
      refine q _ _ (Int.emod_nonneg _ (by omega)) (Int.emod_lt_of_pos _ m0) ⟨?_, ⟨cs, ?_, hcn⟩, ⟨ls.set k (x / m), ?_, by rw [List.length_set]; exact hln⟩, n0, S.n1, by omega⟩ (fun b o e h1 h2 => ?_) fun b e => ?_
      · rw [upd_ne npl]; exact hp1
      · rw [upd_ne nlc.symm]; exact hc1
      · rw [upd_same, List.map_set]
      · rw [upd_ne h2]; exact sb1 b o e h1 h2
      · rw [upd_ne (fun z => by rw [z, hl] at e; cases e)]; exact nn1 b e
    · -- number
      have r0 : ∀ {z : Int}, 0 ≤ z → z < 2147483629 → -(2 ^ 64) < z ∧ z < 2 ^ 64 := fun {z} h1 h2 => ⟨by omega, by omega⟩
      refine ⟨_, rfl, p, _, rfl, DGet.k (k := kC) hp1, _, rfl, c, _, _, _, rfl, rfl, SqL.of hc1, atI_nat hy', _, rfl, y, a, rfl, a0, by omega, fun z1 z10 z11 => ?_⟩
      refine ⟨_, rfl, _, _, rfl, rfl, z1, 40 + a, rfl, by omega, by omega, fun z2 z20 z21 => ?_⟩
      refine ⟨_, rfl, _, _, rfl, rfl, .inl (r0 z20 z21), _, rfl, _, rfl, _, _, rfl, rfl, z2, 7 + a, rfl, by omega, by omega, fun z3 z30 z31 => ?_⟩
      refine ⟨_, _, rfl, rfl, .inl ⟨_, rfl, _, _, rfl, rfl, ⟨by decide, by decide⟩, _, rfl, _, _, rfl, rfl, m0, ?_⟩⟩
      exact q _ _ (Int.emod_nonneg _ (by omega)) (Int.emod_lt_of_pos _ m0) ⟨hp1, ⟨cs, hc1, hcn⟩, ⟨ls, hl1, hln⟩, n0, S.n1, by omega⟩ sb1 nn1
end
end Dr
namespace Dr
open PySem L2
structure TxO (K : PySem.W.Frag) (mg : Str → Option Value) (fm fdr : Addr) : Prop extends TxD K mg fm where
  draw : mg "_law_draw" = some (.ref fdr)
  kDraw : PySem.W.keepIn K (.ref fdr) = true
section
variable {P : Program} {w : World} {K : PySem.W.Frag} {mg : Str → Option Value} {base : Heap}
def spOf : Sp := fun vs H Q _ => ∃ (p c l so : Addr) (n : Nat) (a : Int) (xs : List V), vs = [.ref p, .ref so] ∧ StAt H p c l n a ∧ l ≠ c ∧ a < 2 ^ 39 ∧ H so = some (.lst xs) ∧ so ≠ p ∧ so ≠ l ∧ 0 < xs.length ∧ xs.length < 1073741824 ∧
  ∀ (i : Nat) (v : V) (H' : Hp), xs[i]? = some v → StAt H' p c l n (a + 1) → SameB H H' p l → (∀ b, H b = none → H' b = none) → Q v H'
theorem scOf : FnScope ["state", "some"] ["state", "some"] (defScope sOf) := ⟨rfl, rfl, rfl, by decide +kernel, rfl, by decide +kernel, by decide +kernel⟩
theorem ok_of {f fm fdr : Addr} {fd fdm fdd : FuncData} (F : Fun K "_law_of" "_law_of" sOf f fd) (GD : FnOk P w K mg base CX0 2 fdr fdd ["state", "many"] spDraw) (bD : Binds K fdd ["state", "many"] []) (T : TxO K mg fm fdr) : FnOk P w K mg base CX0 3 f fd ["state", "some"] spOf := by
  refine F.ok scOf (fun vs H Q E h => ?_) (fun cdv A outer s H vs Q E hr h => ?_)
  · obtain ⟨p, c, l, so, n, a, xs, rfl, _⟩ := h
    rfl
  · obtain ⟨p, c, l, so, n, a, xs, rfl, S, nlc, ha, hso, n1, n2, x0, x1, q⟩ := h
    refine ⟨_, pss_one (ps_ret (pe_ix ix_list (pv 1) (pe_call GD hr (by rfl) T.draw T.kDraw bD .nil pass0 (pa_cons (pv 0) (pa_cons (pe_callB call_len_seq (by rfl) T.len (by decide +kernel) (pa_cons (pv 1) pa_nil)) pa_nil))) (fun _ _ => rfl))), ?_⟩
    refine ⟨_, rfl, _, rfl, _, rfl, so, _, rfl, .inl (SqL.of hso), p, c, l, n, a, _, rfl, S, nlc, ha, by omega, by omega, fun r H' r0 r1 S' sb nn => ?_⟩
    obtain ⟨k, hk⟩ : ∃ k : Nat, r = (k : Int) := ⟨r.toNat, by omega⟩
    subst hk
    obtain ⟨v, hv⟩ : ∃ v, xs[k]? = some v := ⟨xs[k]'(by omega), by simp [show k < xs.length by omega]⟩
    exact ⟨so, xs, k, v, rfl, rfl, SqL.of (sb so _ hso n1 n2), atI_nat hv, q k v H' hv S' sb nn⟩
end
end Dr
namespace Dr
open PySem L2 Evl
theorem StAt.ex {H H' : Hp} {p c l : Addr} {n : Nat} {a : Int} (S : StAt H p c l n a) (e : Ex H H') : StAt H' p c l n a :=
  ⟨e _ _ S.d, let ⟨cs, h, k⟩ := S.c; ⟨cs, e _ _ h, k⟩, let ⟨ls, h, k⟩ := S.l; ⟨ls, e _ _ h, k⟩, S.n0, S.n1, S.a0⟩
end Dr

/-! f(lambda: e) and f(lambda at=0: e), f a def that keeps what the lambda raises. -/
namespace LamR
open PySem PySem.Spec PyProof.Rows L2 LamX
open PySem.W (kdv_obj kdv_fn kdv_tup)
/-- a lambda's names: captured ones, globals, and names of its own that the def around has not -/
structure LamN (sc scope : Scope) (N : List Str) : Prop where
  kind : scope.kind = .function
  co : scope.isCoroutine = false
  gen : scope.isGenerator = false
  cell : ∀ y ∈ scope.names, y.2 ≠ .cell
  own : ∀ y ∈ scope.names, y.2 = .local → y.1 ∉ N
  free : ∀ y ∈ scope.names, y.2 = .free → sc.names.lookup y.1 = some .cell ∨ sc.names.lookup y.1 = some .free
def lamNB (sc scope : Scope) (N : List Str) : Bool :=
  decide (scope.kind = .function) && (!scope.isCoroutine && (!scope.isGenerator && ((scope.names.all fun y => !decide (y.2 = .cell)) && ((scope.names.all fun y => !decide (y.2 = .local) || !N.contains y.1) &&
    (scope.names.all fun y => !decide (y.2 = .free) || (decide (sc.names.lookup y.1 = some .cell) || decide (sc.names.lookup y.1 = some .free)))))))
theorem lamN_by {sc scope : Scope} {N : List Str} (h : lamNB sc scope N = true) : LamN sc scope N := by
  unfold lamNB at h
  simp only [Bool.and_eq_true, Bool.or_eq_true, Bool.not_eq_true', decide_eq_true_eq, decide_eq_false_iff_not, List.all_eq_true] at h
  obtain ⟨h1, h2, h3, h4, h5, h6⟩ := h
  refine ⟨h1, h2, h3, h4, fun y hy e => ?_, fun y hy e => ?_⟩
  · rcases h5 y hy with z | z
    · exact absurd e z
    · simpa using z
  · rcases h6 y hy with z | z
    · exact absurd e z
    · exact z
theorem LamN.has {X : Cx} {scope : Scope} {N : List Str} (L : LamN X.env.scope scope N) (ok : X.Ok) : ∀ y ∈ scope.names, y.2 = .free → ∃ c, X.env.cells.lookup y.1 = some c := fun y hy e => by
  rcases L.free y hy e with k | k
  · exact ok.has _ (.inl k)
  · exact ok.has _ (.inr k)
section
variable {X : Cx} {pins : List (Addr × Obj)} {σ : L2.St} {H HZ : Hp} {s s1 : Shared}
theorem lam_startR {A : Around} {outer : List Env} {E : XK} {scope : Scope} {f c' : Addr} {h₁ : Heap} {tk : Nat} {mL : Str → Option Value} (I : Inv X pins σ H s) (L : LamN X.env.scope scope X.N) (e0 : Env0 X.prog X.w X.K X.mg X.base A outer s1 HZ) (hd : A.handled = none)
    (un : Un (frs X.stack) [] H HZ s.heap s1.heap) (hns : h₁.Ns s1.heap.objs.size mL) (kp : ∀ b o, s1.heap.get? b = some o → h₁.get? b = some o) :
    Inv (lamCx X A outer s1 HZ E scope f c') [] σ HZ { s1 with heap := h₁, toks := tk } := by
  have hfree := L.has I.ok
  have cm : ∀ {y c}, (cloFrom X.env.cells scope.names []).lookup y = some c → X.env.cells.lookup y = some c := fun {y c} e => by
    rcases cloFrom_mem (PySem.mem_of_lookup e) with hm | ⟨h1, h2⟩
    · exact absurd hm (by simp)
    · obtain ⟨c1, hc⟩ := hfree _ h1 rfl
      have hc : X.env.cells.lookup y = some c1 := hc
      have e2 : c = c1 := by
        rw [h2, hc] <;> rfl
      rw [e2, hc]
  have look : ∀ {y}, scope.names.lookup y = some .free → ∃ c, (cloFrom X.env.cells scope.names []).lookup y = some c := fun {y} hl =>
    mem_lookup (cloFrom_has (cells := X.env.cells) (acc := []) (show (y, NameKind.free) ∈ scope.names from PySem.mem_of_lookup hl))
  have cellK : ∀ {c : Addr} {v : Option Value}, H c = none → s.heap.IsCell c v → h₁.IsCell c v := fun {c v} n ⟨o, ho, hd⟩ =>
    let ⟨_, q⟩ := un.any ho n (by simp)
    ⟨_, kp _ _ q, hd⟩
  have noA : ∀ b : Addr, b ∉ (lamCx X A outer s1 HZ E scope f c').ex := fun b z => absurd (show b ∈ ([] : List Addr) from z) (by simp)
  have visC : ∀ {y}, scope.names.lookup y ≠ some .cell := fun {y} k => L.cell _ (PySem.mem_of_lookup k) rfl
  refine ⟨⟨e0.mod, L.kind, rfl, rfl, Nat.le_refl _, fun y z c e1 e2 => I.ok.inj y z c (cm e1) (cm e2), fun y hy => ?_, fun y c z _ => Bool.noConfusion (show false = true from z), fun _ => hd, Around.frames_deeper e0.frames, .inr ⟨rfl, rfl⟩, fun b z => absurd z (noA b), e0.bs, e0.bsz, fun b _ _ => noA b,
      fun b z => absurd z (noA b), e0.funs, e0.frf⟩,
    rfl, e0.bare, Un.kept kp, ⟨_, hns, fun i y v e1 e2 e3 => ?_⟩, fun y c e => ?_, e0.hok.fresh (Nat.le_refl _), fun y c e => ?_, fun q hq => absurd (show q ∈ ([] : List (Addr × Obj)) from hq) (by simp), e0.hok.kept kp, I.len⟩
  · have hy : scope.names.lookup y = some .cell ∨ scope.names.lookup y = some .free := hy
    rcases hy with hy | hy
    · exact absurd hy visC
    · exact look hy
  · have e3 : Vis scope y := e3
    rcases e3 with k | k | k
    · exact absurd (List.mem_of_getElem? e1) (L.own _ (PySem.mem_of_lookup k) rfl)
    · exact absurd k visC
    · obtain ⟨m, hn, hl⟩ := I.loc
      obtain ⟨w', r, q⟩ := hl i y v e1 e2 (.inr (L.free _ (PySem.mem_of_lookup k) rfl))
      obtain ⟨c2, h2⟩ := look k
      refine ⟨w', r, .inr ⟨.inr k, c2, h2, ?_⟩⟩
      have c1 := cm h2
      rcases q with ⟨k', _⟩ | ⟨_, c3, e', z⟩
      · have k' : X.env.scope.names.lookup y = some .local := k'
        rcases L.free _ (PySem.mem_of_lookup k) rfl with k2 | k2 <;> rw [show X.env.scope.names.lookup y = _ from k2] at k' <;> cases k'
      · rw [c1] at e'
        cases e'
        exact cellK (I.freeC y _ c1) z
  · obtain ⟨w', z⟩ := I.cell y c (cm e)
    exact ⟨w', cellK (I.freeC y c (cm e)) z⟩
  · obtain ⟨v, o, ho, hd⟩ := I.cell y c (cm e)
    exact un.free c o ho (I.freeC y c (cm e)) (by simp)
/-- x(), in the def that got the lambda; what it raises is what that def's own wish takes, at its names as they are -/
theorem pe_actR {CXg : CXT} {Eg : XK} {Ng : List Str} {qg : Str} {sg : Scope} {g f c' : Addr} {cdg dV doc pm ctv : Value} {params : Arguments} {body : Expr} {scope : Scope} {k i : Nat} {a : Str} {pn : List (Addr × Obj)} {xe : Value → Shared → Prop} {W : WX} {tb : XK → TE} {p1 p2 : Pos} {binds : List (Str × Value)}
    (I : Inv X pins σ H s) (L : LamN X.env.scope scope X.N) (hf : s.heap.get? f = some (kdv_obj "<lambda>" (X.env.qual ++ "<lambda>") params (.expr body) scope (cloFrom X.env.cells scope.names []) dV doc pm c' ctv)) (hfn : H f = none) (hfr : f ∉ frs X.stack)
    (hbind : ∀ s1 : Shared, (∀ b o, s.heap.get? b = some o → H b = none → b ∉ frs X.stack → s1.heap.get? b = some o) → BindsTo s1 (kdv_fn "<lambda>" (X.env.qual ++ "<lambda>") params (.expr body) scope (cloFrom X.env.cells scope.names []) dV doc pm (.ref c') ctv) ⟨[], []⟩ binds)
    (hloc : ∀ y ∈ binds, scope.names.lookup y.1 = some .local)
    (tk : Takes ((cxOf CXg X.prog X.w X.K X.mg X.base Ng qg sg g cdg X.A X.stack s H Eg).tr pn xe) W) (hr : Room (k + 1) (X.A.deeper (envOfC qg sg s.heap.objs.size g cdg)))
    (hbody : ∀ (A : Around) (outer : List Env) (s : Shared) (H : Hp) (E : XK), Room k (A.deeper (lamEnv X scope s.heap.objs.size f c')) → PE (lamCx X A outer s H E scope f c') body (tb E))
    (hN : Ng[i]? = some a) (hv : Vis sg a) (hd : (a == ("__debug__" : Str)) = false := by decide) (hcd : (a == ("__classdict__" : Str)) = false := by decide) :
    PE ((cxOf CXg X.prog X.w X.K X.mg X.base Ng qg sg g cdg X.A X.stack s H Eg).tr pn xe) (.Call (.Name a p1) [] [] p2)
      (fun σZ HZ Q => σZ[i]? = some (some (.ref f)) ∧ HZ c' = some (CodeO c' (X.env.qual ++ "<lambda>")) ∧ ∃ (E : XK) (Q' : VK), (∀ cls d H', E cls d H' → W cls d σZ H') ∧ (∀ v H', Q' v H' → Q v H') ∧ tb E σ HZ Q') := by
  refine ⟨fun pinsZ sZ σZ HZ Q IZ h => ?_⟩
  obtain ⟨hs, hc, E, Q', hW, hQ, ht⟩ := h
  refine wpAny_Call_Name_kw (thn ((pe_var (pos := p1) (i := i) hN hv hd hcd).run pinsZ sZ σZ HZ (fun v H1 => v = .ref f ∧ H1 = HZ) IZ ⟨.ref f, hs, rfl, rfl⟩) fun u s1 ⟨v, H1, I1, r1, ev, eH⟩ => ?_)
  subst ev
  rw [eH] at I1
  obtain rfl : u = Value.ref f := r1
  have un : Un (frs X.stack) [] H HZ s.heap s1.heap := I1.base
  have keep : ∀ b o, s.heap.get? b = some o → H b = none → b ∉ frs X.stack → s1.heap.get? b = some o := fun b o e n nf => un.keep b o e n nf (fun z => absurd (show b ∈ ([] : List Addr) from z) (by simp))
  have of1 := keep f _ hf hfn hfr
  refine PySem.W.callWith_F0 ⟨_, _, _, _, of1⟩ ?_
  obtain ⟨⟨oc, vs, t, hoc, hdc, hvc⟩, _, _⟩ := I1.hok c' _ hc
  have rc : codeAny (model X.prog X.w) (X.A.deeper (envOfC qg sg s.heap.objs.size g cdg)) (.call (.ref f) ⟨[], []⟩) (CR (L2.CX X.prog X.w) (envOfC qg sg s.heap.objs.size g cdg :: X.stack) X.prog X.w HZ s1 Q E) s1 := by
    refine PySem.W.kla_callFunE hr.depth of1 rfl L.co L.gen rfl ⟨c', oc, vs, t, rfl, hoc, hdc, hvc⟩ (hbind s1 keep _ _ _ _ ?_)
    refine wpAny_newFunctionEnv L.cell hloc (fun h₁ hns hsb => ⟨I1.nolimit.fresh _ hsb, ?_⟩) L.kind
    show codeAny _ _ (.expr body (lamEnv X scope s1.heap.objs.size f c')) _ _
    have kp : ∀ b o, s1.heap.get? b = some o → h₁.get? b = some o := fun b o e => hsb.extBut b o (Nat.ne_of_lt (Heap.lt_size e)) (Heap.get?_push_of_some _ e)
    have J : Inv (lamCx X (X.A.deeper (envOfC qg sg s.heap.objs.size g cdg)) (envOfC qg sg s.heap.objs.size g cdg :: X.stack) s1 HZ E scope f c') [] σ HZ { s1 with heap := h₁, toks := s1.toks + binds.length } :=
      lam_startR I L I1.env0 hr.hd un hns kp
    exact PySem.W.kla_codeExpr (wpAny_mono ((hbody _ _ s1 HZ E (hr.deeper _)).run [] _ _ HZ Q' J ht) (fun v s' ⟨w', H', J', rv, q⟩ => ⟨w', H', J'.os, J'.bare, J'.base, J'.hok, rv, hQ _ _ q⟩) fun e s' hq => hq)
  refine wpAny_call (codeAny_mono rc fun r s' hq => ?_)
  cases r with
  | error e => exact tk e s' (XE.of_call I1 hW hq)
  | ok fl =>
    cases fl with
    | ret u => exact I1.after hq
    | next => exact False.elim hq
    | brk => exact False.elim hq
    | cont => exact False.elim hq
end
end LamR

namespace LamR
open PySem PySem.Spec PyProof.Rows L2 LamX
open PySem.W (kdv_obj kdv_fn kdv_tup)
section
variable {X : Cx} {pins : List (Addr × Obj)} {σ : L2.St} {H : Hp} {s : Shared}
/-- the lambda with one int as a default is made -/
theorem lam_makeD {T : List (Addr × Str)} {c P : Addr} {params : Arguments} {body : Expr} {scope : Scope} {pos cp : Pos} {j : Nat} {n : Int} {E : Value → Shared → Prop} {Q : Value → Shared → Prop} (I : Inv X pins σ H s) (TB : TabB X.base X.mg c P) (hcode : X.env.code = .ref c)
    (hm : (P, X.env.qual ++ "<lambda>") ∈ T) (hu : ∀ p ∈ T, p.1 = P → p.2 = X.env.qual ++ "<lambda>") (hT : Tabs T H) (hdef : params.defaults = [.Constant (.int n) j cp]) (hk0 : params.kw_defaults = []) (hfree : ∀ y ∈ scope.names, y.2 = .free → ∃ c, X.env.cells.lookup y.1 = some c)
    (hE : E = X.xe)
    (h : ∀ (f c' T₀ : Addr) (tk : Tok) (doc pm ctv : Value) (H1 : Hp) (s' : Shared), Inv X pins σ H1 s' → ExtN H H1 → Tabs T H1 →
      s'.heap.get? f = some (kdv_obj "<lambda>" (X.env.qual ++ "<lambda>") params (.expr body) scope (cloFrom X.env.cells scope.names []) (.ref T₀) doc pm c' ctv) → H1 f = none → f ∉ frs X.stack → H1 c' = some (CodeO c' (X.env.qual ++ "<lambda>")) →
      s'.heap.get? T₀ = some (kdv_tup [.int n tk]) → H1 T₀ = none → T₀ ∉ frs X.stack → Q (.ref f) s') :
    wpAny (model X.prog X.w) X.A (eval (.Lambda params body scope pos) X.env) Q E s := by
  subst hE
  obtain ⟨ps, hP, ht, ha⟩ := hT _ hm
  refine PySem.W.kdv_lam (by rw [hdef]; rfl) hk0 ?_
  rw [hdef]
  refine PySem.W.kdv_all1 (wpAny_Constant_int (PySem.W.kdv_all0 ?_))
  generalize hs1 : ({ s with toks := s.toks + 1 } : Shared) = s1
  have I1 : Inv X pins σ H s1 := by
    rw [← hs1]
    exact I.tok _
  generalize s.toks = tk
  rw [makeFunction_eq]
  simp only [List.zip_nil_right, List.filterMap_nil, List.isEmpty_nil, if_true, pure_bind, List.isEmpty_cons, Bool.false_eq_true, if_false]
  refine wpAny_bind (wpAny_newTextTuple ?_)
  obtain ⟨T₀, hT0⟩ : ∃ T₀, T₀ = s1.heap.objs.size := ⟨_, rfl⟩
  rw [← hT0]
  have n0 : H T₀ = none := I1.hok.fresh (Nat.le_of_eq hT0.symm)
  have g0 : (s1.heap.push (kdv_tup [.int n tk])).get? T₀ = some (kdv_tup [.int n tk]) := by
    rw [hT0]
    exact Heap.get?_push_size _ rfl
  have I2 : Inv X pins σ H { s1 with heap := s1.heap.push (kdv_tup [.int n tk]) } := I1.kept (t' := s1.toks) fun b o e => Heap.get?_push_of_some _ e
  have nofr : ∀ f, s1.heap.objs.size ≤ f → f ∉ frs X.stack := fun f hf z => by
    rcases List.mem_cons.mp (I1.stkSub _ z) with e | e
    · have h1 := I1.lt
      rw [← e] at h1
      exact Nat.lt_irrefl _ (Nat.lt_of_lt_of_le h1 hf)
    · exact I1.nofs hf e
  have f0 : T₀ ∉ frs X.stack := nofr _ (Nat.le_of_eq hT0.symm)
  have sz2 : (s1.heap.push (kdv_tup [.int n tk])).objs.size = T₀ + 1 := by rw [Heap.size_push, hT0]
  generalize hs2 : ({ s1 with heap := s1.heap.push (kdv_tup [.int n tk]) } : Shared) = s2 at I2 ⊢
  have hh2 : s2.heap = s1.heap.push (kdv_tup [.int n tk]) := by rw [← hs2]
  rw [← hh2] at g0 sz2
  have bP : s2.heap.BuiltinsAt X.mg P := TB.bm.keeps I2.bk
  have hP' : s2.heap.get? P = some { cls := .none, data := .fields ps } := I2.hok P _ hP
  cases hc : codeAmong pos ps.toList with
  | none =>
    refine PySem.W.kdv_makeTail (mg := X.mg) (c := c) (P := P) (ps := ps) (closure_ok hfree) I2.ok.glob (I2.mod.glob.keeps I2.bk) hcode (TB.code.keeps I2.bk) hP' ht hc TB.gP bP fun c' ctv doc h' tk' hx hge hlt hrec htb => ?_
    obtain ⟨c2, oc, vs, t, e2, hoc, hd, hv⟩ := hrec
    cases e2
    have hsz : s2.heap.objs.size ≤ h'.objs.size := Nat.le_trans hge (Nat.le_of_lt hlt)
    have nC : H c' = none := I2.hok.fresh hge
    have I3 := inv_table (t' := tk') (more := #[rawInt pos.line, rawInt pos.col, .ref c']) (h' := h'.push (kdv_obj "<lambda>" (X.env.qual ++ "<lambda>") params (.expr body) scope (cloFrom X.env.cells scope.names []) (.ref T₀) doc ((X.mg "__name__").getD .none) c' ctv)) I2 hP
      (fun b o hb e => Heap.get?_push_of_some _ (hx b o hb e)) (Heap.get?_push_of_some _ htb) hge ⟨oc, vs, t, Heap.get?_push_of_some _ hoc, hd, hv⟩
    have hE : ExtN H (upd (upd H P (.tbl (ps ++ #[rawInt pos.line, rawInt pos.col, .ref c']))) c' (CodeO c' (X.env.qual ++ "<lambda>"))) := fun b o e nt => by
      rw [upd_ne (ne_of_none e nC), upd_ne (fun z => nt ps (Option.some.inj (e.symm.trans (by rw [z]; exact hP))))]
      exact e
    have eL : (ps ++ #[rawInt pos.line, rawInt pos.col, .ref c']).toList = ps.toList ++ [rawInt pos.line, rawInt pos.col, .ref c'] := by simp
    have T0P : T₀ ≠ P := fun z => by
      rw [z, hP] at n0
      cases n0
    have T0c : T₀ ≠ c' := fun z => by omega
    refine h h'.objs.size c' T₀ tk doc ((X.mg "__name__").getD .none) ctv _ _ I3 hE (fun p hp => ?_) (Heap.get?_push_size _ rfl) ?_ (nofr _ (by omega)) upd_same (Heap.get?_push_of_some _ (hx _ _ T0P g0)) ?_ f0
    · by_cases hb : p.1 = P
      · rw [hu p hp hb, hb]
        refine ⟨_, by rw [upd_ne (ne_of_none hP nC), upd_same], by rw [eL]; exact PySem.TriplesOk_snoc _ _ _ _ ht, fun p' cv hcv => ?_⟩
        rw [eL] at hcv
        rcases among_app _ ht hcv with z | z
        · obtain ⟨c0, e1, e2⟩ := ha p' cv z
          exact ⟨c0, e1, hE _ _ e2 codeO_ne⟩
        · exact ⟨c', z, upd_same⟩
      · obtain ⟨ps', a1, a2, a3⟩ := hT p hp
        refine ⟨ps', by rw [upd_ne (ne_of_none a1 nC), upd_ne hb]; exact a1, a2, fun p' cv hcv => ?_⟩
        obtain ⟨c0, e1, e2⟩ := a3 p' cv hcv
        exact ⟨c0, e1, hE _ _ e2 codeO_ne⟩
    · have n1 : h'.objs.size ≠ c' := Nat.ne_of_gt hlt
      have n2 : h'.objs.size ≠ P := Nat.ne_of_gt (Nat.lt_of_lt_of_le (Heap.lt_size hP') hsz)
      rw [upd_ne n1, upd_ne n2]
      exact I2.hok.fresh hsz
    · rw [upd_ne T0c, upd_ne T0P]
      exact n0
  | some cv =>
    obtain ⟨c', e, hco⟩ := ha pos cv hc
    subst e
    refine PySem.W.kdv_makeTailHit (mg := X.mg) (c := c) (P := P) (ps := ps) (closure_ok hfree) I2.ok.glob (I2.mod.glob.keeps I2.bk) hcode (TB.code.keeps I2.bk) hP' ht hc bP fun ctv doc h' tk' hx hsz => ?_
    have I3 : Inv X pins σ H { s2 with heap := h'.push (kdv_obj "<lambda>" (X.env.qual ++ "<lambda>") params (.expr body) scope (cloFrom X.env.cells scope.names []) (.ref T₀) doc ((X.mg "__name__").getD .none) c' ctv), toks := tk' } := I2.kept fun b o e => Heap.get?_push_of_some _ (hx b o e)
    exact h h'.objs.size c' T₀ tk doc ((X.mg "__name__").getD .none) ctv H _ I3 (ExtN.refl H) hT (Heap.get?_push_size _ rfl) (I2.hok.fresh hsz) (nofr _ (by omega)) hco (Heap.get?_push_of_some _ (hx _ _ g0)) n0 f0
end
end LamR

namespace LamR
open PySem PySem.Spec PyProof.Rows L2 LamX
open PySem.W (kdv_obj kdv_fn kdv_tup)
/-- the def that calls what it got; TT: what it makes of the lambda's reading -/
def GivesR (X : Cx) (Ng : List Str) (x : Str) (sg : Scope) (g : Addr) (cdg : Value) (bg : List Stmt) (a : Str) (q : Str) (TT : (XK → Hp → VK → Prop) → Hp → VK → Prop) : Prop :=
  ∀ (f c' : Addr) (s : Shared) (H : Hp) (Q : VK) (tl : XK → Hp → VK → Prop),
    (∀ (W : WX) (pn : List (Addr × Obj)) (xe : Value → Shared → Prop) (p1 p2 : Pos), Takes ((cxOf C8.CX0 X.prog X.w X.K X.mg X.base Ng x sg g cdg X.A X.stack s H C8.E0).tr pn xe) W →
      PE ((cxOf C8.CX0 X.prog X.w X.K X.mg X.base Ng x sg g cdg X.A X.stack s H C8.E0).tr pn xe) (.Call (.Name a p1) [] [] p2) (fun σZ HZ Q => σZ[0]? = some (some (.ref f)) ∧ HZ c' = some (CodeO c' q) ∧ ∃ (E : XK) (Q' : VK), (∀ cls d H', E cls d H' → W cls d σZ H') ∧ (∀ v H', Q' v H' → Q v H') ∧ tl E HZ Q')) →
    H c' = some (CodeO c' q) → TT tl H Q →
    ∃ t, PSs (cxOf C8.CX0 X.prog X.w X.K X.mg X.base Ng x sg g cdg X.A X.stack s H C8.E0).nox bg t ∧ t { nx := fun _ H' => Q .non H', rt := Q } (L2.start Ng [.ref f]) H
section
variable {X : Cx} {T : List (Addr × Str)} {TT : (XK → Hp → VK → Prop) → Hp → VK → Prop} {x a : Str} {g c P : Addr} {k : Nat} {pg : Arguments} {bg : List Stmt} {sg : Scope} {dV kV doc pm cdv ct oc : Value} {an od : Option Addr} {osl : Array (Option Value)} {Ng : List Str}
    {params : Arguments} {body : Expr} {scope : Scope} {t : XK → TE} {p lpos pos : Pos}
/-- behind the lambda's making: the def is called -/
theorem lam_endR {pins : List (Addr × Obj)} {σ : L2.St} {H1 : Hp} {s' : Shared} {Q : VK} {f c' : Addr} {dL docL pmL ctL : Value} {binds : List (Str × Value)}
    (hk : PySem.W.keepIn X.K (.ref g) = true) (lk : X.K.lookup g = some ⟨oc, od, .func (PySem.W.fnOf x x pg bg sg dV kV doc pm an cdv ct), osl⟩) (hcg : PySem.W.codeIn X.K cdv x = true) (hb : L2.Binds X.K (PySem.W.fnOf x x pg bg sg dV kV doc pm an cdv ct) [a] []) (Sg : FnScope Ng [a] sg) (hNg : Ng[0]? = some a) (hva : Vis sg a)
    (hG : GivesR X Ng x sg g cdv bg a (X.env.qual ++ "<lambda>") TT) (hr : Room (k + 2) X.A) (L : LamN X.env.scope scope X.N)
    (hbody : ∀ (A : Around) (outer : List Env) (s : Shared) (H : Hp) (E : XK) (f c' : Addr), Room k (A.deeper (lamEnv X scope s.heap.objs.size f c')) → PE (lamCx X A outer s H E scope f c') body (t E))
    (I1 : Inv X pins σ H1 s') (hf : s'.heap.get? f = some (kdv_obj "<lambda>" (X.env.qual ++ "<lambda>") params (.expr body) scope (cloFrom X.env.cells scope.names []) dL docL pmL c' ctL)) (hfn : H1 f = none) (hfr : f ∉ frs X.stack) (hco : H1 c' = some (CodeO c' (X.env.qual ++ "<lambda>")))
    (hbind : ∀ s1 : Shared, (∀ b o, s'.heap.get? b = some o → H1 b = none → b ∉ frs X.stack → s1.heap.get? b = some o) → BindsTo s1 (kdv_fn "<lambda>" (X.env.qual ++ "<lambda>") params (.expr body) scope (cloFrom X.env.cells scope.names []) dL docL pmL (.ref c') ctL) ⟨[], []⟩ binds)
    (hloc : ∀ y ∈ binds, scope.names.lookup y.1 = some .local) (h : TT (fun E H' Q' => t E σ H' Q') H1 Q)
    (hd : (a == ("__debug__" : Str)) = false := by decide) (hcd : (a == ("__classdict__" : Str)) = false := by decide) :
    wpAny (model X.prog X.w) X.A (call (.ref g) [.ref f]) (EP X pins σ Q) X.xe s' := by
  have rc : codeAny (model X.prog X.w) X.A (.call (.ref g) ⟨[.ref f], []⟩) (CR C8.CX0 X.stack X.prog X.w H1 s' Q C8.E0) s' := by
    refine run_ofS (N := Ng) (ps := [a]) (us := [.ref f]) (vs := [.ref f]) lk hcg Sg hr I1.env0 (hb s' [.ref f] I1.kIn rfl) (.cons rfl .nil) rfl fun hr' => ?_
    obtain ⟨t', ht', hq'⟩ := hG f c' s' H1 Q (fun E H' Q' => t E σ H' Q') (fun W pn xe p1 p2 tk => pe_actR (i := 0) I1 L hf hfn hfr hbind hloc tk hr' (fun A outer s H E hr2 => hbody A outer s H E f c' hr2) hNg hva hd hcd) hco h
    exact ⟨t', ht'.nox, hq'⟩
  refine wpAny_call (codeAny_mono rc fun r s2 hq => ?_)
  cases r with
  | error e => exact (show False from hq).elim
  | ok fl =>
    cases fl with
    | ret u => exact I1.after hq
    | next => exact False.elim hq
    | brk => exact False.elim hq
    | cont => exact False.elim hq
/-- x(lambda: body) -/
theorem pe_lamcallR (hg : Gl X x) (hm : X.mg x = some (.ref g)) (hk : PySem.W.keepIn X.K (.ref g) = true)
    (lk : X.K.lookup g = some ⟨oc, od, .func (PySem.W.fnOf x x pg bg sg dV kV doc pm an cdv ct), osl⟩) (hcg : PySem.W.codeIn X.K cdv x = true) (hb : L2.Binds X.K (PySem.W.fnOf x x pg bg sg dV kV doc pm an cdv ct) [a] []) (Sg : FnScope Ng [a] sg) (hNg : Ng[0]? = some a) (hva : Vis sg a)
    (hG : GivesR X Ng x sg g cdv bg a (X.env.qual ++ "<lambda>") TT)
    (TB : TabB X.base X.mg c P) (hcode : X.env.code = .ref c) (hmT : (P, X.env.qual ++ "<lambda>") ∈ T) (hu : ∀ p ∈ T, p.1 = P → p.2 = X.env.qual ++ "<lambda>") (hr : Room (k + 2) X.A) (L : LamN X.env.scope scope X.N) (hdef : defaultsOf params X.env = ([], []))
    (hbind : ∀ (q : Str) (cl : List (Str × Addr)) (pm cv ctv : Value), bindArgs (PySem.W.kla_fn "<lambda>" q params body scope cl pm cv ctv) ⟨[], []⟩ = pure [])
    (hbody : ∀ (A : Around) (outer : List Env) (s : Shared) (H : Hp) (E : XK) (f c' : Addr), Room k (A.deeper (lamEnv X scope s.heap.objs.size f c')) → PE (lamCx X A outer s H E scope f c') body (t E))
    (hdb : (x == ("__debug__" : Str)) = false := by decide) (hd : (a == ("__debug__" : Str)) = false := by decide) (hcd : (a == ("__classdict__" : Str)) = false := by decide) :
    PE X (.Call (.Name x p) [.Lambda params body scope lpos] [] pos) (tLam T TT t) := by
  refine ⟨fun pins s σ H Q I ⟨hT, h⟩ => ?_⟩
  refine wpAny_Call_Name_kw (ld_glob I hg hm ?_ hdb)
  refine PySem.W.callWith_K (h₀ := X.base) I.ok.mod.kin hk ?_ (by rfl) (by rfl)
  show wpAny _ _ (spliced ((false, eval (.Lambda params body scope lpos) X.env) :: backTo pos (starEach [] X.env))) _ _ s
  refine Calls.spliced_cons (lam_make2 I TB hcode hmT hu hT hdef (L.has I.ok) fun f c' pm' ctv H1 s' I1 eN T1 hf hfn hfr hco => ?_)
  exact Calls.spliced_nil ⟨I1.kIn, lam_endR (binds := []) (dL := .none) (docL := .none) hk lk hcg hb Sg hNg hva hG hr L hbody I1 hf hfn hfr hco (fun s1 _ => .of_eq (hbind _ _ _ _ _)) (fun y hy => absurd hy (by simp)) (h H1 eN T1) hd hcd⟩
/-- x(lambda y=n: body) -/
theorem pe_lamcallD {y : Str} {n : Int} {j : Nat} {cp : Pos} (hg : Gl X x) (hm : X.mg x = some (.ref g)) (hk : PySem.W.keepIn X.K (.ref g) = true)
    (lk : X.K.lookup g = some ⟨oc, od, .func (PySem.W.fnOf x x pg bg sg dV kV doc pm an cdv ct), osl⟩) (hcg : PySem.W.codeIn X.K cdv x = true) (hb : L2.Binds X.K (PySem.W.fnOf x x pg bg sg dV kV doc pm an cdv ct) [a] []) (Sg : FnScope Ng [a] sg) (hNg : Ng[0]? = some a) (hva : Vis sg a)
    (hG : GivesR X Ng x sg g cdv bg a (X.env.qual ++ "<lambda>") TT)
    (TB : TabB X.base X.mg c P) (hcode : X.env.code = .ref c) (hmT : (P, X.env.qual ++ "<lambda>") ∈ T) (hu : ∀ p ∈ T, p.1 = P → p.2 = X.env.qual ++ "<lambda>") (hr : Room (k + 2) X.A) (L : LamN X.env.scope scope X.N)
    (hdef : params.defaults = [.Constant (.int n) j cp]) (hk0 : params.kw_defaults = []) (hyl : scope.names.lookup y = some .local)
    (hbind : ∀ (q : Str) (cl : List (Str × Addr)) (T₀ : Addr) (doc pm cv ctv u : Value), ∃ k : Option (Array Value) → Sem (List (Str × Value)), bindArgs (kdv_fn "<lambda>" q params (.expr body) scope cl (.ref T₀) doc pm cv ctv) ⟨[], []⟩ = seqItems? (.ref T₀) >>= k ∧ k (some #[u]) = pure [(y, u)])
    (hbody : ∀ (A : Around) (outer : List Env) (s : Shared) (H : Hp) (E : XK) (f c' : Addr), Room k (A.deeper (lamEnv X scope s.heap.objs.size f c')) → PE (lamCx X A outer s H E scope f c') body (t E))
    (hdb : (x == ("__debug__" : Str)) = false := by decide) (hd : (a == ("__debug__" : Str)) = false := by decide) (hcd : (a == ("__classdict__" : Str)) = false := by decide) :
    PE X (.Call (.Name x p) [.Lambda params body scope lpos] [] pos) (tLam T TT t) := by
  refine ⟨fun pins s σ H Q I ⟨hT, h⟩ => ?_⟩
  refine wpAny_Call_Name_kw (ld_glob I hg hm ?_ hdb)
  refine PySem.W.callWith_K (h₀ := X.base) I.ok.mod.kin hk ?_ (by rfl) (by rfl)
  show wpAny _ _ (spliced ((false, eval (.Lambda params body scope lpos) X.env) :: backTo pos (starEach [] X.env))) _ _ s
  refine Calls.spliced_cons (lam_makeD I TB hcode hmT hu hT hdef hk0 (L.has I.ok) rfl fun f c' T₀ tk doc' pm' ctv H1 s' I1 eN T1 hf hfn hfr hco g0 n0 f0 => ?_)
  refine Calls.spliced_nil ⟨I1.kIn, lam_endR (binds := [(y, .int n tk)]) hk lk hcg hb Sg hNg hva hG hr L hbody I1 hf hfn hfr hco (fun s1 kp => ?_) (fun z hz => ?_) (h H1 eN T1) hd hcd⟩
  · obtain ⟨kk, e1, e2⟩ := hbind (X.env.qual ++ "<lambda>") (cloFrom X.env.cells scope.names []) T₀ doc' pm' (.ref c') ctv (.int n tk)
    exact BindsTo.of_defaults rfl (kp _ _ g0 n0 f0) rfl e1 e2
  · rw [List.mem_singleton.mp hz]
    exact hyl
end
end LamR

/-! k02: what the program's own defs tell. -/
namespace Dg
open PySem L2 Evl
def top (i : Nat) : Stmt := PySem.Challenge.pw_shortspans_k04_rules_checked.main.body.getD i (.Pass ⟨0, 0, 0, 0⟩)
abbrev sIsInt : Stmt := top 20
abbrev sIsFig : Stmt := top 21
abbrev sNeedB : Stmt := top 22
structure TxG (mg : Str → Option Value) : Prop where
  isi : mg "isinstance" = none
  int : mg "int" = none
  bool : mg "bool" = none
  str : mg "str" = none
  len : mg "len" = none
  sup : mg "super" = none
  fig : ∃ t, mg "FIGURES" = some (.str "0123456789" t)
  least : ∃ t, mg "LEAST_BASE" = some (.int 2 t)
  most : ∃ t, mg "MOST_BASE" = some (.int 10 t)
structure TxI (K : PySem.W.Frag) (mg : Str → Option Value) (fi : Addr) : Prop extends TxG mg where
  isInt : mg "is_integer" = some (.ref fi)
  kInt : PySem.W.keepIn K (.ref fi) = true
/-- whether a value is an integer -/
inductive Kn (K : PySem.W.Frag) (H : Hp) : V → Bool → Prop
  | int (i : Int) : Kn K H (.int i) true
  | oth {v : V} {a : String} {x y : Bool} (t : TyX K H v (.type a)) (h1 : kitB a "int" = some x) (h2 : kitB a "bool" = some y) (h : (x && !y) = false) : Kn K H v false
/-- whether a value is a number -/
inductive Nm (K : PySem.W.Frag) (H : Hp) : V → Bool → Prop
  | int (i : Int) : Nm K H (.int i) (decide (1 ≤ i))
  | oth {v : V} (h : Kn K H v false) : Nm K H v false
/-- whether a value is a base -/
inductive Bs (K : PySem.W.Frag) (H : Hp) : V → Bool → Prop
  | int (i : Int) : Bs K H (.int i) (decide (2 ≤ i) && decide (i ≤ 10))
  | oth {v : V} (h : Kn K H v false) : Bs K H v false
theorem tyx_ex {K : PySem.W.Frag} {H H' : Hp} {v : V} {a : String} (e : Ex H H') (t : TyX K H v (.type a)) : TyX K H' v (.type a) := by
  cases t with
  | base b =>
    cases b with
    | non => exact .base .non
    | bl x => exact .base (.bl x)
    | int i => exact .base (.int i)
    | str x => exact .base (.str x)
    | flt x => exact .base (.flt x)
    | lst h => exact .base (.lst (e _ _ h))
    | frz h => exact .base (.frz (e _ _ h))
    | tup h => exact .base (.tup (e _ _ h))
    | dK h => exact .base (.dK (e _ _ h))
    | dT h => exact .base (.dT (e _ _ h))
  | byt b => exact .byt b
  | set h => exact .set (e _ _ h)
  | kList h c => exact .kList h c
  | kTuple h c => exact .kTuple h c
  | kDict h c => exact .kDict h c
  | fTuple h => exact .fTuple (e _ _ h)
  | fDict h => exact .fDict (e _ _ h)
theorem Kn.ex {K : PySem.W.Frag} {H H' : Hp} {v : V} {b : Bool} (e : Ex H H') (k : Kn K H v b) : Kn K H' v b := by
  cases k with
  | int i => exact .int i
  | oth t h1 h2 h => exact .oth (tyx_ex e t) h1 h2 h
theorem Nm.ex {K : PySem.W.Frag} {H H' : Hp} {v : V} {b : Bool} (e : Ex H H') (k : Nm K H v b) : Nm K H' v b := by
  cases k with
  | int i => exact .int i
  | oth h => exact .oth (h.ex e)
theorem Bs.ex {K : PySem.W.Frag} {H H' : Hp} {v : V} {b : Bool} (e : Ex H H') (k : Bs K H v b) : Bs K H' v b := by
  cases k with
  | int i => exact .int i
  | oth h => exact .oth (h.ex e)
/-- the exception C(f = v) leaves -/
def Leaves (C : Addr) (f : Str) (v : V) (H : Hp) (E : XK) : Prop := ∀ H2 d, Ex H H2 → H2 d = none → E (.ref C) (some d) (upd H2 d (.xd [(f, v)]))
theorem Leaves.go {C : Addr} {f : Str} {v : V} {H H' : Hp} {E : XK} (l : Leaves C f v H E) (e : Ex H H') : Leaves C f v H' E := fun H2 d e2 hd => l H2 d (e.trans e2) hd
section
variable {P : Program} {w : World} {K : PySem.W.Frag} {mg : Str → Option Value} {base : Heap} {ca : Nat → Addr}
theorem ev_isi {σ : St} {H : Hp} {te : TE} {v : V} {a b : String} {r : Bool} (h : Ev te σ H v) (t : TyX K H v (.type a)) (k : kitB a b = some r) : Ev (tCB (rIsi K) (tCons te (tCons (tC (.ty b)) tNil))) σ H (.bl r) :=
  ev_cb (ea_cons h (ea_cons ev_c ea_nil)) fun H1 e Q q => ⟨v, .ty b, .type a, .type b, r, rfl, .ty b, tyx_ex e t, kit_ty k, q _ (Ex.refl _)⟩
def spIsInt (K : PySem.W.Frag) : Sp := fun vs H Q _ => ∃ v b, vs = [v] ∧ Kn K H v b ∧ RetV (.bl b) H Q
theorem scIsInt : FnScope ["value"] ["value"] (defScope sIsInt) := ⟨rfl, rfl, rfl, by decide +kernel, rfl, by decide +kernel, by decide +kernel⟩
theorem ok_isInt {f : Addr} {fd : FuncData} (F : Fun K "is_integer" "is_integer" sIsInt f fd) (T : TxG mg) : FnOk P w K mg base CX0 1 f fd ["value"] (spIsInt K) := by
  refine F.ok scIsInt (fun vs H Q E h => ?_) (fun cdv A outer s H vs Q E hr h => ?_)
  · obtain ⟨v, b, rfl, _⟩ := h
    rfl
  · obtain ⟨v, b, rfl, k, q⟩ := h
    refine ⟨_, pss_one (ps_ret (pe_and (pe_callB call_isi (by rfl) T.isi (by decide +kernel) (pa_cons (pv 0) (pa_cons (pe_bltn (by rfl) T.int (by decide +kernel) (v := .ty "int") rfl) pa_nil)))
      (pe_one (pe_not (pe_callB call_isi (by rfl) T.isi (by decide +kernel) (pa_cons (pv 0) (pa_cons (pe_bltn (by rfl) T.bool (by decide +kernel) (v := .ty "bool") rfl) pa_nil))))))), ?_⟩
    cases k with
    | int i => exact s_ret (ev_andV (ev_isi (ev_var rfl) (.base (.int i)) (r := true) (by decide +kernel)) (fun _ => ev_notV (ev_isi (ev_var rfl) (.base (.int i)) (r := false) (by decide +kernel)))) fun H1 e => q H1 e
    | oth t h1 h2 hx => exact s_ret (ev_is (ev_andV (ev_isi (ev_var rfl) t h1) (fun _ => ev_notV (ev_isi (ev_var rfl) t h2))) (by rw [hx])) fun H1 e => q H1 e
theorem ev_callI {σ : St} {H : Hp} {te : TE} {v : V} {b : Bool} (h : Ev te σ H v) (k : Kn K H v b) : Ev (tCall (spIsInt K) [] E0 (tCons te tNil)) σ H (.bl b) :=
  ev_call (ea_cons h ea_nil) fun H1 e Q q E => ⟨v, b, rfl, k.ex e, fun H2 e2 => q H2 e2⟩
/-- need_base, need_number: nothing, or the exception -/
def spNeed (J : Hp → V → Bool → Prop) (C : Addr) : Sp := fun vs H Q E => ∃ v b, vs = [v] ∧ J H v b ∧ (b = true → RetV .non H Q) ∧ (b = false → Leaves C "value" v H E)
theorem scNeedB : FnScope ["base"] ["base"] (defScope sNeedB) := ⟨rfl, rfl, rfl, by decide +kernel, rfl, by decide +kernel, by decide +kernel⟩
end
end Dg

namespace L2
open PySem PySem.Spec PyProof.Rows
section
variable {X : Cx} {e : Expr} {te : TE} {p2 p3 p4 pos : Pos} {j : Nat}
/-- xs[::-1] of a list: a new one -/
def tBack (K : PySem.W.Frag) (te : TE) : TE := fun σ H Q => te σ H fun x H2 => ∃ a xs, x = .ref a ∧ SqL K H2 a xs ∧ ∀ p, H2 p = none → Q (.ref p) (upd H2 p (.lst xs.reverse))
theorem vals_reverse : ∀ {xs : List V} {us : List Value}, Vals xs us → Vals xs.reverse us.reverse
  | _, _, .nil => .nil
  | _, _, .cons r t => by
    rw [List.reverse_cons, List.reverse_cons]
    exact (vals_reverse t).append (.cons r .nil)
theorem pe_back (he : PE X e te) : PE X (.Subscript e (.Slice none none (some (.UnaryOp .USub (.Constant (.int 1) j p3) p4)) p2) pos) (tBack X.K te) := by
  refine ⟨fun pins s σ H Q I h => ?_⟩
  refine Subscript_ (thn (he.run pins s σ H _ I h) fun v s1 ⟨x, H1, I1, r1, a, xs, ex, hx, q⟩ => ?_)
  subst ex
  obtain rfl : v = Value.ref a := r1
  refine wpAny_Slice ?_
  rw [evalPart_none]
  refine wpAny_pure (wpAny_pure ?_)
  rw [evalPart_some]
  refine thn ((pe_un (pos := p4) un_neg (pe_int (X := X) (i := 1) (j := j) (pos := p3))).run pins s1 σ H1 (fun y H2 => y = .int (-1) ∧ H2 = H1) I1 ⟨1, rfl, rfl, rfl⟩) fun vu s3 ⟨y, H3, I3, r3, ey, eH⟩ => ?_
  subst ey
  rw [eH] at I3
  obtain ⟨tk, rfl⟩ := r3
  have I4 : Inv X pins σ H1 { s3 with heap := s3.heap.push { cls := .type "slice", data := .fields #[.none, .none, .int (-1) tk] } } := I3.kept (t' := s3.toks) fun b ob q => Heap.get?_push_of_some _ q
  obtain ⟨its, r, ht, hz⟩ := I4.list hx
  show wpAny (model X.prog X.w) X.A (subscriptTail e (.Slice none none (some (.UnaryOp .USub (.Constant (.int 1) j p3) p4)) p2) (.ref a) (.ref s3.heap.objs.size)) (EP X pins σ Q) X.xe { s3 with heap := s3.heap.push { cls := .type "slice", data := .fields #[.none, .none, .int (-1) tk] } }
  refine tail_any (ops := _) ht.isList.typeIs slot_list_getitem.lookup ?_ (by with_unfolding_all rfl)
  refine wpAny_getItem_list_slice ht.isList (Heap.IsSliceOf.new ..) .none .none (.int _ _) (by simp) ?_ (by rw [List.size_toArray, ← r.length]; exact hz)
  rw [PySem.W.krv_pick]
  refine ⟨.ref _, _, I4.laid (t' := s3.toks) (o := .lst xs.reverse) (fun b ob q => Heap.get?_push_of_some _ q) (Nat.le_refl _) ?_, rfl, q _ (I4.hok.fresh (Nat.le_refl _))⟩
  exact ⟨by rw [List.length_reverse]; exact hz, its.reverse, 0, vals_reverse r, Heap.get?_push_size _ rfl⟩
end
end L2

namespace Evl
open PySem L2
/-- a <= b <= c of whole numbers -/
theorem ev_chI {σ : St} {H : Hp} {ta tb tc : TE} {a b c : Int} (ha : Ev ta σ H (.int a)) (hb : Ev tb σ H (.int b)) (hc : Ev tc σ H (.int c)) :
    Ev (tChain (rI0 fun i j => .bl (decide (i ≤ j))) (rI0 fun i j => .bl (decide (i ≤ j))) ta tb tc) σ H (.bl (decide (a ≤ b) && decide (b ≤ c))) := fun H1 e Q q =>
  ha H1 e _ fun H2 e2 => hb H2 (e.trans e2) _ fun H3 e3 => ⟨a, b, rfl, rfl, _, rfl, by
    by_cases h : a ≤ b
    · rw [if_pos (decide_eq_true h)]
      exact hc H3 ((e.trans e2).trans e3) _ fun H4 e4 => ⟨b, c, rfl, rfl, by
        have z := q H4 ((e2.trans e3).trans e4)
        rw [decide_eq_true h, Bool.true_and] at z
        exact z⟩
    · rw [if_neg (by simpa using h)]
      have z := q H3 (e2.trans e3)
      rw [decide_eq_false h, Bool.false_and] at z
      exact z⟩
end Evl
namespace Dg
open PySem L2 Evl
section
variable {P : Program} {w : World} {K : PySem.W.Frag} {mg : Str → Option Value} {base : Heap} {ca : Nat → Addr} {fi : Addr}
theorem ok_needB {f : Addr} {fd fdi : FuncData} (F : Fun K "need_base" "need_base" sNeedB f fd) (GI : FnOk P w K mg base CX0 1 fi fdi ["value"] (spIsInt K)) (bI : Binds K fdi ["value"] []) (T : TxI K mg fi)
    (M : Mks P K mg (ca 1) ["value"]) (gC : mg "BadBase" = some (.ref (ca 1))) : FnOk P w K mg base (L2.CX P w) 2 f fd ["base"] (spNeed (Bs K) (ca 1)) := by
  refine F.okX scNeedB (fun vs H Q E h => ?_) (fun cdv A outer s H vs Q E hr h => ?_)
  · obtain ⟨v, b, rfl, _⟩ := h
    rfl
  · obtain ⟨v, b, rfl, k, qy, qn⟩ := h
    obtain ⟨t1, hl⟩ := T.least
    obtain ⟨t2, hm⟩ := T.most
    refine ⟨_, pss_one (ps_if (PW.pt (pw_or (pt_not (pt_val (pe_call GI hr (by rfl) T.isInt T.kInt bI .nil pass0 (pa_cons (pv 0) pa_nil)))) (pw_or1 (pt_not (pt_chain op_le op_le (pe_glob (by rfl) hl (v := .int 2) ⟨_, rfl⟩) (pv 0) (pe_glob (by rfl) hm (v := .int 10) ⟨_, rfl⟩))))))
      (pss_one (ps_raise rfl (takes_of rfl rfl rfl rfl) (pmk_mks M T.sup hr (by simp) (pa_cons (pv 0) pa_nil) (by rfl) gC))) pss_nil), ?_⟩
    cases k with
    | int i =>
      refine s_when (b := !(decide (2 ≤ i) && decide (i ≤ 10))) (et_is (et_or (et_not (et_B (ev_callI (ev_var rfl) (.int i)))) fun _ => et_not (et_test (ev_chI ev_c (ev_var rfl) ev_c))) (by simp)) (fun z H1 e => ?_) (fun z H1 e => qy (by simpa using z) H1 e)
      exact ⟨_, rfl, rfl, fun d hd => qn (by rw [Bool.not_eq_true'] at z; exact z) H1 d e hd⟩
    | oth h =>
      refine s_when (b := true) (et_is (et_or (b := true) (et_not (et_B (ev_callI (ev_var rfl) h))) fun z => nomatch z) (by simp)) (fun z H1 e => ?_) (fun z => nomatch z)
      exact ⟨_, rfl, rfl, fun d hd => qn rfl H1 d e hd⟩
end
end Dg

namespace Evl
open PySem L2
/-- a comprehension over the signs of a text -/
theorem el_lcS {x : Str} {σ : St} {H : Hp} {tl : TE} {te : TE} {j : Nat} {vs : List Nat} (v : Nat → V) (h : Ev tl σ H (.str x)) (hz : x.length ≤ 40000) (hw : ∀ y, wipe ((wipe σ vs).set j (some y)) vs = wipe σ vs)
    (he : ∀ (i c : Nat) H1, Ex H H1 → x.cps[i]? = some c → Ev te ((wipe σ vs).set j (some (.str ⟨#[c]⟩))) H1 (v c)) :
    EvL (tLc (iStr tl) (gName j) tYes te vs) σ H (x.cps.toList.map v) := fun H0 e Q q => h H0 e _ fun H1 e1 => ⟨x, rfl, fun D hD => by
  have sz : x.cps.toList.length = x.cps.size := Array.length_toList
  refine ⟨fun i m H' => m = x.cps.size - i ∧ i ≤ x.cps.size ∧ H' D = some (.lst ((x.cps.toList.take i).map v)) ∧ Ex H1 H', ⟨x.cps.size, by simp, Nat.zero_le _, by simp [upd_same], Ex.new hD⟩, ?_⟩
  rintro i m H' ⟨rfl, hi, hL, ex⟩
  by_cases hlt : i < x.cps.size
  · refine .inr ⟨hlt, fun H2 => H2 D = some (.lst ((x.cps.toList.take (i + 1)).map v)) ∧ Ex H1 H2, fun H2 ⟨a, b⟩ => ⟨x.cps.size - (i + 1), by omega, rfl, hlt, a, b⟩, fun y H2 hy => ?_⟩
    obtain ⟨rfl, c, hc, rfl⟩ := hy
    refine ⟨hw _, ?_⟩
    rw [show (tYes : TT) = fun _ H Q => Q true H from rfl]
    dsimp only
    rw [if_pos rfl]
    refine he i c H2 ((e.trans e1).trans ex) hc H2 (Ex.refl _) _ fun H4 e4 => ⟨_, e4 _ _ hL, ?_, ?_, ?_⟩
    · rw [List.length_map, List.length_take, sizeLine_eq]
      have : x.cps.size ≤ 40000 := hz
      omega
    · rw [upd_same, List.take_add_one, List.map_append]
      have : x.cps.toList[i]? = some c := by rw [Array.getElem?_toList]; exact hc
      rw [this]
      rfl
    · exact (ex.trans e4).mut hD
  · have e3 : i = x.cps.size := by omega
    subst e3
    refine .inl ⟨Nat.le_refl _, q D H' (fresh_back e1 hD) (e1.trans ex) ?_⟩
    rw [List.take_of_length_le (by rw [sz]; exact Nat.le_refl _)] at hL
    exact hL⟩
end Evl
namespace Dg
open PySem L2 Evl TL
/-- whether a value is a text of 1 to so many digits of a base -/
def isFigs (β m : Nat) (x : Str) : Bool := (decide (1 ≤ x.length) && decide (x.length ≤ m)) && (tl x).all fun c => decide (48 ≤ c ∧ c < 48 + β)
def figsO (β m : Nat) : Option Str → Bool
  | some x => isFigs β m x
  | none => false
inductive Tx (K : PySem.W.Frag) (H : Hp) : V → Option Str → Prop
  | str (x : Str) : Tx K H (.str x) (some x)
  | oth {v : V} {a : String} (t : TyX K H v (.type a)) (h : kitB a "str" = some false) : Tx K H v none
theorem Tx.ex {K : PySem.W.Frag} {H H' : Hp} {v : V} {b : Option Str} (e : Ex H H') (k : Tx K H v b) : Tx K H' v b := by
  cases k with
  | str x => exact .str x
  | oth t h => exact .oth (tyx_ex e t) h
theorem cut_figs {β : Nat} (h2 : 2 ≤ β) (h10 : β ≤ 10) (c : Nat) : decide (c ∈ (cutS "0123456789" none (some (β : Int))).cps.toList) = decide (48 ≤ c ∧ c < 48 + β) := by
  have e : (cutS "0123456789" none (some (β : Int))).cps.toList = (List.range β).map (48 + ·) := by
    have cc : β = 2 ∨ β = 3 ∨ β = 4 ∨ β = 5 ∨ β = 6 ∨ β = 7 ∨ β = 8 ∨ β = 9 ∨ β = 10 := by omega
    rcases cc with rfl | rfl | rfl | rfl | rfl | rfl | rfl | rfl | rfl <;> decide +kernel
  rw [e]
  apply decide_eq_decide.mpr
  rw [List.mem_map]
  constructor
  · rintro ⟨a, ha, rfl⟩
    have := List.mem_range.mp ha
    omega
  · rintro ⟨a, b⟩
    exact ⟨c - 48, List.mem_range.mpr (by omega), by omega⟩
section
variable {P : Program} {w : World} {K : PySem.W.Frag} {mg : Str → Option Value} {base : Heap} {ca : Nat → Addr}
theorem ev_allL {σ : St} {H : Hp} {te : TE} {bs : List Bool} (h : EvL te σ H (bs.map V.bl)) : Ev (tCB (rAll K) (tCons te tNil)) σ H (.bl (bs.all id)) := fun H1 e Q q =>
  h H1 e _ fun p H2 hp e2 h2 => ⟨p, bs, rfl, sq_of h2, q H2 e2⟩
/-- is_figures(base, value, most) -/
def spIsFig (K : PySem.W.Frag) : Sp := fun vs H Q _ => ∃ (β m : Nat) (v : V) (o : Option Str), vs = [.int β, v, .int m] ∧ 2 ≤ β ∧ β ≤ 10 ∧ m ≤ 40000 ∧ Tx K H v o ∧ (∀ x, o = some x → x.length ≤ sizeLine) ∧ RetV (.bl (figsO β m o)) H Q
theorem scIsFig : FnScope ["base", "value", "most", "figure"] ["base", "value", "most"] (defScope sIsFig) := ⟨rfl, rfl, rfl, by decide +kernel, rfl, by decide +kernel, by decide +kernel⟩
theorem ok_isFig {f : Addr} {fd : FuncData} (F : Fun K "is_figures" "is_figures" sIsFig f fd) (T : TxG mg) (mA : mg "all" = none) : FnOk P w K mg base CX0 1 f fd ["base", "value", "most"] (spIsFig K) := by
  refine F.ok scIsFig (fun vs H Q E h => ?_) (fun cdv A outer s H vs Q E hr h => ?_)
  · obtain ⟨_, _, _, _, rfl, _⟩ := h
    rfl
  · obtain ⟨β, m, v, o, rfl, b2, b10, hm, k, hz, q⟩ := h
    obtain ⟨t1, hf⟩ := T.fig
    refine ⟨_, pss_cons (ps_if (PW.pt (pw_or (pt_not (pt_val (pe_callB call_isi (by rfl) T.isi (by decide +kernel) (pa_cons (pv 1) (pa_cons (pe_bltn (by rfl) T.str (by decide +kernel) (v := .ty "str") rfl) pa_nil))))) (pw_or1 (pt_not (pt_chain op_le op_le pe_int (pe_callB call_len_str (by rfl) T.len (by decide +kernel) (pa_cons (pv 1) pa_nil)) (pv 2)))))) (pss_one (ps_ret pe_bl)) pss_nil)
      (pss_one (ps_ret (pe_callB (cr_all rfl) (by rfl) mA (by decide +kernel) (pa_cons (pe_lc (own := [("figure", 3)]) (g := gName 3) (tt := tYes) rfl scIsFig.nd (pi_str (pv 1)) (blkOk_by (own := [("figure", 3)]) (N := ["base", "value", "most", "figure"]) (sc := defScope sIsFig) (by decide +kernel)) (fun _ _ _ _ _ => pg_name (i := 3) scIsFig.nd rfl (Or.inl rfl)) (fun _ _ _ _ _ => pts_nil)
        (fun _ _ _ _ _ => pe_cmpR op_in_sign (pv 3) (pe_slice (sl_str) (pe_glob (by rfl) hf (v := .str "0123456789") ⟨_, rfl⟩) po_none (po_some (pv 0))) (by rfl))) pa_nil)))), ?_⟩
    cases k with
    | oth t h =>
      exact q_when (b := true) (et_is (et_or (b := true) (et_not (et_B (ev_isi (ev_var rfl) t h))) fun z => nomatch z) (by simp)) (fun z H1 e => q H1 e) (fun z => nomatch z)
    | str x =>
      have hx := hz x rfl
      have eT : Ev (tCB (fun xs H Q => ∃ z : Str, xs = [.str z] ∧ z.length ≤ sizeLine ∧ Q (.int z.length) H) (tCons (tVar 1) tNil)) (L2.start ["base", "value", "most", "figure"] [.int β, .str x, .int m]) H (.int (x.length : Int)) :=
        ev_cb (ea_cons (ev_var rfl) ea_nil) fun H1 e Q q => ⟨x, rfl, hx, q _ (Ex.refl _)⟩
      refine q_when (b := !(decide ((1 : Int) ≤ (x.length : Int)) && decide ((x.length : Int) ≤ (m : Int)))) (et_is (et_or (et_not (et_B (ev_isi (r := true) (ev_var rfl) (.base (.str x)) (by decide +kernel)))) fun _ => et_not (et_test (ev_chI ev_c eT (ev_var rfl)))) (by simp)) (fun z H1 e => ?_) (fun z H1 e => ?_)
      · have e0 : isFigs β m x = false := by
          rw [Bool.not_eq_true'] at z
          unfold isFigs
          have : (decide (1 ≤ x.length) && decide (x.length ≤ m)) = false := by
            rw [← z]
            congr 1 <;> exact decide_eq_decide.mpr (by omega)
          rw [this, Bool.false_and]
        have q' := q
        dsimp only [figsO] at q'
        rw [e0] at q'
        exact q' H1 e
      · have z' : (decide ((1 : Int) ≤ (x.length : Int)) && decide ((x.length : Int) ≤ (m : Int))) = true := by simpa using z
        have hlen : x.length ≤ 40000 := by
          have := of_decide_eq_true (Bool.and_eq_true_iff.mp z').2
          omega
        have e1 : isFigs β m x = ((tl x).map fun c => decide (48 ≤ c ∧ c < 48 + β)).all id := by
          unfold isFigs
          have : (decide (1 ≤ x.length) && decide (x.length ≤ m)) = true := by
            rw [← z']
            congr 1 <;> exact decide_eq_decide.mpr (by omega)
          rw [this, Bool.true_and, List.all_map]
          rfl
        have q' := q
        dsimp only [figsO] at q'
        rw [e1] at q'
        refine s_ret (ev_allL (bs := (tl x).map fun c => decide (48 ≤ c ∧ c < 48 + β)) ?_) fun H2 e2 => q' H2 (e.trans e2)
        rw [List.map_map]
        refine el_lcS (v := fun c => V.bl (decide (48 ≤ c ∧ c < 48 + β))) (ev_var rfl) hlen (fun _ => rfl) (fun i c H2 e2 hc => ?_)
        refine ev_is (ev_op (ev_var rfl) (y := .str (cutS "0123456789" none (some (β : Int)))) (fun H3 e3 Q q => ⟨_, rfl, _, rfl, _, rfl, by decide, q H3 (Ex.refl _)⟩) (z := .bl (decide (c ∈ (cutS "0123456789" none (some (β : Int))).cps.toList))) (fun H3 e3 Q q => ⟨c, _, rfl, rfl, q H3 (Ex.refl _)⟩)) ?_
        rw [cut_figs b2 b10]
end
end Dg

/-! Things as data: what lies at the heap is that data; what a rule is, of data. -/
namespace Dt
open PySem L2 Evl Dg LamR LamX
open Dr (StAt SameB)
mutual
/-- the thing is that data, as the heap stands; texts are short -/
inductive Pt (H : Hp) : V → PyData → Prop
  | non : Pt H .non .none
  | bl (b : Bool) : Pt H (.bl b) (.bool b)
  | int (i : Int) : Pt H (.int i) (.int i)
  | str (x : Str) (h : x.length ≤ 3000) : Pt H (.str x) (.str x)
  | tup {a : Addr} {vs : List V} {ds : List PyData} : H a = some (.tup vs) → PtAll H vs ds → Pt H (.ref a) (.tuple ds)
  | lst {a : Addr} {vs : List V} {ds : List PyData} : H a = some (.lst vs) → PtAll H vs ds → Pt H (.ref a) (.list ds)
  | nil {a : Addr} : H a = some (.dK []) → Pt H (.ref a) (.dict [])
inductive PtAll (H : Hp) : List V → List PyData → Prop
  | nil : PtAll H [] []
  | cons {v : V} {d : PyData} {vs : List V} {ds : List PyData} : Pt H v d → PtAll H vs ds → PtAll H (v :: vs) (d :: ds)
end
mutual
theorem Pt.extN {H H' : Hp} (e : ExtN H H') : ∀ {v : V} {d : PyData}, Pt H v d → Pt H' v d
  | _, .none, h => by cases h; exact .non
  | _, .bool _, h => by cases h; exact .bl _
  | _, .int _, h => by cases h; exact .int _
  | _, .str _, h => by cases h with | str _ z => exact .str _ z
  | _, .tuple ds, h => by
    cases h with
    | tup hs ha => exact .tup (e _ _ hs (by simp)) (PtAll.extN e ha)
  | _, .list ds, h => by
    cases h with
    | lst hs ha => exact .lst (e _ _ hs (by simp)) (PtAll.extN e ha)
  | _, .dict _, h => by
    cases h with
    | nil hs => exact .nil (e _ _ hs (by simp))
theorem PtAll.extN {H H' : Hp} (e : ExtN H H') : ∀ {vs : List V} {ds : List PyData}, PtAll H vs ds → PtAll H' vs ds
  | _, [], h => by cases h; exact .nil
  | _, d :: ds, h => by
    cases h with
    | cons h1 h2 => exact .cons (Pt.extN e h1) (PtAll.extN e h2)
end
theorem Pt.ex {H H' : Hp} (e : Ex H H') {v : V} {d : PyData} (h : Pt H v d) : Pt H' v d := h.extN (ExtN.of e)
theorem PtAll.ex {H H' : Hp} (e : Ex H H') {vs : List V} {ds : List PyData} (h : PtAll H vs ds) : PtAll H' vs ds := h.extN (ExtN.of e)
def isI : PyData → Bool
  | .int _ => true
  | _ => false
mutual
/-- no list in it is a row of integers alone -/
def okD : PyData → Bool
  | .list ds => !(ds.all isI && !ds.isEmpty) && okDs ds
  | .tuple ds => okDs ds
  | _ => true
def okDs : List PyData → Bool
  | [] => true
  | d :: ds => okD d && okDs ds
end
theorem PtAll.ints {H : Hp} : ∀ {is : List Int} {ds : List PyData}, PtAll H (is.map V.int) ds → ds.all isI = true ∧ ds.length = is.length
  | [], ds, h => by
    cases h
    exact ⟨rfl, rfl⟩
  | i :: is, ds, h => by
    cases h with
    | cons h1 h2 =>
      obtain ⟨a, b⟩ := PtAll.ints h2
      cases h1
      exact ⟨by simp [isI, a], by simp [b]⟩
mutual
theorem Pt.same {H H' : Hp} {p c l : Addr} {n : Nat} {a : Int} (S : StAt H p c l n a) (e : SameB H H' p l) : ∀ {v : V} {d : PyData}, Pt H v d → okD d = true → Pt H' v d
  | _, .none, h, _ => by cases h; exact .non
  | _, .bool _, h, _ => by cases h; exact .bl _
  | _, .int _, h, _ => by cases h; exact .int _
  | _, .str _, h, _ => by cases h with | str _ z => exact .str _ z
  | _, .tuple ds, h, k => by
    cases h with
    | tup hs ha =>
      obtain ⟨ls, hl, _⟩ := S.l
      exact .tup (e _ _ hs (ne_of hs S.d (by intro z; cases z)) (ne_of hs hl (by intro z; cases z))) (PtAll.same S e ha (by rw [okD] at k; exact k))
  | _, .list ds, h, k => by
    cases h with
    | @lst a vs _ hs ha =>
      obtain ⟨ls, hl, hn⟩ := S.l
      rw [okD, Bool.and_eq_true] at k
      refine .lst (e _ _ hs (ne_of hs S.d (by intro z; cases z)) (fun z => ?_)) (PtAll.same S e ha k.2)
      rw [z, hl] at hs
      have hv : vs = ls.map V.int := by
        injection hs with hs
        injection hs with hs
        exact hs.symm
      rw [hv] at ha
      obtain ⟨q1, q2⟩ := PtAll.ints ha
      have n0 := S.n0
      have : ds.isEmpty = false := by
        cases ds with
        | nil =>
          rw [List.length_nil] at q2
          omega
        | cons _ _ => rfl
      rw [q1, this] at k
      exact absurd k.1 (by decide)
  | _, .dict _, h, _ => by
    cases h with
    | nil hs =>
      obtain ⟨ls, hl, _⟩ := S.l
      refine .nil (e _ _ hs (fun z => ?_) (ne_of hs hl (by intro z; cases z)))
      rw [z, S.d] at hs
      injection hs with hs
      injection hs with hs
      cases hs
theorem PtAll.same {H H' : Hp} {p c l : Addr} {n : Nat} {a : Int} (S : StAt H p c l n a) (e : SameB H H' p l) : ∀ {vs : List V} {ds : List PyData}, PtAll H vs ds → okDs ds = true → PtAll H' vs ds
  | _, [], h, _ => by cases h; exact .nil
  | _, d :: ds, h, k => by
    cases h with
    | cons h1 h2 =>
      rw [okDs, Bool.and_eq_true] at k
      exact .cons (Pt.same S e h1 k.1) (PtAll.same S e h2 k.2)
end
theorem PtAll.length {H : Hp} : ∀ {vs : List V} {ds : List PyData}, PtAll H vs ds → vs.length = ds.length
  | _, [], h => by cases h; rfl
  | _, d :: ds, h => by
    cases h with
    | cons h1 h2 => rw [List.length_cons, List.length_cons, PtAll.length h2]
theorem PtAll.get {H : Hp} : ∀ {vs : List V} {ds : List PyData}, PtAll H vs ds → ∀ {i : Nat} {d : PyData}, ds[i]? = some d → ∃ v, vs[i]? = some v ∧ Pt H v d
  | _, [], h, i, d, hd => by simp at hd
  | _, d :: ds, h, i, d', hd => by
    cases h with
    | cons h1 h2 =>
      cases i with
      | zero =>
        simp only [List.getElem?_cons_zero, Option.some.injEq] at hd
        subst hd
        exact ⟨_, rfl, h1⟩
      | succ i =>
        simp only [List.getElem?_cons_succ] at hd
        obtain ⟨v, hv, k⟩ := PtAll.get h2 hd
        exact ⟨v, by simpa using hv, k⟩
theorem PtAll.get2 {H : Hp} : ∀ {vs : List V} {ds : List PyData}, PtAll H vs ds → ∀ {i : Nat} {v : V}, vs[i]? = some v → ∃ d, ds[i]? = some d ∧ Pt H v d
  | _, [], h, i, v, hv => by
    cases h
    simp at hv
  | _, d :: ds, h, i, v', hv => by
    cases h with
    | cons h1 h2 =>
      cases i with
      | zero =>
        simp only [List.getElem?_cons_zero, Option.some.injEq] at hv
        subst hv
        exact ⟨_, rfl, h1⟩
      | succ i =>
        simp only [List.getElem?_cons_succ] at hv
        obtain ⟨d, hd, k⟩ := PtAll.get2 h2 hv
        exact ⟨d, by simpa using hd, k⟩
theorem PtAll.app {H : Hp} : ∀ {vs : List V} {ds : List PyData}, PtAll H vs ds → ∀ {ws : List V} {es : List PyData}, PtAll H ws es → PtAll H (vs ++ ws) (ds ++ es)
  | _, [], h, ws, es, k => by cases h; exact k
  | _, d :: ds, h, ws, es, k => by
    cases h with
    | cons h1 h2 => exact .cons h1 (PtAll.app h2 k)
theorem PtAll.take {H : Hp} : ∀ {vs : List V} {ds : List PyData}, PtAll H vs ds → ∀ n : Nat, PtAll H (vs.take n) (ds.take n)
  | _, [], h, n => by
    cases h
    rw [List.take_nil, List.take_nil]
    exact .nil
  | _, d :: ds, h, n => by
    cases h with
    | cons h1 h2 =>
      cases n with
      | zero => exact .nil
      | succ n =>
        rw [List.take_succ_cons, List.take_succ_cons]
        exact .cons h1 (PtAll.take h2 n)
/-- its type -/
def tyN : PyData → String
  | .none => "NoneType"
  | .bool _ => "bool"
  | .int _ => "int"
  | .str _ => "str"
  | .tuple _ => "tuple"
  | .list _ => "list"
  | .dict _ => "dict"
def isT : PyData → Bool
  | .tuple _ => true
  | _ => false
def isS : PyData → Bool
  | .str _ => true
  | _ => false
section
variable {K : PySem.W.Frag} {H : Hp} {v : V} {d : PyData}
theorem Pt.ty (h : Pt H v d) : TyX K H v (.type (tyN d)) := by
  cases h with
  | non => exact .base .non
  | bl b => exact .base (.bl b)
  | int i => exact .base (.int i)
  | str x _ => exact .base (.str x)
  | tup h _ => exact .base (.tup h)
  | lst h _ => exact .base (.lst h)
  | nil h => exact .base (.dK h)
theorem kit_tup (d : PyData) : kitB (tyN d) "tuple" = some (isT d) := by
  cases d <;> simp only [tyN, isT] <;> decide +kernel
theorem kit_str (d : PyData) : kitB (tyN d) "str" = some (isS d) := by
  cases d <;> simp only [tyN, isS] <;> decide +kernel
theorem Pt.kn (h : Pt H v d) : Kn K H v (isI d) := by
  have t : TyX K H v (.type (tyN d)) := h.ty
  cases h with
  | int i => exact .int i
  | non => exact .oth (x := false) (y := false) t (by show kitB "NoneType" "int" = _; decide +kernel) (by show kitB "NoneType" "bool" = _; decide +kernel) rfl
  | bl b => exact .oth (x := true) (y := true) t (by show kitB "bool" "int" = _; decide +kernel) (by show kitB "bool" "bool" = _; decide +kernel) rfl
  | str x _ => exact .oth (x := false) (y := false) t (by show kitB "str" "int" = _; decide +kernel) (by show kitB "str" "bool" = _; decide +kernel) rfl
  | tup h _ => exact .oth (x := false) (y := false) t (by show kitB "tuple" "int" = _; decide +kernel) (by show kitB "tuple" "bool" = _; decide +kernel) rfl
  | lst h _ => exact .oth (x := false) (y := false) t (by show kitB "list" "int" = _; decide +kernel) (by show kitB "list" "bool" = _; decide +kernel) rfl
  | nil h => exact .oth (x := false) (y := false) t (by show kitB "dict" "int" = _; decide +kernel) (by show kitB "dict" "bool" = _; decide +kernel) rfl
def txtD : PyData → Option Str
  | .str x => some x
  | _ => none
theorem Pt.tx (h : Pt H v d) : Tx K H v (txtD d) ∧ ∀ x, txtD d = some x → x.length ≤ sizeLine := by
  have t : TyX K H v (.type (tyN d)) := h.ty
  have k := kit_str d
  cases h with
  | str x z => exact ⟨.str x, fun y e => by
      cases e
      exact Nat.le_trans z (by rw [sizeLine_eq]; decide)⟩
  | non => exact ⟨.oth t k, fun y e => by cases e⟩
  | bl b => exact ⟨.oth t k, fun y e => by cases e⟩
  | int i => exact ⟨.oth t k, fun y e => by cases e⟩
  | tup h _ => exact ⟨.oth t k, fun y e => by cases e⟩
  | lst h _ => exact ⟨.oth t k, fun y e => by cases e⟩
  | nil h => exact ⟨.oth t k, fun y e => by cases e⟩
theorem ev_isiT {σ : St} {te : TE} (h : Ev te σ H v) (k : Pt H v d) : Ev (tCB (rIsi K) (tCons te (tCons (tC (.ty "tuple")) tNil))) σ H (.bl (isT d)) := ev_isi h k.ty (kit_tup d)
theorem ev_isiS {σ : St} {te : TE} (h : Ev te σ H v) (k : Pt H v d) : Ev (tCB (rIsi K) (tCons te (tCons (tC (.ty "str")) tNil))) σ H (.bl (isS d)) := ev_isi h k.ty (kit_str d)
end
/-- an integer from a least one to 6 -/
def sizeB (l : Int) : PyData → Bool
  | .int i => decide (l ≤ i) && decide (i ≤ 6)
  | _ => false
def intD : PyData → Int
  | .int i => i
  | _ => 0
def isN : PyData → Bool
  | .none => true
  | _ => false
def boundsB (a b : PyData) : Bool := sizeB 1 a && (isN b || sizeB (intD a) b)
def tupD : PyData → List PyData
  | .tuple ds => ds
  | _ => []
def eqS (w : Str) : PyData → Bool
  | .str x => decide (x = w)
  | _ => false
def begB (d : PyData) (w : Str) (n : Nat) : Bool := isT d && (decide ((tupD d).length = n) && eqS w ((tupD d).headD .none))
def at_ (i : Nat) (d : PyData) : PyData := (tupD d).getD i .none
def condB (β : Nat) (d : PyData) : Bool :=
  if begB d "ends" 2 = true then figsO β 2 (txtD (at_ 1 d)) else if begB d "near" 2 = true then sizeB 0 (at_ 1 d) else if (begB d "length" 3 || begB d "changed" 3) = true then boundsB (at_ 1 d) (at_ 2 d) else false
def keepB (d : PyData) : Bool := if (begB d "changed" 2 || begB d "last" 2) = true then sizeB 1 (at_ 1 d) else begB d "all" 1
def ruleB (β : Nat) (d : PyData) : Bool := isT d && (decide ((tupD d).length = 2) && (isT (at_ 0 d) && (decide ((tupD (at_ 0 d)).length ≤ 3) && ((tupD (at_ 0 d)).all (condB β) && keepB (at_ 1 d)))))
end Dt

/-! What the program's defs tell of data. -/
namespace Evl
open PySem L2
/-- a comprehension over a tuple -/
theorem el_lcT {K : PySem.W.Frag} {σ : St} {H : Hp} {t : TT} {te : TE} {a : Addr} {xs : List V} {tl : TE} {j : Nat} {vs : List Nat} (f : Nat → Bool) (v : Nat → V) (h : Ev tl σ H (.ref a)) (hx : SqT K H a xs) (hz : xs.length ≤ 40000) (hw : ∀ x, wipe ((wipe σ vs).set j (some x)) vs = wipe σ vs)
    (ht : ∀ (i : Nat) (x : V) H1, Ex H H1 → xs[i]? = some x → EvT t ((wipe σ vs).set j (some x)) H1 (f i)) (he : ∀ (i : Nat) (x : V) H1, Ex H H1 → xs[i]? = some x → f i = true → Ev te ((wipe σ vs).set j (some x)) H1 (v i)) :
    EvL (tLc (iTup K tl) (gName j) t te vs) σ H (given xs.length f v) := fun H0 e Q q => h H0 e _ fun H1 e1 => ⟨a, rfl, ⟨xs, ex_t (e.trans e1) hx⟩, fun Dl hD =>
  lc_tup (xs := xs) (Cw H1 f v Dl) ⟨hD, Ex.new hD, upd_same⟩ (fun i H' _ p => ex_t ((e.trans e1).trans p.2.1) hx) (fun i x H' hi p => ⟨hw x, cw_turn p (by have := (List.getElem?_eq_some_iff.mp hi).1; omega) (ht i x H1 (e.trans e1) hi) (fun hf => he i x H1 (e.trans e1) hi hf)⟩)
    (fun H' p => q Dl H' (fresh_back e1 p.1) (e1.trans p.2.1) p.2.2)⟩
theorem given_all {α : Type} (xs : List α) (g : α → V) (z : V) : given xs.length (fun _ => true) (fun i => match xs[i]? with | some x => g x | none => z) = xs.map g := by
  unfold given
  have e : (List.range xs.length).filter (fun _ => true) = List.range xs.length := List.filter_eq_self.mpr fun _ _ => rfl
  rw [e]
  apply List.ext_getElem?
  intro i
  rw [List.getElem?_map, List.getElem?_map]
  by_cases h : i < xs.length
  · have h1 : (List.range xs.length)[i]? = some i := by
      rw [List.getElem?_range h]
    rw [h1]
    simp [List.getElem?_eq_getElem h]
  · have h1 : (List.range xs.length)[i]? = none := List.getElem?_eq_none_iff.mpr (by rw [List.length_range]; omega)
    have h2 : xs[i]? = none := List.getElem?_eq_none_iff.mpr (by omega)
    rw [h1, h2]
    rfl
end Evl
namespace Dt
open PySem L2 Evl Dg LamR LamX
open Dr (StAt SameB)
abbrev sSize : Stmt := top 28
abbrev sBounds : Stmt := top 29
abbrev sBegins : Stmt := top 30
abbrev sCond : Stmt := top 31
abbrev sKeep : Stmt := top 32
abbrev sRule : Stmt := top 33
section
variable {K : PySem.W.Frag} {H : Hp} {v : V} {d : PyData}
theorem Pt.isN (h : Pt H v d) : decide (v = V.non) = Dt.isN d := by
  cases h <;> first | rfl | exact decide_eq_false (fun z => by cases z)
theorem sizeB_int {l : Int} (h : sizeB l d = true) (k : Pt H v d) : v = .int (intD d) := by
  cases k <;> first | rfl | cases h
/-- where it begins so, each of its places is there -/
theorem Pt.beg {w : Str} {n : Nat} (k : Pt H v d) (h : begB d w n = true) : ∃ a vs, v = .ref a ∧ H a = some (.tup vs) ∧ vs.length = n ∧ ∀ i, i < n → ∃ u, vs[i]? = some u ∧ Pt H u (at_ i d) := by
  unfold begB at h
  rw [Bool.and_eq_true, Bool.and_eq_true] at h
  obtain ⟨h1, h2, _⟩ := h
  cases k with
  | @tup a vs ds hs ha =>
    have hl : ds.length = n := of_decide_eq_true h2
    refine ⟨a, vs, rfl, hs, by rw [ha.length, hl], fun i hi => ?_⟩
    have hd : ds[i]? = some (at_ i (.tuple ds)) := by
      unfold at_ tupD
      rw [List.getD_eq_getElem?_getD, List.getElem?_eq_getElem (by omega)]
      rfl
    exact ha.get hd
  | _ => cases h1
end
section
variable {P : Program} {w : World} {K : PySem.W.Frag} {mg : Str → Option Value} {base : Heap} {ca : Nat → Addr}
def spSize : Sp := fun vs H Q _ => ∃ v d l, vs = [v, .int l] ∧ Pt H v d ∧ RetV (.bl (sizeB l d)) H Q
theorem scSize : FnScope ["value", "least"] ["value", "least"] (defScope sSize) := ⟨rfl, rfl, rfl, by decide +kernel, rfl, by decide +kernel, by decide +kernel⟩
theorem ok_size {f fi : Addr} {fd fdi : FuncData} (F : Fun K "is_size" "is_size" sSize f fd) (GI : FnOk P w K mg base CX0 1 fi fdi ["value"] (spIsInt K)) (bI : Binds K fdi ["value"] []) (T : TxI K mg fi) (hM : ∃ t, mg "MOST_SIZE" = some (.int 6 t)) :
    FnOk P w K mg base CX0 2 f fd ["value", "least"] spSize := by
  refine F.ok scSize (fun vs H Q E h => ?_) (fun cdv A outer s H vs Q E hr h => ?_)
  · obtain ⟨v, d, l, rfl, _⟩ := h
    rfl
  · obtain ⟨v, d, l, rfl, k, q⟩ := h
    obtain ⟨t, hm⟩ := hM
    refine ⟨_, pss_one (ps_ret (pe_and (pe_call GI hr (by rfl) T.isInt T.kInt bI .nil pass0 (pa_cons (pv 0) pa_nil)) (pe_one (pe_chain op_le op_le (pv 1) (pv 0) (pe_glob (by rfl) hm (v := .int 6) ⟨_, rfl⟩))))), ?_⟩
    have kn := k.kn (K := K)
    cases hd : isI d with
    | true =>
      cases k with
      | int i => exact s_ret (ev_is (ev_andV (ev_callI (ev_var rfl) (.int i)) (fun _ => ev_chI (ev_var rfl) (ev_var rfl) ev_c)) (by simp [sizeB])) fun H1 e => q H1 e
      | _ => cases hd
    | false =>
      have e : sizeB l d = false := by cases d <;> first | rfl | cases hd
      rw [e] at q
      rw [hd] at kn
      exact s_ret (ev_is (ev_andV (b := false) (ev_callI (ev_var rfl) kn) (fun z => nomatch z)) (by simp)) fun H1 e => q H1 e
theorem ev_size {σ : St} {H : Hp} {ta tb : TE} {v : V} {d : PyData} {l : Int} (ha : Ev ta σ H v) (hb : Ev tb σ H (.int l)) (k : Pt H v d) : Ev (tCall spSize [] E0 (tCons ta (tCons tb tNil))) σ H (.bl (sizeB l d)) :=
  ev_call (ea_cons ha (ea_cons hb ea_nil)) fun H1 e Q q E => ⟨v, d, l, rfl, k.ex e, fun H2 e2 => q H2 e2⟩
structure TxR (K : PySem.W.Frag) (mg : Str → Option Value) (fi fb ff fs fbd fbg fc fk : Addr) : Prop extends TxI K mg fi where
  needB : mg "need_base" = some (.ref fb)
  kNB : PySem.W.keepIn K (.ref fb) = true
  isFig : mg "is_figures" = some (.ref ff)
  kFig : PySem.W.keepIn K (.ref ff) = true
  size : mg "is_size" = some (.ref fs)
  kSz : PySem.W.keepIn K (.ref fs) = true
  bounds : mg "are_bounds" = some (.ref fbd)
  kBd : PySem.W.keepIn K (.ref fbd) = true
  begins : mg "begins" = some (.ref fbg)
  kBg : PySem.W.keepIn K (.ref fbg) = true
  cond : mg "is_condition" = some (.ref fc)
  kCd : PySem.W.keepIn K (.ref fc) = true
  keep : mg "is_keep" = some (.ref fk)
  kKp : PySem.W.keepIn K (.ref fk) = true
  tuple : mg "tuple" = none
  all : mg "all" = none
  msize : ∃ t, mg "MOST_SIZE" = some (.int 6 t)
  mconds : ∃ t, mg "MOST_CONDITIONS" = some (.int 3 t)
  mend : ∃ t, mg "MOST_ENDING" = some (.int 2 t)
variable {fi fb ff fs fbd fbg fc fk : Addr}
def spBounds : Sp := fun vs H Q _ => ∃ va vb a b, vs = [va, vb] ∧ Pt H va a ∧ Pt H vb b ∧ RetV (.bl (boundsB a b)) H Q
theorem scBounds : FnScope ["least", "most"] ["least", "most"] (defScope sBounds) := ⟨rfl, rfl, rfl, by decide +kernel, rfl, by decide +kernel, by decide +kernel⟩
theorem ok_bounds {f : Addr} {fd fds : FuncData} (F : Fun K "are_bounds" "are_bounds" sBounds f fd) (GS : FnOk P w K mg base CX0 2 fs fds ["value", "least"] spSize) (bS : Binds K fds ["value", "least"] []) (T : TxR K mg fi fb ff fs fbd fbg fc fk) :
    FnOk P w K mg base CX0 3 f fd ["least", "most"] spBounds := by
  refine F.ok scBounds (fun vs H Q E h => ?_) (fun cdv A outer s H vs Q E hr h => ?_)
  · obtain ⟨va, vb, a, b, rfl, _⟩ := h
    rfl
  · obtain ⟨va, vb, a, b, rfl, ka, kb, q⟩ := h
    refine ⟨_, pss_one (ps_ret (pe_and (pe_call GS hr (by rfl) T.size T.kSz bS .nil pass0 (pa_cons (pv 0) (pa_cons pe_int pa_nil)))
      (pe_one (pe_or (pe_cmpR op_isN (pv 1) pe_non (nomark _)) (pe_one (pe_call GS hr (by rfl) T.size T.kSz bS .nil pass0 (pa_cons (pv 1) (pa_cons (pv 0) pa_nil)))))))), ?_⟩
    refine s_ret (ev_andV (ev_size (ev_var rfl) ev_c ka) fun z => ev_orV (a := Dt.isN b) (ev_op (y := .non) (ev_var rfl) ev_c fun H1 e Q k => ⟨rfl, by rw [kb.isN]; exact k _ (Ex.refl _)⟩) fun _ => ?_) fun H1 e => q H1 e
    have hi := sizeB_int z ka
    subst hi
    exact ev_size (ev_var rfl) (ev_var rfl) kb
theorem ev_bounds {σ : St} {H : Hp} {ta tb : TE} {va vb : V} {a b : PyData} (ha : Ev ta σ H va) (hb : Ev tb σ H vb) (ka : Pt H va a) (kb : Pt H vb b) : Ev (tCall spBounds [] E0 (tCons ta (tCons tb tNil))) σ H (.bl (boundsB a b)) :=
  ev_call (ea_cons ha (ea_cons hb ea_nil)) fun H1 e Q q E => ⟨va, vb, a, b, rfl, ka.ex e, kb.ex e, fun H2 e2 => q H2 e2⟩
def spBegins : Sp := fun vs H Q _ => ∃ v d w n, vs = [v, .str w, .int ((n : Nat) : Int)] ∧ 1 ≤ n ∧ Pt H v d ∧ RetV (.bl (begB d w n)) H Q
theorem scBegins : FnScope ["value", "word", "many"] ["value", "word", "many"] (defScope sBegins) := ⟨rfl, rfl, rfl, by decide +kernel, rfl, by decide +kernel, by decide +kernel⟩
theorem ev_lenT {σ : St} {H : Hp} {te : TE} {a : Addr} {vs : List V} (h : Ev te σ H (.ref a)) (ht : H a = some (.tup vs)) : Ev (tCB (rLenS K) (tCons te tNil)) σ H (.int (vs.length : Int)) :=
  ev_cb (ea_cons h ea_nil) fun H1 e Q q => ⟨a, vs, rfl, .inr (st_of (e _ _ ht)), q _ (Ex.refl _)⟩
theorem ev_at {σ : St} {H : Hp} {te : TE} {a : Addr} {vs : List V} {i : Nat} {u : V} (h : Ev te σ H (.ref a)) (ht : H a = some (.tup vs)) (hu : vs[i]? = some u) : Ev (tOp (rIxT K) te (tC (.int (i : Int)))) σ H u :=
  ev_op h ev_c (rv_ixT (st_of ht) (atI_nat hu))
theorem ok_begins {f : Addr} {fd : FuncData} (F : Fun K "begins" "begins" sBegins f fd) (T : TxR K mg fi fb ff fs fbd fbg fc fk) : FnOk P w K mg base CX0 1 f fd ["value", "word", "many"] spBegins := by
  refine F.ok scBegins (fun vs H Q E h => ?_) (fun cdv A outer s H vs Q E hr h => ?_)
  · obtain ⟨v, d, w, n, rfl, _⟩ := h
    rfl
  · obtain ⟨v, d, x, n, rfl, n1, k, q⟩ := h
    refine ⟨_, pss_cons (ps_if (PW.pt (pw_or (pt_not (pt_val (pe_callB call_isi (by rfl) T.isi (by decide +kernel) (pa_cons (pv 0) (pa_cons (pe_bltn (by rfl) T.tuple (by decide +kernel) (v := .ty "tuple") rfl) pa_nil)))))
        (pw_or1 (pt_cmpR op_ne (pe_callB call_len_seq (by rfl) T.len (by decide +kernel) (pa_cons (pv 0) pa_nil)) (pv 2) (nomark _))))) (pss_one (ps_ret pe_bl)) pss_nil)
      (pss_one (ps_ret (pe_and (pe_callB call_isi (by rfl) T.isi (by decide +kernel) (pa_cons (pe_ix ix_tup (pv 0) pe_int (fun _ _ => rfl)) (pa_cons (pe_bltn (by rfl) T.str (by decide +kernel) (v := .ty "str") rfl) pa_nil)))
        (pe_one (pe_cmpR op_eq (pe_ix ix_tup (pv 0) pe_int (fun _ _ => rfl)) (pv 1) (nomark _)))))), ?_⟩
    cases hT : isT d with
    | false =>
      have e0 : begB d x n = false := by unfold begB; rw [hT]; rfl
      rw [e0] at q
      exact q_when (b := true) (et_is (et_or (b := true) (et_not (et_B (ev_is (w := .bl false) (ev_isiT (ev_var rfl) k) (by rw [hT])))) fun z => nomatch z) (by simp)) (fun z H1 e => q H1 e) (fun z => nomatch z)
    | true =>
      cases k with
      | @tup a us ds hs ha =>
        have hl := ha.length
        refine q_when (b := !decide (ds.length = n)) (et_is (et_or (et_not (et_B (ev_isiT (d := .tuple ds) (ev_var rfl) (.tup hs ha)))) fun _ => et_test (ev_op (ev_lenT (ev_var rfl) hs) (ev_var rfl) (rv_ne rfl))) (by
          simp only [isT, Bool.not_true, Bool.false_or]
          congr 1
          refine decide_eq_decide.mpr ⟨fun z => ?_, fun z => ?_⟩
          · injection z with z
            omega
          · rw [show (us.length : Int) = (n : Int) by omega])) (fun z H1 e => ?_) (fun z H1 e => ?_)
        · have e0 : begB (.tuple ds) x n = false := by
            unfold begB tupD
            rw [Bool.not_eq_true'] at z
            rw [z]
            simp
          rw [e0] at q
          exact q H1 e
        · have z' : ds.length = n := by simpa using z
          cases ds with
          | nil =>
            rw [List.length_nil] at z'
            omega
          | cons d0 ds =>
            cases ha with
            | @cons u0 _ us _ k0 kr =>
              have hs1 := e _ _ hs
              have k1 := k0.ex e
              have e0 : begB (.tuple (d0 :: ds)) x n = (isS d0 && eqS x d0) := by
                unfold begB
                show (isT _ && (decide ((d0 :: ds).length = n) && eqS x d0)) = _
                rw [decide_eq_true z']
                cases d0 <;> simp [isT, isS, eqS]
              rw [e0] at q
              cases hS : isS d0 with
              | false =>
                rw [hS] at q
                exact s_ret (ev_is (ev_andV (b := false) (ev_is (w := .bl false) (ev_isiS (ev_at (i := 0) (ev_var rfl) hs1 rfl) k1) (by rw [hS])) (fun z => nomatch z)) (by simp)) fun H2 e2 => q H2 (e.trans e2)
              | true =>
                cases k0 with
                | str y hy =>
                  refine s_ret (ev_andV (ev_isiS (d := .str y) (ev_at (i := 0) (ev_var rfl) hs1 rfl) k1) (fun _ => ev_is (ev_op (ev_at (i := 0) (ev_var rfl) hs1 rfl) (ev_var rfl) (rv_eq rfl)) (w := .bl (decide (y = x))) ?_)) fun H2 e2 => q H2 (e.trans e2)
                  congr 1
                  refine decide_eq_decide.mpr ⟨fun z => ?_, fun z => ?_⟩
                  · injection z
                  · rw [z]
                | _ => cases hS
      | _ => cases hT
theorem ev_beg {σ : St} {H : Hp} {te : TE} {v : V} {d : PyData} {x : Str} {n : Nat} (h : Ev te σ H v) (k : Pt H v d) (n1 : 1 ≤ n) : Ev (tCall spBegins [] E0 (tCons te (tCons (tC (.str x)) (tCons (tC (.int (n : Int))) tNil)))) σ H (.bl (begB d x n)) :=
  ev_call (ea_cons h (ea_cons ev_c (ea_cons ev_c ea_nil))) fun H1 e Q q E => ⟨v, d, x, n, rfl, n1, k.ex e, fun H2 e2 => q H2 e2⟩
def spCond : Sp := fun vs H Q _ => ∃ (β : Nat) (v : V) (d : PyData), vs = [.int β, v] ∧ 2 ≤ β ∧ β ≤ 10 ∧ Pt H v d ∧ RetV (.bl (condB β d)) H Q
theorem scCond : FnScope ["base", "value"] ["base", "value"] (defScope sCond) := ⟨rfl, rfl, rfl, by decide +kernel, rfl, by decide +kernel, by decide +kernel⟩
theorem ok_cond {f : Addr} {fd fdf fds fdb fdg : FuncData} (F : Fun K "is_condition" "is_condition" sCond f fd) (GF : FnOk P w K mg base CX0 3 ff fdf ["base", "value", "most"] (spIsFig K)) (bF : Binds K fdf ["base", "value", "most"] [])
    (GS : FnOk P w K mg base CX0 3 fs fds ["value", "least"] spSize) (bS : Binds K fds ["value", "least"] []) (GB : FnOk P w K mg base CX0 3 fbd fdb ["least", "most"] spBounds) (bB : Binds K fdb ["least", "most"] [])
    (GG : FnOk P w K mg base CX0 3 fbg fdg ["value", "word", "many"] spBegins) (bG : Binds K fdg ["value", "word", "many"] []) (T : TxR K mg fi fb ff fs fbd fbg fc fk) :
    FnOk P w K mg base CX0 4 f fd ["base", "value"] spCond := by
  refine F.ok scCond (fun vs H Q E h => ?_) (fun cdv A outer s H vs Q E hr h => ?_)
  · obtain ⟨β, v, d, rfl, _⟩ := h
    rfl
  · obtain ⟨β, v, d, rfl, b2, b10, k, q⟩ := h
    obtain ⟨t, hm⟩ := T.mend
    refine ⟨_, pss_cons (ps_if (pt_val (pe_call GG hr (by rfl) T.begins T.kBg bG .nil pass0 (pa_cons (pv 1) (pa_cons pe_str (pa_cons pe_int pa_nil)))))
        (pss_one (ps_ret (pe_call GF hr (by rfl) T.isFig T.kFig bF .nil pass0 (pa_cons (pv 0) (pa_cons (pe_ix ix_tup (pv 1) pe_int (fun _ _ => rfl)) (pa_cons (pe_glob (by rfl) hm (v := .int 2) ⟨_, rfl⟩) pa_nil)))))) pss_nil)
      (pss_cons (ps_if (pt_val (pe_call GG hr (by rfl) T.begins T.kBg bG .nil pass0 (pa_cons (pv 1) (pa_cons pe_str (pa_cons pe_int pa_nil)))))
        (pss_one (ps_ret (pe_call GS hr (by rfl) T.size T.kSz bS .nil pass0 (pa_cons (pe_ix ix_tup (pv 1) pe_int (fun _ _ => rfl)) (pa_cons pe_int pa_nil))))) pss_nil)
      (pss_cons (ps_if (PW.pt (pw_or (pt_val (pe_call GG hr (by rfl) T.begins T.kBg bG .nil pass0 (pa_cons (pv 1) (pa_cons pe_str (pa_cons pe_int pa_nil))))) (pw_or1 (pt_val (pe_call GG hr (by rfl) T.begins T.kBg bG .nil pass0 (pa_cons (pv 1) (pa_cons pe_str (pa_cons pe_int pa_nil))))))))
        (pss_one (ps_ret (pe_call GB hr (by rfl) T.bounds T.kBd bB .nil pass0 (pa_cons (pe_ix ix_tup (pv 1) pe_int (fun _ _ => rfl)) (pa_cons (pe_ix ix_tup (pv 1) pe_int (fun _ _ => rfl)) pa_nil))))) pss_nil)
      (pss_one (ps_ret pe_bl)))), ?_⟩
    refine q_when (b := begB d "ends" 2) (et_B (ev_beg (n := 2) (ev_var rfl) k (by decide))) (fun z H1 e => ?_) (fun z H1 e => ?_)
    · have e0 : condB β d = figsO β 2 (txtD (at_ 1 d)) := by unfold condB; rw [if_pos z]
      rw [e0] at q
      obtain ⟨a, us, rfl, hs, _, hi⟩ := k.beg z
      obtain ⟨u, hu, ku⟩ := hi 1 (by decide)
      have k1 := (ku.ex e).tx (K := K)
      exact s_ret (ev_call (ea_cons (ev_var rfl) (ea_cons (ev_at (i := 1) (ev_var rfl) (e _ _ hs) hu) (ea_cons ev_c ea_nil))) fun H2 e2 Q2 q2 E2 => ⟨β, 2, u, _, rfl, b2, b10, by decide, k1.1.ex e2, k1.2, fun H3 e3 => q2 H3 e3⟩) fun H2 e2 => q H2 (e.trans e2)
    · have k1 := k.ex e
      refine q_when (b := begB d "near" 2) (et_B (ev_beg (n := 2) (ev_var rfl) k1 (by decide))) (fun z2 H2 e2 => ?_) (fun z2 H2 e2 => ?_)
      · have e0 : condB β d = sizeB 0 (at_ 1 d) := by unfold condB; rw [if_neg (by rw [z]; decide), if_pos z2]
        rw [e0] at q
        obtain ⟨a, us, rfl, hs, _, hi⟩ := (k1.ex e2).beg z2
        obtain ⟨u, hu, ku⟩ := hi 1 (by decide)
        exact s_ret (ev_size (ev_at (i := 1) (ev_var rfl) hs hu) ev_c ku) fun H3 e3 => q H3 ((e.trans e2).trans e3)
      · have k2 := k1.ex e2
        refine q_when (b := (begB d "length" 3 || begB d "changed" 3)) (et_or (et_B (ev_beg (n := 3) (ev_var rfl) k2 (by decide))) fun _ => et_B (ev_beg (n := 3) (ev_var rfl) k2 (by decide))) (fun z3 H3 e3 => ?_) (fun z3 H3 e3 => ?_)
        · have e0 : condB β d = boundsB (at_ 1 d) (at_ 2 d) := by unfold condB; rw [if_neg (by rw [z]; decide), if_neg (by rw [z2]; decide), if_pos z3]
          rw [e0] at q
          have key : ∃ a us, v = .ref a ∧ H3 a = some (.tup us) ∧ us.length = 3 ∧ ∀ i, i < 3 → ∃ u, us[i]? = some u ∧ Pt H3 u (at_ i d) := by
            rcases Bool.or_eq_true_iff.mp z3 with y | y
            · exact (k2.ex e3).beg y
            · exact (k2.ex e3).beg y
          obtain ⟨a, us, rfl, hs, _, hi⟩ := key
          obtain ⟨u, hu, ku⟩ := hi 1 (by decide)
          obtain ⟨u2, hu2, ku2⟩ := hi 2 (by decide)
          exact s_ret (ev_bounds (ev_at (i := 1) (ev_var rfl) hs hu) (ev_at (i := 2) (ev_var rfl) hs hu2) ku ku2) fun H4 e4 => q H4 (((e.trans e2).trans e3).trans e4)
        · have e0 : condB β d = false := by unfold condB; rw [if_neg (by rw [z]; decide), if_neg (by rw [z2]; decide), if_neg (by rw [z3]; decide)]
          rw [e0] at q
          exact s_ret ev_c fun H4 e4 => q H4 (((e.trans e2).trans e3).trans e4)
def spKeep : Sp := fun vs H Q _ => ∃ v d, vs = [v] ∧ Pt H v d ∧ RetV (.bl (keepB d)) H Q
theorem scKeep : FnScope ["value"] ["value"] (defScope sKeep) := ⟨rfl, rfl, rfl, by decide +kernel, rfl, by decide +kernel, by decide +kernel⟩
theorem ok_keep {f : Addr} {fd fds fdg : FuncData} (F : Fun K "is_keep" "is_keep" sKeep f fd) 
    (GS : FnOk P w K mg base CX0 2 fs fds ["value", "least"] spSize) (bS : Binds K fds ["value", "least"] [])
    (GG : FnOk P w K mg base CX0 2 fbg fdg ["value", "word", "many"] spBegins) (bG : Binds K fdg ["value", "word", "many"] []) (T : TxR K mg fi fb ff fs fbd fbg fc fk) :
    FnOk P w K mg base CX0 3 f fd ["value"] spKeep := by
  refine F.ok scKeep (fun vs H Q E h => ?_) (fun cdv A outer s H vs Q E hr h => ?_)
  · obtain ⟨v, d, rfl, _⟩ := h
    rfl
  · obtain ⟨v, d, rfl, k, q⟩ := h
    refine ⟨_, pss_cons (ps_if (PW.pt (pw_or (pt_val (pe_call GG hr (by rfl) T.begins T.kBg bG .nil pass0 (pa_cons (pv 0) (pa_cons pe_str (pa_cons pe_int pa_nil))))) (pw_or1 (pt_val (pe_call GG hr (by rfl) T.begins T.kBg bG .nil pass0 (pa_cons (pv 0) (pa_cons pe_str (pa_cons pe_int pa_nil))))))))
        (pss_one (ps_ret (pe_call GS hr (by rfl) T.size T.kSz bS .nil pass0 (pa_cons (pe_ix ix_tup (pv 0) pe_int (fun _ _ => rfl)) (pa_cons pe_int pa_nil))))) pss_nil)
      (pss_one (ps_ret (pe_call GG hr (by rfl) T.begins T.kBg bG .nil pass0 (pa_cons (pv 0) (pa_cons pe_str (pa_cons pe_int pa_nil)))))), ?_⟩
    refine q_when (b := (begB d "changed" 2 || begB d "last" 2)) (et_or (et_B (ev_beg (n := 2) (ev_var rfl) k (by decide))) fun _ => et_B (ev_beg (n := 2) (ev_var rfl) k (by decide))) (fun z H1 e => ?_) (fun z H1 e => ?_)
    · have e0 : keepB d = sizeB 1 (at_ 1 d) := by unfold keepB; rw [if_pos z]
      rw [e0] at q
      have key : ∃ a us, v = .ref a ∧ H1 a = some (.tup us) ∧ us.length = 2 ∧ ∀ i, i < 2 → ∃ u, us[i]? = some u ∧ Pt H1 u (at_ i d) := by
        rcases Bool.or_eq_true_iff.mp z with y | y
        · exact (k.ex e).beg y
        · exact (k.ex e).beg y
      obtain ⟨a, us, rfl, hs, _, hi⟩ := key
      obtain ⟨u, hu, ku⟩ := hi 1 (by decide)
      exact s_ret (ev_size (ev_at (i := 1) (ev_var rfl) hs hu) ev_c ku) fun H3 e3 => q H3 (e.trans e3)
    · have e0 : keepB d = begB d "all" 1 := by unfold keepB; rw [if_neg (by rw [z]; decide)]
      rw [e0] at q
      exact s_ret (ev_beg (n := 1) (ev_var rfl) (k.ex e) (by decide)) fun H3 e3 => q H3 (e.trans e3)
def spRule (K : PySem.W.Frag) (ca : Nat → Addr) : Sp := fun vs H Q E => ∃ vb v d b, vs = [vb, v] ∧ Bs K H vb b ∧ Pt H v d ∧ (b = false → Leaves (ca 1) "value" vb H E) ∧ (b = true → ∃ β : Nat, vb = .int β ∧ 2 ≤ β ∧ β ≤ 10 ∧ RetV (.bl (ruleB β d)) H Q)
theorem scRule : FnScope ["base", "value", "conditions", "keep", "condition"] ["base", "value"] (defScope sRule) := ⟨rfl, rfl, rfl, by decide +kernel, rfl, by decide +kernel, by decide +kernel⟩
theorem ok_rule {f : Addr} {fd fdn fdc fdk : FuncData} (F : Fun K "is_rule" "is_rule" sRule f fd) (GN : FnOk P w K mg base (L2.CX P w) 4 fb fdn ["base"] (spNeed (Bs K) (ca 1))) (bN : Binds K fdn ["base"] [])
    (GC : FnOk P w K mg base CX0 4 fc fdc ["base", "value"] spCond) (bC : Binds K fdc ["base", "value"] []) (GK : FnOk P w K mg base CX0 4 fk fdk ["value"] spKeep) (bK : Binds K fdk ["value"] []) (T : TxR K mg fi fb ff fs fbd fbg fc fk) :
    FnOk P w K mg base (L2.CX P w) 5 f fd ["base", "value"] (spRule K ca) := by
  refine F.okX scRule (fun vs H Q E h => ?_) (fun cdv A outer s H vs Q E hr h => ?_)
  · obtain ⟨vb, v, d, b, rfl, _⟩ := h
    rfl
  · obtain ⟨vb, v, d, b, rfl, kb, k, l1, hq⟩ := h
    obtain ⟨t, hm⟩ := T.mconds
    refine ⟨_, pss_cons (ps_expr (pe_callS GN hr (by rfl) T.needB T.kNB bN (fun σ => passAt (takes_of rfl rfl rfl rfl) σ) (pa_cons (pv 0) pa_nil)))
      (pss_cons (ps_if (PW.pt (pw_or (pt_not (pt_val (pe_callB call_isi (by rfl) T.isi (by decide +kernel) (pa_cons (pv 1) (pa_cons (pe_bltn (by rfl) T.tuple (by decide +kernel) (v := .ty "tuple") rfl) pa_nil)))))
        (pw_or1 (pt_cmpR op_ne (pe_callB call_len_seq (by rfl) T.len (by decide +kernel) (pa_cons (pv 1) pa_nil)) pe_int (nomark _))))) (pss_one (ps_ret pe_bl)) pss_nil)
      (pss_cons (ps_asg (pv 1) (pg_tup (by rfl) (pgs_cons (pg_name (i := 2) scRule.nd rfl (.inl rfl)) (pgs_cons (pg_name (i := 3) scRule.nd rfl (.inl rfl)) pgs_nil))))
      (pss_cons (ps_if (PW.pt (pw_or (pt_not (pt_val (pe_callB call_isi (by rfl) T.isi (by decide +kernel) (pa_cons (pv 2) (pa_cons (pe_bltn (by rfl) T.tuple (by decide +kernel) (v := .ty "tuple") rfl) pa_nil)))))
        (pw_or1 (pt_cmpR op_gt (pe_callB call_len_seq (by rfl) T.len (by decide +kernel) (pa_cons (pv 2) pa_nil)) (pe_glob (by rfl) hm (v := .int 3) ⟨_, rfl⟩) (nomark _))))) (pss_one (ps_ret pe_bl)) pss_nil)
      (pss_one (ps_ret (pe_and (pe_callB (cr_all rfl) (by rfl) T.all (by decide +kernel) (pa_cons (pe_lc (own := [("condition", 4)]) (g := gName 4) (tt := tYes) rfl scRule.nd (pi_tup (pv 2)) (blkOk_by (own := [("condition", 4)]) (N := ["base", "value", "conditions", "keep", "condition"]) (sc := defScope sRule) (by decide +kernel))
          (fun _ _ _ _ _ => pg_name (i := 4) scRule.nd rfl (Or.inl rfl)) (fun _ _ _ _ _ => pts_nil)
          (fun _ _ _ _ _ => pe_call GC hr (by rfl) T.cond T.kCd bC .nil pass0 (pa_cons (pv 0) (pa_cons (pv 4) pa_nil)))) pa_nil))
        (pe_one (pe_call GK hr (by rfl) T.keep T.kKp bK .nil pass0 (pa_cons (pv 3) pa_nil))))))))), ?_⟩
    refine ⟨_, rfl, vb, b, rfl, kb, fun hb H1 e1 => ?_, fun hb => l1 hb⟩
    obtain ⟨β, rfl, b2, b10, q⟩ := hq hb
    have k1 := k.ex e1
    cases hT : isT d with
    | false =>
      have e0 : ruleB β d = false := by unfold ruleB; rw [hT]; rfl
      rw [e0] at q
      exact q_when (b := true) (et_is (et_or (b := true) (et_not (et_B (ev_is (w := .bl false) (ev_isiT (ev_var rfl) k1) (by rw [hT])))) fun z => nomatch z) (by simp)) (fun z H2 e => q H2 (e1.trans e)) (fun z => nomatch z)
    | true =>
      cases k1 with
      | @tup a us ds hs ha =>
        have hl := ha.length
        refine q_when (b := !decide (ds.length = 2)) (et_is (et_or (et_not (et_B (ev_isiT (d := .tuple ds) (ev_var rfl) (.tup hs ha)))) fun _ => et_test (ev_op (ev_lenT (ev_var rfl) hs) ev_c (rv_ne rfl))) (by
          simp only [isT, Bool.not_true, Bool.false_or]
          congr 1
          refine decide_eq_decide.mpr ⟨fun z => ?_, fun z => ?_⟩
          · injection z with z
            omega
          · rw [show (us.length : Int) = 2 by omega])) (fun z H2 e2 => ?_) (fun z H2 e2 => ?_)
        · have e0 : ruleB β (.tuple ds) = false := by
            unfold ruleB tupD
            rw [Bool.not_eq_true'] at z
            simp only [z]
            simp
          rw [e0] at q
          exact q H2 (e1.trans e2)
        · have z' : ds.length = 2 := by simpa using z
          match ds, us, ha, z' with
          | [cd, kd], _, .cons (v := vc) kc (.cons (v := vk) kk .nil), _ =>
            have hs2 := e2 _ _ hs
            have kc2 := kc.ex e2
            have kk2 := kk.ex e2
            have e0 : ruleB β (.tuple [cd, kd]) = (isT cd && (decide ((tupD cd).length ≤ 3) && ((tupD cd).all (condB β) && keepB kd))) := rfl
            rw [e0] at q
            refine ⟨_, rfl, a, _, rfl, st_of hs2, rfl, _, _, rfl, _, _, rfl, rfl, ?_⟩
            cases hC : isT cd with
            | false =>
              rw [hC] at q
              exact q_when (b := true) (et_is (et_or (b := true) (et_not (et_B (ev_is (w := .bl false) (ev_isiT (ev_var rfl) kc2) (by rw [hC])))) fun z => nomatch z) (by simp)) (fun z H3 e => q H3 ((e1.trans e2).trans e)) (fun z => nomatch z)
            | true =>
              cases kc2 with
              | @tup ac ws cs hcs hca =>
                have hcl := hca.length
                refine q_when (b := !decide (cs.length ≤ 3)) (et_is (et_or (et_not (et_B (ev_isiT (d := .tuple cs) (ev_var rfl) (.tup hcs hca)))) fun _ => et_test (ev_op (ev_lenT (ev_var rfl) hcs) ev_c rv_I0)) (by
                  simp only [isT, Bool.not_true, Bool.false_or]
                  by_cases h : cs.length ≤ 3
                  · rw [decide_eq_true h, decide_eq_false (by omega)]
                    rfl
                  · rw [decide_eq_false h, decide_eq_true (by omega)]
                    rfl)) (fun z3 H3 e3 => ?_) (fun z3 H3 e3 => ?_)
                · rw [Bool.not_eq_true'] at z3
                  unfold tupD at q
                  simp only [z3, Bool.false_and, Bool.and_false] at q
                  exact q H3 ((e1.trans e2).trans e3)
                · have z4 : cs.length ≤ 3 := by simpa using z3
                  unfold tupD at q
                  simp only [decide_eq_true z4, isT, Bool.true_and] at q
                  have eL : EvL (tLc (iTup K (tVar 2)) (gName 4) tYes (tCall spCond [] E0 (tCons (tVar 0) (tCons (tVar 4) tNil))) [4]) [some (.int β), some (.ref a), some (.ref ac), some vk, none] H3 ((cs.map (condB β)).map V.bl) := by
                    rw [List.map_map, ← given_all cs (V.bl ∘ condB β) .non, ← hcl]
                    refine el_lcT (fun _ => true) _ (ev_var rfl) (st_of (e3 _ _ hcs)) (by omega) (fun _ => rfl) (fun i x H4 e4 hx => fun H5 e5 Q5 q5 => q5 H5 (Ex.refl _)) (fun i x H4 e4 hx _ => ?_)
                    obtain ⟨dd, hd, kd'⟩ := hca.get2 hx
                    rw [hd]
                    exact ev_call (ea_cons (ev_var rfl) (ea_cons (ev_var rfl) ea_nil)) fun H5 e5 Q5 q5 E5 => ⟨β, x, dd, rfl, b2, b10, (kd'.ex (e3.trans e4)).ex e5, fun H6 e6 => q5 H6 e6⟩
                  refine s_ret (ev_andV (ev_is (ev_allL eL) (w := .bl (cs.all (condB β))) (by rw [List.all_map]; rfl)) fun _ => ev_call (ea_cons (ev_var rfl) ea_nil) fun H5 e5 Q5 q5 E5 => ⟨vk, kd, rfl, (kk2.ex e3).ex e5, fun H6 e6 => q5 H6 e6⟩) fun H4 e4 => q H4 (((e1.trans e2).trans e3).trans e4)
              | _ => cases hC
      | _ => cases hT
end
end Dt

/-! Displays as data; the law's drawn rules. -/
namespace Dt
open PySem L2 Evl Dg LamR LamX
open Dr (StAt SameB)
/-- a value that is that data -/
def EvP (te : TE) (σ : St) (H : Hp) (D : PyData) : Prop := ∀ H1, Ex H H1 → ∀ Q : VK, (∀ v H2, Ex H1 H2 → Pt H2 v D → Q v H2) → te σ H1 Q
def EvPA (ta : TA) (σ : St) (H : Hp) (Ds : List PyData) : Prop := ∀ H1, Ex H H1 → ∀ Q : List V → Hp → Prop, (∀ vs H2, Ex H1 H2 → PtAll H2 vs Ds → Q vs H2) → ta σ H1 Q
section
variable {K : PySem.W.Frag} {σ : St} {H : Hp} {te ta tb : TE} {D E : PyData} {Ds Es : List PyData}
theorem ep_c {v : V} (h : ∀ H, Pt H v D) : EvP (tC v) σ H D := fun H1 _ _ q => q v H1 (Ex.refl H1) (h H1)
theorem ep_v {v : V} (h : Ev te σ H v) (k : Pt H v D) : EvP te σ H D := fun H1 e Q q => h H1 e Q fun H2 e2 => q v H2 e2 (k.ex (e.trans e2))
theorem ep_non : EvP (tC .non) σ H .none := ep_c fun _ => .non
theorem ep_bl {b : Bool} : EvP (tC (.bl b)) σ H (.bool b) := ep_c fun _ => .bl b
theorem ep_int {i : Int} : EvP (tC (.int i)) σ H (.int i) := ep_c fun _ => .int i
theorem ep_str {x : Str} (h : x.length ≤ 3000) : EvP (tC (.str x)) σ H (.str x) := ep_c fun _ => .str x h
theorem epa_nil : EvPA tNil σ H [] := fun H1 _ _ q => q [] H1 (Ex.refl H1) .nil
theorem epa_cons {tr : TA} (h : EvP te σ H D) (hr : EvPA tr σ H Ds) : EvPA (tCons te tr) σ H (D :: Ds) := fun H1 e _ q =>
  h H1 e _ fun v H2 e2 k => hr H2 (e.trans e2) _ fun vs H3 e3 ks => q (v :: vs) H3 (e2.trans e3) (.cons (k.ex e3) ks)
theorem ep_tup {ta : TA} (h : EvPA ta σ H Ds) (hl : Ds.length ≤ 100000) : EvP (tTup ta) σ H (.tuple Ds) := fun H1 e _ q =>
  h H1 e _ fun vs H2 e2 ks => ⟨sz_of (by rw [ks.length]; exact hl), fun p hp => q (.ref p) _ (e2.trans (Ex.new hp)) (.tup upd_same (ks.ex (Ex.new hp)))⟩
theorem ep_lst {ta : TA} (h : EvPA ta σ H Ds) (hl : Ds.length ≤ 100000) : EvP (tLst ta) σ H (.list Ds) := fun H1 e _ q =>
  h H1 e _ fun vs H2 e2 ks => ⟨sz_of (by rw [ks.length]; exact hl), fun p hp => q (.ref p) _ (e2.trans (Ex.new hp)) (.lst upd_same (ks.ex (Ex.new hp)))⟩
theorem ep_cat (ha : EvP ta σ H (.list Ds)) (hb : EvP tb σ H (.list Es)) (hl : Ds.length + Es.length ≤ 100000) : EvP (tOp rCat ta tb) σ H (.list (Ds ++ Es)) := fun H1 e _ q =>
  ha H1 e _ fun v H2 e2 k => hb H2 (e.trans e2) _ fun w H3 e3 k3 => by
    cases k with
    | @lst a vs _ ha hv =>
      cases k3 with
      | @lst b ws _ hb hw =>
        exact ⟨a, b, vs, ws, rfl, rfl, e3 _ _ ha, hb, sz_of (by rw [hv.length, hw.length]; exact hl), fun p hp => q (.ref p) _ ((e2.trans e3).trans (Ex.new hp)) (.lst upd_same (((hv.ex e3).app hw).ex (Ex.new hp)))⟩
theorem ep_if {t : TT} {b : Bool} (h : EvT t σ H b) (h1 : b = true → EvP ta σ H D) (h2 : b = false → EvP tb σ H D) : EvP (tIf t ta tb) σ H D := fun H1 e Q q => h H1 e _ fun H2 e2 => by
  cases b with
  | true => exact iteT (h1 rfl H2 (e.trans e2) _ fun v H3 e3 k => q v H3 (e2.trans e3) k)
  | false => exact iteF (h2 rfl H2 (e.trans e2) _ fun v H3 e3 k => q v H3 (e2.trans e3) k)
theorem s_retP {DD : Ends} (h : EvP te σ H D) (k : ∀ v H1, Ex H H1 → Pt H1 v D → DD.rt v H1) : tRet te DD σ H := h H (Ex.refl H) _ k
theorem s_asgP {DD : Ends} {i : Nat} (h : EvP te σ H D) (k : ∀ v H1, Ex H H1 → Pt H1 v D → DD.nx (σ.set i (some v)) H1) : tAsg te (gName i) DD σ H := h H (Ex.refl H) _ fun v H1 e kk => k v H1 e kk
theorem q_asgP {DD : Ends} {tz : TS} {i : Nat} (h : EvP te σ H D) (k : ∀ v H1, Ex H H1 → Pt H1 v D → tz DD (σ.set i (some v)) H1) : tSeq (tAsg te (gName i)) tz DD σ H := s_asgP (DD := { DD with nx := tz DD }) h k
end
theorem sameB_trans {H H1 H2 : Hp} {p l : Addr} (a : SameB H H1 p l) (b : SameB H1 H2 p l) : SameB H H2 p l := fun x o h h1 h2 => b x o (a x o h h1 h2) h1 h2
theorem sameB_ex {H H1 : Hp} {p l : Addr} (e : Ex H H1) : SameB H H1 p l := fun x o h _ _ => e x o h
mutual
/-- tuples and what is plain alone -/
def noL : PyData → Bool
  | .list _ => false
  | .dict _ => false
  | .tuple ds => noLs ds
  | _ => true
def noLs : List PyData → Bool
  | [] => true
  | d :: ds => noL d && noLs ds
end
mutual
theorem noL_ok : ∀ {d : PyData}, noL d = true → okD d = true
  | .none, _ => rfl
  | .bool _, _ => rfl
  | .int _, _ => rfl
  | .str _, _ => rfl
  | .tuple ds, h => by
    rw [okD]
    exact noLs_ok (by rw [noL] at h; exact h)
  | .list _, h => by rw [noL] at h; cases h
  | .dict _, h => by rw [noL] at h; cases h
theorem noLs_ok : ∀ {ds : List PyData}, noLs ds = true → okDs ds = true
  | [], _ => rfl
  | d :: ds, h => by
    rw [noLs, Bool.and_eq_true] at h
    rw [okDs, noL_ok h.1, noLs_ok h.2]
    rfl
end
theorem noLs_app : ∀ {ds es : List PyData}, noLs ds = true → noLs es = true → noLs (ds ++ es) = true
  | [], _, _, k => k
  | d :: ds, es, h, k => by
    rw [noLs, Bool.and_eq_true] at h
    show (noL d && noLs (ds ++ es)) = true
    rw [h.1, noLs_app h.2 k]
    rfl
/-- tuples stay -/
def TupK (H H' : Hp) : Prop := ∀ a xs, H a = some (.tup xs) → H' a = some (.tup xs)
theorem TupK.trans {H H1 H2 : Hp} (a : TupK H H1) (b : TupK H1 H2) : TupK H H2 := fun x xs h => b x xs (a x xs h)
theorem tupK_ex {H H' : Hp} (e : Ex H H') : TupK H H' := fun a xs h => e _ _ h
theorem tupK_same {H H' : Hp} {p c l : Addr} {n : Nat} {a : Int} (S : StAt H p c l n a) (e : SameB H H' p l) : TupK H H' := fun x xs h => by
  obtain ⟨ls, hl, _⟩ := S.l
  exact e _ _ h (ne_of h S.d (by intro z; cases z)) (ne_of h hl (by intro z; cases z))
theorem tupK_upd {H : Hp} {x : Addr} {ys zs : List V} (h : H x = some (.lst ys)) : TupK H (upd H x (.lst zs)) := fun a xs ha => by
  rw [upd_ne (ne_of ha h (by intro z; cases z))]
  exact ha
mutual
theorem Pt.tk {H H' : Hp} (e : TupK H H') : ∀ {v : V} {d : PyData}, Pt H v d → noL d = true → Pt H' v d
  | _, .none, h, _ => by cases h; exact .non
  | _, .bool _, h, _ => by cases h; exact .bl _
  | _, .int _, h, _ => by cases h; exact .int _
  | _, .str _, h, _ => by cases h with | str _ z => exact .str _ z
  | _, .tuple ds, h, k => by
    cases h with
    | tup hs ha => exact .tup (e _ _ hs) (PtAll.tk e ha (by rw [noL] at k; exact k))
  | _, .list _, _, k => by rw [noL] at k; cases k
  | _, .dict _, _, k => by rw [noL] at k; cases k
theorem PtAll.tk {H H' : Hp} (e : TupK H H') : ∀ {vs : List V} {ds : List PyData}, PtAll H vs ds → noLs ds = true → PtAll H' vs ds
  | _, [], h, _ => by cases h; exact .nil
  | _, d :: ds, h, k => by
    cases h with
    | cons h1 h2 =>
      rw [noLs, Bool.and_eq_true] at k
      exact .cons (Pt.tk e h1 k.1) (PtAll.tk e h2 k.2)
end
theorem off_of {H : Hp} {p c l x : Addr} {n : Nat} {a : Int} (S : StAt H p c l n a) (h : H x = none) : x ≠ p ∧ x ≠ l := by
  obtain ⟨ls, hls, _⟩ := S.l
  exact ⟨(ne_of_none S.d h).symm, (ne_of_none hls h).symm⟩
/-- one draw -/
theorem rd_draw {σ : St} {H : Hp} {te : TE} {Q : VK} {p c l : Addr} {n : Nat} {a m : Int} (h0 : σ[0]? = some (some (.ref p))) (hm : Ev te σ H (.int m)) (S : StAt H p c l n a) (nlc : l ≠ c) (ha : a < 2 ^ 39) (m0 : 0 < m) (m1 : m < 1073741824)
    (k : ∀ (r : Nat) (H' : Hp), (r : Int) < m → StAt H' p c l n (a + 1) → SameB H H' p l → Q (.int (r : Int)) H') : tCall Dr.spDraw [] E0 (tCons (tVar 0) (tCons te tNil)) σ H Q :=
  ⟨_, h0, hm H (Ex.refl H) _ fun H2 e2 => ⟨p, c, l, n, a, m, rfl, S.ex e2, nlc, ha, m0, m1, fun r H' r0 r1 S' sb nn => by
    obtain ⟨ρ, rfl⟩ : ∃ ρ : Nat, r = ρ := ⟨r.toNat, by omega⟩
    exact k ρ H' r1 S' (sameB_trans (sameB_ex e2) sb)⟩⟩
/-! what small data is, of rules -/
theorem beg2 (x w : Str) (d : PyData) : begB (.tuple [.str x, d]) w 2 = decide (x = w) := by simp [begB, isT, tupD, eqS]
theorem beg3 (x w : Str) (d e : PyData) : begB (.tuple [.str x, d, e]) w 3 = decide (x = w) := by simp [begB, isT, tupD, eqS]
theorem beg23 (x w : Str) (d : PyData) : begB (.tuple [.str x, d]) w 3 = false := by simp [begB, isT, tupD, eqS]
theorem beg32 (x w : Str) (d e : PyData) : begB (.tuple [.str x, d, e]) w 2 = false := by simp [begB, isT, tupD, eqS]
theorem keep_chg {s : Int} (h1 : 1 ≤ s) (h2 : s ≤ 6) : keepB (.tuple [.str "changed", .int s]) = true := by
  unfold keepB
  rw [beg2, decide_eq_true rfl]
  simp [at_, tupD, sizeB, h1, h2]
theorem keep_last {s : Int} (h1 : 1 ≤ s) (h2 : s ≤ 6) : keepB (.tuple [.str "last", .int s]) = true := by
  unfold keepB
  rw [beg2, beg2, decide_eq_true (p := ("last" : Str) = "last") rfl]
  simp [at_, tupD, sizeB, h1, h2]
theorem cond_ends {β : Nat} {x : Str} (h : isFigs β 2 x = true) : condB β (.tuple [.str "ends", .str x]) = true := by
  unfold condB
  rw [beg2, decide_eq_true rfl]
  simpa [at_, tupD, txtD, figsO] using h
theorem cond_near {β : Nat} {i : Int} (h1 : 0 ≤ i) (h2 : i ≤ 6) : condB β (.tuple [.str "near", .int i]) = true := by
  unfold condB
  rw [beg2, beg2, decide_eq_false (p := ("near" : Str) = "ends") (by decide +kernel), decide_eq_true (p := ("near" : Str) = "near") rfl]
  simp [at_, tupD, sizeB, h1, h2]
theorem cond_len {β : Nat} {x : Str} {i : Int} {d : PyData} (hx : x = "length" ∨ x = "changed") (h1 : 1 ≤ i) (h2 : i ≤ 6) (hd : d = .none ∨ ∃ j : Int, d = .int j ∧ i ≤ j ∧ j ≤ 6) : condB β (.tuple [.str x, .int i, d]) = true := by
  unfold condB
  rw [beg32, beg32, beg3, beg3]
  have e : (decide (x = "length") || decide (x = "changed")) = true := by
    rcases hx with rfl | rfl
    · rw [decide_eq_true rfl]; rfl
    · rw [decide_eq_true (p := ("changed" : Str) = "changed") rfl, Bool.or_true]
  rw [e]
  rcases hd with rfl | ⟨j, rfl, h3, h4⟩
  · simp [at_, tupD, boundsB, sizeB, intD, isN, h1, h2]
  · simp [at_, tupD, boundsB, sizeB, intD, isN, h1, h2, h3, h4]
theorem rule_mk {β : Nat} {cs : List PyData} {k : PyData} : ruleB β (.tuple [.tuple cs, k]) = (decide (cs.length ≤ 3) && (cs.all (condB β) && keepB k)) := rfl
abbrev sLCond : Stmt := top 40
abbrev sLKeep : Stmt := top 41
abbrev sLRules : Stmt := top 42
section
variable {P : Program} {w : World} {K : PySem.W.Frag} {mg : Str → Option Value} {base : Heap} {fm fdr : Addr}
def spLKeep : Sp := fun vs H Q _ => ∃ (p c l : Addr) (n m : Nat) (a : Int), vs = [.ref p, .int m] ∧ StAt H p c l n a ∧ l ≠ c ∧ a < 2 ^ 39 - 100 ∧ 1 ≤ m ∧ m ≤ 6 ∧
  ∀ (v : V) (d : PyData) (H' : Hp), keepB d = true → noL d = true → Pt H' v d → StAt H' p c l n (a + 2) → SameB H H' p l → Q v H'
theorem scLKeep : FnScope ["state", "most", "word", "size"] ["state", "most"] (defScope sLKeep) := ⟨rfl, rfl, rfl, by decide +kernel, rfl, by decide +kernel, by decide +kernel⟩
theorem ok_lkeep {f : Addr} {fd fdd : FuncData} (F : Fun K "_law_keep" "_law_keep" sLKeep f fd) (GD : FnOk P w K mg base CX0 2 fdr fdd ["state", "many"] Dr.spDraw) (bD : Binds K fdd ["state", "many"] []) (T : Dr.TxO K mg fm fdr) :
    FnOk P w K mg base CX0 3 f fd ["state", "most"] spLKeep := by
  refine F.ok scLKeep (fun vs H Q E h => ?_) (fun cdv A outer s H vs Q E hr h => ?_)
  · obtain ⟨p, c, l, n, m, a, rfl, _⟩ := h
    rfl
  · obtain ⟨p, c, l, n, m, a, rfl, S, nlc, ha, m1, m6, q⟩ := h
    refine ⟨_, pss_cons (ps_par (i := 2) (j := 3) (by rfl) scLKeep.nd rfl rfl (by decide) rfl rfl (pa_cons (pe_ix ix_list (pe_lst (pa_cons pe_str (pa_cons pe_str (pa_cons pe_str (pa_cons pe_str pa_nil))))) (pe_call GD hr (by rfl) T.draw T.kDraw bD .nil pass0 (pa_cons (pv 0) (pa_cons pe_int pa_nil))) (fun _ _ => rfl))
        (pa_cons (pe_op op_add pe_int (pe_call GD hr (by rfl) T.draw T.kDraw bD .nil pass0 (pa_cons (pv 0) (pa_cons (pv 1) pa_nil)))) pa_nil)) (by rfl))
      (pss_one (ps_ret (pe_ifExp (pt_cmpR op_eq (pv 2) pe_str (nomark _)) (pe_tup (pa_cons (pv 2) pa_nil)) (pe_tup (pa_cons (pv 2) (pa_cons (pv 3) pa_nil)))))), ?_⟩
    refine ⟨(by show (4:Nat) ≤ sizeLine; rw [sizeLine_eq]; omega), fun lr nlr => ?_⟩
    have e0 := Ex.new (o := .lst [.str "all", .str "changed", .str "last", .str "last"]) nlr
    have S0 := S.ex e0
    have hl : lr ≠ p ∧ lr ≠ l := by
      obtain ⟨ls, hls, _⟩ := S.l
      exact ⟨(ne_of_none S.d nlr).symm, (ne_of_none hls nlr).symm⟩
    refine rd_draw (p := p) rfl ev_c S0 nlc (by omega) (by decide) (by decide) fun r H1 hr1 S1 sb1 => ?_
    have g1 : H1 lr = some (.lst [.str "all", .str "changed", .str "last", .str "last"]) := sb1 _ _ upd_same hl.1 hl.2
    have key : ∃ x : Str, ([V.str "all", .str "changed", .str "last", .str "last"])[r]? = some (.str x) ∧ (x = "all" ∨ x = "changed" ∨ x = "last") := by
      have cc : r = 0 ∨ r = 1 ∨ r = 2 ∨ r = 3 := by omega
      rcases cc with rfl | rfl | rfl | rfl
      · exact ⟨_, rfl, .inl rfl⟩
      · exact ⟨_, rfl, .inr (.inl rfl)⟩
      · exact ⟨_, rfl, .inr (.inr rfl)⟩
      · exact ⟨_, rfl, .inr (.inr rfl)⟩
    obtain ⟨x, hx, hcase⟩ := key
    refine ⟨lr, _, _, _, rfl, rfl, SqL.of g1, atI_nat hx, ?_⟩
    refine rd_draw (p := p) rfl (ev_var rfl) S1 nlc (by omega) (by omega) (by omega) fun r2 H2 hr2 S2 sb2 => ?_
    refine ⟨_, _, rfl, rfl, _, _, rfl, ?_⟩
    have sb3 := sameB_trans (sameB_trans (sameB_ex e0) sb1) sb2
    have fin : ∀ d, keepB d = true → noL d = true → ∀ v H', Ex H2 H' → Pt H' v d → Q v H' := fun d kd od v H' e k => q v d H' kd od k (by
      have := S2.ex e
      rw [show a + 1 + 1 = a + 2 by omega] at this
      exact this) (sameB_trans sb3 (sameB_ex e))
    rcases hcase with rfl | rfl | rfl
    · refine s_retP (D := .tuple [.str "all"]) (ep_if (b := true) (et_test (ev_is (ev_op (ev_var rfl) ev_c (rv_eq rfl)) (by rw [decide_eq_true rfl]))) (fun _ => ep_tup (epa_cons (ep_v (ev_var rfl) (.str _ (by decide))) epa_nil) (by decide)) (fun z => nomatch z)) fun v H' e k => fin _ (by decide +kernel) (by decide +kernel) v H' e k
    · refine s_retP (D := .tuple [.str "changed", .int (1 + (r2 : Int))]) (ep_if (b := false) (et_test (ev_is (ev_op (ev_var rfl) ev_c (rv_eq rfl)) (by rw [decide_eq_false (by decide +kernel)]))) (fun z => nomatch z) (fun _ => ep_tup (epa_cons (ep_v (ev_var rfl) (.str _ (by decide))) (epa_cons (ep_v (ev_var rfl) (.int _)) epa_nil)) (by simp))) fun v H' e k => fin _ (keep_chg (by omega) (by omega)) rfl v H' e k
    · refine s_retP (D := .tuple [.str "last", .int (1 + (r2 : Int))]) (ep_if (b := false) (et_test (ev_is (ev_op (ev_var rfl) ev_c (rv_eq rfl)) (by rw [decide_eq_false (by decide +kernel)]))) (fun z => nomatch z) (fun _ => ep_tup (epa_cons (ep_v (ev_var rfl) (.str _ (by decide))) (epa_cons (ep_v (ev_var rfl) (.int _)) epa_nil)) (by simp))) fun v H' e k => fin _ (keep_last (by omega) (by omega)) rfl v H' e k
end
end Dt

/-! The law's drawn conditions. -/
namespace Dt
open PySem L2 Evl Dg LamR LamX TL
open Dr (StAt SameB)
theorem fig_at {r : Nat} (h : r < 10) : ("0123456789" : Str).cps.toList[r]? = some (48 + r) := by
  have cc : r = 0 ∨ r = 1 ∨ r = 2 ∨ r = 3 ∨ r = 4 ∨ r = 5 ∨ r = 6 ∨ r = 7 ∨ r = 8 ∨ r = 9 := by omega
  rcases cc with rfl | rfl | rfl | rfl | rfl | rfl | rfl | rfl | rfl | rfl <;> decide +kernel
section
variable {P : Program} {w : World} {K : PySem.W.Frag} {mg : Str → Option Value} {base : Heap} {fm fdr : Addr}
def spLCond : Sp := fun vs H Q _ => ∃ (p c l : Addr) (n β m : Nat) (a : Int), vs = [.ref p, .int β, .int m] ∧ StAt H p c l n a ∧ l ≠ c ∧ a < 2 ^ 39 - 100 ∧ 2 ≤ β ∧ β ≤ 10 ∧ 1 ≤ m ∧ m ≤ 6 ∧
  ∀ (v : V) (d : PyData) (H' : Hp) (b : Int), condB β d = true → noL d = true → Pt H' v d → a ≤ b → b ≤ a + 10 → StAt H' p c l n b → SameB H H' p l → Q v H'
theorem scLCond : FnScope ["state", "base", "most", "way", "least", "top", "text", "k"] ["state", "base", "most"] (defScope sLCond) := ⟨rfl, rfl, rfl, by decide +kernel, rfl, by decide +kernel, by decide +kernel⟩
theorem ok_lcond {f : Addr} {fd fdd : FuncData} (F : Fun K "_law_condition" "_law_condition" sLCond f fd) (GD : FnOk P w K mg base CX0 2 fdr fdd ["state", "many"] Dr.spDraw) (bD : Binds K fdd ["state", "many"] []) (T : Dr.TxO K mg fm fdr) (mR : mg "range" = none) (mM : mg "min" = none) :
    FnOk P w K mg base CX0 3 f fd ["state", "base", "most"] spLCond := by
  refine F.ok scLCond (fun vs H Q E h => ?_) (fun cdv A outer s H vs Q E hr h => ?_)
  · obtain ⟨p, c, l, n, β, m, a, rfl, _⟩ := h
    rfl
  · obtain ⟨p, c, l, n, β, m, a, rfl, S, nlc, ha, b2, b10, m1, m6, q⟩ := h
    refine ⟨_, pss_cons (ps_par (i := 3) (j := 4) (by rfl) scLCond.nd rfl rfl (by decide) rfl rfl (pa_cons (pe_call GD hr (by rfl) T.draw T.kDraw bD .nil pass0 (pa_cons (pv 0) (pa_cons pe_int pa_nil))) (pa_cons (pe_op op_add pe_int (pe_call GD hr (by rfl) T.draw T.kDraw bD .nil pass0 (pa_cons (pv 0) (pa_cons (pv 2) pa_nil)))) pa_nil)) (by rfl))
      (pss_cons (ps_set (i := 5) scLCond.nd rfl (.inl rfl) (pe_ix ix_list (pe_lst (pa_cons pe_non (pa_cons (pe_op op_add (pv 4) (pe_call GD hr (by rfl) T.draw T.kDraw bD .nil pass0 (pa_cons (pv 0) (pa_cons (pe_op op_add (pe_op op_sub (pv 2) (pv 4)) pe_int) pa_nil)))) pa_nil))) (pe_call GD hr (by rfl) T.draw T.kDraw bD .nil pass0 (pa_cons (pv 0) (pa_cons pe_int pa_nil))) (fun _ _ => rfl)))
      (pss_cons (ps_if (pt_cmpR op_eq (pv 3) pe_int (nomark _))
        (pss_cons (ps_set (i := 6) scLCond.nd rfl (.inl rfl) pe_str)
        (pss_cons (ps_for PassesOwn.never rfl (pi_range1 (by rfl) mR (pa_cons (pe_op op_add pe_int (pe_call GD hr (by rfl) T.draw T.kDraw bD .nil pass0 (pa_cons (pv 0) (pa_cons (pe_callB (call_min2 (by rfl)) (by rfl) mM (by decide +kernel) (pa_cons pe_int (pa_cons (pv 2) pa_nil))) pa_nil)))) pa_nil)) (pg_name (i := 7) scLCond.nd rfl (.inl rfl))
          (pss_one (ps_set (i := 6) scLCond.nd rfl (.inl rfl) (pe_op op_add_str (pv 6) (pe_ix ix_str pe_str (pe_call GD hr (by rfl) T.draw T.kDraw bD .nil pass0 (pa_cons (pv 0) (pa_cons (pv 1) pa_nil))) (fun _ _ => rfl))))))
        (pss_one (ps_ret (pe_tup (pa_cons pe_str (pa_cons (pv 6) pa_nil))))))) pss_nil)
      (pss_cons (ps_if (pt_cmpR op_eq (pv 3) pe_int (nomark _)) (pss_one (ps_ret (pe_tup (pa_cons pe_str (pa_cons (pe_op op_sub (pv 4) (pe_call GD hr (by rfl) T.draw T.kDraw bD .nil pass0 (pa_cons (pv 0) (pa_cons pe_int pa_nil)))) pa_nil))))) pss_nil)
      (pss_one (ps_ret (pe_tup (pa_cons (pe_ix ix_list (pe_lst (pa_cons pe_str (pa_cons pe_str pa_nil))) (pe_op op_sub (pv 3) pe_int) (fun _ _ => rfl)) (pa_cons (pv 4) (pa_cons (pv 5) pa_nil))))))))), ?_⟩
    refine rd_draw (p := p) rfl ev_c S nlc (by omega) (by decide) (by decide) fun r H1 hr1 S1 sb1 => ?_
    refine rd_draw (p := p) rfl (ev_var rfl) S1 nlc (by omega) (by omega) (by omega) fun r2 H2 hr2 S2 sb2 => ?_
    refine ⟨_, _, rfl, rfl, _, _, rfl, ?_⟩
    refine ⟨_, rfl, rd_draw (p := p) rfl (ev_op (ev_op (ev_var rfl) (ev_var rfl) rv_I0) ev_c rv_I0) S2 nlc (by omega) (by omega) (by omega) fun r3 H3 hr3 S3 sb3 => ⟨_, _, rfl, rfl, (by show (2:Nat) ≤ sizeLine; rw [sizeLine_eq]; omega), fun lr nlr => ?_⟩⟩
    have e3 := Ex.new (o := .lst [.non, .int (1 + (r2 : Int) + (r3 : Int))]) nlr
    have o3 := off_of S3 nlr
    refine rd_draw (p := p) rfl ev_c (S3.ex e3) nlc (by omega) (by decide) (by decide) fun r4 H4 hr4 S4 sb4 => ?_
    have g4 : H4 lr = some (.lst [.non, .int (1 + (r2 : Int) + (r3 : Int))]) := sb4 _ _ upd_same o3.1 o3.2
    have key : ∃ (z : V) (d : PyData), ([V.non, .int (1 + (r2 : Int) + (r3 : Int))])[r4]? = some z ∧ (∀ H', Pt H' z d) ∧ noL d = true ∧ (d = .none ∨ ∃ j : Int, d = .int j ∧ (1 + (r2 : Int)) ≤ j ∧ j ≤ 6) := by
      have cc : r4 = 0 ∨ r4 = 1 := by omega
      rcases cc with rfl | rfl
      · exact ⟨_, _, rfl, fun _ => .non, rfl, .inl rfl⟩
      · exact ⟨_, _, rfl, fun _ => .int _, rfl, .inr ⟨_, rfl, by omega, by omega⟩⟩
    obtain ⟨z, dz, hz, kz, nz, cz⟩ := key
    refine ⟨lr, _, _, _, rfl, rfl, SqL.of g4, atI_nat hz, ?_⟩
    have sb := sameB_trans (sameB_trans (sameB_trans (sameB_trans sb1 sb2) sb3) (sameB_ex e3)) sb4
    have et : ∀ (k : Nat) (H' : Hp), EvT (tTest (tOp rEq (tVar 3) (tC (.int (k : Int))))) [some (.ref p), some (.int β), some (.int m), some (.int (r : Int)), some (.int (1 + (r2 : Int))), some z, none, none] H' (decide (r = k)) := fun k H' =>
      et_test (ev_is (ev_op (ev_var rfl) ev_c (rv_eq rfl)) (by
        congr 1
        refine decide_eq_decide.mpr ⟨fun y => ?_, fun y => by rw [y]⟩
        injection y with y
        omega))
    refine q_when (et 0 H4) (fun z0 H5 e5 => ?_) (fun z0 H5 e5 => ?_)
    · -- ends
      refine q_asg ev_c fun H6 e6 => ?_
      have S6 := (S4.ex e5).ex e6
      have sb6 := sameB_trans (sameB_trans sb (sameB_ex e5)) (sameB_ex e6)
      refine rd_draw (p := p) (te := _) rfl (ev_cb (ea_cons ev_c (ea_cons (ev_var rfl) ea_nil)) fun H1 _ Q k => ⟨_, _, rfl, k _ (Ex.refl _)⟩) S6 nlc (by omega) (by split <;> omega) (by split <;> omega) fun r5 H7 hr5 S7 sb7 => ?_
      have r52 : r5 < 2 := by
        have := hr5
        split at this <;> omega
      refine ⟨_, _, rfl, rfl, _, rfl, by omega, by omega, ?_⟩
      rw [show (1 + (r5 : Int)).toNat = 1 + r5 by omega]
      refine for_range (n := 1 + r5) (fun i σ' H' => ∃ (t : Str) (x7 : Option V) (b : Int), σ' = [some (.ref p), some (.int β), some (.int m), some (.int (r : Int)), some (.int (1 + (r2 : Int))), some z, some (.str t), x7] ∧ t.length = i ∧ ((tl t).all fun c => decide (48 ≤ c ∧ c < 48 + β)) = true ∧
        b = a + 5 + i ∧ StAt H' p c l n b ∧ SameB H H' p l) ⟨"", _, a + 5, rfl, rfl, rfl, (by omega), (by rw [show a + 5 = a + 1 + 1 + 1 + 1 + 1 by omega]; exact S7), sameB_trans sb6 sb7⟩ (fun i σ' H' hi hI => ?_) (fun σ' H' hI => ?_)
      · obtain ⟨t, x7, b, rfl, ht, hf, rfl, S', sb'⟩ := hI
        refine ⟨_, rfl, rd_draw (p := p) rfl (ev_var rfl) S' nlc (by omega) (by omega) (by omega) fun r6 H8 hr6 S8 sb8 => ?_⟩
        refine ⟨_, _, 48 + r6, rfl, rfl, by decide, atI_nat (fig_at (by omega)), _, _, rfl, rfl, ?_, ?_⟩
        · rw [ht, show (Str.length ⟨#[48 + r6]⟩) = 1 from rfl, sizeLine_eq]
          omega
        · refine ⟨_, _, _, rfl, ?_, ?_, rfl, (by rw [show a + 5 + ((i + 1 : Nat) : Int) = a + 5 + (i : Int) + 1 by omega]; exact S8), sameB_trans sb' sb8⟩
          · rw [TL.len_tl, tl_append, List.length_append, ← TL.len_tl, ht]
            rfl
          · rw [tl_append, List.all_append, hf]
            show (decide (48 ≤ 48 + r6 ∧ 48 + r6 < 48 + β) && true) = true
            rw [decide_eq_true ⟨by omega, by omega⟩]
            rfl
      · obtain ⟨t, x7, b, rfl, ht, hf, rfl, S', sb'⟩ := hI
        refine s_retP (D := .tuple [.str "ends", .str t]) (ep_tup (epa_cons (ep_str (by decide)) (epa_cons (ep_v (ev_var rfl) (.str t (by omega))) epa_nil)) (by simp)) fun v H9 e9 k9 => ?_
        refine q v _ H9 _ (cond_ends ?_) rfl k9 (by omega) (by omega) (S'.ex e9) (sameB_trans sb' (sameB_ex e9))
        unfold isFigs
        rw [hf, decide_eq_true (by omega), decide_eq_true (by omega)]
        rfl
    · have S5 := S4.ex e5
      have sb5 := sameB_trans sb (sameB_ex e5)
      refine q_when (et 1 H5) (fun z1 H6 e6 => ?_) (fun z1 H6 e6 => ?_)
      · -- near
        refine ⟨_, rfl, rd_draw (p := p) rfl ev_c (S5.ex e6) nlc (by omega) (by decide) (by decide) fun r5 H7 hr5 S7 sb7 => ⟨_, _, rfl, rfl, (by show (2:Nat) ≤ sizeLine; rw [sizeLine_eq]; omega), fun tp ntp => ?_⟩⟩
        have e7 := Ex.new (o := .tup [.str "near", .int (1 + (r2 : Int) - (r5 : Int))]) ntp
        refine q _ (.tuple [.str "near", .int (1 + (r2 : Int) - (r5 : Int))]) _ _ (cond_near (by omega) (by omega)) rfl (.tup upd_same (.cons (.str _ (by decide)) (.cons (.int _) .nil))) (by omega) (by omega) (S7.ex e7) (sameB_trans (sameB_trans (sameB_trans sb5 (sameB_ex e6)) sb7) (sameB_ex e7))
      · -- length, changed
        have hrr : r = 2 ∨ r = 3 := by
          have y0 : ¬ r = 0 := of_decide_eq_false z0
          have y1 : ¬ r = 1 := of_decide_eq_false z1
          omega
        have hx : ∃ x : Str, (x = "length" ∨ x = "changed") ∧ ([V.str "length", .str "changed"])[r - 2]? = some (.str x) ∧ x.length ≤ 3000 := by
          rcases hrr with rfl | rfl
          · exact ⟨_, .inl rfl, rfl, by decide⟩
          · exact ⟨_, .inr rfl, rfl, by decide⟩
        obtain ⟨x, hx1, hx2, hx3⟩ := hx
        refine s_retP (D := .tuple [.str x, .int (1 + (r2 : Int)), dz]) (ep_tup (epa_cons (ep_v (ev_opL1 (el_lst (ea_cons ev_c (ea_cons ev_c ea_nil)) (by simp)) (fun H7 e7 => ev_op (ev_var rfl) ev_c rv_I0) fun p7 H7 h7 e7 => rv_ixL (sq_of h7) (by
            show atI _ ((r : Int) - 2) = _
            rw [show (r : Int) - 2 = ((r - 2 : Nat) : Int) by omega]
            exact atI_nat hx2)) (.str x hx3)) (epa_cons (ep_v (ev_var rfl) (.int _)) (epa_cons (ep_v (ev_var rfl) (kz _)) epa_nil))) (by simp)) fun v H9 e9 k9 => ?_
        refine q v _ H9 _ (cond_len hx1 (by omega) (by omega) cz) ?_ k9 (by omega) (by omega) ((S5.ex e6).ex e9) (sameB_trans (sameB_trans sb5 (sameB_ex e6)) (sameB_ex e9))
        show (true && (true && (noL dz && true))) = true
        rw [nz]
        rfl
end
end Dt

/-! The law's drawn rules. -/
namespace Dt
open PySem L2 Evl Dg LamR LamX TL
open Dr (StAt SameB)
section
variable {P : Program} {w : World} {K : PySem.W.Frag} {mg : Str → Option Value} {base : Heap} {fm fdr flc flk : Addr}
theorem stAt_upd {H : Hp} {p c l x : Addr} {n : Nat} {a : Int} {o : HO} (S : StAt H p c l n a) (h : x ≠ p ∧ x ≠ c ∧ x ≠ l) : StAt (upd H x o) p c l n a :=
  ⟨by rw [upd_ne h.1.symm]; exact S.d, let ⟨cs, k, z⟩ := S.c; ⟨cs, by rw [upd_ne h.2.1.symm]; exact k, z⟩, let ⟨ls, k, z⟩ := S.l; ⟨ls, by rw [upd_ne h.2.2.symm]; exact k, z⟩, S.n0, S.n1, S.a0⟩
theorem off3 {H : Hp} {p c l x : Addr} {n : Nat} {a : Int} (S : StAt H p c l n a) (h : H x = none) : x ≠ p ∧ x ≠ c ∧ x ≠ l := by
  obtain ⟨ls, hls, _⟩ := S.l
  obtain ⟨cs, hcs, _⟩ := S.c
  exact ⟨(ne_of_none S.d h).symm, (ne_of_none hcs h).symm, (ne_of_none hls h).symm⟩
theorem sameB_upd {H H' : Hp} {p l x : Addr} {o : HO} (e : SameB H H' p l) (h : H x = none) : SameB H (upd H' x o) p l := fun b u hb h1 h2 => by
  rw [upd_ne (ne_of_none hb h)]
  exact e b u hb h1 h2
/-- rules as a law draws them: so many with conditions, and a last one -/
def Rls (β : Nat) (Ds : List PyData) : Prop := ∃ Es k, Ds = Es ++ [.tuple [.tuple [], k]] ∧ keepB k = true ∧ Es.all (ruleB β) = true
theorem Rls.all {β : Nat} {Ds : List PyData} (h : Rls β Ds) : Ds.all (ruleB β) = true := by
  obtain ⟨Es, k, rfl, hk, he⟩ := h
  rw [List.all_append, he]
  show (ruleB β (.tuple [.tuple [], k]) && true) = true
  rw [rule_mk, hk]
  rfl
def spLRules : Sp := fun vs H Q _ => ∃ (p c l : Addr) (n β m y : Nat) (a : Int), vs = [.ref p, .int β, .int m, .int y] ∧ StAt H p c l n a ∧ l ≠ c ∧ a < 2 ^ 39 - 10000 ∧ 2 ≤ β ∧ β ≤ 10 ∧ 1 ≤ m ∧ m ≤ 6 ∧ y ≤ 8 ∧
  ∀ (v : V) (Ds : List PyData) (H' : Hp) (b : Int), Rls β Ds → Ds.length ≤ y + 1 → noLs Ds = true → Pt H' v (.tuple Ds) → a ≤ b → b ≤ a + 1000 → StAt H' p c l n b → SameB H H' p l → Q v H'
theorem scLRules : FnScope ["state", "base", "most", "many", "found", "k", "some", "j"] ["state", "base", "most", "many"] (defScope sLRules) := ⟨rfl, rfl, rfl, by decide +kernel, rfl, by decide +kernel, by decide +kernel⟩
theorem Pt.tupI {H : Hp} {v : V} {ds : List PyData} (h : Pt H v (.tuple ds)) : ∃ a vs, v = .ref a ∧ H a = some (.tup vs) ∧ PtAll H vs ds := by
  cases h with
  | tup hs ha => exact ⟨_, _, rfl, hs, ha⟩
theorem ok_lrules {f : Addr} {fd fdd fdc fdk : FuncData} (F : Fun K "_law_rules" "_law_rules" sLRules f fd) (GD : FnOk P w K mg base CX0 3 fdr fdd ["state", "many"] Dr.spDraw) (bD : Binds K fdd ["state", "many"] []) (T : Dr.TxO K mg fm fdr)
    (GC : FnOk P w K mg base CX0 3 flc fdc ["state", "base", "most"] spLCond) (bC : Binds K fdc ["state", "base", "most"] []) (gC : mg "_law_condition" = some (.ref flc)) (kC : PySem.W.keepIn K (.ref flc) = true)
    (GK : FnOk P w K mg base CX0 3 flk fdk ["state", "most"] spLKeep) (bK : Binds K fdk ["state", "most"] []) (gK : mg "_law_keep" = some (.ref flk)) (kK : PySem.W.keepIn K (.ref flk) = true) (mR : mg "range" = none) (mT : mg "tuple" = none) :
    FnOk P w K mg base CX0 4 f fd ["state", "base", "most", "many"] spLRules := by
  refine F.ok scLRules (fun vs H Q E h => ?_) (fun cdv A outer s H vs Q E hr h => ?_)
  · obtain ⟨p, c, l, n, β, m, y, a, rfl, _⟩ := h
    rfl
  · obtain ⟨p, c, l, n, β, m, y, a, rfl, S, nlc, ha, b2, b10, m1, m6, y8, q⟩ := h
    refine ⟨_, pss_cons (ps_set (i := 4) scLRules.nd rfl (.inl rfl) (pe_lst pa_nil))
      (pss_cons (ps_for PassesOwn.never rfl (pi_range1 (by rfl) mR (pa_cons (pe_call GD hr (by rfl) T.draw T.kDraw bD .nil pass0 (pa_cons (pv 0) (pa_cons (pe_op op_add (pv 3) pe_int) pa_nil))) pa_nil)) (pg_name (i := 5) scLRules.nd rfl (.inl rfl))
        (pss_cons (ps_set (i := 6) scLRules.nd rfl (.inl rfl) (pe_callTy call_tuple_of (by rfl) mT (by decide +kernel) (pa_cons (pe_lc (own := [("j", 7)]) (g := gName 7) (tt := tYes) rfl scLRules.nd (pi_range1 (by rfl) mR (pa_cons (pe_ix ix_list (pe_lst (pa_cons pe_int (pa_cons pe_int (pa_cons pe_int (pa_cons pe_int (pa_cons pe_int (pa_cons pe_int (pa_cons pe_int pa_nil)))))))) (pe_call GD hr (by rfl) T.draw T.kDraw bD .nil pass0 (pa_cons (pv 0) (pa_cons pe_int pa_nil))) (fun _ _ => rfl)) pa_nil))
            (blkOk_by (own := [("j", 7)]) (N := ["state", "base", "most", "many", "found", "k", "some", "j"]) (sc := defScope sLRules) (by decide +kernel)) (fun _ _ _ _ _ => pg_name (i := 7) scLRules.nd rfl (Or.inl rfl)) (fun _ _ _ _ _ => pts_nil)
            (fun _ _ _ _ _ => pe_call GC hr (by rfl) gC kC bC .nil pass0 (pa_cons (pv 0) (pa_cons (pv 1) (pa_cons (pv 2) pa_nil))))) pa_nil)))
        (pss_one (ps_expr (pe_bm PySem.F.plainAttrs_list PySem.F.slot_list_append PySem.F.type_list_append mt_append (pv 4) (pa_cons (pe_tup (pa_cons (pv 6) (pa_cons (pe_call GK hr (by rfl) gK kK bK .nil pass0 (pa_cons (pv 0) (pa_cons (pv 2) pa_nil))) pa_nil))) pa_nil))))))
      (pss_one (ps_ret (pe_op op_catA (pe_callTy call_tuple_of (by rfl) mT (by decide +kernel) (pa_cons (pv 4) pa_nil)) (pe_tup (pa_cons (pe_tup (pa_cons (pe_tup pa_nil) (pa_cons (pe_call GK hr (by rfl) gK kK bK .nil pass0 (pa_cons (pv 0) (pa_cons (pv 2) pa_nil))) pa_nil))) pa_nil)))))), ?_⟩
    refine ⟨(Nat.zero_le _), fun fl nfl => ?_⟩
    have e0 := Ex.new (o := .lst []) nfl
    have ofl := off_of S nfl
    have ofl3 := off3 S nfl
    refine rd_draw (p := p) rfl (ev_op (ev_var rfl) ev_c rv_I0) (S.ex e0) nlc (by omega) (by omega) (by omega) fun r H1 hr1 S1 sb1 => ?_
    have hr8 : r ≤ y := by omega
    have sb01 := sameB_trans (sameB_ex (p := p) (l := l) e0) sb1
    have f1 : H1 fl = some (.lst []) := sb1 _ _ upd_same ofl.1 ofl.2
    refine ⟨_, rfl, by omega, by omega, ?_⟩
    rw [show ((r : Nat) : Int).toNat = r by omega]
    refine for_range (n := r) (fun i σ' H' => ∃ (x5 x6 : Option V) (us : List V) (Es : List PyData) (b : Int), σ' = [some (.ref p), some (.int β), some (.int m), some (.int y), some (.ref fl), x5, x6, none] ∧ H' fl = some (.lst us) ∧ Es.length = i ∧ PtAll H' us Es ∧ Es.all (ruleB β) = true ∧ noLs Es = true ∧
      a ≤ b ∧ b ≤ a + 1 + 50 * i ∧ StAt H' p c l n b ∧ SameB H H' p l) ⟨_, _, [], [], a + 1, rfl, f1, rfl, .nil, rfl, rfl, by omega, by omega, S1, sb01⟩ (fun i σ' H2 hi hI => ?_) (fun σ' H2 hI => ?_)
    · -- one more rule
      obtain ⟨x5, x6, us, Es, b, rfl, hfl, hn, ks, kR, kN, ab, ba, S2, sb2⟩ := hI
      refine ⟨(by show (7:Nat) ≤ sizeLine; rw [sizeLine_eq]; omega), fun lr nlr => ?_⟩
      have e3 := Ex.new (o := .lst [.int 1, .int 1, .int 1, .int 2, .int 2, .int 3, .int 0]) nlr
      have o3 := off_of S2 nlr
      refine rd_draw (p := p) rfl ev_c (S2.ex e3) nlc (by omega) (by decide) (by decide) fun r4 H4 hr4 S4 sb4 => ?_
      have g4 : H4 lr = some (.lst [.int 1, .int 1, .int 1, .int 2, .int 2, .int 3, .int 0]) := sb4 _ _ upd_same o3.1 o3.2
      have key : ∃ z : Nat, ([V.int 1, .int 1, .int 1, .int 2, .int 2, .int 3, .int 0])[r4]? = some (.int (z : Int)) ∧ z ≤ 3 := by
        have cc : r4 = 0 ∨ r4 = 1 ∨ r4 = 2 ∨ r4 = 3 ∨ r4 = 4 ∨ r4 = 5 ∨ r4 = 6 := by omega
        rcases cc with rfl | rfl | rfl | rfl | rfl | rfl | rfl
        · exact ⟨1, rfl, by decide⟩
        · exact ⟨1, rfl, by decide⟩
        · exact ⟨1, rfl, by decide⟩
        · exact ⟨2, rfl, by decide⟩
        · exact ⟨2, rfl, by decide⟩
        · exact ⟨3, rfl, by decide⟩
        · exact ⟨0, rfl, by decide⟩
      obtain ⟨z, hz, z3⟩ := key
      refine ⟨lr, _, _, _, rfl, rfl, SqL.of g4, atI_nat hz, _, rfl, by omega, by omega, fun Dl nDl => ?_⟩
      rw [show ((z : Nat) : Int).toNat = z by omega]
      have e5 := Ex.new (o := .lst []) nDl
      have oD := off_of S4 nDl
      have tk4 : TupK H2 H4 := (tupK_ex e3).trans (tupK_same (S2.ex e3) sb4)
      have f4 : H4 fl = some (.lst us) := sb4 _ _ (e3 _ _ hfl) ofl.1 ofl.2
      have oD3 := off3 S4 nDl
      have nD0 : H Dl = none := by
        cases hz0 : H Dl with
        | none => rfl
        | some o => exact absurd (nDl.symm.trans (sameB_trans (sameB_trans sb2 (sameB_ex e3)) sb4 _ _ hz0 oD.1 oD.2)) (by simp)
      have nDf : Dl ≠ fl := (ne_of_none f4 nDl).symm
      have sb24 := sameB_trans (sameB_trans sb2 (sameB_ex e3)) sb4
      refine lc_range (lo := 0) (n := z) (fun j H' => ∃ (ws : List V) (Cs : List PyData) (b' : Int), H' Dl = some (.lst ws) ∧ Cs.length = j ∧ PtAll H' ws Cs ∧ Cs.all (condB β) = true ∧ noLs Cs = true ∧ b + 1 ≤ b' ∧ b' ≤ b + 1 + 10 * j ∧ StAt H' p c l n b' ∧ SameB H H' p l ∧ H' fl = some (.lst us) ∧ TupK H2 H')
        ⟨[], [], b + 1, upd_same, rfl, .nil, rfl, rfl, by omega, by omega, S4.ex e5, sameB_trans sb24 (sameB_ex e5), e5 _ _ f4, tk4.trans (tupK_ex e5)⟩ (fun j H5 hj hJ => ?_) (fun H5 hJ => ?_)
      · obtain ⟨ws, Cs, b', hD, hCl, kC', cC, nC, c1, c2, S5, sb5, f5, t5⟩ := hJ
        refine ⟨rfl, ?_⟩
        rw [show (tYes : TT) = fun _ H Q => Q true H from rfl]
        dsimp only
        rw [if_pos rfl]
        refine ⟨_, rfl, _, rfl, _, rfl, p, c, l, n, β, m, b', rfl, S5, nlc, by omega, b2, b10, m1, m6, fun v d H6 b6 cd nl kd d1 d2 S6 sb6 => ?_⟩
        have hD6 : H6 Dl = some (.lst ws) := sb6 _ _ hD oD.1 oD.2
        have t6 := tupK_same S5 sb6
        refine ⟨ws, hD6, by rw [kC'.length, hCl, sizeLine_eq]; omega, ws ++ [v], Cs ++ [d], b6, upd_same, by rw [List.length_append, hCl]; rfl, ((kC'.tk (t6.trans (tupK_upd hD6)) nC).app (.cons (kd.tk (tupK_upd hD6) nl) .nil)), ?_, ?_, by omega, by omega, ?_, ?_, ?_, (t5.trans t6).trans (tupK_upd hD6)⟩
        · rw [List.all_append, cC]
          show (condB β d && true) = true
          rw [cd]
          rfl
        · exact noLs_app nC (by show (noL d && true) = true; rw [nl]; rfl)
        · exact stAt_upd S6 oD3
        · exact sameB_upd (sameB_trans sb5 sb6) nD0
        · rw [upd_ne nDf.symm]
          exact sb6 _ _ f5 ofl.1 ofl.2
      · obtain ⟨ws, Cs, b', hD, hCl, kC', cC, nC, c1, c2, S5, sb5, f5, t5⟩ := hJ
        refine ⟨Dl, ws, rfl, .inl ⟨SqL.of hD, fun tp ntp => ?_⟩⟩
        have e6 := Ex.new (o := .tup ws) ntp
        have pc : Pt (upd H5 tp (.tup ws)) (.ref tp) (.tuple Cs) := .tup upd_same (kC'.ex e6)
        refine ⟨_, rfl, .inl ⟨rfl, _, SqL.of (e6 _ _ f5)⟩, ?_⟩
        refine ⟨_, rfl, _, rfl, _, rfl, p, c, l, n, m, b', rfl, S5.ex e6, nlc, by omega, m1, m6, fun v d H6 kd nd kv S6 sb6 => ⟨(by show (2:Nat) ≤ sizeLine; rw [sizeLine_eq]; omega), fun t2 nt2 => ?_⟩⟩
        have e7 := Ex.new (o := .tup [.ref tp, v]) nt2
        have t6 : TupK H5 (upd H6 t2 (.tup [.ref tp, v])) := ((tupK_ex e6).trans (tupK_same (S5.ex e6) sb6)).trans (tupK_ex e7)
        have f6 : (upd H6 t2 (.tup [.ref tp, v])) fl = some (.lst us) := e7 _ _ (sb6 _ _ (e6 _ _ f5) ofl.1 ofl.2)
        have pr : Pt (upd H6 t2 (.tup [.ref tp, v])) (.ref t2) (.tuple [.tuple Cs, d]) := .tup upd_same (.cons ((pc.same (S5.ex e6) sb6 (by rw [okD]; exact noLs_ok nC)).ex e7) (.cons (kv.ex e7) .nil))
        have nr : noL (.tuple [.tuple Cs, d]) = true := by
          show (noLs Cs && (noL d && true)) = true
          rw [nC, nd]
          rfl
        refine ⟨fl, us, _, rfl, rfl, f6, by rw [ks.length, hn, sizeLine_eq]; omega, _, _, us ++ [.ref t2], Es ++ [.tuple [.tuple Cs, d]], b' + 2, rfl, upd_same, by rw [List.length_append, hn]; rfl, ?_, ?_, ?_, by omega, by omega, stAt_upd (S6.ex e7) ofl3, sameB_upd (sameB_trans (sameB_trans (sameB_trans sb5 (sameB_ex e6)) sb6) (sameB_ex e7)) nfl⟩
        · exact (ks.tk ((t5.trans t6).trans (tupK_upd f6)) kN).app (.cons (pr.tk (tupK_upd f6) nr) .nil)
        · rw [List.all_append, kR]
          show (ruleB β (.tuple [.tuple Cs, d]) && true) = true
          rw [rule_mk, cC, kd, decide_eq_true (by omega)]
          rfl
        · exact noLs_app kN (by show (noL _ && true) = true; rw [nr]; rfl)
    · obtain ⟨x5, x6, us, Es, b, rfl, hfl, hn, ks, kR, kN, ab, ba, S2, sb2⟩ := hI
      refine ⟨_, rfl, fl, us, rfl, .inl ⟨SqL.of hfl, fun tp ntp => ?_⟩⟩
      have e3 := Ex.new (o := .tup us) ntp
      refine ⟨(by show (0:Nat) ≤ sizeLine; exact Nat.zero_le _), fun tn ntn => ?_⟩
      have e4 := Ex.new (o := .tup []) ntn
      refine ⟨_, rfl, _, rfl, p, c, l, n, m, b, rfl, (S2.ex e3).ex e4, nlc, by omega, m1, m6, fun v d H6 kd nd kv S6 sb6 => ⟨(by show (2:Nat) ≤ sizeLine; rw [sizeLine_eq]; omega), fun t2 nt2 => ⟨(by show (1:Nat) ≤ sizeLine; rw [sizeLine_eq]; omega), fun t3 nt3 => ?_⟩⟩⟩
      have e7 := Ex.new (o := .tup [.ref tn, v]) nt2
      have e8 := Ex.new (o := .tup [.ref t2]) nt3
      have S34 := (S2.ex e3).ex e4
      have t36 : TupK H2 H6 := ((tupK_ex e3).trans (tupK_ex e4)).trans (tupK_same S34 sb6)
      have e78 := e7.trans e8
      have gtp : H6 tp = some (.tup us) := tupK_same S34 sb6 _ _ (e4 _ _ upd_same)
      have gtn : H6 tn = some (.tup []) := tupK_same S34 sb6 _ _ upd_same
      have kl : Pt (upd (upd H6 t2 (.tup [.ref tn, v])) t3 (.tup [.ref t2])) (.ref t2) (.tuple [.tuple [], d]) := .tup (e8 _ _ upd_same) (.cons (.tup (e78 _ _ gtn) .nil) (.cons (kv.ex e78) .nil))
      have ks8 : PtAll (upd (upd H6 t2 (.tup [.ref tn, v])) t3 (.tup [.ref t2])) us Es := ks.tk (t36.trans (tupK_ex e78)) kN
      have sb8 := sameB_trans (sameB_trans (sameB_trans (sameB_trans sb2 (sameB_ex e3)) (sameB_ex e4)) sb6) (sameB_ex e78)
      have nl : noLs (Es ++ [.tuple [.tuple [], d]]) = true := noLs_app kN (by show ((true && (noL d && true)) && true) = true; rw [nd]; rfl)
      have hlen : (Es ++ [PyData.tuple [.tuple [], d]]).length ≤ y + 1 := by
        rw [List.length_append, hn]
        show r + 1 ≤ y + 1
        omega
      refine ⟨tp, t3, us, [.ref t2], rfl, rfl, st_of (e78 _ _ gtp), st_of upd_same, by rw [ks.length, hn, sizeLine_eq]; simp only [List.length_cons, List.length_nil]; omega, fun hz => ?_, fun _ z => (by simp at z), fun hz _ t9 nt9 => ?_⟩
      · have he : Es = [] := by
          have := ks.length
          rw [hz] at this
          exact List.length_eq_zero_iff.mp this.symm
        subst he
        refine q _ [.tuple [.tuple [], d]] _ (b + 2) ⟨[], d, rfl, kd, rfl⟩ hlen nl (.tup upd_same (.cons kl .nil)) (by omega) (by omega) (S6.ex e78) sb8
      · have e9 := Ex.new (o := .tup (us ++ [.ref t2])) nt9
        exact q _ _ _ (b + 2) ⟨Es, d, rfl, kd, kR⟩ hlen nl (.tup upd_same ((ks8.app (.cons kl .nil)).ex e9)) (by omega) (by omega) ((S6.ex e78).ex e9) (sameB_trans sb8 (sameB_ex e9))
end
end Dt

/-! The law's lists of things by hand. -/
namespace Dt
open PySem L2 Evl Dg LamR LamX TL
open Dr (StAt SameB)
def topS (β : Nat) : Str := ⟨#[48 + (β - 1)]⟩
def botS (β : Nat) : Str := ⟨#[if β = 10 then 120 else 48 + β]⟩
theorem zt_len (β : Nat) : (("0" : Str) ++ topS β).length = 2 := by rw [strLen_append]; rfl
theorem tt_len (β : Nat) : (topS β ++ topS β).length = 2 := by rw [strLen_append]; rfl
theorem rv_addS {x y : Str} {H : Hp} (h : decide (x.length + y.length ≤ 100) = true) : RV (fun x y H Q => ∃ i j, x = .str i ∧ y = .str j ∧ i.length + j.length ≤ sizeLine ∧ Q (.str (i ++ j)) H) (.str x) (.str y) H (.str (x ++ y)) := fun H1 e Q q => ⟨x, y, rfl, rfl, by
  have := of_decide_eq_true h
  rw [sizeLine_eq]
  omega, q H1 (Ex.refl H1)⟩
theorem rv_bot {β : Nat} {H : Hp} (h2 : 2 ≤ β) (h10 : β ≤ 10) : RV rIxS (.str "0123456789x") (.int (β : Int)) H (.str (botS β)) := by
  refine rv_ixS (by decide) (atI_nat (v := if β = 10 then 120 else 48 + β) ?_)
  have cc : β = 2 ∨ β = 3 ∨ β = 4 ∨ β = 5 ∨ β = 6 ∨ β = 7 ∨ β = 8 ∨ β = 9 ∨ β = 10 := by omega
  rcases cc with rfl | rfl | rfl | rfl | rfl | rfl | rfl | rfl | rfl <;> decide +kernel
theorem rv_top {β : Nat} {H : Hp} (h2 : 2 ≤ β) (h10 : β ≤ 10) : RV rIxS (.str "0123456789") (.int ((β : Int) - 1)) H (.str (topS β)) := by
  refine rv_ixS (by decide) ?_
  rw [show (β : Int) - 1 = ((β - 1 : Nat) : Int) by omega]
  exact atI_nat (fig_at (by omega))
def good0 (β : Nat) : List PyData := [(.tuple [(.str "ends"), (.str "0")]), (.tuple [(.str "ends"), (.str (topS β))]), (.tuple [(.str "ends"), (.str ("0" ++ topS β))]), (.tuple [(.str "ends"), (.str (topS β ++ topS β))]), (.tuple [(.str "length"), (.int 1), (.int 1)]), (.tuple [(.str "length"), (.int 6), (.int 6)])]
def good1 (β : Nat) : List PyData := [(.tuple [(.str "length"), (.int 1), (.int 6)]), (.tuple [(.str "length"), (.int 1), .none]), (.tuple [(.str "length"), (.int 6), .none]), (.tuple [(.str "changed"), (.int 1), (.int 1)]), (.tuple [(.str "changed"), (.int 2), (.int 6)])]
def good2 (β : Nat) : List PyData := [(.tuple [(.str "changed"), (.int 6), (.int 6)]), (.tuple [(.str "changed"), (.int 1), .none]), (.tuple [(.str "near"), (.int 0)]), (.tuple [(.str "near"), (.int 6)]), (.tuple [(.str "near"), (.int 3)])]
def goodD (β : Nat) : List PyData := (good0 β ++ good1 β) ++ good2 β
def bad0 (β : Nat) : List PyData := [.none, (.int 5), (.str "near"), (.tuple []), (.tuple [(.str "near")]), (.tuple [(.str "near"), (.int 7)]), (.tuple [(.str "near"), (.int (-1))]), (.tuple [(.str "near"), (.bool true)]), (.tuple [(.str "near"), .none]), (.tuple [(.str "near"), (.str "1")])]
def bad1 (β : Nat) : List PyData := [(.tuple [(.str "near"), (.int 1), (.int 2)]), (.list [(.str "near"), (.int 1)]), (.tuple [(.str "ends"), (.str "")]), (.tuple [(.str "ends"), (.str "000")]), (.tuple [(.str "ends"), (.int 0)]), (.tuple [(.str "ends"), (.str "a")]), (.tuple [(.str "ends")])]
def bad2 (β : Nat) : List PyData := [(.tuple [(.str "ends"), (.str "0"), (.str "1")]), (.tuple [(.str "ends"), (.str "0 ")]), (.tuple [(.str "ends"), (.str "/")]), (.tuple [(.str "ends"), (.str ":")]), (.tuple [(.str "ends"), (.list [(.str "0")])]), (.tuple [(.str "ends"), .none])]
def bad3 (β : Nat) : List PyData := [(.tuple [(.str "length"), (.int 0), (.int 1)]), (.tuple [(.str "length"), (.int 7), .none]), (.tuple [(.str "length"), (.int 3), (.int 2)]), (.tuple [(.str "length"), (.int 1), (.int 7)]), (.tuple [(.str "length"), (.int 1)]), (.tuple [(.int 5), (.int 1), (.int 2)])]
def bad4 (β : Nat) : List PyData := [(.tuple [(.str "length"), .none, (.int 3)]), (.tuple [(.str "length"), (.bool true), (.int 3)]), (.tuple [(.str "length"), (.int 1), (.bool true)]), (.tuple [(.str "length"), (.str "1"), (.int 3)])]
def bad5 (β : Nat) : List PyData := [(.tuple [(.str "changed"), (.int 0), (.int 3)]), (.tuple [(.str "changed"), (.int 2), (.int 1)]), (.tuple [(.str "changed"), (.int 1), (.int 2), (.int 3)]), (.tuple [(.str "changed"), (.int 7), (.int 7)]), (.tuple [(.str "Changed"), (.int 1), (.int 2)])]
def bad6 (β : Nat) : List PyData := [(.tuple [(.str "second"), (.int 1), (.int 2)]), (.tuple [.none, (.int 1), (.int 2)]), (.tuple [(.str "near"), (.tuple [(.int 1)])]), (.tuple [(.str "length"), (.int 1), (.int (-1))]), (.tuple [(.str ""), (.int 1)]), (.tuple [(.str "length"), (.int 1), (.str "*")])]
def bad7 (β : Nat) : List PyData := [(.tuple [(.str "ends"), (.str (botS β))])]
def badD (β : Nat) : List PyData := (((((((bad0 β ++ bad1 β) ++ bad2 β) ++ bad3 β) ++ bad4 β) ++ bad5 β) ++ bad6 β) ++ bad7 β)
def kgD : List PyData := [(.tuple [(.str "all")]), (.tuple [(.str "changed"), (.int 1)]), (.tuple [(.str "changed"), (.int 6)]), (.tuple [(.str "last"), (.int 1)]), (.tuple [(.str "last"), (.int 6)])]
def kb0 : List PyData := [.none, (.int 5), (.str "all"), (.tuple []), (.list [(.str "all")]), (.tuple [(.str "all"), (.int 1)]), (.tuple [(.str "All")]), (.tuple [(.str "changed")]), (.tuple [(.str "changed"), (.int 0)]), (.tuple [(.str "changed"), (.int 7)]), (.tuple [(.str "last"), (.int 0)])]
def kb1 : List PyData := [(.tuple [(.str "last"), (.int 7)]), (.tuple [(.str "last"), (.bool true)]), (.tuple [(.str "last"), .none]), (.tuple [(.str "changed"), (.str "1")]), (.tuple [(.str "last"), (.int 1), (.int 2)]), (.tuple [(.str "first"), (.int 1)]), (.tuple [.none])]
def kb2 : List PyData := [(.tuple [(.str "last"), (.bool false)]), (.tuple [(.str "all"), .none]), (.tuple [(.tuple [(.str "all")])]), (.tuple [(.str "changed"), (.int (-1))])]
def kbD : List PyData := (kb0 ++ kb1) ++ kb2
theorem good_ok {β : Nat} (h2 : 2 ≤ β) (h10 : β ≤ 10) : (goodD β).all (condB β) = true ∧ noLs (goodD β) = true ∧ (goodD β).length = 16 := by
  have cc : β = 2 ∨ β = 3 ∨ β = 4 ∨ β = 5 ∨ β = 6 ∨ β = 7 ∨ β = 8 ∨ β = 9 ∨ β = 10 := by omega
  rcases cc with rfl | rfl | rfl | rfl | rfl | rfl | rfl | rfl | rfl <;> decide +kernel
theorem bad_ok {β : Nat} (h2 : 2 ≤ β) (h10 : β ≤ 10) : ((badD β).all fun d => !condB β d) = true ∧ okDs (badD β) = true ∧ (badD β).length = 45 := by
  have cc : β = 2 ∨ β = 3 ∨ β = 4 ∨ β = 5 ∨ β = 6 ∨ β = 7 ∨ β = 8 ∨ β = 9 ∨ β = 10 := by omega
  rcases cc with rfl | rfl | rfl | rfl | rfl | rfl | rfl | rfl | rfl <;> decide +kernel
theorem kg_ok : kgD.all keepB = true ∧ noLs kgD = true := by decide +kernel
theorem kb_ok : (kbD.all fun d => !keepB d) = true ∧ okDs kbD = true := by decide +kernel
abbrev sLGood : Stmt := top 43
abbrev sLBad : Stmt := top 44
abbrev sLKeeps : Stmt := top 45
section
variable {P : Program} {w : World} {K : PySem.W.Frag} {mg : Str → Option Value} {base : Heap}
def spLGood : Sp := fun vs H Q _ => ∃ β : Nat, vs = [.int β] ∧ 2 ≤ β ∧ β ≤ 10 ∧ ∀ v H', Ex H H' → Pt H' v (.list (goodD β)) → Q v H'
theorem scLGood : FnScope ["base", "top", "some"] ["base"] (defScope sLGood) := ⟨rfl, rfl, rfl, by decide +kernel, rfl, by decide +kernel, by decide +kernel⟩
theorem ok_lgood {f : Addr} {fd : FuncData} (F : Fun K "_law_good" "_law_good" sLGood f fd) : FnOk P w K mg base CX0 1 f fd ["base"] spLGood := by
  refine F.ok scLGood (fun vs H Q E h => ?_) (fun cdv A outer s H vs Q E hr h => ?_)
  · obtain ⟨β, rfl, _⟩ := h
    rfl
  · obtain ⟨β, rfl, b2, b10, q⟩ := h
    refine ⟨_, pss_cons (ps_set (i := 1) scLGood.nd rfl (.inl rfl) (pe_ix ix_str pe_str (pe_op op_sub (pv 0) pe_int) (fun _ _ => rfl)))
      (pss_cons (ps_set (i := 2) scLGood.nd rfl (.inl rfl) (pe_lst (pa_cons (pe_tup (pa_cons pe_str (pa_cons pe_str pa_nil))) (pa_cons (pe_tup (pa_cons pe_str (pa_cons (pv 1) pa_nil))) (pa_cons (pe_tup (pa_cons pe_str (pa_cons (pe_op op_add_str pe_str (pv 1)) pa_nil))) (pa_cons (pe_tup (pa_cons pe_str (pa_cons (pe_op op_add_str (pv 1) (pv 1)) pa_nil))) (pa_cons (pe_tup (pa_cons pe_str (pa_cons pe_int (pa_cons pe_int pa_nil)))) (pa_cons (pe_tup (pa_cons pe_str (pa_cons pe_int (pa_cons pe_int pa_nil)))) pa_nil))))))))
      (pss_cons (ps_set (i := 2) scLGood.nd rfl (.inl rfl) (pe_op op_cat (pv 2) (pe_lst (pa_cons (pe_tup (pa_cons pe_str (pa_cons pe_int (pa_cons pe_int pa_nil)))) (pa_cons (pe_tup (pa_cons pe_str (pa_cons pe_int (pa_cons pe_non pa_nil)))) (pa_cons (pe_tup (pa_cons pe_str (pa_cons pe_int (pa_cons pe_non pa_nil)))) (pa_cons (pe_tup (pa_cons pe_str (pa_cons pe_int (pa_cons pe_int pa_nil)))) (pa_cons (pe_tup (pa_cons pe_str (pa_cons pe_int (pa_cons pe_int pa_nil)))) pa_nil))))))))
      (pss_one (ps_ret (pe_op op_cat (pv 2) (pe_lst (pa_cons (pe_tup (pa_cons pe_str (pa_cons pe_int (pa_cons pe_int pa_nil)))) (pa_cons (pe_tup (pa_cons pe_str (pa_cons pe_int (pa_cons pe_non pa_nil)))) (pa_cons (pe_tup (pa_cons pe_str (pa_cons pe_int pa_nil))) (pa_cons (pe_tup (pa_cons pe_str (pa_cons pe_int pa_nil))) (pa_cons (pe_tup (pa_cons pe_str (pa_cons pe_int pa_nil))) pa_nil))))))))))), ?_⟩
    refine q_asg (ev_op ev_c (ev_op (ev_var rfl) ev_c rv_I0) (rv_top b2 b10)) fun H1 e1 => ?_
    have kt : ∀ H', Pt H' (.str (topS β)) (.str (topS β)) := fun _ => .str _ (by show 1 ≤ 3000; decide)
    refine q_asgP (D := .list (good0 β)) (ep_lst (epa_cons (ep_tup (epa_cons (ep_str (by decide)) (epa_cons (ep_str (by decide)) epa_nil)) (by first | decide | simp | (simp [good0, good1, good2, bad0, bad1, bad2, bad3, bad4, bad5, bad6, bad7, kgD, kb0, kb1, kb2]))) (epa_cons (ep_tup (epa_cons (ep_str (by decide)) (epa_cons (ep_v (ev_var rfl) (kt _)) epa_nil)) (by first | decide | simp | (simp [good0, good1, good2, bad0, bad1, bad2, bad3, bad4, bad5, bad6, bad7, kgD, kb0, kb1, kb2]))) (epa_cons (ep_tup (epa_cons (ep_str (by decide)) (epa_cons (ep_v (ev_op ev_c (ev_var rfl) (rv_addS (by rfl))) (.str _ (by rw [zt_len]; decide))) epa_nil)) (by first | decide | simp | (simp [good0, good1, good2, bad0, bad1, bad2, bad3, bad4, bad5, bad6, bad7, kgD, kb0, kb1, kb2]))) (epa_cons (ep_tup (epa_cons (ep_str (by decide)) (epa_cons (ep_v (ev_op (ev_var rfl) (ev_var rfl) (rv_addS (by rfl))) (.str _ (by rw [tt_len]; decide))) epa_nil)) (by first | decide | simp | (simp [good0, good1, good2, bad0, bad1, bad2, bad3, bad4, bad5, bad6, bad7, kgD, kb0, kb1, kb2]))) (epa_cons (ep_tup (epa_cons (ep_str (by decide)) (epa_cons ep_int (epa_cons ep_int epa_nil))) (by first | decide | simp | (simp [good0, good1, good2, bad0, bad1, bad2, bad3, bad4, bad5, bad6, bad7, kgD, kb0, kb1, kb2]))) (epa_cons (ep_tup (epa_cons (ep_str (by decide)) (epa_cons ep_int (epa_cons ep_int epa_nil))) (by first | decide | simp | (simp [good0, good1, good2, bad0, bad1, bad2, bad3, bad4, bad5, bad6, bad7, kgD, kb0, kb1, kb2]))) epa_nil)))))) (by first | decide | simp | (simp [good0, good1, good2, bad0, bad1, bad2, bad3, bad4, bad5, bad6, bad7, kgD, kb0, kb1, kb2]))) fun v2 H2 e2 k2 => ?_
    refine q_asgP (D := .list (good0 β ++ good1 β)) (ep_cat (ep_v (ev_var rfl) k2) (ep_lst (epa_cons (ep_tup (epa_cons (ep_str (by decide)) (epa_cons ep_int (epa_cons ep_int epa_nil))) (by first | decide | simp | (simp [good0, good1, good2, bad0, bad1, bad2, bad3, bad4, bad5, bad6, bad7, kgD, kb0, kb1, kb2]))) (epa_cons (ep_tup (epa_cons (ep_str (by decide)) (epa_cons ep_int (epa_cons ep_non epa_nil))) (by first | decide | simp | (simp [good0, good1, good2, bad0, bad1, bad2, bad3, bad4, bad5, bad6, bad7, kgD, kb0, kb1, kb2]))) (epa_cons (ep_tup (epa_cons (ep_str (by decide)) (epa_cons ep_int (epa_cons ep_non epa_nil))) (by first | decide | simp | (simp [good0, good1, good2, bad0, bad1, bad2, bad3, bad4, bad5, bad6, bad7, kgD, kb0, kb1, kb2]))) (epa_cons (ep_tup (epa_cons (ep_str (by decide)) (epa_cons ep_int (epa_cons ep_int epa_nil))) (by first | decide | simp | (simp [good0, good1, good2, bad0, bad1, bad2, bad3, bad4, bad5, bad6, bad7, kgD, kb0, kb1, kb2]))) (epa_cons (ep_tup (epa_cons (ep_str (by decide)) (epa_cons ep_int (epa_cons ep_int epa_nil))) (by first | decide | simp | (simp [good0, good1, good2, bad0, bad1, bad2, bad3, bad4, bad5, bad6, bad7, kgD, kb0, kb1, kb2]))) epa_nil))))) (by first | decide | simp | (simp [good0, good1, good2, bad0, bad1, bad2, bad3, bad4, bad5, bad6, bad7, kgD, kb0, kb1, kb2]))) (by simp [good0, good1])) fun v3 H3 e3 k3 => ?_
    exact s_retP (D := .list (goodD β)) (ep_cat (ep_v (ev_var rfl) k3) (ep_lst (epa_cons (ep_tup (epa_cons (ep_str (by decide)) (epa_cons ep_int (epa_cons ep_int epa_nil))) (by first | decide | simp | (simp [good0, good1, good2, bad0, bad1, bad2, bad3, bad4, bad5, bad6, bad7, kgD, kb0, kb1, kb2]))) (epa_cons (ep_tup (epa_cons (ep_str (by decide)) (epa_cons ep_int (epa_cons ep_non epa_nil))) (by first | decide | simp | (simp [good0, good1, good2, bad0, bad1, bad2, bad3, bad4, bad5, bad6, bad7, kgD, kb0, kb1, kb2]))) (epa_cons (ep_tup (epa_cons (ep_str (by decide)) (epa_cons ep_int epa_nil)) (by first | decide | simp | (simp [good0, good1, good2, bad0, bad1, bad2, bad3, bad4, bad5, bad6, bad7, kgD, kb0, kb1, kb2]))) (epa_cons (ep_tup (epa_cons (ep_str (by decide)) (epa_cons ep_int epa_nil)) (by first | decide | simp | (simp [good0, good1, good2, bad0, bad1, bad2, bad3, bad4, bad5, bad6, bad7, kgD, kb0, kb1, kb2]))) (epa_cons (ep_tup (epa_cons (ep_str (by decide)) (epa_cons ep_int epa_nil)) (by first | decide | simp | (simp [good0, good1, good2, bad0, bad1, bad2, bad3, bad4, bad5, bad6, bad7, kgD, kb0, kb1, kb2]))) epa_nil))))) (by first | decide | simp | (simp [good0, good1, good2, bad0, bad1, bad2, bad3, bad4, bad5, bad6, bad7, kgD, kb0, kb1, kb2]))) (by simp [good0, good1, good2])) fun v4 H4 e4 k4 => q v4 H4 (((e1.trans e2).trans e3).trans e4) k4
def spLBad : Sp := fun vs H Q _ => ∃ β : Nat, vs = [.int β] ∧ 2 ≤ β ∧ β ≤ 10 ∧ ∀ v H', Ex H H' → Pt H' v (.list (badD β)) → Q v H'
theorem scLBad : FnScope ["base", "some"] ["base"] (defScope sLBad) := ⟨rfl, rfl, rfl, by decide +kernel, rfl, by decide +kernel, by decide +kernel⟩
theorem ok_lbad {f : Addr} {fd : FuncData} (F : Fun K "_law_bad" "_law_bad" sLBad f fd) : FnOk P w K mg base CX0 1 f fd ["base"] spLBad := by
  refine F.ok scLBad (fun vs H Q E h => ?_) (fun cdv A outer s H vs Q E hr h => ?_)
  · obtain ⟨β, rfl, _⟩ := h
    rfl
  · obtain ⟨β, rfl, b2, b10, q⟩ := h
    refine ⟨_, pss_cons (ps_set (i := 1) scLBad.nd rfl (.inl rfl) (pe_lst (pa_cons pe_non (pa_cons pe_int (pa_cons pe_str (pa_cons (pe_tup pa_nil) (pa_cons (pe_tup (pa_cons pe_str pa_nil)) (pa_cons (pe_tup (pa_cons pe_str (pa_cons pe_int pa_nil))) (pa_cons (pe_tup (pa_cons pe_str (pa_cons (pe_un un_neg pe_int) pa_nil))) (pa_cons (pe_tup (pa_cons pe_str (pa_cons pe_bl pa_nil))) (pa_cons (pe_tup (pa_cons pe_str (pa_cons pe_non pa_nil))) (pa_cons (pe_tup (pa_cons pe_str (pa_cons pe_str pa_nil))) pa_nil))))))))))))
      (pss_cons (ps_set (i := 1) scLBad.nd rfl (.inl rfl) (pe_op op_cat (pv 1) (pe_lst (pa_cons (pe_tup (pa_cons pe_str (pa_cons pe_int (pa_cons pe_int pa_nil)))) (pa_cons (pe_lst (pa_cons pe_str (pa_cons pe_int pa_nil))) (pa_cons (pe_tup (pa_cons pe_str (pa_cons pe_str pa_nil))) (pa_cons (pe_tup (pa_cons pe_str (pa_cons pe_str pa_nil))) (pa_cons (pe_tup (pa_cons pe_str (pa_cons pe_int pa_nil))) (pa_cons (pe_tup (pa_cons pe_str (pa_cons pe_str pa_nil))) (pa_cons (pe_tup (pa_cons pe_str pa_nil)) pa_nil))))))))))
      (pss_cons (ps_set (i := 1) scLBad.nd rfl (.inl rfl) (pe_op op_cat (pv 1) (pe_lst (pa_cons (pe_tup (pa_cons pe_str (pa_cons pe_str (pa_cons pe_str pa_nil)))) (pa_cons (pe_tup (pa_cons pe_str (pa_cons pe_str pa_nil))) (pa_cons (pe_tup (pa_cons pe_str (pa_cons pe_str pa_nil))) (pa_cons (pe_tup (pa_cons pe_str (pa_cons pe_str pa_nil))) (pa_cons (pe_tup (pa_cons pe_str (pa_cons (pe_lst (pa_cons pe_str pa_nil)) pa_nil))) (pa_cons (pe_tup (pa_cons pe_str (pa_cons pe_non pa_nil))) pa_nil)))))))))
      (pss_cons (ps_set (i := 1) scLBad.nd rfl (.inl rfl) (pe_op op_cat (pv 1) (pe_lst (pa_cons (pe_tup (pa_cons pe_str (pa_cons pe_int (pa_cons pe_int pa_nil)))) (pa_cons (pe_tup (pa_cons pe_str (pa_cons pe_int (pa_cons pe_non pa_nil)))) (pa_cons (pe_tup (pa_cons pe_str (pa_cons pe_int (pa_cons pe_int pa_nil)))) (pa_cons (pe_tup (pa_cons pe_str (pa_cons pe_int (pa_cons pe_int pa_nil)))) (pa_cons (pe_tup (pa_cons pe_str (pa_cons pe_int pa_nil))) (pa_cons (pe_tup (pa_cons pe_int (pa_cons pe_int (pa_cons pe_int pa_nil)))) pa_nil)))))))))
      (pss_cons (ps_set (i := 1) scLBad.nd rfl (.inl rfl) (pe_op op_cat (pv 1) (pe_lst (pa_cons (pe_tup (pa_cons pe_str (pa_cons pe_non (pa_cons pe_int pa_nil)))) (pa_cons (pe_tup (pa_cons pe_str (pa_cons pe_bl (pa_cons pe_int pa_nil)))) (pa_cons (pe_tup (pa_cons pe_str (pa_cons pe_int (pa_cons pe_bl pa_nil)))) (pa_cons (pe_tup (pa_cons pe_str (pa_cons pe_str (pa_cons pe_int pa_nil)))) pa_nil)))))))
      (pss_cons (ps_set (i := 1) scLBad.nd rfl (.inl rfl) (pe_op op_cat (pv 1) (pe_lst (pa_cons (pe_tup (pa_cons pe_str (pa_cons pe_int (pa_cons pe_int pa_nil)))) (pa_cons (pe_tup (pa_cons pe_str (pa_cons pe_int (pa_cons pe_int pa_nil)))) (pa_cons (pe_tup (pa_cons pe_str (pa_cons pe_int (pa_cons pe_int (pa_cons pe_int pa_nil))))) (pa_cons (pe_tup (pa_cons pe_str (pa_cons pe_int (pa_cons pe_int pa_nil)))) (pa_cons (pe_tup (pa_cons pe_str (pa_cons pe_int (pa_cons pe_int pa_nil)))) pa_nil))))))))
      (pss_cons (ps_set (i := 1) scLBad.nd rfl (.inl rfl) (pe_op op_cat (pv 1) (pe_lst (pa_cons (pe_tup (pa_cons pe_str (pa_cons pe_int (pa_cons pe_int pa_nil)))) (pa_cons (pe_tup (pa_cons pe_non (pa_cons pe_int (pa_cons pe_int pa_nil)))) (pa_cons (pe_tup (pa_cons pe_str (pa_cons (pe_tup (pa_cons pe_int pa_nil)) pa_nil))) (pa_cons (pe_tup (pa_cons pe_str (pa_cons pe_int (pa_cons (pe_un un_neg pe_int) pa_nil)))) (pa_cons (pe_tup (pa_cons pe_str (pa_cons pe_int pa_nil))) (pa_cons (pe_tup (pa_cons pe_str (pa_cons pe_int (pa_cons pe_str pa_nil)))) pa_nil)))))))))
      (pss_one (ps_ret (pe_op op_cat (pv 1) (pe_lst (pa_cons (pe_tup (pa_cons pe_str (pa_cons (pe_ix ix_str pe_str (pv 0) (fun _ _ => rfl)) pa_nil))) pa_nil))))))))))), ?_⟩
    refine q_asgP (D := .list (bad0 β)) (ep_lst (epa_cons ep_non (epa_cons ep_int (epa_cons (ep_str (by decide)) (epa_cons (ep_tup epa_nil (by first | decide | simp | (simp [good0, good1, good2, bad0, bad1, bad2, bad3, bad4, bad5, bad6, bad7, kgD, kb0, kb1, kb2]))) (epa_cons (ep_tup (epa_cons (ep_str (by decide)) epa_nil) (by first | decide | simp | (simp [good0, good1, good2, bad0, bad1, bad2, bad3, bad4, bad5, bad6, bad7, kgD, kb0, kb1, kb2]))) (epa_cons (ep_tup (epa_cons (ep_str (by decide)) (epa_cons ep_int epa_nil)) (by first | decide | simp | (simp [good0, good1, good2, bad0, bad1, bad2, bad3, bad4, bad5, bad6, bad7, kgD, kb0, kb1, kb2]))) (epa_cons (ep_tup (epa_cons (ep_str (by decide)) (epa_cons (ep_v (ev_un ev_c ru_neg) (.int _)) epa_nil)) (by first | decide | simp | (simp [good0, good1, good2, bad0, bad1, bad2, bad3, bad4, bad5, bad6, bad7, kgD, kb0, kb1, kb2]))) (epa_cons (ep_tup (epa_cons (ep_str (by decide)) (epa_cons ep_bl epa_nil)) (by first | decide | simp | (simp [good0, good1, good2, bad0, bad1, bad2, bad3, bad4, bad5, bad6, bad7, kgD, kb0, kb1, kb2]))) (epa_cons (ep_tup (epa_cons (ep_str (by decide)) (epa_cons ep_non epa_nil)) (by first | decide | simp | (simp [good0, good1, good2, bad0, bad1, bad2, bad3, bad4, bad5, bad6, bad7, kgD, kb0, kb1, kb2]))) (epa_cons (ep_tup (epa_cons (ep_str (by decide)) (epa_cons (ep_str (by decide)) epa_nil)) (by first | decide | simp | (simp [good0, good1, good2, bad0, bad1, bad2, bad3, bad4, bad5, bad6, bad7, kgD, kb0, kb1, kb2]))) epa_nil)))))))))) (by first | decide | simp | (simp [good0, good1, good2, bad0, bad1, bad2, bad3, bad4, bad5, bad6, bad7, kgD, kb0, kb1, kb2]))) fun v0 H0 e0 k0 => ?_
    refine q_asgP (D := .list (bad0 β ++ bad1 β)) (ep_cat (ep_v (ev_var rfl) k0) (ep_lst (epa_cons (ep_tup (epa_cons (ep_str (by decide)) (epa_cons ep_int (epa_cons ep_int epa_nil))) (by first | decide | simp | (simp [good0, good1, good2, bad0, bad1, bad2, bad3, bad4, bad5, bad6, bad7, kgD, kb0, kb1, kb2]))) (epa_cons (ep_lst (epa_cons (ep_str (by decide)) (epa_cons ep_int epa_nil)) (by first | decide | simp | (simp [good0, good1, good2, bad0, bad1, bad2, bad3, bad4, bad5, bad6, bad7, kgD, kb0, kb1, kb2]))) (epa_cons (ep_tup (epa_cons (ep_str (by decide)) (epa_cons (ep_str (by decide)) epa_nil)) (by first | decide | simp | (simp [good0, good1, good2, bad0, bad1, bad2, bad3, bad4, bad5, bad6, bad7, kgD, kb0, kb1, kb2]))) (epa_cons (ep_tup (epa_cons (ep_str (by decide)) (epa_cons (ep_str (by decide)) epa_nil)) (by first | decide | simp | (simp [good0, good1, good2, bad0, bad1, bad2, bad3, bad4, bad5, bad6, bad7, kgD, kb0, kb1, kb2]))) (epa_cons (ep_tup (epa_cons (ep_str (by decide)) (epa_cons ep_int epa_nil)) (by first | decide | simp | (simp [good0, good1, good2, bad0, bad1, bad2, bad3, bad4, bad5, bad6, bad7, kgD, kb0, kb1, kb2]))) (epa_cons (ep_tup (epa_cons (ep_str (by decide)) (epa_cons (ep_str (by decide)) epa_nil)) (by first | decide | simp | (simp [good0, good1, good2, bad0, bad1, bad2, bad3, bad4, bad5, bad6, bad7, kgD, kb0, kb1, kb2]))) (epa_cons (ep_tup (epa_cons (ep_str (by decide)) epa_nil) (by first | decide | simp | (simp [good0, good1, good2, bad0, bad1, bad2, bad3, bad4, bad5, bad6, bad7, kgD, kb0, kb1, kb2]))) epa_nil))))))) (by first | decide | simp | (simp [good0, good1, good2, bad0, bad1, bad2, bad3, bad4, bad5, bad6, bad7, kgD, kb0, kb1, kb2]))) (by simp [bad0, bad1, bad2, bad3, bad4, bad5, bad6, bad7])) fun v1 H1 e1 k1 => ?_
    refine q_asgP (D := .list ((bad0 β ++ bad1 β) ++ bad2 β)) (ep_cat (ep_v (ev_var rfl) k1) (ep_lst (epa_cons (ep_tup (epa_cons (ep_str (by decide)) (epa_cons (ep_str (by decide)) (epa_cons (ep_str (by decide)) epa_nil))) (by first | decide | simp | (simp [good0, good1, good2, bad0, bad1, bad2, bad3, bad4, bad5, bad6, bad7, kgD, kb0, kb1, kb2]))) (epa_cons (ep_tup (epa_cons (ep_str (by decide)) (epa_cons (ep_str (by decide)) epa_nil)) (by first | decide | simp | (simp [good0, good1, good2, bad0, bad1, bad2, bad3, bad4, bad5, bad6, bad7, kgD, kb0, kb1, kb2]))) (epa_cons (ep_tup (epa_cons (ep_str (by decide)) (epa_cons (ep_str (by decide)) epa_nil)) (by first | decide | simp | (simp [good0, good1, good2, bad0, bad1, bad2, bad3, bad4, bad5, bad6, bad7, kgD, kb0, kb1, kb2]))) (epa_cons (ep_tup (epa_cons (ep_str (by decide)) (epa_cons (ep_str (by decide)) epa_nil)) (by first | decide | simp | (simp [good0, good1, good2, bad0, bad1, bad2, bad3, bad4, bad5, bad6, bad7, kgD, kb0, kb1, kb2]))) (epa_cons (ep_tup (epa_cons (ep_str (by decide)) (epa_cons (ep_lst (epa_cons (ep_str (by decide)) epa_nil) (by first | decide | simp | (simp [good0, good1, good2, bad0, bad1, bad2, bad3, bad4, bad5, bad6, bad7, kgD, kb0, kb1, kb2]))) epa_nil)) (by first | decide | simp | (simp [good0, good1, good2, bad0, bad1, bad2, bad3, bad4, bad5, bad6, bad7, kgD, kb0, kb1, kb2]))) (epa_cons (ep_tup (epa_cons (ep_str (by decide)) (epa_cons ep_non epa_nil)) (by first | decide | simp | (simp [good0, good1, good2, bad0, bad1, bad2, bad3, bad4, bad5, bad6, bad7, kgD, kb0, kb1, kb2]))) epa_nil)))))) (by first | decide | simp | (simp [good0, good1, good2, bad0, bad1, bad2, bad3, bad4, bad5, bad6, bad7, kgD, kb0, kb1, kb2]))) (by simp [bad0, bad1, bad2, bad3, bad4, bad5, bad6, bad7])) fun v2 H2 e2 k2 => ?_
    refine q_asgP (D := .list (((bad0 β ++ bad1 β) ++ bad2 β) ++ bad3 β)) (ep_cat (ep_v (ev_var rfl) k2) (ep_lst (epa_cons (ep_tup (epa_cons (ep_str (by decide)) (epa_cons ep_int (epa_cons ep_int epa_nil))) (by first | decide | simp | (simp [good0, good1, good2, bad0, bad1, bad2, bad3, bad4, bad5, bad6, bad7, kgD, kb0, kb1, kb2]))) (epa_cons (ep_tup (epa_cons (ep_str (by decide)) (epa_cons ep_int (epa_cons ep_non epa_nil))) (by first | decide | simp | (simp [good0, good1, good2, bad0, bad1, bad2, bad3, bad4, bad5, bad6, bad7, kgD, kb0, kb1, kb2]))) (epa_cons (ep_tup (epa_cons (ep_str (by decide)) (epa_cons ep_int (epa_cons ep_int epa_nil))) (by first | decide | simp | (simp [good0, good1, good2, bad0, bad1, bad2, bad3, bad4, bad5, bad6, bad7, kgD, kb0, kb1, kb2]))) (epa_cons (ep_tup (epa_cons (ep_str (by decide)) (epa_cons ep_int (epa_cons ep_int epa_nil))) (by first | decide | simp | (simp [good0, good1, good2, bad0, bad1, bad2, bad3, bad4, bad5, bad6, bad7, kgD, kb0, kb1, kb2]))) (epa_cons (ep_tup (epa_cons (ep_str (by decide)) (epa_cons ep_int epa_nil)) (by first | decide | simp | (simp [good0, good1, good2, bad0, bad1, bad2, bad3, bad4, bad5, bad6, bad7, kgD, kb0, kb1, kb2]))) (epa_cons (ep_tup (epa_cons ep_int (epa_cons ep_int (epa_cons ep_int epa_nil))) (by first | decide | simp | (simp [good0, good1, good2, bad0, bad1, bad2, bad3, bad4, bad5, bad6, bad7, kgD, kb0, kb1, kb2]))) epa_nil)))))) (by first | decide | simp | (simp [good0, good1, good2, bad0, bad1, bad2, bad3, bad4, bad5, bad6, bad7, kgD, kb0, kb1, kb2]))) (by simp [bad0, bad1, bad2, bad3, bad4, bad5, bad6, bad7])) fun v3 H3 e3 k3 => ?_
    refine q_asgP (D := .list ((((bad0 β ++ bad1 β) ++ bad2 β) ++ bad3 β) ++ bad4 β)) (ep_cat (ep_v (ev_var rfl) k3) (ep_lst (epa_cons (ep_tup (epa_cons (ep_str (by decide)) (epa_cons ep_non (epa_cons ep_int epa_nil))) (by first | decide | simp | (simp [good0, good1, good2, bad0, bad1, bad2, bad3, bad4, bad5, bad6, bad7, kgD, kb0, kb1, kb2]))) (epa_cons (ep_tup (epa_cons (ep_str (by decide)) (epa_cons ep_bl (epa_cons ep_int epa_nil))) (by first | decide | simp | (simp [good0, good1, good2, bad0, bad1, bad2, bad3, bad4, bad5, bad6, bad7, kgD, kb0, kb1, kb2]))) (epa_cons (ep_tup (epa_cons (ep_str (by decide)) (epa_cons ep_int (epa_cons ep_bl epa_nil))) (by first | decide | simp | (simp [good0, good1, good2, bad0, bad1, bad2, bad3, bad4, bad5, bad6, bad7, kgD, kb0, kb1, kb2]))) (epa_cons (ep_tup (epa_cons (ep_str (by decide)) (epa_cons (ep_str (by decide)) (epa_cons ep_int epa_nil))) (by first | decide | simp | (simp [good0, good1, good2, bad0, bad1, bad2, bad3, bad4, bad5, bad6, bad7, kgD, kb0, kb1, kb2]))) epa_nil)))) (by first | decide | simp | (simp [good0, good1, good2, bad0, bad1, bad2, bad3, bad4, bad5, bad6, bad7, kgD, kb0, kb1, kb2]))) (by simp [bad0, bad1, bad2, bad3, bad4, bad5, bad6, bad7])) fun v4 H4 e4 k4 => ?_
    refine q_asgP (D := .list (((((bad0 β ++ bad1 β) ++ bad2 β) ++ bad3 β) ++ bad4 β) ++ bad5 β)) (ep_cat (ep_v (ev_var rfl) k4) (ep_lst (epa_cons (ep_tup (epa_cons (ep_str (by decide)) (epa_cons ep_int (epa_cons ep_int epa_nil))) (by first | decide | simp | (simp [good0, good1, good2, bad0, bad1, bad2, bad3, bad4, bad5, bad6, bad7, kgD, kb0, kb1, kb2]))) (epa_cons (ep_tup (epa_cons (ep_str (by decide)) (epa_cons ep_int (epa_cons ep_int epa_nil))) (by first | decide | simp | (simp [good0, good1, good2, bad0, bad1, bad2, bad3, bad4, bad5, bad6, bad7, kgD, kb0, kb1, kb2]))) (epa_cons (ep_tup (epa_cons (ep_str (by decide)) (epa_cons ep_int (epa_cons ep_int (epa_cons ep_int epa_nil)))) (by first | decide | simp | (simp [good0, good1, good2, bad0, bad1, bad2, bad3, bad4, bad5, bad6, bad7, kgD, kb0, kb1, kb2]))) (epa_cons (ep_tup (epa_cons (ep_str (by decide)) (epa_cons ep_int (epa_cons ep_int epa_nil))) (by first | decide | simp | (simp [good0, good1, good2, bad0, bad1, bad2, bad3, bad4, bad5, bad6, bad7, kgD, kb0, kb1, kb2]))) (epa_cons (ep_tup (epa_cons (ep_str (by decide)) (epa_cons ep_int (epa_cons ep_int epa_nil))) (by first | decide | simp | (simp [good0, good1, good2, bad0, bad1, bad2, bad3, bad4, bad5, bad6, bad7, kgD, kb0, kb1, kb2]))) epa_nil))))) (by first | decide | simp | (simp [good0, good1, good2, bad0, bad1, bad2, bad3, bad4, bad5, bad6, bad7, kgD, kb0, kb1, kb2]))) (by simp [bad0, bad1, bad2, bad3, bad4, bad5, bad6, bad7])) fun v5 H5 e5 k5 => ?_
    refine q_asgP (D := .list ((((((bad0 β ++ bad1 β) ++ bad2 β) ++ bad3 β) ++ bad4 β) ++ bad5 β) ++ bad6 β)) (ep_cat (ep_v (ev_var rfl) k5) (ep_lst (epa_cons (ep_tup (epa_cons (ep_str (by decide)) (epa_cons ep_int (epa_cons ep_int epa_nil))) (by first | decide | simp | (simp [good0, good1, good2, bad0, bad1, bad2, bad3, bad4, bad5, bad6, bad7, kgD, kb0, kb1, kb2]))) (epa_cons (ep_tup (epa_cons ep_non (epa_cons ep_int (epa_cons ep_int epa_nil))) (by first | decide | simp | (simp [good0, good1, good2, bad0, bad1, bad2, bad3, bad4, bad5, bad6, bad7, kgD, kb0, kb1, kb2]))) (epa_cons (ep_tup (epa_cons (ep_str (by decide)) (epa_cons (ep_tup (epa_cons ep_int epa_nil) (by first | decide | simp | (simp [good0, good1, good2, bad0, bad1, bad2, bad3, bad4, bad5, bad6, bad7, kgD, kb0, kb1, kb2]))) epa_nil)) (by first | decide | simp | (simp [good0, good1, good2, bad0, bad1, bad2, bad3, bad4, bad5, bad6, bad7, kgD, kb0, kb1, kb2]))) (epa_cons (ep_tup (epa_cons (ep_str (by decide)) (epa_cons ep_int (epa_cons (ep_v (ev_un ev_c ru_neg) (.int _)) epa_nil))) (by first | decide | simp | (simp [good0, good1, good2, bad0, bad1, bad2, bad3, bad4, bad5, bad6, bad7, kgD, kb0, kb1, kb2]))) (epa_cons (ep_tup (epa_cons (ep_str (by decide)) (epa_cons ep_int epa_nil)) (by first | decide | simp | (simp [good0, good1, good2, bad0, bad1, bad2, bad3, bad4, bad5, bad6, bad7, kgD, kb0, kb1, kb2]))) (epa_cons (ep_tup (epa_cons (ep_str (by decide)) (epa_cons ep_int (epa_cons (ep_str (by decide)) epa_nil))) (by first | decide | simp | (simp [good0, good1, good2, bad0, bad1, bad2, bad3, bad4, bad5, bad6, bad7, kgD, kb0, kb1, kb2]))) epa_nil)))))) (by first | decide | simp | (simp [good0, good1, good2, bad0, bad1, bad2, bad3, bad4, bad5, bad6, bad7, kgD, kb0, kb1, kb2]))) (by simp [bad0, bad1, bad2, bad3, bad4, bad5, bad6, bad7])) fun v6 H6 e6 k6 => ?_
    exact s_retP (D := .list (badD β)) (ep_cat (ep_v (ev_var rfl) k6) (ep_lst (epa_cons (ep_tup (epa_cons (ep_str (by decide)) (epa_cons (ep_v (ev_op ev_c (ev_var rfl) (rv_bot b2 b10)) (.str _ (by show 1 ≤ 3000; decide))) epa_nil)) (by first | decide | simp | (simp [good0, good1, good2, bad0, bad1, bad2, bad3, bad4, bad5, bad6, bad7, kgD, kb0, kb1, kb2]))) epa_nil) (by first | decide | simp | (simp [good0, good1, good2, bad0, bad1, bad2, bad3, bad4, bad5, bad6, bad7, kgD, kb0, kb1, kb2]))) (by simp [bad0, bad1, bad2, bad3, bad4, bad5, bad6, bad7])) fun v7 H7 e7 k7 => q v7 H7 (((((((e0.trans e1).trans e2).trans e3).trans e4).trans e5).trans e6).trans e7) k7
def spLKeeps : Sp := fun vs H Q _ => vs = [] ∧ ∀ t vg vb H', Ex H H' → H' t = some (.tup [vg, vb]) → Pt H' vg (.list kgD) → Pt H' vb (.list kbD) → Q (.ref t) H'
theorem scLKeeps : FnScope ["good", "bad"] [] (defScope sLKeeps) := ⟨rfl, rfl, rfl, by decide +kernel, rfl, by decide +kernel, by decide +kernel⟩
theorem ok_lkeeps {f : Addr} {fd : FuncData} (F : Fun K "_law_keeps" "_law_keeps" sLKeeps f fd) : FnOk P w K mg base CX0 1 f fd [] spLKeeps := by
  refine F.ok scLKeeps (fun vs H Q E h => ?_) (fun cdv A outer s H vs Q E hr h => ?_)
  · obtain ⟨rfl, _⟩ := h
    rfl
  · obtain ⟨rfl, q⟩ := h
    refine ⟨_, pss_cons (ps_set (i := 0) scLKeeps.nd rfl (.inl rfl) (pe_lst (pa_cons (pe_tup (pa_cons pe_str pa_nil)) (pa_cons (pe_tup (pa_cons pe_str (pa_cons pe_int pa_nil))) (pa_cons (pe_tup (pa_cons pe_str (pa_cons pe_int pa_nil))) (pa_cons (pe_tup (pa_cons pe_str (pa_cons pe_int pa_nil))) (pa_cons (pe_tup (pa_cons pe_str (pa_cons pe_int pa_nil))) pa_nil)))))))
      (pss_cons (ps_set (i := 1) scLKeeps.nd rfl (.inl rfl) (pe_lst (pa_cons pe_non (pa_cons pe_int (pa_cons pe_str (pa_cons (pe_tup pa_nil) (pa_cons (pe_lst (pa_cons pe_str pa_nil)) (pa_cons (pe_tup (pa_cons pe_str (pa_cons pe_int pa_nil))) (pa_cons (pe_tup (pa_cons pe_str pa_nil)) (pa_cons (pe_tup (pa_cons pe_str pa_nil)) (pa_cons (pe_tup (pa_cons pe_str (pa_cons pe_int pa_nil))) (pa_cons (pe_tup (pa_cons pe_str (pa_cons pe_int pa_nil))) (pa_cons (pe_tup (pa_cons pe_str (pa_cons pe_int pa_nil))) pa_nil)))))))))))))
      (pss_cons (ps_set (i := 1) scLKeeps.nd rfl (.inl rfl) (pe_op op_cat (pv 1) (pe_lst (pa_cons (pe_tup (pa_cons pe_str (pa_cons pe_int pa_nil))) (pa_cons (pe_tup (pa_cons pe_str (pa_cons pe_bl pa_nil))) (pa_cons (pe_tup (pa_cons pe_str (pa_cons pe_non pa_nil))) (pa_cons (pe_tup (pa_cons pe_str (pa_cons pe_str pa_nil))) (pa_cons (pe_tup (pa_cons pe_str (pa_cons pe_int (pa_cons pe_int pa_nil)))) (pa_cons (pe_tup (pa_cons pe_str (pa_cons pe_int pa_nil))) (pa_cons (pe_tup (pa_cons pe_non pa_nil)) pa_nil))))))))))
      (pss_one (ps_ret (pe_tup (pa_cons (pv 0) (pa_cons (pe_op op_cat (pv 1) (pe_lst (pa_cons (pe_tup (pa_cons pe_str (pa_cons pe_bl pa_nil))) (pa_cons (pe_tup (pa_cons pe_str (pa_cons pe_non pa_nil))) (pa_cons (pe_tup (pa_cons (pe_tup (pa_cons pe_str pa_nil)) pa_nil)) (pa_cons (pe_tup (pa_cons pe_str (pa_cons (pe_un un_neg pe_int) pa_nil))) pa_nil)))))) pa_nil))))))), ?_⟩
    refine q_asgP (D := .list kgD) (ep_lst (epa_cons (ep_tup (epa_cons (ep_str (by decide)) epa_nil) (by first | decide | simp | (simp [good0, good1, good2, bad0, bad1, bad2, bad3, bad4, bad5, bad6, bad7, kgD, kb0, kb1, kb2]))) (epa_cons (ep_tup (epa_cons (ep_str (by decide)) (epa_cons ep_int epa_nil)) (by first | decide | simp | (simp [good0, good1, good2, bad0, bad1, bad2, bad3, bad4, bad5, bad6, bad7, kgD, kb0, kb1, kb2]))) (epa_cons (ep_tup (epa_cons (ep_str (by decide)) (epa_cons ep_int epa_nil)) (by first | decide | simp | (simp [good0, good1, good2, bad0, bad1, bad2, bad3, bad4, bad5, bad6, bad7, kgD, kb0, kb1, kb2]))) (epa_cons (ep_tup (epa_cons (ep_str (by decide)) (epa_cons ep_int epa_nil)) (by first | decide | simp | (simp [good0, good1, good2, bad0, bad1, bad2, bad3, bad4, bad5, bad6, bad7, kgD, kb0, kb1, kb2]))) (epa_cons (ep_tup (epa_cons (ep_str (by decide)) (epa_cons ep_int epa_nil)) (by first | decide | simp | (simp [good0, good1, good2, bad0, bad1, bad2, bad3, bad4, bad5, bad6, bad7, kgD, kb0, kb1, kb2]))) epa_nil))))) (by first | decide | simp | (simp [good0, good1, good2, bad0, bad1, bad2, bad3, bad4, bad5, bad6, bad7, kgD, kb0, kb1, kb2]))) fun vg H0 e0 k0 => ?_
    refine q_asgP (D := .list kb0) (ep_lst (epa_cons ep_non (epa_cons ep_int (epa_cons (ep_str (by decide)) (epa_cons (ep_tup epa_nil (by first | decide | simp | (simp [good0, good1, good2, bad0, bad1, bad2, bad3, bad4, bad5, bad6, bad7, kgD, kb0, kb1, kb2]))) (epa_cons (ep_lst (epa_cons (ep_str (by decide)) epa_nil) (by first | decide | simp | (simp [good0, good1, good2, bad0, bad1, bad2, bad3, bad4, bad5, bad6, bad7, kgD, kb0, kb1, kb2]))) (epa_cons (ep_tup (epa_cons (ep_str (by decide)) (epa_cons ep_int epa_nil)) (by first | decide | simp | (simp [good0, good1, good2, bad0, bad1, bad2, bad3, bad4, bad5, bad6, bad7, kgD, kb0, kb1, kb2]))) (epa_cons (ep_tup (epa_cons (ep_str (by decide)) epa_nil) (by first | decide | simp | (simp [good0, good1, good2, bad0, bad1, bad2, bad3, bad4, bad5, bad6, bad7, kgD, kb0, kb1, kb2]))) (epa_cons (ep_tup (epa_cons (ep_str (by decide)) epa_nil) (by first | decide | simp | (simp [good0, good1, good2, bad0, bad1, bad2, bad3, bad4, bad5, bad6, bad7, kgD, kb0, kb1, kb2]))) (epa_cons (ep_tup (epa_cons (ep_str (by decide)) (epa_cons ep_int epa_nil)) (by first | decide | simp | (simp [good0, good1, good2, bad0, bad1, bad2, bad3, bad4, bad5, bad6, bad7, kgD, kb0, kb1, kb2]))) (epa_cons (ep_tup (epa_cons (ep_str (by decide)) (epa_cons ep_int epa_nil)) (by first | decide | simp | (simp [good0, good1, good2, bad0, bad1, bad2, bad3, bad4, bad5, bad6, bad7, kgD, kb0, kb1, kb2]))) (epa_cons (ep_tup (epa_cons (ep_str (by decide)) (epa_cons ep_int epa_nil)) (by first | decide | simp | (simp [good0, good1, good2, bad0, bad1, bad2, bad3, bad4, bad5, bad6, bad7, kgD, kb0, kb1, kb2]))) epa_nil))))))))))) (by first | decide | simp | (simp [good0, good1, good2, bad0, bad1, bad2, bad3, bad4, bad5, bad6, bad7, kgD, kb0, kb1, kb2]))) fun v1 H1 e1 k1 => ?_
    refine q_asgP (D := .list (kb0 ++ kb1)) (ep_cat (ep_v (ev_var rfl) k1) (ep_lst (epa_cons (ep_tup (epa_cons (ep_str (by decide)) (epa_cons ep_int epa_nil)) (by first | decide | simp | (simp [good0, good1, good2, bad0, bad1, bad2, bad3, bad4, bad5, bad6, bad7, kgD, kb0, kb1, kb2]))) (epa_cons (ep_tup (epa_cons (ep_str (by decide)) (epa_cons ep_bl epa_nil)) (by first | decide | simp | (simp [good0, good1, good2, bad0, bad1, bad2, bad3, bad4, bad5, bad6, bad7, kgD, kb0, kb1, kb2]))) (epa_cons (ep_tup (epa_cons (ep_str (by decide)) (epa_cons ep_non epa_nil)) (by first | decide | simp | (simp [good0, good1, good2, bad0, bad1, bad2, bad3, bad4, bad5, bad6, bad7, kgD, kb0, kb1, kb2]))) (epa_cons (ep_tup (epa_cons (ep_str (by decide)) (epa_cons (ep_str (by decide)) epa_nil)) (by first | decide | simp | (simp [good0, good1, good2, bad0, bad1, bad2, bad3, bad4, bad5, bad6, bad7, kgD, kb0, kb1, kb2]))) (epa_cons (ep_tup (epa_cons (ep_str (by decide)) (epa_cons ep_int (epa_cons ep_int epa_nil))) (by first | decide | simp | (simp [good0, good1, good2, bad0, bad1, bad2, bad3, bad4, bad5, bad6, bad7, kgD, kb0, kb1, kb2]))) (epa_cons (ep_tup (epa_cons (ep_str (by decide)) (epa_cons ep_int epa_nil)) (by first | decide | simp | (simp [good0, good1, good2, bad0, bad1, bad2, bad3, bad4, bad5, bad6, bad7, kgD, kb0, kb1, kb2]))) (epa_cons (ep_tup (epa_cons ep_non epa_nil) (by first | decide | simp | (simp [good0, good1, good2, bad0, bad1, bad2, bad3, bad4, bad5, bad6, bad7, kgD, kb0, kb1, kb2]))) epa_nil))))))) (by first | decide | simp | (simp [good0, good1, good2, bad0, bad1, bad2, bad3, bad4, bad5, bad6, bad7, kgD, kb0, kb1, kb2]))) (by simp [kb0, kb1])) fun v2 H2 e2 k2 => ?_
    refine s_retP (D := .tuple [.list kgD, .list kbD]) (ep_tup (epa_cons (ep_v (ev_var rfl) ((k0.ex e1).ex e2)) (epa_cons (ep_cat (ep_v (ev_var rfl) k2) (ep_lst (epa_cons (ep_tup (epa_cons (ep_str (by decide)) (epa_cons ep_bl epa_nil)) (by first | decide | simp | (simp [good0, good1, good2, bad0, bad1, bad2, bad3, bad4, bad5, bad6, bad7, kgD, kb0, kb1, kb2]))) (epa_cons (ep_tup (epa_cons (ep_str (by decide)) (epa_cons ep_non epa_nil)) (by first | decide | simp | (simp [good0, good1, good2, bad0, bad1, bad2, bad3, bad4, bad5, bad6, bad7, kgD, kb0, kb1, kb2]))) (epa_cons (ep_tup (epa_cons (ep_tup (epa_cons (ep_str (by decide)) epa_nil) (by first | decide | simp | (simp [good0, good1, good2, bad0, bad1, bad2, bad3, bad4, bad5, bad6, bad7, kgD, kb0, kb1, kb2]))) epa_nil) (by first | decide | simp | (simp [good0, good1, good2, bad0, bad1, bad2, bad3, bad4, bad5, bad6, bad7, kgD, kb0, kb1, kb2]))) (epa_cons (ep_tup (epa_cons (ep_str (by decide)) (epa_cons (ep_v (ev_un ev_c ru_neg) (.int _)) epa_nil)) (by first | decide | simp | (simp [good0, good1, good2, bad0, bad1, bad2, bad3, bad4, bad5, bad6, bad7, kgD, kb0, kb1, kb2]))) epa_nil)))) (by first | decide | simp | (simp [good0, good1, good2, bad0, bad1, bad2, bad3, bad4, bad5, bad6, bad7, kgD, kb0, kb1, kb2]))) (by simp [kb0, kb1, kb2])) epa_nil)) (by simp)) fun v H3 e3 k3 => ?_
    obtain ⟨t, vs, rfl, ht, ka⟩ := k3.tupI
    cases ka with
    | cons kg ka =>
      cases ka with
      | cons kb ka =>
        cases ka with
        | nil => exact q t _ _ H3 (((e0.trans e1).trans e2).trans e3) ht kg kb
end
end Dt

namespace Told
open PySem L2 Evl LamR LamX
abbrev stR : Stmt := PySem.Challenge.pw_shortspans_k04_rules_checked.main.body.getD 39 (.Pass ⟨0, 0, 0, 0⟩)
def wdN : Nat → Str
  | 1 => "base"
  | 2 => "number"
  | 3 => "digits"
  | 4 => "range"
  | 5 => "rule"
  | 6 => "reader"
  | 7 => "manner"
  | 8 => "entry"
  | 9 => "name"
  | 10 => "text"
  | 11 => "other"
  | 12 => "many"
  | 13 => "missing"
  | _ => "nothing"
def fdN : Nat → Str
  | 5 => "place"
  | 8 => "place"
  | 12 => "most"
  | 13 => "name"
  | _ => "value"
/-- an exception of the class with number n, with its dict; what is told of it behind its word -/
def Says (ca : Nat → Addr) (H : Hp) (cls : Value) (d : Option Addr) (n : Nat) (vs : List V) : Prop :=
  cls = .ref (ca n) ∧ 1 ≤ n ∧ n ≤ 14 ∧ (((n = 11 ∨ n = 14) ∧ d = none ∧ vs = []) ∨ (n = 10 ∧ ∃ dd a b, d = some dd ∧ H dd = some (.xd [("word", b), ("line", a)]) ∧ vs = [a, b]) ∨
    (n ≠ 10 ∧ n ≠ 11 ∧ n ≠ 14 ∧ ∃ dd v, d = some dd ∧ H dd = some (.xd [(fdN n, v)]) ∧ vs = [v]))
/-- what _law_raised makes of a lambda's reading; fl: its own list, ahead of the call -/
def TTold (ca : Nat → Addr) : (XK → Hp → VK → Prop) → Hp → VK → Prop := fun tl H Q => ∀ fl, H fl = none →
  tl (fun cls d H' => Ex (upd H fl (.lst [])) H' ∧ ∃ n vs, Says ca H' cls d n vs ∧ ∀ rt H2, (upd H fl (.lst [])) rt = none → (∀ b o, H' b = some o → b ≠ fl → H2 b = some o) → H2 rt = some (.tup (.str (wdN n) :: vs)) → Q (.ref rt) H2)
    (upd H fl (.lst [])) (fun v H' => Ex (upd H fl (.lst [])) H' ∧ ∀ rt H2, (upd H fl (.lst [])) rt = none → Ex H' H2 → H2 rt = some (.tup []) → Q (.ref rt) H2)
structure TxT (mg : Str → Option Value) (ca : Nat → Addr) : Prop where
  own : ∀ i, i < 15 → mg (Toy.nmN i) = some (.ref (ca i))
  isi : mg "isinstance" = none
  len : mg "len" = none
/-- what the classes' rows say -/
structure RwT (K : PySem.W.Frag) (ca : Nat → Addr) : Prop where
  xc : ∀ i, 1 ≤ i → i ≤ 14 → XcC K (ca i)
  kit : ∀ n i, 1 ≤ n → n ≤ 14 → 1 ≤ i → i ≤ 14 → PySem.W.kitOne K (.ref (ca n)) (.ref (ca i)) = some (decide (i = n))
  exm : ∀ n, 1 ≤ n → n ≤ 14 → PySem.W.exmAny K (.ref (ca n)) [.ref (ca 0), .ref (ca 12), .ref (ca 13), .ref (ca 14)] = some true
  no : ∀ i, 1 ≤ i → i ≤ 14 → i ≠ 10 → i ≠ 11 → i ≠ 14 → PySem.W.findIn K (.ref (ca i)) (fdN i) = some none
  line : PySem.W.findIn K (.ref (ca 10)) "line" = some none
  word : PySem.W.findIn K (.ref (ca 10)) "word" = some none
theorem scR : FnScope ["asked", "caught", "found", "e"] ["asked"] (defScope stR) := ⟨rfl, rfl, rfl, by decide +kernel, rfl, by decide +kernel, by decide +kernel⟩
/-- behind the first i of the fourteen questions -/
def Mid (f a fl : Addr) (H3 : Hp) (n : Nat) (vs : List V) (i : Nat) : St → Hp → Prop := fun σ H2 => σ = [some (.ref f), some (.ref a), some (.ref fl), none] ∧ (∀ b o, H3 b = some o → b ≠ fl → H2 b = some o) ∧
  ((i < n ∧ H2 fl = some (.lst [])) ∨ (n ≤ i ∧ ∃ rt, H3 rt = none ∧ H2 fl = some (.lst [.ref rt]) ∧ H2 rt = some (.tup (.str (wdN n) :: vs))))
theorem mid_step {K : PySem.W.Frag} {ca : Nat → Addr} {f a fl : Addr} {H3 H2 : Hp} {n i : Nat} {vs : List V} {d : Option Addr} {te : TE} {D : Ends} {σ : St} (R : RwT K ca) (n1 : 1 ≤ n) (n14 : n ≤ 14) (i1 : 1 ≤ i) (i14 : i ≤ 14) (x : Toy.ExAt H3 a (ca n) d) (afl : a ≠ fl)
    (dfl : ∀ dd, d = some dd → dd ≠ fl) (hte : i = n → ∀ H2 : Hp, (∀ b o, H3 b = some o → b ≠ fl → H2 b = some o) → EvU te [some (.ref f), some (.ref a), some (.ref fl), none] H2 (.str (wdN n) :: vs)) (m : Mid f a fl H3 n vs (i - 1) σ H2) :
    tIfS (tB (tCB (rIsX K) (tCons (tVar 1) (tCons (tC (.ref (ca i))) tNil)))) (tDrop (tBM K "list" rAppend (tVar 2) (tCons te tNil))) tNext { D with nx := Mid f a fl H3 n vs i } σ H2 := by
  obtain ⟨rfl, kp, alt⟩ := m
  refine s_when (b := decide (i = n)) (et_B (ev_cb (ea_cons (ev_var rfl) (ea_cons ev_c ea_nil)) fun H4 e4 Q q => ⟨a, ca n, d, .ref (ca i), _, _, rfl, .own _, e4 _ _ (kp _ _ x.1 afl), fun dx z => ?_, R.xc n n1 n14, R.kit n i n1 n14 i1 i14, q _ (Ex.refl _)⟩)) (fun z H4 e4 => ?_) (fun z H4 e4 => ?_)
  · obtain ⟨fs, h⟩ := x.2 dx z
    exact ⟨fs, e4 _ _ (kp _ _ h (dfl dx z))⟩
  · have hin := of_decide_eq_true z
    rcases alt with ⟨_, hf⟩ | ⟨z2, _⟩
    · refine s_appU (e4 _ _ hf) (ev_var rfl) (hte hin H4 fun b o e nb => e4 _ _ (kp b o e nb)) (by simp) fun p H5 hp e5 h5 => ?_
      have pf : p ≠ fl := fun z => by
        rw [z, e4 _ _ hf] at hp
        cases hp
      refine ⟨rfl, fun b o e nb => ?_, .inr ⟨by omega, p, ?_, upd_same, ?_⟩⟩
      · rw [upd_ne nb]
        exact e5 _ _ (e4 _ _ (kp b o e nb))
      · cases q : H3 p with
        | none => rfl
        | some o =>
          have := e4 _ _ (kp p o q pf)
          rw [this] at hp
          cases hp
      · rw [upd_ne pf]
        exact h5
    · omega
  · have hin : ¬ i = n := of_decide_eq_false z
    refine ⟨rfl, fun b o e nb => e4 _ _ (kp b o e nb), ?_⟩
    rcases alt with ⟨z2, hf⟩ | ⟨z2, rt, h1, h2, h3⟩
    · exact .inl ⟨by omega, e4 _ _ hf⟩
    · exact .inr ⟨by omega, rt, h1, e4 _ _ h2, e4 _ _ h3⟩
section
variable {X : Cx} {q : Str} {g : Addr} {cdg : Value} {ca : Nat → Addr}
theorem raised_gives (T : TxT X.mg ca) (R : RwT X.K ca) : GivesR X ["asked", "caught", "found", "e"] "_law_raised" (defScope stR) g cdg (defBody stR) "asked" q (TTold ca) := by
  intro f c' s H Q tl act hc h
  let X0 : Cx := (cxOf C8.CX0 X.prog X.w X.K X.mg X.base ["asked", "caught", "found", "e"] "_law_raised" (defScope stR) g cdg X.A X.stack s H C8.E0).nox
  refine ⟨_, (pss_cons (ps_par (i := 1) (j := 2) (by rfl) scR.nd rfl rfl (by decide) rfl rfl (pa_cons pe_non (pa_cons (pe_lst pa_nil) pa_nil)) (by rfl)) (pss_cons (ps_try_asT (X := X0) (i := 3) (tb := fun W D σ H => σ[0]? = some (some (V.ref f)) ∧ H c' = some (CodeO c' q) ∧ ∃ (E : XK) (Q' : VK), (∀ cls d H', E cls d H' → W cls d σ H') ∧ (∀ v H', Q' v H' → D.nx σ H') ∧ tl E H Q') rfl rfl scR.nd rfl rfl (.cons (by rfl) (T.own 0 (by decide)) (by decide) (.cons (by rfl) (T.own 12 (by decide)) (by decide) (.cons (by rfl) (T.own 13 (by decide)) (by decide) (.cons (by rfl) (T.own 14 (by decide)) (by decide) .nil)))) rfl L2.takes0 (fun W pn xe tk _ => ⟨fun pins s' σ H' D I h' => (pss_one (ps_expr (act W pn xe _ _ tk))).run pins s' σ H' D I (show tDrop (fun σZ HZ Q => σZ[0]? = some (some (V.ref f)) ∧ HZ c' = some (CodeO c' q) ∧ ∃ (E : XK) (Q' : VK), (∀ cls d H', E cls d H' → W cls d σZ H') ∧ (∀ v H', Q' v H' → Q v H') ∧ tl E HZ Q') D σ H' from h')⟩) (fun a oe cls d pn hz hf => pss_one (ps_set (i := 1) scR.nd rfl (.inl rfl) (pv 3)))) (pss_cons (ps_if (pt_cmpR op_isN (pv 1) pe_non (nomark _)) (pss_one (ps_ret (pe_tup pa_nil))) pss_nil) (pss_cut (ps_if (pt_val (pe_callB call_isX (by rfl) T.isi (by decide +kernel) (pa_cons (pv 1) (pa_cons (pe_glob (by rfl) (T.own 1 (by decide)) (v := .ref (ca 1)) rfl) pa_nil)))) (pss_one (ps_expr (pe_bm PySem.F.plainAttrs_list PySem.F.slot_list_append PySem.F.type_list_append mt_append (pv 2) (pa_cons (pe_tup (pa_cons pe_str (pa_cons (pe_xfT (pv 1)) pa_nil))) pa_nil)))) pss_nil) (pss_cut (ps_if (pt_val (pe_callB call_isX (by rfl) T.isi (by decide +kernel) (pa_cons (pv 1) (pa_cons (pe_glob (by rfl) (T.own 2 (by decide)) (v := .ref (ca 2)) rfl) pa_nil)))) (pss_one (ps_expr (pe_bm PySem.F.plainAttrs_list PySem.F.slot_list_append PySem.F.type_list_append mt_append (pv 2) (pa_cons (pe_tup (pa_cons pe_str (pa_cons (pe_xfT (pv 1)) pa_nil))) pa_nil)))) pss_nil) (pss_cut (ps_if (pt_val (pe_callB call_isX (by rfl) T.isi (by decide +kernel) (pa_cons (pv 1) (pa_cons (pe_glob (by rfl) (T.own 3 (by decide)) (v := .ref (ca 3)) rfl) pa_nil)))) (pss_one (ps_expr (pe_bm PySem.F.plainAttrs_list PySem.F.slot_list_append PySem.F.type_list_append mt_append (pv 2) (pa_cons (pe_tup (pa_cons pe_str (pa_cons (pe_xfT (pv 1)) pa_nil))) pa_nil)))) pss_nil) (pss_cut (ps_if (pt_val (pe_callB call_isX (by rfl) T.isi (by decide +kernel) (pa_cons (pv 1) (pa_cons (pe_glob (by rfl) (T.own 4 (by decide)) (v := .ref (ca 4)) rfl) pa_nil)))) (pss_one (ps_expr (pe_bm PySem.F.plainAttrs_list PySem.F.slot_list_append PySem.F.type_list_append mt_append (pv 2) (pa_cons (pe_tup (pa_cons pe_str (pa_cons (pe_xfT (pv 1)) pa_nil))) pa_nil)))) pss_nil) (pss_cut (ps_if (pt_val (pe_callB call_isX (by rfl) T.isi (by decide +kernel) (pa_cons (pv 1) (pa_cons (pe_glob (by rfl) (T.own 5 (by decide)) (v := .ref (ca 5)) rfl) pa_nil)))) (pss_one (ps_expr (pe_bm PySem.F.plainAttrs_list PySem.F.slot_list_append PySem.F.type_list_append mt_append (pv 2) (pa_cons (pe_tup (pa_cons pe_str (pa_cons (pe_xfT (pv 1)) pa_nil))) pa_nil)))) pss_nil) (pss_cut (ps_if (pt_val (pe_callB call_isX (by rfl) T.isi (by decide +kernel) (pa_cons (pv 1) (pa_cons (pe_glob (by rfl) (T.own 6 (by decide)) (v := .ref (ca 6)) rfl) pa_nil)))) (pss_one (ps_expr (pe_bm PySem.F.plainAttrs_list PySem.F.slot_list_append PySem.F.type_list_append mt_append (pv 2) (pa_cons (pe_tup (pa_cons pe_str (pa_cons (pe_xfT (pv 1)) pa_nil))) pa_nil)))) pss_nil) (pss_cut (ps_if (pt_val (pe_callB call_isX (by rfl) T.isi (by decide +kernel) (pa_cons (pv 1) (pa_cons (pe_glob (by rfl) (T.own 7 (by decide)) (v := .ref (ca 7)) rfl) pa_nil)))) (pss_one (ps_expr (pe_bm PySem.F.plainAttrs_list PySem.F.slot_list_append PySem.F.type_list_append mt_append (pv 2) (pa_cons (pe_tup (pa_cons pe_str (pa_cons (pe_xfT (pv 1)) pa_nil))) pa_nil)))) pss_nil) (pss_cut (ps_if (pt_val (pe_callB call_isX (by rfl) T.isi (by decide +kernel) (pa_cons (pv 1) (pa_cons (pe_glob (by rfl) (T.own 8 (by decide)) (v := .ref (ca 8)) rfl) pa_nil)))) (pss_one (ps_expr (pe_bm PySem.F.plainAttrs_list PySem.F.slot_list_append PySem.F.type_list_append mt_append (pv 2) (pa_cons (pe_tup (pa_cons pe_str (pa_cons (pe_xfT (pv 1)) pa_nil))) pa_nil)))) pss_nil) (pss_cut (ps_if (pt_val (pe_callB call_isX (by rfl) T.isi (by decide +kernel) (pa_cons (pv 1) (pa_cons (pe_glob (by rfl) (T.own 9 (by decide)) (v := .ref (ca 9)) rfl) pa_nil)))) (pss_one (ps_expr (pe_bm PySem.F.plainAttrs_list PySem.F.slot_list_append PySem.F.type_list_append mt_append (pv 2) (pa_cons (pe_tup (pa_cons pe_str (pa_cons (pe_xfT (pv 1)) pa_nil))) pa_nil)))) pss_nil) (pss_cut (ps_if (pt_val (pe_callB call_isX (by rfl) T.isi (by decide +kernel) (pa_cons (pv 1) (pa_cons (pe_glob (by rfl) (T.own 10 (by decide)) (v := .ref (ca 10)) rfl) pa_nil)))) (pss_one (ps_expr (pe_bm PySem.F.plainAttrs_list PySem.F.slot_list_append PySem.F.type_list_append mt_append (pv 2) (pa_cons (pe_tup (pa_cons pe_str (pa_cons (pe_xfT (pv 1)) (pa_cons (pe_xfT (pv 1)) pa_nil)))) pa_nil)))) pss_nil) (pss_cut (ps_if (pt_val (pe_callB call_isX (by rfl) T.isi (by decide +kernel) (pa_cons (pv 1) (pa_cons (pe_glob (by rfl) (T.own 11 (by decide)) (v := .ref (ca 11)) rfl) pa_nil)))) (pss_one (ps_expr (pe_bm PySem.F.plainAttrs_list PySem.F.slot_list_append PySem.F.type_list_append mt_append (pv 2) (pa_cons (pe_tup (pa_cons pe_str pa_nil)) pa_nil)))) pss_nil) (pss_cut (ps_if (pt_val (pe_callB call_isX (by rfl) T.isi (by decide +kernel) (pa_cons (pv 1) (pa_cons (pe_glob (by rfl) (T.own 12 (by decide)) (v := .ref (ca 12)) rfl) pa_nil)))) (pss_one (ps_expr (pe_bm PySem.F.plainAttrs_list PySem.F.slot_list_append PySem.F.type_list_append mt_append (pv 2) (pa_cons (pe_tup (pa_cons pe_str (pa_cons (pe_xfT (pv 1)) pa_nil))) pa_nil)))) pss_nil) (pss_cut (ps_if (pt_val (pe_callB call_isX (by rfl) T.isi (by decide +kernel) (pa_cons (pv 1) (pa_cons (pe_glob (by rfl) (T.own 13 (by decide)) (v := .ref (ca 13)) rfl) pa_nil)))) (pss_one (ps_expr (pe_bm PySem.F.plainAttrs_list PySem.F.slot_list_append PySem.F.type_list_append mt_append (pv 2) (pa_cons (pe_tup (pa_cons pe_str (pa_cons (pe_xfT (pv 1)) pa_nil))) pa_nil)))) pss_nil) (pss_cut (ps_if (pt_val (pe_callB call_isX (by rfl) T.isi (by decide +kernel) (pa_cons (pv 1) (pa_cons (pe_glob (by rfl) (T.own 14 (by decide)) (v := .ref (ca 14)) rfl) pa_nil)))) (pss_one (ps_expr (pe_bm PySem.F.plainAttrs_list PySem.F.slot_list_append PySem.F.type_list_append mt_append (pv 2) (pa_cons (pe_tup (pa_cons pe_str pa_nil)) pa_nil)))) pss_nil) (pss_one (ps_ret (pe_ifExp (pt_cmpR op_eq (pe_callB call_len_seq (by rfl) T.len (by decide +kernel) (pa_cons (pv 2) pa_nil)) pe_int (nomark _)) (pe_ix ix_list (pv 2) pe_int (fun _ _ => rfl)) (pe_tup (pa_cons pe_str (pa_cons (pe_callB call_len_seq (by rfl) T.len (by decide +kernel) (pa_cons (pv 2) pa_nil)) pa_nil))))))))))))))))))))))), ?_⟩
  have z0 : (0 : Nat) ≤ sizeLine := Nat.zero_le _
  refine ⟨z0, fun fl hfl => ⟨_, _, rfl, ?_⟩⟩
  refine ⟨rfl, (Ex.new hfl) _ _ hc, _, _, ?hW, ?hQ, h fl hfl⟩
  case hQ =>
    rintro v H' ⟨ex, k⟩
    refine ⟨_, rfl, rfl, _, rfl, ite2 (fun _ => ?_) (fun z => absurd rfl z)⟩
    exact ⟨z0, fun rt hrt => k rt _ (fresh_back ex hrt) (Ex.new hrt) upd_same⟩
  case hW =>
    rintro cls d H' ⟨ex, n, vs, ⟨rfl, n1, n14, S⟩, k⟩
    refine ⟨true, R.exm n n1 n14, fun _ a ha => ?_, fun z => nomatch z⟩
    refine ⟨_, rfl, ?_⟩
    refine ⟨_, rfl, rfl, _, rfl, ite2 (fun z => absurd (of_decide_eq_true z) (fun z => nomatch z)) (fun _ => ?_)⟩
    have xH := Ex.new (o := exv a (.ref (ca n)) d) ha
    have hflH : H' fl = some (.lst []) := ex _ _ upd_same
    have afl : a ≠ fl := fun z => by
      rw [z, hflH] at ha
      cases ha
    have dfl : ∀ dd fs, H' dd = some (.xd fs) → dd ≠ fl := fun dd fs e z => by
      rw [z, hflH] at e
      cases e
    have XA : Toy.ExAt (upd H' a (exv a (.ref (ca n)) d)) a (ca n) d ∧ ∀ dd, d = some dd → dd ≠ fl := by
      rcases S with ⟨_, rfl, _⟩ | ⟨_, dd, va, vb, rfl, hd, _⟩ | ⟨_, _, _, dd, v, rfl, hd, _⟩
      · exact ⟨⟨upd_same, fun _ z => nomatch z⟩, fun _ z => nomatch z⟩
      · exact ⟨⟨upd_same, fun dx z => by cases z; exact ⟨_, xH _ _ hd⟩⟩, fun dx z => by cases z; exact dfl _ _ hd⟩
      · exact ⟨⟨upd_same, fun dx z => by cases z; exact ⟨_, xH _ _ hd⟩⟩, fun dx z => by cases z; exact dfl _ _ hd⟩
    obtain ⟨XA, dfl'⟩ := XA
    have m0 : Mid f a fl (upd H' a (exv a (.ref (ca n)) d)) n vs 0 [some (.ref f), some (.ref a), some (.ref fl), none] (upd H' a (exv a (.ref (ca n)) d)) := ⟨rfl, fun b o e _ => e, .inl ⟨n1, xH _ _ hflH⟩⟩
    generalize upd H' a (exv a (.ref (ca n)) d) = H3 at XA m0 xH ⊢
    have one : ∀ i, i = n → i ≠ 10 → i ≠ 11 → i ≠ 14 → ∀ H2 : Hp, (∀ b o, H3 b = some o → b ≠ fl → H2 b = some o) → EvU (tTup (tCons (tC (.str (wdN i))) (tCons (tXfT X.K (fdN i) (tVar 1)) tNil))) [some (.ref f), some (.ref a), some (.ref fl), none] H2 (.str (wdN n) :: vs) := by
      rintro i rfl z10 z11 z14 H2 kp
      rcases S with ⟨z | z, _⟩ | ⟨z, _⟩ | ⟨_, _, _, dd, v, rfl, hd, rfl⟩
      · exact absurd z z11
      · exact absurd z z14
      · exact absurd z z10
      · refine eu_tup (ea_cons ev_c (ea_cons ?_ ea_nil)) (by simp)
        exact Toy.ev_xf (ev_var rfl) (C := ca i) (d := dd) ⟨kp _ _ XA.1 afl, fun dx z => by cases z; exact ⟨_, kp _ _ (xH _ _ hd) (dfl _ _ hd)⟩⟩ (kp _ _ (xH _ _ hd) (dfl _ _ hd)) (R.xc i n1 n14) (R.no i n1 n14 z10 z11 z14) (by simp [List.lookup])
    have ten : 10 = n → ∀ H2 : Hp, (∀ b o, H3 b = some o → b ≠ fl → H2 b = some o) → EvU (tTup (tCons (tC (.str "text")) (tCons (tXfT X.K "line" (tVar 1)) (tCons (tXfT X.K "word" (tVar 1)) tNil)))) [some (.ref f), some (.ref a), some (.ref fl), none] H2 (.str (wdN n) :: vs) := by
      rintro rfl H2 kp
      rcases S with ⟨z | z, _⟩ | ⟨_, dd, va, vb, rfl, hd, rfl⟩ | ⟨z, _⟩
      · omega
      · omega
      · have xa : Toy.ExAt H2 a (ca 10) (some dd) := ⟨kp _ _ XA.1 afl, fun dx z => by cases z; exact ⟨_, kp _ _ (xH _ _ hd) (dfl _ _ hd)⟩⟩
        have hh := kp _ _ (xH _ _ hd) (dfl _ _ hd)
        exact eu_tup (ea_cons ev_c (ea_cons (Toy.ev_xf (ev_var rfl) xa hh (R.xc 10 n1 n14) R.line rfl) (ea_cons (Toy.ev_xf (ev_var rfl) xa hh (R.xc 10 n1 n14) R.word rfl) ea_nil))) (by simp)
      · exact absurd rfl z
    have none_ : ∀ i, i = n → (i = 11 ∨ i = 14) → ∀ H2 : Hp, (∀ b o, H3 b = some o → b ≠ fl → H2 b = some o) → EvU (tTup (tCons (tC (.str (wdN i))) tNil)) [some (.ref f), some (.ref a), some (.ref fl), none] H2 (.str (wdN n) :: vs) := by
      rintro i rfl zi H2 kp
      rcases S with ⟨_, _, rfl⟩ | ⟨z, _⟩ | ⟨_, z2, z3, _⟩
      · exact eu_tup (ea_cons ev_c ea_nil) (by simp)
      · omega
      · omega
    refine q_cut (mid_step (i := 1) R n1 n14 (by decide) (by decide) XA afl dfl' (fun z => one 1 z (by decide) (by decide) (by decide)) m0) (fun σ1 H1' m1 => ?_)
    refine q_cut (mid_step (i := 2) R n1 n14 (by decide) (by decide) XA afl dfl' (fun z => one 2 z (by decide) (by decide) (by decide)) m1) (fun σ2 H2' m2 => ?_)
    refine q_cut (mid_step (i := 3) R n1 n14 (by decide) (by decide) XA afl dfl' (fun z => one 3 z (by decide) (by decide) (by decide)) m2) (fun σ3 H3' m3 => ?_)
    refine q_cut (mid_step (i := 4) R n1 n14 (by decide) (by decide) XA afl dfl' (fun z => one 4 z (by decide) (by decide) (by decide)) m3) (fun σ4 H4' m4 => ?_)
    refine q_cut (mid_step (i := 5) R n1 n14 (by decide) (by decide) XA afl dfl' (fun z => one 5 z (by decide) (by decide) (by decide)) m4) (fun σ5 H5' m5 => ?_)
    refine q_cut (mid_step (i := 6) R n1 n14 (by decide) (by decide) XA afl dfl' (fun z => one 6 z (by decide) (by decide) (by decide)) m5) (fun σ6 H6' m6 => ?_)
    refine q_cut (mid_step (i := 7) R n1 n14 (by decide) (by decide) XA afl dfl' (fun z => one 7 z (by decide) (by decide) (by decide)) m6) (fun σ7 H7' m7 => ?_)
    refine q_cut (mid_step (i := 8) R n1 n14 (by decide) (by decide) XA afl dfl' (fun z => one 8 z (by decide) (by decide) (by decide)) m7) (fun σ8 H8' m8 => ?_)
    refine q_cut (mid_step (i := 9) R n1 n14 (by decide) (by decide) XA afl dfl' (fun z => one 9 z (by decide) (by decide) (by decide)) m8) (fun σ9 H9' m9 => ?_)
    refine q_cut (mid_step (i := 10) R n1 n14 (by decide) (by decide) XA afl dfl' (fun z => ten z) m9) (fun σ10 H10' m10 => ?_)
    refine q_cut (mid_step (i := 11) R n1 n14 (by decide) (by decide) XA afl dfl' (fun z => none_ 11 z (by decide)) m10) (fun σ11 H11' m11 => ?_)
    refine q_cut (mid_step (i := 12) R n1 n14 (by decide) (by decide) XA afl dfl' (fun z => one 12 z (by decide) (by decide) (by decide)) m11) (fun σ12 H12' m12 => ?_)
    refine q_cut (mid_step (i := 13) R n1 n14 (by decide) (by decide) XA afl dfl' (fun z => one 13 z (by decide) (by decide) (by decide)) m12) (fun σ13 H13' m13 => ?_)
    refine q_cut (mid_step (i := 14) R n1 n14 (by decide) (by decide) XA afl dfl' (fun z => none_ 14 z (by decide)) m13) (fun σ14 H14' m14 => ?_)
    obtain ⟨rfl, kp, alt⟩ := m14
    rcases alt with ⟨z, _⟩ | ⟨_, rt, h1, h2, h3⟩
    · omega
    · refine s_ret (v := .ref rt) (ev_if (b := true) (et_is (et_test (ev_op (ev_len (ev_var rfl) (sq_of h2)) ev_c (rv_eq rfl))) (decide_eq_true rfl)) (fun _ => ev_op (ev_var rfl) ev_c (rv_ixL (sq_of h2) (atI_nat (j := 0) rfl))) (fun z => nomatch z)) fun H6 e6 => ?_
      exact k rt H6 (fresh_back (ex.trans xH) h1) (fun b o e nb => e6 _ _ (kp b o (xH b o e) nb)) (e6 _ _ h3)
end
end Told

/-! repr of a word with a thing (which may be a small dict), and of lists of such. -/
namespace L2
open PySem PySem.Spec PyProof.Rows Evl
/-- what Di tells, an empty dict, or a tuple of a text and such -/
inductive Dj (K : PySem.W.Frag) (H : Hp) : V → PyData → Prop
  | di {v : V} {d : PyData} : Di K H v d → Dj K H v d
  | nil {a : Addr} : H a = some (.dK []) → Dj K H (.ref a) (.dict [])
  | pair {a : Addr} {x : Str} {v : V} {d : PyData} : SqT K H a [.str x, v] → Dj K H v d → Dj K H (.ref a) (.tuple [.str x, d])
inductive DjAll (K : PySem.W.Frag) (H : Hp) : List V → List PyData → Prop
  | nil : DjAll K H [] []
  | cons {v : V} {vs : List V} {d : PyData} {ds : List PyData} : Dj K H v d → DjAll K H vs ds → DjAll K H (v :: vs) (d :: ds)
section
variable {X : Cx} {pins : List (Addr × Obj)} {σ : St} {H : Hp} {s : Shared}
theorem Dj.reads (I : Inv X pins σ H s) {v : V} {d : PyData} (h : Dj X.K H v d) : ∀ {u : Value}, RelV v u → ∃ as, Reads s.heap u d as ∧ (d.hasDict = true → sysModules ∉ as) := by
  induction h with
  | di h => exact fun r => Di.reads I h r
  | @nil a hs =>
    intro u r
    cases r
    obtain ⟨_, hne, vs, rel, o, es, ep, ho, ⟨hx, _, _⟩, hd, _, hp, _⟩ := dk_of I.hok hs
    cases rel
    cases es with
    | mk es =>
    cases hp
    refine ⟨_, Reads.dict ho hx hd (kvs := []) (as := []) (bs := []) .nil .nil, fun _ h => ?_⟩
    simp only [List.append_nil, List.mem_cons, List.not_mem_nil, or_false] at h
    rw [← h] at hne
    exact absurd hne (by decide)
  | @pair a x v d hs hv ih =>
    intro u r
    cases r
    obtain ⟨its, rv, ⟨o, ho, hc, n, hd⟩, _⟩ := I.tuple hs
    obtain ⟨u1, u2, rfl, ⟨t, rfl⟩, r2⟩ := vals2 rv
    obtain ⟨bs, hr, hm⟩ := ih r2
    refine ⟨_, Reads.tuple ho hc hd (.cons (.str _ _) (.cons hr .nil)), fun z h => hm ?_ ?_⟩
    · simpa [PyData.hasDict, PyData.hasDictAll] using z
    · simpa using h
theorem DjAll.reads (I : Inv X pins σ H s) : ∀ {ds : List PyData} {vs : List V} {us : List Value}, DjAll X.K H vs ds → Vals vs us → ReadsI s.heap us ds
  | [], _, _, h, r => by
    cases h
    cases r
    exact .nil
  | d :: ds, _, _, h, r => by
    cases h with
    | cons h1 h2 =>
      cases r with
      | cons r1 r2 =>
        obtain ⟨as, q, m⟩ := Dj.reads I h1 r1
        exact .cons q m (DjAll.reads I h2 r2)
theorem Dj.ex {K : PySem.W.Frag} {H H' : Hp} (e : Ex H H') {v : V} {d : PyData} (h : Dj K H v d) : Dj K H' v d := by
  induction h with
  | di h => exact .di (h.ex e)
  | nil h => exact .nil (e _ _ h)
  | pair h _ ih => exact .pair (ex_t e h) ih
theorem DjAll.ex {K : PySem.W.Frag} {H H' : Hp} (e : Ex H H') : ∀ {vs : List V} {ds : List PyData}, DjAll K H vs ds → DjAll K H' vs ds
  | _, _, .nil => .nil
  | _, _, .cons h t => .cons (h.ex e) (t.ex e)
end
def rReprJ (K : PySem.W.Frag) : List V → Hp → VK → Prop := fun xs H Q => ∃ v d, xs = [v] ∧ Dj K H v d ∧ d.showable = true ∧ d.shown.length ≤ sizeLine ∧ d.depth ≤ 60 ∧ Q (.str d.shown) H
def rReprK (K : PySem.W.Frag) : List V → Hp → VK → Prop := fun xs H Q => ∃ a vs ds, xs = [.ref a] ∧ SqL K H a vs ∧ DjAll K H vs ds ∧ (PyData.list ds).showable = true ∧ (PyData.list ds).shown.length ≤ sizeLine ∧ PyData.depthAll ds ≤ 60 ∧ Q (.str (PyData.list ds).shown) H
theorem call_reprJ {X : Cx} (hg : X.A.guards = some []) (hu : X.A.units + 64 < cLine) : CallR X (.builtin "repr") (rReprJ X.K) := by
  intro pins s σ H xs us Q I r h
  obtain ⟨v, d, rfl, hd, hs, hz, hdp, q⟩ := h
  cases r with
  | @cons _ u _ us r1 r2 =>
    cases r2
    show wpAny _ _ (call (.builtin "repr") [u]) _ _ _
    obtain ⟨as, rd, hm⟩ := Dj.reads I hd r1
    cases rd with
    | none => exact P.repr_of_none ⟨.str _, H, I.tok _, ⟨_, rfl⟩, by simpa [PyData.shown] using q⟩
    | bool b => exact P.repr_of_bool ⟨.str _, H, I.tok _, ⟨_, rfl⟩, by simpa [PyData.shown] using q⟩
    | int i t => exact P.repr_of_int (by simpa [PyData.showable] using hs) ⟨.str _, H, I.tok _, ⟨_, rfl⟩, by simpa [PyData.shown] using q⟩
    | str x t => exact P.repr_of_str ⟨.str _, H, I.tok _, ⟨_, rfl⟩, by simpa [PyData.shown] using q⟩ (by simpa [PyData.shown] using hz)
    | list h1 h2 h3 h4 => exact repr_of_reads' (.list h1 h2 h3 h4) hs hm hg (by omega) (fun _ _ e => e) (fun h' u tk k => ⟨.str _, H, I.kept (t' := tk) k, ⟨_, rfl⟩, q⟩) hz
    | tuple h1 h2 h3 h4 => exact repr_of_reads' (.tuple h1 h2 h3 h4) hs hm hg (by omega) (fun _ _ e => e) (fun h' u tk k => ⟨.str _, H, I.kept (t' := tk) k, ⟨_, rfl⟩, q⟩) hz
    | dict h1 h2 h3 h4 h5 => exact repr_of_reads' (.dict h1 h2 h3 h4 h5) hs hm hg (by omega) (fun _ _ e => e) (fun h' u tk k => ⟨.str _, H, I.kept (t' := tk) k, ⟨_, rfl⟩, q⟩) hz
theorem call_reprK {X : Cx} (hg : X.A.guards = some []) (hu : X.A.units + 64 < cLine) : CallR X (.builtin "repr") (rReprK X.K) := by
  intro pins s σ H xs us Q I r h
  obtain ⟨a, vs, ds, rfl, hS, hd, hs, hz, hdp, q⟩ := h
  cases r with
  | @cons _ u _ us r1 r2 =>
    cases r2
    cases r1
    show wpAny _ _ (call (.builtin "repr") [.ref a]) _ _ _
    obtain ⟨its, rv, ⟨o, n, h1, h2, _, h3⟩, _⟩ := I.list hS
    have RI := DjAll.reads I hd rv
    obtain ⟨as, h4⟩ := RI.all
    have hz' : (listText (PyData.shownAll ds)).length ≤ sizeLine := by simpa only [PyData.shown] using hz
    obtain ⟨bs, hb, hk⟩ := RI.repr (prog := X.prog) (w := X.w) (by simpa [PyData.showable] using hs) (fun t ht => Nat.le_trans (listText_mem_le ht) hz')
    have h4' : ReadsAll s.heap its.toArray.toList ds as := by simpa using h4
    have hna : a ∉ bs := not_mem_of_deeper (.list h1 h2 h3 h4') (by simp only [PyData.depth]; omega) hb
    have fin : ∀ {h' u tk}, (∀ b o, s.heap.get? b = some o → h'.get? b = some o) → EP X pins σ Q (.str (PyData.list ds).shown u) { s with heap := h', toks := tk } := fun {h' u tk} k => ⟨.str _, H, I.kept (t' := tk) k, ⟨_, rfl⟩, q⟩
    refine call_repr_slot (by omega) ⟨o, h1, h2⟩ F.slot_list_repr.toG ?_
    cases its with
    | nil =>
      cases h4
      have e : (PyData.list []).shown = ("[]" : Str) := by simp only [PyData.shown, PyData.shownAll, listText_nil]
      refine call_list_repr_empty ⟨o, h1, h2⟩ h1 h3 ⟨_, _, rfl, ?_⟩
      rw [← e]
      exact fin fun _ _ e => e
    | cons x l =>
      refine call_list_reprK h1 h2 h3 hna (by simpa using hk.length_eq) (fun i y e => hk.item i y (by simpa using e)) hg (fun b _ => Clear.nil b) (by show X.A.units + 1 + _ < _; omega) (fun _ _ e => e) (fun h' u tk k => ⟨_, _, rfl, ?_⟩) hz'
      have := fin (h' := h') (u := u) (tk := tk) k
      simpa only [PyData.shown] using this
section
variable {K : PySem.W.Frag} {σ : L2.St} {H : Hp} {te : TE}
theorem ev_reprJ {v : V} {d : PyData} (h : Ev te σ H v) (hd : Dj K H v d) (s : Sm d) : Ev (tCB (rReprJ K) (tCons te tNil)) σ H (.str d.shown) :=
  ev_cb (ea_cons h ea_nil) fun H1 e Q q => ⟨v, d, rfl, hd.ex e, s.a, Nat.le_trans s.b (by rw [sizeLine_eq]; omega), Nat.le_trans s.c (by decide), q H1 (Ex.refl H1)⟩
theorem ev_reprK {vs : List V} {ds : List PyData} (h : EvL te σ H vs) (hd : DjAll K H vs ds) (s : SmAll ds) (hl : ds.length ≤ 100) : Ev (tCB (rReprK K) (tCons te tNil)) σ H (.str (PyData.list ds).shown) := fun H1 e Q q =>
  h H1 e _ fun p H2 hp e2 h2 => ⟨p, vs, ds, rfl, sq_of h2, hd.ex (e.trans e2), (s.list hl).1, (s.list hl).2.1, (s.list hl).2.2, q H2 e2⟩
end
end L2

/-! What lies at an address of the written part, told by the part itself. -/
namespace L2
open PySem PySem.Spec PyProof.Rows ExM
open PySem (cStatics)
open PySem.W (Frag findIn typeIn keepIn subIn nsIn codeIn ksFn ks_superIn excTail)
/-! what lies at an address of the written part -/
def oO (K : Frag) (a : Addr) : Obj := (K.lookup a).getD default
def fO (K : Frag) (a : Addr) : FuncData := match (oO K a).data with
  | .func fd => fd
  | _ => default
def cO (K : Frag) (a : Addr) : ClassData := match (oO K a).data with
  | .cls cd => cd
  | _ => default
def vO (K : Frag) (a : Addr) : Array Value := match (oO K a).data with
  | .fields vs => vs
  | _ => #[]
def sO (v : Option Value) : Str × Tok := match v with
  | some (.str x t) => (x, t)
  | _ => default
def slO (K : Frag) (a : Addr) (i : Nat) : Option Value := ((oO K a).slots[i]?).getD none
theorem cfs_mkO {K : Frag} {prog : Program} {C f cc cda : Addr} {qual : Str} {params : Arguments} {body : List Stmt} {scope : Scope} {bmB : List Value} {B newId initId : String}
    (lc : K.lookup C = some (excClassObj (cO K C).name (cO K C).qualname C (cO K C).ns (cO K C).bases (cO K C).mro.tail true (cO K C).slotNames (cO K C).subclasses (cO K C).abstract (cO K C).collection (oO K C).dict (slO K C 0) (slO K C 1) (slO K C 2) (slO K C 3) (slO K C 5) newId))
    (iC : findIn K (.ref C) "__init__" = some (some (.ref f)))
    (lf : K.lookup f = some ⟨(oO K f).cls, (oO K f).dict, .func (ksFn "__init__" qual params body scope .none (fO K f).kwdefaults (fO K f).doc (fO K f).pyModule (fO K f).annotations (.ref cda) (fO K f).closureTuple cc), (oO K f).slots⟩)
    (lcd : K.lookup cda = some ⟨(oO K cda).cls, (oO K cda).dict, .fields (vO K cda), (oO K cda).slots⟩) (lcc : K.lookup cc = some ⟨(oO K cc).cls, (oO K cc).dict, .cell (some (.ref C)), (oO K cc).slots⟩)
    (sa : findIn K (.ref C) "__setattr__" = some (some (.builtin "object.__setattr__"))) (tF : typeIn K (.ref f) = some (.type "function")) (kC : keepIn K (.ref C) = true) (exC : subIn K (.ref C) (.type "BaseException") = some true) (bC : subIn K (.ref C) (.type B) = some true)
    (tyC : typeIn K (.ref C) = some (.type "type")) (op : nsIn K cStatics "thirdparty.any" = some none) (cf : codeIn K (.ref cda) qual = true)
    (al : ks_superIn K C C "__init__" = some (some (.builtin initId))) (tl : excTail bmB (cO K C).mro.tail = true) (v2 : (vO K cda)[2]? = some (.str (sO (vO K cda)[2]?).1 (sO (vO K cda)[2]?).2)) (hf : ((prog.main.file : Str) == (sO (vO K cda)[2]?).1) = true) (top : (prog.main.scope.names.lookup ("super" : Str)).isSome = false) :
    Cfs K prog C f cc cda qual params body scope bmB B newId initId :=
  cfs_mk lc iC lf lcd lcc sa tF kC exC bC tyC op cf al tl v2 hf top
end L2
namespace L2
open PySem
/-- a def as the top has written it -/
def fdX (K : PySem.W.Frag) (name : Str) (st : Stmt) (f : Addr) : FuncData := PySem.W.fnOf name name (defArgs st) (defBody st) (defScope st) .none (fO K f).kwdefaults (fO K f).doc (fO K f).pyModule (fO K f).annotations (fO K f).code (fO K f).closureTuple
end L2

section
open PySem PySem.W PyProof.Rows
set_option maxRecDepth 100000
set_option maxHeartbeats 0
open_top hd04 for PySem.Challenge.rw_shortspans_k04_rules_checked
end
/-! k04: what the top has written, at its addresses. -/
namespace KH4
open PySem L2 Evl ExM Dg
abbrev P04 : Program := PySem.Challenge.pw_shortspans_k04_rules_checked
noncomputable abbrev K04 : Params → PySem.W.Frag := hd04.heap_39
def ca04 : Nat → Addr
  | 0 => 24
  | 1 => 46
  | 2 => 67
  | 3 => 88
  | 4 => 109
  | 5 => 130
  | 6 => 151
  | 7 => 172
  | 8 => 193
  | 9 => 214
  | 10 => 235
  | 11 => 256
  | 12 => 277
  | 13 => 299
  | 14 => 321
  | _ => 0
section
variable (p : Params) {mg : Str → Option Value}
theorem cfs1 : Cfs (K04 p) P04 46 43 31 42 "BadBase.__init__" (defArgs (inClass (top 2) 0)) (defBody (inClass (top 2) 0)) (defScope (inClass (top 2) 0)) [.type "ValueError", .type "Exception", .type "BaseException", .type "object"] "ValueError" "ValueError.__new__" "ValueError.__init__" :=
  cfs_mkO (by kernel_rfl) (by kernel_rfl) (by kernel_rfl) (by kernel_rfl) (by kernel_rfl) (by kernel_rfl) (by kernel_rfl) (by kernel_rfl) (by kernel_rfl) (by kernel_rfl) (by kernel_rfl) (by kernel_rfl) (by kernel_rfl) (by kernel_rfl) (by kernel_rfl) (by kernel_rfl) (by kernel_rfl) (by kernel_rfl)
theorem mk1 : Mks P04 (K04 p) mg 46 ["value"] :=
  mks_one (cfs1 p) base_VE rfl rfl rfl ⟨rfl, by decide +kernel, by decide +kernel, rfl, rfl, ⟨_, rfl, rfl⟩, by decide +kernel⟩ (fun L cd => ⟨rfl, _, rfl⟩) (by kernel_rfl)
    (fun a v h x kV doc pm an cdv ct => match h with | .pos _ => by kernel_rfl | .kw1 => by kernel_rfl)
theorem cfs2 : Cfs (K04 p) P04 67 64 52 63 "BadNumber.__init__" (defArgs (inClass (top 3) 0)) (defBody (inClass (top 3) 0)) (defScope (inClass (top 3) 0)) [.type "ValueError", .type "Exception", .type "BaseException", .type "object"] "ValueError" "ValueError.__new__" "ValueError.__init__" :=
  cfs_mkO (by kernel_rfl) (by kernel_rfl) (by kernel_rfl) (by kernel_rfl) (by kernel_rfl) (by kernel_rfl) (by kernel_rfl) (by kernel_rfl) (by kernel_rfl) (by kernel_rfl) (by kernel_rfl) (by kernel_rfl) (by kernel_rfl) (by kernel_rfl) (by kernel_rfl) (by kernel_rfl) (by kernel_rfl) (by kernel_rfl)
theorem mk2 : Mks P04 (K04 p) mg 67 ["value"] :=
  mks_one (cfs2 p) base_VE rfl rfl rfl ⟨rfl, by decide +kernel, by decide +kernel, rfl, rfl, ⟨_, rfl, rfl⟩, by decide +kernel⟩ (fun L cd => ⟨rfl, _, rfl⟩) (by kernel_rfl)
    (fun a v h x kV doc pm an cdv ct => match h with | .pos _ => by kernel_rfl | .kw1 => by kernel_rfl)
theorem cfs3 : Cfs (K04 p) P04 88 85 73 84 "BadDigits.__init__" (defArgs (inClass (top 4) 0)) (defBody (inClass (top 4) 0)) (defScope (inClass (top 4) 0)) [.type "ValueError", .type "Exception", .type "BaseException", .type "object"] "ValueError" "ValueError.__new__" "ValueError.__init__" :=
  cfs_mkO (by kernel_rfl) (by kernel_rfl) (by kernel_rfl) (by kernel_rfl) (by kernel_rfl) (by kernel_rfl) (by kernel_rfl) (by kernel_rfl) (by kernel_rfl) (by kernel_rfl) (by kernel_rfl) (by kernel_rfl) (by kernel_rfl) (by kernel_rfl) (by kernel_rfl) (by kernel_rfl) (by kernel_rfl) (by kernel_rfl)
theorem mk3 : Mks P04 (K04 p) mg 88 ["value"] :=
  mks_one (cfs3 p) base_VE rfl rfl rfl ⟨rfl, by decide +kernel, by decide +kernel, rfl, rfl, ⟨_, rfl, rfl⟩, by decide +kernel⟩ (fun L cd => ⟨rfl, _, rfl⟩) (by kernel_rfl)
    (fun a v h x kV doc pm an cdv ct => match h with | .pos _ => by kernel_rfl | .kw1 => by kernel_rfl)
theorem cfs4 : Cfs (K04 p) P04 109 106 94 105 "BadRange.__init__" (defArgs (inClass (top 5) 0)) (defBody (inClass (top 5) 0)) (defScope (inClass (top 5) 0)) [.type "ValueError", .type "Exception", .type "BaseException", .type "object"] "ValueError" "ValueError.__new__" "ValueError.__init__" :=
  cfs_mkO (by kernel_rfl) (by kernel_rfl) (by kernel_rfl) (by kernel_rfl) (by kernel_rfl) (by kernel_rfl) (by kernel_rfl) (by kernel_rfl) (by kernel_rfl) (by kernel_rfl) (by kernel_rfl) (by kernel_rfl) (by kernel_rfl) (by kernel_rfl) (by kernel_rfl) (by kernel_rfl) (by kernel_rfl) (by kernel_rfl)
theorem mk4 : Mks P04 (K04 p) mg 109 ["value"] :=
  mks_one (cfs4 p) base_VE rfl rfl rfl ⟨rfl, by decide +kernel, by decide +kernel, rfl, rfl, ⟨_, rfl, rfl⟩, by decide +kernel⟩ (fun L cd => ⟨rfl, _, rfl⟩) (by kernel_rfl)
    (fun a v h x kV doc pm an cdv ct => match h with | .pos _ => by kernel_rfl | .kw1 => by kernel_rfl)
theorem cfs5 : Cfs (K04 p) P04 130 127 115 126 "BadRule.__init__" (defArgs (inClass (top 6) 0)) (defBody (inClass (top 6) 0)) (defScope (inClass (top 6) 0)) [.type "ValueError", .type "Exception", .type "BaseException", .type "object"] "ValueError" "ValueError.__new__" "ValueError.__init__" :=
  cfs_mkO (by kernel_rfl) (by kernel_rfl) (by kernel_rfl) (by kernel_rfl) (by kernel_rfl) (by kernel_rfl) (by kernel_rfl) (by kernel_rfl) (by kernel_rfl) (by kernel_rfl) (by kernel_rfl) (by kernel_rfl) (by kernel_rfl) (by kernel_rfl) (by kernel_rfl) (by kernel_rfl) (by kernel_rfl) (by kernel_rfl)
theorem mk5 : Mks P04 (K04 p) mg 130 ["place"] :=
  mks_one (cfs5 p) base_VE rfl rfl rfl ⟨rfl, by decide +kernel, by decide +kernel, rfl, rfl, ⟨_, rfl, rfl⟩, by decide +kernel⟩ (fun L cd => ⟨rfl, _, rfl⟩) (by kernel_rfl)
    (fun a v h x kV doc pm an cdv ct => match h with | .pos _ => by kernel_rfl | .kw1 => by kernel_rfl)
theorem cfs6 : Cfs (K04 p) P04 151 148 136 147 "BadReader.__init__" (defArgs (inClass (top 7) 0)) (defBody (inClass (top 7) 0)) (defScope (inClass (top 7) 0)) [.type "ValueError", .type "Exception", .type "BaseException", .type "object"] "ValueError" "ValueError.__new__" "ValueError.__init__" :=
  cfs_mkO (by kernel_rfl) (by kernel_rfl) (by kernel_rfl) (by kernel_rfl) (by kernel_rfl) (by kernel_rfl) (by kernel_rfl) (by kernel_rfl) (by kernel_rfl) (by kernel_rfl) (by kernel_rfl) (by kernel_rfl) (by kernel_rfl) (by kernel_rfl) (by kernel_rfl) (by kernel_rfl) (by kernel_rfl) (by kernel_rfl)
theorem mk6 : Mks P04 (K04 p) mg 151 ["value"] :=
  mks_one (cfs6 p) base_VE rfl rfl rfl ⟨rfl, by decide +kernel, by decide +kernel, rfl, rfl, ⟨_, rfl, rfl⟩, by decide +kernel⟩ (fun L cd => ⟨rfl, _, rfl⟩) (by kernel_rfl)
    (fun a v h x kV doc pm an cdv ct => match h with | .pos _ => by kernel_rfl | .kw1 => by kernel_rfl)
theorem cfs7 : Cfs (K04 p) P04 172 169 157 168 "BadManner.__init__" (defArgs (inClass (top 8) 0)) (defBody (inClass (top 8) 0)) (defScope (inClass (top 8) 0)) [.type "ValueError", .type "Exception", .type "BaseException", .type "object"] "ValueError" "ValueError.__new__" "ValueError.__init__" :=
  cfs_mkO (by kernel_rfl) (by kernel_rfl) (by kernel_rfl) (by kernel_rfl) (by kernel_rfl) (by kernel_rfl) (by kernel_rfl) (by kernel_rfl) (by kernel_rfl) (by kernel_rfl) (by kernel_rfl) (by kernel_rfl) (by kernel_rfl) (by kernel_rfl) (by kernel_rfl) (by kernel_rfl) (by kernel_rfl) (by kernel_rfl)
theorem mk7 : Mks P04 (K04 p) mg 172 ["value"] :=
  mks_one (cfs7 p) base_VE rfl rfl rfl ⟨rfl, by decide +kernel, by decide +kernel, rfl, rfl, ⟨_, rfl, rfl⟩, by decide +kernel⟩ (fun L cd => ⟨rfl, _, rfl⟩) (by kernel_rfl)
    (fun a v h x kV doc pm an cdv ct => match h with | .pos _ => by kernel_rfl | .kw1 => by kernel_rfl)
theorem cfs8 : Cfs (K04 p) P04 193 190 178 189 "BadEntry.__init__" (defArgs (inClass (top 9) 0)) (defBody (inClass (top 9) 0)) (defScope (inClass (top 9) 0)) [.type "ValueError", .type "Exception", .type "BaseException", .type "object"] "ValueError" "ValueError.__new__" "ValueError.__init__" :=
  cfs_mkO (by kernel_rfl) (by kernel_rfl) (by kernel_rfl) (by kernel_rfl) (by kernel_rfl) (by kernel_rfl) (by kernel_rfl) (by kernel_rfl) (by kernel_rfl) (by kernel_rfl) (by kernel_rfl) (by kernel_rfl) (by kernel_rfl) (by kernel_rfl) (by kernel_rfl) (by kernel_rfl) (by kernel_rfl) (by kernel_rfl)
theorem mk8 : Mks P04 (K04 p) mg 193 ["place"] :=
  mks_one (cfs8 p) base_VE rfl rfl rfl ⟨rfl, by decide +kernel, by decide +kernel, rfl, rfl, ⟨_, rfl, rfl⟩, by decide +kernel⟩ (fun L cd => ⟨rfl, _, rfl⟩) (by kernel_rfl)
    (fun a v h x kV doc pm an cdv ct => match h with | .pos _ => by kernel_rfl | .kw1 => by kernel_rfl)
theorem cfs9 : Cfs (K04 p) P04 214 211 199 210 "BadName.__init__" (defArgs (inClass (top 10) 0)) (defBody (inClass (top 10) 0)) (defScope (inClass (top 10) 0)) [.type "ValueError", .type "Exception", .type "BaseException", .type "object"] "ValueError" "ValueError.__new__" "ValueError.__init__" :=
  cfs_mkO (by kernel_rfl) (by kernel_rfl) (by kernel_rfl) (by kernel_rfl) (by kernel_rfl) (by kernel_rfl) (by kernel_rfl) (by kernel_rfl) (by kernel_rfl) (by kernel_rfl) (by kernel_rfl) (by kernel_rfl) (by kernel_rfl) (by kernel_rfl) (by kernel_rfl) (by kernel_rfl) (by kernel_rfl) (by kernel_rfl)
theorem mk9 : Mks P04 (K04 p) mg 214 ["value"] :=
  mks_one (cfs9 p) base_VE rfl rfl rfl ⟨rfl, by decide +kernel, by decide +kernel, rfl, rfl, ⟨_, rfl, rfl⟩, by decide +kernel⟩ (fun L cd => ⟨rfl, _, rfl⟩) (by kernel_rfl)
    (fun a v h x kV doc pm an cdv ct => match h with | .pos _ => by kernel_rfl | .kw1 => by kernel_rfl)
theorem cfs10 : Cfs (K04 p) P04 235 232 220 231 "BadText.__init__" (defArgs (inClass (top 11) 0)) (defBody (inClass (top 11) 0)) (defScope (inClass (top 11) 0)) [.type "ValueError", .type "Exception", .type "BaseException", .type "object"] "ValueError" "ValueError.__new__" "ValueError.__init__" :=
  cfs_mkO (by kernel_rfl) (by kernel_rfl) (by kernel_rfl) (by kernel_rfl) (by kernel_rfl) (by kernel_rfl) (by kernel_rfl) (by kernel_rfl) (by kernel_rfl) (by kernel_rfl) (by kernel_rfl) (by kernel_rfl) (by kernel_rfl) (by kernel_rfl) (by kernel_rfl) (by kernel_rfl) (by kernel_rfl) (by kernel_rfl)
theorem cfs11 : Cfs (K04 p) P04 256 253 241 252 "OtherBase.__init__" (defArgs (inClass (top 12) 0)) (defBody (inClass (top 12) 0)) (defScope (inClass (top 12) 0)) [.type "ValueError", .type "Exception", .type "BaseException", .type "object"] "ValueError" "ValueError.__new__" "ValueError.__init__" :=
  cfs_mkO (by kernel_rfl) (by kernel_rfl) (by kernel_rfl) (by kernel_rfl) (by kernel_rfl) (by kernel_rfl) (by kernel_rfl) (by kernel_rfl) (by kernel_rfl) (by kernel_rfl) (by kernel_rfl) (by kernel_rfl) (by kernel_rfl) (by kernel_rfl) (by kernel_rfl) (by kernel_rfl) (by kernel_rfl) (by kernel_rfl)
theorem cfs12 : Cfs (K04 p) P04 277 274 262 273 "TooMany.__init__" (defArgs (inClass (top 13) 0)) (defBody (inClass (top 13) 0)) (defScope (inClass (top 13) 0)) [.type "OverflowError", .type "ArithmeticError", .type "Exception", .type "BaseException", .type "object"] "OverflowError" "OverflowError.__new__" "OverflowError.__init__" :=
  cfs_mkO (by kernel_rfl) (by kernel_rfl) (by kernel_rfl) (by kernel_rfl) (by kernel_rfl) (by kernel_rfl) (by kernel_rfl) (by kernel_rfl) (by kernel_rfl) (by kernel_rfl) (by kernel_rfl) (by kernel_rfl) (by kernel_rfl) (by kernel_rfl) (by kernel_rfl) (by kernel_rfl) (by kernel_rfl) (by kernel_rfl)
theorem mk12 : Mks P04 (K04 p) mg 277 ["most"] :=
  mks_one (cfs12 p) base_OE rfl rfl rfl ⟨rfl, by decide +kernel, by decide +kernel, rfl, rfl, ⟨_, rfl, rfl⟩, by decide +kernel⟩ (fun L cd => ⟨rfl, _, rfl⟩) (by kernel_rfl)
    (fun a v h x kV doc pm an cdv ct => match h with | .pos _ => by kernel_rfl | .kw1 => by kernel_rfl)
theorem cfs13 : Cfs (K04 p) P04 299 296 284 295 "Missing.__init__" (defArgs (inClass (top 14) 0)) (defBody (inClass (top 14) 0)) (defScope (inClass (top 14) 0)) [.type "KeyError", .type "LookupError", .type "Exception", .type "BaseException", .type "object"] "KeyError" "LookupError.__new__" "KeyError.__init__" :=
  cfs_mkO (by kernel_rfl) (by kernel_rfl) (by kernel_rfl) (by kernel_rfl) (by kernel_rfl) (by kernel_rfl) (by kernel_rfl) (by kernel_rfl) (by kernel_rfl) (by kernel_rfl) (by kernel_rfl) (by kernel_rfl) (by kernel_rfl) (by kernel_rfl) (by kernel_rfl) (by kernel_rfl) (by kernel_rfl) (by kernel_rfl)
theorem mk13 : Mks P04 (K04 p) mg 299 ["name"] :=
  mks_one (cfs13 p) base_KE rfl rfl rfl ⟨rfl, by decide +kernel, by decide +kernel, rfl, rfl, ⟨_, rfl, rfl⟩, by decide +kernel⟩ (fun L cd => ⟨rfl, _, rfl⟩) (by kernel_rfl)
    (fun a v h x kV doc pm an cdv ct => match h with | .pos _ => by kernel_rfl | .kw1 => by kernel_rfl)
theorem cfs14 : Cfs (K04 p) P04 321 318 306 317 "NothingLeft.__init__" (defArgs (inClass (top 15) 0)) (defBody (inClass (top 15) 0)) (defScope (inClass (top 15) 0)) [.type "RuntimeError", .type "Exception", .type "BaseException", .type "object"] "RuntimeError" "RuntimeError.__new__" "RuntimeError.__init__" :=
  cfs_mkO (by kernel_rfl) (by kernel_rfl) (by kernel_rfl) (by kernel_rfl) (by kernel_rfl) (by kernel_rfl) (by kernel_rfl) (by kernel_rfl) (by kernel_rfl) (by kernel_rfl) (by kernel_rfl) (by kernel_rfl) (by kernel_rfl) (by kernel_rfl) (by kernel_rfl) (by kernel_rfl) (by kernel_rfl) (by kernel_rfl)
theorem rwT04 : Told.RwT (K04 p) ca04 where
  xc := fun i h1 h14 => by
    have c : i = 1 ∨ i = 2 ∨ i = 3 ∨ i = 4 ∨ i = 5 ∨ i = 6 ∨ i = 7 ∨ i = 8 ∨ i = 9 ∨ i = 10 ∨ i = 11 ∨ i = 12 ∨ i = 13 ∨ i = 14 := by omega
    rcases c with rfl | rfl | rfl | rfl | rfl | rfl | rfl | rfl | rfl | rfl | rfl | rfl | rfl | rfl
    · exact xcB_ok (show xcB (K04 p) 46 = true by kernel_rfl)
    · exact xcB_ok (show xcB (K04 p) 67 = true by kernel_rfl)
    · exact xcB_ok (show xcB (K04 p) 88 = true by kernel_rfl)
    · exact xcB_ok (show xcB (K04 p) 109 = true by kernel_rfl)
    · exact xcB_ok (show xcB (K04 p) 130 = true by kernel_rfl)
    · exact xcB_ok (show xcB (K04 p) 151 = true by kernel_rfl)
    · exact xcB_ok (show xcB (K04 p) 172 = true by kernel_rfl)
    · exact xcB_ok (show xcB (K04 p) 193 = true by kernel_rfl)
    · exact xcB_ok (show xcB (K04 p) 214 = true by kernel_rfl)
    · exact xcB_ok (show xcB (K04 p) 235 = true by kernel_rfl)
    · exact xcB_ok (show xcB (K04 p) 256 = true by kernel_rfl)
    · exact xcB_ok (show xcB (K04 p) 277 = true by kernel_rfl)
    · exact xcB_ok (show xcB (K04 p) 299 = true by kernel_rfl)
    · exact xcB_ok (show xcB (K04 p) 321 = true by kernel_rfl)
  kit := fun n i n1 n14 i1 i14 => by
    have h : ((List.range 14).all fun n => (List.range 14).all fun i => decide (PySem.W.kitOne (K04 p) (.ref (ca04 (n + 1))) (.ref (ca04 (i + 1))) = some (decide (i + 1 = n + 1)))) = true := by kernel_rfl
    have h1 := List.all_eq_true.mp h (n - 1) (List.mem_range.mpr (by omega))
    have h2 := of_decide_eq_true (List.all_eq_true.mp h1 (i - 1) (List.mem_range.mpr (by omega)))
    rw [show n - 1 + 1 = n by omega, show i - 1 + 1 = i by omega] at h2
    exact h2
  exm := fun n n1 n14 => by
    have h : ((List.range 14).all fun n => decide (PySem.W.exmAny (K04 p) (.ref (ca04 (n + 1))) [.ref (ca04 0), .ref (ca04 12), .ref (ca04 13), .ref (ca04 14)] = some true)) = true := by kernel_rfl
    have h2 := of_decide_eq_true (List.all_eq_true.mp h (n - 1) (List.mem_range.mpr (by omega)))
    rw [show n - 1 + 1 = n by omega] at h2
    exact h2
  no := fun i i1 i14 z10 z11 z14 => by
    have c : i = 1 ∨ i = 2 ∨ i = 3 ∨ i = 4 ∨ i = 5 ∨ i = 6 ∨ i = 7 ∨ i = 8 ∨ i = 9 ∨ i = 10 ∨ i = 11 ∨ i = 12 ∨ i = 13 ∨ i = 14 := by omega
    rcases c with rfl | rfl | rfl | rfl | rfl | rfl | rfl | rfl | rfl | rfl | rfl | rfl | rfl | rfl
    · exact (show PySem.W.findIn (K04 p) (.ref 46) "value" = some none by kernel_rfl)
    · exact (show PySem.W.findIn (K04 p) (.ref 67) "value" = some none by kernel_rfl)
    · exact (show PySem.W.findIn (K04 p) (.ref 88) "value" = some none by kernel_rfl)
    · exact (show PySem.W.findIn (K04 p) (.ref 109) "value" = some none by kernel_rfl)
    · exact (show PySem.W.findIn (K04 p) (.ref 130) "place" = some none by kernel_rfl)
    · exact (show PySem.W.findIn (K04 p) (.ref 151) "value" = some none by kernel_rfl)
    · exact (show PySem.W.findIn (K04 p) (.ref 172) "value" = some none by kernel_rfl)
    · exact (show PySem.W.findIn (K04 p) (.ref 193) "place" = some none by kernel_rfl)
    · exact (show PySem.W.findIn (K04 p) (.ref 214) "value" = some none by kernel_rfl)
    · exact absurd rfl z10
    · exact absurd rfl z11
    · exact (show PySem.W.findIn (K04 p) (.ref 277) "most" = some none by kernel_rfl)
    · exact (show PySem.W.findIn (K04 p) (.ref 299) "name" = some none by kernel_rfl)
    · exact absurd rfl z14
  line := (show PySem.W.findIn (K04 p) (.ref 235) "line" = some none by kernel_rfl)
  word := (show PySem.W.findIn (K04 p) (.ref 235) "word" = some none by kernel_rfl)
theorem kp_is_integer : PySem.W.keepIn (K04 p) (.ref 331) = true := by kernel_rfl
theorem fn_is_integer : Fun (K04 p) "is_integer" "is_integer" (top 20) 331 (fdX (K04 p) "is_integer" (top 20) 331) :=
  fun_mk (st := top 20) (show (K04 p).lookup 331 = some ⟨(oO (K04 p) 331).cls, (oO (K04 p) 331).dict, .func (fdX (K04 p) "is_integer" (top 20) 331), (oO (K04 p) 331).slots⟩ by kernel_rfl) (show PySem.W.codeIn (K04 p) (fO (K04 p) 331).code "is_integer" = true by kernel_rfl) (kp_is_integer p)
theorem bd_is_integer : Binds (K04 p) (fdX (K04 p) "is_integer" (top 20) 331) ["value"] [] := (fn_is_integer p).binds (ps := ["value"]) fun _ _ _ _ _ _ us hl => match us, hl with | [_], _ => rfl
theorem kp_is_figures : PySem.W.keepIn (K04 p) (.ref 336) = true := by kernel_rfl
theorem fn_is_figures : Fun (K04 p) "is_figures" "is_figures" (top 21) 336 (fdX (K04 p) "is_figures" (top 21) 336) :=
  fun_mk (st := top 21) (show (K04 p).lookup 336 = some ⟨(oO (K04 p) 336).cls, (oO (K04 p) 336).dict, .func (fdX (K04 p) "is_figures" (top 21) 336), (oO (K04 p) 336).slots⟩ by kernel_rfl) (show PySem.W.codeIn (K04 p) (fO (K04 p) 336).code "is_figures" = true by kernel_rfl) (kp_is_figures p)
theorem bd_is_figures : Binds (K04 p) (fdX (K04 p) "is_figures" (top 21) 336) ["base", "value", "most"] [] := (fn_is_figures p).binds (ps := ["base", "value", "most"]) fun _ _ _ _ _ _ us hl => match us, hl with | [_, _, _], _ => rfl
theorem kp_need_base : PySem.W.keepIn (K04 p) (.ref 343) = true := by kernel_rfl
theorem fn_need_base : Fun (K04 p) "need_base" "need_base" (top 22) 343 (fdX (K04 p) "need_base" (top 22) 343) :=
  fun_mk (st := top 22) (show (K04 p).lookup 343 = some ⟨(oO (K04 p) 343).cls, (oO (K04 p) 343).dict, .func (fdX (K04 p) "need_base" (top 22) 343), (oO (K04 p) 343).slots⟩ by kernel_rfl) (show PySem.W.codeIn (K04 p) (fO (K04 p) 343).code "need_base" = true by kernel_rfl) (kp_need_base p)
theorem bd_need_base : Binds (K04 p) (fdX (K04 p) "need_base" (top 22) 343) ["base"] [] := (fn_need_base p).binds (ps := ["base"]) fun _ _ _ _ _ _ us hl => match us, hl with | [_], _ => rfl
theorem kp_is_size : PySem.W.keepIn (K04 p) (.ref 350) = true := by kernel_rfl
theorem fn_is_size : Fun (K04 p) "is_size" "is_size" (top 28) 350 (fdX (K04 p) "is_size" (top 28) 350) :=
  fun_mk (st := top 28) (show (K04 p).lookup 350 = some ⟨(oO (K04 p) 350).cls, (oO (K04 p) 350).dict, .func (fdX (K04 p) "is_size" (top 28) 350), (oO (K04 p) 350).slots⟩ by kernel_rfl) (show PySem.W.codeIn (K04 p) (fO (K04 p) 350).code "is_size" = true by kernel_rfl) (kp_is_size p)
theorem bd_is_size : Binds (K04 p) (fdX (K04 p) "is_size" (top 28) 350) ["value", "least"] [] := (fn_is_size p).binds (ps := ["value", "least"]) fun _ _ _ _ _ _ us hl => match us, hl with | [_, _], _ => rfl
theorem kp_are_bounds : PySem.W.keepIn (K04 p) (.ref 357) = true := by kernel_rfl
theorem fn_are_bounds : Fun (K04 p) "are_bounds" "are_bounds" (top 29) 357 (fdX (K04 p) "are_bounds" (top 29) 357) :=
  fun_mk (st := top 29) (show (K04 p).lookup 357 = some ⟨(oO (K04 p) 357).cls, (oO (K04 p) 357).dict, .func (fdX (K04 p) "are_bounds" (top 29) 357), (oO (K04 p) 357).slots⟩ by kernel_rfl) (show PySem.W.codeIn (K04 p) (fO (K04 p) 357).code "are_bounds" = true by kernel_rfl) (kp_are_bounds p)
theorem bd_are_bounds : Binds (K04 p) (fdX (K04 p) "are_bounds" (top 29) 357) ["least", "most"] [] := (fn_are_bounds p).binds (ps := ["least", "most"]) fun _ _ _ _ _ _ us hl => match us, hl with | [_, _], _ => rfl
theorem kp_begins : PySem.W.keepIn (K04 p) (.ref 364) = true := by kernel_rfl
theorem fn_begins : Fun (K04 p) "begins" "begins" (top 30) 364 (fdX (K04 p) "begins" (top 30) 364) :=
  fun_mk (st := top 30) (show (K04 p).lookup 364 = some ⟨(oO (K04 p) 364).cls, (oO (K04 p) 364).dict, .func (fdX (K04 p) "begins" (top 30) 364), (oO (K04 p) 364).slots⟩ by kernel_rfl) (show PySem.W.codeIn (K04 p) (fO (K04 p) 364).code "begins" = true by kernel_rfl) (kp_begins p)
theorem bd_begins : Binds (K04 p) (fdX (K04 p) "begins" (top 30) 364) ["value", "word", "many"] [] := (fn_begins p).binds (ps := ["value", "word", "many"]) fun _ _ _ _ _ _ us hl => match us, hl with | [_, _, _], _ => rfl
theorem kp_is_condition : PySem.W.keepIn (K04 p) (.ref 371) = true := by kernel_rfl
theorem fn_is_condition : Fun (K04 p) "is_condition" "is_condition" (top 31) 371 (fdX (K04 p) "is_condition" (top 31) 371) :=
  fun_mk (st := top 31) (show (K04 p).lookup 371 = some ⟨(oO (K04 p) 371).cls, (oO (K04 p) 371).dict, .func (fdX (K04 p) "is_condition" (top 31) 371), (oO (K04 p) 371).slots⟩ by kernel_rfl) (show PySem.W.codeIn (K04 p) (fO (K04 p) 371).code "is_condition" = true by kernel_rfl) (kp_is_condition p)
theorem bd_is_condition : Binds (K04 p) (fdX (K04 p) "is_condition" (top 31) 371) ["base", "value"] [] := (fn_is_condition p).binds (ps := ["base", "value"]) fun _ _ _ _ _ _ us hl => match us, hl with | [_, _], _ => rfl
theorem kp_is_keep : PySem.W.keepIn (K04 p) (.ref 378) = true := by kernel_rfl
theorem fn_is_keep : Fun (K04 p) "is_keep" "is_keep" (top 32) 378 (fdX (K04 p) "is_keep" (top 32) 378) :=
  fun_mk (st := top 32) (show (K04 p).lookup 378 = some ⟨(oO (K04 p) 378).cls, (oO (K04 p) 378).dict, .func (fdX (K04 p) "is_keep" (top 32) 378), (oO (K04 p) 378).slots⟩ by kernel_rfl) (show PySem.W.codeIn (K04 p) (fO (K04 p) 378).code "is_keep" = true by kernel_rfl) (kp_is_keep p)
theorem bd_is_keep : Binds (K04 p) (fdX (K04 p) "is_keep" (top 32) 378) ["value"] [] := (fn_is_keep p).binds (ps := ["value"]) fun _ _ _ _ _ _ us hl => match us, hl with | [_], _ => rfl
theorem kp_is_rule : PySem.W.keepIn (K04 p) (.ref 383) = true := by kernel_rfl
theorem fn_is_rule : Fun (K04 p) "is_rule" "is_rule" (top 33) 383 (fdX (K04 p) "is_rule" (top 33) 383) :=
  fun_mk (st := top 33) (show (K04 p).lookup 383 = some ⟨(oO (K04 p) 383).cls, (oO (K04 p) 383).dict, .func (fdX (K04 p) "is_rule" (top 33) 383), (oO (K04 p) 383).slots⟩ by kernel_rfl) (show PySem.W.codeIn (K04 p) (fO (K04 p) 383).code "is_rule" = true by kernel_rfl) (kp_is_rule p)
theorem bd_is_rule : Binds (K04 p) (fdX (K04 p) "is_rule" (top 33) 383) ["base", "value"] [] := (fn_is_rule p).binds (ps := ["base", "value"]) fun _ _ _ _ _ _ us hl => match us, hl with | [_, _], _ => rfl
theorem kp_l_mixed : PySem.W.keepIn (K04 p) (.ref 390) = true := by kernel_rfl
theorem fn_l_mixed : Fun (K04 p) "_law_mixed" "_law_mixed" (top 35) 390 (fdX (K04 p) "_law_mixed" (top 35) 390) :=
  fun_mk (st := top 35) (show (K04 p).lookup 390 = some ⟨(oO (K04 p) 390).cls, (oO (K04 p) 390).dict, .func (fdX (K04 p) "_law_mixed" (top 35) 390), (oO (K04 p) 390).slots⟩ by kernel_rfl) (show PySem.W.codeIn (K04 p) (fO (K04 p) 390).code "_law_mixed" = true by kernel_rfl) (kp_l_mixed p)
theorem bd_l_mixed : Binds (K04 p) (fdX (K04 p) "_law_mixed" (top 35) 390) ["cell", "k"] [] := (fn_l_mixed p).binds (ps := ["cell", "k"]) fun _ _ _ _ _ _ us hl => match us, hl with | [_, _], _ => rfl
theorem kp_l_begin : PySem.W.keepIn (K04 p) (.ref 395) = true := by kernel_rfl
theorem fn_l_begin : Fun (K04 p) "_law_begin" "_law_begin" (top 36) 395 (fdX (K04 p) "_law_begin" (top 36) 395) :=
  fun_mk (st := top 36) (show (K04 p).lookup 395 = some ⟨(oO (K04 p) 395).cls, (oO (K04 p) 395).dict, .func (fdX (K04 p) "_law_begin" (top 36) 395), (oO (K04 p) 395).slots⟩ by kernel_rfl) (show PySem.W.codeIn (K04 p) (fO (K04 p) 395).code "_law_begin" = true by kernel_rfl) (kp_l_begin p)
theorem bd_l_begin : Binds (K04 p) (fdX (K04 p) "_law_begin" (top 36) 395) ["script"] [] := (fn_l_begin p).binds (ps := ["script"]) fun _ _ _ _ _ _ us hl => match us, hl with | [_], _ => rfl
theorem kp_l_draw : PySem.W.keepIn (K04 p) (.ref 402) = true := by kernel_rfl
theorem fn_l_draw : Fun (K04 p) "_law_draw" "_law_draw" (top 37) 402 (fdX (K04 p) "_law_draw" (top 37) 402) :=
  fun_mk (st := top 37) (show (K04 p).lookup 402 = some ⟨(oO (K04 p) 402).cls, (oO (K04 p) 402).dict, .func (fdX (K04 p) "_law_draw" (top 37) 402), (oO (K04 p) 402).slots⟩ by kernel_rfl) (show PySem.W.codeIn (K04 p) (fO (K04 p) 402).code "_law_draw" = true by kernel_rfl) (kp_l_draw p)
theorem bd_l_draw : Binds (K04 p) (fdX (K04 p) "_law_draw" (top 37) 402) ["state", "many"] [] := (fn_l_draw p).binds (ps := ["state", "many"]) fun _ _ _ _ _ _ us hl => match us, hl with | [_, _], _ => rfl
theorem kp_l_of : PySem.W.keepIn (K04 p) (.ref 409) = true := by kernel_rfl
theorem fn_l_of : Fun (K04 p) "_law_of" "_law_of" (top 38) 409 (fdX (K04 p) "_law_of" (top 38) 409) :=
  fun_mk (st := top 38) (show (K04 p).lookup 409 = some ⟨(oO (K04 p) 409).cls, (oO (K04 p) 409).dict, .func (fdX (K04 p) "_law_of" (top 38) 409), (oO (K04 p) 409).slots⟩ by kernel_rfl) (show PySem.W.codeIn (K04 p) (fO (K04 p) 409).code "_law_of" = true by kernel_rfl) (kp_l_of p)
theorem bd_l_of : Binds (K04 p) (fdX (K04 p) "_law_of" (top 38) 409) ["state", "some"] [] := (fn_l_of p).binds (ps := ["state", "some"]) fun _ _ _ _ _ _ us hl => match us, hl with | [_, _], _ => rfl
theorem kp_l_raised : PySem.W.keepIn (K04 p) (.ref 416) = true := by kernel_rfl
theorem fn_l_raised : Fun (K04 p) "_law_raised" "_law_raised" (top 39) 416 (fdX (K04 p) "_law_raised" (top 39) 416) :=
  fun_mk (st := top 39) (show (K04 p).lookup 416 = some ⟨(oO (K04 p) 416).cls, (oO (K04 p) 416).dict, .func (fdX (K04 p) "_law_raised" (top 39) 416), (oO (K04 p) 416).slots⟩ by kernel_rfl) (show PySem.W.codeIn (K04 p) (fO (K04 p) 416).code "_law_raised" = true by kernel_rfl) (kp_l_raised p)
theorem bd_l_raised : Binds (K04 p) (fdX (K04 p) "_law_raised" (top 39) 416) ["asked"] [] := (fn_l_raised p).binds (ps := ["asked"]) fun _ _ _ _ _ _ us hl => match us, hl with | [_], _ => rfl
theorem kp_l_condition : PySem.W.keepIn (K04 p) (.ref 423) = true := by kernel_rfl
theorem fn_l_condition : Fun (K04 p) "_law_condition" "_law_condition" (top 40) 423 (fdX (K04 p) "_law_condition" (top 40) 423) :=
  fun_mk (st := top 40) (show (K04 p).lookup 423 = some ⟨(oO (K04 p) 423).cls, (oO (K04 p) 423).dict, .func (fdX (K04 p) "_law_condition" (top 40) 423), (oO (K04 p) 423).slots⟩ by kernel_rfl) (show PySem.W.codeIn (K04 p) (fO (K04 p) 423).code "_law_condition" = true by kernel_rfl) (kp_l_condition p)
theorem bd_l_condition : Binds (K04 p) (fdX (K04 p) "_law_condition" (top 40) 423) ["state", "base", "most"] [] := (fn_l_condition p).binds (ps := ["state", "base", "most"]) fun _ _ _ _ _ _ us hl => match us, hl with | [_, _, _], _ => rfl
theorem kp_l_keep : PySem.W.keepIn (K04 p) (.ref 430) = true := by kernel_rfl
theorem fn_l_keep : Fun (K04 p) "_law_keep" "_law_keep" (top 41) 430 (fdX (K04 p) "_law_keep" (top 41) 430) :=
  fun_mk (st := top 41) (show (K04 p).lookup 430 = some ⟨(oO (K04 p) 430).cls, (oO (K04 p) 430).dict, .func (fdX (K04 p) "_law_keep" (top 41) 430), (oO (K04 p) 430).slots⟩ by kernel_rfl) (show PySem.W.codeIn (K04 p) (fO (K04 p) 430).code "_law_keep" = true by kernel_rfl) (kp_l_keep p)
theorem bd_l_keep : Binds (K04 p) (fdX (K04 p) "_law_keep" (top 41) 430) ["state", "most"] [] := (fn_l_keep p).binds (ps := ["state", "most"]) fun _ _ _ _ _ _ us hl => match us, hl with | [_, _], _ => rfl
theorem kp_l_rules : PySem.W.keepIn (K04 p) (.ref 435) = true := by kernel_rfl
theorem fn_l_rules : Fun (K04 p) "_law_rules" "_law_rules" (top 42) 435 (fdX (K04 p) "_law_rules" (top 42) 435) :=
  fun_mk (st := top 42) (show (K04 p).lookup 435 = some ⟨(oO (K04 p) 435).cls, (oO (K04 p) 435).dict, .func (fdX (K04 p) "_law_rules" (top 42) 435), (oO (K04 p) 435).slots⟩ by kernel_rfl) (show PySem.W.codeIn (K04 p) (fO (K04 p) 435).code "_law_rules" = true by kernel_rfl) (kp_l_rules p)
theorem bd_l_rules : Binds (K04 p) (fdX (K04 p) "_law_rules" (top 42) 435) ["state", "base", "most", "many"] [] := (fn_l_rules p).binds (ps := ["state", "base", "most", "many"]) fun _ _ _ _ _ _ us hl => match us, hl with | [_, _, _, _], _ => rfl
theorem kp_l_good : PySem.W.keepIn (K04 p) (.ref 442) = true := by kernel_rfl
theorem fn_l_good : Fun (K04 p) "_law_good" "_law_good" (top 43) 442 (fdX (K04 p) "_law_good" (top 43) 442) :=
  fun_mk (st := top 43) (show (K04 p).lookup 442 = some ⟨(oO (K04 p) 442).cls, (oO (K04 p) 442).dict, .func (fdX (K04 p) "_law_good" (top 43) 442), (oO (K04 p) 442).slots⟩ by kernel_rfl) (show PySem.W.codeIn (K04 p) (fO (K04 p) 442).code "_law_good" = true by kernel_rfl) (kp_l_good p)
theorem bd_l_good : Binds (K04 p) (fdX (K04 p) "_law_good" (top 43) 442) ["base"] [] := (fn_l_good p).binds (ps := ["base"]) fun _ _ _ _ _ _ us hl => match us, hl with | [_], _ => rfl
theorem kp_l_bad : PySem.W.keepIn (K04 p) (.ref 449) = true := by kernel_rfl
theorem fn_l_bad : Fun (K04 p) "_law_bad" "_law_bad" (top 44) 449 (fdX (K04 p) "_law_bad" (top 44) 449) :=
  fun_mk (st := top 44) (show (K04 p).lookup 449 = some ⟨(oO (K04 p) 449).cls, (oO (K04 p) 449).dict, .func (fdX (K04 p) "_law_bad" (top 44) 449), (oO (K04 p) 449).slots⟩ by kernel_rfl) (show PySem.W.codeIn (K04 p) (fO (K04 p) 449).code "_law_bad" = true by kernel_rfl) (kp_l_bad p)
theorem bd_l_bad : Binds (K04 p) (fdX (K04 p) "_law_bad" (top 44) 449) ["base"] [] := (fn_l_bad p).binds (ps := ["base"]) fun _ _ _ _ _ _ us hl => match us, hl with | [_], _ => rfl
theorem kp_l_keeps : PySem.W.keepIn (K04 p) (.ref 456) = true := by kernel_rfl
theorem fn_l_keeps : Fun (K04 p) "_law_keeps" "_law_keeps" (top 45) 456 (fdX (K04 p) "_law_keeps" (top 45) 456) :=
  fun_mk (st := top 45) (show (K04 p).lookup 456 = some ⟨(oO (K04 p) 456).cls, (oO (K04 p) 456).dict, .func (fdX (K04 p) "_law_keeps" (top 45) 456), (oO (K04 p) 456).slots⟩ by kernel_rfl) (show PySem.W.codeIn (K04 p) (fO (K04 p) 456).code "_law_keeps" = true by kernel_rfl) (kp_l_keeps p)
theorem bd_l_keeps : Binds (K04 p) (fdX (K04 p) "_law_keeps" (top 45) 456) [] [] := (fn_l_keeps p).binds (ps := []) fun _ _ _ _ _ _ us hl => match us, hl with | [], _ => rfl
theorem kp_law : PySem.W.keepIn (K04 p) (.ref 461) = true := by kernel_rfl
theorem fn_law : Fun (K04 p) "law" "law" (top 46) 461 (fdX (K04 p) "law" (top 46) 461) :=
  fun_mk (st := top 46) (show (K04 p).lookup 461 = some ⟨(oO (K04 p) 461).cls, (oO (K04 p) 461).dict, .func (fdX (K04 p) "law" (top 46) 461), (oO (K04 p) 461).slots⟩ by kernel_rfl) (show PySem.W.codeIn (K04 p) (fO (K04 p) 461).code "law" = true by kernel_rfl) (kp_law p)
theorem bd_law : Binds (K04 p) (fdX (K04 p) "law" (top 46) 461) ["script"] [] := (fn_law p).binds (ps := ["script"]) fun _ _ _ _ _ _ us hl => match us, hl with | [_], _ => rfl
end
end KH4

/-! k04: all its defs but the law. -/
namespace KH4
open PySem L2 Evl ExM Dg Dt
def tkO (v : Option (Option Value)) : Tok := match v with
  | some (some (.int _ t)) => t
  | some (some (.str _ t)) => t
  | _ => default
section
variable {w : World} {mg : Str → Option Value} {h base : Heap} (X : (K04 w.params).In h) (G : h.Ns mainGlobals mg)
include X G
theorem txR : TxR (K04 w.params) mg 331 343 336 350 357 364 371 378 where
  isi := PySem.W.mg_none_of X G (show PySem.W.nsIn (K04 w.params) mainGlobals "isinstance" = some none by kernel_rfl)
  int := PySem.W.mg_none_of X G (show PySem.W.nsIn (K04 w.params) mainGlobals "int" = some none by kernel_rfl)
  bool := PySem.W.mg_none_of X G (show PySem.W.nsIn (K04 w.params) mainGlobals "bool" = some none by kernel_rfl)
  str := PySem.W.mg_none_of X G (show PySem.W.nsIn (K04 w.params) mainGlobals "str" = some none by kernel_rfl)
  len := PySem.W.mg_none_of X G (show PySem.W.nsIn (K04 w.params) mainGlobals "len" = some none by kernel_rfl)
  sup := PySem.W.mg_none_of X G (show PySem.W.nsIn (K04 w.params) mainGlobals "super" = some none by kernel_rfl)
  fig := (by
    obtain ⟨t, e⟩ : ∃ t, PySem.W.nsIn (K04 w.params) mainGlobals "FIGURES" = some (some (.str "0123456789" t)) := ⟨tkO (PySem.W.nsIn (K04 w.params) mainGlobals "FIGURES"), by kernel_rfl⟩
    exact ⟨t, PySem.W.mg_of X G e⟩)
  least := (by
    obtain ⟨t, e⟩ : ∃ t, PySem.W.nsIn (K04 w.params) mainGlobals "LEAST_BASE" = some (some (.int 2 t)) := ⟨tkO (PySem.W.nsIn (K04 w.params) mainGlobals "LEAST_BASE"), by kernel_rfl⟩
    exact ⟨t, PySem.W.mg_of X G e⟩)
  most := (by
    obtain ⟨t, e⟩ : ∃ t, PySem.W.nsIn (K04 w.params) mainGlobals "MOST_BASE" = some (some (.int 10 t)) := ⟨tkO (PySem.W.nsIn (K04 w.params) mainGlobals "MOST_BASE"), by kernel_rfl⟩
    exact ⟨t, PySem.W.mg_of X G e⟩)
  isInt := PySem.W.mg_of X G (show PySem.W.nsIn (K04 w.params) mainGlobals "is_integer" = some (some (.ref 331)) by kernel_rfl)
  kInt := kp_is_integer _
  needB := PySem.W.mg_of X G (show PySem.W.nsIn (K04 w.params) mainGlobals "need_base" = some (some (.ref 343)) by kernel_rfl)
  kNB := kp_need_base _
  isFig := PySem.W.mg_of X G (show PySem.W.nsIn (K04 w.params) mainGlobals "is_figures" = some (some (.ref 336)) by kernel_rfl)
  kFig := kp_is_figures _
  size := PySem.W.mg_of X G (show PySem.W.nsIn (K04 w.params) mainGlobals "is_size" = some (some (.ref 350)) by kernel_rfl)
  kSz := kp_is_size _
  bounds := PySem.W.mg_of X G (show PySem.W.nsIn (K04 w.params) mainGlobals "are_bounds" = some (some (.ref 357)) by kernel_rfl)
  kBd := kp_are_bounds _
  begins := PySem.W.mg_of X G (show PySem.W.nsIn (K04 w.params) mainGlobals "begins" = some (some (.ref 364)) by kernel_rfl)
  kBg := kp_begins _
  cond := PySem.W.mg_of X G (show PySem.W.nsIn (K04 w.params) mainGlobals "is_condition" = some (some (.ref 371)) by kernel_rfl)
  kCd := kp_is_condition _
  keep := PySem.W.mg_of X G (show PySem.W.nsIn (K04 w.params) mainGlobals "is_keep" = some (some (.ref 378)) by kernel_rfl)
  kKp := kp_is_keep _
  tuple := PySem.W.mg_none_of X G (show PySem.W.nsIn (K04 w.params) mainGlobals "tuple" = some none by kernel_rfl)
  all := PySem.W.mg_none_of X G (show PySem.W.nsIn (K04 w.params) mainGlobals "all" = some none by kernel_rfl)
  msize := (by
    obtain ⟨t, e⟩ : ∃ t, PySem.W.nsIn (K04 w.params) mainGlobals "MOST_SIZE" = some (some (.int 6 t)) := ⟨tkO (PySem.W.nsIn (K04 w.params) mainGlobals "MOST_SIZE"), by kernel_rfl⟩
    exact ⟨t, PySem.W.mg_of X G e⟩)
  mconds := (by
    obtain ⟨t, e⟩ : ∃ t, PySem.W.nsIn (K04 w.params) mainGlobals "MOST_CONDITIONS" = some (some (.int 3 t)) := ⟨tkO (PySem.W.nsIn (K04 w.params) mainGlobals "MOST_CONDITIONS"), by kernel_rfl⟩
    exact ⟨t, PySem.W.mg_of X G e⟩)
  mend := (by
    obtain ⟨t, e⟩ : ∃ t, PySem.W.nsIn (K04 w.params) mainGlobals "MOST_ENDING" = some (some (.int 2 t)) := ⟨tkO (PySem.W.nsIn (K04 w.params) mainGlobals "MOST_ENDING"), by kernel_rfl⟩
    exact ⟨t, PySem.W.mg_of X G e⟩)
theorem mrules : ∃ t, mg "MOST_RULES" = some (.int 8 t) := (by
    obtain ⟨t, e⟩ : ∃ t, PySem.W.nsIn (K04 w.params) mainGlobals "MOST_RULES" = some (some (.int 8 t)) := ⟨tkO (PySem.W.nsIn (K04 w.params) mainGlobals "MOST_RULES"), by kernel_rfl⟩
    exact ⟨t, PySem.W.mg_of X G e⟩)
theorem txO : Dr.TxO (K04 w.params) mg 390 402 where
  int := PySem.W.mg_none_of X G (show PySem.W.nsIn (K04 w.params) mainGlobals "int" = some none by kernel_rfl)
  len := PySem.W.mg_none_of X G (show PySem.W.nsIn (K04 w.params) mainGlobals "len" = some none by kernel_rfl)
  list := PySem.W.mg_none_of X G (show PySem.W.nsIn (K04 w.params) mainGlobals "list" = some none by kernel_rfl)
  mixed := PySem.W.mg_of X G (show PySem.W.nsIn (K04 w.params) mainGlobals "_law_mixed" = some (some (.ref 390)) by kernel_rfl)
  kMixed := kp_l_mixed _
  draw := PySem.W.mg_of X G (show PySem.W.nsIn (K04 w.params) mainGlobals "_law_draw" = some (some (.ref 402)) by kernel_rfl)
  kDraw := kp_l_draw _
theorem txT : Told.TxT mg ca04 where
  own := fun i hi => by
    have c : i = 0 ∨ i = 1 ∨ i = 2 ∨ i = 3 ∨ i = 4 ∨ i = 5 ∨ i = 6 ∨ i = 7 ∨ i = 8 ∨ i = 9 ∨ i = 10 ∨ i = 11 ∨ i = 12 ∨ i = 13 ∨ i = 14 := by omega
    rcases c with rfl | rfl | rfl | rfl | rfl | rfl | rfl | rfl | rfl | rfl | rfl | rfl | rfl | rfl | rfl
    · exact PySem.W.mg_of X G (show PySem.W.nsIn (K04 w.params) mainGlobals "SpanError" = some (some (.ref 24)) by kernel_rfl)
    · exact PySem.W.mg_of X G (show PySem.W.nsIn (K04 w.params) mainGlobals "BadBase" = some (some (.ref 46)) by kernel_rfl)
    · exact PySem.W.mg_of X G (show PySem.W.nsIn (K04 w.params) mainGlobals "BadNumber" = some (some (.ref 67)) by kernel_rfl)
    · exact PySem.W.mg_of X G (show PySem.W.nsIn (K04 w.params) mainGlobals "BadDigits" = some (some (.ref 88)) by kernel_rfl)
    · exact PySem.W.mg_of X G (show PySem.W.nsIn (K04 w.params) mainGlobals "BadRange" = some (some (.ref 109)) by kernel_rfl)
    · exact PySem.W.mg_of X G (show PySem.W.nsIn (K04 w.params) mainGlobals "BadRule" = some (some (.ref 130)) by kernel_rfl)
    · exact PySem.W.mg_of X G (show PySem.W.nsIn (K04 w.params) mainGlobals "BadReader" = some (some (.ref 151)) by kernel_rfl)
    · exact PySem.W.mg_of X G (show PySem.W.nsIn (K04 w.params) mainGlobals "BadManner" = some (some (.ref 172)) by kernel_rfl)
    · exact PySem.W.mg_of X G (show PySem.W.nsIn (K04 w.params) mainGlobals "BadEntry" = some (some (.ref 193)) by kernel_rfl)
    · exact PySem.W.mg_of X G (show PySem.W.nsIn (K04 w.params) mainGlobals "BadName" = some (some (.ref 214)) by kernel_rfl)
    · exact PySem.W.mg_of X G (show PySem.W.nsIn (K04 w.params) mainGlobals "BadText" = some (some (.ref 235)) by kernel_rfl)
    · exact PySem.W.mg_of X G (show PySem.W.nsIn (K04 w.params) mainGlobals "OtherBase" = some (some (.ref 256)) by kernel_rfl)
    · exact PySem.W.mg_of X G (show PySem.W.nsIn (K04 w.params) mainGlobals "TooMany" = some (some (.ref 277)) by kernel_rfl)
    · exact PySem.W.mg_of X G (show PySem.W.nsIn (K04 w.params) mainGlobals "Missing" = some (some (.ref 299)) by kernel_rfl)
    · exact PySem.W.mg_of X G (show PySem.W.nsIn (K04 w.params) mainGlobals "NothingLeft" = some (some (.ref 321)) by kernel_rfl)
  isi := PySem.W.mg_none_of X G (show PySem.W.nsIn (K04 w.params) mainGlobals "isinstance" = some none by kernel_rfl)
  len := PySem.W.mg_none_of X G (show PySem.W.nsIn (K04 w.params) mainGlobals "len" = some none by kernel_rfl)
theorem f_isInt : FnOk P04 w (K04 w.params) mg base CX0 1 331 (fdX (K04 w.params) "is_integer" (top 20) 331) ["value"] (spIsInt (K04 w.params)) := ok_isInt (fn_is_integer _) (txR X G).toTxG
theorem f_isFig : FnOk P04 w (K04 w.params) mg base CX0 1 336 (fdX (K04 w.params) "is_figures" (top 21) 336) ["base", "value", "most"] (spIsFig (K04 w.params)) := ok_isFig (fn_is_figures _) (txR X G).toTxG (txR X G).all
theorem f_needB : FnOk P04 w (K04 w.params) mg base (L2.CX P04 w) 2 343 (fdX (K04 w.params) "need_base" (top 22) 343) ["base"] (spNeed (Bs (K04 w.params)) (ca04 1)) := ok_needB (ca := ca04) (fn_need_base _) (f_isInt X G) (bd_is_integer _) (txR X G).toTxI (mk1 _) (PySem.W.mg_of X G (show PySem.W.nsIn (K04 w.params) mainGlobals "BadBase" = some (some (.ref 46)) by kernel_rfl))
theorem f_size : FnOk P04 w (K04 w.params) mg base CX0 2 350 (fdX (K04 w.params) "is_size" (top 28) 350) ["value", "least"] spSize := ok_size (fn_is_size _) (f_isInt X G) (bd_is_integer _) (txR X G).toTxI (txR X G).msize
theorem f_bounds : FnOk P04 w (K04 w.params) mg base CX0 3 357 (fdX (K04 w.params) "are_bounds" (top 29) 357) ["least", "most"] spBounds := ok_bounds (fn_are_bounds _) (f_size X G) (bd_is_size _) (txR X G)
theorem f_begins : FnOk P04 w (K04 w.params) mg base CX0 1 364 (fdX (K04 w.params) "begins" (top 30) 364) ["value", "word", "many"] spBegins := ok_begins (fn_begins _) (txR X G)
theorem f_cond : FnOk P04 w (K04 w.params) mg base CX0 4 371 (fdX (K04 w.params) "is_condition" (top 31) 371) ["base", "value"] spCond := ok_cond (fn_is_condition _) ((f_isFig X G).mono (by decide)) (bd_is_figures _) ((f_size X G).mono (by decide)) (bd_is_size _) (f_bounds X G) (bd_are_bounds _) ((f_begins X G).mono (by decide)) (bd_begins _) (txR X G)
theorem f_keep : FnOk P04 w (K04 w.params) mg base CX0 3 378 (fdX (K04 w.params) "is_keep" (top 32) 378) ["value"] spKeep := ok_keep (fn_is_keep _) (f_size X G) (bd_is_size _) ((f_begins X G).mono (by decide)) (bd_begins _) (txR X G)
theorem f_rule : FnOk P04 w (K04 w.params) mg base (L2.CX P04 w) 5 383 (fdX (K04 w.params) "is_rule" (top 33) 383) ["base", "value"] (spRule (K04 w.params) ca04) := ok_rule (ca := ca04) (fn_is_rule _) ((f_needB X G).mono (by decide)) (bd_need_base _) (f_cond X G) (bd_is_condition _) ((f_keep X G).mono (by decide)) (bd_is_keep _) (txR X G)
theorem f_mixed : FnOk P04 w (K04 w.params) mg base CX0 1 390 (fdX (K04 w.params) "_law_mixed" (top 35) 390) ["cell", "k"] Dr.spMixed := Dr.ok_mixed (fn_l_mixed _) (txO X G).toTxB
theorem f_begin : FnOk P04 w (K04 w.params) mg base CX0 1 395 (fdX (K04 w.params) "_law_begin" (top 36) 395) ["script"] (Dr.spBegin (K04 w.params)) := Dr.ok_begin (fn_l_begin _) (txO X G).toTxB
theorem f_draw : FnOk P04 w (K04 w.params) mg base CX0 2 402 (fdX (K04 w.params) "_law_draw" (top 37) 402) ["state", "many"] Dr.spDraw := Dr.ok_draw (fn_l_draw _) (fn_l_mixed _) (bd_l_mixed _) (txO X G).toTxD
theorem f_of : FnOk P04 w (K04 w.params) mg base CX0 3 409 (fdX (K04 w.params) "_law_of" (top 38) 409) ["state", "some"] Dr.spOf := Dr.ok_of (fdm := fdX (K04 w.params) "_law_mixed" (top 35) 390) (fn_l_of _) (f_draw X G) (bd_l_draw _) (txO X G)
theorem f_lcond : FnOk P04 w (K04 w.params) mg base CX0 3 423 (fdX (K04 w.params) "_law_condition" (top 40) 423) ["state", "base", "most"] spLCond := ok_lcond (fn_l_condition _) (f_draw X G) (bd_l_draw _) (txO X G) (PySem.W.mg_none_of X G (show PySem.W.nsIn (K04 w.params) mainGlobals "range" = some none by kernel_rfl)) (PySem.W.mg_none_of X G (show PySem.W.nsIn (K04 w.params) mainGlobals "min" = some none by kernel_rfl))
theorem f_lkeep : FnOk P04 w (K04 w.params) mg base CX0 3 430 (fdX (K04 w.params) "_law_keep" (top 41) 430) ["state", "most"] spLKeep := ok_lkeep (fn_l_keep _) (f_draw X G) (bd_l_draw _) (txO X G)
theorem f_lrules : FnOk P04 w (K04 w.params) mg base CX0 4 435 (fdX (K04 w.params) "_law_rules" (top 42) 435) ["state", "base", "most", "many"] spLRules := ok_lrules (fn_l_rules _) ((f_draw X G).mono (by decide)) (bd_l_draw _) (txO X G) (f_lcond X G) (bd_l_condition _) (PySem.W.mg_of X G (show PySem.W.nsIn (K04 w.params) mainGlobals "_law_condition" = some (some (.ref 423)) by kernel_rfl)) (kp_l_condition _) (f_lkeep X G) (bd_l_keep _) (PySem.W.mg_of X G (show PySem.W.nsIn (K04 w.params) mainGlobals "_law_keep" = some (some (.ref 430)) by kernel_rfl)) (kp_l_keep _) (PySem.W.mg_none_of X G (show PySem.W.nsIn (K04 w.params) mainGlobals "range" = some none by kernel_rfl)) (PySem.W.mg_none_of X G (show PySem.W.nsIn (K04 w.params) mainGlobals "tuple" = some none by kernel_rfl))
theorem f_lgood : FnOk P04 w (K04 w.params) mg base CX0 1 442 (fdX (K04 w.params) "_law_good" (top 43) 442) ["base"] spLGood := ok_lgood (fn_l_good _)
theorem f_lbad : FnOk P04 w (K04 w.params) mg base CX0 1 449 (fdX (K04 w.params) "_law_bad" (top 44) 449) ["base"] spLBad := ok_lbad (fn_l_bad _)
theorem f_lkeeps : FnOk P04 w (K04 w.params) mg base CX0 1 456 (fdX (K04 w.params) "_law_keeps" (top 45) 456) [] spLKeeps := ok_lkeeps (fn_l_keeps _)
end
end KH4

/-! k04: the law's context, the things that it passes, what a refused call is read as. -/
namespace KH4
open PySem L2 Evl ExM Dg LamR LamX Told
open Dr (StAt)
abbrev sLaw : Stmt := top 46
abbrev nLaw : List Str := ["script", "state", "turn", "base", "rule", "good", "bad", "some", "odd", "keep", "one", "more", "rows", "rest", "no_base", "told", "thing"]
theorem scLaw : FnScope nLaw ["script"] (defScope sLaw) := ⟨rfl, rfl, rfl, by decide +kernel, rfl, by decide +kernel, by decide +kernel⟩
def inLaw (i : Nat) : Stmt := (defBody sLaw).getD i (.Pass ⟨0, 0, 0, 0⟩)
/-- a statement of the law's loop, by its place -/
def inLoop (i : Nat) : Stmt := match inLaw 1 with
  | .For _ _ b _ _ => b.getD i (.Pass ⟨0, 0, 0, 0⟩)
  | s => s
noncomputable abbrev XL (w : World) (mg : Str → Option Value) (base : Heap) (c : Addr) (A : Around) (outer : List Env) (s : Shared) (H : Hp) (E : XK) : Cx := (cxOf CX0 P04 w (K04 w.params) mg base nLaw "law" (defScope sLaw) 461 (.ref c) A outer s H E).nox
/-- a thing that the law passes -/
inductive Pv (H : Hp) : V → PyData → Prop
  | non : Pv H .non .none
  | bl (b : Bool) : Pv H (.bl b) (.bool b)
  | int (i : Int) : Pv H (.int i) (.int i)
  | str (x : Str) : Pv H (.str x) (.str x)
  | tup {a : Addr} {is : List Int} : H a = some (.tup (is.map V.int)) → Pv H (.ref a) (.tuple (is.map PyData.int))
  | lst {a : Addr} {is : List Int} : H a = some (.lst (is.map V.int)) → Pv H (.ref a) (.list (is.map PyData.int))
  | pair {a : Addr} {v u : V} {d e : PyData} : H a = some (.tup [v, u]) → Pv H v d → Pv H u e → Pv H (.ref a) (.tuple [d, e])
theorem Pv.extN {H H' : Hp} {v : V} {d : PyData} (h : Pv H v d) (e : ExtN H H') : Pv H' v d := by
  induction h with
  | non => exact .non
  | bl b => exact .bl b
  | int i => exact .int i
  | str x => exact .str x
  | tup h => exact .tup (e _ _ h (by simp))
  | lst h => exact .lst (e _ _ h (by simp))
  | pair h _ _ i1 i2 => exact .pair (e _ _ h (by simp)) i1 i2
theorem Pv.ex {H H' : Hp} {v : V} {d : PyData} (h : Pv H v d) (e : Ex H H') : Pv H' v d := h.extN (ExtN.of e)
section
variable {K : PySem.W.Frag} {H : Hp} {v : V} {d : PyData}
theorem dpAll_ints : ∀ is : List Int, DpAll K H (is.map V.int) (is.map PyData.int)
  | [] => .nil
  | i :: is => .cons (.int i) (dpAll_ints is)
theorem Pv.dp (h : Pv H v d) : Dp K H v d := by
  induction h with
  | non => exact .non
  | bl b => exact .bl b
  | int i => exact .int i
  | str x => exact .str x
  | tup h => exact .tup (st_of h) (dpAll_ints _)
  | lst h => exact .lst (sq_of h) (dpAll_ints _)
  | pair h _ _ i1 i2 => exact .tup (st_of h) (.cons i1 (.cons i2 .nil))
theorem Pv.dj (h : Pv H v d) : Dj K H v d := .di (.dp h.dp)
/-- no int -/
def isI : PyData → Bool
  | .int _ => true
  | _ => false
theorem Pv.kn (h : Pv H v d) (n : isI d = false) : Kn K H v false := by
  cases h with
  | non => exact .oth (x := false) (y := false) (.base .non) (by decide) (by decide) rfl
  | bl b => exact .oth (x := true) (y := true) (.base (.bl b)) (by decide) (by decide) rfl
  | int i => cases n
  | str x => exact .oth (x := false) (y := false) (.base (.str x)) (by decide) (by decide) rfl
  | tup h => exact .oth (x := false) (y := false) (.base (.tup h)) (by decide) (by decide) rfl
  | lst h => exact .oth (x := false) (y := false) (.base (.lst h)) (by decide) (by decide) rfl
  | pair h _ _ => exact .oth (x := false) (y := false) (.base (.tup h)) (by decide) (by decide) rfl
/-- no base -/
def noB : PyData → Bool
  | .int i => !(decide (2 ≤ i) && decide (i ≤ 10))
  | _ => true
/-- no number -/
def noN : PyData → Bool
  | .int i => !decide (1 ≤ i)
  | _ => true
theorem Pv.bs (h : Pv H v d) (n : noB d = true) : Bs K H v false := by
  cases hd : isI d with
  | false => exact .oth (h.kn hd)
  | true =>
    cases h with
    | int i =>
      have e : (decide (2 ≤ i) && decide (i ≤ 10)) = false := by
        cases z : (decide (2 ≤ i) && decide (i ≤ 10)) with
        | false => rfl
        | true =>
          rw [noB, z] at n
          cases n
      rw [← e]
      exact .int i
    | _ => cases hd
theorem Pv.nm (h : Pv H v d) : Nm K H v (!noN d) := by
  cases hd : isI d with
  | false =>
    have e : (!noN d) = false := by
      cases d <;> first | rfl | cases hd
    rw [e]
    exact .oth (h.kn hd)
  | true =>
    cases h with
    | int i =>
      have e : (!noN (.int i)) = decide (1 ≤ i) := by simp [noN]
      rw [e]
      exact .int i
    | _ => cases hd
end
/-- small data: shown in two thousand signs at most -/
structure Sq (d : PyData) : Prop where
  a : d.showable = true
  b : d.shown.length ≤ 3950
  c : d.depth ≤ 2
theorem sq_plain {d : PyData} (h : plainD d) (hc : cap d ≤ 3950) (c : d.depth ≤ 2) : Sq d := ⟨(shown_cap d h).1, Nat.le_trans (shown_cap d h).2 hc, c⟩
theorem Sq.pair {x : Str} {d : PyData} (hx : (PyData.str x).shown.length ≤ 30) (s : Sq d) : Sm (.tuple [.str x, d]) := by
  refine ⟨?_, ?_, ?_⟩
  · simp [PyData.showable, PyData.showableAll, s.a]
  · have h := join_cap [(PyData.str x).shown, d.shown]
    have e1 : (("(" : Str)).length = 1 := by decide
    have e2 : ((")" : Str)).length = 1 := by decide
    have hs := s.b
    have e3 : (PyData.tuple [.str x, d]).shown = ("(" : Str) ++ Str.join ", " [(PyData.str x).shown, d.shown] ++ (")" : Str) := by
      simp only [PyData.shown, PyData.shownAll, PySem.tupleText]
      rfl
    rw [e3, strLen_append, strLen_append]
    simp only [List.map_cons, List.map_nil, List.sum_cons, List.sum_nil] at h
    omega
  · have := s.c
    simp only [PyData.depth, PyData.depthAll]
    omega
/-- the drawer stands, and so do the tables -/
structure Lw (T : List (Addr × Str)) (p c l : Addr) (n : Nat) (a : Int) (H : Hp) : Prop where
  s : StAt H p c l n a
  t : Tabs T H
section
variable {T : List (Addr × Str)} {p c l : Addr} {n : Nat} {a b : Int} {H H' : Hp}
theorem stAt_extN (S : StAt H p c l n a) (e : ExtN H H') : StAt H' p c l n a :=
  ⟨e _ _ S.d (by simp), let ⟨cs, h, k⟩ := S.c; ⟨cs, e _ _ h (by simp), k⟩, let ⟨ls, h, k⟩ := S.l; ⟨ls, e _ _ h (by simp), k⟩, S.n0, S.n1, S.a0⟩
theorem Lw.ex (L : Lw T p c l n a H) (e : Ex H H') : Lw T p c l n a H' := ⟨L.s.ex e, L.t.ext e⟩
theorem Lw.extN (W : Lw T p c l n a H) (e : ExtN H H') (t : Tabs T H') : Lw T p c l n a H' := ⟨stAt_extN W.s e, t⟩
theorem tabs_same (S : StAt H p c l n a) (t : Tabs T H) (e : Dr.SameB H H' p l) : Tabs T H' := fun q hq => by
  obtain ⟨ls, hl, _⟩ := S.l
  obtain ⟨ps, h1, h2, h3⟩ := t q hq
  refine ⟨ps, e _ _ h1 (ne_of h1 S.d (by intro z; cases z)) (ne_of h1 hl (by intro z; cases z)), h2, fun pos cv hc => ?_⟩
  obtain ⟨co, e1, e2⟩ := h3 pos cv hc
  exact ⟨co, e1, e _ _ e2 (ne_of e2 S.d (by intro z; cases z)) (ne_of e2 hl (by intro z; cases z))⟩
theorem Lw.same (L : Lw T p c l n a H) (S : StAt H' p c l n b) (e : Dr.SameB H H' p l) : Lw T p c l n b H' := ⟨S, tabs_same L.s L.t e⟩
theorem Lw.off (L : Lw T p c l n a H) {x : Addr} (h : H x = none) : x ≠ p ∧ x ≠ l := by
  obtain ⟨ls, hl, _⟩ := L.s.l
  exact ⟨(ne_of_none L.s.d h).symm, (ne_of_none hl h).symm⟩
end
/-- what stands when one empty list goes on to be filled -/
def KeepsA (A : List V → Hp → Prop) : Prop := ∀ vs H H2 fl, A vs H → H fl = some (.lst []) → (∀ b o, H b = some o → b ≠ fl → H2 b = some o) → A vs H2
section
variable {K : PySem.W.Frag} {ca : Nat → Addr} {T : List (Addr × Str)} {t : XK → TE} {σ : St} {H : Hp} {Q : VK} {n : Nat} {A : List V → Hp → Prop}
/-- the lambda raises: the word and what the exception holds stand in a new tuple -/
theorem rd_raisedA (hT : Tabs T H) (kA : KeepsA A) (call : ∀ H1, ExtN H H1 → ∀ HZ, Ex H1 HZ → ∀ (E : XK) (Q' : VK), (∀ cls d H2 vs, Ex HZ H2 → Says ca H2 cls d n vs → A vs H2 → E cls d H2) → t E σ HZ Q')
    (k : ∀ vs rt H2, ExtN H H2 → Tabs T H2 → A vs H2 → H2 rt = some (.tup (.str (wdN n) :: vs)) → Q (.ref rt) H2) : tLam T (TTold ca) t σ H Q :=
  ⟨hT, fun H1 e1 T1 fl hfl => call H1 e1 _ (Ex.new hfl) _ _ fun cls d H2 vs e2 S a => ⟨e2, n, vs, S, fun rt H3 _ kp h3 => by
    have all : ∀ b o, H1 b = some o → H3 b = some o := fun b o e => kp b o (e2 b o ((Ex.new hfl) b o e)) (ne_of_none e hfl)
    exact k vs rt H3 (fun b o e nt => all b o (e1 b o e nt)) (T1.ext all) (kA vs H2 H3 fl a (e2 _ _ upd_same) kp) h3⟩⟩
theorem says_one {H : Hp} {d : Addr} {i : Nat} {v : V} (i1 : 1 ≤ i) (i14 : i ≤ 14) (z10 : i ≠ 10) (z11 : i ≠ 11) (z14 : i ≠ 14) (h : H d = some (.xd [(fdN i, v)])) : Says ca H (.ref (ca i)) (some d) i [v] :=
  ⟨rfl, i1, i14, .inr (.inr ⟨z10, z11, z14, d, v, rfl, h, rfl⟩)⟩
/-- the value itself -/
def Is1 (v : V) : List V → Hp → Prop := fun vs _ => vs = [v]
theorem is1_keeps (v : V) : KeepsA (Is1 v) := fun _ _ _ _ h _ _ => h
theorem leaves_of {HZ : Hp} {E : XK} {i : Nat} {v : V} (i1 : 1 ≤ i) (i14 : i ≤ 14) (z10 : i ≠ 10) (z11 : i ≠ 11) (z14 : i ≠ 14) (hf : fdN i = "value") (hE : ∀ cls d H2 vs, Ex HZ H2 → Says ca H2 cls d i vs → Is1 v vs H2 → E cls d H2) : Leaves (ca i) "value" v HZ E := fun H2 d e hd =>
  hE _ _ _ [v] (e.trans (Ex.new hd)) (says_one i1 i14 z10 z11 z14 (by rw [hf]; exact upd_same)) rfl
/-- a pair of that data -/
def IsP (D : PyData) : List V → Hp → Prop := fun vs H => ∃ t v u d e, D = .tuple [d, e] ∧ vs = [.ref t] ∧ H t = some (.tup [v, u]) ∧ Pv H v d ∧ Pv H u e
theorem Pv.fill {H H2 : Hp} {fl : Addr} {v : V} {d : PyData} (h : Pv H v d) (hd : d ≠ .list []) (hd2 : ∀ x y, d ≠ .tuple [x, y]) (hf : H fl = some (.lst [])) (kp : ∀ b o, H b = some o → b ≠ fl → H2 b = some o) : Pv H2 v d := by
  cases h with
  | non => exact .non
  | bl b => exact .bl b
  | int i => exact .int i
  | str x => exact .str x
  | tup h => exact .tup (kp _ _ h (fun z => by rw [z, hf] at h; cases h))
  | @lst a is h =>
    refine .lst (kp _ _ h (fun z => hd ?_))
    rw [z, hf] at h
    have : is.map V.int = [] := by
      injection h with h
      injection h with h
      exact h.symm
    rw [List.map_eq_nil_iff.mp this]
    rfl
  | pair h _ _ => exact absurd rfl (hd2 _ _)
theorem isP_keeps {d e : PyData} (h1 : d ≠ .list []) (h2 : ∀ x y, d ≠ .tuple [x, y]) (h3 : e ≠ .list []) (h4 : ∀ x y, e ≠ .tuple [x, y]) : KeepsA (IsP (.tuple [d, e])) := fun vs H H2 fl ⟨t, v, u, d', e', hD, hv, ht, pv, pu⟩ hf kp => by
  injection hD with hD
  injection hD with hD1 hD
  injection hD with hD2 _
  subst hD1 hD2
  exact ⟨t, v, u, _, _, rfl, hv, kp _ _ ht (fun z => by rw [z, hf] at ht; cases ht), pv.fill h1 h2 hf kp, pu.fill h3 h4 hf kp⟩
theorem IsP.pv {D : PyData} {vs : List V} {H : Hp} (h : IsP D vs H) : ∃ v, vs = [v] ∧ Pv H v D := by
  obtain ⟨t, v, u, d, e, rfl, rfl, ht, pv, pu⟩ := h
  exact ⟨_, rfl, .pair ht pv pu⟩
end
end KH4

namespace KH4
open PySem L2 Evl ExM Dg Dt LamR LamX Told TL
open Dr (StAt SameB)
structure TxL (mg : Str → Option Value) : Prop where
  of : mg "_law_of" = some (.ref 409)
  rules : mg "_law_rules" = some (.ref 435)
  good : mg "_law_good" = some (.ref 442)
  bad : mg "_law_bad" = some (.ref 449)
  keeps : mg "_law_keeps" = some (.ref 456)
  rule : mg "is_rule" = some (.ref 383)
  begin : mg "_law_begin" = some (.ref 395)
  raised : mg "_law_raised" = some (.ref 416)
  repr : mg "repr" = none
  range : mg "range" = none
  min : mg "min" = none
theorem lk04 (p : Params) : (K04 p).lookup 416 = some ⟨(oO (K04 p) 416).cls, (oO (K04 p) 416).dict, .func (fdX (K04 p) "_law_raised" (top 39) 416), (oO (K04 p) 416).slots⟩ := by kernel_rfl
theorem hcd04 (p : Params) : PySem.W.codeIn (K04 p) (fO (K04 p) 416).code "_law_raised" = true := by kernel_rfl
structure Rm (w : World) (mg : Str → Option Value) (base : Heap) (c : Addr) (A : Around) (outer : List Env) (s : Shared) (H : Hp) (E : XK) (P : Addr) (T : List (Addr × Str)) : Prop where
  hr : RoomG 9 (XL w mg base c A outer s H E).A
  hu64 : (XL w mg base c A outer s H E).A.units + 64 < cLine
  TB : TabB base mg c P
  hT : (P, ("law.<locals>.<lambda>" : Str)) ∈ T
  hu : ∀ p ∈ T, p.1 = P → p.2 = ("law.<locals>.<lambda>" : Str)
/-- what the turn has made -/
structure Fc (H : Hp) (β : Nat) (vr vg vb vs vo : V) (Dr : PyData) : Prop where
  r : Pt H vr Dr
  g : Pt H vg (.list kgD)
  b : Pt H vb (.list kbD)
  s : Pt H vs (.list (goodD β))
  o : Pt H vo (.list (badD β))
  b2 : 2 ≤ β
  b10 : β ≤ 10
  rk : ruleB β Dr = true
  rn : noL Dr = true
theorem okG {β : Nat} (b2 : 2 ≤ β) (b10 : β ≤ 10) : okD (.list (goodD β)) = true ∧ okD (.list (badD β)) = true := by
  have cc : β = 2 ∨ β = 3 ∨ β = 4 ∨ β = 5 ∨ β = 6 ∨ β = 7 ∨ β = 8 ∨ β = 9 ∨ β = 10 := by omega
  rcases cc with rfl | rfl | rfl | rfl | rfl | rfl | rfl | rfl | rfl <;> decide +kernel
theorem okK : okD (.list kgD) = true ∧ okD (.list kbD) = true := by decide +kernel
section
variable {H H' : Hp} {β : Nat} {vr vg vb vs vo : V} {Dr : PyData}
theorem Fc.extN (F : Fc H β vr vg vb vs vo Dr) (e : ExtN H H') : Fc H' β vr vg vb vs vo Dr := ⟨F.r.extN e, F.g.extN e, F.b.extN e, F.s.extN e, F.o.extN e, F.b2, F.b10, F.rk, F.rn⟩
theorem Fc.ex (F : Fc H β vr vg vb vs vo Dr) (e : Ex H H') : Fc H' β vr vg vb vs vo Dr := F.extN (ExtN.of e)
theorem Fc.same {p c l : Addr} {n : Nat} {a : Int} (S : StAt H p c l n a) (F : Fc H β vr vg vb vs vo Dr) (e : SameB H H' p l) : Fc H' β vr vg vb vs vo Dr :=
  ⟨F.r.same S e (noL_ok F.rn), F.g.same S e okK.1, F.b.same S e okK.2, F.s.same S e (okG F.b2 F.b10).1, F.o.same S e (okG F.b2 F.b10).2, F.b2, F.b10, F.rk, F.rn⟩
end
theorem bs_yes {K : PySem.W.Frag} {H : Hp} {β : Nat} (b2 : 2 ≤ β) (b10 : β ≤ 10) : Bs K H (.int β) true := by
  have e : (decide ((2 : Int) ≤ (β : Int)) && decide ((β : Int) ≤ 10)) = true := by
    rw [decide_eq_true (by omega), decide_eq_true (by omega)]
    rfl
  rw [← e]
  exact .int β
section
variable {K : PySem.W.Frag} {ca : Nat → Addr} {σ : St} {H : Hp} {t0 t1 : TE} {E : St → XK} {β : Nat} {D : PyData}
theorem ev_rule (b2 : 2 ≤ β) (b10 : β ≤ 10) (h0 : Ev t0 σ H (.int β)) (h1 : EvP t1 σ H D) : Ev (tCallS (spRule K ca) E (tCons t0 (tCons t1 tNil))) σ H (.bl (ruleB β D)) := fun H1 e Q q =>
  h0 H1 e _ fun H2 e2 => h1 H2 (e.trans e2) _ fun v H3 e3 k => ⟨.int β, v, D, true, rfl, bs_yes b2 b10, k, (fun z => nomatch z), fun _ => ⟨β, rfl, b2, b10, fun H4 e4 => q H4 ((e2.trans e3).trans e4)⟩⟩
theorem et_isnot {b c : Bool} {r : R2} (hr : ∀ (a b : Bool) (H : Hp) (Q : VK), Q (.bl (!decide (a = b))) H → r (.bl a) (.bl b) H Q) (h : Ev t0 σ H (.bl b)) : EvT (tTest (tOp r t0 (tC (.bl c)))) σ H (!decide (b = c)) :=
  et_test (ev_op h ev_c fun H1 e Q q => hr _ _ _ _ (q H1 (Ex.refl H1)))
theorem ep_tupOf {r : List V → Hp → VK → Prop} (hr : ∀ (p : Addr) (ys : List V) (H : Hp) (Q : VK), SqL K H p ys → (∀ l, H l = none → Q (.ref l) (upd H l (.tup ys))) → r [.ref p] H Q) {Ds : List PyData} (h : EvP t0 σ H (.list Ds)) : EvP (tCB r (tCons t0 tNil)) σ H (.tuple Ds) := fun H1 e Q q =>
  h H1 e _ fun v H2 e2 k => by
    cases k with
    | @lst a vs _ ha hv => exact hr a vs H2 _ (sq_of ha) fun l hl => q (.ref l) _ (e2.trans (Ex.new hl)) (.tup upd_same (hv.ex (Ex.new hl)))
theorem cut_take (xs : List V) (k : Nat) : cutV xs none (some (k : Int)) = xs.take k := by
  unfold cutV
  rw [HT.sIx_none, HT.sIx_nat, List.drop_zero, Nat.sub_zero]
  by_cases h : k ≤ xs.length
  · rw [Nat.min_eq_left h]
  · rw [Nat.min_eq_right (by omega), List.take_of_length_le (Nat.le_refl _), List.take_of_length_le (by omega)]
theorem ep_cut (k : Nat) {Ds : List PyData} (h : EvP t0 σ H (.list Ds)) : EvP (tSl (rSlL K) t0 tNoPart (tPart (tC (.int (k : Int))))) σ H (.list (Ds.take k)) := fun H1 e Q q =>
  h H1 e _ fun v H2 e2 kk => by
    cases kk with
    | @lst a vs _ ha hv => exact ⟨_, rfl, a, vs, rfl, sq_of ha, fun p hp => q (.ref p) _ (e2.trans (Ex.new hp)) (.lst (by rw [upd_same, cut_take]) ((hv.take k).ex (Ex.new hp)))⟩
end
section
variable {w : World} {mg : Str → Option Value} {h base : Heap} (X : (K04 w.params).In h) (G : h.Ns mainGlobals mg) {c : Addr} {A : Around} {outer : List Env} {s : Shared} {H0 : Hp} {E0 : XK} {P : Addr} {T : List (Addr × Str)} (R : Rm w mg base c A outer s H0 E0 P T) (L : TxL mg)
include X G R L
theorem row0 : ∃ t, PS (XL w mg base c A outer s H0 E0) (inLoop 0) t ∧ ∀ (D : Ends) (H : Hp) (sc p cc l : Addr) (n : Nat) (a : Int) (x2 x3 x4 x5 x6 x7 x8 x9 x10 x11 x12 x13 x14 x15 x16 : Option V), l ≠ cc → a + 2 < 2 ^ 39 → Lw T p cc l n a H →
    (∀ (β : Nat) (H' : Hp), 2 ≤ β → β ≤ 10 → Lw T p cc l n (a + 1) H' → D.nx [some (.ref sc), some (.ref p), x2, some (.int β), x4, x5, x6, x7, x8, x9, x10, x11, x12, x13, x14, x15, x16] H') → t D [some (.ref sc), some (.ref p), x2, x3, x4, x5, x6, x7, x8, x9, x10, x11, x12, x13, x14, x15, x16] H := by
  obtain ⟨hr, hu64, TB, hT, hu⟩ := R
  refine ⟨_, (ps_set (i := 3) scLaw.nd rfl (.inr rfl) (pe_op op_add pe_int (pe_call (f_draw X G) (hr.r.mono (by decide)) (by rfl) (txO X G).draw (kp_l_draw _) (bd_l_draw _) .nil pass0 (pa_cons (pv 1) (pa_cons pe_int pa_nil))))), fun D H sc p cc l n a x2 x3 x4 x5 x6 x7 x8 x9 x10 x11 x12 x13 x14 x15 x16 nlc ha W q => ?_⟩
  refine rd_draw (p := p) rfl ev_c W.s nlc (by omega) (by decide) (by decide) fun r H1 hr1 S1 sb1 => ⟨_, _, rfl, rfl, ?_⟩
  show D.nx (List.set _ 3 (some (V.int (2 + (r : Int))))) H1
  rw [show 2 + (r : Int) = ((2 + r : Nat) : Int) by omega]
  exact q (2 + r) H1 (by omega) (by omega) (W.same S1 sb1)
theorem row1 : ∃ t, PS (XL w mg base c A outer s H0 E0) (inLoop 1) t ∧ ∀ (D : Ends) (H : Hp) (sc p cc l : Addr) (n : Nat) (a : Int) (x2 x3 x4 x5 x6 x7 x8 x9 x10 x11 x12 x13 x14 x15 x16 : Option V) (β : Nat), l ≠ cc → a + 20000 < 2 ^ 39 → Lw T p cc l n a H → 2 ≤ β → β ≤ 10 → x3 = some (.int β) →
    (∀ (vr : V) (Dr : PyData) (H' : Hp) (b : Int), ruleB β Dr = true → noL Dr = true → Pt H' vr Dr → a ≤ b → b ≤ a + 1000 → Lw T p cc l n b H' → D.nx [some (.ref sc), some (.ref p), x2, x3, some (vr), x5, x6, x7, x8, x9, x10, x11, x12, x13, x14, x15, x16] H') → t D [some (.ref sc), some (.ref p), x2, x3, x4, x5, x6, x7, x8, x9, x10, x11, x12, x13, x14, x15, x16] H := by
  obtain ⟨hr, hu64, TB, hT, hu⟩ := R
  refine ⟨_, (ps_set (i := 4) scLaw.nd rfl (.inr rfl) (pe_ix ix_tup (pe_call (f_lrules X G) (hr.r.mono (by decide)) (by rfl) L.rules (kp_l_rules _) (bd_l_rules _) .nil pass0 (pa_cons (pv 1) (pa_cons (pv 3) (pa_cons pe_int (pa_cons pe_int pa_nil))))) pe_int (fun _ _ => rfl))), fun D H sc p cc l n a x2 x3 x4 x5 x6 x7 x8 x9 x10 x11 x12 x13 x14 x15 x16 β nlc ha W b2 b10 h3 q => ?_⟩
  subst h3
  refine ⟨_, rfl, _, rfl, p, cc, l, n, β, 6, 3, a, rfl, W.s, nlc, by omega, b2, b10, by decide, by decide, by decide, fun v Ds H1 b hR hl nl k ab ba S1 sb1 => ?_⟩
  obtain ⟨ar, us, rfl, hs, ka⟩ := k.tupI
  have hall := hR.all
  cases ka with
  | nil =>
    obtain ⟨Es, kk, hE, _⟩ := hR
    exact absurd hE (by simp)
  | @cons u0 d0 us ds k0 ks =>
    rw [List.all_cons, Bool.and_eq_true] at hall
    rw [noLs, Bool.and_eq_true] at nl
    exact ⟨ar, _, 0, u0, rfl, rfl, st_of hs, atI_nat (j := 0) rfl, q u0 d0 H1 b hall.1 nl.1 k0 ab ba (W.same S1 sb1)⟩
theorem row2 : ∃ t, PS (XL w mg base c A outer s H0 E0) (inLoop 2) t ∧ ∀ (D : Ends) (H : Hp) (sc p cc l : Addr) (n : Nat) (a : Int) (x2 x3 x4 x5 x6 x7 x8 x9 x10 x11 x12 x13 x14 x15 x16 : Option V), (∀ (vg vb : V) (H' : Hp), Ex H H' → Pt H' vg (.list kgD) → Pt H' vb (.list kbD) → D.nx [some (.ref sc), some (.ref p), x2, x3, x4, some (vg), some (vb), x7, x8, x9, x10, x11, x12, x13, x14, x15, x16] H') → t D [some (.ref sc), some (.ref p), x2, x3, x4, x5, x6, x7, x8, x9, x10, x11, x12, x13, x14, x15, x16] H := by
  obtain ⟨hr, hu64, TB, hT, hu⟩ := R
  refine ⟨_, (ps_asg (pe_call0 (f_lkeeps X G) (hr.r.mono (by decide)) (by rfl) L.keeps (kp_l_keeps _) (bd_l_keeps _) .nil pass0) (pg_tup (by rfl) (pgs_cons (pg_name (i := 5) scLaw.nd rfl (.inl rfl)) (pgs_cons (pg_name (i := 6) scLaw.nd rfl (.inl rfl)) pgs_nil)))), fun D H sc p cc l n a x2 x3 x4 x5 x6 x7 x8 x9 x10 x11 x12 x13 x14 x15 x16 q => ?_⟩
  exact ⟨rfl, fun tt vg vb H' e ht kg kb => ⟨tt, _, rfl, st_of ht, rfl, _, _, rfl, _, _, rfl, rfl, q vg vb H' e kg kb⟩⟩
theorem row3 : ∃ t, PS (XL w mg base c A outer s H0 E0) (inLoop 3) t ∧ ∀ (D : Ends) (H : Hp) (sc p cc l : Addr) (n : Nat) (a : Int) (x2 x3 x4 x5 x6 x7 x8 x9 x10 x11 x12 x13 x14 x15 x16 : Option V) (β : Nat), 2 ≤ β → β ≤ 10 → x3 = some (.int β) → (∀ (vs vo : V) (H' : Hp), Ex H H' → Pt H' vs (.list (goodD β)) → Pt H' vo (.list (badD β)) → D.nx [some (.ref sc), some (.ref p), x2, x3, x4, x5, x6, some (vs), some (vo), x9, x10, x11, x12, x13, x14, x15, x16] H') → t D [some (.ref sc), some (.ref p), x2, x3, x4, x5, x6, x7, x8, x9, x10, x11, x12, x13, x14, x15, x16] H := by
  obtain ⟨hr, hu64, TB, hT, hu⟩ := R
  refine ⟨_, (ps_par (i := 7) (j := 8) (by rfl) scLaw.nd rfl rfl (by decide) rfl rfl (pa_cons (pe_call (f_lgood X G) (hr.r.mono (by decide)) (by rfl) L.good (kp_l_good _) (bd_l_good _) .nil pass0 (pa_cons (pv 3) pa_nil)) (pa_cons (pe_call (f_lbad X G) (hr.r.mono (by decide)) (by rfl) L.bad (kp_l_bad _) (bd_l_bad _) .nil pass0 (pa_cons (pv 3) pa_nil)) pa_nil)) (by rfl)), fun D H sc p cc l n a x2 x3 x4 x5 x6 x7 x8 x9 x10 x11 x12 x13 x14 x15 x16 β b2 b10 h3 q => ?_⟩
  subst h3
  exact ⟨_, rfl, β, rfl, b2, b10, fun v1 H1 e1 k1 => ⟨_, rfl, β, rfl, b2, b10, fun v2 H2 e2 k2 => ⟨_, _, rfl, q v1 v2 H2 (e1.trans e2) (k1.ex e2) k2⟩⟩⟩
theorem row4 : ∃ t, PS (XL w mg base c A outer s H0 E0) (inLoop 4) t ∧ ∀ (D : Ends) (H : Hp) (sc p cc l : Addr) (n : Nat) (a : Int) (x2 x3 x4 x5 x6 x7 x8 x9 x10 x11 x12 x13 x14 x15 x16 : Option V) (β : Nat) (vr vg vb vs vo : V) (Dr : PyData), Fc H β vr vg vb vs vo Dr → (∀ (H' : Hp), Ex H H' → D.nx [some (.ref sc), some (.ref p), x2, some (.int β), some (vr), some (vg), some (vb), some (vs), some (vo), x9, x10, x11, x12, x13, x14, x15, x16] H') → t D [some (.ref sc), some (.ref p), x2, some (.int β), some (vr), some (vg), some (vb), some (vs), some (vo), x9, x10, x11, x12, x13, x14, x15, x16] H := by
  obtain ⟨hr, hu64, TB, hT, hu⟩ := R
  refine ⟨_, (ps_if (PW.pt (pw_or (pt_cmpR op_isnot_bl (pe_callS (f_rule X G) (hr.r.mono (by decide)) (by rfl) L.rule (kp_is_rule _) (bd_is_rule _) (fun σ => passAt L2.takes0 σ) (pa_cons (pv 3) (pa_cons (pv 4) pa_nil))) pe_bl (nomark _)) (pw_or1 (pt_cmpR op_isnot_bl (pe_callS (f_rule X G) (hr.r.mono (by decide)) (by rfl) L.rule (kp_is_rule _) (bd_is_rule _) (fun σ => passAt L2.takes0 σ) (pa_cons (pv 3) (pa_cons (pe_tup (pa_cons (pe_callTy call_tuple_of (by rfl) (txR X G).tuple (by decide +kernel) (pa_cons (pe_slice sl_list (pv 7) po_none (po_some pe_int)) pa_nil)) (pa_cons (pe_tup (pa_cons pe_str pa_nil)) pa_nil))) pa_nil))) pe_bl (nomark _))))) (pss_one (ps_ret pe_bl)) pss_nil), fun D H sc p cc l n a x2 x3 x4 x5 x6 x7 x8 x9 x10 x11 x12 x13 x14 x15 x16 β vr vg vb vs vo Dr F q => ?_⟩
  have hc : ruleB β (.tuple [.tuple ((goodD β).take 3), .tuple [.str "all"]]) = true := by
    have b2 := F.b2
    have b10 := F.b10
    have cc : β = 2 ∨ β = 3 ∨ β = 4 ∨ β = 5 ∨ β = 6 ∨ β = 7 ∨ β = 8 ∨ β = 9 ∨ β = 10 := by omega
    rcases cc with rfl | rfl | rfl | rfl | rfl | rfl | rfl | rfl | rfl <;> decide +kernel
  refine s_when (b := false) (et_is (et_or (et_isnot (b := true) (fun a b H Q q => ⟨a, b, rfl, rfl, q⟩) (ev_is (ev_rule F.b2 F.b10 (ev_var rfl) (ep_v (ev_var rfl) F.r)) (by rw [F.rk]))) fun _ =>
    et_isnot (b := true) (fun a b H Q q => ⟨a, b, rfl, rfl, q⟩) (ev_is (ev_rule F.b2 F.b10 (ev_var rfl) (ep_tup (epa_cons (ep_tupOf (K := K04 w.params) (fun p ys H Q hs hq => ⟨p, ys, rfl, .inl ⟨hs, hq⟩⟩) (ep_cut 3 (ep_v (ev_var rfl) F.s))) (epa_cons (ep_tup (epa_cons (ep_str (by decide)) epa_nil) (by simp)) epa_nil)) (by simp))) (by rw [hc]))) (by decide)) (fun z => nomatch z) fun _ H' e => q H' e
end
end KH4

namespace KH4
open PySem L2 Evl ExM Dg Dt LamR LamX Told TL
open Dr (StAt SameB)
theorem lstI {H : Hp} {v : V} {ds : List PyData} (h : Pt H v (.list ds)) : ∃ a vs, v = .ref a ∧ H a = some (.lst vs) ∧ PtAll H vs ds := by
  cases h with
  | lst hs ha => exact ⟨_, _, rfl, hs, ha⟩
theorem lst_off {H : Hp} {p c l x : Addr} {n : Nat} {a : Int} {vs : List V} {ds : List PyData} (S : StAt H p c l n a) (h : H x = some (.lst vs)) (ha : PtAll H vs ds) (k : okD (.list ds) = true) : x ≠ p ∧ x ≠ l := by
  refine ⟨ne_of h S.d (by intro z; cases z), fun z => ?_⟩
  obtain ⟨ls, hl, hn⟩ := S.l
  rw [okD, Bool.and_eq_true] at k
  rw [z, hl] at h
  have hv : vs = ls.map V.int := by
    injection h with h
    injection h with h
    exact h.symm
  rw [hv] at ha
  obtain ⟨q1, q2⟩ := PtAll.ints ha
  have n0 := S.n0
  have : ds.isEmpty = false := by
    cases ds with
    | nil =>
      rw [List.length_nil] at q2
      omega
    | cons _ _ => rfl
  rw [q1, this] at k
  exact absurd k.1 (by decide)
theorem mem_good {β : Nat} (b2 : 2 ≤ β) (b10 : β ≤ 10) {i : Nat} {d : PyData} (h : (goodD β)[i]? = some d) : condB β d = true := List.all_eq_true.mp (good_ok b2 b10).1 _ (List.mem_of_getElem? h)
theorem mem_bad {β : Nat} (b2 : 2 ≤ β) (b10 : β ≤ 10) {i : Nat} {d : PyData} (h : (badD β)[i]? = some d) : condB β d = false := by
  have := List.all_eq_true.mp (bad_ok b2 b10).1 _ (List.mem_of_getElem? h)
  simpa using this
theorem mem_kg {i : Nat} {d : PyData} (h : kgD[i]? = some d) : keepB d = true := List.all_eq_true.mp kg_ok.1 _ (List.mem_of_getElem? h)
theorem mem_kb {i : Nat} {d : PyData} (h : kbD[i]? = some d) : keepB d = false := by
  have := List.all_eq_true.mp kb_ok.1 _ (List.mem_of_getElem? h)
  simpa using this
theorem rule_inv {β : Nat} {d : PyData} (h : ruleB β d = true) : ∃ c k, d = .tuple [c, k] := by
  unfold ruleB at h
  rw [Bool.and_eq_true, Bool.and_eq_true] at h
  obtain ⟨h1, h2, _⟩ := h
  have h3 := of_decide_eq_true h2
  cases d with
  | tuple ds =>
    have h4 : ds.length = 2 := h3
    match ds, h4 with
    | [c, k], _ => exact ⟨c, k, rfl⟩
  | _ => cases h1
theorem rule_k {β : Nat} {c k : PyData} (h : keepB k = false) : ruleB β (.tuple [c, k]) = false := by
  show (isT c && (decide ((tupD c).length ≤ 3) && ((tupD c).all (condB β) && keepB k))) = false
  rw [h]
  simp
theorem noLs_mem : ∀ {ds : List PyData} {d : PyData}, noLs ds = true → d ∈ ds → noL d = true
  | [], _, _, h => by cases h
  | e :: ds, d, k, h => by
    rw [noLs, Bool.and_eq_true] at k
    rcases List.mem_cons.mp h with rfl | h
    · exact k.1
    · exact noLs_mem k.2 h
theorem okDs_mem : ∀ {ds : List PyData} {d : PyData}, okDs ds = true → d ∈ ds → okD d = true
  | [], _, _, h => by cases h
  | e :: ds, d, k, h => by
    rw [okDs, Bool.and_eq_true] at k
    rcases List.mem_cons.mp h with rfl | h
    · exact k.1
    · exact okDs_mem k.2 h
theorem given_no0 (n : Nat) (v : Nat → V) : given n (fun _ => false) v = [] := by simp [given]
/-- [1 for x in xs if ..] != [], where it is so of none -/
theorem et_none {K : PySem.W.Frag} {σ : St} {H : Hp} {a : Addr} {xs : List V} {tl te : TE} {t : TT} {j : Nat} {vs : List Nat} (h : Ev tl σ H (.ref a)) (hx : SqL K H a xs) (hz : xs.length ≤ 40000) (hw : ∀ x, wipe ((wipe σ vs).set j (some x)) vs = wipe σ vs)
    (ht : ∀ (i : Nat) (x : V) H1, Ex H H1 → xs[i]? = some x → EvT t ((wipe σ vs).set j (some x)) H1 false) : EvT (tTest (tOp (rNeD K) (tLc (iList K tl) (gName j) t te vs) (tLst tNil))) σ H false := by
  refine Toy.et_neB (bs := []) ?_ (el_lst ea_nil (by simp))
  have := el_lcL (te := te) (fun _ => false) (fun _ => V.non) h hx hz hw ht (fun _ _ _ _ _ z => nomatch z)
  rw [given_no0] at this
  exact this
section
variable {w : World} {mg : Str → Option Value} {h base : Heap} (X : (K04 w.params).In h) (G : h.Ns mainGlobals mg) {c : Addr} {A : Around} {outer : List Env} {s : Shared} {H0 : Hp} {E0 : XK} {P : Addr} {T : List (Addr × Str)} (R : Rm w mg base c A outer s H0 E0 P T) (L : TxL mg)
include X G R L
theorem row5 : ∃ t, PS (XL w mg base c A outer s H0 E0) (inLoop 5) t ∧ ∀ (D : Ends) (H : Hp) (sc p cc l : Addr) (n : Nat) (a : Int) (x2 x3 x4 x5 x6 x7 x8 x9 x10 x11 x12 x13 x14 x15 x16 : Option V) (β : Nat) (vr vg vb vs vo : V) (Dr : PyData), Fc H β vr vg vb vs vo Dr → (∀ (y9 y10 : Option V) (H' : Hp), Ex H H' → D.nx [some (.ref sc), some (.ref p), x2, some (.int β), some (vr), some (vg), some (vb), some (vs), some (vo), y9, y10, x11, x12, x13, x14, x15, x16] H') → t D [some (.ref sc), some (.ref p), x2, some (.int β), some (vr), some (vg), some (vb), some (vs), some (vo), x9, x10, x11, x12, x13, x14, x15, x16] H := by
  obtain ⟨hr, hu64, TB, hT, hu⟩ := R
  refine ⟨_, (ps_for PassesOwn.never rfl (pi_list (pv 5)) (pg_name (i := 9) scLaw.nd rfl (.inl rfl)) (pss_one (ps_for PassesOwn.never rfl (pi_list (pv 7)) (pg_name (i := 10) scLaw.nd rfl (.inl rfl)) (pss_one (ps_if (PW.pt (pw_or (pt_cmpR op_isnot_bl (pe_callS (f_rule X G) (hr.r.mono (by decide)) (by rfl) L.rule (kp_is_rule _) (bd_is_rule _) (fun σ => passAt L2.takes0 σ) (pa_cons (pv 3) (pa_cons (pe_tup (pa_cons (pe_tup (pa_cons (pv 10) pa_nil)) (pa_cons (pv 9) pa_nil))) pa_nil))) pe_bl (nomark _)) (pw_or1 (pt_cmpR op_isnot_bl (pe_callS (f_rule X G) (hr.r.mono (by decide)) (by rfl) L.rule (kp_is_rule _) (bd_is_rule _) (fun σ => passAt L2.takes0 σ) (pa_cons (pv 3) (pa_cons (pe_tup (pa_cons (pe_tup pa_nil) (pa_cons (pv 9) pa_nil))) pa_nil))) pe_bl (nomark _))))) (pss_one (ps_ret pe_bl)) pss_nil))))), fun D H sc p cc l n a x2 x3 x4 x5 x6 x7 x8 x9 x10 x11 x12 x13 x14 x15 x16 β vr vg vb vs vo Dr F q => ?_⟩
  obtain ⟨ag, gs, rfl, hg, kg⟩ := lstI F.g
  obtain ⟨as, ss, rfl, hs, ks⟩ := lstI F.s
  have b2 := F.b2
  have b10 := F.b10
  refine s_forL (xs := gs) (ev_var rfl) (sq_of hg) (fun i σ' H' => (∃ y9 y10, σ' = [some (.ref sc), some (.ref p), x2, some (.int β), some (vr), some (.ref ag), some (vb), some (.ref as), some (vo), y9, y10, x11, x12, x13, x14, x15, x16]) ∧ Ex H H') (fun H1 e => ⟨⟨_, _, rfl⟩, e⟩) (fun i σ' H' _ hI => sq_of (hI.2 _ _ hg)) (fun i x σ' H' hx hI => ?_) (fun σ' H' hI => ?_)
  · obtain ⟨⟨y9, y10, rfl⟩, e⟩ := hI
    obtain ⟨dk, hdk, kk⟩ := kg.get2 hx
    have hkb := mem_kg hdk
    refine s_forL (xs := ss) (ev_var rfl) (sq_of (e _ _ hs)) (fun j σ2 H2 => (∃ y10, σ2 = [some (.ref sc), some (.ref p), x2, some (.int β), some (vr), some (.ref ag), some (vb), some (.ref as), some (vo), some (x), y10, x11, x12, x13, x14, x15, x16]) ∧ Ex H H2) (fun H1 e1 => ⟨⟨_, rfl⟩, e.trans e1⟩) (fun j σ2 H2 _ hJ => sq_of (hJ.2 _ _ hs)) (fun j y σ2 H2 hy hJ => ?_) (fun σ2 H2 hJ => ?_)
    · obtain ⟨⟨y10', rfl⟩, e2⟩ := hJ
      obtain ⟨dc, hdc, kc⟩ := ks.get2 hy
      have hcb := mem_good b2 b10 hdc
      refine s_when (b := false) (et_is (et_or (et_isnot (b := true) (fun a b H Q q => ⟨a, b, rfl, rfl, q⟩) (ev_is (ev_rule b2 b10 (ev_var rfl) (ep_tup (epa_cons (ep_tup (epa_cons (ep_v (ev_var rfl) (kc.ex e2)) epa_nil) (by simp)) (epa_cons (ep_v (ev_var rfl) (kk.ex e2)) epa_nil)) (by simp))) (by
          rw [rule_mk, hkb]
          simp [hcb]))) fun _ =>
        et_isnot (b := true) (fun a b H Q q => ⟨a, b, rfl, rfl, q⟩) (ev_is (ev_rule b2 b10 (ev_var rfl) (ep_tup (epa_cons (ep_tup epa_nil (by simp)) (epa_cons (ep_v (ev_var rfl) (kk.ex e2)) epa_nil)) (by simp))) (by
          rw [rule_mk, hkb]
          rfl))) (by decide)) (fun z => nomatch z) fun _ H4 e4 => ⟨⟨_, rfl⟩, e2.trans e4⟩
    · obtain ⟨⟨y10', rfl⟩, e2⟩ := hJ
      exact ⟨⟨_, _, rfl⟩, e2⟩
  · obtain ⟨⟨y9, y10, rfl⟩, e⟩ := hI
    exact q _ _ H' e
theorem row7 : ∃ t, PS (XL w mg base c A outer s H0 E0) (inLoop 7) t ∧ ∀ (D : Ends) (H : Hp) (sc p cc l : Addr) (n : Nat) (a : Int) (x2 x3 x4 x5 x6 x7 x8 x9 x10 x11 x12 x13 x14 x15 x16 : Option V) (β : Nat) (vr vg vb vs vo : V) (Dr : PyData), Fc H β vr vg vb vs vo Dr → (∀ (y9 : Option V) (H' : Hp), Ex H H' → D.nx [some (.ref sc), some (.ref p), x2, some (.int β), some (vr), some (vg), some (vb), some (vs), some (vo), y9, x10, x11, x12, x13, x14, x15, x16] H') → t D [some (.ref sc), some (.ref p), x2, some (.int β), some (vr), some (vg), some (vb), some (vs), some (vo), x9, x10, x11, x12, x13, x14, x15, x16] H := by
  obtain ⟨hr, hu64, TB, hT, hu⟩ := R
  refine ⟨_, (ps_for PassesOwn.never rfl (pi_list (pv 6)) (pg_name (i := 9) scLaw.nd rfl (.inl rfl)) (pss_one (ps_if (PW.pt (pw_or (pt_cmpR op_isnot_bl (pe_callS (f_rule X G) (hr.r.mono (by decide)) (by rfl) L.rule (kp_is_rule _) (bd_is_rule _) (fun σ => passAt L2.takes0 σ) (pa_cons (pv 3) (pa_cons (pe_tup (pa_cons (pe_ix ix_tup (pv 4) pe_int (fun _ _ => rfl)) (pa_cons (pv 9) pa_nil))) pa_nil))) pe_bl (nomark _)) (pw_or1 (pt_cmpR op_isnot_bl (pe_callS (f_rule X G) (hr.r.mono (by decide)) (by rfl) L.rule (kp_is_rule _) (bd_is_rule _) (fun σ => passAt L2.takes0 σ) (pa_cons (pv 3) (pa_cons (pe_tup (pa_cons (pe_tup pa_nil) (pa_cons (pv 9) pa_nil))) pa_nil))) pe_bl (nomark _))))) (pss_one (ps_ret pe_bl)) pss_nil))), fun D H sc p cc l n a x2 x3 x4 x5 x6 x7 x8 x9 x10 x11 x12 x13 x14 x15 x16 β vr vg vb vs vo Dr F q => ?_⟩
  obtain ⟨ab, bs, rfl, hb, kb⟩ := lstI F.b
  obtain ⟨dc, dk0, rfl⟩ := rule_inv F.rk
  obtain ⟨ar, us, rfl, hr0, kr⟩ := F.r.tupI
  obtain ⟨u0, hu0, ku0⟩ := kr.get (i := 0) rfl
  have b2 := F.b2
  have b10 := F.b10
  refine s_forL (xs := bs) (ev_var rfl) (sq_of hb) (fun i σ' H' => (∃ y9, σ' = [some (.ref sc), some (.ref p), x2, some (.int β), some (.ref ar), some (vg), some (.ref ab), some (vs), some (vo), y9, x10, x11, x12, x13, x14, x15, x16]) ∧ Ex H H') (fun H1 e => ⟨⟨_, rfl⟩, e⟩) (fun i σ' H' _ hI => sq_of (hI.2 _ _ hb)) (fun i x σ' H' hx hI => ?_) (fun σ' H' hI => ?_)
  · obtain ⟨⟨y9, rfl⟩, e⟩ := hI
    obtain ⟨dk, hdk, kk⟩ := kb.get2 hx
    have hkb := mem_kb hdk
    refine s_when (b := false) (et_is (et_or (et_isnot (b := false) (fun a b H Q q => ⟨a, b, rfl, rfl, q⟩) (ev_is (ev_rule b2 b10 (ev_var rfl) (ep_tup (epa_cons (ep_v (ev_at (i := 0) (ev_var rfl) (e _ _ hr0) hu0) (ku0.ex e)) (epa_cons (ep_v (ev_var rfl) (kk.ex e)) epa_nil)) (by simp))) (by
        rw [rule_k hkb]))) fun _ =>
      et_isnot (b := false) (fun a b H Q q => ⟨a, b, rfl, rfl, q⟩) (ev_is (ev_rule b2 b10 (ev_var rfl) (ep_tup (epa_cons (ep_tup epa_nil (by simp)) (epa_cons (ep_v (ev_var rfl) (kk.ex e)) epa_nil)) (by simp))) (by
        rw [rule_k hkb]))) (by decide)) (fun z => nomatch z) fun _ H4 e4 => ⟨⟨_, rfl⟩, e.trans e4⟩
  · obtain ⟨⟨y9, rfl⟩, e⟩ := hI
    exact q _ H' e
theorem row6 : ∃ t, PS (XL w mg base c A outer s H0 E0) (inLoop 6) t ∧ ∀ (D : Ends) (H : Hp) (sc p cc l : Addr) (n : Nat) (a : Int) (x2 x3 x4 x5 x6 x7 x8 x9 x10 x11 x12 x13 x14 x15 x16 : Option V) (β : Nat) (vr vg vb vs vo : V) (Dr : PyData), l ≠ cc → a + 20000 < 2 ^ 39 → Lw T p cc l n a H → Fc H β vr vg vb vs vo Dr →
    (∀ (y10 y11 y12 : Option V) (a' : Int) (H' : Hp), a ≤ a' → a' ≤ a + 100 → Lw T p cc l n a' H' → Fc H' β vr vg vb vs vo Dr → D.nx [some (.ref sc), some (.ref p), x2, some (.int β), some (vr), some (vg), some (vb), some (vs), some (vo), x9, y10, y11, y12, x13, x14, x15, x16] H') → t D [some (.ref sc), some (.ref p), x2, some (.int β), some (vr), some (vg), some (vb), some (vs), some (vo), x9, x10, x11, x12, x13, x14, x15, x16] H := by
  obtain ⟨hr, hu64, TB, hT, hu⟩ := R
  refine ⟨_, (ps_for PassesOwn.never rfl (pi_list (pv 8)) (pg_name (i := 10) scLaw.nd rfl (.inl rfl)) (pss_cons (ps_set (i := 11) scLaw.nd rfl (.inl rfl) (pe_call (f_of X G) (hr.r.mono (by decide)) (by rfl) L.of (kp_l_of _) (bd_l_of _) .nil pass0 (pa_cons (pv 1) (pa_cons (pv 7) pa_nil)))) (pss_cons (ps_set (i := 12) scLaw.nd rfl (.inl rfl) (pe_lst (pa_cons (pe_tup (pa_cons (pe_tup (pa_cons (pv 10) pa_nil)) (pa_cons (pe_tup (pa_cons pe_str pa_nil)) pa_nil))) (pa_cons (pe_tup (pa_cons (pe_tup (pa_cons (pv 11) (pa_cons (pv 10) pa_nil))) (pa_cons (pe_tup (pa_cons pe_str pa_nil)) pa_nil))) (pa_cons (pe_tup (pa_cons (pe_tup (pa_cons (pv 10) (pa_cons (pv 11) (pa_cons (pv 11) pa_nil)))) (pa_cons (pe_tup (pa_cons pe_str (pa_cons pe_int pa_nil))) pa_nil))) pa_nil))))) (pss_one (ps_if (pt_cmpR (op_neD (show _ + 64 < cLine from hu64)) (pe_lc (own := [("thing", 16)]) (g := gName 16) rfl scLaw.nd (pi_list (pv 12)) (blkOk_by (own := [("thing", 16)]) (N := nLaw) (sc := defScope sLaw) (by decide +kernel)) (fun _ _ _ _ _ => pg_name (i := 16) scLaw.nd rfl (Or.inl rfl)) (fun _ _ _ _ _ => pts_one (pt_cmpR op_isnot_bl (pe_callS (f_rule X G) (hr.r.mono (by decide)) (by rfl) L.rule (kp_is_rule _) (bd_is_rule _) (fun σ => passAt L2.takes0 σ) (pa_cons (pv 3) (pa_cons (pv 16) pa_nil))) pe_bl (nomark _))) (fun _ _ _ _ _ => pe_int)) (pe_lst pa_nil) (nomark _)) (pss_one (ps_ret pe_bl)) pss_nil))))), fun D H sc p cc l n a x2 x3 x4 x5 x6 x7 x8 x9 x10 x11 x12 x13 x14 x15 x16 β vr vg vb vs vo Dr nlc ha W F q => ?_⟩
  obtain ⟨ao, os, rfl, ho, ko⟩ := lstI F.o
  obtain ⟨as, ss, rfl, hs, ks⟩ := lstI F.s
  have b2 := F.b2
  have b10 := F.b10
  have oo := lst_off W.s ho ko (okG b2 b10).2
  have os_ := lst_off W.s hs ks (okG b2 b10).1
  have hlo := ko.length
  have hls := ks.length
  rw [(bad_ok b2 b10).2.2] at hlo
  rw [(good_ok b2 b10).2.2] at hls
  refine s_forL (xs := os) (ev_var rfl) (sq_of ho) (fun i σ' H' => (∃ y10 y11 y12, σ' = [some (.ref sc), some (.ref p), x2, some (.int β), some (vr), some (vg), some (vb), some (.ref as), some (.ref ao), x9, y10, y11, y12, x13, x14, x15, x16]) ∧ Lw T p cc l n (a + i) H' ∧ Fc H' β vr vg vb (.ref as) (.ref ao) Dr ∧ H' ao = some (.lst os) ∧ H' as = some (.lst ss) ∧ PtAll H' os (badD β) ∧ PtAll H' ss (goodD β))
    (fun H1 e => ⟨⟨_, _, _, rfl⟩, (by rw [show a + ((0 : Nat) : Int) = a by omega]; exact W.ex e), F.ex e, e _ _ ho, e _ _ hs, ko.ex e, ks.ex e⟩) (fun i σ' H' _ hI => sq_of hI.2.2.2.1) (fun i x σ' H1 hx hI => ?_) (fun σ' H1 hI => ?_)
  · obtain ⟨⟨y10, y11, y12, rfl⟩, W1, F1, ho1, hs1, ko1, ks1⟩ := hI
    have hi : i < os.length := (List.getElem?_eq_some_iff.mp hx).1
    obtain ⟨od, hod, kod⟩ := ko1.get2 hx
    have hcb := mem_bad b2 b10 hod
    refine ⟨_, rfl, _, rfl, p, cc, l, as, n, a + i, ss, rfl, W1.s, nlc, by omega, hs1, os_.1, os_.2, by omega, by omega, fun r m H2 hm S2 sb2 nn2 => ?_⟩
    have W2 := W1.same S2 sb2
    have F2 := F1.same W1.s sb2
    obtain ⟨md, hmd, kmd⟩ := ks1.get2 hm
    have hgb := mem_good b2 b10 hmd
    have okm : okD md = true := noL_ok (by
      have h1 := (good_ok b2 b10).2.1
      exact noLs_mem h1 (List.mem_of_getElem? hmd))
    have oko : okD od = true := by
      have h1 := (okG b2 b10).2
      rw [okD, Bool.and_eq_true] at h1
      exact okDs_mem h1.2 (List.mem_of_getElem? hod)
    have ko := kod.same W1.s sb2 oko
    have km := kmd.same W1.s sb2 okm
    refine q_asgP (D := .list [(.tuple [(.tuple [od]), (.tuple [(.str "all")])]), (.tuple [(.tuple [md, od]), (.tuple [(.str "all")])]), (.tuple [(.tuple [od, md, md]), (.tuple [(.str "last"), (.int 1)])])]) (ep_lst (epa_cons (ep_tup (epa_cons (ep_tup (epa_cons (ep_v (ev_var rfl) ko) epa_nil) (by first | decide | simp)) (epa_cons (ep_tup (epa_cons (ep_str (by decide)) epa_nil) (by first | decide | simp)) epa_nil)) (by first | decide | simp)) (epa_cons (ep_tup (epa_cons (ep_tup (epa_cons (ep_v (ev_var rfl) km) (epa_cons (ep_v (ev_var rfl) ko) epa_nil)) (by first | decide | simp)) (epa_cons (ep_tup (epa_cons (ep_str (by decide)) epa_nil) (by first | decide | simp)) epa_nil)) (by first | decide | simp)) (epa_cons (ep_tup (epa_cons (ep_tup (epa_cons (ep_v (ev_var rfl) ko) (epa_cons (ep_v (ev_var rfl) km) (epa_cons (ep_v (ev_var rfl) km) epa_nil))) (by first | decide | simp)) (epa_cons (ep_tup (epa_cons (ep_str (by decide)) (epa_cons ep_int epa_nil)) (by first | decide | simp)) epa_nil)) (by first | decide | simp)) epa_nil))) (by first | decide | simp)) fun v3 H3 e3 k3 => ?_
    obtain ⟨a3, us3, rfl, h3, ka3⟩ := lstI k3
    have hrs : ∀ (i : Nat) (dd : PyData), ([(.tuple [(.tuple [od]), (.tuple [(.str "all")])]), (.tuple [(.tuple [md, od]), (.tuple [(.str "all")])]), (.tuple [(.tuple [od, md, md]), (.tuple [(.str "last"), (.int 1)])])] : List PyData)[i]? = some dd → ruleB β dd = false := fun i dd hdd => by
      have hi : i < 3 := (List.getElem?_eq_some_iff.mp hdd).1
      have cc : i = 0 ∨ i = 1 ∨ i = 2 := by omega
      rcases cc with rfl | rfl | rfl <;> cases hdd <;> rw [rule_mk] <;> simp [hcb]
    refine s_when (b := false) (et_none (ev_var rfl) (sq_of h3) (by rw [ka3.length]; simp) (fun _ => rfl) (fun k y H4 e4 hy => ?_)) (fun z => nomatch z) fun _ H4 e4 => ⟨⟨_, _, _, rfl⟩, ?_, (F2.ex e3).ex e4, e4 _ _ (e3 _ _ (sb2 _ _ ho1 oo.1 oo.2)), e4 _ _ (e3 _ _ (sb2 _ _ hs1 os_.1 os_.2)), ((ko1.same W1.s sb2 ?_).ex e3).ex e4, ((ks1.same W1.s sb2 ?_).ex e3).ex e4⟩
    · obtain ⟨dd, hdd, kdd⟩ := ka3.get2 hy
      exact et_is (et_isnot (b := false) (fun a b H Q q => ⟨a, b, rfl, rfl, q⟩) (ev_is (ev_rule b2 b10 (ev_var rfl) (ep_v (ev_var rfl) (kdd.ex e4))) (by rw [hrs k dd hdd]))) (by decide)
    · rw [show a + ((i + 1 : Nat) : Int) = a + (i : Int) + 1 by omega]
      exact (W2.ex e3).ex e4
    · have h1 := (okG b2 b10).2
      rw [okD, Bool.and_eq_true] at h1
      exact h1.2
    · exact noLs_ok (good_ok b2 b10).2.1
  · obtain ⟨⟨y10, y11, y12, rfl⟩, W1, F1, _⟩ := hI
    exact q _ _ _ _ H1 (by omega) (by omega) W1 F1
end
end KH4

namespace KH4
open PySem L2 Evl ExM Dg Dt LamR LamX Told TL
open Dr (StAt SameB)
theorem ep_dic {σ : St} {H : Hp} : EvP tDNewK σ H (.dict []) := fun H1 _ _ q => fun d hd => q (.ref d) _ (Ex.new hd) (.nil upd_same)
def restA : List PyData := [.none, (.int 5), (.tuple []), (.tuple [(.tuple [])]), (.tuple [(.tuple []), (.tuple [(.str "all")]), (.int 1)]), (.list [(.tuple []), (.tuple [(.str "all")])]), (.tuple [(.list []), (.tuple [(.str "all")])]), (.tuple [.none, (.tuple [(.str "all")])]), (.str "all"), (.dict [])]
def restB (β : Nat) : List PyData := [(.bool true), (.tuple [.tuple ((goodD β).take 4), .tuple [(.str "all")]]), (.tuple [(.tuple [(.tuple [(.str "near"), (.int 1)]), .none]), (.tuple [(.str "all")])]), (.tuple [(.tuple [(.str "near"), (.int 1)]), (.tuple [(.str "all")])])]
theorem rest_ok {β : Nat} (b2 : 2 ≤ β) (b10 : β ≤ 10) : ((restA ++ restB β).all fun d => !ruleB β d) = true := by
  have cc : β = 2 ∨ β = 3 ∨ β = 4 ∨ β = 5 ∨ β = 6 ∨ β = 7 ∨ β = 8 ∨ β = 9 ∨ β = 10 := by omega
  rcases cc with rfl | rfl | rfl | rfl | rfl | rfl | rfl | rfl | rfl <;> decide +kernel
theorem sm_sz {d : PyData} (s : Sm d) : d.showable = true ∧ d.shown.length ≤ sizeLine ∧ d.depth ≤ 60 := ⟨s.a, Nat.le_trans s.b (by rw [sizeLine_eq]; decide), Nat.le_trans s.c (by decide)⟩
theorem wd_len {n : Nat} (h1 : 1 ≤ n) (h3 : n ≤ 4) : (PyData.str (wdN n)).shown.length ≤ 30 := by
  have cc : n = 1 ∨ n = 2 ∨ n = 3 ∨ n = 4 := by omega
  rcases cc with rfl | rfl | rfl | rfl <;> decide +kernel
theorem pl_i {i : Int} (h : i.natAbs < 2 ^ 64) : plainD (.int i) := by
  show i.natAbs.log2 < 1920
  by_cases hz : i.natAbs = 0
  · rw [hz]; decide
  · exact Nat.lt_of_lt_of_le ((Nat.log2_lt hz).mpr h) (by decide)
theorem pl_str {x : Str} (h : ∀ c ∈ x.cps.toList, c < 16 ^ 8) : plainD (.str x) := h
abbrev xsBad (t1 : Addr) : List V := [.non, .int 1, .int 11, .bl true, .str "10", .ref t1]
theorem bad_val {H : Hp} {t1 p l : Addr} (h1 : H t1 = some (.tup [.int 2])) (o1 : t1 ≠ p ∧ t1 ≠ l) {i : Nat} {v : V} (h : (xsBad t1)[i]? = some v) : ∃ d, (∀ H', SameB H H' p l → Pv H' v d) ∧ noB d = true ∧ Sq d := by
  have hi : i < 6 := (List.getElem?_eq_some_iff.mp h).1
  have cc : i = 0 ∨ i = 1 ∨ i = 2 ∨ i = 3 ∨ i = 4 ∨ i = 5 := by omega
  rcases cc with rfl | rfl | rfl | rfl | rfl | rfl <;> cases h
  · exact ⟨_, fun _ _ => .non, rfl, sq_plain trivial (by simp [cap]) (by simp [PyData.depth])⟩
  · exact ⟨_, fun _ _ => .int 1, rfl, sq_plain (pl_i (by decide)) (by simp [cap]) (by simp [PyData.depth])⟩
  · exact ⟨_, fun _ _ => .int 11, rfl, sq_plain (pl_i (by decide)) (by simp [cap]) (by simp [PyData.depth])⟩
  · exact ⟨_, fun _ _ => .bl true, rfl, sq_plain trivial (by simp [cap]) (by simp [PyData.depth])⟩
  · exact ⟨_, fun _ _ => .str "10", rfl, sq_plain (pl_str (by intro c hc; exact (by decide : ∀ c ∈ (("10" : Str)).cps.toList, c < 16 ^ 8) c hc)) (by decide) (by simp [PyData.depth])⟩
  · exact ⟨.tuple [.int 2], fun H' e => .tup (is := [2]) (e _ _ h1 o1.1 o1.2), rfl, sq_plain ⟨pl_i (by decide), trivial⟩ (by simp [cap, capAll]) (by simp [PyData.depth, PyData.depthAll])⟩
section
variable {w : World} {mg : Str → Option Value} {h base : Heap} (X : (K04 w.params).In h) (G : h.Ns mainGlobals mg) {c : Addr} {A : Around} {outer : List Env} {s : Shared} {H0 : Hp} {E0 : XK} {P : Addr} {T : List (Addr × Str)} (R : Rm w mg base c A outer s H0 E0 P T) (L : TxL mg)
include X G R L
theorem row8 : ∃ t, PS (XL w mg base c A outer s H0 E0) (inLoop 8) t ∧ ∀ (D : Ends) (H : Hp) (sc p cc l : Addr) (n : Nat) (a : Int) (x2 x3 x4 x5 x6 x7 x8 x9 x10 x11 x12 x13 x14 x15 x16 : Option V), (∀ (v : V) (H' : Hp), Ex H H' → Pt H' v (.list restA) → D.nx [some (.ref sc), some (.ref p), x2, x3, x4, x5, x6, x7, x8, x9, x10, x11, x12, some (v), x14, x15, x16] H') → t D [some (.ref sc), some (.ref p), x2, x3, x4, x5, x6, x7, x8, x9, x10, x11, x12, x13, x14, x15, x16] H := by
  obtain ⟨hr, hu64, TB, hT, hu⟩ := R
  refine ⟨_, (ps_set (i := 13) scLaw.nd rfl (.inl rfl) (pe_lst (pa_cons pe_non (pa_cons pe_int (pa_cons (pe_tup pa_nil) (pa_cons (pe_tup (pa_cons (pe_tup pa_nil) pa_nil)) (pa_cons (pe_tup (pa_cons (pe_tup pa_nil) (pa_cons (pe_tup (pa_cons pe_str pa_nil)) (pa_cons pe_int pa_nil)))) (pa_cons (pe_lst (pa_cons (pe_tup pa_nil) (pa_cons (pe_tup (pa_cons pe_str pa_nil)) pa_nil))) (pa_cons (pe_tup (pa_cons (pe_lst pa_nil) (pa_cons (pe_tup (pa_cons pe_str pa_nil)) pa_nil))) (pa_cons (pe_tup (pa_cons pe_non (pa_cons (pe_tup (pa_cons pe_str pa_nil)) pa_nil))) (pa_cons pe_str (pa_cons pe_dnewK pa_nil)))))))))))), fun D H sc p cc l n a x2 x3 x4 x5 x6 x7 x8 x9 x10 x11 x12 x13 x14 x15 x16 q => ?_⟩
  exact s_asgP (D := .list restA) (ep_lst (epa_cons ep_non (epa_cons ep_int (epa_cons (ep_tup epa_nil (by first | decide | simp | (simp [restA]))) (epa_cons (ep_tup (epa_cons (ep_tup epa_nil (by first | decide | simp | (simp [restA]))) epa_nil) (by first | decide | simp | (simp [restA]))) (epa_cons (ep_tup (epa_cons (ep_tup epa_nil (by first | decide | simp | (simp [restA]))) (epa_cons (ep_tup (epa_cons (ep_str (by decide)) epa_nil) (by first | decide | simp | (simp [restA]))) (epa_cons ep_int epa_nil))) (by first | decide | simp | (simp [restA]))) (epa_cons (ep_lst (epa_cons (ep_tup epa_nil (by first | decide | simp | (simp [restA]))) (epa_cons (ep_tup (epa_cons (ep_str (by decide)) epa_nil) (by first | decide | simp | (simp [restA]))) epa_nil)) (by first | decide | simp | (simp [restA]))) (epa_cons (ep_tup (epa_cons (ep_lst epa_nil (by first | decide | simp | (simp [restA]))) (epa_cons (ep_tup (epa_cons (ep_str (by decide)) epa_nil) (by first | decide | simp | (simp [restA]))) epa_nil)) (by first | decide | simp | (simp [restA]))) (epa_cons (ep_tup (epa_cons ep_non (epa_cons (ep_tup (epa_cons (ep_str (by decide)) epa_nil) (by first | decide | simp | (simp [restA]))) epa_nil)) (by first | decide | simp | (simp [restA]))) (epa_cons (ep_str (by decide)) (epa_cons ep_dic epa_nil)))))))))) (by first | decide | simp | (simp [restA]))) fun v H1 e1 k1 => q v H1 e1 k1
theorem row9 : ∃ t, PS (XL w mg base c A outer s H0 E0) (inLoop 9) t ∧ ∀ (D : Ends) (H : Hp) (sc p cc l : Addr) (n : Nat) (a : Int) (x2 x3 x4 x5 x6 x7 x8 x9 x10 x11 x12 x13 x14 x15 x16 : Option V) (β : Nat) (vr vg vb vs vo : V) (Dr : PyData) (u : V), Fc H β vr vg vb vs vo Dr → Pt H u (.list restA) → (∀ (v : V) (H' : Hp), Ex H H' → Pt H' v (.list (restA ++ restB β)) → D.nx [some (.ref sc), some (.ref p), x2, some (.int β), some (vr), some (vg), some (vb), some (vs), some (vo), x9, x10, x11, x12, some (v), x14, x15, x16] H') → t D [some (.ref sc), some (.ref p), x2, some (.int β), some (vr), some (vg), some (vb), some (vs), some (vo), x9, x10, x11, x12, some (u), x14, x15, x16] H := by
  obtain ⟨hr, hu64, TB, hT, hu⟩ := R
  refine ⟨_, (ps_set (i := 13) scLaw.nd rfl (.inl rfl) (pe_op op_cat (pv 13) (pe_lst (pa_cons pe_bl (pa_cons (pe_tup (pa_cons (pe_callTy call_tuple_of (by rfl) (txR X G).tuple (by decide +kernel) (pa_cons (pe_slice sl_list (pv 7) po_none (po_some pe_int)) pa_nil)) (pa_cons (pe_tup (pa_cons pe_str pa_nil)) pa_nil))) (pa_cons (pe_tup (pa_cons (pe_tup (pa_cons (pe_tup (pa_cons pe_str (pa_cons pe_int pa_nil))) (pa_cons pe_non pa_nil))) (pa_cons (pe_tup (pa_cons pe_str pa_nil)) pa_nil))) (pa_cons (pe_tup (pa_cons (pe_tup (pa_cons pe_str (pa_cons pe_int pa_nil))) (pa_cons (pe_tup (pa_cons pe_str pa_nil)) pa_nil))) pa_nil))))))), fun D H sc p cc l n a x2 x3 x4 x5 x6 x7 x8 x9 x10 x11 x12 x13 x14 x15 x16 β vr vg vb vs vo Dr u F ku q => ?_⟩
  exact s_asgP (D := .list (restA ++ restB β)) (ep_cat (ep_v (ev_var rfl) ku) (ep_lst (epa_cons ep_bl (epa_cons (ep_tup (epa_cons (ep_tupOf (K := K04 w.params) (fun p ys H Q hs hq => ⟨p, ys, rfl, .inl ⟨hs, hq⟩⟩) (ep_cut 4 (ep_v (ev_var rfl) F.s))) (epa_cons (ep_tup (epa_cons (ep_str (by decide)) epa_nil) (by first | decide | simp | (simp [restB]))) epa_nil)) (by simp)) (epa_cons (ep_tup (epa_cons (ep_tup (epa_cons (ep_tup (epa_cons (ep_str (by decide)) (epa_cons ep_int epa_nil)) (by first | decide | simp | (simp [restB]))) (epa_cons ep_non epa_nil)) (by first | decide | simp | (simp [restB]))) (epa_cons (ep_tup (epa_cons (ep_str (by decide)) epa_nil) (by first | decide | simp | (simp [restB]))) epa_nil)) (by first | decide | simp | (simp [restB]))) (epa_cons (ep_tup (epa_cons (ep_tup (epa_cons (ep_str (by decide)) (epa_cons ep_int epa_nil)) (by first | decide | simp | (simp [restB]))) (epa_cons (ep_tup (epa_cons (ep_str (by decide)) epa_nil) (by first | decide | simp | (simp [restB]))) epa_nil)) (by first | decide | simp | (simp [restB]))) epa_nil)))) (by first | decide | simp | (simp [restB]))) (by simp [restA, restB])) fun v H1 e1 k1 => q v H1 e1 k1
theorem row10 : ∃ t, PS (XL w mg base c A outer s H0 E0) (inLoop 10) t ∧ ∀ (D : Ends) (H : Hp) (sc p cc l : Addr) (n : Nat) (a : Int) (x2 x3 x4 x5 x6 x7 x8 x9 x10 x11 x12 x13 x14 x15 x16 : Option V) (β : Nat) (v : V), 2 ≤ β → β ≤ 10 → Pt H v (.list (restA ++ restB β)) → (∀ (H' : Hp), Ex H H' → D.nx [some (.ref sc), some (.ref p), x2, some (.int β), x4, x5, x6, x7, x8, x9, x10, x11, x12, some (v), x14, x15, x16] H') → t D [some (.ref sc), some (.ref p), x2, some (.int β), x4, x5, x6, x7, x8, x9, x10, x11, x12, some (v), x14, x15, x16] H := by
  obtain ⟨hr, hu64, TB, hT, hu⟩ := R
  refine ⟨_, (ps_if (pt_cmpR (op_neD (show _ + 64 < cLine from hu64)) (pe_lc (own := [("thing", 16)]) (g := gName 16) rfl scLaw.nd (pi_list (pv 13)) (blkOk_by (own := [("thing", 16)]) (N := nLaw) (sc := defScope sLaw) (by decide +kernel)) (fun _ _ _ _ _ => pg_name (i := 16) scLaw.nd rfl (Or.inl rfl)) (fun _ _ _ _ _ => pts_one (pt_cmpR op_isnot_bl (pe_callS (f_rule X G) (hr.r.mono (by decide)) (by rfl) L.rule (kp_is_rule _) (bd_is_rule _) (fun σ => passAt L2.takes0 σ) (pa_cons (pv 3) (pa_cons (pv 16) pa_nil))) pe_bl (nomark _))) (fun _ _ _ _ _ => pe_int)) (pe_lst pa_nil) (nomark _)) (pss_one (ps_ret pe_bl)) pss_nil), fun D H sc p cc l n a x2 x3 x4 x5 x6 x7 x8 x9 x10 x11 x12 x13 x14 x15 x16 β v b2 b10 kv q => ?_⟩
  obtain ⟨av, us, rfl, hv, ka⟩ := lstI kv
  refine s_when (b := false) (et_none (ev_var rfl) (sq_of hv) (by rw [ka.length]; simp [restA, restB]) (fun _ => rfl) (fun k y H4 e4 hy => ?_)) (fun z => nomatch z) fun _ H4 e4 => q H4 e4
  obtain ⟨dd, hdd, kdd⟩ := ka.get2 hy
  have hn : ruleB β dd = false := by
    have := List.all_eq_true.mp (rest_ok b2 b10) _ (List.mem_of_getElem? hdd)
    simpa using this
  exact et_is (et_isnot (b := false) (fun a b H Q q => ⟨a, b, rfl, rfl, q⟩) (ev_is (ev_rule b2 b10 (ev_var rfl) (ep_v (ev_var rfl) (kdd.ex e4))) (by rw [hn]))) (by decide)
theorem row11 : ∃ t, PS (XL w mg base c A outer s H0 E0) (inLoop 11) t ∧ ∀ (D : Ends) (H : Hp) (sc p cc l : Addr) (n : Nat) (a : Int) (x2 x3 x4 x5 x6 x7 x8 x9 x10 x11 x12 x13 x14 x15 x16 : Option V), l ≠ cc → a + 1000 < 2 ^ 39 → Lw T p cc l n a H →
    (∀ (v : V) (d : PyData) (H' : Hp), SameB H H' p l → Pv H' v d → noB d = true → Sq d → Lw T p cc l n (a + 1) H' → D.nx [some (.ref sc), some (.ref p), x2, x3, x4, x5, x6, x7, x8, x9, x10, x11, x12, x13, some (v), x15, x16] H') → t D [some (.ref sc), some (.ref p), x2, x3, x4, x5, x6, x7, x8, x9, x10, x11, x12, x13, x14, x15, x16] H := by
  obtain ⟨hr, hu64, TB, hT, hu⟩ := R
  refine ⟨_, (ps_set (i := 14) scLaw.nd rfl (.inr rfl) (pe_call (f_of X G) (hr.r.mono (by decide)) (by rfl) L.of (kp_l_of _) (bd_l_of _) .nil pass0 (pa_cons (pv 1) (pa_cons (pe_lst (pa_cons pe_non (pa_cons pe_int (pa_cons pe_int (pa_cons pe_bl (pa_cons pe_str (pa_cons (pe_tup (pa_cons pe_int pa_nil)) pa_nil))))))) pa_nil)))), fun D H sc p cc l n a x2 x3 x4 x5 x6 x7 x8 x9 x10 x11 x12 x13 x14 x15 x16 nlc ha W q => ?_⟩
  refine ⟨_, rfl, (by show (1:Nat) ≤ sizeLine; rw [sizeLine_eq]; omega), fun t1 nt1 => ⟨(by show (6:Nat) ≤ sizeLine; rw [sizeLine_eq]; omega), fun so nso => ?_⟩⟩
  have a1 := Ex.new (o := .tup [.int 2]) nt1
  have a2 := Ex.new (o := .lst (xsBad t1)) nso
  have o1 := W.off nt1
  have o2 := (W.ex a1).off nso
  have W1 := (W.ex a1).ex a2
  refine ⟨p, cc, l, so, n, a, _, rfl, W1.s, nlc, by omega, upd_same, o2.1, o2.2, (by show 0 < 6; decide), (by show 6 < 1073741824; decide), fun i v H1 hv S1 sb1 nn1 => ?_⟩
  obtain ⟨d, k, nb, sq⟩ := bad_val (sb1 _ _ (a2 _ _ upd_same) o1.1 o1.2) o1 hv
  exact q v d H1 (sameB_trans (sameB_ex (a1.trans a2)) sb1) (k _ (fun _ _ h _ _ => h)) nb sq (W1.same S1 sb1)
theorem row12 : ∃ t, PS (XL w mg base c A outer s H0 E0) (inLoop 12) t ∧ ∀ (D : Ends) (H : Hp) (sc p cc l : Addr) (n : Nat) (a : Int) (x2 x3 x4 x5 x6 x7 x8 x9 x10 x11 x12 x13 x14 x15 x16 : Option V) (b vr : V) (d Dr : PyData), Lw T p cc l n a H → Pv H b d → noB d = true → Pt H vr Dr →
    (∀ (tp r1 r2 : Addr) (H' : Hp), ExtN H H' → Lw T p cc l n a H' → H' tp = some (.lst [.ref r1, .ref r2]) → H' r1 = some (.tup [.str "base", b]) → H' r2 = some (.tup [.str "base", b]) → D.nx [some (.ref sc), some (.ref p), x2, x3, some (vr), x5, x6, x7, x8, x9, x10, x11, x12, x13, some (b), some (.ref tp), x16] H') → t D [some (.ref sc), some (.ref p), x2, x3, some (vr), x5, x6, x7, x8, x9, x10, x11, x12, x13, some (b), x15, x16] H := by
  obtain ⟨hr, hu64, TB, hT, hu⟩ := R
  refine ⟨_, (ps_set (i := 15) scLaw.nd rfl (.inl rfl) (pe_lst (pa_cons (pe_lamcallR (k := 6) (T := T) (by rfl) L.raised (kp_l_raised _) (lk04 _) (hcd04 _) (bd_l_raised _) Told.scR rfl (.inl rfl) (Told.raised_gives (ca := ca04) (txT X G) (rwT04 _)) TB rfl hT hu (hr.r.mono (by decide)) (lamN_by (show lamNB (defScope sLaw) _ nLaw = true by decide +kernel)) (by rfl) (fun _ _ _ _ _ => by rfl) (fun A outer s H E f c' hr' => pe_callS (f_rule X G) (hr'.mono (by decide)) (by rfl) L.rule (kp_is_rule _) (bd_is_rule _) (fun σ => passAt (takes_of rfl rfl rfl rfl) σ) (pa_cons (pv 14) (pa_cons (pv 4) pa_nil)))) (pa_cons (pe_lamcallD (k := 6) (T := T) (y := "y") (n := 0) (by rfl) L.raised (kp_l_raised _) (lk04 _) (hcd04 _) (bd_l_raised _) Told.scR rfl (.inl rfl) (Told.raised_gives (ca := ca04) (txT X G) (rwT04 _)) TB rfl hT hu (hr.r.mono (by decide)) (lamN_by (show lamNB (defScope sLaw) _ nLaw = true by decide +kernel)) (by rfl) (by rfl) (by rfl) (fun _ _ _ _ _ _ _ _ => ⟨_, by rfl, by rfl⟩) (fun A outer s H E f c' hr' => pe_callS (f_rule X G) (hr'.mono (by decide)) (by rfl) L.rule (kp_is_rule _) (bd_is_rule _) (fun σ => passAt (takes_of rfl rfl rfl rfl) σ) (pa_cons (pv 14) (pa_cons pe_non pa_nil)))) pa_nil)))), fun D H sc p cc l n a x2 x3 x4 x5 x6 x7 x8 x9 x10 x11 x12 x13 x14 x15 x16 b vr d Dr W pb nb kr q => ?_⟩
  refine rd_raisedA (n := 1) (A := Is1 b) W.t (is1_keeps b) (fun H1 f1 HZ eZ E Q' hE => ⟨_, rfl, _, rfl, b, vr, Dr, false, rfl, (pb.extN (f1.trans (ExtN.of eZ))).bs nb, kr.extN (f1.trans (ExtN.of eZ)), fun _ => leaves_of (by decide) (by decide) (by decide) (by decide) (by decide) rfl hE, fun z => nomatch z⟩) fun vs1 r1 H1 x1 T1 a1 g1 => ?_
  refine rd_raisedA (n := 1) (A := Is1 b) T1 (is1_keeps b) (fun H2 f2 HZ eZ E Q' hE => ⟨_, rfl, b, .non, .none, false, rfl, (pb.extN ((x1.trans f2).trans (ExtN.of eZ))).bs nb, .non, fun _ => leaves_of (by decide) (by decide) (by decide) (by decide) (by decide) rfl hE, fun z => nomatch z⟩) fun vs2 r2 H2 x2 T2 a2 g2 => ⟨(by show (2:Nat) ≤ sizeLine; rw [sizeLine_eq]; omega), fun tp ntp => ?_⟩
  have a1' : vs1 = [b] := a1
  have a2' : vs2 = [b] := a2
  subst a1' a2'
  have en := Ex.new (o := .lst [.ref r1, .ref r2]) ntp
  exact q tp r1 r2 _ ((x1.trans x2).trans (ExtN.of en)) ((W.extN (x1.trans x2) T2).ex en) upd_same (en _ _ (x2 _ _ g1 (by simp))) (en _ _ g2)
theorem row13 : ∃ t, PS (XL w mg base c A outer s H0 E0) (inLoop 13) t ∧ ∀ (D : Ends) (H : Hp) (sc p cc l : Addr) (n : Nat) (a : Int) (x2 x3 x4 x5 x6 x7 x8 x9 x10 x11 x12 x13 x14 x15 x16 : Option V) (b b1 b2 : V) (d : PyData) (tp r1 r2 : Addr), Lw T p cc l n a H → Pv H b d → Pv H b1 d → Pv H b2 d → Sq d → H tp = some (.lst [.ref r1, .ref r2]) → H r1 = some (.tup [.str "base", b1]) → H r2 = some (.tup [.str "base", b2]) →
    (∀ (H' : Hp), Ex H H' → Lw T p cc l n a H' → D.nx [some (.ref sc), some (.ref p), x2, x3, x4, x5, x6, x7, x8, x9, x10, x11, x12, x13, some (b), some (.ref tp), x16] H') → t D [some (.ref sc), some (.ref p), x2, x3, x4, x5, x6, x7, x8, x9, x10, x11, x12, x13, some (b), some (.ref tp), x16] H := by
  obtain ⟨hr, hu64, TB, hT, hu⟩ := R
  refine ⟨_, (ps_if (pt_cmpR op_ne (pe_callB (call_reprK hr.g hu64) (by rfl) L.repr (by decide +kernel) (pa_cons (pv 15) pa_nil)) (pe_callB (call_reprK hr.g hu64) (by rfl) L.repr (by decide +kernel) (pa_cons (pe_op op_rep (pe_lst (pa_cons (pe_tup (pa_cons pe_str (pa_cons (pv 14) pa_nil))) pa_nil)) pe_int) pa_nil)) (nomark _)) (pss_one (ps_ret pe_bl)) pss_nil), fun D H sc p cc l n a x2 x3 x4 x5 x6 x7 x8 x9 x10 x11 x12 x13 x14 x15 x16 b b1 b2 d tp r1 r2 W pb pb1 pb2 sq g0 g1 g2 q => ?_⟩
  have sp := sq.pair (x := "base") (wd_len (n := 1) (by decide) (by decide))
  obtain ⟨y1, y2, y3⟩ := SmAll.list (.cons sp (.cons sp .nil)) (by simp)
  refine ⟨_, rfl, tp, _, [.tuple [.str "base", d], .tuple [.str "base", d]], rfl, sq_of g0, .cons (.pair (st_of g1) pb1.dj) (.cons (.pair (st_of g2) pb2.dj) .nil), y1, y2, y3, _, rfl, (by show (2:Nat) ≤ sizeLine; rw [sizeLine_eq]; omega), fun t1 nt1 => ⟨(by show (1:Nat) ≤ sizeLine; rw [sizeLine_eq]; omega), fun l1 nl1 => ⟨l1, 2, [.ref t1], rfl, rfl, upd_same, by decide, by decide, by rw [sizeLine_eq]; simp, fun p1 hp1 => ?_⟩⟩⟩
  have f1 := Ex.new (o := .tup [.str "base", b]) nt1
  have f2 := Ex.new (o := .lst [.ref t1]) nl1
  have f3 := Ex.new (o := .lst [.ref t1, .ref t1]) hp1
  have f23 := f2.trans f3
  have gt := f23 _ _ (show _ = some (.tup [.str "base", b]) from upd_same)
  have pt : Dj (K04 w.params) _ (.ref t1) (.tuple [.str "base", d]) := .pair (st_of gt) (pb.ex (f1.trans f23)).dj
  refine ⟨p1, [.ref t1, .ref t1], [.tuple [.str "base", d], .tuple [.str "base", d]], rfl, sq_of upd_same, .cons pt (.cons pt .nil), y1, y2, y3, rfl, _, rfl, ?_⟩
  rw [decide_eq_true rfl]
  exact q _ (f1.trans f23) (W.ex (f1.trans f23))
theorem turnR : ∃ t, PSs (XL w mg base c A outer s H0 E0) [inLoop 0, inLoop 1, inLoop 2, inLoop 3, inLoop 4, inLoop 5, inLoop 6, inLoop 7, inLoop 8, inLoop 9, inLoop 10, inLoop 11, inLoop 12, inLoop 13] t ∧ ∀ (D : Ends) (H : Hp) (sc p cc l : Addr) (n : Nat) (a : Int) (x2 x3 x4 x5 x6 x7 x8 x9 x10 x11 x12 x13 x14 x15 x16 : Option V), l ≠ cc → a + 50000 < 2 ^ 39 → Lw T p cc l n a H →
    (∀ (y2 y3 y4 y5 y6 y7 y8 y9 y10 y11 y12 y13 y14 y15 : Option V) (a' : Int) (H' : Hp), a ≤ a' → a' ≤ a + 5000 → Lw T p cc l n a' H' → D.nx [some (.ref sc), some (.ref p), y2, y3, y4, y5, y6, y7, y8, y9, y10, y11, y12, y13, y14, y15, x16] H') → t D [some (.ref sc), some (.ref p), x2, x3, x4, x5, x6, x7, x8, x9, x10, x11, x12, x13, x14, x15, x16] H := by
  obtain ⟨t0, p0, q0⟩ := row0 X G R L
  obtain ⟨t1, p1, q1⟩ := row1 X G R L
  obtain ⟨t2, p2, q2⟩ := row2 X G R L
  obtain ⟨t3, p3, q3⟩ := row3 X G R L
  obtain ⟨t4, p4, q4⟩ := row4 X G R L
  obtain ⟨t5, p5, q5⟩ := row5 X G R L
  obtain ⟨t6, p6, q6⟩ := row6 X G R L
  obtain ⟨t7, p7, q7⟩ := row7 X G R L
  obtain ⟨t8, p8, q8⟩ := row8 X G R L
  obtain ⟨t9, p9, q9⟩ := row9 X G R L
  obtain ⟨t10, p10, q10⟩ := row10 X G R L
  obtain ⟨t11, p11, q11⟩ := row11 X G R L
  obtain ⟨t12, p12, q12⟩ := row12 X G R L
  obtain ⟨t13, p13, q13⟩ := row13 X G R L
  refine ⟨_, (pss_cons p0 (pss_cons p1 (pss_cons p2 (pss_cons p3 (pss_cons p4 (pss_cons p5 (pss_cons p6 (pss_cons p7 (pss_cons p8 (pss_cons p9 (pss_cons p10 (pss_cons p11 (pss_cons p12 (pss_one p13)))))))))))))), fun D H sc p cc l n a x2 x3 x4 x5 x6 x7 x8 x9 x10 x11 x12 x13 x14 x15 x16 nlc ha W q => ?_⟩
  refine q0 _ _ sc p cc l n a _ _ _ _ _ _ _ _ _ _ _ _ _ _ _ nlc (by omega) W fun β H1 b2 b10 W => ?_
  refine q1 _ _ sc p cc l n (a + 1) _ _ _ _ _ _ _ _ _ _ _ _ _ _ _ β nlc (by omega) W b2 b10 rfl fun vr Dr H2 a2 hR nR kR c1 c2 W => ?_
  refine q2 _ _ sc p cc l n a _ _ _ _ _ _ _ _ _ _ _ _ _ _ _ fun vg vb H3 e3 kg kb => ?_
  refine q3 _ _ sc p cc l n a _ _ _ _ _ _ _ _ _ _ _ _ _ _ _ β b2 b10 rfl fun vs vo H4 e4 ks ko => ?_
  have F : Fc H4 β vr vg vb vs vo Dr := ⟨(kR.ex e3).ex e4, kg.ex e4, kb.ex e4, ks, ko, b2, b10, hR, nR⟩
  have W4 := (W.ex e3).ex e4
  refine q4 _ _ sc p cc l n a _ none none none none none none _ _ _ _ _ _ _ _ β vr vg vb vs vo Dr F fun H5 e5 => ?_
  refine q5 _ _ sc p cc l n a _ none none none none none none _ _ _ _ _ _ _ _ β vr vg vb vs vo Dr (F.ex e5) fun z9 z10 H6 e6 => ?_
  refine q6 _ _ sc p cc l n a2 _ none none none none none none _ _ _ _ _ _ _ _ β vr vg vb vs vo Dr nlc (by omega) ((W4.ex e5).ex e6) ((F.ex e5).ex e6) fun w10 w11 w12 a7 H7 c3 c4 W7 F7 => ?_
  refine q7 _ _ sc p cc l n a7 _ none none none none none none _ _ _ _ _ _ _ _ β vr vg vb vs vo Dr F7 fun v9 H8 e8 => ?_
  refine q8 _ _ sc p cc l n a7 _ _ _ _ _ _ _ _ _ _ _ _ _ _ _ fun v13 H9 e9 k9 => ?_
  have F9 := (F7.ex e8).ex e9
  have W9 := (W7.ex e8).ex e9
  refine q9 _ _ sc p cc l n a7 _ none none none none none none _ _ _ _ none _ _ _ β vr vg vb vs vo Dr v13 F9 k9 fun v13' H10 e10 k10 => ?_
  refine q10 _ _ sc p cc l n a7 _ none _ _ _ _ _ _ _ _ _ none _ _ _ β v13' b2 b10 k10 fun H11 e11 => ?_
  have F11 := (F9.ex e10).ex e11
  have W11 := (W9.ex e10).ex e11
  refine q11 _ _ sc p cc l n a7 _ _ _ _ _ _ _ _ _ _ _ _ _ _ _ nlc (by omega) W11 fun b d H12 sb12 pb nb sq W12 => ?_
  have F12 := F11.same W11.s sb12
  refine q12 _ _ sc p cc l n (a7 + 1) _ _ none _ _ _ _ _ _ _ _ _ none _ _ b vr d Dr W12 pb nb F12.r fun tp r1 r2 H13 x13 W13 g0 g1 g2 => ?_
  have pb13 := pb.extN x13
  refine q13 _ _ sc p cc l n (a7 + 1) _ _ _ _ _ _ _ _ _ _ _ _ none none _ b b b d tp r1 r2 W13 pb13 pb13 pb13 sq g0 g1 g2 fun H14 e14 W14 => ?_
  exact q _ _ _ _ _ _ _ _ _ _ _ _ _ _ (a7 + 1) H14 (by omega) (by omega) W14
end
end KH4

namespace KH4
open PySem L2 Evl ExM Dg Dt LamR LamX Told TL
open Dr (StAt SameB)
abbrev T04 : List (Addr × Str) := [(458, ("law.<locals>.<lambda>" : Str))]
def spLaw4 (K : PySem.W.Frag) : Sp := fun vs H Q _ => ∃ (a : Addr) (ns : List Int), vs = [.ref a] ∧ SqL K H a (ns.map V.int) ∧ ns.length ≤ 63 ∧ Tabs T04 H ∧ ∀ H', Q (.bl true) H'
section
variable {w : World} {mg : Str → Option Value} {h base : Heap} (X : (K04 w.params).In h) (G : h.Ns mainGlobals mg) {c : Addr} {A : Around} {outer : List Env} {s : Shared} {H0 : Hp} {E0 : XK} {P : Addr} {T : List (Addr × Str)} (R : Rm w mg base c A outer s H0 E0 P T) (L : TxL mg)
include X G R L
theorem rowE : ∃ t, PS (XL w mg base c A outer s H0 E0) (inLaw 2) t ∧ ∀ (D : Ends) (H : Hp) (σ : St), (∀ (H' : Hp), D.rt (.bl true) H') → t D σ H := by
  obtain ⟨hr, hu64, TB, hT, hu⟩ := R
  obtain ⟨t1, h1⟩ := mrules X G
  obtain ⟨t2, h2⟩ := (txR X G).mconds
  obtain ⟨t3, h3⟩ := (txR X G).msize
  refine ⟨_, (ps_ret (pe_cmpR (op_eqD (show _ + 64 < cLine from hu64)) (pe_tup (pa_cons (pe_glob (by rfl) h1 (v := .int 8) ⟨_, rfl⟩) (pa_cons (pe_glob (by rfl) h2 (v := .int 3) ⟨_, rfl⟩) (pa_cons (pe_glob (by rfl) h3 (v := .int 6) ⟨_, rfl⟩) pa_nil)))) (pe_tup (pa_cons pe_int (pa_cons pe_int (pa_cons pe_int pa_nil)))) (nomark _))), fun D H σ q => ?_⟩
  refine ev_opUU (z := .bl true) (xs := [.int 8, .int 3, .int 6]) (ys := [.int 8, .int 3, .int 6]) (eu_tup (ea_cons ev_c (ea_cons ev_c (ea_cons ev_c ea_nil))) (by simp)) (eu_tup (ea_cons ev_c (ea_cons ev_c (ea_cons ev_c ea_nil))) (by simp)) (fun p1 p2 H1 g1 g2 e => ?_) H (Ex.refl _) _ fun H2 e2 => q H2
  refine fun H2 e2 Q k => ⟨.tuple [.int 8, .int 3, .int 6], .tuple [.int 8, .int 3, .int 6], .tup (st_of (e2 _ _ g1)) (.cons (.int 8) (.cons (.int 3) (.cons (.int 6) .nil))), .tup (st_of (e2 _ _ g2)) (.cons (.int 8) (.cons (.int 3) (.cons (.int 6) .nil))), by decide +kernel, by decide +kernel, ?_⟩
  rw [show PyData.eqv (.tuple [.int 8, .int 3, .int 6]) (.tuple [.int 8, .int 3, .int 6]) = true by decide +kernel]
  exact k _ (Ex.refl _)
theorem lawR : ∃ t, PSs (XL w mg base c A outer s H0 E0) [inLaw 0, inLaw 1, inLaw 2] t ∧ ∀ (D : Ends) (H : Hp) (sc : Addr) (ns : List Int), SqL (K04 w.params) H sc (ns.map V.int) → ns.length ≤ 63 → Tabs T H →
    (∀ (H' : Hp), D.rt (.bl true) H') → t D (L2.start nLaw [V.ref sc]) H := by
  obtain ⟨tT, pT, qT⟩ := turnR X G R L
  obtain ⟨tE, pE, qE⟩ := rowE X G R L
  obtain ⟨hr, hu64, TB, hT, hu⟩ := R
  refine ⟨_, pss_cons (ps_set (i := 1) scLaw.nd rfl (.inl rfl) (pe_call (f_begin X G) (hr.r.mono (by decide)) (by rfl) L.begin (kp_l_begin _) (bd_l_begin _) .nil pass0 (pa_cons (pv 0) pa_nil))) (pss_cons (ps_for PassesOwn.never rfl (pi_range1 (by rfl) L.range (pa_cons (pe_op op_add pe_int (pe_callB (call_min2 (by rfl)) (by rfl) L.min (by decide +kernel) (pa_cons pe_int (pa_cons (pe_callB call_len_seq (by rfl) (txT X G).len (by decide +kernel) (pa_cons (pv 0) pa_nil)) pa_nil)))) pa_nil)) (pg_name (i := 2) scLaw.nd rfl (.inl rfl)) pT) (pss_one pE)), fun D H sc ns hS hlen hTb q => ?_⟩
  refine ⟨_, rfl, sc, ns, rfl, hS, hlen, fun p cc l n H1 sm np nl S0 nlc => ?_⟩
  have eL : Ev (tCB (rLenS (K04 w.params)) (tCons (tVar 0) tNil)) ((L2.start nLaw [V.ref sc]).set 1 (some (.ref p))) H1 (.int ((ns.map V.int).length : Int)) := ev_len (ev_var rfl) (Same.seq sm hS)
  obtain ⟨N, hN, hN8⟩ : ∃ N : Nat, 1 + (if ((ns.map V.int).length : Int) < 3 then ((ns.map V.int).length : Int) else 3) = (N : Int) ∧ N ≤ 4 := by
    by_cases h : ((ns.map V.int).length : Int) < 3
    · rw [if_pos h]; exact ⟨1 + (ns.map V.int).length, by omega, by omega⟩
    · rw [if_neg h]; exact ⟨4, by omega, by omega⟩
  have eA : EvA (tCons (tOp (rI0 fun i j => V.int (i + j)) (tC (V.int 1)) (tCB (fun xs H Q => ∃ i j : Int, xs = [V.int i, V.int j] ∧ Q (V.int (if j < i then j else i)) H) (tCons (tC (V.int 3)) (tCons (tCB (rLenS (K04 w.params)) (tCons (tVar 0) tNil)) tNil)))) tNil)
      ((L2.start nLaw [V.ref sc]).set 1 (some (.ref p))) H1 [V.int (N : Int)] := by
    rw [← hN]
    exact ea_cons (ev_op ev_c (ev_cb (ea_cons ev_c (ea_cons eL ea_nil)) fun H1 _ Q k => ⟨_, _, rfl, k _ (Ex.refl _)⟩) rv_I0) ea_nil
  refine q_forR1 (D := D) (n := (N : Int)) eA (by omega)
    (fun t σ H' => (∃ x2 x3 x4 x5 x6 x7 x8 x9 x10 x11 x12 x13 x14 x15, σ = [some (.ref sc), some (.ref p), x2, x3, x4, x5, x6, x7, x8, x9, x10, x11, x12, x13, x14, x15, none]) ∧ ∃ a : Int, a ≤ 6000 * (t : Int) ∧ Lw T p cc l n a H')
    (fun H2 e => ⟨⟨_, _, _, _, _, _, _, _, _, _, _, _, _, _, rfl⟩, 0, by omega, (⟨S0, hTb.ext sm⟩ : Lw T p cc l n 0 H1).ex e⟩) (fun t σ H2 ht ⟨⟨x2, x3, x4, x5, x6, x7, x8, x9, x10, x11, x12, x13, x14, x15, hσ⟩, a, ha, W⟩ => ?_) (fun σ H2 ⟨⟨x2, x3, x4, x5, x6, x7, x8, x9, x10, x11, x12, x13, x14, x15, hσ⟩, a, ha, W⟩ => ?_)
  · subst hσ
    refine qT _ _ _ _ _ _ _ a _ _ _ _ _ _ _ _ _ _ _ _ _ _ _ nlc (by omega) W fun y2 y3 y4 y5 y6 y7 y8 y9 y10 y11 y12 y13 y14 y15 a' H' a1 a2 W' => ?_
    exact ⟨⟨_, _, _, _, _, _, _, _, _, _, _, _, _, _, rfl⟩, a', by omega, W'⟩
  · exact qE _ _ _ fun H' => q H'
end
section
variable {w : World} {mg : Str → Option Value} {h base : Heap} (X : (K04 w.params).In h) (G : h.Ns mainGlobals mg)
include X G
theorem txL : TxL mg where
  of := PySem.W.mg_of X G (show PySem.W.nsIn (K04 w.params) mainGlobals "_law_of" = some (some (.ref 409)) by kernel_rfl)
  rules := PySem.W.mg_of X G (show PySem.W.nsIn (K04 w.params) mainGlobals "_law_rules" = some (some (.ref 435)) by kernel_rfl)
  good := PySem.W.mg_of X G (show PySem.W.nsIn (K04 w.params) mainGlobals "_law_good" = some (some (.ref 442)) by kernel_rfl)
  bad := PySem.W.mg_of X G (show PySem.W.nsIn (K04 w.params) mainGlobals "_law_bad" = some (some (.ref 449)) by kernel_rfl)
  keeps := PySem.W.mg_of X G (show PySem.W.nsIn (K04 w.params) mainGlobals "_law_keeps" = some (some (.ref 456)) by kernel_rfl)
  rule := PySem.W.mg_of X G (show PySem.W.nsIn (K04 w.params) mainGlobals "is_rule" = some (some (.ref 383)) by kernel_rfl)
  begin := PySem.W.mg_of X G (show PySem.W.nsIn (K04 w.params) mainGlobals "_law_begin" = some (some (.ref 395)) by kernel_rfl)
  raised := PySem.W.mg_of X G (show PySem.W.nsIn (K04 w.params) mainGlobals "_law_raised" = some (some (.ref 416)) by kernel_rfl)
  repr := PySem.W.mg_none_of X G (show PySem.W.nsIn (K04 w.params) mainGlobals "repr" = some none by kernel_rfl)
  range := PySem.W.mg_none_of X G (show PySem.W.nsIn (K04 w.params) mainGlobals "range" = some none by kernel_rfl)
  min := PySem.W.mg_none_of X G (show PySem.W.nsIn (K04 w.params) mainGlobals "min" = some none by kernel_rfl)
theorem ok_law04 (TB : TabB base mg 460 458) : FnG P04 w (K04 w.params) mg base CX0 10 461 (PySem.W.fnOf "law" "law" (defArgs sLaw) (defBody sLaw) (defScope sLaw) .none (fO (K04 w.params) 461).kwdefaults (fO (K04 w.params) 461).doc (fO (K04 w.params) 461).pyModule (fO (K04 w.params) 461).annotations (.ref 460) (fO (K04 w.params) 461).closureTuple) ["script"] (spLaw4 (K04 w.params)) := by
  have lk : (K04 w.params).lookup 461 = some ⟨(oO (K04 w.params) 461).cls, (oO (K04 w.params) 461).dict, .func (PySem.W.fnOf "law" "law" (defArgs sLaw) (defBody sLaw) (defScope sLaw) .none (fO (K04 w.params) 461).kwdefaults (fO (K04 w.params) 461).doc (fO (K04 w.params) 461).pyModule (fO (K04 w.params) 461).annotations (.ref 460) (fO (K04 w.params) 461).closureTuple), (oO (K04 w.params) 461).slots⟩ := by kernel_rfl
  have hcd : PySem.W.codeIn (K04 w.params) (.ref 460) "law" = true := by kernel_rfl
  refine fn_ofG lk hcd scLaw (fun vs H Q E h => ?_) (fun A outer s H vs Q E hr h => ?_)
  · obtain ⟨a, ns, rfl, _⟩ := h
    rfl
  · obtain ⟨sc, ns, rfl, hS, hlen, hTb, q⟩ := h
    have hu64 : (A.deeper (PyProof.Rows.envOfC "law" (defScope sLaw) s.heap.objs.size 461 (.ref 460))).units + 64 < cLine := by have := hr.r.units; omega
    obtain ⟨t, pt, qt⟩ := lawR (A := A) (outer := outer) (s := s) (H0 := H) (E0 := E) (T := T04) X G ⟨hr, hu64, TB, List.mem_singleton.mpr rfl, fun p hp _ => by rw [List.mem_singleton.mp hp]⟩ (txL X G)
    exact ⟨t, pt.nox, qt _ _ _ ns hS hlen hTb fun H' => q H'⟩
end
end KH4

/-! The end of a law whose defs make lambdas and call repr. -/
namespace LamR
open PySem PySem.Spec PyProof.Rows L2 LamX
/-- a table of code objects, still empty -/
abbrev bare : Obj := { cls := .none, data := .fields #[] }
/-- what is known where the law is called; cs: code objects with their tables -/
structure HeadAt (K : PySem.W.Frag) (mg mb : Str → Option Value) (cs : List (Addr × Addr)) (s : Shared) : Prop where
  kin : K.In s.heap
  glob : s.heap.Ns mainGlobals mg
  blt : s.heap.Ns builtinsNs mb
  boot : ∀ x : Str, x ≠ "__name__" → mb x = bootBuiltins x
  lim : s.heap.NoLimit
  gens : s.gens = #[]
  tab : ∀ p ∈ cs, s.heap.get? p.2 = some bare
  off : ∀ p ∈ cs, K.lookup p.2 = none
  cod : ∀ p ∈ cs, PySem.W.CodeHd s.heap p.1 p.2
  bmod : ∃ (m : Addr) (o : Obj), mg "__builtins__" = some (.ref m) ∧ m ≠ builtinsNs ∧ s.heap.get? m = some o ∧ o.cls = .type "module" ∧ o.dict = some builtinsNs ∧ o.data = .plain
/-- what is followed: the tables, and the script where the written part has it not -/
structure Hid (K : PySem.W.Frag) (cs : List (Addr × Addr)) (a : Addr) (H : Hp) : Prop where
  only : ∀ b, H b ≠ none → b = a ∨ ∃ p ∈ cs, b = p.2
  mine : H a = none ∨ (K.lookup a = none ∧ ∃ o xs, H a = some (.frz o (.lst xs)))
  tabs : ∀ p ∈ cs, H p.2 = some (.tbl #[])
section
variable {P : Program} {w : World} {K : PySem.W.Frag} {mg mb : Str → Option Value} {cs : List (Addr × Addr)} {s : Shared} {a : Addr} {H : Hp} {vs : List Value}
/-- neither a list nor an empty row of fields: it is not followed -/
theorem Hid.out (h : Hid K cs a H) (D : HeadAt K mg mb cs s) (ha : s.heap.get? a = some { cls := .type "list", data := .seq vs.toArray }) {b : Addr} {o : Obj} (e : s.heap.get? b = some o) (nl : ∀ us n, o.data ≠ .seq us n) (nf : o.data ≠ .fields #[]) : H b = none := by
  by_cases z : H b = none
  · exact z
  · exfalso
    rcases h.only b z with q | ⟨p, hp, q⟩ <;> subst q
    · cases ha.symm.trans e
      exact nl _ _ rfl
    · cases (D.tab p hp).symm.trans e
      exact nf rfl
theorem Hid.stays (h : Hid K cs a H) (D : HeadAt K mg mb cs s) (ha : s.heap.get? a = some { cls := .type "list", data := .seq vs.toArray }) {b : Addr} {o : Obj} (e : s.heap.get? b = some o) (nl : ∀ us n, o.data ≠ .seq us n) (nf : o.data ≠ .fields #[]) : (hidT s.heap H).get? b = some o := hidT_get e (h.out D ha e nl nf)
theorem Hid.names (h : Hid K cs a H) (D : HeadAt K mg mb cs s) (ha : s.heap.get? a = some { cls := .type "list", data := .seq vs.toArray }) {b : Addr} {m : Str → Option Value} (n : s.heap.Ns b m) : (hidT s.heap H).Ns b m := by
  obtain ⟨o, es, ep, e, d, r⟩ := n
  refine ⟨o, es, ep, h.stays D ha e (fun us n z => ?_) (fun z => ?_), d, r⟩ <;> cases d.symm.trans z
theorem Hid.frag (h : Hid K cs a H) (D : HeadAt K mg mb cs s) : K.In (hidT s.heap H) := fun b o e => by
  refine hidT_get (D.kin b o e) ?_
  by_cases z : H b = none
  · exact z
  · exfalso
    rcases h.only b z with q | ⟨p, hp, q⟩ <;> subst q
    · rcases h.mine with y | ⟨y, _⟩
      · exact z y
      · cases y.symm.trans e
    · cases (D.off p hp).symm.trans e
theorem Hid.table (h : Hid K cs a H) (D : HeadAt K mg mb cs s) (ha : s.heap.get? a = some { cls := .type "list", data := .seq vs.toArray }) : ∀ p ∈ cs, TabB (hidT s.heap H) mg p.1 p.2 := fun p hp => by
  have tp := D.tab p hp
  have gl := D.glob
  refine ⟨?_, ?_, fun z => ?_⟩
  · obtain ⟨o, us, file, tf, flags, tg, inF, text, tt, e1, k1, k2, k3, rest⟩ := D.cod p hp
    refine ⟨o, us, file, tf, flags, tg, inF, text, tt, h.stays D ha e1 (fun vs n z => ?_) (fun z => ?_), k1, k2, k3, rest⟩
    · cases k2.symm.trans z
    · cases k2.symm.trans z
      simp at k3
  · obtain ⟨m, o, y1, y2, y3, y4, y5, y6⟩ := D.bmod
    refine ⟨m, o, y1, y2, fun q => ?_, fun q => ?_, h.stays D ha y3 (fun vs n z => ?_) (fun z => ?_), y4, y5, y6⟩
    · obtain ⟨o', es, ep, e', d', _⟩ := gl
      subst q
      cases y3.symm.trans e'
      cases y6.symm.trans d'
    · subst q
      cases y3.symm.trans tp
      cases y6
    · cases y6.symm.trans z
    · cases y6.symm.trans z
  · obtain ⟨o', es, ep, e', d', _⟩ := gl
    rw [z] at e'
    cases tp.symm.trans e'
    cases d'
/-- the call of the law, at what is followed -/
theorem call_at {CX : CXT} {k : Nat} {fa : Addr} {fd : FuncData} {x : Str} {sp : Sp} (h : Hid K cs a H) (D : HeadAt K mg mb cs s) (ha : s.heap.get? a = some { cls := .type "list", data := .seq vs.toArray }) (ok : HOk P w H s.heap) (hr : RoomG k callerA)
    (F : ∀ base : Heap, K.In base → base.Ns mainGlobals mg → (∀ p ∈ cs, TabB base mg p.1 p.2) → FnG P w K mg base CX k fa fd [x] sp) (hb : BindsTo s fd ⟨[.ref a], []⟩ [(x, .ref a)]) (hsp : sp [.ref a] H (fun v _ => v = .bl true) fun _ _ _ => False) (hCX : ∀ e s', CX [] H s (fun _ _ _ => False) e s' → False) :
    codeAny (model P w) callerA (.call (.ref fa) ⟨[.ref a], []⟩) (fun r s' => r = .ok (.ret (.bool true)) ∧ OldK s.heap s'.heap ∧ s'.os = s.os ∧ AllBare s'.gens) s := by
  have fr := h.frag D
  have gl := h.names D ha D.glob
  obtain ⟨mc, lim1, lim2⟩ := D.lim
  have env : Env0 P w K mg (hidT s.heap H) callerA [] s H :=
    ⟨rfl, ⟨fr, gl, ⟨mb, h.names D ha D.blt, D.boot⟩, ⟨mc, h.names D ha lim1, lim2⟩⟩, fun b o e => of_hidT e, Nat.le_of_eq (hidT_size _ _), trivial, fun b z => absurd (show b ∈ ([] : List Addr) from z) (by simp), ok, .of_eq D.gens⟩
  refine codeAny_mono ((F _ fr gl (h.table D ha)).run callerA [] s H ⟨[.ref a], []⟩ [.ref a] [.ref a] _ _ hr env hb (.cons rfl .nil) hsp) fun r s' hq => ?_
  match r, hq with
  | .error e, hq => exact (hCX e s' hq).elim
  | .ok (.ret u), ⟨v, H', os, gens, un, ok', rel, q⟩ =>
    have q : v = .bl true := q
    subst q
    have rel : u = Value.bool true := rel
    subst rel
    -- what was there is there still, but for the tables, which may have grown
    have old : ∀ b o, (∀ p ∈ cs, b ≠ p.2) → s.heap.get? b = some o → s'.heap.get? b = some o := fun b o nb e => by
      by_cases z : H b = none
      · exact un.keep b o e z (fun y => absurd (show b ∈ ([] : List Addr) from y) (by simp)) (by simp)
      · rcases h.only b z with y | ⟨p, hp, y⟩
        · subst y
          rcases h.mine with y | ⟨_, ob, xs, y⟩
          · exact (z y).elim
          · have g1 := (ok b _ y).1
            have g2 := (ok' b _ (un.frzs b ob _ y)).1
            cases e.symm.trans g1
            exact g2
        · exact (nb p hp y).elim
    have more : ∀ p ∈ cs, ∃ us : Array Value, s'.heap.get? p.2 = some { cls := .none, data := .fields us } := fun p hp =>
      let ⟨us, y⟩ := un.tbls p.2 #[] (h.tabs p hp)
      ⟨_, ok' p.2 _ y⟩
    refine ⟨rfl, ⟨fun b o e => ?_, fun b o e => ?_⟩, os, gens⟩
    · by_cases y : ∃ p ∈ cs, b = p.2
      · obtain ⟨p, hp, rfl⟩ := y
        obtain ⟨us, g⟩ := more p hp
        have tp := D.tab p hp
        cases tp.symm.trans e
        exact .inr (.inl ⟨((D.cod p hp).tab tp).isCodeTable, rfl, #[], us, rfl, by rw [Array.empty_append]; exact g⟩)
      · exact .inl (old b o (fun p hp z => y ⟨p, hp, z⟩) e)
    · by_cases y : ∃ p ∈ cs, b = p.2
      · obtain ⟨p, hp, rfl⟩ := y
        obtain ⟨us, g⟩ := more p hp
        exact ⟨_, g⟩
      · exact ⟨o, old b o (fun p hp z => y ⟨p, hp, z⟩) e⟩
  | .ok .next, hq => exact False.elim hq
  | .ok .brk, hq => exact False.elim hq
  | .ok .cont, hq => exact False.elim hq
/-- the script is followed as a list that stays, or stands in the written part -/
theorem call_law {CX : CXT} {k : Nat} {fa : Addr} {fd : FuncData} {x : Str} {sp : Sp} {ns : List Int} (D : HeadAt K mg mb cs s) (ha : s.heap.get? a = some { cls := .type "list", data := .seq vs.toArray }) (hi : IntsAre vs ns) (hl : ns.length ≤ sizeLine) (hr : RoomG k callerA)
    (F : ∀ base : Heap, K.In base → base.Ns mainGlobals mg → (∀ p ∈ cs, TabB base mg p.1 p.2) → FnG P w K mg base CX k fa fd [x] sp) (hb : ∀ u : Value, BindsTo s fd ⟨[u], []⟩ [(x, u)])
    (hsp : ∀ H : Hp, (∀ p ∈ cs, H p.2 = some (.tbl #[])) → SqL K H a (ns.map V.int) → sp [.ref a] H (fun v _ => v = .bl true) fun _ _ _ => False) (hCX : ∀ H e s', CX [] H s (fun _ _ _ => False) e s' → False) :
    codeAny (model P w) callerA (.call (.ref fa) ⟨[.ref a], []⟩) (fun r s' => r = .ok (.ret (.bool true)) ∧ OldK s.heap s'.heap ∧ s'.os = s.os ∧ AllBare s'.gens) s := by
  have rel := vals_ints hi
  have na : ∀ p ∈ cs, p.2 ≠ a := fun p hp z => by
    have tp := D.tab p hp
    rw [z] at tp
    cases ha.symm.trans tp
  have tabled : ∀ b, (∃ p ∈ cs, b = p.2) → s.heap.get? b = some bare := fun b ⟨p, hp, z⟩ => by
    rw [z]
    exact D.tab p hp
  classical
  let own : Option HO := if K.lookup a = none then some (.frz { cls := .type "list", data := .seq vs.toArray } (.lst (ns.map V.int))) else none
  let H : Hp := fun b => if b = a then own else if ∃ p ∈ cs, b = p.2 then some (.tbl #[]) else none
  have Ha : H a = own := if_pos rfl
  have Ht : ∀ p ∈ cs, H p.2 = some (.tbl #[]) := fun p hp => (if_neg (na p hp)).trans (if_pos ⟨p, hp, rfl⟩)
  have Hid0 : Hid K cs a H := by
    refine ⟨fun b z => ?_, ?_, Ht⟩
    · by_cases y : b = a
      · exact .inl y
      · by_cases y2 : ∃ p ∈ cs, b = p.2
        · exact .inr y2
        · exact (z ((if_neg y).trans (if_neg y2))).elim
    · rw [Ha]
      by_cases y : K.lookup a = none
      · exact .inr ⟨y, _, _, if_pos y⟩
      · exact .inl (if_neg y)
  have seq : SqL K H a (ns.map V.int) := by
    cases y : K.lookup a with
    | none => exact .inl (.inr ⟨_, Ha.trans (if_pos y)⟩)
    | some o =>
      cases (D.kin a o y).symm.trans ha
      exact .inr ⟨_, vs.toArray, _, y, rfl, rfl, rfl, by rw [List.size_toArray, hi.length]; exact hl, by simpa using rel⟩
  have ok : HOk P w H s.heap := fun b u z => by
    by_cases y : b = a
    · subst y
      rw [Ha] at z
      by_cases y2 : K.lookup b = none
      · cases (if_pos y2).symm.trans z
        exact ⟨ha, by rw [List.length_map]; exact hl, vs, _, rel, ha⟩
      · cases (if_neg y2).symm.trans z
    · by_cases y2 : ∃ p ∈ cs, b = p.2
      · cases ((if_neg y).trans (if_pos y2)).symm.trans z
        exact tabled b y2
      · cases ((if_neg y).trans (if_neg y2)).symm.trans z
  exact call_at Hid0 D ha ok hr F (hb _) (hsp H Ht seq) fun e s' => hCX H e s'
end
/-- the whole walk -/
theorem walk_T {l : PySem.W.OpenLaw} {n k : Nat} {q : Program} {loose : List Str} {XP : (Str → Option Value) → Heap → Prop} {YP : World → Heap → Prop} {d : DefRec} {K : Params → PySem.W.Frag} {CX : World → CXT} {x : Str} {cs : List (Addr × Addr)} {sp : World → Sp}
    (hn : l.most = some n) (hn2 : n ≤ sizeLine) (hdf : d.params.defaults = []) (hr : RoomG k callerA) (hY : ∀ (w : World) (h : Heap), YP w h → (K w.params).In h)
    (hT : ∀ (w : World) (h : Heap), YP w h → ∀ p ∈ cs, h.get? p.2 = some bare) (nT : ∀ w : World, ∀ p ∈ cs, (K w.params).lookup p.2 = none) (hC : ∀ w : World, ∀ p ∈ cs, PySem.W.codeHdIn (K w.params) p.1 p.2 = true)
    (F : ∀ (w : World) (mg : Str → Option Value) (fa : Addr) (h : Heap), (K w.params).In h → h.Ns mainGlobals mg → mg d.name = some (.ref fa) → ∃ fd : FuncData, (∀ (s : Shared) (u : Value), BindsTo s fd ⟨[u], []⟩ [(x, u)]) ∧
      ∀ base : Heap, (K w.params).In base → base.Ns mainGlobals mg → (∀ p ∈ cs, TabB base mg p.1 p.2) → FnG l.prog w (K w.params) mg base (CX w) k fa fd [x] (sp w))
    (hsp : ∀ (w : World) (H : Hp) (a : Addr) (ns : List Int), ns.length ≤ n → (∀ p ∈ cs, H p.2 = some (.tbl #[])) → SqL (K w.params) H a (ns.map V.int) → sp w [.ref a] H (fun v _ => v = .bl true) fun _ _ _ => False)
    (hCX : ∀ (w : World) (H : Hp) (s : Shared) (e : Value) (s' : Shared), CX w [] H s (fun _ _ _ => False) e s' → False) :
    PySem.W.WalkO q loose XP YP l.row.toRowW d [] (fun f vs => PySem.call f vs) := by
  refine Att.attach_call hn hdf fun w s₀ s₁ mg mb fa o pm cd doc a vs ns G Y _ _ _ hmg hobj hints hlen hg => ?_
  have kin := hY w _ Y
  obtain ⟨fd, hb, hF⟩ := F w mg fa _ kin G.T.g hmg
  exact call_law ⟨kin, G.T.g, G.T.b, G.T.builtins, G.T.nolimit, hg, hT w _ Y, nT w, fun p hp => PySem.W.codeHd_of_K kin (hC w p hp), G.T.bmain⟩ hobj hints (Nat.le_trans hlen hn2) hr hF (hb s₁) (fun H hH hS => hsp w H a ns hlen hH hS) fun H e s' => hCX w H s₁ e s'
end LamR

namespace KH4
open PySem L2 Evl ExM Dg LamR LamX Told
theorem walk04 {q : Program} {loose : List Str} {XP : (Str → Option Value) → Heap → Prop} {YP : World → Heap → Prop} {d : DefRec} (hdf : d.params.defaults = []) (hd : d.name = ("law" : Str)) (hY : ∀ (w : World) (h : Heap), YP w h → (K04 w.params).In h) (hT : ∀ (w : World) (h : Heap), YP w h → ∀ P ∈ ([458] : List Addr), h.get? P = some (PySem.W.tabObj #[])) :
    PySem.W.WalkO q loose XP YP PySem.Challenge.rw_shortspans_k04_rules_checked.row.toRowW d [] (fun f vs => PySem.call f vs) := by
  refine walk_T (l := PySem.Challenge.rw_shortspans_k04_rules_checked) (n := 63) (k := 10) (K := K04) (CX := fun _ => CX0) (x := "script") (cs := [(460, 458)]) (sp := fun w => spLaw4 (K04 w.params)) rfl (by decide) hdf ⟨⟨rfl, by decide, by decide⟩, rfl⟩ hY
    (fun w h Y p hp => ?_) (fun w p hp => ?_) (fun w p hp => ?_) (fun w mg fa h X G hmg => ?_) (fun w H a ns hl hT hS => ?_) fun _ _ _ _ _ z => z
  · rw [List.mem_singleton.mp hp]
    exact hT w h Y 458 (List.mem_singleton.mpr rfl)
  · rw [List.mem_singleton.mp hp]
    exact (show (K04 w.params).lookup 458 = none by kernel_rfl)
  · rw [List.mem_singleton.mp hp]
    exact (show PySem.W.codeHdIn (K04 w.params) 460 458 = true by kernel_rfl)
  · rw [hd] at hmg
    have e := hmg.symm.trans (PySem.W.mg_of X G (show PySem.W.nsIn (K04 w.params) mainGlobals "law" = some (some (.ref 461)) by kernel_rfl))
    cases e
    exact ⟨_, fun s v => .of_eq rfl, fun base X' G' TB => ok_law04 X G (TB (460, 458) (List.mem_singleton.mpr rfl))⟩
  · exact ⟨a, ns, rfl, hS, hl, fun p hp => by
      rw [List.mem_singleton.mp hp]
      exact .nil (hT (460, 458) (List.mem_singleton.mpr rfl)), fun _ => rfl⟩
end KH4
open PySem PySem.W PyProof.Rows
set_option maxRecDepth 100000 in
set_option maxHeartbeats 0 in
theorem PySem.Challenge.cw_shortspans_k04_rules_checked_holds : PySem.Challenge.rw_shortspans_k04_rules_checked.Holds := by
  refine hd04 ?_
  exact KH4.walk04 rfl rfl (fun w h Y => km_in_of Y) (fun w h Y => km_tabs_of Y)

