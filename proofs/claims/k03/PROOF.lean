import PyProof.Rows.All
import Wide.All
import OpenK.AllK
import Wide.FinOn
import HandS.ForMost
import HandS.ForExc
import KE.KExcSuper
import HandS.ExcInit
import KE.KExcIs
import HandS.IsInst
import HandS.ExcValue
import HandS.TryMany
import HandS.ExcField
import HandS.Deep
import HandS.Lambda
import HandS.EndTab
import KE.KDflt
import HandS.Evl
import KE.KRevSl
import HandS.Wide
import HandS.Words
import PySem.Challenge.RW_shortspans_k03_whole_changed_and_near
set_option Elab.async false
set_option linter.all false
set_option maxRecDepth 100000
set_option maxHeartbeats 0
set_option exponentiation.threshold 100000
/-! Defs that are called where no repr is being made (so that they may call repr). -/
namespace L2
open PySem PySem.Spec PyProof.Rows
/-- room, and no guard stands around -/
structure RoomG (k : Nat) (A : Around) : Prop where
  r : Room k A
  g : A.guards = some []
theorem RoomG.mono {j k : Nat} {A : Around} (r : RoomG k A) (h : j ≤ k) : RoomG j A := ⟨r.r.mono h, r.g⟩
theorem RoomG.deeper {k : Nat} {A : Around} (r : RoomG (k + 1) A) (env : Env) : RoomG k (A.deeper env) := ⟨r.r.deeper env, r.g⟩
structure FnG (P : Program) (w : World) (K : PySem.W.Frag) (mg : Str → Option Value) (base : Heap) (CX : CXT) (k : Nat) (f : Addr) (fd : FuncData) (ps : List Str) (sp : Sp) : Prop where
  len : ∀ vs H Q E, sp vs H Q E → vs.length = ps.length
  run : ∀ (A : Around) (outer : List Env) (s : Shared) (H : Hp) (args : Args) (us : List Value) (vs : List V) (Q : VK) (E : XK), RoomG k A → Env0 P w K mg base A outer s H → BindsTo s fd args (ps.zip us) → Vals vs us → sp vs H Q E →
    codeAny (model P w) A (.call (.ref f) args) (CR CX outer P w H s Q E) s
theorem FnG.of {P : Program} {w : World} {K : PySem.W.Frag} {mg : Str → Option Value} {base : Heap} {CX : CXT} {k : Nat} {f : Addr} {fd : FuncData} {ps : List Str} {sp : Sp} (F : FnOk P w K mg base CX k f fd ps sp) : FnG P w K mg base CX k f fd ps sp :=
  ⟨F.len, fun A outer s H args us vs Q E hr => F.run A outer s H args us vs Q E hr.r⟩
theorem FnG.mono {P : Program} {w : World} {K : PySem.W.Frag} {mg : Str → Option Value} {base : Heap} {CX : CXT} {j k : Nat} {f : Addr} {fd : FuncData} {ps : List Str} {sp : Sp} (F : FnG P w K mg base CX j f fd ps sp) (h : j ≤ k) : FnG P w K mg base CX k f fd ps sp :=
  ⟨F.len, fun A outer s H args us vs Q E hr => F.run A outer s H args us vs Q E (hr.mono h)⟩
theorem FnG.imp {P : Program} {w : World} {K : PySem.W.Frag} {mg : Str → Option Value} {base : Heap} {CX : CXT} {k : Nat} {f : Addr} {fd : FuncData} {ps : List Str} {sp sp' : Sp} (F : FnG P w K mg base CX k f fd ps sp)
    (h : ∀ vs H Q E, sp' vs H Q E → sp vs H Q E) : FnG P w K mg base CX k f fd ps sp' :=
  ⟨fun vs H Q E q => F.len vs H Q E (h _ _ _ _ q), fun A outer s H args us vs Q E hr he hb hv hs => F.run A outer s H args us vs Q E hr he hb hv (h _ _ _ _ hs)⟩
section
variable {X : Cx} {CX : CXT} {k : Nat} {f C : Addr} {fd : FuncData} {ps : List Str} {sp : Sp} {dvs : List V} {ds : List Value} {E : XK} {x m : Str} {p pos apos : Pos} {e o : Expr} {es : List Expr} {ta : TE} {t : TA}
theorem run_fnG {pins : List (Addr × Obj)} {σ : St} {H : Hp} {s : Shared} {Q : VK} {us : List Value} {vs : List V} (F : FnG X.prog X.w X.K X.mg X.base CX k f fd ps sp) (hr : RoomG k X.A) (hb : Binds X.K fd ps ds) (hd : Vals dvs ds) (hx : Passes CX X E)
    (I : Inv X pins σ H s) (r : Vals vs us) (h : sp (vs ++ dvs) H Q E) : wpAny (model X.prog X.w) X.A (call (.ref f) us) (EP X pins σ Q) X.xe s := by
  have r2 : Vals (vs ++ dvs) (us ++ ds) := r.append hd
  have hl : (us ++ ds).length = ps.length := by rw [← r2.length]; exact F.len _ _ _ _ h
  refine wpAny_call (codeAny_mono (F.run X.A X.stack s H ⟨us, []⟩ (us ++ ds) (vs ++ dvs) Q E hr I.env0 (hb s us I.kIn hl) r2 h) fun r s' hq => ?_)
  cases r with
  | error e => exact hx pins σ H s e s' I hq
  | ok fl =>
    cases fl with
    | ret u => exact I.after hq
    | next => exact False.elim hq
    | brk => exact False.elim hq
    | cont => exact False.elim hq
theorem pe_callG (F : FnG X.prog X.w X.K X.mg X.base CX k f fd ps sp) (hr : RoomG k X.A) (hg : Gl X x) (hm : X.mg x = some (.ref f)) (hk : PySem.W.keepIn X.K (.ref f) = true) (hb : Binds X.K fd ps ds) (hd : Vals dvs ds) (hx : Passes CX X E)
    (ha : PA X (e :: es) t) (hdb : (x == ("__debug__" : Str)) = false := by decide) (he : starEach (e :: es) X.env = (false, eval e X.env) :: starEach es X.env := by rfl) (hpl : (backTo pos (starEach es X.env)).any (·.1) = false := by rfl) :
    PE X (.Call (.Name x p) (e :: es) [] pos) (tCall sp dvs E t) := by
  refine ⟨fun pins s σ H Q I h => ?_⟩
  refine wpAny_Call_Name_kw (ld_glob I hg hm ?_ hdb)
  refine PySem.W.callWith_K (h₀ := X.base) I.ok.mod.kin hk (thn (ha.run pos pins s σ H _ I h) fun us s1 ⟨vs, H1, I1, r, q⟩ => ⟨I1.kIn, ?_⟩) he hpl
  exact run_fnG F hr hb hd hx I1 r q
theorem pe_call0G (F : FnG X.prog X.w X.K X.mg X.base CX k f fd ps sp) (hr : RoomG k X.A) (hg : Gl X x) (hm : X.mg x = some (.ref f)) (hk : PySem.W.keepIn X.K (.ref f) = true) (hb : Binds X.K fd ps ds) (hd : Vals dvs ds) (hx : Passes CX X E)
    (hdb : (x == ("__debug__" : Str)) = false := by decide) : PE X (.Call (.Name x p) [] [] pos) (tCall sp dvs E tNil) := by
  refine ⟨fun pins s σ H Q I h => ?_⟩
  refine wpAny_Call_Name_kw (ld_glob I hg hm ?_ hdb)
  exact PySem.W.callWith_K0 I.kIn hk (run_fnG (us := []) F hr hb hd hx I .nil h)
end
theorem fn_ofG {CX : CXT} {P : Program} {w : World} {K : PySem.W.Frag} {mg : Str → Option Value} {base : Heap} {k : Nat} {f : Addr} {name qual : Str} {params : Arguments} {body : List Stmt} {scope : Scope} {dV kV doc pm cdv ct oc : Value} {an od : Option Addr}
    {osl : Array (Option Value)} {N ps : List Str} {sp : Sp} (lk : K.lookup f = some ⟨oc, od, .func (PySem.W.fnOf name qual params body scope dV kV doc pm an cdv ct), osl⟩) (hcd : PySem.W.codeIn K cdv qual = true) (S : FnScope N ps scope)
    (len : ∀ vs H Q E, sp vs H Q E → vs.length = ps.length)
    (hbody : ∀ (A : Around) (outer : List Env) (s : Shared) (H : Hp) (vs : List V) (Q : VK) (E : XK), RoomG k (A.deeper (envOfC qual scope s.heap.objs.size f cdv)) → sp vs H Q E →
      ∃ t, PSs (cxOf CX P w K mg base N qual scope f cdv A outer s H E) body t ∧ t { nx := fun _ H' => Q .non H', rt := Q } (start N vs) H) :
    FnG P w K mg base CX (k + 1) f (PySem.W.fnOf name qual params body scope dV kV doc pm an cdv ct) ps sp := by
  refine ⟨len, fun A outer s H args us vs Q E hr e0 hb r hsp => ?_⟩
  have hl := len _ _ _ _ hsp
  have KX : K.In s.heap := e0.mod.kin.keeps fun b o e => (e0.bs b o e).1
  have lim : s.heap.NoLimit := e0.mod.nolimit.keeps fun b o e => (e0.bs b o e).1
  have hkind : ∀ y ∈ ps.zip us, scope.names.lookup y.1 = some .local ∨ (scope.names.lookup y.1 = some .cell ∧ ((cellsFrom (s.heap.objs.size + 1) scope.names []).lookup y.1).isSome = true) := fun ⟨n, v⟩ hy => by
    rcases S.par n (List.of_mem_zip hy).1 with q | q
    · exact .inl q
    · exact .inr ⟨q, PySem.W.cellsFrom_some _ _ _ (.inl q)⟩
  refine codeAny_call_function hr.r.depth (KX _ _ lk) rfl S.co S.gen rfl (PySem.W.codeRec_of KX hcd) (hb _ _ _ _ ?_)
  refine wpAny_newFunctionEnv_cells S.kind hkind fun env he s1 x => ?_
  subst he
  refine ⟨lim.keeps x.toInCall.keep, codeAny_func ?_⟩
  obtain ⟨t, ht, hq⟩ := hbody A outer s H vs Q E (hr.deeper _) hsp
  have I : Inv (cxOf CX P w K mg base N qual scope f cdv A outer s H E) [] (start N vs) H s1 := inv_start S hr.r.hd e0 hl r x
  refine wpAny_mono (ht.run [] s1 (start N vs) H _ I hq) (fun fl s' hs => ?_) fun e s' hs => hs
  have fin : ∀ {σ' : St} {H' : Hp} {v : V} {u : Value}, Inv (cxOf CX P w K mg base N qual scope f cdv A outer s H E) [] σ' H' s' → RelV v u → Q v H' → CE outer P w H s Q u s' :=
    fun {σ' H' v u} J rv q => ⟨v, H', J.os, J.bare, J.base, J.hok, rv, q⟩
  cases fl with
  | ret u =>
    obtain ⟨v, σ', H', J, rv, q⟩ := hs
    exact fin J rv q
  | next =>
    obtain ⟨σ', H', J, q⟩ := hs
    exact fin (v := V.non) (u := Value.none) J rfl q
  | brk =>
    obtain ⟨_, _, _, q⟩ := hs
    exact False.elim q
  | cont =>
    obtain ⟨_, _, _, q⟩ := hs
    exact False.elim q
section
variable {P : Program} {w : World} {K : PySem.W.Frag} {mg : Str → Option Value} {base : Heap}
theorem Fun.okG {x qual : Str} {st : Stmt} {f : Addr} {fd : FuncData} {N ps : List Str} {k : Nat} {sp : Sp} (F : Fun K x qual st f fd) (S : FnScope N ps (defScope st)) (len : ∀ vs H Q E, sp vs H Q E → vs.length = ps.length)
    (hbody : ∀ (cdv : Value) (A : Around) (outer : List Env) (s : Shared) (H : Hp) (vs : List V) (Q : VK) (E : XK), RoomG k (A.deeper (envOfC qual (defScope st) s.heap.objs.size f cdv)) → sp vs H Q E →
      ∃ t, PSs (cxOf CX0 P w K mg base N qual (defScope st) f cdv A outer s H E).nox (defBody st) t ∧ t { nx := fun _ H' => Q .non H', rt := Q } (start N vs) H) : FnG P w K mg base CX0 (k + 1) f fd ps sp := by
  obtain ⟨oc, od, kV, doc, pm, an, cdv, ct, osl, rfl, lk, hcd⟩ := F.ex
  refine fn_ofG lk hcd S len fun A outer s H vs Q E hr hsp => ?_
  obtain ⟨t, h, q⟩ := hbody cdv A outer s H vs Q E hr hsp
  exact ⟨t, h.nox, q⟩
theorem Fun.okXG {x qual : Str} {st : Stmt} {f : Addr} {fd : FuncData} {N ps : List Str} {k : Nat} {sp : Sp} (F : Fun K x qual st f fd) (S : FnScope N ps (defScope st)) (len : ∀ vs H Q E, sp vs H Q E → vs.length = ps.length)
    (hbody : ∀ (cdv : Value) (A : Around) (outer : List Env) (s : Shared) (H : Hp) (vs : List V) (Q : VK) (E : XK), RoomG k (A.deeper (envOfC qual (defScope st) s.heap.objs.size f cdv)) → sp vs H Q E →
      ∃ t, PSs (cxOf (L2.CX P w) P w K mg base N qual (defScope st) f cdv A outer s H E) (defBody st) t ∧ t { nx := fun _ H' => Q .non H', rt := Q } (start N vs) H) : FnG P w K mg base (L2.CX P w) (k + 1) f fd ps sp := by
  obtain ⟨oc, od, kV, doc, pm, an, cdv, ct, osl, rfl, lk, hcd⟩ := F.ex
  exact fn_ofG lk hcd S len fun A outer s H vs Q E hr hsp => hbody cdv A outer s H vs Q E hr hsp
end
/-! ### the head -/
theorem law_callG {P : Program} {w : World} {K : PySem.W.Frag} {mg mb : Str → Option Value} {CX : CXT} {k : Nat} {fa a : Addr} {fd : FuncData} {x : Str} {sp : Sp} {s₁ : Shared} {vs : List Value} {ns : List Int}
    (KX : K.In s₁.heap) (hns : s₁.heap.Ns mainGlobals mg) (hb : s₁.heap.Ns builtinsNs mb) (hbb : ∀ x : Str, x ≠ "__name__" → mb x = bootBuiltins x) (hlim : s₁.heap.NoLimit) (hg : s₁.gens = #[])
    (ha : s₁.heap.get? a = some { cls := .type "list", data := .seq vs.toArray }) (hi : IntsAre vs ns) (hl : ns.length ≤ sizeLine) (hr : RoomG k callerA)
    (F : ∀ base : Heap, K.In base → base.Ns mainGlobals mg → FnG P w K mg base CX k fa fd [x] sp) (hbind : ∀ (s : Shared) (u : Value), BindsTo s fd ⟨[u], []⟩ [(x, u)])
    (hsp : ∀ H : Hp, Only H → SqL K H a (ns.map V.int) → sp [.ref a] H (fun v _ => v = .bl true) fun _ _ _ => False)
    (hCX : ∀ H e s', CX [] H s₁ (fun _ _ _ => False) e s' → False) :
    codeAny (model P w) callerA (.call (.ref fa) ⟨[.ref a], []⟩) (fun r s' => r = .ok (.ret (.bool true)) ∧ OldK s₁.heap s'.heap ∧ s'.os = s₁.os ∧ AllBare s'.gens) s₁ := by
  have rv := vals_ints hi
  have lenV := hi.length
  have core : ∀ H : Hp, Only H → SqL K H a (ns.map V.int) → HOk P w H s₁.heap → (∀ b, H b ≠ none → b = a) → (H a ≠ none → K.lookup a = none) →
      codeAny (model P w) callerA (.call (.ref fa) ⟨[.ref a], []⟩) (fun r s' => r = .ok (.ret (.bool true)) ∧ OldK s₁.heap s'.heap ∧ s'.os = s₁.os ∧ AllBare s'.gens) s₁ := by
    intro H hO hS hok hA hK
    have base_of : ∀ {b : Addr} {o : Obj}, s₁.heap.get? b = some o → H b = none → (hidT s₁.heap H).get? b = some o := fun e n => hidT_get e n
    have noA : ∀ {b : Addr} {o : Obj} {es : Array DictEntry} {ep : Nat}, s₁.heap.get? b = some o → o.data = .dict es ep → H b = none := fun {b o es ep} e d => by
      cases q : H b with
      | none => rfl
      | some u =>
        have e' : b = a := hA b (by rw [q]; simp)
        subst e'
        rw [ha] at e; cases e
        have d' : Data.seq vs.toArray _ = Data.dict es ep := d
        cases d'
    have nsK : ∀ {b : Addr} {m : Str → Option Value}, s₁.heap.Ns b m → (hidT s₁.heap H).Ns b m := fun {b m} ⟨o, es, ep, e, d, r⟩ => ⟨o, es, ep, base_of e (noA e d), d, r⟩
    have hKb : K.In (hidT s₁.heap H) := fun b o e => base_of (KX b o e) (by
      cases q : H b with
      | none => rfl
      | some u =>
        have e' : b = a := hA b (by rw [q]; simp)
        subst e'
        rw [hK (by rw [q]; simp)] at e; cases e)
    have hM : Mod K mg (hidT s₁.heap H) := ⟨hKb, nsK hns, ⟨mb, nsK hb, hbb⟩, let ⟨mc, h1, h2⟩ := hlim; ⟨mc, nsK h1, h2⟩⟩
    have e0 : Env0 P w K mg (hidT s₁.heap H) callerA [] s₁ H := ⟨rfl, hM, fun b o e => of_hidT e, Nat.le_of_eq (hidT_size _ _), trivial, fun b hb => absurd (show b ∈ ([] : List Addr) from hb) (by simp), hok, .of_eq hg⟩
    refine codeAny_mono ((F _ hKb (nsK hns)).run callerA [] s₁ H ⟨[.ref a], []⟩ [.ref a] [.ref a] _ _ hr e0 (hbind s₁ (.ref a)) (.cons rfl .nil) (hsp H hO hS)) fun r s' h => ?_
    cases r with
    | error e => exact (hCX H e s' h).elim
    | ok fl =>
      cases fl with
      | next => exact False.elim h
      | brk => exact False.elim h
      | cont => exact False.elim h
      | ret u =>
        obtain ⟨v, H', os, bare, un, hok', r', q⟩ := h
        have q' : v = .bl true := q
        subst q'
        obtain rfl : u = Value.bool true := r'
        refine ⟨rfl, OldK.of_keep fun b o e => ?_, os, bare⟩
        cases q : H b with
        | none => exact un.keep b o e q (by intro z; exact absurd (show b ∈ ([] : List Addr) from z) (by simp)) (by simp)
        | some u =>
          rcases hO b with z | ⟨ob, xs, z⟩
          · rw [q] at z; cases z
          · have z2 := un.frzs b ob _ z
            obtain ⟨e1, _⟩ := hok b _ z
            obtain ⟨e2, _⟩ := hok' b _ z2
            rw [e] at e1; cases e1
            exact e2
  cases hk : K.lookup a with
  | some o =>
    have e := KX a o hk
    rw [ha] at e
    cases e
    refine core (fun _ => none) (fun _ => .inl rfl) (.inr ⟨_, vs.toArray, _, hk, rfl, rfl, rfl, by rw [List.size_toArray, lenV]; exact hl, by simpa using rv⟩) (fun b u z => by have z' : (none : Option HO) = some u := z; cases z') (fun b z => absurd rfl z) fun z => absurd rfl z
  | none =>
    refine core (fun b => if b = a then some (.frz { cls := .type "list", data := .seq vs.toArray } (.lst (ns.map V.int))) else none) (fun b => ?_) (.inl (.inr ⟨{ cls := .type "list", data := .seq vs.toArray }, if_pos rfl⟩)) (fun b u z => ?_) (fun b z => ?_) fun _ => hk
    · by_cases hb : b = a
      · exact .inr ⟨_, _, if_pos hb⟩
      · exact .inl (if_neg hb)
    · by_cases hb : b = a
      · have z' := (if_pos hb).symm.trans z
        cases z'
        subst hb
        exact ⟨ha, by rw [List.length_map]; exact hl, vs, _, rv, ha⟩
      · have z' := (if_neg hb).symm.trans z
        cases z'
    · by_cases hb : b = a
      · exact hb
      · exact absurd (if_neg hb) z
theorem walk_ofG {l : PySem.W.OpenLaw} {n k : Nat} {q : Program} {loose : List Str} {XP : (Str → Option Value) → Heap → Prop} {YP : World → Heap → Prop} {d : DefRec} {K : Params → PySem.W.Frag} {CX : World → CXT} {sp : World → Sp} {x : Str}
    (hn : l.most = some n) (hn2 : n ≤ sizeLine) (hdf : d.params.defaults = []) (hr : RoomG k callerA)
    (hY : ∀ (w : World) (h : Heap), YP w h → (K w.params).In h)
    (F : ∀ (w : World) (mg : Str → Option Value) (fa : Addr) (h : Heap), (K w.params).In h → h.Ns mainGlobals mg → mg d.name = some (.ref fa) →
      ∃ fd : FuncData, (∀ (s : Shared) (u : Value), BindsTo s fd ⟨[u], []⟩ [(x, u)]) ∧
        ∀ base : Heap, (K w.params).In base → base.Ns mainGlobals mg → FnG l.prog w (K w.params) mg base (CX w) k fa fd [x] (sp w))
    (hsp : ∀ (w : World) (H : Hp) (a : Addr) (ns : List Int), ns.length ≤ n → Only H → SqL (K w.params) H a (ns.map V.int) → sp w [.ref a] H (fun v _ => v = .bl true) fun _ _ _ => False)
    (hCX : ∀ (w : World) (H : Hp) (s : Shared) (e : Value) (s' : Shared), CX w [] H s (fun _ _ _ => False) e s' → False) :
    PySem.W.WalkO q loose XP YP l.row.toRowW d [] (fun f vs => PySem.call f vs) := by
  refine Att.attach_call hn hdf fun w s₀ s₁ mg mb fa o pm cd doc a vs ns G Y ho hd hcd hmg hobj hints hlen hg => ?_
  have KX := hY w _ Y
  obtain ⟨fd, hb, hF⟩ := F w mg fa _ KX G.T.g hmg
  exact law_callG KX G.T.g G.T.b G.T.builtins G.T.nolimit hg hobj hints (Nat.le_trans hlen hn2) hr hF hb (fun H hO hS => hsp w H a ns hlen hO hS) fun H e s' => hCX w H s₁ e s'
end L2

/-! An own exception class whose __init__ says super().__init__(text) and then stores its arguments: made. -/
namespace ExM
open PySem PySem.W PySem.Calls PyProof.Rows

/-- what stands around a body's globals -/
structure GlobAt (h : Heap) (mg : Str → Option Value) : Prop where
  g : h.Ns mainGlobals mg
  b : ∃ mb, h.Ns builtinsNs mb ∧ mb "super" = some (.type "super")
  s : mg "super" = none
  lim : h.NoLimit
theorem GlobAt.keeps {h h' : Heap} {mg : Str → Option Value} (x : GlobAt h mg) (k : ∀ b o, h.get? b = some o → h'.get? b = some o) : GlobAt h' mg :=
  ⟨x.g.keeps k, let ⟨mb, a, c⟩ := x.b; ⟨mb, a.keeps k, c⟩, x.s, x.lim.keeps k⟩

/-- what the library tells of a built-in __init__ that is the base's -/
structure InF (B i : String) : Prop where
  entry : entryFor table i = some Builtin.«BaseException.__init__»
  kind : builtinKind i = some .slot
  row : Manifest.signature? i = some ⟨.positional, "*", B, .self, [⟨"args", .varPos, false⟩]⟩
  noStar : (B != "*") = true
  plain : plainId i = true
  sup : KxsFacts B i
/-- what the written part says of the class at C and of its __init__ at f (its __class__ cell at cc) -/
structure Ini (K : Frag) (prog : Program) (C f cc : Addr) (qual : Str) (params : Arguments) (body : List Stmt) (scope : Scope) (bmB : List Value) (B newId initId : String) : Prop where
  cls : ∃ nm q N bs bm sn sub ab col dd k0 k1 k2 k3 k5, K.lookup C = some (excClassObj nm q C N bs bm true sn sub ab col dd k0 k1 k2 k3 k5 newId) ∧ excTail bmB bm = true
  new : ∃ Bn initN bmN, ExcBaseFacts Bn newId initN bmN ∧ bmB.contains (.type Bn) = true ∧ bmB.contains (.type "AttributeError") = false ∧ bmB.contains (.type "NameError") = false
  ini : InF B initId
  pass : ∀ self, refuseLoop self "__setattr__" bmB = pure ()
  obj : bmB.contains (.type "object") = true
  sa : findIn K (.ref C) "__setattr__" = some (some (.builtin "object.__setattr__"))
  iC : findIn K (.ref C) "__init__" = some (some (.ref f))
  tF : typeIn K (.ref f) = some (.type "function")
  kC : keepIn K (.ref C) = true
  exC : subIn K (.ref C) (.type "BaseException") = some true
  bC : subIn K (.ref C) (.type B) = some true
  tyC : typeIn K (.ref C) = some (.type "type")
  op : nsIn K cStatics "thirdparty.any" = some none
  al : ks_superIn K C C "__init__" = some (some (.builtin initId))
  fn : ∃ (oc : Value) (od : Option Addr) (kV doc pm : Value) (an : Option Addr) (cda : Addr) (ct : Value) (osl : Array (Option Value)),
    K.lookup f = some ⟨oc, od, .func (ksFn "__init__" qual params body scope .none kV doc pm an (.ref cda) ct cc), osl⟩ ∧ codeIn K (.ref cda) qual = true ∧
    ∃ ccl cdd vs ccs file tf, K.lookup cda = some ⟨ccl, cdd, .fields vs, ccs⟩ ∧ vs[2]? = some (.str file tf) ∧ ((prog.main.file : Str) == file) = true
  cell : ∃ cl cld csl, K.lookup cc = some ⟨cl, cld, .cell (some (.ref C)), csl⟩
  top : (prog.main.scope.names.lookup ("super" : Str)).isSome = false
  sS : scope.names.lookup ("super" : Str) = some .globalImplicit
  sC : scope.names.lookup ("__class__" : Str) = some .free
  sk : scope.kind = .function

section
variable {prog : Program} {w : World} {A : Around} {E : Value → Shared → Prop} {h : Heap} {g : Array GenState} {d : Drawn} {t : Nat} {os : OsState}
variable {K : Frag} {mg : Str → Option Value} {C f cc x L : Addr} {qual : Str} {params : Arguments} {body : List Stmt} {scope : Scope} {bmB : List Value} {B newId initId : String}

theorem Ini.cd (T : Ini K prog C f cc qual params body scope bmB B newId initId) : ∃ cd : ClassData, clsIn K C = some cd ∧ (∃ bm, cd.mro = .ref C :: bm ∧ excTail bmB bm = true) ∧ cd.hasDict = true := by
  obtain ⟨nm, q, N, bs, bm, sn, sub, ab, col, dd, k0, k1, k2, k3, k5, hC, hbm⟩ := T.cls
  exact ⟨{ name := nm, bases := bs, mro := .ref C :: bm, ns := N, qualname := q, hasDict := true, slotNames := sn, subclasses := sub, abstract := ab, collection := col, hasDel := false }, by unfold clsIn; rw [hC] <;> rfl, ⟨bm, rfl, hbm⟩, rfl⟩

/-- super() in the body, self at x, an exception of C without a dict -/
theorem super_made (T : Ini K prog C f cc qual params body scope bmB B newId initId) {cda : Addr} {oc : Value} {od : Option Addr} {kV doc pm ct : Value} {an : Option Addr} {osl : Array (Option Value)} {m : Str → Option Value} {ox : Obj}
    (hf : K.lookup f = some ⟨oc, od, .func (ksFn "__init__" qual params body scope .none kV doc pm an (.ref cda) ct cc), osl⟩)
    (hcda : ∃ ccl cdd vs ccs file tf, K.lookup cda = some ⟨ccl, cdd, .fields vs, ccs⟩ ∧ vs[2]? = some (.str file tf) ∧ ((prog.main.file : Str) == file) = true)
    {ar : Arg} (hp : (params.posonlyargs ++ params.args).head? = some ar) (hka : scope.names.lookup ar.arg = some .local) (X : K.In h) (G : GlobAt h mg) (hn : h.Ns L m) (hv : m ar.arg = some (.ref x)) (hx : h.get? x = some ox) (hc : ox.cls = .ref C) (hd : ∀ c, ox.data ≠ .cls c)
    {bd : List Stmt} {p0 p1 : Pos} {whole : Sem Value} {Q : Value → Shared → Prop}
    (hq : ∀ h', h'.get? h.objs.size = some (ks_superObj C x C) → (∀ b o, h.get? b = some o → h'.get? b = some o) → Q (.ref h.objs.size) ⟨h', g, d, t, os⟩) :
    _root_.PySem.wpAt (model prog w) A (.func bd (ksEnv qual scope L f (.ref cda) cc)) (attributeBase (.Call (.Name "super" p0) [] [] p1) "__init__" (ksEnv qual scope L f (.ref cda) cc) whole) Q E ⟨h, g, d, t, os⟩ := by
  obtain ⟨ccl, cdd, vs, ccs, file, tf, hcode, hvs, hfile⟩ := hcda
  obtain ⟨cl, cld, csl, hcell⟩ := T.cell
  obtain ⟨cd, hcd, ⟨bm, hm, hbm⟩, hh⟩ := T.cd
  obtain ⟨oD, hD1, hD2⟩ : ∃ oD, h.get? C = some oD ∧ oD.data = .cls cd := by
    unfold clsIn at hcd
    split at hcd
    · rename_i c0 d0 cd' sl ho
      cases hcd
      exact ⟨_, X _ _ ho, rfl⟩
    · cases hcd
  have hsub : Looks (model prog w) h (isSubtype (.ref C) (.ref C)) true := looks_mroIn X (by unfold mroIn; rw [hcd, Option.bind_some, hm]; simp)
  obtain ⟨mb, hb, hbs⟩ := G.b
  refine ks_wpAt_super_base (env := ksEnv qual scope L f (.ref cda) cc) T.sS T.sC (by decide) rfl (X _ _ hf) rfl hp rfl (X _ _ hcode) rfl hvs hfile T.top ?_
  refine ks_loadName_global T.sk T.sS (loadGlobal_builtin (env := ksEnv qual scope L f (.ref cda) cc) G.g G.s hb hbs ⟨rfl, ?_⟩)
  refine wpAny_loadName_free T.sk T.sC rfl ⟨_, X _ _ hcell, rfl⟩ ?_
  refine wpAny_loadName_local T.sk hka hn hv ?_
  refine ks_wpAny_isType_cls hD1 hD2 ⟨rfl, ?_⟩
  exact ks_wpAny_call_super hD1 hD2 hx hc hd hsub fun h' e k => hq h' e k

theorem check_bound {M : Model} {B i newId : String} (F : InF B i) {nm q : Str} {C N e : Addr} {oe : Obj} {bs bm : List Value} {hdct : Bool} {sn : List Str} {sub : List Value} {ab : Bool} {col : Option Bool} {dd : Option Addr} {k0 k1 k2 k3 k5 : Option Value} {rest : List Value} {Q : Unit → Shared → Prop}
    (hC : h.get? C = some (excClassObj nm q C N bs bm hdct sn sub ab col dd k0 k1 k2 k3 k5 newId)) (he : h.get? e = some oe) (hcls : oe.cls = .ref C) (hq : Q () ⟨h, g, d, t, os⟩) : wpAny M A (checkBoundCall i ⟨.ref e :: rest, []⟩) Q E ⟨h, g, d, t, os⟩ := by
  have hshort := F.noStar
  simp only [checkBoundCall, F.kind, F.row]
  repeat (first | (with_reducible refine wpAny_loadPart_at he ?_; rw [hcls]) | with_reducible refine wpAny_loadPart_at hC ?_ | wp_step)
  refine wpAny_onRaise ?_
  rw [show ∀ (a b : String) (n : Nat), Bind.check ⟨.positional, "*", B, .self, [⟨"args", .varPos, false⟩]⟩ a b n (List.map (fun x => x.fst) ({ pos := Value.ref e :: rest } : Args).kw) = pure () from
    fun a b n => check_star_args _ _ _ _ _ _]
  exact wpAny_pure hq
/-- the bound __init__ of the built-in base, called: the exception's args are laid anew -/
theorem bound_called (T : Ini K prog C f cc qual params body scope bmB B newId initId) {u t0 : Addr} {dv : Option Addr} {rest : List Value} {Q : Value → Shared → Prop} (X : K.In h)
    (hx : h.get? x = some (excObj C t0 dv .none)) (hu : h.get? u = some (kxs_mw initId x)) (hz : rest.length ≤ sizeLine)
    (hq : ∀ h' t1, (∀ b o, b ≠ x → h.get? b = some o → h'.get? b = some o) → h'.get? x = some (excObj C t1 dv .none) → Q .none ⟨h', g, d, t, os⟩) :
    wpAny (model prog w) A (call (.ref u) rest) Q E ⟨h, g, d, t, os⟩ := by
  obtain ⟨nm, q, N, bs, bm, sn, sub, ab, col, dd, k0, k1, k2, k3, k5, hC, hbm⟩ := T.cls
  have FB := T.ini
  refine wpAny_call (codeAny_of_tree ?_)
  show wpAny _ A.in1 (callAny (.ref u) ⟨rest, []⟩) _ _ _
  simp only [callAny]
  refine wpAny_bind (wpAny_load hu ?_)
  simp only [kxs_mw, show (Value.type "method-wrapper" == Value.type "method" || Value.type "method-wrapper" == Value.type "builtin_function_or_method" || Value.type "method-wrapper" == Value.type "method-wrapper") = true by decide, if_true]
  refine KFB.if_so (by decide) ?_
  refine wpAny_bind (check_bound FB (X _ _ hC) hx rfl ?_)
  refine wpAny_bind (wpAny_pure (wpAny_pure ?_))
  refine ⟨plainId_quiet FB.plain _, codeAny_builtin FB.entry ?_⟩
  exact exc_init_tree (cls := .ref C) (t0 := t0) (dv := dv) (c2 := .none) (c3 := .none) (b4 := .bool false) hx hz fun h' k e' _ => hq h' _ k e'

/-- the statement super().__init__(text) -/
theorem super_said (T : Ini K prog C f cc qual params body scope bmB B newId initId) {cda : Addr} {oc : Value} {od : Option Addr} {kV doc pm ct : Value} {an : Option Addr} {osl : Array (Option Value)} {m : Str → Option Value} {t0 : Addr}
    (hf : K.lookup f = some ⟨oc, od, .func (ksFn "__init__" qual params body scope .none kV doc pm an (.ref cda) ct cc), osl⟩)
    (hcda : ∃ ccl cdd vs ccs file tf, K.lookup cda = some ⟨ccl, cdd, .fields vs, ccs⟩ ∧ vs[2]? = some (.str file tf) ∧ ((prog.main.file : Str) == file) = true)
    {ar : Arg} (hp : (params.posonlyargs ++ params.args).head? = some ar) (hka : scope.names.lookup ar.arg = some .local) (X : K.In h) (G : GlobAt h mg) (hn : h.Ns L m) (hv : m ar.arg = some (.ref x)) (hx : h.get? x = some (excObj C t0 none .none)) (hxL : x ≠ L) (hxK : K.lookup x = none)
    {bd : List Stmt} {p0 p1 p2 p3 p4 p5 : Pos} {msg : Str} {j : Nat} {Q : Flow → Shared → Prop}
    (hq : ∀ h' tk t1, (∀ b o, b ≠ x → h.get? b = some o → h'.get? b = some o) → h'.get? x = some (excObj C t1 none .none) → Q .next ⟨h', g, d, tk, os⟩)
    (hi : interactive (ksEnv qual scope L f (.ref cda) cc) = false) {pl : Sem Bool}
    (hev : eval (.Call (.Attribute (.Call (.Name "super" p0) [] [] p1) "__init__" p2) [.Constant (.str msg) j p3] [] p4) (ksEnv qual scope L f (.ref cda) cc) = (do
      let ov ← attributeBase (.Call (.Name "super" p0) [] [] p1) "__init__" (ksEnv qual scope L f (.ref cda) cc) (eval (.Call (.Name "super" p0) [] [] p1) (ksEnv qual scope L f (.ref cda) cc))
      standAt p2.atName
      let (fx, first) ← holding [ov] (getMethod ov "__init__" pl)
      callWith p4 fx first (backTo p4 (starEach [.Constant (.str msg) j p3] (ksEnv qual scope L f (.ref cda) cc))) [])) :
    _root_.PySem.wpAt (model prog w) A (.func bd (ksEnv qual scope L f (.ref cda) cc))
      (exec (.Expr (.Call (.Attribute (.Call (.Name "super" p0) [] [] p1) "__init__" p2) [.Constant (.str msg) j p3] [] p4) p5) (ksEnv qual scope L f (.ref cda) cc)) Q E ⟨h, g, d, t, os⟩ := by
  refine ks_wpAt_Expr_any ?_ hi rfl
  refine ks_wpAt_MethodCall ?_ hev
  refine super_made T hf hcda hp hka X G hn hv hx rfl (fun c z => by cases z) fun h1 e1 k1 => ?_
  have X1 : K.In h1 := X.keeps k1
  have hx1 := k1 _ _ hx
  obtain ⟨cd, hcd, ⟨bm, hm, hbm⟩, hh⟩ := T.cd
  have I1 : InstAt h1 x (excObj C t0 none .none) C none := ⟨hx1, rfl, rfl, trivial⟩
  have hI : Looks (model prog w) h1 (isInstance (.ref x) (.type B)) true := I1.type.andThen (looks_subIn X1 T.bC)
  have hal : alongIn K "__init__" ((cd.mro.dropWhile (· != .ref C)).drop 1) = some (some (.builtin initId)) := by
    have z := T.al
    unfold ks_superIn at z
    rw [hcd] at z
    exact z
  refine kxs_getMethod T.ini.sup e1 (looks_opaque X1 T.op) (l₀ := cd.mro) (fun A Q E s k q => wpAny_bind ((looks_clsIn X1 hcd) A _ E s k (wpAny_pure q))) rfl X1 hal hI (ks_ne X1 I1 hcd) (by decide) ?_
  have k2 : ∀ b o, h1.get? b = some o → (h1.push (kxs_mw initId x)).get? b = some o := fun b o e => Heap.get?_push_of_some _ e
  have hu : (h1.push (kxs_mw initId x)).get? h1.objs.size = some (kxs_mw initId x) := Heap.get?_push_at rfl rfl
  refine kxs_callWith (i := initId) (x := x) rfl (evalArgs_plain ?_)
  show wpAny _ _ (spliced ((false, eval (.Constant (.str msg) j p3) _) :: backTo p4 (starEach [] _))) _ _ _
  refine Calls.spliced_cons (Calls.Constant_str ?_)
  refine Calls.spliced_nil ⟨hu, ?_⟩
  refine bound_called T (X1.keeps k2) (k2 _ _ hx1) hu (by rw [sizeLine_eq]; exact (by decide : 1 ≤ 16777216)) fun h3 t1 k3 e3 => ?_
  exact hq h3 _ t1 (fun b o hb e => k3 b o hb (k2 b o (k1 b o e))) e3

/-- what a new exception with one dict is: the class at C, its dict at dx -/
structure Own (h h' : Heap) (x C dx : Addr) (m : Str → Option Value) : Prop where
  keep : ∀ b o, b ≠ x → h.get? b = some o → h'.get? b = some o
  obj : ∃ t1, h'.get? x = some (excObj C t1 (some dx) .none)
  dbig : h.objs.size ≤ dx
  dne : dx ≠ x
  ns : h'.Ns1 dx m

section
open Builtin Builtin.ObjectAttr
/-- the built-in store at such an exception -/
theorem store_walk (T : Ini K prog C f cc qual params body scope bmB B newId initId) {name : Str} {tk : Tok} {v : Value} {ox : Obj} {od : Option Obj} {R : Result → Shared → Prop}
    (X : K.In h) (I : InstAt h x ox C od) (ha : findIn K (.ref C) name = some none)
    (hq : wpAny (model prog w) A.in1 (storeInOwnDict (.ref x) (.ref C) (.str name tk) name v false)
      (fun fin s' => match fin with | .done f => R (.ok f) s' | .again c' => c'.quiet = true ∧ codeAny (model prog w) A c' R s') (fun e s' => R (.error e) s') ⟨h, g, d, t, os⟩) :
    codeAny (model prog w) A (.call (.builtin "object.__setattr__") ⟨[.ref x, .str name tk, v], []⟩) R ⟨h, g, d, t, os⟩ := by
  obtain ⟨cd, hcd, ⟨bm, hm, hbm⟩, hh⟩ := T.cd
  have SF := F.store_object
  have hpass : refuseLoop (.ref x) "__setattr__" cd.mro = pure () := by
    rw [hm, refuseLoop_ref]
    exact excTail_pass _ (T.pass _) bm hbm
  have hob : cd.mro.contains (.type "object") = true := by
    rw [hm, List.contains_cons, excTail_contains "object" bm hbm]
    exact Bool.or_eq_true_iff.mpr (.inr (T.obj))
  have sub : Looks (model prog w) h (isInstance (.ref x) (.type "object")) true := I.type.andThen (looks_mroIn X (by unfold mroIn; rw [hcd, Option.bind_some, if_neg (by rw [hm]; exact Bool.false_ne_true), hob]))
  refine codeAny_call_builtin SF.slot.plain SF.entry (@check_slot (model prog w) _ _ ⟨h, g, d, t, os⟩ "object.__setattr__" "object" "__setattr__" (.ref x) [.str name tk, v] [] _ SF.kind SF.split sub (SF.args (.ref x) (.str name tk) v) ?_)
  have hmr : Looks (model prog w) h (mroOf (.ref C)) cd.mro := (looks_clsIn X hcd).andThen .now
  have L3 : Looks (model prog w) h (storeTaker? none) none := .now
  rw [osa_eq, refuse_eq]
  refine wpAny_bind (wpAny_bind (I.type.at (wpAny_bind (hmr.at ?_))))
  rw [hpass]
  exact wpAny_pure (wpAny_bind (I.type.at (wpAny_bind ((looks_findIn X ha).at (wpAny_bind (L3.at hq))))))
/-- self.name = v, the first one -/
theorem store_first (T : Ini K prog C f cc qual params body scope bmB B newId initId) {name : Str} {v : Value} {fv : Array Value} {Q : Unit → Shared → Prop}
    (X : K.In h) (hx : h.get? x = some { cls := .ref C, data := .fields fv }) (ha : findIn K (.ref C) name = some none)
    (hq : ∀ h' tk' dx, (∀ b o, b ≠ x → h.get? b = some o → h'.get? b = some o) → h.objs.size ≤ dx → dx ≠ x → h'.get? x = some { cls := .ref C, dict := some dx, data := .fields fv } →
      h'.Ns1 dx (fun y => if y = name then some v else none) → Q () ⟨h', g, d, tk', os⟩) :
    wpAny (model prog w) A (setAttr (.ref x) name v) Q E ⟨h, g, d, t, os⟩ := by
  obtain ⟨cd, hcd, ⟨bm, hm, hbm⟩, hh⟩ := T.cd
  have I : InstAt h x { cls := .ref C, data := .fields fv } C none := ⟨hx, rfl, rfl, trivial⟩
  have hxs : x ≠ h.objs.size := Nat.ne_of_lt (Heap.lt_size hx)
  have hcls : Looks (model prog w) h (classData C) cd := looks_clsIn X hcd
  refine set_plain X I T.sa (store_walk T X I ha ?_)
  obtain ⟨nm, bs, mro, ns, qn, hd, sn, sb, ab, col, del⟩ := cd
  dsimp only at hh
  subst hh
  unfold storeInOwnDict ownDictForStores
  repeat (first | with_reducible refine HandSPX.store_in_new ?_ ?_ | with_reducible refine wpAny_loadPart_at hx ?_ | with_reducible refine hcls.at ?_ | wp_step)
  · exact ⟨_, #[], _, (Heap.get?_update_ne _ _ _ _ hxs.symm).trans (Heap.get?_push_at rfl rfl), rfl, fun e he => absurd he (by simp), fun _ => rfl⟩
  · intro h' tk' hn' hs
    have hx₁ : (h.push { cls := .type "dict", data := .dict #[] }).get? x = some { cls := .ref C, data := .fields fv } := Heap.get?_push_of_some _ hx
    refine hq h' tk' h.objs.size (fun b o hb ho => ?_) (Nat.le_refl _) hxs.symm ?_ hn'
    · exact (hs.2 b (Nat.ne_of_lt (Heap.lt_size ho))).trans ((Heap.get?_update_ne _ _ _ _ hb).trans (Heap.get?_push_of_some _ ho))
    · exact (hs.2 x hxs).trans (Heap.get?_update_self _ hx₁ rfl)
/-- a further one -/
theorem store_more (T : Ini K prog C f cc qual params body scope bmB B newId initId) {dx : Addr} {name : Str} {v : Value} {fv : Array Value} {m0 : Str → Option Value} {nl : List Str} {Q : Unit → Shared → Prop}
    (X : K.In h) (hx : h.get? x = some { cls := .ref C, dict := some dx, data := .fields fv }) (hns : h.Ns1 dx m0) (hw : Within m0 nl) (hz : nl.length ≤ 1000) (ha : findIn K (.ref C) name = some none)
    (hq : ∀ h' tk', (∀ b o, b ≠ dx → h.get? b = some o → h'.get? b = some o) → h'.Ns1 dx (fun y => if y = name then some v else m0 y) → Q () ⟨h', g, d, tk', os⟩) :
    wpAny (model prog w) A (setAttr (.ref x) name v) Q E ⟨h, g, d, t, os⟩ := by
  obtain ⟨cd, hcd, ⟨bm, hm, hbm⟩, hh⟩ := T.cd
  obtain ⟨oD, esD, epD, hoD, hdD, _⟩ := hns.count hw
  have I : InstAt h x { cls := .ref C, dict := some dx, data := .fields fv } C (some oD) := ⟨hx, rfl, rfl, hoD⟩
  have hcls : Looks (model prog w) h (classData C) cd := looks_clsIn X hcd
  refine set_plain X I T.sa (store_walk T X I ha ?_)
  obtain ⟨nm, bs, mro, ns, qn, hd, sn, sb, ab, col, del⟩ := cd
  dsimp only at hh
  subst hh
  unfold storeInOwnDict ownDictForStores
  repeat (first | with_reducible refine OEX.store_in_old hns hw hz ?_ | with_reducible refine wpAny_loadPart_at hx ?_ | with_reducible refine hcls.at ?_ | wp_step)
  intro h' tk' hn' hs
  exact hq h' tk' (fun b o hb ho => (hs.2 b hb).trans ho) hn'
end

end
end ExM

/-! Own exceptions called with keywords; own exceptions over KeyError (whose __new__ is LookupError's). -/
namespace ExM
open PySem PySem.W PySem.Calls
section
variable {M : Model} {prog : Program} {w : World} {A : Around} {E : Value → Shared → Prop} {R : Result → Shared → Prop} {h : Heap} {g : Array GenState} {d : Drawn} {t : Nat} {os : OsState}
variable {nm q : Str} {C N : Addr} {bs bm bmN : List Value} {hdct : Bool} {sn : List Str} {sub : List Value} {ab : Bool} {col : Option Bool} {dd : Option Addr} {k0 k1 k2 k3 k5 : Option Value} {Bn newId initN : String}
/-- what the class's mro says of the built-in that makes its instances -/
structure NewM (C : Addr) (bm : List Value) (Bn : String) : Prop where
  hb : (Value.ref C :: bm).contains (.type Bn) = true
  ha : (Value.ref C :: bm).contains (.type "AttributeError") = false
  hn : (Value.ref C :: bm).contains (.type "NameError") = false
theorem check_newK (F : ExcBaseFacts Bn newId initN bmN) (m : NewM C bm Bn) {rest : List Value} {kw : List (Str × Value)} {Q : Unit → Shared → Prop}
    (hC : h.get? C = some (excClassObj nm q C N bs bm hdct sn sub ab col dd k0 k1 k2 k3 k5 newId)) (hq : Q () ⟨h, g, d, t, os⟩) : wpAny M A (checkBuiltinCall newId ⟨.ref C :: rest, kw⟩) Q E ⟨h, g, d, t, os⟩ := by
  have hcont := m.hb
  have hstar := F.noStar
  simp only [checkBuiltinCall, F.newKind, F.newSplit, F.newRow]
  repeat (first | refine wpAny_loadPart_at hC ?_ | (refine wpAny_isSubtype_exc hC ?_; rw [hcont]) | refine wpAny_staticBase_exc hC ?_ | refine wpAny_madeBy_exc hC ?_ | simp only [bne_self_eq_false, Bool.false_eq_true, if_false] | wp_step)
  exact hq
theorem newK (F : ExcBaseFacts Bn newId initN bmN) (m : NewM C bm Bn) {rest : List Value} {kw : List (Str × Value)}
    (hC : h.get? C = some (excClassObj nm q C N bs bm hdct sn sub ab col dd k0 k1 k2 k3 k5 newId))
    (hq : R (.ok (.ret (.ref (h.objs.size + 1)))) ⟨(h.push { cls := .type "tuple", data := .seq rest.toArray }).push
      { cls := .ref C, data := .fields #[.ref h.objs.size, .none, .none, .none, .bool false, .none] }, g, d, t, os⟩) (hrest : rest.length ≤ sizeLine) :
    codeAny (model prog w) A (.builtin newId ⟨.ref C :: rest, kw⟩) R ⟨h, g, d, t, os⟩ := by
  have hends := F.ends
  have hcB := m.hb
  have hcA := m.ha
  have hcN := m.hn
  refine codeAny_builtinAt F.entry ?_
  unfold Builtin.«BaseException.__new__»
  refine wpAt_bind ?_
  show wpAt _ _ _ (stack >>= _) _ _ _
  refine wpAt_bind (wpAt_stack fun p below => wpAt_of_wpAny ?_)
  wp_walk
  refine wpAt_of_wpAny ?_
  rw [F.owner]
  repeat (first | with_reducible refine wpAny_madeHere_exc F.canon hC ?_ | with_reducible refine wpAny_loadPart_at hC ?_ | (with_reducible refine wpAny_isSubtype_exc hC ?_; first | rw [hcB] | rw [hcA] | rw [hcN]) | wp_step)
  show R _ _
  rw [Heap.size_push]
  exact hq
theorem type_callK (F : ExcBaseFacts Bn newId initN bmN) (m : NewM C bm Bn) {rest : List Value} {kw : List (Str × Value)} {fI : Addr} {Q : Fin → Shared → Prop}
    (hC : h.get? C = some (excClassObj nm q C N bs bm hdct sn sub ab col dd k0 k1 k2 k3 k5 newId))
    (hi : W.Looks (model prog w) h (typeLookup (.ref C) "__init__") (some (.ref fI))) (hb : ∀ self, W.Looks (model prog w) h (bindSpecial (.ref fI) self) (.ref fI, [self])) (hrest : rest.length ≤ sizeLine)
    (hq : codeAny (model prog w) A (.call (.ref fI) ⟨.ref (h.objs.size + 1) :: rest, kw⟩)
      (fun r s' => match r with | .ok (.ret v) => v = .none ∧ Q (.done (.ret (.ref (h.objs.size + 1)))) s' | .ok _ => False | .error e => E e s')
      ⟨(h.push (W.kdv_tup rest)).push (HandSPX.excO C h.objs.size), g, d, t, os⟩) :
    wpAny (model prog w) A (Builtin.«type.__call__» ⟨.ref C :: rest, kw⟩) Q E ⟨h, g, d, t, os⟩ := by
  repeat (first | with_reducible refine wpAny_loadPart_at hC ?_ | with_reducible refine wpAny_madeBy_exc hC ?_ | wp_step)
  refine codeAny_call_builtin_code (Code.quiet_builtin _ F.quiet) (check_newK F m hC ?_)
  refine newK F m hC ?_ hrest
  show wpAny _ _ _ _ _ _
  have k : ∀ b o, h.get? b = some o → ((h.push (W.kdv_tup rest)).push (HandSPX.excO C h.objs.size)).get? b = some o := fun b o e => Heap.get?_push_of_some _ (Heap.get?_push_of_some _ e)
  have hC₁ := k _ _ hC
  have hget : ((h.push (W.kdv_tup rest)).push (HandSPX.excO C h.objs.size)).get? (h.objs.size + 1) = some (HandSPX.excO C h.objs.size) := by heap_get
  have hcC : (Value.ref C :: bm).contains (.ref C) = true := by simp
  have i1 := hi.keeps k
  have b1 := (hb (.ref (h.objs.size + 1))).keeps k
  unfold isInstance
  repeat (first | with_reducible refine wpAny_loadPart_at hget ?_ | (with_reducible refine wpAny_isSubtype_exc hC₁ ?_; rw [hcC]) | wp_step)
  show wpAny _ _ (typeLookup (.ref C) _) _ _ _
  refine i1.at ?_
  refine wpAny_holding (wpAny_bind (b1.at ?_))
  refine wpAny_bind (wpAny_call (codeAny_mono hq fun r s' z => ?_))
  rcases r with e | (v | _ | _ | _) <;> first | exact z | exact z.elim | skip
  obtain ⟨rfl, z⟩ := z
  first
    | exact wpAny_pure (wpAny_pure z)
    | (wp_walk; exact z)
theorem check_typeK {rest : List Value} {kw : List (Str × Value)} {Q : Unit → Shared → Prop} (hC : h.get? C = some (excClassObj nm q C N bs bm hdct sn sub ab col dd k0 k1 k2 k3 k5 newId))
    (hq : Q () ⟨h, g, d, t, os⟩) : wpAny M A (checkBuiltinCall "type.__call__" ⟨.ref C :: rest, kw⟩) Q E ⟨h, g, d, t, os⟩ := by
  have f3 := tc_sub
  have hT : (⟨h, g, d, t, os⟩ : Shared).TypeIs (.ref C) "type" := ⟨_, hC, rfl⟩
  simp only [checkBuiltinCall, tc_kind, tc_split]
  repeat (any_goals (first | assumption | with_reducible refine wpAny_loadPart_at hC ?_ | with_reducible refine wpAny_onRaise ?_ | with_reducible refine wpAny_map ?_ | wp_step))
theorem call_K (F : ExcBaseFacts Bn newId initN bmN) (m : NewM C bm Bn) {rest : List Value} {kw : List (Str × Value)} {fI : Addr}
    (hC : h.get? C = some (excClassObj nm q C N bs bm hdct sn sub ab col dd k0 k1 k2 k3 k5 newId))
    (hi : W.Looks (model prog w) h (typeLookup (.ref C) "__init__") (some (.ref fI))) (hb : ∀ self, W.Looks (model prog w) h (bindSpecial (.ref fI) self) (.ref fI, [self])) (hrest : rest.length ≤ sizeLine)
    (hq : codeAny (model prog w) (A.under (.builtin "type.__call__" ⟨.ref C :: rest, kw⟩)) (.call (.ref fI) ⟨.ref (h.objs.size + 1) :: rest, kw⟩) (W.InitBack (h.objs.size + 1) R)
      ⟨(h.push (W.kdv_tup rest)).push (HandSPX.excO C h.objs.size), g, d, t, os⟩) :
    codeAny (model prog w) A (.call (.ref C) ⟨rest, kw⟩) R ⟨h, g, d, t, os⟩ := by
  have f1 := tc_lookup
  have f2 := tc_bind (.ref C)
  have hTy : (⟨h, g, d, t, os⟩ : Shared).TypeIs (.ref C) "type" := ⟨_, hC, rfl⟩
  refine codeAny_of_tree ?_
  show wpAny _ _ (callAny (.ref C) _) _ _ _
  repeat (any_goals (first | assumption | with_reducible refine wpAny_loadPart_at hC ?_ | wp_step))
  refine ⟨rfl, ?_⟩
  refine codeAny_call_builtin_at (Code.quiet_builtin _ (by decide +kernel)) entry_typeCall (check_typeK hC (type_callK F m hC hi hb hrest ?_))
  refine codeAny_mono hq fun r s' z => ?_
  rcases r with e | (v | _ | _ | _) <;> exact z
end
end ExM

namespace ExM
open PySem PySem.W PySem.Calls PyProof.Rows
section
variable {prog : Program} {w : World} {A : Around} {E : Value → Shared → Prop} {s : Shared}
variable {K : Frag} {mg : Str → Option Value} {C f cc x L : Addr} {qual : Str} {scope : Scope} {bmB : List Value} {B newId initId : String}

abbrev supSt (msg : Str) (j : Nat) (p0 p1 p2 p3 p4 p5 : Pos) : Stmt := .Expr (.Call (.Attribute (.Call (.Name "super" p0) [] [] p1) "__init__" p2) [.Constant (.str msg) j p3] [] p4) p5
abbrev putSt (fld : Str) (q1 q2 q3 q4 : Pos) : Stmt := .Assign [.Attribute (.Name "self" q1) fld q2] (.Name fld q3) q4
/-- what is computed of the scope -/
structure Sc (scope : Scope) (params : Arguments) (flds : List Str) : Prop where
  self : scope.names.lookup ("self" : Str) = some .local
  fl : ∀ y ∈ flds, scope.names.lookup y = some .local
  nc : ∀ y ∈ scope.names, y.2 ≠ .cell
  co : scope.isCoroutine = false
  gen : scope.isGenerator = false
  hd : ∃ ar, (params.posonlyargs ++ params.args).head? = some ar ∧ ar.arg = "self"
  nd : ∀ y ∈ flds, y ≠ "self" ∧ (y == ("__debug__" : Str)) = false
/-- super().__init__ is evaluated so -/
def Ev (qual : Str) (scope : Scope) (f cc : Addr) (msg : Str) (j : Nat) (p0 p1 p2 p3 p4 : Pos) : Prop := ∀ (L : Addr) (cd : Value), interactive (ksEnv qual scope L f cd cc) = false ∧ ∃ pl : Sem Bool,
  eval (.Call (.Attribute (.Call (.Name "super" p0) [] [] p1) "__init__" p2) [.Constant (.str msg) j p3] [] p4) (ksEnv qual scope L f cd cc) = (do
      let ov ← attributeBase (.Call (.Name "super" p0) [] [] p1) "__init__" (ksEnv qual scope L f cd cc) (eval (.Call (.Name "super" p0) [] [] p1) (ksEnv qual scope L f cd cc))
      standAt p2.atName
      let (fx, first) ← holding [ov] (getMethod ov "__init__" pl)
      callWith p4 fx first (backTo p4 (starEach [.Constant (.str msg) j p3] (ksEnv qual scope L f cd cc))) [])

theorem ld_local {M : Model} {cd : Value} {m : Str → Option Value} {y : Str} {pos : Pos} {v : Value} {Q : Value → Shared → Prop} (hn : s.heap.Ns L m) (hv : m y = some v) (hk : scope.kind = .function) (hl : scope.names.lookup y = some .local) (hd : (y == ("__debug__" : Str)) = false) (h : Q v s) :
    wpAny M A (eval (.Name y pos) (ksEnv qual scope L f cd cc)) Q E s := wpAny_Name (wpAny_loadName_local hk hl hn hv h) hd

variable {params : Arguments} {msg fld : Str} {j : Nat} {p0 p1 p2 p3 p4 p5 q1 q2 q3 q4 : Pos}
/-- __init__ of one field, run on a fresh exception -/
theorem init_one (T : Ini K prog C f cc qual params [supSt msg j p0 p1 p2 p3 p4 p5, putSt fld q1 q2 q3 q4] scope bmB B newId initId) (S : Sc scope params [fld]) (V : Ev qual scope f cc msg j p0 p1 p2 p3 p4) (hno : findIn K (.ref C) fld = some none)
    {t0 : Addr} {v : Value} {args : Args} {R : Result → Shared → Prop} (X : K.In s.heap) (G : GlobAt s.heap mg) (hx : s.heap.get? x = some (excObj C t0 none .none)) (hxK : K.lookup x = none) (hroom : A.depth < recursionLimit)
    (hb : ∀ (kV doc pm : Value) (an : Option Addr) (cdv ct : Value), BindsTo s (ksFn "__init__" qual params [supSt msg j p0 p1 p2 p3 p4 p5, putSt fld q1 q2 q3 q4] scope .none kV doc pm an cdv ct cc) args [(("self" : Str), .ref x), (fld, v)])
    (hq : ∀ h' tk dx, Own s.heap h' x C dx (fun y => if y = fld then some v else none) → R (.ok (.ret .none)) { s with heap := h', toks := tk }) :
    codeAny (model prog w) A (.call (.ref f) args) R s := by
  obtain ⟨oc, od, kV, doc, pm, an, cda, ct, osl, ho, hcd, hcda⟩ := T.fn
  obtain ⟨ar, har, hself⟩ := S.hd
  have hfn := S.nd fld (by simp)
  obtain ⟨hp, g, d, t, os⟩ := s
  refine ks_codeAny_call_defAt (fd := ksFn "__init__" qual params [supSt msg j p0 p1 p2 p3 p4 p5, putSt fld q1 q2 q3 q4] scope .none kV doc pm an (.ref cda) ct cc) (body := [supSt msg j p0 p1 p2 p3 p4 p5, putSt fld q1 q2 q3 q4]) hroom (X _ _ ho) rfl G.lim (codeRec_of X hcd) rfl (hb _ _ _ _ _ _) S.nc
    (fun y hy => ?_) (fun h0 hns k0 => ?_) S.co S.gen T.sk
  · rcases List.mem_cons.mp hy with rfl | hy
    · exact S.self
    · rcases List.mem_cons.mp hy with rfl | hy
      · exact S.fl _ (by simp)
      · exact absurd hy (by simp)
  have X0 : K.In h0 := X.keeps k0
  have G0 := G.keeps k0
  have hx0 := k0 _ _ hx
  have hxL : x ≠ hp.objs.size := Nat.ne_of_lt (Heap.lt_size hx)
  have m1 : (fun y => ([(("self" : Str), Value.ref x), (fld, v)] : List (Str × Value)).reverse.lookup y) "self" = some (Value.ref x) := by
    have e : (("self" : Str) == fld) = false := by simpa using fun z => hfn.1 z.symm
    simp [List.lookup, e]
  have m2 : (fun y => ([(("self" : Str), Value.ref x), (fld, v)] : List (Str × Value)).reverse.lookup y) fld = some v := by simp [List.lookup]
  obtain ⟨hin, pl, hev⟩ := V hp.objs.size (.ref cda)
  refine ks_wpAt_execs_cons ?_
  refine super_said T (g := g) (d := d) (os := os) (t := t + [(("self" : Str), Value.ref x), (fld, v)].length) ho hcda har (by rw [hself]; exact S.self) X0 G0 hns (by rw [hself]; exact m1) hx0 hxL hxK (fun h1 tk1 t1 k1 e1 => ?_) hin hev
  refine _root_.PySem.wpAt_of_wpAny ?_
  have X1 : K.In h1 := fun b o e => k1 b o (fun z => by rw [z, hxK] at e; cases e) (X0 b o e)
  have hns1 : h1.Ns hp.objs.size (fun y => ([(("self" : Str), Value.ref x), (fld, v)] : List (Str × Value)).reverse.lookup y) := by
    obtain ⟨o, es, ep, a, b⟩ := hns
    exact ⟨o, es, ep, k1 _ _ (Ne.symm hxL) a, b⟩
  refine wpAny_execs_cons (plainObj_wpAny_Assign_Attribute ?_)
  refine ld_local hns1 m2 T.sk (S.fl _ (by simp)) hfn.2 (ld_local hns1 m1 T.sk S.self (by decide) ?_)
  refine store_first T X1 e1 hno fun h2 tk2 dx k2 dn dne e2 n2 => ?_
  refine wpAny_execs_nil ?_
  have hz : hp.objs.size ≤ h1.objs.size := by
    obtain ⟨o, es, ep, a, b⟩ := hns1
    exact Nat.le_of_lt (Heap.lt_size a)
  exact hq h2 tk2 dx ⟨fun b o hb e => k2 b o hb (k1 b o hb (k0 b o e)), ⟨t1, e2⟩, Nat.le_trans hz dn, dne, n2⟩

/-- __init__ without a field -/
theorem init_none (T : Ini K prog C f cc qual params [supSt msg j p0 p1 p2 p3 p4 p5] scope bmB B newId initId) (S : Sc scope params []) (V : Ev qual scope f cc msg j p0 p1 p2 p3 p4)
    {t0 : Addr} {args : Args} {R : Result → Shared → Prop} (X : K.In s.heap) (G : GlobAt s.heap mg) (hx : s.heap.get? x = some (excObj C t0 none .none)) (hxK : K.lookup x = none) (hroom : A.depth < recursionLimit)
    (hb : ∀ (kV doc pm : Value) (an : Option Addr) (cdv ct : Value), BindsTo s (ksFn "__init__" qual params [supSt msg j p0 p1 p2 p3 p4 p5] scope .none kV doc pm an cdv ct cc) args [(("self" : Str), .ref x)])
    (hq : ∀ h' tk t1, (∀ b o, b ≠ x → s.heap.get? b = some o → h'.get? b = some o) → h'.get? x = some (excObj C t1 none .none) → R (.ok (.ret .none)) { s with heap := h', toks := tk }) :
    codeAny (model prog w) A (.call (.ref f) args) R s := by
  obtain ⟨oc, od, kV, doc, pm, an, cda, ct, osl, ho, hcd, hcda⟩ := T.fn
  obtain ⟨ar, har, hself⟩ := S.hd
  obtain ⟨hp, g, d, t, os⟩ := s
  refine ks_codeAny_call_defAt (fd := ksFn "__init__" qual params [supSt msg j p0 p1 p2 p3 p4 p5] scope .none kV doc pm an (.ref cda) ct cc) (body := [supSt msg j p0 p1 p2 p3 p4 p5]) hroom (X _ _ ho) rfl G.lim (codeRec_of X hcd) rfl (hb _ _ _ _ _ _) S.nc
    (fun y hy => ?_) (fun h0 hns k0 => ?_) S.co S.gen T.sk
  · rcases List.mem_cons.mp hy with rfl | hy
    · exact S.self
    · exact absurd hy (by simp)
  have hx0 := k0 _ _ hx
  have hxL : x ≠ hp.objs.size := Nat.ne_of_lt (Heap.lt_size hx)
  have m1 : (fun y => ([(("self" : Str), Value.ref x)] : List (Str × Value)).reverse.lookup y) "self" = some (Value.ref x) := by simp [List.lookup]
  obtain ⟨hin, pl, hev⟩ := V hp.objs.size (.ref cda)
  refine ks_wpAt_execs_cons ?_
  refine super_said T (g := g) (d := d) (os := os) (t := t + [(("self" : Str), Value.ref x)].length) ho hcda har (by rw [hself]; exact S.self) (X.keeps k0) (G.keeps k0) hns (by rw [hself]; exact m1) hx0 hxL hxK (fun h1 tk1 t1 k1 e1 => ?_) hin hev
  refine _root_.PySem.wpAt_of_wpAny (wpAny_execs_nil ?_)
  exact hq h1 tk1 t1 (fun b o hb e => k1 b o hb (k0 b o e)) e1
variable {fld2 : Str} {r1 r2 r3 r4 : Pos}
/-- __init__ of two fields -/
theorem init_two (T : Ini K prog C f cc qual params [supSt msg j p0 p1 p2 p3 p4 p5, putSt fld q1 q2 q3 q4, putSt fld2 r1 r2 r3 r4] scope bmB B newId initId) (S : Sc scope params [fld, fld2]) (V : Ev qual scope f cc msg j p0 p1 p2 p3 p4) (hno : findIn K (.ref C) fld = some none)
    (hno2 : findIn K (.ref C) fld2 = some none) (hff : fld ≠ fld2)
    {t0 : Addr} {v v2 : Value} {args : Args} {R : Result → Shared → Prop} (X : K.In s.heap) (G : GlobAt s.heap mg) (hx : s.heap.get? x = some (excObj C t0 none .none)) (hxK : K.lookup x = none) (hroom : A.depth < recursionLimit)
    (hb : ∀ (kV doc pm : Value) (an : Option Addr) (cdv ct : Value), BindsTo s (ksFn "__init__" qual params [supSt msg j p0 p1 p2 p3 p4 p5, putSt fld q1 q2 q3 q4, putSt fld2 r1 r2 r3 r4] scope .none kV doc pm an cdv ct cc) args [(("self" : Str), .ref x), (fld, v), (fld2, v2)])
    (hq : ∀ h' tk dx, Own s.heap h' x C dx (fun y => if y = fld2 then some v2 else if y = fld then some v else none) → R (.ok (.ret .none)) { s with heap := h', toks := tk }) :
    codeAny (model prog w) A (.call (.ref f) args) R s := by
  obtain ⟨oc, od, kV, doc, pm, an, cda, ct, osl, ho, hcd, hcda⟩ := T.fn
  obtain ⟨ar, har, hself⟩ := S.hd
  have hf1 := S.nd fld (by simp)
  have hf2 := S.nd fld2 (by simp)
  obtain ⟨hp, g, d, t, os⟩ := s
  refine ks_codeAny_call_defAt (fd := ksFn "__init__" qual params [supSt msg j p0 p1 p2 p3 p4 p5, putSt fld q1 q2 q3 q4, putSt fld2 r1 r2 r3 r4] scope .none kV doc pm an (.ref cda) ct cc)
    (body := [supSt msg j p0 p1 p2 p3 p4 p5, putSt fld q1 q2 q3 q4, putSt fld2 r1 r2 r3 r4]) hroom (X _ _ ho) rfl G.lim (codeRec_of X hcd) rfl (hb _ _ _ _ _ _) S.nc
    (fun y hy => ?_) (fun h0 hns k0 => ?_) S.co S.gen T.sk
  · rcases List.mem_cons.mp hy with rfl | hy
    · exact S.self
    · rcases List.mem_cons.mp hy with rfl | hy
      · exact S.fl _ (by simp)
      · rcases List.mem_cons.mp hy with rfl | hy
        · exact S.fl _ (by simp)
        · exact absurd hy (by simp)
  have X0 : K.In h0 := X.keeps k0
  have hx0 := k0 _ _ hx
  have hxL : x ≠ hp.objs.size := Nat.ne_of_lt (Heap.lt_size hx)
  have e1' : (("self" : Str) == fld) = false := by simpa using fun z => hf1.1 z.symm
  have e2' : (("self" : Str) == fld2) = false := by simpa using fun z => hf2.1 z.symm
  have e3' : (fld == fld2) = false := by simpa using hff
  have m1 : (fun y => ([(("self" : Str), Value.ref x), (fld, v), (fld2, v2)] : List (Str × Value)).reverse.lookup y) "self" = some (Value.ref x) := by simp [List.lookup, e1', e2']
  have m2 : (fun y => ([(("self" : Str), Value.ref x), (fld, v), (fld2, v2)] : List (Str × Value)).reverse.lookup y) fld = some v := by simp [List.lookup, e3']
  have m3 : (fun y => ([(("self" : Str), Value.ref x), (fld, v), (fld2, v2)] : List (Str × Value)).reverse.lookup y) fld2 = some v2 := by simp [List.lookup]
  obtain ⟨hin, pl, hev⟩ := V hp.objs.size (.ref cda)
  refine ks_wpAt_execs_cons ?_
  refine super_said T (g := g) (d := d) (os := os) (t := t + [(("self" : Str), Value.ref x), (fld, v), (fld2, v2)].length) ho hcda har (by rw [hself]; exact S.self) X0 (G.keeps k0) hns (by rw [hself]; exact m1) hx0 hxL hxK (fun h1 tk1 t1 k1 e1 => ?_) hin hev
  refine _root_.PySem.wpAt_of_wpAny ?_
  have X1 : K.In h1 := fun b o e => k1 b o (fun z => by rw [z, hxK] at e; cases e) (X0 b o e)
  have hns1 : h1.Ns hp.objs.size (fun y => ([(("self" : Str), Value.ref x), (fld, v), (fld2, v2)] : List (Str × Value)).reverse.lookup y) := by
    obtain ⟨o, es, ep, a, b⟩ := hns
    exact ⟨o, es, ep, k1 _ _ (Ne.symm hxL) a, b⟩
  refine wpAny_execs_cons (plainObj_wpAny_Assign_Attribute ?_)
  refine ld_local hns1 m2 T.sk (S.fl _ (by simp)) hf1.2 (ld_local hns1 m1 T.sk S.self (by decide) ?_)
  refine store_first T X1 e1 hno fun h2 tk2 dx k2 dn dne e2 n2 => ?_
  have X2 : K.In h2 := fun b o e => k2 b o (fun z => by rw [z, hxK] at e; cases e) (X1 b o e)
  have hz : hp.objs.size < h1.objs.size := by
    obtain ⟨o, es, ep, a, b⟩ := hns1
    exact Heap.lt_size a
  have hns2 : h2.Ns hp.objs.size (fun y => ([(("self" : Str), Value.ref x), (fld, v), (fld2, v2)] : List (Str × Value)).reverse.lookup y) := by
    obtain ⟨o, es, ep, a, b⟩ := hns1
    exact ⟨o, es, ep, k2 _ _ (Ne.symm hxL) a, b⟩
  refine wpAny_execs_cons (plainObj_wpAny_Assign_Attribute ?_)
  refine ld_local hns2 m3 T.sk (S.fl _ (by simp)) hf2.2 (ld_local hns2 m1 T.sk S.self (by decide) ?_)
  have hw : Within (fun y => if y = fld then some v else none) [fld] := Within.cons fld v Within.nil
  refine store_more T X2 e2 n2 hw (show 1 ≤ 1000 by decide) hno2 fun h3 tk3 k3 n3 => ?_
  refine wpAny_execs_nil ?_
  have nd : ∀ {b : Addr} {o : Obj}, h1.get? b = some o → b ≠ dx := fun {b o} e => Nat.ne_of_lt (Nat.lt_of_lt_of_le (Heap.lt_size e) dn)
  exact hq h3 tk3 dx ⟨fun b o hb e => k3 b o (nd (k1 b o hb (k0 b o e))) (k2 b o hb (k1 b o hb (k0 b o e))), ⟨t1, k3 _ _ (Ne.symm dne) e2⟩, Nat.le_trans (Nat.le_of_lt hz) dn, dne, n3⟩

/-- a made exception: all that stood stands -/
structure Made (h h' : Heap) (e C : Addr) (d : Option Addr) (m : Str → Option Value) : Prop where
  keep : ∀ b o, h.get? b = some o → h'.get? b = some o
  new : h.objs.size ≤ e
  obj : ∃ t1, h'.get? e = some (excObj C t1 d .none)
  dict : ∀ dx, d = some dx → h.objs.size ≤ dx ∧ dx ≠ e ∧ h'.Ns1 dx m
theorem call_made {us : List Value} {kw : List (Str × Value)} {body : List Stmt} (T : Ini K prog C f cc qual params body scope bmB B newId initId) (X : K.In s.heap) (hz : us.length ≤ sizeLine) {R : Result → Shared → Prop} {dopt : Option Addr → Prop} {m : Str → Option Value}
    (hrun : ∀ (h0 : Heap), (∀ b o, s.heap.get? b = some o → h0.get? b = some o) → h0.objs.size = s.heap.objs.size + 2 → K.lookup (s.heap.objs.size + 1) = none → h0.get? (s.heap.objs.size + 1) = some (excObj C s.heap.objs.size none .none) →
      ∀ R' : Result → Shared → Prop, (∀ h' tk d, dopt d → (∀ b o, b ≠ s.heap.objs.size + 1 → h0.get? b = some o → h'.get? b = some o) → (∃ t1, h'.get? (s.heap.objs.size + 1) = some (excObj C t1 d .none)) →
          (∀ dx, d = some dx → h0.objs.size ≤ dx ∧ dx ≠ s.heap.objs.size + 1 ∧ h'.Ns1 dx m) → R' (.ok (.ret .none)) { s with heap := h', toks := tk }) →
        codeAny (model prog w) (A.under (.builtin "type.__call__" ⟨.ref C :: us, kw⟩)) (.call (.ref f) ⟨.ref (s.heap.objs.size + 1) :: us, kw⟩) R' { s with heap := h0 })
    (hq : ∀ h' tk e d, dopt d → Made s.heap h' e C d m → R (.ok (.ret (.ref e))) { s with heap := h', toks := tk }) :
    codeAny (model prog w) A (.call (.ref C) ⟨us, kw⟩) R s := by
  obtain ⟨nm, q, N, bs, bm, sn, sub, ab, col, dd, k0, k1, k2, k3, k5, hC, hbm⟩ := T.cls
  obtain ⟨Bn, initN, bmN, FB, c1, c2, c3⟩ := T.new
  have M : NewM C bm Bn := ⟨by rw [List.contains_cons, excTail_contains Bn bm hbm, c1, Bool.or_true], by rw [List.contains_cons, excTail_contains "AttributeError" bm hbm, c2]; rfl, by rw [List.contains_cons, excTail_contains "NameError" bm hbm, c3]; rfl⟩
  obtain ⟨hp, g, dr, tk, os⟩ := s
  have k : ∀ b o, hp.get? b = some o → ((hp.push (kdv_tup us)).push (HandSPX.excO C hp.objs.size)).get? b = some o := fun b o e => Heap.get?_push_of_some _ (Heap.get?_push_of_some _ e)
  have hget : ((hp.push (kdv_tup us)).push (HandSPX.excO C hp.objs.size)).get? (hp.objs.size + 1) = some (HandSPX.excO C hp.objs.size) := by heap_get
  have hnx : K.lookup (hp.objs.size + 1) = none := by
    cases e : K.lookup (hp.objs.size + 1) with
    | none => rfl
    | some o => exact absurd (Nat.lt_of_succ_lt (Heap.lt_size (X _ _ e))) (Nat.lt_irrefl _)
  have hsz : ((hp.push (kdv_tup us)).push (HandSPX.excO C hp.objs.size)).objs.size = hp.objs.size + 2 := by rw [Heap.size_push, Heap.size_push]
  refine call_K FB M (X _ _ hC) (looks_findIn X T.iC) (fun self => bind_fn X self T.tF) hz ?_
  refine hrun _ k hsz hnx hget _ fun h' tk' d hd k' hx' hdict => ?_
  refine ⟨rfl, hq h' tk' (hp.objs.size + 1) d hd ⟨fun b o e => k' b o (Nat.ne_of_lt (Nat.lt_succ_of_lt (Heap.lt_size e))) (k b o e), Nat.le_succ _, hx', fun dx e => ?_⟩⟩
  obtain ⟨a, b, c⟩ := hdict dx e
  rw [hsz] at a
  exact ⟨Nat.le_trans (Nat.le_add_right _ 2) a, b, c⟩
/-- how the arguments are given: by place, or by the fields' names -/
inductive ArgOk : List Str → Args → List Value → Prop
  | pos {flds : List Str} {us : List Value} (h : us.length = flds.length) : ArgOk flds ⟨us, []⟩ us
  | kw1 {f : Str} {v : Value} : ArgOk [f] ⟨[], [(f, v)]⟩ [v]
  | kw2 {f f2 : Str} {v v2 : Value} : ArgOk [f, f2] ⟨[], [(f2, v2), (f, v)]⟩ [v, v2]
theorem ArgOk.pz {flds : List Str} {a : Args} {us : List Value} (h : ArgOk flds a us) (hf : flds.length ≤ 2) : a.pos.length ≤ sizeLine := by
  rw [sizeLine_eq]
  cases h with
  | pos h => show us.length ≤ _; omega
  | kw1 => exact Nat.zero_le _
  | kw2 => exact Nat.zero_le _
theorem ArgOk.len {flds : List Str} {a : Args} {us : List Value} (h : ArgOk flds a us) : us.length = flds.length := by
  cases h with
  | pos h => exact h
  | kw1 => rfl
  | kw2 => rfl
theorem made_one (T : Ini K prog C f cc qual params [supSt msg j p0 p1 p2 p3 p4 p5, putSt fld q1 q2 q3 q4] scope bmB B newId initId) (S : Sc scope params [fld]) (V : Ev qual scope f cc msg j p0 p1 p2 p3 p4) (hno : findIn K (.ref C) fld = some none)
    {a : Args} {v : Value} {R : Result → Shared → Prop} (ha : ArgOk [fld] a [v]) (X : K.In s.heap) (G : GlobAt s.heap mg) (hroom : A.depth + 1 < recursionLimit)
    (hb : ∀ (s' : Shared) (x : Addr) (kV doc pm : Value) (an : Option Addr) (cdv ct : Value), BindsTo s' (ksFn "__init__" qual params [supSt msg j p0 p1 p2 p3 p4 p5, putSt fld q1 q2 q3 q4] scope .none kV doc pm an cdv ct cc) ⟨.ref x :: a.pos, a.kw⟩ [(("self" : Str), .ref x), (fld, v)])
    (hq : ∀ h' tk e d, Made s.heap h' e C (some d) (fun y => if y = fld then some v else none) → R (.ok (.ret (.ref e))) { s with heap := h', toks := tk }) :
    codeAny (model prog w) A (.call (.ref C) a) R s := by
  refine call_made (us := a.pos) (kw := a.kw) (dopt := fun d => ∃ dx, d = some dx) (m := fun y => if y = fld then some v else none) T X (ha.pz (show 1 ≤ 2 by decide)) (fun h0 k0 hsz hnx hx R' hR => ?_) (fun h' tk e d ⟨dx, hd⟩ M => by subst hd; exact hq h' tk e dx M)
  refine init_one T S V hno (s := { s with heap := h0 }) (X.keeps k0) (G.keeps k0) hx hnx ?_ (fun _ _ _ _ _ _ => hb _ _ _ _ _ _ _ _) fun h' tk dx O => ?_
  · show A.depth + 1 < recursionLimit
    exact hroom
  · exact hR h' tk (some dx) ⟨dx, rfl⟩ O.keep O.obj fun dy e => by cases e; exact ⟨O.dbig, O.dne, O.ns⟩
theorem made_two (T : Ini K prog C f cc qual params [supSt msg j p0 p1 p2 p3 p4 p5, putSt fld q1 q2 q3 q4, putSt fld2 r1 r2 r3 r4] scope bmB B newId initId) (S : Sc scope params [fld, fld2]) (V : Ev qual scope f cc msg j p0 p1 p2 p3 p4) (hno : findIn K (.ref C) fld = some none)
    (hno2 : findIn K (.ref C) fld2 = some none) (hff : fld ≠ fld2) {a : Args} {v v2 : Value} {R : Result → Shared → Prop} (ha : ArgOk [fld, fld2] a [v, v2]) (X : K.In s.heap) (G : GlobAt s.heap mg) (hroom : A.depth + 1 < recursionLimit)
    (hb : ∀ (s' : Shared) (x : Addr) (kV doc pm : Value) (an : Option Addr) (cdv ct : Value), BindsTo s' (ksFn "__init__" qual params [supSt msg j p0 p1 p2 p3 p4 p5, putSt fld q1 q2 q3 q4, putSt fld2 r1 r2 r3 r4] scope .none kV doc pm an cdv ct cc) ⟨.ref x :: a.pos, a.kw⟩ [(("self" : Str), .ref x), (fld, v), (fld2, v2)])
    (hq : ∀ h' tk e d, Made s.heap h' e C (some d) (fun y => if y = fld2 then some v2 else if y = fld then some v else none) → R (.ok (.ret (.ref e))) { s with heap := h', toks := tk }) :
    codeAny (model prog w) A (.call (.ref C) a) R s := by
  refine call_made (us := a.pos) (kw := a.kw) (dopt := fun d => ∃ dx, d = some dx) (m := fun y => if y = fld2 then some v2 else if y = fld then some v else none) T X (ha.pz (show 2 ≤ 2 by decide)) (fun h0 k0 hsz hnx hx R' hR => ?_) (fun h' tk e d ⟨dx, hd⟩ M => by subst hd; exact hq h' tk e dx M)
  refine init_two T S V hno hno2 hff (s := { s with heap := h0 }) (X.keeps k0) (G.keeps k0) hx hnx ?_ (fun _ _ _ _ _ _ => hb _ _ _ _ _ _ _ _) fun h' tk dx O => ?_
  · show A.depth + 1 < recursionLimit
    exact hroom
  · exact hR h' tk (some dx) ⟨dx, rfl⟩ O.keep O.obj fun dy e => by cases e; exact ⟨O.dbig, O.dne, O.ns⟩
theorem made_none (T : Ini K prog C f cc qual params [supSt msg j p0 p1 p2 p3 p4 p5] scope bmB B newId initId) (S : Sc scope params []) (V : Ev qual scope f cc msg j p0 p1 p2 p3 p4)
    {a : Args} {R : Result → Shared → Prop} (ha : ArgOk [] a []) (X : K.In s.heap) (G : GlobAt s.heap mg) (hroom : A.depth + 1 < recursionLimit)
    (hb : ∀ (s' : Shared) (x : Addr) (kV doc pm : Value) (an : Option Addr) (cdv ct : Value), BindsTo s' (ksFn "__init__" qual params [supSt msg j p0 p1 p2 p3 p4 p5] scope .none kV doc pm an cdv ct cc) ⟨.ref x :: a.pos, a.kw⟩ [(("self" : Str), .ref x)])
    (hq : ∀ h' tk e, Made s.heap h' e C none (fun _ => none) → R (.ok (.ret (.ref e))) { s with heap := h', toks := tk }) :
    codeAny (model prog w) A (.call (.ref C) a) R s := by
  refine call_made (us := a.pos) (kw := a.kw) (dopt := fun d => d = none) (m := fun _ => none) T X (ha.pz (by decide)) (fun h0 k0 hsz hnx hx R' hR => ?_) (fun h' tk e d hd M => by subst hd; exact hq h' tk e M)
  refine init_none T S V (s := { s with heap := h0 }) (X.keeps k0) (G.keeps k0) hx hnx ?_ (fun _ _ _ _ _ _ => hb _ _ _ _ _ _ _ _) fun h' tk t1 kk e1 => ?_
  · show A.depth + 1 < recursionLimit
    exact hroom
  · exact hR h' tk none rfl kk ⟨t1, e1⟩ fun dy e => by cases e
end
end ExM

/-! Own exceptions as values: made, raised, caught by a clause over a tuple of classes, kept, asked. -/
namespace L2
open PySem PySem.Spec PyProof.Rows ExM

/-- at e: an exception of the class cls, its own dict d -/
def exv (e : Addr) (cls : Value) (d : Option Addr) : HO := .ext fun h => ∃ (oe : Obj) (vs : Array Value), h.get? e = some oe ∧ Zc cls d oe ∧ oe.data = .fields vs
theorem exv_ok {P : Program} {w : World} {H : Hp} {h : Heap} {e : Addr} {cls : Value} {d : Option Addr} {oe : Obj} {vs : Array Value} (he : h.get? e = some oe) (hz : Zc cls d oe) (hd : oe.data = .fields vs) : ObjOk P w H h e (exv e cls d) :=
  ⟨⟨oe, vs, he, hz, hd⟩, ⟨oe, he⟩, fun _ _ ⟨o, v, q, r⟩ k => ⟨o, v, k o q, r⟩⟩
theorem exv_at {P : Program} {w : World} {H : Hp} {h : Heap} {e : Addr} {cls : Value} {d : Option Addr} (hok : HOk P w H h) (he : H e = some (exv e cls d)) : ∃ (oe : Obj) (vs : Array Value), h.get? e = some oe ∧ Zc cls d oe ∧ oe.data = .fields vs := by
  have x : ObjOk P w H h e (.ext fun h => ∃ (oe : Obj) (vs : Array Value), h.get? e = some oe ∧ Zc cls d oe ∧ oe.data = .fields vs) := hok e _ he
  exact x.1

/-- calling the class at C with as many values as fields makes an exception that holds them (the last field first) -/
structure Mks (prog : Program) (K : PySem.W.Frag) (mg : Str → Option Value) (C : Addr) (flds : List Str) : Prop where
  call : ∀ (w : World) (A : Around) (s : Shared) (a : Args) (us : List Value) (R : Result → Shared → Prop), ArgOk flds a us → K.In s.heap → GlobAt s.heap mg → A.depth + 1 < recursionLimit →
    (∀ h' tk e d m, Made s.heap h' e C d m → (flds = [] ↔ d = none) → (∀ f, m f = (flds.zip us).reverse.lookup f) → R (.ok (.ret (.ref e))) { s with heap := h', toks := tk }) → codeAny (model prog w) A (.call (.ref C) a) R s
  kC : PySem.W.keepIn K (.ref C) = true
  exC : PySem.W.subIn K (.ref C) (.type "BaseException") = some true
  tyC : PySem.W.typeIn K (.ref C) = some (.type "type")

abbrev PV : Str × V → Str × Value → Prop := fun p q => p.1 = q.1 ∧ RelV p.2 q.2
theorem relO_look : ∀ {ps : List (Str × V)} {qs : List (Str × Value)}, Paired PV ps qs → ∀ f, RelO (ps.lookup f) (qs.lookup f)
  | _, _, .nil, _ => True.intro
  | _, _, .cons (a := p) (b := q) r t, f => by
    obtain ⟨g, v⟩ := p
    obtain ⟨g', u⟩ := q
    obtain ⟨e, r⟩ := r
    dsimp only at e r
    subst e
    by_cases h : f = g
    · subst h
      simp only [List.lookup, beq_self_eq_true]
      exact r
    · have e : (f == g) = false := by simpa using h
      simpa [List.lookup, e] using relO_look t f
theorem pv_zip : ∀ {fs : List Str} {vs : List V} {us : List Value}, Vals vs us → Paired PV (fs.zip vs) (fs.zip us)
  | [], _, _, _ => by simpa using Paired.nil
  | _ :: _, _, _, .nil => by simpa using Paired.nil
  | _ :: _, _, _, .cons r t => .cons ⟨rfl, r⟩ (pv_zip t)
theorem paired_app {α β : Type} {F : α → β → Prop} : ∀ {a : List α} {b : List β} {c : List α} {d : List β}, Paired F a b → Paired F c d → Paired F (a ++ c) (b ++ d)
  | _, _, _, _, .nil, s => s
  | _, _, _, _, .cons r t, s => .cons r (paired_app t s)
theorem paired_rev {α β : Type} {F : α → β → Prop} : ∀ {a : List α} {b : List β}, Paired F a b → Paired F a.reverse b.reverse
  | _, _, .nil => .nil
  | _, _, .cons r t => by
    rw [List.reverse_cons, List.reverse_cons]
    exact paired_app (paired_rev t) (.cons r .nil)
theorem relO_rev {fs : List Str} {vs : List V} {us : List Value} (r : Vals vs us) (hl : vs.length = fs.length) (f : Str) : RelO ((fs.zip vs).reverse.lookup f) ((fs.zip us).reverse.lookup f) := relO_look (paired_rev (pv_zip r)) f

section
variable {X : Cx} {pins : List (Addr × Obj)} {σ : St} {H : Hp} {s : Shared}
theorem Inv.globAt (I : Inv X pins σ H s) (hs : X.mg "super" = none) : GlobAt s.heap X.mg := by
  obtain ⟨mb, h1, h2⟩ := I.mod.blt
  exact ⟨I.mod.glob.keeps I.bk, ⟨mb, h1.keeps I.bk, (h2 "super" (by decide)).trans (by decide +kernel)⟩, hs, I.nolimit⟩
end

section
variable {X : Cx} {C : Addr} {x : Str} {flds : List Str} {es : List Expr} {e : Expr} {ta : TA} {p pos : Pos} {k : Nat}
/-- C(e, ..) for a raise: its dict alone is told -/
def tMks (C : Addr) (flds : List Str) (ta : TA) : St → Hp → XK → Prop := fun σ H Q => ta σ H fun vs H1 => vs.length = flds.length ∧ ∀ d, H1 d = none → Q (.ref C) (some d) (upd H1 d (.xd (flds.zip vs).reverse))
theorem pmk_mks (T : Mks X.prog X.K X.mg C flds) (hs : X.mg "super" = none) (hr : Room k X.A) (hne : flds ≠ []) (ha : PA X (e :: es) ta) (hg : Gl X x) (hm : X.mg x = some (.ref C)) (hdb : (x == ("__debug__" : Str)) = false := by decide)
    (he : starEach (e :: es) X.env = (false, eval e X.env) :: starEach es X.env := by rfl) (hpl : (backTo pos (starEach es X.env)).any (·.1) = false := by rfl) :
    PMk X (.Call (.Name x p) (e :: es) [] pos) (tMks C flds ta) := by
  intro pins s σ H Q I h
  refine wpAny_Call_Name_kw (ld_glob I hg hm ?_ hdb)
  refine PySem.W.callWith_K (h₀ := X.base) I.ok.mod.kin T.kC (thn (ha.run pos pins s σ H _ I h) fun us s1 ⟨vs, H1, I1, r1, hl, q1⟩ => ⟨I1.kIn, ?_⟩) he hpl
  show wpAny _ _ (call (.ref C) us) _ _ _
  have hlu : us.length = flds.length := r1.length.symm.trans hl
  refine wpAny_call (T.call _ _ _ _ us _ (.pos hlu) I1.kIn (I1.globAt hs) (by have := hr.dp; omega) fun h' tk' e d m M hd hmm => ?_)
  show MkP X pins σ Q (.ref e) _
  obtain ⟨d, rfl⟩ : ∃ dd, d = some dd := by
    cases d with
    | none => exact absurd (hd.mpr rfl) hne
    | some dd => exact ⟨dd, rfl⟩
  obtain ⟨t1, hoe⟩ := M.obj
  obtain ⟨db, dne, hns⟩ := M.dict d rfl
  obtain ⟨hp, g, dr, tk, os⟩ := s1
  obtain ⟨G, g1, g2⟩ := restrict h' fun b => decide (b ≠ e)
  have gk : ∀ b, b ≠ e → G.get? b = h'.get? b := fun b hb => g1 b (decide_eq_true hb)
  have ge : G.get? e = none := g2 e (by simp)
  have old : ∀ b o, hp.get? b = some o → G.get? b = some o := fun b o q => (gk b (Nat.ne_of_lt (Nat.lt_of_lt_of_le (Heap.lt_size q) M.new))).trans (M.keep b o q)
  have ob : ObjOk X.prog X.w (upd H1 d (.xd (flds.zip vs).reverse)) G d (.xd (flds.zip vs).reverse) :=
    ⟨_, hns.at (fun o q => (gk d dne).trans q), fun f => by rw [hmm f]; exact relO_rev r1 hl f⟩
  have J : Inv X pins σ (upd H1 d (.xd (flds.zip vs).reverse)) ⟨G, g, dr, tk', os⟩ := I1.laid (t' := tk') old db ob
  refine ⟨e, _, _, ⟨G, g, dr, tk', os⟩, _, .ref C, some d, rfl, J, fun b o q => ?_, ge, hoe, ⟨rfl, rfl⟩, rfl, rfl, ?_, rfl, I1.bare, raises_own T.exC T.tyC, q1 d (I1.hok.fresh db)⟩
  · by_cases hb : b = e
    · rw [hb, ge] at q
      cases q
    · exact (gk b hb).symm.trans q
  · rw [upd_ne (Ne.symm dne)]
    exact I1.hok.fresh M.new
/-- C() for a raise -/
theorem pmk_mks0 (T : Mks X.prog X.K X.mg C []) (hs : X.mg "super" = none) (hr : Room k X.A) (hg : Gl X x) (hm : X.mg x = some (.ref C)) (hdb : (x == ("__debug__" : Str)) = false := by decide) :
    PMk X (.Call (.Name x p) [] [] pos) (fun σ H Q => Q (.ref C) none H) := by
  intro pins s σ H Q I h
  refine wpAny_Call_Name_kw (ld_glob I hg hm ?_ hdb)
  refine PySem.W.callWith_K0 I.kIn T.kC ?_
  refine wpAny_call (T.call _ _ _ _ [] _ (.pos rfl) I.kIn (I.globAt hs) (by have := hr.dp; omega) fun h' tk' e d m M hd hmm => ?_)
  show MkP X pins σ Q (.ref e) _
  obtain rfl : d = none := hd.mp rfl
  obtain ⟨t1, hoe⟩ := M.obj
  have na : H e = none := I.hok.fresh M.new
  have nn : s.heap.get? e = none := by
    cases q : s.heap.get? e with
    | none => rfl
    | some o => exact absurd (Nat.lt_of_lt_of_le (Heap.lt_size q) M.new) (Nat.lt_irrefl _)
  exact ⟨e, _, _, s, _, .ref C, none, rfl, I, M.keep, nn, hoe, ⟨rfl, rfl⟩, rfl, rfl, na, rfl, I.bare, raises_own T.exC T.tyC, h⟩
/-- C(e, ..) as a value: the exception is kept -/
def tMkv (C : Addr) (flds : List Str) (ta : TA) : TE := fun σ H Q => ta σ H fun vs H1 => vs.length = flds.length ∧ ∀ e d, H1 e = none → H1 d = none → d ≠ e → Q (.ref e) (upd (upd H1 d (.xd (flds.zip vs).reverse)) e (exv e (.ref C) (some d)))
theorem pe_mkv (T : Mks X.prog X.K X.mg C flds) (hs : X.mg "super" = none) (hr : Room k X.A) (hne : flds ≠ []) (ha : PA X (e :: es) ta) (hg : Gl X x) (hm : X.mg x = some (.ref C)) (hdb : (x == ("__debug__" : Str)) = false := by decide)
    (he : starEach (e :: es) X.env = (false, eval e X.env) :: starEach es X.env := by rfl) (hpl : (backTo pos (starEach es X.env)).any (·.1) = false := by rfl) :
    PE X (.Call (.Name x p) (e :: es) [] pos) (tMkv C flds ta) := by
  refine ⟨fun pins s σ H Q I h => ?_⟩
  refine wpAny_Call_Name_kw (ld_glob I hg hm ?_ hdb)
  refine PySem.W.callWith_K (h₀ := X.base) I.ok.mod.kin T.kC (thn (ha.run pos pins s σ H _ I h) fun us s1 ⟨vs, H1, I1, r1, hl, q1⟩ => ⟨I1.kIn, ?_⟩) he hpl
  show wpAny _ _ (call (.ref C) us) _ _ _
  have hlu : us.length = flds.length := r1.length.symm.trans hl
  refine wpAny_call (T.call _ _ _ _ us _ (.pos hlu) I1.kIn (I1.globAt hs) (by have := hr.dp; omega) fun h' tk' e d m M hd hmm => ?_)
  obtain ⟨d, rfl⟩ : ∃ dd, d = some dd := by
    cases d with
    | none => exact absurd (hd.mpr rfl) hne
    | some dd => exact ⟨dd, rfl⟩
  obtain ⟨t1, hoe⟩ := M.obj
  obtain ⟨db, dne, hns⟩ := M.dict d rfl
  obtain ⟨hp, g, dr, tk, os⟩ := s1
  obtain ⟨G, g1, g2⟩ := restrict h' fun b => decide (b ≠ e)
  have gk : ∀ b, b ≠ e → G.get? b = h'.get? b := fun b hb => g1 b (decide_eq_true hb)
  have ge : G.get? e = none := g2 e (by simp)
  have gs : ∀ b o, G.get? b = some o → h'.get? b = some o := fun b o q => by
    by_cases hb : b = e
    · rw [hb, ge] at q
      cases q
    · exact (gk b hb).symm.trans q
  have old : ∀ b o, hp.get? b = some o → G.get? b = some o := fun b o q => (gk b (Nat.ne_of_lt (Nat.lt_of_lt_of_le (Heap.lt_size q) M.new))).trans (M.keep b o q)
  have ob : ObjOk X.prog X.w (upd H1 d (.xd (flds.zip vs).reverse)) G d (.xd (flds.zip vs).reverse) :=
    ⟨_, hns.at (fun o q => (gk d dne).trans q), fun f => by rw [hmm f]; exact relO_rev r1 hl f⟩
  have J : Inv X pins σ (upd H1 d (.xd (flds.zip vs).reverse)) ⟨G, g, dr, tk', os⟩ := I1.laid (t' := tk') old db ob
  have ne1 : H1 e = none := I1.hok.fresh M.new
  have ne2 : (upd H1 d (.xd (flds.zip vs).reverse)) e = none := by
    rw [upd_ne (Ne.symm dne)]
    exact ne1
  exact ⟨.ref e, _, J.laidN (t' := tk') gs ge ne2 (exv_ok hoe ⟨rfl, rfl⟩ rfl), rfl, q1 e d ne1 (I1.hok.fresh db) dne⟩
theorem pe_mkv0 (T : Mks X.prog X.K X.mg C []) (hs : X.mg "super" = none) (hr : Room k X.A) (hg : Gl X x) (hm : X.mg x = some (.ref C)) (hdb : (x == ("__debug__" : Str)) = false := by decide) :
    PE X (.Call (.Name x p) [] [] pos) (fun σ H Q => ∀ e, H e = none → Q (.ref e) (upd H e (exv e (.ref C) none))) := by
  refine ⟨fun pins s σ H Q I h => ?_⟩
  refine wpAny_Call_Name_kw (ld_glob I hg hm ?_ hdb)
  refine PySem.W.callWith_K0 I.kIn T.kC ?_
  refine wpAny_call (T.call _ _ _ _ [] _ (.pos rfl) I.kIn (I.globAt hs) (by have := hr.dp; omega) fun h' tk' e d m M hd hmm => ?_)
  obtain rfl : d = none := hd.mp rfl
  obtain ⟨t1, hoe⟩ := M.obj
  have na : H e = none := I.hok.fresh M.new
  exact ⟨.ref e, _, I.laid (t' := tk') M.keep M.new (exv_ok hoe ⟨rfl, rfl⟩ rfl), rfl, h e na⟩
/-- C(f = e) -/
def tMkvK (C : Addr) (flds : List Str) (g : List V → List V) (ta : TA) : TE := fun σ H Q => ta σ H fun vs H1 => vs.length = flds.length ∧ ∀ e d, H1 e = none → H1 d = none → d ≠ e → Q (.ref e) (upd (upd H1 d (.xd (flds.zip (g vs)).reverse)) e (exv e (.ref C) (some d)))
theorem mkv_end {pins : List (Addr × Obj)} {σ : St} {H1 : Hp} {Q : VK} {s1 : Shared} {a : Args} {us : List Value} {vs : List V} (T : Mks X.prog X.K X.mg C flds) (hs : X.mg "super" = none) (hr : Room k X.A) (hne : flds ≠ []) (I1 : Inv X pins σ H1 s1) (r1 : Vals vs us) (ha : ArgOk flds a us)
    (q1 : ∀ e d, H1 e = none → H1 d = none → d ≠ e → Q (.ref e) (upd (upd H1 d (.xd (flds.zip vs).reverse)) e (exv e (.ref C) (some d)))) :
    wpAny (model X.prog X.w) X.A (call (.ref C) a.pos a.kw) (EP X pins σ Q) X.xe s1 := by
  have hl : vs.length = flds.length := r1.length.trans ha.len
  refine wpAny_call (T.call _ _ _ _ us _ ha I1.kIn (I1.globAt hs) (by have := hr.dp; omega) fun h' tk' e d m M hd hmm => ?_)
  obtain ⟨d, rfl⟩ : ∃ dd, d = some dd := by
    cases d with
    | none => exact absurd (hd.mpr rfl) hne
    | some dd => exact ⟨dd, rfl⟩
  obtain ⟨t1, hoe⟩ := M.obj
  obtain ⟨db, dne, hns⟩ := M.dict d rfl
  obtain ⟨hp, g, dr, tk, os⟩ := s1
  obtain ⟨G, g1, g2⟩ := restrict h' fun b => decide (b ≠ e)
  have gk : ∀ b, b ≠ e → G.get? b = h'.get? b := fun b hb => g1 b (decide_eq_true hb)
  have ge : G.get? e = none := g2 e (by simp)
  have gs : ∀ b o, G.get? b = some o → h'.get? b = some o := fun b o q => by
    by_cases hb : b = e
    · rw [hb, ge] at q
      cases q
    · exact (gk b hb).symm.trans q
  have old : ∀ b o, hp.get? b = some o → G.get? b = some o := fun b o q => (gk b (Nat.ne_of_lt (Nat.lt_of_lt_of_le (Heap.lt_size q) M.new))).trans (M.keep b o q)
  have ob : ObjOk X.prog X.w (upd H1 d (.xd (flds.zip vs).reverse)) G d (.xd (flds.zip vs).reverse) :=
    ⟨_, hns.at (fun o q => (gk d dne).trans q), fun f => by rw [hmm f]; exact relO_rev r1 hl f⟩
  have J : Inv X pins σ (upd H1 d (.xd (flds.zip vs).reverse)) ⟨G, g, dr, tk', os⟩ := I1.laid (t' := tk') old db ob
  have ne1 : H1 e = none := I1.hok.fresh M.new
  have ne2 : (upd H1 d (.xd (flds.zip vs).reverse)) e = none := by
    rw [upd_ne (Ne.symm dne)]
    exact ne1
  exact ⟨.ref e, _, J.laidN (t' := tk') gs ge ne2 (exv_ok hoe ⟨rfl, rfl⟩ rfl), rfl, q1 e d ne1 (I1.hok.fresh db) dne⟩
end
end L2

namespace L2
open PySem PySem.Spec PyProof.Rows ExM
section
variable {X : Cx} {pins : List (Addr × Obj)} {σ : St} {H : Hp} {s : Shared}
/-- a pinned object that was not there at the entry is tracked from now on -/
theorem Inv.track {a : Addr} {oe : Obj} {o : HO} (I : Inv X ((a, oe) :: pins) σ H s) (n0 : X.s_0.heap.get? a = none) (hp : ∀ p ∈ X.pn ++ pins, p.1 ≠ a) (hk : ∀ v, oe.data ≠ .cell v) (new : ObjOk X.prog X.w (upd H a o) s.heap a o) : Inv X pins σ (upd H a o) s := by
  obtain ⟨ea, na, nL, nF, _⟩ := I.pin (a, oe) (List.mem_append_right _ List.mem_cons_self)
  dsimp only at ea na nL nF
  have sub : ∀ p ∈ X.pn ++ pins, p ∈ X.pn ++ (a, oe) :: pins := fun p hp => (List.mem_append.mp hp).elim (List.mem_append_left _) fun z => List.mem_append_right _ (List.mem_cons_of_mem _ z)
  have old : ∀ b u, X.s_0.heap.get? b = some u → b ≠ a := fun b u e z => by
    rw [z, n0] at e
    cases e
  refine ⟨I.ok, I.os, I.bare, ⟨I.base.keep, I.base.slot, fun b u e n hx => ?_, I.base.there, fun b xs e => ?_, fun b u v e => ?_, fun b ps e => ?_⟩, I.loc, I.cell, ?_, fun x c e => ?_, fun p h => ?_, fun b u e => ?_, I.len⟩
  · rw [upd_ne (old b u e)]
    exact I.base.free b u e n hx
  · have q := I.base.tups b xs e
    rw [upd_ne (ne_of_none q na)]
    exact q
  · have q := I.base.frzs b u v e
    rw [upd_ne (ne_of_none q na)]
    exact q
  · obtain ⟨m, q⟩ := I.base.tbls b ps e
    exact ⟨m, by rw [upd_ne (ne_of_none q na)]; exact q⟩
  · rw [upd_ne (Ne.symm nL)]
    exact I.free
  · have hc : c ≠ a := fun z => by
      obtain ⟨v, oc, hoc, hd⟩ := I.cell x c e
      rw [z, ea] at hoc
      cases hoc
      exact hk v hd
    rw [upd_ne hc]
    exact I.freeC x c e
  · obtain ⟨e, n, ne, nf, d⟩ := I.pin p (sub p h)
    exact ⟨e, by rw [upd_ne (hp p h)]; exact n, ne, nf, d⟩
  · by_cases hb : b = a
    · subst hb
      rw [upd_same] at e
      cases e
      exact new
    · rw [upd_ne hb] at e
      exact (I.hok b u e).stay (fun _ _ _ q => q) (fun c q => by rw [upd_ne (ne_of_none q na)]; exact q) fun c xs q => by rw [upd_ne (ne_of_none q na)]; exact q
end

/-- what the clause 'except (c1, .., c4) as n' wishes: behind the suite the exception is an object that is kept -/
def wAsT (K : PySem.W.Frag) (cs : List Value) (i : Nat) (ts : Addr → Value → Option Addr → TS) (Wout : WX) (D : Ends) : WX := fun cls d σ H =>
  ∃ b, PySem.W.exmAny K cls cs = some b ∧ (b = true → ∀ a, H a = none → ts a cls d { nx := fun σ' H' => D.nx (σ'.set i none) (upd H' a (exv a cls d)), rt := fun _ _ => False } (σ.set i (some (.ref a))) H) ∧
    (b = false → Wout cls d σ H)
/-- a global class, as an expression of a clause -/
inductive NamesT (X : Cx) : List Expr → List Value → Prop
  | nil : NamesT X [] []
  | cons {x : Str} {c : Addr} {np : Pos} {es : List Expr} {cs : List Value} (hg : Gl X x) (hm : X.mg x = some (.ref c)) (hd : (x == ("__debug__" : Str)) = false) (r : NamesT X es cs) : NamesT X (.Name x np :: es) (.ref c :: cs)
theorem NamesT.run {X : Cx} {pins : List (Addr × Obj)} {σ : St} {H : Hp} {s : Shared} {A : Around} {E : Value → Shared → Prop} {pos : Pos} (hk : X.env.scope.kind = .function) (hgl : s.heap.Ns X.env.globals X.mg) : ∀ {es : List Expr} {cs : List Value}, NamesT X es cs → ∀ {Q : List Value → Shared → Prop}, Q cs s →
    wpAny (model X.prog X.w) A (spliced (backTo pos (starEach es X.env))) Q E s
  | _, _, .nil, _, q => Calls.spliced_nil q
  | _, _, .cons (x := x) (c := c) (np := np) (es := es) hg hm hd r, Q, q => by
    rw [show starEach (.Name x np :: es) X.env = (false, eval (.Name x np) X.env) :: starEach es X.env from rfl]
    show wpAny _ _ (spliced ((false, eval (.Name x np) X.env) :: backTo pos (starEach es X.env))) _ _ s
    refine Calls.spliced_cons (Calls.Name_function_global hk hg (Calls.loadGlobal_global hgl hm ?_) hd)
    exact NamesT.run (pins := pins) (σ := σ) (H := H) hk hgl r q
section
variable {X : Cx} {n : Str} {i kx : Nat} {body suite : List Stmt} {b₀ : Stmt} {tpos pos pos' : Pos} {es : List Expr} {c1 c2 c3 c4 : Value} {tb : WX → TS} {ts : Addr → Value → Option Addr → TS} {Wout : WX}
theorem ps_try_asT (hs : X.stack = X.env :: X.outer) (hf : X.env.frame = some X.env.locals) (hN : X.N.Nodup) (hi : X.N[i]? = some n) (hln : X.env.kindOf n = some .local) (hc : NamesT X es [c1, c2, c3, c4]) (hex : X.ex = []) (tk : Takes X Wout)
    (hb : ∀ (W : WX) (pn : List (Addr × Obj)) (xe : Value → Shared → Prop), Takes (X.tr pn xe) W → PassesOwn (model X.prog X.w) X.A X.env xe → PSs (X.tr pn xe) body (tb W))
    (hsu : ∀ (a : Addr) (oe : Obj) (cls : Value) (d : Option Addr) (pn : List (Addr × Obj)), Zc cls d oe → (∃ vs, oe.data = .fields vs) → PSs (X.suite a ((a, oe) :: pn)) (b₀ :: suite) (ts a cls d)) :
    PS X (.Try body [.ExceptHandler (some (.Tuple es kx tpos)) (some n) (b₀ :: suite) pos'] [] [] pos) (fun D σ H => tb (wAsT X.K [c1, c2, c3, c4] i ts Wout D) D σ H) := by
  refine ⟨fun pins s σ H D I h => ?_⟩
  have ok := I.ok
  have hfr : X.A.frames = some (X.env :: X.outer) := by rw [ok.frames, hs]
  refine wpAny_Try_except (wpAny_mono ((hb (wAsT X.K [c1, c2, c3, c4] i ts Wout D) (X.pn ++ pins) (fun e s₁ => wpAny (model X.prog X.w) X.A (noteFrame e X.env) (fun _ s₂ => wpAny (model X.prog X.w) X.A (setFlight e none) (fun _ s₃ =>
    wpAny (model X.prog X.w) X.A (handleBy e X.env [.ExceptHandler (some (.Tuple es kx tpos)) (some n) (b₀ :: suite) pos']) (SP X pins D) X.xe s₃) X.xe s₂) X.xe s₁) (fun u s' xx => ?_) PassesOwn.looking).run [] s σ H D (I.toTry _) h) (fun f s1 hsp => ?_) (fun e s1 he => he))
  · obtain ⟨a, B, sI, pins', σ', H', cls, d, rfl, J', nb, up, sky, na, os, ag, b, hb1, hyes, hno⟩ := xx
    have J : Inv X pins σ' H' sI := J'.ofTry ok
    have sky' : Sky B (X.env :: X.outer) a (Zc cls d) X.env.locals s'.heap := by rw [← hs]; exact sky
    show wpAny (model X.prog X.w) X.A (noteFrame (.ref a) X.env) _ _ _
    refine Sky.land Zc.steady hfr hf sky' fun h3 fl3 up3 => ?_
    have J3 : Inv X pins σ' H' { s' with heap := h3 } := J.landed nb fl3.1 (up.trans up3) os ag
    obtain ⟨oe3, vs3, he3, hz3, hd3⟩ := fl3.there
    have nfr : a ∉ frs (X.env :: X.outer) := fun hm => by
      obtain ⟨_, o', e', hnf⟩ := fl3.2.2.1.mem hm
      rw [he3] at e'
      cases e'
      exact hnf _ hd3
    have nL : a ≠ X.env.locals := fun z => nfr (List.mem_filterMap.mpr ⟨X.env, List.mem_cons_self, by rw [hf, z]⟩)
    have nF : a ∉ X.fs := fun hm => by
      obtain ⟨e, he, q⟩ := List.mem_filterMap.mp hm
      exact nfr (List.mem_filterMap.mpr ⟨e, List.mem_cons_of_mem _ he, q⟩)
    have aB : B.get? a = none := fl3.2.1
    have aI : sI.heap.get? a = none := by
      cases q : sI.heap.get? a with
      | none => rfl
      | some o =>
        have z := nb a o q (by rw [hs]; exact nfr)
        rw [aB] at z
        cases z
    have a0 : X.s_0.heap.get? a = none := by
      cases q : X.s_0.heap.get? a with
      | none => rfl
      | some o =>
        obtain ⟨o', z⟩ := J.base.there a o q (by rw [hex]; exact fun z => nomatch z)
        rw [aI] at z
        cases z
    have apn : ∀ p ∈ X.pn ++ pins, p.1 ≠ a := fun p hp z => by
      obtain ⟨e, _⟩ := J.pin p hp
      rw [z, aI] at e
      cases e
    refine wpAny_handleBy_cons (codeAny_handlers_test ?_) (by intro q; cases q)
    have LT : ∀ {g : Heap}, g.get? a = some oe3 → PySem.W.Looks (model X.prog X.w) g (typeOf (.ref a)) cls := fun {g} e A Q E s k q => wpAny_typeOf_ref (k _ _ e) (by rw [hz3.1]; exact q)
    refine wpAny_Tuple_spliced (NamesT.run (pins := pins) (σ := σ') (H := H') ok.kind (by rw [ok.glob]; exact J3.mod.glob.keeps J3.bk) hc ⟨by rw [sizeLine_eq]; exact (by decide : 4 ≤ 16777216), ?_⟩)
    have kT : ∀ b o, h3.get? b = some o → (h3.push { cls := .type "tuple", data := .seq [c1, c2, c3, c4].toArray }).get? b = some o := fun b o e => Heap.get?_push_of_some _ e
    have LM := PySem.W.exm_tup4 (M := model X.prog X.w) (J3.kIn.keeps kT) (LT (kT _ _ he3)) (Heap.get?_push_size h3 rfl) hb1
    refine LM.here ?_
    have fl3' : HandSPX.FlyingZ B (X.env :: X.outer) a (Zc cls d) (h3.push { cls := .type "tuple", data := .seq [c1, c2, c3, c4].toArray }) := by
      obtain ⟨f1, f2, f3, oe, vs, T, oT, tts, e1, e2, e3, e4, e5, e6, e7, e8, e9⟩ := fl3
      exact ⟨fun b o e => kT b o (f1 b o e), f2, f3.of_keeps fun b o e _ => ⟨o, kT b o e, rfl⟩, oe, vs, T, oT, tts, kT _ _ e1, e2, e3, e4, e5, e6, kT _ _ e7, e8, e9⟩
    have upT : h3.UpToSlots (h3.push { cls := .type "tuple", data := .seq [c1, c2, c3, c4].toArray }) := Heap.UpToSlots.of_keeps kT
    cases b with
    | true =>
      refine codeAny_handlers_suite_as ?_
      refine HandSPX.lands_againZ fl3' fun h4 fl4 up4 => ?_
      have J4 : Inv X pins σ' H' { s' with heap := h4 } := J.landed nb fl4.1 (((up.trans up3).trans upT).trans up4) os ag
      obtain ⟨oe4, vs4, he4, hz4, hd4⟩ := fl4.there
      have S4 := J4.suite he4 hd4 na nL nF
      refine store_ok (X := X.suite a ((a, oe4) :: (X.pn ++ pins))) (v := .ref a) S4 hN hi (.inl hln) rfl (fun s5 S5 => ?_) (.inr hln)
      refine wpAny_mono ((hsu a oe4 cls d (X.pn ++ pins) hz4 ⟨_, hd4⟩).run [] s5 _ H' _ S5 (hyes rfl a na)) (fun f s6 hsp => ?_) (fun _ _ z => False.elim z)
      have back : ∀ {σ6 : St} {H6 : Hp}, Inv (X.suite a ((a, oe4) :: (X.pn ++ pins))) [] σ6 H6 s6 → Inv X ((a, oe4) :: pins) σ6 H6 s6 := fun {σ6 H6} S6 =>
        ⟨ok, S6.os, S6.bare, S6.base, S6.loc, S6.cell, S6.free, S6.freeC, fun p hp => S6.pin p (by
          rcases List.mem_append.mp hp with z | z
          · exact List.mem_append_left _ (List.mem_cons_of_mem _ (List.mem_append_left _ z))
          · rcases List.mem_cons.mp z with z | z
            · rw [z]
              exact List.mem_append_left _ List.mem_cons_self
            · exact List.mem_append_left _ (List.mem_cons_of_mem _ (List.mem_append_right _ z))), S6.hok, S6.len⟩
      cases f with
      | next =>
        obtain ⟨σ6, H6, S6, q6⟩ := hsp
        refine gone_ok (back S6) hN hi hln fun s7 J7 => ?_
        have e7 := (J7.pin (a, oe4) (List.mem_append_right _ List.mem_cons_self)).1
        exact ⟨_, _, J7.track a0 apn (fun v z => by rw [hd4] at z; cases z) (exv_ok e7 hz4 hd4), q6⟩
      | brk =>
        obtain ⟨σ6, H6, S6, q6⟩ := hsp
        exact False.elim q6
      | cont =>
        obtain ⟨σ6, H6, S6, q6⟩ := hsp
        exact False.elim q6
      | ret u =>
        obtain ⟨v6, σ6, H6, S6, r6, q6⟩ := hsp
        exact False.elim q6
    | false =>
      show wpAny _ X.A (handleBy (.ref a) X.env []) _ _ _
      refine wpAny_handleBy_nil ?_
      obtain ⟨k1, k2, k3, oe, vs, T, oT, ts', he, hz, hd, h1, hr⟩ := id fl3'
      unfold PySem.passOn
      refine wpAny_bind (wpAny_field he hd h1 ?_)
      rw [if_neg (show ¬ ((Value.ref T == Value.none) = true) from by simp)]
      have fin : wpAny (model X.prog X.w) X.A (setFlight (.ref a) X.env.frame) (fun _ s4 => wpAny (model X.prog X.w) X.A (throw (.ref a) : Sem Flow) (SP X pins D) X.xe s4) X.xe { s' with heap := h3.push { cls := .type "tuple", data := .seq [c1, c2, c3, c4].toArray } } := by
        rw [hf]
        refine HandSPX.setFlight_upZ fl3' fun h4 hh4 up4 => wpAny_throw (tk _ _ ?_)
        exact ⟨a, B, sI, pins, σ', H', cls, d, rfl, J, nb, ((up.trans up3).trans upT).trans up4, .inr (.inr (by rw [hs]; exact hh4)), na, os, ag, hno rfl⟩
      first
        | exact wpAny_bind (wpAny_pure (wpAny_bind fin))
        | exact wpAny_bind fin
  · cases f with
    | next =>
      obtain ⟨σ', H', J', q⟩ := hsp
      exact wpAny_execs_nil ⟨σ', H', J'.ofTry ok, q⟩
    | brk =>
      obtain ⟨σ', H', J', q⟩ := hsp
      exact ⟨σ', H', J'.ofTry ok, q⟩
    | cont =>
      obtain ⟨σ', H', J', q⟩ := hsp
      exact ⟨σ', H', J'.ofTry ok, q⟩
    | ret u =>
      obtain ⟨v, σ', H', J', r, q⟩ := hsp
      exact ⟨v, σ', H', J'.ofTry ok, r, q⟩
end
end L2

namespace L2
open PySem PySem.Spec PyProof.Rows ExM
/-- what an own exception class must say, so that its instances are asked rightly -/
structure XcC (K : PySem.W.Frag) (C : Addr) : Prop where
  ga : PySem.W.findIn K (.ref C) "__getattribute__" = some (some (.builtin "BaseException.__getattribute__"))
  gg : PySem.W.findIn K (.ref C) "__getattr__" = some none
  exC : PySem.W.subIn K (.ref C) (.type "BaseException") = some true
  hd : PySem.W.hasDictIn K C = true
  ha : PySem.W.findIn K (.ref C) "__class__" = some (some (.builtin "object.__class__"))
  hn : PySem.W.specialIn K (.builtin "object.__class__") "__get__" = some (some (.builtin "getset_descriptor.__get__"))
  ht : PySem.W.takesIn K (.builtin "object.__class__") = some true
  hm : PySem.W.mroIn K C (.type "object") = some true
def xcB (K : PySem.W.Frag) (C : Addr) : Bool := decide (PySem.W.findIn K (.ref C) "__getattribute__" = some (some (.builtin "BaseException.__getattribute__"))) && (decide (PySem.W.findIn K (.ref C) "__getattr__" = some none) &&
  (decide (PySem.W.subIn K (.ref C) (.type "BaseException") = some true) && (PySem.W.hasDictIn K C && (decide (PySem.W.findIn K (.ref C) "__class__" = some (some (.builtin "object.__class__"))) &&
  (decide (PySem.W.specialIn K (.builtin "object.__class__") "__get__" = some (some (.builtin "getset_descriptor.__get__"))) && (decide (PySem.W.takesIn K (.builtin "object.__class__") = some true) && decide (PySem.W.mroIn K C (.type "object") = some true)))))))
theorem xcB_ok {K : PySem.W.Frag} {C : Addr} (h : xcB K C = true) : XcC K C := by
  obtain ⟨h1, h⟩ := Bool.and_eq_true_iff.mp h
  obtain ⟨h2, h⟩ := Bool.and_eq_true_iff.mp h
  obtain ⟨h3, h⟩ := Bool.and_eq_true_iff.mp h
  obtain ⟨h4, h⟩ := Bool.and_eq_true_iff.mp h
  obtain ⟨h5, h⟩ := Bool.and_eq_true_iff.mp h
  obtain ⟨h6, h⟩ := Bool.and_eq_true_iff.mp h
  obtain ⟨h7, h8⟩ := Bool.and_eq_true_iff.mp h
  exact ⟨of_decide_eq_true h1, of_decide_eq_true h2, of_decide_eq_true h3, h4, of_decide_eq_true h5, of_decide_eq_true h6, of_decide_eq_true h7, of_decide_eq_true h8⟩
section
variable {X : Cx} {pins : List (Addr × Obj)} {σ : St} {H : Hp} {s : Shared}
theorem exv_inst (I : Inv X pins σ H s) {a C : Addr} {d : Option Addr} (ha : H a = some (exv a (.ref C) d)) (hd : ∀ dx, d = some dx → ∃ o, s.heap.get? dx = some o) : ∃ oe od, PySem.W.InstAt s.heap a oe C od ∧ (d = none → od = none) ∧ ∀ dx, d = some dx → od = s.heap.get? dx := by
  obtain ⟨oe, vs, h1, hz, h2⟩ := exv_at I.hok ha
  obtain ⟨oc, od, oda, osl⟩ := oe
  obtain ⟨z1, z2⟩ := hz
  dsimp only at z1 z2 h2
  subst z1 z2 h2
  cases od with
  | none => exact ⟨_, none, ⟨h1, rfl, rfl, trivial⟩, fun _ => rfl, fun _ z => by cases z⟩
  | some dx =>
    obtain ⟨o, ho⟩ := hd dx rfl
    exact ⟨_, some o, ⟨h1, rfl, rfl, ho⟩, fun z => by (cases z), fun dy z => by cases z; exact ho.symm⟩
theorem isIn_some {K : PySem.W.Frag} {C : Addr} (h : PySem.W.hasDictIn K C = true) : (PySem.W.clsIn K C).isSome = true := by
  obtain ⟨cd, hc, _⟩ := PySem.W.any_some h
  rw [hc]
  rfl
end
/-- isinstance(e, c), e a kept exception -/
def rIsX (K : PySem.W.Frag) : List V → Hp → VK → Prop := fun xs H Q => ∃ (a C : Addr) (d : Option Addr) (c : V) (u : Value) (b : Bool), xs = [.ref a, c] ∧ ClsV c u ∧ H a = some (exv a (.ref C) d) ∧ (∀ dx, d = some dx → ∃ fs, H dx = some (.xd fs)) ∧ XcC K C ∧ PySem.W.kitOne K (.ref C) u = some b ∧ Q (.bl b) H
theorem call_isX {X : Cx} : CallR X (.builtin "isinstance") (rIsX X.K) := by
  intro pins s σ H xs us Q I r h
  obtain ⟨a, C, d, c, u, b, rfl, k, ha, hd, T, e, q⟩ := h
  obtain ⟨u1, u2, rfl, r1, r2⟩ := vals2 r
  have e2 := k.eq r2
  subst e2
  cases (show u1 = Value.ref a from r1)
  obtain ⟨oe, od, J, _⟩ := exv_inst I ha fun dx z => by
    obtain ⟨fs, hf⟩ := hd dx z
    obtain ⟨mA, ⟨o, _, _, ho, _⟩, _⟩ := (show ObjOk X.prog X.w H s.heap dx (.xd fs) from I.hok dx _ hf)
    exact ⟨o, ho⟩
  exact PySem.W.kia_one (PySem.W.kitx_exc (isIn_some T.hd) T.ga T.gg T.exC T.ha T.hn T.ht T.hm) I.kIn J e (fun z => nomatch z) fun tk => ⟨.bl b, H, I.tok tk, rfl, q⟩
/-- e.f, e a kept exception -/
def tXfT (K : PySem.W.Frag) (f : Str) (te : TE) : TE := fun σ H Q => te σ H fun x H1 => ∃ (a C dd : Addr) (fs : List (Str × V)) (v : V), x = .ref a ∧ H1 a = some (exv a (.ref C) (some dd)) ∧ H1 dd = some (.xd fs) ∧ XcC K C ∧ PySem.W.findIn K (.ref C) f = some none ∧ fs.lookup f = some v ∧ Q v H1
theorem pe_xfT {X : Cx} {e : Expr} {te : TE} {pos : Pos} {n : Str} (he : PE X e te) (hb : attributeBase e n X.env (eval e X.env) = eval e X.env := by rfl) : PE X (.Attribute e n pos) (tXfT X.K n te) := by
  refine ⟨fun pins s σ H Q I h => ?_⟩
  refine attr_of hb (thn (he.run pins s σ H _ I h) fun u s1 ⟨x, H1, I1, rx, a, C, dd, fs, v, ex, ea, ed, T, hno, l, q⟩ => ?_)
  subst ex
  obtain rfl : u = Value.ref a := rx
  have hx : ObjOk X.prog X.w H1 s1.heap dd (.xd fs) := I1.hok dd _ ed
  obtain ⟨mA, hns, hr⟩ := hx
  obtain ⟨od, ho, hl⟩ := lookIn_ns hns
  obtain ⟨u, hu, ru⟩ := RelO.some_of (v := v) (o := mA n) (by rw [← l]; exact hr n)
  obtain ⟨oe, od', J, _, hod⟩ := exv_inst I1 ea fun dx z => by cases z; exact ⟨od, ho⟩
  have e1 : od' = some od := (hod dd rfl).trans ho
  subst e1
  exact HandSPX.exc_get I1.kIn J T.ga T.gg T.exC (PySem.W.findObj_own T.hd hno rfl (by rw [hl, hu])) (handed_of ru) ⟨v, H1, I1.tok _, ru, q⟩
end L2

/-! repr of data. -/
namespace L2
open PySem PySem.Spec PyProof.Rows

theorem guards_in1 {A : Around} (h : A.guards = some []) : A.in1.guards = some [] := h
/-! data without a dict holds none -/
mutual
theorem Dp.noDict {K : PySem.W.Frag} {H : Hp} : ∀ {v : V} {d : PyData}, Dp K H v d → d.hasDict = false
  | _, .none, _ => by simp only [PyData.hasDict]
  | _, .bool _, _ => by simp only [PyData.hasDict]
  | _, .int _, _ => by simp only [PyData.hasDict]
  | _, .str _, _ => by simp only [PyData.hasDict]
  | _, .list ds, h => by
    cases h with
    | lst hs ha =>
      simp only [PyData.hasDict]
      exact DpAll.noDict ha
  | _, .tuple ds, h => by
    cases h with
    | tup hs ha =>
      simp only [PyData.hasDict]
      exact DpAll.noDict ha
  | _, .dict _, h => by cases h
theorem DpAll.noDict {K : PySem.W.Frag} {H : Hp} : ∀ {vs : List V} {ds : List PyData}, DpAll K H vs ds → PyData.hasDictAll ds = false
  | _, [], _ => by simp only [PyData.hasDictAll]
  | _, d :: ds, h => by
    cases h with
    | cons h1 h2 => simp only [PyData.hasDictAll, Dp.noDict h1, DpAll.noDict h2, Bool.or_self]
end
/-- repr(v), v data that is read -/
def rRepr (K : PySem.W.Frag) : List V → Hp → VK → Prop := fun xs H Q => ∃ v d, xs = [v] ∧ Dp K H v d ∧ d.showable = true ∧ d.shown.length ≤ sizeLine ∧ d.depth ≤ 60 ∧ Q (.str d.shown) H
theorem call_repr {X : Cx} (hg : X.A.guards = some []) (hu : X.A.units + 64 < cLine) : CallR X (.builtin "repr") (rRepr X.K) := by
  intro pins s σ H xs us Q I r h
  obtain ⟨v, d, rfl, hd, hs, hz, hdp, q⟩ := h
  cases r with
  | @cons _ u _ us r1 r2 =>
    cases r2
    show wpAny _ _ (call (.builtin "repr") [u]) _ _ _
    obtain ⟨as, rd⟩ := Dp.reads I d v u hd r1
    have nd := Dp.noDict hd
    cases rd with
    | none => exact P.repr_of_none ⟨.str _, H, I.tok _, ⟨_, rfl⟩, by simpa [PyData.shown] using q⟩
    | bool b => exact P.repr_of_bool ⟨.str _, H, I.tok _, ⟨_, rfl⟩, by simpa [PyData.shown] using q⟩
    | int i t => exact P.repr_of_int (by simpa [PyData.showable] using hs) ⟨.str _, H, I.tok _, ⟨_, rfl⟩, by simpa [PyData.shown] using q⟩
    | str x t => exact P.repr_of_str ⟨.str _, H, I.tok _, ⟨_, rfl⟩, by simpa [PyData.shown] using q⟩ (by simpa [PyData.shown] using hz)
    | list h1 h2 h3 h4 =>
      exact repr_of_reads' (.list h1 h2 h3 h4) hs (fun z => by rw [nd] at z; cases z) hg (by omega) (fun _ _ e => e) (fun h' u tk k => ⟨.str _, H, I.kept (t' := tk) k, ⟨_, rfl⟩, q⟩) hz
    | tuple h1 h2 h3 h4 =>
      exact repr_of_reads' (.tuple h1 h2 h3 h4) hs (fun z => by rw [nd] at z; cases z) hg (by omega) (fun _ _ e => e) (fun h' u tk k => ⟨.str _, H, I.kept (t' := tk) k, ⟨_, rfl⟩, q⟩) hz
    | dict => cases hd

/-! ### how long a repr may be -/
mutual
def cap : PyData → Nat
  | .none => 4
  | .bool _ => 5
  | .int _ => 1921
  | .str x => 10 * x.length + 2
  | .list xs | .tuple xs => capAll xs + 4
  | .dict _ => 0
def capAll : List PyData → Nat
  | [] => 0
  | x :: xs => cap x + 2 + capAll xs
end
mutual
/-- every sign of every text is one that a repr writes in ten signs at most; ints have a repr -/
def plainD : PyData → Prop
  | .none | .bool _ => True
  | .int i => i.natAbs.log2 < 1920
  | .str x => ∀ c ∈ x.cps.toList, c < 16 ^ 8
  | .list xs | .tuple xs => plainAll xs
  | .dict _ => False
def plainAll : List PyData → Prop
  | [] => True
  | x :: xs => plainD x ∧ plainAll xs
end
theorem textFrom_cap : ∀ (ts : List Str) (k : Nat) (acc : Str), (textFrom k acc ts).length ≤ acc.length + (ts.map fun t => t.length + 2).sum
  | [], k, acc => by simp [textFrom]
  | t :: r, k, acc => by
    have ih := textFrom_cap r (k + 1) (acc ++ (if k > 0 then ", " else "" : String) ++ t)
    have e : (acc ++ ((if k > 0 then ", " else "" : String) : Str) ++ t).length ≤ acc.length + 2 + t.length := by
      rw [strLen_append, strLen_append]
      have : ((if k > 0 then ", " else "" : String) : Str).length ≤ 2 := by split <;> decide
      omega
    simp only [textFrom, List.map_cons, List.sum_cons]
    omega
theorem piled_cap : ∀ ts : List Str, piled ts = (ts.map fun t => t.length + 2).sum
  | [] => rfl
  | t :: r => by simp [piled, piled_cap r]
theorem join_cap (ts : List Str) : (Str.join ", " ts).length ≤ (ts.map fun t => t.length + 2).sum := by
  by_cases h : ts = []
  · subst h
    show Str.empty.length ≤ _
    exact Nat.le_of_eq (show Str.empty.length = 0 by decide)
  · have := join_length_add ts h
    rw [piled_cap] at this
    omega
mutual
theorem shown_cap : ∀ d : PyData, plainD d → d.showable = true ∧ d.shown.length ≤ cap d
  | .none, _ => ⟨by simp [PyData.showable], by simp only [PyData.shown, cap]; decide⟩
  | .bool b, _ => ⟨by simp [PyData.showable], by simp only [PyData.shown, cap]; cases b <;> decide⟩
  | .int i, h => by
    have h' : i.natAbs.log2 < 1920 := by simpa [plainD] using h
    refine ⟨by simp [PyData.showable, h'], ?_⟩
    simp only [PyData.shown, cap]
    have := int_text_length_le (a := i) (k := 1920) (by decide) h'
    rw [PySem.ofString_length]
    omega
  | .str x, h => by
    have h' : ∀ c ∈ x.cps.toList, c < 16 ^ 8 := by simpa [plainD] using h
    exact ⟨by simp [PyData.showable], by simp only [PyData.shown, cap]; exact StrLaws.reprText_len x h'⟩
  | .list xs, h => by
    have h' : plainAll xs := by simpa [plainD] using h
    obtain ⟨a, b⟩ := shown_capAll xs h'
    refine ⟨by simpa [PyData.showable] using a, ?_⟩
    simp only [PyData.shown, cap, listText]
    rw [strLen_append]
    have := textFrom_cap (PyData.shownAll xs) 0 "["
    have e1 : (("[" : Str)).length = 1 := by decide
    have e2 : (("]" : Str)).length = 1 := by decide
    omega
  | .tuple xs, h => by
    have h' : plainAll xs := by simpa [plainD] using h
    obtain ⟨a, b⟩ := shown_capAll xs h'
    refine ⟨by simpa [PyData.showable] using a, ?_⟩
    simp only [PyData.shown, cap, tupleText]
    rw [strLen_append, strLen_append]
    have := join_cap (PyData.shownAll xs)
    have e1 : (("(" : Str)).length = 1 := by decide
    have e2 : (((if (PyData.shownAll xs).length == 1 then ",)" else ")" : String) : Str)).length ≤ 2 := by split <;> decide
    omega
  | .dict _, h => by simp [plainD] at h
theorem shown_capAll : ∀ ds : List PyData, plainAll ds → PyData.showableAll ds = true ∧ ((PyData.shownAll ds).map fun t => t.length + 2).sum ≤ capAll ds
  | [], _ => ⟨by simp [PyData.showableAll], by simp [PyData.shownAll, capAll]⟩
  | d :: ds, h => by
    have h' : plainD d ∧ plainAll ds := by simpa [plainAll] using h
    obtain ⟨a, b⟩ := shown_cap d h'.1
    obtain ⟨c, e⟩ := shown_capAll ds h'.2
    refine ⟨by simp [PyData.showableAll, a, c], ?_⟩
    simp only [PyData.shownAll, capAll, List.map_cons, List.sum_cons]
    omega
end
/-- repr(v) as a rule: its wants in one -/
def rReprP (K : PySem.W.Frag) : List V → Hp → VK → Prop := fun xs H Q => ∃ v d, xs = [v] ∧ Dp K H v d ∧ plainD d ∧ cap d ≤ 16777216 ∧ d.depth ≤ 60 ∧ Q (.str d.shown) H
theorem call_reprP {X : Cx} (hg : X.A.guards = some []) (hu : X.A.units + 64 < cLine) : CallR X (.builtin "repr") (rReprP X.K) := by
  intro pins s σ H xs us Q I r h
  obtain ⟨v, d, e, hd, hp, hz, hdp, q⟩ := h
  obtain ⟨a, b⟩ := shown_cap d hp
  exact call_repr hg hu pins s σ H xs us Q I r ⟨v, d, e, hd, a, by rw [sizeLine_eq]; omega, hdp, q⟩
end L2

/-! Own exceptions: keywords; what the four built-in bases are; the class as the top has made it. -/
namespace L2
open PySem PySem.Spec PyProof.Rows ExM
section
variable {X : Cx} {C : Addr} {x f f2 : Str} {e e2 : Expr} {te te2 : TE} {p pos kp kp2 : Pos} {k : Nat}
/-- C(f = e) -/
theorem pe_mkvK1 (T : Mks X.prog X.K X.mg C [f]) (hs : X.mg "super" = none) (hr : Room k X.A) (he : PE X e te) (hg : Gl X x) (hm : X.mg x = some (.ref C)) (hdb : (x == ("__debug__" : Str)) = false := by decide)
    (hall : (backToKw pos (keywordEach [⟨some f, e, kp⟩] X.env)).all (·.1.isSome) = true := by rfl) (hks : (backToKw pos (keywordEach [⟨some f, e, kp⟩] X.env)).filterMap (·.1) = [f] := by rfl)
    (hpl : ((backTo pos (starEach [] X.env)).any (·.1) || (backToKw pos (keywordEach [⟨some f, e, kp⟩] X.env)).any (·.1.isNone)) = false := by rfl) :
    PE X (.Call (.Name x p) [] [⟨some f, e, kp⟩] pos) (tMkv C [f] (tCons te tNil)) := by
  refine ⟨fun pins s σ H Q I h => ?_⟩
  refine wpAny_Call_Name_kw (ld_glob I hg hm ?_ hdb)
  refine PySem.W.callWith_KW0 (h₀ := X.base) I.ok.mod.kin T.kC hall ?_ hpl
  refine thn ((pk_cons (nm := some f) (kpos := kp) he pk_nil).run pos pins s σ H _ I h) fun us s1 ⟨vs, H1, I1, r1, hl, q1⟩ => ⟨I1.kIn, ?_⟩
  rw [hks]
  cases r1 with
  | nil => exact absurd hl (by simp)
  | @cons v u vs' us' r1 r2 =>
    cases r2 with
    | nil => exact mkv_end (a := ⟨[], [(f, u)]⟩) T hs hr (by simp) I1 (.cons r1 .nil) .kw1 q1
    | cons _ _ => exact absurd hl (by simp)
/-- C(f2 = e2, f = e), the fields being f, f2 -/
def tMkv2 (C : Addr) (f f2 : Str) (ta : TA) : TE := fun σ H Q => ta σ H fun vs H1 => ∃ a b, vs = [b, a] ∧ ∀ e d, H1 e = none → H1 d = none → d ≠ e → Q (.ref e) (upd (upd H1 d (.xd [(f2, b), (f, a)])) e (exv e (.ref C) (some d)))
theorem pe_mkvK2 (T : Mks X.prog X.K X.mg C [f, f2]) (hs : X.mg "super" = none) (hr : Room k X.A) (he2 : PE X e2 te2) (he : PE X e te) (hg : Gl X x) (hm : X.mg x = some (.ref C)) (hdb : (x == ("__debug__" : Str)) = false := by decide)
    (hall : (backToKw pos (keywordEach [⟨some f2, e2, kp2⟩, ⟨some f, e, kp⟩] X.env)).all (·.1.isSome) = true := by rfl) (hks : (backToKw pos (keywordEach [⟨some f2, e2, kp2⟩, ⟨some f, e, kp⟩] X.env)).filterMap (·.1) = [f2, f] := by rfl)
    (hpl : ((backTo pos (starEach [] X.env)).any (·.1) || (backToKw pos (keywordEach [⟨some f2, e2, kp2⟩, ⟨some f, e, kp⟩] X.env)).any (·.1.isNone)) = false := by rfl) :
    PE X (.Call (.Name x p) [] [⟨some f2, e2, kp2⟩, ⟨some f, e, kp⟩] pos) (tMkv2 C f f2 (tCons te2 (tCons te tNil))) := by
  refine ⟨fun pins s σ H Q I h => ?_⟩
  refine wpAny_Call_Name_kw (ld_glob I hg hm ?_ hdb)
  refine PySem.W.callWith_KW0 (h₀ := X.base) I.ok.mod.kin T.kC hall ?_ hpl
  refine thn ((pk_cons (nm := some f2) (kpos := kp2) he2 (pk_cons (nm := some f) (kpos := kp) he pk_nil)).run pos pins s σ H _ I h) fun us s1 ⟨vs, H1, I1, r1, a, b, ev, q1⟩ => ⟨I1.kIn, ?_⟩
  rw [hks]
  subst ev
  obtain ⟨u1, u2, rfl, r1, r2⟩ := vals2 r1
  exact mkv_end (a := ⟨[], [(f2, u1), (f, u2)]⟩) T hs hr (by simp) I1 (.cons r2 (.cons r1 .nil)) .kw2 q1
end
end L2
namespace ExM
open PySem PySem.W PySem.Calls PyProof.Rows
/-- what the library tells of a built-in base: its __new__ (perhaps its own base's), its __init__ -/
structure BaseF (bmB : List Value) (B newId initId : String) : Prop where
  new : ∃ Bn initN bmN, ExcBaseFacts Bn newId initN bmN ∧ bmB.contains (.type Bn) = true ∧ bmB.contains (.type "AttributeError") = false ∧ bmB.contains (.type "NameError") = false
  ini : InF B initId
  pass : ∀ self, refuseLoop self "__setattr__" bmB = pure ()
  obj : bmB.contains (.type "object") = true
theorem inF_of {B newId i : String} (F : ExcCallFacts B newId i) (K : KxsFacts B i) : InF B i := ⟨F.initEntry, F.initKind, F.initRow, F.noStar, F.init.plain, K⟩
theorem base_VE : BaseF [.type "ValueError", .type "Exception", .type "BaseException", .type "object"] "ValueError" "ValueError.__new__" "ValueError.__init__" :=
  ⟨⟨_, _, _, F.excBase_ValueError, by decide +kernel, by decide +kernel, by decide +kernel⟩, inF_of F.excBase_ValueError.toExcCallFacts kxs_ValueError, F.store_ValueError.passes, by decide +kernel⟩
theorem base_OE : BaseF [.type "OverflowError", .type "ArithmeticError", .type "Exception", .type "BaseException", .type "object"] "OverflowError" "OverflowError.__new__" "OverflowError.__init__" :=
  ⟨⟨_, _, _, F.excBase_OverflowError, by decide +kernel, by decide +kernel, by decide +kernel⟩, inF_of F.excBase_OverflowError.toExcCallFacts kxs_OverflowError, F.store_OverflowError.passes, by decide +kernel⟩
theorem base_RE : BaseF [.type "RuntimeError", .type "Exception", .type "BaseException", .type "object"] "RuntimeError" "RuntimeError.__new__" "RuntimeError.__init__" :=
  ⟨⟨_, _, _, F.excBase_RuntimeError, by decide +kernel, by decide +kernel, by decide +kernel⟩, inF_of F.excBase_RuntimeError.toExcCallFacts kxs_RuntimeError, F.store_RuntimeError.passes, by decide +kernel⟩
theorem kxs_KE : KxsFacts "KeyError" "KeyError.__init__" := ⟨by show builtinType _ = _; rw [builtinType_eq_fast]; kernel_rfl, by first | kernel_rfl | rfl⟩
theorem base_KE : BaseF [.type "KeyError", .type "LookupError", .type "Exception", .type "BaseException", .type "object"] "KeyError" "LookupError.__new__" "KeyError.__init__" :=
  ⟨⟨_, _, _, F.excBase_LookupError, by decide +kernel, by decide +kernel, by decide +kernel⟩,
    ⟨entryFor_alias (id' := "BaseException.__init__") (by rw [fastTable_eq_tree]; kernel_rfl) (by first | rfl | decide +kernel) (by decide +kernel) (by rw [fastTable_eq_tree]; kernel_rfl), by kernel_rfl, by kernel_rfl, by decide +kernel, by decide +kernel, kxs_KE⟩,
    fun self => by kernel_rfl, by decide +kernel⟩
end ExM

namespace L2
open PySem PySem.Spec PyProof.Rows ExM
open PySem (cStatics)
open PySem.W (Frag findIn typeIn keepIn subIn nsIn codeIn ksFn ks_superIn excTail)
/-- what k_is finds of a class and its __init__ -/
structure Cfs (K : Frag) (prog : Program) (C f cc cda : Addr) (qual : Str) (params : Arguments) (body : List Stmt) (scope : Scope) (bmB : List Value) (B newId initId : String) : Prop where
  cls : ∃ nm q N bs bm sn sub ab col dd k0 k1 k2 k3 k5, K.lookup C = some (excClassObj nm q C N bs bm true sn sub ab col dd k0 k1 k2 k3 k5 newId) ∧ excTail bmB bm = true
  sa : findIn K (.ref C) "__setattr__" = some (some (.builtin "object.__setattr__"))
  iC : findIn K (.ref C) "__init__" = some (some (.ref f))
  tF : typeIn K (.ref f) = some (.type "function")
  kC : keepIn K (.ref C) = true
  exC : subIn K (.ref C) (.type "BaseException") = some true
  bC : subIn K (.ref C) (.type B) = some true
  tyC : typeIn K (.ref C) = some (.type "type")
  op : nsIn K cStatics "thirdparty.any" = some none
  al : ks_superIn K C C "__init__" = some (some (.builtin initId))
  lf : ∃ (oc : Value) (od : Option Addr) (kV doc pm : Value) (an : Option Addr) (ct : Value) (osl : Array (Option Value)), K.lookup f = some ⟨oc, od, .func (ksFn "__init__" qual params body scope .none kV doc pm an (.ref cda) ct cc), osl⟩
  cf : codeIn K (.ref cda) qual = true
  lcd : ∃ ccl cdd vs ccs file tf, K.lookup cda = some ⟨ccl, cdd, .fields vs, ccs⟩ ∧ vs[2]? = some (.str file tf) ∧ ((prog.main.file : Str) == file) = true
  cell : ∃ cl cld csl, K.lookup cc = some ⟨cl, cld, .cell (some (.ref C)), csl⟩
  top : (prog.main.scope.names.lookup ("super" : Str)).isSome = false
theorem cfs_mk {K : Frag} {prog : Program} {C f cc cda : Addr} {qual : Str} {params : Arguments} {body : List Stmt} {scope : Scope} {bmB : List Value} {B newId initId : String}
    {nm q : Str} {N : Addr} {bs bm : List Value} {sn : List Str} {sub : List Value} {ab : Bool} {col : Option Bool} {dd : Option Addr} {k0 k1 k2 k3 k5 : Option Value} {oc kV doc pm ct : Value} {od an : Option Addr} {osl : Array (Option Value)}
    {ccl : Value} {cdd : Option Addr} {vs : Array Value} {ccs : Array (Option Value)} {file : Str} {tf : Tok} {cl : Value} {cld : Option Addr} {csl : Array (Option Value)}
    (lc : K.lookup C = some (excClassObj nm q C N bs bm true sn sub ab col dd k0 k1 k2 k3 k5 newId)) (iC : findIn K (.ref C) "__init__" = some (some (.ref f)))
    (lf : K.lookup f = some ⟨oc, od, .func (ksFn "__init__" qual params body scope .none kV doc pm an (.ref cda) ct cc), osl⟩) (lcd : K.lookup cda = some ⟨ccl, cdd, .fields vs, ccs⟩) (lcc : K.lookup cc = some ⟨cl, cld, .cell (some (.ref C)), csl⟩)
    (sa : findIn K (.ref C) "__setattr__" = some (some (.builtin "object.__setattr__"))) (tF : typeIn K (.ref f) = some (.type "function")) (kC : keepIn K (.ref C) = true) (exC : subIn K (.ref C) (.type "BaseException") = some true) (bC : subIn K (.ref C) (.type B) = some true)
    (tyC : typeIn K (.ref C) = some (.type "type")) (op : nsIn K cStatics "thirdparty.any" = some none) (cf : codeIn K (.ref cda) qual = true)
    (al : ks_superIn K C C "__init__" = some (some (.builtin initId))) (tl : excTail bmB bm = true) (v2 : vs[2]? = some (.str file tf)) (hf : ((prog.main.file : Str) == file) = true) (top : (prog.main.scope.names.lookup ("super" : Str)).isSome = false) :
    Cfs K prog C f cc cda qual params body scope bmB B newId initId :=
  ⟨⟨_, _, _, _, _, _, _, _, _, _, _, _, _, _, _, lc, tl⟩, sa, iC, tF, kC, exC, bC, tyC, op, al, ⟨_, _, _, _, _, _, _, _, lf⟩, cf, ⟨_, _, _, _, _, _, lcd, v2, hf⟩, ⟨_, _, _, lcc⟩, top⟩
section
variable {K : Frag} {prog : Program} {mg : Str → Option Value} {C f cc cda : Addr} {qual : Str} {params : Arguments} {body : List Stmt} {scope : Scope} {bmB : List Value} {B newId initId : String} {msg fld fld2 : Str} {j : Nat} {p0 p1 p2 p3 p4 p5 q1 q2 q3 q4 r1 r2 r3 r4 : Pos}
theorem Cfs.ini (F : Cfs K prog C f cc cda qual params body scope bmB B newId initId) (b : BaseF bmB B newId initId) (hs : scope.names.lookup ("super" : Str) = some .globalImplicit) (hc : scope.names.lookup ("__class__" : Str) = some .free) (hk : scope.kind = .function) :
    Ini K prog C f cc qual params body scope bmB B newId initId := by
  obtain ⟨oc, od, kV, doc, pm, an, ct, osl, lf⟩ := F.lf
  exact ⟨F.cls, b.new, b.ini, b.pass, b.obj, F.sa, F.iC, F.tF, F.kC, F.exC, F.bC, F.tyC, F.op, F.al, ⟨oc, od, kV, doc, pm, an, cda, ct, osl, lf, F.cf, F.lcd⟩, F.cell, F.top, hs, hc, hk⟩
theorem mks_one (F : Cfs K prog C f cc cda qual params [supSt msg j p0 p1 p2 p3 p4 p5, putSt fld q1 q2 q3 q4] scope bmB B newId initId) (b : BaseF bmB B newId initId) (hs : scope.names.lookup ("super" : Str) = some .globalImplicit) (hc : scope.names.lookup ("__class__" : Str) = some .free) (hk : scope.kind = .function)
    (S : Sc scope params [fld]) (V : Ev qual scope f cc msg j p0 p1 p2 p3 p4) (hno : findIn K (.ref C) fld = some none)
    (hb : ∀ (a : Args) (v : Value), ArgOk [fld] a [v] → ∀ (x : Addr) (kV doc pm : Value) (an : Option Addr) (cdv ct : Value), bindArgs (ksFn "__init__" qual params [supSt msg j p0 p1 p2 p3 p4 p5, putSt fld q1 q2 q3 q4] scope .none kV doc pm an cdv ct cc) ⟨.ref x :: a.pos, a.kw⟩ = pure [(("self" : Str), .ref x), (fld, v)]) :
    Mks prog K mg C [fld] where
  kC := F.kC
  exC := F.exC
  tyC := F.tyC
  call := fun w A s a us R ha X G hd hq => by
    obtain ⟨v, rfl⟩ : ∃ v, us = [v] := by
      have z := ha.len
      match us, z with
      | [v], _ => exact ⟨v, rfl⟩
    refine made_one (F.ini b hs hc hk) S V hno ha X G hd (fun s' x kV doc pm an cdv ct => .of_eq (hb a v ha x kV doc pm an cdv ct)) fun h' tk e d M => hq h' tk e (some d) _ M (by simp) fun y => ?_
    by_cases h : y = fld
    · subst h
      simp
    · have e : (y == fld) = false := by simpa using h
      simp [h, List.lookup, e]
theorem mks_none (F : Cfs K prog C f cc cda qual params [supSt msg j p0 p1 p2 p3 p4 p5] scope bmB B newId initId) (b : BaseF bmB B newId initId) (hs : scope.names.lookup ("super" : Str) = some .globalImplicit) (hc : scope.names.lookup ("__class__" : Str) = some .free) (hk : scope.kind = .function)
    (S : Sc scope params []) (V : Ev qual scope f cc msg j p0 p1 p2 p3 p4)
    (hb : ∀ (x : Addr) (kV doc pm : Value) (an : Option Addr) (cdv ct : Value), bindArgs (ksFn "__init__" qual params [supSt msg j p0 p1 p2 p3 p4 p5] scope .none kV doc pm an cdv ct cc) ⟨[.ref x], []⟩ = pure [(("self" : Str), .ref x)]) :
    Mks prog K mg C [] where
  kC := F.kC
  exC := F.exC
  tyC := F.tyC
  call := fun w A s a us R ha X G hd hq => by
    have ea : a = ⟨[], []⟩ ∧ us = [] := by
      cases ha with
      | pos h =>
        have z := List.length_eq_zero_iff.mp h
        subst z
        exact ⟨rfl, rfl⟩
    obtain ⟨rfl, rfl⟩ := ea
    exact made_none (F.ini b hs hc hk) S V ha X G hd (fun s' x kV doc pm an cdv ct => .of_eq (hb x kV doc pm an cdv ct)) fun h' tk e M => hq h' tk e none _ M (by simp) fun y => by simp
theorem mks_two (F : Cfs K prog C f cc cda qual params [supSt msg j p0 p1 p2 p3 p4 p5, putSt fld q1 q2 q3 q4, putSt fld2 r1 r2 r3 r4] scope bmB B newId initId) (b : BaseF bmB B newId initId) (hs : scope.names.lookup ("super" : Str) = some .globalImplicit) (hc : scope.names.lookup ("__class__" : Str) = some .free) (hk : scope.kind = .function)
    (S : Sc scope params [fld, fld2]) (V : Ev qual scope f cc msg j p0 p1 p2 p3 p4) (hno : findIn K (.ref C) fld = some none) (hno2 : findIn K (.ref C) fld2 = some none) (hff : fld ≠ fld2)
    (hb : ∀ (a : Args) (v v2 : Value), ArgOk [fld, fld2] a [v, v2] → ∀ (x : Addr) (kV doc pm : Value) (an : Option Addr) (cdv ct : Value), bindArgs (ksFn "__init__" qual params [supSt msg j p0 p1 p2 p3 p4 p5, putSt fld q1 q2 q3 q4, putSt fld2 r1 r2 r3 r4] scope .none kV doc pm an cdv ct cc) ⟨.ref x :: a.pos, a.kw⟩ = pure [(("self" : Str), .ref x), (fld, v), (fld2, v2)]) :
    Mks prog K mg C [fld, fld2] where
  kC := F.kC
  exC := F.exC
  tyC := F.tyC
  call := fun w A s a us R ha X G hd hq => by
    obtain ⟨v, v2, rfl⟩ : ∃ v v2, us = [v, v2] := by
      have z := ha.len
      match us, z with
      | [v, v2], _ => exact ⟨v, v2, rfl⟩
    refine made_two (F.ini b hs hc hk) S V hno hno2 hff ha X G hd (fun s' x kV doc pm an cdv ct => .of_eq (hb a v v2 ha x kV doc pm an cdv ct)) fun h' tk e d M => hq h' tk e (some d) _ M (by simp) fun y => ?_
    by_cases h2 : y = fld2
    · subst h2
      simp
    · have e2 : (y == fld2) = false := by simpa using h2
      by_cases h : y = fld
      · subst h
        simp [List.lookup, e2, h2]
      · have e : (y == fld) = false := by simpa using h
        simp [h, h2, List.lookup, e, e2]
end
end L2

namespace L2
open PySem PySem.Spec PyProof.Rows ExM
/-- what the clause 'except c as n' wishes: behind the suite the exception is an object that is kept -/
def wAs1T (K : PySem.W.Frag) (c : Value) (i : Nat) (ts : Addr → Value → Option Addr → TS) (Wout : WX) (D : Ends) : WX := fun cls d σ H =>
  ∃ b, PySem.W.exmOne K cls c = some b ∧ (b = true → ∀ a, H a = none → ts a cls d { nx := fun σ' H' => D.nx (σ'.set i none) (upd H' a (exv a cls d)), rt := fun _ _ => False } (σ.set i (some (.ref a))) H) ∧
    (b = false → Wout cls d σ H)
section
variable {X : Cx} {x n : Str} {i : Nat} {body suite : List Stmt} {b₀ : Stmt} {np pos pos' : Pos} {c : Value} {tb : WX → TS} {ts : Addr → Value → Option Addr → TS} {Wout : WX}
theorem ps_try_as1T (hs : X.stack = X.env :: X.outer) (hf : X.env.frame = some X.env.locals) (hN : X.N.Nodup) (hi : X.N[i]? = some n) (hln : X.env.kindOf n = some .local) (hc : Names X x c) (hex : X.ex = []) (tk : Takes X Wout)
    (hb : ∀ (W : WX) (pn : List (Addr × Obj)) (xe : Value → Shared → Prop), Takes (X.tr pn xe) W → PassesOwn (model X.prog X.w) X.A X.env xe → PSs (X.tr pn xe) body (tb W))
    (hsu : ∀ (a : Addr) (oe : Obj) (cls : Value) (d : Option Addr) (pn : List (Addr × Obj)), Zc cls d oe → (∃ vs, oe.data = .fields vs) → PSs (X.suite a ((a, oe) :: pn)) (b₀ :: suite) (ts a cls d)) :
    PS X (.Try body [.ExceptHandler (some (.Name x np)) (some n) (b₀ :: suite) pos'] [] [] pos) (fun D σ H => tb (wAs1T X.K c i ts Wout D) D σ H) := by
  refine ⟨fun pins s σ H D I h => ?_⟩
  have ok := I.ok
  have hfr : X.A.frames = some (X.env :: X.outer) := by rw [ok.frames, hs]
  refine wpAny_Try_except (wpAny_mono ((hb (wAs1T X.K c i ts Wout D) (X.pn ++ pins) (fun e s₁ => wpAny (model X.prog X.w) X.A (noteFrame e X.env) (fun _ s₂ => wpAny (model X.prog X.w) X.A (setFlight e none) (fun _ s₃ =>
    wpAny (model X.prog X.w) X.A (handleBy e X.env [.ExceptHandler (some (.Name x np)) (some n) (b₀ :: suite) pos']) (SP X pins D) X.xe s₃) X.xe s₂) X.xe s₁) (fun u s' xx => ?_) PassesOwn.looking).run [] s σ H D (I.toTry _) h) (fun f s1 hsp => ?_) (fun e s1 he => he))
  · obtain ⟨a, B, sI, pins', σ', H', cls, d, rfl, J', nb, up, sky, na, os, ag, b, hb1, hyes, hno⟩ := xx
    have J : Inv X pins σ' H' sI := J'.ofTry ok
    have sky' : Sky B (X.env :: X.outer) a (Zc cls d) X.env.locals s'.heap := by rw [← hs]; exact sky
    show wpAny (model X.prog X.w) X.A (noteFrame (.ref a) X.env) _ _ _
    refine Sky.land Zc.steady hfr hf sky' fun h3 fl3 up3 => ?_
    have J3 : Inv X pins σ' H' { s' with heap := h3 } := J.landed nb fl3.1 (up.trans up3) os ag
    obtain ⟨oe3, vs3, he3, hz3, hd3⟩ := fl3.there
    have nfr : a ∉ frs (X.env :: X.outer) := fun hm => by
      obtain ⟨_, o', e', hnf⟩ := fl3.2.2.1.mem hm
      rw [he3] at e'
      cases e'
      exact hnf _ hd3
    have nL : a ≠ X.env.locals := fun z => nfr (List.mem_filterMap.mpr ⟨X.env, List.mem_cons_self, by rw [hf, z]⟩)
    have nF : a ∉ X.fs := fun hm => by
      obtain ⟨e, he, q⟩ := List.mem_filterMap.mp hm
      exact nfr (List.mem_filterMap.mpr ⟨e, List.mem_cons_of_mem _ he, q⟩)
    have aB : B.get? a = none := fl3.2.1
    have aI : sI.heap.get? a = none := by
      cases q : sI.heap.get? a with
      | none => rfl
      | some o =>
        have z := nb a o q (by rw [hs]; exact nfr)
        rw [aB] at z
        cases z
    have a0 : X.s_0.heap.get? a = none := by
      cases q : X.s_0.heap.get? a with
      | none => rfl
      | some o =>
        obtain ⟨o', z⟩ := J.base.there a o q (by rw [hex]; exact fun z => nomatch z)
        rw [aI] at z
        cases z
    have apn : ∀ p ∈ X.pn ++ pins, p.1 ≠ a := fun p hp z => by
      obtain ⟨e, _⟩ := J.pin p hp
      rw [z, aI] at e
      cases e
    refine wpAny_handleBy_cons (codeAny_handlers_test ?_) (by intro q; cases q)
    have S3 := J3.suite he3 hd3 na nL nF
    have LT : PySem.W.Looks (model X.prog X.w) h3 (typeOf (.ref a)) cls := fun A Q E s k q => wpAny_typeOf_ref (k _ _ he3) (by rw [hz3.1]; exact q)
    have LM := PySem.W.exm_one (M := model X.prog X.w) (J3.kIn) LT hb1
    have test : ∀ {Q : Value → Shared → Prop} {E : Value → Shared → Prop}, Q c { s' with heap := h3 } → wpAny (model X.prog X.w) (X.A.mark (some (.ref a))) (eval (.Name x np) X.env) Q E { s' with heap := h3 } := fun {Q E} q => by
      obtain ⟨hg, hdbg, hm | ⟨hm, hv, hnn⟩⟩ := hc
      · exact ld_glob (X := X.suite a ((a, oe3) :: (X.pn ++ pins))) S3 hg hm q hdbg
      · exact ld_blt (X := X.suite a ((a, oe3) :: (X.pn ++ pins))) S3 hg hm hv q hnn hdbg
    refine test (LM.here ?_)
    cases b with
    | true =>
      refine codeAny_handlers_suite_as ?_
      refine HandSPX.lands_againZ fl3 fun h4 fl4 up4 => ?_
      have J4 : Inv X pins σ' H' { s' with heap := h4 } := J.landed nb fl4.1 ((up.trans up3).trans up4) os ag
      obtain ⟨oe4, vs4, he4, hz4, hd4⟩ := fl4.there
      have S4 := J4.suite he4 hd4 na nL nF
      refine store_ok (X := X.suite a ((a, oe4) :: (X.pn ++ pins))) (v := .ref a) S4 hN hi (.inl hln) rfl (fun s5 S5 => ?_) (.inr hln)
      refine wpAny_mono ((hsu a oe4 cls d (X.pn ++ pins) hz4 ⟨_, hd4⟩).run [] s5 _ H' _ S5 (hyes rfl a na)) (fun f s6 hsp => ?_) (fun _ _ z => False.elim z)
      have back : ∀ {σ6 : St} {H6 : Hp}, Inv (X.suite a ((a, oe4) :: (X.pn ++ pins))) [] σ6 H6 s6 → Inv X ((a, oe4) :: pins) σ6 H6 s6 := fun {σ6 H6} S6 =>
        ⟨ok, S6.os, S6.bare, S6.base, S6.loc, S6.cell, S6.free, S6.freeC, fun p hp => S6.pin p (by
          rcases List.mem_append.mp hp with z | z
          · exact List.mem_append_left _ (List.mem_cons_of_mem _ (List.mem_append_left _ z))
          · rcases List.mem_cons.mp z with z | z
            · rw [z]
              exact List.mem_append_left _ List.mem_cons_self
            · exact List.mem_append_left _ (List.mem_cons_of_mem _ (List.mem_append_right _ z))), S6.hok, S6.len⟩
      cases f with
      | next =>
        obtain ⟨σ6, H6, S6, q6⟩ := hsp
        refine gone_ok (back S6) hN hi hln fun s7 J7 => ?_
        have e7 := (J7.pin (a, oe4) (List.mem_append_right _ List.mem_cons_self)).1
        exact ⟨_, _, J7.track a0 apn (fun v z => by rw [hd4] at z; cases z) (exv_ok e7 hz4 hd4), q6⟩
      | brk =>
        obtain ⟨σ6, H6, S6, q6⟩ := hsp
        exact False.elim q6
      | cont =>
        obtain ⟨σ6, H6, S6, q6⟩ := hsp
        exact False.elim q6
      | ret u =>
        obtain ⟨v6, σ6, H6, S6, r6, q6⟩ := hsp
        exact False.elim q6
    | false =>
      show wpAny _ X.A (handleBy (.ref a) X.env []) _ _ _
      refine wpAny_handleBy_nil ?_
      obtain ⟨k1, k2, k3, oe, vs, T, oT, ts', he, hz, hd, h1, hr⟩ := id fl3
      unfold PySem.passOn
      refine wpAny_bind (wpAny_field he hd h1 ?_)
      rw [if_neg (show ¬ ((Value.ref T == Value.none) = true) from by simp)]
      have fin : wpAny (model X.prog X.w) X.A (setFlight (.ref a) X.env.frame) (fun _ s4 => wpAny (model X.prog X.w) X.A (throw (.ref a) : Sem Flow) (SP X pins D) X.xe s4) X.xe { s' with heap := h3 } := by
        rw [hf]
        refine HandSPX.setFlight_upZ fl3 fun h4 hh4 up4 => wpAny_throw (tk _ _ ?_)
        exact ⟨a, B, sI, pins, σ', H', cls, d, rfl, J, nb, (up.trans up3).trans up4, .inr (.inr (by rw [hs]; exact hh4)), na, os, ag, hno rfl⟩
      first
        | exact wpAny_bind (wpAny_pure (wpAny_bind fin))
        | exact wpAny_bind fin
  · cases f with
    | next =>
      obtain ⟨σ', H', J', q⟩ := hsp
      exact wpAny_execs_nil ⟨σ', H', J'.ofTry ok, q⟩
    | brk =>
      obtain ⟨σ', H', J', q⟩ := hsp
      exact ⟨σ', H', J'.ofTry ok, q⟩
    | cont =>
      obtain ⟨σ', H', J', q⟩ := hsp
      exact ⟨σ', H', J'.ofTry ok, q⟩
    | ret u =>
      obtain ⟨v, σ', H', J', r, q⟩ := hsp
      exact ⟨v, σ', H', J'.ofTry ok, r, q⟩
end
end L2

/-! f(lambda: e) and f(lambda at=0: e), f a def that keeps what the lambda raises. -/
namespace LamR
open PySem PySem.Spec PyProof.Rows L2 LamX
open PySem.W (kdv_obj kdv_fn kdv_tup)
/-- a lambda's names: captured ones, globals, and names of its own that the def around has not -/
structure LamN (sc scope : Scope) (N : List Str) : Prop where
  kind : scope.kind = .function
  co : scope.isCoroutine = false
  gen : scope.isGenerator = false
  cell : ∀ y ∈ scope.names, y.2 ≠ .cell
  own : ∀ y ∈ scope.names, y.2 = .local → y.1 ∉ N
  free : ∀ y ∈ scope.names, y.2 = .free → sc.names.lookup y.1 = some .cell ∨ sc.names.lookup y.1 = some .free
def lamNB (sc scope : Scope) (N : List Str) : Bool :=
  decide (scope.kind = .function) && (!scope.isCoroutine && (!scope.isGenerator && ((scope.names.all fun y => !decide (y.2 = .cell)) && ((scope.names.all fun y => !decide (y.2 = .local) || !N.contains y.1) &&
    (scope.names.all fun y => !decide (y.2 = .free) || (decide (sc.names.lookup y.1 = some .cell) || decide (sc.names.lookup y.1 = some .free)))))))
theorem lamN_by {sc scope : Scope} {N : List Str} (h : lamNB sc scope N = true) : LamN sc scope N := by
  unfold lamNB at h
  simp only [Bool.and_eq_true, Bool.or_eq_true, Bool.not_eq_true', decide_eq_true_eq, decide_eq_false_iff_not, List.all_eq_true] at h
  obtain ⟨h1, h2, h3, h4, h5, h6⟩ := h
  refine ⟨h1, h2, h3, h4, fun y hy e => ?_, fun y hy e => ?_⟩
  · rcases h5 y hy with z | z
    · exact absurd e z
    · simpa using z
  · rcases h6 y hy with z | z
    · exact absurd e z
    · exact z
theorem LamN.has {X : Cx} {scope : Scope} {N : List Str} (L : LamN X.env.scope scope N) (ok : X.Ok) : ∀ y ∈ scope.names, y.2 = .free → ∃ c, X.env.cells.lookup y.1 = some c := fun y hy e => by
  rcases L.free y hy e with k | k
  · exact ok.has _ (.inl k)
  · exact ok.has _ (.inr k)
section
variable {X : Cx} {pins : List (Addr × Obj)} {σ : L2.St} {H HZ : Hp} {s s1 : Shared}
theorem lam_startR {A : Around} {outer : List Env} {E : XK} {scope : Scope} {f c' : Addr} {h₁ : Heap} {tk : Nat} {mL : Str → Option Value} (I : Inv X pins σ H s) (L : LamN X.env.scope scope X.N) (e0 : Env0 X.prog X.w X.K X.mg X.base A outer s1 HZ) (hd : A.handled = none)
    (un : Un (frs X.stack) [] H HZ s.heap s1.heap) (hns : h₁.Ns s1.heap.objs.size mL) (kp : ∀ b o, s1.heap.get? b = some o → h₁.get? b = some o) :
    Inv (lamCx X A outer s1 HZ E scope f c') [] σ HZ { s1 with heap := h₁, toks := tk } := by
  have hfree := L.has I.ok
  have cm : ∀ {y c}, (cloFrom X.env.cells scope.names []).lookup y = some c → X.env.cells.lookup y = some c := fun {y c} e => by
    rcases cloFrom_mem (PySem.mem_of_lookup e) with hm | ⟨h1, h2⟩
    · exact absurd hm (by simp)
    · obtain ⟨c1, hc⟩ := hfree _ h1 rfl
      have hc : X.env.cells.lookup y = some c1 := hc
      have e2 : c = c1 := by
        rw [h2, hc] <;> rfl
      rw [e2, hc]
  have look : ∀ {y}, scope.names.lookup y = some .free → ∃ c, (cloFrom X.env.cells scope.names []).lookup y = some c := fun {y} hl =>
    mem_lookup (cloFrom_has (cells := X.env.cells) (acc := []) (show (y, NameKind.free) ∈ scope.names from PySem.mem_of_lookup hl))
  have cellK : ∀ {c : Addr} {v : Option Value}, H c = none → s.heap.IsCell c v → h₁.IsCell c v := fun {c v} n ⟨o, ho, hd⟩ =>
    let ⟨_, q⟩ := un.any ho n (by simp)
    ⟨_, kp _ _ q, hd⟩
  have noA : ∀ b : Addr, b ∉ (lamCx X A outer s1 HZ E scope f c').ex := fun b z => absurd (show b ∈ ([] : List Addr) from z) (by simp)
  have visC : ∀ {y}, scope.names.lookup y ≠ some .cell := fun {y} k => L.cell _ (PySem.mem_of_lookup k) rfl
  refine ⟨⟨e0.mod, L.kind, rfl, rfl, Nat.le_refl _, fun y z c e1 e2 => I.ok.inj y z c (cm e1) (cm e2), fun y hy => ?_, fun y c z _ => Bool.noConfusion (show false = true from z), fun _ => hd, Around.frames_deeper e0.frames, .inr ⟨rfl, rfl⟩, fun b z => absurd z (noA b), e0.bs, e0.bsz, fun b _ _ => noA b,
      fun b z => absurd z (noA b), e0.funs, e0.frf⟩,
    rfl, e0.bare, Un.kept kp, ⟨_, hns, fun i y v e1 e2 e3 => ?_⟩, fun y c e => ?_, e0.hok.fresh (Nat.le_refl _), fun y c e => ?_, fun q hq => absurd (show q ∈ ([] : List (Addr × Obj)) from hq) (by simp), e0.hok.kept kp, I.len⟩
  · have hy : scope.names.lookup y = some .cell ∨ scope.names.lookup y = some .free := hy
    rcases hy with hy | hy
    · exact absurd hy visC
    · exact look hy
  · have e3 : Vis scope y := e3
    rcases e3 with k | k | k
    · exact absurd (List.mem_of_getElem? e1) (L.own _ (PySem.mem_of_lookup k) rfl)
    · exact absurd k visC
    · obtain ⟨m, hn, hl⟩ := I.loc
      obtain ⟨w', r, q⟩ := hl i y v e1 e2 (.inr (L.free _ (PySem.mem_of_lookup k) rfl))
      obtain ⟨c2, h2⟩ := look k
      refine ⟨w', r, .inr ⟨.inr k, c2, h2, ?_⟩⟩
      have c1 := cm h2
      rcases q with ⟨k', _⟩ | ⟨_, c3, e', z⟩
      · have k' : X.env.scope.names.lookup y = some .local := k'
        rcases L.free _ (PySem.mem_of_lookup k) rfl with k2 | k2 <;> rw [show X.env.scope.names.lookup y = _ from k2] at k' <;> cases k'
      · rw [c1] at e'
        cases e'
        exact cellK (I.freeC y _ c1) z
  · obtain ⟨w', z⟩ := I.cell y c (cm e)
    exact ⟨w', cellK (I.freeC y c (cm e)) z⟩
  · obtain ⟨v, o, ho, hd⟩ := I.cell y c (cm e)
    exact un.free c o ho (I.freeC y c (cm e)) (by simp)
/-- x(), in the def that got the lambda; what it raises is what that def's own wish takes, at its names as they are -/
theorem pe_actR {CXg : CXT} {Eg : XK} {Ng : List Str} {qg : Str} {sg : Scope} {g f c' : Addr} {cdg dV doc pm ctv : Value} {params : Arguments} {body : Expr} {scope : Scope} {k i : Nat} {a : Str} {pn : List (Addr × Obj)} {xe : Value → Shared → Prop} {W : WX} {tb : XK → TE} {p1 p2 : Pos} {binds : List (Str × Value)}
    (I : Inv X pins σ H s) (L : LamN X.env.scope scope X.N) (hf : s.heap.get? f = some (kdv_obj "<lambda>" (X.env.qual ++ "<lambda>") params (.expr body) scope (cloFrom X.env.cells scope.names []) dV doc pm c' ctv)) (hfn : H f = none) (hfr : f ∉ frs X.stack)
    (hbind : ∀ s1 : Shared, (∀ b o, s.heap.get? b = some o → H b = none → b ∉ frs X.stack → s1.heap.get? b = some o) → BindsTo s1 (kdv_fn "<lambda>" (X.env.qual ++ "<lambda>") params (.expr body) scope (cloFrom X.env.cells scope.names []) dV doc pm (.ref c') ctv) ⟨[], []⟩ binds)
    (hloc : ∀ y ∈ binds, scope.names.lookup y.1 = some .local)
    (tk : Takes ((cxOf CXg X.prog X.w X.K X.mg X.base Ng qg sg g cdg X.A X.stack s H Eg).tr pn xe) W) (hr : Room (k + 1) (X.A.deeper (envOfC qg sg s.heap.objs.size g cdg)))
    (hbody : ∀ (A : Around) (outer : List Env) (s : Shared) (H : Hp) (E : XK), Room k (A.deeper (lamEnv X scope s.heap.objs.size f c')) → PE (lamCx X A outer s H E scope f c') body (tb E))
    (hN : Ng[i]? = some a) (hv : Vis sg a) (hd : (a == ("__debug__" : Str)) = false := by decide) (hcd : (a == ("__classdict__" : Str)) = false := by decide) :
    PE ((cxOf CXg X.prog X.w X.K X.mg X.base Ng qg sg g cdg X.A X.stack s H Eg).tr pn xe) (.Call (.Name a p1) [] [] p2)
      (fun σZ HZ Q => σZ[i]? = some (some (.ref f)) ∧ HZ c' = some (CodeO c' (X.env.qual ++ "<lambda>")) ∧ ∃ (E : XK) (Q' : VK), (∀ cls d H', E cls d H' → W cls d σZ H') ∧ (∀ v H', Q' v H' → Q v H') ∧ tb E σ HZ Q') := by
  refine ⟨fun pinsZ sZ σZ HZ Q IZ h => ?_⟩
  obtain ⟨hs, hc, E, Q', hW, hQ, ht⟩ := h
  refine wpAny_Call_Name_kw (thn ((pe_var (pos := p1) (i := i) hN hv hd hcd).run pinsZ sZ σZ HZ (fun v H1 => v = .ref f ∧ H1 = HZ) IZ ⟨.ref f, hs, rfl, rfl⟩) fun u s1 ⟨v, H1, I1, r1, ev, eH⟩ => ?_)
  subst ev
  rw [eH] at I1
  obtain rfl : u = Value.ref f := r1
  have un : Un (frs X.stack) [] H HZ s.heap s1.heap := I1.base
  have keep : ∀ b o, s.heap.get? b = some o → H b = none → b ∉ frs X.stack → s1.heap.get? b = some o := fun b o e n nf => un.keep b o e n nf (fun z => absurd (show b ∈ ([] : List Addr) from z) (by simp))
  have of1 := keep f _ hf hfn hfr
  refine PySem.W.callWith_F0 ⟨_, _, _, _, of1⟩ ?_
  obtain ⟨⟨oc, vs, t, hoc, hdc, hvc⟩, _, _⟩ := I1.hok c' _ hc
  have rc : codeAny (model X.prog X.w) (X.A.deeper (envOfC qg sg s.heap.objs.size g cdg)) (.call (.ref f) ⟨[], []⟩) (CR (L2.CX X.prog X.w) (envOfC qg sg s.heap.objs.size g cdg :: X.stack) X.prog X.w HZ s1 Q E) s1 := by
    refine PySem.W.kla_callFunE hr.depth of1 rfl L.co L.gen rfl ⟨c', oc, vs, t, rfl, hoc, hdc, hvc⟩ (hbind s1 keep _ _ _ _ ?_)
    refine wpAny_newFunctionEnv L.cell hloc (fun h₁ hns hsb => ⟨I1.nolimit.fresh _ hsb, ?_⟩) L.kind
    show codeAny _ _ (.expr body (lamEnv X scope s1.heap.objs.size f c')) _ _
    have kp : ∀ b o, s1.heap.get? b = some o → h₁.get? b = some o := fun b o e => hsb.extBut b o (Nat.ne_of_lt (Heap.lt_size e)) (Heap.get?_push_of_some _ e)
    have J : Inv (lamCx X (X.A.deeper (envOfC qg sg s.heap.objs.size g cdg)) (envOfC qg sg s.heap.objs.size g cdg :: X.stack) s1 HZ E scope f c') [] σ HZ { s1 with heap := h₁, toks := s1.toks + binds.length } :=
      lam_startR I L I1.env0 hr.hd un hns kp
    exact PySem.W.kla_codeExpr (wpAny_mono ((hbody _ _ s1 HZ E (hr.deeper _)).run [] _ _ HZ Q' J ht) (fun v s' ⟨w', H', J', rv, q⟩ => ⟨w', H', J'.os, J'.bare, J'.base, J'.hok, rv, hQ _ _ q⟩) fun e s' hq => hq)
  refine wpAny_call (codeAny_mono rc fun r s' hq => ?_)
  cases r with
  | error e => exact tk e s' (XE.of_call I1 hW hq)
  | ok fl =>
    cases fl with
    | ret u => exact I1.after hq
    | next => exact False.elim hq
    | brk => exact False.elim hq
    | cont => exact False.elim hq
end
end LamR

namespace LamR
open PySem PySem.Spec PyProof.Rows L2 LamX
open PySem.W (kdv_obj kdv_fn kdv_tup)
section
variable {X : Cx} {pins : List (Addr × Obj)} {σ : L2.St} {H : Hp} {s : Shared}
/-- the lambda with one int as a default is made -/
theorem lam_makeD {T : List (Addr × Str)} {c P : Addr} {params : Arguments} {body : Expr} {scope : Scope} {pos cp : Pos} {j : Nat} {n : Int} {E : Value → Shared → Prop} {Q : Value → Shared → Prop} (I : Inv X pins σ H s) (TB : TabB X.base X.mg c P) (hcode : X.env.code = .ref c)
    (hm : (P, X.env.qual ++ "<lambda>") ∈ T) (hu : ∀ p ∈ T, p.1 = P → p.2 = X.env.qual ++ "<lambda>") (hT : Tabs T H) (hdef : params.defaults = [.Constant (.int n) j cp]) (hk0 : params.kw_defaults = []) (hfree : ∀ y ∈ scope.names, y.2 = .free → ∃ c, X.env.cells.lookup y.1 = some c)
    (hE : E = X.xe)
    (h : ∀ (f c' T₀ : Addr) (tk : Tok) (doc pm ctv : Value) (H1 : Hp) (s' : Shared), Inv X pins σ H1 s' → ExtN H H1 → Tabs T H1 →
      s'.heap.get? f = some (kdv_obj "<lambda>" (X.env.qual ++ "<lambda>") params (.expr body) scope (cloFrom X.env.cells scope.names []) (.ref T₀) doc pm c' ctv) → H1 f = none → f ∉ frs X.stack → H1 c' = some (CodeO c' (X.env.qual ++ "<lambda>")) →
      s'.heap.get? T₀ = some (kdv_tup [.int n tk]) → H1 T₀ = none → T₀ ∉ frs X.stack → Q (.ref f) s') :
    wpAny (model X.prog X.w) X.A (eval (.Lambda params body scope pos) X.env) Q E s := by
  subst hE
  obtain ⟨ps, hP, ht, ha⟩ := hT _ hm
  refine PySem.W.kdv_lam (by rw [hdef]; rfl) hk0 ?_
  rw [hdef]
  refine PySem.W.kdv_all1 (wpAny_Constant_int (PySem.W.kdv_all0 ?_))
  generalize hs1 : ({ s with toks := s.toks + 1 } : Shared) = s1
  have I1 : Inv X pins σ H s1 := by
    rw [← hs1]
    exact I.tok _
  generalize s.toks = tk
  rw [makeFunction_eq]
  simp only [List.zip_nil_right, List.filterMap_nil, List.isEmpty_nil, if_true, pure_bind, List.isEmpty_cons, Bool.false_eq_true, if_false]
  refine wpAny_bind (wpAny_newTextTuple ?_)
  obtain ⟨T₀, hT0⟩ : ∃ T₀, T₀ = s1.heap.objs.size := ⟨_, rfl⟩
  rw [← hT0]
  have n0 : H T₀ = none := I1.hok.fresh (Nat.le_of_eq hT0.symm)
  have g0 : (s1.heap.push (kdv_tup [.int n tk])).get? T₀ = some (kdv_tup [.int n tk]) := by
    rw [hT0]
    exact Heap.get?_push_size _ rfl
  have I2 : Inv X pins σ H { s1 with heap := s1.heap.push (kdv_tup [.int n tk]) } := I1.kept (t' := s1.toks) fun b o e => Heap.get?_push_of_some _ e
  have nofr : ∀ f, s1.heap.objs.size ≤ f → f ∉ frs X.stack := fun f hf z => by
    rcases List.mem_cons.mp (I1.stkSub _ z) with e | e
    · have h1 := I1.lt
      rw [← e] at h1
      exact Nat.lt_irrefl _ (Nat.lt_of_lt_of_le h1 hf)
    · exact I1.nofs hf e
  have f0 : T₀ ∉ frs X.stack := nofr _ (Nat.le_of_eq hT0.symm)
  have sz2 : (s1.heap.push (kdv_tup [.int n tk])).objs.size = T₀ + 1 := by rw [Heap.size_push, hT0]
  generalize hs2 : ({ s1 with heap := s1.heap.push (kdv_tup [.int n tk]) } : Shared) = s2 at I2 ⊢
  have hh2 : s2.heap = s1.heap.push (kdv_tup [.int n tk]) := by rw [← hs2]
  rw [← hh2] at g0 sz2
  have bP : s2.heap.BuiltinsAt X.mg P := TB.bm.keeps I2.bk
  have hP' : s2.heap.get? P = some { cls := .none, data := .fields ps } := I2.hok P _ hP
  cases hc : codeAmong pos ps.toList with
  | none =>
    refine PySem.W.kdv_makeTail (mg := X.mg) (c := c) (P := P) (ps := ps) (closure_ok hfree) I2.ok.glob (I2.mod.glob.keeps I2.bk) hcode (TB.code.keeps I2.bk) hP' ht hc TB.gP bP fun c' ctv doc h' tk' hx hge hlt hrec htb => ?_
    obtain ⟨c2, oc, vs, t, e2, hoc, hd, hv⟩ := hrec
    cases e2
    have hsz : s2.heap.objs.size ≤ h'.objs.size := Nat.le_trans hge (Nat.le_of_lt hlt)
    have nC : H c' = none := I2.hok.fresh hge
    have I3 := inv_table (t' := tk') (more := #[rawInt pos.line, rawInt pos.col, .ref c']) (h' := h'.push (kdv_obj "<lambda>" (X.env.qual ++ "<lambda>") params (.expr body) scope (cloFrom X.env.cells scope.names []) (.ref T₀) doc ((X.mg "__name__").getD .none) c' ctv)) I2 hP
      (fun b o hb e => Heap.get?_push_of_some _ (hx b o hb e)) (Heap.get?_push_of_some _ htb) hge ⟨oc, vs, t, Heap.get?_push_of_some _ hoc, hd, hv⟩
    have hE : ExtN H (upd (upd H P (.tbl (ps ++ #[rawInt pos.line, rawInt pos.col, .ref c']))) c' (CodeO c' (X.env.qual ++ "<lambda>"))) := fun b o e nt => by
      rw [upd_ne (ne_of_none e nC), upd_ne (fun z => nt ps (Option.some.inj (e.symm.trans (by rw [z]; exact hP))))]
      exact e
    have eL : (ps ++ #[rawInt pos.line, rawInt pos.col, .ref c']).toList = ps.toList ++ [rawInt pos.line, rawInt pos.col, .ref c'] := by simp
    have T0P : T₀ ≠ P := fun z => by
      rw [z, hP] at n0
      cases n0
    have T0c : T₀ ≠ c' := fun z => by omega
    refine h h'.objs.size c' T₀ tk doc ((X.mg "__name__").getD .none) ctv _ _ I3 hE (fun p hp => ?_) (Heap.get?_push_size _ rfl) ?_ (nofr _ (by omega)) upd_same (Heap.get?_push_of_some _ (hx _ _ T0P g0)) ?_ f0
    · by_cases hb : p.1 = P
      · rw [hu p hp hb, hb]
        refine ⟨_, by rw [upd_ne (ne_of_none hP nC), upd_same], by rw [eL]; exact PySem.TriplesOk_snoc _ _ _ _ ht, fun p' cv hcv => ?_⟩
        rw [eL] at hcv
        rcases among_app _ ht hcv with z | z
        · obtain ⟨c0, e1, e2⟩ := ha p' cv z
          exact ⟨c0, e1, hE _ _ e2 codeO_ne⟩
        · exact ⟨c', z, upd_same⟩
      · obtain ⟨ps', a1, a2, a3⟩ := hT p hp
        refine ⟨ps', by rw [upd_ne (ne_of_none a1 nC), upd_ne hb]; exact a1, a2, fun p' cv hcv => ?_⟩
        obtain ⟨c0, e1, e2⟩ := a3 p' cv hcv
        exact ⟨c0, e1, hE _ _ e2 codeO_ne⟩
    · have n1 : h'.objs.size ≠ c' := Nat.ne_of_gt hlt
      have n2 : h'.objs.size ≠ P := Nat.ne_of_gt (Nat.lt_of_lt_of_le (Heap.lt_size hP') hsz)
      rw [upd_ne n1, upd_ne n2]
      exact I2.hok.fresh hsz
    · rw [upd_ne T0c, upd_ne T0P]
      exact n0
  | some cv =>
    obtain ⟨c', e, hco⟩ := ha pos cv hc
    subst e
    refine PySem.W.kdv_makeTailHit (mg := X.mg) (c := c) (P := P) (ps := ps) (closure_ok hfree) I2.ok.glob (I2.mod.glob.keeps I2.bk) hcode (TB.code.keeps I2.bk) hP' ht hc bP fun ctv doc h' tk' hx hsz => ?_
    have I3 : Inv X pins σ H { s2 with heap := h'.push (kdv_obj "<lambda>" (X.env.qual ++ "<lambda>") params (.expr body) scope (cloFrom X.env.cells scope.names []) (.ref T₀) doc ((X.mg "__name__").getD .none) c' ctv), toks := tk' } := I2.kept fun b o e => Heap.get?_push_of_some _ (hx b o e)
    exact h h'.objs.size c' T₀ tk doc ((X.mg "__name__").getD .none) ctv H _ I3 (ExtN.refl H) hT (Heap.get?_push_size _ rfl) (I2.hok.fresh hsz) (nofr _ (by omega)) hco (Heap.get?_push_of_some _ (hx _ _ g0)) n0 f0
end
end LamR

namespace LamR
open PySem PySem.Spec PyProof.Rows L2 LamX
open PySem.W (kdv_obj kdv_fn kdv_tup)
/-- the def that calls what it got; TT: what it makes of the lambda's reading -/
def GivesR (X : Cx) (Ng : List Str) (x : Str) (sg : Scope) (g : Addr) (cdg : Value) (bg : List Stmt) (a : Str) (q : Str) (TT : (XK → Hp → VK → Prop) → Hp → VK → Prop) : Prop :=
  ∀ (f c' : Addr) (s : Shared) (H : Hp) (Q : VK) (tl : XK → Hp → VK → Prop),
    (∀ (W : WX) (pn : List (Addr × Obj)) (xe : Value → Shared → Prop) (p1 p2 : Pos), Takes ((cxOf C8.CX0 X.prog X.w X.K X.mg X.base Ng x sg g cdg X.A X.stack s H C8.E0).tr pn xe) W →
      PE ((cxOf C8.CX0 X.prog X.w X.K X.mg X.base Ng x sg g cdg X.A X.stack s H C8.E0).tr pn xe) (.Call (.Name a p1) [] [] p2) (fun σZ HZ Q => σZ[0]? = some (some (.ref f)) ∧ HZ c' = some (CodeO c' q) ∧ ∃ (E : XK) (Q' : VK), (∀ cls d H', E cls d H' → W cls d σZ H') ∧ (∀ v H', Q' v H' → Q v H') ∧ tl E HZ Q')) →
    H c' = some (CodeO c' q) → TT tl H Q →
    ∃ t, PSs (cxOf C8.CX0 X.prog X.w X.K X.mg X.base Ng x sg g cdg X.A X.stack s H C8.E0).nox bg t ∧ t { nx := fun _ H' => Q .non H', rt := Q } (L2.start Ng [.ref f]) H
section
variable {X : Cx} {T : List (Addr × Str)} {TT : (XK → Hp → VK → Prop) → Hp → VK → Prop} {x a : Str} {g c P : Addr} {k : Nat} {pg : Arguments} {bg : List Stmt} {sg : Scope} {dV kV doc pm cdv ct oc : Value} {an od : Option Addr} {osl : Array (Option Value)} {Ng : List Str}
    {params : Arguments} {body : Expr} {scope : Scope} {t : XK → TE} {p lpos pos : Pos}
/-- behind the lambda's making: the def is called -/
theorem lam_endR {pins : List (Addr × Obj)} {σ : L2.St} {H1 : Hp} {s' : Shared} {Q : VK} {f c' : Addr} {dL docL pmL ctL : Value} {binds : List (Str × Value)}
    (hk : PySem.W.keepIn X.K (.ref g) = true) (lk : X.K.lookup g = some ⟨oc, od, .func (PySem.W.fnOf x x pg bg sg dV kV doc pm an cdv ct), osl⟩) (hcg : PySem.W.codeIn X.K cdv x = true) (hb : L2.Binds X.K (PySem.W.fnOf x x pg bg sg dV kV doc pm an cdv ct) [a] []) (Sg : FnScope Ng [a] sg) (hNg : Ng[0]? = some a) (hva : Vis sg a)
    (hG : GivesR X Ng x sg g cdv bg a (X.env.qual ++ "<lambda>") TT) (hr : Room (k + 2) X.A) (L : LamN X.env.scope scope X.N)
    (hbody : ∀ (A : Around) (outer : List Env) (s : Shared) (H : Hp) (E : XK) (f c' : Addr), Room k (A.deeper (lamEnv X scope s.heap.objs.size f c')) → PE (lamCx X A outer s H E scope f c') body (t E))
    (I1 : Inv X pins σ H1 s') (hf : s'.heap.get? f = some (kdv_obj "<lambda>" (X.env.qual ++ "<lambda>") params (.expr body) scope (cloFrom X.env.cells scope.names []) dL docL pmL c' ctL)) (hfn : H1 f = none) (hfr : f ∉ frs X.stack) (hco : H1 c' = some (CodeO c' (X.env.qual ++ "<lambda>")))
    (hbind : ∀ s1 : Shared, (∀ b o, s'.heap.get? b = some o → H1 b = none → b ∉ frs X.stack → s1.heap.get? b = some o) → BindsTo s1 (kdv_fn "<lambda>" (X.env.qual ++ "<lambda>") params (.expr body) scope (cloFrom X.env.cells scope.names []) dL docL pmL (.ref c') ctL) ⟨[], []⟩ binds)
    (hloc : ∀ y ∈ binds, scope.names.lookup y.1 = some .local) (h : TT (fun E H' Q' => t E σ H' Q') H1 Q)
    (hd : (a == ("__debug__" : Str)) = false := by decide) (hcd : (a == ("__classdict__" : Str)) = false := by decide) :
    wpAny (model X.prog X.w) X.A (call (.ref g) [.ref f]) (EP X pins σ Q) X.xe s' := by
  have rc : codeAny (model X.prog X.w) X.A (.call (.ref g) ⟨[.ref f], []⟩) (CR C8.CX0 X.stack X.prog X.w H1 s' Q C8.E0) s' := by
    refine run_ofS (N := Ng) (ps := [a]) (us := [.ref f]) (vs := [.ref f]) lk hcg Sg hr I1.env0 (hb s' [.ref f] I1.kIn rfl) (.cons rfl .nil) rfl fun hr' => ?_
    obtain ⟨t', ht', hq'⟩ := hG f c' s' H1 Q (fun E H' Q' => t E σ H' Q') (fun W pn xe p1 p2 tk => pe_actR (i := 0) I1 L hf hfn hfr hbind hloc tk hr' (fun A outer s H E hr2 => hbody A outer s H E f c' hr2) hNg hva hd hcd) hco h
    exact ⟨t', ht'.nox, hq'⟩
  refine wpAny_call (codeAny_mono rc fun r s2 hq => ?_)
  cases r with
  | error e => exact (show False from hq).elim
  | ok fl =>
    cases fl with
    | ret u => exact I1.after hq
    | next => exact False.elim hq
    | brk => exact False.elim hq
    | cont => exact False.elim hq
/-- x(lambda: body) -/
theorem pe_lamcallR (hg : Gl X x) (hm : X.mg x = some (.ref g)) (hk : PySem.W.keepIn X.K (.ref g) = true)
    (lk : X.K.lookup g = some ⟨oc, od, .func (PySem.W.fnOf x x pg bg sg dV kV doc pm an cdv ct), osl⟩) (hcg : PySem.W.codeIn X.K cdv x = true) (hb : L2.Binds X.K (PySem.W.fnOf x x pg bg sg dV kV doc pm an cdv ct) [a] []) (Sg : FnScope Ng [a] sg) (hNg : Ng[0]? = some a) (hva : Vis sg a)
    (hG : GivesR X Ng x sg g cdv bg a (X.env.qual ++ "<lambda>") TT)
    (TB : TabB X.base X.mg c P) (hcode : X.env.code = .ref c) (hmT : (P, X.env.qual ++ "<lambda>") ∈ T) (hu : ∀ p ∈ T, p.1 = P → p.2 = X.env.qual ++ "<lambda>") (hr : Room (k + 2) X.A) (L : LamN X.env.scope scope X.N) (hdef : defaultsOf params X.env = ([], []))
    (hbind : ∀ (q : Str) (cl : List (Str × Addr)) (pm cv ctv : Value), bindArgs (PySem.W.kla_fn "<lambda>" q params body scope cl pm cv ctv) ⟨[], []⟩ = pure [])
    (hbody : ∀ (A : Around) (outer : List Env) (s : Shared) (H : Hp) (E : XK) (f c' : Addr), Room k (A.deeper (lamEnv X scope s.heap.objs.size f c')) → PE (lamCx X A outer s H E scope f c') body (t E))
    (hdb : (x == ("__debug__" : Str)) = false := by decide) (hd : (a == ("__debug__" : Str)) = false := by decide) (hcd : (a == ("__classdict__" : Str)) = false := by decide) :
    PE X (.Call (.Name x p) [.Lambda params body scope lpos] [] pos) (tLam T TT t) := by
  refine ⟨fun pins s σ H Q I ⟨hT, h⟩ => ?_⟩
  refine wpAny_Call_Name_kw (ld_glob I hg hm ?_ hdb)
  refine PySem.W.callWith_K (h₀ := X.base) I.ok.mod.kin hk ?_ (by rfl) (by rfl)
  show wpAny _ _ (spliced ((false, eval (.Lambda params body scope lpos) X.env) :: backTo pos (starEach [] X.env))) _ _ s
  refine Calls.spliced_cons (lam_make2 I TB hcode hmT hu hT hdef (L.has I.ok) fun f c' pm' ctv H1 s' I1 eN T1 hf hfn hfr hco => ?_)
  exact Calls.spliced_nil ⟨I1.kIn, lam_endR (binds := []) (dL := .none) (docL := .none) hk lk hcg hb Sg hNg hva hG hr L hbody I1 hf hfn hfr hco (fun s1 _ => .of_eq (hbind _ _ _ _ _)) (fun y hy => absurd hy (by simp)) (h H1 eN T1) hd hcd⟩
/-- x(lambda y=n: body) -/
theorem pe_lamcallD {y : Str} {n : Int} {j : Nat} {cp : Pos} (hg : Gl X x) (hm : X.mg x = some (.ref g)) (hk : PySem.W.keepIn X.K (.ref g) = true)
    (lk : X.K.lookup g = some ⟨oc, od, .func (PySem.W.fnOf x x pg bg sg dV kV doc pm an cdv ct), osl⟩) (hcg : PySem.W.codeIn X.K cdv x = true) (hb : L2.Binds X.K (PySem.W.fnOf x x pg bg sg dV kV doc pm an cdv ct) [a] []) (Sg : FnScope Ng [a] sg) (hNg : Ng[0]? = some a) (hva : Vis sg a)
    (hG : GivesR X Ng x sg g cdv bg a (X.env.qual ++ "<lambda>") TT)
    (TB : TabB X.base X.mg c P) (hcode : X.env.code = .ref c) (hmT : (P, X.env.qual ++ "<lambda>") ∈ T) (hu : ∀ p ∈ T, p.1 = P → p.2 = X.env.qual ++ "<lambda>") (hr : Room (k + 2) X.A) (L : LamN X.env.scope scope X.N)
    (hdef : params.defaults = [.Constant (.int n) j cp]) (hk0 : params.kw_defaults = []) (hyl : scope.names.lookup y = some .local)
    (hbind : ∀ (q : Str) (cl : List (Str × Addr)) (T₀ : Addr) (doc pm cv ctv u : Value), ∃ k : Option (Array Value) → Sem (List (Str × Value)), bindArgs (kdv_fn "<lambda>" q params (.expr body) scope cl (.ref T₀) doc pm cv ctv) ⟨[], []⟩ = seqItems? (.ref T₀) >>= k ∧ k (some #[u]) = pure [(y, u)])
    (hbody : ∀ (A : Around) (outer : List Env) (s : Shared) (H : Hp) (E : XK) (f c' : Addr), Room k (A.deeper (lamEnv X scope s.heap.objs.size f c')) → PE (lamCx X A outer s H E scope f c') body (t E))
    (hdb : (x == ("__debug__" : Str)) = false := by decide) (hd : (a == ("__debug__" : Str)) = false := by decide) (hcd : (a == ("__classdict__" : Str)) = false := by decide) :
    PE X (.Call (.Name x p) [.Lambda params body scope lpos] [] pos) (tLam T TT t) := by
  refine ⟨fun pins s σ H Q I ⟨hT, h⟩ => ?_⟩
  refine wpAny_Call_Name_kw (ld_glob I hg hm ?_ hdb)
  refine PySem.W.callWith_K (h₀ := X.base) I.ok.mod.kin hk ?_ (by rfl) (by rfl)
  show wpAny _ _ (spliced ((false, eval (.Lambda params body scope lpos) X.env) :: backTo pos (starEach [] X.env))) _ _ s
  refine Calls.spliced_cons (lam_makeD I TB hcode hmT hu hT hdef hk0 (L.has I.ok) rfl fun f c' T₀ tk doc' pm' ctv H1 s' I1 eN T1 hf hfn hfr hco g0 n0 f0 => ?_)
  refine Calls.spliced_nil ⟨I1.kIn, lam_endR (binds := [(y, .int n tk)]) hk lk hcg hb Sg hNg hva hG hr L hbody I1 hf hfn hfr hco (fun s1 kp => ?_) (fun z hz => ?_) (h H1 eN T1) hd hcd⟩
  · obtain ⟨kk, e1, e2⟩ := hbind (X.env.qual ++ "<lambda>") (cloFrom X.env.cells scope.names []) T₀ doc' pm' (.ref c') ctv (.int n tk)
    exact BindsTo.of_defaults rfl (kp _ _ g0 n0 f0) rfl e1 e2
  · rw [List.mem_singleton.mp hz]
    exact hyl
end
end LamR

/-! repr of data that may be a small dict, and of lists of such. -/
namespace L2
open PySem PySem.Spec PyProof.Rows
/-- data without a dict, or a dict of one int under a text -/
inductive Di (K : PySem.W.Frag) (H : Hp) : V → PyData → Prop
  | dp {v : V} {d : PyData} : Dp K H v d → Di K H v d
  | dic {a : Addr} {k : Str} {i : Int} : H a = some (.dK [(Sum.inr k, .int i)]) → Di K H (.ref a) (.dict [(.str k, .int i)])
inductive DiAll (K : PySem.W.Frag) (H : Hp) : List V → List PyData → Prop
  | nil : DiAll K H [] []
  | cons {v : V} {vs : List V} {d : PyData} {ds : List PyData} : Di K H v d → DiAll K H vs ds → DiAll K H (v :: vs) (d :: ds)
inductive ReadsI (h : Heap) : List Value → List PyData → Prop
  | nil : ReadsI h [] []
  | cons {v : Value} {vs : List Value} {d : PyData} {ds : List PyData} {as : List Addr} : Reads h v d as → (d.hasDict = true → sysModules ∉ as) → ReadsI h vs ds → ReadsI h (v :: vs) (d :: ds)
theorem ReadsI.all {h : Heap} : ∀ {vs : List Value} {ds : List PyData}, ReadsI h vs ds → ∃ as, ReadsAll h vs ds as
  | _, _, .nil => ⟨_, .nil⟩
  | _, _, .cons r _ t => let ⟨_, q⟩ := t.all; ⟨_, .cons r q⟩
theorem ReadsI.repr {prog : Program} {w : World} {h₀ : Heap} : ∀ {vs : List Value} {ds : List PyData}, ReadsI h₀ vs ds → PyData.showableAll ds = true → (∀ t ∈ PyData.shownAll ds, t.length ≤ sizeLine) →
    ∃ bs, ReadAtMost h₀ (PyData.depthAll ds) bs ∧ ReprAllK prog w bs h₀ (PyData.depthAll ds) vs (PyData.shownAll ds)
  | _, _, .nil, _, _ => ⟨[], (fun _ h => nomatch h), by simp only [PyData.shownAll]; exact .nil⟩
  | _, _, .cons (d := d) (ds := ds) r m t, hs, hz => by
    have hs' : d.showable = true ∧ PyData.showableAll ds = true := by simpa [PyData.showableAll] using hs
    obtain ⟨b1, hb1, k1⟩ := ReprK.of_reads (prog := prog) (w := w) r hs'.1 m (hz _ (by simp only [PyData.shownAll]; exact List.mem_cons_self ..))
    obtain ⟨b2, hb2, k2⟩ := ReadsI.repr (prog := prog) (w := w) t hs'.2 (fun t ht => hz t (by simp only [PyData.shownAll]; exact List.mem_cons_of_mem _ ht))
    have l1 : d.depth ≤ PyData.depthAll (d :: ds) := by simp only [PyData.depthAll]; omega
    have l2 : PyData.depthAll ds ≤ PyData.depthAll (d :: ds) := by simp only [PyData.depthAll]; omega
    refine ⟨b1 ++ b2, (hb1.mono l1).append (hb2.mono l2), ?_⟩
    simp only [PyData.depthAll, PyData.shownAll]
    have k1' : ReprK prog w b1 h₀ d.depth _ _ := k1
    exact .cons ((k1'.more fun b hb => List.mem_append_left _ hb).level_le (Nat.le_max_left _ _)) (k2.more_le (fun b hb => List.mem_append_right _ hb) (Nat.le_max_right _ _))
section
variable {X : Cx} {pins : List (Addr × Obj)} {σ : St} {H : Hp} {s : Shared}
theorem Di.reads (I : Inv X pins σ H s) {d : PyData} {v : V} {u : Value} (h : Di X.K H v d) (r : RelV v u) : ∃ as, Reads s.heap u d as ∧ (d.hasDict = true → sysModules ∉ as) := by
  cases h with
  | dp h =>
    obtain ⟨as, q⟩ := Dp.reads I d v u h r
    exact ⟨as, q, fun z => by rw [Dp.noDict h] at z; cases z⟩
  | @dic a k i hs =>
    cases r
    obtain ⟨_, hne, vs, rel, o, es, ep, ho, ⟨hx, _, _⟩, hd, _, hp, _⟩ := dk_of I.hok hs
    cases rel with
    | @cons _ q _ qs r1 r2 =>
      cases r2
      obtain ⟨qk, qv⟩ := q
      obtain ⟨e1, rv⟩ := r1
      dsimp only at e1 rv
      subst e1
      cases es with
      | mk es =>
      cases hp with
      | @cons e _ es' _ hk hv' hp' =>
        cases hp'
        rcases keyIs_shape (show keyIs (Sum.inr k) e.key = true from hk) with ⟨_, _, e2, _⟩ | ⟨y, t, e2, e3⟩
        · cases e2
        · cases e2
          dsimp only at hv'
          obtain ⟨tt, rfl⟩ := rv
          refine ⟨_, Reads.dict ho hx hd (kvs := [(.str k, .int i)]) (as := [] ++ []) (bs := [] ++ []) ?_ ?_, fun _ h => ?_⟩
          · exact .cons (by dsimp only; rw [e3]; exact .str _ _) .nil
          · exact .cons (by dsimp only; rw [hv']; exact .int _ _) .nil
          · simp only [List.append_nil, List.mem_cons, List.not_mem_nil, or_false] at h
            rw [← h] at hne
            exact absurd hne (by decide)
theorem DiAll.reads (I : Inv X pins σ H s) : ∀ {ds : List PyData} {vs : List V} {us : List Value}, DiAll X.K H vs ds → Vals vs us → ReadsI s.heap us ds
  | [], _, _, h, r => by
    cases h
    cases r
    exact .nil
  | d :: ds, _, _, h, r => by
    cases h with
    | cons h1 h2 =>
      cases r with
      | cons r1 r2 =>
        obtain ⟨as, q, m⟩ := Di.reads I h1 r1
        exact .cons q m (DiAll.reads I h2 r2)
end
/-- repr(v) -/
def rRepr1 (K : PySem.W.Frag) : List V → Hp → VK → Prop := fun xs H Q => ∃ v d, xs = [v] ∧ Di K H v d ∧ d.showable = true ∧ d.shown.length ≤ sizeLine ∧ d.depth ≤ 60 ∧ Q (.str d.shown) H
/-- repr(xs), xs a list of such -/
def rReprL (K : PySem.W.Frag) : List V → Hp → VK → Prop := fun xs H Q => ∃ a vs ds, xs = [.ref a] ∧ SqL K H a vs ∧ DiAll K H vs ds ∧ (PyData.list ds).showable = true ∧ (PyData.list ds).shown.length ≤ sizeLine ∧ PyData.depthAll ds ≤ 60 ∧ Q (.str (PyData.list ds).shown) H
theorem call_repr1 {X : Cx} (hg : X.A.guards = some []) (hu : X.A.units + 64 < cLine) : CallR X (.builtin "repr") (rRepr1 X.K) := by
  intro pins s σ H xs us Q I r h
  obtain ⟨v, d, rfl, hd, hs, hz, hdp, q⟩ := h
  cases r with
  | @cons _ u _ us r1 r2 =>
    cases r2
    show wpAny _ _ (call (.builtin "repr") [u]) _ _ _
    obtain ⟨as, rd, hm⟩ := Di.reads I hd r1
    cases rd with
    | none => exact P.repr_of_none ⟨.str _, H, I.tok _, ⟨_, rfl⟩, by simpa [PyData.shown] using q⟩
    | bool b => exact P.repr_of_bool ⟨.str _, H, I.tok _, ⟨_, rfl⟩, by simpa [PyData.shown] using q⟩
    | int i t => exact P.repr_of_int (by simpa [PyData.showable] using hs) ⟨.str _, H, I.tok _, ⟨_, rfl⟩, by simpa [PyData.shown] using q⟩
    | str x t => exact P.repr_of_str ⟨.str _, H, I.tok _, ⟨_, rfl⟩, by simpa [PyData.shown] using q⟩ (by simpa [PyData.shown] using hz)
    | list h1 h2 h3 h4 =>
      exact repr_of_reads' (.list h1 h2 h3 h4) hs hm hg (by omega) (fun _ _ e => e) (fun h' u tk k => ⟨.str _, H, I.kept (t' := tk) k, ⟨_, rfl⟩, q⟩) hz
    | tuple h1 h2 h3 h4 =>
      exact repr_of_reads' (.tuple h1 h2 h3 h4) hs hm hg (by omega) (fun _ _ e => e) (fun h' u tk k => ⟨.str _, H, I.kept (t' := tk) k, ⟨_, rfl⟩, q⟩) hz
    | dict h1 h2 h3 h4 h5 =>
      exact repr_of_reads' (.dict h1 h2 h3 h4 h5) hs hm hg (by omega) (fun _ _ e => e) (fun h' u tk k => ⟨.str _, H, I.kept (t' := tk) k, ⟨_, rfl⟩, q⟩) hz
theorem call_reprL {X : Cx} (hg : X.A.guards = some []) (hu : X.A.units + 64 < cLine) : CallR X (.builtin "repr") (rReprL X.K) := by
  intro pins s σ H xs us Q I r h
  obtain ⟨a, vs, ds, rfl, hS, hd, hs, hz, hdp, q⟩ := h
  cases r with
  | @cons _ u _ us r1 r2 =>
    cases r2
    cases r1
    show wpAny _ _ (call (.builtin "repr") [.ref a]) _ _ _
    obtain ⟨its, rv, ⟨o, n, h1, h2, _, h3⟩, _⟩ := I.list hS
    have RI := DiAll.reads I hd rv
    obtain ⟨as, h4⟩ := RI.all
    have hz' : (listText (PyData.shownAll ds)).length ≤ sizeLine := by simpa only [PyData.shown] using hz
    obtain ⟨bs, hb, hk⟩ := RI.repr (prog := X.prog) (w := X.w) (by simpa [PyData.showable] using hs) (fun t ht => Nat.le_trans (listText_mem_le ht) hz')
    have h4' : ReadsAll s.heap its.toArray.toList ds as := by simpa using h4
    have hna : a ∉ bs := not_mem_of_deeper (.list h1 h2 h3 h4') (by simp only [PyData.depth]; omega) hb
    have fin : ∀ {h' u tk}, (∀ b o, s.heap.get? b = some o → h'.get? b = some o) → EP X pins σ Q (.str (PyData.list ds).shown u) { s with heap := h', toks := tk } := fun {h' u tk} k => ⟨.str _, H, I.kept (t' := tk) k, ⟨_, rfl⟩, q⟩
    refine call_repr_slot (by omega) ⟨o, h1, h2⟩ F.slot_list_repr.toG ?_
    cases its with
    | nil =>
      cases h4
      have e : (PyData.list []).shown = ("[]" : Str) := by simp only [PyData.shown, PyData.shownAll, listText_nil]
      refine call_list_repr_empty ⟨o, h1, h2⟩ h1 h3 ⟨_, _, rfl, ?_⟩
      rw [← e]
      exact fin fun _ _ e => e
    | cons x l =>
      refine call_list_reprK h1 h2 h3 hna (by simpa using hk.length_eq) (fun i y e => hk.item i y (by simpa using e)) hg (fun b _ => Clear.nil b) (by show X.A.units + 1 + _ < _; omega) (fun _ _ e => e) (fun h' u tk k => ⟨_, _, rfl, ?_⟩) hz'
      have := fin (h' := h') (u := u) (tk := tk) k
      simpa only [PyData.shown] using this
end L2

/-! General readings (any law): data that is small, made exceptions, texts that are compared. -/
namespace L2
open PySem PySem.Spec PyProof.Rows Evl
section
variable {K : PySem.W.Frag} {σ : L2.St} {H : Hp} {ta tb : TE}
/-- xs + ys, both lists tracked: a new list -/
theorem el_cat {l : Addr} {xs ys : List V} (ha : Ev ta σ H (.ref l)) (hl : H l = some (.lst xs)) (hb : EvL tb σ H ys) (hz : xs.length + ys.length ≤ 100000) : EvL (tOp rCat ta tb) σ H (xs ++ ys) := fun H1 e Q q =>
  ha H1 e _ fun H2 e2 => hb H2 (e.trans e2) _ fun b H3 hb0 e3 hb3 => ⟨l, b, xs, ys, rfl, rfl, e3 _ _ (e2 _ _ (e _ _ hl)), hb3, sz_of hz, fun p hp => q p _ (fresh_back (e2.trans e3) hp) ((e2.trans e3).trans (Ex.new hp)) upd_same⟩
end
end L2
namespace L2
open PySem PySem.Spec PyProof.Rows Evl
mutual
theorem Dp.ex {K : PySem.W.Frag} {H H' : Hp} (e : Ex H H') : ∀ {v : V} {d : PyData}, Dp K H v d → Dp K H' v d
  | _, .none, h => by cases h; exact .non
  | _, .bool _, h => by cases h; exact .bl _
  | _, .int _, h => by cases h; exact .int _
  | _, .str _, h => by cases h; exact .str _
  | _, .list ds, h => by
    cases h with
    | lst hs ha => exact .lst (ex_l e hs) (DpAll.ex e ha)
  | _, .tuple ds, h => by
    cases h with
    | tup hs ha => exact .tup (ex_t e hs) (DpAll.ex e ha)
  | _, .dict _, h => by cases h
theorem DpAll.ex {K : PySem.W.Frag} {H H' : Hp} (e : Ex H H') : ∀ {vs : List V} {ds : List PyData}, DpAll K H vs ds → DpAll K H' vs ds
  | _, [], h => by cases h; exact .nil
  | _, d :: ds, h => by
    cases h with
    | cons h1 h2 => exact .cons (Dp.ex e h1) (DpAll.ex e h2)
end
theorem Di.ex {K : PySem.W.Frag} {H H' : Hp} (e : Ex H H') {v : V} {d : PyData} : Di K H v d → Di K H' v d
  | .dp h => .dp (h.ex e)
  | .dic h => .dic (e _ _ h)
theorem DiAll.ex {K : PySem.W.Frag} {H H' : Hp} (e : Ex H H') : ∀ {vs : List V} {ds : List PyData}, DiAll K H vs ds → DiAll K H' vs ds
  | _, _, .nil => .nil
  | _, _, .cons h t => .cons (h.ex e) (t.ex e)
/-- small data: shown in four thousand signs at most -/
structure Sm (d : PyData) : Prop where
  a : d.showable = true
  b : d.shown.length ≤ 4000
  c : d.depth ≤ 3
inductive SmAll : List PyData → Prop
  | nil : SmAll []
  | cons {d : PyData} {ds : List PyData} : Sm d → SmAll ds → SmAll (d :: ds)
theorem SmAll.show : ∀ {ds : List PyData}, SmAll ds → PyData.showableAll ds = true ∧ ((PyData.shownAll ds).map fun t => t.length + 2).sum ≤ 4002 * ds.length ∧ PyData.depthAll ds ≤ 3
  | _, .nil => ⟨by simp [PyData.showableAll], by simp [PyData.shownAll], by simp [PyData.depthAll]⟩
  | _, .cons (d := d) (ds := ds) h t => by
    obtain ⟨a, b, c⟩ := t.show
    refine ⟨by simp [PyData.showableAll, h.a, a], ?_, ?_⟩
    · simp only [PyData.shownAll, List.map_cons, List.sum_cons, List.length_cons]
      have := h.b
      omega
    · simp only [PyData.depthAll]
      have := h.c
      omega
theorem SmAll.list {ds : List PyData} (h : SmAll ds) (hl : ds.length ≤ 100) : (PyData.list ds).showable = true ∧ (PyData.list ds).shown.length ≤ sizeLine ∧ PyData.depthAll ds ≤ 60 := by
  obtain ⟨a, b, c⟩ := h.show
  refine ⟨by simpa [PyData.showable] using a, ?_, by omega⟩
  simp only [PyData.shown, listText]
  rw [strLen_append, sizeLine_eq]
  have := textFrom_cap (PyData.shownAll ds) 0 "["
  have e1 : (("[" : Str)).length = 1 := by decide
  have e2 : (("]" : Str)).length = 1 := by decide
  omega
section
variable {K : PySem.W.Frag} {σ : L2.St} {H : Hp} {ta tb te : TE}
theorem ev_repr1 {v : V} {d : PyData} (h : Ev te σ H v) (hd : Di K H v d) (s : Sm d) : Ev (tCB (rRepr1 K) (tCons te tNil)) σ H (.str d.shown) :=
  ev_cb (ea_cons h ea_nil) fun H1 e Q q => ⟨v, d, rfl, hd.ex e, s.a, Nat.le_trans s.b (by rw [sizeLine_eq]; omega), Nat.le_trans s.c (by decide), q H1 (Ex.refl H1)⟩
theorem ev_reprL {vs : List V} {ds : List PyData} (h : EvL te σ H vs) (hd : DiAll K H vs ds) (s : SmAll ds) (hl : ds.length ≤ 100) : Ev (tCB (rReprL K) (tCons te tNil)) σ H (.str (PyData.list ds).shown) := fun H1 e Q q =>
  h H1 e _ fun p H2 hp e2 h2 => ⟨p, vs, ds, rfl, sq_of h2, hd.ex (e.trans e2), (s.list hl).1, (s.list hl).2.1, (s.list hl).2.2, q H2 e2⟩
theorem ev_reprV {a : Addr} {vs : List V} {ds : List PyData} (h : Ev te σ H (.ref a)) (ha : H a = some (.lst vs)) (hd : DiAll K H vs ds) (s : SmAll ds) (hl : ds.length ≤ 100) : Ev (tCB (rReprL K) (tCons te tNil)) σ H (.str (PyData.list ds).shown) := fun H1 e Q q =>
  h H1 e _ fun H2 e2 => ⟨a, vs, ds, rfl, sq_of (e2 _ _ (e _ _ ha)), hd.ex (e.trans e2), (s.list hl).1, (s.list hl).2.1, (s.list hl).2.2, q H2 e2⟩
/-- two equal texts are not unlike -/
theorem ev_neS {z : Str} (ha : Ev ta σ H (.str z)) (hb : Ev tb σ H (.str z)) : EvT (tTest (tOp rNe ta tb)) σ H false :=
  et_test (ev_is (ev_op ha hb (rv_ne rfl)) (by simp))
/-- xs * k: a new list -/
theorem el_rep {xs : List V} {k : Int} (ha : EvL ta σ H xs) (hb : ∀ H1, Ev tb σ H1 (.int k)) (h0 : 0 ≤ k ∧ k ≤ 100) (hz : xs.length ≤ 100) : EvL (tOp rRep ta tb) σ H (List.replicate k.toNat xs).flatten := fun H1 e Q q =>
  ha H1 e _ fun l H2 hl e2 h2 => hb H2 H2 (Ex.refl _) _ fun H3 e3 => ⟨l, k, xs, rfl, rfl, e3 _ _ h2, by omega, by omega, by
    have : k.toNat ≤ 100 := by omega
    have : xs.length * k.toNat ≤ 100 * 100 := Nat.mul_le_mul hz this
    rw [sizeLine_eq]; omega, fun p hp => q p _ (fresh_back (e2.trans e3) hp) ((e2.trans e3).trans (Ex.new hp)) upd_same⟩
end
end L2
namespace Toy
open PySem L2 Evl
def nmN : Nat → Str
  | 0 => "SpanError" | 1 => "BadBase" | 2 => "BadNumber" | 3 => "BadDigits" | 4 => "BadRange" | 5 => "BadRule" | 6 => "BadReader" | 7 => "BadManner" | 8 => "BadEntry" | 9 => "BadName"
  | 10 => "BadText" | 11 => "OtherBase" | 12 => "TooMany" | 13 => "Missing" | _ => "NothingLeft"
/-- an exception that is kept at e, of the class at C -/
def ExAt (H : Hp) (e C : Addr) (d : Option Addr) : Prop := H e = some (exv e (.ref C) d) ∧ ∀ dx, d = some dx → ∃ fs, H dx = some (.xd fs)
theorem ExAt.ex {H H' : Hp} {e C : Addr} {d : Option Addr} (x : ExAt H e C d) (k : Ex H H') : ExAt H' e C d := ⟨k _ _ x.1, fun dx z => let ⟨fs, h⟩ := x.2 dx z; ⟨fs, k _ _ h⟩⟩
section
variable {K : PySem.W.Frag}
/-- e.f as a reading -/
theorem ev_xf {σ : St} {H : Hp} {f : Str} {te : TE} {e C d : Addr} {fs : List (Str × V)} {v : V} (h : Ev te σ H (.ref e)) (x : ExAt H e C (some d)) (hd : H d = some (.xd fs)) (T : XcC K C) (no : PySem.W.findIn K (.ref C) f = some none) (l : fs.lookup f = some v) :
    Ev (tXfT K f te) σ H v := fun H1 k Q q => h H1 k _ fun H2 k2 => ⟨e, C, d, fs, v, rfl, (x.ex (k.trans k2)).1, k2 _ _ (k _ _ hd), T, no, l, q H2 k2⟩
end
theorem shaped_bls (bs : List Bool) : SeqAt.shaped (.list (bs.map PyData.bool)) = true := by
  have lay : ∀ bs : List Bool, PyData.canLayAll0 (bs.map PyData.bool) = true := fun bs => by
    induction bs with
    | nil => rfl
    | cons n ns ih => simp only [List.map_cons, PyData.canLayAll0, PyData.canLay0, ih, Bool.and_self]
  have dep : ∀ bs : List Bool, PyData.depthAll (bs.map PyData.bool) ≤ 1 := fun bs => by
    induction bs with
    | nil => simp [PyData.depthAll]
    | cons n ns ih => simp only [List.map_cons, PyData.depthAll, PyData.depth]; omega
  have h := dep bs
  refine Bool.and_eq_true_iff.mpr ⟨?_, decide_eq_true ?_⟩
  · simpa only [PyData.canLay0] using lay bs
  · simp only [PyData.depth]
    omega
theorem dpAll_bls {K : PySem.W.Frag} {H : Hp} : ∀ bs : List Bool, DpAll K H (bs.map V.bl) (bs.map PyData.bool)
  | [] => .nil
  | b :: bs => .cons (.bl b) (dpAll_bls bs)
/-- two lists of the same truths are not unlike -/
theorem et_neB {K : PySem.W.Frag} {σ : St} {H : Hp} {ta tb : TE} {bs : List Bool} (ha : EvL ta σ H (bs.map V.bl)) (hb : EvL tb σ H (bs.map V.bl)) : EvT (tTest (tOp (rNeD K) ta tb)) σ H false :=
  et_test (ev_opLL ha hb fun p q H1 hp hq e => fun H2 e2 Q k => ⟨_, _, .lst (sq_of (e2 _ _ hp)) (dpAll_bls bs), .lst (sq_of (e2 _ _ hq)) (dpAll_bls bs), shaped_bls bs, shaped_bls bs, by
    rw [SeqAt.eqv_refl _ (Bool.and_eq_true_iff.mp (shaped_bls bs)).1]
    exact k _ (Ex.refl _)⟩)
/-- an exception of the class at C with one field -/
def Made1 (H : Hp) (e C : Addr) (f : Str) (v : V) : Prop := ∃ d, ExAt H e C (some d) ∧ H d = some (.xd [(f, v)])
theorem Made1.ex {H H' : Hp} {e C : Addr} {f : Str} {v : V} (x : Made1 H e C f v) (k : Ex H H') : Made1 H' e C f v := let ⟨d, a, b⟩ := x; ⟨d, a.ex k, k _ _ b⟩
def EvM (te : TE) (σ : St) (H : Hp) (C : Addr) (f : Str) (v : V) : Prop := ∀ H1, Ex H H1 → ∀ Q : VK, (∀ e H2, H1 e = none → Ex H1 H2 → Made1 H2 e C f v → Q (.ref e) H2) → te σ H1 Q
theorem em_mk {σ : St} {H : Hp} {te : TE} {C : Addr} {f : Str} {v : V} (h : Ev te σ H v) : EvM (tMkv C [f] (tCons te tNil)) σ H C f v := fun H1 e Q q =>
  h H1 e _ fun H2 e2 => ⟨rfl, fun x d hx hd hne => by
    have hx' : (upd H2 d (.xd [(f, v)])) x = none := by
      rw [upd_ne (Ne.symm hne)]
      exact hx
    exact q x _ (fresh_back e2 hx) (e2.trans ((Ex.new hd).trans (Ex.new hx'))) ⟨d, ⟨upd_same, fun dx z => by cases z; exact ⟨_, (Ex.new hx') _ _ upd_same⟩⟩, (Ex.new hx') _ _ upd_same⟩⟩
theorem ev_xfM {K : PySem.W.Frag} {σ : St} {H : Hp} {te : TE} {C : Addr} {f : Str} {v : V} (h : EvM te σ H C f v) (T : XcC K C) (no : PySem.W.findIn K (.ref C) f = some none) : Ev (tXfT K f te) σ H v := fun H1 k Q q =>
  h H1 k _ fun e H2 he e2 ⟨d, x, hd⟩ => ⟨e, C, d, _, v, rfl, x.1, hd, T, no, by simp [List.lookup], q H2 e2⟩
/-- a value of the law: data that is small -/
def Val (K : PySem.W.Frag) (H : Hp) (v : V) : Prop := ∃ d, Di K H v d ∧ Sm d
theorem sm_int {i : Int} (h : i.natAbs < 2 ^ 200) : Sm (.int i) := by
  have hl : i.natAbs.log2 < 1920 := by
    by_cases hz : i.natAbs = 0
    · rw [hz]; decide
    · exact Nat.lt_of_lt_of_le ((Nat.log2_lt hz).mpr h) (by decide)
  obtain ⟨a, b⟩ := shown_cap (.int i) (by simpa [plainD] using hl)
  exact ⟨a, Nat.le_trans b (by simp [cap]), by simp [PyData.depth]⟩
theorem Val.ex {K : PySem.W.Frag} {H H' : Hp} {v : V} (x : Val K H v) (e : Ex H H') : Val K H' v := let ⟨d, a, b⟩ := x; ⟨d, a.ex e, b⟩
theorem et_andF {σ : St} {H : Hp} {t u : TT} {a : Bool} (h1 : EvT t σ H a) (h2 : a = true → EvT u σ H false) : EvT (tAnd t u) σ H false := et_is (et_and h1 h2) (by simp)
theorem mk_at {H : Hp} {x d C : Addr} {f : Str} {v : V} (hx : H x = none) (hd : H d = none) (hne : d ≠ x) : Ex H (upd (upd H d (.xd [(f, v)])) x (exv x (.ref C) (some d))) ∧ Made1 (upd (upd H d (.xd [(f, v)])) x (exv x (.ref C) (some d))) x C f v := by
  have hx' : (upd H d (.xd [(f, v)])) x = none := by
    rw [upd_ne (Ne.symm hne)]
    exact hx
  exact ⟨(Ex.new hd).trans (Ex.new hx'), d, ⟨upd_same, fun dx z => by cases z; exact ⟨_, (Ex.new hx') _ _ upd_same⟩⟩, (Ex.new hx') _ _ upd_same⟩
theorem any_end {A : Hp → Prop} {G : Hp → Prop} {Hf : Hp} (a : A Hf) (k : ∀ Hf, A Hf → G Hf) : G Hf := k Hf a
theorem mk2_at {H : Hp} {x d C : Addr} {f f2 : Str} {a b : V} (hx : H x = none) (hd : H d = none) (hne : d ≠ x) : Ex H (upd (upd H d (.xd [(f2, b), (f, a)])) x (exv x (.ref C) (some d))) ∧ ExAt (upd (upd H d (.xd [(f2, b), (f, a)])) x (exv x (.ref C) (some d))) x C (some d) ∧ (upd (upd H d (.xd [(f2, b), (f, a)])) x (exv x (.ref C) (some d))) d = some (.xd [(f2, b), (f, a)]) := by
  have hx' : (upd H d (.xd [(f2, b), (f, a)])) x = none := by
    rw [upd_ne (Ne.symm hne)]
    exact hx
  exact ⟨(Ex.new hd).trans (Ex.new hx'), ⟨upd_same, fun dx z => by cases z; exact ⟨_, (Ex.new hx') _ _ upd_same⟩⟩, (Ex.new hx') _ _ upd_same⟩
end Toy

/-! k02: what the program's own defs tell. -/
namespace Dg
open PySem L2 Evl
def top (i : Nat) : Stmt := PySem.Challenge.pw_shortspans_k03_whole_changed_and_near.main.body.getD i (.Pass ⟨0, 0, 0, 0⟩)
abbrev sIsInt : Stmt := top 19
abbrev sIsNum : Stmt := top 20
abbrev sNeedB : Stmt := top 21
abbrev sNeedR : Stmt := top 22
abbrev sChanged : Stmt := top 23
abbrev sNear : Stmt := top 24
structure TxG (mg : Str → Option Value) : Prop where
  isi : mg "isinstance" = none
  int : mg "int" = none
  bool : mg "bool" = none
  str : mg "str" = none
  len : mg "len" = none
  sup : mg "super" = none
  least : ∃ t, mg "LEAST_BASE" = some (.int 2 t)
  most : ∃ t, mg "MOST_BASE" = some (.int 10 t)
structure TxI (K : PySem.W.Frag) (mg : Str → Option Value) (fi : Addr) : Prop extends TxG mg where
  isInt : mg "is_integer" = some (.ref fi)
  kInt : PySem.W.keepIn K (.ref fi) = true
/-- whether a value is an integer -/
inductive Kn (K : PySem.W.Frag) (H : Hp) : V → Bool → Prop
  | int (i : Int) : Kn K H (.int i) true
  | oth {v : V} {a : String} {x y : Bool} (t : TyX K H v (.type a)) (h1 : kitB a "int" = some x) (h2 : kitB a "bool" = some y) (h : (x && !y) = false) : Kn K H v false
/-- whether a value is a number -/
inductive Nm (K : PySem.W.Frag) (H : Hp) : V → Bool → Prop
  | int (i : Int) : Nm K H (.int i) (decide (1 ≤ i))
  | oth {v : V} (h : Kn K H v false) : Nm K H v false
/-- whether a value is a base -/
inductive Bs (K : PySem.W.Frag) (H : Hp) : V → Bool → Prop
  | int (i : Int) : Bs K H (.int i) (decide (2 ≤ i) && decide (i ≤ 10))
  | oth {v : V} (h : Kn K H v false) : Bs K H v false
theorem tyx_ex {K : PySem.W.Frag} {H H' : Hp} {v : V} {a : String} (e : Ex H H') (t : TyX K H v (.type a)) : TyX K H' v (.type a) := by
  cases t with
  | base b =>
    cases b with
    | non => exact .base .non
    | bl x => exact .base (.bl x)
    | int i => exact .base (.int i)
    | str x => exact .base (.str x)
    | flt x => exact .base (.flt x)
    | lst h => exact .base (.lst (e _ _ h))
    | frz h => exact .base (.frz (e _ _ h))
    | tup h => exact .base (.tup (e _ _ h))
    | dK h => exact .base (.dK (e _ _ h))
    | dT h => exact .base (.dT (e _ _ h))
  | byt b => exact .byt b
  | set h => exact .set (e _ _ h)
  | kList h c => exact .kList h c
  | kTuple h c => exact .kTuple h c
  | kDict h c => exact .kDict h c
  | fTuple h => exact .fTuple (e _ _ h)
  | fDict h => exact .fDict (e _ _ h)
theorem Kn.ex {K : PySem.W.Frag} {H H' : Hp} {v : V} {b : Bool} (e : Ex H H') (k : Kn K H v b) : Kn K H' v b := by
  cases k with
  | int i => exact .int i
  | oth t h1 h2 h => exact .oth (tyx_ex e t) h1 h2 h
theorem Nm.ex {K : PySem.W.Frag} {H H' : Hp} {v : V} {b : Bool} (e : Ex H H') (k : Nm K H v b) : Nm K H' v b := by
  cases k with
  | int i => exact .int i
  | oth h => exact .oth (h.ex e)
theorem Bs.ex {K : PySem.W.Frag} {H H' : Hp} {v : V} {b : Bool} (e : Ex H H') (k : Bs K H v b) : Bs K H' v b := by
  cases k with
  | int i => exact .int i
  | oth h => exact .oth (h.ex e)
/-- the exception C(f = v) leaves -/
def Leaves (C : Addr) (f : Str) (v : V) (H : Hp) (E : XK) : Prop := ∀ H2 d, Ex H H2 → H2 d = none → E (.ref C) (some d) (upd H2 d (.xd [(f, v)]))
theorem Leaves.go {C : Addr} {f : Str} {v : V} {H H' : Hp} {E : XK} (l : Leaves C f v H E) (e : Ex H H') : Leaves C f v H' E := fun H2 d e2 hd => l H2 d (e.trans e2) hd
section
variable {P : Program} {w : World} {K : PySem.W.Frag} {mg : Str → Option Value} {base : Heap} {ca : Nat → Addr}
theorem ev_isi {σ : St} {H : Hp} {te : TE} {v : V} {a b : String} {r : Bool} (h : Ev te σ H v) (t : TyX K H v (.type a)) (k : kitB a b = some r) : Ev (tCB (rIsi K) (tCons te (tCons (tC (.ty b)) tNil))) σ H (.bl r) :=
  ev_cb (ea_cons h (ea_cons ev_c ea_nil)) fun H1 e Q q => ⟨v, .ty b, .type a, .type b, r, rfl, .ty b, tyx_ex e t, kit_ty k, q _ (Ex.refl _)⟩
def spIsInt (K : PySem.W.Frag) : Sp := fun vs H Q _ => ∃ v b, vs = [v] ∧ Kn K H v b ∧ RetV (.bl b) H Q
theorem scIsInt : FnScope ["value"] ["value"] (defScope sIsInt) := ⟨rfl, rfl, rfl, by decide +kernel, rfl, by decide +kernel, by decide +kernel⟩
theorem ok_isInt {f : Addr} {fd : FuncData} (F : Fun K "is_integer" "is_integer" sIsInt f fd) (T : TxG mg) : FnOk P w K mg base CX0 1 f fd ["value"] (spIsInt K) := by
  refine F.ok scIsInt (fun vs H Q E h => ?_) (fun cdv A outer s H vs Q E hr h => ?_)
  · obtain ⟨v, b, rfl, _⟩ := h
    rfl
  · obtain ⟨v, b, rfl, k, q⟩ := h
    refine ⟨_, pss_one (ps_ret (pe_and (pe_callB call_isi (by rfl) T.isi (by decide +kernel) (pa_cons (pv 0) (pa_cons (pe_bltn (by rfl) T.int (by decide +kernel) (v := .ty "int") rfl) pa_nil)))
      (pe_one (pe_not (pe_callB call_isi (by rfl) T.isi (by decide +kernel) (pa_cons (pv 0) (pa_cons (pe_bltn (by rfl) T.bool (by decide +kernel) (v := .ty "bool") rfl) pa_nil))))))), ?_⟩
    cases k with
    | int i => exact s_ret (ev_andV (ev_isi (ev_var rfl) (.base (.int i)) (r := true) (by decide +kernel)) (fun _ => ev_notV (ev_isi (ev_var rfl) (.base (.int i)) (r := false) (by decide +kernel)))) fun H1 e => q H1 e
    | oth t h1 h2 hx => exact s_ret (ev_is (ev_andV (ev_isi (ev_var rfl) t h1) (fun _ => ev_notV (ev_isi (ev_var rfl) t h2))) (by rw [hx])) fun H1 e => q H1 e
def spIsNum (K : PySem.W.Frag) : Sp := fun vs H Q _ => ∃ v b, vs = [v] ∧ Nm K H v b ∧ RetV (.bl b) H Q
theorem scIsNum : FnScope ["value"] ["value"] (defScope sIsNum) := ⟨rfl, rfl, rfl, by decide +kernel, rfl, by decide +kernel, by decide +kernel⟩
theorem ev_callI {σ : St} {H : Hp} {te : TE} {v : V} {b : Bool} (h : Ev te σ H v) (k : Kn K H v b) : Ev (tCall (spIsInt K) [] E0 (tCons te tNil)) σ H (.bl b) :=
  ev_call (ea_cons h ea_nil) fun H1 e Q q E => ⟨v, b, rfl, k.ex e, fun H2 e2 => q H2 e2⟩
theorem ok_isNum {f fi : Addr} {fd fdi : FuncData} (F : Fun K "is_number" "is_number" sIsNum f fd) (GI : FnOk P w K mg base CX0 1 fi fdi ["value"] (spIsInt K)) (bI : Binds K fdi ["value"] []) (T : TxI K mg fi) : FnOk P w K mg base CX0 2 f fd ["value"] (spIsNum K) := by
  refine F.ok scIsNum (fun vs H Q E h => ?_) (fun cdv A outer s H vs Q E hr h => ?_)
  · obtain ⟨v, b, rfl, _⟩ := h
    rfl
  · obtain ⟨v, b, rfl, k, q⟩ := h
    refine ⟨_, pss_one (ps_ret (pe_and (pe_call GI hr (by rfl) T.isInt T.kInt bI .nil pass0 (pa_cons (pv 0) pa_nil)) (pe_one (pe_cmpR op_ge (pv 0) pe_int (nomark _))))), ?_⟩
    cases k with
    | int i => exact s_ret (ev_is (ev_andV (ev_callI (ev_var rfl) (.int i)) (fun _ => ev_op (ev_var rfl) ev_c rv_I0)) (by simp)) fun H1 e => q H1 e
    | oth h => exact s_ret (ev_is (ev_andV (b := false) (ev_callI (ev_var rfl) h) (fun z => nomatch z)) (by simp)) fun H1 e => q H1 e
/-- need_base, need_number: nothing, or the exception -/
def spNeed (J : Hp → V → Bool → Prop) (C : Addr) : Sp := fun vs H Q E => ∃ v b, vs = [v] ∧ J H v b ∧ (b = true → RetV .non H Q) ∧ (b = false → Leaves C "value" v H E)
theorem scNeedB : FnScope ["base"] ["base"] (defScope sNeedB) := ⟨rfl, rfl, rfl, by decide +kernel, rfl, by decide +kernel, by decide +kernel⟩
end
end Dg

namespace L2
open PySem PySem.Spec PyProof.Rows
section
variable {X : Cx} {e : Expr} {te : TE} {p2 p3 p4 pos : Pos} {j : Nat}
/-- xs[::-1] of a list: a new one -/
def tBack (K : PySem.W.Frag) (te : TE) : TE := fun σ H Q => te σ H fun x H2 => ∃ a xs, x = .ref a ∧ SqL K H2 a xs ∧ ∀ p, H2 p = none → Q (.ref p) (upd H2 p (.lst xs.reverse))
theorem vals_reverse : ∀ {xs : List V} {us : List Value}, Vals xs us → Vals xs.reverse us.reverse
  | _, _, .nil => .nil
  | _, _, .cons r t => by
    rw [List.reverse_cons, List.reverse_cons]
    exact (vals_reverse t).append (.cons r .nil)
theorem pe_back (he : PE X e te) : PE X (.Subscript e (.Slice none none (some (.UnaryOp .USub (.Constant (.int 1) j p3) p4)) p2) pos) (tBack X.K te) := by
  refine ⟨fun pins s σ H Q I h => ?_⟩
  refine Subscript_ (thn (he.run pins s σ H _ I h) fun v s1 ⟨x, H1, I1, r1, a, xs, ex, hx, q⟩ => ?_)
  subst ex
  obtain rfl : v = Value.ref a := r1
  refine wpAny_Slice ?_
  rw [evalPart_none]
  refine wpAny_pure (wpAny_pure ?_)
  rw [evalPart_some]
  refine thn ((pe_un (pos := p4) un_neg (pe_int (X := X) (i := 1) (j := j) (pos := p3))).run pins s1 σ H1 (fun y H2 => y = .int (-1) ∧ H2 = H1) I1 ⟨1, rfl, rfl, rfl⟩) fun vu s3 ⟨y, H3, I3, r3, ey, eH⟩ => ?_
  subst ey
  rw [eH] at I3
  obtain ⟨tk, rfl⟩ := r3
  have I4 : Inv X pins σ H1 { s3 with heap := s3.heap.push { cls := .type "slice", data := .fields #[.none, .none, .int (-1) tk] } } := I3.kept (t' := s3.toks) fun b ob q => Heap.get?_push_of_some _ q
  obtain ⟨its, r, ht, hz⟩ := I4.list hx
  show wpAny (model X.prog X.w) X.A (subscriptTail e (.Slice none none (some (.UnaryOp .USub (.Constant (.int 1) j p3) p4)) p2) (.ref a) (.ref s3.heap.objs.size)) (EP X pins σ Q) X.xe { s3 with heap := s3.heap.push { cls := .type "slice", data := .fields #[.none, .none, .int (-1) tk] } }
  refine tail_any (ops := _) ht.isList.typeIs slot_list_getitem.lookup ?_ (by with_unfolding_all rfl)
  refine wpAny_getItem_list_slice ht.isList (Heap.IsSliceOf.new ..) .none .none (.int _ _) (by simp) ?_ (by rw [List.size_toArray, ← r.length]; exact hz)
  rw [PySem.W.krv_pick]
  refine ⟨.ref _, _, I4.laid (t' := s3.toks) (o := .lst xs.reverse) (fun b ob q => Heap.get?_push_of_some _ q) (Nat.le_refl _) ?_, rfl, q _ (I4.hok.fresh (Nat.le_refl _))⟩
  exact ⟨by rw [List.length_reverse]; exact hz, its.reverse, 0, vals_reverse r, Heap.get?_push_size _ rfl⟩
end
end L2

namespace Evl
open PySem L2
/-- a <= b <= c of whole numbers -/
theorem ev_chI {σ : St} {H : Hp} {ta tb tc : TE} {a b c : Int} (ha : Ev ta σ H (.int a)) (hb : Ev tb σ H (.int b)) (hc : Ev tc σ H (.int c)) :
    Ev (tChain (rI0 fun i j => .bl (decide (i ≤ j))) (rI0 fun i j => .bl (decide (i ≤ j))) ta tb tc) σ H (.bl (decide (a ≤ b) && decide (b ≤ c))) := fun H1 e Q q =>
  ha H1 e _ fun H2 e2 => hb H2 (e.trans e2) _ fun H3 e3 => ⟨a, b, rfl, rfl, _, rfl, by
    by_cases h : a ≤ b
    · rw [if_pos (decide_eq_true h)]
      exact hc H3 ((e.trans e2).trans e3) _ fun H4 e4 => ⟨b, c, rfl, rfl, by
        have z := q H4 ((e2.trans e3).trans e4)
        rw [decide_eq_true h, Bool.true_and] at z
        exact z⟩
    · rw [if_neg (by simpa using h)]
      have z := q H3 (e2.trans e3)
      rw [decide_eq_false h, Bool.false_and] at z
      exact z⟩
end Evl
namespace Dg
open PySem L2 Evl
/-- the digits of a number, the last one first -/
def dlF (b : Nat) : Nat → Nat → List Nat
  | 0, _ => []
  | k + 1, n => if n = 0 then [] else n % b :: dlF b k (n / b)
def dl (b n : Nat) : List Nat := dlF b n n
theorem dlF_fuel {b : Nat} (hb : 2 ≤ b) : ∀ k n : Nat, n ≤ k → dlF b k n = dl b n := by
  have key : ∀ k n m : Nat, n ≤ k → n ≤ m → dlF b k n = dlF b m n := by
    intro k
    induction k with
    | zero =>
      intro n m h1 h2
      have : n = 0 := by omega
      subst this
      cases m <;> simp [dlF]
    | succ k ih =>
      intro n m h1 h2
      by_cases hn : n = 0
      · subst hn
        cases m <;> simp [dlF]
      · cases m with
        | zero => omega
        | succ m =>
          have hlt : n / b < n := Nat.div_lt_self (by omega) (by omega)
          simp only [dlF, if_neg hn]
          rw [ih (n / b) m (by omega) (by omega)]
  exact fun k n h => key k n n h (Nat.le_refl _)
theorem dl_zero (b : Nat) : dl b 0 = [] := rfl
theorem dl_step {b n : Nat} (hb : 2 ≤ b) (hn : 0 < n) : dl b n = n % b :: dl b (n / b) := by
  obtain ⟨k, rfl⟩ : ∃ k, n = k + 1 := ⟨n - 1, by omega⟩
  have hlt : (k + 1) / b < k + 1 := Nat.div_lt_self (by omega) (by omega)
  show dlF b (k + 1) (k + 1) = _
  simp only [dlF, if_neg (by omega : ¬ k + 1 = 0)]
  rw [dlF_fuel hb k _ (by omega)]
theorem dl_lt {b : Nat} (hb : 2 ≤ b) : ∀ n : Nat, ∀ d ∈ dl b n, d < b := by
  intro n
  induction n using Nat.strongRecOn with
  | ind n ih =>
    intro d hd
    by_cases hn : n = 0
    · subst hn; exact absurd hd (by simp [dl_zero])
    · rw [dl_step hb (by omega)] at hd
      rcases List.mem_cons.mp hd with rfl | h
      · exact Nat.mod_lt _ (by omega)
      · exact ih _ (Nat.div_lt_self (by omega) (by omega)) d h
theorem dl_len {b : Nat} (hb : 2 ≤ b) : ∀ k n : Nat, n < 2 ^ k → (dl b n).length ≤ k := by
  intro k
  induction k with
  | zero =>
    intro n h
    have : n = 0 := by simpa using h
    subst this
    simp [dl_zero]
  | succ k ih =>
    intro n h
    by_cases hn : n = 0
    · subst hn; simp [dl_zero]
    · rw [dl_step hb (by omega), List.length_cons]
      have : n / b < 2 ^ k := by
        have h1 : n / b ≤ n / 2 := Nat.div_le_div_left hb (by decide)
        have h2 : n / 2 < 2 ^ k := by
          rw [Nat.div_lt_iff_lt_mul (by decide)]
          rw [Nat.pow_succ] at h
          exact h
        omega
      have := ih _ this
      omega
/-- a figure -/
def fig (d : Nat) : Str := ⟨#[48 + d]⟩
theorem figs_at {d : Nat} (h : d < 10) : atI ("0123456789" : Str).cps.toList (d : Int) = some (48 + d) := by
  have c : d = 0 ∨ d = 1 ∨ d = 2 ∨ d = 3 ∨ d = 4 ∨ d = 5 ∨ d = 6 ∨ d = 7 ∨ d = 8 ∨ d = 9 := by omega
  rcases c with rfl | rfl | rfl | rfl | rfl | rfl | rfl | rfl | rfl | rfl <;> decide +kernel
/-- what digits tells -/
def digs (b n : Nat) : Str := Txt.join "" (((dl b n).map fig).reverse)
structure TxF (K : PySem.W.Frag) (mg : Str → Option Value) (fi fnum fnb fnr : Addr) : Prop extends TxI K mg fi where
  isNum : mg "is_number" = some (.ref fnum)
  kNum : PySem.W.keepIn K (.ref fnum) = true
  needB : mg "need_base" = some (.ref fnb)
  kNB : PySem.W.keepIn K (.ref fnb) = true
  needR : mg "need_range" = some (.ref fnr)
  kNR : PySem.W.keepIn K (.ref fnr) = true
end Dg
namespace Dg
open PySem L2 Evl TL
theorem joinL_nil : ∀ ls : List (List Nat), joinL [] ls = ls.flatten
  | [] => rfl
  | [p] => by simp [joinL]
  | p :: q :: r => by simp [joinL, joinL_nil (q :: r)]
theorem flat_one : ∀ l : List Nat, (l.map fun d => [48 + d]).flatten = l.map (48 + ·)
  | [] => rfl
  | d :: l => by simp [flat_one l]
theorem tl_digs (b n : Nat) : tl (digs b n) = (dl b n).reverse.map (48 + ·) := by
  unfold digs
  rw [join_eq, tl_join]
  show joinL [] _ = _
  rw [joinL_nil, List.map_reverse, List.map_map]
  have e : (tl ∘ fig) = fun d => [48 + d] := funext fun d => rfl
  rw [e, ← List.map_reverse, flat_one]
theorem digs_len (b n : Nat) : (digs b n).length = (dl b n).length := by
  show (digs b n).cps.size = _
  rw [← Array.length_toList, show (digs b n).cps.toList = tl (digs b n) from rfl, tl_digs, List.length_map, List.length_reverse]
theorem dl_lenB {b : Nat} (hb : 2 ≤ b) : ∀ k n : Nat, n < b ^ k → (dl b n).length ≤ k
  | 0, n, h => by
    have : n = 0 := by
      rw [Nat.pow_zero] at h
      omega
    subst this
    simp [dl_zero]
  | k + 1, n, h => by
    rcases Nat.eq_zero_or_pos n with h0 | h0
    · subst h0
      simp [dl_zero]
    · rw [dl_step hb h0, List.length_cons]
      have := dl_lenB hb k (n / b) (by
        rw [Nat.pow_succ] at h
        exact Nat.div_lt_of_lt_mul (by rw [Nat.mul_comm]; exact h))
      omega
section
variable {P : Program} {w : World} {K : PySem.W.Frag} {mg : Str → Option Value} {base : Heap} {ca : Nat → Addr} {fi fnum fnb fnr : Addr}
theorem ok_needB {f : Addr} {fd fdi : FuncData} (F : Fun K "need_base" "need_base" sNeedB f fd) (GI : FnOk P w K mg base CX0 1 fi fdi ["value"] (spIsInt K)) (bI : Binds K fdi ["value"] []) (T : TxI K mg fi)
    (M : Mks P K mg (ca 1) ["value"]) (gC : mg "BadBase" = some (.ref (ca 1))) : FnOk P w K mg base (L2.CX P w) 2 f fd ["base"] (spNeed (Bs K) (ca 1)) := by
  refine F.okX scNeedB (fun vs H Q E h => ?_) (fun cdv A outer s H vs Q E hr h => ?_)
  · obtain ⟨v, b, rfl, _⟩ := h
    rfl
  · obtain ⟨v, b, rfl, k, qy, qn⟩ := h
    obtain ⟨t1, hl⟩ := T.least
    obtain ⟨t2, hm⟩ := T.most
    refine ⟨_, pss_one (ps_if (PW.pt (pw_or (pt_not (pt_val (pe_call GI hr (by rfl) T.isInt T.kInt bI .nil pass0 (pa_cons (pv 0) pa_nil)))) (pw_or1 (pt_not (pt_chain op_le op_le (pe_glob (by rfl) hl (v := .int 2) ⟨_, rfl⟩) (pv 0) (pe_glob (by rfl) hm (v := .int 10) ⟨_, rfl⟩))))))
      (pss_one (ps_raise rfl (takes_of rfl rfl rfl rfl) (pmk_mks M T.sup hr (by simp) (pa_cons (pv 0) pa_nil) (by rfl) gC))) pss_nil), ?_⟩
    cases k with
    | int i =>
      refine s_when (b := !(decide (2 ≤ i) && decide (i ≤ 10))) (et_is (et_or (et_not (et_B (ev_callI (ev_var rfl) (.int i)))) fun _ => et_not (et_test (ev_chI ev_c (ev_var rfl) ev_c))) (by simp)) (fun z H1 e => ?_) (fun z H1 e => qy (by simpa using z) H1 e)
      exact ⟨_, rfl, rfl, fun d hd => qn (by rw [Bool.not_eq_true'] at z; exact z) H1 d e hd⟩
    | oth h =>
      refine s_when (b := true) (et_is (et_or (b := true) (et_not (et_B (ev_callI (ev_var rfl) h))) fun z => nomatch z) (by simp)) (fun z H1 e => ?_) (fun z => nomatch z)
      exact ⟨_, rfl, rfl, fun d hd => qn rfl H1 d e hd⟩
end
end Dg

namespace Dr
open PySem L2
def top (i : Nat) : Stmt := PySem.Challenge.pw_shortspans_k03_whole_changed_and_near.main.body.getD i (.Pass ⟨0, 0, 0, 0⟩)
abbrev sMixed : Stmt := top 26
abbrev sBegin : Stmt := top 27
abbrev sDraw : Stmt := top 28
abbrev sOf : Stmt := top 29
/-- the built-ins that the draws name -/
structure TxB (mg : Str → Option Value) : Prop where
  int : mg "int" = none
  len : mg "len" = none
  list : mg "list" = none
section
variable {P : Program} {w : World} {K : PySem.W.Frag} {mg : Str → Option Value} {base : Heap}
def spMixed : Sp := fun vs H Q _ => ∃ c k : Int, vs = [.int c, .int k] ∧ 0 ≤ k ∧ k < 2 ^ 40 ∧ ∀ r : Int, 0 ≤ r → r < 2147483629 → Q (.int r) H
theorem scMixed : FnScope ["cell", "k"] ["cell", "k"] (defScope sMixed) := ⟨rfl, rfl, rfl, by decide +kernel, rfl, by decide +kernel, by decide +kernel⟩
theorem ok_mixed {f : Addr} {fd : FuncData} (F : Fun K "_law_mixed" "_law_mixed" sMixed f fd) (T : TxB mg) : FnOk P w K mg base CX0 1 f fd ["cell", "k"] spMixed := by
  refine F.ok scMixed (fun vs H Q E h => ?_) (fun cdv A outer s H vs Q E hr h => ?_)
  · obtain ⟨c, k, rfl, _⟩ := h
    rfl
  · obtain ⟨c, k, rfl, h0, h1, q⟩ := h
    refine ⟨_, pss_cons (ps_set (i := 0) scMixed.nd rfl (.inl rfl) (pe_op op_mod (pe_callTy call_int1 (by rfl) T.int (by decide +kernel) (pa_cons (pv 0) pa_nil)) pe_int))
      (pss_one (ps_ret (pe_op op_mod (pe_op op_mul (pe_op op_mod (pe_op op_add (pe_op op_add (pe_op op_mul (pv 0) (pe_op op_add pe_int (pe_op op_mul (pe_op op_mul pe_int (pv 1)) (pv 1)))) (pe_op op_mul pe_int (pv 1))) pe_int) pe_int) pe_int) pe_int))), ?_⟩
    have e0 : (0 : Int) < 2147483647 := by decide
    have e1 : (0 : Int) < 2147483629 := by decide
    have a0 := Int.emod_nonneg c (Int.ne_of_gt e0)
    have a1 := Int.emod_lt_of_pos c e0
    refine ⟨_, rfl, .inl ⟨_, rfl, _, _, rfl, rfl, e0, ?_⟩⟩
    refine ⟨_, rfl, _, rfl, _, _, rfl, rfl, .inl ⟨by decide, by decide⟩, _, rfl, _, _, rfl, rfl, .inl ⟨by omega, by omega⟩, _, _, rfl, rfl, _, _, rfl, rfl, .inl ⟨by omega, by omega⟩, _, rfl, _, _, rfl, rfl, .inl ⟨by decide, by decide⟩, _, _, rfl, rfl, _, _, rfl, rfl, _, _, rfl, rfl, e0, _, _, rfl, rfl, .inl ⟨?_, ?_⟩, _, _, rfl, rfl, e1, ?_⟩
    · exact Int.lt_of_lt_of_le (by decide) (Int.emod_nonneg _ (Int.ne_of_gt e0))
    · exact Int.lt_trans (Int.emod_lt_of_pos _ e0) (by decide)
    · exact q _ (Int.emod_nonneg _ (Int.ne_of_gt e1)) (Int.emod_lt_of_pos _ e1)
end
end Dr
namespace Dr
open PySem L2
/-- the drawer's state: at p, its cells at c, what is left of the great ones at l; a draws were made -/
structure StAt (H : Hp) (p c l : Addr) (n : Nat) (a : Int) : Prop where
  d : H p = some (.dK [(Sum.inr "cells", .ref c), (Sum.inr "lefts", .ref l), (Sum.inr "at", .int a)])
  c : ∃ cs : List Int, H c = some (.lst (cs.map V.int)) ∧ cs.length = n
  l : ∃ ls : List Int, H l = some (.lst (ls.map V.int)) ∧ ls.length = n
  n0 : 0 < n
  n1 : n ≤ 63
  a0 : 0 ≤ a
theorem StAt.ne {H : Hp} {p c l : Addr} {n : Nat} {a : Int} (S : StAt H p c l n a) : p ≠ c ∧ p ≠ l := by
  obtain ⟨cs, hc, _⟩ := S.c
  obtain ⟨ls, hl, _⟩ := S.l
  exact ⟨ne_of S.d hc (by intro z; cases z), ne_of S.d hl (by intro z; cases z)⟩
/-- all that was tracked stands, but for the drawer's own dict and list -/
def SameB (H H' : Hp) (p l : Addr) : Prop := ∀ b o, H b = some o → b ≠ p → b ≠ l → H' b = some o
section
variable {P : Program} {w : World} {K : PySem.W.Frag} {mg : Str → Option Value} {base : Heap}
def spBegin (K : PySem.W.Frag) : Sp := fun vs H Q _ => ∃ (s : Addr) (ns : List Int), vs = [.ref s] ∧ SqL K H s (ns.map V.int) ∧ ns.length ≤ 63 ∧
  ∀ (p c l : Addr) (n : Nat) (H' : Hp), Same H H' → H p = none → H l = none → StAt H' p c l n 0 → l ≠ c → Q (.ref p) H'
theorem scBegin : FnScope ["script", "cells", "cell"] ["script"] (defScope sBegin) := ⟨rfl, rfl, rfl, by decide +kernel, rfl, by decide +kernel, by decide +kernel⟩
abbrev kC : Key := Sum.inr ("cells" : Str)
abbrev kL : Key := Sum.inr ("lefts" : Str)
abbrev kA : Key := Sum.inr ("at" : Str)
theorem k12 : ¬ kC = kL := by decide +kernel
theorem k13 : ¬ kC = kA := by decide +kernel
theorem k23 : ¬ kL = kA := by decide +kernel
abbrev dk3 (a b c : V) : List (Key × V) := [(kC, a), (kL, b), (kA, c)]
theorem merge3 (a b c : V) : mergeK [] (dk3 a b c) = dk3 a b c := by
  have d12 : decide (kC = kL) = false := decide_eq_false k12
  have d13 : decide (kC = kA) = false := decide_eq_false k13
  have d23 : decide (kL = kA) = false := decide_eq_false k23
  simp only [mergeK, List.foldl_cons, List.foldl_nil, putK, List.any_nil, Bool.false_eq_true, if_false, List.nil_append, List.any_cons, d12, d13, d23, Bool.or_false, List.cons_append]
theorem put_at (a b c z : V) : putK (dk3 a b c) kA z = dk3 a b z := by
  have d13 : decide (kC = kA) = false := decide_eq_false k13
  have d23 : decide (kL = kA) = false := decide_eq_false k23
  simp only [putK, List.any_cons, List.any_nil, d13, d23, Bool.false_or, Bool.or_false, decide_true, if_true, List.map_cons, List.map_nil, if_neg k13, if_neg k23]
theorem val_cells (a b c : V) : valV (dk3 a b c) kC = some a := valV_pos rfl
theorem val_lefts (a b c : V) : valV (dk3 a b c) kL = some b := (valV_neg k12).trans (valV_pos rfl)
theorem val_at (a b c : V) : valV (dk3 a b c) kA = some c := (valV_neg k13).trans ((valV_neg k23).trans (valV_pos rfl))
theorem lay_ints : ∀ ns : List Int, PyData.canLayAll0 (ns.map PyData.int) = true
  | [] => rfl
  | n :: ns => by
    simp only [List.map_cons, PyData.canLayAll0, PyData.canLay0, lay_ints ns, Bool.and_self]
theorem depth_ints : ∀ ns : List Int, PyData.depthAll (ns.map PyData.int) ≤ 1
  | [] => by simp [PyData.depthAll]
  | n :: ns => by
    have := depth_ints ns
    simp only [List.map_cons, PyData.depthAll, PyData.depth]
    omega
theorem shaped_ints (ns : List Int) : SeqAt.shaped (.list (ns.map PyData.int)) = true := by
  have h := depth_ints ns
  refine Bool.and_eq_true_iff.mpr ⟨?_, decide_eq_true ?_⟩
  · simpa only [PyData.canLay0] using lay_ints ns
  · simp only [PyData.depth]
    omega
theorem eqv_nil (ns : List Int) : PyData.eqv (.list (ns.map .int)) (.list []) = decide (ns = []) := by
  cases ns with
  | nil => simp [PyData.eqv, PyData.eqvAll]
  | cons n ns => simp [PyData.eqv, PyData.eqvAll]
theorem dpAll_ints {K : PySem.W.Frag} {H : Hp} : ∀ ns : List Int, DpAll K H (ns.map V.int) (ns.map PyData.int)
  | [] => .nil
  | n :: ns => .cons (.int n) (dpAll_ints ns)
theorem ok_begin {f : Addr} {fd : FuncData} (F : Fun K "_law_begin" "_law_begin" sBegin f fd) (T : TxB mg) : FnOk P w K mg base CX0 1 f fd ["script"] (spBegin K) := by
  refine F.ok scBegin (fun vs H Q E h => ?_) (fun cdv A outer s H vs Q E hr h => ?_)
  · obtain ⟨s, ns, rfl, _⟩ := h
    rfl
  · obtain ⟨sc, ns, rfl, hS, hlen, q⟩ := h
    refine ⟨_, pss_cons (ps_set (i := 1) scBegin.nd rfl (.inl rfl) (pe_ifExp (pt_cmpR (op_neD hr.units) (pv 0) (pe_lst pa_nil) (nomark _)) (pe_callTy call_list_of (by rfl) T.list (by decide +kernel) (pa_cons (pv 0) pa_nil)) (pe_lst (pa_cons pe_int pa_nil))))
      (pss_one (ps_ret (pe_disp (pps_cons pe_str (pv 1) (pps_cons pe_str (pe_lc (own := [("cell", 2)]) (g := gName 2) (tt := tYes) rfl scBegin.nd (pi_list (pv 1)) (blkOk_by (N := ["script", "cells", "cell"]) (sc := defScope sBegin) (by decide +kernel))
        (fun _ _ _ _ _ => pg_name (i := 2) scBegin.nd rfl (Or.inl rfl)) (fun _ _ _ _ _ => pts_nil) (fun _ _ _ _ _ => pe_ifExp (pt_cmpR op_ge (pv 2) (pe_op op_pow pe_int pe_int) (nomark _)) (pv 2) pe_int)) (pps_cons pe_str pe_int pps_nil))) (by rfl) (by rfl) (fun z => by cases z) (by decide)))), ?_⟩
    refine ⟨_, rfl, (by show (0:Nat) ≤ sizeLine; rw [sizeLine_eq]; omega), fun p0 np0 => ?_⟩
    refine ⟨.list (ns.map .int), .list [], .lst ((Same.seq (fun b o e => by rw [upd_ne (ne_of_none e np0)]; exact e) hS)) (dpAll_ints ns), .lst (SqL.of upd_same) .nil, shaped_ints ns, by decide +kernel, ?_⟩
    rw [eqv_nil]
    have sp0 : Same H (upd H p0 (.lst [])) := fun b o e => by
      rw [upd_ne (ne_of_none e np0)]
      exact e
    have sel : ∃ b : Bool, (!decide (ns = [])) = b ∧ ∀ G : Addr → Hp → Prop, (∀ (c : Addr) (H1 : Hp) (xs : List Int), xs ≠ [] → xs.length ≤ 63 → Same H H1 → H1 c = some (.lst (xs.map V.int)) → G c H1) →
        (b = true → ∀ c, (upd H p0 (.lst [])) c = none → G c (upd (upd H p0 (.lst [])) c (.lst (ns.map V.int)))) ∧ (b = false → ∀ c, (upd H p0 (.lst [])) c = none → G c (upd (upd H p0 (.lst [])) c (.lst [V.int 0]))) := by
      refine ⟨_, rfl, fun G g => ⟨fun hb c nc => ?_, fun hb c nc => ?_⟩⟩
      · refine g c _ ns (fun z => by rw [decide_eq_true z] at hb; cases hb) hlen (fun b o e => ?_) upd_same
        rw [upd_ne (ne_of_none e (sp0.free nc))]
        exact sp0 b o e
      · refine g c _ [0] (by simp) (by decide) (fun b o e => ?_) upd_same
        rw [upd_ne (ne_of_none e (sp0.free nc))]
        exact sp0 b o e
    obtain ⟨b, hb, sel⟩ := sel
    refine ⟨b, by rw [hb], ?_⟩
    have fin : ∀ (c : Addr) (H1 : Hp) (xs : List Int), xs ≠ [] → xs.length ≤ 63 → Same H H1 → H1 c = some (.lst (xs.map V.int)) → (fun (x : V) (H1 : Hp) =>
      gName 1 x (L2.start ["script", "cells", "cell"] [V.ref sc]) H1
        ({ nx := tRet (tDisp [(tC (V.str "cells"), tVar 1), (tC (V.str "lefts"), tLc (iList K (tVar 1)) (gName 2) tYes
                        (tIf (tTest (tOp (rI0 fun i j => V.bl (decide (j ≤ i))) (tVar 2) (tOp (rI CPow fun i j => V.int (i ^ j.toNat)) (tC (V.int 10)) (tC (V.int 18))))) (tVar 2) (tC (V.int 0)))
                        (List.map (fun x => x.2) ([(("cell" : Str), 2)] : List (Str × Nat)))), (tC (V.str "at"), tC (V.int 0))]) { nx := fun x H' => Q V.non H', rt := Q }, rt := Q } : Ends).nx) (V.ref c) H1 := by
      intro c H1 xs hx hl s1 hc
      show ∀ p, H1 p = none → _
      intro p np
      have npc : c ≠ p := ne_of_none hc np
      have sp : Same H1 (upd H1 p (.dK [])) := fun b o e => by
        rw [upd_ne (ne_of_none e np)]
        exact e
      refine ⟨_, rfl, _, rfl, c, rfl, ⟨_, SqL.of (sp _ _ hc)⟩, fun D nD => lc_list (K := K) (a := c) (xs := xs.map V.int) (fun i H2 => ∃ ls : List Int, H2 D = some (.lst (ls.map V.int)) ∧ ls.length = i ∧ Same (upd H1 p (.dK [])) H2) ?_ ?_ ?_ ?_⟩
      · exact ⟨[], upd_same, rfl, fun b o e => by rw [upd_ne (ne_of_none e nD)]; exact e⟩
      · rintro i H2 _ ⟨ls, _, _, s2⟩
        exact SqL.of (s2 _ _ (sp _ _ hc))
      · rintro i x H2 hi ⟨ls, hD, hn, s2⟩
        rw [List.getElem?_map] at hi
        obtain ⟨z, hz, rfl⟩ := Option.map_eq_some_iff.mp hi
        have hlt : i < xs.length := (List.getElem?_eq_some_iff.mp hz).1
        have stp : ∀ y : Int, ∃ acc, H2 D = some (.lst acc) ∧ acc.length < sizeLine ∧ ∃ ls : List Int, (upd H2 D (.lst (acc ++ [V.int y]))) D = some (.lst (ls.map V.int)) ∧ ls.length = i + 1 ∧ Same (upd H1 p (.dK [])) (upd H2 D (.lst (acc ++ [V.int y]))) := fun y =>
          ⟨_, hD, by rw [List.length_map, sizeLine_eq]; omega, ls ++ [y], by rw [upd_same, List.map_append]; rfl, by rw [List.length_append, hn]; rfl, fun b o e => by rw [upd_ne (ne_of_none e nD)]; exact s2 b o e⟩
        refine ⟨rfl, ?_⟩
        rw [show (tYes : TT) = fun _ H Q => Q true H from rfl]
        dsimp only
        rw [if_pos rfl]
        refine ⟨_, rfl, _, _, rfl, rfl, ⟨by decide, by decide, by decide⟩, _, _, rfl, rfl, _, rfl, ?_⟩
        refine ite2 (fun _ => ?_) (fun _ => ?_)
        · exact ⟨_, rfl, stp z⟩
        · exact stp 0
      · rintro H2 ⟨ls, hD, hn, s2⟩
        rw [List.length_map] at hn
        have hp2 : H2 p = some (.dK []) := s2 _ _ upd_same
        have npD : D ≠ p := fun z => by
          rw [z, upd_same] at nD
          cases nD
        have ncD : D ≠ c := fun z => by
          rw [z, upd_ne npc, hc] at nD
          cases nD
        refine ⟨hp2, [(Sum.inr "cells", .ref c), (Sum.inr "lefts", .ref D), (Sum.inr "at", .int 0)], rfl, by show 3 ≤ 15; decide, ?_⟩
        have nDH : H D = none := by
          rw [upd_ne npD] at nD
          exact s1.free nD
        have hm := merge3 (V.ref c) (V.ref D) (V.int 0)
        refine q p c D xs.length _ (fun b o e => ?_) (s1.free np) nDH ⟨by rw [upd_same, hm], ⟨xs, by rw [upd_ne npc]; exact s2 _ _ (sp _ _ hc), rfl⟩, ⟨ls, by rw [upd_ne npD]; exact hD, hn⟩, List.length_pos_iff.mpr hx, hl, Int.le_refl 0⟩ ncD
        rw [upd_ne (ne_of_none e (s1.free np))]
        exact s2 _ _ (sp _ _ (s1 _ _ e))
    cases b with
    | true => exact iteT ⟨_, rfl, sc, _, rfl, .inl (Same.seq sp0 hS), fun c nc => (sel _ fin).1 rfl c nc⟩
    | false => exact iteF ⟨by show 1 ≤ sizeLine; rw [sizeLine_eq]; omega, fun c nc => (sel _ fin).2 rfl c nc⟩
end
end Dr
namespace Dr
open PySem L2
structure TxD (K : PySem.W.Frag) (mg : Str → Option Value) (fm : Addr) : Prop extends TxB mg where
  mixed : mg "_law_mixed" = some (.ref fm)
  kMixed : PySem.W.keepIn K (.ref fm) = true
section
variable {P : Program} {w : World} {K : PySem.W.Frag} {mg : Str → Option Value} {base : Heap}
def spDraw : Sp := fun vs H Q _ => ∃ (p c l : Addr) (n : Nat) (a m : Int), vs = [.ref p, .int m] ∧ StAt H p c l n a ∧ l ≠ c ∧ a < 2 ^ 39 ∧ 0 < m ∧ m < 1073741824 ∧
  ∀ (r : Int) (H' : Hp), 0 ≤ r → r < m → StAt H' p c l n (a + 1) → SameB H H' p l → (∀ b, H b = none → H' b = none) → Q (.int r) H'
theorem scDraw : FnScope ["state", "many", "at", "place", "left", "number"] ["state", "many"] (defScope sDraw) := ⟨rfl, rfl, rfl, by decide +kernel, rfl, by decide +kernel, by decide +kernel⟩
theorem ok_draw {f fm : Addr} {fd fdm : FuncData} (F : Fun K "_law_draw" "_law_draw" sDraw f fd) (FM : Fun K "_law_mixed" "_law_mixed" sMixed fm fdm) (bM : Binds K fdm ["cell", "k"] []) (T : TxD K mg fm) : FnOk P w K mg base CX0 2 f fd ["state", "many"] spDraw := by
  have GM : FnOk P w K mg base CX0 1 fm fdm ["cell", "k"] spMixed := ok_mixed FM T.toTxB
  refine F.ok scDraw (fun vs H Q E h => ?_) (fun cdv A outer s H vs Q E hr h => ?_)
  · obtain ⟨p, c, l, n, a, m, rfl, _⟩ := h
    rfl
  · obtain ⟨p, c, l, n, a, m, rfl, S, nlc, ha, m0, m1, q⟩ := h
    have hu := hu_of hr
    have hix : ∀ {X : Cx}, X.A.units + 1 < cLine → X.A.units + 1 < cLine := fun h => h
    refine ⟨_, pss_cons (ps_set (i := 2) scDraw.nd rfl (.inl rfl) (pe_dget hu (pv 0) pe_str (fun _ _ => rfl)))
      (pss_cons (ps_dput hu (pv 0) pe_str (pe_op op_add (pv 2) pe_int) rfl)
      (pss_cons (ps_set (i := 3) scDraw.nd rfl (.inl rfl) (pe_op op_mod (pe_callTy call_int1 (by rfl) T.int (by decide +kernel) (pa_cons (pv 2) pa_nil)) (pe_callB call_len_seq (by rfl) T.len (by decide +kernel) (pa_cons (pe_dget hu (pv 0) pe_str (fun _ _ => rfl)) pa_nil))))
      (pss_cons (ps_set (i := 4) scDraw.nd rfl (.inl rfl) (pe_ix ix_list (pe_dget hu (pv 0) pe_str (fun _ _ => rfl)) (pv 3) (fun _ _ => rfl)))
      (pss_cons (ps_if (pt_cmpR op_gt (pv 4) pe_int (nomark _))
        (pss_cons (ps_asg (pe_op op_fdiv (pv 4) (pv 1)) (pg_sub (pe_dget hu (pv 0) pe_str (fun _ _ => rfl)) (pv 3) set_list))
          (pss_one (ps_ret (pe_op op_mod (pe_callTy call_int1 (by rfl) T.int (by decide +kernel) (pa_cons (pv 4) pa_nil)) (pv 1))))) pss_nil)
      (pss_cons (ps_set (i := 5) scDraw.nd rfl (.inl rfl) (pe_call GM hr (by rfl) T.mixed T.kMixed bM .nil pass0 (pa_cons (pe_call GM hr (by rfl) T.mixed T.kMixed bM .nil pass0 (pa_cons (pe_ix ix_list (pe_dget hu (pv 0) pe_str (fun _ _ => rfl)) (pv 3) (fun _ _ => rfl)) (pa_cons (pv 2) pa_nil))) (pa_cons (pe_op op_add pe_int (pv 2)) pa_nil))))
      (pss_one (ps_ret (pe_op op_mod (pe_op op_fdiv (pe_callTy call_int1 (by rfl) T.int (by decide +kernel) (pa_cons (pe_op op_add (pe_op op_mul (pv 5) pe_int) (pe_call GM hr (by rfl) T.mixed T.kMixed bM .nil pass0 (pa_cons (pv 5) (pa_cons (pe_op op_add pe_int (pv 2)) pa_nil)))) pa_nil)) pe_int) (pv 1))))))))), ?_⟩
    obtain ⟨cs, hc, hcn⟩ := S.c
    obtain ⟨ls, hl, hln⟩ := S.l
    obtain ⟨npc, npl⟩ := S.ne
    have n0 := S.n0
    have a0 := S.a0
    refine ⟨_, rfl, p, _, rfl, DGet.k (k := kA) S.d, ?_⟩
    -- state['at'] = at + 1
    obtain ⟨H1, eH1⟩ : ∃ H1, H1 = upd H p (.dK (dk3 (.ref c) (.ref l) (.int (a + 1)))) := ⟨_, rfl⟩
    have dp : DPut H p (kV kA) (.int (a + 1)) H1 := by
      rw [eH1, ← put_at (.ref c) (.ref l) (.int a)]
      exact DPut.k (k := kA) S.d (by show 3 < sizeLine; rw [PySem.sizeLine_eq]; omega)
    refine ⟨_, rfl, _, _, rfl, rfl, _, rfl, p, H1, rfl, dp, ?_⟩
    have hp1 : H1 p = some (.dK (dk3 (.ref c) (.ref l) (.int (a + 1)))) := by rw [eH1, upd_same]
    have hc1 : H1 c = some (.lst (cs.map V.int)) := by rw [eH1, upd_ne npc.symm]; exact hc
    have hl1 : H1 l = some (.lst (ls.map V.int)) := by rw [eH1, upd_ne npl.symm]; exact hl
    have sb1 : SameB H H1 p l := fun b o e h1 h2 => by rw [eH1, upd_ne h1]; exact e
    have nn1 : ∀ b, H b = none → H1 b = none := fun b e => by
      rw [eH1, upd_ne (fun z => by rw [z, S.d] at e; cases e)]
      exact e
    -- spot
    have np : (0 : Int) < ((cs.map V.int).length : Int) := by rw [List.length_map, hcn]; omega
    refine ⟨_, rfl, .inl ⟨_, rfl, _, rfl, p, _, rfl, DGet.k (k := kC) hp1, c, _, rfl, .inl (SqL.of hc1), _, _, rfl, rfl, np, ?_⟩⟩
    have eN : ((cs.map V.int).length : Int) = (n : Int) := by rw [List.length_map, hcn]
    rw [eN]
    obtain ⟨k, hk, hkn⟩ : ∃ k : Nat, a % (n : Int) = (k : Int) ∧ k < n := by
      have h1 := Int.emod_nonneg a (show (n : Int) ≠ 0 by omega)
      have h2 := Int.emod_lt_of_pos a (show (0 : Int) < n by omega)
      exact ⟨(a % n).toNat, by omega, by omega⟩
    rw [show ((fun i j : Int => V.int (i % j)) a (n : Int)) = V.int (k : Int) from congrArg V.int hk]
    obtain ⟨x, hx⟩ : ∃ x, ls[k]? = some x := ⟨ls[k]'(by omega), by simp [show k < ls.length by omega]⟩
    obtain ⟨y, hy⟩ : ∃ y, cs[k]? = some y := ⟨cs[k]'(by omega), by simp [show k < cs.length by omega]⟩
    have hx' : (ls.map V.int)[k]? = some (V.int x) := by rw [List.getElem?_map, hx]; rfl
    have hy' : (cs.map V.int)[k]? = some (V.int y) := by rw [List.getElem?_map, hy]; rfl
    refine ⟨_, rfl, p, _, rfl, DGet.k (k := kL) hp1, _, rfl, l, _, _, _, rfl, rfl, SqL.of hl1, atI_nat hx', ?_⟩
    refine ⟨_, rfl, _, _, rfl, rfl, _, rfl, ?_⟩
    refine ite2 (fun _ => ?_) (fun _ => ?_)
    · -- a great one is used up
      refine ⟨_, rfl, _, rfl, _, _, rfl, rfl, ⟨m0, m1⟩, _, rfl, p, _, rfl, DGet.k (k := kL) hp1, _, rfl, l, _, _, k, rfl, rfl, hl1, ?_, ?_⟩
      · unfold ixN
        rw [if_pos (by omega), if_pos (by rw [List.length_map]; omega)]
        simp
      refine ⟨_, rfl, .inl ⟨_, rfl, _, rfl, _, _, rfl, rfl, m0, ?_⟩⟩
      refine q _ _ (Int.emod_nonneg _ (by omega)) (Int.emod_lt_of_pos _ m0) ⟨?_, ⟨cs, ?_, hcn⟩, ⟨ls.set k (x / m), ?_, by rw [List.length_set]; exact hln⟩, n0, S.n1, by omega⟩ (fun b o e h1 h2 => ?_) fun b e => ?_
      · rw [upd_ne npl]; exact hp1
      · rw [upd_ne nlc.symm]; exact hc1
      · rw [upd_same, List.map_set]
      · rw [upd_ne h2]; exact sb1 b o e h1 h2
      · rw [upd_ne (fun z => by rw [z, hl] at e; cases e)]; exact nn1 b e
    · -- number
      have r0 : ∀ {z : Int}, 0 ≤ z → z < 2147483629 → -(2 ^ 64) < z ∧ z < 2 ^ 64 := fun {z} h1 h2 => ⟨by omega, by omega⟩
      refine ⟨_, rfl, p, _, rfl, DGet.k (k := kC) hp1, _, rfl, c, _, _, _, rfl, rfl, SqL.of hc1, atI_nat hy', _, rfl, y, a, rfl, a0, by omega, fun z1 z10 z11 => ?_⟩
      refine ⟨_, rfl, _, _, rfl, rfl, z1, 40 + a, rfl, by omega, by omega, fun z2 z20 z21 => ?_⟩
      refine ⟨_, rfl, _, _, rfl, rfl, .inl (r0 z20 z21), _, rfl, _, rfl, _, _, rfl, rfl, z2, 7 + a, rfl, by omega, by omega, fun z3 z30 z31 => ?_⟩
      refine ⟨_, _, rfl, rfl, .inl ⟨_, rfl, _, _, rfl, rfl, ⟨by decide, by decide⟩, _, rfl, _, _, rfl, rfl, m0, ?_⟩⟩
      exact q _ _ (Int.emod_nonneg _ (by omega)) (Int.emod_lt_of_pos _ m0) ⟨hp1, ⟨cs, hc1, hcn⟩, ⟨ls, hl1, hln⟩, n0, S.n1, by omega⟩ sb1 nn1
end
end Dr
namespace Dr
open PySem L2
structure TxO (K : PySem.W.Frag) (mg : Str → Option Value) (fm fdr : Addr) : Prop extends TxD K mg fm where
  draw : mg "_law_draw" = some (.ref fdr)
  kDraw : PySem.W.keepIn K (.ref fdr) = true
section
variable {P : Program} {w : World} {K : PySem.W.Frag} {mg : Str → Option Value} {base : Heap}
def spOf : Sp := fun vs H Q _ => ∃ (p c l so : Addr) (n : Nat) (a : Int) (xs : List V), vs = [.ref p, .ref so] ∧ StAt H p c l n a ∧ l ≠ c ∧ a < 2 ^ 39 ∧ H so = some (.lst xs) ∧ so ≠ p ∧ so ≠ l ∧ 0 < xs.length ∧ xs.length < 1073741824 ∧
  ∀ (i : Nat) (v : V) (H' : Hp), xs[i]? = some v → StAt H' p c l n (a + 1) → SameB H H' p l → (∀ b, H b = none → H' b = none) → Q v H'
theorem scOf : FnScope ["state", "some"] ["state", "some"] (defScope sOf) := ⟨rfl, rfl, rfl, by decide +kernel, rfl, by decide +kernel, by decide +kernel⟩
theorem ok_of {f fm fdr : Addr} {fd fdm fdd : FuncData} (F : Fun K "_law_of" "_law_of" sOf f fd) (GD : FnOk P w K mg base CX0 2 fdr fdd ["state", "many"] spDraw) (bD : Binds K fdd ["state", "many"] []) (T : TxO K mg fm fdr) : FnOk P w K mg base CX0 3 f fd ["state", "some"] spOf := by
  refine F.ok scOf (fun vs H Q E h => ?_) (fun cdv A outer s H vs Q E hr h => ?_)
  · obtain ⟨p, c, l, so, n, a, xs, rfl, _⟩ := h
    rfl
  · obtain ⟨p, c, l, so, n, a, xs, rfl, S, nlc, ha, hso, n1, n2, x0, x1, q⟩ := h
    refine ⟨_, pss_one (ps_ret (pe_ix ix_list (pv 1) (pe_call GD hr (by rfl) T.draw T.kDraw bD .nil pass0 (pa_cons (pv 0) (pa_cons (pe_callB call_len_seq (by rfl) T.len (by decide +kernel) (pa_cons (pv 1) pa_nil)) pa_nil))) (fun _ _ => rfl))), ?_⟩
    refine ⟨_, rfl, _, rfl, _, rfl, so, _, rfl, .inl (SqL.of hso), p, c, l, n, a, _, rfl, S, nlc, ha, by omega, by omega, fun r H' r0 r1 S' sb nn => ?_⟩
    obtain ⟨k, hk⟩ : ∃ k : Nat, r = (k : Int) := ⟨r.toNat, by omega⟩
    subst hk
    obtain ⟨v, hv⟩ : ∃ v, xs[k]? = some v := ⟨xs[k]'(by omega), by simp [show k < xs.length by omega]⟩
    exact ⟨so, xs, k, v, rfl, rfl, SqL.of (sb so _ hso n1 n2), atI_nat hv, q k v H' hv S' sb nn⟩
end
end Dr
namespace Dr
open PySem L2 Evl
theorem StAt.ex {H H' : Hp} {p c l : Addr} {n : Nat} {a : Int} (S : StAt H p c l n a) (e : Ex H H') : StAt H' p c l n a :=
  ⟨e _ _ S.d, let ⟨cs, h, k⟩ := S.c; ⟨cs, e _ _ h, k⟩, let ⟨ls, h, k⟩ := S.l; ⟨ls, e _ _ h, k⟩, S.n0, S.n1, S.a0⟩
end Dr

/-! k02: the law's own helpers. -/
namespace Dg
open PySem L2 Evl TL Dr
abbrev sLDigits : Stmt := top 31
abbrev sLPower : Stmt := top 32
/-- the text of digits, the last one first -/
def ofD (l : List Nat) : Str := ⟨(l.reverse.map (48 + ·)).toArray⟩
theorem str_ext {x y : Str} (h : tl x = tl y) : x = y := by
  cases x
  cases y
  congr 1
  exact Array.toList_inj.mp h
theorem digs_eq (b n : Nat) : digs b n = ofD (dl b n) := str_ext (by rw [tl_digs]; rfl)
theorem ofD_snoc (l : List Nat) (d : Nat) : (⟨#[48 + d]⟩ : Str) ++ ofD l = ofD (l ++ [d]) := str_ext (by
  show (#[48 + d] ++ (l.reverse.map (48 + ·)).toArray).toList = _
  simp [ofD])
theorem ofD_len (l : List Nat) : (ofD l).length = l.length := by
  show (ofD l).cps.size = _
  simp [ofD]
section
variable {P : Program} {w : World} {K : PySem.W.Frag} {mg : Str → Option Value} {base : Heap}
def spLDigits : Sp := fun vs H Q _ => ∃ β n : Nat, vs = [.int β, .int n] ∧ 2 ≤ β ∧ β ≤ 10 ∧ n < 2 ^ 50000 ∧ RetV (.str (digs β n)) H Q
theorem scLDigits : FnScope ["base", "number", "found"] ["base", "number"] (defScope sLDigits) := ⟨rfl, rfl, rfl, by decide +kernel, rfl, by decide +kernel, by decide +kernel⟩
theorem ok_ldigits {f : Addr} {fd : FuncData} (F : Fun K "_law_digits" "_law_digits" sLDigits f fd) (mI : mg "int" = none) : FnOk P w K mg base CX0 1 f fd ["base", "number"] spLDigits := by
  refine F.ok scLDigits (fun vs H Q E h => ?_) (fun cdv A outer s H vs Q E hr h => ?_)
  · obtain ⟨_, _, rfl, _⟩ := h
    rfl
  · obtain ⟨β, n, rfl, b2, b10, nz, q⟩ := h
    refine ⟨_, pss_cons (ps_set (i := 2) scLDigits.nd rfl (.inl rfl) pe_str) (pss_cons (ps_while PassesOwn.never (pt_cmpR op_gt (pv 1) pe_int (nomark _))
        (pss_cons (ps_set (i := 2) scLDigits.nd rfl (.inl rfl) (pe_op op_add_str (pe_ix ix_str pe_str (pe_op op_mod (pe_callTy call_int1 (by rfl) mI (by decide +kernel) (pa_cons (pv 1) pa_nil)) (pv 0)) (fun _ _ => rfl)) (pv 2)))
          (pss_one (ps_set (i := 1) scLDigits.nd rfl (.inl rfl) (pe_op op_fdiv (pv 1) (pv 0))))))
      (pss_one (ps_ret (pv 2)))), ?_⟩
    refine q_asg (v := .str "") ev_c fun H1 e1 => ?_
    refine q_while (fun m σ' H' => ∃ done : List Nat, σ' = [some (.int β), some (.int (m : Int)), some (.str (ofD done))] ∧ done ++ dl β m = dl β n ∧ Ex H H') n
      ⟨[], rfl, rfl, e1⟩ (fun m σ' H' ⟨done, hσ, hd, ex⟩ => ⟨decide ((0 : Int) < (m : Int)), ?_, fun z H4 e4 => ?_, fun z H4 e4 => ?_⟩)
    · subst hσ
      exact et_test (ev_op (ev_var rfl) ev_c rv_I0)
    · subst hσ
      have m0 : 0 < m := by
        have := of_decide_eq_true z
        omega
      refine ⟨fun σ2 H5 => σ2 = [some (.int β), some (.int ((m / β : Nat) : Int)), some (.str (ofD (done ++ [m % β])))] ∧ Ex H H5, fun σ2 H5 ⟨a, c⟩ => ⟨m / β, Nat.div_lt_self m0 (by omega), done ++ [m % β], a, ?_, c⟩, ?_⟩
      · rw [List.append_assoc, List.singleton_append, ← dl_step (by omega) m0]
        exact hd
      · have hlt : m % β < 10 := Nat.lt_of_lt_of_le (Nat.mod_lt _ (by omega)) b10
        refine ⟨_, rfl, .inl ⟨_, rfl, _, rfl, _, _, rfl, rfl, by show (0 : Int) < (β : Int); omega, _, _, 48 + m % β, rfl, rfl, by decide, figs_at hlt, _, rfl, _, _, rfl, rfl, ?_, _, rfl, _, rfl, _, _, rfl, rfl, ⟨by omega, by omega⟩, ?_⟩⟩
        · rw [ofD_len, sizeLine_eq]
          have h1 := congrArg List.length hd
          rw [List.length_append] at h1
          have hz := dl_len b2 50000 n nz
          clear nz q
          have : (⟨#[48 + m % β]⟩ : Str).length = 1 := rfl
          omega
        · refine ⟨?_, ex.trans e4⟩
          rw [ofD_snoc]
          rfl
    · subst hσ
      have m0 : m = 0 := by
        have := of_decide_eq_false z
        omega
      subst m0
      rw [dl_zero, List.append_nil] at hd
      subst hd
      refine ⟨_, rfl, ?_⟩
      rw [← digs_eq]
      exact q _ (ex.trans e4)
def spLPower : Sp := fun vs H Q _ => ∃ β k : Nat, vs = [.int β, .int k] ∧ 2 ≤ β ∧ β ≤ 10 ∧ k ≤ 100000 ∧ RetV (.int ((β ^ k : Nat) : Int)) H Q
theorem scLPower : FnScope ["base", "many", "found", "turn"] ["base", "many"] (defScope sLPower) := ⟨rfl, rfl, rfl, by decide +kernel, rfl, by decide +kernel, by decide +kernel⟩
theorem ok_lpower {f : Addr} {fd : FuncData} (F : Fun K "_law_power" "_law_power" sLPower f fd) (mR : mg "range" = none) : FnOk P w K mg base CX0 1 f fd ["base", "many"] spLPower := by
  refine F.ok scLPower (fun vs H Q E h => ?_) (fun cdv A outer s H vs Q E hr h => ?_)
  · obtain ⟨_, _, rfl, _⟩ := h
    rfl
  · obtain ⟨β, k, rfl, b2, b10, kz, q⟩ := h
    refine ⟨_, pss_cons (ps_set (i := 2) scLPower.nd rfl (.inl rfl) pe_int) (pss_cons (ps_for PassesOwn.never rfl (pi_range1 (by rfl) mR (pa_cons (pv 1) pa_nil)) (pg_name (i := 3) scLPower.nd rfl (.inl rfl))
        (pss_one (ps_set (i := 2) scLPower.nd rfl (.inl rfl) (pe_op op_mul (pv 2) (pv 0)))))
      (pss_one (ps_ret (pv 2)))), ?_⟩
    refine q_asg (v := .int 1) ev_c fun H1 e1 => ?_
    refine q_forR1 (n := (k : Int)) (ea_cons (ev_var rfl) ea_nil) (by omega) (fun i σ H' => Ex H H' ∧ ∃ x3, σ = [some (.int β), some (.int (k : Int)), some (.int ((β ^ i : Nat) : Int)), x3]) (fun H2 e2 => ⟨e1.trans e2, none, rfl⟩)
      (fun i σ H2 hi ⟨e2, x3, hσ⟩ => ?_) (fun σ H2 ⟨e2, x3, hσ⟩ => ?_)
    · subst hσ
      refine ⟨_, rfl, _, rfl, _, _, rfl, rfl, .inr ⟨by omega, by omega⟩, e2, some (.int (i : Int)), ?_⟩
      rw [Nat.pow_succ]
      simp
    · subst hσ
      exact ⟨_, rfl, q _ e2⟩
end
end Dg

/-! k03: need_range, changed, near. -/
namespace Dg
open PySem L2 Evl TL
/-- how many digits are changed -/
def ChgIs (β f s m : Nat) : Prop := f / β ^ m = s / β ^ m ∧ ∀ j < m, f / β ^ j ≠ s / β ^ j
theorem ChgIs.uniq {β f s m m' : Nat} (h : ChgIs β f s m) (h' : ChgIs β f s m') : m = m' := by
  rcases Nat.lt_trichotomy m m' with z | z | z
  · exact absurd h.1 (h'.2 m z)
  · exact z
  · exact absurd h'.1 (h.2 m' z)
/-- the least exponent -/
def NearIs (β d k : Nat) : Prop := d ≤ β ^ k ∧ ∀ j < k, β ^ j < d
theorem NearIs.uniq {β d k k' : Nat} (h : NearIs β d k) (h' : NearIs β d k') : k = k' := by
  rcases Nat.lt_trichotomy k k' with z | z | z
  · exact absurd h.1 (Nat.not_le.mpr (h'.2 k z))
  · exact z
  · exact absurd h'.1 (Nat.not_le.mpr (h.2 k' z))
/-- C((v, u)) leaves -/
def LeavesP (C : Addr) (v u : V) (H : Hp) (E : XK) : Prop := ∀ H2 t d, Ex H H2 → H2 t = some (.tup [v, u]) → H2 d = none → E (.ref C) (some d) (upd H2 d (.xd [("value", .ref t)]))
structure TxR (K : PySem.W.Frag) (mg : Str → Option Value) (fi fnum fnb fnr : Addr) : Prop extends TxF K mg fi fnum fnb fnr
section
variable {P : Program} {w : World} {K : PySem.W.Frag} {mg : Str → Option Value} {base : Heap} {ca : Nat → Addr} {fi fnum fnb fnr : Addr}
def spNeedR (K : PySem.W.Frag) (ca : Nat → Addr) : Sp := fun vs H Q E => ∃ v u b c, vs = [v, u] ∧ Nm K H v b ∧ Nm K H u c ∧ ((b && c) = false → LeavesP (ca 4) v u H E) ∧
  ((b && c) = true → ∃ i j : Int, v = .int i ∧ u = .int j ∧ (j ≤ i → LeavesP (ca 4) v u H E) ∧ (i < j → RetV .non H Q))
theorem scNeedR : FnScope ["first", "second"] ["first", "second"] (defScope sNeedR) := ⟨rfl, rfl, rfl, by decide +kernel, rfl, by decide +kernel, by decide +kernel⟩
theorem ok_needR {f : Addr} {fd fdn : FuncData} (F : Fun K "need_range" "need_range" sNeedR f fd) (GN : FnOk P w K mg base CX0 2 fnum fdn ["value"] (spIsNum K)) (bN : Binds K fdn ["value"] []) (T : TxF K mg fi fnum fnb fnr)
    (M : Mks P K mg (ca 4) ["value"]) (gC : mg "BadRange" = some (.ref (ca 4))) : FnOk P w K mg base (L2.CX P w) 3 f fd ["first", "second"] (spNeedR K ca) := by
  refine F.okX scNeedR (fun vs H Q E h => ?_) (fun cdv A outer s H vs Q E hr h => ?_)
  · obtain ⟨v, u, _, _, rfl, _⟩ := h
    rfl
  · obtain ⟨v, u, b, c, rfl, kb, kc, l1, l2⟩ := h
    refine ⟨_, pss_one (ps_if (PW.pt (pw_or (pt_not (pt_val (pe_call GN hr (by rfl) T.isNum T.kNum bN .nil pass0 (pa_cons (pv 0) pa_nil)))) (pw_or (pt_not (pt_val (pe_call GN hr (by rfl) T.isNum T.kNum bN .nil pass0 (pa_cons (pv 1) pa_nil)))) (pw_or1 (pt_cmpR op_ge (pv 0) (pv 1) (nomark _))))))
      (pss_one (ps_raise rfl (takes_of rfl rfl rfl rfl) (pmk_mks M T.sup hr (by simp) (pa_cons (pe_tup (pa_cons (pv 0) (pa_cons (pv 1) pa_nil))) pa_nil) (by rfl) gC))) pss_nil), ?_⟩
    have raise : LeavesP (ca 4) v u H E → ∀ H2, Ex H H2 → tMks (ca 4) ["value"] (tCons (tTup (tCons (tVar 0) (tCons (tVar 1) tNil))) tNil) (L2.start ["first", "second"] [v, u]) H2 (fun cls d H' => E cls d H') := fun lt H2 e2 =>
      ⟨_, rfl, _, rfl, by show (2 : Nat) ≤ sizeLine; rw [sizeLine_eq]; omega, fun t nt => ⟨rfl, fun d hd => lt _ t d (e2.trans (Ex.new nt)) upd_same hd⟩⟩
    have e1 : ∀ {te : TE} {x : V} {r : Bool}, Ev te (L2.start ["first", "second"] [v, u]) H x → Nm K H x r → Ev (tCall (spIsNum K) [] E0 (tCons te tNil)) (L2.start ["first", "second"] [v, u]) H (.bl r) := fun h k =>
      ev_call (ea_cons h ea_nil) fun H1 e Q q E => ⟨_, _, rfl, k.ex e, fun H2 e2 => q H2 e2⟩
    cases hb : (b && c) with
    | false =>
      refine s_when (b := true) (et_is (et_or (et_not (et_B (e1 (ev_var rfl) kb))) fun z => et_or (b := true) (et_not (et_B (e1 (ev_var rfl) kc))) fun y => ?_) ?_) (fun z H2 e2 => raise (l1 hb) H2 e2) (fun z => nomatch z)
      · cases b <;> cases c <;> simp_all
      · cases b <;> cases c <;> simp_all
    | true =>
      obtain ⟨i, j, rfl, rfl, l3, l4⟩ := l2 hb
      have hbb : b = true ∧ c = true := by cases b <;> cases c <;> simp_all
      refine s_when (b := decide (i ≥ j)) (et_is (et_or (et_not (et_B (e1 (ev_var rfl) kb))) fun z => et_or (et_not (et_B (e1 (ev_var rfl) kc))) fun y => et_test (ev_op (ev_var rfl) (ev_var rfl) rv_I0)) ?_) (fun z H2 e2 => raise (l3 (of_decide_eq_true z)) H2 e2) (fun z H2 e2 => l4 (by have := of_decide_eq_false z; omega) H2 e2)
      rw [hbb.1, hbb.2]
      simp
/-- changed, near: the base first, then the range -/
def spRng (K : PySem.W.Frag) (ca : Nat → Addr) (R : Nat → Nat → Nat → Nat → Prop) : Sp := fun vs H Q E => ∃ vb v u a b c, vs = [vb, v, u] ∧ Bs K H vb a ∧ Nm K H v b ∧ Nm K H u c ∧ (a = false → Leaves (ca 1) "value" vb H E) ∧ (a = true → (b && c) = false → LeavesP (ca 4) v u H E) ∧
  (a = true → (b && c) = true → ∃ (β f s : Nat), vb = .int β ∧ 2 ≤ β ∧ β ≤ 10 ∧ ((∃ i j : Int, v = .int i ∧ u = .int j ∧ j ≤ i ∧ LeavesP (ca 4) v u H E) ∨ (v = .int f ∧ u = .int s ∧ f < s ∧ ∀ m, R β f s m → RetV (.int m) H Q)))
abbrev nChg : List Str := ["base", "first", "second", "many"]
theorem scChanged : FnScope nChg ["base", "first", "second"] (defScope sChanged) := ⟨rfl, rfl, rfl, by decide +kernel, rfl, by decide +kernel, by decide +kernel⟩
theorem LeavesP.go {C : Addr} {v u : V} {H H' : Hp} {E : XK} (l : LeavesP C v u H E) (e : Ex H H') : LeavesP C v u H' E := fun H2 t d e2 ht hd => l H2 t d (e.trans e2) ht hd
theorem ok_changed {f : Addr} {fd fdb fdr : FuncData} (F : Fun K "changed" "changed" sChanged f fd) (GB : FnOk P w K mg base (L2.CX P w) 3 fnb fdb ["base"] (spNeed (Bs K) (ca 1))) (bB : Binds K fdb ["base"] [])
    (GR : FnOk P w K mg base (L2.CX P w) 3 fnr fdr ["first", "second"] (spNeedR K ca)) (bR : Binds K fdr ["first", "second"] []) (T : TxF K mg fi fnum fnb fnr) : FnOk P w K mg base (L2.CX P w) 4 f fd ["base", "first", "second"] (spRng K ca ChgIs) := by
  refine F.okX scChanged (fun vs H Q E h => ?_) (fun cdv A outer s H vs Q E hr h => ?_)
  · obtain ⟨_, _, _, _, _, _, rfl, _⟩ := h
    rfl
  · obtain ⟨vb, v, u, a, b, c, rfl, ka, kb, kc, l1, l2, hq⟩ := h
    refine ⟨_, pss_cons (ps_expr (pe_callS GB hr (by rfl) T.needB T.kNB bB (fun σ => passAt (takes_of rfl rfl rfl rfl) σ) (pa_cons (pv 0) pa_nil)))
      (pss_cons (ps_expr (pe_callS GR hr (by rfl) T.needR T.kNR bR (fun σ => passAt (takes_of rfl rfl rfl rfl) σ) (pa_cons (pv 1) (pa_cons (pv 2) pa_nil))))
      (pss_cons (ps_set (i := 3) scChanged.nd rfl (.inl rfl) pe_int)
      (pss_cons (ps_while (passes_of rfl) (pt_cmpR op_ne (pv 1) (pv 2) (nomark _))
        (pss_cons (ps_par (i := 1) (j := 2) (by rfl) scChanged.nd rfl rfl (by decide) rfl rfl (pa_cons (pe_op op_fdiv (pv 1) (pv 0)) (pa_cons (pe_op op_fdiv (pv 2) (pv 0)) pa_nil)) (by rfl)) (pss_one (ps_set (i := 3) scChanged.nd rfl (.inl rfl) (pe_op op_add (pv 3) pe_int)))))
      (pss_one (ps_ret (pv 3)))))), ?_⟩
    refine ⟨_, rfl, vb, a, rfl, ka, fun ha H1 e1 => ?_, fun ha => l1 ha⟩
    refine ⟨_, rfl, _, rfl, v, u, b, c, rfl, kb.ex e1, kc.ex e1, fun z => (l2 ha z).go e1, fun z => ?_⟩
    obtain ⟨β, f, s, rfl, b2, b10, alt⟩ := hq ha z
    rcases alt with ⟨i, j, rfl, rfl, hij, lt⟩ | ⟨rfl, rfl, hfs, q⟩
    · exact ⟨i, j, rfl, rfl, fun _ => lt.go e1, fun z => by omega⟩
    · refine ⟨f, s, rfl, rfl, fun z => by omega, fun _ H2 e2 => ?_⟩
      refine q_asg (v := .int 0) ev_c fun H3 e3 => ?_
      refine q_while (fun n σ' H' => Ex H H' ∧ ∃ i f' s' : Nat, σ' = [some (.int β), some (.int f'), some (.int s'), some (.int (i : Int))] ∧ f' = f / β ^ i ∧ s' = s / β ^ i ∧ n = f' + s' ∧ ∀ j < i, f / β ^ j ≠ s / β ^ j) (f + s)
        ⟨(e1.trans e2).trans e3, 0, f, s, rfl, by simp, by simp, rfl, fun j hj => absurd hj (Nat.not_lt_zero j)⟩ (fun n σ' H' ⟨ex, i, f', s', hσ, hf, hs, hn, hne⟩ => ⟨!decide (V.int (f' : Int) = V.int (s' : Int)), ?_, fun z H4 e4 => ?_, fun z H4 e4 => ?_⟩)
      · subst hσ
        exact et_test (ev_op (ev_var rfl) (ev_var rfl) (rv_ne rfl))
      · subst hσ
        have zne : f' ≠ s' := fun y => by
          rw [y] at z
          simp at z
        have lt1 : f' / β + s' / β < f' + s' := by
          rcases Nat.eq_zero_or_pos f' with y | y
          · have y2 : 0 < s' := by omega
            have := Nat.div_lt_self y2 (show 1 < β by omega)
            have := Nat.div_le_self f' β
            omega
          · have := Nat.div_lt_self y (show 1 < β by omega)
            have := Nat.div_le_self s' β
            omega
        refine ⟨fun σ2 H5 => Ex H H5 ∧ σ2 = [some (.int β), some (.int ((f' / β : Nat) : Int)), some (.int ((s' / β : Nat) : Int)), some (.int ((i + 1 : Nat) : Int))], fun σ2 H5 ⟨ex5, a⟩ => ⟨f' / β + s' / β, by omega, ex5, i + 1, f' / β, s' / β, a, by rw [Nat.pow_succ, ← Nat.div_div_eq_div_mul, ← hf], by rw [Nat.pow_succ, ← Nat.div_div_eq_div_mul, ← hs], rfl, fun j hj => ?_⟩, ?_⟩
        · rcases Nat.lt_or_ge j i with y | y
          · exact hne j y
          · have : j = i := by omega
            subst this
            rw [← hf, ← hs]
            exact zne
        · refine ⟨_, rfl, _, rfl, _, _, rfl, rfl, ⟨by omega, by omega⟩, _, rfl, _, rfl, _, _, rfl, rfl, ⟨by omega, by omega⟩, _, _, rfl, ?_⟩
          refine s_asg (i := 3) (v := .int ((i : Int) + 1)) (ev_op (ev_var rfl) ev_c rv_I0) fun H6 e6 => ⟨(ex.trans e4).trans e6, ?_⟩
          rfl
      · subst hσ
        have zeq : f' = s' := by
          have : V.int (f' : Int) = V.int (s' : Int) := by simpa using z
          injection this with this
          omega
        exact ⟨_, rfl, q i ⟨by rw [← hf, ← hs]; exact zeq, hne⟩ H4 (ex.trans e4)⟩
abbrev nNear : List Str := ["base", "first", "second", "exponent", "power"]
theorem scNear : FnScope nNear ["base", "first", "second"] (defScope sNear) := ⟨rfl, rfl, rfl, by decide +kernel, rfl, by decide +kernel, by decide +kernel⟩
theorem ok_near {f : Addr} {fd fdb fdr : FuncData} (F : Fun K "near" "near" sNear f fd) (GB : FnOk P w K mg base (L2.CX P w) 3 fnb fdb ["base"] (spNeed (Bs K) (ca 1))) (bB : Binds K fdb ["base"] [])
    (GR : FnOk P w K mg base (L2.CX P w) 3 fnr fdr ["first", "second"] (spNeedR K ca)) (bR : Binds K fdr ["first", "second"] []) (T : TxF K mg fi fnum fnb fnr) : FnOk P w K mg base (L2.CX P w) 4 f fd ["base", "first", "second"] (spRng K ca fun β f s m => NearIs β (s - f) m) := by
  refine F.okX scNear (fun vs H Q E h => ?_) (fun cdv A outer s H vs Q E hr h => ?_)
  · obtain ⟨_, _, _, _, _, _, rfl, _⟩ := h
    rfl
  · obtain ⟨vb, v, u, a, b, c, rfl, ka, kb, kc, l1, l2, hq⟩ := h
    refine ⟨_, pss_cons (ps_expr (pe_callS GB hr (by rfl) T.needB T.kNB bB (fun σ => passAt (takes_of rfl rfl rfl rfl) σ) (pa_cons (pv 0) pa_nil)))
      (pss_cons (ps_expr (pe_callS GR hr (by rfl) T.needR T.kNR bR (fun σ => passAt (takes_of rfl rfl rfl rfl) σ) (pa_cons (pv 1) (pa_cons (pv 2) pa_nil))))
      (pss_cons (ps_set (i := 3) scNear.nd rfl (.inl rfl) pe_int)
      (pss_cons (ps_set (i := 4) scNear.nd rfl (.inl rfl) pe_int)
      (pss_cons (ps_while (passes_of rfl) (pt_cmpR op_lt (pv 4) (pe_op op_sub (pv 2) (pv 1)) (nomark _))
        (pss_cons (ps_set (i := 4) scNear.nd rfl (.inl rfl) (pe_op op_mul (pv 4) (pv 0))) (pss_one (ps_set (i := 3) scNear.nd rfl (.inl rfl) (pe_op op_add (pv 3) pe_int)))))
      (pss_one (ps_ret (pv 3))))))), ?_⟩
    refine ⟨_, rfl, vb, a, rfl, ka, fun ha H1 e1 => ?_, fun ha => l1 ha⟩
    refine ⟨_, rfl, _, rfl, v, u, b, c, rfl, kb.ex e1, kc.ex e1, fun z => (l2 ha z).go e1, fun z => ?_⟩
    obtain ⟨β, f, s, rfl, b2, b10, alt⟩ := hq ha z
    rcases alt with ⟨i, j, rfl, rfl, hij, lt⟩ | ⟨rfl, rfl, hfs, q⟩
    · exact ⟨i, j, rfl, rfl, fun _ => lt.go e1, fun z => by omega⟩
    · refine ⟨f, s, rfl, rfl, fun z => by omega, fun _ H2 e2 => ?_⟩
      refine q_asg (v := .int 0) ev_c fun H3 e3 => ?_
      refine q_asg (v := .int 1) ev_c fun H3 e3' => ?_
      refine q_while (fun n σ' H' => Ex H H' ∧ ∃ i g : Nat, σ' = [some (.int β), some (.int f), some (.int s), some (.int (i : Int)), some (.int (g : Int))] ∧ g = β ^ i ∧ n = (s - f) - g ∧ ∀ j < i, β ^ j < s - f) ((s - f) - 1)
        ⟨((e1.trans e2).trans e3).trans e3', 0, 1, rfl, by simp, rfl, fun j hj => absurd hj (Nat.not_lt_zero j)⟩ (fun n σ' H' ⟨ex, i, g, hσ, hg, hn, hne⟩ => ⟨decide ((g : Int) < (s : Int) - (f : Int)), ?_, fun z H4 e4 => ?_, fun z H4 e4 => ?_⟩)
      · subst hσ
        exact et_test (ev_op (ev_var rfl) (ev_op (ev_var rfl) (ev_var rfl) rv_I0) rv_I0)
      · subst hσ
        have zlt := of_decide_eq_true z
        have g1 : 1 ≤ g := by
          rw [hg]
          exact Nat.one_le_pow _ _ (by omega)
        have g2 : g < g * β := by
          have : g * 2 ≤ g * β := Nat.mul_le_mul_left _ b2
          omega
        refine ⟨fun σ2 H5 => Ex H H5 ∧ σ2 = [some (.int β), some (.int f), some (.int s), some (.int ((i + 1 : Nat) : Int)), some (.int ((g * β : Nat) : Int))], fun σ2 H5 ⟨ex5, a⟩ => ⟨(s - f) - g * β, by omega, ex5, i + 1, g * β, a, by rw [Nat.pow_succ, ← hg], rfl, fun j hj => ?_⟩, ?_⟩
        · rcases Nat.lt_or_ge j i with y | y
          · exact hne j y
          · have : j = i := by omega
            subst this
            rw [← hg]
            omega
        · refine q_asg (v := .int ((g : Int) * (β : Int))) (ev_op (ev_var rfl) (ev_var rfl) (rv_I (.inr ⟨by omega, by omega⟩))) fun H5 e5 => ?_
          refine s_asg (i := 3) (v := .int ((i : Int) + 1)) (ev_op (ev_var rfl) ev_c rv_I0) fun H6 e6 => ⟨((ex.trans e4).trans e5).trans e6, ?_⟩
          rw [← Int.natCast_mul]
          rfl
      · subst hσ
        have zge := of_decide_eq_false z
        exact ⟨_, rfl, q i ⟨by rw [← hg]; omega, hne⟩ H4 (ex.trans e4)⟩
end
end Dg

/-! k03: digits and what is changed, as lists. -/
namespace Dg
open PySem L2 Evl TL
theorem dl_inj {β : Nat} (hb : 2 ≤ β) : ∀ a b : Nat, dl β a = dl β b → a = b := by
  intro a
  induction a using Nat.strongRecOn with
  | _ a ih =>
    intro b h
    rcases Nat.eq_zero_or_pos a with z | z
    · rcases Nat.eq_zero_or_pos b with y | y
      · omega
      · rw [z, dl_zero, dl_step hb y] at h
        cases h
    · rcases Nat.eq_zero_or_pos b with y | y
      · rw [y, dl_zero, dl_step hb z] at h
        cases h
      · rw [dl_step hb z, dl_step hb y] at h
        injection h with h1 h2
        have := ih (a / β) (Nat.div_lt_self z (by omega)) _ h2
        have e1 := Nat.div_add_mod a β
        have e2 := Nat.div_add_mod b β
        rw [← e1, ← e2, this, h1]
theorem dl_drop {β : Nat} (hb : 2 ≤ β) : ∀ m n : Nat, dl β (n / β ^ m) = (dl β n).drop m
  | 0, n => by simp
  | m + 1, n => by
    rw [Nat.pow_succ, ← Nat.div_div_eq_div_mul]
    rw [show m + 1 = m + 1 from rfl, ← List.drop_drop, ← dl_drop hb m n]
    rcases Nat.eq_zero_or_pos (n / β ^ m) with z | z
    · rw [z]
      simp [dl_zero]
    · rw [dl_step hb z]
      rfl
theorem dl_mono {β : Nat} (hb : 2 ≤ β) {f s : Nat} (h : f ≤ s) : (dl β f).length ≤ (dl β s).length := by
  have h1 : (dl β (s / β ^ (dl β s).length)) = [] := by
    rw [dl_drop hb]
    simp
  have h2 : s / β ^ (dl β s).length = 0 := dl_inj hb _ _ (by rw [h1, dl_zero])
  have h3 : f / β ^ (dl β s).length = 0 := by
    have y := Nat.div_le_div_right (c := β ^ (dl β s).length) h
    rw [h2] at y
    exact Nat.le_zero.mp y
  have h4 : dl β (f / β ^ (dl β s).length) = [] := by rw [h3, dl_zero]
  rw [dl_drop hb] at h4
  exact List.drop_eq_nil_iff.mp h4
/-- what the tops of equal length tell -/
theorem chg_same {β f s k : Nat} (hb : 2 ≤ β) (hl : (dl β f).length = (dl β s).length) (hk : k < (dl β f).length) (h1 : (dl β f).reverse.take k = (dl β s).reverse.take k) (h2 : (dl β f).reverse.take (k + 1) ≠ (dl β s).reverse.take (k + 1)) : ChgIs β f s ((dl β s).length - k) := by
  have key : ∀ j, (dl β f).drop ((dl β f).length - j) = ((dl β f).reverse.take j).reverse := fun j => by
    rw [← List.reverse_reverse (dl β f)]
    rw [List.drop_reverse]
    simp only [List.reverse_reverse, List.length_reverse]
    congr 1
    rcases Nat.le_total j (dl β f).length with y | y
    · congr 1
      omega
    · rw [show (dl β f).length - j = 0 by omega]
      rw [List.take_of_length_le (by simp), List.take_of_length_le (by simpa using y)]
  have key2 : ∀ j, (dl β s).drop ((dl β s).length - j) = ((dl β s).reverse.take j).reverse := fun j => by
    rw [← List.reverse_reverse (dl β s)]
    rw [List.drop_reverse]
    simp only [List.reverse_reverse, List.length_reverse]
    congr 1
    rcases Nat.le_total j (dl β s).length with y | y
    · congr 1
      omega
    · rw [show (dl β s).length - j = 0 by omega]
      rw [List.take_of_length_le (by simp), List.take_of_length_le (by simpa using y)]
  have hne : f / β ^ ((dl β s).length - k - 1) ≠ s / β ^ ((dl β s).length - k - 1) := fun e => by
    have e2 : (dl β f).drop ((dl β s).length - k - 1) = (dl β s).drop ((dl β s).length - k - 1) := by rw [← dl_drop hb, ← dl_drop hb, e]
    rw [show (dl β s).length - k - 1 = (dl β s).length - (k + 1) by omega] at e2
    rw [key2, ← hl, key] at e2
    exact h2 (List.reverse_inj.mp e2)
  refine ⟨dl_inj hb _ _ ?_, fun j hj e => hne ?_⟩
  · rw [dl_drop hb, dl_drop hb, key2, ← hl, key, h1]
  · have e3 : ∀ n, n / β ^ ((dl β s).length - k - 1) = n / β ^ j / β ^ ((dl β s).length - k - 1 - j) := fun n => by
      rw [Nat.div_div_eq_div_mul, ← Nat.pow_add, show j + ((dl β s).length - k - 1 - j) = (dl β s).length - k - 1 by omega]
    rw [e3, e3, e]
theorem chg_diff {β f s : Nat} (hb : 2 ≤ β) (hl : (dl β f).length < (dl β s).length) : ChgIs β f s (dl β s).length := by
  refine ⟨dl_inj hb _ _ ?_, fun j hj e => ?_⟩
  · rw [dl_drop hb, dl_drop hb, List.drop_of_length_le (by omega), List.drop_of_length_le (Nat.le_refl _)]
  · have e2 : (dl β f).drop ((dl β s).length - 1) = (dl β s).drop ((dl β s).length - 1) := by
      rw [← dl_drop hb, ← dl_drop hb]
      have e3 : ∀ n, n / β ^ ((dl β s).length - 1) = n / β ^ j / β ^ ((dl β s).length - 1 - j) := fun n => by
        rw [Nat.div_div_eq_div_mul, ← Nat.pow_add, show j + ((dl β s).length - 1 - j) = (dl β s).length - 1 by omega]
      rw [e3, e3, e]
    have e4 := congrArg List.length e2
    rw [List.length_drop, List.length_drop] at e4
    omega
theorem chg_pos {β f s m : Nat} (h : f < s) (c : ChgIs β f s m) : 0 < m := by
  rcases Nat.eq_zero_or_pos m with z | z
  · subst z
    have := c.1
    simp at this
    omega
  · exact z
theorem chg_len {β f s m : Nat} (hb : 2 ≤ β) (h : f < s) (c : ChgIs β f s m) : m ≤ (dl β s).length := by
  rcases Nat.lt_or_ge (dl β s).length m with z | z
  · refine absurd ?_ (c.2 _ z)
    refine dl_inj hb _ _ ?_
    rw [dl_drop hb, dl_drop hb, List.drop_of_length_le (dl_mono hb (Nat.le_of_lt h)), List.drop_of_length_le (Nat.le_refl _)]
  · exact z
theorem near_chg {β f s m k : Nat} (hb : 2 ≤ β) (h : f < s) (c : ChgIs β f s m) (n : NearIs β (s - f) k) : k ≤ m := by
  rcases Nat.lt_or_ge m k with z | z
  · have h1 : β ^ m < s - f := n.2 m z
    have h2 : f / β ^ m = s / β ^ m := c.1
    have p : 0 < β ^ m := Nat.pow_pos (by omega)
    have e1 := Nat.div_add_mod f (β ^ m)
    have e2 := Nat.div_add_mod s (β ^ m)
    have l2 := Nat.mod_lt s p
    rw [h2] at e1
    generalize β ^ m * (s / β ^ m) = y at e1 e2
    generalize f % β ^ m = r1 at e1
    generalize s % β ^ m = r2 at e2 l2
    omega
  · exact z
theorem near_len {β d k : Nat} (hb : 2 ≤ β) {z : Nat} (hd : d < 2 ^ z) (n : NearIs β d k) : k ≤ z := by
  rcases Nat.lt_or_ge z k with y | y
  · have h1 : β ^ z < d := n.2 z y
    have h2 : 2 ^ z ≤ β ^ z := Nat.pow_le_pow_left hb z
    omega
  · exact y
theorem tl_cut1 (x : Str) : tl (cutS x none (some 1)) = (tl x).take 1 := by
  show (((x.cps.toList.drop (HT.sIx x.length 0 none)).take (HT.sIx x.length x.length (some 1) - HT.sIx x.length 0 none)).toArray).toList = x.cps.toList.take 1
  have h : x.length = x.cps.toList.length := Array.length_toList.symm
  rw [HT.sIx_none, show ((1 : Int)) = ((1 : Nat) : Int) from rfl, HT.sIx_nat, h]
  cases x.cps.toList with
  | nil => rfl
  | cons a l => simp
theorem tl_cut2 (x : Str) : tl (cutS x (some 1) none) = (tl x).drop 1 := by
  show (((x.cps.toList.drop (HT.sIx x.length 0 (some 1))).take (HT.sIx x.length x.length none - HT.sIx x.length 0 (some 1))).toArray).toList = x.cps.toList.drop 1
  have h : x.length = x.cps.toList.length := Array.length_toList.symm
  rw [HT.sIx_none, show ((1 : Int)) = ((1 : Nat) : Int) from rfl, HT.sIx_nat, h]
  cases x.cps.toList with
  | nil => rfl
  | cons a l => simp
end Dg

/-! repr of a word with a thing (which may be a small dict), and of lists of such. -/
namespace L2
open PySem PySem.Spec PyProof.Rows Evl
/-- what Di tells, an empty dict, or a tuple of a text and such -/
inductive Dj (K : PySem.W.Frag) (H : Hp) : V → PyData → Prop
  | di {v : V} {d : PyData} : Di K H v d → Dj K H v d
  | nil {a : Addr} : H a = some (.dK []) → Dj K H (.ref a) (.dict [])
  | pair {a : Addr} {x : Str} {v : V} {d : PyData} : SqT K H a [.str x, v] → Dj K H v d → Dj K H (.ref a) (.tuple [.str x, d])
inductive DjAll (K : PySem.W.Frag) (H : Hp) : List V → List PyData → Prop
  | nil : DjAll K H [] []
  | cons {v : V} {vs : List V} {d : PyData} {ds : List PyData} : Dj K H v d → DjAll K H vs ds → DjAll K H (v :: vs) (d :: ds)
section
variable {X : Cx} {pins : List (Addr × Obj)} {σ : St} {H : Hp} {s : Shared}
theorem Dj.reads (I : Inv X pins σ H s) {v : V} {d : PyData} (h : Dj X.K H v d) : ∀ {u : Value}, RelV v u → ∃ as, Reads s.heap u d as ∧ (d.hasDict = true → sysModules ∉ as) := by
  induction h with
  | di h => exact fun r => Di.reads I h r
  | @nil a hs =>
    intro u r
    cases r
    obtain ⟨_, hne, vs, rel, o, es, ep, ho, ⟨hx, _, _⟩, hd, _, hp, _⟩ := dk_of I.hok hs
    cases rel
    cases es with
    | mk es =>
    cases hp
    refine ⟨_, Reads.dict ho hx hd (kvs := []) (as := []) (bs := []) .nil .nil, fun _ h => ?_⟩
    simp only [List.append_nil, List.mem_cons, List.not_mem_nil, or_false] at h
    rw [← h] at hne
    exact absurd hne (by decide)
  | @pair a x v d hs hv ih =>
    intro u r
    cases r
    obtain ⟨its, rv, ⟨o, ho, hc, n, hd⟩, _⟩ := I.tuple hs
    obtain ⟨u1, u2, rfl, ⟨t, rfl⟩, r2⟩ := vals2 rv
    obtain ⟨bs, hr, hm⟩ := ih r2
    refine ⟨_, Reads.tuple ho hc hd (.cons (.str _ _) (.cons hr .nil)), fun z h => hm ?_ ?_⟩
    · simpa [PyData.hasDict, PyData.hasDictAll] using z
    · simpa using h
theorem DjAll.reads (I : Inv X pins σ H s) : ∀ {ds : List PyData} {vs : List V} {us : List Value}, DjAll X.K H vs ds → Vals vs us → ReadsI s.heap us ds
  | [], _, _, h, r => by
    cases h
    cases r
    exact .nil
  | d :: ds, _, _, h, r => by
    cases h with
    | cons h1 h2 =>
      cases r with
      | cons r1 r2 =>
        obtain ⟨as, q, m⟩ := Dj.reads I h1 r1
        exact .cons q m (DjAll.reads I h2 r2)
theorem Dj.ex {K : PySem.W.Frag} {H H' : Hp} (e : Ex H H') {v : V} {d : PyData} (h : Dj K H v d) : Dj K H' v d := by
  induction h with
  | di h => exact .di (h.ex e)
  | nil h => exact .nil (e _ _ h)
  | pair h _ ih => exact .pair (ex_t e h) ih
theorem DjAll.ex {K : PySem.W.Frag} {H H' : Hp} (e : Ex H H') : ∀ {vs : List V} {ds : List PyData}, DjAll K H vs ds → DjAll K H' vs ds
  | _, _, .nil => .nil
  | _, _, .cons h t => .cons (h.ex e) (t.ex e)
end
def rReprJ (K : PySem.W.Frag) : List V → Hp → VK → Prop := fun xs H Q => ∃ v d, xs = [v] ∧ Dj K H v d ∧ d.showable = true ∧ d.shown.length ≤ sizeLine ∧ d.depth ≤ 60 ∧ Q (.str d.shown) H
def rReprK (K : PySem.W.Frag) : List V → Hp → VK → Prop := fun xs H Q => ∃ a vs ds, xs = [.ref a] ∧ SqL K H a vs ∧ DjAll K H vs ds ∧ (PyData.list ds).showable = true ∧ (PyData.list ds).shown.length ≤ sizeLine ∧ PyData.depthAll ds ≤ 60 ∧ Q (.str (PyData.list ds).shown) H
theorem call_reprJ {X : Cx} (hg : X.A.guards = some []) (hu : X.A.units + 64 < cLine) : CallR X (.builtin "repr") (rReprJ X.K) := by
  intro pins s σ H xs us Q I r h
  obtain ⟨v, d, rfl, hd, hs, hz, hdp, q⟩ := h
  cases r with
  | @cons _ u _ us r1 r2 =>
    cases r2
    show wpAny _ _ (call (.builtin "repr") [u]) _ _ _
    obtain ⟨as, rd, hm⟩ := Dj.reads I hd r1
    cases rd with
    | none => exact P.repr_of_none ⟨.str _, H, I.tok _, ⟨_, rfl⟩, by simpa [PyData.shown] using q⟩
    | bool b => exact P.repr_of_bool ⟨.str _, H, I.tok _, ⟨_, rfl⟩, by simpa [PyData.shown] using q⟩
    | int i t => exact P.repr_of_int (by simpa [PyData.showable] using hs) ⟨.str _, H, I.tok _, ⟨_, rfl⟩, by simpa [PyData.shown] using q⟩
    | str x t => exact P.repr_of_str ⟨.str _, H, I.tok _, ⟨_, rfl⟩, by simpa [PyData.shown] using q⟩ (by simpa [PyData.shown] using hz)
    | list h1 h2 h3 h4 => exact repr_of_reads' (.list h1 h2 h3 h4) hs hm hg (by omega) (fun _ _ e => e) (fun h' u tk k => ⟨.str _, H, I.kept (t' := tk) k, ⟨_, rfl⟩, q⟩) hz
    | tuple h1 h2 h3 h4 => exact repr_of_reads' (.tuple h1 h2 h3 h4) hs hm hg (by omega) (fun _ _ e => e) (fun h' u tk k => ⟨.str _, H, I.kept (t' := tk) k, ⟨_, rfl⟩, q⟩) hz
    | dict h1 h2 h3 h4 h5 => exact repr_of_reads' (.dict h1 h2 h3 h4 h5) hs hm hg (by omega) (fun _ _ e => e) (fun h' u tk k => ⟨.str _, H, I.kept (t' := tk) k, ⟨_, rfl⟩, q⟩) hz
theorem call_reprK {X : Cx} (hg : X.A.guards = some []) (hu : X.A.units + 64 < cLine) : CallR X (.builtin "repr") (rReprK X.K) := by
  intro pins s σ H xs us Q I r h
  obtain ⟨a, vs, ds, rfl, hS, hd, hs, hz, hdp, q⟩ := h
  cases r with
  | @cons _ u _ us r1 r2 =>
    cases r2
    cases r1
    show wpAny _ _ (call (.builtin "repr") [.ref a]) _ _ _
    obtain ⟨its, rv, ⟨o, n, h1, h2, _, h3⟩, _⟩ := I.list hS
    have RI := DjAll.reads I hd rv
    obtain ⟨as, h4⟩ := RI.all
    have hz' : (listText (PyData.shownAll ds)).length ≤ sizeLine := by simpa only [PyData.shown] using hz
    obtain ⟨bs, hb, hk⟩ := RI.repr (prog := X.prog) (w := X.w) (by simpa [PyData.showable] using hs) (fun t ht => Nat.le_trans (listText_mem_le ht) hz')
    have h4' : ReadsAll s.heap its.toArray.toList ds as := by simpa using h4
    have hna : a ∉ bs := not_mem_of_deeper (.list h1 h2 h3 h4') (by simp only [PyData.depth]; omega) hb
    have fin : ∀ {h' u tk}, (∀ b o, s.heap.get? b = some o → h'.get? b = some o) → EP X pins σ Q (.str (PyData.list ds).shown u) { s with heap := h', toks := tk } := fun {h' u tk} k => ⟨.str _, H, I.kept (t' := tk) k, ⟨_, rfl⟩, q⟩
    refine call_repr_slot (by omega) ⟨o, h1, h2⟩ F.slot_list_repr.toG ?_
    cases its with
    | nil =>
      cases h4
      have e : (PyData.list []).shown = ("[]" : Str) := by simp only [PyData.shown, PyData.shownAll, listText_nil]
      refine call_list_repr_empty ⟨o, h1, h2⟩ h1 h3 ⟨_, _, rfl, ?_⟩
      rw [← e]
      exact fin fun _ _ e => e
    | cons x l =>
      refine call_list_reprK h1 h2 h3 hna (by simpa using hk.length_eq) (fun i y e => hk.item i y (by simpa using e)) hg (fun b _ => Clear.nil b) (by show X.A.units + 1 + _ < _; omega) (fun _ _ e => e) (fun h' u tk k => ⟨_, _, rfl, ?_⟩) hz'
      have := fin (h' := h') (u := u) (tk := tk) k
      simpa only [PyData.shown] using this
section
variable {K : PySem.W.Frag} {σ : L2.St} {H : Hp} {te : TE}
theorem ev_reprJ {v : V} {d : PyData} (h : Ev te σ H v) (hd : Dj K H v d) (s : Sm d) : Ev (tCB (rReprJ K) (tCons te tNil)) σ H (.str d.shown) :=
  ev_cb (ea_cons h ea_nil) fun H1 e Q q => ⟨v, d, rfl, hd.ex e, s.a, Nat.le_trans s.b (by rw [sizeLine_eq]; omega), Nat.le_trans s.c (by decide), q H1 (Ex.refl H1)⟩
theorem ev_reprK {vs : List V} {ds : List PyData} (h : EvL te σ H vs) (hd : DjAll K H vs ds) (s : SmAll ds) (hl : ds.length ≤ 100) : Ev (tCB (rReprK K) (tCons te tNil)) σ H (.str (PyData.list ds).shown) := fun H1 e Q q =>
  h H1 e _ fun p H2 hp e2 h2 => ⟨p, vs, ds, rfl, sq_of h2, hd.ex (e.trans e2), (s.list hl).1, (s.list hl).2.1, (s.list hl).2.2, q H2 e2⟩
end
end L2

/-! k03: the law's own helpers. -/
namespace Evl
open PySem L2
theorem s_par {i j : Nat} {ta : TA} {v w : V} {D : Ends} {σ : St} {H : Hp} (h : EvA ta σ H [v, w]) (k : ∀ H1, Ex H H1 → D.nx ((σ.set i (some v)).set j (some w)) H1) : tPar i j ta D σ H := h H (Ex.refl H) _ fun H1 e => ⟨v, w, rfl, k H1 e⟩
theorem q_par {i j : Nat} {ta : TA} {v w : V} {D : Ends} {tz : TS} {σ : St} {H : Hp} (h : EvA ta σ H [v, w]) (k : ∀ H1, Ex H H1 → tz D ((σ.set i (some v)).set j (some w)) H1) : tSeq (tPar i j ta) tz D σ H := s_par (D := { D with nx := tz D }) h k
end Evl
namespace Dg
open PySem L2 Evl TL
open Dr (StAt SameB spDraw)
abbrev sLChg : Stmt := top 33
abbrev sLNear : Stmt := top 34
theorem len_t (x : Str) : x.length = (tl x).length := by
  show x.cps.size = _
  exact Array.length_toList.symm
structure TxH (K : PySem.W.Frag) (mg : Str → Option Value) (fld flp : Addr) : Prop where
  len : mg "len" = none
  ldig : mg "_law_digits" = some (.ref fld)
  kLd : PySem.W.keepIn K (.ref fld) = true
  lpow : mg "_law_power" = some (.ref flp)
  kLp : PySem.W.keepIn K (.ref flp) = true
section
variable {P : Program} {w : World} {K : PySem.W.Frag} {mg : Str → Option Value} {base : Heap} {fld flp : Addr}
theorem ev_digL {σ : St} {H : Hp} {ta tb : TE} {E : XK} {β n : Nat} (ha : Ev ta σ H (.int β)) (hb : Ev tb σ H (.int n)) (b2 : 2 ≤ β) (b10 : β ≤ 10) (n2 : n < 2 ^ 50000) : Ev (tCall spLDigits [] E (tCons ta (tCons tb tNil))) σ H (.str (digs β n)) :=
  ev_call (ea_cons ha (ea_cons hb ea_nil)) fun H1 e Q q E => ⟨β, n, rfl, b2, b10, n2, fun H2 e2 => q H2 e2⟩
theorem ev_powL {σ : St} {H : Hp} {ta tb : TE} {E : XK} {β k : Nat} (ha : Ev ta σ H (.int β)) (hb : Ev tb σ H (.int k)) (b2 : 2 ≤ β) (b10 : β ≤ 10) (k2 : k ≤ 100000) : Ev (tCall spLPower [] E (tCons ta (tCons tb tNil))) σ H (.int ((β ^ k : Nat) : Int)) :=
  ev_call (ea_cons ha (ea_cons hb ea_nil)) fun H1 e Q q E => ⟨β, k, rfl, b2, b10, k2, fun H2 e2 => q H2 e2⟩
theorem ev_lenX {K : PySem.W.Frag} {σ : St} {H : Hp} {te : TE} {x : Str} (h : Ev te σ H (.str x)) (hz : x.length ≤ 100000) : Ev (tCB (fun xs H Q => ∃ z, xs = [.str z] ∧ z.length ≤ sizeLine ∧ Q (.int z.length) H) (tCons te tNil)) σ H (.int x.length) := fun H1 e Q q =>
  h H1 e _ fun H2 e2 => ⟨x, rfl, sz_of hz, q H2 e2⟩
theorem ev_cutS {σ : St} {H : Hp} {te : TE} {tl th : TO} {x : Str} {lo hi : Option Int} (h : Ev te σ H (.str x)) (h1 : EvO tl σ H lo) (h2 : EvO th σ H hi) (hz : x.length ≤ 100000) : Ev (tSl rSlS te tl th) σ H (.str (cutS x lo hi)) := fun H1 e Q q =>
  h H1 e _ fun H2 e2 => h1 H2 (e.trans e2) _ fun H3 e3 => h2 H3 ((e.trans e2).trans e3) _ fun H4 e4 => ⟨x, rfl, sz_of hz, q H4 ((e2.trans e3).trans e4)⟩
theorem digs_le {β n : Nat} (b2 : 2 ≤ β) (n2 : n < 2 ^ 50000) : (digs β n).length ≤ 50000 := by
  rw [digs_len]
  exact dl_lenB b2 50000 n (Nat.lt_of_lt_of_le n2 (Nat.pow_le_pow_left b2 _))
def spLChg : Sp := fun vs H Q _ => ∃ β f s : Nat, vs = [.int β, .int f, .int s] ∧ 2 ≤ β ∧ β ≤ 10 ∧ f < s ∧ s < 2 ^ 50000 ∧ ∀ m, ChgIs β f s m → RetV (.int m) H Q
abbrev nLChg : List Str := ["base", "first", "second", "one", "other"]
theorem scLChg : FnScope nLChg ["base", "first", "second"] (defScope sLChg) := ⟨rfl, rfl, rfl, by decide +kernel, rfl, by decide +kernel, by decide +kernel⟩
theorem ok_lchg {f : Addr} {fd fdd : FuncData} (F : Fun K "_law_changed" "_law_changed" sLChg f fd) (GD : FnOk P w K mg base CX0 1 fld fdd ["base", "number"] spLDigits) (bD : Binds K fdd ["base", "number"] []) (T : TxH K mg fld flp) :
    FnOk P w K mg base CX0 2 f fd ["base", "first", "second"] spLChg := by
  refine F.ok scLChg (fun vs H Q E h => ?_) (fun cdv A outer s H vs Q E hr h => ?_)
  · obtain ⟨_, _, _, rfl, _⟩ := h
    rfl
  · obtain ⟨β, f, s, rfl, b2, b10, hfs, s2, q⟩ := h
    have f2 : f < 2 ^ 50000 := Nat.lt_trans hfs s2
    refine ⟨_, pss_cons (ps_par (i := 3) (j := 4) (by rfl) scLChg.nd rfl rfl (by decide) rfl rfl (pa_cons (pe_call GD hr (by rfl) T.ldig T.kLd bD .nil pass0 (pa_cons (pv 0) (pa_cons (pv 1) pa_nil))) (pa_cons (pe_call GD hr (by rfl) T.ldig T.kLd bD .nil pass0 (pa_cons (pv 0) (pa_cons (pv 2) pa_nil))) pa_nil)) (by rfl))
      (pss_cons (ps_while PassesOwn.never (PW.pt (pw_and (pt_cmpR op_eq (pe_callB call_len_str (by rfl) T.len (by decide +kernel) (pa_cons (pv 3) pa_nil)) (pe_callB call_len_str (by rfl) T.len (by decide +kernel) (pa_cons (pv 4) pa_nil)) (nomark _)) (pw_and1 (pt_cmpR op_eq (pe_slice sl_str (pv 3) po_none (po_some pe_int)) (pe_slice sl_str (pv 4) po_none (po_some pe_int)) (nomark _)))))
        (pss_one (ps_par (i := 3) (j := 4) (by rfl) scLChg.nd rfl rfl (by decide) rfl rfl (pa_cons (pe_slice sl_str (pv 3) (po_some pe_int) po_none) (pa_cons (pe_slice sl_str (pv 4) (po_some pe_int) po_none) pa_nil)) (by rfl))))
      (pss_one (ps_ret (pe_callB call_len_str (by rfl) T.len (by decide +kernel) (pa_cons (pv 4) pa_nil))))), ?_⟩
    have lf := digs_le (n := f) b2 f2
    have ls := digs_le (n := s) b2 s2
    refine q_par (v := .str (digs β f)) (w := .str (digs β s)) (ea_cons (ev_digL (ev_var rfl) (ev_var rfl) b2 b10 f2) (ea_cons (ev_digL (ev_var rfl) (ev_var rfl) b2 b10 s2) ea_nil)) fun H1 e1 => ?_
    have tf : tl (digs β f) = ((dl β f).reverse).map (48 + ·) := tl_digs β f
    have ts : tl (digs β s) = ((dl β s).reverse).map (48 + ·) := tl_digs β s
    refine q_while (fun n σ' H' => Ex H H' ∧ ∃ (x y : Str) (k : Nat), σ' = [some (.int β), some (.int f), some (.int s), some (.str x), some (.str y)] ∧ tl x = (((dl β f).reverse).drop k).map (48 + ·) ∧ tl y = (((dl β s).reverse).drop k).map (48 + ·) ∧
        k ≤ (dl β s).length ∧ n = (dl β s).length - k ∧ (k = 0 ∨ ((dl β f).length = (dl β s).length ∧ (dl β f).reverse.take k = (dl β s).reverse.take k))) (dl β s).length
      ⟨e1, digs β f, digs β s, 0, rfl, by rw [tf]; rfl, by rw [ts]; rfl, Nat.zero_le _, rfl, .inl rfl⟩ (fun n σ' H' ⟨ex, x, y, k, hσ, hx, hy, hk, hn, alt⟩ => ?_)
    subst hσ
    have lx : x.length = (dl β f).length - k := by
      rw [len_t, hx]
      simp
    have ly : y.length = (dl β s).length - k := by
      rw [len_t, hy]
      simp
    have zf : (dl β f).length ≤ 50000 := by rw [← digs_len]; exact lf
    have zs : (dl β s).length ≤ 50000 := by rw [← digs_len]; exact ls
    have mono := dl_mono b2 (Nat.le_of_lt hfs)
    refine ⟨decide (V.int x.length = V.int y.length) && decide (V.str (cutS x none (some 1)) = V.str (cutS y none (some 1))), et_and (et_test (ev_op (ev_lenX (K := K) (ev_var rfl) (by omega)) (ev_lenX (K := K) (ev_var rfl) (by omega)) (rv_eq rfl))) (fun _ => et_test (ev_op (ev_cutS (ev_var rfl) eo_none (eo_some ev_c) (by omega)) (ev_cutS (ev_var rfl) eo_none (eo_some ev_c) (by omega)) (rv_eq rfl))), fun z H4 e4 => ?_, fun z H4 e4 => ?_⟩
    · obtain ⟨z1, z2⟩ := Bool.and_eq_true_iff.mp z
      have z1 : x.length = y.length := by
        have := of_decide_eq_true z1
        injection this with this
        omega
      have z2 : (tl x).take 1 = (tl y).take 1 := by
        have := of_decide_eq_true z2
        injection this with this
        rw [← tl_cut1, ← tl_cut1, this]
      have inj : ∀ {l l' : List Nat}, l.map (48 + ·) = l'.map (48 + ·) → l = l' := fun {l l'} h => by
        have : (l.map (48 + ·)).map (· - 48) = (l'.map (48 + ·)).map (· - 48) := by rw [h]
        simpa [List.map_map, Function.comp_def, Nat.add_sub_cancel_left] using this
      rw [hx, hy, ← List.map_take, ← List.map_take] at z2
      have z3 := inj z2
      have heq : (dl β f).length = (dl β s).length := by
        rcases alt with y0 | y0
        · subst y0
          omega
        · exact y0.1
      have tk : (dl β f).reverse.take k = (dl β s).reverse.take k := by
        rcases alt with y0 | y0
        · subst y0
          rfl
        · exact y0.2
      have tk1 : (dl β f).reverse.take (k + 1) = (dl β s).reverse.take (k + 1) := by rw [List.take_add, List.take_add, tk, z3]
      have hlt : k < (dl β s).length := by
        rcases Nat.lt_or_ge k (dl β s).length with y0 | y0
        · exact y0
        · exfalso
          have e5 : (dl β f).reverse = (dl β s).reverse := by
            rw [List.take_of_length_le (by rw [List.length_reverse]; omega), List.take_of_length_le (by rw [List.length_reverse]; omega)] at tk
            exact tk
          have := dl_inj b2 _ _ (List.reverse_inj.mp e5)
          omega
      refine ⟨fun σ2 H5 => Ex H H5 ∧ σ2 = [some (.int β), some (.int f), some (.int s), some (.str (cutS x (some 1) none)), some (.str (cutS y (some 1) none))], fun σ2 H5 ⟨ex5, a⟩ => ⟨(dl β s).length - (k + 1), by omega, ex5, _, _, k + 1, a, ?_, ?_, hlt, rfl, .inr ⟨heq, tk1⟩⟩, ?_⟩
      · rw [tl_cut2, hx, ← List.map_drop, List.drop_drop]
      · rw [tl_cut2, hy, ← List.map_drop, List.drop_drop]
      · exact s_par (v := .str (cutS x (some 1) none)) (w := .str (cutS y (some 1) none)) (ea_cons (ev_cutS (ev_var rfl) (eo_some ev_c) eo_none (by omega)) (ea_cons (ev_cutS (ev_var rfl) (eo_some ev_c) eo_none (by omega)) ea_nil)) fun H6 e6 => ⟨(ex.trans e4).trans e6, rfl⟩
    · refine ev_lenX (K := K) (x := y) (ev_var rfl) (by omega) H4 (Ex.refl _) _ fun H6 e6 => ?_
      rw [ly]
      refine q _ ?_ H6 ((ex.trans e4).trans e6)
      by_cases y0 : (dl β f).length = (dl β s).length
      · have tk : (dl β f).reverse.take k = (dl β s).reverse.take k := by
          rcases alt with y1 | y1
          · subst y1
            rfl
          · exact y1.2
        have z2 : (tl x).take 1 ≠ (tl y).take 1 := fun e5 => by
          rw [← tl_cut1, ← tl_cut1] at e5
          have e6 := str_ext e5
          rw [e6, decide_eq_true rfl, Bool.and_true] at z
          have := of_decide_eq_false z
          apply this
          rw [lx, ly, y0]
        have hlt : k < (dl β f).length := by
          rcases Nat.lt_or_ge k (dl β f).length with y2 | y2
          · exact y2
          · exfalso
            apply z2
            rw [hx, hy, List.drop_of_length_le (by rw [List.length_reverse]; omega), List.drop_of_length_le (by rw [List.length_reverse]; omega)]
        refine chg_same b2 y0 hlt tk fun e5 => z2 ?_
        rw [List.take_add, List.take_add, tk] at e5
        rw [hx, hy, ← List.map_take, ← List.map_take, List.append_cancel_left e5]
      · rcases alt with y1 | y1
        · subst y1
          exact chg_diff b2 (by omega)
        · exact absurd y1.1 y0
def spLNear : Sp := fun vs H Q _ => ∃ β f s : Nat, vs = [.int β, .int f, .int s] ∧ 2 ≤ β ∧ β ≤ 10 ∧ f < s ∧ s < 2 ^ 50000 ∧ ∀ m, NearIs β (s - f) m → RetV (.int m) H Q
abbrev nLNear : List Str := ["base", "first", "second", "found"]
theorem scLNear : FnScope nLNear ["base", "first", "second"] (defScope sLNear) := ⟨rfl, rfl, rfl, by decide +kernel, rfl, by decide +kernel, by decide +kernel⟩
theorem ok_lnear {f : Addr} {fd fdp : FuncData} (F : Fun K "_law_near" "_law_near" sLNear f fd) (GP : FnOk P w K mg base CX0 1 flp fdp ["base", "many"] spLPower) (bP : Binds K fdp ["base", "many"] []) (T : TxH K mg fld flp) :
    FnOk P w K mg base CX0 2 f fd ["base", "first", "second"] spLNear := by
  refine F.ok scLNear (fun vs H Q E h => ?_) (fun cdv A outer s H vs Q E hr h => ?_)
  · obtain ⟨_, _, _, rfl, _⟩ := h
    rfl
  · obtain ⟨β, f, s, rfl, b2, b10, hfs, s2, q⟩ := h
    refine ⟨_, pss_cons (ps_set (i := 3) scLNear.nd rfl (.inl rfl) pe_int)
      (pss_cons (ps_while PassesOwn.never (pt_cmpR op_lt (pe_call GP hr (by rfl) T.lpow T.kLp bP .nil pass0 (pa_cons (pv 0) (pa_cons (pv 3) pa_nil))) (pe_op op_sub (pv 2) (pv 1)) (nomark _))
        (pss_one (ps_set (i := 3) scLNear.nd rfl (.inl rfl) (pe_op op_add (pv 3) pe_int))))
      (pss_one (ps_ret (pv 3)))), ?_⟩
    refine q_asg (v := .int 0) ev_c fun H1 e1 => ?_
    refine q_while (fun n σ' H' => Ex H H' ∧ ∃ i : Nat, σ' = [some (.int β), some (.int f), some (.int s), some (.int (i : Int))] ∧ i ≤ 50001 ∧ n = 50001 - i ∧ ∀ j < i, β ^ j < s - f) 50001
      ⟨e1, 0, rfl, Nat.zero_le _, rfl, fun j hj => absurd hj (Nat.not_lt_zero j)⟩ (fun n σ' H' ⟨ex, i, hσ, hi, hn, hne⟩ => ⟨decide (((β ^ i : Nat) : Int) < (s : Int) - (f : Int)), ?_, fun z H4 e4 => ?_, fun z H4 e4 => ?_⟩)
    · subst hσ
      exact et_test (ev_op (ev_powL (ev_var rfl) (ev_var rfl) b2 b10 (by omega)) (ev_op (ev_var rfl) (ev_var rfl) rv_I0) rv_I0)
    · subst hσ
      have zlt : β ^ i < s - f := by
        have := of_decide_eq_true z
        omega
      have hi2 : i ≤ 50000 := by
        rcases Nat.lt_or_ge 50000 i with y | y
        · exfalso
          have h1 := hne 50000 y
          have h2 : 2 ^ 50000 ≤ β ^ 50000 := Nat.pow_le_pow_left b2 _
          generalize 2 ^ 50000 = g at h2 s2
          omega
        · exact y
      refine ⟨fun σ2 H5 => Ex H H5 ∧ σ2 = [some (.int β), some (.int f), some (.int s), some (.int ((i + 1 : Nat) : Int))], fun σ2 H5 ⟨ex5, a⟩ => ⟨50001 - (i + 1), by omega, ex5, i + 1, a, by omega, rfl, fun j hj => ?_⟩, s_asg (v := .int ((i : Int) + 1)) (ev_op (ev_var rfl) ev_c rv_I0) fun H5 e5 => ⟨(ex.trans e4).trans e5, rfl⟩⟩
      rcases Nat.lt_or_ge j i with y | y
      · exact hne j y
      · have : j = i := by omega
        subst this
        exact zlt
    · subst hσ
      have zge := of_decide_eq_false z
      exact ⟨_, rfl, q i ⟨by omega, hne⟩ H4 (ex.trans e4)⟩
end
end Dg

/-! k03: the ranges that the law draws. -/
namespace Dg
open PySem L2 Evl TL
open Dr (StAt SameB spDraw TxO)
abbrev sLRange : Stmt := top 35
theorem SameB.trans {H H1 H2 : Hp} {p l : Addr} (a : SameB H H1 p l) (b : SameB H1 H2 p l) : SameB H H2 p l := fun x o e n1 n2 => b x o (a x o e n1 n2) n1 n2
theorem SameB.of {H H1 : Hp} {p l : Addr} (a : Ex H H1) : SameB H H1 p l := fun x o e _ _ => a x o e
theorem log2_lt9 {x : Nat} (h : x < 2 ^ 900) : x.log2 < 900 := by
  rcases Nat.eq_zero_or_pos x with z | z
  · subst z
    decide
  · exact (Nat.log2_lt (by omega)).mpr h
section
variable {P : Program} {w : World} {K : PySem.W.Frag} {mg : Str → Option Value} {base : Heap} {fm fdr fld flp : Addr}
def spLRange : Sp := fun vs H Q _ => ∃ (p c l : Addr) (n : Nat) (a : Int) (β many : Nat), vs = [.ref p, .int β, .int many] ∧ StAt H p c l n a ∧ l ≠ c ∧ a + 1000 < 2 ^ 39 ∧ 2 ≤ β ∧ β ≤ 10 ∧ 1 ≤ many ∧ many ≤ 200 ∧
  ∀ (t : Addr) (F S : Nat) (H' : Hp) (a' : Int), 1 ≤ F → F < S → S < 2 ^ 900 → a ≤ a' → a' ≤ a + 405 → StAt H' p c l n a' → SameB H H' p l → H' t = some (.tup [.int F, .int S]) → (t ≠ p ∧ t ≠ l) → Q (.ref t) H'
abbrev nLRange : List Str := ["state", "base", "many", "first", "k", "size", "more", "way"]
theorem scLRange : FnScope nLRange ["state", "base", "many"] (defScope sLRange) := ⟨rfl, rfl, rfl, by decide +kernel, rfl, by decide +kernel, by decide +kernel⟩
theorem StAt.off {H : Hp} {p c l : Addr} {n : Nat} {a : Int} (S : StAt H p c l n a) {x : Addr} (h : H x = none) : x ≠ p ∧ x ≠ l := by
  obtain ⟨ls, hl, _⟩ := S.l
  exact ⟨(ne_of_none S.d h).symm, (ne_of_none hl h).symm⟩
theorem ok_lrange {f : Addr} {fd fdd fdp : FuncData} (F : Fun K "_law_range" "_law_range" sLRange f fd) (GD : FnOk P w K mg base CX0 2 fdr fdd ["state", "many"] spDraw) (bD : Binds K fdd ["state", "many"] []) (T : TxO K mg fm fdr)
    (GP : FnOk P w K mg base CX0 2 flp fdp ["base", "many"] spLPower) (bP : Binds K fdp ["base", "many"] []) (U : TxH K mg fld flp) (mR : mg "range" = none) (mX : mg "max" = none) : FnOk P w K mg base CX0 3 f fd ["state", "base", "many"] spLRange := by
  refine F.ok scLRange (fun vs H Q E h => ?_) (fun cdv A outer s H vs Q E hr h => ?_)
  · obtain ⟨_, _, _, _, _, _, _, rfl, _⟩ := h
    rfl
  · obtain ⟨p, c, l, n, a, β, many, rfl, S, nlc, ha, b2, b10, m1, m200, q⟩ := h
    refine ⟨_, (pss_cons (ps_set (i := 3) scLRange.nd rfl (.inl rfl) pe_int) (pss_cons (ps_for PassesOwn.never rfl (pi_range1 (by rfl) mR (pa_cons (pe_op op_add pe_int (pe_call GD hr (by rfl) T.draw T.kDraw bD .nil pass0 (pa_cons (pv 0) (pa_cons (pv 2) pa_nil)))) pa_nil)) (pg_name (i := 4) scLRange.nd rfl (.inl rfl)) (pss_one (ps_set (i := 3) scLRange.nd rfl (.inl rfl) (pe_op op_add (pe_op op_mul (pv 3) (pv 1)) (pe_ix ix_list (pe_lst (pa_cons (pe_call GD hr (by rfl) T.draw T.kDraw bD .nil pass0 (pa_cons (pv 0) (pa_cons (pv 1) pa_nil))) (pa_cons pe_int (pa_cons (pe_op op_sub (pv 1) pe_int) pa_nil)))) (pe_call GD hr (by rfl) T.draw T.kDraw bD .nil pass0 (pa_cons (pv 0) (pa_cons pe_int pa_nil))) (fun _ _ => rfl)))))) (pss_cons (ps_par (i := 3) (j := 5) (by rfl) scLRange.nd rfl rfl (by decide) rfl rfl (pa_cons (pe_callB (call_max2 (by rfl)) (by rfl) mX (by decide +kernel) (pa_cons pe_int (pa_cons (pv 3) pa_nil))) (pa_cons (pe_call GP hr (by rfl) U.lpow U.kLp bP .nil pass0 (pa_cons (pv 1) (pa_cons (pe_call GD hr (by rfl) T.draw T.kDraw bD .nil pass0 (pa_cons (pv 0) (pa_cons (pe_op op_add (pv 2) pe_int) pa_nil))) pa_nil))) pa_nil)) (by rfl)) (pss_cons (ps_set (i := 6) scLRange.nd rfl (.inl rfl) (pe_op op_add pe_int (pe_call GD hr (by rfl) T.draw T.kDraw bD .nil pass0 (pa_cons (pv 0) (pa_cons (pe_ix ix_list (pe_lst (pa_cons pe_int (pa_cons (pe_op op_mul (pv 1) (pv 1)) (pa_cons pe_int pa_nil)))) (pe_call GD hr (by rfl) T.draw T.kDraw bD .nil pass0 (pa_cons (pv 0) (pa_cons pe_int pa_nil))) (fun _ _ => rfl)) pa_nil))))) (pss_cons (ps_set (i := 7) scLRange.nd rfl (.inl rfl) (pe_call GD hr (by rfl) T.draw T.kDraw bD .nil pass0 (pa_cons (pv 0) (pa_cons pe_int pa_nil)))) (pss_cons (ps_if (pt_cmpR op_eq (pv 7) pe_int (nomark _)) (pss_one (ps_ret (pe_tup (pa_cons (pv 3) (pa_cons (pe_op op_add (pv 3) (pv 6)) pa_nil))))) pss_nil) (pss_cons (ps_if (pt_cmpR op_eq (pv 7) pe_int (nomark _)) (pss_one (ps_ret (pe_tup (pa_cons (pv 3) (pa_cons (pe_op op_add (pv 3) (pv 5)) pa_nil))))) pss_nil) (pss_cons (ps_if (pt_cmpR op_eq (pv 7) pe_int (nomark _)) (pss_one (ps_ret (pe_tup (pa_cons (pv 3) (pa_cons (pe_op op_sub (pe_op op_add (pe_op L2.op_mulW (pe_op op_add (pe_op L2.op_fdivW (pv 3) (pv 5)) pe_int) (pv 5)) (pv 6)) pe_int) pa_nil))))) pss_nil) (pss_one (ps_ret (pe_tup (pa_cons (pv 3) (pa_cons (pe_op op_add (pv 3) (pe_op op_mul (pv 5) (pv 6))) pa_nil))))))))))))), ?_⟩
    refine q_asg (v := .int 0) ev_c fun H0 e0 => ?_
    refine ⟨_, rfl, _, rfl, p, c, l, n, a, many, rfl, S.ex e0, nlc, by omega, by omega, by omega, fun r H1 r0 r1 S1 sb1 nn1 => ⟨_, _, rfl, rfl, 1 + r, rfl, by omega, by omega, ?_⟩⟩
    obtain ⟨ρ, rfl⟩ : ∃ ρ : Nat, r = ρ := ⟨r.toNat, by omega⟩
    have sbA : SameB H H1 p l := SameB.trans (SameB.of e0) sb1
    refine for_range (lo := 0) (n := (1 + (ρ : Int)).toNat) (fun i σ H' => ∃ (g : Nat) (x4 : Option V), σ = [some (.ref p), some (.int β), some (.int many), some (.int (g : Int)), x4, none, none, none] ∧ g < β ^ i ∧ StAt H' p c l n (a + 1 + 2 * (i : Int)) ∧ SameB H H' p l)
      ⟨0, none, rfl, by simp, by simpa using S1, sbA⟩ (fun i σ H' hi ⟨g, x4, hσ, hg, S', sb'⟩ => ?_) (fun σ H' ⟨g, x4, hσ, hg, S', sb'⟩ => ?_)
    · subst hσ
      refine ⟨_, rfl, _, rfl, _, _, rfl, rfl, .inr ⟨by omega, by omega⟩, _, rfl, _, rfl, p, c, l, n, _, β, rfl, S', nlc, by omega, by omega, by omega, fun r H2 r0 r1 S2 sb2 nn2 => ⟨_, rfl, _, _, rfl, rfl, (by show (3:Nat) ≤ sizeLine; rw [sizeLine_eq]; omega), fun lr nlr => ?_⟩⟩
      have eN := Ex.new (o := .lst [.int r, .int 0, .int ((β : Int) - 1)]) nlr
      have off := StAt.off S2 nlr
      refine ⟨_, rfl, p, c, l, n, _, _, rfl, S2.ex eN, nlc, by omega, by decide, by decide, fun j H3 j0 j1 S3 sb3 nn3 => ?_⟩
      obtain ⟨τ, rfl⟩ : ∃ τ : Nat, j = τ := ⟨j.toNat, by omega⟩
      have key : ∃ d : Nat, d < β ∧ ([V.int r, .int 0, .int ((β : Int) - 1)])[τ]? = some (.int (d : Int)) := by
        have cc : τ = 0 ∨ τ = 1 ∨ τ = 2 := by omega
        rcases cc with rfl | rfl | rfl
        · exact ⟨r.toNat, by omega, by rw [show ((r.toNat : Nat) : Int) = r by omega]; rfl⟩
        · exact ⟨0, by omega, rfl⟩
        · exact ⟨β - 1, by omega, by rw [show (((β - 1 : Nat)) : Int) = (β : Int) - 1 by omega]; rfl⟩
      obtain ⟨d, hd, hv⟩ := key
      refine ⟨lr, _, _, _, rfl, rfl, SqL.of (sb3 _ _ upd_same off.1 off.2), atI_nat hv, _, _, rfl, rfl, g * β + d, _, rfl, ?_, ?_, SameB.trans (SameB.trans (SameB.trans sb' sb2) (SameB.of eN)) sb3⟩
      · rw [Nat.pow_succ]
        have : (g + 1) * β ≤ β ^ i * β := Nat.mul_le_mul_right _ hg
        have e1 : (g + 1) * β = g * β + β := by rw [Nat.add_mul, Nat.one_mul]
        omega
      · rw [show a + 1 + 2 * ((i + 1 : Nat) : Int) = a + 1 + 2 * (i : Int) + 1 + 1 by omega]
        exact S3
    · subst hσ
      have hN : (1 + (ρ : Int)).toNat = ρ + 1 := by omega
      rw [hN] at hg S'
      obtain ⟨A2, hA2⟩ : ∃ A2 : Nat, A2 = 2 ^ 804 := ⟨_, rfl⟩
      obtain ⟨B2, hB2⟩ : ∃ B2 : Nat, B2 = 2 ^ 900 := ⟨_, rfl⟩
      have hAB : A2 * 2000 < B2 := by
        rw [hA2, hB2, show (900 : Nat) = 804 + 96 from rfl, Nat.pow_add]
        exact Nat.mul_lt_mul_of_pos_left (by decide) (Nat.two_pow_pos _)
      have hA1 : 1 ≤ A2 := by
        rw [hA2]
        exact Nat.one_le_two_pow
      have pw : ∀ e : Nat, e ≤ 201 → β ^ e ≤ A2 := fun e he => by
        have h1 : β ^ e ≤ 16 ^ e := Nat.pow_le_pow_left (by omega) _
        have h2 : (16 : Nat) ^ e ≤ 16 ^ 201 := Nat.pow_le_pow_right (by decide) he
        have h3 : (16 : Nat) ^ 201 = 2 ^ 804 := by rw [show (16 : Nat) = 2 ^ 4 from rfl, ← Nat.pow_mul]
        rw [hA2, ← h3]
        exact Nat.le_trans h1 h2
      have lg : ∀ {x : Nat}, x < B2 → x.log2 < 900 := fun {x} h => log2_lt9 (by rw [← hB2]; exact h)
      have gA : g < A2 := Nat.lt_of_lt_of_le hg (pw _ (by omega))
      rw [← hB2] at q
      clear hA2 hB2
      refine ⟨_, rfl, 1, (g : Int), rfl, ?_⟩
      obtain ⟨G, hG, G1, GA⟩ : ∃ G : Nat, (if (g : Int) > 1 then (g : Int) else 1) = (G : Int) ∧ 1 ≤ G ∧ G ≤ A2 := by
        by_cases y : (g : Int) > 1
        · rw [if_pos y]
          exact ⟨g, rfl, by omega, by omega⟩
        · rw [if_neg y]
          exact ⟨1, rfl, by omega, by omega⟩
      rw [hG]
      refine ⟨_, rfl, _, rfl, _, rfl, _, _, rfl, rfl, p, c, l, n, _, _, rfl, S', nlc, by omega, by omega, by omega, fun r2 H2 u0 u1 S2 sb2 nn2 => ?_⟩
      obtain ⟨e, rfl⟩ : ∃ e : Nat, r2 = e := ⟨r2.toNat, by omega⟩
      refine ⟨β, e, rfl, b2, b10, by omega, fun H3 e3 => ⟨_, _, rfl, ?_⟩⟩
      obtain ⟨Sz, hSz⟩ : ∃ Sz : Nat, Sz = β ^ e := ⟨_, rfl⟩
      have sz1 : 1 ≤ Sz := by
        rw [hSz]
        exact Nat.one_le_pow _ _ (by omega)
      have szA : Sz ≤ A2 := by
        rw [hSz]
        exact pw e (by omega)
      rw [← hSz]
      clear hSz
      -- more
      have S3 := S2.ex e3
      have sb3 : SameB H H3 p l := SameB.trans (SameB.trans sb' sb2) (SameB.of e3)
      refine ⟨_, rfl, _, rfl, _, rfl, _, _, rfl, rfl, .inr ⟨by omega, by omega⟩, (by show (3:Nat) ≤ sizeLine; rw [sizeLine_eq]; omega), fun lm nlm => ?_⟩
      have eN := Ex.new (o := .lst [.int 2, .int ((β : Int) * β), .int 1000]) nlm
      have off := StAt.off S3 nlm
      refine ⟨_, rfl, p, c, l, n, _, _, rfl, S3.ex eN, nlc, by omega, by decide, by decide, fun j H4 j0 j1 S4 sb4 nn4 => ?_⟩
      obtain ⟨τ, rfl⟩ : ∃ τ : Nat, j = τ := ⟨j.toNat, by omega⟩
      have key : ∃ d : Nat, 1 ≤ d ∧ d ≤ 1000 ∧ ([V.int 2, .int ((β : Int) * β), .int 1000])[τ]? = some (.int (d : Int)) := by
        have cc : τ = 0 ∨ τ = 1 ∨ τ = 2 := by omega
        rcases cc with rfl | rfl | rfl
        · exact ⟨2, by omega, by omega, rfl⟩
        · have h1 : β * β ≤ 10 * 10 := Nat.mul_le_mul b10 b10
          have h2 : 2 * 2 ≤ β * β := Nat.mul_le_mul b2 b2
          exact ⟨β * β, by omega, by omega, by rw [Int.natCast_mul]; rfl⟩
        · exact ⟨1000, by omega, by omega, rfl⟩
      obtain ⟨d, d1, d2, hv⟩ := key
      refine ⟨lm, _, _, _, rfl, rfl, SqL.of (sb4 _ _ upd_same off.1 off.2), atI_nat hv, p, c, l, n, _, _, rfl, S4, nlc, by omega, by omega, by omega, fun r3 H5 v0 v1 S5 sb5 nn5 => ⟨_, _, rfl, rfl, ?_⟩⟩
      obtain ⟨μ, rfl⟩ : ∃ μ : Nat, r3 = μ := ⟨r3.toNat, by omega⟩
      refine ⟨_, rfl, p, c, l, n, _, _, rfl, S5, nlc, by omega, by decide, by decide, fun wy H6 w0 w1 S6 sb6 nn6 => ?_⟩
      have sbF : SameB H H6 p l := SameB.trans (SameB.trans (SameB.trans (SameB.trans sb3 (SameB.of eN)) sb4) sb5) sb6
      have fin : ∀ (Hf : Hp), Ex H6 Hf → ∀ (t : Addr) (zi : Int) (z : Nat), zi = (z : Int) → Hf t = none → G < z → z < B2 → Q (.ref t) (upd Hf t (.tup [.int (G : Int), .int zi])) := fun Hf ef t zi z hzi nt h1 h2 => by
        subst hzi
        have en := Ex.new (o := .tup [.int (G : Int), .int (z : Int)]) nt
        exact q t G z _ _ G1 h1 h2 (by omega) (by omega) ((S6.ex ef).ex en) (SameB.trans (SameB.trans sbF (SameB.of ef)) (SameB.of en)) upd_same (StAt.off (S6.ex ef) nt)
      have mul1 : Sz * (1 + μ) ≤ A2 * 1000 := Nat.mul_le_mul szA (by omega)
      have mul2 : Sz ≤ Sz * (1 + μ) := Nat.le_mul_of_pos_right _ (by omega)
      have dv := Nat.div_add_mod G Sz
      have dm := Nat.mod_lt G (show 0 < Sz by omega)
      have dq : (G / Sz + 1) * Sz = Sz * (G / Sz) + Sz := by rw [Nat.add_mul, Nat.one_mul, Nat.mul_comm]
      refine q_when (b := decide (V.int wy = V.int 0)) (et_test (ev_op (ev_var rfl) ev_c (rv_eq rfl))) (fun z H7 e7 => ?_) fun z0 H7 e7 => ?_
      · refine ⟨_, rfl, _, rfl, _, rfl, _, _, rfl, rfl, (by show (2:Nat) ≤ sizeLine; rw [sizeLine_eq]; omega), fun t nt => ?_⟩
        exact fin H7 e7 t _ (G + (1 + μ)) (by omega) nt (by omega) (by omega)
      refine q_when (b := decide (V.int wy = V.int 1)) (et_test (ev_op (ev_var rfl) ev_c (rv_eq rfl))) (fun z H8 e8 => ?_) fun z1 H8 e8 => ?_
      · refine ⟨_, rfl, _, rfl, _, rfl, _, _, rfl, rfl, (by show (2:Nat) ≤ sizeLine; rw [sizeLine_eq]; omega), fun t nt => ?_⟩
        exact fin H8 (e7.trans e8) t _ (G + Sz) (by omega) nt (by omega) (by omega)
      refine q_when (b := decide (V.int wy = V.int 2)) (et_test (ev_op (ev_var rfl) ev_c (rv_eq rfl))) (fun z H9 e9 => ?_) fun z2 H9 e9 => ?_
      · refine ⟨_, rfl, _, rfl, _, rfl, _, _, rfl, rfl, ⟨by omega, Nat.lt_trans (lg (x := (Sz : Int).natAbs) (by rw [Int.natAbs_natCast]; omega)) (by decide)⟩, _, _, rfl, rfl, _, rfl, _, _, rfl, rfl, ?_, _, rfl, _, _, rfl, rfl, _, _, rfl, rfl, (by show (2:Nat) ≤ sizeLine; rw [sizeLine_eq]; omega), fun t nt => ?_⟩
        · have h1 : ((G : Int) / (Sz : Int) + 1).natAbs = G / Sz + 1 := by
            rw [← Int.natCast_ediv]
            generalize G / Sz = z9
            omega
          have h2 : G / Sz ≤ G := Nat.div_le_self _ _
          show ((G : Int) / (Sz : Int) + 1).natAbs.log2 + ((Sz : Int)).natAbs.log2 < 1000000
          have h3 := lg (x := G / Sz + 1) (by omega)
          have h4 := lg (x := Sz) (by omega)
          rw [h1, Int.natAbs_natCast]
          omega
        · have e9' : ((G : Int) / (Sz : Int) + 1) * (Sz : Int) + (1 + (μ : Int)) - 1 = (((G / Sz + 1) * Sz + μ : Nat) : Int) := by
            rw [Int.natCast_add, Int.natCast_mul, Int.natCast_add, Int.natCast_ediv, show ((1 : Nat) : Int) = 1 from rfl]
            omega
          exact fin H9 ((e7.trans e8).trans e9) t _ _ e9' nt (by omega) (by omega)
      · refine ⟨_, rfl, _, rfl, _, rfl, _, rfl, _, _, rfl, rfl, .inr ⟨by omega, by omega⟩, _, _, rfl, rfl, (by show (2:Nat) ≤ sizeLine; rw [sizeLine_eq]; omega), fun t nt => ?_⟩
        have e9' : ((G : Int) + (Sz : Int) * (1 + (μ : Int))) = ((G + Sz * (1 + μ) : Nat) : Int) := by
          rw [Int.natCast_add, Int.natCast_mul, Int.natCast_add]
          rfl
        exact fin H9 ((e7.trans e8).trans e9) t _ _ e9' nt (by omega) (by omega)
end
end Dg

/-! k03: what the law asks of a range. -/
namespace Dg
open PySem L2 Evl TL
abbrev sLRight : Stmt := top 36
theorem least_ex {p : Nat → Prop} {n : Nat} (h : p n) : ∃ m, p m ∧ ∀ j < m, ¬ p j := by
  classical
  induction n using Nat.strongRecOn with
  | _ n ih =>
    by_cases z : ∃ j, j < n ∧ p j
    · obtain ⟨j, hj, hp⟩ := z
      exact ih j hj hp
    · exact ⟨n, h, fun j hj hp => z ⟨j, hj, hp⟩⟩
theorem lt_pow_self {β : Nat} (hb : 2 ≤ β) (n : Nat) : n < β ^ n := Nat.lt_of_lt_of_le Nat.lt_two_pow_self (Nat.pow_le_pow_left hb n)
theorem chg_ex {β f s : Nat} (hb : 2 ≤ β) (h : f < s) : ∃ m, ChgIs β f s m :=
  least_ex (p := fun m => f / β ^ m = s / β ^ m) (n := s) (by
    have := lt_pow_self hb s
    rw [Nat.div_eq_of_lt this, Nat.div_eq_of_lt (by omega)])
theorem near_ex {β d : Nat} (hb : 2 ≤ β) : ∃ k, NearIs β d k := by
  obtain ⟨m, h1, h2⟩ := least_ex (p := fun k => d ≤ β ^ k) (n := d) (Nat.le_of_lt (lt_pow_self hb d))
  exact ⟨m, h1, fun j hj => Nat.not_le.mp (h2 j hj)⟩
theorem bs_yes {K : PySem.W.Frag} {H : Hp} {β : Nat} (b2 : 2 ≤ β) (b10 : β ≤ 10) : Bs K H (.int β) true := by
  have : (decide ((2 : Int) ≤ β) && decide ((β : Int) ≤ 10)) = true := by
    rw [decide_eq_true (show (2 : Int) ≤ β by omega), decide_eq_true (show (β : Int) ≤ 10 by omega)]
    rfl
  rw [← this]
  exact .int _
theorem nm_yes {K : PySem.W.Frag} {H : Hp} {n : Nat} (h : 1 ≤ n) : Nm K H (.int n) true := by
  rw [← show decide ((1 : Int) ≤ n) = true from decide_eq_true (by omega)]
  exact .int _
theorem ev_rng {K : PySem.W.Frag} {ca : Nat → Addr} {R : Nat → Nat → Nat → Nat → Prop} {σ : St} {H : Hp} {t0 t1 t2 : TE} {E : St → XK} {β f s m : Nat} (h0 : Ev t0 σ H (.int β)) (h1 : Ev t1 σ H (.int f)) (h2 : Ev t2 σ H (.int s)) (b2 : 2 ≤ β) (b10 : β ≤ 10) (f1 : 1 ≤ f) (fs : f < s) (hm : ∀ m', R β f s m' → m' = m) :
    Ev (tCallS (spRng K ca R) E (tCons t0 (tCons t1 (tCons t2 tNil)))) σ H (.int m) := fun H1 e Q q =>
  h0 H1 e _ fun H2 e2 => h1 H2 (e.trans e2) _ fun H3 e3 => h2 H3 ((e.trans e2).trans e3) _ fun H4 e4 => ⟨_, _, _, true, true, true, rfl, bs_yes b2 b10, nm_yes f1, nm_yes (by omega), (fun z => nomatch z), (fun _ z => nomatch z), fun _ _ => ⟨β, f, s, rfl, b2, b10, .inr ⟨rfl, rfl, fs, fun m' hR H5 e5 => by
    rw [hm m' hR]
    exact q H5 (((e2.trans e3).trans e4).trans e5)⟩⟩⟩
structure TxJ (K : PySem.W.Frag) (mg : Str → Option Value) (fld flp fchg fnear flc fln : Addr) : Prop extends TxH K mg fld flp where
  chg : mg "changed" = some (.ref fchg)
  kChg : PySem.W.keepIn K (.ref fchg) = true
  near : mg "near" = some (.ref fnear)
  kNear : PySem.W.keepIn K (.ref fnear) = true
  lchg : mg "_law_changed" = some (.ref flc)
  kLchg : PySem.W.keepIn K (.ref flc) = true
  lnear : mg "_law_near" = some (.ref fln)
  kLnear : PySem.W.keepIn K (.ref fln) = true
theorem sm_nat {n : Nat} (h : n < 2 ^ 200) : Sm (.int (n : Int)) := Toy.sm_int (by rw [Int.natAbs_natCast]; exact h)
section
variable {P : Program} {w : World} {K : PySem.W.Frag} {mg : Str → Option Value} {base : Heap} {ca : Nat → Addr} {fld flp fchg fnear flc fln : Addr}
def spLRight : Sp := fun vs H Q _ => ∃ β f s : Nat, vs = [.int β, .int f, .int s] ∧ 2 ≤ β ∧ β ≤ 10 ∧ 1 ≤ f ∧ f < s ∧ s < 2 ^ 900 ∧ RetV (.bl true) H Q
abbrev nLRight : List Str := ["base", "first", "second", "some", "size", "block"]
theorem scLRight : FnScope nLRight ["base", "first", "second"] (defScope sLRight) := ⟨rfl, rfl, rfl, by decide +kernel, rfl, by decide +kernel, by decide +kernel⟩
theorem ok_lright {fR : Addr} {fd fdd fdp fdc fdn fdlc fdln : FuncData} (F : Fun K "_law_right" "_law_right" sLRight fR fd) (U : TxJ K mg fld flp fchg fnear flc fln) (mRp : mg "repr" = none)
    (GD : FnOk P w K mg base CX0 1 fld fdd ["base", "number"] spLDigits) (bD : Binds K fdd ["base", "number"] []) (GP : FnOk P w K mg base CX0 1 flp fdp ["base", "many"] spLPower) (bP : Binds K fdp ["base", "many"] [])
    (GC : FnOk P w K mg base (L2.CX P w) 4 fchg fdc ["base", "first", "second"] (spRng K ca ChgIs)) (bC : Binds K fdc ["base", "first", "second"] []) (GN : FnOk P w K mg base (L2.CX P w) 4 fnear fdn ["base", "first", "second"] (spRng K ca fun β f s m => NearIs β (s - f) m)) (bN : Binds K fdn ["base", "first", "second"] [])
    (GLC : FnOk P w K mg base CX0 2 flc fdlc ["base", "first", "second"] spLChg) (bLC : Binds K fdlc ["base", "first", "second"] []) (GLN : FnOk P w K mg base CX0 2 fln fdln ["base", "first", "second"] spLNear) (bLN : Binds K fdln ["base", "first", "second"] []) :
    FnG P w K mg base CX0 6 fR fd ["base", "first", "second"] spLRight := by
  refine F.okG scLRight (fun vs H Q E h => ?_) (fun cdv A outer s H vs Q E hr h => ?_)
  · obtain ⟨_, _, _, rfl, _⟩ := h
    rfl
  · obtain ⟨β, f, s', rfl, b2, b10, f1, fs, s2, q⟩ := h
    have hu64 : (A.deeper (PyProof.Rows.envOfC "_law_right" (defScope sLRight) s.heap.objs.size fR cdv)).units + 64 < cLine := by have := hr.r.units; omega
    refine ⟨_, (pss_cons (ps_par (i := 3) (j := 4) (by rfl) scLRight.nd rfl rfl (by decide) rfl rfl (pa_cons (pe_callS GC (hr.r.mono (by decide)) (by rfl) U.chg U.kChg bC (fun σ => passAt L2.takes0 σ) (pa_cons (pv 0) (pa_cons (pv 1) (pa_cons (pv 2) pa_nil)))) (pa_cons (pe_callS GN (hr.r.mono (by decide)) (by rfl) U.near U.kNear bN (fun σ => passAt L2.takes0 σ) (pa_cons (pv 0) (pa_cons (pv 1) (pa_cons (pv 2) pa_nil)))) pa_nil)) (by rfl)) (pss_cons (ps_if (pt_cmpR op_ne (pe_callB (call_reprK hr.g hu64) (by rfl) mRp (by decide +kernel) (pa_cons (pe_lst (pa_cons (pv 3) (pa_cons (pv 4) pa_nil))) pa_nil)) (pe_callB (call_reprK hr.g hu64) (by rfl) mRp (by decide +kernel) (pa_cons (pe_lst (pa_cons (pe_call GLC (hr.r.mono (by decide)) (by rfl) U.lchg U.kLchg bLC .nil pass0 (pa_cons (pv 0) (pa_cons (pv 1) (pa_cons (pv 2) pa_nil)))) (pa_cons (pe_call GLN (hr.r.mono (by decide)) (by rfl) U.lnear U.kLnear bLN .nil pass0 (pa_cons (pv 0) (pa_cons (pv 1) (pa_cons (pv 2) pa_nil)))) pa_nil))) pa_nil)) (nomark _)) (pss_one (ps_ret pe_bl)) pss_nil) (pss_cons (ps_if (PW.pt (pw_or (pt_cmpR op_lt (pe_call GP (hr.r.mono (by decide)) (by rfl) U.lpow U.kLp bP .nil pass0 (pa_cons (pv 0) (pa_cons (pv 4) pa_nil))) (pe_op op_sub (pv 2) (pv 1)) (nomark _)) (pw_or1 (PW.pt (pw_and (pt_cmpR op_gt (pv 4) pe_int (nomark _)) (pw_and1 (pt_cmpR op_ge (pe_call GP (hr.r.mono (by decide)) (by rfl) U.lpow U.kLp bP .nil pass0 (pa_cons (pv 0) (pa_cons (pe_op op_sub (pv 4) pe_int) pa_nil))) (pe_op op_sub (pv 2) (pv 1)) (nomark _)))))))) (pss_one (ps_ret pe_bl)) pss_nil) (pss_cons (ps_set (i := 5) scLRight.nd rfl (.inl rfl) (pe_call GP (hr.r.mono (by decide)) (by rfl) U.lpow U.kLp bP .nil pass0 (pa_cons (pv 0) (pa_cons (pv 3) pa_nil)))) (pss_cons (ps_if (pt_cmpR op_eq (pe_callB call_len_str (by rfl) U.len (by decide +kernel) (pa_cons (pe_call GD (hr.r.mono (by decide)) (by rfl) U.ldig U.kLd bD .nil pass0 (pa_cons (pv 0) (pa_cons (pv 1) pa_nil))) pa_nil)) (pe_callB call_len_str (by rfl) U.len (by decide +kernel) (pa_cons (pe_call GD (hr.r.mono (by decide)) (by rfl) U.ldig U.kLd bD .nil pass0 (pa_cons (pv 0) (pa_cons (pv 2) pa_nil))) pa_nil)) (nomark _)) (pss_one (ps_if (PW.pt (pw_or (pt_cmpR op_ne (pe_op L2.op_fdivW (pv 1) (pv 5)) (pe_op L2.op_fdivW (pv 2) (pv 5)) (nomark _)) (pw_or1 (pt_cmpR op_eq (pe_op L2.op_fdivW (pv 1) (pe_op op_fdiv (pv 5) (pv 0))) (pe_op L2.op_fdivW (pv 2) (pe_op op_fdiv (pv 5) (pv 0))) (nomark _))))) (pss_one (ps_ret pe_bl)) pss_nil)) pss_nil) (pss_one (ps_ret (pe_and (pe_cmpR op_le (pv 4) (pv 3) (nomark _)) (pe_one (pe_cmpR op_le (pv 3) (pe_callB call_len_str (by rfl) U.len (by decide +kernel) (pa_cons (pe_call GD (hr.r.mono (by decide)) (by rfl) U.ldig U.kLd bD .nil pass0 (pa_cons (pv 0) (pa_cons (pv 2) pa_nil))) pa_nil)) (nomark _))))))))))), ?_⟩
    have s5 : s' < 2 ^ 50000 := Nat.lt_of_lt_of_le s2 (Nat.pow_le_pow_right (by decide) (by decide))
    have fl5 : f < 2 ^ 50000 := Nat.lt_trans fs s5
    obtain ⟨m, hm⟩ := chg_ex b2 fs
    obtain ⟨k, hk⟩ := near_ex (d := s' - f) b2
    have mlen := chg_len b2 fs hm
    have len9 : (dl β s').length ≤ 900 := dl_lenB b2 900 s' (Nat.lt_of_lt_of_le s2 (Nat.pow_le_pow_left b2 _))
    have km := near_chg b2 fs hm hk
    have m1 := chg_pos fs hm
    have sm9 : ∀ n : Nat, n ≤ 900 → Sm (.int (n : Int)) := fun n hn => sm_nat (Nat.lt_of_lt_of_le (show n < 2 ^ 10 by omega) (Nat.pow_le_pow_right (by decide) (by decide)))
    refine q_par (v := .int m) (w := .int k) (ea_cons (ev_rng (ev_var rfl) (ev_var rfl) (ev_var rfl) b2 b10 f1 fs fun m' h => h.uniq hm) (ea_cons (ev_rng (ev_var rfl) (ev_var rfl) (ev_var rfl) b2 b10 f1 fs fun m' h => NearIs.uniq h hk) ea_nil)) fun H1 e1 => ?_
    have eC : ∀ {σ : St} {H2 : Hp} {E : XK}, σ[0]? = some (some (.int β)) → σ[1]? = some (some (.int f)) → σ[2]? = some (some (.int s')) → Ev (tCall spLChg [] E (tCons (tVar 0) (tCons (tVar 1) (tCons (tVar 2) tNil)))) σ H2 (.int m) := fun h0 h1 h2 =>
      ev_call (ea_cons (ev_var h0) (ea_cons (ev_var h1) (ea_cons (ev_var h2) ea_nil))) fun H1 e Q q E => ⟨β, f, s', rfl, b2, b10, fs, s5, fun m' h H2 e2 => by rw [h.uniq hm]; exact q H2 e2⟩
    have eN : ∀ {σ : St} {H2 : Hp} {E : XK}, σ[0]? = some (some (.int β)) → σ[1]? = some (some (.int f)) → σ[2]? = some (some (.int s')) → Ev (tCall spLNear [] E (tCons (tVar 0) (tCons (tVar 1) (tCons (tVar 2) tNil)))) σ H2 (.int k) := fun h0 h1 h2 =>
      ev_call (ea_cons (ev_var h0) (ea_cons (ev_var h1) (ea_cons (ev_var h2) ea_nil))) fun H1 e Q q E => ⟨β, f, s', rfl, b2, b10, fs, s5, fun m' h H2 e2 => by rw [NearIs.uniq h hk]; exact q H2 e2⟩
    refine q_when (b := false) (ev_neS (z := (PyData.list [.int m, .int k]).shown) (ev_reprK (el_lst (ea_cons (ev_var rfl) (ea_cons (ev_var rfl) ea_nil)) (by simp)) (.cons (.di (.dp (.int _))) (.cons (.di (.dp (.int _))) .nil)) (.cons (sm9 m (by omega)) (.cons (sm9 k (by omega)) .nil)) (by simp))
      (ev_reprK (el_lst (ea_cons (eC rfl rfl rfl) (ea_cons (eN rfl rfl rfl) ea_nil)) (by simp)) (.cons (.di (.dp (.int _))) (.cons (.di (.dp (.int _))) .nil)) (.cons (sm9 m (by omega)) (.cons (sm9 k (by omega)) .nil)) (by simp))) (fun z => nomatch z) fun _ H2 e2 => ?_
    have hk1 : s' - f ≤ β ^ k := hk.1
    refine q_when (b := false) (et_is (et_or (a := false) (b := false) (et_is (et_test (ev_op (ev_powL (ev_var rfl) (ev_var rfl) b2 b10 (by omega)) (ev_op (ev_var rfl) (ev_var rfl) rv_I0) rv_I0)) (decide_eq_false (by omega)))
      fun _ => et_is (et_and (a := decide ((0 : Int) < (k : Int))) (b := false) (et_test (ev_op (ev_var rfl) ev_c rv_I0)) fun z => ?_) (by simp)) rfl) (fun z => nomatch z) fun _ H3 e3 => ?_
    · have k0 : 0 < k := by
        have := of_decide_eq_true z
        omega
      have hk2 : β ^ (k - 1) < s' - f := hk.2 _ (by omega)
      refine et_is (et_test (ev_op (ev_powL (β := β) (k := k - 1) (ev_var rfl) (ev_is (ev_op (ev_var rfl) ev_c rv_I0) (by rw [show ((k : Int) - 1) = ((k - 1 : Nat) : Int) by omega])) b2 b10 (by omega)) (ev_op (ev_var rfl) (ev_var rfl) rv_I0) rv_I0)) (decide_eq_false (by omega))
    refine q_asg (v := .int ((β ^ m : Nat) : Int)) (ev_powL (ev_var rfl) (ev_var rfl) b2 b10 (by omega)) fun H4 e4 => ?_
    obtain ⟨B, hB⟩ : ∃ B : Nat, B = β ^ m := ⟨_, rfl⟩
    obtain ⟨C, hC⟩ : ∃ C : Nat, C = β ^ (m - 1) := ⟨_, rfl⟩
    have hBC : B / β = C := by
      rw [hB, hC, show m = (m - 1) + 1 by omega, Nat.pow_succ, Nat.mul_div_cancel _ (by omega)]
      rfl
    have Bpos : 0 < B := by
      rw [hB]
      exact Nat.pow_pos (by omega)
    have Cpos : 0 < C := by
      rw [hC]
      exact Nat.pow_pos (by omega)
    have B9 : B < 2 ^ 9000 := by
      rw [hB]
      have h1 : β ^ m ≤ 16 ^ m := Nat.pow_le_pow_left (by omega) _
      have h2 : (16 : Nat) ^ m ≤ 16 ^ 900 := Nat.pow_le_pow_right (by decide) (by omega)
      have h3 : (16 : Nat) ^ 900 = 2 ^ 3600 := by rw [show (16 : Nat) = 2 ^ 4 from rfl, ← Nat.pow_mul]
      have h4 : (2 : Nat) ^ 3600 < 2 ^ 9000 := Nat.pow_lt_pow_right (by decide) (by decide)
      rw [h3] at h2
      exact Nat.lt_of_le_of_lt (Nat.le_trans h1 h2) h4
    have CB : C ≤ B := by
      rw [← hBC]
      exact Nat.div_le_self _ _
    have cd : ∀ {x : Int} {y : Nat}, 0 < y → y ≤ B → CDivW x (y : Int) := fun {x y} h1 h2 => ⟨by omega, by
      rw [Int.natAbs_natCast]
      exact (Nat.log2_lt (by omega)).mpr (Nat.lt_of_le_of_lt h2 B9)⟩
    have c1 : f / B = s' / B := by
      rw [hB]
      exact hm.1
    have c2 : f / C ≠ s' / C := by
      rw [hC]
      exact hm.2 _ (by omega)
    rw [← hB]
    have eDC : ∀ {σ : St} {H2 : Hp} {i : Nat} {x : Nat}, σ[0]? = some (some (.int β)) → σ[5]? = some (some (.int B)) → σ[i]? = some (some (.int x)) → Ev (tOp (rI CDivW fun i j => V.int (i / j)) (tVar i) (tOp (rI CDiv fun i j => V.int (i / j)) (tVar 5) (tVar 0))) σ H2 (.int ((x / C : Nat) : Int)) := fun {σ H2 i x} h0 h5 hi =>
      ev_is (ev_op (ev_var hi) (y := .int (C : Int)) (ev_is (ev_op (ev_var h5) (ev_var h0) (rv_I ⟨by omega, by omega⟩)) (by rw [← Int.natCast_ediv, hBC])) (rv_I (cd Cpos CB))) (by rw [← Int.natCast_ediv])
    have eDB : ∀ {σ : St} {H2 : Hp} {i : Nat} {x : Nat}, σ[5]? = some (some (.int B)) → σ[i]? = some (some (.int x)) → Ev (tOp (rI CDivW fun i j => V.int (i / j)) (tVar i) (tVar 5)) σ H2 (.int ((x / B : Nat) : Int)) := fun {σ H2 i x} h5 hi =>
      ev_is (ev_op (ev_var hi) (ev_var h5) (rv_I (cd Bpos (Nat.le_refl _)))) (by rw [← Int.natCast_ediv])
    have lf := digs_le (n := f) b2 fl5
    have ls := digs_le (n := s') b2 s5
    refine q_if (b := decide (V.int (digs β f).length = V.int (digs β s').length)) (et_test (ev_op (ev_lenX (K := K) (ev_digL (ev_var rfl) (ev_var rfl) b2 b10 fl5) (by omega)) (ev_lenX (K := K) (ev_digL (ev_var rfl) (ev_var rfl) b2 b10 s5) (by omega)) (rv_eq rfl))) (fun z H5 e5 => ?_) (fun z H5 e5 => ?_)
    · refine s_when (b := false) (et_is (et_or (a := false) (b := false) (et_is (et_test (ev_op (eDB rfl rfl) (eDB rfl rfl) (rv_ne rfl))) (by rw [c1]; simp)) fun _ => et_is (et_test (ev_op (eDC rfl rfl rfl) (eDC rfl rfl rfl) (rv_eq rfl))) (decide_eq_false fun y => c2 (by injection y with y; omega))) rfl) (fun z => nomatch z) fun _ H6 e6 => ?_
      refine s_ret (ev_is (ev_andV (a := true) (b := true) (ev_is (ev_op (ev_var rfl) (ev_var rfl) rv_I0) (by rw [decide_eq_true (by omega)])) fun _ => ev_is (ev_op (ev_var rfl) (ev_lenX (K := K) (ev_digL (ev_var rfl) (ev_var rfl) b2 b10 s5) (by omega)) rv_I0) (by rw [digs_len, decide_eq_true (by omega)])) rfl) fun H7 e7 => q H7 ((((((e1.trans e2).trans e3).trans e4).trans e5).trans e6).trans e7)
    · refine s_ret (ev_is (ev_andV (a := true) (b := true) (ev_is (ev_op (ev_var rfl) (ev_var rfl) rv_I0) (by rw [decide_eq_true (by omega)])) fun _ => ev_is (ev_op (ev_var rfl) (ev_lenX (K := K) (ev_digL (ev_var rfl) (ev_var rfl) b2 b10 s5) (by omega)) rv_I0) (by rw [digs_len, decide_eq_true (by omega)])) rfl) fun H7 e7 => q H7 (((((e1.trans e2).trans e3).trans e4).trans e5).trans e7)
end
end Dg

namespace Told
open PySem L2 Evl LamR LamX
abbrev stR : Stmt := PySem.Challenge.pw_shortspans_k03_whole_changed_and_near.main.body.getD 30 (.Pass ⟨0, 0, 0, 0⟩)
def wdN : Nat → Str
  | 1 => "base"
  | 2 => "number"
  | 3 => "digits"
  | 4 => "range"
  | 5 => "rule"
  | 6 => "reader"
  | 7 => "manner"
  | 8 => "entry"
  | 9 => "name"
  | 10 => "text"
  | 11 => "other"
  | 12 => "many"
  | 13 => "missing"
  | _ => "nothing"
def fdN : Nat → Str
  | 5 => "place"
  | 8 => "place"
  | 12 => "most"
  | 13 => "name"
  | _ => "value"
/-- an exception of the class with number n, with its dict; what is told of it behind its word -/
def Says (ca : Nat → Addr) (H : Hp) (cls : Value) (d : Option Addr) (n : Nat) (vs : List V) : Prop :=
  cls = .ref (ca n) ∧ 1 ≤ n ∧ n ≤ 14 ∧ (((n = 11 ∨ n = 14) ∧ d = none ∧ vs = []) ∨ (n = 10 ∧ ∃ dd a b, d = some dd ∧ H dd = some (.xd [("word", b), ("line", a)]) ∧ vs = [a, b]) ∨
    (n ≠ 10 ∧ n ≠ 11 ∧ n ≠ 14 ∧ ∃ dd v, d = some dd ∧ H dd = some (.xd [(fdN n, v)]) ∧ vs = [v]))
/-- what _law_raised makes of a lambda's reading; fl: its own list, ahead of the call -/
def TTold (ca : Nat → Addr) : (XK → Hp → VK → Prop) → Hp → VK → Prop := fun tl H Q => ∀ fl, H fl = none →
  tl (fun cls d H' => Ex (upd H fl (.lst [])) H' ∧ ∃ n vs, Says ca H' cls d n vs ∧ ∀ rt H2, (upd H fl (.lst [])) rt = none → (∀ b o, H' b = some o → b ≠ fl → H2 b = some o) → H2 rt = some (.tup (.str (wdN n) :: vs)) → Q (.ref rt) H2)
    (upd H fl (.lst [])) (fun v H' => Ex (upd H fl (.lst [])) H' ∧ ∀ rt H2, (upd H fl (.lst [])) rt = none → Ex H' H2 → H2 rt = some (.tup []) → Q (.ref rt) H2)
structure TxT (mg : Str → Option Value) (ca : Nat → Addr) : Prop where
  own : ∀ i, i < 15 → mg (Toy.nmN i) = some (.ref (ca i))
  isi : mg "isinstance" = none
  len : mg "len" = none
/-- what the classes' rows say -/
structure RwT (K : PySem.W.Frag) (ca : Nat → Addr) : Prop where
  xc : ∀ i, 1 ≤ i → i ≤ 14 → XcC K (ca i)
  kit : ∀ n i, 1 ≤ n → n ≤ 14 → 1 ≤ i → i ≤ 14 → PySem.W.kitOne K (.ref (ca n)) (.ref (ca i)) = some (decide (i = n))
  exm : ∀ n, 1 ≤ n → n ≤ 14 → PySem.W.exmAny K (.ref (ca n)) [.ref (ca 0), .ref (ca 12), .ref (ca 13), .ref (ca 14)] = some true
  no : ∀ i, 1 ≤ i → i ≤ 14 → i ≠ 10 → i ≠ 11 → i ≠ 14 → PySem.W.findIn K (.ref (ca i)) (fdN i) = some none
  line : PySem.W.findIn K (.ref (ca 10)) "line" = some none
  word : PySem.W.findIn K (.ref (ca 10)) "word" = some none
theorem scR : FnScope ["asked", "caught", "found", "e"] ["asked"] (defScope stR) := ⟨rfl, rfl, rfl, by decide +kernel, rfl, by decide +kernel, by decide +kernel⟩
/-- behind the first i of the fourteen questions -/
def Mid (f a fl : Addr) (H3 : Hp) (n : Nat) (vs : List V) (i : Nat) : St → Hp → Prop := fun σ H2 => σ = [some (.ref f), some (.ref a), some (.ref fl), none] ∧ (∀ b o, H3 b = some o → b ≠ fl → H2 b = some o) ∧
  ((i < n ∧ H2 fl = some (.lst [])) ∨ (n ≤ i ∧ ∃ rt, H3 rt = none ∧ H2 fl = some (.lst [.ref rt]) ∧ H2 rt = some (.tup (.str (wdN n) :: vs))))
theorem mid_step {K : PySem.W.Frag} {ca : Nat → Addr} {f a fl : Addr} {H3 H2 : Hp} {n i : Nat} {vs : List V} {d : Option Addr} {te : TE} {D : Ends} {σ : St} (R : RwT K ca) (n1 : 1 ≤ n) (n14 : n ≤ 14) (i1 : 1 ≤ i) (i14 : i ≤ 14) (x : Toy.ExAt H3 a (ca n) d) (afl : a ≠ fl)
    (dfl : ∀ dd, d = some dd → dd ≠ fl) (hte : i = n → ∀ H2 : Hp, (∀ b o, H3 b = some o → b ≠ fl → H2 b = some o) → EvU te [some (.ref f), some (.ref a), some (.ref fl), none] H2 (.str (wdN n) :: vs)) (m : Mid f a fl H3 n vs (i - 1) σ H2) :
    tIfS (tB (tCB (rIsX K) (tCons (tVar 1) (tCons (tC (.ref (ca i))) tNil)))) (tDrop (tBM K "list" rAppend (tVar 2) (tCons te tNil))) tNext { D with nx := Mid f a fl H3 n vs i } σ H2 := by
  obtain ⟨rfl, kp, alt⟩ := m
  refine s_when (b := decide (i = n)) (et_B (ev_cb (ea_cons (ev_var rfl) (ea_cons ev_c ea_nil)) fun H4 e4 Q q => ⟨a, ca n, d, .ref (ca i), _, _, rfl, .own _, e4 _ _ (kp _ _ x.1 afl), fun dx z => ?_, R.xc n n1 n14, R.kit n i n1 n14 i1 i14, q _ (Ex.refl _)⟩)) (fun z H4 e4 => ?_) (fun z H4 e4 => ?_)
  · obtain ⟨fs, h⟩ := x.2 dx z
    exact ⟨fs, e4 _ _ (kp _ _ h (dfl dx z))⟩
  · have hin := of_decide_eq_true z
    rcases alt with ⟨_, hf⟩ | ⟨z2, _⟩
    · refine s_appU (e4 _ _ hf) (ev_var rfl) (hte hin H4 fun b o e nb => e4 _ _ (kp b o e nb)) (by simp) fun p H5 hp e5 h5 => ?_
      have pf : p ≠ fl := fun z => by
        rw [z, e4 _ _ hf] at hp
        cases hp
      refine ⟨rfl, fun b o e nb => ?_, .inr ⟨by omega, p, ?_, upd_same, ?_⟩⟩
      · rw [upd_ne nb]
        exact e5 _ _ (e4 _ _ (kp b o e nb))
      · cases q : H3 p with
        | none => rfl
        | some o =>
          have := e4 _ _ (kp p o q pf)
          rw [this] at hp
          cases hp
      · rw [upd_ne pf]
        exact h5
    · omega
  · have hin : ¬ i = n := of_decide_eq_false z
    refine ⟨rfl, fun b o e nb => e4 _ _ (kp b o e nb), ?_⟩
    rcases alt with ⟨z2, hf⟩ | ⟨z2, rt, h1, h2, h3⟩
    · exact .inl ⟨by omega, e4 _ _ hf⟩
    · exact .inr ⟨by omega, rt, h1, e4 _ _ h2, e4 _ _ h3⟩
section
variable {X : Cx} {q : Str} {g : Addr} {cdg : Value} {ca : Nat → Addr}
theorem raised_gives (T : TxT X.mg ca) (R : RwT X.K ca) : GivesR X ["asked", "caught", "found", "e"] "_law_raised" (defScope stR) g cdg (defBody stR) "asked" q (TTold ca) := by
  intro f c' s H Q tl act hc h
  let X0 : Cx := (cxOf C8.CX0 X.prog X.w X.K X.mg X.base ["asked", "caught", "found", "e"] "_law_raised" (defScope stR) g cdg X.A X.stack s H C8.E0).nox
  refine ⟨_, (pss_cons (ps_par (i := 1) (j := 2) (by rfl) scR.nd rfl rfl (by decide) rfl rfl (pa_cons pe_non (pa_cons (pe_lst pa_nil) pa_nil)) (by rfl)) (pss_cons (ps_try_asT (X := X0) (i := 3) (tb := fun W D σ H => σ[0]? = some (some (V.ref f)) ∧ H c' = some (CodeO c' q) ∧ ∃ (E : XK) (Q' : VK), (∀ cls d H', E cls d H' → W cls d σ H') ∧ (∀ v H', Q' v H' → D.nx σ H') ∧ tl E H Q') rfl rfl scR.nd rfl rfl (.cons (by rfl) (T.own 0 (by decide)) (by decide) (.cons (by rfl) (T.own 12 (by decide)) (by decide) (.cons (by rfl) (T.own 13 (by decide)) (by decide) (.cons (by rfl) (T.own 14 (by decide)) (by decide) .nil)))) rfl L2.takes0 (fun W pn xe tk _ => ⟨fun pins s' σ H' D I h' => (pss_one (ps_expr (act W pn xe _ _ tk))).run pins s' σ H' D I (show tDrop (fun σZ HZ Q => σZ[0]? = some (some (V.ref f)) ∧ HZ c' = some (CodeO c' q) ∧ ∃ (E : XK) (Q' : VK), (∀ cls d H', E cls d H' → W cls d σZ H') ∧ (∀ v H', Q' v H' → Q v H') ∧ tl E HZ Q') D σ H' from h')⟩) (fun a oe cls d pn hz hf => pss_one (ps_set (i := 1) scR.nd rfl (.inl rfl) (pv 3)))) (pss_cons (ps_if (pt_cmpR op_isN (pv 1) pe_non (nomark _)) (pss_one (ps_ret (pe_tup pa_nil))) pss_nil) (pss_cut (ps_if (pt_val (pe_callB call_isX (by rfl) T.isi (by decide +kernel) (pa_cons (pv 1) (pa_cons (pe_glob (by rfl) (T.own 1 (by decide)) (v := .ref (ca 1)) rfl) pa_nil)))) (pss_one (ps_expr (pe_bm PySem.F.plainAttrs_list PySem.F.slot_list_append PySem.F.type_list_append mt_append (pv 2) (pa_cons (pe_tup (pa_cons pe_str (pa_cons (pe_xfT (pv 1)) pa_nil))) pa_nil)))) pss_nil) (pss_cut (ps_if (pt_val (pe_callB call_isX (by rfl) T.isi (by decide +kernel) (pa_cons (pv 1) (pa_cons (pe_glob (by rfl) (T.own 2 (by decide)) (v := .ref (ca 2)) rfl) pa_nil)))) (pss_one (ps_expr (pe_bm PySem.F.plainAttrs_list PySem.F.slot_list_append PySem.F.type_list_append mt_append (pv 2) (pa_cons (pe_tup (pa_cons pe_str (pa_cons (pe_xfT (pv 1)) pa_nil))) pa_nil)))) pss_nil) (pss_cut (ps_if (pt_val (pe_callB call_isX (by rfl) T.isi (by decide +kernel) (pa_cons (pv 1) (pa_cons (pe_glob (by rfl) (T.own 3 (by decide)) (v := .ref (ca 3)) rfl) pa_nil)))) (pss_one (ps_expr (pe_bm PySem.F.plainAttrs_list PySem.F.slot_list_append PySem.F.type_list_append mt_append (pv 2) (pa_cons (pe_tup (pa_cons pe_str (pa_cons (pe_xfT (pv 1)) pa_nil))) pa_nil)))) pss_nil) (pss_cut (ps_if (pt_val (pe_callB call_isX (by rfl) T.isi (by decide +kernel) (pa_cons (pv 1) (pa_cons (pe_glob (by rfl) (T.own 4 (by decide)) (v := .ref (ca 4)) rfl) pa_nil)))) (pss_one (ps_expr (pe_bm PySem.F.plainAttrs_list PySem.F.slot_list_append PySem.F.type_list_append mt_append (pv 2) (pa_cons (pe_tup (pa_cons pe_str (pa_cons (pe_xfT (pv 1)) pa_nil))) pa_nil)))) pss_nil) (pss_cut (ps_if (pt_val (pe_callB call_isX (by rfl) T.isi (by decide +kernel) (pa_cons (pv 1) (pa_cons (pe_glob (by rfl) (T.own 5 (by decide)) (v := .ref (ca 5)) rfl) pa_nil)))) (pss_one (ps_expr (pe_bm PySem.F.plainAttrs_list PySem.F.slot_list_append PySem.F.type_list_append mt_append (pv 2) (pa_cons (pe_tup (pa_cons pe_str (pa_cons (pe_xfT (pv 1)) pa_nil))) pa_nil)))) pss_nil) (pss_cut (ps_if (pt_val (pe_callB call_isX (by rfl) T.isi (by decide +kernel) (pa_cons (pv 1) (pa_cons (pe_glob (by rfl) (T.own 6 (by decide)) (v := .ref (ca 6)) rfl) pa_nil)))) (pss_one (ps_expr (pe_bm PySem.F.plainAttrs_list PySem.F.slot_list_append PySem.F.type_list_append mt_append (pv 2) (pa_cons (pe_tup (pa_cons pe_str (pa_cons (pe_xfT (pv 1)) pa_nil))) pa_nil)))) pss_nil) (pss_cut (ps_if (pt_val (pe_callB call_isX (by rfl) T.isi (by decide +kernel) (pa_cons (pv 1) (pa_cons (pe_glob (by rfl) (T.own 7 (by decide)) (v := .ref (ca 7)) rfl) pa_nil)))) (pss_one (ps_expr (pe_bm PySem.F.plainAttrs_list PySem.F.slot_list_append PySem.F.type_list_append mt_append (pv 2) (pa_cons (pe_tup (pa_cons pe_str (pa_cons (pe_xfT (pv 1)) pa_nil))) pa_nil)))) pss_nil) (pss_cut (ps_if (pt_val (pe_callB call_isX (by rfl) T.isi (by decide +kernel) (pa_cons (pv 1) (pa_cons (pe_glob (by rfl) (T.own 8 (by decide)) (v := .ref (ca 8)) rfl) pa_nil)))) (pss_one (ps_expr (pe_bm PySem.F.plainAttrs_list PySem.F.slot_list_append PySem.F.type_list_append mt_append (pv 2) (pa_cons (pe_tup (pa_cons pe_str (pa_cons (pe_xfT (pv 1)) pa_nil))) pa_nil)))) pss_nil) (pss_cut (ps_if (pt_val (pe_callB call_isX (by rfl) T.isi (by decide +kernel) (pa_cons (pv 1) (pa_cons (pe_glob (by rfl) (T.own 9 (by decide)) (v := .ref (ca 9)) rfl) pa_nil)))) (pss_one (ps_expr (pe_bm PySem.F.plainAttrs_list PySem.F.slot_list_append PySem.F.type_list_append mt_append (pv 2) (pa_cons (pe_tup (pa_cons pe_str (pa_cons (pe_xfT (pv 1)) pa_nil))) pa_nil)))) pss_nil) (pss_cut (ps_if (pt_val (pe_callB call_isX (by rfl) T.isi (by decide +kernel) (pa_cons (pv 1) (pa_cons (pe_glob (by rfl) (T.own 10 (by decide)) (v := .ref (ca 10)) rfl) pa_nil)))) (pss_one (ps_expr (pe_bm PySem.F.plainAttrs_list PySem.F.slot_list_append PySem.F.type_list_append mt_append (pv 2) (pa_cons (pe_tup (pa_cons pe_str (pa_cons (pe_xfT (pv 1)) (pa_cons (pe_xfT (pv 1)) pa_nil)))) pa_nil)))) pss_nil) (pss_cut (ps_if (pt_val (pe_callB call_isX (by rfl) T.isi (by decide +kernel) (pa_cons (pv 1) (pa_cons (pe_glob (by rfl) (T.own 11 (by decide)) (v := .ref (ca 11)) rfl) pa_nil)))) (pss_one (ps_expr (pe_bm PySem.F.plainAttrs_list PySem.F.slot_list_append PySem.F.type_list_append mt_append (pv 2) (pa_cons (pe_tup (pa_cons pe_str pa_nil)) pa_nil)))) pss_nil) (pss_cut (ps_if (pt_val (pe_callB call_isX (by rfl) T.isi (by decide +kernel) (pa_cons (pv 1) (pa_cons (pe_glob (by rfl) (T.own 12 (by decide)) (v := .ref (ca 12)) rfl) pa_nil)))) (pss_one (ps_expr (pe_bm PySem.F.plainAttrs_list PySem.F.slot_list_append PySem.F.type_list_append mt_append (pv 2) (pa_cons (pe_tup (pa_cons pe_str (pa_cons (pe_xfT (pv 1)) pa_nil))) pa_nil)))) pss_nil) (pss_cut (ps_if (pt_val (pe_callB call_isX (by rfl) T.isi (by decide +kernel) (pa_cons (pv 1) (pa_cons (pe_glob (by rfl) (T.own 13 (by decide)) (v := .ref (ca 13)) rfl) pa_nil)))) (pss_one (ps_expr (pe_bm PySem.F.plainAttrs_list PySem.F.slot_list_append PySem.F.type_list_append mt_append (pv 2) (pa_cons (pe_tup (pa_cons pe_str (pa_cons (pe_xfT (pv 1)) pa_nil))) pa_nil)))) pss_nil) (pss_cut (ps_if (pt_val (pe_callB call_isX (by rfl) T.isi (by decide +kernel) (pa_cons (pv 1) (pa_cons (pe_glob (by rfl) (T.own 14 (by decide)) (v := .ref (ca 14)) rfl) pa_nil)))) (pss_one (ps_expr (pe_bm PySem.F.plainAttrs_list PySem.F.slot_list_append PySem.F.type_list_append mt_append (pv 2) (pa_cons (pe_tup (pa_cons pe_str pa_nil)) pa_nil)))) pss_nil) (pss_one (ps_ret (pe_ifExp (pt_cmpR op_eq (pe_callB call_len_seq (by rfl) T.len (by decide +kernel) (pa_cons (pv 2) pa_nil)) pe_int (nomark _)) (pe_ix ix_list (pv 2) pe_int (fun _ _ => rfl)) (pe_tup (pa_cons pe_str (pa_cons (pe_callB call_len_seq (by rfl) T.len (by decide +kernel) (pa_cons (pv 2) pa_nil)) pa_nil))))))))))))))))))))))), ?_⟩
  have z0 : (0 : Nat) ≤ sizeLine := Nat.zero_le _
  refine ⟨z0, fun fl hfl => ⟨_, _, rfl, ?_⟩⟩
  refine ⟨rfl, (Ex.new hfl) _ _ hc, _, _, ?hW, ?hQ, h fl hfl⟩
  case hQ =>
    rintro v H' ⟨ex, k⟩
    refine ⟨_, rfl, rfl, _, rfl, ite2 (fun _ => ?_) (fun z => absurd rfl z)⟩
    exact ⟨z0, fun rt hrt => k rt _ (fresh_back ex hrt) (Ex.new hrt) upd_same⟩
  case hW =>
    rintro cls d H' ⟨ex, n, vs, ⟨rfl, n1, n14, S⟩, k⟩
    refine ⟨true, R.exm n n1 n14, fun _ a ha => ?_, fun z => nomatch z⟩
    refine ⟨_, rfl, ?_⟩
    refine ⟨_, rfl, rfl, _, rfl, ite2 (fun z => absurd (of_decide_eq_true z) (fun z => nomatch z)) (fun _ => ?_)⟩
    have xH := Ex.new (o := exv a (.ref (ca n)) d) ha
    have hflH : H' fl = some (.lst []) := ex _ _ upd_same
    have afl : a ≠ fl := fun z => by
      rw [z, hflH] at ha
      cases ha
    have dfl : ∀ dd fs, H' dd = some (.xd fs) → dd ≠ fl := fun dd fs e z => by
      rw [z, hflH] at e
      cases e
    have XA : Toy.ExAt (upd H' a (exv a (.ref (ca n)) d)) a (ca n) d ∧ ∀ dd, d = some dd → dd ≠ fl := by
      rcases S with ⟨_, rfl, _⟩ | ⟨_, dd, va, vb, rfl, hd, _⟩ | ⟨_, _, _, dd, v, rfl, hd, _⟩
      · exact ⟨⟨upd_same, fun _ z => nomatch z⟩, fun _ z => nomatch z⟩
      · exact ⟨⟨upd_same, fun dx z => by cases z; exact ⟨_, xH _ _ hd⟩⟩, fun dx z => by cases z; exact dfl _ _ hd⟩
      · exact ⟨⟨upd_same, fun dx z => by cases z; exact ⟨_, xH _ _ hd⟩⟩, fun dx z => by cases z; exact dfl _ _ hd⟩
    obtain ⟨XA, dfl'⟩ := XA
    have m0 : Mid f a fl (upd H' a (exv a (.ref (ca n)) d)) n vs 0 [some (.ref f), some (.ref a), some (.ref fl), none] (upd H' a (exv a (.ref (ca n)) d)) := ⟨rfl, fun b o e _ => e, .inl ⟨n1, xH _ _ hflH⟩⟩
    generalize upd H' a (exv a (.ref (ca n)) d) = H3 at XA m0 xH ⊢
    have one : ∀ i, i = n → i ≠ 10 → i ≠ 11 → i ≠ 14 → ∀ H2 : Hp, (∀ b o, H3 b = some o → b ≠ fl → H2 b = some o) → EvU (tTup (tCons (tC (.str (wdN i))) (tCons (tXfT X.K (fdN i) (tVar 1)) tNil))) [some (.ref f), some (.ref a), some (.ref fl), none] H2 (.str (wdN n) :: vs) := by
      rintro i rfl z10 z11 z14 H2 kp
      rcases S with ⟨z | z, _⟩ | ⟨z, _⟩ | ⟨_, _, _, dd, v, rfl, hd, rfl⟩
      · exact absurd z z11
      · exact absurd z z14
      · exact absurd z z10
      · refine eu_tup (ea_cons ev_c (ea_cons ?_ ea_nil)) (by simp)
        exact Toy.ev_xf (ev_var rfl) (C := ca i) (d := dd) ⟨kp _ _ XA.1 afl, fun dx z => by cases z; exact ⟨_, kp _ _ (xH _ _ hd) (dfl _ _ hd)⟩⟩ (kp _ _ (xH _ _ hd) (dfl _ _ hd)) (R.xc i n1 n14) (R.no i n1 n14 z10 z11 z14) (by simp [List.lookup])
    have ten : 10 = n → ∀ H2 : Hp, (∀ b o, H3 b = some o → b ≠ fl → H2 b = some o) → EvU (tTup (tCons (tC (.str "text")) (tCons (tXfT X.K "line" (tVar 1)) (tCons (tXfT X.K "word" (tVar 1)) tNil)))) [some (.ref f), some (.ref a), some (.ref fl), none] H2 (.str (wdN n) :: vs) := by
      rintro rfl H2 kp
      rcases S with ⟨z | z, _⟩ | ⟨_, dd, va, vb, rfl, hd, rfl⟩ | ⟨z, _⟩
      · omega
      · omega
      · have xa : Toy.ExAt H2 a (ca 10) (some dd) := ⟨kp _ _ XA.1 afl, fun dx z => by cases z; exact ⟨_, kp _ _ (xH _ _ hd) (dfl _ _ hd)⟩⟩
        have hh := kp _ _ (xH _ _ hd) (dfl _ _ hd)
        exact eu_tup (ea_cons ev_c (ea_cons (Toy.ev_xf (ev_var rfl) xa hh (R.xc 10 n1 n14) R.line rfl) (ea_cons (Toy.ev_xf (ev_var rfl) xa hh (R.xc 10 n1 n14) R.word rfl) ea_nil))) (by simp)
      · exact absurd rfl z
    have none_ : ∀ i, i = n → (i = 11 ∨ i = 14) → ∀ H2 : Hp, (∀ b o, H3 b = some o → b ≠ fl → H2 b = some o) → EvU (tTup (tCons (tC (.str (wdN i))) tNil)) [some (.ref f), some (.ref a), some (.ref fl), none] H2 (.str (wdN n) :: vs) := by
      rintro i rfl zi H2 kp
      rcases S with ⟨_, _, rfl⟩ | ⟨z, _⟩ | ⟨_, z2, z3, _⟩
      · exact eu_tup (ea_cons ev_c ea_nil) (by simp)
      · omega
      · omega
    refine q_cut (mid_step (i := 1) R n1 n14 (by decide) (by decide) XA afl dfl' (fun z => one 1 z (by decide) (by decide) (by decide)) m0) (fun σ1 H1' m1 => ?_)
    refine q_cut (mid_step (i := 2) R n1 n14 (by decide) (by decide) XA afl dfl' (fun z => one 2 z (by decide) (by decide) (by decide)) m1) (fun σ2 H2' m2 => ?_)
    refine q_cut (mid_step (i := 3) R n1 n14 (by decide) (by decide) XA afl dfl' (fun z => one 3 z (by decide) (by decide) (by decide)) m2) (fun σ3 H3' m3 => ?_)
    refine q_cut (mid_step (i := 4) R n1 n14 (by decide) (by decide) XA afl dfl' (fun z => one 4 z (by decide) (by decide) (by decide)) m3) (fun σ4 H4' m4 => ?_)
    refine q_cut (mid_step (i := 5) R n1 n14 (by decide) (by decide) XA afl dfl' (fun z => one 5 z (by decide) (by decide) (by decide)) m4) (fun σ5 H5' m5 => ?_)
    refine q_cut (mid_step (i := 6) R n1 n14 (by decide) (by decide) XA afl dfl' (fun z => one 6 z (by decide) (by decide) (by decide)) m5) (fun σ6 H6' m6 => ?_)
    refine q_cut (mid_step (i := 7) R n1 n14 (by decide) (by decide) XA afl dfl' (fun z => one 7 z (by decide) (by decide) (by decide)) m6) (fun σ7 H7' m7 => ?_)
    refine q_cut (mid_step (i := 8) R n1 n14 (by decide) (by decide) XA afl dfl' (fun z => one 8 z (by decide) (by decide) (by decide)) m7) (fun σ8 H8' m8 => ?_)
    refine q_cut (mid_step (i := 9) R n1 n14 (by decide) (by decide) XA afl dfl' (fun z => one 9 z (by decide) (by decide) (by decide)) m8) (fun σ9 H9' m9 => ?_)
    refine q_cut (mid_step (i := 10) R n1 n14 (by decide) (by decide) XA afl dfl' (fun z => ten z) m9) (fun σ10 H10' m10 => ?_)
    refine q_cut (mid_step (i := 11) R n1 n14 (by decide) (by decide) XA afl dfl' (fun z => none_ 11 z (by decide)) m10) (fun σ11 H11' m11 => ?_)
    refine q_cut (mid_step (i := 12) R n1 n14 (by decide) (by decide) XA afl dfl' (fun z => one 12 z (by decide) (by decide) (by decide)) m11) (fun σ12 H12' m12 => ?_)
    refine q_cut (mid_step (i := 13) R n1 n14 (by decide) (by decide) XA afl dfl' (fun z => one 13 z (by decide) (by decide) (by decide)) m12) (fun σ13 H13' m13 => ?_)
    refine q_cut (mid_step (i := 14) R n1 n14 (by decide) (by decide) XA afl dfl' (fun z => none_ 14 z (by decide)) m13) (fun σ14 H14' m14 => ?_)
    obtain ⟨rfl, kp, alt⟩ := m14
    rcases alt with ⟨z, _⟩ | ⟨_, rt, h1, h2, h3⟩
    · omega
    · refine s_ret (v := .ref rt) (ev_if (b := true) (et_is (et_test (ev_op (ev_len (ev_var rfl) (sq_of h2)) ev_c (rv_eq rfl))) (decide_eq_true rfl)) (fun _ => ev_op (ev_var rfl) ev_c (rv_ixL (sq_of h2) (atI_nat (j := 0) rfl))) (fun z => nomatch z)) fun H6 e6 => ?_
      exact k rt H6 (fresh_back (ex.trans xH) h1) (fun b o e nb => e6 _ _ (kp b o (xH b o e) nb)) (e6 _ _ h3)
end
end Told

/-! What lies at an address of the written part, told by the part itself. -/
namespace L2
open PySem PySem.Spec PyProof.Rows ExM
open PySem (cStatics)
open PySem.W (Frag findIn typeIn keepIn subIn nsIn codeIn ksFn ks_superIn excTail)
/-! what lies at an address of the written part -/
def oO (K : Frag) (a : Addr) : Obj := (K.lookup a).getD default
def fO (K : Frag) (a : Addr) : FuncData := match (oO K a).data with
  | .func fd => fd
  | _ => default
def cO (K : Frag) (a : Addr) : ClassData := match (oO K a).data with
  | .cls cd => cd
  | _ => default
def vO (K : Frag) (a : Addr) : Array Value := match (oO K a).data with
  | .fields vs => vs
  | _ => #[]
def sO (v : Option Value) : Str × Tok := match v with
  | some (.str x t) => (x, t)
  | _ => default
def slO (K : Frag) (a : Addr) (i : Nat) : Option Value := ((oO K a).slots[i]?).getD none
theorem cfs_mkO {K : Frag} {prog : Program} {C f cc cda : Addr} {qual : Str} {params : Arguments} {body : List Stmt} {scope : Scope} {bmB : List Value} {B newId initId : String}
    (lc : K.lookup C = some (excClassObj (cO K C).name (cO K C).qualname C (cO K C).ns (cO K C).bases (cO K C).mro.tail true (cO K C).slotNames (cO K C).subclasses (cO K C).abstract (cO K C).collection (oO K C).dict (slO K C 0) (slO K C 1) (slO K C 2) (slO K C 3) (slO K C 5) newId))
    (iC : findIn K (.ref C) "__init__" = some (some (.ref f)))
    (lf : K.lookup f = some ⟨(oO K f).cls, (oO K f).dict, .func (ksFn "__init__" qual params body scope .none (fO K f).kwdefaults (fO K f).doc (fO K f).pyModule (fO K f).annotations (.ref cda) (fO K f).closureTuple cc), (oO K f).slots⟩)
    (lcd : K.lookup cda = some ⟨(oO K cda).cls, (oO K cda).dict, .fields (vO K cda), (oO K cda).slots⟩) (lcc : K.lookup cc = some ⟨(oO K cc).cls, (oO K cc).dict, .cell (some (.ref C)), (oO K cc).slots⟩)
    (sa : findIn K (.ref C) "__setattr__" = some (some (.builtin "object.__setattr__"))) (tF : typeIn K (.ref f) = some (.type "function")) (kC : keepIn K (.ref C) = true) (exC : subIn K (.ref C) (.type "BaseException") = some true) (bC : subIn K (.ref C) (.type B) = some true)
    (tyC : typeIn K (.ref C) = some (.type "type")) (op : nsIn K cStatics "thirdparty.any" = some none) (cf : codeIn K (.ref cda) qual = true)
    (al : ks_superIn K C C "__init__" = some (some (.builtin initId))) (tl : excTail bmB (cO K C).mro.tail = true) (v2 : (vO K cda)[2]? = some (.str (sO (vO K cda)[2]?).1 (sO (vO K cda)[2]?).2)) (hf : ((prog.main.file : Str) == (sO (vO K cda)[2]?).1) = true) (top : (prog.main.scope.names.lookup ("super" : Str)).isSome = false) :
    Cfs K prog C f cc cda qual params body scope bmB B newId initId :=
  cfs_mk lc iC lf lcd lcc sa tF kC exC bC tyC op cf al tl v2 hf top
end L2
namespace L2
open PySem
/-- a def as the top has written it -/
def fdX (K : PySem.W.Frag) (name : Str) (st : Stmt) (f : Addr) : FuncData := PySem.W.fnOf name name (defArgs st) (defBody st) (defScope st) .none (fO K f).kwdefaults (fO K f).doc (fO K f).pyModule (fO K f).annotations (fO K f).code (fO K f).closureTuple
end L2

section
open PySem PySem.W PyProof.Rows
set_option maxRecDepth 100000
set_option maxHeartbeats 0
open_top hd03 for PySem.Challenge.rw_shortspans_k03_whole_changed_and_near
end
/-! k03: what the top has written, at its addresses. -/
namespace KH3
open PySem L2 Evl ExM Dg
abbrev P03 : Program := PySem.Challenge.pw_shortspans_k03_whole_changed_and_near
noncomputable abbrev K03 : Params → PySem.W.Frag := hd03.heap_39
def ca03 : Nat → Addr
  | 0 => 24
  | 1 => 46
  | 2 => 67
  | 3 => 88
  | 4 => 109
  | 5 => 130
  | 6 => 151
  | 7 => 172
  | 8 => 193
  | 9 => 214
  | 10 => 235
  | 11 => 256
  | 12 => 277
  | 13 => 299
  | 14 => 321
  | _ => 0
section
variable (p : Params) {mg : Str → Option Value}
theorem cfs1 : Cfs (K03 p) P03 46 43 31 42 "BadBase.__init__" (defArgs (inClass (top 2) 0)) (defBody (inClass (top 2) 0)) (defScope (inClass (top 2) 0)) [.type "ValueError", .type "Exception", .type "BaseException", .type "object"] "ValueError" "ValueError.__new__" "ValueError.__init__" :=
  cfs_mkO (by kernel_rfl) (by kernel_rfl) (by kernel_rfl) (by kernel_rfl) (by kernel_rfl) (by kernel_rfl) (by kernel_rfl) (by kernel_rfl) (by kernel_rfl) (by kernel_rfl) (by kernel_rfl) (by kernel_rfl) (by kernel_rfl) (by kernel_rfl) (by kernel_rfl) (by kernel_rfl) (by kernel_rfl) (by kernel_rfl)
theorem mk1 : Mks P03 (K03 p) mg 46 ["value"] :=
  mks_one (cfs1 p) base_VE rfl rfl rfl ⟨rfl, by decide +kernel, by decide +kernel, rfl, rfl, ⟨_, rfl, rfl⟩, by decide +kernel⟩ (fun L cd => ⟨rfl, _, rfl⟩) (by kernel_rfl)
    (fun a v h x kV doc pm an cdv ct => match h with | .pos _ => by kernel_rfl | .kw1 => by kernel_rfl)
theorem cfs2 : Cfs (K03 p) P03 67 64 52 63 "BadNumber.__init__" (defArgs (inClass (top 3) 0)) (defBody (inClass (top 3) 0)) (defScope (inClass (top 3) 0)) [.type "ValueError", .type "Exception", .type "BaseException", .type "object"] "ValueError" "ValueError.__new__" "ValueError.__init__" :=
  cfs_mkO (by kernel_rfl) (by kernel_rfl) (by kernel_rfl) (by kernel_rfl) (by kernel_rfl) (by kernel_rfl) (by kernel_rfl) (by kernel_rfl) (by kernel_rfl) (by kernel_rfl) (by kernel_rfl) (by kernel_rfl) (by kernel_rfl) (by kernel_rfl) (by kernel_rfl) (by kernel_rfl) (by kernel_rfl) (by kernel_rfl)
theorem mk2 : Mks P03 (K03 p) mg 67 ["value"] :=
  mks_one (cfs2 p) base_VE rfl rfl rfl ⟨rfl, by decide +kernel, by decide +kernel, rfl, rfl, ⟨_, rfl, rfl⟩, by decide +kernel⟩ (fun L cd => ⟨rfl, _, rfl⟩) (by kernel_rfl)
    (fun a v h x kV doc pm an cdv ct => match h with | .pos _ => by kernel_rfl | .kw1 => by kernel_rfl)
theorem cfs3 : Cfs (K03 p) P03 88 85 73 84 "BadDigits.__init__" (defArgs (inClass (top 4) 0)) (defBody (inClass (top 4) 0)) (defScope (inClass (top 4) 0)) [.type "ValueError", .type "Exception", .type "BaseException", .type "object"] "ValueError" "ValueError.__new__" "ValueError.__init__" :=
  cfs_mkO (by kernel_rfl) (by kernel_rfl) (by kernel_rfl) (by kernel_rfl) (by kernel_rfl) (by kernel_rfl) (by kernel_rfl) (by kernel_rfl) (by kernel_rfl) (by kernel_rfl) (by kernel_rfl) (by kernel_rfl) (by kernel_rfl) (by kernel_rfl) (by kernel_rfl) (by kernel_rfl) (by kernel_rfl) (by kernel_rfl)
theorem mk3 : Mks P03 (K03 p) mg 88 ["value"] :=
  mks_one (cfs3 p) base_VE rfl rfl rfl ⟨rfl, by decide +kernel, by decide +kernel, rfl, rfl, ⟨_, rfl, rfl⟩, by decide +kernel⟩ (fun L cd => ⟨rfl, _, rfl⟩) (by kernel_rfl)
    (fun a v h x kV doc pm an cdv ct => match h with | .pos _ => by kernel_rfl | .kw1 => by kernel_rfl)
theorem cfs4 : Cfs (K03 p) P03 109 106 94 105 "BadRange.__init__" (defArgs (inClass (top 5) 0)) (defBody (inClass (top 5) 0)) (defScope (inClass (top 5) 0)) [.type "ValueError", .type "Exception", .type "BaseException", .type "object"] "ValueError" "ValueError.__new__" "ValueError.__init__" :=
  cfs_mkO (by kernel_rfl) (by kernel_rfl) (by kernel_rfl) (by kernel_rfl) (by kernel_rfl) (by kernel_rfl) (by kernel_rfl) (by kernel_rfl) (by kernel_rfl) (by kernel_rfl) (by kernel_rfl) (by kernel_rfl) (by kernel_rfl) (by kernel_rfl) (by kernel_rfl) (by kernel_rfl) (by kernel_rfl) (by kernel_rfl)
theorem mk4 : Mks P03 (K03 p) mg 109 ["value"] :=
  mks_one (cfs4 p) base_VE rfl rfl rfl ⟨rfl, by decide +kernel, by decide +kernel, rfl, rfl, ⟨_, rfl, rfl⟩, by decide +kernel⟩ (fun L cd => ⟨rfl, _, rfl⟩) (by kernel_rfl)
    (fun a v h x kV doc pm an cdv ct => match h with | .pos _ => by kernel_rfl | .kw1 => by kernel_rfl)
theorem cfs5 : Cfs (K03 p) P03 130 127 115 126 "BadRule.__init__" (defArgs (inClass (top 6) 0)) (defBody (inClass (top 6) 0)) (defScope (inClass (top 6) 0)) [.type "ValueError", .type "Exception", .type "BaseException", .type "object"] "ValueError" "ValueError.__new__" "ValueError.__init__" :=
  cfs_mkO (by kernel_rfl) (by kernel_rfl) (by kernel_rfl) (by kernel_rfl) (by kernel_rfl) (by kernel_rfl) (by kernel_rfl) (by kernel_rfl) (by kernel_rfl) (by kernel_rfl) (by kernel_rfl) (by kernel_rfl) (by kernel_rfl) (by kernel_rfl) (by kernel_rfl) (by kernel_rfl) (by kernel_rfl) (by kernel_rfl)
theorem mk5 : Mks P03 (K03 p) mg 130 ["place"] :=
  mks_one (cfs5 p) base_VE rfl rfl rfl ⟨rfl, by decide +kernel, by decide +kernel, rfl, rfl, ⟨_, rfl, rfl⟩, by decide +kernel⟩ (fun L cd => ⟨rfl, _, rfl⟩) (by kernel_rfl)
    (fun a v h x kV doc pm an cdv ct => match h with | .pos _ => by kernel_rfl | .kw1 => by kernel_rfl)
theorem cfs6 : Cfs (K03 p) P03 151 148 136 147 "BadReader.__init__" (defArgs (inClass (top 7) 0)) (defBody (inClass (top 7) 0)) (defScope (inClass (top 7) 0)) [.type "ValueError", .type "Exception", .type "BaseException", .type "object"] "ValueError" "ValueError.__new__" "ValueError.__init__" :=
  cfs_mkO (by kernel_rfl) (by kernel_rfl) (by kernel_rfl) (by kernel_rfl) (by kernel_rfl) (by kernel_rfl) (by kernel_rfl) (by kernel_rfl) (by kernel_rfl) (by kernel_rfl) (by kernel_rfl) (by kernel_rfl) (by kernel_rfl) (by kernel_rfl) (by kernel_rfl) (by kernel_rfl) (by kernel_rfl) (by kernel_rfl)
theorem mk6 : Mks P03 (K03 p) mg 151 ["value"] :=
  mks_one (cfs6 p) base_VE rfl rfl rfl ⟨rfl, by decide +kernel, by decide +kernel, rfl, rfl, ⟨_, rfl, rfl⟩, by decide +kernel⟩ (fun L cd => ⟨rfl, _, rfl⟩) (by kernel_rfl)
    (fun a v h x kV doc pm an cdv ct => match h with | .pos _ => by kernel_rfl | .kw1 => by kernel_rfl)
theorem cfs7 : Cfs (K03 p) P03 172 169 157 168 "BadManner.__init__" (defArgs (inClass (top 8) 0)) (defBody (inClass (top 8) 0)) (defScope (inClass (top 8) 0)) [.type "ValueError", .type "Exception", .type "BaseException", .type "object"] "ValueError" "ValueError.__new__" "ValueError.__init__" :=
  cfs_mkO (by kernel_rfl) (by kernel_rfl) (by kernel_rfl) (by kernel_rfl) (by kernel_rfl) (by kernel_rfl) (by kernel_rfl) (by kernel_rfl) (by kernel_rfl) (by kernel_rfl) (by kernel_rfl) (by kernel_rfl) (by kernel_rfl) (by kernel_rfl) (by kernel_rfl) (by kernel_rfl) (by kernel_rfl) (by kernel_rfl)
theorem mk7 : Mks P03 (K03 p) mg 172 ["value"] :=
  mks_one (cfs7 p) base_VE rfl rfl rfl ⟨rfl, by decide +kernel, by decide +kernel, rfl, rfl, ⟨_, rfl, rfl⟩, by decide +kernel⟩ (fun L cd => ⟨rfl, _, rfl⟩) (by kernel_rfl)
    (fun a v h x kV doc pm an cdv ct => match h with | .pos _ => by kernel_rfl | .kw1 => by kernel_rfl)
theorem cfs8 : Cfs (K03 p) P03 193 190 178 189 "BadEntry.__init__" (defArgs (inClass (top 9) 0)) (defBody (inClass (top 9) 0)) (defScope (inClass (top 9) 0)) [.type "ValueError", .type "Exception", .type "BaseException", .type "object"] "ValueError" "ValueError.__new__" "ValueError.__init__" :=
  cfs_mkO (by kernel_rfl) (by kernel_rfl) (by kernel_rfl) (by kernel_rfl) (by kernel_rfl) (by kernel_rfl) (by kernel_rfl) (by kernel_rfl) (by kernel_rfl) (by kernel_rfl) (by kernel_rfl) (by kernel_rfl) (by kernel_rfl) (by kernel_rfl) (by kernel_rfl) (by kernel_rfl) (by kernel_rfl) (by kernel_rfl)
theorem mk8 : Mks P03 (K03 p) mg 193 ["place"] :=
  mks_one (cfs8 p) base_VE rfl rfl rfl ⟨rfl, by decide +kernel, by decide +kernel, rfl, rfl, ⟨_, rfl, rfl⟩, by decide +kernel⟩ (fun L cd => ⟨rfl, _, rfl⟩) (by kernel_rfl)
    (fun a v h x kV doc pm an cdv ct => match h with | .pos _ => by kernel_rfl | .kw1 => by kernel_rfl)
theorem cfs9 : Cfs (K03 p) P03 214 211 199 210 "BadName.__init__" (defArgs (inClass (top 10) 0)) (defBody (inClass (top 10) 0)) (defScope (inClass (top 10) 0)) [.type "ValueError", .type "Exception", .type "BaseException", .type "object"] "ValueError" "ValueError.__new__" "ValueError.__init__" :=
  cfs_mkO (by kernel_rfl) (by kernel_rfl) (by kernel_rfl) (by kernel_rfl) (by kernel_rfl) (by kernel_rfl) (by kernel_rfl) (by kernel_rfl) (by kernel_rfl) (by kernel_rfl) (by kernel_rfl) (by kernel_rfl) (by kernel_rfl) (by kernel_rfl) (by kernel_rfl) (by kernel_rfl) (by kernel_rfl) (by kernel_rfl)
theorem mk9 : Mks P03 (K03 p) mg 214 ["value"] :=
  mks_one (cfs9 p) base_VE rfl rfl rfl ⟨rfl, by decide +kernel, by decide +kernel, rfl, rfl, ⟨_, rfl, rfl⟩, by decide +kernel⟩ (fun L cd => ⟨rfl, _, rfl⟩) (by kernel_rfl)
    (fun a v h x kV doc pm an cdv ct => match h with | .pos _ => by kernel_rfl | .kw1 => by kernel_rfl)
theorem cfs10 : Cfs (K03 p) P03 235 232 220 231 "BadText.__init__" (defArgs (inClass (top 11) 0)) (defBody (inClass (top 11) 0)) (defScope (inClass (top 11) 0)) [.type "ValueError", .type "Exception", .type "BaseException", .type "object"] "ValueError" "ValueError.__new__" "ValueError.__init__" :=
  cfs_mkO (by kernel_rfl) (by kernel_rfl) (by kernel_rfl) (by kernel_rfl) (by kernel_rfl) (by kernel_rfl) (by kernel_rfl) (by kernel_rfl) (by kernel_rfl) (by kernel_rfl) (by kernel_rfl) (by kernel_rfl) (by kernel_rfl) (by kernel_rfl) (by kernel_rfl) (by kernel_rfl) (by kernel_rfl) (by kernel_rfl)
theorem cfs11 : Cfs (K03 p) P03 256 253 241 252 "OtherBase.__init__" (defArgs (inClass (top 12) 0)) (defBody (inClass (top 12) 0)) (defScope (inClass (top 12) 0)) [.type "ValueError", .type "Exception", .type "BaseException", .type "object"] "ValueError" "ValueError.__new__" "ValueError.__init__" :=
  cfs_mkO (by kernel_rfl) (by kernel_rfl) (by kernel_rfl) (by kernel_rfl) (by kernel_rfl) (by kernel_rfl) (by kernel_rfl) (by kernel_rfl) (by kernel_rfl) (by kernel_rfl) (by kernel_rfl) (by kernel_rfl) (by kernel_rfl) (by kernel_rfl) (by kernel_rfl) (by kernel_rfl) (by kernel_rfl) (by kernel_rfl)
theorem cfs12 : Cfs (K03 p) P03 277 274 262 273 "TooMany.__init__" (defArgs (inClass (top 13) 0)) (defBody (inClass (top 13) 0)) (defScope (inClass (top 13) 0)) [.type "OverflowError", .type "ArithmeticError", .type "Exception", .type "BaseException", .type "object"] "OverflowError" "OverflowError.__new__" "OverflowError.__init__" :=
  cfs_mkO (by kernel_rfl) (by kernel_rfl) (by kernel_rfl) (by kernel_rfl) (by kernel_rfl) (by kernel_rfl) (by kernel_rfl) (by kernel_rfl) (by kernel_rfl) (by kernel_rfl) (by kernel_rfl) (by kernel_rfl) (by kernel_rfl) (by kernel_rfl) (by kernel_rfl) (by kernel_rfl) (by kernel_rfl) (by kernel_rfl)
theorem mk12 : Mks P03 (K03 p) mg 277 ["most"] :=
  mks_one (cfs12 p) base_OE rfl rfl rfl ⟨rfl, by decide +kernel, by decide +kernel, rfl, rfl, ⟨_, rfl, rfl⟩, by decide +kernel⟩ (fun L cd => ⟨rfl, _, rfl⟩) (by kernel_rfl)
    (fun a v h x kV doc pm an cdv ct => match h with | .pos _ => by kernel_rfl | .kw1 => by kernel_rfl)
theorem cfs13 : Cfs (K03 p) P03 299 296 284 295 "Missing.__init__" (defArgs (inClass (top 14) 0)) (defBody (inClass (top 14) 0)) (defScope (inClass (top 14) 0)) [.type "KeyError", .type "LookupError", .type "Exception", .type "BaseException", .type "object"] "KeyError" "LookupError.__new__" "KeyError.__init__" :=
  cfs_mkO (by kernel_rfl) (by kernel_rfl) (by kernel_rfl) (by kernel_rfl) (by kernel_rfl) (by kernel_rfl) (by kernel_rfl) (by kernel_rfl) (by kernel_rfl) (by kernel_rfl) (by kernel_rfl) (by kernel_rfl) (by kernel_rfl) (by kernel_rfl) (by kernel_rfl) (by kernel_rfl) (by kernel_rfl) (by kernel_rfl)
theorem mk13 : Mks P03 (K03 p) mg 299 ["name"] :=
  mks_one (cfs13 p) base_KE rfl rfl rfl ⟨rfl, by decide +kernel, by decide +kernel, rfl, rfl, ⟨_, rfl, rfl⟩, by decide +kernel⟩ (fun L cd => ⟨rfl, _, rfl⟩) (by kernel_rfl)
    (fun a v h x kV doc pm an cdv ct => match h with | .pos _ => by kernel_rfl | .kw1 => by kernel_rfl)
theorem cfs14 : Cfs (K03 p) P03 321 318 306 317 "NothingLeft.__init__" (defArgs (inClass (top 15) 0)) (defBody (inClass (top 15) 0)) (defScope (inClass (top 15) 0)) [.type "RuntimeError", .type "Exception", .type "BaseException", .type "object"] "RuntimeError" "RuntimeError.__new__" "RuntimeError.__init__" :=
  cfs_mkO (by kernel_rfl) (by kernel_rfl) (by kernel_rfl) (by kernel_rfl) (by kernel_rfl) (by kernel_rfl) (by kernel_rfl) (by kernel_rfl) (by kernel_rfl) (by kernel_rfl) (by kernel_rfl) (by kernel_rfl) (by kernel_rfl) (by kernel_rfl) (by kernel_rfl) (by kernel_rfl) (by kernel_rfl) (by kernel_rfl)
theorem rwT03 : Told.RwT (K03 p) ca03 where
  xc := fun i h1 h14 => by
    have c : i = 1 ∨ i = 2 ∨ i = 3 ∨ i = 4 ∨ i = 5 ∨ i = 6 ∨ i = 7 ∨ i = 8 ∨ i = 9 ∨ i = 10 ∨ i = 11 ∨ i = 12 ∨ i = 13 ∨ i = 14 := by omega
    rcases c with rfl | rfl | rfl | rfl | rfl | rfl | rfl | rfl | rfl | rfl | rfl | rfl | rfl | rfl
    · exact xcB_ok (show xcB (K03 p) 46 = true by kernel_rfl)
    · exact xcB_ok (show xcB (K03 p) 67 = true by kernel_rfl)
    · exact xcB_ok (show xcB (K03 p) 88 = true by kernel_rfl)
    · exact xcB_ok (show xcB (K03 p) 109 = true by kernel_rfl)
    · exact xcB_ok (show xcB (K03 p) 130 = true by kernel_rfl)
    · exact xcB_ok (show xcB (K03 p) 151 = true by kernel_rfl)
    · exact xcB_ok (show xcB (K03 p) 172 = true by kernel_rfl)
    · exact xcB_ok (show xcB (K03 p) 193 = true by kernel_rfl)
    · exact xcB_ok (show xcB (K03 p) 214 = true by kernel_rfl)
    · exact xcB_ok (show xcB (K03 p) 235 = true by kernel_rfl)
    · exact xcB_ok (show xcB (K03 p) 256 = true by kernel_rfl)
    · exact xcB_ok (show xcB (K03 p) 277 = true by kernel_rfl)
    · exact xcB_ok (show xcB (K03 p) 299 = true by kernel_rfl)
    · exact xcB_ok (show xcB (K03 p) 321 = true by kernel_rfl)
  kit := fun n i n1 n14 i1 i14 => by
    have h : ((List.range 14).all fun n => (List.range 14).all fun i => decide (PySem.W.kitOne (K03 p) (.ref (ca03 (n + 1))) (.ref (ca03 (i + 1))) = some (decide (i + 1 = n + 1)))) = true := by kernel_rfl
    have h1 := List.all_eq_true.mp h (n - 1) (List.mem_range.mpr (by omega))
    have h2 := of_decide_eq_true (List.all_eq_true.mp h1 (i - 1) (List.mem_range.mpr (by omega)))
    rw [show n - 1 + 1 = n by omega, show i - 1 + 1 = i by omega] at h2
    exact h2
  exm := fun n n1 n14 => by
    have h : ((List.range 14).all fun n => decide (PySem.W.exmAny (K03 p) (.ref (ca03 (n + 1))) [.ref (ca03 0), .ref (ca03 12), .ref (ca03 13), .ref (ca03 14)] = some true)) = true := by kernel_rfl
    have h2 := of_decide_eq_true (List.all_eq_true.mp h (n - 1) (List.mem_range.mpr (by omega)))
    rw [show n - 1 + 1 = n by omega] at h2
    exact h2
  no := fun i i1 i14 z10 z11 z14 => by
    have c : i = 1 ∨ i = 2 ∨ i = 3 ∨ i = 4 ∨ i = 5 ∨ i = 6 ∨ i = 7 ∨ i = 8 ∨ i = 9 ∨ i = 10 ∨ i = 11 ∨ i = 12 ∨ i = 13 ∨ i = 14 := by omega
    rcases c with rfl | rfl | rfl | rfl | rfl | rfl | rfl | rfl | rfl | rfl | rfl | rfl | rfl | rfl
    · exact (show PySem.W.findIn (K03 p) (.ref 46) "value" = some none by kernel_rfl)
    · exact (show PySem.W.findIn (K03 p) (.ref 67) "value" = some none by kernel_rfl)
    · exact (show PySem.W.findIn (K03 p) (.ref 88) "value" = some none by kernel_rfl)
    · exact (show PySem.W.findIn (K03 p) (.ref 109) "value" = some none by kernel_rfl)
    · exact (show PySem.W.findIn (K03 p) (.ref 130) "place" = some none by kernel_rfl)
    · exact (show PySem.W.findIn (K03 p) (.ref 151) "value" = some none by kernel_rfl)
    · exact (show PySem.W.findIn (K03 p) (.ref 172) "value" = some none by kernel_rfl)
    · exact (show PySem.W.findIn (K03 p) (.ref 193) "place" = some none by kernel_rfl)
    · exact (show PySem.W.findIn (K03 p) (.ref 214) "value" = some none by kernel_rfl)
    · exact absurd rfl z10
    · exact absurd rfl z11
    · exact (show PySem.W.findIn (K03 p) (.ref 277) "most" = some none by kernel_rfl)
    · exact (show PySem.W.findIn (K03 p) (.ref 299) "name" = some none by kernel_rfl)
    · exact absurd rfl z14
  line := (show PySem.W.findIn (K03 p) (.ref 235) "line" = some none by kernel_rfl)
  word := (show PySem.W.findIn (K03 p) (.ref 235) "word" = some none by kernel_rfl)
theorem kp_is_integer : PySem.W.keepIn (K03 p) (.ref 331) = true := by kernel_rfl
theorem fn_is_integer : Fun (K03 p) "is_integer" "is_integer" (top 19) 331 (fdX (K03 p) "is_integer" (top 19) 331) :=
  fun_mk (st := top 19) (show (K03 p).lookup 331 = some ⟨(oO (K03 p) 331).cls, (oO (K03 p) 331).dict, .func (fdX (K03 p) "is_integer" (top 19) 331), (oO (K03 p) 331).slots⟩ by kernel_rfl) (show PySem.W.codeIn (K03 p) (fO (K03 p) 331).code "is_integer" = true by kernel_rfl) (kp_is_integer p)
theorem bd_is_integer : Binds (K03 p) (fdX (K03 p) "is_integer" (top 19) 331) ["value"] [] := (fn_is_integer p).binds (ps := ["value"]) fun _ _ _ _ _ _ us hl => match us, hl with | [_], _ => rfl
theorem kp_is_number : PySem.W.keepIn (K03 p) (.ref 338) = true := by kernel_rfl
theorem fn_is_number : Fun (K03 p) "is_number" "is_number" (top 20) 338 (fdX (K03 p) "is_number" (top 20) 338) :=
  fun_mk (st := top 20) (show (K03 p).lookup 338 = some ⟨(oO (K03 p) 338).cls, (oO (K03 p) 338).dict, .func (fdX (K03 p) "is_number" (top 20) 338), (oO (K03 p) 338).slots⟩ by kernel_rfl) (show PySem.W.codeIn (K03 p) (fO (K03 p) 338).code "is_number" = true by kernel_rfl) (kp_is_number p)
theorem bd_is_number : Binds (K03 p) (fdX (K03 p) "is_number" (top 20) 338) ["value"] [] := (fn_is_number p).binds (ps := ["value"]) fun _ _ _ _ _ _ us hl => match us, hl with | [_], _ => rfl
theorem kp_need_base : PySem.W.keepIn (K03 p) (.ref 345) = true := by kernel_rfl
theorem fn_need_base : Fun (K03 p) "need_base" "need_base" (top 21) 345 (fdX (K03 p) "need_base" (top 21) 345) :=
  fun_mk (st := top 21) (show (K03 p).lookup 345 = some ⟨(oO (K03 p) 345).cls, (oO (K03 p) 345).dict, .func (fdX (K03 p) "need_base" (top 21) 345), (oO (K03 p) 345).slots⟩ by kernel_rfl) (show PySem.W.codeIn (K03 p) (fO (K03 p) 345).code "need_base" = true by kernel_rfl) (kp_need_base p)
theorem bd_need_base : Binds (K03 p) (fdX (K03 p) "need_base" (top 21) 345) ["base"] [] := (fn_need_base p).binds (ps := ["base"]) fun _ _ _ _ _ _ us hl => match us, hl with | [_], _ => rfl
theorem kp_need_range : PySem.W.keepIn (K03 p) (.ref 352) = true := by kernel_rfl
theorem fn_need_range : Fun (K03 p) "need_range" "need_range" (top 22) 352 (fdX (K03 p) "need_range" (top 22) 352) :=
  fun_mk (st := top 22) (show (K03 p).lookup 352 = some ⟨(oO (K03 p) 352).cls, (oO (K03 p) 352).dict, .func (fdX (K03 p) "need_range" (top 22) 352), (oO (K03 p) 352).slots⟩ by kernel_rfl) (show PySem.W.codeIn (K03 p) (fO (K03 p) 352).code "need_range" = true by kernel_rfl) (kp_need_range p)
theorem bd_need_range : Binds (K03 p) (fdX (K03 p) "need_range" (top 22) 352) ["first", "second"] [] := (fn_need_range p).binds (ps := ["first", "second"]) fun _ _ _ _ _ _ us hl => match us, hl with | [_, _], _ => rfl
theorem kp_changed : PySem.W.keepIn (K03 p) (.ref 359) = true := by kernel_rfl
theorem fn_changed : Fun (K03 p) "changed" "changed" (top 23) 359 (fdX (K03 p) "changed" (top 23) 359) :=
  fun_mk (st := top 23) (show (K03 p).lookup 359 = some ⟨(oO (K03 p) 359).cls, (oO (K03 p) 359).dict, .func (fdX (K03 p) "changed" (top 23) 359), (oO (K03 p) 359).slots⟩ by kernel_rfl) (show PySem.W.codeIn (K03 p) (fO (K03 p) 359).code "changed" = true by kernel_rfl) (kp_changed p)
theorem bd_changed : Binds (K03 p) (fdX (K03 p) "changed" (top 23) 359) ["base", "first", "second"] [] := (fn_changed p).binds (ps := ["base", "first", "second"]) fun _ _ _ _ _ _ us hl => match us, hl with | [_, _, _], _ => rfl
theorem kp_near : PySem.W.keepIn (K03 p) (.ref 366) = true := by kernel_rfl
theorem fn_near : Fun (K03 p) "near" "near" (top 24) 366 (fdX (K03 p) "near" (top 24) 366) :=
  fun_mk (st := top 24) (show (K03 p).lookup 366 = some ⟨(oO (K03 p) 366).cls, (oO (K03 p) 366).dict, .func (fdX (K03 p) "near" (top 24) 366), (oO (K03 p) 366).slots⟩ by kernel_rfl) (show PySem.W.codeIn (K03 p) (fO (K03 p) 366).code "near" = true by kernel_rfl) (kp_near p)
theorem bd_near : Binds (K03 p) (fdX (K03 p) "near" (top 24) 366) ["base", "first", "second"] [] := (fn_near p).binds (ps := ["base", "first", "second"]) fun _ _ _ _ _ _ us hl => match us, hl with | [_, _, _], _ => rfl
theorem kp_l_mixed : PySem.W.keepIn (K03 p) (.ref 373) = true := by kernel_rfl
theorem fn_l_mixed : Fun (K03 p) "_law_mixed" "_law_mixed" (top 26) 373 (fdX (K03 p) "_law_mixed" (top 26) 373) :=
  fun_mk (st := top 26) (show (K03 p).lookup 373 = some ⟨(oO (K03 p) 373).cls, (oO (K03 p) 373).dict, .func (fdX (K03 p) "_law_mixed" (top 26) 373), (oO (K03 p) 373).slots⟩ by kernel_rfl) (show PySem.W.codeIn (K03 p) (fO (K03 p) 373).code "_law_mixed" = true by kernel_rfl) (kp_l_mixed p)
theorem bd_l_mixed : Binds (K03 p) (fdX (K03 p) "_law_mixed" (top 26) 373) ["cell", "k"] [] := (fn_l_mixed p).binds (ps := ["cell", "k"]) fun _ _ _ _ _ _ us hl => match us, hl with | [_, _], _ => rfl
theorem kp_l_begin : PySem.W.keepIn (K03 p) (.ref 378) = true := by kernel_rfl
theorem fn_l_begin : Fun (K03 p) "_law_begin" "_law_begin" (top 27) 378 (fdX (K03 p) "_law_begin" (top 27) 378) :=
  fun_mk (st := top 27) (show (K03 p).lookup 378 = some ⟨(oO (K03 p) 378).cls, (oO (K03 p) 378).dict, .func (fdX (K03 p) "_law_begin" (top 27) 378), (oO (K03 p) 378).slots⟩ by kernel_rfl) (show PySem.W.codeIn (K03 p) (fO (K03 p) 378).code "_law_begin" = true by kernel_rfl) (kp_l_begin p)
theorem bd_l_begin : Binds (K03 p) (fdX (K03 p) "_law_begin" (top 27) 378) ["script"] [] := (fn_l_begin p).binds (ps := ["script"]) fun _ _ _ _ _ _ us hl => match us, hl with | [_], _ => rfl
theorem kp_l_draw : PySem.W.keepIn (K03 p) (.ref 385) = true := by kernel_rfl
theorem fn_l_draw : Fun (K03 p) "_law_draw" "_law_draw" (top 28) 385 (fdX (K03 p) "_law_draw" (top 28) 385) :=
  fun_mk (st := top 28) (show (K03 p).lookup 385 = some ⟨(oO (K03 p) 385).cls, (oO (K03 p) 385).dict, .func (fdX (K03 p) "_law_draw" (top 28) 385), (oO (K03 p) 385).slots⟩ by kernel_rfl) (show PySem.W.codeIn (K03 p) (fO (K03 p) 385).code "_law_draw" = true by kernel_rfl) (kp_l_draw p)
theorem bd_l_draw : Binds (K03 p) (fdX (K03 p) "_law_draw" (top 28) 385) ["state", "many"] [] := (fn_l_draw p).binds (ps := ["state", "many"]) fun _ _ _ _ _ _ us hl => match us, hl with | [_, _], _ => rfl
theorem kp_l_of : PySem.W.keepIn (K03 p) (.ref 392) = true := by kernel_rfl
theorem fn_l_of : Fun (K03 p) "_law_of" "_law_of" (top 29) 392 (fdX (K03 p) "_law_of" (top 29) 392) :=
  fun_mk (st := top 29) (show (K03 p).lookup 392 = some ⟨(oO (K03 p) 392).cls, (oO (K03 p) 392).dict, .func (fdX (K03 p) "_law_of" (top 29) 392), (oO (K03 p) 392).slots⟩ by kernel_rfl) (show PySem.W.codeIn (K03 p) (fO (K03 p) 392).code "_law_of" = true by kernel_rfl) (kp_l_of p)
theorem bd_l_of : Binds (K03 p) (fdX (K03 p) "_law_of" (top 29) 392) ["state", "some"] [] := (fn_l_of p).binds (ps := ["state", "some"]) fun _ _ _ _ _ _ us hl => match us, hl with | [_, _], _ => rfl
theorem kp_l_raised : PySem.W.keepIn (K03 p) (.ref 399) = true := by kernel_rfl
theorem fn_l_raised : Fun (K03 p) "_law_raised" "_law_raised" (top 30) 399 (fdX (K03 p) "_law_raised" (top 30) 399) :=
  fun_mk (st := top 30) (show (K03 p).lookup 399 = some ⟨(oO (K03 p) 399).cls, (oO (K03 p) 399).dict, .func (fdX (K03 p) "_law_raised" (top 30) 399), (oO (K03 p) 399).slots⟩ by kernel_rfl) (show PySem.W.codeIn (K03 p) (fO (K03 p) 399).code "_law_raised" = true by kernel_rfl) (kp_l_raised p)
theorem bd_l_raised : Binds (K03 p) (fdX (K03 p) "_law_raised" (top 30) 399) ["asked"] [] := (fn_l_raised p).binds (ps := ["asked"]) fun _ _ _ _ _ _ us hl => match us, hl with | [_], _ => rfl
theorem kp_l_digits : PySem.W.keepIn (K03 p) (.ref 406) = true := by kernel_rfl
theorem fn_l_digits : Fun (K03 p) "_law_digits" "_law_digits" (top 31) 406 (fdX (K03 p) "_law_digits" (top 31) 406) :=
  fun_mk (st := top 31) (show (K03 p).lookup 406 = some ⟨(oO (K03 p) 406).cls, (oO (K03 p) 406).dict, .func (fdX (K03 p) "_law_digits" (top 31) 406), (oO (K03 p) 406).slots⟩ by kernel_rfl) (show PySem.W.codeIn (K03 p) (fO (K03 p) 406).code "_law_digits" = true by kernel_rfl) (kp_l_digits p)
theorem bd_l_digits : Binds (K03 p) (fdX (K03 p) "_law_digits" (top 31) 406) ["base", "number"] [] := (fn_l_digits p).binds (ps := ["base", "number"]) fun _ _ _ _ _ _ us hl => match us, hl with | [_, _], _ => rfl
theorem kp_l_power : PySem.W.keepIn (K03 p) (.ref 413) = true := by kernel_rfl
theorem fn_l_power : Fun (K03 p) "_law_power" "_law_power" (top 32) 413 (fdX (K03 p) "_law_power" (top 32) 413) :=
  fun_mk (st := top 32) (show (K03 p).lookup 413 = some ⟨(oO (K03 p) 413).cls, (oO (K03 p) 413).dict, .func (fdX (K03 p) "_law_power" (top 32) 413), (oO (K03 p) 413).slots⟩ by kernel_rfl) (show PySem.W.codeIn (K03 p) (fO (K03 p) 413).code "_law_power" = true by kernel_rfl) (kp_l_power p)
theorem bd_l_power : Binds (K03 p) (fdX (K03 p) "_law_power" (top 32) 413) ["base", "many"] [] := (fn_l_power p).binds (ps := ["base", "many"]) fun _ _ _ _ _ _ us hl => match us, hl with | [_, _], _ => rfl
theorem kp_l_changed : PySem.W.keepIn (K03 p) (.ref 420) = true := by kernel_rfl
theorem fn_l_changed : Fun (K03 p) "_law_changed" "_law_changed" (top 33) 420 (fdX (K03 p) "_law_changed" (top 33) 420) :=
  fun_mk (st := top 33) (show (K03 p).lookup 420 = some ⟨(oO (K03 p) 420).cls, (oO (K03 p) 420).dict, .func (fdX (K03 p) "_law_changed" (top 33) 420), (oO (K03 p) 420).slots⟩ by kernel_rfl) (show PySem.W.codeIn (K03 p) (fO (K03 p) 420).code "_law_changed" = true by kernel_rfl) (kp_l_changed p)
theorem bd_l_changed : Binds (K03 p) (fdX (K03 p) "_law_changed" (top 33) 420) ["base", "first", "second"] [] := (fn_l_changed p).binds (ps := ["base", "first", "second"]) fun _ _ _ _ _ _ us hl => match us, hl with | [_, _, _], _ => rfl
theorem kp_l_near : PySem.W.keepIn (K03 p) (.ref 427) = true := by kernel_rfl
theorem fn_l_near : Fun (K03 p) "_law_near" "_law_near" (top 34) 427 (fdX (K03 p) "_law_near" (top 34) 427) :=
  fun_mk (st := top 34) (show (K03 p).lookup 427 = some ⟨(oO (K03 p) 427).cls, (oO (K03 p) 427).dict, .func (fdX (K03 p) "_law_near" (top 34) 427), (oO (K03 p) 427).slots⟩ by kernel_rfl) (show PySem.W.codeIn (K03 p) (fO (K03 p) 427).code "_law_near" = true by kernel_rfl) (kp_l_near p)
theorem bd_l_near : Binds (K03 p) (fdX (K03 p) "_law_near" (top 34) 427) ["base", "first", "second"] [] := (fn_l_near p).binds (ps := ["base", "first", "second"]) fun _ _ _ _ _ _ us hl => match us, hl with | [_, _, _], _ => rfl
theorem kp_l_range : PySem.W.keepIn (K03 p) (.ref 434) = true := by kernel_rfl
theorem fn_l_range : Fun (K03 p) "_law_range" "_law_range" (top 35) 434 (fdX (K03 p) "_law_range" (top 35) 434) :=
  fun_mk (st := top 35) (show (K03 p).lookup 434 = some ⟨(oO (K03 p) 434).cls, (oO (K03 p) 434).dict, .func (fdX (K03 p) "_law_range" (top 35) 434), (oO (K03 p) 434).slots⟩ by kernel_rfl) (show PySem.W.codeIn (K03 p) (fO (K03 p) 434).code "_law_range" = true by kernel_rfl) (kp_l_range p)
theorem bd_l_range : Binds (K03 p) (fdX (K03 p) "_law_range" (top 35) 434) ["state", "base", "many"] [] := (fn_l_range p).binds (ps := ["state", "base", "many"]) fun _ _ _ _ _ _ us hl => match us, hl with | [_, _, _], _ => rfl
theorem kp_l_right : PySem.W.keepIn (K03 p) (.ref 441) = true := by kernel_rfl
theorem fn_l_right : Fun (K03 p) "_law_right" "_law_right" (top 36) 441 (fdX (K03 p) "_law_right" (top 36) 441) :=
  fun_mk (st := top 36) (show (K03 p).lookup 441 = some ⟨(oO (K03 p) 441).cls, (oO (K03 p) 441).dict, .func (fdX (K03 p) "_law_right" (top 36) 441), (oO (K03 p) 441).slots⟩ by kernel_rfl) (show PySem.W.codeIn (K03 p) (fO (K03 p) 441).code "_law_right" = true by kernel_rfl) (kp_l_right p)
theorem bd_l_right : Binds (K03 p) (fdX (K03 p) "_law_right" (top 36) 441) ["base", "first", "second"] [] := (fn_l_right p).binds (ps := ["base", "first", "second"]) fun _ _ _ _ _ _ us hl => match us, hl with | [_, _, _], _ => rfl
theorem kp_law : PySem.W.keepIn (K03 p) (.ref 446) = true := by kernel_rfl
theorem fn_law : Fun (K03 p) "law" "law" (top 37) 446 (fdX (K03 p) "law" (top 37) 446) :=
  fun_mk (st := top 37) (show (K03 p).lookup 446 = some ⟨(oO (K03 p) 446).cls, (oO (K03 p) 446).dict, .func (fdX (K03 p) "law" (top 37) 446), (oO (K03 p) 446).slots⟩ by kernel_rfl) (show PySem.W.codeIn (K03 p) (fO (K03 p) 446).code "law" = true by kernel_rfl) (kp_law p)
theorem bd_law : Binds (K03 p) (fdX (K03 p) "law" (top 37) 446) ["script"] [] := (fn_law p).binds (ps := ["script"]) fun _ _ _ _ _ _ us hl => match us, hl with | [_], _ => rfl
end
end KH3

/-! k03: all its defs but the law. -/
namespace KH3
open PySem L2 Evl ExM Dg
def tkO (v : Option (Option Value)) : Tok := match v with
  | some (some (.int _ t)) => t
  | some (some (.str _ t)) => t
  | _ => default
section
variable {w : World} {mg : Str → Option Value} {h base : Heap} (X : (K03 w.params).In h) (G : h.Ns mainGlobals mg)
include X G
theorem txF : TxF (K03 w.params) mg 331 338 345 352 where
  isi := PySem.W.mg_none_of X G (show PySem.W.nsIn (K03 w.params) mainGlobals "isinstance" = some none by kernel_rfl)
  int := PySem.W.mg_none_of X G (show PySem.W.nsIn (K03 w.params) mainGlobals "int" = some none by kernel_rfl)
  bool := PySem.W.mg_none_of X G (show PySem.W.nsIn (K03 w.params) mainGlobals "bool" = some none by kernel_rfl)
  str := PySem.W.mg_none_of X G (show PySem.W.nsIn (K03 w.params) mainGlobals "str" = some none by kernel_rfl)
  len := PySem.W.mg_none_of X G (show PySem.W.nsIn (K03 w.params) mainGlobals "len" = some none by kernel_rfl)
  sup := PySem.W.mg_none_of X G (show PySem.W.nsIn (K03 w.params) mainGlobals "super" = some none by kernel_rfl)
  least := (by
    obtain ⟨t, e⟩ : ∃ t, PySem.W.nsIn (K03 w.params) mainGlobals "LEAST_BASE" = some (some (.int 2 t)) := ⟨tkO (PySem.W.nsIn (K03 w.params) mainGlobals "LEAST_BASE"), by kernel_rfl⟩
    exact ⟨t, PySem.W.mg_of X G e⟩)
  most := (by
    obtain ⟨t, e⟩ : ∃ t, PySem.W.nsIn (K03 w.params) mainGlobals "MOST_BASE" = some (some (.int 10 t)) := ⟨tkO (PySem.W.nsIn (K03 w.params) mainGlobals "MOST_BASE"), by kernel_rfl⟩
    exact ⟨t, PySem.W.mg_of X G e⟩)
  isInt := PySem.W.mg_of X G (show PySem.W.nsIn (K03 w.params) mainGlobals "is_integer" = some (some (.ref 331)) by kernel_rfl)
  kInt := kp_is_integer _
  isNum := PySem.W.mg_of X G (show PySem.W.nsIn (K03 w.params) mainGlobals "is_number" = some (some (.ref 338)) by kernel_rfl)
  kNum := kp_is_number _
  needB := PySem.W.mg_of X G (show PySem.W.nsIn (K03 w.params) mainGlobals "need_base" = some (some (.ref 345)) by kernel_rfl)
  kNB := kp_need_base _
  needR := PySem.W.mg_of X G (show PySem.W.nsIn (K03 w.params) mainGlobals "need_range" = some (some (.ref 352)) by kernel_rfl)
  kNR := kp_need_range _
theorem txO : Dr.TxO (K03 w.params) mg 373 385 where
  int := PySem.W.mg_none_of X G (show PySem.W.nsIn (K03 w.params) mainGlobals "int" = some none by kernel_rfl)
  len := PySem.W.mg_none_of X G (show PySem.W.nsIn (K03 w.params) mainGlobals "len" = some none by kernel_rfl)
  list := PySem.W.mg_none_of X G (show PySem.W.nsIn (K03 w.params) mainGlobals "list" = some none by kernel_rfl)
  mixed := PySem.W.mg_of X G (show PySem.W.nsIn (K03 w.params) mainGlobals "_law_mixed" = some (some (.ref 373)) by kernel_rfl)
  kMixed := kp_l_mixed _
  draw := PySem.W.mg_of X G (show PySem.W.nsIn (K03 w.params) mainGlobals "_law_draw" = some (some (.ref 385)) by kernel_rfl)
  kDraw := kp_l_draw _
theorem txT : Told.TxT mg ca03 where
  own := fun i hi => by
    have c : i = 0 ∨ i = 1 ∨ i = 2 ∨ i = 3 ∨ i = 4 ∨ i = 5 ∨ i = 6 ∨ i = 7 ∨ i = 8 ∨ i = 9 ∨ i = 10 ∨ i = 11 ∨ i = 12 ∨ i = 13 ∨ i = 14 := by omega
    rcases c with rfl | rfl | rfl | rfl | rfl | rfl | rfl | rfl | rfl | rfl | rfl | rfl | rfl | rfl | rfl
    · exact PySem.W.mg_of X G (show PySem.W.nsIn (K03 w.params) mainGlobals "SpanError" = some (some (.ref 24)) by kernel_rfl)
    · exact PySem.W.mg_of X G (show PySem.W.nsIn (K03 w.params) mainGlobals "BadBase" = some (some (.ref 46)) by kernel_rfl)
    · exact PySem.W.mg_of X G (show PySem.W.nsIn (K03 w.params) mainGlobals "BadNumber" = some (some (.ref 67)) by kernel_rfl)
    · exact PySem.W.mg_of X G (show PySem.W.nsIn (K03 w.params) mainGlobals "BadDigits" = some (some (.ref 88)) by kernel_rfl)
    · exact PySem.W.mg_of X G (show PySem.W.nsIn (K03 w.params) mainGlobals "BadRange" = some (some (.ref 109)) by kernel_rfl)
    · exact PySem.W.mg_of X G (show PySem.W.nsIn (K03 w.params) mainGlobals "BadRule" = some (some (.ref 130)) by kernel_rfl)
    · exact PySem.W.mg_of X G (show PySem.W.nsIn (K03 w.params) mainGlobals "BadReader" = some (some (.ref 151)) by kernel_rfl)
    · exact PySem.W.mg_of X G (show PySem.W.nsIn (K03 w.params) mainGlobals "BadManner" = some (some (.ref 172)) by kernel_rfl)
    · exact PySem.W.mg_of X G (show PySem.W.nsIn (K03 w.params) mainGlobals "BadEntry" = some (some (.ref 193)) by kernel_rfl)
    · exact PySem.W.mg_of X G (show PySem.W.nsIn (K03 w.params) mainGlobals "BadName" = some (some (.ref 214)) by kernel_rfl)
    · exact PySem.W.mg_of X G (show PySem.W.nsIn (K03 w.params) mainGlobals "BadText" = some (some (.ref 235)) by kernel_rfl)
    · exact PySem.W.mg_of X G (show PySem.W.nsIn (K03 w.params) mainGlobals "OtherBase" = some (some (.ref 256)) by kernel_rfl)
    · exact PySem.W.mg_of X G (show PySem.W.nsIn (K03 w.params) mainGlobals "TooMany" = some (some (.ref 277)) by kernel_rfl)
    · exact PySem.W.mg_of X G (show PySem.W.nsIn (K03 w.params) mainGlobals "Missing" = some (some (.ref 299)) by kernel_rfl)
    · exact PySem.W.mg_of X G (show PySem.W.nsIn (K03 w.params) mainGlobals "NothingLeft" = some (some (.ref 321)) by kernel_rfl)
  isi := PySem.W.mg_none_of X G (show PySem.W.nsIn (K03 w.params) mainGlobals "isinstance" = some none by kernel_rfl)
  len := PySem.W.mg_none_of X G (show PySem.W.nsIn (K03 w.params) mainGlobals "len" = some none by kernel_rfl)
theorem txJ : TxJ (K03 w.params) mg 406 413 359 366 420 427 where
  len := PySem.W.mg_none_of X G (show PySem.W.nsIn (K03 w.params) mainGlobals "len" = some none by kernel_rfl)
  ldig := PySem.W.mg_of X G (show PySem.W.nsIn (K03 w.params) mainGlobals "_law_digits" = some (some (.ref 406)) by kernel_rfl)
  kLd := kp_l_digits _
  lpow := PySem.W.mg_of X G (show PySem.W.nsIn (K03 w.params) mainGlobals "_law_power" = some (some (.ref 413)) by kernel_rfl)
  kLp := kp_l_power _
  chg := PySem.W.mg_of X G (show PySem.W.nsIn (K03 w.params) mainGlobals "changed" = some (some (.ref 359)) by kernel_rfl)
  kChg := kp_changed _
  near := PySem.W.mg_of X G (show PySem.W.nsIn (K03 w.params) mainGlobals "near" = some (some (.ref 366)) by kernel_rfl)
  kNear := kp_near _
  lchg := PySem.W.mg_of X G (show PySem.W.nsIn (K03 w.params) mainGlobals "_law_changed" = some (some (.ref 420)) by kernel_rfl)
  kLchg := kp_l_changed _
  lnear := PySem.W.mg_of X G (show PySem.W.nsIn (K03 w.params) mainGlobals "_law_near" = some (some (.ref 427)) by kernel_rfl)
  kLnear := kp_l_near _
theorem f_isInt : FnOk P03 w (K03 w.params) mg base CX0 1 331 (fdX (K03 w.params) "is_integer" (top 19) 331) ["value"] (spIsInt (K03 w.params)) := ok_isInt (fn_is_integer _) (txF X G).toTxG
theorem f_isNum : FnOk P03 w (K03 w.params) mg base CX0 2 338 (fdX (K03 w.params) "is_number" (top 20) 338) ["value"] (spIsNum (K03 w.params)) := ok_isNum (fn_is_number _) (f_isInt X G) (bd_is_integer _) (txF X G).toTxI
theorem f_needB : FnOk P03 w (K03 w.params) mg base (L2.CX P03 w) 2 345 (fdX (K03 w.params) "need_base" (top 21) 345) ["base"] (spNeed (Bs (K03 w.params)) (ca03 1)) := ok_needB (ca := ca03) (fn_need_base _) (f_isInt X G) (bd_is_integer _) (txF X G).toTxI (mk1 _) (PySem.W.mg_of X G (show PySem.W.nsIn (K03 w.params) mainGlobals "BadBase" = some (some (.ref 46)) by kernel_rfl))
theorem f_needR : FnOk P03 w (K03 w.params) mg base (L2.CX P03 w) 3 352 (fdX (K03 w.params) "need_range" (top 22) 352) ["first", "second"] (spNeedR (K03 w.params) ca03) := ok_needR (ca := ca03) (fn_need_range _) (f_isNum X G) (bd_is_number _) (txF X G) (mk4 _) (PySem.W.mg_of X G (show PySem.W.nsIn (K03 w.params) mainGlobals "BadRange" = some (some (.ref 109)) by kernel_rfl))
theorem f_changed : FnOk P03 w (K03 w.params) mg base (L2.CX P03 w) 4 359 (fdX (K03 w.params) "changed" (top 23) 359) ["base", "first", "second"] (spRng (K03 w.params) ca03 ChgIs) := ok_changed (fn_changed _) ((f_needB X G).mono (by decide)) (bd_need_base _) (f_needR X G) (bd_need_range _) (txF X G)
theorem f_near : FnOk P03 w (K03 w.params) mg base (L2.CX P03 w) 4 366 (fdX (K03 w.params) "near" (top 24) 366) ["base", "first", "second"] (spRng (K03 w.params) ca03 fun β f s m => NearIs β (s - f) m) := ok_near (fn_near _) ((f_needB X G).mono (by decide)) (bd_need_base _) (f_needR X G) (bd_need_range _) (txF X G)
theorem f_mixed : FnOk P03 w (K03 w.params) mg base CX0 1 373 (fdX (K03 w.params) "_law_mixed" (top 26) 373) ["cell", "k"] Dr.spMixed := Dr.ok_mixed (fn_l_mixed _) (txO X G).toTxB
theorem f_begin : FnOk P03 w (K03 w.params) mg base CX0 1 378 (fdX (K03 w.params) "_law_begin" (top 27) 378) ["script"] (Dr.spBegin (K03 w.params)) := Dr.ok_begin (fn_l_begin _) (txO X G).toTxB
theorem f_draw : FnOk P03 w (K03 w.params) mg base CX0 2 385 (fdX (K03 w.params) "_law_draw" (top 28) 385) ["state", "many"] Dr.spDraw := Dr.ok_draw (fn_l_draw _) (fn_l_mixed _) (bd_l_mixed _) (txO X G).toTxD
theorem f_of : FnOk P03 w (K03 w.params) mg base CX0 3 392 (fdX (K03 w.params) "_law_of" (top 29) 392) ["state", "some"] Dr.spOf := Dr.ok_of (fdm := fdX (K03 w.params) "_law_mixed" (top 26) 373) (fn_l_of _) (f_draw X G) (bd_l_draw _) (txO X G)
theorem f_ldigits : FnOk P03 w (K03 w.params) mg base CX0 1 406 (fdX (K03 w.params) "_law_digits" (top 31) 406) ["base", "number"] spLDigits := ok_ldigits (fn_l_digits _) (txF X G).int
theorem f_lpower : FnOk P03 w (K03 w.params) mg base CX0 1 413 (fdX (K03 w.params) "_law_power" (top 32) 413) ["base", "many"] spLPower := ok_lpower (fn_l_power _) (PySem.W.mg_none_of X G (show PySem.W.nsIn (K03 w.params) mainGlobals "range" = some none by kernel_rfl))
theorem f_lchg : FnOk P03 w (K03 w.params) mg base CX0 2 420 (fdX (K03 w.params) "_law_changed" (top 33) 420) ["base", "first", "second"] spLChg := ok_lchg (fn_l_changed _) (f_ldigits X G) (bd_l_digits _) (txJ X G).toTxH
theorem f_lnear : FnOk P03 w (K03 w.params) mg base CX0 2 427 (fdX (K03 w.params) "_law_near" (top 34) 427) ["base", "first", "second"] spLNear := ok_lnear (fn_l_near _) (f_lpower X G) (bd_l_power _) (txJ X G).toTxH
theorem f_lrange : FnOk P03 w (K03 w.params) mg base CX0 3 434 (fdX (K03 w.params) "_law_range" (top 35) 434) ["state", "base", "many"] spLRange := ok_lrange (fn_l_range _) (f_draw X G) (bd_l_draw _) (txO X G) ((f_lpower X G).mono (by decide)) (bd_l_power _) (txJ X G).toTxH (PySem.W.mg_none_of X G (show PySem.W.nsIn (K03 w.params) mainGlobals "range" = some none by kernel_rfl)) (PySem.W.mg_none_of X G (show PySem.W.nsIn (K03 w.params) mainGlobals "max" = some none by kernel_rfl))
theorem f_lright : FnG P03 w (K03 w.params) mg base CX0 6 441 (fdX (K03 w.params) "_law_right" (top 36) 441) ["base", "first", "second"] spLRight := ok_lright (ca := ca03) (fn_l_right _) (txJ X G) (PySem.W.mg_none_of X G (show PySem.W.nsIn (K03 w.params) mainGlobals "repr" = some none by kernel_rfl)) (f_ldigits X G) (bd_l_digits _) (f_lpower X G) (bd_l_power _) (f_changed X G) (bd_changed _) (f_near X G) (bd_near _) (f_lchg X G) (bd_l_changed _) (f_lnear X G) (bd_l_near _)
end
end KH3

/-! k03: the law's context, the things that it passes, what a refused call is read as. -/
namespace KH3
open PySem L2 Evl ExM Dg LamR LamX Told
open Dr (StAt)
abbrev sLaw : Stmt := top 37
abbrev nLaw : List Str := ["script", "state", "turn", "base", "many", "first", "second", "bad", "odd", "one", "other", "told", "rows", "a", "b", "c", "d"]
theorem scLaw : FnScope nLaw ["script"] (defScope sLaw) := ⟨rfl, rfl, rfl, by decide +kernel, rfl, by decide +kernel, by decide +kernel⟩
def inLaw (i : Nat) : Stmt := (defBody sLaw).getD i (.Pass ⟨0, 0, 0, 0⟩)
/-- a statement of the law's loop, by its place -/
def inLoop (i : Nat) : Stmt := match inLaw 1 with
  | .For _ _ b _ _ => b.getD i (.Pass ⟨0, 0, 0, 0⟩)
  | s => s
noncomputable abbrev XL (w : World) (mg : Str → Option Value) (base : Heap) (c : Addr) (A : Around) (outer : List Env) (s : Shared) (H : Hp) (E : XK) : Cx := (cxOf CX0 P03 w (K03 w.params) mg base nLaw "law" (defScope sLaw) 446 (.ref c) A outer s H E).nox
/-- a thing that the law passes -/
inductive Pv (H : Hp) : V → PyData → Prop
  | non : Pv H .non .none
  | bl (b : Bool) : Pv H (.bl b) (.bool b)
  | int (i : Int) : Pv H (.int i) (.int i)
  | str (x : Str) : Pv H (.str x) (.str x)
  | tup {a : Addr} {is : List Int} : H a = some (.tup (is.map V.int)) → Pv H (.ref a) (.tuple (is.map PyData.int))
  | lst {a : Addr} {is : List Int} : H a = some (.lst (is.map V.int)) → Pv H (.ref a) (.list (is.map PyData.int))
  | pair {a : Addr} {v u : V} {d e : PyData} : H a = some (.tup [v, u]) → Pv H v d → Pv H u e → Pv H (.ref a) (.tuple [d, e])
theorem Pv.extN {H H' : Hp} {v : V} {d : PyData} (h : Pv H v d) (e : ExtN H H') : Pv H' v d := by
  induction h with
  | non => exact .non
  | bl b => exact .bl b
  | int i => exact .int i
  | str x => exact .str x
  | tup h => exact .tup (e _ _ h (by simp))
  | lst h => exact .lst (e _ _ h (by simp))
  | pair h _ _ i1 i2 => exact .pair (e _ _ h (by simp)) i1 i2
theorem Pv.ex {H H' : Hp} {v : V} {d : PyData} (h : Pv H v d) (e : Ex H H') : Pv H' v d := h.extN (ExtN.of e)
section
variable {K : PySem.W.Frag} {H : Hp} {v : V} {d : PyData}
theorem dpAll_ints : ∀ is : List Int, DpAll K H (is.map V.int) (is.map PyData.int)
  | [] => .nil
  | i :: is => .cons (.int i) (dpAll_ints is)
theorem Pv.dp (h : Pv H v d) : Dp K H v d := by
  induction h with
  | non => exact .non
  | bl b => exact .bl b
  | int i => exact .int i
  | str x => exact .str x
  | tup h => exact .tup (st_of h) (dpAll_ints _)
  | lst h => exact .lst (sq_of h) (dpAll_ints _)
  | pair h _ _ i1 i2 => exact .tup (st_of h) (.cons i1 (.cons i2 .nil))
theorem Pv.dj (h : Pv H v d) : Dj K H v d := .di (.dp h.dp)
/-- no int -/
def isI : PyData → Bool
  | .int _ => true
  | _ => false
theorem Pv.kn (h : Pv H v d) (n : isI d = false) : Kn K H v false := by
  cases h with
  | non => exact .oth (x := false) (y := false) (.base .non) (by decide) (by decide) rfl
  | bl b => exact .oth (x := true) (y := true) (.base (.bl b)) (by decide) (by decide) rfl
  | int i => cases n
  | str x => exact .oth (x := false) (y := false) (.base (.str x)) (by decide) (by decide) rfl
  | tup h => exact .oth (x := false) (y := false) (.base (.tup h)) (by decide) (by decide) rfl
  | lst h => exact .oth (x := false) (y := false) (.base (.lst h)) (by decide) (by decide) rfl
  | pair h _ _ => exact .oth (x := false) (y := false) (.base (.tup h)) (by decide) (by decide) rfl
/-- no base -/
def noB : PyData → Bool
  | .int i => !(decide (2 ≤ i) && decide (i ≤ 10))
  | _ => true
/-- no number -/
def noN : PyData → Bool
  | .int i => !decide (1 ≤ i)
  | _ => true
theorem Pv.bs (h : Pv H v d) (n : noB d = true) : Bs K H v false := by
  cases hd : isI d with
  | false => exact .oth (h.kn hd)
  | true =>
    cases h with
    | int i =>
      have e : (decide (2 ≤ i) && decide (i ≤ 10)) = false := by
        cases z : (decide (2 ≤ i) && decide (i ≤ 10)) with
        | false => rfl
        | true =>
          rw [noB, z] at n
          cases n
      rw [← e]
      exact .int i
    | _ => cases hd
theorem Pv.nm (h : Pv H v d) : Nm K H v (!noN d) := by
  cases hd : isI d with
  | false =>
    have e : (!noN d) = false := by
      cases d <;> first | rfl | cases hd
    rw [e]
    exact .oth (h.kn hd)
  | true =>
    cases h with
    | int i =>
      have e : (!noN (.int i)) = decide (1 ≤ i) := by simp [noN]
      rw [e]
      exact .int i
    | _ => cases hd
end
/-- small data: shown in two thousand signs at most -/
structure Sq (d : PyData) : Prop where
  a : d.showable = true
  b : d.shown.length ≤ 3950
  c : d.depth ≤ 2
theorem sq_plain {d : PyData} (h : plainD d) (hc : cap d ≤ 3950) (c : d.depth ≤ 2) : Sq d := ⟨(shown_cap d h).1, Nat.le_trans (shown_cap d h).2 hc, c⟩
theorem Sq.pair {x : Str} {d : PyData} (hx : (PyData.str x).shown.length ≤ 30) (s : Sq d) : Sm (.tuple [.str x, d]) := by
  refine ⟨?_, ?_, ?_⟩
  · simp [PyData.showable, PyData.showableAll, s.a]
  · have h := join_cap [(PyData.str x).shown, d.shown]
    have e1 : (("(" : Str)).length = 1 := by decide
    have e2 : ((")" : Str)).length = 1 := by decide
    have hs := s.b
    have e3 : (PyData.tuple [.str x, d]).shown = ("(" : Str) ++ Str.join ", " [(PyData.str x).shown, d.shown] ++ (")" : Str) := by
      simp only [PyData.shown, PyData.shownAll, PySem.tupleText]
      rfl
    rw [e3, strLen_append, strLen_append]
    simp only [List.map_cons, List.map_nil, List.sum_cons, List.sum_nil] at h
    omega
  · have := s.c
    simp only [PyData.depth, PyData.depthAll]
    omega
/-- the drawer stands, and so do the tables -/
structure Lw (T : List (Addr × Str)) (p c l : Addr) (n : Nat) (a : Int) (H : Hp) : Prop where
  s : StAt H p c l n a
  t : Tabs T H
section
variable {T : List (Addr × Str)} {p c l : Addr} {n : Nat} {a b : Int} {H H' : Hp}
theorem stAt_extN (S : StAt H p c l n a) (e : ExtN H H') : StAt H' p c l n a :=
  ⟨e _ _ S.d (by simp), let ⟨cs, h, k⟩ := S.c; ⟨cs, e _ _ h (by simp), k⟩, let ⟨ls, h, k⟩ := S.l; ⟨ls, e _ _ h (by simp), k⟩, S.n0, S.n1, S.a0⟩
theorem Lw.ex (L : Lw T p c l n a H) (e : Ex H H') : Lw T p c l n a H' := ⟨L.s.ex e, L.t.ext e⟩
theorem Lw.extN (W : Lw T p c l n a H) (e : ExtN H H') (t : Tabs T H') : Lw T p c l n a H' := ⟨stAt_extN W.s e, t⟩
theorem tabs_same (S : StAt H p c l n a) (t : Tabs T H) (e : Dr.SameB H H' p l) : Tabs T H' := fun q hq => by
  obtain ⟨ls, hl, _⟩ := S.l
  obtain ⟨ps, h1, h2, h3⟩ := t q hq
  refine ⟨ps, e _ _ h1 (ne_of h1 S.d (by intro z; cases z)) (ne_of h1 hl (by intro z; cases z)), h2, fun pos cv hc => ?_⟩
  obtain ⟨co, e1, e2⟩ := h3 pos cv hc
  exact ⟨co, e1, e _ _ e2 (ne_of e2 S.d (by intro z; cases z)) (ne_of e2 hl (by intro z; cases z))⟩
theorem Lw.same (L : Lw T p c l n a H) (S : StAt H' p c l n b) (e : Dr.SameB H H' p l) : Lw T p c l n b H' := ⟨S, tabs_same L.s L.t e⟩
theorem Lw.off (L : Lw T p c l n a H) {x : Addr} (h : H x = none) : x ≠ p ∧ x ≠ l := by
  obtain ⟨ls, hl, _⟩ := L.s.l
  exact ⟨(ne_of_none L.s.d h).symm, (ne_of_none hl h).symm⟩
end
/-- what stands when one empty list goes on to be filled -/
def KeepsA (A : List V → Hp → Prop) : Prop := ∀ vs H H2 fl, A vs H → H fl = some (.lst []) → (∀ b o, H b = some o → b ≠ fl → H2 b = some o) → A vs H2
section
variable {K : PySem.W.Frag} {ca : Nat → Addr} {T : List (Addr × Str)} {t : XK → TE} {σ : St} {H : Hp} {Q : VK} {n : Nat} {A : List V → Hp → Prop}
/-- the lambda raises: the word and what the exception holds stand in a new tuple -/
theorem rd_raisedA (hT : Tabs T H) (kA : KeepsA A) (call : ∀ H1, ExtN H H1 → ∀ HZ, Ex H1 HZ → ∀ (E : XK) (Q' : VK), (∀ cls d H2 vs, Ex HZ H2 → Says ca H2 cls d n vs → A vs H2 → E cls d H2) → t E σ HZ Q')
    (k : ∀ vs rt H2, ExtN H H2 → Tabs T H2 → A vs H2 → H2 rt = some (.tup (.str (wdN n) :: vs)) → Q (.ref rt) H2) : tLam T (TTold ca) t σ H Q :=
  ⟨hT, fun H1 e1 T1 fl hfl => call H1 e1 _ (Ex.new hfl) _ _ fun cls d H2 vs e2 S a => ⟨e2, n, vs, S, fun rt H3 _ kp h3 => by
    have all : ∀ b o, H1 b = some o → H3 b = some o := fun b o e => kp b o (e2 b o ((Ex.new hfl) b o e)) (ne_of_none e hfl)
    exact k vs rt H3 (fun b o e nt => all b o (e1 b o e nt)) (T1.ext all) (kA vs H2 H3 fl a (e2 _ _ upd_same) kp) h3⟩⟩
theorem says_one {H : Hp} {d : Addr} {i : Nat} {v : V} (i1 : 1 ≤ i) (i14 : i ≤ 14) (z10 : i ≠ 10) (z11 : i ≠ 11) (z14 : i ≠ 14) (h : H d = some (.xd [(fdN i, v)])) : Says ca H (.ref (ca i)) (some d) i [v] :=
  ⟨rfl, i1, i14, .inr (.inr ⟨z10, z11, z14, d, v, rfl, h, rfl⟩)⟩
/-- the value itself -/
def Is1 (v : V) : List V → Hp → Prop := fun vs _ => vs = [v]
theorem is1_keeps (v : V) : KeepsA (Is1 v) := fun _ _ _ _ h _ _ => h
theorem leaves_of {HZ : Hp} {E : XK} {i : Nat} {v : V} (i1 : 1 ≤ i) (i14 : i ≤ 14) (z10 : i ≠ 10) (z11 : i ≠ 11) (z14 : i ≠ 14) (hf : fdN i = "value") (hE : ∀ cls d H2 vs, Ex HZ H2 → Says ca H2 cls d i vs → Is1 v vs H2 → E cls d H2) : Leaves (ca i) "value" v HZ E := fun H2 d e hd =>
  hE _ _ _ [v] (e.trans (Ex.new hd)) (says_one i1 i14 z10 z11 z14 (by rw [hf]; exact upd_same)) rfl
/-- a pair of that data -/
def IsP (D : PyData) : List V → Hp → Prop := fun vs H => ∃ t v u d e, D = .tuple [d, e] ∧ vs = [.ref t] ∧ H t = some (.tup [v, u]) ∧ Pv H v d ∧ Pv H u e
theorem Pv.fill {H H2 : Hp} {fl : Addr} {v : V} {d : PyData} (h : Pv H v d) (hd : d ≠ .list []) (hd2 : ∀ x y, d ≠ .tuple [x, y]) (hf : H fl = some (.lst [])) (kp : ∀ b o, H b = some o → b ≠ fl → H2 b = some o) : Pv H2 v d := by
  cases h with
  | non => exact .non
  | bl b => exact .bl b
  | int i => exact .int i
  | str x => exact .str x
  | tup h => exact .tup (kp _ _ h (fun z => by rw [z, hf] at h; cases h))
  | @lst a is h =>
    refine .lst (kp _ _ h (fun z => hd ?_))
    rw [z, hf] at h
    have : is.map V.int = [] := by
      injection h with h
      injection h with h
      exact h.symm
    rw [List.map_eq_nil_iff.mp this]
    rfl
  | pair h _ _ => exact absurd rfl (hd2 _ _)
theorem isP_keeps {d e : PyData} (h1 : d ≠ .list []) (h2 : ∀ x y, d ≠ .tuple [x, y]) (h3 : e ≠ .list []) (h4 : ∀ x y, e ≠ .tuple [x, y]) : KeepsA (IsP (.tuple [d, e])) := fun vs H H2 fl ⟨t, v, u, d', e', hD, hv, ht, pv, pu⟩ hf kp => by
  injection hD with hD
  injection hD with hD1 hD
  injection hD with hD2 _
  subst hD1 hD2
  exact ⟨t, v, u, _, _, rfl, hv, kp _ _ ht (fun z => by rw [z, hf] at ht; cases ht), pv.fill h1 h2 hf kp, pu.fill h3 h4 hf kp⟩
theorem leavesP_of {HZ : Hp} {E : XK} {v u : V} {d e : PyData} (pv : Pv HZ v d) (pu : Pv HZ u e) (hE : ∀ cls d' H2 vs, Ex HZ H2 → Says ca H2 cls d' 4 vs → IsP (.tuple [d, e]) vs H2 → E cls d' H2) : LeavesP (ca 4) v u HZ E := fun H2 t x ex ht hx =>
  hE _ _ _ [.ref t] (ex.trans (Ex.new hx)) (says_one (by decide) (by decide) (by decide) (by decide) (by decide) upd_same) ⟨t, v, u, d, e, rfl, rfl, (Ex.new hx) _ _ ht, pv.ex (ex.trans (Ex.new hx)), pu.ex (ex.trans (Ex.new hx))⟩
theorem IsP.pv {D : PyData} {vs : List V} {H : Hp} (h : IsP D vs H) : ∃ v, vs = [v] ∧ Pv H v D := by
  obtain ⟨t, v, u, d, e, rfl, rfl, ht, pv, pu⟩ := h
  exact ⟨_, rfl, .pair ht pv pu⟩
end
end KH3

namespace KH3
open PySem L2 Evl ExM Dg LamR LamX Told TL
open Dr (StAt SameB)
structure TxL (mg : Str → Option Value) : Prop where
  of : mg "_law_of" = some (.ref 392)
  lrange : mg "_law_range" = some (.ref 434)
  lright : mg "_law_right" = some (.ref 441)
  begin : mg "_law_begin" = some (.ref 378)
  raised : mg "_law_raised" = some (.ref 399)
  repr : mg "repr" = none
  range : mg "range" = none
  min : mg "min" = none
theorem lk03 (p : Params) : (K03 p).lookup 399 = some ⟨(oO (K03 p) 399).cls, (oO (K03 p) 399).dict, .func (fdX (K03 p) "_law_raised" (top 30) 399), (oO (K03 p) 399).slots⟩ := by kernel_rfl
theorem hcd03 (p : Params) : PySem.W.codeIn (K03 p) (fO (K03 p) 399).code "_law_raised" = true := by kernel_rfl
structure Rm (w : World) (mg : Str → Option Value) (base : Heap) (c : Addr) (A : Around) (outer : List Env) (s : Shared) (H : Hp) (E : XK) (P : Addr) (T : List (Addr × Str)) : Prop where
  hr : RoomG 8 (XL w mg base c A outer s H E).A
  hu64 : (XL w mg base c A outer s H E).A.units + 64 < cLine
  TB : TabB base mg c P
  hT : (P, ("law.<locals>.<lambda>" : Str)) ∈ T
  hu : ∀ p ∈ T, p.1 = P → p.2 = ("law.<locals>.<lambda>" : Str)
/-- a thing without an address -/
def Flat (v : V) (d : PyData) : Prop := ∀ H : Hp, Pv H v d
/-- two things that are no range -/
structure NoR (v u : V) (d e : PyData) : Prop where
  fv : Flat v d
  fu : Flat u e
  n : ((!noN d) && (!noN e)) = true → ∃ i j : Int, v = .int i ∧ u = .int j ∧ j ≤ i
  s : Sq (.tuple [d, e])
  d1 : d ≠ .list []
  d2 : ∀ x y, d ≠ .tuple [x, y]
  e1 : e ≠ .list []
  e2 : ∀ x y, e ≠ .tuple [x, y]
theorem wd_len {n : Nat} (h1 : 1 ≤ n) (h3 : n ≤ 4) : (PyData.str (wdN n)).shown.length ≤ 30 := by
  have cc : n = 1 ∨ n = 2 ∨ n = 3 ∨ n = 4 := by omega
  rcases cc with rfl | rfl | rfl | rfl <;> decide +kernel
theorem pl_int {n : Nat} (h : n < 2 ^ 1000) : plainD (.int (n : Int)) := by
  show (n : Int).natAbs.log2 < 1920
  rw [Int.natAbs_natCast]
  rcases Nat.eq_zero_or_pos n with z | z
  · rw [z]
    decide
  · exact Nat.lt_of_lt_of_le ((Nat.log2_lt (by omega)).mpr h) (by decide)
theorem pl_i {i : Int} (h : i.natAbs < 2 ^ 64) : plainD (.int i) := by
  show i.natAbs.log2 < 1920
  by_cases hz : i.natAbs = 0
  · rw [hz]; decide
  · exact Nat.lt_of_lt_of_le ((Nat.log2_lt hz).mpr h) (by decide)
theorem pl_str {x : Str} (h : ∀ c ∈ x.cps.toList, c < 16 ^ 8) : plainD (.str x) := h
theorem sq_pair {d e : PyData} (h1 : plainD d) (h2 : plainD e) (c : cap d + cap e ≤ 3900) (k1 : d.depth ≤ 0) (k2 : e.depth ≤ 0) : Sq (.tuple [d, e]) :=
  sq_plain ⟨h1, h2, trivial⟩ (by simp only [cap, capAll]; omega) (by simp only [PyData.depth, PyData.depthAll]; omega)
theorem dep_int (i : Int) : (PyData.int i).depth ≤ 0 := by simp [PyData.depth]
abbrev xsBad (t1 : Addr) : List V := [.non, .int 1, .int 11, .bl true, .str "2", .ref t1]
theorem bad_val {H : Hp} {t1 p l : Addr} (h1 : H t1 = some (.tup [.int 10])) (o1 : t1 ≠ p ∧ t1 ≠ l) {i : Nat} {v : V} (h : (xsBad t1)[i]? = some v) : ∃ d, (∀ H', SameB H H' p l → Pv H' v d) ∧ noB d = true ∧ Sq d := by
  have hi : i < 6 := (List.getElem?_eq_some_iff.mp h).1
  have cc : i = 0 ∨ i = 1 ∨ i = 2 ∨ i = 3 ∨ i = 4 ∨ i = 5 := by omega
  rcases cc with rfl | rfl | rfl | rfl | rfl | rfl <;> cases h
  · exact ⟨_, fun _ _ => .non, rfl, sq_plain trivial (by simp [cap]) (by simp [PyData.depth])⟩
  · exact ⟨_, fun _ _ => .int 1, rfl, sq_plain (pl_i (by decide)) (by simp [cap]) (by simp [PyData.depth])⟩
  · exact ⟨_, fun _ _ => .int 11, rfl, sq_plain (pl_i (by decide)) (by simp [cap]) (by simp [PyData.depth])⟩
  · exact ⟨_, fun _ _ => .bl true, rfl, sq_plain trivial (by simp [cap]) (by simp [PyData.depth])⟩
  · exact ⟨_, fun _ _ => .str "2", rfl, sq_plain (pl_str (by intro c hc; exact (by decide : ∀ c ∈ (("2" : Str)).cps.toList, c < 16 ^ 8) c hc)) (by decide) (by simp [PyData.depth])⟩
  · exact ⟨_, fun H' sb => .tup (is := [10]) (sb _ _ h1 o1.1 o1.2), rfl, sq_plain (by exact ⟨pl_i (by decide), trivial⟩) (by simp [cap, capAll]) (by simp [PyData.depth, PyData.depthAll])⟩
/-- the pairs that are drawn from -/
def prs (F S : Nat) : List (V × V) := [(.int S, .int F), (.int F, .int F), (.int 0, .int F), (.non, .int 5), (.bl true, .int 7), (.int (-1), .int 3), (.str "1", .str "2")]
theorem nor_val {F S : Nat} (f1 : 1 ≤ F) (fs : F < S) (s9 : S < 2 ^ 900) {i : Nat} {v u : V} (h : (prs F S)[i]? = some (v, u)) : ∃ d e, NoR v u d e := by
  have hi : i < 7 := (List.getElem?_eq_some_iff.mp h).1
  have big : (2 : Nat) ^ 900 ≤ 2 ^ 1000 := Nat.pow_le_pow_right (by decide) (by decide)
  have pS := pl_int (n := S) (by omega)
  have pF := pl_int (n := F) (by omega)
  have one : ∀ {x : Str} {c : Nat}, x = ⟨#[c]⟩ → c < 16 ^ 8 → plainD (.str x) := fun hx hc => pl_str (by subst hx; intro c' h'; simp at h'; omega)
  have cc : i = 0 ∨ i = 1 ∨ i = 2 ∨ i = 3 ∨ i = 4 ∨ i = 5 ∨ i = 6 := by omega
  rcases cc with rfl | rfl | rfl | rfl | rfl | rfl | rfl <;> cases h
  · exact ⟨_, _, fun _ => .int _, fun _ => .int _, fun _ => ⟨S, F, rfl, rfl, by omega⟩, sq_pair pS pF (by simp [cap]) (dep_int _) (dep_int _), by simp, by simp, by simp, by simp⟩
  · exact ⟨_, _, fun _ => .int _, fun _ => .int _, fun _ => ⟨F, F, rfl, rfl, by omega⟩, sq_pair pF pF (by simp [cap]) (dep_int _) (dep_int _), by simp, by simp, by simp, by simp⟩
  · exact ⟨_, _, fun _ => .int _, fun _ => .int _, fun z => by simp [noN] at z, sq_pair (pl_i (by decide)) pF (by simp [cap]) (dep_int _) (dep_int _), by simp, by simp, by simp, by simp⟩
  · exact ⟨_, _, fun _ => .non, fun _ => .int _, fun z => by simp [noN] at z, sq_pair trivial (pl_i (by decide)) (by simp [cap]) (by simp [PyData.depth]) (dep_int _), by simp, by simp, by simp, by simp⟩
  · exact ⟨_, _, fun _ => .bl _, fun _ => .int _, fun z => by simp [noN] at z, sq_pair trivial (pl_i (by decide)) (by simp [cap]) (by simp [PyData.depth]) (dep_int _), by simp, by simp, by simp, by simp⟩
  · exact ⟨_, _, fun _ => .int _, fun _ => .int _, fun z => by simp [noN] at z, sq_pair (pl_i (by decide)) (pl_i (by decide)) (by simp [cap]) (dep_int _) (dep_int _), by simp, by simp, by simp, by simp⟩
  · exact ⟨_, _, fun _ => .str _, fun _ => .str _, fun z => by simp [noN] at z, sq_pair (one (x := "1") (c := 49) rfl (by decide)) (one (x := "2") (c := 50) rfl (by decide)) (by decide) (by simp [PyData.depth]) (by simp [PyData.depth]), by simp, by simp, by simp, by simp⟩
section
variable {w : World} {mg : Str → Option Value} {h base : Heap} (X : (K03 w.params).In h) (G : h.Ns mainGlobals mg) {c : Addr} {A : Around} {outer : List Env} {s : Shared} {H0 : Hp} {E0 : XK} {P : Addr} {T : List (Addr × Str)} (R : Rm w mg base c A outer s H0 E0 P T) (L : TxL mg)
include X G R L
theorem row0 : ∃ t, PS (XL w mg base c A outer s H0 E0) (inLoop 0) t ∧ ∀ (D : Ends) (H : Hp) (sc p cc l : Addr) (n : Nat) (a : Int) (x2 x3 x4 x5 x6 x7 x8 x9 x10 x11 x12 x13 x14 x15 x16 : Option V), l ≠ cc → a + 2 < 2 ^ 39 → Lw T p cc l n a H →
    (∀ (β m : Nat) (H' : Hp), 2 ≤ β → β ≤ 10 → 1 ≤ m → m ≤ 200 → Lw T p cc l n (a + 1 + 1) H' → D.nx [some (.ref sc), some (.ref p), x2, some (.int β), some (.int m), x5, x6, x7, x8, x9, x10, x11, x12, x13, x14, x15, x16] H') → t D [some (.ref sc), some (.ref p), x2, x3, x4, x5, x6, x7, x8, x9, x10, x11, x12, x13, x14, x15, x16] H := by
  obtain ⟨hr, hu64, TB, hT, hu⟩ := R
  refine ⟨_, (ps_asg (pe_tup (pa_cons (pe_op op_add pe_int (pe_call (f_draw X G) (hr.r.mono (by decide)) (by rfl) (txO X G).draw (kp_l_draw _) (bd_l_draw _) .nil pass0 (pa_cons (pv 1) (pa_cons pe_int pa_nil)))) (pa_cons (pe_ix ix_list (pe_lst (pa_cons pe_int (pa_cons pe_int (pa_cons pe_int (pa_cons pe_int pa_nil))))) (pe_call (f_draw X G) (hr.r.mono (by decide)) (by rfl) (txO X G).draw (kp_l_draw _) (bd_l_draw _) .nil pass0 (pa_cons (pv 1) (pa_cons pe_int pa_nil))) (fun _ _ => rfl)) pa_nil))) (pg_tup (by rfl) (pgs_cons (pg_name (i := 3) scLaw.nd rfl (.inr rfl)) (pgs_cons (pg_name (i := 4) scLaw.nd rfl (.inl rfl)) pgs_nil)))), fun D H sc p cc l n a x2 x3 x4 x5 x6 x7 x8 x9 x10 x11 x12 x13 x14 x15 x16 nlc ha W q => ?_⟩
  refine ⟨_, rfl, p, cc, l, n, a, _, rfl, W.s, nlc, by omega, by decide, by decide, fun r H1 r0 r1 S1 sb1 nn1 => ⟨_, _, rfl, rfl, (by show (4:Nat) ≤ sizeLine; rw [sizeLine_eq]; omega), fun lr nlr => ?_⟩⟩
  have W1 := W.same S1 sb1
  have off := W1.off nlr
  have W2 := W1.ex (Ex.new (o := .lst [.int 2, .int 5, .int 40, .int 200]) nlr)
  refine ⟨_, rfl, p, cc, l, n, _, _, rfl, W2.s, nlc, by omega, by decide, by decide, fun r2 H2 u0 u1 S2 sb2 nn2 => ?_⟩
  have W3 := W2.same S2 sb2
  obtain ⟨ρ, rfl⟩ : ∃ ρ : Nat, r = ρ := ⟨r.toNat, by omega⟩
  obtain ⟨τ, rfl⟩ : ∃ τ : Nat, r2 = τ := ⟨r2.toNat, by omega⟩
  have fin : ∀ m : Nat, 1 ≤ m → m ≤ 200 → ∀ H' : Hp, Ex H2 H' → D.nx [some (.ref sc), some (.ref p), x2, some (.int (2 + (ρ : Int))), some (.int (m : Int)), x5, x6, x7, x8, x9, x10, x11, x12, x13, x14, x15, x16] H' := fun m m1 m2 H' e => by
    rw [show (2 + (ρ : Int)) = ((2 + ρ : Nat) : Int) by omega]
    exact q (2 + ρ) m H' (by omega) (by omega) m1 m2 (W3.ex e)
  have g2 : H2 lr = some (.lst [.int 2, .int 5, .int 40, .int 200]) := sb2 _ _ upd_same off.1 off.2
  have key : ∃ m : Nat, 1 ≤ m ∧ m ≤ 200 ∧ ([V.int 2, .int 5, .int 40, .int 200])[τ]? = some (.int (m : Int)) := by
    have cc : τ = 0 ∨ τ = 1 ∨ τ = 2 ∨ τ = 3 := by omega
    rcases cc with rfl | rfl | rfl | rfl
    · exact ⟨2, by decide, by decide, rfl⟩
    · exact ⟨5, by decide, by decide, rfl⟩
    · exact ⟨40, by decide, by decide, rfl⟩
    · exact ⟨200, by decide, by decide, rfl⟩
  obtain ⟨m, m1, m2, hm⟩ := key
  refine ⟨lr, _, _, _, rfl, rfl, SqL.of g2, atI_nat hm, (by show (2:Nat) ≤ sizeLine; rw [sizeLine_eq]; omega), fun tp ntp => ⟨tp, _, rfl, st_of upd_same, rfl, _, _, rfl, _, _, rfl, rfl, ?_⟩⟩
  exact fin m m1 m2 _ (Ex.new ntp)
theorem row1 : ∃ t, PS (XL w mg base c A outer s H0 E0) (inLoop 1) t ∧ ∀ (D : Ends) (H : Hp) (sc p cc l : Addr) (n : Nat) (a : Int) (x2 x3 x4 x5 x6 x7 x8 x9 x10 x11 x12 x13 x14 x15 x16 : Option V) (β m : Nat), l ≠ cc → a + 1000 < 2 ^ 39 → Lw T p cc l n a H → 2 ≤ β → β ≤ 10 → 1 ≤ m → m ≤ 200 → x3 = some (.int β) → x4 = some (.int m) →
    (∀ (F S : Nat) (H' : Hp) (a' : Int), 1 ≤ F → F < S → S < 2 ^ 900 → a ≤ a' → a' ≤ a + 405 → Lw T p cc l n a' H' → D.nx [some (.ref sc), some (.ref p), x2, x3, x4, some (.int F), some (.int S), x7, x8, x9, x10, x11, x12, x13, x14, x15, x16] H') → t D [some (.ref sc), some (.ref p), x2, x3, x4, x5, x6, x7, x8, x9, x10, x11, x12, x13, x14, x15, x16] H := by
  obtain ⟨hr, hu64, TB, hT, hu⟩ := R
  refine ⟨_, (ps_asg (pe_call (f_lrange X G) (hr.r.mono (by decide)) (by rfl) L.lrange (kp_l_range _) (bd_l_range _) .nil pass0 (pa_cons (pv 1) (pa_cons (pv 3) (pa_cons (pv 4) pa_nil)))) (pg_tup (by rfl) (pgs_cons (pg_name (i := 5) scLaw.nd rfl (.inr rfl)) (pgs_cons (pg_name (i := 6) scLaw.nd rfl (.inr rfl)) pgs_nil)))), fun D H sc p cc l n a x2 x3 x4 x5 x6 x7 x8 x9 x10 x11 x12 x13 x14 x15 x16 β m nlc ha W b2 b10 m1 m200 h3 h4 q => ?_⟩
  subst h3 h4
  exact ⟨_, rfl, _, rfl, _, rfl, p, cc, l, n, a, β, m, rfl, W.s, nlc, ha, b2, b10, m1, m200, fun t F S H' a' f1 fs s9 a1 a2 S' sb ht off => ⟨t, _, rfl, st_of ht, rfl, _, _, rfl, _, _, rfl, rfl, q F S H' a' f1 fs s9 a1 a2 (W.same S' sb)⟩⟩
theorem row2 : ∃ t, PS (XL w mg base c A outer s H0 E0) (inLoop 2) t ∧ ∀ (D : Ends) (H : Hp) (sc p cc l : Addr) (n : Nat) (a : Int) (x2 x3 x4 x5 x6 x7 x8 x9 x10 x11 x12 x13 x14 x15 x16 : Option V) (β F S : Nat), Lw T p cc l n a H → 2 ≤ β → β ≤ 10 → 1 ≤ F → F < S → S < 2 ^ 900 → x3 = some (.int β) → x5 = some (.int F) → x6 = some (.int S) →
    (∀ (H' : Hp), Lw T p cc l n a H' → D.nx [some (.ref sc), some (.ref p), x2, x3, x4, x5, x6, x7, x8, x9, x10, x11, x12, x13, x14, x15, x16] H') → t D [some (.ref sc), some (.ref p), x2, x3, x4, x5, x6, x7, x8, x9, x10, x11, x12, x13, x14, x15, x16] H := by
  obtain ⟨hr, hu64, TB, hT, hu⟩ := R
  refine ⟨_, (ps_if (PW.pt (pw_or (pt_not (pt_val (pe_callG (f_lright X G) (hr.mono (by decide)) (by rfl) L.lright (kp_l_right _) (bd_l_right _) .nil pass0 (pa_cons (pv 3) (pa_cons (pv 5) (pa_cons (pv 6) pa_nil)))))) (pw_or1 (pt_not (pt_val (pe_callG (f_lright X G) (hr.mono (by decide)) (by rfl) L.lright (kp_l_right _) (bd_l_right _) .nil pass0 (pa_cons (pv 3) (pa_cons (pv 5) (pa_cons (pe_op op_add (pv 5) pe_int) pa_nil))))))))) (pss_one (ps_ret pe_bl)) pss_nil), fun D H sc p cc l n a x2 x3 x4 x5 x6 x7 x8 x9 x10 x11 x12 x13 x14 x15 x16 β F S W b2 b10 f1 fs s9 h3 h5 h6 q => ?_⟩
  subst h3 h5 h6
  refine s_when (D := D) (b := false) (et_is (et_or (a := false) (b := false) (et_not (et_B (ev_call (ea_cons (ev_var rfl) (ea_cons (ev_var rfl) (ea_cons (ev_var rfl) ea_nil))) (z := .bl true) fun H1 e Q k E => ⟨β, F, S, rfl, b2, b10, f1, fs, s9, fun H2 e2 => k H2 e2⟩)))
    fun _ => et_not (et_B (ev_call (ea_cons (ev_var rfl) (ea_cons (ev_var rfl) (ea_cons (ev_op (ev_var rfl) ev_c rv_I0) ea_nil))) (z := .bl true) fun H1 e Q k E => ⟨β, F, F + 1, rfl, b2, b10, f1, Nat.lt_succ_self _, by omega, fun H2 e2 => k H2 e2⟩))) rfl) (fun z => nomatch z) fun _ H' e => q H' (W.ex e)
theorem row3 : ∃ t, PS (XL w mg base c A outer s H0 E0) (inLoop 3) t ∧ ∀ (D : Ends) (H : Hp) (sc p cc l : Addr) (n : Nat) (a : Int) (x2 x3 x4 x5 x6 x7 x8 x9 x10 x11 x12 x13 x14 x15 x16 : Option V), l ≠ cc → a + 1000 < 2 ^ 39 → Lw T p cc l n a H →
    (∀ (v : V) (d : PyData) (H' : Hp), (∀ H'', SameB H' H'' p l → Pv H'' v d) → noB d = true → Sq d → Lw T p cc l n (a + 1) H' → D.nx [some (.ref sc), some (.ref p), x2, x3, x4, x5, x6, some (v), x8, x9, x10, x11, x12, x13, x14, x15, x16] H') → t D [some (.ref sc), some (.ref p), x2, x3, x4, x5, x6, x7, x8, x9, x10, x11, x12, x13, x14, x15, x16] H := by
  obtain ⟨hr, hu64, TB, hT, hu⟩ := R
  refine ⟨_, (ps_set (i := 7) scLaw.nd rfl (.inr rfl) (pe_call (f_of X G) (hr.r.mono (by decide)) (by rfl) L.of (kp_l_of _) (bd_l_of _) .nil pass0 (pa_cons (pv 1) (pa_cons (pe_lst (pa_cons pe_non (pa_cons pe_int (pa_cons pe_int (pa_cons pe_bl (pa_cons pe_str (pa_cons (pe_tup (pa_cons pe_int pa_nil)) pa_nil))))))) pa_nil)))), fun D H sc p cc l n a x2 x3 x4 x5 x6 x7 x8 x9 x10 x11 x12 x13 x14 x15 x16 nlc ha W q => ?_⟩
  refine ⟨_, rfl, (by show (1:Nat) ≤ sizeLine; rw [sizeLine_eq]; omega), fun t1 nt1 => ⟨(by show (6:Nat) ≤ sizeLine; rw [sizeLine_eq]; omega), fun so nso => ?_⟩⟩
  have a1 := Ex.new (o := .tup [.int 10]) nt1
  have a2 := Ex.new (o := .lst (xsBad t1)) nso
  have o1 := W.off nt1
  have o2 := (W.ex a1).off nso
  have W1 := (W.ex a1).ex a2
  refine ⟨p, cc, l, so, n, a, _, rfl, W1.s, nlc, by omega, upd_same, o2.1, o2.2, (by show 0 < 6; decide), (by show 6 < 1073741824; decide), fun i v H1 hv S1 sb1 nn1 => ?_⟩
  obtain ⟨d, k, nb, sq⟩ := bad_val (sb1 _ _ (a2 _ _ upd_same) o1.1 o1.2) o1 hv
  exact q v d H1 k nb sq (W1.same S1 sb1)
theorem row4 : ∃ t, PS (XL w mg base c A outer s H0 E0) (inLoop 4) t ∧ ∀ (D : Ends) (H : Hp) (sc p cc l : Addr) (n : Nat) (a : Int) (x2 x3 x4 x5 x6 x7 x8 x9 x10 x11 x12 x13 x14 x15 x16 : Option V) (F S : Nat) (b : V) (d : PyData), l ≠ cc → a + 1000 < 2 ^ 39 → Lw T p cc l n a H → 1 ≤ F → F < S → S < 2 ^ 900 → x5 = some (.int F) → x6 = some (.int S) → (∀ H'', SameB H H'' p l → Pv H'' b d) →
    (∀ (t : Addr) (v u : V) (e1 e2 : PyData) (H' : Hp), Pv H' b d → NoR v u e1 e2 → H' t = some (.tup [v, u]) → Lw T p cc l n (a + 1) H' → D.nx [some (.ref sc), some (.ref p), x2, x3, x4, x5, x6, x7, some (.ref t), x9, x10, x11, x12, x13, x14, x15, x16] H') → t D [some (.ref sc), some (.ref p), x2, x3, x4, x5, x6, x7, x8, x9, x10, x11, x12, x13, x14, x15, x16] H := by
  obtain ⟨hr, hu64, TB, hT, hu⟩ := R
  refine ⟨_, (ps_set (i := 8) scLaw.nd rfl (.inl rfl) (pe_call (f_of X G) (hr.r.mono (by decide)) (by rfl) L.of (kp_l_of _) (bd_l_of _) .nil pass0 (pa_cons (pv 1) (pa_cons (pe_lst (pa_cons (pe_tup (pa_cons (pv 6) (pa_cons (pv 5) pa_nil))) (pa_cons (pe_tup (pa_cons (pv 5) (pa_cons (pv 5) pa_nil))) (pa_cons (pe_tup (pa_cons pe_int (pa_cons (pv 5) pa_nil))) (pa_cons (pe_tup (pa_cons pe_non (pa_cons pe_int pa_nil))) (pa_cons (pe_tup (pa_cons pe_bl (pa_cons pe_int pa_nil))) (pa_cons (pe_tup (pa_cons (pe_un un_neg pe_int) (pa_cons pe_int pa_nil))) (pa_cons (pe_tup (pa_cons pe_str (pa_cons pe_str pa_nil))) pa_nil)))))))) pa_nil)))), fun D H sc p cc l n a x2 x3 x4 x5 x6 x7 x8 x9 x10 x11 x12 x13 x14 x15 x16 F S b d nlc ha W f1 fs s9 h5 h6 pb q => ?_⟩
  subst h5 h6
  refine ⟨_, rfl, _, rfl, _, rfl, (by show (2:Nat) ≤ sizeLine; rw [sizeLine_eq]; omega), fun t1 n1 => ⟨_, rfl, _, rfl, (by show (2:Nat) ≤ sizeLine; rw [sizeLine_eq]; omega), fun t2 n2 => ⟨_, rfl, (by show (2:Nat) ≤ sizeLine; rw [sizeLine_eq]; omega), fun t3 n3 => ⟨(by show (2:Nat) ≤ sizeLine; rw [sizeLine_eq]; omega), fun t4 n4 => ⟨(by show (2:Nat) ≤ sizeLine; rw [sizeLine_eq]; omega), fun t5 n5 => ⟨_, rfl, (by show (2:Nat) ≤ sizeLine; rw [sizeLine_eq]; omega), fun t6 n6 => ⟨(by show (2:Nat) ≤ sizeLine; rw [sizeLine_eq]; omega), fun t7 n7 => ⟨(by show (7:Nat) ≤ sizeLine; rw [sizeLine_eq]; omega), fun so nso => ?_⟩⟩⟩⟩⟩⟩⟩⟩
  have a1 := Ex.new (o := .tup [.int S, .int F]) n1
  have a2 := Ex.new (o := .tup [.int F, .int F]) n2
  have a3 := Ex.new (o := .tup [.int 0, .int F]) n3
  have a4 := Ex.new (o := .tup [.non, .int 5]) n4
  have a5 := Ex.new (o := .tup [.bl true, .int 7]) n5
  have a6 := Ex.new (o := .tup [.int (-1), .int 3]) n6
  have a7 := Ex.new (o := .tup [.str "1", .str "2"]) n7
  have a8 := Ex.new (o := .lst [.ref t1, .ref t2, .ref t3, .ref t4, .ref t5, .ref t6, .ref t7]) nso
  have W1 := W.ex a1
  have W2 := W1.ex a2
  have W3 := W2.ex a3
  have W4 := W3.ex a4
  have W5 := W4.ex a5
  have W6 := W5.ex a6
  have W7 := W6.ex a7
  have W8 := W7.ex a8
  have o1 := W.off n1
  have o2 := W1.off n2
  have o3 := W2.off n3
  have o4 := W3.off n4
  have o5 := W4.off n5
  have o6 := W5.off n6
  have o7 := W6.off n7
  have o8 := W7.off nso
  have all := ((((((a1.trans a2).trans a3).trans a4).trans a5).trans a6).trans a7).trans a8
  refine ⟨p, cc, l, so, n, a, _, rfl, W8.s, nlc, by omega, upd_same, o8.1, o8.2, (by show 0 < 7; decide), (by show 7 < 1073741824; decide), fun i x H1 hx S1 sb1 nn1 => ?_⟩
  have hi : i < 7 := (List.getElem?_eq_some_iff.mp hx).1
  have pb1 : Pv H1 b d := pb H1 fun y o e y1 y2 => sb1 y o (all y o e) y1 y2
  have key : ∃ (t : Addr) (v u : V), x = .ref t ∧ (prs F S)[i]? = some (v, u) ∧ H1 t = some (.tup [v, u]) := by
    have cc : i = 0 ∨ i = 1 ∨ i = 2 ∨ i = 3 ∨ i = 4 ∨ i = 5 ∨ i = 6 := by omega
    rcases cc with rfl | rfl | rfl | rfl | rfl | rfl | rfl <;> cases hx
    · exact ⟨t1, _, _, rfl, rfl, sb1 _ _ ((((((((a2.trans a3).trans a4).trans a5).trans a6).trans a7).trans a8)) _ _ upd_same) o1.1 o1.2⟩
    · exact ⟨t2, _, _, rfl, rfl, sb1 _ _ (((((((a3.trans a4).trans a5).trans a6).trans a7).trans a8)) _ _ upd_same) o2.1 o2.2⟩
    · exact ⟨t3, _, _, rfl, rfl, sb1 _ _ ((((((a4.trans a5).trans a6).trans a7).trans a8)) _ _ upd_same) o3.1 o3.2⟩
    · exact ⟨t4, _, _, rfl, rfl, sb1 _ _ (((((a5.trans a6).trans a7).trans a8)) _ _ upd_same) o4.1 o4.2⟩
    · exact ⟨t5, _, _, rfl, rfl, sb1 _ _ ((((a6.trans a7).trans a8)) _ _ upd_same) o5.1 o5.2⟩
    · exact ⟨t6, _, _, rfl, rfl, sb1 _ _ (((a7.trans a8)) _ _ upd_same) o6.1 o6.2⟩
    · exact ⟨t7, _, _, rfl, rfl, sb1 _ _ (a8 _ _ upd_same) o7.1 o7.2⟩
  obtain ⟨t, v, u, rfl, hp, ht⟩ := key
  obtain ⟨e1, e2, nr⟩ := nor_val f1 fs s9 hp
  exact q t v u e1 e2 H1 pb1 nr ht (W8.same S1 sb1)
theorem row5 : ∃ t_, PS (XL w mg base c A outer s H0 E0) (inLoop 5) t_ ∧ ∀ (D : Ends) (H : Hp) (sc p cc l : Addr) (n : Nat) (a : Int) (x2 x3 x4 x5 x6 x7 x8 x9 x10 x11 x12 x13 x14 x15 x16 : Option V) (t : Addr) (v u : V), x8 = some (.ref t) → H t = some (.tup [v, u]) → D.nx [some (.ref sc), some (.ref p), x2, x3, x4, x5, x6, x7, x8, some (v), some (u), x11, x12, x13, x14, x15, x16] H → t_ D [some (.ref sc), some (.ref p), x2, x3, x4, x5, x6, x7, x8, x9, x10, x11, x12, x13, x14, x15, x16] H := by
  obtain ⟨hr, hu64, TB, hT, hu⟩ := R
  refine ⟨_, (ps_asg (pv 8) (pg_tup (by rfl) (pgs_cons (pg_name (i := 9) scLaw.nd rfl (.inr rfl)) (pgs_cons (pg_name (i := 10) scLaw.nd rfl (.inr rfl)) pgs_nil)))), fun D H sc p cc l n a x2 x3 x4 x5 x6 x7 x8 x9 x10 x11 x12 x13 x14 x15 x16 t v u h8 ht q => ?_⟩
  subst h8
  exact ⟨_, rfl, t, _, rfl, st_of ht, rfl, _, _, rfl, _, _, rfl, rfl, q⟩
end
end KH3

namespace KH3
open PySem L2 Evl ExM Dg LamR LamX Told TL
open Dr (StAt SameB)
theorem sm_sz {d : PyData} (s : Sm d) : d.showable = true ∧ d.shown.length ≤ sizeLine ∧ d.depth ≤ 60 := ⟨s.a, Nat.le_trans s.b (by rw [sizeLine_eq]; decide), Nat.le_trans s.c (by decide)⟩
section
variable {w : World} {mg : Str → Option Value} {h base : Heap} (X : (K03 w.params).In h) (G : h.Ns mainGlobals mg) {c : Addr} {A : Around} {outer : List Env} {s : Shared} {H0 : Hp} {E0 : XK} {P : Addr} {T : List (Addr × Str)} (R : Rm w mg base c A outer s H0 E0 P T) (L : TxL mg)
include X G R L
theorem row6 : ∃ t, PS (XL w mg base c A outer s H0 E0) (inLoop 6) t ∧ ∀ (D : Ends) (H : Hp) (sc p cc l : Addr) (n : Nat) (a : Int) (x2 x3 x4 x5 x6 x7 x8 x9 x10 x11 x12 x13 x14 x15 x16 : Option V) (b v u : V) (d e1 e2 : PyData), Lw T p cc l n a H → x7 = some b → x9 = some v → x10 = some u → Pv H b d → noB d = true → NoR v u e1 e2 →
    (∀ (tp r1 r2 : Addr) (H' : Hp), ExtN H H' → Lw T p cc l n a H' → H' tp = some (.lst [.ref r1, .ref r2]) → H' r1 = some (.tup [.str "base", b]) → H' r2 = some (.tup [.str "base", b]) → D.nx [some (.ref sc), some (.ref p), x2, x3, x4, x5, x6, x7, x8, x9, x10, some (.ref tp), x12, x13, x14, x15, x16] H') → t D [some (.ref sc), some (.ref p), x2, x3, x4, x5, x6, x7, x8, x9, x10, x11, x12, x13, x14, x15, x16] H := by
  obtain ⟨hr, hu64, TB, hT, hu⟩ := R
  refine ⟨_, (ps_set (i := 11) scLaw.nd rfl (.inl rfl) (pe_lst (pa_cons (pe_lamcallR (k := 5) (T := T) (by rfl) L.raised (kp_l_raised _) (lk03 _) (hcd03 _) (bd_l_raised _) Told.scR rfl (.inl rfl) (Told.raised_gives (ca := ca03) (txT X G) (rwT03 _)) TB rfl hT hu (hr.r.mono (by decide)) (lamN_by (show lamNB (defScope sLaw) _ nLaw = true by decide +kernel)) (by rfl) (fun _ _ _ _ _ => by rfl) (fun A outer s H E f c' hr' => pe_callS (f_changed X G) (hr'.mono (by decide)) (by rfl) (txJ X G).chg (kp_changed _) (bd_changed _) (fun σ => passAt (takes_of rfl rfl rfl rfl) σ) (pa_cons (pv 7) (pa_cons (pv 9) (pa_cons (pv 10) pa_nil))))) (pa_cons (pe_lamcallD (k := 5) (T := T) (y := "at") (n := 0) (by rfl) L.raised (kp_l_raised _) (lk03 _) (hcd03 _) (bd_l_raised _) Told.scR rfl (.inl rfl) (Told.raised_gives (ca := ca03) (txT X G) (rwT03 _)) TB rfl hT hu (hr.r.mono (by decide)) (lamN_by (show lamNB (defScope sLaw) _ nLaw = true by decide +kernel)) (by rfl) (by rfl) (by rfl) (fun _ _ _ _ _ _ _ _ => ⟨_, by rfl, by rfl⟩) (fun A outer s H E f c' hr' => pe_callS (f_near X G) (hr'.mono (by decide)) (by rfl) (txJ X G).near (kp_near _) (bd_near _) (fun σ => passAt (takes_of rfl rfl rfl rfl) σ) (pa_cons (pv 7) (pa_cons (pv 9) (pa_cons (pv 10) pa_nil))))) pa_nil)))), fun D H sc p cc l n a x2 x3 x4 x5 x6 x7 x8 x9 x10 x11 x12 x13 x14 x15 x16 b v u d e1 e2 W h7 h9 h10 pb nb nr q => ?_⟩
  subst h7 h9 h10
  refine rd_raisedA (n := 1) (A := Is1 b) W.t (is1_keeps b) (fun H1 f1 HZ eZ E Q' hE => ⟨_, rfl, _, rfl, _, rfl, b, v, u, false, !noN e1, !noN e2, rfl, (pb.extN (f1.trans (ExtN.of eZ))).bs nb, (nr.fv _).nm, (nr.fu _).nm, fun _ => leaves_of (by decide) (by decide) (by decide) (by decide) (by decide) rfl hE, (fun z => nomatch z), fun z => nomatch z⟩) fun vs1 r1 H1 x1 T1 a1 g1 => ?_
  refine rd_raisedA (n := 1) (A := Is1 b) T1 (is1_keeps b) (fun H2 f2 HZ eZ E Q' hE => ⟨_, rfl, _, rfl, _, rfl, b, v, u, false, !noN e1, !noN e2, rfl, (pb.extN ((x1.trans f2).trans (ExtN.of eZ))).bs nb, (nr.fv _).nm, (nr.fu _).nm, fun _ => leaves_of (by decide) (by decide) (by decide) (by decide) (by decide) rfl hE, (fun z => nomatch z), fun z => nomatch z⟩) fun vs2 r2 H2 x2 T2 a2 g2 => ⟨(by show (2:Nat) ≤ sizeLine; rw [sizeLine_eq]; omega), fun tp ntp => ?_⟩
  have a1' : vs1 = [b] := a1
  have a2' : vs2 = [b] := a2
  subst a1' a2'
  have en := Ex.new (o := .lst [.ref r1, .ref r2]) ntp
  exact q tp r1 r2 _ ((x1.trans x2).trans (ExtN.of en)) ((W.extN (x1.trans x2) T2).ex en) upd_same (en _ _ (x2 _ _ g1 (by simp))) (en _ _ g2)
theorem row7 : ∃ t, PS (XL w mg base c A outer s H0 E0) (inLoop 7) t ∧ ∀ (D : Ends) (H : Hp) (sc p cc l : Addr) (n : Nat) (a : Int) (x2 x3 x4 x5 x6 x7 x8 x9 x10 x11 x12 x13 x14 x15 x16 : Option V) (b b1 b2 : V) (d : PyData) (tp r1 r2 : Addr), Lw T p cc l n a H → x11 = some (.ref tp) → x7 = some b → Pv H b d → Pv H b1 d → Pv H b2 d → Sq d → H tp = some (.lst [.ref r1, .ref r2]) → H r1 = some (.tup [.str "base", b1]) → H r2 = some (.tup [.str "base", b2]) →
    (∀ (H' : Hp), Ex H H' → Lw T p cc l n a H' → D.nx [some (.ref sc), some (.ref p), x2, x3, x4, x5, x6, x7, x8, x9, x10, x11, x12, x13, x14, x15, x16] H') → t D [some (.ref sc), some (.ref p), x2, x3, x4, x5, x6, x7, x8, x9, x10, x11, x12, x13, x14, x15, x16] H := by
  obtain ⟨hr, hu64, TB, hT, hu⟩ := R
  refine ⟨_, (ps_if (pt_cmpR op_ne (pe_callB (call_reprK hr.g hu64) (by rfl) L.repr (by decide +kernel) (pa_cons (pv 11) pa_nil)) (pe_callB (call_reprK hr.g hu64) (by rfl) L.repr (by decide +kernel) (pa_cons (pe_op op_rep (pe_lst (pa_cons (pe_tup (pa_cons pe_str (pa_cons (pv 7) pa_nil))) pa_nil)) pe_int) pa_nil)) (nomark _)) (pss_one (ps_ret pe_bl)) pss_nil), fun D H sc p cc l n a x2 x3 x4 x5 x6 x7 x8 x9 x10 x11 x12 x13 x14 x15 x16 b b1 b2 d tp r1 r2 W h11 hb pb pb1 pb2 sq g0 g1 g2 q => ?_⟩
  subst h11 hb
  have sp := sq.pair (x := "base") (wd_len (n := 1) (by decide) (by decide))
  obtain ⟨y1, y2, y3⟩ := SmAll.list (.cons sp (.cons sp .nil)) (by simp)
  refine ⟨_, rfl, tp, _, [.tuple [.str "base", d], .tuple [.str "base", d]], rfl, sq_of g0, .cons (.pair (st_of g1) pb1.dj) (.cons (.pair (st_of g2) pb2.dj) .nil), y1, y2, y3, _, rfl, (by show (2:Nat) ≤ sizeLine; rw [sizeLine_eq]; omega), fun t1 nt1 => ⟨(by show (1:Nat) ≤ sizeLine; rw [sizeLine_eq]; omega), fun l1 nl1 => ⟨l1, 2, [.ref t1], rfl, rfl, upd_same, by decide, by decide, by rw [sizeLine_eq]; simp, fun p1 hp1 => ?_⟩⟩⟩
  have f1 := Ex.new (o := .tup [.str "base", b]) nt1
  have f2 := Ex.new (o := .lst [.ref t1]) nl1
  have f3 := Ex.new (o := .lst [.ref t1, .ref t1]) hp1
  have f23 := f2.trans f3
  have gt := f23 _ _ (show _ = some (.tup [.str "base", b]) from upd_same)
  have pt : Dj (K03 w.params) _ (.ref t1) (.tuple [.str "base", d]) := .pair (st_of gt) (pb.ex (f1.trans f23)).dj
  refine ⟨p1, [.ref t1, .ref t1], [.tuple [.str "base", d], .tuple [.str "base", d]], rfl, sq_of upd_same, .cons pt (.cons pt .nil), y1, y2, y3, rfl, _, rfl, ?_⟩
  rw [decide_eq_true rfl]
  exact q _ (f1.trans f23) (W.ex (f1.trans f23))
theorem row9 : ∃ t, PS (XL w mg base c A outer s H0 E0) (inLoop 9) t ∧ ∀ (D : Ends) (H : Hp) (sc p cc l : Addr) (n : Nat) (a : Int) (x2 x3 x4 x5 x6 x7 x8 x9 x10 x11 x12 x13 x14 x15 x16 : Option V) (b b1 b2 : V) (d : PyData) (tp r1 r2 : Addr), Lw T p cc l n a H → x11 = some (.ref tp) → x8 = some b → Pv H b d → Pv H b1 d → Pv H b2 d → Sq d → H tp = some (.lst [.ref r1, .ref r2]) → H r1 = some (.tup [.str "range", b1]) → H r2 = some (.tup [.str "range", b2]) →
    (∀ (H' : Hp), Ex H H' → Lw T p cc l n a H' → D.nx [some (.ref sc), some (.ref p), x2, x3, x4, x5, x6, x7, x8, x9, x10, x11, x12, x13, x14, x15, x16] H') → t D [some (.ref sc), some (.ref p), x2, x3, x4, x5, x6, x7, x8, x9, x10, x11, x12, x13, x14, x15, x16] H := by
  obtain ⟨hr, hu64, TB, hT, hu⟩ := R
  refine ⟨_, (ps_if (pt_cmpR op_ne (pe_callB (call_reprK hr.g hu64) (by rfl) L.repr (by decide +kernel) (pa_cons (pv 11) pa_nil)) (pe_callB (call_reprK hr.g hu64) (by rfl) L.repr (by decide +kernel) (pa_cons (pe_op op_rep (pe_lst (pa_cons (pe_tup (pa_cons pe_str (pa_cons (pv 8) pa_nil))) pa_nil)) pe_int) pa_nil)) (nomark _)) (pss_one (ps_ret pe_bl)) pss_nil), fun D H sc p cc l n a x2 x3 x4 x5 x6 x7 x8 x9 x10 x11 x12 x13 x14 x15 x16 b b1 b2 d tp r1 r2 W h11 hb pb pb1 pb2 sq g0 g1 g2 q => ?_⟩
  subst h11 hb
  have sp := sq.pair (x := "range") (wd_len (n := 4) (by decide) (by decide))
  obtain ⟨y1, y2, y3⟩ := SmAll.list (.cons sp (.cons sp .nil)) (by simp)
  refine ⟨_, rfl, tp, _, [.tuple [.str "range", d], .tuple [.str "range", d]], rfl, sq_of g0, .cons (.pair (st_of g1) pb1.dj) (.cons (.pair (st_of g2) pb2.dj) .nil), y1, y2, y3, _, rfl, (by show (2:Nat) ≤ sizeLine; rw [sizeLine_eq]; omega), fun t1 nt1 => ⟨(by show (1:Nat) ≤ sizeLine; rw [sizeLine_eq]; omega), fun l1 nl1 => ⟨l1, 2, [.ref t1], rfl, rfl, upd_same, by decide, by decide, by rw [sizeLine_eq]; simp, fun p1 hp1 => ?_⟩⟩⟩
  have f1 := Ex.new (o := .tup [.str "range", b]) nt1
  have f2 := Ex.new (o := .lst [.ref t1]) nl1
  have f3 := Ex.new (o := .lst [.ref t1, .ref t1]) hp1
  have f23 := f2.trans f3
  have gt := f23 _ _ (show _ = some (.tup [.str "range", b]) from upd_same)
  have pt : Dj (K03 w.params) _ (.ref t1) (.tuple [.str "range", d]) := .pair (st_of gt) (pb.ex (f1.trans f23)).dj
  refine ⟨p1, [.ref t1, .ref t1], [.tuple [.str "range", d], .tuple [.str "range", d]], rfl, sq_of upd_same, .cons pt (.cons pt .nil), y1, y2, y3, rfl, _, rfl, ?_⟩
  rw [decide_eq_true rfl]
  exact q _ (f1.trans f23) (W.ex (f1.trans f23))
theorem row8 : ∃ t, PS (XL w mg base c A outer s H0 E0) (inLoop 8) t ∧ ∀ (D : Ends) (H : Hp) (sc p cc l : Addr) (n : Nat) (a : Int) (x2 x3 x4 x5 x6 x7 x8 x9 x10 x11 x12 x13 x14 x15 x16 : Option V) (β : Nat) (v u : V) (e1 e2 : PyData), Lw T p cc l n a H → 2 ≤ β → β ≤ 10 → x3 = some (.int β) → x9 = some v → x10 = some u → NoR v u e1 e2 →
    (∀ (tp r1 r2 : Addr) (b1 b2 : V) (H' : Hp), ExtN H H' → Lw T p cc l n a H' → Pv H' b1 (.tuple [e1, e2]) → Pv H' b2 (.tuple [e1, e2]) → H' tp = some (.lst [.ref r1, .ref r2]) → H' r1 = some (.tup [.str "range", b1]) → H' r2 = some (.tup [.str "range", b2]) → D.nx [some (.ref sc), some (.ref p), x2, x3, x4, x5, x6, x7, x8, x9, x10, some (.ref tp), x12, x13, x14, x15, x16] H') → t D [some (.ref sc), some (.ref p), x2, x3, x4, x5, x6, x7, x8, x9, x10, x11, x12, x13, x14, x15, x16] H := by
  obtain ⟨hr, hu64, TB, hT, hu⟩ := R
  refine ⟨_, (ps_set (i := 11) scLaw.nd rfl (.inl rfl) (pe_lst (pa_cons (pe_lamcallR (k := 5) (T := T) (by rfl) L.raised (kp_l_raised _) (lk03 _) (hcd03 _) (bd_l_raised _) Told.scR rfl (.inl rfl) (Told.raised_gives (ca := ca03) (txT X G) (rwT03 _)) TB rfl hT hu (hr.r.mono (by decide)) (lamN_by (show lamNB (defScope sLaw) _ nLaw = true by decide +kernel)) (by rfl) (fun _ _ _ _ _ => by rfl) (fun A outer s H E f c' hr' => pe_callS (f_changed X G) (hr'.mono (by decide)) (by rfl) (txJ X G).chg (kp_changed _) (bd_changed _) (fun σ => passAt (takes_of rfl rfl rfl rfl) σ) (pa_cons (pv 3) (pa_cons (pv 9) (pa_cons (pv 10) pa_nil))))) (pa_cons (pe_lamcallD (k := 5) (T := T) (y := "at") (n := 0) (by rfl) L.raised (kp_l_raised _) (lk03 _) (hcd03 _) (bd_l_raised _) Told.scR rfl (.inl rfl) (Told.raised_gives (ca := ca03) (txT X G) (rwT03 _)) TB rfl hT hu (hr.r.mono (by decide)) (lamN_by (show lamNB (defScope sLaw) _ nLaw = true by decide +kernel)) (by rfl) (by rfl) (by rfl) (fun _ _ _ _ _ _ _ _ => ⟨_, by rfl, by rfl⟩) (fun A outer s H E f c' hr' => pe_callS (f_near X G) (hr'.mono (by decide)) (by rfl) (txJ X G).near (kp_near _) (bd_near _) (fun σ => passAt (takes_of rfl rfl rfl rfl) σ) (pa_cons (pv 3) (pa_cons (pv 9) (pa_cons (pv 10) pa_nil))))) pa_nil)))), fun D H sc p cc l n a x2 x3 x4 x5 x6 x7 x8 x9 x10 x11 x12 x13 x14 x15 x16 β v u e1 e2 W b2 b10 h3 h9 h10 nr q => ?_⟩
  subst h3 h9 h10
  have kA := isP_keeps nr.d1 nr.d2 nr.e1 nr.e2
  refine rd_raisedA (n := 4) (A := IsP (.tuple [e1, e2])) W.t kA (fun H1 f1 HZ eZ E Q' hE => ⟨_, rfl, _, rfl, _, rfl, .int β, v, u, true, !noN e1, !noN e2, rfl, bs_yes b2 b10, (nr.fv _).nm, (nr.fu _).nm, (fun z => nomatch z), fun _ _ => leavesP_of (nr.fv _) (nr.fu _) hE, fun _ z => (by
    obtain ⟨i, j, rfl, rfl, hij⟩ := nr.n z
    exact ⟨β, 0, 0, rfl, b2, b10, .inl ⟨i, j, rfl, rfl, hij, leavesP_of (nr.fv _) (nr.fu _) hE⟩⟩)⟩) fun vs1 r1 H1 x1 T1 a1 g1 => ?_
  refine rd_raisedA (n := 4) (A := IsP (.tuple [e1, e2])) T1 kA (fun H2 f2 HZ eZ E Q' hE => ⟨_, rfl, _, rfl, _, rfl, .int β, v, u, true, !noN e1, !noN e2, rfl, bs_yes b2 b10, (nr.fv _).nm, (nr.fu _).nm, (fun z => nomatch z), fun _ _ => leavesP_of (nr.fv _) (nr.fu _) hE, fun _ z => (by
    obtain ⟨i, j, rfl, rfl, hij⟩ := nr.n z
    exact ⟨β, 0, 0, rfl, b2, b10, .inl ⟨i, j, rfl, rfl, hij, leavesP_of (nr.fv _) (nr.fu _) hE⟩⟩)⟩) fun vs2 r2 H2 x2 T2 a2 g2 => ⟨(by show (2:Nat) ≤ sizeLine; rw [sizeLine_eq]; omega), fun tp ntp => ?_⟩
  obtain ⟨b1, rfl, p1⟩ := a1.pv
  obtain ⟨b2', rfl, p2⟩ := a2.pv
  have en := Ex.new (o := .lst [.ref r1, .ref r2]) ntp
  exact q tp r1 r2 b1 b2' _ ((x1.trans x2).trans (ExtN.of en)) ((W.extN (x1.trans x2) T2).ex en) ((p1.extN x2).ex en) (p2.ex en) upd_same (en _ _ (x2 _ _ g1 (by simp))) (en _ _ g2)
theorem row10 : ∃ t, PS (XL w mg base c A outer s H0 E0) (inLoop 10) t ∧ ∀ (D : Ends) (H : Hp) (sc p cc l : Addr) (n : Nat) (a : Int) (x2 x3 x4 x5 x6 x7 x8 x9 x10 x11 x12 x13 x14 x15 x16 : Option V) (β F S : Nat), Lw T p cc l n a H → 2 ≤ β → β ≤ 10 → 1 ≤ F → F < S → S < 2 ^ 900 → x3 = some (.int β) → x5 = some (.int F) → x6 = some (.int S) →
    (∀ (H' : Hp), Lw T p cc l n a H' → D.nx [some (.ref sc), some (.ref p), x2, x3, x4, x5, x6, x7, x8, x9, x10, x11, x12, x13, x14, x15, x16] H') → t D [some (.ref sc), some (.ref p), x2, x3, x4, x5, x6, x7, x8, x9, x10, x11, x12, x13, x14, x15, x16] H := by
  obtain ⟨hr, hu64, TB, hT, hu⟩ := R
  refine ⟨_, (ps_if (pt_cmpR op_ne (pe_callB (call_reprJ hr.g hu64) (by rfl) L.repr (by decide +kernel) (pa_cons (pe_lamcallR (k := 5) (T := T) (by rfl) L.raised (kp_l_raised _) (lk03 _) (hcd03 _) (bd_l_raised _) Told.scR rfl (.inl rfl) (Told.raised_gives (ca := ca03) (txT X G) (rwT03 _)) TB rfl hT hu (hr.r.mono (by decide)) (lamN_by (show lamNB (defScope sLaw) _ nLaw = true by decide +kernel)) (by rfl) (fun _ _ _ _ _ => by rfl) (fun A outer s H E f c' hr' => pe_callS (f_near X G) (hr'.mono (by decide)) (by rfl) (txJ X G).near (kp_near _) (bd_near _) (fun σ => passAt (takes_of rfl rfl rfl rfl) σ) (pa_cons (pv 3) (pa_cons (pv 5) (pa_cons (pe_lst (pa_cons (pv 6) pa_nil)) pa_nil))))) pa_nil)) (pe_callB (call_reprJ hr.g hu64) (by rfl) L.repr (by decide +kernel) (pa_cons (pe_tup (pa_cons pe_str (pa_cons (pe_tup (pa_cons (pv 5) (pa_cons (pe_lst (pa_cons (pv 6) pa_nil)) pa_nil))) pa_nil))) pa_nil)) (nomark _)) (pss_one (ps_ret pe_bl)) pss_nil), fun D H sc p cc l n a x2 x3 x4 x5 x6 x7 x8 x9 x10 x11 x12 x13 x14 x15 x16 β F S W b2 b10 f1 fs s9 h3 h5 h6 q => ?_⟩
  subst h3 h5 h6
  have big : (2 : Nat) ^ 900 ≤ 2 ^ 1000 := Nat.pow_le_pow_right (by decide) (by decide)
  have sq : Sq (.tuple [.int F, .list [.int S]]) := sq_plain ⟨pl_int (by omega), ⟨pl_int (by omega), trivial⟩, trivial⟩ (by simp [cap, capAll]) (by simp [PyData.depth, PyData.depthAll])
  have sp := sq.pair (x := "range") (wd_len (n := 4) (by decide) (by decide))
  obtain ⟨y1, y2, y3⟩ := sm_sz sp
  refine rd_raisedA (n := 4) (A := IsP (.tuple [.int F, .list [.int S]])) W.t (isP_keeps (by simp) (by simp) (by simp) (by simp)) (fun H1 g1 HZ eZ E Q' hE => ⟨_, rfl, _, rfl, _, rfl, (by show (1:Nat) ≤ sizeLine; rw [sizeLine_eq]; omega), fun ll nll => ⟨.int β, .int F, .ref ll, true, true, false, rfl, bs_yes b2 b10, nm_yes f1, Pv.nm (.lst (is := [(S : Int)]) upd_same), (fun z => nomatch z), fun _ _ => leavesP_of (.int F) (.lst (is := [(S : Int)]) upd_same) (fun cls d' H2 vs ex => hE cls d' H2 vs ((Ex.new nll).trans ex)), fun _ z => nomatch z⟩⟩) fun vs1 r1 H1 x1 T1 a1 g1 => ?_
  obtain ⟨b1, rfl, p1⟩ := a1.pv
  refine ⟨.ref r1, .tuple [.str "range", .tuple [.int F, .list [.int S]]], rfl, .pair (st_of g1) p1.dj, y1, y2, y3, _, rfl, _, rfl, (by show (1:Nat) ≤ sizeLine; rw [sizeLine_eq]; omega), fun l2 nl2 => ⟨(by show (2:Nat) ≤ sizeLine; rw [sizeLine_eq]; omega), fun t2 nt2 => ⟨(by show (2:Nat) ≤ sizeLine; rw [sizeLine_eq]; omega), fun t3 nt3 => ?_⟩⟩⟩
  have f2 := Ex.new (o := .lst [.int (S : Int)]) nl2
  have f3 := Ex.new (o := .tup [.int (F : Int), .ref l2]) nt2
  have f4 := Ex.new (o := .tup [.str "range", .ref t2]) nt3
  have hDj : Dj (K03 w.params) (upd (upd (upd H1 l2 (.lst [.int (S : Int)])) t2 (.tup [.int (F : Int), .ref l2])) t3 (.tup [.str "range", .ref t2])) (.ref t3) (.tuple [.str "range", .tuple [.int F, .list [.int S]]]) :=
    .pair (st_of upd_same) (Pv.dj (.pair (f4 _ _ upd_same) (.int F) (.lst (is := [(S : Int)]) ((f3.trans f4) _ _ upd_same))))
  refine ⟨.ref t3, .tuple [.str "range", .tuple [.int F, .list [.int S]]], rfl, hDj, y1, y2, y3, rfl, _, rfl, ?_⟩
  rw [decide_eq_true rfl]
  exact q _ ((W.extN x1 T1).ex ((f2.trans f3).trans f4))
end
end KH3

namespace KH3
open PySem L2 Evl ExM Dg LamR LamX Told TL
open Dr (StAt SameB)
section
variable {w : World} {mg : Str → Option Value} {h base : Heap} (X : (K03 w.params).In h) (G : h.Ns mainGlobals mg) {c : Addr} {A : Around} {outer : List Env} {s : Shared} {H0 : Hp} {E0 : XK} {P : Addr} {T : List (Addr × Str)} (R : Rm w mg base c A outer s H0 E0 P T) (L : TxL mg)
include X G R L
theorem turnR : ∃ t, PSs (XL w mg base c A outer s H0 E0) [inLoop 0, inLoop 1, inLoop 2, inLoop 3, inLoop 4, inLoop 5, inLoop 6, inLoop 7, inLoop 8, inLoop 9, inLoop 10] t ∧ ∀ (D : Ends) (H : Hp) (sc p cc l : Addr) (n : Nat) (a : Int) (x2 x3 x4 x5 x6 x7 x8 x9 x10 x11 x12 x13 x14 x15 x16 : Option V), l ≠ cc → a + 3000 < 2 ^ 39 → Lw T p cc l n a H →
    (∀ (y3 y4 y5 y6 y7 y8 y9 y10 y11 : Option V) (a' : Int) (H' : Hp), a ≤ a' → a' ≤ a + 500 → Lw T p cc l n a' H' → D.nx [some (.ref sc), some (.ref p), x2, y3, y4, y5, y6, y7, y8, y9, y10, y11, x12, x13, x14, x15, x16] H') → t D [some (.ref sc), some (.ref p), x2, x3, x4, x5, x6, x7, x8, x9, x10, x11, x12, x13, x14, x15, x16] H := by
  obtain ⟨t0, p0, q0⟩ := row0 X G R L
  obtain ⟨t1, p1, q1⟩ := row1 X G R L
  obtain ⟨t2, p2, q2⟩ := row2 X G R L
  obtain ⟨t3, p3, q3⟩ := row3 X G R L
  obtain ⟨t4, p4, q4⟩ := row4 X G R L
  obtain ⟨t5, p5, q5⟩ := row5 X G R L
  obtain ⟨t6, p6, q6⟩ := row6 X G R L
  obtain ⟨t7, p7, q7⟩ := row7 X G R L
  obtain ⟨t8, p8, q8⟩ := row8 X G R L
  obtain ⟨t9, p9, q9⟩ := row9 X G R L
  obtain ⟨t10, p10, q10⟩ := row10 X G R L
  refine ⟨_, (pss_cons p0 (pss_cons p1 (pss_cons p2 (pss_cons p3 (pss_cons p4 (pss_cons p5 (pss_cons p6 (pss_cons p7 (pss_cons p8 (pss_cons p9 (pss_one p10))))))))))), fun D H sc p cc l n a x2 x3 x4 x5 x6 x7 x8 x9 x10 x11 x12 x13 x14 x15 x16 nlc ha W q => ?_⟩
  refine q0 _ _ _ _ _ _ _ a _ _ _ _ _ _ _ _ _ _ _ _ _ _ _ nlc (by omega) W fun β m H1 b2 b10 m1 m200 W => ?_
  refine q1 _ _ _ _ _ _ _ _ _ _ _ _ _ _ _ _ _ _ _ _ _ _ _ β m nlc (by omega) W b2 b10 m1 m200 rfl rfl fun F S H2 a' f1 fs s9 a1 a2 W => ?_
  refine q2 _ _ _ _ _ _ _ _ _ _ _ _ _ _ _ _ _ _ _ _ _ _ _ β F S W b2 b10 f1 fs s9 rfl rfl rfl fun H3 W => ?_
  refine q3 _ _ _ _ _ _ _ _ _ _ _ _ _ _ _ _ _ _ _ _ _ _ _ nlc (by omega) W fun b d H4 pb nb sqb W => ?_
  refine q4 _ _ _ _ _ _ _ _ _ _ _ _ _ _ _ _ _ _ _ _ _ _ _ F S b d nlc (by omega) W f1 fs s9 rfl rfl pb fun t v u e1 e2 H5 pb nr ht W => ?_
  refine q5 _ _ sc p cc l n a _ _ _ _ _ _ _ _ _ _ _ _ _ _ _ t v u rfl ht ?_
  refine q6 _ _ _ _ _ _ _ _ _ _ _ _ _ _ _ _ _ _ _ _ _ _ _ b v u d e1 e2 W rfl rfl rfl pb nb nr fun tp r1 r2 H6 x6 W g0 g1 g2 => ?_
  have pb6 := pb.extN x6
  refine q7 _ _ _ _ _ _ _ _ _ _ _ _ _ _ _ _ _ _ _ _ _ _ _ b b b d tp r1 r2 W rfl rfl pb6 pb6 pb6 sqb g0 g1 g2 fun H7 e7 W => ?_
  refine q8 _ _ _ _ _ _ _ _ _ _ _ _ _ _ _ _ _ _ _ _ _ _ _ β v u e1 e2 W b2 b10 rfl rfl rfl nr fun tp r1 r2 b1 b2' H8 x8 W pb1 pb2 g0 g1 g2 => ?_
  have ht8 : Pv H8 (.ref t) (.tuple [e1, e2]) := .pair (x8 _ _ (e7 _ _ (x6 _ _ ht (by simp))) (by simp)) (nr.fv _) (nr.fu _)
  refine q9 _ _ _ _ _ _ _ _ _ _ _ _ _ _ _ _ _ _ _ _ _ _ _ (.ref t) b1 b2' _ tp r1 r2 W rfl rfl ht8 pb1 pb2 nr.s g0 g1 g2 fun H9 e9 W => ?_
  refine q10 _ _ _ _ _ _ _ _ _ _ _ _ _ _ _ _ _ _ _ _ _ _ _ β F S W b2 b10 f1 fs s9 rfl rfl rfl fun H10 W => ?_
  exact q _ _ _ _ _ _ _ _ _ _ _ (by omega) (by omega) W
end
instance {β f s m : Nat} : Decidable (ChgIs β f s m) := by
  unfold ChgIs
  infer_instance
instance {β d k : Nat} : Decidable (NearIs β d k) := by
  unfold NearIs
  infer_instance
def quads : List (Nat × Nat × Nat × Nat) := [(5, 6, 1, 0), (1234, 1237, 1, 1), (199, 201, 3, 1), (96, 117, 3, 2), (99, 100, 3, 0), (100, 200, 3, 2), (1, 1000, 4, 3), (1000, 1100, 3, 2), (1000, 1101, 3, 3)]
theorem quads_ok : ∀ q ∈ quads, 1 ≤ q.1 ∧ q.1 < q.2.1 ∧ ChgIs 10 q.1 q.2.1 q.2.2.1 ∧ NearIs 10 (q.2.1 - q.1) q.2.2.2 := by decide +kernel
/-- the rows lie at the addresses ts -/
def Quads (H : Hp) (ts : List V) : Prop := ts.length = 9 ∧ ∀ (i : Nat) (x : V), ts[i]? = some x → ∃ (t : Addr) (q : Nat × Nat × Nat × Nat), q ∈ quads ∧ x = .ref t ∧ H t = some (.tup [.int q.1, .int q.2.1, .int q.2.2.1, .int q.2.2.2])
theorem et_neI2 {K : PySem.W.Frag} {σ : St} {H : Hp} {ta tb : TE} {bs : List Int} (ha : EvL ta σ H (bs.map V.int)) (hb : EvL tb σ H (bs.map V.int)) : EvT (tTest (tOp (rNeD K) ta tb)) σ H false :=
  et_test (ev_opLL ha hb fun p q H1 hp hq e => fun H2 e2 Q k => ⟨_, _, .lst (sq_of (e2 _ _ hp)) (dpAll_ints bs), .lst (sq_of (e2 _ _ hq)) (dpAll_ints bs), Dr.shaped_ints bs, Dr.shaped_ints bs, by
    rw [SeqAt.eqv_refl _ (Bool.and_eq_true_iff.mp (Dr.shaped_ints bs)).1]
    exact k _ (Ex.refl _)⟩)
section
variable {w : World} {mg : Str → Option Value} {h base : Heap} (X : (K03 w.params).In h) (G : h.Ns mainGlobals mg) {c : Addr} {A : Around} {outer : List Env} {s : Shared} {H0 : Hp} {E0 : XK} {P : Addr} {T : List (Addr × Str)} (R : Rm w mg base c A outer s H0 E0 P T) (L : TxL mg)
include X G R L
theorem row20 : ∃ t, PS (XL w mg base c A outer s H0 E0) (inLaw 2) t ∧ ∀ (D : Ends) (H : Hp) (sc p cc l : Addr) (n : Nat) (a : Int) (x2 x3 x4 x5 x6 x7 x8 x9 x10 x11 x12 x13 x14 x15 x16 : Option V), (∀ (rl t0 t1 t2 t3 t4 t5 : Addr) (H' : Hp), H' rl = some (.lst [.ref t0, .ref t1, .ref t2, .ref t3, .ref t4, .ref t5]) → H' t0 = some (.tup [.int 5, .int 6, .int 1, .int 0]) → H' t1 = some (.tup [.int 1234, .int 1237, .int 1, .int 1]) → H' t2 = some (.tup [.int 199, .int 201, .int 3, .int 1]) → H' t3 = some (.tup [.int 96, .int 117, .int 3, .int 2]) → H' t4 = some (.tup [.int 99, .int 100, .int 3, .int 0]) → H' t5 = some (.tup [.int 100, .int 200, .int 3, .int 2]) → D.nx [some (.ref sc), some (.ref p), x2, x3, x4, x5, x6, x7, x8, x9, x10, x11, some (.ref rl), x13, x14, x15, x16] H') → t D [some (.ref sc), some (.ref p), x2, x3, x4, x5, x6, x7, x8, x9, x10, x11, x12, x13, x14, x15, x16] H := by
  obtain ⟨hr, hu64, TB, hT, hu⟩ := R
  refine ⟨_, (ps_set (i := 12) scLaw.nd rfl (.inl rfl) (pe_lst (pa_cons (pe_tup (pa_cons pe_int (pa_cons pe_int (pa_cons pe_int (pa_cons pe_int pa_nil))))) (pa_cons (pe_tup (pa_cons pe_int (pa_cons pe_int (pa_cons pe_int (pa_cons pe_int pa_nil))))) (pa_cons (pe_tup (pa_cons pe_int (pa_cons pe_int (pa_cons pe_int (pa_cons pe_int pa_nil))))) (pa_cons (pe_tup (pa_cons pe_int (pa_cons pe_int (pa_cons pe_int (pa_cons pe_int pa_nil))))) (pa_cons (pe_tup (pa_cons pe_int (pa_cons pe_int (pa_cons pe_int (pa_cons pe_int pa_nil))))) (pa_cons (pe_tup (pa_cons pe_int (pa_cons pe_int (pa_cons pe_int (pa_cons pe_int pa_nil))))) pa_nil)))))))), fun D H sc p cc l n a x2 x3 x4 x5 x6 x7 x8 x9 x10 x11 x12 x13 x14 x15 x16 q => ?_⟩
  refine ⟨(by show (4:Nat) ≤ sizeLine; rw [sizeLine_eq]; omega), fun t0 n0 => ⟨(by show (4:Nat) ≤ sizeLine; rw [sizeLine_eq]; omega), fun t1 n1 => ⟨(by show (4:Nat) ≤ sizeLine; rw [sizeLine_eq]; omega), fun t2 n2 => ⟨(by show (4:Nat) ≤ sizeLine; rw [sizeLine_eq]; omega), fun t3 n3 => ⟨(by show (4:Nat) ≤ sizeLine; rw [sizeLine_eq]; omega), fun t4 n4 => ⟨(by show (4:Nat) ≤ sizeLine; rw [sizeLine_eq]; omega), fun t5 n5 => ⟨(by show (6:Nat) ≤ sizeLine; rw [sizeLine_eq]; omega), fun rl nrl => ?_⟩⟩⟩⟩⟩⟩⟩
  have a0 := Ex.new (o := .tup [.int 5, .int 6, .int 1, .int 0]) n0
  have a1 := Ex.new (o := .tup [.int 1234, .int 1237, .int 1, .int 1]) n1
  have a2 := Ex.new (o := .tup [.int 199, .int 201, .int 3, .int 1]) n2
  have a3 := Ex.new (o := .tup [.int 96, .int 117, .int 3, .int 2]) n3
  have a4 := Ex.new (o := .tup [.int 99, .int 100, .int 3, .int 0]) n4
  have a5 := Ex.new (o := .tup [.int 100, .int 200, .int 3, .int 2]) n5
  have ar := Ex.new (o := .lst [.ref t0, .ref t1, .ref t2, .ref t3, .ref t4, .ref t5]) nrl
  exact q rl t0 t1 t2 t3 t4 t5 _ upd_same ((((((a1.trans a2).trans a3).trans a4).trans a5).trans ar) _ _ upd_same) (((((a2.trans a3).trans a4).trans a5).trans ar) _ _ upd_same) ((((a3.trans a4).trans a5).trans ar) _ _ upd_same) (((a4.trans a5).trans ar) _ _ upd_same) ((a5.trans ar) _ _ upd_same) (ar _ _ upd_same)
theorem row21 : ∃ t, PS (XL w mg base c A outer s H0 E0) (inLaw 3) t ∧ ∀ (D : Ends) (H : Hp) (sc p cc l : Addr) (n : Nat) (a : Int) (x2 x3 x4 x5 x6 x7 x8 x9 x10 x11 x12 x13 x14 x15 x16 : Option V) (rl t0 t1 t2 t3 t4 t5 : Addr), x12 = some (.ref rl) → H rl = some (.lst [.ref t0, .ref t1, .ref t2, .ref t3, .ref t4, .ref t5]) → H t0 = some (.tup [.int 5, .int 6, .int 1, .int 0]) → H t1 = some (.tup [.int 1234, .int 1237, .int 1, .int 1]) → H t2 = some (.tup [.int 199, .int 201, .int 3, .int 1]) → H t3 = some (.tup [.int 96, .int 117, .int 3, .int 2]) → H t4 = some (.tup [.int 99, .int 100, .int 3, .int 0]) → H t5 = some (.tup [.int 100, .int 200, .int 3, .int 2]) →
    (∀ (rl : Addr) (ts : List V) (H' : Hp), H' rl = some (.lst ts) → Quads H' ts → D.nx [some (.ref sc), some (.ref p), x2, x3, x4, x5, x6, x7, x8, x9, x10, x11, some (.ref rl), x13, x14, x15, x16] H') → t D [some (.ref sc), some (.ref p), x2, x3, x4, x5, x6, x7, x8, x9, x10, x11, x12, x13, x14, x15, x16] H := by
  obtain ⟨hr, hu64, TB, hT, hu⟩ := R
  refine ⟨_, (ps_set (i := 12) scLaw.nd rfl (.inl rfl) (pe_op op_cat (pv 12) (pe_lst (pa_cons (pe_tup (pa_cons pe_int (pa_cons pe_int (pa_cons pe_int (pa_cons pe_int pa_nil))))) (pa_cons (pe_tup (pa_cons pe_int (pa_cons pe_int (pa_cons pe_int (pa_cons pe_int pa_nil))))) (pa_cons (pe_tup (pa_cons pe_int (pa_cons pe_int (pa_cons pe_int (pa_cons pe_int pa_nil))))) pa_nil)))))), fun D H sc p cc l n a x2 x3 x4 x5 x6 x7 x8 x9 x10 x11 x12 x13 x14 x15 x16 rl t0 t1 t2 t3 t4 t5 h12 g g0 g1 g2 g3 g4 g5 q => ?_⟩
  subst h12
  refine ⟨_, rfl, ⟨(by show (4:Nat) ≤ sizeLine; rw [sizeLine_eq]; omega), fun t6 n6 => ⟨(by show (4:Nat) ≤ sizeLine; rw [sizeLine_eq]; omega), fun t7 n7 => ⟨(by show (4:Nat) ≤ sizeLine; rw [sizeLine_eq]; omega), fun t8 n8 => ⟨(by show (3:Nat) ≤ sizeLine; rw [sizeLine_eq]; omega), fun r2 nr2 => ?_⟩⟩⟩⟩⟩
  have a6 := Ex.new (o := .tup [.int 1, .int 1000, .int 4, .int 3]) n6
  have a7 := Ex.new (o := .tup [.int 1000, .int 1100, .int 3, .int 2]) n7
  have a8 := Ex.new (o := .tup [.int 1000, .int 1101, .int 3, .int 3]) n8
  have ar := Ex.new (o := .lst [.ref t6, .ref t7, .ref t8]) nr2
  have all := ((a6.trans a7).trans a8).trans ar
  refine ⟨rl, r2, _, _, rfl, rfl, all _ _ g, upd_same, (by show (9:Nat) ≤ sizeLine; rw [sizeLine_eq]; omega), fun sx hsx => ?_⟩
  have ax := Ex.new (o := .lst [.ref t0, .ref t1, .ref t2, .ref t3, .ref t4, .ref t5, .ref t6, .ref t7, .ref t8]) hsx
  have e := all.trans ax
  refine q sx [.ref t0, .ref t1, .ref t2, .ref t3, .ref t4, .ref t5, .ref t6, .ref t7, .ref t8] _ upd_same ⟨rfl, fun i x hx => ?_⟩
  have hi : i < 9 := (List.getElem?_eq_some_iff.mp hx).1
  have cc : i = 0 ∨ i = 1 ∨ i = 2 ∨ i = 3 ∨ i = 4 ∨ i = 5 ∨ i = 6 ∨ i = 7 ∨ i = 8 := by omega
  rcases cc with rfl | rfl | rfl | rfl | rfl | rfl | rfl | rfl | rfl <;> cases hx
  · exact ⟨t0, (5, 6, 1, 0), by decide, rfl, e _ _ g0⟩
  · exact ⟨t1, (1234, 1237, 1, 1), by decide, rfl, e _ _ g1⟩
  · exact ⟨t2, (199, 201, 3, 1), by decide, rfl, e _ _ g2⟩
  · exact ⟨t3, (96, 117, 3, 2), by decide, rfl, e _ _ g3⟩
  · exact ⟨t4, (99, 100, 3, 0), by decide, rfl, e _ _ g4⟩
  · exact ⟨t5, (100, 200, 3, 2), by decide, rfl, e _ _ g5⟩
  · exact ⟨t6, (1, 1000, 4, 3), by decide, rfl, (((a7.trans a8).trans ar).trans ax) _ _ upd_same⟩
  · exact ⟨t7, (1000, 1100, 3, 2), by decide, rfl, ((a8.trans ar).trans ax) _ _ upd_same⟩
  · exact ⟨t8, (1000, 1101, 3, 3), by decide, rfl, (ar.trans ax) _ _ upd_same⟩
theorem row22 : ∃ t, PS (XL w mg base c A outer s H0 E0) (inLaw 4) t ∧ ∀ (D : Ends) (H : Hp) (sc p cc l : Addr) (n : Nat) (a : Int) (x2 x3 x4 x5 x6 x7 x8 x9 x10 x11 x12 x13 x14 x15 x16 : Option V) (rl : Addr) (ts : List V), x12 = some (.ref rl) → H rl = some (.lst ts) → Quads H ts → (∀ (H' : Hp), D.rt (.bl true) H') → t D [some (.ref sc), some (.ref p), x2, x3, x4, x5, x6, x7, x8, x9, x10, x11, x12, x13, x14, x15, x16] H := by
  obtain ⟨hr, hu64, TB, hT, hu⟩ := R
  refine ⟨_, (ps_ret (pe_cmpR (op_eqD (show _ + 64 < cLine from hu64)) (pe_lc (own := [("a", 13), ("b", 14), ("c", 15), ("d", 16)]) (g := (gTup (K03 w.params) 4 (gCons (gName 13) (gCons (gName 14) (gCons (gName 15) (gCons (gName 16) gNil)))))) rfl scLaw.nd (pi_list (pv 12)) (blkOk_by (own := [("a", 13), ("b", 14), ("c", 15), ("d", 16)]) (N := nLaw) (sc := defScope sLaw) (by decide +kernel)) (fun _ _ _ _ _ => (show PG _ _ (gTup (K03 w.params) 4 (gCons (gName 13) (gCons (gName 14) (gCons (gName 15) (gCons (gName 16) gNil))))) from (pg_tup (by rfl) (pgs_cons (pg_name (i := 13) scLaw.nd rfl (.inl rfl)) (pgs_cons (pg_name (i := 14) scLaw.nd rfl (.inl rfl)) (pgs_cons (pg_name (i := 15) scLaw.nd rfl (.inl rfl)) (pgs_cons (pg_name (i := 16) scLaw.nd rfl (.inl rfl)) pgs_nil))))))) (fun _ _ _ _ _ => pts_one (pt_cmpR (r := rNeD (K03 w.params)) (op_neD (by exact hu64)) (pe_lst (pa_cons (pe_callS (f_changed X G) (hr.r.mono (by decide)) (by rfl) (txJ X G).chg (kp_changed _) (bd_changed _) (fun σ => passAt L2.takes0 σ) (pa_cons pe_int (pa_cons (pv 13) (pa_cons (pv 14) pa_nil)))) (pa_cons (pe_callS (f_near X G) (hr.r.mono (by decide)) (by rfl) (txJ X G).near (kp_near _) (bd_near _) (fun σ => passAt L2.takes0 σ) (pa_cons pe_int (pa_cons (pv 13) (pa_cons (pv 14) pa_nil)))) pa_nil))) (pe_lst (pa_cons (pv 15) (pa_cons (pv 16) pa_nil))) (nomark _))) (fun _ _ _ _ _ => pe_int)) (pe_lst pa_nil) (nomark _))), fun D H sc p cc l n a x2 x3 x4 x5 x6 x7 x8 x9 x10 x11 x12 x13 x14 x15 x16 rl ts h12 g qd q => ?_⟩
  subst h12
  refine ev_opLL (z := .bl true) (xs := []) (ys := []) ?_ (el_lst ea_nil (by simp)) (fun p1 p2 H1 h1 h2 e => ?_) H (Ex.refl _) _ fun H2 e2 => q H2
  · refine fun H1 e1 Q k => ⟨_, rfl, rl, rfl, ⟨ts, sq_of (e1 _ _ g)⟩, fun Dl hD => ?_⟩
    have gv : ∀ n, given n (fun _ => false) (fun _ => V.int 1) = [] := fun n => by simp [given]
    refine lc_list (xs := ts) (Cw H1 (fun _ => false) (fun _ => .int 1) Dl) ⟨hD, Ex.new hD, upd_same⟩ (fun i H' _ p => sq_of (p.2.1 _ _ (e1 _ _ g))) (fun i x H' hi p => ?_) (fun H' p => k Dl H' hD p.2.1 (by rw [p.2.2, gv]))
    obtain ⟨t, qd4, hq, rfl, ht⟩ := qd.2 i x hi
    obtain ⟨g1, g2, g3, g4⟩ := quads_ok _ hq
    have ht' := p.2.1 _ _ (e1 _ _ ht)
    have hlt : i < 9 := by
      have := (List.getElem?_eq_some_iff.mp hi).1
      have := qd.1
      omega
    refine ⟨t, _, rfl, st_of ht', rfl, _, _, rfl, _, _, rfl, _, _, rfl, _, _, rfl, rfl, rfl, ?_⟩
    refine cw_turn p (by omega) ?_ (fun z => nomatch z)
    exact et_neI2 (bs := [(qd4.2.2.1 : Int), (qd4.2.2.2 : Int)]) (el_lst (ea_cons (ev_rng (β := 10) ev_c (ev_var rfl) (ev_var rfl) (by decide) (by decide) g1 g2 fun m' h => h.uniq g3) (ea_cons (ev_rng (β := 10) ev_c (ev_var rfl) (ev_var rfl) (by decide) (by decide) g1 g2 fun m' h => NearIs.uniq h g4) ea_nil)) (by simp)) (el_lst (ea_cons (ev_var rfl) (ea_cons (ev_var rfl) ea_nil)) (by simp))
  · refine fun H2 e2 Q k => ⟨.list [], .list [], .lst (sq_of (e2 _ _ h1)) .nil, .lst (sq_of (e2 _ _ h2)) .nil, by decide +kernel, by decide +kernel, ?_⟩
    rw [show PyData.eqv (.list []) (.list []) = true by decide +kernel]
    exact k _ (Ex.refl _)
end
end KH3

namespace KH3
open PySem L2 Evl ExM Dg LamR LamX Told TL
open Dr (StAt SameB)
abbrev T03 : List (Addr × Str) := [(443, ("law.<locals>.<lambda>" : Str))]
def spLaw3 (K : PySem.W.Frag) : Sp := fun vs H Q _ => ∃ (a : Addr) (ns : List Int), vs = [.ref a] ∧ SqL K H a (ns.map V.int) ∧ ns.length ≤ 63 ∧ Tabs T03 H ∧ ∀ H', Q (.bl true) H'
section
variable {w : World} {mg : Str → Option Value} {h base : Heap} (X : (K03 w.params).In h) (G : h.Ns mainGlobals mg) {c : Addr} {A : Around} {outer : List Env} {s : Shared} {H0 : Hp} {E0 : XK} {P : Addr} {T : List (Addr × Str)} (R : Rm w mg base c A outer s H0 E0 P T) (L : TxL mg)
include X G R L
theorem lawR : ∃ t, PSs (XL w mg base c A outer s H0 E0) [inLaw 0, inLaw 1, inLaw 2, inLaw 3, inLaw 4] t ∧ ∀ (D : Ends) (H : Hp) (sc : Addr) (ns : List Int), SqL (K03 w.params) H sc (ns.map V.int) → ns.length ≤ 63 → Tabs T H →
    (∀ (H' : Hp), D.rt (.bl true) H') → t D (L2.start nLaw [V.ref sc]) H := by
  obtain ⟨tT, pT, qT⟩ := turnR X G R L
  obtain ⟨t20, p20, q20⟩ := row20 X G R L
  obtain ⟨t21, p21, q21⟩ := row21 X G R L
  obtain ⟨t22, p22, q22⟩ := row22 X G R L
  obtain ⟨hr, hu64, TB, hT, hu⟩ := R
  refine ⟨_, pss_cons (ps_set (i := 1) scLaw.nd rfl (.inl rfl) (pe_call (f_begin X G) (hr.r.mono (by decide)) (by rfl) L.begin (kp_l_begin _) (bd_l_begin _) .nil pass0 (pa_cons (pv 0) pa_nil))) (pss_cons (ps_for PassesOwn.never rfl (pi_range1 (by rfl) L.range (pa_cons (pe_op op_add pe_int (pe_callB (call_min2 (by rfl)) (by rfl) L.min (by decide +kernel) (pa_cons pe_int (pa_cons (pe_callB call_len_seq (by rfl) (txT X G).len (by decide +kernel) (pa_cons (pv 0) pa_nil)) pa_nil)))) pa_nil)) (pg_name (i := 2) scLaw.nd rfl (.inl rfl)) pT) (pss_cons p20 (pss_cons p21 (pss_one p22)))), fun D H sc ns hS hlen hTb q => ?_⟩
  refine ⟨_, rfl, sc, ns, rfl, hS, hlen, fun p cc l n H1 sm np nl S0 nlc => ?_⟩
  have eL : Ev (tCB (rLenS (K03 w.params)) (tCons (tVar 0) tNil)) ((L2.start nLaw [V.ref sc]).set 1 (some (.ref p))) H1 (.int ((ns.map V.int).length : Int)) := ev_len (ev_var rfl) (Same.seq sm hS)
  obtain ⟨N, hN, hN8⟩ : ∃ N : Nat, 3 + (if ((ns.map V.int).length : Int) < 6 then ((ns.map V.int).length : Int) else 6) = (N : Int) ∧ N ≤ 9 := by
    by_cases h : ((ns.map V.int).length : Int) < 6
    · rw [if_pos h]; exact ⟨3 + (ns.map V.int).length, by omega, by omega⟩
    · rw [if_neg h]; exact ⟨9, by omega, by omega⟩
  have eA : EvA (tCons (tOp (rI0 fun i j => V.int (i + j)) (tC (V.int 3)) (tCB (fun xs H Q => ∃ i j : Int, xs = [V.int i, V.int j] ∧ Q (V.int (if j < i then j else i)) H) (tCons (tC (V.int 6)) (tCons (tCB (rLenS (K03 w.params)) (tCons (tVar 0) tNil)) tNil)))) tNil)
      ((L2.start nLaw [V.ref sc]).set 1 (some (.ref p))) H1 [V.int (N : Int)] := by
    rw [← hN]
    exact ea_cons (ev_op ev_c (ev_cb (ea_cons ev_c (ea_cons eL ea_nil)) fun H1 _ Q k => ⟨_, _, rfl, k _ (Ex.refl _)⟩) rv_I0) ea_nil
  refine q_forR1 (D := D) (n := (N : Int)) eA (by omega)
    (fun t σ H' => (∃ x2 x3 x4 x5 x6 x7 x8 x9 x10 x11, σ = [some (.ref sc), some (.ref p), x2, x3, x4, x5, x6, x7, x8, x9, x10, x11, none, none, none, none, none]) ∧ ∃ a : Int, a ≤ 500 * (t : Int) ∧ Lw T p cc l n a H')
    (fun H2 e => ⟨⟨_, _, _, _, _, _, _, _, _, _, rfl⟩, 0, by omega, (⟨S0, hTb.ext sm⟩ : Lw T p cc l n 0 H1).ex e⟩) (fun t σ H2 ht ⟨⟨x2, x3, x4, x5, x6, x7, x8, x9, x10, x11, hσ⟩, a, ha, W⟩ => ?_) (fun σ H2 ⟨⟨x2, x3, x4, x5, x6, x7, x8, x9, x10, x11, hσ⟩, a, ha, W⟩ => ?_)
  · subst hσ
    refine qT _ _ _ _ _ _ _ a _ _ _ _ _ _ _ _ _ _ _ _ _ _ _ nlc (by omega) W fun y3 y4 y5 y6 y7 y8 y9 y10 y11 a' H' a1 a2 W' => ?_
    exact ⟨⟨_, _, _, _, _, _, _, _, _, _, rfl⟩, a', by omega, W'⟩
  · subst hσ
    refine q20 _ _ _ _ cc l n a _ _ _ _ _ _ _ _ _ _ _ _ _ _ _ fun rl t0 t1 t2 t3 t4 t5 H3 g g0 g1 g2 g3 g4 g5 => ?_
    refine q21 _ _ _ _ cc l n a _ _ _ _ _ _ _ _ _ _ _ _ _ _ _ rl t0 t1 t2 t3 t4 t5 rfl g g0 g1 g2 g3 g4 g5 fun rl ts H4 g qd => ?_
    exact q22 _ _ _ _ cc l n a _ _ _ _ _ _ _ _ _ _ _ _ _ _ _ rl ts rfl g qd fun H5 => q H5
end
section
variable {w : World} {mg : Str → Option Value} {h base : Heap} (X : (K03 w.params).In h) (G : h.Ns mainGlobals mg)
include X G
theorem txL : TxL mg where
  of := PySem.W.mg_of X G (show PySem.W.nsIn (K03 w.params) mainGlobals "_law_of" = some (some (.ref 392)) by kernel_rfl)
  lrange := PySem.W.mg_of X G (show PySem.W.nsIn (K03 w.params) mainGlobals "_law_range" = some (some (.ref 434)) by kernel_rfl)
  lright := PySem.W.mg_of X G (show PySem.W.nsIn (K03 w.params) mainGlobals "_law_right" = some (some (.ref 441)) by kernel_rfl)
  begin := PySem.W.mg_of X G (show PySem.W.nsIn (K03 w.params) mainGlobals "_law_begin" = some (some (.ref 378)) by kernel_rfl)
  raised := PySem.W.mg_of X G (show PySem.W.nsIn (K03 w.params) mainGlobals "_law_raised" = some (some (.ref 399)) by kernel_rfl)
  repr := PySem.W.mg_none_of X G (show PySem.W.nsIn (K03 w.params) mainGlobals "repr" = some none by kernel_rfl)
  range := PySem.W.mg_none_of X G (show PySem.W.nsIn (K03 w.params) mainGlobals "range" = some none by kernel_rfl)
  min := PySem.W.mg_none_of X G (show PySem.W.nsIn (K03 w.params) mainGlobals "min" = some none by kernel_rfl)
theorem ok_law03 (TB : TabB base mg 445 443) : FnG P03 w (K03 w.params) mg base CX0 9 446 (PySem.W.fnOf "law" "law" (defArgs sLaw) (defBody sLaw) (defScope sLaw) .none (fO (K03 w.params) 446).kwdefaults (fO (K03 w.params) 446).doc (fO (K03 w.params) 446).pyModule (fO (K03 w.params) 446).annotations (.ref 445) (fO (K03 w.params) 446).closureTuple) ["script"] (spLaw3 (K03 w.params)) := by
  have lk : (K03 w.params).lookup 446 = some ⟨(oO (K03 w.params) 446).cls, (oO (K03 w.params) 446).dict, .func (PySem.W.fnOf "law" "law" (defArgs sLaw) (defBody sLaw) (defScope sLaw) .none (fO (K03 w.params) 446).kwdefaults (fO (K03 w.params) 446).doc (fO (K03 w.params) 446).pyModule (fO (K03 w.params) 446).annotations (.ref 445) (fO (K03 w.params) 446).closureTuple), (oO (K03 w.params) 446).slots⟩ := by kernel_rfl
  have hcd : PySem.W.codeIn (K03 w.params) (.ref 445) "law" = true := by kernel_rfl
  refine fn_ofG lk hcd scLaw (fun vs H Q E h => ?_) (fun A outer s H vs Q E hr h => ?_)
  · obtain ⟨a, ns, rfl, _⟩ := h
    rfl
  · obtain ⟨sc, ns, rfl, hS, hlen, hTb, q⟩ := h
    have hu64 : (A.deeper (PyProof.Rows.envOfC "law" (defScope sLaw) s.heap.objs.size 446 (.ref 445))).units + 64 < cLine := by have := hr.r.units; omega
    obtain ⟨t, pt, qt⟩ := lawR (A := A) (outer := outer) (s := s) (H0 := H) (E0 := E) (T := T03) X G ⟨hr, hu64, TB, List.mem_singleton.mpr rfl, fun p hp _ => by rw [List.mem_singleton.mp hp]⟩ (txL X G)
    exact ⟨t, pt.nox, qt _ _ _ ns hS hlen hTb fun H' => q H'⟩
end
end KH3

/-! The end of a law whose defs make lambdas and call repr. -/
namespace LamR
open PySem PySem.Spec PyProof.Rows L2 LamX
/-- a table of code objects, still empty -/
abbrev bare : Obj := { cls := .none, data := .fields #[] }
/-- what is known where the law is called; cs: code objects with their tables -/
structure HeadAt (K : PySem.W.Frag) (mg mb : Str → Option Value) (cs : List (Addr × Addr)) (s : Shared) : Prop where
  kin : K.In s.heap
  glob : s.heap.Ns mainGlobals mg
  blt : s.heap.Ns builtinsNs mb
  boot : ∀ x : Str, x ≠ "__name__" → mb x = bootBuiltins x
  lim : s.heap.NoLimit
  gens : s.gens = #[]
  tab : ∀ p ∈ cs, s.heap.get? p.2 = some bare
  off : ∀ p ∈ cs, K.lookup p.2 = none
  cod : ∀ p ∈ cs, PySem.W.CodeHd s.heap p.1 p.2
  bmod : ∃ (m : Addr) (o : Obj), mg "__builtins__" = some (.ref m) ∧ m ≠ builtinsNs ∧ s.heap.get? m = some o ∧ o.cls = .type "module" ∧ o.dict = some builtinsNs ∧ o.data = .plain
/-- what is followed: the tables, and the script where the written part has it not -/
structure Hid (K : PySem.W.Frag) (cs : List (Addr × Addr)) (a : Addr) (H : Hp) : Prop where
  only : ∀ b, H b ≠ none → b = a ∨ ∃ p ∈ cs, b = p.2
  mine : H a = none ∨ (K.lookup a = none ∧ ∃ o xs, H a = some (.frz o (.lst xs)))
  tabs : ∀ p ∈ cs, H p.2 = some (.tbl #[])
section
variable {P : Program} {w : World} {K : PySem.W.Frag} {mg mb : Str → Option Value} {cs : List (Addr × Addr)} {s : Shared} {a : Addr} {H : Hp} {vs : List Value}
/-- neither a list nor an empty row of fields: it is not followed -/
theorem Hid.out (h : Hid K cs a H) (D : HeadAt K mg mb cs s) (ha : s.heap.get? a = some { cls := .type "list", data := .seq vs.toArray }) {b : Addr} {o : Obj} (e : s.heap.get? b = some o) (nl : ∀ us n, o.data ≠ .seq us n) (nf : o.data ≠ .fields #[]) : H b = none := by
  by_cases z : H b = none
  · exact z
  · exfalso
    rcases h.only b z with q | ⟨p, hp, q⟩ <;> subst q
    · cases ha.symm.trans e
      exact nl _ _ rfl
    · cases (D.tab p hp).symm.trans e
      exact nf rfl
theorem Hid.stays (h : Hid K cs a H) (D : HeadAt K mg mb cs s) (ha : s.heap.get? a = some { cls := .type "list", data := .seq vs.toArray }) {b : Addr} {o : Obj} (e : s.heap.get? b = some o) (nl : ∀ us n, o.data ≠ .seq us n) (nf : o.data ≠ .fields #[]) : (hidT s.heap H).get? b = some o := hidT_get e (h.out D ha e nl nf)
theorem Hid.names (h : Hid K cs a H) (D : HeadAt K mg mb cs s) (ha : s.heap.get? a = some { cls := .type "list", data := .seq vs.toArray }) {b : Addr} {m : Str → Option Value} (n : s.heap.Ns b m) : (hidT s.heap H).Ns b m := by
  obtain ⟨o, es, ep, e, d, r⟩ := n
  refine ⟨o, es, ep, h.stays D ha e (fun us n z => ?_) (fun z => ?_), d, r⟩ <;> cases d.symm.trans z
theorem Hid.frag (h : Hid K cs a H) (D : HeadAt K mg mb cs s) : K.In (hidT s.heap H) := fun b o e => by
  refine hidT_get (D.kin b o e) ?_
  by_cases z : H b = none
  · exact z
  · exfalso
    rcases h.only b z with q | ⟨p, hp, q⟩ <;> subst q
    · rcases h.mine with y | ⟨y, _⟩
      · exact z y
      · cases y.symm.trans e
    · cases (D.off p hp).symm.trans e
theorem Hid.table (h : Hid K cs a H) (D : HeadAt K mg mb cs s) (ha : s.heap.get? a = some { cls := .type "list", data := .seq vs.toArray }) : ∀ p ∈ cs, TabB (hidT s.heap H) mg p.1 p.2 := fun p hp => by
  have tp := D.tab p hp
  have gl := D.glob
  refine ⟨?_, ?_, fun z => ?_⟩
  · obtain ⟨o, us, file, tf, flags, tg, inF, text, tt, e1, k1, k2, k3, rest⟩ := D.cod p hp
    refine ⟨o, us, file, tf, flags, tg, inF, text, tt, h.stays D ha e1 (fun vs n z => ?_) (fun z => ?_), k1, k2, k3, rest⟩
    · cases k2.symm.trans z
    · cases k2.symm.trans z
      simp at k3
  · obtain ⟨m, o, y1, y2, y3, y4, y5, y6⟩ := D.bmod
    refine ⟨m, o, y1, y2, fun q => ?_, fun q => ?_, h.stays D ha y3 (fun vs n z => ?_) (fun z => ?_), y4, y5, y6⟩
    · obtain ⟨o', es, ep, e', d', _⟩ := gl
      subst q
      cases y3.symm.trans e'
      cases y6.symm.trans d'
    · subst q
      cases y3.symm.trans tp
      cases y6
    · cases y6.symm.trans z
    · cases y6.symm.trans z
  · obtain ⟨o', es, ep, e', d', _⟩ := gl
    rw [z] at e'
    cases tp.symm.trans e'
    cases d'
/-- the call of the law, at what is followed -/
theorem call_at {CX : CXT} {k : Nat} {fa : Addr} {fd : FuncData} {x : Str} {sp : Sp} (h : Hid K cs a H) (D : HeadAt K mg mb cs s) (ha : s.heap.get? a = some { cls := .type "list", data := .seq vs.toArray }) (ok : HOk P w H s.heap) (hr : RoomG k callerA)
    (F : ∀ base : Heap, K.In base → base.Ns mainGlobals mg → (∀ p ∈ cs, TabB base mg p.1 p.2) → FnG P w K mg base CX k fa fd [x] sp) (hb : BindsTo s fd ⟨[.ref a], []⟩ [(x, .ref a)]) (hsp : sp [.ref a] H (fun v _ => v = .bl true) fun _ _ _ => False) (hCX : ∀ e s', CX [] H s (fun _ _ _ => False) e s' → False) :
    codeAny (model P w) callerA (.call (.ref fa) ⟨[.ref a], []⟩) (fun r s' => r = .ok (.ret (.bool true)) ∧ OldK s.heap s'.heap ∧ s'.os = s.os ∧ AllBare s'.gens) s := by
  have fr := h.frag D
  have gl := h.names D ha D.glob
  obtain ⟨mc, lim1, lim2⟩ := D.lim
  have env : Env0 P w K mg (hidT s.heap H) callerA [] s H :=
    ⟨rfl, ⟨fr, gl, ⟨mb, h.names D ha D.blt, D.boot⟩, ⟨mc, h.names D ha lim1, lim2⟩⟩, fun b o e => of_hidT e, Nat.le_of_eq (hidT_size _ _), trivial, fun b z => absurd (show b ∈ ([] : List Addr) from z) (by simp), ok, .of_eq D.gens⟩
  refine codeAny_mono ((F _ fr gl (h.table D ha)).run callerA [] s H ⟨[.ref a], []⟩ [.ref a] [.ref a] _ _ hr env hb (.cons rfl .nil) hsp) fun r s' hq => ?_
  match r, hq with
  | .error e, hq => exact (hCX e s' hq).elim
  | .ok (.ret u), ⟨v, H', os, gens, un, ok', rel, q⟩ =>
    have q : v = .bl true := q
    subst q
    have rel : u = Value.bool true := rel
    subst rel
    -- what was there is there still, but for the tables, which may have grown
    have old : ∀ b o, (∀ p ∈ cs, b ≠ p.2) → s.heap.get? b = some o → s'.heap.get? b = some o := fun b o nb e => by
      by_cases z : H b = none
      · exact un.keep b o e z (fun y => absurd (show b ∈ ([] : List Addr) from y) (by simp)) (by simp)
      · rcases h.only b z with y | ⟨p, hp, y⟩
        · subst y
          rcases h.mine with y | ⟨_, ob, xs, y⟩
          · exact (z y).elim
          · have g1 := (ok b _ y).1
            have g2 := (ok' b _ (un.frzs b ob _ y)).1
            cases e.symm.trans g1
            exact g2
        · exact (nb p hp y).elim
    have more : ∀ p ∈ cs, ∃ us : Array Value, s'.heap.get? p.2 = some { cls := .none, data := .fields us } := fun p hp =>
      let ⟨us, y⟩ := un.tbls p.2 #[] (h.tabs p hp)
      ⟨_, ok' p.2 _ y⟩
    refine ⟨rfl, ⟨fun b o e => ?_, fun b o e => ?_⟩, os, gens⟩
    · by_cases y : ∃ p ∈ cs, b = p.2
      · obtain ⟨p, hp, rfl⟩ := y
        obtain ⟨us, g⟩ := more p hp
        have tp := D.tab p hp
        cases tp.symm.trans e
        exact .inr (.inl ⟨((D.cod p hp).tab tp).isCodeTable, rfl, #[], us, rfl, by rw [Array.empty_append]; exact g⟩)
      · exact .inl (old b o (fun p hp z => y ⟨p, hp, z⟩) e)
    · by_cases y : ∃ p ∈ cs, b = p.2
      · obtain ⟨p, hp, rfl⟩ := y
        obtain ⟨us, g⟩ := more p hp
        exact ⟨_, g⟩
      · exact ⟨o, old b o (fun p hp z => y ⟨p, hp, z⟩) e⟩
  | .ok .next, hq => exact False.elim hq
  | .ok .brk, hq => exact False.elim hq
  | .ok .cont, hq => exact False.elim hq
/-- the script is followed as a list that stays, or stands in the written part -/
theorem call_law {CX : CXT} {k : Nat} {fa : Addr} {fd : FuncData} {x : Str} {sp : Sp} {ns : List Int} (D : HeadAt K mg mb cs s) (ha : s.heap.get? a = some { cls := .type "list", data := .seq vs.toArray }) (hi : IntsAre vs ns) (hl : ns.length ≤ sizeLine) (hr : RoomG k callerA)
    (F : ∀ base : Heap, K.In base → base.Ns mainGlobals mg → (∀ p ∈ cs, TabB base mg p.1 p.2) → FnG P w K mg base CX k fa fd [x] sp) (hb : ∀ u : Value, BindsTo s fd ⟨[u], []⟩ [(x, u)])
    (hsp : ∀ H : Hp, (∀ p ∈ cs, H p.2 = some (.tbl #[])) → SqL K H a (ns.map V.int) → sp [.ref a] H (fun v _ => v = .bl true) fun _ _ _ => False) (hCX : ∀ H e s', CX [] H s (fun _ _ _ => False) e s' → False) :
    codeAny (model P w) callerA (.call (.ref fa) ⟨[.ref a], []⟩) (fun r s' => r = .ok (.ret (.bool true)) ∧ OldK s.heap s'.heap ∧ s'.os = s.os ∧ AllBare s'.gens) s := by
  have rel := vals_ints hi
  have na : ∀ p ∈ cs, p.2 ≠ a := fun p hp z => by
    have tp := D.tab p hp
    rw [z] at tp
    cases ha.symm.trans tp
  have tabled : ∀ b, (∃ p ∈ cs, b = p.2) → s.heap.get? b = some bare := fun b ⟨p, hp, z⟩ => by
    rw [z]
    exact D.tab p hp
  classical
  let own : Option HO := if K.lookup a = none then some (.frz { cls := .type "list", data := .seq vs.toArray } (.lst (ns.map V.int))) else none
  let H : Hp := fun b => if b = a then own else if ∃ p ∈ cs, b = p.2 then some (.tbl #[]) else none
  have Ha : H a = own := if_pos rfl
  have Ht : ∀ p ∈ cs, H p.2 = some (.tbl #[]) := fun p hp => (if_neg (na p hp)).trans (if_pos ⟨p, hp, rfl⟩)
  have Hid0 : Hid K cs a H := by
    refine ⟨fun b z => ?_, ?_, Ht⟩
    · by_cases y : b = a
      · exact .inl y
      · by_cases y2 : ∃ p ∈ cs, b = p.2
        · exact .inr y2
        · exact (z ((if_neg y).trans (if_neg y2))).elim
    · rw [Ha]
      by_cases y : K.lookup a = none
      · exact .inr ⟨y, _, _, if_pos y⟩
      · exact .inl (if_neg y)
  have seq : SqL K H a (ns.map V.int) := by
    cases y : K.lookup a with
    | none => exact .inl (.inr ⟨_, Ha.trans (if_pos y)⟩)
    | some o =>
      cases (D.kin a o y).symm.trans ha
      exact .inr ⟨_, vs.toArray, _, y, rfl, rfl, rfl, by rw [List.size_toArray, hi.length]; exact hl, by simpa using rel⟩
  have ok : HOk P w H s.heap := fun b u z => by
    by_cases y : b = a
    · subst y
      rw [Ha] at z
      by_cases y2 : K.lookup b = none
      · cases (if_pos y2).symm.trans z
        exact ⟨ha, by rw [List.length_map]; exact hl, vs, _, rel, ha⟩
      · cases (if_neg y2).symm.trans z
    · by_cases y2 : ∃ p ∈ cs, b = p.2
      · cases ((if_neg y).trans (if_pos y2)).symm.trans z
        exact tabled b y2
      · cases ((if_neg y).trans (if_neg y2)).symm.trans z
  exact call_at Hid0 D ha ok hr F (hb _) (hsp H Ht seq) fun e s' => hCX H e s'
end
/-- the whole walk -/
theorem walk_T {l : PySem.W.OpenLaw} {n k : Nat} {q : Program} {loose : List Str} {XP : (Str → Option Value) → Heap → Prop} {YP : World → Heap → Prop} {d : DefRec} {K : Params → PySem.W.Frag} {CX : World → CXT} {x : Str} {cs : List (Addr × Addr)} {sp : World → Sp}
    (hn : l.most = some n) (hn2 : n ≤ sizeLine) (hdf : d.params.defaults = []) (hr : RoomG k callerA) (hY : ∀ (w : World) (h : Heap), YP w h → (K w.params).In h)
    (hT : ∀ (w : World) (h : Heap), YP w h → ∀ p ∈ cs, h.get? p.2 = some bare) (nT : ∀ w : World, ∀ p ∈ cs, (K w.params).lookup p.2 = none) (hC : ∀ w : World, ∀ p ∈ cs, PySem.W.codeHdIn (K w.params) p.1 p.2 = true)
    (F : ∀ (w : World) (mg : Str → Option Value) (fa : Addr) (h : Heap), (K w.params).In h → h.Ns mainGlobals mg → mg d.name = some (.ref fa) → ∃ fd : FuncData, (∀ (s : Shared) (u : Value), BindsTo s fd ⟨[u], []⟩ [(x, u)]) ∧
      ∀ base : Heap, (K w.params).In base → base.Ns mainGlobals mg → (∀ p ∈ cs, TabB base mg p.1 p.2) → FnG l.prog w (K w.params) mg base (CX w) k fa fd [x] (sp w))
    (hsp : ∀ (w : World) (H : Hp) (a : Addr) (ns : List Int), ns.length ≤ n → (∀ p ∈ cs, H p.2 = some (.tbl #[])) → SqL (K w.params) H a (ns.map V.int) → sp w [.ref a] H (fun v _ => v = .bl true) fun _ _ _ => False)
    (hCX : ∀ (w : World) (H : Hp) (s : Shared) (e : Value) (s' : Shared), CX w [] H s (fun _ _ _ => False) e s' → False) :
    PySem.W.WalkO q loose XP YP l.row.toRowW d [] (fun f vs => PySem.call f vs) := by
  refine Att.attach_call hn hdf fun w s₀ s₁ mg mb fa o pm cd doc a vs ns G Y _ _ _ hmg hobj hints hlen hg => ?_
  have kin := hY w _ Y
  obtain ⟨fd, hb, hF⟩ := F w mg fa _ kin G.T.g hmg
  exact call_law ⟨kin, G.T.g, G.T.b, G.T.builtins, G.T.nolimit, hg, hT w _ Y, nT w, fun p hp => PySem.W.codeHd_of_K kin (hC w p hp), G.T.bmain⟩ hobj hints (Nat.le_trans hlen hn2) hr hF (hb s₁) (fun H hH hS => hsp w H a ns hlen hH hS) fun H e s' => hCX w H s₁ e s'
end LamR

namespace KH3
open PySem L2 Evl ExM Dg LamR LamX Told
theorem walk03 {q : Program} {loose : List Str} {XP : (Str → Option Value) → Heap → Prop} {YP : World → Heap → Prop} {d : DefRec} (hdf : d.params.defaults = []) (hd : d.name = ("law" : Str)) (hY : ∀ (w : World) (h : Heap), YP w h → (K03 w.params).In h) (hT : ∀ (w : World) (h : Heap), YP w h → ∀ P ∈ ([443] : List Addr), h.get? P = some (PySem.W.tabObj #[])) :
    PySem.W.WalkO q loose XP YP PySem.Challenge.rw_shortspans_k03_whole_changed_and_near.row.toRowW d [] (fun f vs => PySem.call f vs) := by
  refine walk_T (l := PySem.Challenge.rw_shortspans_k03_whole_changed_and_near) (n := 63) (k := 9) (K := K03) (CX := fun _ => CX0) (x := "script") (cs := [(445, 443)]) (sp := fun w => spLaw3 (K03 w.params)) rfl (by decide) hdf ⟨⟨rfl, by decide, by decide⟩, rfl⟩ hY
    (fun w h Y p hp => ?_) (fun w p hp => ?_) (fun w p hp => ?_) (fun w mg fa h X G hmg => ?_) (fun w H a ns hl hT hS => ?_) fun _ _ _ _ _ z => z
  · rw [List.mem_singleton.mp hp]
    exact hT w h Y 443 (List.mem_singleton.mpr rfl)
  · rw [List.mem_singleton.mp hp]
    exact (show (K03 w.params).lookup 443 = none by kernel_rfl)
  · rw [List.mem_singleton.mp hp]
    exact (show PySem.W.codeHdIn (K03 w.params) 445 443 = true by kernel_rfl)
  · rw [hd] at hmg
    have e := hmg.symm.trans (PySem.W.mg_of X G (show PySem.W.nsIn (K03 w.params) mainGlobals "law" = some (some (.ref 446)) by kernel_rfl))
    cases e
    exact ⟨_, fun s v => .of_eq rfl, fun base X' G' TB => ok_law03 X G (TB (445, 443) (List.mem_singleton.mpr rfl))⟩
  · exact ⟨a, ns, rfl, hS, hl, fun p hp => by
      rw [List.mem_singleton.mp hp]
      exact .nil (hT (445, 443) (List.mem_singleton.mpr rfl)), fun _ => rfl⟩
end KH3
open PySem PySem.W PyProof.Rows
set_option maxRecDepth 100000 in
set_option maxHeartbeats 0 in
theorem PySem.Challenge.cw_shortspans_k03_whole_changed_and_near_holds : PySem.Challenge.rw_shortspans_k03_whole_changed_and_near.Holds := by
  refine hd03 ?_
  exact KH3.walk03 rfl rfl (fun w h Y => km_in_of Y) (fun w h Y => km_tabs_of Y)

