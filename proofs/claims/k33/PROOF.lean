import PyProof.Rows.All
import Wide.All
import OpenK.AllK
import Wide.FinOn
import HandS.ForMost
import HandS.ForExc
import KE.KExcSuper
import HandS.ExcInit
import KE.KExcIs
import HandS.IsInst
import HandS.ExcValue
import HandS.TryMany
import HandS.ExcField
import HandS.Deep
import HandS.Evl
import HandS.Lambda
import HandS.EndTab
import KE.KDflt
import KE.KRevSl
import HandS.TupAny
import HandS.Iter
import KE.GoesEnum
import HandS.Star
import HandS.ClsMeth
import HandS.CallLocal
import HandS.Property
import HandS.Wide
import HandS.Style
import HandS.TupMul
import HandS.SlotsOwn
import KE.KOpsOwn
import HandS.Flow
import PyProof.StrLawsChain
import PyProof.StrLawsTight
import KE.GoesEnumKw
import PyProof.Rows.CallKwBuiltin
import HandS.More
import HandS.RaiseMore
import PyProof.ListStr
import HandS.FStr
import HandS.Comp
import HandS.Walk
import HandS.Words
import PySem.Challenge.RW_shortspans_k33_whole_texts_of_styles
set_option Elab.async false
set_option linter.all false
set_option maxRecDepth 100000
set_option maxHeartbeats 0
set_option exponentiation.threshold 100000
/-! Defs that are called where no repr is being made (so that they may call repr). -/
namespace L2
open PySem PySem.Spec PyProof.Rows
/-- room, and no guard stands around -/
structure RoomG (k : Nat) (A : Around) : Prop where
  r : Room k A
  g : A.guards = some []
theorem RoomG.mono {j k : Nat} {A : Around} (r : RoomG k A) (h : j ≤ k) : RoomG j A := ⟨r.r.mono h, r.g⟩
theorem RoomG.deeper {k : Nat} {A : Around} (r : RoomG (k + 1) A) (env : Env) : RoomG k (A.deeper env) := ⟨r.r.deeper env, r.g⟩
structure FnG (P : Program) (w : World) (K : PySem.W.Frag) (mg : Str → Option Value) (base : Heap) (CX : CXT) (k : Nat) (f : Addr) (fd : FuncData) (ps : List Str) (sp : Sp) : Prop where
  len : ∀ vs H Q E, sp vs H Q E → vs.length = ps.length
  run : ∀ (A : Around) (outer : List Env) (s : Shared) (H : Hp) (args : Args) (us : List Value) (vs : List V) (Q : VK) (E : XK), RoomG k A → Env0 P w K mg base A outer s H → BindsTo s fd args (ps.zip us) → Vals vs us → sp vs H Q E →
    codeAny (model P w) A (.call (.ref f) args) (CR CX outer P w H s Q E) s
theorem FnG.of {P : Program} {w : World} {K : PySem.W.Frag} {mg : Str → Option Value} {base : Heap} {CX : CXT} {k : Nat} {f : Addr} {fd : FuncData} {ps : List Str} {sp : Sp} (F : FnOk P w K mg base CX k f fd ps sp) : FnG P w K mg base CX k f fd ps sp :=
  ⟨F.len, fun A outer s H args us vs Q E hr => F.run A outer s H args us vs Q E hr.r⟩
theorem FnG.mono {P : Program} {w : World} {K : PySem.W.Frag} {mg : Str → Option Value} {base : Heap} {CX : CXT} {j k : Nat} {f : Addr} {fd : FuncData} {ps : List Str} {sp : Sp} (F : FnG P w K mg base CX j f fd ps sp) (h : j ≤ k) : FnG P w K mg base CX k f fd ps sp :=
  ⟨F.len, fun A outer s H args us vs Q E hr => F.run A outer s H args us vs Q E (hr.mono h)⟩
theorem FnG.imp {P : Program} {w : World} {K : PySem.W.Frag} {mg : Str → Option Value} {base : Heap} {CX : CXT} {k : Nat} {f : Addr} {fd : FuncData} {ps : List Str} {sp sp' : Sp} (F : FnG P w K mg base CX k f fd ps sp)
    (h : ∀ vs H Q E, sp' vs H Q E → sp vs H Q E) : FnG P w K mg base CX k f fd ps sp' :=
  ⟨fun vs H Q E q => F.len vs H Q E (h _ _ _ _ q), fun A outer s H args us vs Q E hr he hb hv hs => F.run A outer s H args us vs Q E hr he hb hv (h _ _ _ _ hs)⟩
section
variable {X : Cx} {CX : CXT} {k : Nat} {f C : Addr} {fd : FuncData} {ps : List Str} {sp : Sp} {dvs : List V} {ds : List Value} {E : XK} {x m : Str} {p pos apos : Pos} {e o : Expr} {es : List Expr} {ta : TE} {t : TA}
theorem run_fnG {pins : List (Addr × Obj)} {σ : St} {H : Hp} {s : Shared} {Q : VK} {us : List Value} {vs : List V} (F : FnG X.prog X.w X.K X.mg X.base CX k f fd ps sp) (hr : RoomG k X.A) (hb : Binds X.K fd ps ds) (hd : Vals dvs ds) (hx : Passes CX X E)
    (I : Inv X pins σ H s) (r : Vals vs us) (h : sp (vs ++ dvs) H Q E) : wpAny (model X.prog X.w) X.A (call (.ref f) us) (EP X pins σ Q) X.xe s := by
  have r2 : Vals (vs ++ dvs) (us ++ ds) := r.append hd
  have hl : (us ++ ds).length = ps.length := by rw [← r2.length]; exact F.len _ _ _ _ h
  refine wpAny_call (codeAny_mono (F.run X.A X.stack s H ⟨us, []⟩ (us ++ ds) (vs ++ dvs) Q E hr I.env0 (hb s us I.kIn hl) r2 h) fun r s' hq => ?_)
  cases r with
  | error e => exact hx pins σ H s e s' I hq
  | ok fl =>
    cases fl with
    | ret u => exact I.after hq
    | next => exact False.elim hq
    | brk => exact False.elim hq
    | cont => exact False.elim hq
theorem pe_callG (F : FnG X.prog X.w X.K X.mg X.base CX k f fd ps sp) (hr : RoomG k X.A) (hg : Gl X x) (hm : X.mg x = some (.ref f)) (hk : PySem.W.keepIn X.K (.ref f) = true) (hb : Binds X.K fd ps ds) (hd : Vals dvs ds) (hx : Passes CX X E)
    (ha : PA X (e :: es) t) (hdb : (x == ("__debug__" : Str)) = false := by decide) (he : starEach (e :: es) X.env = (false, eval e X.env) :: starEach es X.env := by rfl) (hpl : (backTo pos (starEach es X.env)).any (·.1) = false := by rfl) :
    PE X (.Call (.Name x p) (e :: es) [] pos) (tCall sp dvs E t) := by
  refine ⟨fun pins s σ H Q I h => ?_⟩
  refine wpAny_Call_Name_kw (ld_glob I hg hm ?_ hdb)
  refine PySem.W.callWith_K (h₀ := X.base) I.ok.mod.kin hk (thn (ha.run pos pins s σ H _ I h) fun us s1 ⟨vs, H1, I1, r, q⟩ => ⟨I1.kIn, ?_⟩) he hpl
  exact run_fnG F hr hb hd hx I1 r q
theorem pe_call0G (F : FnG X.prog X.w X.K X.mg X.base CX k f fd ps sp) (hr : RoomG k X.A) (hg : Gl X x) (hm : X.mg x = some (.ref f)) (hk : PySem.W.keepIn X.K (.ref f) = true) (hb : Binds X.K fd ps ds) (hd : Vals dvs ds) (hx : Passes CX X E)
    (hdb : (x == ("__debug__" : Str)) = false := by decide) : PE X (.Call (.Name x p) [] [] pos) (tCall sp dvs E tNil) := by
  refine ⟨fun pins s σ H Q I h => ?_⟩
  refine wpAny_Call_Name_kw (ld_glob I hg hm ?_ hdb)
  exact PySem.W.callWith_K0 I.kIn hk (run_fnG (us := []) F hr hb hd hx I .nil h)
end
theorem fn_ofG {CX : CXT} {P : Program} {w : World} {K : PySem.W.Frag} {mg : Str → Option Value} {base : Heap} {k : Nat} {f : Addr} {name qual : Str} {params : Arguments} {body : List Stmt} {scope : Scope} {dV kV doc pm cdv ct oc : Value} {an od : Option Addr}
    {osl : Array (Option Value)} {N ps : List Str} {sp : Sp} (lk : K.lookup f = some ⟨oc, od, .func (PySem.W.fnOf name qual params body scope dV kV doc pm an cdv ct), osl⟩) (hcd : PySem.W.codeIn K cdv qual = true) (S : FnScope N ps scope)
    (len : ∀ vs H Q E, sp vs H Q E → vs.length = ps.length)
    (hbody : ∀ (A : Around) (outer : List Env) (s : Shared) (H : Hp) (vs : List V) (Q : VK) (E : XK), RoomG k (A.deeper (envOfC qual scope s.heap.objs.size f cdv)) → sp vs H Q E →
      ∃ t, PSs (cxOf CX P w K mg base N qual scope f cdv A outer s H E) body t ∧ t { nx := fun _ H' => Q .non H', rt := Q } (start N vs) H) :
    FnG P w K mg base CX (k + 1) f (PySem.W.fnOf name qual params body scope dV kV doc pm an cdv ct) ps sp := by
  refine ⟨len, fun A outer s H args us vs Q E hr e0 hb r hsp => ?_⟩
  have hl := len _ _ _ _ hsp
  have KX : K.In s.heap := e0.mod.kin.keeps fun b o e => (e0.bs b o e).1
  have lim : s.heap.NoLimit := e0.mod.nolimit.keeps fun b o e => (e0.bs b o e).1
  have hkind : ∀ y ∈ ps.zip us, scope.names.lookup y.1 = some .local ∨ (scope.names.lookup y.1 = some .cell ∧ ((cellsFrom (s.heap.objs.size + 1) scope.names []).lookup y.1).isSome = true) := fun ⟨n, v⟩ hy => by
    rcases S.par n (List.of_mem_zip hy).1 with q | q
    · exact .inl q
    · exact .inr ⟨q, PySem.W.cellsFrom_some _ _ _ (.inl q)⟩
  refine codeAny_call_function hr.r.depth (KX _ _ lk) rfl S.co S.gen rfl (PySem.W.codeRec_of KX hcd) (hb _ _ _ _ ?_)
  refine wpAny_newFunctionEnv_cells S.kind hkind fun env he s1 x => ?_
  subst he
  refine ⟨lim.keeps x.toInCall.keep, codeAny_func ?_⟩
  obtain ⟨t, ht, hq⟩ := hbody A outer s H vs Q E (hr.deeper _) hsp
  have I : Inv (cxOf CX P w K mg base N qual scope f cdv A outer s H E) [] (start N vs) H s1 := inv_start S hr.r.hd e0 hl r x
  refine wpAny_mono (ht.run [] s1 (start N vs) H _ I hq) (fun fl s' hs => ?_) fun e s' hs => hs
  have fin : ∀ {σ' : St} {H' : Hp} {v : V} {u : Value}, Inv (cxOf CX P w K mg base N qual scope f cdv A outer s H E) [] σ' H' s' → RelV v u → Q v H' → CE outer P w H s Q u s' :=
    fun {σ' H' v u} J rv q => ⟨v, H', J.os, J.bare, J.base, J.hok, rv, q⟩
  cases fl with
  | ret u =>
    obtain ⟨v, σ', H', J, rv, q⟩ := hs
    exact fin J rv q
  | next =>
    obtain ⟨σ', H', J, q⟩ := hs
    exact fin (v := V.non) (u := Value.none) J rfl q
  | brk =>
    obtain ⟨_, _, _, q⟩ := hs
    exact False.elim q
  | cont =>
    obtain ⟨_, _, _, q⟩ := hs
    exact False.elim q
section
variable {P : Program} {w : World} {K : PySem.W.Frag} {mg : Str → Option Value} {base : Heap}
theorem Fun.okG {x qual : Str} {st : Stmt} {f : Addr} {fd : FuncData} {N ps : List Str} {k : Nat} {sp : Sp} (F : Fun K x qual st f fd) (S : FnScope N ps (defScope st)) (len : ∀ vs H Q E, sp vs H Q E → vs.length = ps.length)
    (hbody : ∀ (cdv : Value) (A : Around) (outer : List Env) (s : Shared) (H : Hp) (vs : List V) (Q : VK) (E : XK), RoomG k (A.deeper (envOfC qual (defScope st) s.heap.objs.size f cdv)) → sp vs H Q E →
      ∃ t, PSs (cxOf CX0 P w K mg base N qual (defScope st) f cdv A outer s H E).nox (defBody st) t ∧ t { nx := fun _ H' => Q .non H', rt := Q } (start N vs) H) : FnG P w K mg base CX0 (k + 1) f fd ps sp := by
  obtain ⟨oc, od, kV, doc, pm, an, cdv, ct, osl, rfl, lk, hcd⟩ := F.ex
  refine fn_ofG lk hcd S len fun A outer s H vs Q E hr hsp => ?_
  obtain ⟨t, h, q⟩ := hbody cdv A outer s H vs Q E hr hsp
  exact ⟨t, h.nox, q⟩
theorem Fun.okXG {x qual : Str} {st : Stmt} {f : Addr} {fd : FuncData} {N ps : List Str} {k : Nat} {sp : Sp} (F : Fun K x qual st f fd) (S : FnScope N ps (defScope st)) (len : ∀ vs H Q E, sp vs H Q E → vs.length = ps.length)
    (hbody : ∀ (cdv : Value) (A : Around) (outer : List Env) (s : Shared) (H : Hp) (vs : List V) (Q : VK) (E : XK), RoomG k (A.deeper (envOfC qual (defScope st) s.heap.objs.size f cdv)) → sp vs H Q E →
      ∃ t, PSs (cxOf (L2.CX P w) P w K mg base N qual (defScope st) f cdv A outer s H E) (defBody st) t ∧ t { nx := fun _ H' => Q .non H', rt := Q } (start N vs) H) : FnG P w K mg base (L2.CX P w) (k + 1) f fd ps sp := by
  obtain ⟨oc, od, kV, doc, pm, an, cdv, ct, osl, rfl, lk, hcd⟩ := F.ex
  exact fn_ofG lk hcd S len fun A outer s H vs Q E hr hsp => hbody cdv A outer s H vs Q E hr hsp
end
/-! ### the head -/
theorem law_callG {P : Program} {w : World} {K : PySem.W.Frag} {mg mb : Str → Option Value} {CX : CXT} {k : Nat} {fa a : Addr} {fd : FuncData} {x : Str} {sp : Sp} {s₁ : Shared} {vs : List Value} {ns : List Int}
    (KX : K.In s₁.heap) (hns : s₁.heap.Ns mainGlobals mg) (hb : s₁.heap.Ns builtinsNs mb) (hbb : ∀ x : Str, x ≠ "__name__" → mb x = bootBuiltins x) (hlim : s₁.heap.NoLimit) (hg : s₁.gens = #[])
    (ha : s₁.heap.get? a = some { cls := .type "list", data := .seq vs.toArray }) (hi : IntsAre vs ns) (hl : ns.length ≤ sizeLine) (hr : RoomG k callerA)
    (F : ∀ base : Heap, K.In base → base.Ns mainGlobals mg → FnG P w K mg base CX k fa fd [x] sp) (hbind : ∀ (s : Shared) (u : Value), BindsTo s fd ⟨[u], []⟩ [(x, u)])
    (hsp : ∀ H : Hp, Only H → SqL K H a (ns.map V.int) → sp [.ref a] H (fun v _ => v = .bl true) fun _ _ _ => False)
    (hCX : ∀ H e s', CX [] H s₁ (fun _ _ _ => False) e s' → False) :
    codeAny (model P w) callerA (.call (.ref fa) ⟨[.ref a], []⟩) (fun r s' => r = .ok (.ret (.bool true)) ∧ OldK s₁.heap s'.heap ∧ s'.os = s₁.os ∧ AllBare s'.gens) s₁ := by
  have rv := vals_ints hi
  have lenV := hi.length
  have core : ∀ H : Hp, Only H → SqL K H a (ns.map V.int) → HOk P w H s₁.heap → (∀ b, H b ≠ none → b = a) → (H a ≠ none → K.lookup a = none) →
      codeAny (model P w) callerA (.call (.ref fa) ⟨[.ref a], []⟩) (fun r s' => r = .ok (.ret (.bool true)) ∧ OldK s₁.heap s'.heap ∧ s'.os = s₁.os ∧ AllBare s'.gens) s₁ := by
    intro H hO hS hok hA hK
    have base_of : ∀ {b : Addr} {o : Obj}, s₁.heap.get? b = some o → H b = none → (hidT s₁.heap H).get? b = some o := fun e n => hidT_get e n
    have noA : ∀ {b : Addr} {o : Obj} {es : Array DictEntry} {ep : Nat}, s₁.heap.get? b = some o → o.data = .dict es ep → H b = none := fun {b o es ep} e d => by
      cases q : H b with
      | none => rfl
      | some u =>
        have e' : b = a := hA b (by rw [q]; simp)
        subst e'
        rw [ha] at e; cases e
        have d' : Data.seq vs.toArray _ = Data.dict es ep := d
        cases d'
    have nsK : ∀ {b : Addr} {m : Str → Option Value}, s₁.heap.Ns b m → (hidT s₁.heap H).Ns b m := fun {b m} ⟨o, es, ep, e, d, r⟩ => ⟨o, es, ep, base_of e (noA e d), d, r⟩
    have hKb : K.In (hidT s₁.heap H) := fun b o e => base_of (KX b o e) (by
      cases q : H b with
      | none => rfl
      | some u =>
        have e' : b = a := hA b (by rw [q]; simp)
        subst e'
        rw [hK (by rw [q]; simp)] at e; cases e)
    have hM : Mod K mg (hidT s₁.heap H) := ⟨hKb, nsK hns, ⟨mb, nsK hb, hbb⟩, let ⟨mc, h1, h2⟩ := hlim; ⟨mc, nsK h1, h2⟩⟩
    have e0 : Env0 P w K mg (hidT s₁.heap H) callerA [] s₁ H := ⟨rfl, hM, fun b o e => of_hidT e, Nat.le_of_eq (hidT_size _ _), trivial, fun b hb => absurd (show b ∈ ([] : List Addr) from hb) (by simp), hok, .of_eq hg⟩
    refine codeAny_mono ((F _ hKb (nsK hns)).run callerA [] s₁ H ⟨[.ref a], []⟩ [.ref a] [.ref a] _ _ hr e0 (hbind s₁ (.ref a)) (.cons rfl .nil) (hsp H hO hS)) fun r s' h => ?_
    cases r with
    | error e => exact (hCX H e s' h).elim
    | ok fl =>
      cases fl with
      | next => exact False.elim h
      | brk => exact False.elim h
      | cont => exact False.elim h
      | ret u =>
        obtain ⟨v, H', os, bare, un, hok', r', q⟩ := h
        have q' : v = .bl true := q
        subst q'
        obtain rfl : u = Value.bool true := r'
        refine ⟨rfl, OldK.of_keep fun b o e => ?_, os, bare⟩
        cases q : H b with
        | none => exact un.keep b o e q (by intro z; exact absurd (show b ∈ ([] : List Addr) from z) (by simp)) (by simp)
        | some u =>
          rcases hO b with z | ⟨ob, xs, z⟩
          · rw [q] at z; cases z
          · have z2 := un.frzs b ob _ z
            obtain ⟨e1, _⟩ := hok b _ z
            obtain ⟨e2, _⟩ := hok' b _ z2
            rw [e] at e1; cases e1
            exact e2
  cases hk : K.lookup a with
  | some o =>
    have e := KX a o hk
    rw [ha] at e
    cases e
    refine core (fun _ => none) (fun _ => .inl rfl) (.inr ⟨_, vs.toArray, _, hk, rfl, rfl, rfl, by rw [List.size_toArray, lenV]; exact hl, by simpa using rv⟩) (fun b u z => by have z' : (none : Option HO) = some u := z; cases z') (fun b z => absurd rfl z) fun z => absurd rfl z
  | none =>
    refine core (fun b => if b = a then some (.frz { cls := .type "list", data := .seq vs.toArray } (.lst (ns.map V.int))) else none) (fun b => ?_) (.inl (.inr ⟨{ cls := .type "list", data := .seq vs.toArray }, if_pos rfl⟩)) (fun b u z => ?_) (fun b z => ?_) fun _ => hk
    · by_cases hb : b = a
      · exact .inr ⟨_, _, if_pos hb⟩
      · exact .inl (if_neg hb)
    · by_cases hb : b = a
      · have z' := (if_pos hb).symm.trans z
        cases z'
        subst hb
        exact ⟨ha, by rw [List.length_map]; exact hl, vs, _, rv, ha⟩
      · have z' := (if_neg hb).symm.trans z
        cases z'
    · by_cases hb : b = a
      · exact hb
      · exact absurd (if_neg hb) z
theorem walk_ofG {l : PySem.W.OpenLaw} {n k : Nat} {q : Program} {loose : List Str} {XP : (Str → Option Value) → Heap → Prop} {YP : World → Heap → Prop} {d : DefRec} {K : Params → PySem.W.Frag} {CX : World → CXT} {sp : World → Sp} {x : Str}
    (hn : l.most = some n) (hn2 : n ≤ sizeLine) (hdf : d.params.defaults = []) (hr : RoomG k callerA)
    (hY : ∀ (w : World) (h : Heap), YP w h → (K w.params).In h)
    (F : ∀ (w : World) (mg : Str → Option Value) (fa : Addr) (h : Heap), (K w.params).In h → h.Ns mainGlobals mg → mg d.name = some (.ref fa) →
      ∃ fd : FuncData, (∀ (s : Shared) (u : Value), BindsTo s fd ⟨[u], []⟩ [(x, u)]) ∧
        ∀ base : Heap, (K w.params).In base → base.Ns mainGlobals mg → FnG l.prog w (K w.params) mg base (CX w) k fa fd [x] (sp w))
    (hsp : ∀ (w : World) (H : Hp) (a : Addr) (ns : List Int), ns.length ≤ n → Only H → SqL (K w.params) H a (ns.map V.int) → sp w [.ref a] H (fun v _ => v = .bl true) fun _ _ _ => False)
    (hCX : ∀ (w : World) (H : Hp) (s : Shared) (e : Value) (s' : Shared), CX w [] H s (fun _ _ _ => False) e s' → False) :
    PySem.W.WalkO q loose XP YP l.row.toRowW d [] (fun f vs => PySem.call f vs) := by
  refine Att.attach_call hn hdf fun w s₀ s₁ mg mb fa o pm cd doc a vs ns G Y ho hd hcd hmg hobj hints hlen hg => ?_
  have KX := hY w _ Y
  obtain ⟨fd, hb, hF⟩ := F w mg fa _ KX G.T.g hmg
  exact law_callG KX G.T.g G.T.b G.T.builtins G.T.nolimit hg hobj hints (Nat.le_trans hlen hn2) hr hF hb (fun H hO hS => hsp w H a ns hlen hO hS) fun H e s' => hCX w H s₁ e s'
end L2

/-! An own exception class whose __init__ says super().__init__(text) and then stores its arguments: made. -/
namespace ExM
open PySem PySem.W PySem.Calls PyProof.Rows

/-- what stands around a body's globals -/
structure GlobAt (h : Heap) (mg : Str → Option Value) : Prop where
  g : h.Ns mainGlobals mg
  b : ∃ mb, h.Ns builtinsNs mb ∧ mb "super" = some (.type "super")
  s : mg "super" = none
  lim : h.NoLimit
theorem GlobAt.keeps {h h' : Heap} {mg : Str → Option Value} (x : GlobAt h mg) (k : ∀ b o, h.get? b = some o → h'.get? b = some o) : GlobAt h' mg :=
  ⟨x.g.keeps k, let ⟨mb, a, c⟩ := x.b; ⟨mb, a.keeps k, c⟩, x.s, x.lim.keeps k⟩

/-- what the library tells of a built-in __init__ that is the base's -/
structure InF (B i : String) : Prop where
  entry : entryFor table i = some Builtin.«BaseException.__init__»
  kind : builtinKind i = some .slot
  row : Manifest.signature? i = some ⟨.positional, "*", B, .self, [⟨"args", .varPos, false⟩]⟩
  noStar : (B != "*") = true
  plain : plainId i = true
  sup : KxsFacts B i
/-- what the written part says of the class at C and of its __init__ at f (its __class__ cell at cc) -/
structure Ini (K : Frag) (prog : Program) (C f cc : Addr) (qual : Str) (params : Arguments) (body : List Stmt) (scope : Scope) (bmB : List Value) (B newId initId : String) : Prop where
  cls : ∃ nm q N bs bm sn sub ab col dd k0 k1 k2 k3 k5, K.lookup C = some (excClassObj nm q C N bs bm true sn sub ab col dd k0 k1 k2 k3 k5 newId) ∧ excTail bmB bm = true
  new : ∃ Bn initN bmN, ExcBaseFacts Bn newId initN bmN ∧ bmB.contains (.type Bn) = true ∧ bmB.contains (.type "AttributeError") = false ∧ bmB.contains (.type "NameError") = false
  ini : InF B initId
  pass : ∀ self, refuseLoop self "__setattr__" bmB = pure ()
  obj : bmB.contains (.type "object") = true
  sa : findIn K (.ref C) "__setattr__" = some (some (.builtin "object.__setattr__"))
  iC : findIn K (.ref C) "__init__" = some (some (.ref f))
  tF : typeIn K (.ref f) = some (.type "function")
  kC : keepIn K (.ref C) = true
  exC : subIn K (.ref C) (.type "BaseException") = some true
  bC : subIn K (.ref C) (.type B) = some true
  tyC : typeIn K (.ref C) = some (.type "type")
  op : nsIn K cStatics "thirdparty.any" = some none
  al : ks_superIn K C C "__init__" = some (some (.builtin initId))
  fn : ∃ (oc : Value) (od : Option Addr) (kV doc pm : Value) (an : Option Addr) (cda : Addr) (ct : Value) (osl : Array (Option Value)),
    K.lookup f = some ⟨oc, od, .func (ksFn "__init__" qual params body scope .none kV doc pm an (.ref cda) ct cc), osl⟩ ∧ codeIn K (.ref cda) qual = true ∧
    ∃ ccl cdd vs ccs file tf, K.lookup cda = some ⟨ccl, cdd, .fields vs, ccs⟩ ∧ vs[2]? = some (.str file tf) ∧ ((prog.main.file : Str) == file) = true
  cell : ∃ cl cld csl, K.lookup cc = some ⟨cl, cld, .cell (some (.ref C)), csl⟩
  top : (prog.main.scope.names.lookup ("super" : Str)).isSome = false
  sS : scope.names.lookup ("super" : Str) = some .globalImplicit
  sC : scope.names.lookup ("__class__" : Str) = some .free
  sk : scope.kind = .function

section
variable {prog : Program} {w : World} {A : Around} {E : Value → Shared → Prop} {h : Heap} {g : Array GenState} {d : Drawn} {t : Nat} {os : OsState}
variable {K : Frag} {mg : Str → Option Value} {C f cc x L : Addr} {qual : Str} {params : Arguments} {body : List Stmt} {scope : Scope} {bmB : List Value} {B newId initId : String}

theorem Ini.cd (T : Ini K prog C f cc qual params body scope bmB B newId initId) : ∃ cd : ClassData, clsIn K C = some cd ∧ (∃ bm, cd.mro = .ref C :: bm ∧ excTail bmB bm = true) ∧ cd.hasDict = true := by
  obtain ⟨nm, q, N, bs, bm, sn, sub, ab, col, dd, k0, k1, k2, k3, k5, hC, hbm⟩ := T.cls
  exact ⟨{ name := nm, bases := bs, mro := .ref C :: bm, ns := N, qualname := q, hasDict := true, slotNames := sn, subclasses := sub, abstract := ab, collection := col, hasDel := false }, by unfold clsIn; rw [hC] <;> rfl, ⟨bm, rfl, hbm⟩, rfl⟩

/-- super() in the body, self at x, an exception of C without a dict -/
theorem super_made (T : Ini K prog C f cc qual params body scope bmB B newId initId) {cda : Addr} {oc : Value} {od : Option Addr} {kV doc pm ct : Value} {an : Option Addr} {osl : Array (Option Value)} {m : Str → Option Value} {ox : Obj}
    (hf : K.lookup f = some ⟨oc, od, .func (ksFn "__init__" qual params body scope .none kV doc pm an (.ref cda) ct cc), osl⟩)
    (hcda : ∃ ccl cdd vs ccs file tf, K.lookup cda = some ⟨ccl, cdd, .fields vs, ccs⟩ ∧ vs[2]? = some (.str file tf) ∧ ((prog.main.file : Str) == file) = true)
    {ar : Arg} (hp : (params.posonlyargs ++ params.args).head? = some ar) (hka : scope.names.lookup ar.arg = some .local) (X : K.In h) (G : GlobAt h mg) (hn : h.Ns L m) (hv : m ar.arg = some (.ref x)) (hx : h.get? x = some ox) (hc : ox.cls = .ref C) (hd : ∀ c, ox.data ≠ .cls c)
    {bd : List Stmt} {p0 p1 : Pos} {whole : Sem Value} {Q : Value → Shared → Prop}
    (hq : ∀ h', h'.get? h.objs.size = some (ks_superObj C x C) → (∀ b o, h.get? b = some o → h'.get? b = some o) → Q (.ref h.objs.size) ⟨h', g, d, t, os⟩) :
    _root_.PySem.wpAt (model prog w) A (.func bd (ksEnv qual scope L f (.ref cda) cc)) (attributeBase (.Call (.Name "super" p0) [] [] p1) "__init__" (ksEnv qual scope L f (.ref cda) cc) whole) Q E ⟨h, g, d, t, os⟩ := by
  obtain ⟨ccl, cdd, vs, ccs, file, tf, hcode, hvs, hfile⟩ := hcda
  obtain ⟨cl, cld, csl, hcell⟩ := T.cell
  obtain ⟨cd, hcd, ⟨bm, hm, hbm⟩, hh⟩ := T.cd
  obtain ⟨oD, hD1, hD2⟩ : ∃ oD, h.get? C = some oD ∧ oD.data = .cls cd := by
    unfold clsIn at hcd
    split at hcd
    · rename_i c0 d0 cd' sl ho
      cases hcd
      exact ⟨_, X _ _ ho, rfl⟩
    · cases hcd
  have hsub : Looks (model prog w) h (isSubtype (.ref C) (.ref C)) true := looks_mroIn X (by unfold mroIn; rw [hcd, Option.bind_some, hm]; simp)
  obtain ⟨mb, hb, hbs⟩ := G.b
  refine ks_wpAt_super_base (env := ksEnv qual scope L f (.ref cda) cc) T.sS T.sC (by decide) rfl (X _ _ hf) rfl hp rfl (X _ _ hcode) rfl hvs hfile T.top ?_
  refine ks_loadName_global T.sk T.sS (loadGlobal_builtin (env := ksEnv qual scope L f (.ref cda) cc) G.g G.s hb hbs ⟨rfl, ?_⟩)
  refine wpAny_loadName_free T.sk T.sC rfl ⟨_, X _ _ hcell, rfl⟩ ?_
  refine wpAny_loadName_local T.sk hka hn hv ?_
  refine ks_wpAny_isType_cls hD1 hD2 ⟨rfl, ?_⟩
  exact ks_wpAny_call_super hD1 hD2 hx hc hd hsub fun h' e k => hq h' e k

theorem check_bound {M : Model} {B i newId : String} (F : InF B i) {nm q : Str} {C N e : Addr} {oe : Obj} {bs bm : List Value} {hdct : Bool} {sn : List Str} {sub : List Value} {ab : Bool} {col : Option Bool} {dd : Option Addr} {k0 k1 k2 k3 k5 : Option Value} {rest : List Value} {Q : Unit → Shared → Prop}
    (hC : h.get? C = some (excClassObj nm q C N bs bm hdct sn sub ab col dd k0 k1 k2 k3 k5 newId)) (he : h.get? e = some oe) (hcls : oe.cls = .ref C) (hq : Q () ⟨h, g, d, t, os⟩) : wpAny M A (checkBoundCall i ⟨.ref e :: rest, []⟩) Q E ⟨h, g, d, t, os⟩ := by
  have hshort := F.noStar
  simp only [checkBoundCall, F.kind, F.row]
  repeat (first | (with_reducible refine wpAny_loadPart_at he ?_; rw [hcls]) | with_reducible refine wpAny_loadPart_at hC ?_ | wp_step)
  refine wpAny_onRaise ?_
  rw [show ∀ (a b : String) (n : Nat), Bind.check ⟨.positional, "*", B, .self, [⟨"args", .varPos, false⟩]⟩ a b n (List.map (fun x => x.fst) ({ pos := Value.ref e :: rest } : Args).kw) = pure () from
    fun a b n => check_star_args _ _ _ _ _ _]
  exact wpAny_pure hq
/-- the bound __init__ of the built-in base, called: the exception's args are laid anew -/
theorem bound_called (T : Ini K prog C f cc qual params body scope bmB B newId initId) {u t0 : Addr} {dv : Option Addr} {rest : List Value} {Q : Value → Shared → Prop} (X : K.In h)
    (hx : h.get? x = some (excObj C t0 dv .none)) (hu : h.get? u = some (kxs_mw initId x)) (hz : rest.length ≤ sizeLine)
    (hq : ∀ h' t1, (∀ b o, b ≠ x → h.get? b = some o → h'.get? b = some o) → h'.get? x = some (excObj C t1 dv .none) → Q .none ⟨h', g, d, t, os⟩) :
    wpAny (model prog w) A (call (.ref u) rest) Q E ⟨h, g, d, t, os⟩ := by
  obtain ⟨nm, q, N, bs, bm, sn, sub, ab, col, dd, k0, k1, k2, k3, k5, hC, hbm⟩ := T.cls
  have FB := T.ini
  refine wpAny_call (codeAny_of_tree ?_)
  show wpAny _ A.in1 (callAny (.ref u) ⟨rest, []⟩) _ _ _
  simp only [callAny]
  refine wpAny_bind (wpAny_load hu ?_)
  simp only [kxs_mw, show (Value.type "method-wrapper" == Value.type "method" || Value.type "method-wrapper" == Value.type "builtin_function_or_method" || Value.type "method-wrapper" == Value.type "method-wrapper") = true by decide, if_true]
  refine KFB.if_so (by decide) ?_
  refine wpAny_bind (check_bound FB (X _ _ hC) hx rfl ?_)
  refine wpAny_bind (wpAny_pure (wpAny_pure ?_))
  refine ⟨plainId_quiet FB.plain _, codeAny_builtin FB.entry ?_⟩
  exact exc_init_tree (cls := .ref C) (t0 := t0) (dv := dv) (c2 := .none) (c3 := .none) (b4 := .bool false) hx hz fun h' k e' _ => hq h' _ k e'

/-- the statement super().__init__(text) -/
theorem super_said (T : Ini K prog C f cc qual params body scope bmB B newId initId) {cda : Addr} {oc : Value} {od : Option Addr} {kV doc pm ct : Value} {an : Option Addr} {osl : Array (Option Value)} {m : Str → Option Value} {t0 : Addr}
    (hf : K.lookup f = some ⟨oc, od, .func (ksFn "__init__" qual params body scope .none kV doc pm an (.ref cda) ct cc), osl⟩)
    (hcda : ∃ ccl cdd vs ccs file tf, K.lookup cda = some ⟨ccl, cdd, .fields vs, ccs⟩ ∧ vs[2]? = some (.str file tf) ∧ ((prog.main.file : Str) == file) = true)
    {ar : Arg} (hp : (params.posonlyargs ++ params.args).head? = some ar) (hka : scope.names.lookup ar.arg = some .local) (X : K.In h) (G : GlobAt h mg) (hn : h.Ns L m) (hv : m ar.arg = some (.ref x)) (hx : h.get? x = some (excObj C t0 none .none)) (hxL : x ≠ L) (hxK : K.lookup x = none)
    {bd : List Stmt} {p0 p1 p2 p3 p4 p5 : Pos} {msg : Str} {j : Nat} {Q : Flow → Shared → Prop}
    (hq : ∀ h' tk t1, (∀ b o, b ≠ x → h.get? b = some o → h'.get? b = some o) → h'.get? x = some (excObj C t1 none .none) → Q .next ⟨h', g, d, tk, os⟩)
    (hi : interactive (ksEnv qual scope L f (.ref cda) cc) = false) {pl : Sem Bool}
    (hev : eval (.Call (.Attribute (.Call (.Name "super" p0) [] [] p1) "__init__" p2) [.Constant (.str msg) j p3] [] p4) (ksEnv qual scope L f (.ref cda) cc) = (do
      let ov ← attributeBase (.Call (.Name "super" p0) [] [] p1) "__init__" (ksEnv qual scope L f (.ref cda) cc) (eval (.Call (.Name "super" p0) [] [] p1) (ksEnv qual scope L f (.ref cda) cc))
      standAt p2.atName
      let (fx, first) ← holding [ov] (getMethod ov "__init__" pl)
      callWith p4 fx first (backTo p4 (starEach [.Constant (.str msg) j p3] (ksEnv qual scope L f (.ref cda) cc))) [])) :
    _root_.PySem.wpAt (model prog w) A (.func bd (ksEnv qual scope L f (.ref cda) cc))
      (exec (.Expr (.Call (.Attribute (.Call (.Name "super" p0) [] [] p1) "__init__" p2) [.Constant (.str msg) j p3] [] p4) p5) (ksEnv qual scope L f (.ref cda) cc)) Q E ⟨h, g, d, t, os⟩ := by
  refine ks_wpAt_Expr_any ?_ hi rfl
  refine ks_wpAt_MethodCall ?_ hev
  refine super_made T hf hcda hp hka X G hn hv hx rfl (fun c z => by cases z) fun h1 e1 k1 => ?_
  have X1 : K.In h1 := X.keeps k1
  have hx1 := k1 _ _ hx
  obtain ⟨cd, hcd, ⟨bm, hm, hbm⟩, hh⟩ := T.cd
  have I1 : InstAt h1 x (excObj C t0 none .none) C none := ⟨hx1, rfl, rfl, trivial⟩
  have hI : Looks (model prog w) h1 (isInstance (.ref x) (.type B)) true := I1.type.andThen (looks_subIn X1 T.bC)
  have hal : alongIn K "__init__" ((cd.mro.dropWhile (· != .ref C)).drop 1) = some (some (.builtin initId)) := by
    have z := T.al
    unfold ks_superIn at z
    rw [hcd] at z
    exact z
  refine kxs_getMethod T.ini.sup e1 (looks_opaque X1 T.op) (l₀ := cd.mro) (fun A Q E s k q => wpAny_bind ((looks_clsIn X1 hcd) A _ E s k (wpAny_pure q))) rfl X1 hal hI (ks_ne X1 I1 hcd) (by decide) ?_
  have k2 : ∀ b o, h1.get? b = some o → (h1.push (kxs_mw initId x)).get? b = some o := fun b o e => Heap.get?_push_of_some _ e
  have hu : (h1.push (kxs_mw initId x)).get? h1.objs.size = some (kxs_mw initId x) := Heap.get?_push_at rfl rfl
  refine kxs_callWith (i := initId) (x := x) rfl (evalArgs_plain ?_)
  show wpAny _ _ (spliced ((false, eval (.Constant (.str msg) j p3) _) :: backTo p4 (starEach [] _))) _ _ _
  refine Calls.spliced_cons (Calls.Constant_str ?_)
  refine Calls.spliced_nil ⟨hu, ?_⟩
  refine bound_called T (X1.keeps k2) (k2 _ _ hx1) hu (by rw [sizeLine_eq]; exact (by decide : 1 ≤ 16777216)) fun h3 t1 k3 e3 => ?_
  exact hq h3 _ t1 (fun b o hb e => k3 b o hb (k2 b o (k1 b o e))) e3

/-- what a new exception with one dict is: the class at C, its dict at dx -/
structure Own (h h' : Heap) (x C dx : Addr) (m : Str → Option Value) : Prop where
  keep : ∀ b o, b ≠ x → h.get? b = some o → h'.get? b = some o
  obj : ∃ t1, h'.get? x = some (excObj C t1 (some dx) .none)
  dbig : h.objs.size ≤ dx
  dne : dx ≠ x
  ns : h'.Ns1 dx m

section
open Builtin Builtin.ObjectAttr
/-- the built-in store at such an exception -/
theorem store_walk (T : Ini K prog C f cc qual params body scope bmB B newId initId) {name : Str} {tk : Tok} {v : Value} {ox : Obj} {od : Option Obj} {R : Result → Shared → Prop}
    (X : K.In h) (I : InstAt h x ox C od) (ha : findIn K (.ref C) name = some none)
    (hq : wpAny (model prog w) A.in1 (storeInOwnDict (.ref x) (.ref C) (.str name tk) name v false)
      (fun fin s' => match fin with | .done f => R (.ok f) s' | .again c' => c'.quiet = true ∧ codeAny (model prog w) A c' R s') (fun e s' => R (.error e) s') ⟨h, g, d, t, os⟩) :
    codeAny (model prog w) A (.call (.builtin "object.__setattr__") ⟨[.ref x, .str name tk, v], []⟩) R ⟨h, g, d, t, os⟩ := by
  obtain ⟨cd, hcd, ⟨bm, hm, hbm⟩, hh⟩ := T.cd
  have SF := F.store_object
  have hpass : refuseLoop (.ref x) "__setattr__" cd.mro = pure () := by
    rw [hm, refuseLoop_ref]
    exact excTail_pass _ (T.pass _) bm hbm
  have hob : cd.mro.contains (.type "object") = true := by
    rw [hm, List.contains_cons, excTail_contains "object" bm hbm]
    exact Bool.or_eq_true_iff.mpr (.inr (T.obj))
  have sub : Looks (model prog w) h (isInstance (.ref x) (.type "object")) true := I.type.andThen (looks_mroIn X (by unfold mroIn; rw [hcd, Option.bind_some, if_neg (by rw [hm]; exact Bool.false_ne_true), hob]))
  refine codeAny_call_builtin SF.slot.plain SF.entry (@check_slot (model prog w) _ _ ⟨h, g, d, t, os⟩ "object.__setattr__" "object" "__setattr__" (.ref x) [.str name tk, v] [] _ SF.kind SF.split sub (SF.args (.ref x) (.str name tk) v) ?_)
  have hmr : Looks (model prog w) h (mroOf (.ref C)) cd.mro := (looks_clsIn X hcd).andThen .now
  have L3 : Looks (model prog w) h (storeTaker? none) none := .now
  rw [osa_eq, refuse_eq]
  refine wpAny_bind (wpAny_bind (I.type.at (wpAny_bind (hmr.at ?_))))
  rw [hpass]
  exact wpAny_pure (wpAny_bind (I.type.at (wpAny_bind ((looks_findIn X ha).at (wpAny_bind (L3.at hq))))))
/-- self.name = v, the first one -/
theorem store_first (T : Ini K prog C f cc qual params body scope bmB B newId initId) {name : Str} {v : Value} {fv : Array Value} {Q : Unit → Shared → Prop}
    (X : K.In h) (hx : h.get? x = some { cls := .ref C, data := .fields fv }) (ha : findIn K (.ref C) name = some none)
    (hq : ∀ h' tk' dx, (∀ b o, b ≠ x → h.get? b = some o → h'.get? b = some o) → h.objs.size ≤ dx → dx ≠ x → h'.get? x = some { cls := .ref C, dict := some dx, data := .fields fv } →
      h'.Ns1 dx (fun y => if y = name then some v else none) → Q () ⟨h', g, d, tk', os⟩) :
    wpAny (model prog w) A (setAttr (.ref x) name v) Q E ⟨h, g, d, t, os⟩ := by
  obtain ⟨cd, hcd, ⟨bm, hm, hbm⟩, hh⟩ := T.cd
  have I : InstAt h x { cls := .ref C, data := .fields fv } C none := ⟨hx, rfl, rfl, trivial⟩
  have hxs : x ≠ h.objs.size := Nat.ne_of_lt (Heap.lt_size hx)
  have hcls : Looks (model prog w) h (classData C) cd := looks_clsIn X hcd
  refine set_plain X I T.sa (store_walk T X I ha ?_)
  obtain ⟨nm, bs, mro, ns, qn, hd, sn, sb, ab, col, del⟩ := cd
  dsimp only at hh
  subst hh
  unfold storeInOwnDict ownDictForStores
  repeat (first | with_reducible refine HandSPX.store_in_new ?_ ?_ | with_reducible refine wpAny_loadPart_at hx ?_ | with_reducible refine hcls.at ?_ | wp_step)
  · exact ⟨_, #[], _, (Heap.get?_update_ne _ _ _ _ hxs.symm).trans (Heap.get?_push_at rfl rfl), rfl, fun e he => absurd he (by simp), fun _ => rfl⟩
  · intro h' tk' hn' hs
    have hx₁ : (h.push { cls := .type "dict", data := .dict #[] }).get? x = some { cls := .ref C, data := .fields fv } := Heap.get?_push_of_some _ hx
    refine hq h' tk' h.objs.size (fun b o hb ho => ?_) (Nat.le_refl _) hxs.symm ?_ hn'
    · exact (hs.2 b (Nat.ne_of_lt (Heap.lt_size ho))).trans ((Heap.get?_update_ne _ _ _ _ hb).trans (Heap.get?_push_of_some _ ho))
    · exact (hs.2 x hxs).trans (Heap.get?_update_self _ hx₁ rfl)
/-- a further one -/
theorem store_more (T : Ini K prog C f cc qual params body scope bmB B newId initId) {dx : Addr} {name : Str} {v : Value} {fv : Array Value} {m0 : Str → Option Value} {nl : List Str} {Q : Unit → Shared → Prop}
    (X : K.In h) (hx : h.get? x = some { cls := .ref C, dict := some dx, data := .fields fv }) (hns : h.Ns1 dx m0) (hw : Within m0 nl) (hz : nl.length ≤ 1000) (ha : findIn K (.ref C) name = some none)
    (hq : ∀ h' tk', (∀ b o, b ≠ dx → h.get? b = some o → h'.get? b = some o) → h'.Ns1 dx (fun y => if y = name then some v else m0 y) → Q () ⟨h', g, d, tk', os⟩) :
    wpAny (model prog w) A (setAttr (.ref x) name v) Q E ⟨h, g, d, t, os⟩ := by
  obtain ⟨cd, hcd, ⟨bm, hm, hbm⟩, hh⟩ := T.cd
  obtain ⟨oD, esD, epD, hoD, hdD, _⟩ := hns.count hw
  have I : InstAt h x { cls := .ref C, dict := some dx, data := .fields fv } C (some oD) := ⟨hx, rfl, rfl, hoD⟩
  have hcls : Looks (model prog w) h (classData C) cd := looks_clsIn X hcd
  refine set_plain X I T.sa (store_walk T X I ha ?_)
  obtain ⟨nm, bs, mro, ns, qn, hd, sn, sb, ab, col, del⟩ := cd
  dsimp only at hh
  subst hh
  unfold storeInOwnDict ownDictForStores
  repeat (first | with_reducible refine OEX.store_in_old hns hw hz ?_ | with_reducible refine wpAny_loadPart_at hx ?_ | with_reducible refine hcls.at ?_ | wp_step)
  intro h' tk' hn' hs
  exact hq h' tk' (fun b o hb ho => (hs.2 b hb).trans ho) hn'
end

end
end ExM

/-! Own exceptions called with keywords; own exceptions over KeyError (whose __new__ is LookupError's). -/
namespace ExM
open PySem PySem.W PySem.Calls
section
variable {M : Model} {prog : Program} {w : World} {A : Around} {E : Value → Shared → Prop} {R : Result → Shared → Prop} {h : Heap} {g : Array GenState} {d : Drawn} {t : Nat} {os : OsState}
variable {nm q : Str} {C N : Addr} {bs bm bmN : List Value} {hdct : Bool} {sn : List Str} {sub : List Value} {ab : Bool} {col : Option Bool} {dd : Option Addr} {k0 k1 k2 k3 k5 : Option Value} {Bn newId initN : String}
/-- what the class's mro says of the built-in that makes its instances -/
structure NewM (C : Addr) (bm : List Value) (Bn : String) : Prop where
  hb : (Value.ref C :: bm).contains (.type Bn) = true
  ha : (Value.ref C :: bm).contains (.type "AttributeError") = false
  hn : (Value.ref C :: bm).contains (.type "NameError") = false
theorem check_newK (F : ExcBaseFacts Bn newId initN bmN) (m : NewM C bm Bn) {rest : List Value} {kw : List (Str × Value)} {Q : Unit → Shared → Prop}
    (hC : h.get? C = some (excClassObj nm q C N bs bm hdct sn sub ab col dd k0 k1 k2 k3 k5 newId)) (hq : Q () ⟨h, g, d, t, os⟩) : wpAny M A (checkBuiltinCall newId ⟨.ref C :: rest, kw⟩) Q E ⟨h, g, d, t, os⟩ := by
  have hcont := m.hb
  have hstar := F.noStar
  simp only [checkBuiltinCall, F.newKind, F.newSplit, F.newRow]
  repeat (first | refine wpAny_loadPart_at hC ?_ | (refine wpAny_isSubtype_exc hC ?_; rw [hcont]) | refine wpAny_staticBase_exc hC ?_ | refine wpAny_madeBy_exc hC ?_ | simp only [bne_self_eq_false, Bool.false_eq_true, if_false] | wp_step)
  exact hq
theorem newK (F : ExcBaseFacts Bn newId initN bmN) (m : NewM C bm Bn) {rest : List Value} {kw : List (Str × Value)}
    (hC : h.get? C = some (excClassObj nm q C N bs bm hdct sn sub ab col dd k0 k1 k2 k3 k5 newId))
    (hq : R (.ok (.ret (.ref (h.objs.size + 1)))) ⟨(h.push { cls := .type "tuple", data := .seq rest.toArray }).push
      { cls := .ref C, data := .fields #[.ref h.objs.size, .none, .none, .none, .bool false, .none] }, g, d, t, os⟩) (hrest : rest.length ≤ sizeLine) :
    codeAny (model prog w) A (.builtin newId ⟨.ref C :: rest, kw⟩) R ⟨h, g, d, t, os⟩ := by
  have hends := F.ends
  have hcB := m.hb
  have hcA := m.ha
  have hcN := m.hn
  refine codeAny_builtinAt F.entry ?_
  unfold Builtin.«BaseException.__new__»
  refine wpAt_bind ?_
  show wpAt _ _ _ (stack >>= _) _ _ _
  refine wpAt_bind (wpAt_stack fun p below => wpAt_of_wpAny ?_)
  wp_walk
  refine wpAt_of_wpAny ?_
  rw [F.owner]
  repeat (first | with_reducible refine wpAny_madeHere_exc F.canon hC ?_ | with_reducible refine wpAny_loadPart_at hC ?_ | (with_reducible refine wpAny_isSubtype_exc hC ?_; first | rw [hcB] | rw [hcA] | rw [hcN]) | wp_step)
  show R _ _
  rw [Heap.size_push]
  exact hq
theorem type_callK (F : ExcBaseFacts Bn newId initN bmN) (m : NewM C bm Bn) {rest : List Value} {kw : List (Str × Value)} {fI : Addr} {Q : Fin → Shared → Prop}
    (hC : h.get? C = some (excClassObj nm q C N bs bm hdct sn sub ab col dd k0 k1 k2 k3 k5 newId))
    (hi : W.Looks (model prog w) h (typeLookup (.ref C) "__init__") (some (.ref fI))) (hb : ∀ self, W.Looks (model prog w) h (bindSpecial (.ref fI) self) (.ref fI, [self])) (hrest : rest.length ≤ sizeLine)
    (hq : codeAny (model prog w) A (.call (.ref fI) ⟨.ref (h.objs.size + 1) :: rest, kw⟩)
      (fun r s' => match r with | .ok (.ret v) => v = .none ∧ Q (.done (.ret (.ref (h.objs.size + 1)))) s' | .ok _ => False | .error e => E e s')
      ⟨(h.push (W.kdv_tup rest)).push (HandSPX.excO C h.objs.size), g, d, t, os⟩) :
    wpAny (model prog w) A (Builtin.«type.__call__» ⟨.ref C :: rest, kw⟩) Q E ⟨h, g, d, t, os⟩ := by
  repeat (first | with_reducible refine wpAny_loadPart_at hC ?_ | with_reducible refine wpAny_madeBy_exc hC ?_ | wp_step)
  refine codeAny_call_builtin_code (Code.quiet_builtin _ F.quiet) (check_newK F m hC ?_)
  refine newK F m hC ?_ hrest
  show wpAny _ _ _ _ _ _
  have k : ∀ b o, h.get? b = some o → ((h.push (W.kdv_tup rest)).push (HandSPX.excO C h.objs.size)).get? b = some o := fun b o e => Heap.get?_push_of_some _ (Heap.get?_push_of_some _ e)
  have hC₁ := k _ _ hC
  have hget : ((h.push (W.kdv_tup rest)).push (HandSPX.excO C h.objs.size)).get? (h.objs.size + 1) = some (HandSPX.excO C h.objs.size) := by heap_get
  have hcC : (Value.ref C :: bm).contains (.ref C) = true := by simp
  have i1 := hi.keeps k
  have b1 := (hb (.ref (h.objs.size + 1))).keeps k
  unfold isInstance
  repeat (first | with_reducible refine wpAny_loadPart_at hget ?_ | (with_reducible refine wpAny_isSubtype_exc hC₁ ?_; rw [hcC]) | wp_step)
  show wpAny _ _ (typeLookup (.ref C) _) _ _ _
  refine i1.at ?_
  refine wpAny_holding (wpAny_bind (b1.at ?_))
  refine wpAny_bind (wpAny_call (codeAny_mono hq fun r s' z => ?_))
  rcases r with e | (v | _ | _ | _) <;> first | exact z | exact z.elim | skip
  obtain ⟨rfl, z⟩ := z
  first
    | exact wpAny_pure (wpAny_pure z)
    | (wp_walk; exact z)
theorem check_typeK {rest : List Value} {kw : List (Str × Value)} {Q : Unit → Shared → Prop} (hC : h.get? C = some (excClassObj nm q C N bs bm hdct sn sub ab col dd k0 k1 k2 k3 k5 newId))
    (hq : Q () ⟨h, g, d, t, os⟩) : wpAny M A (checkBuiltinCall "type.__call__" ⟨.ref C :: rest, kw⟩) Q E ⟨h, g, d, t, os⟩ := by
  have f3 := tc_sub
  have hT : (⟨h, g, d, t, os⟩ : Shared).TypeIs (.ref C) "type" := ⟨_, hC, rfl⟩
  simp only [checkBuiltinCall, tc_kind, tc_split]
  repeat (any_goals (first | assumption | with_reducible refine wpAny_loadPart_at hC ?_ | with_reducible refine wpAny_onRaise ?_ | with_reducible refine wpAny_map ?_ | wp_step))
theorem call_K (F : ExcBaseFacts Bn newId initN bmN) (m : NewM C bm Bn) {rest : List Value} {kw : List (Str × Value)} {fI : Addr}
    (hC : h.get? C = some (excClassObj nm q C N bs bm hdct sn sub ab col dd k0 k1 k2 k3 k5 newId))
    (hi : W.Looks (model prog w) h (typeLookup (.ref C) "__init__") (some (.ref fI))) (hb : ∀ self, W.Looks (model prog w) h (bindSpecial (.ref fI) self) (.ref fI, [self])) (hrest : rest.length ≤ sizeLine)
    (hq : codeAny (model prog w) (A.under (.builtin "type.__call__" ⟨.ref C :: rest, kw⟩)) (.call (.ref fI) ⟨.ref (h.objs.size + 1) :: rest, kw⟩) (W.InitBack (h.objs.size + 1) R)
      ⟨(h.push (W.kdv_tup rest)).push (HandSPX.excO C h.objs.size), g, d, t, os⟩) :
    codeAny (model prog w) A (.call (.ref C) ⟨rest, kw⟩) R ⟨h, g, d, t, os⟩ := by
  have f1 := tc_lookup
  have f2 := tc_bind (.ref C)
  have hTy : (⟨h, g, d, t, os⟩ : Shared).TypeIs (.ref C) "type" := ⟨_, hC, rfl⟩
  refine codeAny_of_tree ?_
  show wpAny _ _ (callAny (.ref C) _) _ _ _
  repeat (any_goals (first | assumption | with_reducible refine wpAny_loadPart_at hC ?_ | wp_step))
  refine ⟨rfl, ?_⟩
  refine codeAny_call_builtin_at (Code.quiet_builtin _ (by decide +kernel)) entry_typeCall (check_typeK hC (type_callK F m hC hi hb hrest ?_))
  refine codeAny_mono hq fun r s' z => ?_
  rcases r with e | (v | _ | _ | _) <;> exact z
end
end ExM

namespace ExM
open PySem PySem.W PySem.Calls PyProof.Rows
section
variable {prog : Program} {w : World} {A : Around} {E : Value → Shared → Prop} {s : Shared}
variable {K : Frag} {mg : Str → Option Value} {C f cc x L : Addr} {qual : Str} {scope : Scope} {bmB : List Value} {B newId initId : String}

abbrev supSt (msg : Str) (j : Nat) (p0 p1 p2 p3 p4 p5 : Pos) : Stmt := .Expr (.Call (.Attribute (.Call (.Name "super" p0) [] [] p1) "__init__" p2) [.Constant (.str msg) j p3] [] p4) p5
abbrev putSt (fld : Str) (q1 q2 q3 q4 : Pos) : Stmt := .Assign [.Attribute (.Name "self" q1) fld q2] (.Name fld q3) q4
/-- what is computed of the scope -/
structure Sc (scope : Scope) (params : Arguments) (flds : List Str) : Prop where
  self : scope.names.lookup ("self" : Str) = some .local
  fl : ∀ y ∈ flds, scope.names.lookup y = some .local
  nc : ∀ y ∈ scope.names, y.2 ≠ .cell
  co : scope.isCoroutine = false
  gen : scope.isGenerator = false
  hd : ∃ ar, (params.posonlyargs ++ params.args).head? = some ar ∧ ar.arg = "self"
  nd : ∀ y ∈ flds, y ≠ "self" ∧ (y == ("__debug__" : Str)) = false
/-- super().__init__ is evaluated so -/
def Ev (qual : Str) (scope : Scope) (f cc : Addr) (msg : Str) (j : Nat) (p0 p1 p2 p3 p4 : Pos) : Prop := ∀ (L : Addr) (cd : Value), interactive (ksEnv qual scope L f cd cc) = false ∧ ∃ pl : Sem Bool,
  eval (.Call (.Attribute (.Call (.Name "super" p0) [] [] p1) "__init__" p2) [.Constant (.str msg) j p3] [] p4) (ksEnv qual scope L f cd cc) = (do
      let ov ← attributeBase (.Call (.Name "super" p0) [] [] p1) "__init__" (ksEnv qual scope L f cd cc) (eval (.Call (.Name "super" p0) [] [] p1) (ksEnv qual scope L f cd cc))
      standAt p2.atName
      let (fx, first) ← holding [ov] (getMethod ov "__init__" pl)
      callWith p4 fx first (backTo p4 (starEach [.Constant (.str msg) j p3] (ksEnv qual scope L f cd cc))) [])

theorem ld_local {M : Model} {cd : Value} {m : Str → Option Value} {y : Str} {pos : Pos} {v : Value} {Q : Value → Shared → Prop} (hn : s.heap.Ns L m) (hv : m y = some v) (hk : scope.kind = .function) (hl : scope.names.lookup y = some .local) (hd : (y == ("__debug__" : Str)) = false) (h : Q v s) :
    wpAny M A (eval (.Name y pos) (ksEnv qual scope L f cd cc)) Q E s := wpAny_Name (wpAny_loadName_local hk hl hn hv h) hd

variable {params : Arguments} {msg fld : Str} {j : Nat} {p0 p1 p2 p3 p4 p5 q1 q2 q3 q4 : Pos}
/-- __init__ of one field, run on a fresh exception -/
theorem init_one (T : Ini K prog C f cc qual params [supSt msg j p0 p1 p2 p3 p4 p5, putSt fld q1 q2 q3 q4] scope bmB B newId initId) (S : Sc scope params [fld]) (V : Ev qual scope f cc msg j p0 p1 p2 p3 p4) (hno : findIn K (.ref C) fld = some none)
    {t0 : Addr} {v : Value} {args : Args} {R : Result → Shared → Prop} (X : K.In s.heap) (G : GlobAt s.heap mg) (hx : s.heap.get? x = some (excObj C t0 none .none)) (hxK : K.lookup x = none) (hroom : A.depth < recursionLimit)
    (hb : ∀ (kV doc pm : Value) (an : Option Addr) (cdv ct : Value), BindsTo s (ksFn "__init__" qual params [supSt msg j p0 p1 p2 p3 p4 p5, putSt fld q1 q2 q3 q4] scope .none kV doc pm an cdv ct cc) args [(("self" : Str), .ref x), (fld, v)])
    (hq : ∀ h' tk dx, Own s.heap h' x C dx (fun y => if y = fld then some v else none) → R (.ok (.ret .none)) { s with heap := h', toks := tk }) :
    codeAny (model prog w) A (.call (.ref f) args) R s := by
  obtain ⟨oc, od, kV, doc, pm, an, cda, ct, osl, ho, hcd, hcda⟩ := T.fn
  obtain ⟨ar, har, hself⟩ := S.hd
  have hfn := S.nd fld (by simp)
  obtain ⟨hp, g, d, t, os⟩ := s
  refine ks_codeAny_call_defAt (fd := ksFn "__init__" qual params [supSt msg j p0 p1 p2 p3 p4 p5, putSt fld q1 q2 q3 q4] scope .none kV doc pm an (.ref cda) ct cc) (body := [supSt msg j p0 p1 p2 p3 p4 p5, putSt fld q1 q2 q3 q4]) hroom (X _ _ ho) rfl G.lim (codeRec_of X hcd) rfl (hb _ _ _ _ _ _) S.nc
    (fun y hy => ?_) (fun h0 hns k0 => ?_) S.co S.gen T.sk
  · rcases List.mem_cons.mp hy with rfl | hy
    · exact S.self
    · rcases List.mem_cons.mp hy with rfl | hy
      · exact S.fl _ (by simp)
      · exact absurd hy (by simp)
  have X0 : K.In h0 := X.keeps k0
  have G0 := G.keeps k0
  have hx0 := k0 _ _ hx
  have hxL : x ≠ hp.objs.size := Nat.ne_of_lt (Heap.lt_size hx)
  have m1 : (fun y => ([(("self" : Str), Value.ref x), (fld, v)] : List (Str × Value)).reverse.lookup y) "self" = some (Value.ref x) := by
    have e : (("self" : Str) == fld) = false := by simpa using fun z => hfn.1 z.symm
    simp [List.lookup, e]
  have m2 : (fun y => ([(("self" : Str), Value.ref x), (fld, v)] : List (Str × Value)).reverse.lookup y) fld = some v := by simp [List.lookup]
  obtain ⟨hin, pl, hev⟩ := V hp.objs.size (.ref cda)
  refine ks_wpAt_execs_cons ?_
  refine super_said T (g := g) (d := d) (os := os) (t := t + [(("self" : Str), Value.ref x), (fld, v)].length) ho hcda har (by rw [hself]; exact S.self) X0 G0 hns (by rw [hself]; exact m1) hx0 hxL hxK (fun h1 tk1 t1 k1 e1 => ?_) hin hev
  refine _root_.PySem.wpAt_of_wpAny ?_
  have X1 : K.In h1 := fun b o e => k1 b o (fun z => by rw [z, hxK] at e; cases e) (X0 b o e)
  have hns1 : h1.Ns hp.objs.size (fun y => ([(("self" : Str), Value.ref x), (fld, v)] : List (Str × Value)).reverse.lookup y) := by
    obtain ⟨o, es, ep, a, b⟩ := hns
    exact ⟨o, es, ep, k1 _ _ (Ne.symm hxL) a, b⟩
  refine wpAny_execs_cons (plainObj_wpAny_Assign_Attribute ?_)
  refine ld_local hns1 m2 T.sk (S.fl _ (by simp)) hfn.2 (ld_local hns1 m1 T.sk S.self (by decide) ?_)
  refine store_first T X1 e1 hno fun h2 tk2 dx k2 dn dne e2 n2 => ?_
  refine wpAny_execs_nil ?_
  have hz : hp.objs.size ≤ h1.objs.size := by
    obtain ⟨o, es, ep, a, b⟩ := hns1
    exact Nat.le_of_lt (Heap.lt_size a)
  exact hq h2 tk2 dx ⟨fun b o hb e => k2 b o hb (k1 b o hb (k0 b o e)), ⟨t1, e2⟩, Nat.le_trans hz dn, dne, n2⟩

/-- __init__ without a field -/
theorem init_none (T : Ini K prog C f cc qual params [supSt msg j p0 p1 p2 p3 p4 p5] scope bmB B newId initId) (S : Sc scope params []) (V : Ev qual scope f cc msg j p0 p1 p2 p3 p4)
    {t0 : Addr} {args : Args} {R : Result → Shared → Prop} (X : K.In s.heap) (G : GlobAt s.heap mg) (hx : s.heap.get? x = some (excObj C t0 none .none)) (hxK : K.lookup x = none) (hroom : A.depth < recursionLimit)
    (hb : ∀ (kV doc pm : Value) (an : Option Addr) (cdv ct : Value), BindsTo s (ksFn "__init__" qual params [supSt msg j p0 p1 p2 p3 p4 p5] scope .none kV doc pm an cdv ct cc) args [(("self" : Str), .ref x)])
    (hq : ∀ h' tk t1, (∀ b o, b ≠ x → s.heap.get? b = some o → h'.get? b = some o) → h'.get? x = some (excObj C t1 none .none) → R (.ok (.ret .none)) { s with heap := h', toks := tk }) :
    codeAny (model prog w) A (.call (.ref f) args) R s := by
  obtain ⟨oc, od, kV, doc, pm, an, cda, ct, osl, ho, hcd, hcda⟩ := T.fn
  obtain ⟨ar, har, hself⟩ := S.hd
  obtain ⟨hp, g, d, t, os⟩ := s
  refine ks_codeAny_call_defAt (fd := ksFn "__init__" qual params [supSt msg j p0 p1 p2 p3 p4 p5] scope .none kV doc pm an (.ref cda) ct cc) (body := [supSt msg j p0 p1 p2 p3 p4 p5]) hroom (X _ _ ho) rfl G.lim (codeRec_of X hcd) rfl (hb _ _ _ _ _ _) S.nc
    (fun y hy => ?_) (fun h0 hns k0 => ?_) S.co S.gen T.sk
  · rcases List.mem_cons.mp hy with rfl | hy
    · exact S.self
    · exact absurd hy (by simp)
  have hx0 := k0 _ _ hx
  have hxL : x ≠ hp.objs.size := Nat.ne_of_lt (Heap.lt_size hx)
  have m1 : (fun y => ([(("self" : Str), Value.ref x)] : List (Str × Value)).reverse.lookup y) "self" = some (Value.ref x) := by simp [List.lookup]
  obtain ⟨hin, pl, hev⟩ := V hp.objs.size (.ref cda)
  refine ks_wpAt_execs_cons ?_
  refine super_said T (g := g) (d := d) (os := os) (t := t + [(("self" : Str), Value.ref x)].length) ho hcda har (by rw [hself]; exact S.self) (X.keeps k0) (G.keeps k0) hns (by rw [hself]; exact m1) hx0 hxL hxK (fun h1 tk1 t1 k1 e1 => ?_) hin hev
  refine _root_.PySem.wpAt_of_wpAny (wpAny_execs_nil ?_)
  exact hq h1 tk1 t1 (fun b o hb e => k1 b o hb (k0 b o e)) e1
variable {fld2 : Str} {r1 r2 r3 r4 : Pos}
/-- __init__ of two fields -/
theorem init_two (T : Ini K prog C f cc qual params [supSt msg j p0 p1 p2 p3 p4 p5, putSt fld q1 q2 q3 q4, putSt fld2 r1 r2 r3 r4] scope bmB B newId initId) (S : Sc scope params [fld, fld2]) (V : Ev qual scope f cc msg j p0 p1 p2 p3 p4) (hno : findIn K (.ref C) fld = some none)
    (hno2 : findIn K (.ref C) fld2 = some none) (hff : fld ≠ fld2)
    {t0 : Addr} {v v2 : Value} {args : Args} {R : Result → Shared → Prop} (X : K.In s.heap) (G : GlobAt s.heap mg) (hx : s.heap.get? x = some (excObj C t0 none .none)) (hxK : K.lookup x = none) (hroom : A.depth < recursionLimit)
    (hb : ∀ (kV doc pm : Value) (an : Option Addr) (cdv ct : Value), BindsTo s (ksFn "__init__" qual params [supSt msg j p0 p1 p2 p3 p4 p5, putSt fld q1 q2 q3 q4, putSt fld2 r1 r2 r3 r4] scope .none kV doc pm an cdv ct cc) args [(("self" : Str), .ref x), (fld, v), (fld2, v2)])
    (hq : ∀ h' tk dx, Own s.heap h' x C dx (fun y => if y = fld2 then some v2 else if y = fld then some v else none) → R (.ok (.ret .none)) { s with heap := h', toks := tk }) :
    codeAny (model prog w) A (.call (.ref f) args) R s := by
  obtain ⟨oc, od, kV, doc, pm, an, cda, ct, osl, ho, hcd, hcda⟩ := T.fn
  obtain ⟨ar, har, hself⟩ := S.hd
  have hf1 := S.nd fld (by simp)
  have hf2 := S.nd fld2 (by simp)
  obtain ⟨hp, g, d, t, os⟩ := s
  refine ks_codeAny_call_defAt (fd := ksFn "__init__" qual params [supSt msg j p0 p1 p2 p3 p4 p5, putSt fld q1 q2 q3 q4, putSt fld2 r1 r2 r3 r4] scope .none kV doc pm an (.ref cda) ct cc)
    (body := [supSt msg j p0 p1 p2 p3 p4 p5, putSt fld q1 q2 q3 q4, putSt fld2 r1 r2 r3 r4]) hroom (X _ _ ho) rfl G.lim (codeRec_of X hcd) rfl (hb _ _ _ _ _ _) S.nc
    (fun y hy => ?_) (fun h0 hns k0 => ?_) S.co S.gen T.sk
  · rcases List.mem_cons.mp hy with rfl | hy
    · exact S.self
    · rcases List.mem_cons.mp hy with rfl | hy
      · exact S.fl _ (by simp)
      · rcases List.mem_cons.mp hy with rfl | hy
        · exact S.fl _ (by simp)
        · exact absurd hy (by simp)
  have X0 : K.In h0 := X.keeps k0
  have hx0 := k0 _ _ hx
  have hxL : x ≠ hp.objs.size := Nat.ne_of_lt (Heap.lt_size hx)
  have e1' : (("self" : Str) == fld) = false := by simpa using fun z => hf1.1 z.symm
  have e2' : (("self" : Str) == fld2) = false := by simpa using fun z => hf2.1 z.symm
  have e3' : (fld == fld2) = false := by simpa using hff
  have m1 : (fun y => ([(("self" : Str), Value.ref x), (fld, v), (fld2, v2)] : List (Str × Value)).reverse.lookup y) "self" = some (Value.ref x) := by simp [List.lookup, e1', e2']
  have m2 : (fun y => ([(("self" : Str), Value.ref x), (fld, v), (fld2, v2)] : List (Str × Value)).reverse.lookup y) fld = some v := by simp [List.lookup, e3']
  have m3 : (fun y => ([(("self" : Str), Value.ref x), (fld, v), (fld2, v2)] : List (Str × Value)).reverse.lookup y) fld2 = some v2 := by simp [List.lookup]
  obtain ⟨hin, pl, hev⟩ := V hp.objs.size (.ref cda)
  refine ks_wpAt_execs_cons ?_
  refine super_said T (g := g) (d := d) (os := os) (t := t + [(("self" : Str), Value.ref x), (fld, v), (fld2, v2)].length) ho hcda har (by rw [hself]; exact S.self) X0 (G.keeps k0) hns (by rw [hself]; exact m1) hx0 hxL hxK (fun h1 tk1 t1 k1 e1 => ?_) hin hev
  refine _root_.PySem.wpAt_of_wpAny ?_
  have X1 : K.In h1 := fun b o e => k1 b o (fun z => by rw [z, hxK] at e; cases e) (X0 b o e)
  have hns1 : h1.Ns hp.objs.size (fun y => ([(("self" : Str), Value.ref x), (fld, v), (fld2, v2)] : List (Str × Value)).reverse.lookup y) := by
    obtain ⟨o, es, ep, a, b⟩ := hns
    exact ⟨o, es, ep, k1 _ _ (Ne.symm hxL) a, b⟩
  refine wpAny_execs_cons (plainObj_wpAny_Assign_Attribute ?_)
  refine ld_local hns1 m2 T.sk (S.fl _ (by simp)) hf1.2 (ld_local hns1 m1 T.sk S.self (by decide) ?_)
  refine store_first T X1 e1 hno fun h2 tk2 dx k2 dn dne e2 n2 => ?_
  have X2 : K.In h2 := fun b o e => k2 b o (fun z => by rw [z, hxK] at e; cases e) (X1 b o e)
  have hz : hp.objs.size < h1.objs.size := by
    obtain ⟨o, es, ep, a, b⟩ := hns1
    exact Heap.lt_size a
  have hns2 : h2.Ns hp.objs.size (fun y => ([(("self" : Str), Value.ref x), (fld, v), (fld2, v2)] : List (Str × Value)).reverse.lookup y) := by
    obtain ⟨o, es, ep, a, b⟩ := hns1
    exact ⟨o, es, ep, k2 _ _ (Ne.symm hxL) a, b⟩
  refine wpAny_execs_cons (plainObj_wpAny_Assign_Attribute ?_)
  refine ld_local hns2 m3 T.sk (S.fl _ (by simp)) hf2.2 (ld_local hns2 m1 T.sk S.self (by decide) ?_)
  have hw : Within (fun y => if y = fld then some v else none) [fld] := Within.cons fld v Within.nil
  refine store_more T X2 e2 n2 hw (show 1 ≤ 1000 by decide) hno2 fun h3 tk3 k3 n3 => ?_
  refine wpAny_execs_nil ?_
  have nd : ∀ {b : Addr} {o : Obj}, h1.get? b = some o → b ≠ dx := fun {b o} e => Nat.ne_of_lt (Nat.lt_of_lt_of_le (Heap.lt_size e) dn)
  exact hq h3 tk3 dx ⟨fun b o hb e => k3 b o (nd (k1 b o hb (k0 b o e))) (k2 b o hb (k1 b o hb (k0 b o e))), ⟨t1, k3 _ _ (Ne.symm dne) e2⟩, Nat.le_trans (Nat.le_of_lt hz) dn, dne, n3⟩

/-- a made exception: all that stood stands -/
structure Made (h h' : Heap) (e C : Addr) (d : Option Addr) (m : Str → Option Value) : Prop where
  keep : ∀ b o, h.get? b = some o → h'.get? b = some o
  new : h.objs.size ≤ e
  obj : ∃ t1, h'.get? e = some (excObj C t1 d .none)
  dict : ∀ dx, d = some dx → h.objs.size ≤ dx ∧ dx ≠ e ∧ h'.Ns1 dx m
theorem call_made {us : List Value} {kw : List (Str × Value)} {body : List Stmt} (T : Ini K prog C f cc qual params body scope bmB B newId initId) (X : K.In s.heap) (hz : us.length ≤ sizeLine) {R : Result → Shared → Prop} {dopt : Option Addr → Prop} {m : Str → Option Value}
    (hrun : ∀ (h0 : Heap), (∀ b o, s.heap.get? b = some o → h0.get? b = some o) → h0.objs.size = s.heap.objs.size + 2 → K.lookup (s.heap.objs.size + 1) = none → h0.get? (s.heap.objs.size + 1) = some (excObj C s.heap.objs.size none .none) →
      ∀ R' : Result → Shared → Prop, (∀ h' tk d, dopt d → (∀ b o, b ≠ s.heap.objs.size + 1 → h0.get? b = some o → h'.get? b = some o) → (∃ t1, h'.get? (s.heap.objs.size + 1) = some (excObj C t1 d .none)) →
          (∀ dx, d = some dx → h0.objs.size ≤ dx ∧ dx ≠ s.heap.objs.size + 1 ∧ h'.Ns1 dx m) → R' (.ok (.ret .none)) { s with heap := h', toks := tk }) →
        codeAny (model prog w) (A.under (.builtin "type.__call__" ⟨.ref C :: us, kw⟩)) (.call (.ref f) ⟨.ref (s.heap.objs.size + 1) :: us, kw⟩) R' { s with heap := h0 })
    (hq : ∀ h' tk e d, dopt d → Made s.heap h' e C d m → R (.ok (.ret (.ref e))) { s with heap := h', toks := tk }) :
    codeAny (model prog w) A (.call (.ref C) ⟨us, kw⟩) R s := by
  obtain ⟨nm, q, N, bs, bm, sn, sub, ab, col, dd, k0, k1, k2, k3, k5, hC, hbm⟩ := T.cls
  obtain ⟨Bn, initN, bmN, FB, c1, c2, c3⟩ := T.new
  have M : NewM C bm Bn := ⟨by rw [List.contains_cons, excTail_contains Bn bm hbm, c1, Bool.or_true], by rw [List.contains_cons, excTail_contains "AttributeError" bm hbm, c2]; rfl, by rw [List.contains_cons, excTail_contains "NameError" bm hbm, c3]; rfl⟩
  obtain ⟨hp, g, dr, tk, os⟩ := s
  have k : ∀ b o, hp.get? b = some o → ((hp.push (kdv_tup us)).push (HandSPX.excO C hp.objs.size)).get? b = some o := fun b o e => Heap.get?_push_of_some _ (Heap.get?_push_of_some _ e)
  have hget : ((hp.push (kdv_tup us)).push (HandSPX.excO C hp.objs.size)).get? (hp.objs.size + 1) = some (HandSPX.excO C hp.objs.size) := by heap_get
  have hnx : K.lookup (hp.objs.size + 1) = none := by
    cases e : K.lookup (hp.objs.size + 1) with
    | none => rfl
    | some o => exact absurd (Nat.lt_of_succ_lt (Heap.lt_size (X _ _ e))) (Nat.lt_irrefl _)
  have hsz : ((hp.push (kdv_tup us)).push (HandSPX.excO C hp.objs.size)).objs.size = hp.objs.size + 2 := by rw [Heap.size_push, Heap.size_push]
  refine call_K FB M (X _ _ hC) (looks_findIn X T.iC) (fun self => bind_fn X self T.tF) hz ?_
  refine hrun _ k hsz hnx hget _ fun h' tk' d hd k' hx' hdict => ?_
  refine ⟨rfl, hq h' tk' (hp.objs.size + 1) d hd ⟨fun b o e => k' b o (Nat.ne_of_lt (Nat.lt_succ_of_lt (Heap.lt_size e))) (k b o e), Nat.le_succ _, hx', fun dx e => ?_⟩⟩
  obtain ⟨a, b, c⟩ := hdict dx e
  rw [hsz] at a
  exact ⟨Nat.le_trans (Nat.le_add_right _ 2) a, b, c⟩
/-- how the arguments are given: by place, or by the fields' names -/
inductive ArgOk : List Str → Args → List Value → Prop
  | pos {flds : List Str} {us : List Value} (h : us.length = flds.length) : ArgOk flds ⟨us, []⟩ us
  | kw1 {f : Str} {v : Value} : ArgOk [f] ⟨[], [(f, v)]⟩ [v]
  | kw2 {f f2 : Str} {v v2 : Value} : ArgOk [f, f2] ⟨[], [(f2, v2), (f, v)]⟩ [v, v2]
theorem ArgOk.pz {flds : List Str} {a : Args} {us : List Value} (h : ArgOk flds a us) (hf : flds.length ≤ 2) : a.pos.length ≤ sizeLine := by
  rw [sizeLine_eq]
  cases h with
  | pos h => show us.length ≤ _; omega
  | kw1 => exact Nat.zero_le _
  | kw2 => exact Nat.zero_le _
theorem ArgOk.len {flds : List Str} {a : Args} {us : List Value} (h : ArgOk flds a us) : us.length = flds.length := by
  cases h with
  | pos h => exact h
  | kw1 => rfl
  | kw2 => rfl
theorem made_one (T : Ini K prog C f cc qual params [supSt msg j p0 p1 p2 p3 p4 p5, putSt fld q1 q2 q3 q4] scope bmB B newId initId) (S : Sc scope params [fld]) (V : Ev qual scope f cc msg j p0 p1 p2 p3 p4) (hno : findIn K (.ref C) fld = some none)
    {a : Args} {v : Value} {R : Result → Shared → Prop} (ha : ArgOk [fld] a [v]) (X : K.In s.heap) (G : GlobAt s.heap mg) (hroom : A.depth + 1 < recursionLimit)
    (hb : ∀ (s' : Shared) (x : Addr) (kV doc pm : Value) (an : Option Addr) (cdv ct : Value), BindsTo s' (ksFn "__init__" qual params [supSt msg j p0 p1 p2 p3 p4 p5, putSt fld q1 q2 q3 q4] scope .none kV doc pm an cdv ct cc) ⟨.ref x :: a.pos, a.kw⟩ [(("self" : Str), .ref x), (fld, v)])
    (hq : ∀ h' tk e d, Made s.heap h' e C (some d) (fun y => if y = fld then some v else none) → R (.ok (.ret (.ref e))) { s with heap := h', toks := tk }) :
    codeAny (model prog w) A (.call (.ref C) a) R s := by
  refine call_made (us := a.pos) (kw := a.kw) (dopt := fun d => ∃ dx, d = some dx) (m := fun y => if y = fld then some v else none) T X (ha.pz (show 1 ≤ 2 by decide)) (fun h0 k0 hsz hnx hx R' hR => ?_) (fun h' tk e d ⟨dx, hd⟩ M => by subst hd; exact hq h' tk e dx M)
  refine init_one T S V hno (s := { s with heap := h0 }) (X.keeps k0) (G.keeps k0) hx hnx ?_ (fun _ _ _ _ _ _ => hb _ _ _ _ _ _ _ _) fun h' tk dx O => ?_
  · show A.depth + 1 < recursionLimit
    exact hroom
  · exact hR h' tk (some dx) ⟨dx, rfl⟩ O.keep O.obj fun dy e => by cases e; exact ⟨O.dbig, O.dne, O.ns⟩
theorem made_two (T : Ini K prog C f cc qual params [supSt msg j p0 p1 p2 p3 p4 p5, putSt fld q1 q2 q3 q4, putSt fld2 r1 r2 r3 r4] scope bmB B newId initId) (S : Sc scope params [fld, fld2]) (V : Ev qual scope f cc msg j p0 p1 p2 p3 p4) (hno : findIn K (.ref C) fld = some none)
    (hno2 : findIn K (.ref C) fld2 = some none) (hff : fld ≠ fld2) {a : Args} {v v2 : Value} {R : Result → Shared → Prop} (ha : ArgOk [fld, fld2] a [v, v2]) (X : K.In s.heap) (G : GlobAt s.heap mg) (hroom : A.depth + 1 < recursionLimit)
    (hb : ∀ (s' : Shared) (x : Addr) (kV doc pm : Value) (an : Option Addr) (cdv ct : Value), BindsTo s' (ksFn "__init__" qual params [supSt msg j p0 p1 p2 p3 p4 p5, putSt fld q1 q2 q3 q4, putSt fld2 r1 r2 r3 r4] scope .none kV doc pm an cdv ct cc) ⟨.ref x :: a.pos, a.kw⟩ [(("self" : Str), .ref x), (fld, v), (fld2, v2)])
    (hq : ∀ h' tk e d, Made s.heap h' e C (some d) (fun y => if y = fld2 then some v2 else if y = fld then some v else none) → R (.ok (.ret (.ref e))) { s with heap := h', toks := tk }) :
    codeAny (model prog w) A (.call (.ref C) a) R s := by
  refine call_made (us := a.pos) (kw := a.kw) (dopt := fun d => ∃ dx, d = some dx) (m := fun y => if y = fld2 then some v2 else if y = fld then some v else none) T X (ha.pz (show 2 ≤ 2 by decide)) (fun h0 k0 hsz hnx hx R' hR => ?_) (fun h' tk e d ⟨dx, hd⟩ M => by subst hd; exact hq h' tk e dx M)
  refine init_two T S V hno hno2 hff (s := { s with heap := h0 }) (X.keeps k0) (G.keeps k0) hx hnx ?_ (fun _ _ _ _ _ _ => hb _ _ _ _ _ _ _ _) fun h' tk dx O => ?_
  · show A.depth + 1 < recursionLimit
    exact hroom
  · exact hR h' tk (some dx) ⟨dx, rfl⟩ O.keep O.obj fun dy e => by cases e; exact ⟨O.dbig, O.dne, O.ns⟩
theorem made_none (T : Ini K prog C f cc qual params [supSt msg j p0 p1 p2 p3 p4 p5] scope bmB B newId initId) (S : Sc scope params []) (V : Ev qual scope f cc msg j p0 p1 p2 p3 p4)
    {a : Args} {R : Result → Shared → Prop} (ha : ArgOk [] a []) (X : K.In s.heap) (G : GlobAt s.heap mg) (hroom : A.depth + 1 < recursionLimit)
    (hb : ∀ (s' : Shared) (x : Addr) (kV doc pm : Value) (an : Option Addr) (cdv ct : Value), BindsTo s' (ksFn "__init__" qual params [supSt msg j p0 p1 p2 p3 p4 p5] scope .none kV doc pm an cdv ct cc) ⟨.ref x :: a.pos, a.kw⟩ [(("self" : Str), .ref x)])
    (hq : ∀ h' tk e, Made s.heap h' e C none (fun _ => none) → R (.ok (.ret (.ref e))) { s with heap := h', toks := tk }) :
    codeAny (model prog w) A (.call (.ref C) a) R s := by
  refine call_made (us := a.pos) (kw := a.kw) (dopt := fun d => d = none) (m := fun _ => none) T X (ha.pz (by decide)) (fun h0 k0 hsz hnx hx R' hR => ?_) (fun h' tk e d hd M => by subst hd; exact hq h' tk e M)
  refine init_none T S V (s := { s with heap := h0 }) (X.keeps k0) (G.keeps k0) hx hnx ?_ (fun _ _ _ _ _ _ => hb _ _ _ _ _ _ _ _) fun h' tk t1 kk e1 => ?_
  · show A.depth + 1 < recursionLimit
    exact hroom
  · exact hR h' tk none rfl kk ⟨t1, e1⟩ fun dy e => by cases e
end
end ExM

/-! Own exceptions as values: made, raised, caught by a clause over a tuple of classes, kept, asked. -/
namespace L2
open PySem PySem.Spec PyProof.Rows ExM

/-- at e: an exception of the class cls, its own dict d -/
def exv (e : Addr) (cls : Value) (d : Option Addr) : HO := .ext fun h => ∃ (oe : Obj) (vs : Array Value), h.get? e = some oe ∧ Zc cls d oe ∧ oe.data = .fields vs
theorem exv_ok {P : Program} {w : World} {H : Hp} {h : Heap} {e : Addr} {cls : Value} {d : Option Addr} {oe : Obj} {vs : Array Value} (he : h.get? e = some oe) (hz : Zc cls d oe) (hd : oe.data = .fields vs) : ObjOk P w H h e (exv e cls d) :=
  ⟨⟨oe, vs, he, hz, hd⟩, ⟨oe, he⟩, fun _ _ ⟨o, v, q, r⟩ k => ⟨o, v, k o q, r⟩⟩
theorem exv_at {P : Program} {w : World} {H : Hp} {h : Heap} {e : Addr} {cls : Value} {d : Option Addr} (hok : HOk P w H h) (he : H e = some (exv e cls d)) : ∃ (oe : Obj) (vs : Array Value), h.get? e = some oe ∧ Zc cls d oe ∧ oe.data = .fields vs := by
  have x : ObjOk P w H h e (.ext fun h => ∃ (oe : Obj) (vs : Array Value), h.get? e = some oe ∧ Zc cls d oe ∧ oe.data = .fields vs) := hok e _ he
  exact x.1

/-- calling the class at C with as many values as fields makes an exception that holds them (the last field first) -/
structure Mks (prog : Program) (K : PySem.W.Frag) (mg : Str → Option Value) (C : Addr) (flds : List Str) : Prop where
  call : ∀ (w : World) (A : Around) (s : Shared) (a : Args) (us : List Value) (R : Result → Shared → Prop), ArgOk flds a us → K.In s.heap → GlobAt s.heap mg → A.depth + 1 < recursionLimit →
    (∀ h' tk e d m, Made s.heap h' e C d m → (flds = [] ↔ d = none) → (∀ f, m f = (flds.zip us).reverse.lookup f) → R (.ok (.ret (.ref e))) { s with heap := h', toks := tk }) → codeAny (model prog w) A (.call (.ref C) a) R s
  kC : PySem.W.keepIn K (.ref C) = true
  exC : PySem.W.subIn K (.ref C) (.type "BaseException") = some true
  tyC : PySem.W.typeIn K (.ref C) = some (.type "type")

abbrev PV : Str × V → Str × Value → Prop := fun p q => p.1 = q.1 ∧ RelV p.2 q.2
theorem relO_look : ∀ {ps : List (Str × V)} {qs : List (Str × Value)}, Paired PV ps qs → ∀ f, RelO (ps.lookup f) (qs.lookup f)
  | _, _, .nil, _ => True.intro
  | _, _, .cons (a := p) (b := q) r t, f => by
    obtain ⟨g, v⟩ := p
    obtain ⟨g', u⟩ := q
    obtain ⟨e, r⟩ := r
    dsimp only at e r
    subst e
    by_cases h : f = g
    · subst h
      simp only [List.lookup, beq_self_eq_true]
      exact r
    · have e : (f == g) = false := by simpa using h
      simpa [List.lookup, e] using relO_look t f
theorem pv_zip : ∀ {fs : List Str} {vs : List V} {us : List Value}, Vals vs us → Paired PV (fs.zip vs) (fs.zip us)
  | [], _, _, _ => by simpa using Paired.nil
  | _ :: _, _, _, .nil => by simpa using Paired.nil
  | _ :: _, _, _, .cons r t => .cons ⟨rfl, r⟩ (pv_zip t)
theorem paired_app {α β : Type} {F : α → β → Prop} : ∀ {a : List α} {b : List β} {c : List α} {d : List β}, Paired F a b → Paired F c d → Paired F (a ++ c) (b ++ d)
  | _, _, _, _, .nil, s => s
  | _, _, _, _, .cons r t, s => .cons r (paired_app t s)
theorem paired_rev {α β : Type} {F : α → β → Prop} : ∀ {a : List α} {b : List β}, Paired F a b → Paired F a.reverse b.reverse
  | _, _, .nil => .nil
  | _, _, .cons r t => by
    rw [List.reverse_cons, List.reverse_cons]
    exact paired_app (paired_rev t) (.cons r .nil)
theorem relO_rev {fs : List Str} {vs : List V} {us : List Value} (r : Vals vs us) (hl : vs.length = fs.length) (f : Str) : RelO ((fs.zip vs).reverse.lookup f) ((fs.zip us).reverse.lookup f) := relO_look (paired_rev (pv_zip r)) f

section
variable {X : Cx} {pins : List (Addr × Obj)} {σ : St} {H : Hp} {s : Shared}
theorem Inv.globAt (I : Inv X pins σ H s) (hs : X.mg "super" = none) : GlobAt s.heap X.mg := by
  obtain ⟨mb, h1, h2⟩ := I.mod.blt
  exact ⟨I.mod.glob.keeps I.bk, ⟨mb, h1.keeps I.bk, (h2 "super" (by decide)).trans (by decide +kernel)⟩, hs, I.nolimit⟩
end

section
variable {X : Cx} {C : Addr} {x : Str} {flds : List Str} {es : List Expr} {e : Expr} {ta : TA} {p pos : Pos} {k : Nat}
/-- C(e, ..) for a raise: its dict alone is told -/
def tMks (C : Addr) (flds : List Str) (ta : TA) : St → Hp → XK → Prop := fun σ H Q => ta σ H fun vs H1 => vs.length = flds.length ∧ ∀ d, H1 d = none → Q (.ref C) (some d) (upd H1 d (.xd (flds.zip vs).reverse))
theorem pmk_mks (T : Mks X.prog X.K X.mg C flds) (hs : X.mg "super" = none) (hr : Room k X.A) (hne : flds ≠ []) (ha : PA X (e :: es) ta) (hg : Gl X x) (hm : X.mg x = some (.ref C)) (hdb : (x == ("__debug__" : Str)) = false := by decide)
    (he : starEach (e :: es) X.env = (false, eval e X.env) :: starEach es X.env := by rfl) (hpl : (backTo pos (starEach es X.env)).any (·.1) = false := by rfl) :
    PMk X (.Call (.Name x p) (e :: es) [] pos) (tMks C flds ta) := by
  intro pins s σ H Q I h
  refine wpAny_Call_Name_kw (ld_glob I hg hm ?_ hdb)
  refine PySem.W.callWith_K (h₀ := X.base) I.ok.mod.kin T.kC (thn (ha.run pos pins s σ H _ I h) fun us s1 ⟨vs, H1, I1, r1, hl, q1⟩ => ⟨I1.kIn, ?_⟩) he hpl
  show wpAny _ _ (call (.ref C) us) _ _ _
  have hlu : us.length = flds.length := r1.length.symm.trans hl
  refine wpAny_call (T.call _ _ _ _ us _ (.pos hlu) I1.kIn (I1.globAt hs) (by have := hr.dp; omega) fun h' tk' e d m M hd hmm => ?_)
  show MkP X pins σ Q (.ref e) _
  obtain ⟨d, rfl⟩ : ∃ dd, d = some dd := by
    cases d with
    | none => exact absurd (hd.mpr rfl) hne
    | some dd => exact ⟨dd, rfl⟩
  obtain ⟨t1, hoe⟩ := M.obj
  obtain ⟨db, dne, hns⟩ := M.dict d rfl
  obtain ⟨hp, g, dr, tk, os⟩ := s1
  obtain ⟨G, g1, g2⟩ := restrict h' fun b => decide (b ≠ e)
  have gk : ∀ b, b ≠ e → G.get? b = h'.get? b := fun b hb => g1 b (decide_eq_true hb)
  have ge : G.get? e = none := g2 e (by simp)
  have old : ∀ b o, hp.get? b = some o → G.get? b = some o := fun b o q => (gk b (Nat.ne_of_lt (Nat.lt_of_lt_of_le (Heap.lt_size q) M.new))).trans (M.keep b o q)
  have ob : ObjOk X.prog X.w (upd H1 d (.xd (flds.zip vs).reverse)) G d (.xd (flds.zip vs).reverse) :=
    ⟨_, hns.at (fun o q => (gk d dne).trans q), fun f => by rw [hmm f]; exact relO_rev r1 hl f⟩
  have J : Inv X pins σ (upd H1 d (.xd (flds.zip vs).reverse)) ⟨G, g, dr, tk', os⟩ := I1.laid (t' := tk') old db ob
  refine ⟨e, _, _, ⟨G, g, dr, tk', os⟩, _, .ref C, some d, rfl, J, fun b o q => ?_, ge, hoe, ⟨rfl, rfl⟩, rfl, rfl, ?_, rfl, I1.bare, raises_own T.exC T.tyC, q1 d (I1.hok.fresh db)⟩
  · by_cases hb : b = e
    · rw [hb, ge] at q
      cases q
    · exact (gk b hb).symm.trans q
  · rw [upd_ne (Ne.symm dne)]
    exact I1.hok.fresh M.new
/-- C() for a raise -/
theorem pmk_mks0 (T : Mks X.prog X.K X.mg C []) (hs : X.mg "super" = none) (hr : Room k X.A) (hg : Gl X x) (hm : X.mg x = some (.ref C)) (hdb : (x == ("__debug__" : Str)) = false := by decide) :
    PMk X (.Call (.Name x p) [] [] pos) (fun σ H Q => Q (.ref C) none H) := by
  intro pins s σ H Q I h
  refine wpAny_Call_Name_kw (ld_glob I hg hm ?_ hdb)
  refine PySem.W.callWith_K0 I.kIn T.kC ?_
  refine wpAny_call (T.call _ _ _ _ [] _ (.pos rfl) I.kIn (I.globAt hs) (by have := hr.dp; omega) fun h' tk' e d m M hd hmm => ?_)
  show MkP X pins σ Q (.ref e) _
  obtain rfl : d = none := hd.mp rfl
  obtain ⟨t1, hoe⟩ := M.obj
  have na : H e = none := I.hok.fresh M.new
  have nn : s.heap.get? e = none := by
    cases q : s.heap.get? e with
    | none => rfl
    | some o => exact absurd (Nat.lt_of_lt_of_le (Heap.lt_size q) M.new) (Nat.lt_irrefl _)
  exact ⟨e, _, _, s, _, .ref C, none, rfl, I, M.keep, nn, hoe, ⟨rfl, rfl⟩, rfl, rfl, na, rfl, I.bare, raises_own T.exC T.tyC, h⟩
/-- C(e, ..) as a value: the exception is kept -/
def tMkv (C : Addr) (flds : List Str) (ta : TA) : TE := fun σ H Q => ta σ H fun vs H1 => vs.length = flds.length ∧ ∀ e d, H1 e = none → H1 d = none → d ≠ e → Q (.ref e) (upd (upd H1 d (.xd (flds.zip vs).reverse)) e (exv e (.ref C) (some d)))
theorem pe_mkv (T : Mks X.prog X.K X.mg C flds) (hs : X.mg "super" = none) (hr : Room k X.A) (hne : flds ≠ []) (ha : PA X (e :: es) ta) (hg : Gl X x) (hm : X.mg x = some (.ref C)) (hdb : (x == ("__debug__" : Str)) = false := by decide)
    (he : starEach (e :: es) X.env = (false, eval e X.env) :: starEach es X.env := by rfl) (hpl : (backTo pos (starEach es X.env)).any (·.1) = false := by rfl) :
    PE X (.Call (.Name x p) (e :: es) [] pos) (tMkv C flds ta) := by
  refine ⟨fun pins s σ H Q I h => ?_⟩
  refine wpAny_Call_Name_kw (ld_glob I hg hm ?_ hdb)
  refine PySem.W.callWith_K (h₀ := X.base) I.ok.mod.kin T.kC (thn (ha.run pos pins s σ H _ I h) fun us s1 ⟨vs, H1, I1, r1, hl, q1⟩ => ⟨I1.kIn, ?_⟩) he hpl
  show wpAny _ _ (call (.ref C) us) _ _ _
  have hlu : us.length = flds.length := r1.length.symm.trans hl
  refine wpAny_call (T.call _ _ _ _ us _ (.pos hlu) I1.kIn (I1.globAt hs) (by have := hr.dp; omega) fun h' tk' e d m M hd hmm => ?_)
  obtain ⟨d, rfl⟩ : ∃ dd, d = some dd := by
    cases d with
    | none => exact absurd (hd.mpr rfl) hne
    | some dd => exact ⟨dd, rfl⟩
  obtain ⟨t1, hoe⟩ := M.obj
  obtain ⟨db, dne, hns⟩ := M.dict d rfl
  obtain ⟨hp, g, dr, tk, os⟩ := s1
  obtain ⟨G, g1, g2⟩ := restrict h' fun b => decide (b ≠ e)
  have gk : ∀ b, b ≠ e → G.get? b = h'.get? b := fun b hb => g1 b (decide_eq_true hb)
  have ge : G.get? e = none := g2 e (by simp)
  have gs : ∀ b o, G.get? b = some o → h'.get? b = some o := fun b o q => by
    by_cases hb : b = e
    · rw [hb, ge] at q
      cases q
    · exact (gk b hb).symm.trans q
  have old : ∀ b o, hp.get? b = some o → G.get? b = some o := fun b o q => (gk b (Nat.ne_of_lt (Nat.lt_of_lt_of_le (Heap.lt_size q) M.new))).trans (M.keep b o q)
  have ob : ObjOk X.prog X.w (upd H1 d (.xd (flds.zip vs).reverse)) G d (.xd (flds.zip vs).reverse) :=
    ⟨_, hns.at (fun o q => (gk d dne).trans q), fun f => by rw [hmm f]; exact relO_rev r1 hl f⟩
  have J : Inv X pins σ (upd H1 d (.xd (flds.zip vs).reverse)) ⟨G, g, dr, tk', os⟩ := I1.laid (t' := tk') old db ob
  have ne1 : H1 e = none := I1.hok.fresh M.new
  have ne2 : (upd H1 d (.xd (flds.zip vs).reverse)) e = none := by
    rw [upd_ne (Ne.symm dne)]
    exact ne1
  exact ⟨.ref e, _, J.laidN (t' := tk') gs ge ne2 (exv_ok hoe ⟨rfl, rfl⟩ rfl), rfl, q1 e d ne1 (I1.hok.fresh db) dne⟩
theorem pe_mkv0 (T : Mks X.prog X.K X.mg C []) (hs : X.mg "super" = none) (hr : Room k X.A) (hg : Gl X x) (hm : X.mg x = some (.ref C)) (hdb : (x == ("__debug__" : Str)) = false := by decide) :
    PE X (.Call (.Name x p) [] [] pos) (fun σ H Q => ∀ e, H e = none → Q (.ref e) (upd H e (exv e (.ref C) none))) := by
  refine ⟨fun pins s σ H Q I h => ?_⟩
  refine wpAny_Call_Name_kw (ld_glob I hg hm ?_ hdb)
  refine PySem.W.callWith_K0 I.kIn T.kC ?_
  refine wpAny_call (T.call _ _ _ _ [] _ (.pos rfl) I.kIn (I.globAt hs) (by have := hr.dp; omega) fun h' tk' e d m M hd hmm => ?_)
  obtain rfl : d = none := hd.mp rfl
  obtain ⟨t1, hoe⟩ := M.obj
  have na : H e = none := I.hok.fresh M.new
  exact ⟨.ref e, _, I.laid (t' := tk') M.keep M.new (exv_ok hoe ⟨rfl, rfl⟩ rfl), rfl, h e na⟩
/-- C(f = e) -/
def tMkvK (C : Addr) (flds : List Str) (g : List V → List V) (ta : TA) : TE := fun σ H Q => ta σ H fun vs H1 => vs.length = flds.length ∧ ∀ e d, H1 e = none → H1 d = none → d ≠ e → Q (.ref e) (upd (upd H1 d (.xd (flds.zip (g vs)).reverse)) e (exv e (.ref C) (some d)))
theorem mkv_end {pins : List (Addr × Obj)} {σ : St} {H1 : Hp} {Q : VK} {s1 : Shared} {a : Args} {us : List Value} {vs : List V} (T : Mks X.prog X.K X.mg C flds) (hs : X.mg "super" = none) (hr : Room k X.A) (hne : flds ≠ []) (I1 : Inv X pins σ H1 s1) (r1 : Vals vs us) (ha : ArgOk flds a us)
    (q1 : ∀ e d, H1 e = none → H1 d = none → d ≠ e → Q (.ref e) (upd (upd H1 d (.xd (flds.zip vs).reverse)) e (exv e (.ref C) (some d)))) :
    wpAny (model X.prog X.w) X.A (call (.ref C) a.pos a.kw) (EP X pins σ Q) X.xe s1 := by
  have hl : vs.length = flds.length := r1.length.trans ha.len
  refine wpAny_call (T.call _ _ _ _ us _ ha I1.kIn (I1.globAt hs) (by have := hr.dp; omega) fun h' tk' e d m M hd hmm => ?_)
  obtain ⟨d, rfl⟩ : ∃ dd, d = some dd := by
    cases d with
    | none => exact absurd (hd.mpr rfl) hne
    | some dd => exact ⟨dd, rfl⟩
  obtain ⟨t1, hoe⟩ := M.obj
  obtain ⟨db, dne, hns⟩ := M.dict d rfl
  obtain ⟨hp, g, dr, tk, os⟩ := s1
  obtain ⟨G, g1, g2⟩ := restrict h' fun b => decide (b ≠ e)
  have gk : ∀ b, b ≠ e → G.get? b = h'.get? b := fun b hb => g1 b (decide_eq_true hb)
  have ge : G.get? e = none := g2 e (by simp)
  have gs : ∀ b o, G.get? b = some o → h'.get? b = some o := fun b o q => by
    by_cases hb : b = e
    · rw [hb, ge] at q
      cases q
    · exact (gk b hb).symm.trans q
  have old : ∀ b o, hp.get? b = some o → G.get? b = some o := fun b o q => (gk b (Nat.ne_of_lt (Nat.lt_of_lt_of_le (Heap.lt_size q) M.new))).trans (M.keep b o q)
  have ob : ObjOk X.prog X.w (upd H1 d (.xd (flds.zip vs).reverse)) G d (.xd (flds.zip vs).reverse) :=
    ⟨_, hns.at (fun o q => (gk d dne).trans q), fun f => by rw [hmm f]; exact relO_rev r1 hl f⟩
  have J : Inv X pins σ (upd H1 d (.xd (flds.zip vs).reverse)) ⟨G, g, dr, tk', os⟩ := I1.laid (t' := tk') old db ob
  have ne1 : H1 e = none := I1.hok.fresh M.new
  have ne2 : (upd H1 d (.xd (flds.zip vs).reverse)) e = none := by
    rw [upd_ne (Ne.symm dne)]
    exact ne1
  exact ⟨.ref e, _, J.laidN (t' := tk') gs ge ne2 (exv_ok hoe ⟨rfl, rfl⟩ rfl), rfl, q1 e d ne1 (I1.hok.fresh db) dne⟩
end
end L2

namespace L2
open PySem PySem.Spec PyProof.Rows ExM
section
variable {X : Cx} {pins : List (Addr × Obj)} {σ : St} {H : Hp} {s : Shared}
/-- a pinned object that was not there at the entry is tracked from now on -/
theorem Inv.track {a : Addr} {oe : Obj} {o : HO} (I : Inv X ((a, oe) :: pins) σ H s) (n0 : X.s_0.heap.get? a = none) (hp : ∀ p ∈ X.pn ++ pins, p.1 ≠ a) (hk : ∀ v, oe.data ≠ .cell v) (new : ObjOk X.prog X.w (upd H a o) s.heap a o) : Inv X pins σ (upd H a o) s := by
  obtain ⟨ea, na, nL, nF, _⟩ := I.pin (a, oe) (List.mem_append_right _ List.mem_cons_self)
  dsimp only at ea na nL nF
  have sub : ∀ p ∈ X.pn ++ pins, p ∈ X.pn ++ (a, oe) :: pins := fun p hp => (List.mem_append.mp hp).elim (List.mem_append_left _) fun z => List.mem_append_right _ (List.mem_cons_of_mem _ z)
  have old : ∀ b u, X.s_0.heap.get? b = some u → b ≠ a := fun b u e z => by
    rw [z, n0] at e
    cases e
  refine ⟨I.ok, I.os, I.bare, ⟨I.base.keep, I.base.slot, fun b u e n hx => ?_, I.base.there, fun b xs e => ?_, fun b u v e => ?_, fun b ps e => ?_⟩, I.loc, I.cell, ?_, fun x c e => ?_, fun p h => ?_, fun b u e => ?_, I.len⟩
  · rw [upd_ne (old b u e)]
    exact I.base.free b u e n hx
  · have q := I.base.tups b xs e
    rw [upd_ne (ne_of_none q na)]
    exact q
  · have q := I.base.frzs b u v e
    rw [upd_ne (ne_of_none q na)]
    exact q
  · obtain ⟨m, q⟩ := I.base.tbls b ps e
    exact ⟨m, by rw [upd_ne (ne_of_none q na)]; exact q⟩
  · rw [upd_ne (Ne.symm nL)]
    exact I.free
  · have hc : c ≠ a := fun z => by
      obtain ⟨v, oc, hoc, hd⟩ := I.cell x c e
      rw [z, ea] at hoc
      cases hoc
      exact hk v hd
    rw [upd_ne hc]
    exact I.freeC x c e
  · obtain ⟨e, n, ne, nf, d⟩ := I.pin p (sub p h)
    exact ⟨e, by rw [upd_ne (hp p h)]; exact n, ne, nf, d⟩
  · by_cases hb : b = a
    · subst hb
      rw [upd_same] at e
      cases e
      exact new
    · rw [upd_ne hb] at e
      exact (I.hok b u e).stay (fun _ _ _ q => q) (fun c q => by rw [upd_ne (ne_of_none q na)]; exact q) fun c xs q => by rw [upd_ne (ne_of_none q na)]; exact q
end

/-- what the clause 'except (c1, .., c4) as n' wishes: behind the suite the exception is an object that is kept -/
def wAsT (K : PySem.W.Frag) (cs : List Value) (i : Nat) (ts : Addr → Value → Option Addr → TS) (Wout : WX) (D : Ends) : WX := fun cls d σ H =>
  ∃ b, PySem.W.exmAny K cls cs = some b ∧ (b = true → ∀ a, H a = none → ts a cls d { nx := fun σ' H' => D.nx (σ'.set i none) (upd H' a (exv a cls d)), rt := fun _ _ => False } (σ.set i (some (.ref a))) H) ∧
    (b = false → Wout cls d σ H)
/-- a global class, as an expression of a clause -/
inductive NamesT (X : Cx) : List Expr → List Value → Prop
  | nil : NamesT X [] []
  | cons {x : Str} {c : Addr} {np : Pos} {es : List Expr} {cs : List Value} (hg : Gl X x) (hm : X.mg x = some (.ref c)) (hd : (x == ("__debug__" : Str)) = false) (r : NamesT X es cs) : NamesT X (.Name x np :: es) (.ref c :: cs)
theorem NamesT.run {X : Cx} {pins : List (Addr × Obj)} {σ : St} {H : Hp} {s : Shared} {A : Around} {E : Value → Shared → Prop} {pos : Pos} (hk : X.env.scope.kind = .function) (hgl : s.heap.Ns X.env.globals X.mg) : ∀ {es : List Expr} {cs : List Value}, NamesT X es cs → ∀ {Q : List Value → Shared → Prop}, Q cs s →
    wpAny (model X.prog X.w) A (spliced (backTo pos (starEach es X.env))) Q E s
  | _, _, .nil, _, q => Calls.spliced_nil q
  | _, _, .cons (x := x) (c := c) (np := np) (es := es) hg hm hd r, Q, q => by
    rw [show starEach (.Name x np :: es) X.env = (false, eval (.Name x np) X.env) :: starEach es X.env from rfl]
    show wpAny _ _ (spliced ((false, eval (.Name x np) X.env) :: backTo pos (starEach es X.env))) _ _ s
    refine Calls.spliced_cons (Calls.Name_function_global hk hg (Calls.loadGlobal_global hgl hm ?_) hd)
    exact NamesT.run (pins := pins) (σ := σ) (H := H) hk hgl r q
section
variable {X : Cx} {n : Str} {i kx : Nat} {body suite : List Stmt} {b₀ : Stmt} {tpos pos pos' : Pos} {es : List Expr} {c1 c2 c3 c4 : Value} {tb : WX → TS} {ts : Addr → Value → Option Addr → TS} {Wout : WX}
theorem ps_try_asT (hs : X.stack = X.env :: X.outer) (hf : X.env.frame = some X.env.locals) (hN : X.N.Nodup) (hi : X.N[i]? = some n) (hln : X.env.kindOf n = some .local) (hc : NamesT X es [c1, c2, c3, c4]) (hex : X.ex = []) (tk : Takes X Wout)
    (hb : ∀ (W : WX) (pn : List (Addr × Obj)) (xe : Value → Shared → Prop), Takes (X.tr pn xe) W → PassesOwn (model X.prog X.w) X.A X.env xe → PSs (X.tr pn xe) body (tb W))
    (hsu : ∀ (a : Addr) (oe : Obj) (cls : Value) (d : Option Addr) (pn : List (Addr × Obj)), Zc cls d oe → (∃ vs, oe.data = .fields vs) → PSs (X.suite a ((a, oe) :: pn)) (b₀ :: suite) (ts a cls d)) :
    PS X (.Try body [.ExceptHandler (some (.Tuple es kx tpos)) (some n) (b₀ :: suite) pos'] [] [] pos) (fun D σ H => tb (wAsT X.K [c1, c2, c3, c4] i ts Wout D) D σ H) := by
  refine ⟨fun pins s σ H D I h => ?_⟩
  have ok := I.ok
  have hfr : X.A.frames = some (X.env :: X.outer) := by rw [ok.frames, hs]
  refine wpAny_Try_except (wpAny_mono ((hb (wAsT X.K [c1, c2, c3, c4] i ts Wout D) (X.pn ++ pins) (fun e s₁ => wpAny (model X.prog X.w) X.A (noteFrame e X.env) (fun _ s₂ => wpAny (model X.prog X.w) X.A (setFlight e none) (fun _ s₃ =>
    wpAny (model X.prog X.w) X.A (handleBy e X.env [.ExceptHandler (some (.Tuple es kx tpos)) (some n) (b₀ :: suite) pos']) (SP X pins D) X.xe s₃) X.xe s₂) X.xe s₁) (fun u s' xx => ?_) PassesOwn.looking).run [] s σ H D (I.toTry _) h) (fun f s1 hsp => ?_) (fun e s1 he => he))
  · obtain ⟨a, B, sI, pins', σ', H', cls, d, rfl, J', nb, up, sky, na, os, ag, b, hb1, hyes, hno⟩ := xx
    have J : Inv X pins σ' H' sI := J'.ofTry ok
    have sky' : Sky B (X.env :: X.outer) a (Zc cls d) X.env.locals s'.heap := by rw [← hs]; exact sky
    show wpAny (model X.prog X.w) X.A (noteFrame (.ref a) X.env) _ _ _
    refine Sky.land Zc.steady hfr hf sky' fun h3 fl3 up3 => ?_
    have J3 : Inv X pins σ' H' { s' with heap := h3 } := J.landed nb fl3.1 (up.trans up3) os ag
    obtain ⟨oe3, vs3, he3, hz3, hd3⟩ := fl3.there
    have nfr : a ∉ frs (X.env :: X.outer) := fun hm => by
      obtain ⟨_, o', e', hnf⟩ := fl3.2.2.1.mem hm
      rw [he3] at e'
      cases e'
      exact hnf _ hd3
    have nL : a ≠ X.env.locals := fun z => nfr (List.mem_filterMap.mpr ⟨X.env, List.mem_cons_self, by rw [hf, z]⟩)
    have nF : a ∉ X.fs := fun hm => by
      obtain ⟨e, he, q⟩ := List.mem_filterMap.mp hm
      exact nfr (List.mem_filterMap.mpr ⟨e, List.mem_cons_of_mem _ he, q⟩)
    have aB : B.get? a = none := fl3.2.1
    have aI : sI.heap.get? a = none := by
      cases q : sI.heap.get? a with
      | none => rfl
      | some o =>
        have z := nb a o q (by rw [hs]; exact nfr)
        rw [aB] at z
        cases z
    have a0 : X.s_0.heap.get? a = none := by
      cases q : X.s_0.heap.get? a with
      | none => rfl
      | some o =>
        obtain ⟨o', z⟩ := J.base.there a o q (by rw [hex]; exact fun z => nomatch z)
        rw [aI] at z
        cases z
    have apn : ∀ p ∈ X.pn ++ pins, p.1 ≠ a := fun p hp z => by
      obtain ⟨e, _⟩ := J.pin p hp
      rw [z, aI] at e
      cases e
    refine wpAny_handleBy_cons (codeAny_handlers_test ?_) (by intro q; cases q)
    have LT : ∀ {g : Heap}, g.get? a = some oe3 → PySem.W.Looks (model X.prog X.w) g (typeOf (.ref a)) cls := fun {g} e A Q E s k q => wpAny_typeOf_ref (k _ _ e) (by rw [hz3.1]; exact q)
    refine wpAny_Tuple_spliced (NamesT.run (pins := pins) (σ := σ') (H := H') ok.kind (by rw [ok.glob]; exact J3.mod.glob.keeps J3.bk) hc ⟨by rw [sizeLine_eq]; exact (by decide : 4 ≤ 16777216), ?_⟩)
    have kT : ∀ b o, h3.get? b = some o → (h3.push { cls := .type "tuple", data := .seq [c1, c2, c3, c4].toArray }).get? b = some o := fun b o e => Heap.get?_push_of_some _ e
    have LM := PySem.W.exm_tup4 (M := model X.prog X.w) (J3.kIn.keeps kT) (LT (kT _ _ he3)) (Heap.get?_push_size h3 rfl) hb1
    refine LM.here ?_
    have fl3' : HandSPX.FlyingZ B (X.env :: X.outer) a (Zc cls d) (h3.push { cls := .type "tuple", data := .seq [c1, c2, c3, c4].toArray }) := by
      obtain ⟨f1, f2, f3, oe, vs, T, oT, tts, e1, e2, e3, e4, e5, e6, e7, e8, e9⟩ := fl3
      exact ⟨fun b o e => kT b o (f1 b o e), f2, f3.of_keeps fun b o e _ => ⟨o, kT b o e, rfl⟩, oe, vs, T, oT, tts, kT _ _ e1, e2, e3, e4, e5, e6, kT _ _ e7, e8, e9⟩
    have upT : h3.UpToSlots (h3.push { cls := .type "tuple", data := .seq [c1, c2, c3, c4].toArray }) := Heap.UpToSlots.of_keeps kT
    cases b with
    | true =>
      refine codeAny_handlers_suite_as ?_
      refine HandSPX.lands_againZ fl3' fun h4 fl4 up4 => ?_
      have J4 : Inv X pins σ' H' { s' with heap := h4 } := J.landed nb fl4.1 (((up.trans up3).trans upT).trans up4) os ag
      obtain ⟨oe4, vs4, he4, hz4, hd4⟩ := fl4.there
      have S4 := J4.suite he4 hd4 na nL nF
      refine store_ok (X := X.suite a ((a, oe4) :: (X.pn ++ pins))) (v := .ref a) S4 hN hi (.inl hln) rfl (fun s5 S5 => ?_) (.inr hln)
      refine wpAny_mono ((hsu a oe4 cls d (X.pn ++ pins) hz4 ⟨_, hd4⟩).run [] s5 _ H' _ S5 (hyes rfl a na)) (fun f s6 hsp => ?_) (fun _ _ z => False.elim z)
      have back : ∀ {σ6 : St} {H6 : Hp}, Inv (X.suite a ((a, oe4) :: (X.pn ++ pins))) [] σ6 H6 s6 → Inv X ((a, oe4) :: pins) σ6 H6 s6 := fun {σ6 H6} S6 =>
        ⟨ok, S6.os, S6.bare, S6.base, S6.loc, S6.cell, S6.free, S6.freeC, fun p hp => S6.pin p (by
          rcases List.mem_append.mp hp with z | z
          · exact List.mem_append_left _ (List.mem_cons_of_mem _ (List.mem_append_left _ z))
          · rcases List.mem_cons.mp z with z | z
            · rw [z]
              exact List.mem_append_left _ List.mem_cons_self
            · exact List.mem_append_left _ (List.mem_cons_of_mem _ (List.mem_append_right _ z))), S6.hok, S6.len⟩
      cases f with
      | next =>
        obtain ⟨σ6, H6, S6, q6⟩ := hsp
        refine gone_ok (back S6) hN hi hln fun s7 J7 => ?_
        have e7 := (J7.pin (a, oe4) (List.mem_append_right _ List.mem_cons_self)).1
        exact ⟨_, _, J7.track a0 apn (fun v z => by rw [hd4] at z; cases z) (exv_ok e7 hz4 hd4), q6⟩
      | brk =>
        obtain ⟨σ6, H6, S6, q6⟩ := hsp
        exact False.elim q6
      | cont =>
        obtain ⟨σ6, H6, S6, q6⟩ := hsp
        exact False.elim q6
      | ret u =>
        obtain ⟨v6, σ6, H6, S6, r6, q6⟩ := hsp
        exact False.elim q6
    | false =>
      show wpAny _ X.A (handleBy (.ref a) X.env []) _ _ _
      refine wpAny_handleBy_nil ?_
      obtain ⟨k1, k2, k3, oe, vs, T, oT, ts', he, hz, hd, h1, hr⟩ := id fl3'
      unfold PySem.passOn
      refine wpAny_bind (wpAny_field he hd h1 ?_)
      rw [if_neg (show ¬ ((Value.ref T == Value.none) = true) from by simp)]
      have fin : wpAny (model X.prog X.w) X.A (setFlight (.ref a) X.env.frame) (fun _ s4 => wpAny (model X.prog X.w) X.A (throw (.ref a) : Sem Flow) (SP X pins D) X.xe s4) X.xe { s' with heap := h3.push { cls := .type "tuple", data := .seq [c1, c2, c3, c4].toArray } } := by
        rw [hf]
        refine HandSPX.setFlight_upZ fl3' fun h4 hh4 up4 => wpAny_throw (tk _ _ ?_)
        exact ⟨a, B, sI, pins, σ', H', cls, d, rfl, J, nb, ((up.trans up3).trans upT).trans up4, .inr (.inr (by rw [hs]; exact hh4)), na, os, ag, hno rfl⟩
      first
        | exact wpAny_bind (wpAny_pure (wpAny_bind fin))
        | exact wpAny_bind fin
  · cases f with
    | next =>
      obtain ⟨σ', H', J', q⟩ := hsp
      exact wpAny_execs_nil ⟨σ', H', J'.ofTry ok, q⟩
    | brk =>
      obtain ⟨σ', H', J', q⟩ := hsp
      exact ⟨σ', H', J'.ofTry ok, q⟩
    | cont =>
      obtain ⟨σ', H', J', q⟩ := hsp
      exact ⟨σ', H', J'.ofTry ok, q⟩
    | ret u =>
      obtain ⟨v, σ', H', J', r, q⟩ := hsp
      exact ⟨v, σ', H', J'.ofTry ok, r, q⟩
end
end L2

namespace L2
open PySem PySem.Spec PyProof.Rows ExM
/-- what an own exception class must say, so that its instances are asked rightly -/
structure XcC (K : PySem.W.Frag) (C : Addr) : Prop where
  ga : PySem.W.findIn K (.ref C) "__getattribute__" = some (some (.builtin "BaseException.__getattribute__"))
  gg : PySem.W.findIn K (.ref C) "__getattr__" = some none
  exC : PySem.W.subIn K (.ref C) (.type "BaseException") = some true
  hd : PySem.W.hasDictIn K C = true
  ha : PySem.W.findIn K (.ref C) "__class__" = some (some (.builtin "object.__class__"))
  hn : PySem.W.specialIn K (.builtin "object.__class__") "__get__" = some (some (.builtin "getset_descriptor.__get__"))
  ht : PySem.W.takesIn K (.builtin "object.__class__") = some true
  hm : PySem.W.mroIn K C (.type "object") = some true
def xcB (K : PySem.W.Frag) (C : Addr) : Bool := decide (PySem.W.findIn K (.ref C) "__getattribute__" = some (some (.builtin "BaseException.__getattribute__"))) && (decide (PySem.W.findIn K (.ref C) "__getattr__" = some none) &&
  (decide (PySem.W.subIn K (.ref C) (.type "BaseException") = some true) && (PySem.W.hasDictIn K C && (decide (PySem.W.findIn K (.ref C) "__class__" = some (some (.builtin "object.__class__"))) &&
  (decide (PySem.W.specialIn K (.builtin "object.__class__") "__get__" = some (some (.builtin "getset_descriptor.__get__"))) && (decide (PySem.W.takesIn K (.builtin "object.__class__") = some true) && decide (PySem.W.mroIn K C (.type "object") = some true)))))))
theorem xcB_ok {K : PySem.W.Frag} {C : Addr} (h : xcB K C = true) : XcC K C := by
  obtain ⟨h1, h⟩ := Bool.and_eq_true_iff.mp h
  obtain ⟨h2, h⟩ := Bool.and_eq_true_iff.mp h
  obtain ⟨h3, h⟩ := Bool.and_eq_true_iff.mp h
  obtain ⟨h4, h⟩ := Bool.and_eq_true_iff.mp h
  obtain ⟨h5, h⟩ := Bool.and_eq_true_iff.mp h
  obtain ⟨h6, h⟩ := Bool.and_eq_true_iff.mp h
  obtain ⟨h7, h8⟩ := Bool.and_eq_true_iff.mp h
  exact ⟨of_decide_eq_true h1, of_decide_eq_true h2, of_decide_eq_true h3, h4, of_decide_eq_true h5, of_decide_eq_true h6, of_decide_eq_true h7, of_decide_eq_true h8⟩
section
variable {X : Cx} {pins : List (Addr × Obj)} {σ : St} {H : Hp} {s : Shared}
theorem exv_inst (I : Inv X pins σ H s) {a C : Addr} {d : Option Addr} (ha : H a = some (exv a (.ref C) d)) (hd : ∀ dx, d = some dx → ∃ o, s.heap.get? dx = some o) : ∃ oe od, PySem.W.InstAt s.heap a oe C od ∧ (d = none → od = none) ∧ ∀ dx, d = some dx → od = s.heap.get? dx := by
  obtain ⟨oe, vs, h1, hz, h2⟩ := exv_at I.hok ha
  obtain ⟨oc, od, oda, osl⟩ := oe
  obtain ⟨z1, z2⟩ := hz
  dsimp only at z1 z2 h2
  subst z1 z2 h2
  cases od with
  | none => exact ⟨_, none, ⟨h1, rfl, rfl, trivial⟩, fun _ => rfl, fun _ z => by cases z⟩
  | some dx =>
    obtain ⟨o, ho⟩ := hd dx rfl
    exact ⟨_, some o, ⟨h1, rfl, rfl, ho⟩, fun z => by (cases z), fun dy z => by cases z; exact ho.symm⟩
theorem isIn_some {K : PySem.W.Frag} {C : Addr} (h : PySem.W.hasDictIn K C = true) : (PySem.W.clsIn K C).isSome = true := by
  obtain ⟨cd, hc, _⟩ := PySem.W.any_some h
  rw [hc]
  rfl
end
/-- isinstance(e, c), e a kept exception -/
def rIsX (K : PySem.W.Frag) : List V → Hp → VK → Prop := fun xs H Q => ∃ (a C : Addr) (d : Option Addr) (c : V) (u : Value) (b : Bool), xs = [.ref a, c] ∧ ClsV c u ∧ H a = some (exv a (.ref C) d) ∧ (∀ dx, d = some dx → ∃ fs, H dx = some (.xd fs)) ∧ XcC K C ∧ PySem.W.kitOne K (.ref C) u = some b ∧ Q (.bl b) H
theorem call_isX {X : Cx} : CallR X (.builtin "isinstance") (rIsX X.K) := by
  intro pins s σ H xs us Q I r h
  obtain ⟨a, C, d, c, u, b, rfl, k, ha, hd, T, e, q⟩ := h
  obtain ⟨u1, u2, rfl, r1, r2⟩ := vals2 r
  have e2 := k.eq r2
  subst e2
  cases (show u1 = Value.ref a from r1)
  obtain ⟨oe, od, J, _⟩ := exv_inst I ha fun dx z => by
    obtain ⟨fs, hf⟩ := hd dx z
    obtain ⟨mA, ⟨o, _, _, ho, _⟩, _⟩ := (show ObjOk X.prog X.w H s.heap dx (.xd fs) from I.hok dx _ hf)
    exact ⟨o, ho⟩
  exact PySem.W.kia_one (PySem.W.kitx_exc (isIn_some T.hd) T.ga T.gg T.exC T.ha T.hn T.ht T.hm) I.kIn J e (fun z => nomatch z) fun tk => ⟨.bl b, H, I.tok tk, rfl, q⟩
/-- e.f, e a kept exception -/
def tXfT (K : PySem.W.Frag) (f : Str) (te : TE) : TE := fun σ H Q => te σ H fun x H1 => ∃ (a C dd : Addr) (fs : List (Str × V)) (v : V), x = .ref a ∧ H1 a = some (exv a (.ref C) (some dd)) ∧ H1 dd = some (.xd fs) ∧ XcC K C ∧ PySem.W.findIn K (.ref C) f = some none ∧ fs.lookup f = some v ∧ Q v H1
theorem pe_xfT {X : Cx} {e : Expr} {te : TE} {pos : Pos} {n : Str} (he : PE X e te) (hb : attributeBase e n X.env (eval e X.env) = eval e X.env := by rfl) : PE X (.Attribute e n pos) (tXfT X.K n te) := by
  refine ⟨fun pins s σ H Q I h => ?_⟩
  refine attr_of hb (thn (he.run pins s σ H _ I h) fun u s1 ⟨x, H1, I1, rx, a, C, dd, fs, v, ex, ea, ed, T, hno, l, q⟩ => ?_)
  subst ex
  obtain rfl : u = Value.ref a := rx
  have hx : ObjOk X.prog X.w H1 s1.heap dd (.xd fs) := I1.hok dd _ ed
  obtain ⟨mA, hns, hr⟩ := hx
  obtain ⟨od, ho, hl⟩ := lookIn_ns hns
  obtain ⟨u, hu, ru⟩ := RelO.some_of (v := v) (o := mA n) (by rw [← l]; exact hr n)
  obtain ⟨oe, od', J, _, hod⟩ := exv_inst I1 ea fun dx z => by cases z; exact ⟨od, ho⟩
  have e1 : od' = some od := (hod dd rfl).trans ho
  subst e1
  exact HandSPX.exc_get I1.kIn J T.ga T.gg T.exC (PySem.W.findObj_own T.hd hno rfl (by rw [hl, hu])) (handed_of ru) ⟨v, H1, I1.tok _, ru, q⟩
end L2

/-! repr of data. -/
namespace L2
open PySem PySem.Spec PyProof.Rows

theorem guards_in1 {A : Around} (h : A.guards = some []) : A.in1.guards = some [] := h
/-! data without a dict holds none -/
mutual
theorem Dp.noDict {K : PySem.W.Frag} {H : Hp} : ∀ {v : V} {d : PyData}, Dp K H v d → d.hasDict = false
  | _, .none, _ => by simp only [PyData.hasDict]
  | _, .bool _, _ => by simp only [PyData.hasDict]
  | _, .int _, _ => by simp only [PyData.hasDict]
  | _, .str _, _ => by simp only [PyData.hasDict]
  | _, .list ds, h => by
    cases h with
    | lst hs ha =>
      simp only [PyData.hasDict]
      exact DpAll.noDict ha
  | _, .tuple ds, h => by
    cases h with
    | tup hs ha =>
      simp only [PyData.hasDict]
      exact DpAll.noDict ha
  | _, .dict _, h => by cases h
theorem DpAll.noDict {K : PySem.W.Frag} {H : Hp} : ∀ {vs : List V} {ds : List PyData}, DpAll K H vs ds → PyData.hasDictAll ds = false
  | _, [], _ => by simp only [PyData.hasDictAll]
  | _, d :: ds, h => by
    cases h with
    | cons h1 h2 => simp only [PyData.hasDictAll, Dp.noDict h1, DpAll.noDict h2, Bool.or_self]
end
/-- repr(v), v data that is read -/
def rRepr (K : PySem.W.Frag) : List V → Hp → VK → Prop := fun xs H Q => ∃ v d, xs = [v] ∧ Dp K H v d ∧ d.showable = true ∧ d.shown.length ≤ sizeLine ∧ d.depth ≤ 60 ∧ Q (.str d.shown) H
theorem call_repr {X : Cx} (hg : X.A.guards = some []) (hu : X.A.units + 64 < cLine) : CallR X (.builtin "repr") (rRepr X.K) := by
  intro pins s σ H xs us Q I r h
  obtain ⟨v, d, rfl, hd, hs, hz, hdp, q⟩ := h
  cases r with
  | @cons _ u _ us r1 r2 =>
    cases r2
    show wpAny _ _ (call (.builtin "repr") [u]) _ _ _
    obtain ⟨as, rd⟩ := Dp.reads I d v u hd r1
    have nd := Dp.noDict hd
    cases rd with
    | none => exact P.repr_of_none ⟨.str _, H, I.tok _, ⟨_, rfl⟩, by simpa [PyData.shown] using q⟩
    | bool b => exact P.repr_of_bool ⟨.str _, H, I.tok _, ⟨_, rfl⟩, by simpa [PyData.shown] using q⟩
    | int i t => exact P.repr_of_int (by simpa [PyData.showable] using hs) ⟨.str _, H, I.tok _, ⟨_, rfl⟩, by simpa [PyData.shown] using q⟩
    | str x t => exact P.repr_of_str ⟨.str _, H, I.tok _, ⟨_, rfl⟩, by simpa [PyData.shown] using q⟩ (by simpa [PyData.shown] using hz)
    | list h1 h2 h3 h4 =>
      exact repr_of_reads' (.list h1 h2 h3 h4) hs (fun z => by rw [nd] at z; cases z) hg (by omega) (fun _ _ e => e) (fun h' u tk k => ⟨.str _, H, I.kept (t' := tk) k, ⟨_, rfl⟩, q⟩) hz
    | tuple h1 h2 h3 h4 =>
      exact repr_of_reads' (.tuple h1 h2 h3 h4) hs (fun z => by rw [nd] at z; cases z) hg (by omega) (fun _ _ e => e) (fun h' u tk k => ⟨.str _, H, I.kept (t' := tk) k, ⟨_, rfl⟩, q⟩) hz
    | dict => cases hd

/-! ### how long a repr may be -/
mutual
def cap : PyData → Nat
  | .none => 4
  | .bool _ => 5
  | .int _ => 1921
  | .str x => 10 * x.length + 2
  | .list xs | .tuple xs => capAll xs + 4
  | .dict _ => 0
def capAll : List PyData → Nat
  | [] => 0
  | x :: xs => cap x + 2 + capAll xs
end
mutual
/-- every sign of every text is one that a repr writes in ten signs at most; ints have a repr -/
def plainD : PyData → Prop
  | .none | .bool _ => True
  | .int i => i.natAbs.log2 < 1920
  | .str x => ∀ c ∈ x.cps.toList, c < 16 ^ 8
  | .list xs | .tuple xs => plainAll xs
  | .dict _ => False
def plainAll : List PyData → Prop
  | [] => True
  | x :: xs => plainD x ∧ plainAll xs
end
theorem textFrom_cap : ∀ (ts : List Str) (k : Nat) (acc : Str), (textFrom k acc ts).length ≤ acc.length + (ts.map fun t => t.length + 2).sum
  | [], k, acc => by simp [textFrom]
  | t :: r, k, acc => by
    have ih := textFrom_cap r (k + 1) (acc ++ (if k > 0 then ", " else "" : String) ++ t)
    have e : (acc ++ ((if k > 0 then ", " else "" : String) : Str) ++ t).length ≤ acc.length + 2 + t.length := by
      rw [strLen_append, strLen_append]
      have : ((if k > 0 then ", " else "" : String) : Str).length ≤ 2 := by split <;> decide
      omega
    simp only [textFrom, List.map_cons, List.sum_cons]
    omega
theorem piled_cap : ∀ ts : List Str, piled ts = (ts.map fun t => t.length + 2).sum
  | [] => rfl
  | t :: r => by simp [piled, piled_cap r]
theorem join_cap (ts : List Str) : (Str.join ", " ts).length ≤ (ts.map fun t => t.length + 2).sum := by
  by_cases h : ts = []
  · subst h
    show Str.empty.length ≤ _
    exact Nat.le_of_eq (show Str.empty.length = 0 by decide)
  · have := join_length_add ts h
    rw [piled_cap] at this
    omega
mutual
theorem shown_cap : ∀ d : PyData, plainD d → d.showable = true ∧ d.shown.length ≤ cap d
  | .none, _ => ⟨by simp [PyData.showable], by simp only [PyData.shown, cap]; decide⟩
  | .bool b, _ => ⟨by simp [PyData.showable], by simp only [PyData.shown, cap]; cases b <;> decide⟩
  | .int i, h => by
    have h' : i.natAbs.log2 < 1920 := by simpa [plainD] using h
    refine ⟨by simp [PyData.showable, h'], ?_⟩
    simp only [PyData.shown, cap]
    have := int_text_length_le (a := i) (k := 1920) (by decide) h'
    rw [PySem.ofString_length]
    omega
  | .str x, h => by
    have h' : ∀ c ∈ x.cps.toList, c < 16 ^ 8 := by simpa [plainD] using h
    exact ⟨by simp [PyData.showable], by simp only [PyData.shown, cap]; exact StrLaws.reprText_len x h'⟩
  | .list xs, h => by
    have h' : plainAll xs := by simpa [plainD] using h
    obtain ⟨a, b⟩ := shown_capAll xs h'
    refine ⟨by simpa [PyData.showable] using a, ?_⟩
    simp only [PyData.shown, cap, listText]
    rw [strLen_append]
    have := textFrom_cap (PyData.shownAll xs) 0 "["
    have e1 : (("[" : Str)).length = 1 := by decide
    have e2 : (("]" : Str)).length = 1 := by decide
    omega
  | .tuple xs, h => by
    have h' : plainAll xs := by simpa [plainD] using h
    obtain ⟨a, b⟩ := shown_capAll xs h'
    refine ⟨by simpa [PyData.showable] using a, ?_⟩
    simp only [PyData.shown, cap, tupleText]
    rw [strLen_append, strLen_append]
    have := join_cap (PyData.shownAll xs)
    have e1 : (("(" : Str)).length = 1 := by decide
    have e2 : (((if (PyData.shownAll xs).length == 1 then ",)" else ")" : String) : Str)).length ≤ 2 := by split <;> decide
    omega
  | .dict _, h => by simp [plainD] at h
theorem shown_capAll : ∀ ds : List PyData, plainAll ds → PyData.showableAll ds = true ∧ ((PyData.shownAll ds).map fun t => t.length + 2).sum ≤ capAll ds
  | [], _ => ⟨by simp [PyData.showableAll], by simp [PyData.shownAll, capAll]⟩
  | d :: ds, h => by
    have h' : plainD d ∧ plainAll ds := by simpa [plainAll] using h
    obtain ⟨a, b⟩ := shown_cap d h'.1
    obtain ⟨c, e⟩ := shown_capAll ds h'.2
    refine ⟨by simp [PyData.showableAll, a, c], ?_⟩
    simp only [PyData.shownAll, capAll, List.map_cons, List.sum_cons]
    omega
end
/-- repr(v) as a rule: its wants in one -/
def rReprP (K : PySem.W.Frag) : List V → Hp → VK → Prop := fun xs H Q => ∃ v d, xs = [v] ∧ Dp K H v d ∧ plainD d ∧ cap d ≤ 16777216 ∧ d.depth ≤ 60 ∧ Q (.str d.shown) H
theorem call_reprP {X : Cx} (hg : X.A.guards = some []) (hu : X.A.units + 64 < cLine) : CallR X (.builtin "repr") (rReprP X.K) := by
  intro pins s σ H xs us Q I r h
  obtain ⟨v, d, e, hd, hp, hz, hdp, q⟩ := h
  obtain ⟨a, b⟩ := shown_cap d hp
  exact call_repr hg hu pins s σ H xs us Q I r ⟨v, d, e, hd, a, by rw [sizeLine_eq]; omega, hdp, q⟩
end L2

/-! Own exceptions: keywords; what the four built-in bases are; the class as the top has made it. -/
namespace L2
open PySem PySem.Spec PyProof.Rows ExM
section
variable {X : Cx} {C : Addr} {x f f2 : Str} {e e2 : Expr} {te te2 : TE} {p pos kp kp2 : Pos} {k : Nat}
/-- C(f = e) -/
theorem pe_mkvK1 (T : Mks X.prog X.K X.mg C [f]) (hs : X.mg "super" = none) (hr : Room k X.A) (he : PE X e te) (hg : Gl X x) (hm : X.mg x = some (.ref C)) (hdb : (x == ("__debug__" : Str)) = false := by decide)
    (hall : (backToKw pos (keywordEach [⟨some f, e, kp⟩] X.env)).all (·.1.isSome) = true := by rfl) (hks : (backToKw pos (keywordEach [⟨some f, e, kp⟩] X.env)).filterMap (·.1) = [f] := by rfl)
    (hpl : ((backTo pos (starEach [] X.env)).any (·.1) || (backToKw pos (keywordEach [⟨some f, e, kp⟩] X.env)).any (·.1.isNone)) = false := by rfl) :
    PE X (.Call (.Name x p) [] [⟨some f, e, kp⟩] pos) (tMkv C [f] (tCons te tNil)) := by
  refine ⟨fun pins s σ H Q I h => ?_⟩
  refine wpAny_Call_Name_kw (ld_glob I hg hm ?_ hdb)
  refine PySem.W.callWith_KW0 (h₀ := X.base) I.ok.mod.kin T.kC hall ?_ hpl
  refine thn ((pk_cons (nm := some f) (kpos := kp) he pk_nil).run pos pins s σ H _ I h) fun us s1 ⟨vs, H1, I1, r1, hl, q1⟩ => ⟨I1.kIn, ?_⟩
  rw [hks]
  cases r1 with
  | nil => exact absurd hl (by simp)
  | @cons v u vs' us' r1 r2 =>
    cases r2 with
    | nil => exact mkv_end (a := ⟨[], [(f, u)]⟩) T hs hr (by simp) I1 (.cons r1 .nil) .kw1 q1
    | cons _ _ => exact absurd hl (by simp)
/-- C(f2 = e2, f = e), the fields being f, f2 -/
def tMkv2 (C : Addr) (f f2 : Str) (ta : TA) : TE := fun σ H Q => ta σ H fun vs H1 => ∃ a b, vs = [b, a] ∧ ∀ e d, H1 e = none → H1 d = none → d ≠ e → Q (.ref e) (upd (upd H1 d (.xd [(f2, b), (f, a)])) e (exv e (.ref C) (some d)))
theorem pe_mkvK2 (T : Mks X.prog X.K X.mg C [f, f2]) (hs : X.mg "super" = none) (hr : Room k X.A) (he2 : PE X e2 te2) (he : PE X e te) (hg : Gl X x) (hm : X.mg x = some (.ref C)) (hdb : (x == ("__debug__" : Str)) = false := by decide)
    (hall : (backToKw pos (keywordEach [⟨some f2, e2, kp2⟩, ⟨some f, e, kp⟩] X.env)).all (·.1.isSome) = true := by rfl) (hks : (backToKw pos (keywordEach [⟨some f2, e2, kp2⟩, ⟨some f, e, kp⟩] X.env)).filterMap (·.1) = [f2, f] := by rfl)
    (hpl : ((backTo pos (starEach [] X.env)).any (·.1) || (backToKw pos (keywordEach [⟨some f2, e2, kp2⟩, ⟨some f, e, kp⟩] X.env)).any (·.1.isNone)) = false := by rfl) :
    PE X (.Call (.Name x p) [] [⟨some f2, e2, kp2⟩, ⟨some f, e, kp⟩] pos) (tMkv2 C f f2 (tCons te2 (tCons te tNil))) := by
  refine ⟨fun pins s σ H Q I h => ?_⟩
  refine wpAny_Call_Name_kw (ld_glob I hg hm ?_ hdb)
  refine PySem.W.callWith_KW0 (h₀ := X.base) I.ok.mod.kin T.kC hall ?_ hpl
  refine thn ((pk_cons (nm := some f2) (kpos := kp2) he2 (pk_cons (nm := some f) (kpos := kp) he pk_nil)).run pos pins s σ H _ I h) fun us s1 ⟨vs, H1, I1, r1, a, b, ev, q1⟩ => ⟨I1.kIn, ?_⟩
  rw [hks]
  subst ev
  obtain ⟨u1, u2, rfl, r1, r2⟩ := vals2 r1
  exact mkv_end (a := ⟨[], [(f2, u1), (f, u2)]⟩) T hs hr (by simp) I1 (.cons r2 (.cons r1 .nil)) .kw2 q1
end
end L2
namespace ExM
open PySem PySem.W PySem.Calls PyProof.Rows
/-- what the library tells of a built-in base: its __new__ (perhaps its own base's), its __init__ -/
structure BaseF (bmB : List Value) (B newId initId : String) : Prop where
  new : ∃ Bn initN bmN, ExcBaseFacts Bn newId initN bmN ∧ bmB.contains (.type Bn) = true ∧ bmB.contains (.type "AttributeError") = false ∧ bmB.contains (.type "NameError") = false
  ini : InF B initId
  pass : ∀ self, refuseLoop self "__setattr__" bmB = pure ()
  obj : bmB.contains (.type "object") = true
theorem inF_of {B newId i : String} (F : ExcCallFacts B newId i) (K : KxsFacts B i) : InF B i := ⟨F.initEntry, F.initKind, F.initRow, F.noStar, F.init.plain, K⟩
theorem base_VE : BaseF [.type "ValueError", .type "Exception", .type "BaseException", .type "object"] "ValueError" "ValueError.__new__" "ValueError.__init__" :=
  ⟨⟨_, _, _, F.excBase_ValueError, by decide +kernel, by decide +kernel, by decide +kernel⟩, inF_of F.excBase_ValueError.toExcCallFacts kxs_ValueError, F.store_ValueError.passes, by decide +kernel⟩
theorem base_OE : BaseF [.type "OverflowError", .type "ArithmeticError", .type "Exception", .type "BaseException", .type "object"] "OverflowError" "OverflowError.__new__" "OverflowError.__init__" :=
  ⟨⟨_, _, _, F.excBase_OverflowError, by decide +kernel, by decide +kernel, by decide +kernel⟩, inF_of F.excBase_OverflowError.toExcCallFacts kxs_OverflowError, F.store_OverflowError.passes, by decide +kernel⟩
theorem base_RE : BaseF [.type "RuntimeError", .type "Exception", .type "BaseException", .type "object"] "RuntimeError" "RuntimeError.__new__" "RuntimeError.__init__" :=
  ⟨⟨_, _, _, F.excBase_RuntimeError, by decide +kernel, by decide +kernel, by decide +kernel⟩, inF_of F.excBase_RuntimeError.toExcCallFacts kxs_RuntimeError, F.store_RuntimeError.passes, by decide +kernel⟩
theorem kxs_KE : KxsFacts "KeyError" "KeyError.__init__" := ⟨by show builtinType _ = _; rw [builtinType_eq_fast]; kernel_rfl, by first | kernel_rfl | rfl⟩
theorem base_KE : BaseF [.type "KeyError", .type "LookupError", .type "Exception", .type "BaseException", .type "object"] "KeyError" "LookupError.__new__" "KeyError.__init__" :=
  ⟨⟨_, _, _, F.excBase_LookupError, by decide +kernel, by decide +kernel, by decide +kernel⟩,
    ⟨entryFor_alias (id' := "BaseException.__init__") (by rw [fastTable_eq_tree]; kernel_rfl) (by first | rfl | decide +kernel) (by decide +kernel) (by rw [fastTable_eq_tree]; kernel_rfl), by kernel_rfl, by kernel_rfl, by decide +kernel, by decide +kernel, kxs_KE⟩,
    fun self => by kernel_rfl, by decide +kernel⟩
end ExM

namespace L2
open PySem PySem.Spec PyProof.Rows ExM
open PySem (cStatics)
open PySem.W (Frag findIn typeIn keepIn subIn nsIn codeIn ksFn ks_superIn excTail)
/-- what k_is finds of a class and its __init__ -/
structure Cfs (K : Frag) (prog : Program) (C f cc cda : Addr) (qual : Str) (params : Arguments) (body : List Stmt) (scope : Scope) (bmB : List Value) (B newId initId : String) : Prop where
  cls : ∃ nm q N bs bm sn sub ab col dd k0 k1 k2 k3 k5, K.lookup C = some (excClassObj nm q C N bs bm true sn sub ab col dd k0 k1 k2 k3 k5 newId) ∧ excTail bmB bm = true
  sa : findIn K (.ref C) "__setattr__" = some (some (.builtin "object.__setattr__"))
  iC : findIn K (.ref C) "__init__" = some (some (.ref f))
  tF : typeIn K (.ref f) = some (.type "function")
  kC : keepIn K (.ref C) = true
  exC : subIn K (.ref C) (.type "BaseException") = some true
  bC : subIn K (.ref C) (.type B) = some true
  tyC : typeIn K (.ref C) = some (.type "type")
  op : nsIn K cStatics "thirdparty.any" = some none
  al : ks_superIn K C C "__init__" = some (some (.builtin initId))
  lf : ∃ (oc : Value) (od : Option Addr) (kV doc pm : Value) (an : Option Addr) (ct : Value) (osl : Array (Option Value)), K.lookup f = some ⟨oc, od, .func (ksFn "__init__" qual params body scope .none kV doc pm an (.ref cda) ct cc), osl⟩
  cf : codeIn K (.ref cda) qual = true
  lcd : ∃ ccl cdd vs ccs file tf, K.lookup cda = some ⟨ccl, cdd, .fields vs, ccs⟩ ∧ vs[2]? = some (.str file tf) ∧ ((prog.main.file : Str) == file) = true
  cell : ∃ cl cld csl, K.lookup cc = some ⟨cl, cld, .cell (some (.ref C)), csl⟩
  top : (prog.main.scope.names.lookup ("super" : Str)).isSome = false
theorem cfs_mk {K : Frag} {prog : Program} {C f cc cda : Addr} {qual : Str} {params : Arguments} {body : List Stmt} {scope : Scope} {bmB : List Value} {B newId initId : String}
    {nm q : Str} {N : Addr} {bs bm : List Value} {sn : List Str} {sub : List Value} {ab : Bool} {col : Option Bool} {dd : Option Addr} {k0 k1 k2 k3 k5 : Option Value} {oc kV doc pm ct : Value} {od an : Option Addr} {osl : Array (Option Value)}
    {ccl : Value} {cdd : Option Addr} {vs : Array Value} {ccs : Array (Option Value)} {file : Str} {tf : Tok} {cl : Value} {cld : Option Addr} {csl : Array (Option Value)}
    (lc : K.lookup C = some (excClassObj nm q C N bs bm true sn sub ab col dd k0 k1 k2 k3 k5 newId)) (iC : findIn K (.ref C) "__init__" = some (some (.ref f)))
    (lf : K.lookup f = some ⟨oc, od, .func (ksFn "__init__" qual params body scope .none kV doc pm an (.ref cda) ct cc), osl⟩) (lcd : K.lookup cda = some ⟨ccl, cdd, .fields vs, ccs⟩) (lcc : K.lookup cc = some ⟨cl, cld, .cell (some (.ref C)), csl⟩)
    (sa : findIn K (.ref C) "__setattr__" = some (some (.builtin "object.__setattr__"))) (tF : typeIn K (.ref f) = some (.type "function")) (kC : keepIn K (.ref C) = true) (exC : subIn K (.ref C) (.type "BaseException") = some true) (bC : subIn K (.ref C) (.type B) = some true)
    (tyC : typeIn K (.ref C) = some (.type "type")) (op : nsIn K cStatics "thirdparty.any" = some none) (cf : codeIn K (.ref cda) qual = true)
    (al : ks_superIn K C C "__init__" = some (some (.builtin initId))) (tl : excTail bmB bm = true) (v2 : vs[2]? = some (.str file tf)) (hf : ((prog.main.file : Str) == file) = true) (top : (prog.main.scope.names.lookup ("super" : Str)).isSome = false) :
    Cfs K prog C f cc cda qual params body scope bmB B newId initId :=
  ⟨⟨_, _, _, _, _, _, _, _, _, _, _, _, _, _, _, lc, tl⟩, sa, iC, tF, kC, exC, bC, tyC, op, al, ⟨_, _, _, _, _, _, _, _, lf⟩, cf, ⟨_, _, _, _, _, _, lcd, v2, hf⟩, ⟨_, _, _, lcc⟩, top⟩
section
variable {K : Frag} {prog : Program} {mg : Str → Option Value} {C f cc cda : Addr} {qual : Str} {params : Arguments} {body : List Stmt} {scope : Scope} {bmB : List Value} {B newId initId : String} {msg fld fld2 : Str} {j : Nat} {p0 p1 p2 p3 p4 p5 q1 q2 q3 q4 r1 r2 r3 r4 : Pos}
theorem Cfs.ini (F : Cfs K prog C f cc cda qual params body scope bmB B newId initId) (b : BaseF bmB B newId initId) (hs : scope.names.lookup ("super" : Str) = some .globalImplicit) (hc : scope.names.lookup ("__class__" : Str) = some .free) (hk : scope.kind = .function) :
    Ini K prog C f cc qual params body scope bmB B newId initId := by
  obtain ⟨oc, od, kV, doc, pm, an, ct, osl, lf⟩ := F.lf
  exact ⟨F.cls, b.new, b.ini, b.pass, b.obj, F.sa, F.iC, F.tF, F.kC, F.exC, F.bC, F.tyC, F.op, F.al, ⟨oc, od, kV, doc, pm, an, cda, ct, osl, lf, F.cf, F.lcd⟩, F.cell, F.top, hs, hc, hk⟩
theorem mks_one (F : Cfs K prog C f cc cda qual params [supSt msg j p0 p1 p2 p3 p4 p5, putSt fld q1 q2 q3 q4] scope bmB B newId initId) (b : BaseF bmB B newId initId) (hs : scope.names.lookup ("super" : Str) = some .globalImplicit) (hc : scope.names.lookup ("__class__" : Str) = some .free) (hk : scope.kind = .function)
    (S : Sc scope params [fld]) (V : Ev qual scope f cc msg j p0 p1 p2 p3 p4) (hno : findIn K (.ref C) fld = some none)
    (hb : ∀ (a : Args) (v : Value), ArgOk [fld] a [v] → ∀ (x : Addr) (kV doc pm : Value) (an : Option Addr) (cdv ct : Value), bindArgs (ksFn "__init__" qual params [supSt msg j p0 p1 p2 p3 p4 p5, putSt fld q1 q2 q3 q4] scope .none kV doc pm an cdv ct cc) ⟨.ref x :: a.pos, a.kw⟩ = pure [(("self" : Str), .ref x), (fld, v)]) :
    Mks prog K mg C [fld] where
  kC := F.kC
  exC := F.exC
  tyC := F.tyC
  call := fun w A s a us R ha X G hd hq => by
    obtain ⟨v, rfl⟩ : ∃ v, us = [v] := by
      have z := ha.len
      match us, z with
      | [v], _ => exact ⟨v, rfl⟩
    refine made_one (F.ini b hs hc hk) S V hno ha X G hd (fun s' x kV doc pm an cdv ct => .of_eq (hb a v ha x kV doc pm an cdv ct)) fun h' tk e d M => hq h' tk e (some d) _ M (by simp) fun y => ?_
    by_cases h : y = fld
    · subst h
      simp
    · have e : (y == fld) = false := by simpa using h
      simp [h, List.lookup, e]
theorem mks_none (F : Cfs K prog C f cc cda qual params [supSt msg j p0 p1 p2 p3 p4 p5] scope bmB B newId initId) (b : BaseF bmB B newId initId) (hs : scope.names.lookup ("super" : Str) = some .globalImplicit) (hc : scope.names.lookup ("__class__" : Str) = some .free) (hk : scope.kind = .function)
    (S : Sc scope params []) (V : Ev qual scope f cc msg j p0 p1 p2 p3 p4)
    (hb : ∀ (x : Addr) (kV doc pm : Value) (an : Option Addr) (cdv ct : Value), bindArgs (ksFn "__init__" qual params [supSt msg j p0 p1 p2 p3 p4 p5] scope .none kV doc pm an cdv ct cc) ⟨[.ref x], []⟩ = pure [(("self" : Str), .ref x)]) :
    Mks prog K mg C [] where
  kC := F.kC
  exC := F.exC
  tyC := F.tyC
  call := fun w A s a us R ha X G hd hq => by
    have ea : a = ⟨[], []⟩ ∧ us = [] := by
      cases ha with
      | pos h =>
        have z := List.length_eq_zero_iff.mp h
        subst z
        exact ⟨rfl, rfl⟩
    obtain ⟨rfl, rfl⟩ := ea
    exact made_none (F.ini b hs hc hk) S V ha X G hd (fun s' x kV doc pm an cdv ct => .of_eq (hb x kV doc pm an cdv ct)) fun h' tk e M => hq h' tk e none _ M (by simp) fun y => by simp
theorem mks_two (F : Cfs K prog C f cc cda qual params [supSt msg j p0 p1 p2 p3 p4 p5, putSt fld q1 q2 q3 q4, putSt fld2 r1 r2 r3 r4] scope bmB B newId initId) (b : BaseF bmB B newId initId) (hs : scope.names.lookup ("super" : Str) = some .globalImplicit) (hc : scope.names.lookup ("__class__" : Str) = some .free) (hk : scope.kind = .function)
    (S : Sc scope params [fld, fld2]) (V : Ev qual scope f cc msg j p0 p1 p2 p3 p4) (hno : findIn K (.ref C) fld = some none) (hno2 : findIn K (.ref C) fld2 = some none) (hff : fld ≠ fld2)
    (hb : ∀ (a : Args) (v v2 : Value), ArgOk [fld, fld2] a [v, v2] → ∀ (x : Addr) (kV doc pm : Value) (an : Option Addr) (cdv ct : Value), bindArgs (ksFn "__init__" qual params [supSt msg j p0 p1 p2 p3 p4 p5, putSt fld q1 q2 q3 q4, putSt fld2 r1 r2 r3 r4] scope .none kV doc pm an cdv ct cc) ⟨.ref x :: a.pos, a.kw⟩ = pure [(("self" : Str), .ref x), (fld, v), (fld2, v2)]) :
    Mks prog K mg C [fld, fld2] where
  kC := F.kC
  exC := F.exC
  tyC := F.tyC
  call := fun w A s a us R ha X G hd hq => by
    obtain ⟨v, v2, rfl⟩ : ∃ v v2, us = [v, v2] := by
      have z := ha.len
      match us, z with
      | [v, v2], _ => exact ⟨v, v2, rfl⟩
    refine made_two (F.ini b hs hc hk) S V hno hno2 hff ha X G hd (fun s' x kV doc pm an cdv ct => .of_eq (hb a v v2 ha x kV doc pm an cdv ct)) fun h' tk e d M => hq h' tk e (some d) _ M (by simp) fun y => ?_
    by_cases h2 : y = fld2
    · subst h2
      simp
    · have e2 : (y == fld2) = false := by simpa using h2
      by_cases h : y = fld
      · subst h
        simp [List.lookup, e2, h2]
      · have e : (y == fld) = false := by simpa using h
        simp [h, h2, List.lookup, e, e2]
end
end L2

namespace L2
open PySem PySem.Spec PyProof.Rows ExM
/-- what the clause 'except c as n' wishes: behind the suite the exception is an object that is kept -/
def wAs1T (K : PySem.W.Frag) (c : Value) (i : Nat) (ts : Addr → Value → Option Addr → TS) (Wout : WX) (D : Ends) : WX := fun cls d σ H =>
  ∃ b, PySem.W.exmOne K cls c = some b ∧ (b = true → ∀ a, H a = none → ts a cls d { nx := fun σ' H' => D.nx (σ'.set i none) (upd H' a (exv a cls d)), rt := fun _ _ => False } (σ.set i (some (.ref a))) H) ∧
    (b = false → Wout cls d σ H)
section
variable {X : Cx} {x n : Str} {i : Nat} {body suite : List Stmt} {b₀ : Stmt} {np pos pos' : Pos} {c : Value} {tb : WX → TS} {ts : Addr → Value → Option Addr → TS} {Wout : WX}
theorem ps_try_as1T (hs : X.stack = X.env :: X.outer) (hf : X.env.frame = some X.env.locals) (hN : X.N.Nodup) (hi : X.N[i]? = some n) (hln : X.env.kindOf n = some .local) (hc : Names X x c) (hex : X.ex = []) (tk : Takes X Wout)
    (hb : ∀ (W : WX) (pn : List (Addr × Obj)) (xe : Value → Shared → Prop), Takes (X.tr pn xe) W → PassesOwn (model X.prog X.w) X.A X.env xe → PSs (X.tr pn xe) body (tb W))
    (hsu : ∀ (a : Addr) (oe : Obj) (cls : Value) (d : Option Addr) (pn : List (Addr × Obj)), Zc cls d oe → (∃ vs, oe.data = .fields vs) → PSs (X.suite a ((a, oe) :: pn)) (b₀ :: suite) (ts a cls d)) :
    PS X (.Try body [.ExceptHandler (some (.Name x np)) (some n) (b₀ :: suite) pos'] [] [] pos) (fun D σ H => tb (wAs1T X.K c i ts Wout D) D σ H) := by
  refine ⟨fun pins s σ H D I h => ?_⟩
  have ok := I.ok
  have hfr : X.A.frames = some (X.env :: X.outer) := by rw [ok.frames, hs]
  refine wpAny_Try_except (wpAny_mono ((hb (wAs1T X.K c i ts Wout D) (X.pn ++ pins) (fun e s₁ => wpAny (model X.prog X.w) X.A (noteFrame e X.env) (fun _ s₂ => wpAny (model X.prog X.w) X.A (setFlight e none) (fun _ s₃ =>
    wpAny (model X.prog X.w) X.A (handleBy e X.env [.ExceptHandler (some (.Name x np)) (some n) (b₀ :: suite) pos']) (SP X pins D) X.xe s₃) X.xe s₂) X.xe s₁) (fun u s' xx => ?_) PassesOwn.looking).run [] s σ H D (I.toTry _) h) (fun f s1 hsp => ?_) (fun e s1 he => he))
  · obtain ⟨a, B, sI, pins', σ', H', cls, d, rfl, J', nb, up, sky, na, os, ag, b, hb1, hyes, hno⟩ := xx
    have J : Inv X pins σ' H' sI := J'.ofTry ok
    have sky' : Sky B (X.env :: X.outer) a (Zc cls d) X.env.locals s'.heap := by rw [← hs]; exact sky
    show wpAny (model X.prog X.w) X.A (noteFrame (.ref a) X.env) _ _ _
    refine Sky.land Zc.steady hfr hf sky' fun h3 fl3 up3 => ?_
    have J3 : Inv X pins σ' H' { s' with heap := h3 } := J.landed nb fl3.1 (up.trans up3) os ag
    obtain ⟨oe3, vs3, he3, hz3, hd3⟩ := fl3.there
    have nfr : a ∉ frs (X.env :: X.outer) := fun hm => by
      obtain ⟨_, o', e', hnf⟩ := fl3.2.2.1.mem hm
      rw [he3] at e'
      cases e'
      exact hnf _ hd3
    have nL : a ≠ X.env.locals := fun z => nfr (List.mem_filterMap.mpr ⟨X.env, List.mem_cons_self, by rw [hf, z]⟩)
    have nF : a ∉ X.fs := fun hm => by
      obtain ⟨e, he, q⟩ := List.mem_filterMap.mp hm
      exact nfr (List.mem_filterMap.mpr ⟨e, List.mem_cons_of_mem _ he, q⟩)
    have aB : B.get? a = none := fl3.2.1
    have aI : sI.heap.get? a = none := by
      cases q : sI.heap.get? a with
      | none => rfl
      | some o =>
        have z := nb a o q (by rw [hs]; exact nfr)
        rw [aB] at z
        cases z
    have a0 : X.s_0.heap.get? a = none := by
      cases q : X.s_0.heap.get? a with
      | none => rfl
      | some o =>
        obtain ⟨o', z⟩ := J.base.there a o q (by rw [hex]; exact fun z => nomatch z)
        rw [aI] at z
        cases z
    have apn : ∀ p ∈ X.pn ++ pins, p.1 ≠ a := fun p hp z => by
      obtain ⟨e, _⟩ := J.pin p hp
      rw [z, aI] at e
      cases e
    refine wpAny_handleBy_cons (codeAny_handlers_test ?_) (by intro q; cases q)
    have S3 := J3.suite he3 hd3 na nL nF
    have LT : PySem.W.Looks (model X.prog X.w) h3 (typeOf (.ref a)) cls := fun A Q E s k q => wpAny_typeOf_ref (k _ _ he3) (by rw [hz3.1]; exact q)
    have LM := PySem.W.exm_one (M := model X.prog X.w) (J3.kIn) LT hb1
    have test : ∀ {Q : Value → Shared → Prop} {E : Value → Shared → Prop}, Q c { s' with heap := h3 } → wpAny (model X.prog X.w) (X.A.mark (some (.ref a))) (eval (.Name x np) X.env) Q E { s' with heap := h3 } := fun {Q E} q => by
      obtain ⟨hg, hdbg, hm | ⟨hm, hv, hnn⟩⟩ := hc
      · exact ld_glob (X := X.suite a ((a, oe3) :: (X.pn ++ pins))) S3 hg hm q hdbg
      · exact ld_blt (X := X.suite a ((a, oe3) :: (X.pn ++ pins))) S3 hg hm hv q hnn hdbg
    refine test (LM.here ?_)
    cases b with
    | true =>
      refine codeAny_handlers_suite_as ?_
      refine HandSPX.lands_againZ fl3 fun h4 fl4 up4 => ?_
      have J4 : Inv X pins σ' H' { s' with heap := h4 } := J.landed nb fl4.1 ((up.trans up3).trans up4) os ag
      obtain ⟨oe4, vs4, he4, hz4, hd4⟩ := fl4.there
      have S4 := J4.suite he4 hd4 na nL nF
      refine store_ok (X := X.suite a ((a, oe4) :: (X.pn ++ pins))) (v := .ref a) S4 hN hi (.inl hln) rfl (fun s5 S5 => ?_) (.inr hln)
      refine wpAny_mono ((hsu a oe4 cls d (X.pn ++ pins) hz4 ⟨_, hd4⟩).run [] s5 _ H' _ S5 (hyes rfl a na)) (fun f s6 hsp => ?_) (fun _ _ z => False.elim z)
      have back : ∀ {σ6 : St} {H6 : Hp}, Inv (X.suite a ((a, oe4) :: (X.pn ++ pins))) [] σ6 H6 s6 → Inv X ((a, oe4) :: pins) σ6 H6 s6 := fun {σ6 H6} S6 =>
        ⟨ok, S6.os, S6.bare, S6.base, S6.loc, S6.cell, S6.free, S6.freeC, fun p hp => S6.pin p (by
          rcases List.mem_append.mp hp with z | z
          · exact List.mem_append_left _ (List.mem_cons_of_mem _ (List.mem_append_left _ z))
          · rcases List.mem_cons.mp z with z | z
            · rw [z]
              exact List.mem_append_left _ List.mem_cons_self
            · exact List.mem_append_left _ (List.mem_cons_of_mem _ (List.mem_append_right _ z))), S6.hok, S6.len⟩
      cases f with
      | next =>
        obtain ⟨σ6, H6, S6, q6⟩ := hsp
        refine gone_ok (back S6) hN hi hln fun s7 J7 => ?_
        have e7 := (J7.pin (a, oe4) (List.mem_append_right _ List.mem_cons_self)).1
        exact ⟨_, _, J7.track a0 apn (fun v z => by rw [hd4] at z; cases z) (exv_ok e7 hz4 hd4), q6⟩
      | brk =>
        obtain ⟨σ6, H6, S6, q6⟩ := hsp
        exact False.elim q6
      | cont =>
        obtain ⟨σ6, H6, S6, q6⟩ := hsp
        exact False.elim q6
      | ret u =>
        obtain ⟨v6, σ6, H6, S6, r6, q6⟩ := hsp
        exact False.elim q6
    | false =>
      show wpAny _ X.A (handleBy (.ref a) X.env []) _ _ _
      refine wpAny_handleBy_nil ?_
      obtain ⟨k1, k2, k3, oe, vs, T, oT, ts', he, hz, hd, h1, hr⟩ := id fl3
      unfold PySem.passOn
      refine wpAny_bind (wpAny_field he hd h1 ?_)
      rw [if_neg (show ¬ ((Value.ref T == Value.none) = true) from by simp)]
      have fin : wpAny (model X.prog X.w) X.A (setFlight (.ref a) X.env.frame) (fun _ s4 => wpAny (model X.prog X.w) X.A (throw (.ref a) : Sem Flow) (SP X pins D) X.xe s4) X.xe { s' with heap := h3 } := by
        rw [hf]
        refine HandSPX.setFlight_upZ fl3 fun h4 hh4 up4 => wpAny_throw (tk _ _ ?_)
        exact ⟨a, B, sI, pins, σ', H', cls, d, rfl, J, nb, (up.trans up3).trans up4, .inr (.inr (by rw [hs]; exact hh4)), na, os, ag, hno rfl⟩
      first
        | exact wpAny_bind (wpAny_pure (wpAny_bind fin))
        | exact wpAny_bind fin
  · cases f with
    | next =>
      obtain ⟨σ', H', J', q⟩ := hsp
      exact wpAny_execs_nil ⟨σ', H', J'.ofTry ok, q⟩
    | brk =>
      obtain ⟨σ', H', J', q⟩ := hsp
      exact ⟨σ', H', J'.ofTry ok, q⟩
    | cont =>
      obtain ⟨σ', H', J', q⟩ := hsp
      exact ⟨σ', H', J'.ofTry ok, q⟩
    | ret u =>
      obtain ⟨v, σ', H', J', r, q⟩ := hsp
      exact ⟨v, σ', H', J'.ofTry ok, r, q⟩
end
end L2

/-! repr of data that may be a small dict, and of lists of such. -/
namespace L2
open PySem PySem.Spec PyProof.Rows
/-- data without a dict, or a dict of one int under a text -/
inductive Di (K : PySem.W.Frag) (H : Hp) : V → PyData → Prop
  | dp {v : V} {d : PyData} : Dp K H v d → Di K H v d
  | dic {a : Addr} {k : Str} {i : Int} : H a = some (.dK [(Sum.inr k, .int i)]) → Di K H (.ref a) (.dict [(.str k, .int i)])
inductive DiAll (K : PySem.W.Frag) (H : Hp) : List V → List PyData → Prop
  | nil : DiAll K H [] []
  | cons {v : V} {vs : List V} {d : PyData} {ds : List PyData} : Di K H v d → DiAll K H vs ds → DiAll K H (v :: vs) (d :: ds)
inductive ReadsI (h : Heap) : List Value → List PyData → Prop
  | nil : ReadsI h [] []
  | cons {v : Value} {vs : List Value} {d : PyData} {ds : List PyData} {as : List Addr} : Reads h v d as → (d.hasDict = true → sysModules ∉ as) → ReadsI h vs ds → ReadsI h (v :: vs) (d :: ds)
theorem ReadsI.all {h : Heap} : ∀ {vs : List Value} {ds : List PyData}, ReadsI h vs ds → ∃ as, ReadsAll h vs ds as
  | _, _, .nil => ⟨_, .nil⟩
  | _, _, .cons r _ t => let ⟨_, q⟩ := t.all; ⟨_, .cons r q⟩
theorem ReadsI.repr {prog : Program} {w : World} {h₀ : Heap} : ∀ {vs : List Value} {ds : List PyData}, ReadsI h₀ vs ds → PyData.showableAll ds = true → (∀ t ∈ PyData.shownAll ds, t.length ≤ sizeLine) →
    ∃ bs, ReadAtMost h₀ (PyData.depthAll ds) bs ∧ ReprAllK prog w bs h₀ (PyData.depthAll ds) vs (PyData.shownAll ds)
  | _, _, .nil, _, _ => ⟨[], (fun _ h => nomatch h), by simp only [PyData.shownAll]; exact .nil⟩
  | _, _, .cons (d := d) (ds := ds) r m t, hs, hz => by
    have hs' : d.showable = true ∧ PyData.showableAll ds = true := by simpa [PyData.showableAll] using hs
    obtain ⟨b1, hb1, k1⟩ := ReprK.of_reads (prog := prog) (w := w) r hs'.1 m (hz _ (by simp only [PyData.shownAll]; exact List.mem_cons_self ..))
    obtain ⟨b2, hb2, k2⟩ := ReadsI.repr (prog := prog) (w := w) t hs'.2 (fun t ht => hz t (by simp only [PyData.shownAll]; exact List.mem_cons_of_mem _ ht))
    have l1 : d.depth ≤ PyData.depthAll (d :: ds) := by simp only [PyData.depthAll]; omega
    have l2 : PyData.depthAll ds ≤ PyData.depthAll (d :: ds) := by simp only [PyData.depthAll]; omega
    refine ⟨b1 ++ b2, (hb1.mono l1).append (hb2.mono l2), ?_⟩
    simp only [PyData.depthAll, PyData.shownAll]
    have k1' : ReprK prog w b1 h₀ d.depth _ _ := k1
    exact .cons ((k1'.more fun b hb => List.mem_append_left _ hb).level_le (Nat.le_max_left _ _)) (k2.more_le (fun b hb => List.mem_append_right _ hb) (Nat.le_max_right _ _))
section
variable {X : Cx} {pins : List (Addr × Obj)} {σ : St} {H : Hp} {s : Shared}
theorem Di.reads (I : Inv X pins σ H s) {d : PyData} {v : V} {u : Value} (h : Di X.K H v d) (r : RelV v u) : ∃ as, Reads s.heap u d as ∧ (d.hasDict = true → sysModules ∉ as) := by
  cases h with
  | dp h =>
    obtain ⟨as, q⟩ := Dp.reads I d v u h r
    exact ⟨as, q, fun z => by rw [Dp.noDict h] at z; cases z⟩
  | @dic a k i hs =>
    cases r
    obtain ⟨_, hne, vs, rel, o, es, ep, ho, ⟨hx, _, _⟩, hd, _, hp, _⟩ := dk_of I.hok hs
    cases rel with
    | @cons _ q _ qs r1 r2 =>
      cases r2
      obtain ⟨qk, qv⟩ := q
      obtain ⟨e1, rv⟩ := r1
      dsimp only at e1 rv
      subst e1
      cases es with
      | mk es =>
      cases hp with
      | @cons e _ es' _ hk hv' hp' =>
        cases hp'
        rcases keyIs_shape (show keyIs (Sum.inr k) e.key = true from hk) with ⟨_, _, e2, _⟩ | ⟨y, t, e2, e3⟩
        · cases e2
        · cases e2
          dsimp only at hv'
          obtain ⟨tt, rfl⟩ := rv
          refine ⟨_, Reads.dict ho hx hd (kvs := [(.str k, .int i)]) (as := [] ++ []) (bs := [] ++ []) ?_ ?_, fun _ h => ?_⟩
          · exact .cons (by dsimp only; rw [e3]; exact .str _ _) .nil
          · exact .cons (by dsimp only; rw [hv']; exact .int _ _) .nil
          · simp only [List.append_nil, List.mem_cons, List.not_mem_nil, or_false] at h
            rw [← h] at hne
            exact absurd hne (by decide)
theorem DiAll.reads (I : Inv X pins σ H s) : ∀ {ds : List PyData} {vs : List V} {us : List Value}, DiAll X.K H vs ds → Vals vs us → ReadsI s.heap us ds
  | [], _, _, h, r => by
    cases h
    cases r
    exact .nil
  | d :: ds, _, _, h, r => by
    cases h with
    | cons h1 h2 =>
      cases r with
      | cons r1 r2 =>
        obtain ⟨as, q, m⟩ := Di.reads I h1 r1
        exact .cons q m (DiAll.reads I h2 r2)
end
/-- repr(v) -/
def rRepr1 (K : PySem.W.Frag) : List V → Hp → VK → Prop := fun xs H Q => ∃ v d, xs = [v] ∧ Di K H v d ∧ d.showable = true ∧ d.shown.length ≤ sizeLine ∧ d.depth ≤ 60 ∧ Q (.str d.shown) H
/-- repr(xs), xs a list of such -/
def rReprL (K : PySem.W.Frag) : List V → Hp → VK → Prop := fun xs H Q => ∃ a vs ds, xs = [.ref a] ∧ SqL K H a vs ∧ DiAll K H vs ds ∧ (PyData.list ds).showable = true ∧ (PyData.list ds).shown.length ≤ sizeLine ∧ PyData.depthAll ds ≤ 60 ∧ Q (.str (PyData.list ds).shown) H
theorem call_repr1 {X : Cx} (hg : X.A.guards = some []) (hu : X.A.units + 64 < cLine) : CallR X (.builtin "repr") (rRepr1 X.K) := by
  intro pins s σ H xs us Q I r h
  obtain ⟨v, d, rfl, hd, hs, hz, hdp, q⟩ := h
  cases r with
  | @cons _ u _ us r1 r2 =>
    cases r2
    show wpAny _ _ (call (.builtin "repr") [u]) _ _ _
    obtain ⟨as, rd, hm⟩ := Di.reads I hd r1
    cases rd with
    | none => exact P.repr_of_none ⟨.str _, H, I.tok _, ⟨_, rfl⟩, by simpa [PyData.shown] using q⟩
    | bool b => exact P.repr_of_bool ⟨.str _, H, I.tok _, ⟨_, rfl⟩, by simpa [PyData.shown] using q⟩
    | int i t => exact P.repr_of_int (by simpa [PyData.showable] using hs) ⟨.str _, H, I.tok _, ⟨_, rfl⟩, by simpa [PyData.shown] using q⟩
    | str x t => exact P.repr_of_str ⟨.str _, H, I.tok _, ⟨_, rfl⟩, by simpa [PyData.shown] using q⟩ (by simpa [PyData.shown] using hz)
    | list h1 h2 h3 h4 =>
      exact repr_of_reads' (.list h1 h2 h3 h4) hs hm hg (by omega) (fun _ _ e => e) (fun h' u tk k => ⟨.str _, H, I.kept (t' := tk) k, ⟨_, rfl⟩, q⟩) hz
    | tuple h1 h2 h3 h4 =>
      exact repr_of_reads' (.tuple h1 h2 h3 h4) hs hm hg (by omega) (fun _ _ e => e) (fun h' u tk k => ⟨.str _, H, I.kept (t' := tk) k, ⟨_, rfl⟩, q⟩) hz
    | dict h1 h2 h3 h4 h5 =>
      exact repr_of_reads' (.dict h1 h2 h3 h4 h5) hs hm hg (by omega) (fun _ _ e => e) (fun h' u tk k => ⟨.str _, H, I.kept (t' := tk) k, ⟨_, rfl⟩, q⟩) hz
theorem call_reprL {X : Cx} (hg : X.A.guards = some []) (hu : X.A.units + 64 < cLine) : CallR X (.builtin "repr") (rReprL X.K) := by
  intro pins s σ H xs us Q I r h
  obtain ⟨a, vs, ds, rfl, hS, hd, hs, hz, hdp, q⟩ := h
  cases r with
  | @cons _ u _ us r1 r2 =>
    cases r2
    cases r1
    show wpAny _ _ (call (.builtin "repr") [.ref a]) _ _ _
    obtain ⟨its, rv, ⟨o, n, h1, h2, _, h3⟩, _⟩ := I.list hS
    have RI := DiAll.reads I hd rv
    obtain ⟨as, h4⟩ := RI.all
    have hz' : (listText (PyData.shownAll ds)).length ≤ sizeLine := by simpa only [PyData.shown] using hz
    obtain ⟨bs, hb, hk⟩ := RI.repr (prog := X.prog) (w := X.w) (by simpa [PyData.showable] using hs) (fun t ht => Nat.le_trans (listText_mem_le ht) hz')
    have h4' : ReadsAll s.heap its.toArray.toList ds as := by simpa using h4
    have hna : a ∉ bs := not_mem_of_deeper (.list h1 h2 h3 h4') (by simp only [PyData.depth]; omega) hb
    have fin : ∀ {h' u tk}, (∀ b o, s.heap.get? b = some o → h'.get? b = some o) → EP X pins σ Q (.str (PyData.list ds).shown u) { s with heap := h', toks := tk } := fun {h' u tk} k => ⟨.str _, H, I.kept (t' := tk) k, ⟨_, rfl⟩, q⟩
    refine call_repr_slot (by omega) ⟨o, h1, h2⟩ F.slot_list_repr.toG ?_
    cases its with
    | nil =>
      cases h4
      have e : (PyData.list []).shown = ("[]" : Str) := by simp only [PyData.shown, PyData.shownAll, listText_nil]
      refine call_list_repr_empty ⟨o, h1, h2⟩ h1 h3 ⟨_, _, rfl, ?_⟩
      rw [← e]
      exact fin fun _ _ e => e
    | cons x l =>
      refine call_list_reprK h1 h2 h3 hna (by simpa using hk.length_eq) (fun i y e => hk.item i y (by simpa using e)) hg (fun b _ => Clear.nil b) (by show X.A.units + 1 + _ < _; omega) (fun _ _ e => e) (fun h' u tk k => ⟨_, _, rfl, ?_⟩) hz'
      have := fin (h' := h') (u := u) (tk := tk) k
      simpa only [PyData.shown] using this
end L2

/-! General readings (any law): data that is small, made exceptions, texts that are compared. -/
namespace L2
open PySem PySem.Spec PyProof.Rows Evl
section
variable {K : PySem.W.Frag} {σ : L2.St} {H : Hp} {ta tb : TE}
/-- xs + ys, both lists tracked: a new list -/
theorem el_cat {l : Addr} {xs ys : List V} (ha : Ev ta σ H (.ref l)) (hl : H l = some (.lst xs)) (hb : EvL tb σ H ys) (hz : xs.length + ys.length ≤ 100000) : EvL (tOp rCat ta tb) σ H (xs ++ ys) := fun H1 e Q q =>
  ha H1 e _ fun H2 e2 => hb H2 (e.trans e2) _ fun b H3 hb0 e3 hb3 => ⟨l, b, xs, ys, rfl, rfl, e3 _ _ (e2 _ _ (e _ _ hl)), hb3, sz_of hz, fun p hp => q p _ (fresh_back (e2.trans e3) hp) ((e2.trans e3).trans (Ex.new hp)) upd_same⟩
end
end L2
namespace L2
open PySem PySem.Spec PyProof.Rows Evl
mutual
theorem Dp.ex {K : PySem.W.Frag} {H H' : Hp} (e : Ex H H') : ∀ {v : V} {d : PyData}, Dp K H v d → Dp K H' v d
  | _, .none, h => by cases h; exact .non
  | _, .bool _, h => by cases h; exact .bl _
  | _, .int _, h => by cases h; exact .int _
  | _, .str _, h => by cases h; exact .str _
  | _, .list ds, h => by
    cases h with
    | lst hs ha => exact .lst (ex_l e hs) (DpAll.ex e ha)
  | _, .tuple ds, h => by
    cases h with
    | tup hs ha => exact .tup (ex_t e hs) (DpAll.ex e ha)
  | _, .dict _, h => by cases h
theorem DpAll.ex {K : PySem.W.Frag} {H H' : Hp} (e : Ex H H') : ∀ {vs : List V} {ds : List PyData}, DpAll K H vs ds → DpAll K H' vs ds
  | _, [], h => by cases h; exact .nil
  | _, d :: ds, h => by
    cases h with
    | cons h1 h2 => exact .cons (Dp.ex e h1) (DpAll.ex e h2)
end
theorem Di.ex {K : PySem.W.Frag} {H H' : Hp} (e : Ex H H') {v : V} {d : PyData} : Di K H v d → Di K H' v d
  | .dp h => .dp (h.ex e)
  | .dic h => .dic (e _ _ h)
theorem DiAll.ex {K : PySem.W.Frag} {H H' : Hp} (e : Ex H H') : ∀ {vs : List V} {ds : List PyData}, DiAll K H vs ds → DiAll K H' vs ds
  | _, _, .nil => .nil
  | _, _, .cons h t => .cons (h.ex e) (t.ex e)
/-- small data: shown in four thousand signs at most -/
structure Sm (d : PyData) : Prop where
  a : d.showable = true
  b : d.shown.length ≤ 4000
  c : d.depth ≤ 3
inductive SmAll : List PyData → Prop
  | nil : SmAll []
  | cons {d : PyData} {ds : List PyData} : Sm d → SmAll ds → SmAll (d :: ds)
theorem SmAll.show : ∀ {ds : List PyData}, SmAll ds → PyData.showableAll ds = true ∧ ((PyData.shownAll ds).map fun t => t.length + 2).sum ≤ 4002 * ds.length ∧ PyData.depthAll ds ≤ 3
  | _, .nil => ⟨by simp [PyData.showableAll], by simp [PyData.shownAll], by simp [PyData.depthAll]⟩
  | _, .cons (d := d) (ds := ds) h t => by
    obtain ⟨a, b, c⟩ := t.show
    refine ⟨by simp [PyData.showableAll, h.a, a], ?_, ?_⟩
    · simp only [PyData.shownAll, List.map_cons, List.sum_cons, List.length_cons]
      have := h.b
      omega
    · simp only [PyData.depthAll]
      have := h.c
      omega
theorem SmAll.list {ds : List PyData} (h : SmAll ds) (hl : ds.length ≤ 100) : (PyData.list ds).showable = true ∧ (PyData.list ds).shown.length ≤ sizeLine ∧ PyData.depthAll ds ≤ 60 := by
  obtain ⟨a, b, c⟩ := h.show
  refine ⟨by simpa [PyData.showable] using a, ?_, by omega⟩
  simp only [PyData.shown, listText]
  rw [strLen_append, sizeLine_eq]
  have := textFrom_cap (PyData.shownAll ds) 0 "["
  have e1 : (("[" : Str)).length = 1 := by decide
  have e2 : (("]" : Str)).length = 1 := by decide
  omega
section
variable {K : PySem.W.Frag} {σ : L2.St} {H : Hp} {ta tb te : TE}
theorem ev_repr1 {v : V} {d : PyData} (h : Ev te σ H v) (hd : Di K H v d) (s : Sm d) : Ev (tCB (rRepr1 K) (tCons te tNil)) σ H (.str d.shown) :=
  ev_cb (ea_cons h ea_nil) fun H1 e Q q => ⟨v, d, rfl, hd.ex e, s.a, Nat.le_trans s.b (by rw [sizeLine_eq]; omega), Nat.le_trans s.c (by decide), q H1 (Ex.refl H1)⟩
theorem ev_reprL {vs : List V} {ds : List PyData} (h : EvL te σ H vs) (hd : DiAll K H vs ds) (s : SmAll ds) (hl : ds.length ≤ 100) : Ev (tCB (rReprL K) (tCons te tNil)) σ H (.str (PyData.list ds).shown) := fun H1 e Q q =>
  h H1 e _ fun p H2 hp e2 h2 => ⟨p, vs, ds, rfl, sq_of h2, hd.ex (e.trans e2), (s.list hl).1, (s.list hl).2.1, (s.list hl).2.2, q H2 e2⟩
theorem ev_reprV {a : Addr} {vs : List V} {ds : List PyData} (h : Ev te σ H (.ref a)) (ha : H a = some (.lst vs)) (hd : DiAll K H vs ds) (s : SmAll ds) (hl : ds.length ≤ 100) : Ev (tCB (rReprL K) (tCons te tNil)) σ H (.str (PyData.list ds).shown) := fun H1 e Q q =>
  h H1 e _ fun H2 e2 => ⟨a, vs, ds, rfl, sq_of (e2 _ _ (e _ _ ha)), hd.ex (e.trans e2), (s.list hl).1, (s.list hl).2.1, (s.list hl).2.2, q H2 e2⟩
/-- two equal texts are not unlike -/
theorem ev_neS {z : Str} (ha : Ev ta σ H (.str z)) (hb : Ev tb σ H (.str z)) : EvT (tTest (tOp rNe ta tb)) σ H false :=
  et_test (ev_is (ev_op ha hb (rv_ne rfl)) (by simp))
/-- xs * k: a new list -/
theorem el_rep {xs : List V} {k : Int} (ha : EvL ta σ H xs) (hb : ∀ H1, Ev tb σ H1 (.int k)) (h0 : 0 ≤ k ∧ k ≤ 100) (hz : xs.length ≤ 100) : EvL (tOp rRep ta tb) σ H (List.replicate k.toNat xs).flatten := fun H1 e Q q =>
  ha H1 e _ fun l H2 hl e2 h2 => hb H2 H2 (Ex.refl _) _ fun H3 e3 => ⟨l, k, xs, rfl, rfl, e3 _ _ h2, by omega, by omega, by
    have : k.toNat ≤ 100 := by omega
    have : xs.length * k.toNat ≤ 100 * 100 := Nat.mul_le_mul hz this
    rw [sizeLine_eq]; omega, fun p hp => q p _ (fresh_back (e2.trans e3) hp) ((e2.trans e3).trans (Ex.new hp)) upd_same⟩
end
end L2
namespace Toy
open PySem L2 Evl
def nmN : Nat → Str
  | 0 => "SpanError" | 1 => "BadBase" | 2 => "BadNumber" | 3 => "BadDigits" | 4 => "BadRange" | 5 => "BadRule" | 6 => "BadReader" | 7 => "BadManner" | 8 => "BadEntry" | 9 => "BadName"
  | 10 => "BadText" | 11 => "OtherBase" | 12 => "TooMany" | 13 => "Missing" | _ => "NothingLeft"
/-- an exception that is kept at e, of the class at C -/
def ExAt (H : Hp) (e C : Addr) (d : Option Addr) : Prop := H e = some (exv e (.ref C) d) ∧ ∀ dx, d = some dx → ∃ fs, H dx = some (.xd fs)
theorem ExAt.ex {H H' : Hp} {e C : Addr} {d : Option Addr} (x : ExAt H e C d) (k : Ex H H') : ExAt H' e C d := ⟨k _ _ x.1, fun dx z => let ⟨fs, h⟩ := x.2 dx z; ⟨fs, k _ _ h⟩⟩
section
variable {K : PySem.W.Frag}
/-- e.f as a reading -/
theorem ev_xf {σ : St} {H : Hp} {f : Str} {te : TE} {e C d : Addr} {fs : List (Str × V)} {v : V} (h : Ev te σ H (.ref e)) (x : ExAt H e C (some d)) (hd : H d = some (.xd fs)) (T : XcC K C) (no : PySem.W.findIn K (.ref C) f = some none) (l : fs.lookup f = some v) :
    Ev (tXfT K f te) σ H v := fun H1 k Q q => h H1 k _ fun H2 k2 => ⟨e, C, d, fs, v, rfl, (x.ex (k.trans k2)).1, k2 _ _ (k _ _ hd), T, no, l, q H2 k2⟩
end
theorem shaped_bls (bs : List Bool) : SeqAt.shaped (.list (bs.map PyData.bool)) = true := by
  have lay : ∀ bs : List Bool, PyData.canLayAll0 (bs.map PyData.bool) = true := fun bs => by
    induction bs with
    | nil => rfl
    | cons n ns ih => simp only [List.map_cons, PyData.canLayAll0, PyData.canLay0, ih, Bool.and_self]
  have dep : ∀ bs : List Bool, PyData.depthAll (bs.map PyData.bool) ≤ 1 := fun bs => by
    induction bs with
    | nil => simp [PyData.depthAll]
    | cons n ns ih => simp only [List.map_cons, PyData.depthAll, PyData.depth]; omega
  have h := dep bs
  refine Bool.and_eq_true_iff.mpr ⟨?_, decide_eq_true ?_⟩
  · simpa only [PyData.canLay0] using lay bs
  · simp only [PyData.depth]
    omega
theorem dpAll_bls {K : PySem.W.Frag} {H : Hp} : ∀ bs : List Bool, DpAll K H (bs.map V.bl) (bs.map PyData.bool)
  | [] => .nil
  | b :: bs => .cons (.bl b) (dpAll_bls bs)
/-- two lists of the same truths are not unlike -/
theorem et_neB {K : PySem.W.Frag} {σ : St} {H : Hp} {ta tb : TE} {bs : List Bool} (ha : EvL ta σ H (bs.map V.bl)) (hb : EvL tb σ H (bs.map V.bl)) : EvT (tTest (tOp (rNeD K) ta tb)) σ H false :=
  et_test (ev_opLL ha hb fun p q H1 hp hq e => fun H2 e2 Q k => ⟨_, _, .lst (sq_of (e2 _ _ hp)) (dpAll_bls bs), .lst (sq_of (e2 _ _ hq)) (dpAll_bls bs), shaped_bls bs, shaped_bls bs, by
    rw [SeqAt.eqv_refl _ (Bool.and_eq_true_iff.mp (shaped_bls bs)).1]
    exact k _ (Ex.refl _)⟩)
/-- an exception of the class at C with one field -/
def Made1 (H : Hp) (e C : Addr) (f : Str) (v : V) : Prop := ∃ d, ExAt H e C (some d) ∧ H d = some (.xd [(f, v)])
theorem Made1.ex {H H' : Hp} {e C : Addr} {f : Str} {v : V} (x : Made1 H e C f v) (k : Ex H H') : Made1 H' e C f v := let ⟨d, a, b⟩ := x; ⟨d, a.ex k, k _ _ b⟩
def EvM (te : TE) (σ : St) (H : Hp) (C : Addr) (f : Str) (v : V) : Prop := ∀ H1, Ex H H1 → ∀ Q : VK, (∀ e H2, H1 e = none → Ex H1 H2 → Made1 H2 e C f v → Q (.ref e) H2) → te σ H1 Q
theorem em_mk {σ : St} {H : Hp} {te : TE} {C : Addr} {f : Str} {v : V} (h : Ev te σ H v) : EvM (tMkv C [f] (tCons te tNil)) σ H C f v := fun H1 e Q q =>
  h H1 e _ fun H2 e2 => ⟨rfl, fun x d hx hd hne => by
    have hx' : (upd H2 d (.xd [(f, v)])) x = none := by
      rw [upd_ne (Ne.symm hne)]
      exact hx
    exact q x _ (fresh_back e2 hx) (e2.trans ((Ex.new hd).trans (Ex.new hx'))) ⟨d, ⟨upd_same, fun dx z => by cases z; exact ⟨_, (Ex.new hx') _ _ upd_same⟩⟩, (Ex.new hx') _ _ upd_same⟩⟩
theorem ev_xfM {K : PySem.W.Frag} {σ : St} {H : Hp} {te : TE} {C : Addr} {f : Str} {v : V} (h : EvM te σ H C f v) (T : XcC K C) (no : PySem.W.findIn K (.ref C) f = some none) : Ev (tXfT K f te) σ H v := fun H1 k Q q =>
  h H1 k _ fun e H2 he e2 ⟨d, x, hd⟩ => ⟨e, C, d, _, v, rfl, x.1, hd, T, no, by simp [List.lookup], q H2 e2⟩
/-- a value of the law: data that is small -/
def Val (K : PySem.W.Frag) (H : Hp) (v : V) : Prop := ∃ d, Di K H v d ∧ Sm d
theorem sm_int {i : Int} (h : i.natAbs < 2 ^ 200) : Sm (.int i) := by
  have hl : i.natAbs.log2 < 1920 := by
    by_cases hz : i.natAbs = 0
    · rw [hz]; decide
    · exact Nat.lt_of_lt_of_le ((Nat.log2_lt hz).mpr h) (by decide)
  obtain ⟨a, b⟩ := shown_cap (.int i) (by simpa [plainD] using hl)
  exact ⟨a, Nat.le_trans b (by simp [cap]), by simp [PyData.depth]⟩
theorem Val.ex {K : PySem.W.Frag} {H H' : Hp} {v : V} (x : Val K H v) (e : Ex H H') : Val K H' v := let ⟨d, a, b⟩ := x; ⟨d, a.ex e, b⟩
theorem et_andF {σ : St} {H : Hp} {t u : TT} {a : Bool} (h1 : EvT t σ H a) (h2 : a = true → EvT u σ H false) : EvT (tAnd t u) σ H false := et_is (et_and h1 h2) (by simp)
theorem mk_at {H : Hp} {x d C : Addr} {f : Str} {v : V} (hx : H x = none) (hd : H d = none) (hne : d ≠ x) : Ex H (upd (upd H d (.xd [(f, v)])) x (exv x (.ref C) (some d))) ∧ Made1 (upd (upd H d (.xd [(f, v)])) x (exv x (.ref C) (some d))) x C f v := by
  have hx' : (upd H d (.xd [(f, v)])) x = none := by
    rw [upd_ne (Ne.symm hne)]
    exact hx
  exact ⟨(Ex.new hd).trans (Ex.new hx'), d, ⟨upd_same, fun dx z => by cases z; exact ⟨_, (Ex.new hx') _ _ upd_same⟩⟩, (Ex.new hx') _ _ upd_same⟩
theorem any_end {A : Hp → Prop} {G : Hp → Prop} {Hf : Hp} (a : A Hf) (k : ∀ Hf, A Hf → G Hf) : G Hf := k Hf a
theorem mk2_at {H : Hp} {x d C : Addr} {f f2 : Str} {a b : V} (hx : H x = none) (hd : H d = none) (hne : d ≠ x) : Ex H (upd (upd H d (.xd [(f2, b), (f, a)])) x (exv x (.ref C) (some d))) ∧ ExAt (upd (upd H d (.xd [(f2, b), (f, a)])) x (exv x (.ref C) (some d))) x C (some d) ∧ (upd (upd H d (.xd [(f2, b), (f, a)])) x (exv x (.ref C) (some d))) d = some (.xd [(f2, b), (f, a)]) := by
  have hx' : (upd H d (.xd [(f2, b), (f, a)])) x = none := by
    rw [upd_ne (Ne.symm hne)]
    exact hx
  exact ⟨(Ex.new hd).trans (Ex.new hx'), ⟨upd_same, fun dx z => by cases z; exact ⟨_, (Ex.new hx') _ _ upd_same⟩⟩, (Ex.new hx') _ _ upd_same⟩
end Toy

namespace Dr
open PySem L2
def top (i : Nat) : Stmt := PySem.Challenge.pw_shortspans_k33_whole_texts_of_styles.main.body.getD i (.Pass ⟨0, 0, 0, 0⟩)
abbrev sMixed : Stmt := top 56
abbrev sBegin : Stmt := top 57
abbrev sDraw : Stmt := top 58
/-- the built-ins that the draws name -/
structure TxB (mg : Str → Option Value) : Prop where
  int : mg "int" = none
  len : mg "len" = none
  list : mg "list" = none
section
variable {P : Program} {w : World} {K : PySem.W.Frag} {mg : Str → Option Value} {base : Heap}
def spMixed : Sp := fun vs H Q _ => ∃ c k : Int, vs = [.int c, .int k] ∧ 0 ≤ k ∧ k < 2 ^ 40 ∧ ∀ r : Int, 0 ≤ r → r < 2147483629 → Q (.int r) H
theorem scMixed : FnScope ["cell", "k"] ["cell", "k"] (defScope sMixed) := ⟨rfl, rfl, rfl, by decide +kernel, rfl, by decide +kernel, by decide +kernel⟩
theorem ok_mixed {f : Addr} {fd : FuncData} (F : Fun K "_law_mixed" "_law_mixed" sMixed f fd) (T : TxB mg) : FnOk P w K mg base CX0 1 f fd ["cell", "k"] spMixed := by
  refine F.ok scMixed (fun vs H Q E h => ?_) (fun cdv A outer s H vs Q E hr h => ?_)
  · obtain ⟨c, k, rfl, _⟩ := h
    rfl
  · obtain ⟨c, k, rfl, h0, h1, q⟩ := h
    refine ⟨_, pss_cons (ps_set (i := 0) scMixed.nd rfl (.inl rfl) (pe_op op_mod (pe_callTy call_int1 (by rfl) T.int (by decide +kernel) (pa_cons (pv 0) pa_nil)) pe_int))
      (pss_one (ps_ret (pe_op op_mod (pe_op op_mul (pe_op op_mod (pe_op op_add (pe_op op_add (pe_op op_mul (pv 0) (pe_op op_add pe_int (pe_op op_mul (pe_op op_mul pe_int (pv 1)) (pv 1)))) (pe_op op_mul pe_int (pv 1))) pe_int) pe_int) pe_int) pe_int))), ?_⟩
    have e0 : (0 : Int) < 2147483647 := by decide
    have e1 : (0 : Int) < 2147483629 := by decide
    have a0 := Int.emod_nonneg c (Int.ne_of_gt e0)
    have a1 := Int.emod_lt_of_pos c e0
    refine ⟨_, rfl, .inl ⟨_, rfl, _, _, rfl, rfl, e0, ?_⟩⟩
    refine ⟨_, rfl, _, rfl, _, _, rfl, rfl, .inl ⟨by decide, by decide⟩, _, rfl, _, _, rfl, rfl, .inl ⟨by omega, by omega⟩, _, _, rfl, rfl, _, _, rfl, rfl, .inl ⟨by omega, by omega⟩, _, rfl, _, _, rfl, rfl, .inl ⟨by decide, by decide⟩, _, _, rfl, rfl, _, _, rfl, rfl, _, _, rfl, rfl, e0, _, _, rfl, rfl, .inl ⟨?_, ?_⟩, _, _, rfl, rfl, e1, ?_⟩
    · exact Int.lt_of_lt_of_le (by decide) (Int.emod_nonneg _ (Int.ne_of_gt e0))
    · exact Int.lt_trans (Int.emod_lt_of_pos _ e0) (by decide)
    · exact q _ (Int.emod_nonneg _ (Int.ne_of_gt e1)) (Int.emod_lt_of_pos _ e1)
end
end Dr
namespace Dr
open PySem L2
/-- the drawer's state: at p, its cells at c, what is left of the great ones at l; a draws were made -/
structure StAt (H : Hp) (p c l : Addr) (n : Nat) (a : Int) : Prop where
  d : H p = some (.dK [(Sum.inr "cells", .ref c), (Sum.inr "lefts", .ref l), (Sum.inr "at", .int a)])
  c : ∃ cs : List Int, H c = some (.lst (cs.map V.int)) ∧ cs.length = n
  l : ∃ ls : List Int, H l = some (.lst (ls.map V.int)) ∧ ls.length = n
  n0 : 0 < n
  n1 : n ≤ 63
  a0 : 0 ≤ a
theorem StAt.ne {H : Hp} {p c l : Addr} {n : Nat} {a : Int} (S : StAt H p c l n a) : p ≠ c ∧ p ≠ l := by
  obtain ⟨cs, hc, _⟩ := S.c
  obtain ⟨ls, hl, _⟩ := S.l
  exact ⟨ne_of S.d hc (by intro z; cases z), ne_of S.d hl (by intro z; cases z)⟩
/-- all that was tracked stands, but for the drawer's own dict and list -/
def SameB (H H' : Hp) (p l : Addr) : Prop := ∀ b o, H b = some o → b ≠ p → b ≠ l → H' b = some o
section
variable {P : Program} {w : World} {K : PySem.W.Frag} {mg : Str → Option Value} {base : Heap}
def spBegin (K : PySem.W.Frag) : Sp := fun vs H Q _ => ∃ (s : Addr) (ns : List Int), vs = [.ref s] ∧ SqL K H s (ns.map V.int) ∧ ns.length ≤ 63 ∧
  ∀ (p c l : Addr) (n : Nat) (H' : Hp), Same H H' → H p = none → H l = none → StAt H' p c l n 0 → l ≠ c → Q (.ref p) H'
theorem scBegin : FnScope ["script", "cells", "cell"] ["script"] (defScope sBegin) := ⟨rfl, rfl, rfl, by decide +kernel, rfl, by decide +kernel, by decide +kernel⟩
abbrev kC : Key := Sum.inr ("cells" : Str)
abbrev kL : Key := Sum.inr ("lefts" : Str)
abbrev kA : Key := Sum.inr ("at" : Str)
theorem k12 : ¬ kC = kL := by decide +kernel
theorem k13 : ¬ kC = kA := by decide +kernel
theorem k23 : ¬ kL = kA := by decide +kernel
abbrev dk3 (a b c : V) : List (Key × V) := [(kC, a), (kL, b), (kA, c)]
theorem merge3 (a b c : V) : mergeK [] (dk3 a b c) = dk3 a b c := by
  have d12 : decide (kC = kL) = false := decide_eq_false k12
  have d13 : decide (kC = kA) = false := decide_eq_false k13
  have d23 : decide (kL = kA) = false := decide_eq_false k23
  simp only [mergeK, List.foldl_cons, List.foldl_nil, putK, List.any_nil, Bool.false_eq_true, if_false, List.nil_append, List.any_cons, d12, d13, d23, Bool.or_false, List.cons_append]
theorem put_at (a b c z : V) : putK (dk3 a b c) kA z = dk3 a b z := by
  have d13 : decide (kC = kA) = false := decide_eq_false k13
  have d23 : decide (kL = kA) = false := decide_eq_false k23
  simp only [putK, List.any_cons, List.any_nil, d13, d23, Bool.false_or, Bool.or_false, decide_true, if_true, List.map_cons, List.map_nil, if_neg k13, if_neg k23]
theorem val_cells (a b c : V) : valV (dk3 a b c) kC = some a := valV_pos rfl
theorem val_lefts (a b c : V) : valV (dk3 a b c) kL = some b := (valV_neg k12).trans (valV_pos rfl)
theorem val_at (a b c : V) : valV (dk3 a b c) kA = some c := (valV_neg k13).trans ((valV_neg k23).trans (valV_pos rfl))
theorem lay_ints : ∀ ns : List Int, PyData.canLayAll0 (ns.map PyData.int) = true
  | [] => rfl
  | n :: ns => by
    simp only [List.map_cons, PyData.canLayAll0, PyData.canLay0, lay_ints ns, Bool.and_self]
theorem depth_ints : ∀ ns : List Int, PyData.depthAll (ns.map PyData.int) ≤ 1
  | [] => by simp [PyData.depthAll]
  | n :: ns => by
    have := depth_ints ns
    simp only [List.map_cons, PyData.depthAll, PyData.depth]
    omega
theorem shaped_ints (ns : List Int) : SeqAt.shaped (.list (ns.map PyData.int)) = true := by
  have h := depth_ints ns
  refine Bool.and_eq_true_iff.mpr ⟨?_, decide_eq_true ?_⟩
  · simpa only [PyData.canLay0] using lay_ints ns
  · simp only [PyData.depth]
    omega
theorem eqv_nil (ns : List Int) : PyData.eqv (.list (ns.map .int)) (.list []) = decide (ns = []) := by
  cases ns with
  | nil => simp [PyData.eqv, PyData.eqvAll]
  | cons n ns => simp [PyData.eqv, PyData.eqvAll]
theorem dpAll_ints {K : PySem.W.Frag} {H : Hp} : ∀ ns : List Int, DpAll K H (ns.map V.int) (ns.map PyData.int)
  | [] => .nil
  | n :: ns => .cons (.int n) (dpAll_ints ns)
theorem ok_begin {f : Addr} {fd : FuncData} (F : Fun K "_law_begin" "_law_begin" sBegin f fd) (T : TxB mg) : FnOk P w K mg base CX0 1 f fd ["script"] (spBegin K) := by
  refine F.ok scBegin (fun vs H Q E h => ?_) (fun cdv A outer s H vs Q E hr h => ?_)
  · obtain ⟨s, ns, rfl, _⟩ := h
    rfl
  · obtain ⟨sc, ns, rfl, hS, hlen, q⟩ := h
    refine ⟨_, pss_cons (ps_set (i := 1) scBegin.nd rfl (.inl rfl) (pe_ifExp (pt_cmpR (op_neD hr.units) (pv 0) (pe_lst pa_nil) (nomark _)) (pe_callTy call_list_of (by rfl) T.list (by decide +kernel) (pa_cons (pv 0) pa_nil)) (pe_lst (pa_cons pe_int pa_nil))))
      (pss_one (ps_ret (pe_disp (pps_cons pe_str (pv 1) (pps_cons pe_str (pe_lc (own := [("cell", 2)]) (g := gName 2) (tt := tYes) rfl scBegin.nd (pi_list (pv 1)) (blkOk_by (N := ["script", "cells", "cell"]) (sc := defScope sBegin) (by decide +kernel))
        (fun _ _ _ _ _ => pg_name (i := 2) scBegin.nd rfl (Or.inl rfl)) (fun _ _ _ _ _ => pts_nil) (fun _ _ _ _ _ => pe_ifExp (pt_cmpR op_ge (pv 2) (pe_op op_pow pe_int pe_int) (nomark _)) (pv 2) pe_int)) (pps_cons pe_str pe_int pps_nil))) (by rfl) (by rfl) (fun z => by cases z) (by decide)))), ?_⟩
    refine ⟨_, rfl, (by show (0:Nat) ≤ sizeLine; rw [sizeLine_eq]; omega), fun p0 np0 => ?_⟩
    refine ⟨.list (ns.map .int), .list [], .lst ((Same.seq (fun b o e => by rw [upd_ne (ne_of_none e np0)]; exact e) hS)) (dpAll_ints ns), .lst (SqL.of upd_same) .nil, shaped_ints ns, by decide +kernel, ?_⟩
    rw [eqv_nil]
    have sp0 : Same H (upd H p0 (.lst [])) := fun b o e => by
      rw [upd_ne (ne_of_none e np0)]
      exact e
    have sel : ∃ b : Bool, (!decide (ns = [])) = b ∧ ∀ G : Addr → Hp → Prop, (∀ (c : Addr) (H1 : Hp) (xs : List Int), xs ≠ [] → xs.length ≤ 63 → Same H H1 → H1 c = some (.lst (xs.map V.int)) → G c H1) →
        (b = true → ∀ c, (upd H p0 (.lst [])) c = none → G c (upd (upd H p0 (.lst [])) c (.lst (ns.map V.int)))) ∧ (b = false → ∀ c, (upd H p0 (.lst [])) c = none → G c (upd (upd H p0 (.lst [])) c (.lst [V.int 0]))) := by
      refine ⟨_, rfl, fun G g => ⟨fun hb c nc => ?_, fun hb c nc => ?_⟩⟩
      · refine g c _ ns (fun z => by rw [decide_eq_true z] at hb; cases hb) hlen (fun b o e => ?_) upd_same
        rw [upd_ne (ne_of_none e (sp0.free nc))]
        exact sp0 b o e
      · refine g c _ [0] (by simp) (by decide) (fun b o e => ?_) upd_same
        rw [upd_ne (ne_of_none e (sp0.free nc))]
        exact sp0 b o e
    obtain ⟨b, hb, sel⟩ := sel
    refine ⟨b, by rw [hb], ?_⟩
    have fin : ∀ (c : Addr) (H1 : Hp) (xs : List Int), xs ≠ [] → xs.length ≤ 63 → Same H H1 → H1 c = some (.lst (xs.map V.int)) → (fun (x : V) (H1 : Hp) =>
      gName 1 x (L2.start ["script", "cells", "cell"] [V.ref sc]) H1
        ({ nx := tRet (tDisp [(tC (V.str "cells"), tVar 1), (tC (V.str "lefts"), tLc (iList K (tVar 1)) (gName 2) tYes
                        (tIf (tTest (tOp (rI0 fun i j => V.bl (decide (j ≤ i))) (tVar 2) (tOp (rI CPow fun i j => V.int (i ^ j.toNat)) (tC (V.int 10)) (tC (V.int 18))))) (tVar 2) (tC (V.int 0)))
                        (List.map (fun x => x.2) ([(("cell" : Str), 2)] : List (Str × Nat)))), (tC (V.str "at"), tC (V.int 0))]) { nx := fun x H' => Q V.non H', rt := Q }, rt := Q } : Ends).nx) (V.ref c) H1 := by
      intro c H1 xs hx hl s1 hc
      show ∀ p, H1 p = none → _
      intro p np
      have npc : c ≠ p := ne_of_none hc np
      have sp : Same H1 (upd H1 p (.dK [])) := fun b o e => by
        rw [upd_ne (ne_of_none e np)]
        exact e
      refine ⟨_, rfl, _, rfl, c, rfl, ⟨_, SqL.of (sp _ _ hc)⟩, fun D nD => lc_list (K := K) (a := c) (xs := xs.map V.int) (fun i H2 => ∃ ls : List Int, H2 D = some (.lst (ls.map V.int)) ∧ ls.length = i ∧ Same (upd H1 p (.dK [])) H2) ?_ ?_ ?_ ?_⟩
      · exact ⟨[], upd_same, rfl, fun b o e => by rw [upd_ne (ne_of_none e nD)]; exact e⟩
      · rintro i H2 _ ⟨ls, _, _, s2⟩
        exact SqL.of (s2 _ _ (sp _ _ hc))
      · rintro i x H2 hi ⟨ls, hD, hn, s2⟩
        rw [List.getElem?_map] at hi
        obtain ⟨z, hz, rfl⟩ := Option.map_eq_some_iff.mp hi
        have hlt : i < xs.length := (List.getElem?_eq_some_iff.mp hz).1
        have stp : ∀ y : Int, ∃ acc, H2 D = some (.lst acc) ∧ acc.length < sizeLine ∧ ∃ ls : List Int, (upd H2 D (.lst (acc ++ [V.int y]))) D = some (.lst (ls.map V.int)) ∧ ls.length = i + 1 ∧ Same (upd H1 p (.dK [])) (upd H2 D (.lst (acc ++ [V.int y]))) := fun y =>
          ⟨_, hD, by rw [List.length_map, sizeLine_eq]; omega, ls ++ [y], by rw [upd_same, List.map_append]; rfl, by rw [List.length_append, hn]; rfl, fun b o e => by rw [upd_ne (ne_of_none e nD)]; exact s2 b o e⟩
        refine ⟨rfl, ?_⟩
        rw [show (tYes : TT) = fun _ H Q => Q true H from rfl]
        dsimp only
        rw [if_pos rfl]
        refine ⟨_, rfl, _, _, rfl, rfl, ⟨by decide, by decide, by decide⟩, _, _, rfl, rfl, _, rfl, ?_⟩
        refine ite2 (fun _ => ?_) (fun _ => ?_)
        · exact ⟨_, rfl, stp z⟩
        · exact stp 0
      · rintro H2 ⟨ls, hD, hn, s2⟩
        rw [List.length_map] at hn
        have hp2 : H2 p = some (.dK []) := s2 _ _ upd_same
        have npD : D ≠ p := fun z => by
          rw [z, upd_same] at nD
          cases nD
        have ncD : D ≠ c := fun z => by
          rw [z, upd_ne npc, hc] at nD
          cases nD
        refine ⟨hp2, [(Sum.inr "cells", .ref c), (Sum.inr "lefts", .ref D), (Sum.inr "at", .int 0)], rfl, by show 3 ≤ 15; decide, ?_⟩
        have nDH : H D = none := by
          rw [upd_ne npD] at nD
          exact s1.free nD
        have hm := merge3 (V.ref c) (V.ref D) (V.int 0)
        refine q p c D xs.length _ (fun b o e => ?_) (s1.free np) nDH ⟨by rw [upd_same, hm], ⟨xs, by rw [upd_ne npc]; exact s2 _ _ (sp _ _ hc), rfl⟩, ⟨ls, by rw [upd_ne npD]; exact hD, hn⟩, List.length_pos_iff.mpr hx, hl, Int.le_refl 0⟩ ncD
        rw [upd_ne (ne_of_none e (s1.free np))]
        exact s2 _ _ (sp _ _ (s1 _ _ e))
    cases b with
    | true => exact iteT ⟨_, rfl, sc, _, rfl, .inl (Same.seq sp0 hS), fun c nc => (sel _ fin).1 rfl c nc⟩
    | false => exact iteF ⟨by show 1 ≤ sizeLine; rw [sizeLine_eq]; omega, fun c nc => (sel _ fin).2 rfl c nc⟩
end
end Dr
namespace Dr
open PySem L2
structure TxD (K : PySem.W.Frag) (mg : Str → Option Value) (fm : Addr) : Prop extends TxB mg where
  mixed : mg "_law_mixed" = some (.ref fm)
  kMixed : PySem.W.keepIn K (.ref fm) = true
section
variable {P : Program} {w : World} {K : PySem.W.Frag} {mg : Str → Option Value} {base : Heap}
def spDraw : Sp := fun vs H Q _ => ∃ (p c l : Addr) (n : Nat) (a m : Int), vs = [.ref p, .int m] ∧ StAt H p c l n a ∧ l ≠ c ∧ a < 2 ^ 39 ∧ 0 < m ∧ m < 1073741824 ∧
  ∀ (r : Int) (H' : Hp), 0 ≤ r → r < m → StAt H' p c l n (a + 1) → SameB H H' p l → (∀ b, H b = none → H' b = none) → Q (.int r) H'
theorem scDraw : FnScope ["state", "many", "at", "place", "left", "number"] ["state", "many"] (defScope sDraw) := ⟨rfl, rfl, rfl, by decide +kernel, rfl, by decide +kernel, by decide +kernel⟩
theorem ok_draw {f fm : Addr} {fd fdm : FuncData} (F : Fun K "_law_draw" "_law_draw" sDraw f fd) (FM : Fun K "_law_mixed" "_law_mixed" sMixed fm fdm) (bM : Binds K fdm ["cell", "k"] []) (T : TxD K mg fm) : FnOk P w K mg base CX0 2 f fd ["state", "many"] spDraw := by
  have GM : FnOk P w K mg base CX0 1 fm fdm ["cell", "k"] spMixed := ok_mixed FM T.toTxB
  refine F.ok scDraw (fun vs H Q E h => ?_) (fun cdv A outer s H vs Q E hr h => ?_)
  · obtain ⟨p, c, l, n, a, m, rfl, _⟩ := h
    rfl
  · obtain ⟨p, c, l, n, a, m, rfl, S, nlc, ha, m0, m1, q⟩ := h
    have hu := hu_of hr
    have hix : ∀ {X : Cx}, X.A.units + 1 < cLine → X.A.units + 1 < cLine := fun h => h
    refine ⟨_, pss_cons (ps_set (i := 2) scDraw.nd rfl (.inl rfl) (pe_dget hu (pv 0) pe_str (fun _ _ => rfl)))
      (pss_cons (ps_dput hu (pv 0) pe_str (pe_op op_add (pv 2) pe_int) rfl)
      (pss_cons (ps_set (i := 3) scDraw.nd rfl (.inl rfl) (pe_op op_mod (pe_callTy call_int1 (by rfl) T.int (by decide +kernel) (pa_cons (pv 2) pa_nil)) (pe_callB call_len_seq (by rfl) T.len (by decide +kernel) (pa_cons (pe_dget hu (pv 0) pe_str (fun _ _ => rfl)) pa_nil))))
      (pss_cons (ps_set (i := 4) scDraw.nd rfl (.inl rfl) (pe_ix ix_list (pe_dget hu (pv 0) pe_str (fun _ _ => rfl)) (pv 3) (fun _ _ => rfl)))
      (pss_cons (ps_if (pt_cmpR op_gt (pv 4) pe_int (nomark _))
        (pss_cons (ps_asg (pe_op op_fdiv (pv 4) (pv 1)) (pg_sub (pe_dget hu (pv 0) pe_str (fun _ _ => rfl)) (pv 3) set_list))
          (pss_one (ps_ret (pe_op op_mod (pe_callTy call_int1 (by rfl) T.int (by decide +kernel) (pa_cons (pv 4) pa_nil)) (pv 1))))) pss_nil)
      (pss_cons (ps_set (i := 5) scDraw.nd rfl (.inl rfl) (pe_call GM hr (by rfl) T.mixed T.kMixed bM .nil pass0 (pa_cons (pe_call GM hr (by rfl) T.mixed T.kMixed bM .nil pass0 (pa_cons (pe_ix ix_list (pe_dget hu (pv 0) pe_str (fun _ _ => rfl)) (pv 3) (fun _ _ => rfl)) (pa_cons (pv 2) pa_nil))) (pa_cons (pe_op op_add pe_int (pv 2)) pa_nil))))
      (pss_one (ps_ret (pe_op op_mod (pe_op op_fdiv (pe_callTy call_int1 (by rfl) T.int (by decide +kernel) (pa_cons (pe_op op_add (pe_op op_mul (pv 5) pe_int) (pe_call GM hr (by rfl) T.mixed T.kMixed bM .nil pass0 (pa_cons (pv 5) (pa_cons (pe_op op_add pe_int (pv 2)) pa_nil)))) pa_nil)) pe_int) (pv 1))))))))), ?_⟩
    obtain ⟨cs, hc, hcn⟩ := S.c
    obtain ⟨ls, hl, hln⟩ := S.l
    obtain ⟨npc, npl⟩ := S.ne
    have n0 := S.n0
    have a0 := S.a0
    refine ⟨_, rfl, p, _, rfl, DGet.k (k := kA) S.d, ?_⟩
    -- state['at'] = at + 1
    obtain ⟨H1, eH1⟩ : ∃ H1, H1 = upd H p (.dK (dk3 (.ref c) (.ref l) (.int (a + 1)))) := ⟨_, rfl⟩
    have dp : DPut H p (kV kA) (.int (a + 1)) H1 := by
      rw [eH1, ← put_at (.ref c) (.ref l) (.int a)]
      exact DPut.k (k := kA) S.d (by show 3 < sizeLine; rw [PySem.sizeLine_eq]; omega)
    refine ⟨_, rfl, _, _, rfl, rfl, _, rfl, p, H1, rfl, dp, ?_⟩
    have hp1 : H1 p = some (.dK (dk3 (.ref c) (.ref l) (.int (a + 1)))) := by rw [eH1, upd_same]
    have hc1 : H1 c = some (.lst (cs.map V.int)) := by rw [eH1, upd_ne npc.symm]; exact hc
    have hl1 : H1 l = some (.lst (ls.map V.int)) := by rw [eH1, upd_ne npl.symm]; exact hl
    have sb1 : SameB H H1 p l := fun b o e h1 h2 => by rw [eH1, upd_ne h1]; exact e
    have nn1 : ∀ b, H b = none → H1 b = none := fun b e => by
      rw [eH1, upd_ne (fun z => by rw [z, S.d] at e; cases e)]
      exact e
    -- spot
    have np : (0 : Int) < ((cs.map V.int).length : Int) := by rw [List.length_map, hcn]; omega
    refine ⟨_, rfl, .inl ⟨_, rfl, _, rfl, p, _, rfl, DGet.k (k := kC) hp1, c, _, rfl, .inl (SqL.of hc1), _, _, rfl, rfl, np, ?_⟩⟩
    have eN : ((cs.map V.int).length : Int) = (n : Int) := by rw [List.length_map, hcn]
    rw [eN]
    obtain ⟨k, hk, hkn⟩ : ∃ k : Nat, a % (n : Int) = (k : Int) ∧ k < n := by
      have h1 := Int.emod_nonneg a (show (n : Int) ≠ 0 by omega)
      have h2 := Int.emod_lt_of_pos a (show (0 : Int) < n by omega)
      exact ⟨(a % n).toNat, by omega, by omega⟩
    rw [show ((fun i j : Int => V.int (i % j)) a (n : Int)) = V.int (k : Int) from congrArg V.int hk]
    obtain ⟨x, hx⟩ : ∃ x, ls[k]? = some x := ⟨ls[k]'(by omega), by simp [show k < ls.length by omega]⟩
    obtain ⟨y, hy⟩ : ∃ y, cs[k]? = some y := ⟨cs[k]'(by omega), by simp [show k < cs.length by omega]⟩
    have hx' : (ls.map V.int)[k]? = some (V.int x) := by rw [List.getElem?_map, hx]; rfl
    have hy' : (cs.map V.int)[k]? = some (V.int y) := by rw [List.getElem?_map, hy]; rfl
    refine ⟨_, rfl, p, _, rfl, DGet.k (k := kL) hp1, _, rfl, l, _, _, _, rfl, rfl, SqL.of hl1, atI_nat hx', ?_⟩
    refine ⟨_, rfl, _, _, rfl, rfl, _, rfl, ?_⟩
    refine ite2 (fun _ => ?_) (fun _ => ?_)
    · -- a great one is used up
      refine ⟨_, rfl, _, rfl, _, _, rfl, rfl, ⟨m0, m1⟩, _, rfl, p, _, rfl, DGet.k (k := kL) hp1, _, rfl, l, _, _, k, rfl, rfl, hl1, ?_, ?_⟩
      · unfold ixN
        rw [if_pos (by omega), if_pos (by rw [List.length_map]; omega)]
        simp
      refine ⟨_, rfl, .inl ⟨_, rfl, _, rfl, _, _, rfl, rfl, m0, ?_⟩⟩
      refine q _ _ (Int.emod_nonneg _ (by omega)) (Int.emod_lt_of_pos _ m0) ⟨?_, ⟨cs, ?_, hcn⟩, ⟨ls.set k (x / m), ?_, by rw [List.length_set]; exact hln⟩, n0, S.n1, by omega⟩ (fun b o e h1 h2 => ?_) fun b e => ?_
      · rw [upd_ne npl]; exact hp1
      · rw [upd_ne nlc.symm]; exact hc1
      · rw [upd_same, List.map_set]
      · rw [upd_ne h2]; exact sb1 b o e h1 h2
      · rw [upd_ne (fun z => by rw [z, hl] at e; cases e)]; exact nn1 b e
    · -- number
      have r0 : ∀ {z : Int}, 0 ≤ z → z < 2147483629 → -(2 ^ 64) < z ∧ z < 2 ^ 64 := fun {z} h1 h2 => ⟨by omega, by omega⟩
      refine ⟨_, rfl, p, _, rfl, DGet.k (k := kC) hp1, _, rfl, c, _, _, _, rfl, rfl, SqL.of hc1, atI_nat hy', _, rfl, y, a, rfl, a0, by omega, fun z1 z10 z11 => ?_⟩
      refine ⟨_, rfl, _, _, rfl, rfl, z1, 40 + a, rfl, by omega, by omega, fun z2 z20 z21 => ?_⟩
      refine ⟨_, rfl, _, _, rfl, rfl, .inl (r0 z20 z21), _, rfl, _, rfl, _, _, rfl, rfl, z2, 7 + a, rfl, by omega, by omega, fun z3 z30 z31 => ?_⟩
      refine ⟨_, _, rfl, rfl, .inl ⟨_, rfl, _, _, rfl, rfl, ⟨by decide, by decide⟩, _, rfl, _, _, rfl, rfl, m0, ?_⟩⟩
      exact q _ _ (Int.emod_nonneg _ (by omega)) (Int.emod_lt_of_pos _ m0) ⟨hp1, ⟨cs, hc1, hcn⟩, ⟨ls, hl1, hln⟩, n0, S.n1, by omega⟩ sb1 nn1
end
end Dr
namespace Dr
open PySem L2
structure TxO (K : PySem.W.Frag) (mg : Str → Option Value) (fm fdr : Addr) : Prop extends TxD K mg fm where
  draw : mg "_law_draw" = some (.ref fdr)
  kDraw : PySem.W.keepIn K (.ref fdr) = true
section
variable {P : Program} {w : World} {K : PySem.W.Frag} {mg : Str → Option Value} {base : Heap}
def spOf : Sp := fun vs H Q _ => ∃ (p c l so : Addr) (n : Nat) (a : Int) (xs : List V), vs = [.ref p, .ref so] ∧ StAt H p c l n a ∧ l ≠ c ∧ a < 2 ^ 39 ∧ H so = some (.lst xs) ∧ so ≠ p ∧ so ≠ l ∧ 0 < xs.length ∧ xs.length < 1073741824 ∧
  ∀ (i : Nat) (v : V) (H' : Hp), xs[i]? = some v → StAt H' p c l n (a + 1) → SameB H H' p l → (∀ b, H b = none → H' b = none) → Q v H'
end
end Dr
namespace Dr
open PySem L2 Evl
theorem StAt.ex {H H' : Hp} {p c l : Addr} {n : Nat} {a : Int} (S : StAt H p c l n a) (e : Ex H H') : StAt H' p c l n a :=
  ⟨e _ _ S.d, let ⟨cs, h, k⟩ := S.c; ⟨cs, e _ _ h, k⟩, let ⟨ls, h, k⟩ := S.l; ⟨ls, e _ _ h, k⟩, S.n0, S.n1, S.a0⟩
end Dr

/-! f(lambda: e) and f(lambda at=0: e), f a def that keeps what the lambda raises. -/
namespace LamR
open PySem PySem.Spec PyProof.Rows L2 LamX
open PySem.W (kdv_obj kdv_fn kdv_tup)
/-- a lambda's names: captured ones, globals, and names of its own that the def around has not -/
structure LamN (sc scope : Scope) (N : List Str) : Prop where
  kind : scope.kind = .function
  co : scope.isCoroutine = false
  gen : scope.isGenerator = false
  cell : ∀ y ∈ scope.names, y.2 ≠ .cell
  own : ∀ y ∈ scope.names, y.2 = .local → y.1 ∉ N
  free : ∀ y ∈ scope.names, y.2 = .free → sc.names.lookup y.1 = some .cell ∨ sc.names.lookup y.1 = some .free
def lamNB (sc scope : Scope) (N : List Str) : Bool :=
  decide (scope.kind = .function) && (!scope.isCoroutine && (!scope.isGenerator && ((scope.names.all fun y => !decide (y.2 = .cell)) && ((scope.names.all fun y => !decide (y.2 = .local) || !N.contains y.1) &&
    (scope.names.all fun y => !decide (y.2 = .free) || (decide (sc.names.lookup y.1 = some .cell) || decide (sc.names.lookup y.1 = some .free)))))))
theorem lamN_by {sc scope : Scope} {N : List Str} (h : lamNB sc scope N = true) : LamN sc scope N := by
  unfold lamNB at h
  simp only [Bool.and_eq_true, Bool.or_eq_true, Bool.not_eq_true', decide_eq_true_eq, decide_eq_false_iff_not, List.all_eq_true] at h
  obtain ⟨h1, h2, h3, h4, h5, h6⟩ := h
  refine ⟨h1, h2, h3, h4, fun y hy e => ?_, fun y hy e => ?_⟩
  · rcases h5 y hy with z | z
    · exact absurd e z
    · simpa using z
  · rcases h6 y hy with z | z
    · exact absurd e z
    · exact z
theorem LamN.has {X : Cx} {scope : Scope} {N : List Str} (L : LamN X.env.scope scope N) (ok : X.Ok) : ∀ y ∈ scope.names, y.2 = .free → ∃ c, X.env.cells.lookup y.1 = some c := fun y hy e => by
  rcases L.free y hy e with k | k
  · exact ok.has _ (.inl k)
  · exact ok.has _ (.inr k)
section
variable {X : Cx} {pins : List (Addr × Obj)} {σ : L2.St} {H HZ : Hp} {s s1 : Shared}
theorem lam_startR {A : Around} {outer : List Env} {E : XK} {scope : Scope} {f c' : Addr} {h₁ : Heap} {tk : Nat} {mL : Str → Option Value} (I : Inv X pins σ H s) (L : LamN X.env.scope scope X.N) (e0 : Env0 X.prog X.w X.K X.mg X.base A outer s1 HZ) (hd : A.handled = none)
    (un : Un (frs X.stack) [] H HZ s.heap s1.heap) (hns : h₁.Ns s1.heap.objs.size mL) (kp : ∀ b o, s1.heap.get? b = some o → h₁.get? b = some o) :
    Inv (lamCx X A outer s1 HZ E scope f c') [] σ HZ { s1 with heap := h₁, toks := tk } := by
  have hfree := L.has I.ok
  have cm : ∀ {y c}, (cloFrom X.env.cells scope.names []).lookup y = some c → X.env.cells.lookup y = some c := fun {y c} e => by
    rcases cloFrom_mem (PySem.mem_of_lookup e) with hm | ⟨h1, h2⟩
    · exact absurd hm (by simp)
    · obtain ⟨c1, hc⟩ := hfree _ h1 rfl
      have hc : X.env.cells.lookup y = some c1 := hc
      have e2 : c = c1 := by
        rw [h2, hc] <;> rfl
      rw [e2, hc]
  have look : ∀ {y}, scope.names.lookup y = some .free → ∃ c, (cloFrom X.env.cells scope.names []).lookup y = some c := fun {y} hl =>
    mem_lookup (cloFrom_has (cells := X.env.cells) (acc := []) (show (y, NameKind.free) ∈ scope.names from PySem.mem_of_lookup hl))
  have cellK : ∀ {c : Addr} {v : Option Value}, H c = none → s.heap.IsCell c v → h₁.IsCell c v := fun {c v} n ⟨o, ho, hd⟩ =>
    let ⟨_, q⟩ := un.any ho n (by simp)
    ⟨_, kp _ _ q, hd⟩
  have noA : ∀ b : Addr, b ∉ (lamCx X A outer s1 HZ E scope f c').ex := fun b z => absurd (show b ∈ ([] : List Addr) from z) (by simp)
  have visC : ∀ {y}, scope.names.lookup y ≠ some .cell := fun {y} k => L.cell _ (PySem.mem_of_lookup k) rfl
  refine ⟨⟨e0.mod, L.kind, rfl, rfl, Nat.le_refl _, fun y z c e1 e2 => I.ok.inj y z c (cm e1) (cm e2), fun y hy => ?_, fun y c z _ => Bool.noConfusion (show false = true from z), fun _ => hd, Around.frames_deeper e0.frames, .inr ⟨rfl, rfl⟩, fun b z => absurd z (noA b), e0.bs, e0.bsz, fun b _ _ => noA b,
      fun b z => absurd z (noA b), e0.funs, e0.frf⟩,
    rfl, e0.bare, Un.kept kp, ⟨_, hns, fun i y v e1 e2 e3 => ?_⟩, fun y c e => ?_, e0.hok.fresh (Nat.le_refl _), fun y c e => ?_, fun q hq => absurd (show q ∈ ([] : List (Addr × Obj)) from hq) (by simp), e0.hok.kept kp, I.len⟩
  · have hy : scope.names.lookup y = some .cell ∨ scope.names.lookup y = some .free := hy
    rcases hy with hy | hy
    · exact absurd hy visC
    · exact look hy
  · have e3 : Vis scope y := e3
    rcases e3 with k | k | k
    · exact absurd (List.mem_of_getElem? e1) (L.own _ (PySem.mem_of_lookup k) rfl)
    · exact absurd k visC
    · obtain ⟨m, hn, hl⟩ := I.loc
      obtain ⟨w', r, q⟩ := hl i y v e1 e2 (.inr (L.free _ (PySem.mem_of_lookup k) rfl))
      obtain ⟨c2, h2⟩ := look k
      refine ⟨w', r, .inr ⟨.inr k, c2, h2, ?_⟩⟩
      have c1 := cm h2
      rcases q with ⟨k', _⟩ | ⟨_, c3, e', z⟩
      · have k' : X.env.scope.names.lookup y = some .local := k'
        rcases L.free _ (PySem.mem_of_lookup k) rfl with k2 | k2 <;> rw [show X.env.scope.names.lookup y = _ from k2] at k' <;> cases k'
      · rw [c1] at e'
        cases e'
        exact cellK (I.freeC y _ c1) z
  · obtain ⟨w', z⟩ := I.cell y c (cm e)
    exact ⟨w', cellK (I.freeC y c (cm e)) z⟩
  · obtain ⟨v, o, ho, hd⟩ := I.cell y c (cm e)
    exact un.free c o ho (I.freeC y c (cm e)) (by simp)
/-- x(), in the def that got the lambda; what it raises is what that def's own wish takes, at its names as they are -/
theorem pe_actR {CXg : CXT} {Eg : XK} {Ng : List Str} {qg : Str} {sg : Scope} {g f c' : Addr} {cdg dV doc pm ctv : Value} {params : Arguments} {body : Expr} {scope : Scope} {k i : Nat} {a : Str} {pn : List (Addr × Obj)} {xe : Value → Shared → Prop} {W : WX} {tb : XK → TE} {p1 p2 : Pos} {binds : List (Str × Value)}
    (I : Inv X pins σ H s) (L : LamN X.env.scope scope X.N) (hf : s.heap.get? f = some (kdv_obj "<lambda>" (X.env.qual ++ "<lambda>") params (.expr body) scope (cloFrom X.env.cells scope.names []) dV doc pm c' ctv)) (hfn : H f = none) (hfr : f ∉ frs X.stack)
    (hbind : ∀ s1 : Shared, (∀ b o, s.heap.get? b = some o → H b = none → b ∉ frs X.stack → s1.heap.get? b = some o) → BindsTo s1 (kdv_fn "<lambda>" (X.env.qual ++ "<lambda>") params (.expr body) scope (cloFrom X.env.cells scope.names []) dV doc pm (.ref c') ctv) ⟨[], []⟩ binds)
    (hloc : ∀ y ∈ binds, scope.names.lookup y.1 = some .local)
    (tk : Takes ((cxOf CXg X.prog X.w X.K X.mg X.base Ng qg sg g cdg X.A X.stack s H Eg).tr pn xe) W) (hr : Room (k + 1) (X.A.deeper (envOfC qg sg s.heap.objs.size g cdg)))
    (hbody : ∀ (A : Around) (outer : List Env) (s : Shared) (H : Hp) (E : XK), Room k (A.deeper (lamEnv X scope s.heap.objs.size f c')) → PE (lamCx X A outer s H E scope f c') body (tb E))
    (hN : Ng[i]? = some a) (hv : Vis sg a) (hd : (a == ("__debug__" : Str)) = false := by decide) (hcd : (a == ("__classdict__" : Str)) = false := by decide) :
    PE ((cxOf CXg X.prog X.w X.K X.mg X.base Ng qg sg g cdg X.A X.stack s H Eg).tr pn xe) (.Call (.Name a p1) [] [] p2)
      (fun σZ HZ Q => σZ[i]? = some (some (.ref f)) ∧ HZ c' = some (CodeO c' (X.env.qual ++ "<lambda>")) ∧ ∃ (E : XK) (Q' : VK), (∀ cls d H', E cls d H' → W cls d σZ H') ∧ (∀ v H', Q' v H' → Q v H') ∧ tb E σ HZ Q') := by
  refine ⟨fun pinsZ sZ σZ HZ Q IZ h => ?_⟩
  obtain ⟨hs, hc, E, Q', hW, hQ, ht⟩ := h
  refine wpAny_Call_Name_kw (thn ((pe_var (pos := p1) (i := i) hN hv hd hcd).run pinsZ sZ σZ HZ (fun v H1 => v = .ref f ∧ H1 = HZ) IZ ⟨.ref f, hs, rfl, rfl⟩) fun u s1 ⟨v, H1, I1, r1, ev, eH⟩ => ?_)
  subst ev
  rw [eH] at I1
  obtain rfl : u = Value.ref f := r1
  have un : Un (frs X.stack) [] H HZ s.heap s1.heap := I1.base
  have keep : ∀ b o, s.heap.get? b = some o → H b = none → b ∉ frs X.stack → s1.heap.get? b = some o := fun b o e n nf => un.keep b o e n nf (fun z => absurd (show b ∈ ([] : List Addr) from z) (by simp))
  have of1 := keep f _ hf hfn hfr
  refine PySem.W.callWith_F0 ⟨_, _, _, _, of1⟩ ?_
  obtain ⟨⟨oc, vs, t, hoc, hdc, hvc⟩, _, _⟩ := I1.hok c' _ hc
  have rc : codeAny (model X.prog X.w) (X.A.deeper (envOfC qg sg s.heap.objs.size g cdg)) (.call (.ref f) ⟨[], []⟩) (CR (L2.CX X.prog X.w) (envOfC qg sg s.heap.objs.size g cdg :: X.stack) X.prog X.w HZ s1 Q E) s1 := by
    refine PySem.W.kla_callFunE hr.depth of1 rfl L.co L.gen rfl ⟨c', oc, vs, t, rfl, hoc, hdc, hvc⟩ (hbind s1 keep _ _ _ _ ?_)
    refine wpAny_newFunctionEnv L.cell hloc (fun h₁ hns hsb => ⟨I1.nolimit.fresh _ hsb, ?_⟩) L.kind
    show codeAny _ _ (.expr body (lamEnv X scope s1.heap.objs.size f c')) _ _
    have kp : ∀ b o, s1.heap.get? b = some o → h₁.get? b = some o := fun b o e => hsb.extBut b o (Nat.ne_of_lt (Heap.lt_size e)) (Heap.get?_push_of_some _ e)
    have J : Inv (lamCx X (X.A.deeper (envOfC qg sg s.heap.objs.size g cdg)) (envOfC qg sg s.heap.objs.size g cdg :: X.stack) s1 HZ E scope f c') [] σ HZ { s1 with heap := h₁, toks := s1.toks + binds.length } :=
      lam_startR I L I1.env0 hr.hd un hns kp
    exact PySem.W.kla_codeExpr (wpAny_mono ((hbody _ _ s1 HZ E (hr.deeper _)).run [] _ _ HZ Q' J ht) (fun v s' ⟨w', H', J', rv, q⟩ => ⟨w', H', J'.os, J'.bare, J'.base, J'.hok, rv, hQ _ _ q⟩) fun e s' hq => hq)
  refine wpAny_call (codeAny_mono rc fun r s' hq => ?_)
  cases r with
  | error e => exact tk e s' (XE.of_call I1 hW hq)
  | ok fl =>
    cases fl with
    | ret u => exact I1.after hq
    | next => exact False.elim hq
    | brk => exact False.elim hq
    | cont => exact False.elim hq
end
end LamR

namespace LamR
open PySem PySem.Spec PyProof.Rows L2 LamX
open PySem.W (kdv_obj kdv_fn kdv_tup)
section
variable {X : Cx} {pins : List (Addr × Obj)} {σ : L2.St} {H : Hp} {s : Shared}
/-- the lambda with one int as a default is made -/
theorem lam_makeD {T : List (Addr × Str)} {c P : Addr} {params : Arguments} {body : Expr} {scope : Scope} {pos cp : Pos} {j : Nat} {n : Int} {E : Value → Shared → Prop} {Q : Value → Shared → Prop} (I : Inv X pins σ H s) (TB : TabB X.base X.mg c P) (hcode : X.env.code = .ref c)
    (hm : (P, X.env.qual ++ "<lambda>") ∈ T) (hu : ∀ p ∈ T, p.1 = P → p.2 = X.env.qual ++ "<lambda>") (hT : Tabs T H) (hdef : params.defaults = [.Constant (.int n) j cp]) (hk0 : params.kw_defaults = []) (hfree : ∀ y ∈ scope.names, y.2 = .free → ∃ c, X.env.cells.lookup y.1 = some c)
    (hE : E = X.xe)
    (h : ∀ (f c' T₀ : Addr) (tk : Tok) (doc pm ctv : Value) (H1 : Hp) (s' : Shared), Inv X pins σ H1 s' → ExtN H H1 → Tabs T H1 →
      s'.heap.get? f = some (kdv_obj "<lambda>" (X.env.qual ++ "<lambda>") params (.expr body) scope (cloFrom X.env.cells scope.names []) (.ref T₀) doc pm c' ctv) → H1 f = none → f ∉ frs X.stack → H1 c' = some (CodeO c' (X.env.qual ++ "<lambda>")) →
      s'.heap.get? T₀ = some (kdv_tup [.int n tk]) → H1 T₀ = none → T₀ ∉ frs X.stack → Q (.ref f) s') :
    wpAny (model X.prog X.w) X.A (eval (.Lambda params body scope pos) X.env) Q E s := by
  subst hE
  obtain ⟨ps, hP, ht, ha⟩ := hT _ hm
  refine PySem.W.kdv_lam (by rw [hdef]; rfl) hk0 ?_
  rw [hdef]
  refine PySem.W.kdv_all1 (wpAny_Constant_int (PySem.W.kdv_all0 ?_))
  generalize hs1 : ({ s with toks := s.toks + 1 } : Shared) = s1
  have I1 : Inv X pins σ H s1 := by
    rw [← hs1]
    exact I.tok _
  generalize s.toks = tk
  rw [makeFunction_eq]
  simp only [List.zip_nil_right, List.filterMap_nil, List.isEmpty_nil, if_true, pure_bind, List.isEmpty_cons, Bool.false_eq_true, if_false]
  refine wpAny_bind (wpAny_newTextTuple ?_)
  obtain ⟨T₀, hT0⟩ : ∃ T₀, T₀ = s1.heap.objs.size := ⟨_, rfl⟩
  rw [← hT0]
  have n0 : H T₀ = none := I1.hok.fresh (Nat.le_of_eq hT0.symm)
  have g0 : (s1.heap.push (kdv_tup [.int n tk])).get? T₀ = some (kdv_tup [.int n tk]) := by
    rw [hT0]
    exact Heap.get?_push_size _ rfl
  have I2 : Inv X pins σ H { s1 with heap := s1.heap.push (kdv_tup [.int n tk]) } := I1.kept (t' := s1.toks) fun b o e => Heap.get?_push_of_some _ e
  have nofr : ∀ f, s1.heap.objs.size ≤ f → f ∉ frs X.stack := fun f hf z => by
    rcases List.mem_cons.mp (I1.stkSub _ z) with e | e
    · have h1 := I1.lt
      rw [← e] at h1
      exact Nat.lt_irrefl _ (Nat.lt_of_lt_of_le h1 hf)
    · exact I1.nofs hf e
  have f0 : T₀ ∉ frs X.stack := nofr _ (Nat.le_of_eq hT0.symm)
  have sz2 : (s1.heap.push (kdv_tup [.int n tk])).objs.size = T₀ + 1 := by rw [Heap.size_push, hT0]
  generalize hs2 : ({ s1 with heap := s1.heap.push (kdv_tup [.int n tk]) } : Shared) = s2 at I2 ⊢
  have hh2 : s2.heap = s1.heap.push (kdv_tup [.int n tk]) := by rw [← hs2]
  rw [← hh2] at g0 sz2
  have bP : s2.heap.BuiltinsAt X.mg P := TB.bm.keeps I2.bk
  have hP' : s2.heap.get? P = some { cls := .none, data := .fields ps } := I2.hok P _ hP
  cases hc : codeAmong pos ps.toList with
  | none =>
    refine PySem.W.kdv_makeTail (mg := X.mg) (c := c) (P := P) (ps := ps) (closure_ok hfree) I2.ok.glob (I2.mod.glob.keeps I2.bk) hcode (TB.code.keeps I2.bk) hP' ht hc TB.gP bP fun c' ctv doc h' tk' hx hge hlt hrec htb => ?_
    obtain ⟨c2, oc, vs, t, e2, hoc, hd, hv⟩ := hrec
    cases e2
    have hsz : s2.heap.objs.size ≤ h'.objs.size := Nat.le_trans hge (Nat.le_of_lt hlt)
    have nC : H c' = none := I2.hok.fresh hge
    have I3 := inv_table (t' := tk') (more := #[rawInt pos.line, rawInt pos.col, .ref c']) (h' := h'.push (kdv_obj "<lambda>" (X.env.qual ++ "<lambda>") params (.expr body) scope (cloFrom X.env.cells scope.names []) (.ref T₀) doc ((X.mg "__name__").getD .none) c' ctv)) I2 hP
      (fun b o hb e => Heap.get?_push_of_some _ (hx b o hb e)) (Heap.get?_push_of_some _ htb) hge ⟨oc, vs, t, Heap.get?_push_of_some _ hoc, hd, hv⟩
    have hE : ExtN H (upd (upd H P (.tbl (ps ++ #[rawInt pos.line, rawInt pos.col, .ref c']))) c' (CodeO c' (X.env.qual ++ "<lambda>"))) := fun b o e nt => by
      rw [upd_ne (ne_of_none e nC), upd_ne (fun z => nt ps (Option.some.inj (e.symm.trans (by rw [z]; exact hP))))]
      exact e
    have eL : (ps ++ #[rawInt pos.line, rawInt pos.col, .ref c']).toList = ps.toList ++ [rawInt pos.line, rawInt pos.col, .ref c'] := by simp
    have T0P : T₀ ≠ P := fun z => by
      rw [z, hP] at n0
      cases n0
    have T0c : T₀ ≠ c' := fun z => by omega
    refine h h'.objs.size c' T₀ tk doc ((X.mg "__name__").getD .none) ctv _ _ I3 hE (fun p hp => ?_) (Heap.get?_push_size _ rfl) ?_ (nofr _ (by omega)) upd_same (Heap.get?_push_of_some _ (hx _ _ T0P g0)) ?_ f0
    · by_cases hb : p.1 = P
      · rw [hu p hp hb, hb]
        refine ⟨_, by rw [upd_ne (ne_of_none hP nC), upd_same], by rw [eL]; exact PySem.TriplesOk_snoc _ _ _ _ ht, fun p' cv hcv => ?_⟩
        rw [eL] at hcv
        rcases among_app _ ht hcv with z | z
        · obtain ⟨c0, e1, e2⟩ := ha p' cv z
          exact ⟨c0, e1, hE _ _ e2 codeO_ne⟩
        · exact ⟨c', z, upd_same⟩
      · obtain ⟨ps', a1, a2, a3⟩ := hT p hp
        refine ⟨ps', by rw [upd_ne (ne_of_none a1 nC), upd_ne hb]; exact a1, a2, fun p' cv hcv => ?_⟩
        obtain ⟨c0, e1, e2⟩ := a3 p' cv hcv
        exact ⟨c0, e1, hE _ _ e2 codeO_ne⟩
    · have n1 : h'.objs.size ≠ c' := Nat.ne_of_gt hlt
      have n2 : h'.objs.size ≠ P := Nat.ne_of_gt (Nat.lt_of_lt_of_le (Heap.lt_size hP') hsz)
      rw [upd_ne n1, upd_ne n2]
      exact I2.hok.fresh hsz
    · rw [upd_ne T0c, upd_ne T0P]
      exact n0
  | some cv =>
    obtain ⟨c', e, hco⟩ := ha pos cv hc
    subst e
    refine PySem.W.kdv_makeTailHit (mg := X.mg) (c := c) (P := P) (ps := ps) (closure_ok hfree) I2.ok.glob (I2.mod.glob.keeps I2.bk) hcode (TB.code.keeps I2.bk) hP' ht hc bP fun ctv doc h' tk' hx hsz => ?_
    have I3 : Inv X pins σ H { s2 with heap := h'.push (kdv_obj "<lambda>" (X.env.qual ++ "<lambda>") params (.expr body) scope (cloFrom X.env.cells scope.names []) (.ref T₀) doc ((X.mg "__name__").getD .none) c' ctv), toks := tk' } := I2.kept fun b o e => Heap.get?_push_of_some _ (hx b o e)
    exact h h'.objs.size c' T₀ tk doc ((X.mg "__name__").getD .none) ctv H _ I3 (ExtN.refl H) hT (Heap.get?_push_size _ rfl) (I2.hok.fresh hsz) (nofr _ (by omega)) hco (Heap.get?_push_of_some _ (hx _ _ g0)) n0 f0
end
end LamR

namespace LamR
open PySem PySem.Spec PyProof.Rows L2 LamX
open PySem.W (kdv_obj kdv_fn kdv_tup)
/-- the def that calls what it got; TT: what it makes of the lambda's reading -/
def GivesR (X : Cx) (Ng : List Str) (x : Str) (sg : Scope) (g : Addr) (cdg : Value) (bg : List Stmt) (a : Str) (q : Str) (TT : (XK → Hp → VK → Prop) → Hp → VK → Prop) : Prop :=
  ∀ (f c' : Addr) (s : Shared) (H : Hp) (Q : VK) (tl : XK → Hp → VK → Prop),
    (∀ (W : WX) (pn : List (Addr × Obj)) (xe : Value → Shared → Prop) (p1 p2 : Pos), Takes ((cxOf C8.CX0 X.prog X.w X.K X.mg X.base Ng x sg g cdg X.A X.stack s H C8.E0).tr pn xe) W →
      PE ((cxOf C8.CX0 X.prog X.w X.K X.mg X.base Ng x sg g cdg X.A X.stack s H C8.E0).tr pn xe) (.Call (.Name a p1) [] [] p2) (fun σZ HZ Q => σZ[0]? = some (some (.ref f)) ∧ HZ c' = some (CodeO c' q) ∧ ∃ (E : XK) (Q' : VK), (∀ cls d H', E cls d H' → W cls d σZ H') ∧ (∀ v H', Q' v H' → Q v H') ∧ tl E HZ Q')) →
    H c' = some (CodeO c' q) → TT tl H Q →
    ∃ t, PSs (cxOf C8.CX0 X.prog X.w X.K X.mg X.base Ng x sg g cdg X.A X.stack s H C8.E0).nox bg t ∧ t { nx := fun _ H' => Q .non H', rt := Q } (L2.start Ng [.ref f]) H
section
variable {X : Cx} {T : List (Addr × Str)} {TT : (XK → Hp → VK → Prop) → Hp → VK → Prop} {x a : Str} {g c P : Addr} {k : Nat} {pg : Arguments} {bg : List Stmt} {sg : Scope} {dV kV doc pm cdv ct oc : Value} {an od : Option Addr} {osl : Array (Option Value)} {Ng : List Str}
    {params : Arguments} {body : Expr} {scope : Scope} {t : XK → TE} {p lpos pos : Pos}
/-- behind the lambda's making: the def is called -/
theorem lam_endR {pins : List (Addr × Obj)} {σ : L2.St} {H1 : Hp} {s' : Shared} {Q : VK} {f c' : Addr} {dL docL pmL ctL : Value} {binds : List (Str × Value)}
    (hk : PySem.W.keepIn X.K (.ref g) = true) (lk : X.K.lookup g = some ⟨oc, od, .func (PySem.W.fnOf x x pg bg sg dV kV doc pm an cdv ct), osl⟩) (hcg : PySem.W.codeIn X.K cdv x = true) (hb : L2.Binds X.K (PySem.W.fnOf x x pg bg sg dV kV doc pm an cdv ct) [a] []) (Sg : FnScope Ng [a] sg) (hNg : Ng[0]? = some a) (hva : Vis sg a)
    (hG : GivesR X Ng x sg g cdv bg a (X.env.qual ++ "<lambda>") TT) (hr : Room (k + 2) X.A) (L : LamN X.env.scope scope X.N)
    (hbody : ∀ (A : Around) (outer : List Env) (s : Shared) (H : Hp) (E : XK) (f c' : Addr), Room k (A.deeper (lamEnv X scope s.heap.objs.size f c')) → PE (lamCx X A outer s H E scope f c') body (t E))
    (I1 : Inv X pins σ H1 s') (hf : s'.heap.get? f = some (kdv_obj "<lambda>" (X.env.qual ++ "<lambda>") params (.expr body) scope (cloFrom X.env.cells scope.names []) dL docL pmL c' ctL)) (hfn : H1 f = none) (hfr : f ∉ frs X.stack) (hco : H1 c' = some (CodeO c' (X.env.qual ++ "<lambda>")))
    (hbind : ∀ s1 : Shared, (∀ b o, s'.heap.get? b = some o → H1 b = none → b ∉ frs X.stack → s1.heap.get? b = some o) → BindsTo s1 (kdv_fn "<lambda>" (X.env.qual ++ "<lambda>") params (.expr body) scope (cloFrom X.env.cells scope.names []) dL docL pmL (.ref c') ctL) ⟨[], []⟩ binds)
    (hloc : ∀ y ∈ binds, scope.names.lookup y.1 = some .local) (h : TT (fun E H' Q' => t E σ H' Q') H1 Q)
    (hd : (a == ("__debug__" : Str)) = false := by decide) (hcd : (a == ("__classdict__" : Str)) = false := by decide) :
    wpAny (model X.prog X.w) X.A (call (.ref g) [.ref f]) (EP X pins σ Q) X.xe s' := by
  have rc : codeAny (model X.prog X.w) X.A (.call (.ref g) ⟨[.ref f], []⟩) (CR C8.CX0 X.stack X.prog X.w H1 s' Q C8.E0) s' := by
    refine run_ofS (N := Ng) (ps := [a]) (us := [.ref f]) (vs := [.ref f]) lk hcg Sg hr I1.env0 (hb s' [.ref f] I1.kIn rfl) (.cons rfl .nil) rfl fun hr' => ?_
    obtain ⟨t', ht', hq'⟩ := hG f c' s' H1 Q (fun E H' Q' => t E σ H' Q') (fun W pn xe p1 p2 tk => pe_actR (i := 0) I1 L hf hfn hfr hbind hloc tk hr' (fun A outer s H E hr2 => hbody A outer s H E f c' hr2) hNg hva hd hcd) hco h
    exact ⟨t', ht'.nox, hq'⟩
  refine wpAny_call (codeAny_mono rc fun r s2 hq => ?_)
  cases r with
  | error e => exact (show False from hq).elim
  | ok fl =>
    cases fl with
    | ret u => exact I1.after hq
    | next => exact False.elim hq
    | brk => exact False.elim hq
    | cont => exact False.elim hq
/-- x(lambda: body) -/
theorem pe_lamcallR (hg : Gl X x) (hm : X.mg x = some (.ref g)) (hk : PySem.W.keepIn X.K (.ref g) = true)
    (lk : X.K.lookup g = some ⟨oc, od, .func (PySem.W.fnOf x x pg bg sg dV kV doc pm an cdv ct), osl⟩) (hcg : PySem.W.codeIn X.K cdv x = true) (hb : L2.Binds X.K (PySem.W.fnOf x x pg bg sg dV kV doc pm an cdv ct) [a] []) (Sg : FnScope Ng [a] sg) (hNg : Ng[0]? = some a) (hva : Vis sg a)
    (hG : GivesR X Ng x sg g cdv bg a (X.env.qual ++ "<lambda>") TT)
    (TB : TabB X.base X.mg c P) (hcode : X.env.code = .ref c) (hmT : (P, X.env.qual ++ "<lambda>") ∈ T) (hu : ∀ p ∈ T, p.1 = P → p.2 = X.env.qual ++ "<lambda>") (hr : Room (k + 2) X.A) (L : LamN X.env.scope scope X.N) (hdef : defaultsOf params X.env = ([], []))
    (hbind : ∀ (q : Str) (cl : List (Str × Addr)) (pm cv ctv : Value), bindArgs (PySem.W.kla_fn "<lambda>" q params body scope cl pm cv ctv) ⟨[], []⟩ = pure [])
    (hbody : ∀ (A : Around) (outer : List Env) (s : Shared) (H : Hp) (E : XK) (f c' : Addr), Room k (A.deeper (lamEnv X scope s.heap.objs.size f c')) → PE (lamCx X A outer s H E scope f c') body (t E))
    (hdb : (x == ("__debug__" : Str)) = false := by decide) (hd : (a == ("__debug__" : Str)) = false := by decide) (hcd : (a == ("__classdict__" : Str)) = false := by decide) :
    PE X (.Call (.Name x p) [.Lambda params body scope lpos] [] pos) (tLam T TT t) := by
  refine ⟨fun pins s σ H Q I ⟨hT, h⟩ => ?_⟩
  refine wpAny_Call_Name_kw (ld_glob I hg hm ?_ hdb)
  refine PySem.W.callWith_K (h₀ := X.base) I.ok.mod.kin hk ?_ (by rfl) (by rfl)
  show wpAny _ _ (spliced ((false, eval (.Lambda params body scope lpos) X.env) :: backTo pos (starEach [] X.env))) _ _ s
  refine Calls.spliced_cons (lam_make2 I TB hcode hmT hu hT hdef (L.has I.ok) fun f c' pm' ctv H1 s' I1 eN T1 hf hfn hfr hco => ?_)
  exact Calls.spliced_nil ⟨I1.kIn, lam_endR (binds := []) (dL := .none) (docL := .none) hk lk hcg hb Sg hNg hva hG hr L hbody I1 hf hfn hfr hco (fun s1 _ => .of_eq (hbind _ _ _ _ _)) (fun y hy => absurd hy (by simp)) (h H1 eN T1) hd hcd⟩
/-- x(lambda y=n: body) -/
theorem pe_lamcallD {y : Str} {n : Int} {j : Nat} {cp : Pos} (hg : Gl X x) (hm : X.mg x = some (.ref g)) (hk : PySem.W.keepIn X.K (.ref g) = true)
    (lk : X.K.lookup g = some ⟨oc, od, .func (PySem.W.fnOf x x pg bg sg dV kV doc pm an cdv ct), osl⟩) (hcg : PySem.W.codeIn X.K cdv x = true) (hb : L2.Binds X.K (PySem.W.fnOf x x pg bg sg dV kV doc pm an cdv ct) [a] []) (Sg : FnScope Ng [a] sg) (hNg : Ng[0]? = some a) (hva : Vis sg a)
    (hG : GivesR X Ng x sg g cdv bg a (X.env.qual ++ "<lambda>") TT)
    (TB : TabB X.base X.mg c P) (hcode : X.env.code = .ref c) (hmT : (P, X.env.qual ++ "<lambda>") ∈ T) (hu : ∀ p ∈ T, p.1 = P → p.2 = X.env.qual ++ "<lambda>") (hr : Room (k + 2) X.A) (L : LamN X.env.scope scope X.N)
    (hdef : params.defaults = [.Constant (.int n) j cp]) (hk0 : params.kw_defaults = []) (hyl : scope.names.lookup y = some .local)
    (hbind : ∀ (q : Str) (cl : List (Str × Addr)) (T₀ : Addr) (doc pm cv ctv u : Value), ∃ k : Option (Array Value) → Sem (List (Str × Value)), bindArgs (kdv_fn "<lambda>" q params (.expr body) scope cl (.ref T₀) doc pm cv ctv) ⟨[], []⟩ = seqItems? (.ref T₀) >>= k ∧ k (some #[u]) = pure [(y, u)])
    (hbody : ∀ (A : Around) (outer : List Env) (s : Shared) (H : Hp) (E : XK) (f c' : Addr), Room k (A.deeper (lamEnv X scope s.heap.objs.size f c')) → PE (lamCx X A outer s H E scope f c') body (t E))
    (hdb : (x == ("__debug__" : Str)) = false := by decide) (hd : (a == ("__debug__" : Str)) = false := by decide) (hcd : (a == ("__classdict__" : Str)) = false := by decide) :
    PE X (.Call (.Name x p) [.Lambda params body scope lpos] [] pos) (tLam T TT t) := by
  refine ⟨fun pins s σ H Q I ⟨hT, h⟩ => ?_⟩
  refine wpAny_Call_Name_kw (ld_glob I hg hm ?_ hdb)
  refine PySem.W.callWith_K (h₀ := X.base) I.ok.mod.kin hk ?_ (by rfl) (by rfl)
  show wpAny _ _ (spliced ((false, eval (.Lambda params body scope lpos) X.env) :: backTo pos (starEach [] X.env))) _ _ s
  refine Calls.spliced_cons (lam_makeD I TB hcode hmT hu hT hdef hk0 (L.has I.ok) rfl fun f c' T₀ tk doc' pm' ctv H1 s' I1 eN T1 hf hfn hfr hco g0 n0 f0 => ?_)
  refine Calls.spliced_nil ⟨I1.kIn, lam_endR (binds := [(y, .int n tk)]) hk lk hcg hb Sg hNg hva hG hr L hbody I1 hf hfn hfr hco (fun s1 kp => ?_) (fun z hz => ?_) (h H1 eN T1) hd hcd⟩
  · obtain ⟨kk, e1, e2⟩ := hbind (X.env.qual ++ "<lambda>") (cloFrom X.env.cells scope.names []) T₀ doc' pm' (.ref c') ctv (.int n tk)
    exact BindsTo.of_defaults rfl (kp _ _ g0 n0 f0) rfl e1 e2
  · rw [List.mem_singleton.mp hz]
    exact hyl
end
end LamR

/-! k02: what the program's own defs tell. -/
namespace Dg
open PySem L2 Evl
def top (i : Nat) : Stmt := PySem.Challenge.pw_shortspans_k33_whole_texts_of_styles.main.body.getD i (.Pass ⟨0, 0, 0, 0⟩)
abbrev sIsInt : Stmt := top 12
abbrev sIsNum : Stmt := top 13
abbrev sIsFig : Stmt := top 14
abbrev sNeedB : Stmt := top 15
abbrev sNeedN : Stmt := top 16
abbrev sDigits : Stmt := top 18

abbrev sLength : Stmt := top 19
abbrev sNeedR : Stmt := top 17
abbrev sChanged : Stmt := top 20
abbrev sNear : Stmt := top 21
structure TxG (mg : Str → Option Value) : Prop where
  isi : mg "isinstance" = none
  int : mg "int" = none
  bool : mg "bool" = none
  str : mg "str" = none
  len : mg "len" = none
  sup : mg "super" = none
  fig : ∃ t, mg "FIGURES" = some (.str "0123456789" t)
  least : ∃ t, mg "LEAST_BASE" = some (.int 2 t)
  most : ∃ t, mg "MOST_BASE" = some (.int 10 t)
structure TxI (K : PySem.W.Frag) (mg : Str → Option Value) (fi : Addr) : Prop extends TxG mg where
  isInt : mg "is_integer" = some (.ref fi)
  kInt : PySem.W.keepIn K (.ref fi) = true
/-- whether a value is an integer -/
inductive Kn (K : PySem.W.Frag) (H : Hp) : V → Bool → Prop
  | int (i : Int) : Kn K H (.int i) true
  | oth {v : V} {a : String} {x y : Bool} (t : TyX K H v (.type a)) (h1 : kitB a "int" = some x) (h2 : kitB a "bool" = some y) (h : (x && !y) = false) : Kn K H v false
/-- whether a value is a number -/
inductive Nm (K : PySem.W.Frag) (H : Hp) : V → Bool → Prop
  | int (i : Int) : Nm K H (.int i) (decide (1 ≤ i))
  | oth {v : V} (h : Kn K H v false) : Nm K H v false
/-- whether a value is a base -/
inductive Bs (K : PySem.W.Frag) (H : Hp) : V → Bool → Prop
  | int (i : Int) : Bs K H (.int i) (decide (2 ≤ i) && decide (i ≤ 10))
  | oth {v : V} (h : Kn K H v false) : Bs K H v false
theorem tyx_ex {K : PySem.W.Frag} {H H' : Hp} {v : V} {a : String} (e : Ex H H') (t : TyX K H v (.type a)) : TyX K H' v (.type a) := by
  cases t with
  | base b =>
    cases b with
    | non => exact .base .non
    | bl x => exact .base (.bl x)
    | int i => exact .base (.int i)
    | str x => exact .base (.str x)
    | flt x => exact .base (.flt x)
    | lst h => exact .base (.lst (e _ _ h))
    | frz h => exact .base (.frz (e _ _ h))
    | tup h => exact .base (.tup (e _ _ h))
    | dK h => exact .base (.dK (e _ _ h))
    | dT h => exact .base (.dT (e _ _ h))
  | byt b => exact .byt b
  | set h => exact .set (e _ _ h)
  | kList h c => exact .kList h c
  | kTuple h c => exact .kTuple h c
  | kDict h c => exact .kDict h c
  | fTuple h => exact .fTuple (e _ _ h)
  | fDict h => exact .fDict (e _ _ h)
theorem Kn.ex {K : PySem.W.Frag} {H H' : Hp} {v : V} {b : Bool} (e : Ex H H') (k : Kn K H v b) : Kn K H' v b := by
  cases k with
  | int i => exact .int i
  | oth t h1 h2 h => exact .oth (tyx_ex e t) h1 h2 h
theorem Nm.ex {K : PySem.W.Frag} {H H' : Hp} {v : V} {b : Bool} (e : Ex H H') (k : Nm K H v b) : Nm K H' v b := by
  cases k with
  | int i => exact .int i
  | oth h => exact .oth (h.ex e)
theorem Bs.ex {K : PySem.W.Frag} {H H' : Hp} {v : V} {b : Bool} (e : Ex H H') (k : Bs K H v b) : Bs K H' v b := by
  cases k with
  | int i => exact .int i
  | oth h => exact .oth (h.ex e)
/-- the exception C(f = v) leaves -/
def Leaves (C : Addr) (f : Str) (v : V) (H : Hp) (E : XK) : Prop := ∀ H2 d, Ex H H2 → H2 d = none → E (.ref C) (some d) (upd H2 d (.xd [(f, v)]))
theorem Leaves.go {C : Addr} {f : Str} {v : V} {H H' : Hp} {E : XK} (l : Leaves C f v H E) (e : Ex H H') : Leaves C f v H' E := fun H2 d e2 hd => l H2 d (e.trans e2) hd
section
variable {P : Program} {w : World} {K : PySem.W.Frag} {mg : Str → Option Value} {base : Heap} {ca : Nat → Addr}
theorem ev_isi {σ : St} {H : Hp} {te : TE} {v : V} {a b : String} {r : Bool} (h : Ev te σ H v) (t : TyX K H v (.type a)) (k : kitB a b = some r) : Ev (tCB (rIsi K) (tCons te (tCons (tC (.ty b)) tNil))) σ H (.bl r) :=
  ev_cb (ea_cons h (ea_cons ev_c ea_nil)) fun H1 e Q q => ⟨v, .ty b, .type a, .type b, r, rfl, .ty b, tyx_ex e t, kit_ty k, q _ (Ex.refl _)⟩
def spIsInt (K : PySem.W.Frag) : Sp := fun vs H Q _ => ∃ v b, vs = [v] ∧ Kn K H v b ∧ RetV (.bl b) H Q
theorem scIsInt : FnScope ["value"] ["value"] (defScope sIsInt) := ⟨rfl, rfl, rfl, by decide +kernel, rfl, by decide +kernel, by decide +kernel⟩
theorem ok_isInt {f : Addr} {fd : FuncData} (F : Fun K "is_integer" "is_integer" sIsInt f fd) (T : TxG mg) : FnOk P w K mg base CX0 1 f fd ["value"] (spIsInt K) := by
  refine F.ok scIsInt (fun vs H Q E h => ?_) (fun cdv A outer s H vs Q E hr h => ?_)
  · obtain ⟨v, b, rfl, _⟩ := h
    rfl
  · obtain ⟨v, b, rfl, k, q⟩ := h
    refine ⟨_, pss_one (ps_ret (pe_and (pe_callB call_isi (by rfl) T.isi (by decide +kernel) (pa_cons (pv 0) (pa_cons (pe_bltn (by rfl) T.int (by decide +kernel) (v := .ty "int") rfl) pa_nil)))
      (pe_one (pe_not (pe_callB call_isi (by rfl) T.isi (by decide +kernel) (pa_cons (pv 0) (pa_cons (pe_bltn (by rfl) T.bool (by decide +kernel) (v := .ty "bool") rfl) pa_nil))))))), ?_⟩
    cases k with
    | int i => exact s_ret (ev_andV (ev_isi (ev_var rfl) (.base (.int i)) (r := true) (by decide +kernel)) (fun _ => ev_notV (ev_isi (ev_var rfl) (.base (.int i)) (r := false) (by decide +kernel)))) fun H1 e => q H1 e
    | oth t h1 h2 hx => exact s_ret (ev_is (ev_andV (ev_isi (ev_var rfl) t h1) (fun _ => ev_notV (ev_isi (ev_var rfl) t h2))) (by rw [hx])) fun H1 e => q H1 e
def spIsNum (K : PySem.W.Frag) : Sp := fun vs H Q _ => ∃ v b, vs = [v] ∧ Nm K H v b ∧ RetV (.bl b) H Q
theorem scIsNum : FnScope ["value"] ["value"] (defScope sIsNum) := ⟨rfl, rfl, rfl, by decide +kernel, rfl, by decide +kernel, by decide +kernel⟩
theorem ev_callI {σ : St} {H : Hp} {te : TE} {v : V} {b : Bool} (h : Ev te σ H v) (k : Kn K H v b) : Ev (tCall (spIsInt K) [] E0 (tCons te tNil)) σ H (.bl b) :=
  ev_call (ea_cons h ea_nil) fun H1 e Q q E => ⟨v, b, rfl, k.ex e, fun H2 e2 => q H2 e2⟩
theorem ok_isNum {f fi : Addr} {fd fdi : FuncData} (F : Fun K "is_number" "is_number" sIsNum f fd) (GI : FnOk P w K mg base CX0 1 fi fdi ["value"] (spIsInt K)) (bI : Binds K fdi ["value"] []) (T : TxI K mg fi) : FnOk P w K mg base CX0 2 f fd ["value"] (spIsNum K) := by
  refine F.ok scIsNum (fun vs H Q E h => ?_) (fun cdv A outer s H vs Q E hr h => ?_)
  · obtain ⟨v, b, rfl, _⟩ := h
    rfl
  · obtain ⟨v, b, rfl, k, q⟩ := h
    refine ⟨_, pss_one (ps_ret (pe_and (pe_call GI hr (by rfl) T.isInt T.kInt bI .nil pass0 (pa_cons (pv 0) pa_nil)) (pe_one (pe_cmpR op_ge (pv 0) pe_int (nomark _))))), ?_⟩
    cases k with
    | int i => exact s_ret (ev_is (ev_andV (ev_callI (ev_var rfl) (.int i)) (fun _ => ev_op (ev_var rfl) ev_c rv_I0)) (by simp)) fun H1 e => q H1 e
    | oth h => exact s_ret (ev_is (ev_andV (b := false) (ev_callI (ev_var rfl) h) (fun z => nomatch z)) (by simp)) fun H1 e => q H1 e
/-- need_base, need_number: nothing, or the exception -/
def spNeed (J : Hp → V → Bool → Prop) (C : Addr) : Sp := fun vs H Q E => ∃ v b, vs = [v] ∧ J H v b ∧ (b = true → RetV .non H Q) ∧ (b = false → Leaves C "value" v H E)
theorem scNeedB : FnScope ["base"] ["base"] (defScope sNeedB) := ⟨rfl, rfl, rfl, by decide +kernel, rfl, by decide +kernel, by decide +kernel⟩
theorem scNeedN : FnScope ["number"] ["number"] (defScope sNeedN) := ⟨rfl, rfl, rfl, by decide +kernel, rfl, by decide +kernel, by decide +kernel⟩
theorem ok_needN {f fn : Addr} {fd fdn : FuncData} (F : Fun K "need_number" "need_number" sNeedN f fd) (GN : FnOk P w K mg base CX0 2 fn fdn ["value"] (spIsNum K)) (bN : Binds K fdn ["value"] []) (gN : mg "is_number" = some (.ref fn)) (kN : PySem.W.keepIn K (.ref fn) = true) (T : TxG mg)
    (M : Mks P K mg (ca 2) ["value"]) (gC : mg "BadNumber" = some (.ref (ca 2))) : FnOk P w K mg base (L2.CX P w) 3 f fd ["number"] (spNeed (Nm K) (ca 2)) := by
  refine F.okX scNeedN (fun vs H Q E h => ?_) (fun cdv A outer s H vs Q E hr h => ?_)
  · obtain ⟨v, b, rfl, _⟩ := h
    rfl
  · obtain ⟨v, b, rfl, k, qy, qn⟩ := h
    refine ⟨_, pss_one (ps_if (pt_not (pt_val (pe_call GN hr (by rfl) gN kN bN .nil pass0 (pa_cons (pv 0) pa_nil)))) (pss_one (ps_raise rfl (takes_of rfl rfl rfl rfl) (pmk_mks M T.sup hr (by simp) (pa_cons (pv 0) pa_nil) (by rfl) gC))) pss_nil), ?_⟩
    refine s_when (b := !b) (et_not (et_B (ev_call (ea_cons (ev_var rfl) ea_nil) fun H1 e Q q E => ⟨v, b, rfl, k.ex e, fun H2 e2 => q H2 e2⟩))) (fun z H1 e => ?_) (fun z H1 e => qy (by simpa using z) H1 e)
    exact ⟨_, rfl, rfl, fun d hd => qn (by simpa using z) H1 d e hd⟩
end
end Dg

namespace L2
open PySem PySem.Spec PyProof.Rows
section
variable {X : Cx} {e : Expr} {te : TE} {p2 p3 p4 pos : Pos} {j : Nat}
/-- xs[::-1] of a list: a new one -/
def tBack (K : PySem.W.Frag) (te : TE) : TE := fun σ H Q => te σ H fun x H2 => ∃ a xs, x = .ref a ∧ SqL K H2 a xs ∧ ∀ p, H2 p = none → Q (.ref p) (upd H2 p (.lst xs.reverse))
theorem vals_reverse : ∀ {xs : List V} {us : List Value}, Vals xs us → Vals xs.reverse us.reverse
  | _, _, .nil => .nil
  | _, _, .cons r t => by
    rw [List.reverse_cons, List.reverse_cons]
    exact (vals_reverse t).append (.cons r .nil)
theorem pe_back (he : PE X e te) : PE X (.Subscript e (.Slice none none (some (.UnaryOp .USub (.Constant (.int 1) j p3) p4)) p2) pos) (tBack X.K te) := by
  refine ⟨fun pins s σ H Q I h => ?_⟩
  refine Subscript_ (thn (he.run pins s σ H _ I h) fun v s1 ⟨x, H1, I1, r1, a, xs, ex, hx, q⟩ => ?_)
  subst ex
  obtain rfl : v = Value.ref a := r1
  refine wpAny_Slice ?_
  rw [evalPart_none]
  refine wpAny_pure (wpAny_pure ?_)
  rw [evalPart_some]
  refine thn ((pe_un (pos := p4) un_neg (pe_int (X := X) (i := 1) (j := j) (pos := p3))).run pins s1 σ H1 (fun y H2 => y = .int (-1) ∧ H2 = H1) I1 ⟨1, rfl, rfl, rfl⟩) fun vu s3 ⟨y, H3, I3, r3, ey, eH⟩ => ?_
  subst ey
  rw [eH] at I3
  obtain ⟨tk, rfl⟩ := r3
  have I4 : Inv X pins σ H1 { s3 with heap := s3.heap.push { cls := .type "slice", data := .fields #[.none, .none, .int (-1) tk] } } := I3.kept (t' := s3.toks) fun b ob q => Heap.get?_push_of_some _ q
  obtain ⟨its, r, ht, hz⟩ := I4.list hx
  show wpAny (model X.prog X.w) X.A (subscriptTail e (.Slice none none (some (.UnaryOp .USub (.Constant (.int 1) j p3) p4)) p2) (.ref a) (.ref s3.heap.objs.size)) (EP X pins σ Q) X.xe { s3 with heap := s3.heap.push { cls := .type "slice", data := .fields #[.none, .none, .int (-1) tk] } }
  refine tail_any (ops := _) ht.isList.typeIs slot_list_getitem.lookup ?_ (by with_unfolding_all rfl)
  refine wpAny_getItem_list_slice ht.isList (Heap.IsSliceOf.new ..) .none .none (.int _ _) (by simp) ?_ (by rw [List.size_toArray, ← r.length]; exact hz)
  rw [PySem.W.krv_pick]
  refine ⟨.ref _, _, I4.laid (t' := s3.toks) (o := .lst xs.reverse) (fun b ob q => Heap.get?_push_of_some _ q) (Nat.le_refl _) ?_, rfl, q _ (I4.hok.fresh (Nat.le_refl _))⟩
  exact ⟨by rw [List.length_reverse]; exact hz, its.reverse, 0, vals_reverse r, Heap.get?_push_size _ rfl⟩
end
end L2

namespace Evl
open PySem L2
/-- a <= b <= c of whole numbers -/
theorem ev_chI {σ : St} {H : Hp} {ta tb tc : TE} {a b c : Int} (ha : Ev ta σ H (.int a)) (hb : Ev tb σ H (.int b)) (hc : Ev tc σ H (.int c)) :
    Ev (tChain (rI0 fun i j => .bl (decide (i ≤ j))) (rI0 fun i j => .bl (decide (i ≤ j))) ta tb tc) σ H (.bl (decide (a ≤ b) && decide (b ≤ c))) := fun H1 e Q q =>
  ha H1 e _ fun H2 e2 => hb H2 (e.trans e2) _ fun H3 e3 => ⟨a, b, rfl, rfl, _, rfl, by
    by_cases h : a ≤ b
    · rw [if_pos (decide_eq_true h)]
      exact hc H3 ((e.trans e2).trans e3) _ fun H4 e4 => ⟨b, c, rfl, rfl, by
        have z := q H4 ((e2.trans e3).trans e4)
        rw [decide_eq_true h, Bool.true_and] at z
        exact z⟩
    · rw [if_neg (by simpa using h)]
      have z := q H3 (e2.trans e3)
      rw [decide_eq_false h, Bool.false_and] at z
      exact z⟩
end Evl
namespace Dg
open PySem L2 Evl
/-- the digits of a number, the last one first -/
def dlF (b : Nat) : Nat → Nat → List Nat
  | 0, _ => []
  | k + 1, n => if n = 0 then [] else n % b :: dlF b k (n / b)
def dl (b n : Nat) : List Nat := dlF b n n
theorem dlF_fuel {b : Nat} (hb : 2 ≤ b) : ∀ k n : Nat, n ≤ k → dlF b k n = dl b n := by
  have key : ∀ k n m : Nat, n ≤ k → n ≤ m → dlF b k n = dlF b m n := by
    intro k
    induction k with
    | zero =>
      intro n m h1 h2
      have : n = 0 := by omega
      subst this
      cases m <;> simp [dlF]
    | succ k ih =>
      intro n m h1 h2
      by_cases hn : n = 0
      · subst hn
        cases m <;> simp [dlF]
      · cases m with
        | zero => omega
        | succ m =>
          have hlt : n / b < n := Nat.div_lt_self (by omega) (by omega)
          simp only [dlF, if_neg hn]
          rw [ih (n / b) m (by omega) (by omega)]
  exact fun k n h => key k n n h (Nat.le_refl _)
theorem dl_zero (b : Nat) : dl b 0 = [] := rfl
theorem dl_step {b n : Nat} (hb : 2 ≤ b) (hn : 0 < n) : dl b n = n % b :: dl b (n / b) := by
  obtain ⟨k, rfl⟩ : ∃ k, n = k + 1 := ⟨n - 1, by omega⟩
  have hlt : (k + 1) / b < k + 1 := Nat.div_lt_self (by omega) (by omega)
  show dlF b (k + 1) (k + 1) = _
  simp only [dlF, if_neg (by omega : ¬ k + 1 = 0)]
  rw [dlF_fuel hb k _ (by omega)]
theorem dl_lt {b : Nat} (hb : 2 ≤ b) : ∀ n : Nat, ∀ d ∈ dl b n, d < b := by
  intro n
  induction n using Nat.strongRecOn with
  | ind n ih =>
    intro d hd
    by_cases hn : n = 0
    · subst hn; exact absurd hd (by simp [dl_zero])
    · rw [dl_step hb (by omega)] at hd
      rcases List.mem_cons.mp hd with rfl | h
      · exact Nat.mod_lt _ (by omega)
      · exact ih _ (Nat.div_lt_self (by omega) (by omega)) d h
theorem dl_len {b : Nat} (hb : 2 ≤ b) : ∀ k n : Nat, n < 2 ^ k → (dl b n).length ≤ k := by
  intro k
  induction k with
  | zero =>
    intro n h
    have : n = 0 := by simpa using h
    subst this
    simp [dl_zero]
  | succ k ih =>
    intro n h
    by_cases hn : n = 0
    · subst hn; simp [dl_zero]
    · rw [dl_step hb (by omega), List.length_cons]
      have : n / b < 2 ^ k := by
        have h1 : n / b ≤ n / 2 := Nat.div_le_div_left hb (by decide)
        have h2 : n / 2 < 2 ^ k := by
          rw [Nat.div_lt_iff_lt_mul (by decide)]
          rw [Nat.pow_succ] at h
          exact h
        omega
      have := ih _ this
      omega
/-- a figure -/
def fig (d : Nat) : Str := ⟨#[48 + d]⟩
theorem figs_at {d : Nat} (h : d < 10) : atI ("0123456789" : Str).cps.toList (d : Int) = some (48 + d) := by
  have c : d = 0 ∨ d = 1 ∨ d = 2 ∨ d = 3 ∨ d = 4 ∨ d = 5 ∨ d = 6 ∨ d = 7 ∨ d = 8 ∨ d = 9 := by omega
  rcases c with rfl | rfl | rfl | rfl | rfl | rfl | rfl | rfl | rfl | rfl <;> decide +kernel
/-- what digits tells -/
def digs (b n : Nat) : Str := Txt.join "" (((dl b n).map fig).reverse)
structure TxF (K : PySem.W.Frag) (mg : Str → Option Value) (fi fnum fnb fnn fdg : Addr) : Prop extends TxI K mg fi where
  isNum : mg "is_number" = some (.ref fnum)
  kNum : PySem.W.keepIn K (.ref fnum) = true
  needB : mg "need_base" = some (.ref fnb)
  kNB : PySem.W.keepIn K (.ref fnb) = true
  needN : mg "need_number" = some (.ref fnn)
  kNN : PySem.W.keepIn K (.ref fnn) = true
  digits : mg "digits" = some (.ref fdg)
  kDg : PySem.W.keepIn K (.ref fdg) = true
  divmod : mg "divmod" = none
section
variable {P : Program} {w : World} {K : PySem.W.Frag} {mg : Str → Option Value} {base : Heap} {ca : Nat → Addr} {fi fnum fnb fnn fdg : Addr}
theorem ok_needB {f : Addr} {fd fdi : FuncData} (F : Fun K "need_base" "need_base" sNeedB f fd) (GI : FnOk P w K mg base CX0 1 fi fdi ["value"] (spIsInt K)) (bI : Binds K fdi ["value"] []) (T : TxI K mg fi)
    (M : Mks P K mg (ca 1) ["value"]) (gC : mg "BadBase" = some (.ref (ca 1))) : FnOk P w K mg base (L2.CX P w) 2 f fd ["base"] (spNeed (Bs K) (ca 1)) := by
  refine F.okX scNeedB (fun vs H Q E h => ?_) (fun cdv A outer s H vs Q E hr h => ?_)
  · obtain ⟨v, b, rfl, _⟩ := h
    rfl
  · obtain ⟨v, b, rfl, k, qy, qn⟩ := h
    obtain ⟨t1, hl⟩ := T.least
    obtain ⟨t2, hm⟩ := T.most
    refine ⟨_, pss_one (ps_if (PW.pt (pw_or (pt_not (pt_val (pe_call GI hr (by rfl) T.isInt T.kInt bI .nil pass0 (pa_cons (pv 0) pa_nil)))) (pw_or1 (pt_not (pt_chain op_le op_le (pe_glob (by rfl) hl (v := .int 2) ⟨_, rfl⟩) (pv 0) (pe_glob (by rfl) hm (v := .int 10) ⟨_, rfl⟩))))))
      (pss_one (ps_raise rfl (takes_of rfl rfl rfl rfl) (pmk_mks M T.sup hr (by simp) (pa_cons (pv 0) pa_nil) (by rfl) gC))) pss_nil), ?_⟩
    cases k with
    | int i =>
      refine s_when (b := !(decide (2 ≤ i) && decide (i ≤ 10))) (et_is (et_or (et_not (et_B (ev_callI (ev_var rfl) (.int i)))) fun _ => et_not (et_test (ev_chI ev_c (ev_var rfl) ev_c))) (by simp)) (fun z H1 e => ?_) (fun z H1 e => qy (by simpa using z) H1 e)
      exact ⟨_, rfl, rfl, fun d hd => qn (by rw [Bool.not_eq_true'] at z; exact z) H1 d e hd⟩
    | oth h =>
      refine s_when (b := true) (et_is (et_or (b := true) (et_not (et_B (ev_callI (ev_var rfl) h))) fun z => nomatch z) (by simp)) (fun z H1 e => ?_) (fun z => nomatch z)
      exact ⟨_, rfl, rfl, fun d hd => qn rfl H1 d e hd⟩
/-- digits(base, number) -/
def spDigits (K : PySem.W.Frag) (ca : Nat → Addr) : Sp := fun vs H Q E => ∃ vb vn b c, vs = [vb, vn] ∧ Bs K H vb b ∧ Nm K H vn c ∧ (b = false → Leaves (ca 1) "value" vb H E) ∧ (b = true → c = false → Leaves (ca 2) "value" vn H E) ∧
  (b = true → c = true → ∃ β n : Nat, vb = .int β ∧ vn = .int n ∧ 2 ≤ β ∧ β ≤ 10 ∧ 1 ≤ n ∧ n < 2 ^ 50000 ∧ RetV (.str (digs β n)) H Q)
theorem scDigits : FnScope ["base", "number", "figures", "figure"] ["base", "number"] (defScope sDigits) := ⟨rfl, rfl, rfl, by decide +kernel, rfl, by decide +kernel, by decide +kernel⟩
theorem ok_digits {f : Addr} {fd fdb fdn : FuncData} (F : Fun K "digits" "digits" sDigits f fd) (GB : FnOk P w K mg base (L2.CX P w) 3 fnb fdb ["base"] (spNeed (Bs K) (ca 1))) (bB : Binds K fdb ["base"] [])
    (GN : FnOk P w K mg base (L2.CX P w) 3 fnn fdn ["number"] (spNeed (Nm K) (ca 2))) (bN : Binds K fdn ["number"] []) (T : TxF K mg fi fnum fnb fnn fdg) : FnOk P w K mg base (L2.CX P w) 4 f fd ["base", "number"] (spDigits K ca) := by
  refine F.okX scDigits (fun vs H Q E h => ?_) (fun cdv A outer s H vs Q E hr h => ?_)
  · obtain ⟨v, _, _, _, rfl, _⟩ := h
    rfl
  · obtain ⟨vb, vn, b, c, rfl, kb, kn, l1, l2, hq⟩ := h
    obtain ⟨t1, hf⟩ := T.fig
    refine ⟨_, pss_cons (ps_expr (pe_callS GB hr (by rfl) T.needB T.kNB bB (fun σ => passAt (takes_of rfl rfl rfl rfl) σ) (pa_cons (pv 0) pa_nil)))
      (pss_cons (ps_expr (pe_callS GN hr (by rfl) T.needN T.kNN bN (fun σ => passAt (takes_of rfl rfl rfl rfl) σ) (pa_cons (pv 1) pa_nil)))
      (pss_cons (ps_set (i := 2) scDigits.nd rfl (.inl rfl) (pe_lst pa_nil))
      (pss_cons (ps_while (passes_of rfl) (pt_cmpR op_gt (pv 1) pe_int (nomark _))
        (pss_cons (ps_asg (pe_callB call_divmod (by rfl) T.divmod (by decide +kernel) (pa_cons (pv 1) (pa_cons (pv 0) pa_nil))) (pg_tup (by rfl) (pgs_cons (pg_name (i := 1) scDigits.nd rfl (.inl rfl)) (pgs_cons (pg_name (i := 3) scDigits.nd rfl (.inl rfl)) pgs_nil))))
          (pss_one (ps_expr (pe_bm PySem.F.plainAttrs_list PySem.F.slot_list_append PySem.F.type_list_append mt_append (pv 2) (pa_cons (pe_ix ix_str (pe_glob (by rfl) hf (v := .str "0123456789") ⟨_, rfl⟩) (pv 3) (fun _ _ => rfl)) pa_nil))))))
      (pss_one (ps_ret (pe_join pe_str (pe_back (pv 2)))))))), ?_⟩
    refine ⟨_, rfl, vb, b, rfl, kb, fun hb H1 e1 => ?_, fun hb => ?_⟩
    · refine ⟨_, rfl, vn, c, rfl, kn.ex e1, fun hc H2 e2 => ?_, fun hc => (l2 hb hc).go e1⟩
      obtain ⟨β, n, rfl, rfl, b2, b10, n1, nz, q⟩ := hq hb hc
      refine ⟨Nat.zero_le _, fun fl hfl => ?_⟩
      refine q_while (fun m σ' H' => ∃ (done : List Nat) (x3 : Option V), σ' = [some (.int β), some (.int (m : Int)), some (.ref fl), x3] ∧ H' fl = some (.lst (done.map fun d => V.str (fig d))) ∧ done ++ dl β m = dl β n ∧ Ex H2 H') n
        ⟨[], none, rfl, upd_same, rfl, Ex.new hfl⟩ (fun m σ' H' ⟨done, x3, hσ, hL, hd, ex⟩ => ⟨decide ((0 : Int) < (m : Int)), ?_, fun z H4 e4 => ?_, fun z H4 e4 => ?_⟩)
      · subst hσ
        exact et_test (ev_op (ev_var rfl) ev_c rv_I0)
      · subst hσ
        have m0 : 0 < m := by
          have := of_decide_eq_true z
          omega
        refine ⟨fun σ2 H5 => σ2 = [some (.int β), some (.int ((m / β : Nat) : Int)), some (.ref fl), some (.int ((m % β : Nat) : Int))] ∧ H5 fl = some (.lst ((done ++ [m % β]).map fun d => V.str (fig d))) ∧ Ex H2 H5, fun σ2 H5 ⟨a, b, c⟩ => ⟨m / β, Nat.div_lt_self m0 (by omega), done ++ [m % β], _, a, b, ?_, c⟩, ?_⟩
        · rw [List.append_assoc, List.singleton_append, ← dl_step (by omega) m0]
          exact hd
        · have hlt : m % β < 10 := Nat.lt_of_lt_of_le (Nat.mod_lt _ (by omega)) b10
          refine ⟨_, rfl, _, rfl, (m : Int), (β : Int), rfl, ⟨by omega, by omega⟩, fun p hp => ⟨p, _, rfl, st_of upd_same, rfl, _, _, rfl, _, _, rfl, rfl, ?_⟩⟩
          have hfl4 := (Ex.new (o := .tup [.int ((m : Int) / (β : Int)), .int ((m : Int) % (β : Int))]) hp) _ _ (e4 _ _ hL)
          refine s_app hfl4 (ev_var rfl) (ev_op (σ := [some (.int β), some (.int ((m / β : Nat) : Int)), some (.ref fl), some (.int ((m % β : Nat) : Int))]) ev_c (ev_var rfl) (rv_ixS (by decide) (figs_at hlt))) ?_ fun H5 e5 => ⟨rfl, ?_, ?_⟩
          · rw [List.length_map]
            have h1 := congrArg List.length hd
            rw [List.length_append] at h1
            have hz := dl_len b2 50000 n nz
            clear nz
            omega
          · rw [upd_same, List.map_append]
            rfl
          · exact ((ex.trans e4).trans ((Ex.new hp).trans e5)).mut hfl
      · subst hσ
        have m0 : m = 0 := by
          have := of_decide_eq_false z
          omega
        subst m0
        rw [dl_zero, List.append_nil] at hd
        subst hd
        refine ⟨⟨_, rfl⟩, _, rfl, fl, _, rfl, sq_of (e4 _ _ hL), fun p hp => ⟨"", p, ((dl β n).map fig).reverse, rfl, rfl, .inl (sq_of ?_), ?_, ?_⟩⟩
        · rw [upd_same, List.map_reverse, List.map_map]
          rfl
        · have h1 : ∀ l : List Nat, ((l.map fig).map (·.length)).sum = l.length := fun l => by
            induction l with
            | nil => rfl
            | cons d l ih =>
              simp only [List.map_cons, List.sum_cons, List.length_cons, ih]
              have : (fig d).length = 1 := rfl
              omega
          have hz := dl_len b2 50000 n nz
          clear nz
          rw [← List.map_reverse, h1, List.length_reverse]
          have e0 : ("" : Str).length = 0 := by decide
          rw [e0, Nat.mul_zero]
          omega
        · exact q _ (((e1.trans e2).trans ex).trans (e4.trans (Ex.new hp)))
    · exact l1 hb
end
end Dg

namespace Evl
open PySem L2
/-- a comprehension over the signs of a text -/
theorem el_lcS {x : Str} {σ : St} {H : Hp} {tl : TE} {te : TE} {j : Nat} {vs : List Nat} (v : Nat → V) (h : Ev tl σ H (.str x)) (hz : x.length ≤ 40000) (hw : ∀ y, wipe ((wipe σ vs).set j (some y)) vs = wipe σ vs)
    (he : ∀ (i c : Nat) H1, Ex H H1 → x.cps[i]? = some c → Ev te ((wipe σ vs).set j (some (.str ⟨#[c]⟩))) H1 (v c)) :
    EvL (tLc (iStr tl) (gName j) tYes te vs) σ H (x.cps.toList.map v) := fun H0 e Q q => h H0 e _ fun H1 e1 => ⟨x, rfl, fun D hD => by
  have sz : x.cps.toList.length = x.cps.size := Array.length_toList
  refine ⟨fun i m H' => m = x.cps.size - i ∧ i ≤ x.cps.size ∧ H' D = some (.lst ((x.cps.toList.take i).map v)) ∧ Ex H1 H', ⟨x.cps.size, by simp, Nat.zero_le _, by simp [upd_same], Ex.new hD⟩, ?_⟩
  rintro i m H' ⟨rfl, hi, hL, ex⟩
  by_cases hlt : i < x.cps.size
  · refine .inr ⟨hlt, fun H2 => H2 D = some (.lst ((x.cps.toList.take (i + 1)).map v)) ∧ Ex H1 H2, fun H2 ⟨a, b⟩ => ⟨x.cps.size - (i + 1), by omega, rfl, hlt, a, b⟩, fun y H2 hy => ?_⟩
    obtain ⟨rfl, c, hc, rfl⟩ := hy
    refine ⟨hw _, ?_⟩
    rw [show (tYes : TT) = fun _ H Q => Q true H from rfl]
    dsimp only
    rw [if_pos rfl]
    refine he i c H2 ((e.trans e1).trans ex) hc H2 (Ex.refl _) _ fun H4 e4 => ⟨_, e4 _ _ hL, ?_, ?_, ?_⟩
    · rw [List.length_map, List.length_take, sizeLine_eq]
      have : x.cps.size ≤ 40000 := hz
      omega
    · rw [upd_same, List.take_add_one, List.map_append]
      have : x.cps.toList[i]? = some c := by rw [Array.getElem?_toList]; exact hc
      rw [this]
      rfl
    · exact (ex.trans e4).mut hD
  · have e3 : i = x.cps.size := by omega
    subst e3
    refine .inl ⟨Nat.le_refl _, q D H' (fresh_back e1 hD) (e1.trans ex) ?_⟩
    rw [List.take_of_length_le (by rw [sz]; exact Nat.le_refl _)] at hL
    exact hL⟩
end Evl
namespace Dg
open PySem L2 Evl TL
theorem joinL_nil : ∀ ls : List (List Nat), joinL [] ls = ls.flatten
  | [] => rfl
  | [p] => by simp [joinL]
  | p :: q :: r => by simp [joinL, joinL_nil (q :: r)]
theorem flat_one : ∀ l : List Nat, (l.map fun d => [48 + d]).flatten = l.map (48 + ·)
  | [] => rfl
  | d :: l => by simp [flat_one l]
theorem tl_digs (b n : Nat) : tl (digs b n) = (dl b n).reverse.map (48 + ·) := by
  unfold digs
  rw [join_eq, tl_join]
  show joinL [] _ = _
  rw [joinL_nil, List.map_reverse, List.map_map]
  have e : (tl ∘ fig) = fun d => [48 + d] := funext fun d => rfl
  rw [e, ← List.map_reverse, flat_one]
theorem digs_len (b n : Nat) : (digs b n).length = (dl b n).length := by
  show (digs b n).cps.size = _
  rw [← Array.length_toList, show (digs b n).cps.toList = tl (digs b n) from rfl, tl_digs, List.length_map, List.length_reverse]
/-- whether a value is a text of 1 to so many digits of a base -/
def isFigs (β m : Nat) (x : Str) : Bool := (decide (1 ≤ x.length) && decide (x.length ≤ m)) && (tl x).all fun c => decide (48 ≤ c ∧ c < 48 + β)
def figsO (β m : Nat) : Option Str → Bool
  | some x => isFigs β m x
  | none => false
inductive Tx (K : PySem.W.Frag) (H : Hp) : V → Option Str → Prop
  | str (x : Str) : Tx K H (.str x) (some x)
  | oth {v : V} {a : String} (t : TyX K H v (.type a)) (h : kitB a "str" = some false) : Tx K H v none
theorem Tx.ex {K : PySem.W.Frag} {H H' : Hp} {v : V} {b : Option Str} (e : Ex H H') (k : Tx K H v b) : Tx K H' v b := by
  cases k with
  | str x => exact .str x
  | oth t h => exact .oth (tyx_ex e t) h
theorem cut_figs {β : Nat} (h2 : 2 ≤ β) (h10 : β ≤ 10) (c : Nat) : decide (c ∈ (cutS "0123456789" none (some (β : Int))).cps.toList) = decide (48 ≤ c ∧ c < 48 + β) := by
  have e : (cutS "0123456789" none (some (β : Int))).cps.toList = (List.range β).map (48 + ·) := by
    have cc : β = 2 ∨ β = 3 ∨ β = 4 ∨ β = 5 ∨ β = 6 ∨ β = 7 ∨ β = 8 ∨ β = 9 ∨ β = 10 := by omega
    rcases cc with rfl | rfl | rfl | rfl | rfl | rfl | rfl | rfl | rfl <;> decide +kernel
  rw [e]
  apply decide_eq_decide.mpr
  rw [List.mem_map]
  constructor
  · rintro ⟨a, ha, rfl⟩
    have := List.mem_range.mp ha
    omega
  · rintro ⟨a, b⟩
    exact ⟨c - 48, List.mem_range.mpr (by omega), by omega⟩
section
variable {P : Program} {w : World} {K : PySem.W.Frag} {mg : Str → Option Value} {base : Heap} {ca : Nat → Addr} {fi fnum fnb fnn fdg : Addr}
theorem ev_allL {σ : St} {H : Hp} {te : TE} {bs : List Bool} (h : EvL te σ H (bs.map V.bl)) : Ev (tCB (rAll K) (tCons te tNil)) σ H (.bl (bs.all id)) := fun H1 e Q q =>
  h H1 e _ fun p H2 hp e2 h2 => ⟨p, bs, rfl, sq_of h2, q H2 e2⟩
/-- length(base, number) -/
def spLength (K : PySem.W.Frag) (ca : Nat → Addr) : Sp := fun vs H Q E => ∃ vb vn b c, vs = [vb, vn] ∧ Bs K H vb b ∧ Nm K H vn c ∧ (b = false → Leaves (ca 1) "value" vb H E) ∧ (b = true → c = false → Leaves (ca 2) "value" vn H E) ∧
  (b = true → c = true → ∃ β n : Nat, vb = .int β ∧ vn = .int n ∧ 2 ≤ β ∧ β ≤ 10 ∧ 1 ≤ n ∧ n < 2 ^ 50000 ∧ RetV (.int (dl β n).length) H Q)
theorem scLength : FnScope ["base", "number"] ["base", "number"] (defScope sLength) := ⟨rfl, rfl, rfl, by decide +kernel, rfl, by decide +kernel, by decide +kernel⟩
theorem ok_length {f : Addr} {fd fdd : FuncData} (F : Fun K "length" "length" sLength f fd) (GD : FnOk P w K mg base (L2.CX P w) 4 fdg fdd ["base", "number"] (spDigits K ca)) (bD : Binds K fdd ["base", "number"] []) (T : TxF K mg fi fnum fnb fnn fdg) :
    FnOk P w K mg base (L2.CX P w) 5 f fd ["base", "number"] (spLength K ca) := by
  refine F.okX scLength (fun vs H Q E h => ?_) (fun cdv A outer s H vs Q E hr h => ?_)
  · obtain ⟨v, _, _, _, rfl, _⟩ := h
    rfl
  · obtain ⟨vb, vn, b, c, rfl, kb, kn, l1, l2, hq⟩ := h
    refine ⟨_, pss_one (ps_ret (pe_callB call_len_str (by rfl) T.len (by decide +kernel) (pa_cons (pe_callS GD hr (by rfl) T.digits T.kDg bD (fun σ => passAt (takes_of rfl rfl rfl rfl) σ) (pa_cons (pv 0) (pa_cons (pv 1) pa_nil))) pa_nil))), ?_⟩
    refine ⟨_, rfl, _, rfl, vb, vn, b, c, rfl, kb, kn, l1, l2, fun hb hc => ?_⟩
    obtain ⟨β, n, rfl, rfl, b2, b10, n1, nz, q⟩ := hq hb hc
    refine ⟨β, n, rfl, rfl, b2, b10, n1, nz, fun H1 e1 => ⟨_, rfl, ?_, ?_⟩⟩
    · rw [digs_len, sizeLine_eq]
      have hz := dl_len b2 50000 n nz
      clear nz q
      omega
    · rw [digs_len]
      exact q H1 e1
/-- is_figures(base, value, most) -/
def spIsFig (K : PySem.W.Frag) : Sp := fun vs H Q _ => ∃ (β m : Nat) (v : V) (o : Option Str), vs = [.int β, v, .int m] ∧ 2 ≤ β ∧ β ≤ 10 ∧ m ≤ 40000 ∧ Tx K H v o ∧ (∀ x, o = some x → x.length ≤ sizeLine) ∧ RetV (.bl (figsO β m o)) H Q
theorem scIsFig : FnScope ["base", "value", "most", "figure"] ["base", "value", "most"] (defScope sIsFig) := ⟨rfl, rfl, rfl, by decide +kernel, rfl, by decide +kernel, by decide +kernel⟩
theorem ok_isFig {f : Addr} {fd : FuncData} (F : Fun K "is_figures" "is_figures" sIsFig f fd) (T : TxG mg) (mA : mg "all" = none) : FnOk P w K mg base CX0 1 f fd ["base", "value", "most"] (spIsFig K) := by
  refine F.ok scIsFig (fun vs H Q E h => ?_) (fun cdv A outer s H vs Q E hr h => ?_)
  · obtain ⟨_, _, _, _, rfl, _⟩ := h
    rfl
  · obtain ⟨β, m, v, o, rfl, b2, b10, hm, k, hz, q⟩ := h
    obtain ⟨t1, hf⟩ := T.fig
    refine ⟨_, pss_cons (ps_if (PW.pt (pw_or (pt_not (pt_val (pe_callB call_isi (by rfl) T.isi (by decide +kernel) (pa_cons (pv 1) (pa_cons (pe_bltn (by rfl) T.str (by decide +kernel) (v := .ty "str") rfl) pa_nil))))) (pw_or1 (pt_not (pt_chain op_le op_le pe_int (pe_callB call_len_str (by rfl) T.len (by decide +kernel) (pa_cons (pv 1) pa_nil)) (pv 2)))))) (pss_one (ps_ret pe_bl)) pss_nil)
      (pss_one (ps_ret (pe_callB (cr_all rfl) (by rfl) mA (by decide +kernel) (pa_cons (pe_lc (own := [("figure", 3)]) (g := gName 3) (tt := tYes) rfl scIsFig.nd (pi_str (pv 1)) (blkOk_by (own := [("figure", 3)]) (N := ["base", "value", "most", "figure"]) (sc := defScope sIsFig) (by decide +kernel)) (fun _ _ _ _ _ => pg_name (i := 3) scIsFig.nd rfl (Or.inl rfl)) (fun _ _ _ _ _ => pts_nil)
        (fun _ _ _ _ _ => pe_cmpR op_in_sign (pv 3) (pe_slice (sl_str) (pe_glob (by rfl) hf (v := .str "0123456789") ⟨_, rfl⟩) po_none (po_some (pv 0))) (by rfl))) pa_nil)))), ?_⟩
    cases k with
    | oth t h =>
      exact q_when (b := true) (et_is (et_or (b := true) (et_not (et_B (ev_isi (ev_var rfl) t h))) fun z => nomatch z) (by simp)) (fun z H1 e => q H1 e) (fun z => nomatch z)
    | str x =>
      have hx := hz x rfl
      have eT : Ev (tCB (fun xs H Q => ∃ z : Str, xs = [.str z] ∧ z.length ≤ sizeLine ∧ Q (.int z.length) H) (tCons (tVar 1) tNil)) (L2.start ["base", "value", "most", "figure"] [.int β, .str x, .int m]) H (.int (x.length : Int)) :=
        ev_cb (ea_cons (ev_var rfl) ea_nil) fun H1 e Q q => ⟨x, rfl, hx, q _ (Ex.refl _)⟩
      refine q_when (b := !(decide ((1 : Int) ≤ (x.length : Int)) && decide ((x.length : Int) ≤ (m : Int)))) (et_is (et_or (et_not (et_B (ev_isi (r := true) (ev_var rfl) (.base (.str x)) (by decide +kernel)))) fun _ => et_not (et_test (ev_chI ev_c eT (ev_var rfl)))) (by simp)) (fun z H1 e => ?_) (fun z H1 e => ?_)
      · have e0 : isFigs β m x = false := by
          rw [Bool.not_eq_true'] at z
          unfold isFigs
          have : (decide (1 ≤ x.length) && decide (x.length ≤ m)) = false := by
            rw [← z]
            congr 1 <;> exact decide_eq_decide.mpr (by omega)
          rw [this, Bool.false_and]
        have q' := q
        dsimp only [figsO] at q'
        rw [e0] at q'
        exact q' H1 e
      · have z' : (decide ((1 : Int) ≤ (x.length : Int)) && decide ((x.length : Int) ≤ (m : Int))) = true := by simpa using z
        have hlen : x.length ≤ 40000 := by
          have := of_decide_eq_true (Bool.and_eq_true_iff.mp z').2
          omega
        have e1 : isFigs β m x = ((tl x).map fun c => decide (48 ≤ c ∧ c < 48 + β)).all id := by
          unfold isFigs
          have : (decide (1 ≤ x.length) && decide (x.length ≤ m)) = true := by
            rw [← z']
            congr 1 <;> exact decide_eq_decide.mpr (by omega)
          rw [this, Bool.true_and, List.all_map]
          rfl
        have q' := q
        dsimp only [figsO] at q'
        rw [e1] at q'
        refine s_ret (ev_allL (bs := (tl x).map fun c => decide (48 ≤ c ∧ c < 48 + β)) ?_) fun H2 e2 => q' H2 (e.trans e2)
        rw [List.map_map]
        refine el_lcS (v := fun c => V.bl (decide (48 ≤ c ∧ c < 48 + β))) (ev_var rfl) hlen (fun _ => rfl) (fun i c H2 e2 hc => ?_)
        refine ev_is (ev_op (ev_var rfl) (y := .str (cutS "0123456789" none (some (β : Int)))) (fun H3 e3 Q q => ⟨_, rfl, _, rfl, _, rfl, by decide, q H3 (Ex.refl _)⟩) (z := .bl (decide (c ∈ (cutS "0123456789" none (some (β : Int))).cps.toList))) (fun H3 e3 Q q => ⟨c, _, rfl, rfl, q H3 (Ex.refl _)⟩)) ?_
        rw [cut_figs b2 b10]
end
end Dg

/-! Things as data: what lies at the heap is that data; what a rule is, of data. -/
namespace Dt
open PySem L2 Evl Dg LamR LamX
open Dr (StAt SameB)
mutual
/-- the thing is that data, as the heap stands; texts are short -/
inductive Pt (H : Hp) : V → PyData → Prop
  | non : Pt H .non .none
  | bl (b : Bool) : Pt H (.bl b) (.bool b)
  | int (i : Int) : Pt H (.int i) (.int i)
  | str (x : Str) (h : x.length ≤ 3000) : Pt H (.str x) (.str x)
  | tup {a : Addr} {vs : List V} {ds : List PyData} : H a = some (.tup vs) → PtAll H vs ds → Pt H (.ref a) (.tuple ds)
  | lst {a : Addr} {vs : List V} {ds : List PyData} : H a = some (.lst vs) → PtAll H vs ds → Pt H (.ref a) (.list ds)
  | nil {a : Addr} : H a = some (.dK []) → Pt H (.ref a) (.dict [])
inductive PtAll (H : Hp) : List V → List PyData → Prop
  | nil : PtAll H [] []
  | cons {v : V} {d : PyData} {vs : List V} {ds : List PyData} : Pt H v d → PtAll H vs ds → PtAll H (v :: vs) (d :: ds)
end
mutual
theorem Pt.extN {H H' : Hp} (e : ExtN H H') : ∀ {v : V} {d : PyData}, Pt H v d → Pt H' v d
  | _, .none, h => by cases h; exact .non
  | _, .bool _, h => by cases h; exact .bl _
  | _, .int _, h => by cases h; exact .int _
  | _, .str _, h => by cases h with | str _ z => exact .str _ z
  | _, .tuple ds, h => by
    cases h with
    | tup hs ha => exact .tup (e _ _ hs (by simp)) (PtAll.extN e ha)
  | _, .list ds, h => by
    cases h with
    | lst hs ha => exact .lst (e _ _ hs (by simp)) (PtAll.extN e ha)
  | _, .dict _, h => by
    cases h with
    | nil hs => exact .nil (e _ _ hs (by simp))
theorem PtAll.extN {H H' : Hp} (e : ExtN H H') : ∀ {vs : List V} {ds : List PyData}, PtAll H vs ds → PtAll H' vs ds
  | _, [], h => by cases h; exact .nil
  | _, d :: ds, h => by
    cases h with
    | cons h1 h2 => exact .cons (Pt.extN e h1) (PtAll.extN e h2)
end
theorem Pt.ex {H H' : Hp} (e : Ex H H') {v : V} {d : PyData} (h : Pt H v d) : Pt H' v d := h.extN (ExtN.of e)
theorem PtAll.ex {H H' : Hp} (e : Ex H H') {vs : List V} {ds : List PyData} (h : PtAll H vs ds) : PtAll H' vs ds := h.extN (ExtN.of e)
def isI : PyData → Bool
  | .int _ => true
  | _ => false
mutual
/-- no list in it is a row of integers alone -/
def okD : PyData → Bool
  | .list ds => !(ds.all isI && !ds.isEmpty) && okDs ds
  | .tuple ds => okDs ds
  | _ => true
def okDs : List PyData → Bool
  | [] => true
  | d :: ds => okD d && okDs ds
end
theorem PtAll.ints {H : Hp} : ∀ {is : List Int} {ds : List PyData}, PtAll H (is.map V.int) ds → ds.all isI = true ∧ ds.length = is.length
  | [], ds, h => by
    cases h
    exact ⟨rfl, rfl⟩
  | i :: is, ds, h => by
    cases h with
    | cons h1 h2 =>
      obtain ⟨a, b⟩ := PtAll.ints h2
      cases h1
      exact ⟨by simp [isI, a], by simp [b]⟩
mutual
theorem Pt.same {H H' : Hp} {p c l : Addr} {n : Nat} {a : Int} (S : StAt H p c l n a) (e : SameB H H' p l) : ∀ {v : V} {d : PyData}, Pt H v d → okD d = true → Pt H' v d
  | _, .none, h, _ => by cases h; exact .non
  | _, .bool _, h, _ => by cases h; exact .bl _
  | _, .int _, h, _ => by cases h; exact .int _
  | _, .str _, h, _ => by cases h with | str _ z => exact .str _ z
  | _, .tuple ds, h, k => by
    cases h with
    | tup hs ha =>
      obtain ⟨ls, hl, _⟩ := S.l
      exact .tup (e _ _ hs (ne_of hs S.d (by intro z; cases z)) (ne_of hs hl (by intro z; cases z))) (PtAll.same S e ha (by rw [okD] at k; exact k))
  | _, .list ds, h, k => by
    cases h with
    | @lst a vs _ hs ha =>
      obtain ⟨ls, hl, hn⟩ := S.l
      rw [okD, Bool.and_eq_true] at k
      refine .lst (e _ _ hs (ne_of hs S.d (by intro z; cases z)) (fun z => ?_)) (PtAll.same S e ha k.2)
      rw [z, hl] at hs
      have hv : vs = ls.map V.int := by
        injection hs with hs
        injection hs with hs
        exact hs.symm
      rw [hv] at ha
      obtain ⟨q1, q2⟩ := PtAll.ints ha
      have n0 := S.n0
      have : ds.isEmpty = false := by
        cases ds with
        | nil =>
          rw [List.length_nil] at q2
          omega
        | cons _ _ => rfl
      rw [q1, this] at k
      exact absurd k.1 (by decide)
  | _, .dict _, h, _ => by
    cases h with
    | nil hs =>
      obtain ⟨ls, hl, _⟩ := S.l
      refine .nil (e _ _ hs (fun z => ?_) (ne_of hs hl (by intro z; cases z)))
      rw [z, S.d] at hs
      injection hs with hs
      injection hs with hs
      cases hs
theorem PtAll.same {H H' : Hp} {p c l : Addr} {n : Nat} {a : Int} (S : StAt H p c l n a) (e : SameB H H' p l) : ∀ {vs : List V} {ds : List PyData}, PtAll H vs ds → okDs ds = true → PtAll H' vs ds
  | _, [], h, _ => by cases h; exact .nil
  | _, d :: ds, h, k => by
    cases h with
    | cons h1 h2 =>
      rw [okDs, Bool.and_eq_true] at k
      exact .cons (Pt.same S e h1 k.1) (PtAll.same S e h2 k.2)
end
theorem PtAll.length {H : Hp} : ∀ {vs : List V} {ds : List PyData}, PtAll H vs ds → vs.length = ds.length
  | _, [], h => by cases h; rfl
  | _, d :: ds, h => by
    cases h with
    | cons h1 h2 => rw [List.length_cons, List.length_cons, PtAll.length h2]
theorem PtAll.get {H : Hp} : ∀ {vs : List V} {ds : List PyData}, PtAll H vs ds → ∀ {i : Nat} {d : PyData}, ds[i]? = some d → ∃ v, vs[i]? = some v ∧ Pt H v d
  | _, [], h, i, d, hd => by simp at hd
  | _, d :: ds, h, i, d', hd => by
    cases h with
    | cons h1 h2 =>
      cases i with
      | zero =>
        simp only [List.getElem?_cons_zero, Option.some.injEq] at hd
        subst hd
        exact ⟨_, rfl, h1⟩
      | succ i =>
        simp only [List.getElem?_cons_succ] at hd
        obtain ⟨v, hv, k⟩ := PtAll.get h2 hd
        exact ⟨v, by simpa using hv, k⟩
theorem PtAll.get2 {H : Hp} : ∀ {vs : List V} {ds : List PyData}, PtAll H vs ds → ∀ {i : Nat} {v : V}, vs[i]? = some v → ∃ d, ds[i]? = some d ∧ Pt H v d
  | _, [], h, i, v, hv => by
    cases h
    simp at hv
  | _, d :: ds, h, i, v', hv => by
    cases h with
    | cons h1 h2 =>
      cases i with
      | zero =>
        simp only [List.getElem?_cons_zero, Option.some.injEq] at hv
        subst hv
        exact ⟨_, rfl, h1⟩
      | succ i =>
        simp only [List.getElem?_cons_succ] at hv
        obtain ⟨d, hd, k⟩ := PtAll.get2 h2 hv
        exact ⟨d, by simpa using hd, k⟩
theorem PtAll.app {H : Hp} : ∀ {vs : List V} {ds : List PyData}, PtAll H vs ds → ∀ {ws : List V} {es : List PyData}, PtAll H ws es → PtAll H (vs ++ ws) (ds ++ es)
  | _, [], h, ws, es, k => by cases h; exact k
  | _, d :: ds, h, ws, es, k => by
    cases h with
    | cons h1 h2 => exact .cons h1 (PtAll.app h2 k)
theorem PtAll.take {H : Hp} : ∀ {vs : List V} {ds : List PyData}, PtAll H vs ds → ∀ n : Nat, PtAll H (vs.take n) (ds.take n)
  | _, [], h, n => by
    cases h
    rw [List.take_nil, List.take_nil]
    exact .nil
  | _, d :: ds, h, n => by
    cases h with
    | cons h1 h2 =>
      cases n with
      | zero => exact .nil
      | succ n =>
        rw [List.take_succ_cons, List.take_succ_cons]
        exact .cons h1 (PtAll.take h2 n)
/-- its type -/
def tyN : PyData → String
  | .none => "NoneType"
  | .bool _ => "bool"
  | .int _ => "int"
  | .str _ => "str"
  | .tuple _ => "tuple"
  | .list _ => "list"
  | .dict _ => "dict"
def isT : PyData → Bool
  | .tuple _ => true
  | _ => false
def isS : PyData → Bool
  | .str _ => true
  | _ => false
section
variable {K : PySem.W.Frag} {H : Hp} {v : V} {d : PyData}
theorem Pt.ty (h : Pt H v d) : TyX K H v (.type (tyN d)) := by
  cases h with
  | non => exact .base .non
  | bl b => exact .base (.bl b)
  | int i => exact .base (.int i)
  | str x _ => exact .base (.str x)
  | tup h _ => exact .base (.tup h)
  | lst h _ => exact .base (.lst h)
  | nil h => exact .base (.dK h)
theorem kit_tup (d : PyData) : kitB (tyN d) "tuple" = some (isT d) := by
  cases d <;> simp only [tyN, isT] <;> decide +kernel
theorem kit_str (d : PyData) : kitB (tyN d) "str" = some (isS d) := by
  cases d <;> simp only [tyN, isS] <;> decide +kernel
theorem Pt.kn (h : Pt H v d) : Kn K H v (isI d) := by
  have t : TyX K H v (.type (tyN d)) := h.ty
  cases h with
  | int i => exact .int i
  | non => exact .oth (x := false) (y := false) t (by show kitB "NoneType" "int" = _; decide +kernel) (by show kitB "NoneType" "bool" = _; decide +kernel) rfl
  | bl b => exact .oth (x := true) (y := true) t (by show kitB "bool" "int" = _; decide +kernel) (by show kitB "bool" "bool" = _; decide +kernel) rfl
  | str x _ => exact .oth (x := false) (y := false) t (by show kitB "str" "int" = _; decide +kernel) (by show kitB "str" "bool" = _; decide +kernel) rfl
  | tup h _ => exact .oth (x := false) (y := false) t (by show kitB "tuple" "int" = _; decide +kernel) (by show kitB "tuple" "bool" = _; decide +kernel) rfl
  | lst h _ => exact .oth (x := false) (y := false) t (by show kitB "list" "int" = _; decide +kernel) (by show kitB "list" "bool" = _; decide +kernel) rfl
  | nil h => exact .oth (x := false) (y := false) t (by show kitB "dict" "int" = _; decide +kernel) (by show kitB "dict" "bool" = _; decide +kernel) rfl
def txtD : PyData → Option Str
  | .str x => some x
  | _ => none
theorem Pt.tx (h : Pt H v d) : Tx K H v (txtD d) ∧ ∀ x, txtD d = some x → x.length ≤ sizeLine := by
  have t : TyX K H v (.type (tyN d)) := h.ty
  have k := kit_str d
  cases h with
  | str x z => exact ⟨.str x, fun y e => by
      cases e
      exact Nat.le_trans z (by rw [sizeLine_eq]; decide)⟩
  | non => exact ⟨.oth t k, fun y e => by cases e⟩
  | bl b => exact ⟨.oth t k, fun y e => by cases e⟩
  | int i => exact ⟨.oth t k, fun y e => by cases e⟩
  | tup h _ => exact ⟨.oth t k, fun y e => by cases e⟩
  | lst h _ => exact ⟨.oth t k, fun y e => by cases e⟩
  | nil h => exact ⟨.oth t k, fun y e => by cases e⟩
theorem ev_isiT {σ : St} {te : TE} (h : Ev te σ H v) (k : Pt H v d) : Ev (tCB (rIsi K) (tCons te (tCons (tC (.ty "tuple")) tNil))) σ H (.bl (isT d)) := ev_isi h k.ty (kit_tup d)
theorem ev_isiS {σ : St} {te : TE} (h : Ev te σ H v) (k : Pt H v d) : Ev (tCB (rIsi K) (tCons te (tCons (tC (.ty "str")) tNil))) σ H (.bl (isS d)) := ev_isi h k.ty (kit_str d)
end
/-- an integer from a least one to 6 -/
def sizeB (l : Int) : PyData → Bool
  | .int i => decide (l ≤ i) && decide (i ≤ 6)
  | _ => false
def intD : PyData → Int
  | .int i => i
  | _ => 0
def isN : PyData → Bool
  | .none => true
  | _ => false
def boundsB (a b : PyData) : Bool := sizeB 1 a && (isN b || sizeB (intD a) b)
def tupD : PyData → List PyData
  | .tuple ds => ds
  | _ => []
def eqS (w : Str) : PyData → Bool
  | .str x => decide (x = w)
  | _ => false
def begB (d : PyData) (w : Str) (n : Nat) : Bool := isT d && (decide ((tupD d).length = n) && eqS w ((tupD d).headD .none))
def at_ (i : Nat) (d : PyData) : PyData := (tupD d).getD i .none
def condB (β : Nat) (d : PyData) : Bool :=
  if begB d "ends" 2 = true then figsO β 2 (txtD (at_ 1 d)) else if begB d "near" 2 = true then sizeB 0 (at_ 1 d) else if (begB d "length" 3 || begB d "changed" 3) = true then boundsB (at_ 1 d) (at_ 2 d) else false
def keepB (d : PyData) : Bool := if (begB d "changed" 2 || begB d "last" 2) = true then sizeB 1 (at_ 1 d) else begB d "all" 1
def ruleB (β : Nat) (d : PyData) : Bool := isT d && (decide ((tupD d).length = 2) && (isT (at_ 0 d) && (decide ((tupD (at_ 0 d)).length ≤ 3) && ((tupD (at_ 0 d)).all (condB β) && keepB (at_ 1 d)))))
end Dt

/-! What the program's defs tell of data. -/
namespace Evl
open PySem L2
/-- a comprehension over a tuple -/
theorem el_lcT {K : PySem.W.Frag} {σ : St} {H : Hp} {t : TT} {te : TE} {a : Addr} {xs : List V} {tl : TE} {j : Nat} {vs : List Nat} (f : Nat → Bool) (v : Nat → V) (h : Ev tl σ H (.ref a)) (hx : SqT K H a xs) (hz : xs.length ≤ 40000) (hw : ∀ x, wipe ((wipe σ vs).set j (some x)) vs = wipe σ vs)
    (ht : ∀ (i : Nat) (x : V) H1, Ex H H1 → xs[i]? = some x → EvT t ((wipe σ vs).set j (some x)) H1 (f i)) (he : ∀ (i : Nat) (x : V) H1, Ex H H1 → xs[i]? = some x → f i = true → Ev te ((wipe σ vs).set j (some x)) H1 (v i)) :
    EvL (tLc (iTup K tl) (gName j) t te vs) σ H (given xs.length f v) := fun H0 e Q q => h H0 e _ fun H1 e1 => ⟨a, rfl, ⟨xs, ex_t (e.trans e1) hx⟩, fun Dl hD =>
  lc_tup (xs := xs) (Cw H1 f v Dl) ⟨hD, Ex.new hD, upd_same⟩ (fun i H' _ p => ex_t ((e.trans e1).trans p.2.1) hx) (fun i x H' hi p => ⟨hw x, cw_turn p (by have := (List.getElem?_eq_some_iff.mp hi).1; omega) (ht i x H1 (e.trans e1) hi) (fun hf => he i x H1 (e.trans e1) hi hf)⟩)
    (fun H' p => q Dl H' (fresh_back e1 p.1) (e1.trans p.2.1) p.2.2)⟩
theorem given_all {α : Type} (xs : List α) (g : α → V) (z : V) : given xs.length (fun _ => true) (fun i => match xs[i]? with | some x => g x | none => z) = xs.map g := by
  unfold given
  have e : (List.range xs.length).filter (fun _ => true) = List.range xs.length := List.filter_eq_self.mpr fun _ _ => rfl
  rw [e]
  apply List.ext_getElem?
  intro i
  rw [List.getElem?_map, List.getElem?_map]
  by_cases h : i < xs.length
  · have h1 : (List.range xs.length)[i]? = some i := by
      rw [List.getElem?_range h]
    rw [h1]
    simp [List.getElem?_eq_getElem h]
  · have h1 : (List.range xs.length)[i]? = none := List.getElem?_eq_none_iff.mpr (by rw [List.length_range]; omega)
    have h2 : xs[i]? = none := List.getElem?_eq_none_iff.mpr (by omega)
    rw [h1, h2]
    rfl
end Evl
namespace Dt
open PySem L2 Evl Dg LamR LamX
open Dr (StAt SameB)
abbrev sSize : Stmt := top 27
abbrev sBounds : Stmt := top 28
abbrev sBegins : Stmt := top 29
abbrev sCond : Stmt := top 30
abbrev sKeep : Stmt := top 31
abbrev sRule : Stmt := top 32
section
variable {K : PySem.W.Frag} {H : Hp} {v : V} {d : PyData}
theorem Pt.isN (h : Pt H v d) : decide (v = V.non) = Dt.isN d := by
  cases h <;> first | rfl | exact decide_eq_false (fun z => by cases z)
theorem sizeB_int {l : Int} (h : sizeB l d = true) (k : Pt H v d) : v = .int (intD d) := by
  cases k <;> first | rfl | cases h
/-- where it begins so, each of its places is there -/
theorem Pt.beg {w : Str} {n : Nat} (k : Pt H v d) (h : begB d w n = true) : ∃ a vs, v = .ref a ∧ H a = some (.tup vs) ∧ vs.length = n ∧ ∀ i, i < n → ∃ u, vs[i]? = some u ∧ Pt H u (at_ i d) := by
  unfold begB at h
  rw [Bool.and_eq_true, Bool.and_eq_true] at h
  obtain ⟨h1, h2, _⟩ := h
  cases k with
  | @tup a vs ds hs ha =>
    have hl : ds.length = n := of_decide_eq_true h2
    refine ⟨a, vs, rfl, hs, by rw [ha.length, hl], fun i hi => ?_⟩
    have hd : ds[i]? = some (at_ i (.tuple ds)) := by
      unfold at_ tupD
      rw [List.getD_eq_getElem?_getD, List.getElem?_eq_getElem (by omega)]
      rfl
    exact ha.get hd
  | _ => cases h1
end
section
variable {P : Program} {w : World} {K : PySem.W.Frag} {mg : Str → Option Value} {base : Heap} {ca : Nat → Addr}
def spSize : Sp := fun vs H Q _ => ∃ v d l, vs = [v, .int l] ∧ Pt H v d ∧ RetV (.bl (sizeB l d)) H Q
theorem scSize : FnScope ["value", "least"] ["value", "least"] (defScope sSize) := ⟨rfl, rfl, rfl, by decide +kernel, rfl, by decide +kernel, by decide +kernel⟩
theorem ok_size {f fi : Addr} {fd fdi : FuncData} (F : Fun K "is_size" "is_size" sSize f fd) (GI : FnOk P w K mg base CX0 1 fi fdi ["value"] (spIsInt K)) (bI : Binds K fdi ["value"] []) (T : TxI K mg fi) (hM : ∃ t, mg "MOST_SIZE" = some (.int 6 t)) :
    FnOk P w K mg base CX0 2 f fd ["value", "least"] spSize := by
  refine F.ok scSize (fun vs H Q E h => ?_) (fun cdv A outer s H vs Q E hr h => ?_)
  · obtain ⟨v, d, l, rfl, _⟩ := h
    rfl
  · obtain ⟨v, d, l, rfl, k, q⟩ := h
    obtain ⟨t, hm⟩ := hM
    refine ⟨_, pss_one (ps_ret (pe_and (pe_call GI hr (by rfl) T.isInt T.kInt bI .nil pass0 (pa_cons (pv 0) pa_nil)) (pe_one (pe_chain op_le op_le (pv 1) (pv 0) (pe_glob (by rfl) hm (v := .int 6) ⟨_, rfl⟩))))), ?_⟩
    have kn := k.kn (K := K)
    cases hd : isI d with
    | true =>
      cases k with
      | int i => exact s_ret (ev_is (ev_andV (ev_callI (ev_var rfl) (.int i)) (fun _ => ev_chI (ev_var rfl) (ev_var rfl) ev_c)) (by simp [sizeB])) fun H1 e => q H1 e
      | _ => cases hd
    | false =>
      have e : sizeB l d = false := by cases d <;> first | rfl | cases hd
      rw [e] at q
      rw [hd] at kn
      exact s_ret (ev_is (ev_andV (b := false) (ev_callI (ev_var rfl) kn) (fun z => nomatch z)) (by simp)) fun H1 e => q H1 e
theorem ev_size {σ : St} {H : Hp} {ta tb : TE} {v : V} {d : PyData} {l : Int} (ha : Ev ta σ H v) (hb : Ev tb σ H (.int l)) (k : Pt H v d) : Ev (tCall spSize [] E0 (tCons ta (tCons tb tNil))) σ H (.bl (sizeB l d)) :=
  ev_call (ea_cons ha (ea_cons hb ea_nil)) fun H1 e Q q E => ⟨v, d, l, rfl, k.ex e, fun H2 e2 => q H2 e2⟩
structure TxR (K : PySem.W.Frag) (mg : Str → Option Value) (fi fb ff fs fbd fbg fc fk : Addr) : Prop extends TxI K mg fi where
  needB : mg "need_base" = some (.ref fb)
  kNB : PySem.W.keepIn K (.ref fb) = true
  isFig : mg "is_figures" = some (.ref ff)
  kFig : PySem.W.keepIn K (.ref ff) = true
  size : mg "is_size" = some (.ref fs)
  kSz : PySem.W.keepIn K (.ref fs) = true
  bounds : mg "are_bounds" = some (.ref fbd)
  kBd : PySem.W.keepIn K (.ref fbd) = true
  begins : mg "begins" = some (.ref fbg)
  kBg : PySem.W.keepIn K (.ref fbg) = true
  cond : mg "is_condition" = some (.ref fc)
  kCd : PySem.W.keepIn K (.ref fc) = true
  keep : mg "is_keep" = some (.ref fk)
  kKp : PySem.W.keepIn K (.ref fk) = true
  tuple : mg "tuple" = none
  all : mg "all" = none
  msize : ∃ t, mg "MOST_SIZE" = some (.int 6 t)
  mconds : ∃ t, mg "MOST_CONDITIONS" = some (.int 3 t)
  mend : ∃ t, mg "MOST_ENDING" = some (.int 2 t)
variable {fi fb ff fs fbd fbg fc fk : Addr}
def spBounds : Sp := fun vs H Q _ => ∃ va vb a b, vs = [va, vb] ∧ Pt H va a ∧ Pt H vb b ∧ RetV (.bl (boundsB a b)) H Q
theorem scBounds : FnScope ["least", "most"] ["least", "most"] (defScope sBounds) := ⟨rfl, rfl, rfl, by decide +kernel, rfl, by decide +kernel, by decide +kernel⟩
theorem ok_bounds {f : Addr} {fd fds : FuncData} (F : Fun K "are_bounds" "are_bounds" sBounds f fd) (GS : FnOk P w K mg base CX0 2 fs fds ["value", "least"] spSize) (bS : Binds K fds ["value", "least"] []) (T : TxR K mg fi fb ff fs fbd fbg fc fk) :
    FnOk P w K mg base CX0 3 f fd ["least", "most"] spBounds := by
  refine F.ok scBounds (fun vs H Q E h => ?_) (fun cdv A outer s H vs Q E hr h => ?_)
  · obtain ⟨va, vb, a, b, rfl, _⟩ := h
    rfl
  · obtain ⟨va, vb, a, b, rfl, ka, kb, q⟩ := h
    refine ⟨_, pss_one (ps_ret (pe_and (pe_call GS hr (by rfl) T.size T.kSz bS .nil pass0 (pa_cons (pv 0) (pa_cons pe_int pa_nil)))
      (pe_one (pe_or (pe_cmpR op_isN (pv 1) pe_non (nomark _)) (pe_one (pe_call GS hr (by rfl) T.size T.kSz bS .nil pass0 (pa_cons (pv 1) (pa_cons (pv 0) pa_nil)))))))), ?_⟩
    refine s_ret (ev_andV (ev_size (ev_var rfl) ev_c ka) fun z => ev_orV (a := Dt.isN b) (ev_op (y := .non) (ev_var rfl) ev_c fun H1 e Q k => ⟨rfl, by rw [kb.isN]; exact k _ (Ex.refl _)⟩) fun _ => ?_) fun H1 e => q H1 e
    have hi := sizeB_int z ka
    subst hi
    exact ev_size (ev_var rfl) (ev_var rfl) kb
theorem ev_bounds {σ : St} {H : Hp} {ta tb : TE} {va vb : V} {a b : PyData} (ha : Ev ta σ H va) (hb : Ev tb σ H vb) (ka : Pt H va a) (kb : Pt H vb b) : Ev (tCall spBounds [] E0 (tCons ta (tCons tb tNil))) σ H (.bl (boundsB a b)) :=
  ev_call (ea_cons ha (ea_cons hb ea_nil)) fun H1 e Q q E => ⟨va, vb, a, b, rfl, ka.ex e, kb.ex e, fun H2 e2 => q H2 e2⟩
def spBegins : Sp := fun vs H Q _ => ∃ v d w n, vs = [v, .str w, .int ((n : Nat) : Int)] ∧ 1 ≤ n ∧ Pt H v d ∧ RetV (.bl (begB d w n)) H Q
theorem scBegins : FnScope ["value", "word", "many"] ["value", "word", "many"] (defScope sBegins) := ⟨rfl, rfl, rfl, by decide +kernel, rfl, by decide +kernel, by decide +kernel⟩
theorem ev_lenT {σ : St} {H : Hp} {te : TE} {a : Addr} {vs : List V} (h : Ev te σ H (.ref a)) (ht : H a = some (.tup vs)) : Ev (tCB (rLenS K) (tCons te tNil)) σ H (.int (vs.length : Int)) :=
  ev_cb (ea_cons h ea_nil) fun H1 e Q q => ⟨a, vs, rfl, .inr (st_of (e _ _ ht)), q _ (Ex.refl _)⟩
theorem ev_at {σ : St} {H : Hp} {te : TE} {a : Addr} {vs : List V} {i : Nat} {u : V} (h : Ev te σ H (.ref a)) (ht : H a = some (.tup vs)) (hu : vs[i]? = some u) : Ev (tOp (rIxT K) te (tC (.int (i : Int)))) σ H u :=
  ev_op h ev_c (rv_ixT (st_of ht) (atI_nat hu))
theorem ok_begins {f : Addr} {fd : FuncData} (F : Fun K "begins" "begins" sBegins f fd) (T : TxR K mg fi fb ff fs fbd fbg fc fk) : FnOk P w K mg base CX0 1 f fd ["value", "word", "many"] spBegins := by
  refine F.ok scBegins (fun vs H Q E h => ?_) (fun cdv A outer s H vs Q E hr h => ?_)
  · obtain ⟨v, d, w, n, rfl, _⟩ := h
    rfl
  · obtain ⟨v, d, x, n, rfl, n1, k, q⟩ := h
    refine ⟨_, pss_cons (ps_if (PW.pt (pw_or (pt_not (pt_val (pe_callB call_isi (by rfl) T.isi (by decide +kernel) (pa_cons (pv 0) (pa_cons (pe_bltn (by rfl) T.tuple (by decide +kernel) (v := .ty "tuple") rfl) pa_nil)))))
        (pw_or1 (pt_cmpR op_ne (pe_callB call_len_seq (by rfl) T.len (by decide +kernel) (pa_cons (pv 0) pa_nil)) (pv 2) (nomark _))))) (pss_one (ps_ret pe_bl)) pss_nil)
      (pss_one (ps_ret (pe_and (pe_callB call_isi (by rfl) T.isi (by decide +kernel) (pa_cons (pe_ix ix_tup (pv 0) pe_int (fun _ _ => rfl)) (pa_cons (pe_bltn (by rfl) T.str (by decide +kernel) (v := .ty "str") rfl) pa_nil)))
        (pe_one (pe_cmpR op_eq (pe_ix ix_tup (pv 0) pe_int (fun _ _ => rfl)) (pv 1) (nomark _)))))), ?_⟩
    cases hT : isT d with
    | false =>
      have e0 : begB d x n = false := by unfold begB; rw [hT]; rfl
      rw [e0] at q
      exact q_when (b := true) (et_is (et_or (b := true) (et_not (et_B (ev_is (w := .bl false) (ev_isiT (ev_var rfl) k) (by rw [hT])))) fun z => nomatch z) (by simp)) (fun z H1 e => q H1 e) (fun z => nomatch z)
    | true =>
      cases k with
      | @tup a us ds hs ha =>
        have hl := ha.length
        refine q_when (b := !decide (ds.length = n)) (et_is (et_or (et_not (et_B (ev_isiT (d := .tuple ds) (ev_var rfl) (.tup hs ha)))) fun _ => et_test (ev_op (ev_lenT (ev_var rfl) hs) (ev_var rfl) (rv_ne rfl))) (by
          simp only [isT, Bool.not_true, Bool.false_or]
          congr 1
          refine decide_eq_decide.mpr ⟨fun z => ?_, fun z => ?_⟩
          · injection z with z
            omega
          · rw [show (us.length : Int) = (n : Int) by omega])) (fun z H1 e => ?_) (fun z H1 e => ?_)
        · have e0 : begB (.tuple ds) x n = false := by
            unfold begB tupD
            rw [Bool.not_eq_true'] at z
            rw [z]
            simp
          rw [e0] at q
          exact q H1 e
        · have z' : ds.length = n := by simpa using z
          cases ds with
          | nil =>
            rw [List.length_nil] at z'
            omega
          | cons d0 ds =>
            cases ha with
            | @cons u0 _ us _ k0 kr =>
              have hs1 := e _ _ hs
              have k1 := k0.ex e
              have e0 : begB (.tuple (d0 :: ds)) x n = (isS d0 && eqS x d0) := by
                unfold begB
                show (isT _ && (decide ((d0 :: ds).length = n) && eqS x d0)) = _
                rw [decide_eq_true z']
                cases d0 <;> simp [isT, isS, eqS]
              rw [e0] at q
              cases hS : isS d0 with
              | false =>
                rw [hS] at q
                exact s_ret (ev_is (ev_andV (b := false) (ev_is (w := .bl false) (ev_isiS (ev_at (i := 0) (ev_var rfl) hs1 rfl) k1) (by rw [hS])) (fun z => nomatch z)) (by simp)) fun H2 e2 => q H2 (e.trans e2)
              | true =>
                cases k0 with
                | str y hy =>
                  refine s_ret (ev_andV (ev_isiS (d := .str y) (ev_at (i := 0) (ev_var rfl) hs1 rfl) k1) (fun _ => ev_is (ev_op (ev_at (i := 0) (ev_var rfl) hs1 rfl) (ev_var rfl) (rv_eq rfl)) (w := .bl (decide (y = x))) ?_)) fun H2 e2 => q H2 (e.trans e2)
                  congr 1
                  refine decide_eq_decide.mpr ⟨fun z => ?_, fun z => ?_⟩
                  · injection z
                  · rw [z]
                | _ => cases hS
      | _ => cases hT
theorem ev_beg {σ : St} {H : Hp} {te : TE} {v : V} {d : PyData} {x : Str} {n : Nat} (h : Ev te σ H v) (k : Pt H v d) (n1 : 1 ≤ n) : Ev (tCall spBegins [] E0 (tCons te (tCons (tC (.str x)) (tCons (tC (.int (n : Int))) tNil)))) σ H (.bl (begB d x n)) :=
  ev_call (ea_cons h (ea_cons ev_c (ea_cons ev_c ea_nil))) fun H1 e Q q E => ⟨v, d, x, n, rfl, n1, k.ex e, fun H2 e2 => q H2 e2⟩
def spCond : Sp := fun vs H Q _ => ∃ (β : Nat) (v : V) (d : PyData), vs = [.int β, v] ∧ 2 ≤ β ∧ β ≤ 10 ∧ Pt H v d ∧ RetV (.bl (condB β d)) H Q
theorem scCond : FnScope ["base", "value"] ["base", "value"] (defScope sCond) := ⟨rfl, rfl, rfl, by decide +kernel, rfl, by decide +kernel, by decide +kernel⟩
theorem ok_cond {f : Addr} {fd fdf fds fdb fdg : FuncData} (F : Fun K "is_condition" "is_condition" sCond f fd) (GF : FnOk P w K mg base CX0 3 ff fdf ["base", "value", "most"] (spIsFig K)) (bF : Binds K fdf ["base", "value", "most"] [])
    (GS : FnOk P w K mg base CX0 3 fs fds ["value", "least"] spSize) (bS : Binds K fds ["value", "least"] []) (GB : FnOk P w K mg base CX0 3 fbd fdb ["least", "most"] spBounds) (bB : Binds K fdb ["least", "most"] [])
    (GG : FnOk P w K mg base CX0 3 fbg fdg ["value", "word", "many"] spBegins) (bG : Binds K fdg ["value", "word", "many"] []) (T : TxR K mg fi fb ff fs fbd fbg fc fk) :
    FnOk P w K mg base CX0 4 f fd ["base", "value"] spCond := by
  refine F.ok scCond (fun vs H Q E h => ?_) (fun cdv A outer s H vs Q E hr h => ?_)
  · obtain ⟨β, v, d, rfl, _⟩ := h
    rfl
  · obtain ⟨β, v, d, rfl, b2, b10, k, q⟩ := h
    obtain ⟨t, hm⟩ := T.mend
    refine ⟨_, pss_cons (ps_if (pt_val (pe_call GG hr (by rfl) T.begins T.kBg bG .nil pass0 (pa_cons (pv 1) (pa_cons pe_str (pa_cons pe_int pa_nil)))))
        (pss_one (ps_ret (pe_call GF hr (by rfl) T.isFig T.kFig bF .nil pass0 (pa_cons (pv 0) (pa_cons (pe_ix ix_tup (pv 1) pe_int (fun _ _ => rfl)) (pa_cons (pe_glob (by rfl) hm (v := .int 2) ⟨_, rfl⟩) pa_nil)))))) pss_nil)
      (pss_cons (ps_if (pt_val (pe_call GG hr (by rfl) T.begins T.kBg bG .nil pass0 (pa_cons (pv 1) (pa_cons pe_str (pa_cons pe_int pa_nil)))))
        (pss_one (ps_ret (pe_call GS hr (by rfl) T.size T.kSz bS .nil pass0 (pa_cons (pe_ix ix_tup (pv 1) pe_int (fun _ _ => rfl)) (pa_cons pe_int pa_nil))))) pss_nil)
      (pss_cons (ps_if (PW.pt (pw_or (pt_val (pe_call GG hr (by rfl) T.begins T.kBg bG .nil pass0 (pa_cons (pv 1) (pa_cons pe_str (pa_cons pe_int pa_nil))))) (pw_or1 (pt_val (pe_call GG hr (by rfl) T.begins T.kBg bG .nil pass0 (pa_cons (pv 1) (pa_cons pe_str (pa_cons pe_int pa_nil))))))))
        (pss_one (ps_ret (pe_call GB hr (by rfl) T.bounds T.kBd bB .nil pass0 (pa_cons (pe_ix ix_tup (pv 1) pe_int (fun _ _ => rfl)) (pa_cons (pe_ix ix_tup (pv 1) pe_int (fun _ _ => rfl)) pa_nil))))) pss_nil)
      (pss_one (ps_ret pe_bl)))), ?_⟩
    refine q_when (b := begB d "ends" 2) (et_B (ev_beg (n := 2) (ev_var rfl) k (by decide))) (fun z H1 e => ?_) (fun z H1 e => ?_)
    · have e0 : condB β d = figsO β 2 (txtD (at_ 1 d)) := by unfold condB; rw [if_pos z]
      rw [e0] at q
      obtain ⟨a, us, rfl, hs, _, hi⟩ := k.beg z
      obtain ⟨u, hu, ku⟩ := hi 1 (by decide)
      have k1 := (ku.ex e).tx (K := K)
      exact s_ret (ev_call (ea_cons (ev_var rfl) (ea_cons (ev_at (i := 1) (ev_var rfl) (e _ _ hs) hu) (ea_cons ev_c ea_nil))) fun H2 e2 Q2 q2 E2 => ⟨β, 2, u, _, rfl, b2, b10, by decide, k1.1.ex e2, k1.2, fun H3 e3 => q2 H3 e3⟩) fun H2 e2 => q H2 (e.trans e2)
    · have k1 := k.ex e
      refine q_when (b := begB d "near" 2) (et_B (ev_beg (n := 2) (ev_var rfl) k1 (by decide))) (fun z2 H2 e2 => ?_) (fun z2 H2 e2 => ?_)
      · have e0 : condB β d = sizeB 0 (at_ 1 d) := by unfold condB; rw [if_neg (by rw [z]; decide), if_pos z2]
        rw [e0] at q
        obtain ⟨a, us, rfl, hs, _, hi⟩ := (k1.ex e2).beg z2
        obtain ⟨u, hu, ku⟩ := hi 1 (by decide)
        exact s_ret (ev_size (ev_at (i := 1) (ev_var rfl) hs hu) ev_c ku) fun H3 e3 => q H3 ((e.trans e2).trans e3)
      · have k2 := k1.ex e2
        refine q_when (b := (begB d "length" 3 || begB d "changed" 3)) (et_or (et_B (ev_beg (n := 3) (ev_var rfl) k2 (by decide))) fun _ => et_B (ev_beg (n := 3) (ev_var rfl) k2 (by decide))) (fun z3 H3 e3 => ?_) (fun z3 H3 e3 => ?_)
        · have e0 : condB β d = boundsB (at_ 1 d) (at_ 2 d) := by unfold condB; rw [if_neg (by rw [z]; decide), if_neg (by rw [z2]; decide), if_pos z3]
          rw [e0] at q
          have key : ∃ a us, v = .ref a ∧ H3 a = some (.tup us) ∧ us.length = 3 ∧ ∀ i, i < 3 → ∃ u, us[i]? = some u ∧ Pt H3 u (at_ i d) := by
            rcases Bool.or_eq_true_iff.mp z3 with y | y
            · exact (k2.ex e3).beg y
            · exact (k2.ex e3).beg y
          obtain ⟨a, us, rfl, hs, _, hi⟩ := key
          obtain ⟨u, hu, ku⟩ := hi 1 (by decide)
          obtain ⟨u2, hu2, ku2⟩ := hi 2 (by decide)
          exact s_ret (ev_bounds (ev_at (i := 1) (ev_var rfl) hs hu) (ev_at (i := 2) (ev_var rfl) hs hu2) ku ku2) fun H4 e4 => q H4 (((e.trans e2).trans e3).trans e4)
        · have e0 : condB β d = false := by unfold condB; rw [if_neg (by rw [z]; decide), if_neg (by rw [z2]; decide), if_neg (by rw [z3]; decide)]
          rw [e0] at q
          exact s_ret ev_c fun H4 e4 => q H4 (((e.trans e2).trans e3).trans e4)
def spKeep : Sp := fun vs H Q _ => ∃ v d, vs = [v] ∧ Pt H v d ∧ RetV (.bl (keepB d)) H Q
theorem scKeep : FnScope ["value"] ["value"] (defScope sKeep) := ⟨rfl, rfl, rfl, by decide +kernel, rfl, by decide +kernel, by decide +kernel⟩
theorem ok_keep {f : Addr} {fd fds fdg : FuncData} (F : Fun K "is_keep" "is_keep" sKeep f fd) 
    (GS : FnOk P w K mg base CX0 2 fs fds ["value", "least"] spSize) (bS : Binds K fds ["value", "least"] [])
    (GG : FnOk P w K mg base CX0 2 fbg fdg ["value", "word", "many"] spBegins) (bG : Binds K fdg ["value", "word", "many"] []) (T : TxR K mg fi fb ff fs fbd fbg fc fk) :
    FnOk P w K mg base CX0 3 f fd ["value"] spKeep := by
  refine F.ok scKeep (fun vs H Q E h => ?_) (fun cdv A outer s H vs Q E hr h => ?_)
  · obtain ⟨v, d, rfl, _⟩ := h
    rfl
  · obtain ⟨v, d, rfl, k, q⟩ := h
    refine ⟨_, pss_cons (ps_if (PW.pt (pw_or (pt_val (pe_call GG hr (by rfl) T.begins T.kBg bG .nil pass0 (pa_cons (pv 0) (pa_cons pe_str (pa_cons pe_int pa_nil))))) (pw_or1 (pt_val (pe_call GG hr (by rfl) T.begins T.kBg bG .nil pass0 (pa_cons (pv 0) (pa_cons pe_str (pa_cons pe_int pa_nil))))))))
        (pss_one (ps_ret (pe_call GS hr (by rfl) T.size T.kSz bS .nil pass0 (pa_cons (pe_ix ix_tup (pv 0) pe_int (fun _ _ => rfl)) (pa_cons pe_int pa_nil))))) pss_nil)
      (pss_one (ps_ret (pe_call GG hr (by rfl) T.begins T.kBg bG .nil pass0 (pa_cons (pv 0) (pa_cons pe_str (pa_cons pe_int pa_nil)))))), ?_⟩
    refine q_when (b := (begB d "changed" 2 || begB d "last" 2)) (et_or (et_B (ev_beg (n := 2) (ev_var rfl) k (by decide))) fun _ => et_B (ev_beg (n := 2) (ev_var rfl) k (by decide))) (fun z H1 e => ?_) (fun z H1 e => ?_)
    · have e0 : keepB d = sizeB 1 (at_ 1 d) := by unfold keepB; rw [if_pos z]
      rw [e0] at q
      have key : ∃ a us, v = .ref a ∧ H1 a = some (.tup us) ∧ us.length = 2 ∧ ∀ i, i < 2 → ∃ u, us[i]? = some u ∧ Pt H1 u (at_ i d) := by
        rcases Bool.or_eq_true_iff.mp z with y | y
        · exact (k.ex e).beg y
        · exact (k.ex e).beg y
      obtain ⟨a, us, rfl, hs, _, hi⟩ := key
      obtain ⟨u, hu, ku⟩ := hi 1 (by decide)
      exact s_ret (ev_size (ev_at (i := 1) (ev_var rfl) hs hu) ev_c ku) fun H3 e3 => q H3 (e.trans e3)
    · have e0 : keepB d = begB d "all" 1 := by unfold keepB; rw [if_neg (by rw [z]; decide)]
      rw [e0] at q
      exact s_ret (ev_beg (n := 1) (ev_var rfl) (k.ex e) (by decide)) fun H3 e3 => q H3 (e.trans e3)
def spRule (K : PySem.W.Frag) (ca : Nat → Addr) : Sp := fun vs H Q E => ∃ vb v d b, vs = [vb, v] ∧ Bs K H vb b ∧ Pt H v d ∧ (b = false → Leaves (ca 1) "value" vb H E) ∧ (b = true → ∃ β : Nat, vb = .int β ∧ 2 ≤ β ∧ β ≤ 10 ∧ RetV (.bl (ruleB β d)) H Q)
theorem scRule : FnScope ["base", "value", "conditions", "keep", "condition"] ["base", "value"] (defScope sRule) := ⟨rfl, rfl, rfl, by decide +kernel, rfl, by decide +kernel, by decide +kernel⟩
theorem ok_rule {f : Addr} {fd fdn fdc fdk : FuncData} (F : Fun K "is_rule" "is_rule" sRule f fd) (GN : FnOk P w K mg base (L2.CX P w) 4 fb fdn ["base"] (spNeed (Bs K) (ca 1))) (bN : Binds K fdn ["base"] [])
    (GC : FnOk P w K mg base CX0 4 fc fdc ["base", "value"] spCond) (bC : Binds K fdc ["base", "value"] []) (GK : FnOk P w K mg base CX0 4 fk fdk ["value"] spKeep) (bK : Binds K fdk ["value"] []) (T : TxR K mg fi fb ff fs fbd fbg fc fk) :
    FnOk P w K mg base (L2.CX P w) 5 f fd ["base", "value"] (spRule K ca) := by
  refine F.okX scRule (fun vs H Q E h => ?_) (fun cdv A outer s H vs Q E hr h => ?_)
  · obtain ⟨vb, v, d, b, rfl, _⟩ := h
    rfl
  · obtain ⟨vb, v, d, b, rfl, kb, k, l1, hq⟩ := h
    obtain ⟨t, hm⟩ := T.mconds
    refine ⟨_, pss_cons (ps_expr (pe_callS GN hr (by rfl) T.needB T.kNB bN (fun σ => passAt (takes_of rfl rfl rfl rfl) σ) (pa_cons (pv 0) pa_nil)))
      (pss_cons (ps_if (PW.pt (pw_or (pt_not (pt_val (pe_callB call_isi (by rfl) T.isi (by decide +kernel) (pa_cons (pv 1) (pa_cons (pe_bltn (by rfl) T.tuple (by decide +kernel) (v := .ty "tuple") rfl) pa_nil)))))
        (pw_or1 (pt_cmpR op_ne (pe_callB call_len_seq (by rfl) T.len (by decide +kernel) (pa_cons (pv 1) pa_nil)) pe_int (nomark _))))) (pss_one (ps_ret pe_bl)) pss_nil)
      (pss_cons (ps_asg (pv 1) (pg_tup (by rfl) (pgs_cons (pg_name (i := 2) scRule.nd rfl (.inl rfl)) (pgs_cons (pg_name (i := 3) scRule.nd rfl (.inl rfl)) pgs_nil))))
      (pss_cons (ps_if (PW.pt (pw_or (pt_not (pt_val (pe_callB call_isi (by rfl) T.isi (by decide +kernel) (pa_cons (pv 2) (pa_cons (pe_bltn (by rfl) T.tuple (by decide +kernel) (v := .ty "tuple") rfl) pa_nil)))))
        (pw_or1 (pt_cmpR op_gt (pe_callB call_len_seq (by rfl) T.len (by decide +kernel) (pa_cons (pv 2) pa_nil)) (pe_glob (by rfl) hm (v := .int 3) ⟨_, rfl⟩) (nomark _))))) (pss_one (ps_ret pe_bl)) pss_nil)
      (pss_one (ps_ret (pe_and (pe_callB (cr_all rfl) (by rfl) T.all (by decide +kernel) (pa_cons (pe_lc (own := [("condition", 4)]) (g := gName 4) (tt := tYes) rfl scRule.nd (pi_tup (pv 2)) (blkOk_by (own := [("condition", 4)]) (N := ["base", "value", "conditions", "keep", "condition"]) (sc := defScope sRule) (by decide +kernel))
          (fun _ _ _ _ _ => pg_name (i := 4) scRule.nd rfl (Or.inl rfl)) (fun _ _ _ _ _ => pts_nil)
          (fun _ _ _ _ _ => pe_call GC hr (by rfl) T.cond T.kCd bC .nil pass0 (pa_cons (pv 0) (pa_cons (pv 4) pa_nil)))) pa_nil))
        (pe_one (pe_call GK hr (by rfl) T.keep T.kKp bK .nil pass0 (pa_cons (pv 3) pa_nil))))))))), ?_⟩
    refine ⟨_, rfl, vb, b, rfl, kb, fun hb H1 e1 => ?_, fun hb => l1 hb⟩
    obtain ⟨β, rfl, b2, b10, q⟩ := hq hb
    have k1 := k.ex e1
    cases hT : isT d with
    | false =>
      have e0 : ruleB β d = false := by unfold ruleB; rw [hT]; rfl
      rw [e0] at q
      exact q_when (b := true) (et_is (et_or (b := true) (et_not (et_B (ev_is (w := .bl false) (ev_isiT (ev_var rfl) k1) (by rw [hT])))) fun z => nomatch z) (by simp)) (fun z H2 e => q H2 (e1.trans e)) (fun z => nomatch z)
    | true =>
      cases k1 with
      | @tup a us ds hs ha =>
        have hl := ha.length
        refine q_when (b := !decide (ds.length = 2)) (et_is (et_or (et_not (et_B (ev_isiT (d := .tuple ds) (ev_var rfl) (.tup hs ha)))) fun _ => et_test (ev_op (ev_lenT (ev_var rfl) hs) ev_c (rv_ne rfl))) (by
          simp only [isT, Bool.not_true, Bool.false_or]
          congr 1
          refine decide_eq_decide.mpr ⟨fun z => ?_, fun z => ?_⟩
          · injection z with z
            omega
          · rw [show (us.length : Int) = 2 by omega])) (fun z H2 e2 => ?_) (fun z H2 e2 => ?_)
        · have e0 : ruleB β (.tuple ds) = false := by
            unfold ruleB tupD
            rw [Bool.not_eq_true'] at z
            simp only [z]
            simp
          rw [e0] at q
          exact q H2 (e1.trans e2)
        · have z' : ds.length = 2 := by simpa using z
          match ds, us, ha, z' with
          | [cd, kd], _, .cons (v := vc) kc (.cons (v := vk) kk .nil), _ =>
            have hs2 := e2 _ _ hs
            have kc2 := kc.ex e2
            have kk2 := kk.ex e2
            have e0 : ruleB β (.tuple [cd, kd]) = (isT cd && (decide ((tupD cd).length ≤ 3) && ((tupD cd).all (condB β) && keepB kd))) := rfl
            rw [e0] at q
            refine ⟨_, rfl, a, _, rfl, st_of hs2, rfl, _, _, rfl, _, _, rfl, rfl, ?_⟩
            cases hC : isT cd with
            | false =>
              rw [hC] at q
              exact q_when (b := true) (et_is (et_or (b := true) (et_not (et_B (ev_is (w := .bl false) (ev_isiT (ev_var rfl) kc2) (by rw [hC])))) fun z => nomatch z) (by simp)) (fun z H3 e => q H3 ((e1.trans e2).trans e)) (fun z => nomatch z)
            | true =>
              cases kc2 with
              | @tup ac ws cs hcs hca =>
                have hcl := hca.length
                refine q_when (b := !decide (cs.length ≤ 3)) (et_is (et_or (et_not (et_B (ev_isiT (d := .tuple cs) (ev_var rfl) (.tup hcs hca)))) fun _ => et_test (ev_op (ev_lenT (ev_var rfl) hcs) ev_c rv_I0)) (by
                  simp only [isT, Bool.not_true, Bool.false_or]
                  by_cases h : cs.length ≤ 3
                  · rw [decide_eq_true h, decide_eq_false (by omega)]
                    rfl
                  · rw [decide_eq_false h, decide_eq_true (by omega)]
                    rfl)) (fun z3 H3 e3 => ?_) (fun z3 H3 e3 => ?_)
                · rw [Bool.not_eq_true'] at z3
                  unfold tupD at q
                  simp only [z3, Bool.false_and, Bool.and_false] at q
                  exact q H3 ((e1.trans e2).trans e3)
                · have z4 : cs.length ≤ 3 := by simpa using z3
                  unfold tupD at q
                  simp only [decide_eq_true z4, isT, Bool.true_and] at q
                  have eL : EvL (tLc (iTup K (tVar 2)) (gName 4) tYes (tCall spCond [] E0 (tCons (tVar 0) (tCons (tVar 4) tNil))) [4]) [some (.int β), some (.ref a), some (.ref ac), some vk, none] H3 ((cs.map (condB β)).map V.bl) := by
                    rw [List.map_map, ← given_all cs (V.bl ∘ condB β) .non, ← hcl]
                    refine el_lcT (fun _ => true) _ (ev_var rfl) (st_of (e3 _ _ hcs)) (by omega) (fun _ => rfl) (fun i x H4 e4 hx => fun H5 e5 Q5 q5 => q5 H5 (Ex.refl _)) (fun i x H4 e4 hx _ => ?_)
                    obtain ⟨dd, hd, kd'⟩ := hca.get2 hx
                    rw [hd]
                    exact ev_call (ea_cons (ev_var rfl) (ea_cons (ev_var rfl) ea_nil)) fun H5 e5 Q5 q5 E5 => ⟨β, x, dd, rfl, b2, b10, (kd'.ex (e3.trans e4)).ex e5, fun H6 e6 => q5 H6 e6⟩
                  refine s_ret (ev_andV (ev_is (ev_allL eL) (w := .bl (cs.all (condB β))) (by rw [List.all_map]; rfl)) fun _ => ev_call (ea_cons (ev_var rfl) ea_nil) fun H5 e5 Q5 q5 E5 => ⟨vk, kd, rfl, (kk2.ex e3).ex e5, fun H6 e6 => q5 H6 e6⟩) fun H4 e4 => q H4 (((e1.trans e2).trans e3).trans e4)
              | _ => cases hC
      | _ => cases hT
end
end Dt

/-! Displays as data; the law's drawn rules. -/
namespace Dt
open PySem L2 Evl Dg LamR LamX
open Dr (StAt SameB)
/-- a value that is that data -/
def EvP (te : TE) (σ : St) (H : Hp) (D : PyData) : Prop := ∀ H1, Ex H H1 → ∀ Q : VK, (∀ v H2, Ex H1 H2 → Pt H2 v D → Q v H2) → te σ H1 Q
def EvPA (ta : TA) (σ : St) (H : Hp) (Ds : List PyData) : Prop := ∀ H1, Ex H H1 → ∀ Q : List V → Hp → Prop, (∀ vs H2, Ex H1 H2 → PtAll H2 vs Ds → Q vs H2) → ta σ H1 Q
section
variable {K : PySem.W.Frag} {σ : St} {H : Hp} {te ta tb : TE} {D E : PyData} {Ds Es : List PyData}
theorem ep_c {v : V} (h : ∀ H, Pt H v D) : EvP (tC v) σ H D := fun H1 _ _ q => q v H1 (Ex.refl H1) (h H1)
theorem ep_v {v : V} (h : Ev te σ H v) (k : Pt H v D) : EvP te σ H D := fun H1 e Q q => h H1 e Q fun H2 e2 => q v H2 e2 (k.ex (e.trans e2))
theorem ep_non : EvP (tC .non) σ H .none := ep_c fun _ => .non
theorem ep_bl {b : Bool} : EvP (tC (.bl b)) σ H (.bool b) := ep_c fun _ => .bl b
theorem ep_int {i : Int} : EvP (tC (.int i)) σ H (.int i) := ep_c fun _ => .int i
theorem ep_str {x : Str} (h : x.length ≤ 3000) : EvP (tC (.str x)) σ H (.str x) := ep_c fun _ => .str x h
theorem epa_nil : EvPA tNil σ H [] := fun H1 _ _ q => q [] H1 (Ex.refl H1) .nil
theorem epa_cons {tr : TA} (h : EvP te σ H D) (hr : EvPA tr σ H Ds) : EvPA (tCons te tr) σ H (D :: Ds) := fun H1 e _ q =>
  h H1 e _ fun v H2 e2 k => hr H2 (e.trans e2) _ fun vs H3 e3 ks => q (v :: vs) H3 (e2.trans e3) (.cons (k.ex e3) ks)
theorem ep_tup {ta : TA} (h : EvPA ta σ H Ds) (hl : Ds.length ≤ 100000) : EvP (tTup ta) σ H (.tuple Ds) := fun H1 e _ q =>
  h H1 e _ fun vs H2 e2 ks => ⟨sz_of (by rw [ks.length]; exact hl), fun p hp => q (.ref p) _ (e2.trans (Ex.new hp)) (.tup upd_same (ks.ex (Ex.new hp)))⟩
theorem ep_lst {ta : TA} (h : EvPA ta σ H Ds) (hl : Ds.length ≤ 100000) : EvP (tLst ta) σ H (.list Ds) := fun H1 e _ q =>
  h H1 e _ fun vs H2 e2 ks => ⟨sz_of (by rw [ks.length]; exact hl), fun p hp => q (.ref p) _ (e2.trans (Ex.new hp)) (.lst upd_same (ks.ex (Ex.new hp)))⟩
theorem ep_cat (ha : EvP ta σ H (.list Ds)) (hb : EvP tb σ H (.list Es)) (hl : Ds.length + Es.length ≤ 100000) : EvP (tOp rCat ta tb) σ H (.list (Ds ++ Es)) := fun H1 e _ q =>
  ha H1 e _ fun v H2 e2 k => hb H2 (e.trans e2) _ fun w H3 e3 k3 => by
    cases k with
    | @lst a vs _ ha hv =>
      cases k3 with
      | @lst b ws _ hb hw =>
        exact ⟨a, b, vs, ws, rfl, rfl, e3 _ _ ha, hb, sz_of (by rw [hv.length, hw.length]; exact hl), fun p hp => q (.ref p) _ ((e2.trans e3).trans (Ex.new hp)) (.lst upd_same (((hv.ex e3).app hw).ex (Ex.new hp)))⟩
theorem ep_if {t : TT} {b : Bool} (h : EvT t σ H b) (h1 : b = true → EvP ta σ H D) (h2 : b = false → EvP tb σ H D) : EvP (tIf t ta tb) σ H D := fun H1 e Q q => h H1 e _ fun H2 e2 => by
  cases b with
  | true => exact iteT (h1 rfl H2 (e.trans e2) _ fun v H3 e3 k => q v H3 (e2.trans e3) k)
  | false => exact iteF (h2 rfl H2 (e.trans e2) _ fun v H3 e3 k => q v H3 (e2.trans e3) k)
theorem s_retP {DD : Ends} (h : EvP te σ H D) (k : ∀ v H1, Ex H H1 → Pt H1 v D → DD.rt v H1) : tRet te DD σ H := h H (Ex.refl H) _ k
theorem s_asgP {DD : Ends} {i : Nat} (h : EvP te σ H D) (k : ∀ v H1, Ex H H1 → Pt H1 v D → DD.nx (σ.set i (some v)) H1) : tAsg te (gName i) DD σ H := h H (Ex.refl H) _ fun v H1 e kk => k v H1 e kk
theorem q_asgP {DD : Ends} {tz : TS} {i : Nat} (h : EvP te σ H D) (k : ∀ v H1, Ex H H1 → Pt H1 v D → tz DD (σ.set i (some v)) H1) : tSeq (tAsg te (gName i)) tz DD σ H := s_asgP (DD := { DD with nx := tz DD }) h k
end
theorem sameB_trans {H H1 H2 : Hp} {p l : Addr} (a : SameB H H1 p l) (b : SameB H1 H2 p l) : SameB H H2 p l := fun x o h h1 h2 => b x o (a x o h h1 h2) h1 h2
theorem sameB_ex {H H1 : Hp} {p l : Addr} (e : Ex H H1) : SameB H H1 p l := fun x o h _ _ => e x o h
mutual
/-- tuples and what is plain alone -/
def noL : PyData → Bool
  | .list _ => false
  | .dict _ => false
  | .tuple ds => noLs ds
  | _ => true
def noLs : List PyData → Bool
  | [] => true
  | d :: ds => noL d && noLs ds
end
mutual
theorem noL_ok : ∀ {d : PyData}, noL d = true → okD d = true
  | .none, _ => rfl
  | .bool _, _ => rfl
  | .int _, _ => rfl
  | .str _, _ => rfl
  | .tuple ds, h => by
    rw [okD]
    exact noLs_ok (by rw [noL] at h; exact h)
  | .list _, h => by rw [noL] at h; cases h
  | .dict _, h => by rw [noL] at h; cases h
theorem noLs_ok : ∀ {ds : List PyData}, noLs ds = true → okDs ds = true
  | [], _ => rfl
  | d :: ds, h => by
    rw [noLs, Bool.and_eq_true] at h
    rw [okDs, noL_ok h.1, noLs_ok h.2]
    rfl
end
theorem noLs_app : ∀ {ds es : List PyData}, noLs ds = true → noLs es = true → noLs (ds ++ es) = true
  | [], _, _, k => k
  | d :: ds, es, h, k => by
    rw [noLs, Bool.and_eq_true] at h
    show (noL d && noLs (ds ++ es)) = true
    rw [h.1, noLs_app h.2 k]
    rfl
/-- tuples stay -/
def TupK (H H' : Hp) : Prop := ∀ a xs, H a = some (.tup xs) → H' a = some (.tup xs)
theorem TupK.trans {H H1 H2 : Hp} (a : TupK H H1) (b : TupK H1 H2) : TupK H H2 := fun x xs h => b x xs (a x xs h)
theorem tupK_ex {H H' : Hp} (e : Ex H H') : TupK H H' := fun a xs h => e _ _ h
theorem tupK_same {H H' : Hp} {p c l : Addr} {n : Nat} {a : Int} (S : StAt H p c l n a) (e : SameB H H' p l) : TupK H H' := fun x xs h => by
  obtain ⟨ls, hl, _⟩ := S.l
  exact e _ _ h (ne_of h S.d (by intro z; cases z)) (ne_of h hl (by intro z; cases z))
theorem tupK_upd {H : Hp} {x : Addr} {ys zs : List V} (h : H x = some (.lst ys)) : TupK H (upd H x (.lst zs)) := fun a xs ha => by
  rw [upd_ne (ne_of ha h (by intro z; cases z))]
  exact ha
mutual
theorem Pt.tk {H H' : Hp} (e : TupK H H') : ∀ {v : V} {d : PyData}, Pt H v d → noL d = true → Pt H' v d
  | _, .none, h, _ => by cases h; exact .non
  | _, .bool _, h, _ => by cases h; exact .bl _
  | _, .int _, h, _ => by cases h; exact .int _
  | _, .str _, h, _ => by cases h with | str _ z => exact .str _ z
  | _, .tuple ds, h, k => by
    cases h with
    | tup hs ha => exact .tup (e _ _ hs) (PtAll.tk e ha (by rw [noL] at k; exact k))
  | _, .list _, _, k => by rw [noL] at k; cases k
  | _, .dict _, _, k => by rw [noL] at k; cases k
theorem PtAll.tk {H H' : Hp} (e : TupK H H') : ∀ {vs : List V} {ds : List PyData}, PtAll H vs ds → noLs ds = true → PtAll H' vs ds
  | _, [], h, _ => by cases h; exact .nil
  | _, d :: ds, h, k => by
    cases h with
    | cons h1 h2 =>
      rw [noLs, Bool.and_eq_true] at k
      exact .cons (Pt.tk e h1 k.1) (PtAll.tk e h2 k.2)
end
theorem off_of {H : Hp} {p c l x : Addr} {n : Nat} {a : Int} (S : StAt H p c l n a) (h : H x = none) : x ≠ p ∧ x ≠ l := by
  obtain ⟨ls, hls, _⟩ := S.l
  exact ⟨(ne_of_none S.d h).symm, (ne_of_none hls h).symm⟩
/-- one draw -/
theorem rd_draw {σ : St} {H : Hp} {te : TE} {Q : VK} {p c l : Addr} {n : Nat} {a m : Int} (h0 : σ[0]? = some (some (.ref p))) (hm : Ev te σ H (.int m)) (S : StAt H p c l n a) (nlc : l ≠ c) (ha : a < 2 ^ 39) (m0 : 0 < m) (m1 : m < 1073741824)
    (k : ∀ (r : Nat) (H' : Hp), (r : Int) < m → StAt H' p c l n (a + 1) → SameB H H' p l → Q (.int (r : Int)) H') : tCall Dr.spDraw [] E0 (tCons (tVar 0) (tCons te tNil)) σ H Q :=
  ⟨_, h0, hm H (Ex.refl H) _ fun H2 e2 => ⟨p, c, l, n, a, m, rfl, S.ex e2, nlc, ha, m0, m1, fun r H' r0 r1 S' sb nn => by
    obtain ⟨ρ, rfl⟩ : ∃ ρ : Nat, r = ρ := ⟨r.toNat, by omega⟩
    exact k ρ H' r1 S' (sameB_trans (sameB_ex e2) sb)⟩⟩
/-! what small data is, of rules -/
theorem beg2 (x w : Str) (d : PyData) : begB (.tuple [.str x, d]) w 2 = decide (x = w) := by simp [begB, isT, tupD, eqS]
theorem beg3 (x w : Str) (d e : PyData) : begB (.tuple [.str x, d, e]) w 3 = decide (x = w) := by simp [begB, isT, tupD, eqS]
theorem beg23 (x w : Str) (d : PyData) : begB (.tuple [.str x, d]) w 3 = false := by simp [begB, isT, tupD, eqS]
theorem beg32 (x w : Str) (d e : PyData) : begB (.tuple [.str x, d, e]) w 2 = false := by simp [begB, isT, tupD, eqS]
theorem keep_chg {s : Int} (h1 : 1 ≤ s) (h2 : s ≤ 6) : keepB (.tuple [.str "changed", .int s]) = true := by
  unfold keepB
  rw [beg2, decide_eq_true rfl]
  simp [at_, tupD, sizeB, h1, h2]
theorem keep_last {s : Int} (h1 : 1 ≤ s) (h2 : s ≤ 6) : keepB (.tuple [.str "last", .int s]) = true := by
  unfold keepB
  rw [beg2, beg2, decide_eq_true (p := ("last" : Str) = "last") rfl]
  simp [at_, tupD, sizeB, h1, h2]
theorem cond_ends {β : Nat} {x : Str} (h : isFigs β 2 x = true) : condB β (.tuple [.str "ends", .str x]) = true := by
  unfold condB
  rw [beg2, decide_eq_true rfl]
  simpa [at_, tupD, txtD, figsO] using h
theorem cond_near {β : Nat} {i : Int} (h1 : 0 ≤ i) (h2 : i ≤ 6) : condB β (.tuple [.str "near", .int i]) = true := by
  unfold condB
  rw [beg2, beg2, decide_eq_false (p := ("near" : Str) = "ends") (by decide +kernel), decide_eq_true (p := ("near" : Str) = "near") rfl]
  simp [at_, tupD, sizeB, h1, h2]
theorem cond_len {β : Nat} {x : Str} {i : Int} {d : PyData} (hx : x = "length" ∨ x = "changed") (h1 : 1 ≤ i) (h2 : i ≤ 6) (hd : d = .none ∨ ∃ j : Int, d = .int j ∧ i ≤ j ∧ j ≤ 6) : condB β (.tuple [.str x, .int i, d]) = true := by
  unfold condB
  rw [beg32, beg32, beg3, beg3]
  have e : (decide (x = "length") || decide (x = "changed")) = true := by
    rcases hx with rfl | rfl
    · rw [decide_eq_true rfl]; rfl
    · rw [decide_eq_true (p := ("changed" : Str) = "changed") rfl, Bool.or_true]
  rw [e]
  rcases hd with rfl | ⟨j, rfl, h3, h4⟩
  · simp [at_, tupD, boundsB, sizeB, intD, isN, h1, h2]
  · simp [at_, tupD, boundsB, sizeB, intD, isN, h1, h2, h3, h4]
theorem rule_mk {β : Nat} {cs : List PyData} {k : PyData} : ruleB β (.tuple [.tuple cs, k]) = (decide (cs.length ≤ 3) && (cs.all (condB β) && keepB k)) := rfl
abbrev sLCond : Stmt := top 59
abbrev sLKeep : Stmt := top 60
abbrev sLRules : Stmt := top 61
section
variable {P : Program} {w : World} {K : PySem.W.Frag} {mg : Str → Option Value} {base : Heap} {fm fdr : Addr}
def spLKeep : Sp := fun vs H Q _ => ∃ (p c l : Addr) (n m : Nat) (a : Int), vs = [.ref p, .int m] ∧ StAt H p c l n a ∧ l ≠ c ∧ a < 2 ^ 39 - 100 ∧ 1 ≤ m ∧ m ≤ 6 ∧
  ∀ (v : V) (d : PyData) (H' : Hp), keepB d = true → noL d = true → Pt H' v d → StAt H' p c l n (a + 2) → SameB H H' p l → Q v H'
theorem scLKeep : FnScope ["state", "most", "word", "size"] ["state", "most"] (defScope sLKeep) := ⟨rfl, rfl, rfl, by decide +kernel, rfl, by decide +kernel, by decide +kernel⟩
theorem ok_lkeep {f : Addr} {fd fdd : FuncData} (F : Fun K "_law_keep" "_law_keep" sLKeep f fd) (GD : FnOk P w K mg base CX0 2 fdr fdd ["state", "many"] Dr.spDraw) (bD : Binds K fdd ["state", "many"] []) (T : Dr.TxO K mg fm fdr) :
    FnOk P w K mg base CX0 3 f fd ["state", "most"] spLKeep := by
  refine F.ok scLKeep (fun vs H Q E h => ?_) (fun cdv A outer s H vs Q E hr h => ?_)
  · obtain ⟨p, c, l, n, m, a, rfl, _⟩ := h
    rfl
  · obtain ⟨p, c, l, n, m, a, rfl, S, nlc, ha, m1, m6, q⟩ := h
    refine ⟨_, pss_cons (ps_par (i := 2) (j := 3) (by rfl) scLKeep.nd rfl rfl (by decide) rfl rfl (pa_cons (pe_ix ix_list (pe_lst (pa_cons pe_str (pa_cons pe_str (pa_cons pe_str (pa_cons pe_str pa_nil))))) (pe_call GD hr (by rfl) T.draw T.kDraw bD .nil pass0 (pa_cons (pv 0) (pa_cons pe_int pa_nil))) (fun _ _ => rfl))
        (pa_cons (pe_op op_add pe_int (pe_call GD hr (by rfl) T.draw T.kDraw bD .nil pass0 (pa_cons (pv 0) (pa_cons (pv 1) pa_nil)))) pa_nil)) (by rfl))
      (pss_one (ps_ret (pe_ifExp (pt_cmpR op_eq (pv 2) pe_str (nomark _)) (pe_tup (pa_cons (pv 2) pa_nil)) (pe_tup (pa_cons (pv 2) (pa_cons (pv 3) pa_nil)))))), ?_⟩
    refine ⟨(by show (4:Nat) ≤ sizeLine; rw [sizeLine_eq]; omega), fun lr nlr => ?_⟩
    have e0 := Ex.new (o := .lst [.str "all", .str "changed", .str "last", .str "last"]) nlr
    have S0 := S.ex e0
    have hl : lr ≠ p ∧ lr ≠ l := by
      obtain ⟨ls, hls, _⟩ := S.l
      exact ⟨(ne_of_none S.d nlr).symm, (ne_of_none hls nlr).symm⟩
    refine rd_draw (p := p) rfl ev_c S0 nlc (by omega) (by decide) (by decide) fun r H1 hr1 S1 sb1 => ?_
    have g1 : H1 lr = some (.lst [.str "all", .str "changed", .str "last", .str "last"]) := sb1 _ _ upd_same hl.1 hl.2
    have key : ∃ x : Str, ([V.str "all", .str "changed", .str "last", .str "last"])[r]? = some (.str x) ∧ (x = "all" ∨ x = "changed" ∨ x = "last") := by
      have cc : r = 0 ∨ r = 1 ∨ r = 2 ∨ r = 3 := by omega
      rcases cc with rfl | rfl | rfl | rfl
      · exact ⟨_, rfl, .inl rfl⟩
      · exact ⟨_, rfl, .inr (.inl rfl)⟩
      · exact ⟨_, rfl, .inr (.inr rfl)⟩
      · exact ⟨_, rfl, .inr (.inr rfl)⟩
    obtain ⟨x, hx, hcase⟩ := key
    refine ⟨lr, _, _, _, rfl, rfl, SqL.of g1, atI_nat hx, ?_⟩
    refine rd_draw (p := p) rfl (ev_var rfl) S1 nlc (by omega) (by omega) (by omega) fun r2 H2 hr2 S2 sb2 => ?_
    refine ⟨_, _, rfl, rfl, _, _, rfl, ?_⟩
    have sb3 := sameB_trans (sameB_trans (sameB_ex e0) sb1) sb2
    have fin : ∀ d, keepB d = true → noL d = true → ∀ v H', Ex H2 H' → Pt H' v d → Q v H' := fun d kd od v H' e k => q v d H' kd od k (by
      have := S2.ex e
      rw [show a + 1 + 1 = a + 2 by omega] at this
      exact this) (sameB_trans sb3 (sameB_ex e))
    rcases hcase with rfl | rfl | rfl
    · refine s_retP (D := .tuple [.str "all"]) (ep_if (b := true) (et_test (ev_is (ev_op (ev_var rfl) ev_c (rv_eq rfl)) (by rw [decide_eq_true rfl]))) (fun _ => ep_tup (epa_cons (ep_v (ev_var rfl) (.str _ (by decide))) epa_nil) (by decide)) (fun z => nomatch z)) fun v H' e k => fin _ (by decide +kernel) (by decide +kernel) v H' e k
    · refine s_retP (D := .tuple [.str "changed", .int (1 + (r2 : Int))]) (ep_if (b := false) (et_test (ev_is (ev_op (ev_var rfl) ev_c (rv_eq rfl)) (by rw [decide_eq_false (by decide +kernel)]))) (fun z => nomatch z) (fun _ => ep_tup (epa_cons (ep_v (ev_var rfl) (.str _ (by decide))) (epa_cons (ep_v (ev_var rfl) (.int _)) epa_nil)) (by simp))) fun v H' e k => fin _ (keep_chg (by omega) (by omega)) rfl v H' e k
    · refine s_retP (D := .tuple [.str "last", .int (1 + (r2 : Int))]) (ep_if (b := false) (et_test (ev_is (ev_op (ev_var rfl) ev_c (rv_eq rfl)) (by rw [decide_eq_false (by decide +kernel)]))) (fun z => nomatch z) (fun _ => ep_tup (epa_cons (ep_v (ev_var rfl) (.str _ (by decide))) (epa_cons (ep_v (ev_var rfl) (.int _)) epa_nil)) (by simp))) fun v H' e k => fin _ (keep_last (by omega) (by omega)) rfl v H' e k
end
end Dt

/-! The law's drawn conditions. -/
namespace Dt
open PySem L2 Evl Dg LamR LamX TL
open Dr (StAt SameB)
theorem fig_at {r : Nat} (h : r < 10) : ("0123456789" : Str).cps.toList[r]? = some (48 + r) := by
  have cc : r = 0 ∨ r = 1 ∨ r = 2 ∨ r = 3 ∨ r = 4 ∨ r = 5 ∨ r = 6 ∨ r = 7 ∨ r = 8 ∨ r = 9 := by omega
  rcases cc with rfl | rfl | rfl | rfl | rfl | rfl | rfl | rfl | rfl | rfl <;> decide +kernel
section
variable {P : Program} {w : World} {K : PySem.W.Frag} {mg : Str → Option Value} {base : Heap} {fm fdr : Addr}
def spLCond : Sp := fun vs H Q _ => ∃ (p c l : Addr) (n β m : Nat) (a : Int), vs = [.ref p, .int β, .int m] ∧ StAt H p c l n a ∧ l ≠ c ∧ a < 2 ^ 39 - 100 ∧ 2 ≤ β ∧ β ≤ 10 ∧ 1 ≤ m ∧ m ≤ 6 ∧
  ∀ (v : V) (d : PyData) (H' : Hp) (b : Int), condB β d = true → noL d = true → Pt H' v d → a ≤ b → b ≤ a + 10 → StAt H' p c l n b → SameB H H' p l → Q v H'
theorem scLCond : FnScope ["state", "base", "most", "way", "least", "top", "text", "k"] ["state", "base", "most"] (defScope sLCond) := ⟨rfl, rfl, rfl, by decide +kernel, rfl, by decide +kernel, by decide +kernel⟩
theorem ok_lcond {f : Addr} {fd fdd : FuncData} (F : Fun K "_law_condition" "_law_condition" sLCond f fd) (GD : FnOk P w K mg base CX0 2 fdr fdd ["state", "many"] Dr.spDraw) (bD : Binds K fdd ["state", "many"] []) (T : Dr.TxO K mg fm fdr) (mR : mg "range" = none) (mM : mg "min" = none) :
    FnOk P w K mg base CX0 3 f fd ["state", "base", "most"] spLCond := by
  refine F.ok scLCond (fun vs H Q E h => ?_) (fun cdv A outer s H vs Q E hr h => ?_)
  · obtain ⟨p, c, l, n, β, m, a, rfl, _⟩ := h
    rfl
  · obtain ⟨p, c, l, n, β, m, a, rfl, S, nlc, ha, b2, b10, m1, m6, q⟩ := h
    refine ⟨_, pss_cons (ps_par (i := 3) (j := 4) (by rfl) scLCond.nd rfl rfl (by decide) rfl rfl (pa_cons (pe_call GD hr (by rfl) T.draw T.kDraw bD .nil pass0 (pa_cons (pv 0) (pa_cons pe_int pa_nil))) (pa_cons (pe_op op_add pe_int (pe_call GD hr (by rfl) T.draw T.kDraw bD .nil pass0 (pa_cons (pv 0) (pa_cons (pv 2) pa_nil)))) pa_nil)) (by rfl))
      (pss_cons (ps_set (i := 5) scLCond.nd rfl (.inl rfl) (pe_ix ix_list (pe_lst (pa_cons pe_non (pa_cons (pe_op op_add (pv 4) (pe_call GD hr (by rfl) T.draw T.kDraw bD .nil pass0 (pa_cons (pv 0) (pa_cons (pe_op op_add (pe_op op_sub (pv 2) (pv 4)) pe_int) pa_nil)))) pa_nil))) (pe_call GD hr (by rfl) T.draw T.kDraw bD .nil pass0 (pa_cons (pv 0) (pa_cons pe_int pa_nil))) (fun _ _ => rfl)))
      (pss_cons (ps_if (pt_cmpR op_eq (pv 3) pe_int (nomark _))
        (pss_cons (ps_set (i := 6) scLCond.nd rfl (.inl rfl) pe_str)
        (pss_cons (ps_for PassesOwn.never rfl (pi_range1 (by rfl) mR (pa_cons (pe_op op_add pe_int (pe_call GD hr (by rfl) T.draw T.kDraw bD .nil pass0 (pa_cons (pv 0) (pa_cons (pe_callB (call_min2 (by rfl)) (by rfl) mM (by decide +kernel) (pa_cons pe_int (pa_cons (pv 2) pa_nil))) pa_nil)))) pa_nil)) (pg_name (i := 7) scLCond.nd rfl (.inl rfl))
          (pss_one (ps_set (i := 6) scLCond.nd rfl (.inl rfl) (pe_op op_add_str (pv 6) (pe_ix ix_str pe_str (pe_call GD hr (by rfl) T.draw T.kDraw bD .nil pass0 (pa_cons (pv 0) (pa_cons (pv 1) pa_nil))) (fun _ _ => rfl))))))
        (pss_one (ps_ret (pe_tup (pa_cons pe_str (pa_cons (pv 6) pa_nil))))))) pss_nil)
      (pss_cons (ps_if (pt_cmpR op_eq (pv 3) pe_int (nomark _)) (pss_one (ps_ret (pe_tup (pa_cons pe_str (pa_cons (pe_op op_sub (pv 4) (pe_call GD hr (by rfl) T.draw T.kDraw bD .nil pass0 (pa_cons (pv 0) (pa_cons pe_int pa_nil)))) pa_nil))))) pss_nil)
      (pss_one (ps_ret (pe_tup (pa_cons (pe_ix ix_list (pe_lst (pa_cons pe_str (pa_cons pe_str pa_nil))) (pe_op op_sub (pv 3) pe_int) (fun _ _ => rfl)) (pa_cons (pv 4) (pa_cons (pv 5) pa_nil))))))))), ?_⟩
    refine rd_draw (p := p) rfl ev_c S nlc (by omega) (by decide) (by decide) fun r H1 hr1 S1 sb1 => ?_
    refine rd_draw (p := p) rfl (ev_var rfl) S1 nlc (by omega) (by omega) (by omega) fun r2 H2 hr2 S2 sb2 => ?_
    refine ⟨_, _, rfl, rfl, _, _, rfl, ?_⟩
    refine ⟨_, rfl, rd_draw (p := p) rfl (ev_op (ev_op (ev_var rfl) (ev_var rfl) rv_I0) ev_c rv_I0) S2 nlc (by omega) (by omega) (by omega) fun r3 H3 hr3 S3 sb3 => ⟨_, _, rfl, rfl, (by show (2:Nat) ≤ sizeLine; rw [sizeLine_eq]; omega), fun lr nlr => ?_⟩⟩
    have e3 := Ex.new (o := .lst [.non, .int (1 + (r2 : Int) + (r3 : Int))]) nlr
    have o3 := off_of S3 nlr
    refine rd_draw (p := p) rfl ev_c (S3.ex e3) nlc (by omega) (by decide) (by decide) fun r4 H4 hr4 S4 sb4 => ?_
    have g4 : H4 lr = some (.lst [.non, .int (1 + (r2 : Int) + (r3 : Int))]) := sb4 _ _ upd_same o3.1 o3.2
    have key : ∃ (z : V) (d : PyData), ([V.non, .int (1 + (r2 : Int) + (r3 : Int))])[r4]? = some z ∧ (∀ H', Pt H' z d) ∧ noL d = true ∧ (d = .none ∨ ∃ j : Int, d = .int j ∧ (1 + (r2 : Int)) ≤ j ∧ j ≤ 6) := by
      have cc : r4 = 0 ∨ r4 = 1 := by omega
      rcases cc with rfl | rfl
      · exact ⟨_, _, rfl, fun _ => .non, rfl, .inl rfl⟩
      · exact ⟨_, _, rfl, fun _ => .int _, rfl, .inr ⟨_, rfl, by omega, by omega⟩⟩
    obtain ⟨z, dz, hz, kz, nz, cz⟩ := key
    refine ⟨lr, _, _, _, rfl, rfl, SqL.of g4, atI_nat hz, ?_⟩
    have sb := sameB_trans (sameB_trans (sameB_trans (sameB_trans sb1 sb2) sb3) (sameB_ex e3)) sb4
    have et : ∀ (k : Nat) (H' : Hp), EvT (tTest (tOp rEq (tVar 3) (tC (.int (k : Int))))) [some (.ref p), some (.int β), some (.int m), some (.int (r : Int)), some (.int (1 + (r2 : Int))), some z, none, none] H' (decide (r = k)) := fun k H' =>
      et_test (ev_is (ev_op (ev_var rfl) ev_c (rv_eq rfl)) (by
        congr 1
        refine decide_eq_decide.mpr ⟨fun y => ?_, fun y => by rw [y]⟩
        injection y with y
        omega))
    refine q_when (et 0 H4) (fun z0 H5 e5 => ?_) (fun z0 H5 e5 => ?_)
    · -- ends
      refine q_asg ev_c fun H6 e6 => ?_
      have S6 := (S4.ex e5).ex e6
      have sb6 := sameB_trans (sameB_trans sb (sameB_ex e5)) (sameB_ex e6)
      refine rd_draw (p := p) (te := _) rfl (ev_cb (ea_cons ev_c (ea_cons (ev_var rfl) ea_nil)) fun H1 _ Q k => ⟨_, _, rfl, k _ (Ex.refl _)⟩) S6 nlc (by omega) (by split <;> omega) (by split <;> omega) fun r5 H7 hr5 S7 sb7 => ?_
      have r52 : r5 < 2 := by
        have := hr5
        split at this <;> omega
      refine ⟨_, _, rfl, rfl, _, rfl, by omega, by omega, ?_⟩
      rw [show (1 + (r5 : Int)).toNat = 1 + r5 by omega]
      refine for_range (n := 1 + r5) (fun i σ' H' => ∃ (t : Str) (x7 : Option V) (b : Int), σ' = [some (.ref p), some (.int β), some (.int m), some (.int (r : Int)), some (.int (1 + (r2 : Int))), some z, some (.str t), x7] ∧ t.length = i ∧ ((tl t).all fun c => decide (48 ≤ c ∧ c < 48 + β)) = true ∧
        b = a + 5 + i ∧ StAt H' p c l n b ∧ SameB H H' p l) ⟨"", _, a + 5, rfl, rfl, rfl, (by omega), (by rw [show a + 5 = a + 1 + 1 + 1 + 1 + 1 by omega]; exact S7), sameB_trans sb6 sb7⟩ (fun i σ' H' hi hI => ?_) (fun σ' H' hI => ?_)
      · obtain ⟨t, x7, b, rfl, ht, hf, rfl, S', sb'⟩ := hI
        refine ⟨_, rfl, rd_draw (p := p) rfl (ev_var rfl) S' nlc (by omega) (by omega) (by omega) fun r6 H8 hr6 S8 sb8 => ?_⟩
        refine ⟨_, _, 48 + r6, rfl, rfl, by decide, atI_nat (fig_at (by omega)), _, _, rfl, rfl, ?_, ?_⟩
        · rw [ht, show (Str.length ⟨#[48 + r6]⟩) = 1 from rfl, sizeLine_eq]
          omega
        · refine ⟨_, _, _, rfl, ?_, ?_, rfl, (by rw [show a + 5 + ((i + 1 : Nat) : Int) = a + 5 + (i : Int) + 1 by omega]; exact S8), sameB_trans sb' sb8⟩
          · rw [TL.len_tl, tl_append, List.length_append, ← TL.len_tl, ht]
            rfl
          · rw [tl_append, List.all_append, hf]
            show (decide (48 ≤ 48 + r6 ∧ 48 + r6 < 48 + β) && true) = true
            rw [decide_eq_true ⟨by omega, by omega⟩]
            rfl
      · obtain ⟨t, x7, b, rfl, ht, hf, rfl, S', sb'⟩ := hI
        refine s_retP (D := .tuple [.str "ends", .str t]) (ep_tup (epa_cons (ep_str (by decide)) (epa_cons (ep_v (ev_var rfl) (.str t (by omega))) epa_nil)) (by simp)) fun v H9 e9 k9 => ?_
        refine q v _ H9 _ (cond_ends ?_) rfl k9 (by omega) (by omega) (S'.ex e9) (sameB_trans sb' (sameB_ex e9))
        unfold isFigs
        rw [hf, decide_eq_true (by omega), decide_eq_true (by omega)]
        rfl
    · have S5 := S4.ex e5
      have sb5 := sameB_trans sb (sameB_ex e5)
      refine q_when (et 1 H5) (fun z1 H6 e6 => ?_) (fun z1 H6 e6 => ?_)
      · -- near
        refine ⟨_, rfl, rd_draw (p := p) rfl ev_c (S5.ex e6) nlc (by omega) (by decide) (by decide) fun r5 H7 hr5 S7 sb7 => ⟨_, _, rfl, rfl, (by show (2:Nat) ≤ sizeLine; rw [sizeLine_eq]; omega), fun tp ntp => ?_⟩⟩
        have e7 := Ex.new (o := .tup [.str "near", .int (1 + (r2 : Int) - (r5 : Int))]) ntp
        refine q _ (.tuple [.str "near", .int (1 + (r2 : Int) - (r5 : Int))]) _ _ (cond_near (by omega) (by omega)) rfl (.tup upd_same (.cons (.str _ (by decide)) (.cons (.int _) .nil))) (by omega) (by omega) (S7.ex e7) (sameB_trans (sameB_trans (sameB_trans sb5 (sameB_ex e6)) sb7) (sameB_ex e7))
      · -- length, changed
        have hrr : r = 2 ∨ r = 3 := by
          have y0 : ¬ r = 0 := of_decide_eq_false z0
          have y1 : ¬ r = 1 := of_decide_eq_false z1
          omega
        have hx : ∃ x : Str, (x = "length" ∨ x = "changed") ∧ ([V.str "length", .str "changed"])[r - 2]? = some (.str x) ∧ x.length ≤ 3000 := by
          rcases hrr with rfl | rfl
          · exact ⟨_, .inl rfl, rfl, by decide⟩
          · exact ⟨_, .inr rfl, rfl, by decide⟩
        obtain ⟨x, hx1, hx2, hx3⟩ := hx
        refine s_retP (D := .tuple [.str x, .int (1 + (r2 : Int)), dz]) (ep_tup (epa_cons (ep_v (ev_opL1 (el_lst (ea_cons ev_c (ea_cons ev_c ea_nil)) (by simp)) (fun H7 e7 => ev_op (ev_var rfl) ev_c rv_I0) fun p7 H7 h7 e7 => rv_ixL (sq_of h7) (by
            show atI _ ((r : Int) - 2) = _
            rw [show (r : Int) - 2 = ((r - 2 : Nat) : Int) by omega]
            exact atI_nat hx2)) (.str x hx3)) (epa_cons (ep_v (ev_var rfl) (.int _)) (epa_cons (ep_v (ev_var rfl) (kz _)) epa_nil))) (by simp)) fun v H9 e9 k9 => ?_
        refine q v _ H9 _ (cond_len hx1 (by omega) (by omega) cz) ?_ k9 (by omega) (by omega) ((S5.ex e6).ex e9) (sameB_trans (sameB_trans sb5 (sameB_ex e6)) (sameB_ex e9))
        show (true && (true && (noL dz && true))) = true
        rw [nz]
        rfl
end
end Dt

/-! The law's drawn rules. -/
namespace Dt
open PySem L2 Evl Dg LamR LamX TL
open Dr (StAt SameB)
section
variable {P : Program} {w : World} {K : PySem.W.Frag} {mg : Str → Option Value} {base : Heap} {fm fdr flc flk : Addr}
theorem stAt_upd {H : Hp} {p c l x : Addr} {n : Nat} {a : Int} {o : HO} (S : StAt H p c l n a) (h : x ≠ p ∧ x ≠ c ∧ x ≠ l) : StAt (upd H x o) p c l n a :=
  ⟨by rw [upd_ne h.1.symm]; exact S.d, let ⟨cs, k, z⟩ := S.c; ⟨cs, by rw [upd_ne h.2.1.symm]; exact k, z⟩, let ⟨ls, k, z⟩ := S.l; ⟨ls, by rw [upd_ne h.2.2.symm]; exact k, z⟩, S.n0, S.n1, S.a0⟩
theorem off3 {H : Hp} {p c l x : Addr} {n : Nat} {a : Int} (S : StAt H p c l n a) (h : H x = none) : x ≠ p ∧ x ≠ c ∧ x ≠ l := by
  obtain ⟨ls, hls, _⟩ := S.l
  obtain ⟨cs, hcs, _⟩ := S.c
  exact ⟨(ne_of_none S.d h).symm, (ne_of_none hcs h).symm, (ne_of_none hls h).symm⟩
theorem sameB_upd {H H' : Hp} {p l x : Addr} {o : HO} (e : SameB H H' p l) (h : H x = none) : SameB H (upd H' x o) p l := fun b u hb h1 h2 => by
  rw [upd_ne (ne_of_none hb h)]
  exact e b u hb h1 h2
/-- rules as a law draws them: so many with conditions, and a last one -/
def Rls (β : Nat) (Ds : List PyData) : Prop := ∃ Es k, Ds = Es ++ [.tuple [.tuple [], k]] ∧ keepB k = true ∧ Es.all (ruleB β) = true
theorem Rls.all {β : Nat} {Ds : List PyData} (h : Rls β Ds) : Ds.all (ruleB β) = true := by
  obtain ⟨Es, k, rfl, hk, he⟩ := h
  rw [List.all_append, he]
  show (ruleB β (.tuple [.tuple [], k]) && true) = true
  rw [rule_mk, hk]
  rfl
def spLRules : Sp := fun vs H Q _ => ∃ (p c l : Addr) (n β m y : Nat) (a : Int), vs = [.ref p, .int β, .int m, .int y] ∧ StAt H p c l n a ∧ l ≠ c ∧ a < 2 ^ 39 - 10000 ∧ 2 ≤ β ∧ β ≤ 10 ∧ 1 ≤ m ∧ m ≤ 6 ∧ y ≤ 8 ∧
  ∀ (v : V) (Ds : List PyData) (H' : Hp) (b : Int), Rls β Ds → Ds.length ≤ y + 1 → noLs Ds = true → Pt H' v (.tuple Ds) → a ≤ b → b ≤ a + 1000 → StAt H' p c l n b → SameB H H' p l → Q v H'
theorem scLRules : FnScope ["state", "base", "most", "many", "found", "k", "some", "j"] ["state", "base", "most", "many"] (defScope sLRules) := ⟨rfl, rfl, rfl, by decide +kernel, rfl, by decide +kernel, by decide +kernel⟩
theorem Pt.tupI {H : Hp} {v : V} {ds : List PyData} (h : Pt H v (.tuple ds)) : ∃ a vs, v = .ref a ∧ H a = some (.tup vs) ∧ PtAll H vs ds := by
  cases h with
  | tup hs ha => exact ⟨_, _, rfl, hs, ha⟩
theorem ok_lrules {f : Addr} {fd fdd fdc fdk : FuncData} (F : Fun K "_law_rules" "_law_rules" sLRules f fd) (GD : FnOk P w K mg base CX0 3 fdr fdd ["state", "many"] Dr.spDraw) (bD : Binds K fdd ["state", "many"] []) (T : Dr.TxO K mg fm fdr)
    (GC : FnOk P w K mg base CX0 3 flc fdc ["state", "base", "most"] spLCond) (bC : Binds K fdc ["state", "base", "most"] []) (gC : mg "_law_condition" = some (.ref flc)) (kC : PySem.W.keepIn K (.ref flc) = true)
    (GK : FnOk P w K mg base CX0 3 flk fdk ["state", "most"] spLKeep) (bK : Binds K fdk ["state", "most"] []) (gK : mg "_law_keep" = some (.ref flk)) (kK : PySem.W.keepIn K (.ref flk) = true) (mR : mg "range" = none) (mT : mg "tuple" = none) :
    FnOk P w K mg base CX0 4 f fd ["state", "base", "most", "many"] spLRules := by
  refine F.ok scLRules (fun vs H Q E h => ?_) (fun cdv A outer s H vs Q E hr h => ?_)
  · obtain ⟨p, c, l, n, β, m, y, a, rfl, _⟩ := h
    rfl
  · obtain ⟨p, c, l, n, β, m, y, a, rfl, S, nlc, ha, b2, b10, m1, m6, y8, q⟩ := h
    refine ⟨_, pss_cons (ps_set (i := 4) scLRules.nd rfl (.inl rfl) (pe_lst pa_nil))
      (pss_cons (ps_for PassesOwn.never rfl (pi_range1 (by rfl) mR (pa_cons (pe_call GD hr (by rfl) T.draw T.kDraw bD .nil pass0 (pa_cons (pv 0) (pa_cons (pe_op op_add (pv 3) pe_int) pa_nil))) pa_nil)) (pg_name (i := 5) scLRules.nd rfl (.inl rfl))
        (pss_cons (ps_set (i := 6) scLRules.nd rfl (.inl rfl) (pe_callTy call_tuple_of (by rfl) mT (by decide +kernel) (pa_cons (pe_lc (own := [("j", 7)]) (g := gName 7) (tt := tYes) rfl scLRules.nd (pi_range1 (by rfl) mR (pa_cons (pe_ix ix_list (pe_lst (pa_cons pe_int (pa_cons pe_int (pa_cons pe_int (pa_cons pe_int (pa_cons pe_int (pa_cons pe_int (pa_cons pe_int pa_nil)))))))) (pe_call GD hr (by rfl) T.draw T.kDraw bD .nil pass0 (pa_cons (pv 0) (pa_cons pe_int pa_nil))) (fun _ _ => rfl)) pa_nil))
            (blkOk_by (own := [("j", 7)]) (N := ["state", "base", "most", "many", "found", "k", "some", "j"]) (sc := defScope sLRules) (by decide +kernel)) (fun _ _ _ _ _ => pg_name (i := 7) scLRules.nd rfl (Or.inl rfl)) (fun _ _ _ _ _ => pts_nil)
            (fun _ _ _ _ _ => pe_call GC hr (by rfl) gC kC bC .nil pass0 (pa_cons (pv 0) (pa_cons (pv 1) (pa_cons (pv 2) pa_nil))))) pa_nil)))
        (pss_one (ps_expr (pe_bm PySem.F.plainAttrs_list PySem.F.slot_list_append PySem.F.type_list_append mt_append (pv 4) (pa_cons (pe_tup (pa_cons (pv 6) (pa_cons (pe_call GK hr (by rfl) gK kK bK .nil pass0 (pa_cons (pv 0) (pa_cons (pv 2) pa_nil))) pa_nil))) pa_nil))))))
      (pss_one (ps_ret (pe_op op_catA (pe_callTy call_tuple_of (by rfl) mT (by decide +kernel) (pa_cons (pv 4) pa_nil)) (pe_tup (pa_cons (pe_tup (pa_cons (pe_tup pa_nil) (pa_cons (pe_call GK hr (by rfl) gK kK bK .nil pass0 (pa_cons (pv 0) (pa_cons (pv 2) pa_nil))) pa_nil))) pa_nil)))))), ?_⟩
    refine ⟨(Nat.zero_le _), fun fl nfl => ?_⟩
    have e0 := Ex.new (o := .lst []) nfl
    have ofl := off_of S nfl
    have ofl3 := off3 S nfl
    refine rd_draw (p := p) rfl (ev_op (ev_var rfl) ev_c rv_I0) (S.ex e0) nlc (by omega) (by omega) (by omega) fun r H1 hr1 S1 sb1 => ?_
    have hr8 : r ≤ y := by omega
    have sb01 := sameB_trans (sameB_ex (p := p) (l := l) e0) sb1
    have f1 : H1 fl = some (.lst []) := sb1 _ _ upd_same ofl.1 ofl.2
    refine ⟨_, rfl, by omega, by omega, ?_⟩
    rw [show ((r : Nat) : Int).toNat = r by omega]
    refine for_range (n := r) (fun i σ' H' => ∃ (x5 x6 : Option V) (us : List V) (Es : List PyData) (b : Int), σ' = [some (.ref p), some (.int β), some (.int m), some (.int y), some (.ref fl), x5, x6, none] ∧ H' fl = some (.lst us) ∧ Es.length = i ∧ PtAll H' us Es ∧ Es.all (ruleB β) = true ∧ noLs Es = true ∧
      a ≤ b ∧ b ≤ a + 1 + 50 * i ∧ StAt H' p c l n b ∧ SameB H H' p l) ⟨_, _, [], [], a + 1, rfl, f1, rfl, .nil, rfl, rfl, by omega, by omega, S1, sb01⟩ (fun i σ' H2 hi hI => ?_) (fun σ' H2 hI => ?_)
    · -- one more rule
      obtain ⟨x5, x6, us, Es, b, rfl, hfl, hn, ks, kR, kN, ab, ba, S2, sb2⟩ := hI
      refine ⟨(by show (7:Nat) ≤ sizeLine; rw [sizeLine_eq]; omega), fun lr nlr => ?_⟩
      have e3 := Ex.new (o := .lst [.int 1, .int 1, .int 1, .int 2, .int 2, .int 3, .int 0]) nlr
      have o3 := off_of S2 nlr
      refine rd_draw (p := p) rfl ev_c (S2.ex e3) nlc (by omega) (by decide) (by decide) fun r4 H4 hr4 S4 sb4 => ?_
      have g4 : H4 lr = some (.lst [.int 1, .int 1, .int 1, .int 2, .int 2, .int 3, .int 0]) := sb4 _ _ upd_same o3.1 o3.2
      have key : ∃ z : Nat, ([V.int 1, .int 1, .int 1, .int 2, .int 2, .int 3, .int 0])[r4]? = some (.int (z : Int)) ∧ z ≤ 3 := by
        have cc : r4 = 0 ∨ r4 = 1 ∨ r4 = 2 ∨ r4 = 3 ∨ r4 = 4 ∨ r4 = 5 ∨ r4 = 6 := by omega
        rcases cc with rfl | rfl | rfl | rfl | rfl | rfl | rfl
        · exact ⟨1, rfl, by decide⟩
        · exact ⟨1, rfl, by decide⟩
        · exact ⟨1, rfl, by decide⟩
        · exact ⟨2, rfl, by decide⟩
        · exact ⟨2, rfl, by decide⟩
        · exact ⟨3, rfl, by decide⟩
        · exact ⟨0, rfl, by decide⟩
      obtain ⟨z, hz, z3⟩ := key
      refine ⟨lr, _, _, _, rfl, rfl, SqL.of g4, atI_nat hz, _, rfl, by omega, by omega, fun Dl nDl => ?_⟩
      rw [show ((z : Nat) : Int).toNat = z by omega]
      have e5 := Ex.new (o := .lst []) nDl
      have oD := off_of S4 nDl
      have tk4 : TupK H2 H4 := (tupK_ex e3).trans (tupK_same (S2.ex e3) sb4)
      have f4 : H4 fl = some (.lst us) := sb4 _ _ (e3 _ _ hfl) ofl.1 ofl.2
      have oD3 := off3 S4 nDl
      have nD0 : H Dl = none := by
        cases hz0 : H Dl with
        | none => rfl
        | some o => exact absurd (nDl.symm.trans (sameB_trans (sameB_trans sb2 (sameB_ex e3)) sb4 _ _ hz0 oD.1 oD.2)) (by simp)
      have nDf : Dl ≠ fl := (ne_of_none f4 nDl).symm
      have sb24 := sameB_trans (sameB_trans sb2 (sameB_ex e3)) sb4
      refine lc_range (lo := 0) (n := z) (fun j H' => ∃ (ws : List V) (Cs : List PyData) (b' : Int), H' Dl = some (.lst ws) ∧ Cs.length = j ∧ PtAll H' ws Cs ∧ Cs.all (condB β) = true ∧ noLs Cs = true ∧ b + 1 ≤ b' ∧ b' ≤ b + 1 + 10 * j ∧ StAt H' p c l n b' ∧ SameB H H' p l ∧ H' fl = some (.lst us) ∧ TupK H2 H')
        ⟨[], [], b + 1, upd_same, rfl, .nil, rfl, rfl, by omega, by omega, S4.ex e5, sameB_trans sb24 (sameB_ex e5), e5 _ _ f4, tk4.trans (tupK_ex e5)⟩ (fun j H5 hj hJ => ?_) (fun H5 hJ => ?_)
      · obtain ⟨ws, Cs, b', hD, hCl, kC', cC, nC, c1, c2, S5, sb5, f5, t5⟩ := hJ
        refine ⟨rfl, ?_⟩
        rw [show (tYes : TT) = fun _ H Q => Q true H from rfl]
        dsimp only
        rw [if_pos rfl]
        refine ⟨_, rfl, _, rfl, _, rfl, p, c, l, n, β, m, b', rfl, S5, nlc, by omega, b2, b10, m1, m6, fun v d H6 b6 cd nl kd d1 d2 S6 sb6 => ?_⟩
        have hD6 : H6 Dl = some (.lst ws) := sb6 _ _ hD oD.1 oD.2
        have t6 := tupK_same S5 sb6
        refine ⟨ws, hD6, by rw [kC'.length, hCl, sizeLine_eq]; omega, ws ++ [v], Cs ++ [d], b6, upd_same, by rw [List.length_append, hCl]; rfl, ((kC'.tk (t6.trans (tupK_upd hD6)) nC).app (.cons (kd.tk (tupK_upd hD6) nl) .nil)), ?_, ?_, by omega, by omega, ?_, ?_, ?_, (t5.trans t6).trans (tupK_upd hD6)⟩
        · rw [List.all_append, cC]
          show (condB β d && true) = true
          rw [cd]
          rfl
        · exact noLs_app nC (by show (noL d && true) = true; rw [nl]; rfl)
        · exact stAt_upd S6 oD3
        · exact sameB_upd (sameB_trans sb5 sb6) nD0
        · rw [upd_ne nDf.symm]
          exact sb6 _ _ f5 ofl.1 ofl.2
      · obtain ⟨ws, Cs, b', hD, hCl, kC', cC, nC, c1, c2, S5, sb5, f5, t5⟩ := hJ
        refine ⟨Dl, ws, rfl, .inl ⟨SqL.of hD, fun tp ntp => ?_⟩⟩
        have e6 := Ex.new (o := .tup ws) ntp
        have pc : Pt (upd H5 tp (.tup ws)) (.ref tp) (.tuple Cs) := .tup upd_same (kC'.ex e6)
        refine ⟨_, rfl, .inl ⟨rfl, _, SqL.of (e6 _ _ f5)⟩, ?_⟩
        refine ⟨_, rfl, _, rfl, _, rfl, p, c, l, n, m, b', rfl, S5.ex e6, nlc, by omega, m1, m6, fun v d H6 kd nd kv S6 sb6 => ⟨(by show (2:Nat) ≤ sizeLine; rw [sizeLine_eq]; omega), fun t2 nt2 => ?_⟩⟩
        have e7 := Ex.new (o := .tup [.ref tp, v]) nt2
        have t6 : TupK H5 (upd H6 t2 (.tup [.ref tp, v])) := ((tupK_ex e6).trans (tupK_same (S5.ex e6) sb6)).trans (tupK_ex e7)
        have f6 : (upd H6 t2 (.tup [.ref tp, v])) fl = some (.lst us) := e7 _ _ (sb6 _ _ (e6 _ _ f5) ofl.1 ofl.2)
        have pr : Pt (upd H6 t2 (.tup [.ref tp, v])) (.ref t2) (.tuple [.tuple Cs, d]) := .tup upd_same (.cons ((pc.same (S5.ex e6) sb6 (by rw [okD]; exact noLs_ok nC)).ex e7) (.cons (kv.ex e7) .nil))
        have nr : noL (.tuple [.tuple Cs, d]) = true := by
          show (noLs Cs && (noL d && true)) = true
          rw [nC, nd]
          rfl
        refine ⟨fl, us, _, rfl, rfl, f6, by rw [ks.length, hn, sizeLine_eq]; omega, _, _, us ++ [.ref t2], Es ++ [.tuple [.tuple Cs, d]], b' + 2, rfl, upd_same, by rw [List.length_append, hn]; rfl, ?_, ?_, ?_, by omega, by omega, stAt_upd (S6.ex e7) ofl3, sameB_upd (sameB_trans (sameB_trans (sameB_trans sb5 (sameB_ex e6)) sb6) (sameB_ex e7)) nfl⟩
        · exact (ks.tk ((t5.trans t6).trans (tupK_upd f6)) kN).app (.cons (pr.tk (tupK_upd f6) nr) .nil)
        · rw [List.all_append, kR]
          show (ruleB β (.tuple [.tuple Cs, d]) && true) = true
          rw [rule_mk, cC, kd, decide_eq_true (by omega)]
          rfl
        · exact noLs_app kN (by show (noL _ && true) = true; rw [nr]; rfl)
    · obtain ⟨x5, x6, us, Es, b, rfl, hfl, hn, ks, kR, kN, ab, ba, S2, sb2⟩ := hI
      refine ⟨_, rfl, fl, us, rfl, .inl ⟨SqL.of hfl, fun tp ntp => ?_⟩⟩
      have e3 := Ex.new (o := .tup us) ntp
      refine ⟨(by show (0:Nat) ≤ sizeLine; exact Nat.zero_le _), fun tn ntn => ?_⟩
      have e4 := Ex.new (o := .tup []) ntn
      refine ⟨_, rfl, _, rfl, p, c, l, n, m, b, rfl, (S2.ex e3).ex e4, nlc, by omega, m1, m6, fun v d H6 kd nd kv S6 sb6 => ⟨(by show (2:Nat) ≤ sizeLine; rw [sizeLine_eq]; omega), fun t2 nt2 => ⟨(by show (1:Nat) ≤ sizeLine; rw [sizeLine_eq]; omega), fun t3 nt3 => ?_⟩⟩⟩
      have e7 := Ex.new (o := .tup [.ref tn, v]) nt2
      have e8 := Ex.new (o := .tup [.ref t2]) nt3
      have S34 := (S2.ex e3).ex e4
      have t36 : TupK H2 H6 := ((tupK_ex e3).trans (tupK_ex e4)).trans (tupK_same S34 sb6)
      have e78 := e7.trans e8
      have gtp : H6 tp = some (.tup us) := tupK_same S34 sb6 _ _ (e4 _ _ upd_same)
      have gtn : H6 tn = some (.tup []) := tupK_same S34 sb6 _ _ upd_same
      have kl : Pt (upd (upd H6 t2 (.tup [.ref tn, v])) t3 (.tup [.ref t2])) (.ref t2) (.tuple [.tuple [], d]) := .tup (e8 _ _ upd_same) (.cons (.tup (e78 _ _ gtn) .nil) (.cons (kv.ex e78) .nil))
      have ks8 : PtAll (upd (upd H6 t2 (.tup [.ref tn, v])) t3 (.tup [.ref t2])) us Es := ks.tk (t36.trans (tupK_ex e78)) kN
      have sb8 := sameB_trans (sameB_trans (sameB_trans (sameB_trans sb2 (sameB_ex e3)) (sameB_ex e4)) sb6) (sameB_ex e78)
      have nl : noLs (Es ++ [.tuple [.tuple [], d]]) = true := noLs_app kN (by show ((true && (noL d && true)) && true) = true; rw [nd]; rfl)
      have hlen : (Es ++ [PyData.tuple [.tuple [], d]]).length ≤ y + 1 := by
        rw [List.length_append, hn]
        show r + 1 ≤ y + 1
        omega
      refine ⟨tp, t3, us, [.ref t2], rfl, rfl, st_of (e78 _ _ gtp), st_of upd_same, by rw [ks.length, hn, sizeLine_eq]; simp only [List.length_cons, List.length_nil]; omega, fun hz => ?_, fun _ z => (by simp at z), fun hz _ t9 nt9 => ?_⟩
      · have he : Es = [] := by
          have := ks.length
          rw [hz] at this
          exact List.length_eq_zero_iff.mp this.symm
        subst he
        refine q _ [.tuple [.tuple [], d]] _ (b + 2) ⟨[], d, rfl, kd, rfl⟩ hlen nl (.tup upd_same (.cons kl .nil)) (by omega) (by omega) (S6.ex e78) sb8
      · have e9 := Ex.new (o := .tup (us ++ [.ref t2])) nt9
        exact q _ _ _ (b + 2) ⟨Es, d, rfl, kd, kR⟩ hlen nl (.tup upd_same ((ks8.app (.cons kl .nil)).ex e9)) (by omega) (by omega) ((S6.ex e78).ex e9) (sameB_trans sb8 (sameB_ex e9))
end
end Dt

/-! k02: the law's own helpers. -/
namespace Dg
open PySem L2 Evl TL Dr
/-- the text of digits, the last one first -/
def ofD (l : List Nat) : Str := ⟨(l.reverse.map (48 + ·)).toArray⟩
theorem str_ext {x y : Str} (h : tl x = tl y) : x = y := by
  cases x
  cases y
  congr 1
  exact Array.toList_inj.mp h
theorem digs_eq (b n : Nat) : digs b n = ofD (dl b n) := str_ext (by rw [tl_digs]; rfl)
theorem ofD_snoc (l : List Nat) (d : Nat) : (⟨#[48 + d]⟩ : Str) ++ ofD l = ofD (l ++ [d]) := str_ext (by
  show (#[48 + d] ++ (l.reverse.map (48 + ·)).toArray).toList = _
  simp [ofD])
theorem ofD_len (l : List Nat) : (ofD l).length = l.length := by
  show (ofD l).cps.size = _
  simp [ofD]
theorem dl_lenB {b : Nat} (hb : 2 ≤ b) : ∀ k n : Nat, n < b ^ k → (dl b n).length ≤ k
  | 0, n, h => by
    have : n = 0 := by
      rw [Nat.pow_zero] at h
      omega
    subst this
    simp [dl_zero]
  | k + 1, n, h => by
    rcases Nat.eq_zero_or_pos n with h0 | h0
    · subst h0
      simp [dl_zero]
    · rw [dl_step hb h0, List.length_cons]
      have := dl_lenB hb k (n / b) (by
        rw [Nat.pow_succ] at h
        exact Nat.div_lt_of_lt_mul (by rw [Nat.mul_comm]; exact h))
      omega
section
variable {P : Program} {w : World} {K : PySem.W.Frag} {mg : Str → Option Value} {base : Heap}
def spLDigits : Sp := fun vs H Q _ => ∃ β n : Nat, vs = [.int β, .int n] ∧ 2 ≤ β ∧ β ≤ 10 ∧ n < 2 ^ 50000 ∧ RetV (.str (digs β n)) H Q
def spLPower : Sp := fun vs H Q _ => ∃ β k : Nat, vs = [.int β, .int k] ∧ 2 ≤ β ∧ β ≤ 10 ∧ k ≤ 100000 ∧ RetV (.int ((β ^ k : Nat) : Int)) H Q
end
end Dg

/-! k03: need_range, changed, near. -/
namespace Dg
open PySem L2 Evl TL
/-- how many digits are changed -/
def ChgIs (β f s m : Nat) : Prop := f / β ^ m = s / β ^ m ∧ ∀ j < m, f / β ^ j ≠ s / β ^ j
theorem ChgIs.uniq {β f s m m' : Nat} (h : ChgIs β f s m) (h' : ChgIs β f s m') : m = m' := by
  rcases Nat.lt_trichotomy m m' with z | z | z
  · exact absurd h.1 (h'.2 m z)
  · exact z
  · exact absurd h'.1 (h.2 m' z)
/-- the least exponent -/
def NearIs (β d k : Nat) : Prop := d ≤ β ^ k ∧ ∀ j < k, β ^ j < d
theorem NearIs.uniq {β d k k' : Nat} (h : NearIs β d k) (h' : NearIs β d k') : k = k' := by
  rcases Nat.lt_trichotomy k k' with z | z | z
  · exact absurd h.1 (Nat.not_le.mpr (h'.2 k z))
  · exact z
  · exact absurd h'.1 (Nat.not_le.mpr (h.2 k' z))
/-- C((v, u)) leaves -/
def LeavesP (C : Addr) (v u : V) (H : Hp) (E : XK) : Prop := ∀ H2 t d, Ex H H2 → H2 t = some (.tup [v, u]) → H2 d = none → E (.ref C) (some d) (upd H2 d (.xd [("value", .ref t)]))
structure TxF3 (K : PySem.W.Frag) (mg : Str → Option Value) (fi fnum fnb fnr : Addr) : Prop extends TxI K mg fi where
  isNum : mg "is_number" = some (.ref fnum)
  kNum : PySem.W.keepIn K (.ref fnum) = true
  needB : mg "need_base" = some (.ref fnb)
  kNB : PySem.W.keepIn K (.ref fnb) = true
  needR : mg "need_range" = some (.ref fnr)
  kNR : PySem.W.keepIn K (.ref fnr) = true
section
variable {P : Program} {w : World} {K : PySem.W.Frag} {mg : Str → Option Value} {base : Heap} {ca : Nat → Addr} {fi fnum fnb fnr : Addr}
def spNeedR (K : PySem.W.Frag) (ca : Nat → Addr) : Sp := fun vs H Q E => ∃ v u b c, vs = [v, u] ∧ Nm K H v b ∧ Nm K H u c ∧ ((b && c) = false → LeavesP (ca 4) v u H E) ∧
  ((b && c) = true → ∃ i j : Int, v = .int i ∧ u = .int j ∧ (j ≤ i → LeavesP (ca 4) v u H E) ∧ (i < j → RetV .non H Q))
theorem scNeedR : FnScope ["first", "second"] ["first", "second"] (defScope sNeedR) := ⟨rfl, rfl, rfl, by decide +kernel, rfl, by decide +kernel, by decide +kernel⟩
theorem ok_needR {f : Addr} {fd fdn : FuncData} (F : Fun K "need_range" "need_range" sNeedR f fd) (GN : FnOk P w K mg base CX0 2 fnum fdn ["value"] (spIsNum K)) (bN : Binds K fdn ["value"] []) (T : TxF3 K mg fi fnum fnb fnr)
    (M : Mks P K mg (ca 4) ["value"]) (gC : mg "BadRange" = some (.ref (ca 4))) : FnOk P w K mg base (L2.CX P w) 3 f fd ["first", "second"] (spNeedR K ca) := by
  refine F.okX scNeedR (fun vs H Q E h => ?_) (fun cdv A outer s H vs Q E hr h => ?_)
  · obtain ⟨v, u, _, _, rfl, _⟩ := h
    rfl
  · obtain ⟨v, u, b, c, rfl, kb, kc, l1, l2⟩ := h
    refine ⟨_, pss_one (ps_if (PW.pt (pw_or (pt_not (pt_val (pe_call GN hr (by rfl) T.isNum T.kNum bN .nil pass0 (pa_cons (pv 0) pa_nil)))) (pw_or (pt_not (pt_val (pe_call GN hr (by rfl) T.isNum T.kNum bN .nil pass0 (pa_cons (pv 1) pa_nil)))) (pw_or1 (pt_cmpR op_ge (pv 0) (pv 1) (nomark _))))))
      (pss_one (ps_raise rfl (takes_of rfl rfl rfl rfl) (pmk_mks M T.sup hr (by simp) (pa_cons (pe_tup (pa_cons (pv 0) (pa_cons (pv 1) pa_nil))) pa_nil) (by rfl) gC))) pss_nil), ?_⟩
    have raise : LeavesP (ca 4) v u H E → ∀ H2, Ex H H2 → tMks (ca 4) ["value"] (tCons (tTup (tCons (tVar 0) (tCons (tVar 1) tNil))) tNil) (L2.start ["first", "second"] [v, u]) H2 (fun cls d H' => E cls d H') := fun lt H2 e2 =>
      ⟨_, rfl, _, rfl, by show (2 : Nat) ≤ sizeLine; rw [sizeLine_eq]; omega, fun t nt => ⟨rfl, fun d hd => lt _ t d (e2.trans (Ex.new nt)) upd_same hd⟩⟩
    have e1 : ∀ {te : TE} {x : V} {r : Bool}, Ev te (L2.start ["first", "second"] [v, u]) H x → Nm K H x r → Ev (tCall (spIsNum K) [] E0 (tCons te tNil)) (L2.start ["first", "second"] [v, u]) H (.bl r) := fun h k =>
      ev_call (ea_cons h ea_nil) fun H1 e Q q E => ⟨_, _, rfl, k.ex e, fun H2 e2 => q H2 e2⟩
    cases hb : (b && c) with
    | false =>
      refine s_when (b := true) (et_is (et_or (et_not (et_B (e1 (ev_var rfl) kb))) fun z => et_or (b := true) (et_not (et_B (e1 (ev_var rfl) kc))) fun y => ?_) ?_) (fun z H2 e2 => raise (l1 hb) H2 e2) (fun z => nomatch z)
      · cases b <;> cases c <;> simp_all
      · cases b <;> cases c <;> simp_all
    | true =>
      obtain ⟨i, j, rfl, rfl, l3, l4⟩ := l2 hb
      have hbb : b = true ∧ c = true := by cases b <;> cases c <;> simp_all
      refine s_when (b := decide (i ≥ j)) (et_is (et_or (et_not (et_B (e1 (ev_var rfl) kb))) fun z => et_or (et_not (et_B (e1 (ev_var rfl) kc))) fun y => et_test (ev_op (ev_var rfl) (ev_var rfl) rv_I0)) ?_) (fun z H2 e2 => raise (l3 (of_decide_eq_true z)) H2 e2) (fun z H2 e2 => l4 (by have := of_decide_eq_false z; omega) H2 e2)
      rw [hbb.1, hbb.2]
      simp
/-- changed, near: the base first, then the range -/
def spRng (K : PySem.W.Frag) (ca : Nat → Addr) (R : Nat → Nat → Nat → Nat → Prop) : Sp := fun vs H Q E => ∃ vb v u a b c, vs = [vb, v, u] ∧ Bs K H vb a ∧ Nm K H v b ∧ Nm K H u c ∧ (a = false → Leaves (ca 1) "value" vb H E) ∧ (a = true → (b && c) = false → LeavesP (ca 4) v u H E) ∧
  (a = true → (b && c) = true → ∃ (β f s : Nat), vb = .int β ∧ 2 ≤ β ∧ β ≤ 10 ∧ ((∃ i j : Int, v = .int i ∧ u = .int j ∧ j ≤ i ∧ LeavesP (ca 4) v u H E) ∨ (v = .int f ∧ u = .int s ∧ f < s ∧ ∀ m, R β f s m → RetV (.int m) H Q)))
abbrev nChg : List Str := ["base", "first", "second", "many"]
theorem scChanged : FnScope nChg ["base", "first", "second"] (defScope sChanged) := ⟨rfl, rfl, rfl, by decide +kernel, rfl, by decide +kernel, by decide +kernel⟩
theorem LeavesP.go {C : Addr} {v u : V} {H H' : Hp} {E : XK} (l : LeavesP C v u H E) (e : Ex H H') : LeavesP C v u H' E := fun H2 t d e2 ht hd => l H2 t d (e.trans e2) ht hd
theorem ok_changed {f : Addr} {fd fdb fdr : FuncData} (F : Fun K "changed" "changed" sChanged f fd) (GB : FnOk P w K mg base (L2.CX P w) 3 fnb fdb ["base"] (spNeed (Bs K) (ca 1))) (bB : Binds K fdb ["base"] [])
    (GR : FnOk P w K mg base (L2.CX P w) 3 fnr fdr ["first", "second"] (spNeedR K ca)) (bR : Binds K fdr ["first", "second"] []) (T : TxF3 K mg fi fnum fnb fnr) : FnOk P w K mg base (L2.CX P w) 4 f fd ["base", "first", "second"] (spRng K ca ChgIs) := by
  refine F.okX scChanged (fun vs H Q E h => ?_) (fun cdv A outer s H vs Q E hr h => ?_)
  · obtain ⟨_, _, _, _, _, _, rfl, _⟩ := h
    rfl
  · obtain ⟨vb, v, u, a, b, c, rfl, ka, kb, kc, l1, l2, hq⟩ := h
    refine ⟨_, pss_cons (ps_expr (pe_callS GB hr (by rfl) T.needB T.kNB bB (fun σ => passAt (takes_of rfl rfl rfl rfl) σ) (pa_cons (pv 0) pa_nil)))
      (pss_cons (ps_expr (pe_callS GR hr (by rfl) T.needR T.kNR bR (fun σ => passAt (takes_of rfl rfl rfl rfl) σ) (pa_cons (pv 1) (pa_cons (pv 2) pa_nil))))
      (pss_cons (ps_set (i := 3) scChanged.nd rfl (.inl rfl) pe_int)
      (pss_cons (ps_while (passes_of rfl) (pt_cmpR op_ne (pv 1) (pv 2) (nomark _))
        (pss_cons (ps_par (i := 1) (j := 2) (by rfl) scChanged.nd rfl rfl (by decide) rfl rfl (pa_cons (pe_op op_fdiv (pv 1) (pv 0)) (pa_cons (pe_op op_fdiv (pv 2) (pv 0)) pa_nil)) (by rfl)) (pss_one (ps_set (i := 3) scChanged.nd rfl (.inl rfl) (pe_op op_add (pv 3) pe_int)))))
      (pss_one (ps_ret (pv 3)))))), ?_⟩
    refine ⟨_, rfl, vb, a, rfl, ka, fun ha H1 e1 => ?_, fun ha => l1 ha⟩
    refine ⟨_, rfl, _, rfl, v, u, b, c, rfl, kb.ex e1, kc.ex e1, fun z => (l2 ha z).go e1, fun z => ?_⟩
    obtain ⟨β, f, s, rfl, b2, b10, alt⟩ := hq ha z
    rcases alt with ⟨i, j, rfl, rfl, hij, lt⟩ | ⟨rfl, rfl, hfs, q⟩
    · exact ⟨i, j, rfl, rfl, fun _ => lt.go e1, fun z => by omega⟩
    · refine ⟨f, s, rfl, rfl, fun z => by omega, fun _ H2 e2 => ?_⟩
      refine q_asg (v := .int 0) ev_c fun H3 e3 => ?_
      refine q_while (fun n σ' H' => Ex H H' ∧ ∃ i f' s' : Nat, σ' = [some (.int β), some (.int f'), some (.int s'), some (.int (i : Int))] ∧ f' = f / β ^ i ∧ s' = s / β ^ i ∧ n = f' + s' ∧ ∀ j < i, f / β ^ j ≠ s / β ^ j) (f + s)
        ⟨(e1.trans e2).trans e3, 0, f, s, rfl, by simp, by simp, rfl, fun j hj => absurd hj (Nat.not_lt_zero j)⟩ (fun n σ' H' ⟨ex, i, f', s', hσ, hf, hs, hn, hne⟩ => ⟨!decide (V.int (f' : Int) = V.int (s' : Int)), ?_, fun z H4 e4 => ?_, fun z H4 e4 => ?_⟩)
      · subst hσ
        exact et_test (ev_op (ev_var rfl) (ev_var rfl) (rv_ne rfl))
      · subst hσ
        have zne : f' ≠ s' := fun y => by
          rw [y] at z
          simp at z
        have lt1 : f' / β + s' / β < f' + s' := by
          rcases Nat.eq_zero_or_pos f' with y | y
          · have y2 : 0 < s' := by omega
            have := Nat.div_lt_self y2 (show 1 < β by omega)
            have := Nat.div_le_self f' β
            omega
          · have := Nat.div_lt_self y (show 1 < β by omega)
            have := Nat.div_le_self s' β
            omega
        refine ⟨fun σ2 H5 => Ex H H5 ∧ σ2 = [some (.int β), some (.int ((f' / β : Nat) : Int)), some (.int ((s' / β : Nat) : Int)), some (.int ((i + 1 : Nat) : Int))], fun σ2 H5 ⟨ex5, a⟩ => ⟨f' / β + s' / β, by omega, ex5, i + 1, f' / β, s' / β, a, by rw [Nat.pow_succ, ← Nat.div_div_eq_div_mul, ← hf], by rw [Nat.pow_succ, ← Nat.div_div_eq_div_mul, ← hs], rfl, fun j hj => ?_⟩, ?_⟩
        · rcases Nat.lt_or_ge j i with y | y
          · exact hne j y
          · have : j = i := by omega
            subst this
            rw [← hf, ← hs]
            exact zne
        · refine ⟨_, rfl, _, rfl, _, _, rfl, rfl, ⟨by omega, by omega⟩, _, rfl, _, rfl, _, _, rfl, rfl, ⟨by omega, by omega⟩, _, _, rfl, ?_⟩
          refine s_asg (i := 3) (v := .int ((i : Int) + 1)) (ev_op (ev_var rfl) ev_c rv_I0) fun H6 e6 => ⟨(ex.trans e4).trans e6, ?_⟩
          rfl
      · subst hσ
        have zeq : f' = s' := by
          have : V.int (f' : Int) = V.int (s' : Int) := by simpa using z
          injection this with this
          omega
        exact ⟨_, rfl, q i ⟨by rw [← hf, ← hs]; exact zeq, hne⟩ H4 (ex.trans e4)⟩
abbrev nNear : List Str := ["base", "first", "second", "exponent", "power"]
theorem scNear : FnScope nNear ["base", "first", "second"] (defScope sNear) := ⟨rfl, rfl, rfl, by decide +kernel, rfl, by decide +kernel, by decide +kernel⟩
theorem ok_near {f : Addr} {fd fdb fdr : FuncData} (F : Fun K "near" "near" sNear f fd) (GB : FnOk P w K mg base (L2.CX P w) 3 fnb fdb ["base"] (spNeed (Bs K) (ca 1))) (bB : Binds K fdb ["base"] [])
    (GR : FnOk P w K mg base (L2.CX P w) 3 fnr fdr ["first", "second"] (spNeedR K ca)) (bR : Binds K fdr ["first", "second"] []) (T : TxF3 K mg fi fnum fnb fnr) : FnOk P w K mg base (L2.CX P w) 4 f fd ["base", "first", "second"] (spRng K ca fun β f s m => NearIs β (s - f) m) := by
  refine F.okX scNear (fun vs H Q E h => ?_) (fun cdv A outer s H vs Q E hr h => ?_)
  · obtain ⟨_, _, _, _, _, _, rfl, _⟩ := h
    rfl
  · obtain ⟨vb, v, u, a, b, c, rfl, ka, kb, kc, l1, l2, hq⟩ := h
    refine ⟨_, pss_cons (ps_expr (pe_callS GB hr (by rfl) T.needB T.kNB bB (fun σ => passAt (takes_of rfl rfl rfl rfl) σ) (pa_cons (pv 0) pa_nil)))
      (pss_cons (ps_expr (pe_callS GR hr (by rfl) T.needR T.kNR bR (fun σ => passAt (takes_of rfl rfl rfl rfl) σ) (pa_cons (pv 1) (pa_cons (pv 2) pa_nil))))
      (pss_cons (ps_set (i := 3) scNear.nd rfl (.inl rfl) pe_int)
      (pss_cons (ps_set (i := 4) scNear.nd rfl (.inl rfl) pe_int)
      (pss_cons (ps_while (passes_of rfl) (pt_cmpR op_lt (pv 4) (pe_op op_sub (pv 2) (pv 1)) (nomark _))
        (pss_cons (ps_set (i := 4) scNear.nd rfl (.inl rfl) (pe_op op_mul (pv 4) (pv 0))) (pss_one (ps_set (i := 3) scNear.nd rfl (.inl rfl) (pe_op op_add (pv 3) pe_int)))))
      (pss_one (ps_ret (pv 3))))))), ?_⟩
    refine ⟨_, rfl, vb, a, rfl, ka, fun ha H1 e1 => ?_, fun ha => l1 ha⟩
    refine ⟨_, rfl, _, rfl, v, u, b, c, rfl, kb.ex e1, kc.ex e1, fun z => (l2 ha z).go e1, fun z => ?_⟩
    obtain ⟨β, f, s, rfl, b2, b10, alt⟩ := hq ha z
    rcases alt with ⟨i, j, rfl, rfl, hij, lt⟩ | ⟨rfl, rfl, hfs, q⟩
    · exact ⟨i, j, rfl, rfl, fun _ => lt.go e1, fun z => by omega⟩
    · refine ⟨f, s, rfl, rfl, fun z => by omega, fun _ H2 e2 => ?_⟩
      refine q_asg (v := .int 0) ev_c fun H3 e3 => ?_
      refine q_asg (v := .int 1) ev_c fun H3 e3' => ?_
      refine q_while (fun n σ' H' => Ex H H' ∧ ∃ i g : Nat, σ' = [some (.int β), some (.int f), some (.int s), some (.int (i : Int)), some (.int (g : Int))] ∧ g = β ^ i ∧ n = (s - f) - g ∧ ∀ j < i, β ^ j < s - f) ((s - f) - 1)
        ⟨((e1.trans e2).trans e3).trans e3', 0, 1, rfl, by simp, rfl, fun j hj => absurd hj (Nat.not_lt_zero j)⟩ (fun n σ' H' ⟨ex, i, g, hσ, hg, hn, hne⟩ => ⟨decide ((g : Int) < (s : Int) - (f : Int)), ?_, fun z H4 e4 => ?_, fun z H4 e4 => ?_⟩)
      · subst hσ
        exact et_test (ev_op (ev_var rfl) (ev_op (ev_var rfl) (ev_var rfl) rv_I0) rv_I0)
      · subst hσ
        have zlt := of_decide_eq_true z
        have g1 : 1 ≤ g := by
          rw [hg]
          exact Nat.one_le_pow _ _ (by omega)
        have g2 : g < g * β := by
          have : g * 2 ≤ g * β := Nat.mul_le_mul_left _ b2
          omega
        refine ⟨fun σ2 H5 => Ex H H5 ∧ σ2 = [some (.int β), some (.int f), some (.int s), some (.int ((i + 1 : Nat) : Int)), some (.int ((g * β : Nat) : Int))], fun σ2 H5 ⟨ex5, a⟩ => ⟨(s - f) - g * β, by omega, ex5, i + 1, g * β, a, by rw [Nat.pow_succ, ← hg], rfl, fun j hj => ?_⟩, ?_⟩
        · rcases Nat.lt_or_ge j i with y | y
          · exact hne j y
          · have : j = i := by omega
            subst this
            rw [← hg]
            omega
        · refine q_asg (v := .int ((g : Int) * (β : Int))) (ev_op (ev_var rfl) (ev_var rfl) (rv_I (.inr ⟨by omega, by omega⟩))) fun H5 e5 => ?_
          refine s_asg (i := 3) (v := .int ((i : Int) + 1)) (ev_op (ev_var rfl) ev_c rv_I0) fun H6 e6 => ⟨((ex.trans e4).trans e5).trans e6, ?_⟩
          rw [← Int.natCast_mul]
          rfl
      · subst hσ
        have zge := of_decide_eq_false z
        exact ⟨_, rfl, q i ⟨by rw [← hg]; omega, hne⟩ H4 (ex.trans e4)⟩
end
end Dg

/-! k03: digits and what is changed, as lists. -/
namespace Dg
open PySem L2 Evl TL
theorem dl_inj {β : Nat} (hb : 2 ≤ β) : ∀ a b : Nat, dl β a = dl β b → a = b := by
  intro a
  induction a using Nat.strongRecOn with
  | _ a ih =>
    intro b h
    rcases Nat.eq_zero_or_pos a with z | z
    · rcases Nat.eq_zero_or_pos b with y | y
      · omega
      · rw [z, dl_zero, dl_step hb y] at h
        cases h
    · rcases Nat.eq_zero_or_pos b with y | y
      · rw [y, dl_zero, dl_step hb z] at h
        cases h
      · rw [dl_step hb z, dl_step hb y] at h
        injection h with h1 h2
        have := ih (a / β) (Nat.div_lt_self z (by omega)) _ h2
        have e1 := Nat.div_add_mod a β
        have e2 := Nat.div_add_mod b β
        rw [← e1, ← e2, this, h1]
theorem dl_drop {β : Nat} (hb : 2 ≤ β) : ∀ m n : Nat, dl β (n / β ^ m) = (dl β n).drop m
  | 0, n => by simp
  | m + 1, n => by
    rw [Nat.pow_succ, ← Nat.div_div_eq_div_mul]
    rw [show m + 1 = m + 1 from rfl, ← List.drop_drop, ← dl_drop hb m n]
    rcases Nat.eq_zero_or_pos (n / β ^ m) with z | z
    · rw [z]
      simp [dl_zero]
    · rw [dl_step hb z]
      rfl
theorem dl_mono {β : Nat} (hb : 2 ≤ β) {f s : Nat} (h : f ≤ s) : (dl β f).length ≤ (dl β s).length := by
  have h1 : (dl β (s / β ^ (dl β s).length)) = [] := by
    rw [dl_drop hb]
    simp
  have h2 : s / β ^ (dl β s).length = 0 := dl_inj hb _ _ (by rw [h1, dl_zero])
  have h3 : f / β ^ (dl β s).length = 0 := by
    have y := Nat.div_le_div_right (c := β ^ (dl β s).length) h
    rw [h2] at y
    exact Nat.le_zero.mp y
  have h4 : dl β (f / β ^ (dl β s).length) = [] := by rw [h3, dl_zero]
  rw [dl_drop hb] at h4
  exact List.drop_eq_nil_iff.mp h4
/-- what the tops of equal length tell -/
theorem chg_same {β f s k : Nat} (hb : 2 ≤ β) (hl : (dl β f).length = (dl β s).length) (hk : k < (dl β f).length) (h1 : (dl β f).reverse.take k = (dl β s).reverse.take k) (h2 : (dl β f).reverse.take (k + 1) ≠ (dl β s).reverse.take (k + 1)) : ChgIs β f s ((dl β s).length - k) := by
  have key : ∀ j, (dl β f).drop ((dl β f).length - j) = ((dl β f).reverse.take j).reverse := fun j => by
    rw [← List.reverse_reverse (dl β f)]
    rw [List.drop_reverse]
    simp only [List.reverse_reverse, List.length_reverse]
    congr 1
    rcases Nat.le_total j (dl β f).length with y | y
    · congr 1
      omega
    · rw [show (dl β f).length - j = 0 by omega]
      rw [List.take_of_length_le (by simp), List.take_of_length_le (by simpa using y)]
  have key2 : ∀ j, (dl β s).drop ((dl β s).length - j) = ((dl β s).reverse.take j).reverse := fun j => by
    rw [← List.reverse_reverse (dl β s)]
    rw [List.drop_reverse]
    simp only [List.reverse_reverse, List.length_reverse]
    congr 1
    rcases Nat.le_total j (dl β s).length with y | y
    · congr 1
      omega
    · rw [show (dl β s).length - j = 0 by omega]
      rw [List.take_of_length_le (by simp), List.take_of_length_le (by simpa using y)]
  have hne : f / β ^ ((dl β s).length - k - 1) ≠ s / β ^ ((dl β s).length - k - 1) := fun e => by
    have e2 : (dl β f).drop ((dl β s).length - k - 1) = (dl β s).drop ((dl β s).length - k - 1) := by rw [← dl_drop hb, ← dl_drop hb, e]
    rw [show (dl β s).length - k - 1 = (dl β s).length - (k + 1) by omega] at e2
    rw [key2, ← hl, key] at e2
    exact h2 (List.reverse_inj.mp e2)
  refine ⟨dl_inj hb _ _ ?_, fun j hj e => hne ?_⟩
  · rw [dl_drop hb, dl_drop hb, key2, ← hl, key, h1]
  · have e3 : ∀ n, n / β ^ ((dl β s).length - k - 1) = n / β ^ j / β ^ ((dl β s).length - k - 1 - j) := fun n => by
      rw [Nat.div_div_eq_div_mul, ← Nat.pow_add, show j + ((dl β s).length - k - 1 - j) = (dl β s).length - k - 1 by omega]
    rw [e3, e3, e]
theorem chg_diff {β f s : Nat} (hb : 2 ≤ β) (hl : (dl β f).length < (dl β s).length) : ChgIs β f s (dl β s).length := by
  refine ⟨dl_inj hb _ _ ?_, fun j hj e => ?_⟩
  · rw [dl_drop hb, dl_drop hb, List.drop_of_length_le (by omega), List.drop_of_length_le (Nat.le_refl _)]
  · have e2 : (dl β f).drop ((dl β s).length - 1) = (dl β s).drop ((dl β s).length - 1) := by
      rw [← dl_drop hb, ← dl_drop hb]
      have e3 : ∀ n, n / β ^ ((dl β s).length - 1) = n / β ^ j / β ^ ((dl β s).length - 1 - j) := fun n => by
        rw [Nat.div_div_eq_div_mul, ← Nat.pow_add, show j + ((dl β s).length - 1 - j) = (dl β s).length - 1 by omega]
      rw [e3, e3, e]
    have e4 := congrArg List.length e2
    rw [List.length_drop, List.length_drop] at e4
    omega
theorem chg_pos {β f s m : Nat} (h : f < s) (c : ChgIs β f s m) : 0 < m := by
  rcases Nat.eq_zero_or_pos m with z | z
  · subst z
    have := c.1
    simp at this
    omega
  · exact z
theorem chg_len {β f s m : Nat} (hb : 2 ≤ β) (h : f < s) (c : ChgIs β f s m) : m ≤ (dl β s).length := by
  rcases Nat.lt_or_ge (dl β s).length m with z | z
  · refine absurd ?_ (c.2 _ z)
    refine dl_inj hb _ _ ?_
    rw [dl_drop hb, dl_drop hb, List.drop_of_length_le (dl_mono hb (Nat.le_of_lt h)), List.drop_of_length_le (Nat.le_refl _)]
  · exact z
theorem near_chg {β f s m k : Nat} (hb : 2 ≤ β) (h : f < s) (c : ChgIs β f s m) (n : NearIs β (s - f) k) : k ≤ m := by
  rcases Nat.lt_or_ge m k with z | z
  · have h1 : β ^ m < s - f := n.2 m z
    have h2 : f / β ^ m = s / β ^ m := c.1
    have p : 0 < β ^ m := Nat.pow_pos (by omega)
    have e1 := Nat.div_add_mod f (β ^ m)
    have e2 := Nat.div_add_mod s (β ^ m)
    have l2 := Nat.mod_lt s p
    rw [h2] at e1
    generalize β ^ m * (s / β ^ m) = y at e1 e2
    generalize f % β ^ m = r1 at e1
    generalize s % β ^ m = r2 at e2 l2
    omega
  · exact z
theorem near_len {β d k : Nat} (hb : 2 ≤ β) {z : Nat} (hd : d < 2 ^ z) (n : NearIs β d k) : k ≤ z := by
  rcases Nat.lt_or_ge z k with y | y
  · have h1 : β ^ z < d := n.2 z y
    have h2 : 2 ^ z ≤ β ^ z := Nat.pow_le_pow_left hb z
    omega
  · exact y
theorem tl_cut1 (x : Str) : tl (cutS x none (some 1)) = (tl x).take 1 := by
  show (((x.cps.toList.drop (HT.sIx x.length 0 none)).take (HT.sIx x.length x.length (some 1) - HT.sIx x.length 0 none)).toArray).toList = x.cps.toList.take 1
  have h : x.length = x.cps.toList.length := Array.length_toList.symm
  rw [HT.sIx_none, show ((1 : Int)) = ((1 : Nat) : Int) from rfl, HT.sIx_nat, h]
  cases x.cps.toList with
  | nil => rfl
  | cons a l => simp
theorem tl_cut2 (x : Str) : tl (cutS x (some 1) none) = (tl x).drop 1 := by
  show (((x.cps.toList.drop (HT.sIx x.length 0 (some 1))).take (HT.sIx x.length x.length none - HT.sIx x.length 0 (some 1))).toArray).toList = x.cps.toList.drop 1
  have h : x.length = x.cps.toList.length := Array.length_toList.symm
  rw [HT.sIx_none, show ((1 : Int)) = ((1 : Nat) : Int) from rfl, HT.sIx_nat, h]
  cases x.cps.toList with
  | nil => rfl
  | cons a l => simp
end Dg

/-! The end of a law whose defs make lambdas and call repr. -/
namespace LamR
open PySem PySem.Spec PyProof.Rows L2 LamX
/-- a table of code objects, still empty -/
abbrev bare : Obj := { cls := .none, data := .fields #[] }
/-- what is known where the law is called; cs: code objects with their tables -/
structure HeadAt (K : PySem.W.Frag) (mg mb : Str → Option Value) (cs : List (Addr × Addr)) (s : Shared) : Prop where
  kin : K.In s.heap
  glob : s.heap.Ns mainGlobals mg
  blt : s.heap.Ns builtinsNs mb
  boot : ∀ x : Str, x ≠ "__name__" → mb x = bootBuiltins x
  lim : s.heap.NoLimit
  gens : s.gens = #[]
  tab : ∀ p ∈ cs, s.heap.get? p.2 = some bare
  off : ∀ p ∈ cs, K.lookup p.2 = none
  cod : ∀ p ∈ cs, PySem.W.CodeHd s.heap p.1 p.2
  bmod : ∃ (m : Addr) (o : Obj), mg "__builtins__" = some (.ref m) ∧ m ≠ builtinsNs ∧ s.heap.get? m = some o ∧ o.cls = .type "module" ∧ o.dict = some builtinsNs ∧ o.data = .plain
/-- what is followed: the tables, and the script where the written part has it not -/
structure Hid (K : PySem.W.Frag) (cs : List (Addr × Addr)) (a : Addr) (H : Hp) : Prop where
  only : ∀ b, H b ≠ none → b = a ∨ ∃ p ∈ cs, b = p.2
  mine : H a = none ∨ (K.lookup a = none ∧ ∃ o xs, H a = some (.frz o (.lst xs)))
  tabs : ∀ p ∈ cs, H p.2 = some (.tbl #[])
section
variable {P : Program} {w : World} {K : PySem.W.Frag} {mg mb : Str → Option Value} {cs : List (Addr × Addr)} {s : Shared} {a : Addr} {H : Hp} {vs : List Value}
/-- neither a list nor an empty row of fields: it is not followed -/
theorem Hid.out (h : Hid K cs a H) (D : HeadAt K mg mb cs s) (ha : s.heap.get? a = some { cls := .type "list", data := .seq vs.toArray }) {b : Addr} {o : Obj} (e : s.heap.get? b = some o) (nl : ∀ us n, o.data ≠ .seq us n) (nf : o.data ≠ .fields #[]) : H b = none := by
  by_cases z : H b = none
  · exact z
  · exfalso
    rcases h.only b z with q | ⟨p, hp, q⟩ <;> subst q
    · cases ha.symm.trans e
      exact nl _ _ rfl
    · cases (D.tab p hp).symm.trans e
      exact nf rfl
theorem Hid.stays (h : Hid K cs a H) (D : HeadAt K mg mb cs s) (ha : s.heap.get? a = some { cls := .type "list", data := .seq vs.toArray }) {b : Addr} {o : Obj} (e : s.heap.get? b = some o) (nl : ∀ us n, o.data ≠ .seq us n) (nf : o.data ≠ .fields #[]) : (hidT s.heap H).get? b = some o := hidT_get e (h.out D ha e nl nf)
theorem Hid.names (h : Hid K cs a H) (D : HeadAt K mg mb cs s) (ha : s.heap.get? a = some { cls := .type "list", data := .seq vs.toArray }) {b : Addr} {m : Str → Option Value} (n : s.heap.Ns b m) : (hidT s.heap H).Ns b m := by
  obtain ⟨o, es, ep, e, d, r⟩ := n
  refine ⟨o, es, ep, h.stays D ha e (fun us n z => ?_) (fun z => ?_), d, r⟩ <;> cases d.symm.trans z
theorem Hid.frag (h : Hid K cs a H) (D : HeadAt K mg mb cs s) : K.In (hidT s.heap H) := fun b o e => by
  refine hidT_get (D.kin b o e) ?_
  by_cases z : H b = none
  · exact z
  · exfalso
    rcases h.only b z with q | ⟨p, hp, q⟩ <;> subst q
    · rcases h.mine with y | ⟨y, _⟩
      · exact z y
      · cases y.symm.trans e
    · cases (D.off p hp).symm.trans e
theorem Hid.table (h : Hid K cs a H) (D : HeadAt K mg mb cs s) (ha : s.heap.get? a = some { cls := .type "list", data := .seq vs.toArray }) : ∀ p ∈ cs, TabB (hidT s.heap H) mg p.1 p.2 := fun p hp => by
  have tp := D.tab p hp
  have gl := D.glob
  refine ⟨?_, ?_, fun z => ?_⟩
  · obtain ⟨o, us, file, tf, flags, tg, inF, text, tt, e1, k1, k2, k3, rest⟩ := D.cod p hp
    refine ⟨o, us, file, tf, flags, tg, inF, text, tt, h.stays D ha e1 (fun vs n z => ?_) (fun z => ?_), k1, k2, k3, rest⟩
    · cases k2.symm.trans z
    · cases k2.symm.trans z
      simp at k3
  · obtain ⟨m, o, y1, y2, y3, y4, y5, y6⟩ := D.bmod
    refine ⟨m, o, y1, y2, fun q => ?_, fun q => ?_, h.stays D ha y3 (fun vs n z => ?_) (fun z => ?_), y4, y5, y6⟩
    · obtain ⟨o', es, ep, e', d', _⟩ := gl
      subst q
      cases y3.symm.trans e'
      cases y6.symm.trans d'
    · subst q
      cases y3.symm.trans tp
      cases y6
    · cases y6.symm.trans z
    · cases y6.symm.trans z
  · obtain ⟨o', es, ep, e', d', _⟩ := gl
    rw [z] at e'
    cases tp.symm.trans e'
    cases d'
/-- the call of the law, at what is followed -/
theorem call_at {CX : CXT} {k : Nat} {fa : Addr} {fd : FuncData} {x : Str} {sp : Sp} (h : Hid K cs a H) (D : HeadAt K mg mb cs s) (ha : s.heap.get? a = some { cls := .type "list", data := .seq vs.toArray }) (ok : HOk P w H s.heap) (hr : RoomG k callerA)
    (F : ∀ base : Heap, K.In base → base.Ns mainGlobals mg → (∀ p ∈ cs, TabB base mg p.1 p.2) → FnG P w K mg base CX k fa fd [x] sp) (hb : BindsTo s fd ⟨[.ref a], []⟩ [(x, .ref a)]) (hsp : sp [.ref a] H (fun v _ => v = .bl true) fun _ _ _ => False) (hCX : ∀ e s', CX [] H s (fun _ _ _ => False) e s' → False) :
    codeAny (model P w) callerA (.call (.ref fa) ⟨[.ref a], []⟩) (fun r s' => r = .ok (.ret (.bool true)) ∧ OldK s.heap s'.heap ∧ s'.os = s.os ∧ AllBare s'.gens) s := by
  have fr := h.frag D
  have gl := h.names D ha D.glob
  obtain ⟨mc, lim1, lim2⟩ := D.lim
  have env : Env0 P w K mg (hidT s.heap H) callerA [] s H :=
    ⟨rfl, ⟨fr, gl, ⟨mb, h.names D ha D.blt, D.boot⟩, ⟨mc, h.names D ha lim1, lim2⟩⟩, fun b o e => of_hidT e, Nat.le_of_eq (hidT_size _ _), trivial, fun b z => absurd (show b ∈ ([] : List Addr) from z) (by simp), ok, .of_eq D.gens⟩
  refine codeAny_mono ((F _ fr gl (h.table D ha)).run callerA [] s H ⟨[.ref a], []⟩ [.ref a] [.ref a] _ _ hr env hb (.cons rfl .nil) hsp) fun r s' hq => ?_
  match r, hq with
  | .error e, hq => exact (hCX e s' hq).elim
  | .ok (.ret u), ⟨v, H', os, gens, un, ok', rel, q⟩ =>
    have q : v = .bl true := q
    subst q
    have rel : u = Value.bool true := rel
    subst rel
    -- what was there is there still, but for the tables, which may have grown
    have old : ∀ b o, (∀ p ∈ cs, b ≠ p.2) → s.heap.get? b = some o → s'.heap.get? b = some o := fun b o nb e => by
      by_cases z : H b = none
      · exact un.keep b o e z (fun y => absurd (show b ∈ ([] : List Addr) from y) (by simp)) (by simp)
      · rcases h.only b z with y | ⟨p, hp, y⟩
        · subst y
          rcases h.mine with y | ⟨_, ob, xs, y⟩
          · exact (z y).elim
          · have g1 := (ok b _ y).1
            have g2 := (ok' b _ (un.frzs b ob _ y)).1
            cases e.symm.trans g1
            exact g2
        · exact (nb p hp y).elim
    have more : ∀ p ∈ cs, ∃ us : Array Value, s'.heap.get? p.2 = some { cls := .none, data := .fields us } := fun p hp =>
      let ⟨us, y⟩ := un.tbls p.2 #[] (h.tabs p hp)
      ⟨_, ok' p.2 _ y⟩
    refine ⟨rfl, ⟨fun b o e => ?_, fun b o e => ?_⟩, os, gens⟩
    · by_cases y : ∃ p ∈ cs, b = p.2
      · obtain ⟨p, hp, rfl⟩ := y
        obtain ⟨us, g⟩ := more p hp
        have tp := D.tab p hp
        cases tp.symm.trans e
        exact .inr (.inl ⟨((D.cod p hp).tab tp).isCodeTable, rfl, #[], us, rfl, by rw [Array.empty_append]; exact g⟩)
      · exact .inl (old b o (fun p hp z => y ⟨p, hp, z⟩) e)
    · by_cases y : ∃ p ∈ cs, b = p.2
      · obtain ⟨p, hp, rfl⟩ := y
        obtain ⟨us, g⟩ := more p hp
        exact ⟨_, g⟩
      · exact ⟨o, old b o (fun p hp z => y ⟨p, hp, z⟩) e⟩
  | .ok .next, hq => exact False.elim hq
  | .ok .brk, hq => exact False.elim hq
  | .ok .cont, hq => exact False.elim hq
/-- the script is followed as a list that stays, or stands in the written part -/
theorem call_law {CX : CXT} {k : Nat} {fa : Addr} {fd : FuncData} {x : Str} {sp : Sp} {ns : List Int} (D : HeadAt K mg mb cs s) (ha : s.heap.get? a = some { cls := .type "list", data := .seq vs.toArray }) (hi : IntsAre vs ns) (hl : ns.length ≤ sizeLine) (hr : RoomG k callerA)
    (F : ∀ base : Heap, K.In base → base.Ns mainGlobals mg → (∀ p ∈ cs, TabB base mg p.1 p.2) → FnG P w K mg base CX k fa fd [x] sp) (hb : ∀ u : Value, BindsTo s fd ⟨[u], []⟩ [(x, u)])
    (hsp : ∀ H : Hp, (∀ p ∈ cs, H p.2 = some (.tbl #[])) → SqL K H a (ns.map V.int) → sp [.ref a] H (fun v _ => v = .bl true) fun _ _ _ => False) (hCX : ∀ H e s', CX [] H s (fun _ _ _ => False) e s' → False) :
    codeAny (model P w) callerA (.call (.ref fa) ⟨[.ref a], []⟩) (fun r s' => r = .ok (.ret (.bool true)) ∧ OldK s.heap s'.heap ∧ s'.os = s.os ∧ AllBare s'.gens) s := by
  have rel := vals_ints hi
  have na : ∀ p ∈ cs, p.2 ≠ a := fun p hp z => by
    have tp := D.tab p hp
    rw [z] at tp
    cases ha.symm.trans tp
  have tabled : ∀ b, (∃ p ∈ cs, b = p.2) → s.heap.get? b = some bare := fun b ⟨p, hp, z⟩ => by
    rw [z]
    exact D.tab p hp
  classical
  let own : Option HO := if K.lookup a = none then some (.frz { cls := .type "list", data := .seq vs.toArray } (.lst (ns.map V.int))) else none
  let H : Hp := fun b => if b = a then own else if ∃ p ∈ cs, b = p.2 then some (.tbl #[]) else none
  have Ha : H a = own := if_pos rfl
  have Ht : ∀ p ∈ cs, H p.2 = some (.tbl #[]) := fun p hp => (if_neg (na p hp)).trans (if_pos ⟨p, hp, rfl⟩)
  have Hid0 : Hid K cs a H := by
    refine ⟨fun b z => ?_, ?_, Ht⟩
    · by_cases y : b = a
      · exact .inl y
      · by_cases y2 : ∃ p ∈ cs, b = p.2
        · exact .inr y2
        · exact (z ((if_neg y).trans (if_neg y2))).elim
    · rw [Ha]
      by_cases y : K.lookup a = none
      · exact .inr ⟨y, _, _, if_pos y⟩
      · exact .inl (if_neg y)
  have seq : SqL K H a (ns.map V.int) := by
    cases y : K.lookup a with
    | none => exact .inl (.inr ⟨_, Ha.trans (if_pos y)⟩)
    | some o =>
      cases (D.kin a o y).symm.trans ha
      exact .inr ⟨_, vs.toArray, _, y, rfl, rfl, rfl, by rw [List.size_toArray, hi.length]; exact hl, by simpa using rel⟩
  have ok : HOk P w H s.heap := fun b u z => by
    by_cases y : b = a
    · subst y
      rw [Ha] at z
      by_cases y2 : K.lookup b = none
      · cases (if_pos y2).symm.trans z
        exact ⟨ha, by rw [List.length_map]; exact hl, vs, _, rel, ha⟩
      · cases (if_neg y2).symm.trans z
    · by_cases y2 : ∃ p ∈ cs, b = p.2
      · cases ((if_neg y).trans (if_pos y2)).symm.trans z
        exact tabled b y2
      · cases ((if_neg y).trans (if_neg y2)).symm.trans z
  exact call_at Hid0 D ha ok hr F (hb _) (hsp H Ht seq) fun e s' => hCX H e s'
end
/-- the whole walk -/
theorem walk_T {l : PySem.W.OpenLaw} {n k : Nat} {q : Program} {loose : List Str} {XP : (Str → Option Value) → Heap → Prop} {YP : World → Heap → Prop} {d : DefRec} {K : Params → PySem.W.Frag} {CX : World → CXT} {x : Str} {cs : List (Addr × Addr)} {sp : World → Sp}
    (hn : l.most = some n) (hn2 : n ≤ sizeLine) (hdf : d.params.defaults = []) (hr : RoomG k callerA) (hY : ∀ (w : World) (h : Heap), YP w h → (K w.params).In h)
    (hT : ∀ (w : World) (h : Heap), YP w h → ∀ p ∈ cs, h.get? p.2 = some bare) (nT : ∀ w : World, ∀ p ∈ cs, (K w.params).lookup p.2 = none) (hC : ∀ w : World, ∀ p ∈ cs, PySem.W.codeHdIn (K w.params) p.1 p.2 = true)
    (F : ∀ (w : World) (mg : Str → Option Value) (fa : Addr) (h : Heap), (K w.params).In h → h.Ns mainGlobals mg → mg d.name = some (.ref fa) → ∃ fd : FuncData, (∀ (s : Shared) (u : Value), BindsTo s fd ⟨[u], []⟩ [(x, u)]) ∧
      ∀ base : Heap, (K w.params).In base → base.Ns mainGlobals mg → (∀ p ∈ cs, TabB base mg p.1 p.2) → FnG l.prog w (K w.params) mg base (CX w) k fa fd [x] (sp w))
    (hsp : ∀ (w : World) (H : Hp) (a : Addr) (ns : List Int), ns.length ≤ n → (∀ p ∈ cs, H p.2 = some (.tbl #[])) → SqL (K w.params) H a (ns.map V.int) → sp w [.ref a] H (fun v _ => v = .bl true) fun _ _ _ => False)
    (hCX : ∀ (w : World) (H : Hp) (s : Shared) (e : Value) (s' : Shared), CX w [] H s (fun _ _ _ => False) e s' → False) :
    PySem.W.WalkO q loose XP YP l.row.toRowW d [] (fun f vs => PySem.call f vs) := by
  refine Att.attach_call hn hdf fun w s₀ s₁ mg mb fa o pm cd doc a vs ns G Y _ _ _ hmg hobj hints hlen hg => ?_
  have kin := hY w _ Y
  obtain ⟨fd, hb, hF⟩ := F w mg fa _ kin G.T.g hmg
  exact call_law ⟨kin, G.T.g, G.T.b, G.T.builtins, G.T.nolimit, hg, hT w _ Y, nT w, fun p hp => PySem.W.codeHd_of_K kin (hC w p hp), G.T.bmain⟩ hobj hints (Nat.le_trans hlen hn2) hr hF (hb s₁) (fun H hH hS => hsp w H a ns hlen hH hS) fun H e s' => hCX w H s₁ e s'
end LamR

/-! enumerate over a tuple. -/
namespace PySem
open Sem (wp)
theorem meets_enumerate_newB1 {v : Value} {o : Obj} {H : Heap → Prop} (B : Begins v o H) :
    Meets (Builtin.«enumerate.__new__» ⟨[.type "enumerate", v], []⟩) (fun _ R s => H s.heap ∧
      R (.ok (.ret (.ref (s.heap.push o).objs.size))) { s with heap := (s.heap.push o).push { cls := .type "enumerate", data := .fields #[.none, .bool false, .ref s.heap.objs.size, rawInt 0, .none, .none] } }) :=
  .of_wp fun prog w A R s h => by
    obtain ⟨hp, g, d, tk, os⟩ := s; obtain ⟨h1, h⟩ := h
    have hsub := sub_enumerate
    have q1 : ∀ {A' : Around} {E : Value → Shared → Prop} {Q : Value → Shared → Prop}, Q (.ref hp.objs.size) ⟨hp.push o, g, d, tk, os⟩ → wpAny (model prog w) A' (pyIter v) Q E ⟨hp, g, d, tk, os⟩ :=
      fun q => B.iter prog w _ _ ⟨hp, g, d, tk, os⟩ _ h1 q
    wp_walk using q1
    refine wpAny_stack_any fun st => wpAny_pure ?_
    split
    · rename_i c _ _ _ _ _
      cases (c == Value.type "enumerate")
      · wp_walk using q1
        exact ⟨_, rfl, h⟩
      · wp_walk using q1
        exact ⟨_, rfl, h⟩
    · wp_walk using q1
      exact ⟨_, rfl, h⟩
section
variable {prog : Program} {w : World} {A : Around} {E : Value → Shared → Prop} {s : Shared}
theorem call_enumerate_tuple {l : Addr} {items : Array Value} {Q : Value → Shared → Prop} (hL : s.heap.IsTuple l items)
    (h : ∀ h', IsEnum h' (s.heap.objs.size + 1) s.heap.objs.size 0 .none → h'.IsTupleIter s.heap.objs.size l 0 → h'.objs.size = s.heap.objs.size + 2 →
      (∀ b o, s.heap.get? b = some o → h'.get? b = some o) → Q (.ref (s.heap.objs.size + 1)) { s with heap := h' }) :
    wpAny (model prog w) A (call (.type "enumerate") [.ref l]) Q E s := by
  refine callType_new F.called_enumerate (by decide) (F.typeCall_enumerate_1 _) (F.newCall_enumerate_1 _) (fun obj => F.args_object_init_2 obj _) F.entry_enumerate_new
    (meets_enumerate_newB1 (begins_tuple l items)) ⟨hL, ?_⟩
  have hz : (s.heap.push { cls := .type "tuple_iterator", data := .fields #[.ref l, .int 0 0] }).objs.size = s.heap.objs.size + 1 := Heap.size_push ..
  show _ ∧ _
  rw [hz]
  have he : IsEnum ((s.heap.push { cls := .type "tuple_iterator", data := .fields #[.ref l, .int 0 0] }).push
      { cls := .type "enumerate", data := .fields #[.none, .bool false, .ref s.heap.objs.size, rawInt 0, .none, .none] }) (s.heap.objs.size + 1) s.heap.objs.size 0 .none := by
    have := Heap.get?_push_size (s.heap.push { cls := .type "tuple_iterator", data := .fields #[.ref l, .int 0 0] })
      (o := { cls := .type "enumerate", data := .fields #[.none, .bool false, .ref s.heap.objs.size, rawInt 0, .none, .none] }) rfl
    rw [hz] at this; exact this
  refine ⟨⟨_, he, rfl⟩, h _ he ⟨_, Heap.get?_push_of_some _ (Heap.get?_push_size _ rfl), rfl, rfl⟩ (by rw [Heap.size_push, hz]) fun b o x => Heap.get?_push_of_some _ (Heap.get?_push_of_some _ x)⟩
end
end PySem
namespace L2
open PySem PySem.Spec PyProof.Rows
/-- the tuple at a at each turn, each item in a new pair -/
def IteT (K : PySem.W.Frag) (a : Addr) : It :=
  ⟨fun i H => ∃ (xs : List V) (x : V), SqT K H a xs ∧ xs[i]? = some x, fun i H v H' => ∃ T x, v = .ref T ∧ H T = none ∧ H' = upd H T (.tup [.int (i : Nat), x]) ∧ ∀ xs, SqT K H a xs → xs[i]? = some x, fun i H => ∃ xs : List V, SqT K H a xs ∧ xs.length = i⟩
theorem turn_enumT {P : Program} {w : World} {K : PySem.W.Frag} {elts : List Expr} {kk : Nat} {tpos : Pos} (a e it : Addr) :
    Turn P w K (.Tuple elts kk tpos) (IteT K a) [e, it] e (fun i h => (∃ old, IsEnum h e it ((i : Nat) : Int) old) ∧ h.IsTupleIter it a i ∧ e ≠ it) where
  mem := by simp
  obj := fun i h st b hb => by
    obtain ⟨⟨old, he⟩, ⟨o, ho, hc, hd⟩, _⟩ := st
    have e' : b = e ∨ b = it := by simpa using hb
    rcases e' with z | z
    · rw [z]; exact ⟨_, he, fun v q => nomatch q⟩
    · rw [z]; exact ⟨o, ho, fun v q => by rw [hd] at q; cases q⟩
  keep := fun i h h' st k => let ⟨⟨old, he⟩, hi, hne⟩ := st; ⟨⟨old, k e (by simp) _ he⟩, hi.at fun o q => k it (by simp) o q, hne⟩
  item := by
    intro X hP hw hK hc i pins s σ H E I hf st hg
    subst hP hw hK
    obtain ⟨⟨old, he⟩, hit, hne⟩ := st
    obtain ⟨xs, x, hq, hx⟩ := hg
    obtain ⟨its, rv, p, hz⟩ := I.tuple hq
    have pt : s.heap.IsTuple a its.toArray := p
    obtain ⟨u, hu, ru⟩ := rv.get hx
    have hel : e < s.heap.objs.size := Heap.lt_size he
    have hil : it < s.heap.objs.size := by obtain ⟨_, q, _⟩ := hit; exact Heap.lt_size q
    have hae : e ≠ a := fun z => by
      obtain ⟨o, ho, hc', _⟩ := id pt
      rw [← z] at ho
      cases ho.symm.trans he
      exact absurd hc' (by show ¬ (Value.type "enumerate" = .type "tuple"); decide +kernel)
    have hai : a ≠ it := fun z => by
      obtain ⟨o, ho, hc', _⟩ := id pt
      obtain ⟨o2, ho2, hc2, _⟩ := id hit
      rw [z] at ho
      cases ho.symm.trans ho2
      exact absurd (hc'.symm.trans hc2) (by decide +kernel)
    have hlt : i < its.toArray.size := by
      have := (List.getElem?_eq_some_iff.mp hu).1
      simpa using this
    have hcm : X.A.in1.handled = none := I.ok.hd hc
    refine wpAny_pyNext_enum_itemD (Draws.tuple hcm it a hai its.toArray) he ⟨hit, pt⟩ hlt hne (by simp [hne, hae]) fun x' h' tk hPx ho st' hT hsz hk => ?_
    have exu : x' = u := by
      have : its[i]? = some x' := by simpa using hPx
      rw [hu] at this
      exact (Option.some.inj this).symm
    subst exu
    obtain ⟨hit', _⟩ := st'
    refine ⟨_, rfl, wpAny_letOwnedTupleGo_enum (s := { s with heap := h', toks := tk + 1 }) ho fun h'' he' sb => ?_⟩
    have hT2 : h''.get? s.heap.objs.size = some { cls := .type "tuple", data := .seq #[.int i tk, x'] } := (sb.2 _ (Nat.ne_of_gt hel)).trans hT
    have new : ObjOk X.prog X.w (upd H s.heap.objs.size (.tup [.int (i : Nat), x])) h'' s.heap.objs.size (.tup [.int (i : Nat), x]) :=
      ⟨by show 2 ≤ sizeLine; decide, [.int i tk, x'], .cons ⟨_, rfl⟩ (.cons ru .nil), ⟨_, hT2, rfl, _, rfl⟩⟩
    have I1 : Inv X pins σ (upd H s.heap.objs.size (.tup [.int (i : Nat), x])) { s with heap := h'', toks := tk + 1 } :=
      I.turnedNew (ch := [e, it]) (fun b ob hb q => (sb.2 b (fun z => hb (by simp [z]))).trans (hk b ob (fun z => hb (by simp [z])) (fun z => hb (by simp [z])) q)) hf (Nat.le_refl _) new
    refine ⟨.ref s.heap.objs.size, _, I1, rfl, ⟨_, x, rfl, I.hok.fresh (Nat.le_refl _), rfl, fun ys hy => by rw [I.tuple_inj hy hq]; exact hx⟩, ⟨⟨x', ?_⟩, hit'.at fun o q => (sb.2 it (Ne.symm hne)).trans q, hne⟩, fun b hb => ?_⟩
    · have e1 : ((i + 1 : Nat) : Int) = (i : Int) + 1 := by omega
      rw [e1]; exact he'
    · have hb' : b < s.heap.objs.size := by
        have e' : b = e ∨ b = it := by simpa using hb
        rcases e' with z | z
        · rw [z]; exact hel
        · rw [z]; exact hil
      rw [upd_ne (Nat.ne_of_lt hb')]
      exact (hf b hb).1
  done := by
    intro X hP hw hK hc i pins s σ H E I hf st hg
    subst hP hw hK
    obtain ⟨⟨old, he⟩, hit, hne⟩ := st
    obtain ⟨xs, hq, hx⟩ := hg
    obtain ⟨its, rv, p, hz⟩ := I.tuple hq
    have pt : s.heap.IsTuple a its.toArray := p
    obtain ⟨f0, f1, f2, f3, f4, f5⟩ := hf it (by simp)
    have hl := rv.length
    have hai : a ≠ it := fun z => by
      obtain ⟨o, ho, hc', _⟩ := id pt
      obtain ⟨o2, ho2, hc2, _⟩ := id hit
      rw [z] at ho
      cases ho.symm.trans ho2
      exact absurd (hc'.symm.trans hc2) (by decide +kernel)
    have hcm : X.A.in1.handled = none := I.ok.hd hc
    have hi : i = its.toArray.size := by
      rw [← hx, hl]
      simp
    subst hi
    exact wpAny_pyNext_enum_endD (Draws.tuple hcm it a hai its.toArray) he ⟨hit, pt⟩ fun h' eb => ⟨rfl, I.turned (t' := s.toks) (fun b o hb q => eb b o hb q) f0 f1 f3 f4 f5⟩
  self := fun A i s Q E st h => let ⟨⟨_, he⟩, _⟩ := st; wpAny_pyIter_enum he h
def iEnumT (K : PySem.W.Frag) (ta : TA) : TI := fun σ H R => ta σ H fun vs H1 => ∃ a xs, vs = [.ref a] ∧ SqT K H1 a xs ∧ R (IteT K a) H1
theorem pi_enumT {X : Cx} {e : Expr} {ta : TA} {p pos tpos : Pos} {elts : List Expr} {kk : Nat} (hg : Gl X "enumerate") (hm : X.mg "enumerate" = none) (ha : PA X [e] ta) (hs : starEach [e] X.env = [(false, eval e X.env)] := by rfl) :
    PI X (.Tuple elts kk tpos) (.Call (.Name "enumerate" p) [e] [] pos) (iEnumT X.K ta) := by
  refine ⟨fun pins s σ H R I h => ?_⟩
  refine Call_ (ld_blt I hg hm boot_enumerate (PyProof.Rows.callWith_type1 (thn (ha.run pos pins s σ H _ I h) fun us s1 ⟨vs, H1, I1, r1, q1⟩ => ?_) hs rfl))
  obtain ⟨a, xs, ex, hq, q⟩ := q1
  subst ex
  cases r1 with
  | cons r rr =>
    cases rr
    cases r
    obtain ⟨its, rv, p', hz⟩ := I1.tuple hq
    refine call_enumerate_tuple (show s1.heap.IsTuple a its.toArray from p') fun h' he hit hsz hk => wpAny_pyIter_enum he ?_
    have I2 : Inv X pins σ H1 { s1 with heap := h' } := I1.kept (t' := s1.toks) hk
    refine ⟨s1.heap.objs.size + 1, [s1.heap.objs.size + 1, s1.heap.objs.size], _, _, H1, rfl, I2, turn_enumT a (s1.heap.objs.size + 1) s1.heap.objs.size, ⟨⟨.none, he⟩, hit, Nat.succ_ne_self _⟩, fun b hb => ?_, q⟩
    have e' : b = s1.heap.objs.size + 1 ∨ b = s1.heap.objs.size := by simpa using hb
    have hle : s1.heap.objs.size ≤ b := by
      rcases e' with z | z
      · rw [z]; exact Nat.le_add_right _ _
      · rw [z]; exact Nat.le_refl _
    exact I1.fpOk hle (I1.hok.fresh hle)
theorem for_enumT {K : PySem.W.Frag} {a : Addr} {xs : List V} {g : TG} {tb : TS} {D : Ends} {σ : St} {H : Hp} (Pv : Nat → St → Hp → Prop) (h0 : Pv 0 σ H) (hl : ∀ i σ H, i ≤ xs.length → Pv i σ H → SqT K H a xs)
    (hs : ∀ i x T σ H, xs[i]? = some x → Pv i σ H → H T = none → g (.ref T) σ (upd H T (.tup [.int (i : Nat), x])) fun σ2 H2 => tb { D with nx := Pv (i + 1), ct := Pv (i + 1), bk := D.nx } σ2 H2) (hd : ∀ σ H, Pv xs.length σ H → D.nx σ H) :
    ∃ W : Nat → Nat → St → Hp → Prop, (∃ m, W 0 m σ H) ∧ ∀ i m σ H, W i m σ H →
      ((IteT K a).stop i H ∧ D.nx σ H) ∨ ((IteT K a).go i H ∧ ∃ N : St → Hp → Prop, (∀ σ' H', N σ' H' → ∃ m', m' < m ∧ W (i + 1) m' σ' H') ∧ ∀ x H', (IteT K a).yld i H x H' → g x σ H' fun σ2 H2 => tb { D with nx := N, ct := N, bk := D.nx } σ2 H2) := by
  refine ⟨fun i m σ H => m = xs.length - i ∧ i ≤ xs.length ∧ Pv i σ H, ⟨xs.length, by simp, Nat.zero_le _, h0⟩, ?_⟩
  rintro i m σ H ⟨rfl, hi, p⟩
  have q := hl i σ H hi p
  by_cases hlt : i < xs.length
  · refine .inr ⟨⟨xs, xs[i], q, by simp [hlt]⟩, Pv (i + 1), fun σ' H' p' => ⟨xs.length - (i + 1), by omega, rfl, hlt, p'⟩, fun x H' y => ?_⟩
    obtain ⟨T, z, rfl, hT, rfl, hz⟩ := y
    exact hs i z T σ H (hz xs q) p hT
  · have e : i = xs.length := by omega
    subst e
    exact .inl ⟨⟨xs, q, rfl⟩, hd σ H p⟩
end L2

/-! A class that a local name holds, called with a starred argument. -/
namespace L2
open PySem PySem.Spec PyProof.Rows StX ClX
section
variable {X : Cx} {CX : CXT} {k i : Nat} {f C : Addr} {sp : Sp} {E : XK} {x : Str} {e fe : Expr} {es : List Expr} {te tf : TE} {t : TA} {p pos : Pos}
theorem pe_makeLS (M : Mk X.K C f) (F : FnR X.prog X.w X.K X.mg X.base CX k f sp) (hr : Room (k + 1) X.A) (hN : X.N[i]? = some x) (hv : Vis X.env.scope x) (hx : Passes CX X E) (ha : PA X (e :: es) t)
    (hdb : (x == ("__debug__" : Str)) = false := by decide) (hcd : (x == ("__classdict__" : Str)) = false := by decide)
    (he : starEach (e :: es) X.env = (false, eval e X.env) :: starEach es X.env := by rfl) (hst : (backTo pos (starEach es X.env)).any (·.1) = true := by rfl) : PE X (.Call (.Name x p) (e :: es) [] pos) (fun σ H Q => σ[i]? = some (some (.ref C)) ∧ tMakeR C sp E t σ H Q) := by
  refine ⟨fun pins s σ H Q I h => ?_⟩
  obtain ⟨hs, ht⟩ := h
  refine wpAny_Call_Name_kw (thn ((pe_var (pos := p) hN hv hdb hcd).run pins s σ H (fun v H1 => v = .ref C ∧ H1 = H) I ⟨.ref C, hs, rfl, rfl⟩) fun u s1 ⟨v, H1, I1, r1, q1⟩ => ?_)
  obtain ⟨rfl, rfl⟩ := q1
  cases r1
  refine PySem.W.callWith_S2 (h₀ := X.base) I.ok.mod.kin M.kp (thn (ha.run pos pins s1 σ _ _ I1 ht) fun us s2 ⟨vs, H2, I2, r, q⟩ => ⟨I2.kIn, ?_⟩) he hst
  exact run_makeR M F hr hx I2 r q
/-- .. the class by its own name -/
theorem pe_makeRS (M : Mk X.K C f) (F : FnR X.prog X.w X.K X.mg X.base CX k f sp) (hr : Room (k + 1) X.A) (hg : Gl X x) (hm : X.mg x = some (.ref C)) (hx : Passes CX X E) (ha : PA X (e :: es) t) (hdb : (x == ("__debug__" : Str)) = false := by decide)
    (he : starEach (e :: es) X.env = (false, eval e X.env) :: starEach es X.env := by rfl) (hst : (backTo pos (starEach es X.env)).any (·.1) = true := by rfl) : PE X (.Call (.Name x p) (e :: es) [] pos) (tMakeR C sp E t) := by
  refine ⟨fun pins s σ H Q I h => ?_⟩
  refine wpAny_Call_Name_kw (ld_glob I hg hm ?_ hdb)
  refine PySem.W.callWith_S2 (h₀ := X.base) I.ok.mod.kin M.kp (thn (ha.run pos pins s σ H _ I h) fun us s1 ⟨vs, H1, I1, r, q⟩ => ⟨I1.kIn, ?_⟩) he hst
  exact run_makeR M F hr hx I1 r q
end
end L2

/-! Styles: what is due of rules, and what the program's defs tell. -/
namespace Evl
open PySem L2
theorem given_one (xs : List V) : given xs.length (fun _ => true) (fun i => xs.getD i V.non) = xs := by
  unfold given
  have e : (List.range xs.length).filter (fun _ => true) = List.range xs.length := List.filter_eq_self.mpr fun _ _ => rfl
  rw [e]
  apply List.ext_getElem?
  intro i
  rw [List.getElem?_map]
  by_cases h : i < xs.length
  · rw [List.getElem?_range h]
    simp [List.getElem?_eq_getElem h]
  · have h1 : (List.range xs.length)[i]? = none := List.getElem?_eq_none_iff.mpr (by rw [List.length_range]; omega)
    have h2 : xs[i]? = none := List.getElem?_eq_none_iff.mpr (by omega)
    rw [h1, h2]
    rfl
end Evl
namespace Dt
open PySem L2 Evl Dg LamR LamX
open Dr (StAt SameB)
/-! the shapes of what is a condition, a keep, a rule -/
theorem beg_inv {d : PyData} {w : Str} {n : Nat} (h : begB d w n = true) : ∃ ds, d = .tuple ds ∧ ds.length = n ∧ eqS w (ds.headD .none) = true := by
  unfold begB at h
  rw [Bool.and_eq_true, Bool.and_eq_true] at h
  obtain ⟨h1, h2, h3⟩ := h
  cases d with
  | tuple ds => exact ⟨ds, rfl, of_decide_eq_true h2, h3⟩
  | _ => cases h1
theorem eqS_inv {w : Str} {d : PyData} (h : eqS w d = true) : d = .str w := by
  cases d with
  | str x =>
    have e : x = w := of_decide_eq_true h
    rw [e]
  | _ => cases h
theorem beg2_inv {d : PyData} {w : Str} (h : begB d w 2 = true) : ∃ u, d = .tuple [.str w, u] := by
  obtain ⟨ds, rfl, hl, h3⟩ := beg_inv h
  match ds, hl with
  | [a, b], _ =>
    have := eqS_inv h3
    exact ⟨b, by rw [show a = .str w from this]⟩
theorem beg3_inv {d : PyData} {w : Str} (h : begB d w 3 = true) : ∃ u v, d = .tuple [.str w, u, v] := by
  obtain ⟨ds, rfl, hl, h3⟩ := beg_inv h
  match ds, hl with
  | [a, b, c], _ =>
    have := eqS_inv h3
    exact ⟨b, c, by rw [show a = .str w from this]⟩
theorem size_inv {l : Int} {d : PyData} (h : sizeB l d = true) : ∃ i : Int, d = .int i ∧ l ≤ i ∧ i ≤ 6 := by
  cases d with
  | int i =>
    unfold sizeB at h
    rw [Bool.and_eq_true] at h
    exact ⟨i, rfl, of_decide_eq_true h.1, of_decide_eq_true h.2⟩
  | _ => cases h
theorem bounds_inv {a b : PyData} (h : boundsB a b = true) : ∃ i : Int, a = .int i ∧ 1 ≤ i ∧ i ≤ 6 ∧ (b = .none ∨ ∃ j : Int, b = .int j ∧ i ≤ j ∧ j ≤ 6) := by
  unfold boundsB at h
  rw [Bool.and_eq_true, Bool.or_eq_true] at h
  obtain ⟨h1, h2⟩ := h
  obtain ⟨i, rfl, h3, h4⟩ := size_inv h1
  refine ⟨i, rfl, h3, h4, ?_⟩
  rcases h2 with h2 | h2
  · cases b with
    | none => exact .inl rfl
    | _ => cases h2
  · exact .inr (size_inv h2)
inductive CondS (β : Nat) : PyData → Prop
  | ends (x : Str) (h : isFigs β 2 x = true) : CondS β (.tuple [.str "ends", .str x])
  | near (i : Int) (h0 : 0 ≤ i) (h6 : i ≤ 6) : CondS β (.tuple [.str "near", .int i])
  | len (w : Str) (hw : w = "length" ∨ w = "changed") (i : Int) (h1 : 1 ≤ i) (h6 : i ≤ 6) (e : PyData) (he : e = .none ∨ ∃ j : Int, e = .int j ∧ i ≤ j ∧ j ≤ 6) : CondS β (.tuple [.str w, .int i, e])
theorem cond_inv {β : Nat} {d : PyData} (h : condB β d = true) : CondS β d := by
  unfold condB at h
  cases h1 : begB d "ends" 2 with
  | true =>
    rw [h1, if_pos rfl] at h
    obtain ⟨u, rfl⟩ := beg2_inv h1
    have h' : figsO β 2 (txtD u) = true := h
    cases u with
    | str x => exact .ends x h'
    | _ => cases h'
  | false =>
    rw [h1, if_neg (by decide)] at h
    cases h2 : begB d "near" 2 with
    | true =>
      rw [h2, if_pos rfl] at h
      obtain ⟨u, rfl⟩ := beg2_inv h2
      obtain ⟨i, e, a, b⟩ := size_inv (d := u) h
      rw [e]
      exact .near i a b
    | false =>
      rw [h2, if_neg (by decide)] at h
      cases h3 : (begB d "length" 3 || begB d "changed" 3) with
      | true =>
        rw [h3, if_pos rfl] at h
        rcases Bool.or_eq_true_iff.mp h3 with h4 | h4
        · obtain ⟨u, v, rfl⟩ := beg3_inv h4
          obtain ⟨i, e, a, b, c⟩ := bounds_inv (a := u) (b := v) h
          rw [e]
          exact .len _ (.inl rfl) i a b v c
        · obtain ⟨u, v, rfl⟩ := beg3_inv h4
          obtain ⟨i, e, a, b, c⟩ := bounds_inv (a := u) (b := v) h
          rw [e]
          exact .len _ (.inr rfl) i a b v c
      | false =>
        rw [h3, if_neg (by decide)] at h
        cases h
inductive KeepS : PyData → Prop
  | all : KeepS (.tuple [.str "all"])
  | size (w : Str) (hw : w = "changed" ∨ w = "last") (i : Int) (h1 : 1 ≤ i) (h6 : i ≤ 6) : KeepS (.tuple [.str w, .int i])
theorem keep_inv {d : PyData} (h : keepB d = true) : KeepS d := by
  unfold keepB at h
  cases h1 : (begB d "changed" 2 || begB d "last" 2) with
  | true =>
    rw [h1, if_pos rfl] at h
    rcases Bool.or_eq_true_iff.mp h1 with h4 | h4
    · obtain ⟨u, rfl⟩ := beg2_inv h4
      obtain ⟨i, e, a, b⟩ := size_inv (d := u) h
      rw [e]
      exact .size _ (.inl rfl) i a b
    · obtain ⟨u, rfl⟩ := beg2_inv h4
      obtain ⟨i, e, a, b⟩ := size_inv (d := u) h
      rw [e]
      exact .size _ (.inr rfl) i a b
  | false =>
    rw [h1, if_neg (by decide)] at h
    obtain ⟨ds, rfl, hl, h3⟩ := beg_inv h
    match ds, hl with
    | [a], _ =>
      have := eqS_inv h3
      rw [show a = .str "all" from this]
      exact .all
theorem rule_inv {β : Nat} {d : PyData} (h : ruleB β d = true) : ∃ cs k, d = .tuple [.tuple cs, k] ∧ cs.length ≤ 3 ∧ (∀ c ∈ cs, CondS β c) ∧ KeepS k := by
  unfold ruleB at h
  rw [Bool.and_eq_true, Bool.and_eq_true, Bool.and_eq_true, Bool.and_eq_true, Bool.and_eq_true] at h
  obtain ⟨h1, h2, h3, h4, h5, h6⟩ := h
  cases d with
  | tuple ds =>
    have hl : ds.length = 2 := of_decide_eq_true h2
    match ds, hl with
    | [c, k], _ =>
      have h3' : isT c = true := h3
      cases c with
      | tuple cs => exact ⟨cs, k, rfl, of_decide_eq_true h4, fun c hc => cond_inv (List.all_eq_true.mp h5 c hc), keep_inv h6⟩
      | _ => cases h3'
  | _ => cases h1
theorem cond_noL {β : Nat} {d : PyData} (h : CondS β d) : noL d = true ∧ isT d = true := by
  cases h with
  | ends x h => exact ⟨rfl, rfl⟩
  | near i h0 h6 => exact ⟨rfl, rfl⟩
  | len w hw i h1 h6 e he =>
    rcases he with rfl | ⟨j, rfl, _, _⟩ <;> exact ⟨rfl, rfl⟩
theorem keep_noL {d : PyData} (h : KeepS d) : noL d = true ∧ isT d = true := by
  cases h <;> exact ⟨rfl, rfl⟩
theorem noLs_all : ∀ {ds : List PyData}, (∀ d ∈ ds, noL d = true) → noLs ds = true
  | [], _ => rfl
  | d :: ds, h => by
    rw [noLs, h d List.mem_cons_self, noLs_all fun e he => h e (List.mem_cons_of_mem _ he)]
    rfl
theorem rule_noL {β : Nat} {d : PyData} (h : ruleB β d = true) : noL d = true := by
  obtain ⟨cs, k, rfl, _, hc, hk⟩ := rule_inv h
  show (noLs cs && (noL k && true)) = true
  rw [noLs_all fun c h => (cond_noL (hc c h)).1, (keep_noL hk).1]
  rfl
theorem rules_noL {β : Nat} {ds : List PyData} (h : ds.all (ruleB β) = true) : noLs ds = true := noLs_all fun d hd => rule_noL (List.all_eq_true.mp h d hd)
/-! what is due of a row of rules -/
def badAt (β : Nat) : List PyData → Nat → Option Nat
  | [], _ => none
  | d :: ds, k => if ruleB β d = true then badAt β ds (k + 1) else some k
theorem badAt_all {β : Nat} : ∀ {ds : List PyData} {k : Nat}, ds.all (ruleB β) = true → badAt β ds k = none
  | [], _, _ => rfl
  | d :: ds, k, h => by
    rw [List.all_cons, Bool.and_eq_true] at h
    unfold badAt
    rw [if_pos h.1]
    exact badAt_all h.2
theorem badAt_none {β : Nat} : ∀ {ds : List PyData} {k : Nat}, badAt β ds k = none → ds.all (ruleB β) = true
  | [], _, _ => rfl
  | d :: ds, k, h => by
    unfold badAt at h
    by_cases hd : ruleB β d = true
    · rw [if_pos hd] at h
      rw [List.all_cons, hd, badAt_none h]
      rfl
    · rw [if_neg hd] at h
      cases h
theorem badAt_at {β : Nat} : ∀ {i : Nat} {ds : List PyData} {k : Nat} {d : PyData}, (ds.take i).all (ruleB β) = true → ds[i]? = some d → ruleB β d = false → badAt β ds k = some (k + i)
  | _, [], _, _, _, h, _ => by simp at h
  | 0, e :: ds, k, d, _, h, hd => by
    simp only [List.getElem?_cons_zero, Option.some.injEq] at h
    subst h
    unfold badAt
    rw [if_neg (by rw [hd]; decide)]
    rfl
  | i + 1, e :: ds, k, d, ha, h, hd => by
    rw [List.take_succ_cons, List.all_cons, Bool.and_eq_true] at ha
    unfold badAt
    rw [if_pos ha.1]
    simp only [List.getElem?_cons_succ] at h
    rw [badAt_at ha.2 h hd]
    congr 1
    omega
/-- the last one has conditions -/
def lastC (ds : List PyData) : Bool := decide (0 < (tupD (at_ 0 (ds.getLastD .none))).length)
/-- none: nothing is wrong; else the place -/
def dueD (β : Nat) (ds : List PyData) : Option PyData :=
  if 1 ≤ ds.length ∧ ds.length ≤ 8 then (match badAt β ds 0 with
    | some k => some (.int (k : Int))
    | none => if lastC ds = true then some (.int ((ds.length : Int) - 1)) else none) else some .none
theorem due_len {β : Nat} {ds : List PyData} (h : ¬ (1 ≤ ds.length ∧ ds.length ≤ 8)) : dueD β ds = some .none := by unfold dueD; rw [if_neg h]
theorem due_bad {β : Nat} {ds : List PyData} {i : Nat} {d : PyData} (h : 1 ≤ ds.length ∧ ds.length ≤ 8) (ha : (ds.take i).all (ruleB β) = true) (hi : ds[i]? = some d) (hd : ruleB β d = false) : dueD β ds = some (.int (i : Int)) := by
  unfold dueD
  rw [if_pos h, badAt_at ha hi hd, Nat.zero_add]
theorem due_last {β : Nat} {ds : List PyData} (h : 1 ≤ ds.length ∧ ds.length ≤ 8) (ha : ds.all (ruleB β) = true) : dueD β ds = if lastC ds = true then some (.int ((ds.length : Int) - 1)) else none := by
  unfold dueD
  rw [if_pos h, badAt_all ha]
theorem due_none {β : Nat} {ds : List PyData} (h : dueD β ds = none) : (1 ≤ ds.length ∧ ds.length ≤ 8) ∧ ds.all (ruleB β) = true ∧ lastC ds = false := by
  unfold dueD at h
  by_cases h1 : 1 ≤ ds.length ∧ ds.length ≤ 8
  · rw [if_pos h1] at h
    cases hb : badAt β ds 0 with
    | some k =>
      rw [hb] at h
      cases h
    | none =>
      rw [hb] at h
      refine ⟨h1, badAt_none hb, ?_⟩
      cases hl : lastC ds with
      | false => rfl
      | true =>
        rw [hl] at h
        cases h
  · rw [if_neg h1] at h
    cases h
def plV : PyData → V
  | .int i => .int i
  | _ => .non
/-- the refusal, or going on -/
structure Due (ca : Nat → Addr) (H : Hp) (E : XK) (o : Option PyData) (G : Prop) : Prop where
  bad : ∀ pl, o = some pl → Leaves (ca 5) "place" (plV pl) H E
  ok : o = none → G
end Dt

namespace Dt
open PySem L2 Evl Dg LamR LamX StX ClX
open Dr (StAt SameB)
abbrev sNeedRules : Stmt := top 33
abbrev sPlain : Stmt := top 35
abbrev clStyle : Stmt := top 41
abbrev sInit : Stmt := inClass clStyle 0
abbrev sOfS : Stmt := inClass clStyle 1
abbrev rTupOf (K : PySem.W.Frag) : List V → Hp → VK → Prop := fun xs H Q => ∃ p ys, xs = [V.ref p] ∧ ((SqL K H p ys ∧ ∀ l, H l = none → Q (V.ref l) (upd H l (.tup ys))) ∨ (SqT K H p ys ∧ Q (V.ref p) H))
section
variable {K : PySem.W.Frag} {σ : St} {H : Hp} {t0 t1 te : TE} {E : St → XK} {β : Nat} {D : PyData} {ca : Nat → Addr}
theorem bs_yes (b2 : 2 ≤ β) (b10 : β ≤ 10) : Bs K H (.int β) true := by
  have e : (decide ((2 : Int) ≤ (β : Int)) && decide ((β : Int) ≤ 10)) = true := by
    rw [decide_eq_true (by omega), decide_eq_true (by omega)]
    rfl
  rw [← e]
  exact .int β
theorem ev_rule (b2 : 2 ≤ β) (b10 : β ≤ 10) (h0 : Ev t0 σ H (.int β)) (h1 : EvP t1 σ H D) : Ev (tCallS (spRule K ca) E (tCons t0 (tCons t1 tNil))) σ H (.bl (ruleB β D)) := fun H1 e Q q =>
  h0 H1 e _ fun H2 e2 => h1 H2 (e.trans e2) _ fun v H3 e3 k => ⟨.int β, v, D, true, rfl, bs_yes b2 b10, k, (fun z => nomatch z), fun _ => ⟨β, rfl, b2, b10, fun H4 e4 => q H4 ((e2.trans e3).trans e4)⟩⟩
theorem ep_tupOf {r : List V → Hp → VK → Prop} (hr : ∀ (p : Addr) (ys : List V) (H : Hp) (Q : VK), SqL K H p ys → (∀ l, H l = none → Q (.ref l) (upd H l (.tup ys))) → r [.ref p] H Q) {Ds : List PyData} (h : EvP t0 σ H (.list Ds)) : EvP (tCB r (tCons t0 tNil)) σ H (.tuple Ds) := fun H1 e Q q =>
  h H1 e _ fun v H2 e2 k => by
    cases k with
    | @lst a vs _ ha hv => exact hr a vs H2 _ (sq_of ha) fun l hl => q (.ref l) _ (e2.trans (Ex.new hl)) (.tup upd_same (hv.ex (Ex.new hl)))
theorem ep_tupId {r : List V → Hp → VK → Prop} (hr : ∀ (p : Addr) (ys : List V) (H : Hp) (Q : VK), SqT K H p ys → Q (.ref p) H → r [.ref p] H Q) {Ds : List PyData} (h : EvP t0 σ H (.tuple Ds)) : EvP (tCB r (tCons t0 tNil)) σ H (.tuple Ds) := fun H1 e Q q =>
  h H1 e _ fun v H2 e2 k => by
    cases k with
    | @tup a vs _ ha hv => exact hr a vs H2 _ (st_of ha) (q (.ref a) _ e2 (.tup ha hv))
theorem ev_tupId {r : List V → Hp → VK → Prop} (hr : ∀ (p : Addr) (ys : List V) (H : Hp) (Q : VK), SqT K H p ys → Q (.ref p) H → r [.ref p] H Q) {a : Addr} {vs : List V} (h : Ev t0 σ H (.ref a)) (ha : H a = some (.tup vs)) : Ev (tCB r (tCons t0 tNil)) σ H (.ref a) := fun H1 e Q q =>
  h H1 e _ fun H2 e2 => hr a vs H2 _ (st_of (e2 _ _ (e _ _ ha))) (q _ e2)
theorem ep_L {xs : List V} {ds : List PyData} (h : EvL t0 σ H xs) (k : PtAll H xs ds) : EvP t0 σ H (.list ds) := fun H1 e Q q => h H1 e _ fun p H2 hp e2 h2 => q (.ref p) H2 e2 (.lst h2 (k.ex (e.trans e2)))
end
theorem Pt.tupI' {H : Hp} {v : V} {ds : List PyData} (h : Pt H v (.tuple ds)) : ∃ a vs, v = .ref a ∧ H a = some (.tup vs) ∧ PtAll H vs ds := by
  cases h with
  | tup hs ha => exact ⟨_, _, rfl, hs, ha⟩
structure TxY (K : PySem.W.Frag) (mg : Str → Option Value) (fnb frl fnr fpl : Addr) (ca : Nat → Addr) : Prop where
  needB : mg "need_base" = some (.ref fnb)
  kNB : PySem.W.keepIn K (.ref fnb) = true
  rule : mg "is_rule" = some (.ref frl)
  kRl : PySem.W.keepIn K (.ref frl) = true
  needR : mg "need_rules" = some (.ref fnr)
  kNR : PySem.W.keepIn K (.ref fnr) = true
  plain : mg "plain_rule" = some (.ref fpl)
  kPl : PySem.W.keepIn K (.ref fpl) = true
  badRule : mg "BadRule" = some (.ref (ca 5))
  len : mg "len" = none
  tuple : mg "tuple" = none
  enum : mg "enumerate" = none
  isi : mg "isinstance" = none
  sup : mg "super" = none
  list : mg "list" = none
  mrules : ∃ t, mg "MOST_RULES" = some (.int 8 t)
section
variable {P : Program} {w : World} {K : PySem.W.Frag} {mg : Str → Option Value} {base : Heap} {ca : Nat → Addr} {fnb frl fnr fpl : Addr}
def spNeedRules (ca : Nat → Addr) : Sp := fun vs H Q E => ∃ (β : Nat) (t : Addr) (rs : List V) (Ds : List PyData), vs = [.int β, .ref t] ∧ 2 ≤ β ∧ β ≤ 10 ∧ H t = some (.tup rs) ∧ PtAll H rs Ds ∧ Due ca H E (dueD β Ds) (RetV .non H Q)
theorem scNeedRules : FnScope ["base", "rules", "number", "rule", "last"] ["base", "rules"] (defScope sNeedRules) := ⟨rfl, rfl, rfl, by decide +kernel, rfl, by decide +kernel, by decide +kernel⟩
theorem ok_needRules {f : Addr} {fd fdr : FuncData} (F : Fun K "need_rules" "need_rules" sNeedRules f fd) (GR : FnOk P w K mg base (L2.CX P w) 5 frl fdr ["base", "value"] (spRule K ca)) (bR : Binds K fdr ["base", "value"] []) (M : Mks P K mg (ca 5) ["place"]) (T : TxY K mg fnb frl fnr fpl ca) :
    FnOk P w K mg base (L2.CX P w) 6 f fd ["base", "rules"] (spNeedRules ca) := by
  refine F.okX scNeedRules (fun vs H Q E h => ?_) (fun cdv A outer s H vs Q E hr h => ?_)
  · obtain ⟨β, t, rs, Ds, rfl, _⟩ := h
    rfl
  · obtain ⟨β, t, rs, Ds, rfl, b2, b10, ht, ka, due⟩ := h
    obtain ⟨tm, hm⟩ := T.mrules
    refine ⟨_, pss_cons (ps_if (pt_not (pt_chain op_le op_le pe_int (pe_callB call_len_seq (by rfl) T.len (by decide +kernel) (pa_cons (pv 1) pa_nil)) (pe_glob (by rfl) hm (v := .int 8) ⟨_, rfl⟩)))
        (pss_one (ps_raise rfl (takes_of rfl rfl rfl rfl) (pmk_mks M T.sup hr (by simp) (pa_cons pe_non pa_nil) (by rfl) T.badRule))) pss_nil)
      (pss_cons (ps_for (passes_of rfl) rfl (pi_enumT (by rfl) T.enum (pa_cons (pv 1) pa_nil)) (pg_tup (by rfl) (pgs_cons (pg_name (i := 2) scNeedRules.nd rfl (.inl rfl)) (pgs_cons (pg_name (i := 3) scNeedRules.nd rfl (.inl rfl)) pgs_nil)))
        (pss_one (ps_if (pt_not (pt_val (pe_callS GR hr (by rfl) T.rule T.kRl bR (fun σ => passAt (takes_of rfl rfl rfl rfl) σ) (pa_cons (pv 0) (pa_cons (pv 3) pa_nil)))))
          (pss_one (ps_raise rfl (takes_of rfl rfl rfl rfl) (pmk_mks M T.sup hr (by simp) (pa_cons (pv 2) pa_nil) (by rfl) T.badRule))) pss_nil)))
      (pss_cons (ps_set (i := 4) scNeedRules.nd rfl (.inl rfl) (pe_op op_sub (pe_callB call_len_seq (by rfl) T.len (by decide +kernel) (pa_cons (pv 1) pa_nil)) pe_int))
      (pss_one (ps_if (pt_cmpR op_gt (pe_callB call_len_seq (by rfl) T.len (by decide +kernel) (pa_cons (pe_ix ix_tup (pe_ix ix_tup (pv 1) (pv 4) (fun _ _ => rfl)) pe_int (fun _ _ => rfl)) pa_nil)) pe_int (nomark _))
        (pss_one (ps_raise rfl (takes_of rfl rfl rfl rfl) (pmk_mks M T.sup hr (by simp) (pa_cons (pv 4) pa_nil) (by rfl) T.badRule))) pss_nil)))), ?_⟩
    have hl := ka.length
    have leaf : ∀ {pl : PyData} {v : V} {H1 : Hp}, dueD β Ds = some pl → plV pl = v → Ex H H1 → Leaves (ca 5) "place" v H1 E := fun hp hv e => hv ▸ (due.bad _ hp).go e
    refine q_when (b := !(decide (1 ≤ Ds.length) && decide (Ds.length ≤ 8))) (et_is (et_not (et_test (ev_chI ev_c (ev_lenT (K := K) (ev_var rfl) ht) ev_c))) (by
      rw [hl]
      congr 1
      congr 1 <;> exact decide_eq_decide.mpr (by omega))) (fun z H1 e1 => ?_) (fun z H1 e1 => ?_)
    · have hb : ¬ (1 ≤ Ds.length ∧ Ds.length ≤ 8) := fun ⟨a, b⟩ => by
        rw [decide_eq_true a, decide_eq_true b] at z
        cases z
      exact ⟨rfl, fun d hd => leaf (due_len hb) rfl e1 H1 d (Ex.refl _) hd⟩
    · have hb : 1 ≤ Ds.length ∧ Ds.length ≤ 8 := by
        rw [Bool.not_eq_false', Bool.and_eq_true] at z
        exact ⟨of_decide_eq_true z.1, of_decide_eq_true z.2⟩
      refine ⟨_, rfl, t, rs, rfl, st_of (e1 _ _ ht), for_enumT (xs := rs) (fun i σ' H' => (∃ x2 x3, σ' = [some (.int β), some (.ref t), x2, x3, none]) ∧ Ex H H' ∧ (Ds.take i).all (ruleB β) = true)
        ⟨⟨_, _, rfl⟩, e1, rfl⟩ (fun i σ' H' _ hI => st_of (hI.2.1 _ _ ht)) (fun i x T' σ' H' hx hI hT => ?_) (fun σ' H' hI => ?_)⟩
      · obtain ⟨⟨x2, x3, rfl⟩, e2, hg⟩ := hI
        obtain ⟨dx, hdx, kx⟩ := ka.get2 hx
        have e3 := e2.trans (Ex.new (o := .tup [.int (i : Nat), x]) hT)
        refine ⟨T', _, rfl, st_of upd_same, rfl, _, _, rfl, _, _, rfl, rfl, ?_⟩
        refine s_when (b := !ruleB β dx) (et_not (et_B (ev_rule b2 b10 (ev_var rfl) (ep_v (ev_var rfl) (kx.ex e3))))) (fun z4 H4 e4 => ?_) (fun z4 H4 e4 => ?_)
        · exact ⟨_, rfl, rfl, fun d hd => leaf (due_bad hb hg hdx (by simpa using z4)) rfl (e3.trans e4) H4 d (Ex.refl _) hd⟩
        · refine ⟨⟨_, _, rfl⟩, e3.trans e4, ?_⟩
          rw [List.take_add_one, hdx, List.all_append, hg]
          have : ruleB β dx = true := by simpa using z4
          simp [this]
      · obtain ⟨⟨x2, x3, rfl⟩, e2, hg⟩ := hI
        rw [hl, List.take_length] at hg
        have ht2 := e2 _ _ ht
        refine q_asg (ev_op (ev_lenT (K := K) (ev_var rfl) ht2) ev_c rv_I0) fun H3 e3 => ?_
        have ht3 := e3 _ _ ht2
        have hpos : Ds.length - 1 < Ds.length := by omega
        obtain ⟨dl, hdl⟩ : ∃ dl, Ds[Ds.length - 1]? = some dl := ⟨_, List.getElem?_eq_getElem hpos⟩
        obtain ⟨u, hu, ku⟩ := ka.get hdl
        have hr2 : ruleB β dl = true := List.all_eq_true.mp hg _ (List.mem_of_getElem? hdl)
        obtain ⟨cs, kk, rfl, hc3, hcs, hks⟩ := rule_inv hr2
        obtain ⟨au, us, rfl, hau, kus⟩ := ((ku.ex e2).ex e3).tupI'
        obtain ⟨uc, huc, kuc⟩ := kus.get (i := 0) rfl
        obtain ⟨ac, vcs, rfl, hac, kcs⟩ := kuc.tupI'
        have hlast : lastC Ds = decide (0 < cs.length) := by
          unfold lastC
          have : Ds.getLastD .none = .tuple [.tuple cs, kk] := by
            rw [List.getLastD_eq_getLast?, List.getLast?_eq_getElem?, hdl]
            rfl
          rw [this]
          rfl
        have elast : Ev (tOp (rIxT K) (tVar 1) (tVar 4)) [some (.int β), some (.ref t), x2, x3, some (.int ((rs.length : Int) - 1))] H3 (.ref au) := ev_op (ev_var rfl) (ev_var rfl) (rv_ixT (st_of ht3) (by
          rw [show (rs.length : Int) - 1 = ((Ds.length - 1 : Nat) : Int) by omega]
          exact atI_nat hu))
        refine s_when (b := decide (0 < cs.length)) (et_is (et_test (ev_op (ev_lenT (K := K) (ev_at (K := K) (i := 0) elast hau huc) hac) ev_c rv_I0)) (by
          rw [kcs.length]
          exact decide_eq_decide.mpr (by omega))) (fun z H4 e4 => ?_) (fun z H4 e4 => ?_)
        · refine ⟨_, rfl, rfl, fun d hd => leaf (v := .int ((rs.length : Int) - 1)) (due_last hb hg |>.trans (by rw [hlast, z]; rfl)) (by rw [hl]; rfl) ((e2.trans e3).trans e4) H4 d (Ex.refl _) hd⟩
        · exact due.ok (due_last hb hg |>.trans (by rw [hlast, z]; rfl)) H4 ((e2.trans e3).trans e4)
def spPlain : Sp := fun vs H Q _ => ∃ v cs k, vs = [v] ∧ Pt H v (.tuple [.tuple cs, k]) ∧ (∀ c ∈ cs, isT c = true) ∧ isT k = true ∧ cs.length ≤ 3 ∧ ∀ v' H', Ex H H' → Pt H' v' (.tuple [.tuple cs, k]) → Q v' H'
theorem scPlain : FnScope ["rule", "conditions", "keep", "condition"] ["rule"] (defScope sPlain) := ⟨rfl, rfl, rfl, by decide +kernel, rfl, by decide +kernel, by decide +kernel⟩
theorem ok_plain {f : Addr} {fd : FuncData} (F : Fun K "plain_rule" "plain_rule" sPlain f fd) (T : TxY K mg fnb frl fnr fpl ca) : FnOk P w K mg base CX0 1 f fd ["rule"] spPlain := by
  refine F.ok scPlain (fun vs H Q E h => ?_) (fun cdv A outer s H vs Q E hr h => ?_)
  · obtain ⟨v, cs, k, rfl, _⟩ := h
    rfl
  · obtain ⟨v, cs, k, rfl, kv, hcs, hk, hc3, q⟩ := h
    refine ⟨_, pss_cons (ps_asg (pv 0) (pg_tup (by rfl) (pgs_cons (pg_name (i := 1) scPlain.nd rfl (.inl rfl)) (pgs_cons (pg_name (i := 2) scPlain.nd rfl (.inl rfl)) pgs_nil))))
      (pss_one (ps_ret (pe_tup (pa_cons (pe_callTy call_tuple_of (by rfl) T.tuple (by decide +kernel) (pa_cons (pe_lc (own := [("condition", 3)]) (g := gName 3) (tt := tYes) rfl scPlain.nd (pi_tup (pv 1)) (blkOk_by (own := [("condition", 3)]) (N := ["rule", "conditions", "keep", "condition"]) (sc := defScope sPlain) (by decide +kernel))
          (fun _ _ _ _ _ => pg_name (i := 3) scPlain.nd rfl (Or.inl rfl)) (fun _ _ _ _ _ => pts_nil) (fun _ _ _ _ _ => pe_callTy (T := "tuple") (r := rTupOf K) call_tuple_of (by rfl) T.tuple (by decide +kernel) (pa_cons (pv 3) pa_nil))) pa_nil))
        (pa_cons (pe_callTy call_tuple_of (by rfl) T.tuple (by decide +kernel) (pa_cons (pv 2) pa_nil)) pa_nil))))), ?_⟩
    obtain ⟨a, us, rfl, ha, kus⟩ := kv.tupI'
    cases kus with
    | @cons vc _ _ _ kc kus =>
      cases kus with
      | @cons vk _ _ _ kk kus =>
        cases kus with
        | nil =>
          obtain ⟨ac, ws, rfl, hac, kws⟩ := kc.tupI'
          refine ⟨_, rfl, a, _, rfl, st_of ha, rfl, _, _, rfl, _, _, rfl, rfl, ?_⟩
          cases k with
          | tuple ks =>
            have hl := kws.length
            dsimp only
            refine s_retP (D := .tuple [.tuple cs, .tuple ks]) (ep_tup (epa_cons (ep_tupOf (K := K) (fun p ys H Q hs hq => ⟨p, ys, rfl, .inl ⟨hs, hq⟩⟩) (ep_L (xs := ws) ?_ kws)) (epa_cons (ep_tupId (K := K) (fun p ys H Q hs hq => ⟨p, ys, rfl, .inr ⟨hs, hq⟩⟩) (ep_v (ev_var rfl) kk)) epa_nil)) (by simp)) fun v H1 e1 k1 => q v H1 e1 k1
            have := el_lcT (K := K) (σ := [some (.ref a), some (.ref ac), some vk, none]) (H := H) (tl := tVar 1) (j := 3) (vs := [3]) (t := tYes) (te := tCB (rTupOf K) (tCons (tVar 3) tNil)) (fun _ => true) (fun i => ws.getD i .non) (ev_var rfl) (st_of hac) (by omega) (fun _ => rfl) (fun i x H4 e4 hx => fun H5 e5 Q5 q5 => q5 H5 (Ex.refl _)) (fun i x H4 e4 hx _ => by
              obtain ⟨dd, hd, kd⟩ := kws.get2 hx
              have hdt := hcs dd (List.mem_of_getElem? hd)
              have : ws.getD i .non = x := by rw [List.getD_eq_getElem?_getD, hx]; rfl
              rw [this]
              cases dd with
              | tuple es =>
                obtain ⟨ax, xs, rfl, hax, _⟩ := (kd.ex e4).tupI'
                exact ev_tupId (K := K) (fun p ys H Q hs hq => ⟨p, ys, rfl, .inr ⟨hs, hq⟩⟩) (ev_var rfl) hax
              | _ => cases hdt)
            rw [given_one] at this
            exact this
          | _ => cases hk
end
end Dt

namespace Dt
open PySem L2 Evl Dg LamR LamX StX ClX
open Dr (StAt SameB)
/-- the style's object at x: its base, its rules -/
def StyAt (H : Hp) (C x : Addr) (β : Nat) (Ds : List PyData) : Prop := ∃ dx t, H x = some (.ins C dx [("stored_base", .int (β : Int)), ("stored_rules", .ref t)]) ∧ Pt H (.ref t) (.tuple Ds)
theorem StyAt.extN {H H' : Hp} {C x : Addr} {β : Nat} {Ds : List PyData} (h : StyAt H C x β Ds) (e : ExtN H H') : StyAt H' C x β Ds := let ⟨dx, t, h1, h2⟩ := h; ⟨dx, t, e _ _ h1 (by simp), h2.extN e⟩
theorem StyAt.ex {H H' : Hp} {C x : Addr} {β : Nat} {Ds : List PyData} (h : StyAt H C x β Ds) (e : Ex H H') : StyAt H' C x β Ds := h.extN (ExtN.of e)
theorem StyAt.same {H H' : Hp} {p c l : Addr} {n : Nat} {a : Int} {C x : Addr} {β : Nat} {Ds : List PyData} (S : StAt H p c l n a) (h : StyAt H C x β Ds) (e : SameB H H' p l) (k : noLs Ds = true) : StyAt H' C x β Ds := by
  obtain ⟨dx, t, h1, h2⟩ := h
  obtain ⟨ls, hl, _⟩ := S.l
  exact ⟨dx, t, e _ _ h1 (ne_of h1 S.d (by intro z; cases z)) (ne_of h1 hl (by intro z; cases z)), h2.tk (tupK_same S e) (by rw [noL]; exact k)⟩
section
variable {P : Program} {w : World} {K : PySem.W.Frag} {mg : Str → Option Value} {base : Heap} {ca : Nat → Addr} {fnb frl fnr fpl : Addr} {C : Addr}
def spInit (K : PySem.W.Frag) (C : Addr) (ca : Nat → Addr) : Sp := fun vs H Q E => ∃ (x t dx : Addr) (vb : V) (rs : List V) (Ds : List PyData) (b : Bool), vs = [.ref x, vb, .ref t] ∧ H x = some (.ins C dx []) ∧ H t = some (.tup rs) ∧ PtAll H rs Ds ∧ Bs K H vb b ∧
  (b = false → Leaves (ca 1) "value" vb H E) ∧ (b = true → ∃ β : Nat, vb = .int β ∧ 2 ≤ β ∧ β ≤ 10 ∧ Due ca H E (dueD β Ds) (∀ (t2 : Addr) (H' : Hp), (∀ b o, H b = some o → b ≠ x → H' b = some o) → H' x = some (.ins C dx [("stored_base", .int (β : Int)), ("stored_rules", .ref t2)]) → Pt H' (.ref t2) (.tuple Ds) → Q .non H'))
theorem scInit : FnScope ["self", "base", "rules", "rule"] ["self", "base", "rules"] (defScope sInit) := ⟨rfl, rfl, rfl, by decide +kernel, rfl, by decide +kernel, by decide +kernel⟩
def spInitR (K : PySem.W.Frag) (C : Addr) (ca : Nat → Addr) : Sp := fun vs H Q E => ∃ ws rest, vs = ws ++ rest ∧ ws.length = 2 ∧ rest.length ≤ sizeLine ∧ ∀ p, H p = Option.none → spInit K C ca (ws ++ [V.ref p]) (upd H p (.tup rest)) Q E
theorem ok_init {f : Addr} {oc kV doc pm cdv ct : Value} {od an : Option Addr} {osl : Array (Option Value)} {fdn fdr fdp : FuncData} (lk : K.lookup f = some ⟨oc, od, .func (PySem.W.fnOf "__init__" "Style.__init__" (defArgs sInit) (defBody sInit) (defScope sInit) .none kV doc pm an cdv ct), osl⟩) (hcd : PySem.W.codeIn K cdv "Style.__init__" = true)
    (cl : Cls K C) (n1 : NoAttr K C "stored_base") (n2 : NoAttr K C "stored_rules") (GN : FnOk P w K mg base (L2.CX P w) 6 fnb fdn ["base"] (spNeed (Bs K) (ca 1))) (bN : Binds K fdn ["base"] [])
    (GR : FnOk P w K mg base (L2.CX P w) 6 fnr fdr ["base", "rules"] (spNeedRules ca)) (bR : Binds K fdr ["base", "rules"] []) (GP : FnOk P w K mg base CX0 6 fpl fdp ["rule"] spPlain) (bP : Binds K fdp ["rule"] []) (T : TxY K mg fnb frl fnr fpl ca) :
    FnR P w K mg base (L2.CX P w) 7 f (spInitR K C ca) := by
  refine fn_star (k := 6) (ps := ["self", "base"]) (pv := "rules") (sp := spInit K C ca) lk hcd scInit cxUp (bind_star2 (B := fun l => bindArgs (PySem.W.fnOf "__init__" "Style.__init__" (defArgs sInit) (defBody sInit) (defScope sInit) .none kV doc pm an cdv ct) ⟨l, []⟩) (p1 := "self") (p2 := "base") (pv := "rules") (fun a b => rfl) (fun a b r rs => rfl)) (fun A outer s H vs Q E hr h => ?_)
  obtain ⟨x, t, dx, vb, rs, Ds, b, rfl, hx, ht, ka, kb, l1, hq⟩ := h
  refine ⟨_, pss_cons (ps_expr (pe_callS GN hr (by rfl) T.needB T.kNB bN (fun σ => passAt (takes_of rfl rfl rfl rfl) σ) (pa_cons (pv 1) pa_nil)))
    (pss_cons (ps_expr (pe_callS GR hr (by rfl) T.needR T.kNR bR (fun σ => passAt (takes_of rfl rfl rfl rfl) σ) (pa_cons (pv 1) (pa_cons (pv 2) pa_nil))))
    (pss_cons (ps_fld (pv 0) (pv 1) rfl)
    (pss_one (ps_fld (pv 0) (pe_callTy (T := "tuple") (r := rTupOf K) call_tuple_of (by rfl) T.tuple (by decide +kernel) (pa_cons (pe_lc (own := [("rule", 3)]) (g := gName 3) (tt := tYes) rfl scInit.nd (pi_tup (pv 2)) (blkOk_by (own := [("rule", 3)]) (N := ["self", "base", "rules", "rule"]) (sc := defScope sInit) (by decide +kernel))
      (fun _ _ _ _ _ => pg_name (i := 3) scInit.nd rfl (Or.inl rfl)) (fun _ _ _ _ _ => pts_nil) (fun _ _ _ _ _ => pe_call GP hr (by rfl) T.plain T.kPl bP .nil pass0 (pa_cons (pv 3) pa_nil))) pa_nil)) rfl)))), ?_⟩
  refine ⟨_, rfl, vb, b, rfl, kb, fun hb H1 e1 => ?_, fun hb => l1 hb⟩
  obtain ⟨β, rfl, b2, b10, due⟩ := hq hb
  refine ⟨_, rfl, _, rfl, β, t, rs, Ds, rfl, b2, b10, e1 _ _ ht, ka.ex e1, ⟨fun pl hp => (due.bad pl hp).go e1, fun hn H2 e2 => ?_⟩⟩
  have e12 := e1.trans e2
  obtain ⟨hlen, hall, _⟩ := due_none hn
  have hnl := rules_noL hall
  have hl := ka.length
  refine ⟨_, rfl, _, rfl, x, C, dx, [], rfl, e12 _ _ hx, cl, n1, by decide, ?_⟩
  dsimp only [putF]
  have kx0 : ∀ b o, H b = some o → b ≠ x → (upd H2 x (.ins C dx [("stored_base", .int (β : Int))])) b = some o := fun b o h hb => by
    rw [upd_ne hb]
    exact e12 _ _ h
  have txt : t ≠ x := ne_of ht hx (by intro z; cases z)
  refine ⟨_, rfl, t, rfl, ⟨rs, st_of (kx0 _ _ ht txt)⟩, fun Dl nDl => ?_⟩
  have nDx : Dl ≠ x := fun z => by
    rw [z, upd_same] at nDl
    cases nDl
  have nDH : H Dl = none := by
    cases hz : H Dl with
    | none => rfl
    | some o => exact absurd (nDl.symm.trans (kx0 _ _ hz nDx)) (by simp)
  refine lc_tup (xs := rs) (fun j H' => ∃ ws, H' Dl = some (.lst ws) ∧ PtAll H' ws (Ds.take j) ∧ (∀ b o, H b = some o → b ≠ x → H' b = some o) ∧ H' x = some (.ins C dx [("stored_base", .int (β : Int))]))
    ⟨[], upd_same, .nil, fun b o h hb => by rw [upd_ne (ne_of_none h nDH)]; exact kx0 b o h hb, by rw [upd_ne nDx.symm]; exact upd_same⟩ (fun i H' _ hI => st_of (hI.choose_spec.2.2.1 _ _ ht txt)) (fun i y H4 hy hI => ?_) (fun H4 hI => ?_)
  · obtain ⟨ws, hD, kw, kx, hx4⟩ := hI
    obtain ⟨dd, hdd, kd⟩ := ka.get2 hy
    have hi : i < rs.length := (List.getElem?_eq_some_iff.mp hy).1
    have hrd : ruleB β dd = true := List.all_eq_true.mp hall dd (List.mem_of_getElem? hdd)
    have tk4 : TupK H H4 := fun a xs h => kx a _ h (ne_of h hx (by intro z; cases z))
    obtain ⟨cs, k, rfl, hc3, hcs, hks⟩ := rule_inv hrd
    refine ⟨rfl, ?_⟩
    rw [show (tYes : TT) = fun _ H Q => Q true H from rfl]
    dsimp only
    rw [if_pos rfl]
    refine ⟨_, rfl, y, cs, k, rfl, kd.tk tk4 (rule_noL hrd), fun c hc => (cond_noL (hcs c hc)).2, (keep_noL hks).2, hc3, fun v' H5 e5 k5 => ⟨ws, e5 _ _ hD, ?_, ws ++ [v'], upd_same, ?_, fun b o h hb => ?_, ?_⟩⟩
    · rw [kw.length, List.length_take, sizeLine_eq]
      omega
    · rw [List.take_add_one, hdd]
      have tk5 : TupK H4 (upd H5 Dl (.lst (ws ++ [v']))) := (tupK_ex e5).trans (tupK_upd (e5 _ _ hD))
      exact (kw.tk tk5 (rules_noL (by
        refine List.all_eq_true.mpr fun d hd => List.all_eq_true.mp hall d (List.mem_of_mem_take hd)))).app (.cons (k5.tk (tupK_upd (e5 _ _ hD)) (rule_noL hrd)) .nil)
    · rw [upd_ne (ne_of_none h nDH)]
      exact e5 _ _ (kx b o h hb)
    · rw [upd_ne nDx.symm]
      exact e5 _ _ hx4
  · obtain ⟨ws, hD, kw, kx, hx4⟩ := hI
    rw [hl, List.take_length] at kw
    refine ⟨Dl, ws, rfl, .inl ⟨SqL.of hD, fun t2 nt2 => ?_⟩⟩
    have e5 := Ex.new (o := .tup ws) nt2
    refine ⟨_, rfl, x, C, dx, _, rfl, e5 _ _ hx4, cl, n2, (by simp), ?_⟩
    have hx5 := e5 _ _ hx4
    refine due.ok hn t2 _ (fun b o h hb => ?_) upd_same ?_
    · rw [upd_ne hb]
      exact e5 _ _ (kx b o h hb)
    · have k2 : Pt (upd H4 t2 (.tup ws)) (.ref t2) (.tuple Ds) := .tup upd_same (kw.ex e5)
      refine k2.tk (fun a xs h => ?_) (by rw [noL]; exact hnl)
      rw [upd_ne (ne_of h hx5 (by intro z; cases z))]
      exact h
/-- what Style.of asks of its rules -/
def dueO (β : Nat) : PyData → Option PyData
  | .tuple ds => dueD β ds
  | .list ds => dueD β ds
  | _ => some .none
def seqD : PyData → List PyData
  | .tuple ds => ds
  | .list ds => ds
  | _ => []
def isQ : PyData → Bool
  | .tuple _ => true
  | .list _ => true
  | _ => false
theorem kit_list (d : PyData) : kitB (tyN d) "list" = some (match d with | .list _ => true | _ => false) := by
  cases d <;> simp only [tyN] <;> decide +kernel
theorem kit_seq (d : PyData) : PySem.W.kitAny K (.type (tyN d)) [.type "list", .type "tuple"] = some (isQ d) := by
  have h1 := kit_ty (K := K) (kit_list d)
  have h2 := kit_ty (K := K) (kit_tup d)
  cases d <;> simp only [PySem.W.kitAny, h1, h2, isQ, isT]
def spOfS (K : PySem.W.Frag) (C : Addr) (ca : Nat → Addr) : Sp := fun vs H Q E => ∃ (vb v : V) (d : PyData) (b : Bool), vs = [.ref C, vb, v] ∧ Bs K H vb b ∧ Pt H v d ∧ (seqD d).length ≤ 100000 ∧
  (b = false → Leaves (ca 1) "value" vb H E) ∧ (b = true → ∃ β : Nat, vb = .int β ∧ 2 ≤ β ∧ β ≤ 10 ∧ Due ca H E (dueO β d) (∀ (x : Addr) (H' : Hp), Ex H H' → StyAt H' C x β (seqD d) → Q (.ref x) H'))
theorem scOfS : FnScope ["cls", "base", "rules"] ["cls", "base", "rules"] (defScope sOfS) := ⟨rfl, rfl, rfl, by decide +kernel, rfl, by decide +kernel, by decide +kernel⟩
theorem ok_ofS {f fi : Addr} {fd fdn : FuncData} (F : Fun K "of" "Style.of" sOfS f fd) (M : Mk K C fi) (GI : FnR P w K mg base (L2.CX P w) 7 fi (spInitR K C ca)) (GN : FnOk P w K mg base (L2.CX P w) 8 fnb fdn ["base"] (spNeed (Bs K) (ca 1))) (bN : Binds K fdn ["base"] [])
    (M5 : Mks P K mg (ca 5) ["place"]) (T : TxY K mg fnb frl fnr fpl ca) : FnOk P w K mg base (L2.CX P w) 9 f fd ["cls", "base", "rules"] (spOfS K C ca) := by
  refine F.okX scOfS (fun vs H Q E h => ?_) (fun cdv A outer s H vs Q E hr h => ?_)
  · obtain ⟨vb, v, d, b, rfl, _⟩ := h
    rfl
  · obtain ⟨vb, v, d, b, rfl, kb, kv, hsz, l1, hq⟩ := h
    refine ⟨_, pss_cons (ps_expr (pe_callS GN hr (by rfl) T.needB T.kNB bN (fun σ => passAt (takes_of rfl rfl rfl rfl) σ) (pa_cons (pv 1) pa_nil)))
      (pss_cons (ps_if (pt_not (pt_val (pe_callB call_isiT (by rfl) T.isi (by decide +kernel) (pa_cons (pv 2) (pa_cons (pe_tup (pa_cons (pe_bltn (by rfl) T.list (by decide +kernel) (v := .ty "list") rfl) (pa_cons (pe_bltn (by rfl) T.tuple (by decide +kernel) (v := .ty "tuple") rfl) pa_nil))) pa_nil)))))
        (pss_one (ps_raise rfl (takes_of rfl rfl rfl rfl) (pmk_mks M5 T.sup hr (by simp) (pa_cons pe_non pa_nil) (by rfl) T.badRule))) pss_nil)
      (pss_one (ps_ret (pe_makeLS (i := 0) M GI hr rfl (.inl rfl) (fun pins σ H s e s' I c => passAt (takes_of rfl rfl rfl rfl) σ pins H s e s' I c) (pa_cons (pv 1) (pa_star (pv 2) pa_nil)))))), ?_⟩
    refine ⟨_, rfl, vb, b, rfl, kb, fun hb H1 e1 => ?_, fun hb => l1 hb⟩
    obtain ⟨β, rfl, b2, b10, due⟩ := hq hb
    have k1 := kv.ex e1
    dsimp only
    refine q_when (b := !isQ d) (et_not (et_B (fun H2 e2 Q2 q2 => ⟨_, rfl, (by show (2:Nat) ≤ sizeLine; rw [sizeLine_eq]; omega), fun tp ntp => ⟨v, tp, _, _, [.type "list", .type "tuple"], isQ d, rfl, upd_same, .cons (.ty "list") (.cons (.ty "tuple") .nil), tyx_ex (Ex.new ntp) (k1.ex e2).ty, kit_seq d, q2 _ (Ex.new ntp)⟩⟩))) (fun z H2 e2 => ?_) (fun z H2 e2 => ?_)
    · have hd : dueO β d = some .none := by
        have : isQ d = false := by simpa using z
        cases d <;> first | rfl | cases this
      exact ⟨rfl, fun dd hdd => ((due.bad _ hd).go (e1.trans e2)) H2 dd (Ex.refl _) hdd⟩
    · have e12 := e1.trans e2
      have k2 := kv.ex e12
      have key : ∃ a vs, v = .ref a ∧ (SqT K H2 a vs ∨ SqL K H2 a vs) ∧ PtAll H2 vs (seqD d) ∧ dueO β d = dueD β (seqD d) := by
        have hq' : isQ d = true := by simpa using z
        cases k2 with
        | tup hs ha => exact ⟨_, _, rfl, .inl (st_of hs), ha, rfl⟩
        | lst hs ha => exact ⟨_, _, rfl, .inr (sq_of hs), ha, rfl⟩
        | _ => cases hq'
      obtain ⟨a, us, rfl, hs, kus, hdue⟩ := key
      have hl := kus.length
      refine ⟨rfl, _, rfl, _, rfl, a, us, rfl, hs, fun x dx hx hdx hne => ?_⟩
      refine ⟨[.ref x, .int β], us ++ [], rfl, rfl, ?_, fun p hp => ?_⟩
      · rw [List.append_nil, hl, sizeLine_eq]
        omega
      have eA : Ex H2 (upd (upd H2 dx (.own x)) x (.ins C dx [])) := (Ex.new hdx).trans (Ex.new (by rw [upd_ne (Ne.symm hne)]; exact hx))
      have eB := Ex.new (o := .tup (us ++ [])) hp
      have eAB := eA.trans eB
      refine ⟨x, p, dx, .int β, us ++ [], seqD d, true, rfl, eB _ _ upd_same, upd_same, (List.append_nil us).symm ▸ kus.ex eAB, bs_yes b2 b10, (fun z => nomatch z), fun _ => ⟨β, rfl, b2, b10, ⟨fun pl hpl => ((due.bad pl (hdue.trans hpl)).go (e12.trans eAB)), fun hn t2 H' kx hx' k' => ⟨rfl, ?_⟩⟩⟩⟩
      refine due.ok (hdue.trans hn) x H' (fun b o h => ?_) ⟨dx, t2, hx', k'⟩
      exact kx b o (eAB _ _ (e12 _ _ h)) (ne_of_none (e12 _ _ h) hx)
end
end Dt

/-! repr of a word with a thing (which may be a small dict), and of lists of such. -/
namespace L2
open PySem PySem.Spec PyProof.Rows Evl
/-- what Di tells, an empty dict, or a tuple of a text and such -/
inductive Dj (K : PySem.W.Frag) (H : Hp) : V → PyData → Prop
  | di {v : V} {d : PyData} : Di K H v d → Dj K H v d
  | nil {a : Addr} : H a = some (.dK []) → Dj K H (.ref a) (.dict [])
  | pair {a : Addr} {x : Str} {v : V} {d : PyData} : SqT K H a [.str x, v] → Dj K H v d → Dj K H (.ref a) (.tuple [.str x, d])
inductive DjAll (K : PySem.W.Frag) (H : Hp) : List V → List PyData → Prop
  | nil : DjAll K H [] []
  | cons {v : V} {vs : List V} {d : PyData} {ds : List PyData} : Dj K H v d → DjAll K H vs ds → DjAll K H (v :: vs) (d :: ds)
section
variable {X : Cx} {pins : List (Addr × Obj)} {σ : St} {H : Hp} {s : Shared}
theorem Dj.reads (I : Inv X pins σ H s) {v : V} {d : PyData} (h : Dj X.K H v d) : ∀ {u : Value}, RelV v u → ∃ as, Reads s.heap u d as ∧ (d.hasDict = true → sysModules ∉ as) := by
  induction h with
  | di h => exact fun r => Di.reads I h r
  | @nil a hs =>
    intro u r
    cases r
    obtain ⟨_, hne, vs, rel, o, es, ep, ho, ⟨hx, _, _⟩, hd, _, hp, _⟩ := dk_of I.hok hs
    cases rel
    cases es with
    | mk es =>
    cases hp
    refine ⟨_, Reads.dict ho hx hd (kvs := []) (as := []) (bs := []) .nil .nil, fun _ h => ?_⟩
    simp only [List.append_nil, List.mem_cons, List.not_mem_nil, or_false] at h
    rw [← h] at hne
    exact absurd hne (by decide)
  | @pair a x v d hs hv ih =>
    intro u r
    cases r
    obtain ⟨its, rv, ⟨o, ho, hc, n, hd⟩, _⟩ := I.tuple hs
    obtain ⟨u1, u2, rfl, ⟨t, rfl⟩, r2⟩ := vals2 rv
    obtain ⟨bs, hr, hm⟩ := ih r2
    refine ⟨_, Reads.tuple ho hc hd (.cons (.str _ _) (.cons hr .nil)), fun z h => hm ?_ ?_⟩
    · simpa [PyData.hasDict, PyData.hasDictAll] using z
    · simpa using h
theorem DjAll.reads (I : Inv X pins σ H s) : ∀ {ds : List PyData} {vs : List V} {us : List Value}, DjAll X.K H vs ds → Vals vs us → ReadsI s.heap us ds
  | [], _, _, h, r => by
    cases h
    cases r
    exact .nil
  | d :: ds, _, _, h, r => by
    cases h with
    | cons h1 h2 =>
      cases r with
      | cons r1 r2 =>
        obtain ⟨as, q, m⟩ := Dj.reads I h1 r1
        exact .cons q m (DjAll.reads I h2 r2)
theorem Dj.ex {K : PySem.W.Frag} {H H' : Hp} (e : Ex H H') {v : V} {d : PyData} (h : Dj K H v d) : Dj K H' v d := by
  induction h with
  | di h => exact .di (h.ex e)
  | nil h => exact .nil (e _ _ h)
  | pair h _ ih => exact .pair (ex_t e h) ih
theorem DjAll.ex {K : PySem.W.Frag} {H H' : Hp} (e : Ex H H') : ∀ {vs : List V} {ds : List PyData}, DjAll K H vs ds → DjAll K H' vs ds
  | _, _, .nil => .nil
  | _, _, .cons h t => .cons (h.ex e) (t.ex e)
end
def rReprJ (K : PySem.W.Frag) : List V → Hp → VK → Prop := fun xs H Q => ∃ v d, xs = [v] ∧ Dj K H v d ∧ d.showable = true ∧ d.shown.length ≤ sizeLine ∧ d.depth ≤ 60 ∧ Q (.str d.shown) H
def rReprK (K : PySem.W.Frag) : List V → Hp → VK → Prop := fun xs H Q => ∃ a vs ds, xs = [.ref a] ∧ SqL K H a vs ∧ DjAll K H vs ds ∧ (PyData.list ds).showable = true ∧ (PyData.list ds).shown.length ≤ sizeLine ∧ PyData.depthAll ds ≤ 60 ∧ Q (.str (PyData.list ds).shown) H
theorem call_reprJ {X : Cx} (hg : X.A.guards = some []) (hu : X.A.units + 64 < cLine) : CallR X (.builtin "repr") (rReprJ X.K) := by
  intro pins s σ H xs us Q I r h
  obtain ⟨v, d, rfl, hd, hs, hz, hdp, q⟩ := h
  cases r with
  | @cons _ u _ us r1 r2 =>
    cases r2
    show wpAny _ _ (call (.builtin "repr") [u]) _ _ _
    obtain ⟨as, rd, hm⟩ := Dj.reads I hd r1
    cases rd with
    | none => exact P.repr_of_none ⟨.str _, H, I.tok _, ⟨_, rfl⟩, by simpa [PyData.shown] using q⟩
    | bool b => exact P.repr_of_bool ⟨.str _, H, I.tok _, ⟨_, rfl⟩, by simpa [PyData.shown] using q⟩
    | int i t => exact P.repr_of_int (by simpa [PyData.showable] using hs) ⟨.str _, H, I.tok _, ⟨_, rfl⟩, by simpa [PyData.shown] using q⟩
    | str x t => exact P.repr_of_str ⟨.str _, H, I.tok _, ⟨_, rfl⟩, by simpa [PyData.shown] using q⟩ (by simpa [PyData.shown] using hz)
    | list h1 h2 h3 h4 => exact repr_of_reads' (.list h1 h2 h3 h4) hs hm hg (by omega) (fun _ _ e => e) (fun h' u tk k => ⟨.str _, H, I.kept (t' := tk) k, ⟨_, rfl⟩, q⟩) hz
    | tuple h1 h2 h3 h4 => exact repr_of_reads' (.tuple h1 h2 h3 h4) hs hm hg (by omega) (fun _ _ e => e) (fun h' u tk k => ⟨.str _, H, I.kept (t' := tk) k, ⟨_, rfl⟩, q⟩) hz
    | dict h1 h2 h3 h4 h5 => exact repr_of_reads' (.dict h1 h2 h3 h4 h5) hs hm hg (by omega) (fun _ _ e => e) (fun h' u tk k => ⟨.str _, H, I.kept (t' := tk) k, ⟨_, rfl⟩, q⟩) hz
theorem call_reprK {X : Cx} (hg : X.A.guards = some []) (hu : X.A.units + 64 < cLine) : CallR X (.builtin "repr") (rReprK X.K) := by
  intro pins s σ H xs us Q I r h
  obtain ⟨a, vs, ds, rfl, hS, hd, hs, hz, hdp, q⟩ := h
  cases r with
  | @cons _ u _ us r1 r2 =>
    cases r2
    cases r1
    show wpAny _ _ (call (.builtin "repr") [.ref a]) _ _ _
    obtain ⟨its, rv, ⟨o, n, h1, h2, _, h3⟩, _⟩ := I.list hS
    have RI := DjAll.reads I hd rv
    obtain ⟨as, h4⟩ := RI.all
    have hz' : (listText (PyData.shownAll ds)).length ≤ sizeLine := by simpa only [PyData.shown] using hz
    obtain ⟨bs, hb, hk⟩ := RI.repr (prog := X.prog) (w := X.w) (by simpa [PyData.showable] using hs) (fun t ht => Nat.le_trans (listText_mem_le ht) hz')
    have h4' : ReadsAll s.heap its.toArray.toList ds as := by simpa using h4
    have hna : a ∉ bs := not_mem_of_deeper (.list h1 h2 h3 h4') (by simp only [PyData.depth]; omega) hb
    have fin : ∀ {h' u tk}, (∀ b o, s.heap.get? b = some o → h'.get? b = some o) → EP X pins σ Q (.str (PyData.list ds).shown u) { s with heap := h', toks := tk } := fun {h' u tk} k => ⟨.str _, H, I.kept (t' := tk) k, ⟨_, rfl⟩, q⟩
    refine call_repr_slot (by omega) ⟨o, h1, h2⟩ F.slot_list_repr.toG ?_
    cases its with
    | nil =>
      cases h4
      have e : (PyData.list []).shown = ("[]" : Str) := by simp only [PyData.shown, PyData.shownAll, listText_nil]
      refine call_list_repr_empty ⟨o, h1, h2⟩ h1 h3 ⟨_, _, rfl, ?_⟩
      rw [← e]
      exact fin fun _ _ e => e
    | cons x l =>
      refine call_list_reprK h1 h2 h3 hna (by simpa using hk.length_eq) (fun i y e => hk.item i y (by simpa using e)) hg (fun b _ => Clear.nil b) (by show X.A.units + 1 + _ < _; omega) (fun _ _ e => e) (fun h' u tk k => ⟨_, _, rfl, ?_⟩) hz'
      have := fin (h' := h') (u := u) (tk := tk) k
      simpa only [PyData.shown] using this
section
variable {K : PySem.W.Frag} {σ : L2.St} {H : Hp} {te : TE}
theorem ev_reprJ {v : V} {d : PyData} (h : Ev te σ H v) (hd : Dj K H v d) (s : Sm d) : Ev (tCB (rReprJ K) (tCons te tNil)) σ H (.str d.shown) :=
  ev_cb (ea_cons h ea_nil) fun H1 e Q q => ⟨v, d, rfl, hd.ex e, s.a, Nat.le_trans s.b (by rw [sizeLine_eq]; omega), Nat.le_trans s.c (by decide), q H1 (Ex.refl H1)⟩
theorem ev_reprK {vs : List V} {ds : List PyData} (h : EvL te σ H vs) (hd : DjAll K H vs ds) (s : SmAll ds) (hl : ds.length ≤ 100) : Ev (tCB (rReprK K) (tCons te tNil)) σ H (.str (PyData.list ds).shown) := fun H1 e Q q =>
  h H1 e _ fun p H2 hp e2 h2 => ⟨p, vs, ds, rfl, sq_of h2, hd.ex (e.trans e2), (s.list hl).1, (s.list hl).2.1, (s.list hl).2.2, q H2 e2⟩
end
end L2

/-! k03: the law's own helpers. -/
namespace Evl
open PySem L2
theorem s_par {i j : Nat} {ta : TA} {v w : V} {D : Ends} {σ : St} {H : Hp} (h : EvA ta σ H [v, w]) (k : ∀ H1, Ex H H1 → D.nx ((σ.set i (some v)).set j (some w)) H1) : tPar i j ta D σ H := h H (Ex.refl H) _ fun H1 e => ⟨v, w, rfl, k H1 e⟩
theorem q_par {i j : Nat} {ta : TA} {v w : V} {D : Ends} {tz : TS} {σ : St} {H : Hp} (h : EvA ta σ H [v, w]) (k : ∀ H1, Ex H H1 → tz D ((σ.set i (some v)).set j (some w)) H1) : tSeq (tPar i j ta) tz D σ H := s_par (D := { D with nx := tz D }) h k
end Evl
namespace Dg
open PySem L2 Evl TL
open Dr (StAt SameB spDraw)
theorem len_t (x : Str) : x.length = (tl x).length := by
  show x.cps.size = _
  exact Array.length_toList.symm
structure TxH (K : PySem.W.Frag) (mg : Str → Option Value) (fld flp : Addr) : Prop where
  len : mg "len" = none
section
variable {P : Program} {w : World} {K : PySem.W.Frag} {mg : Str → Option Value} {base : Heap} {fld flp : Addr}
theorem ev_digL {σ : St} {H : Hp} {ta tb : TE} {E : XK} {β n : Nat} (ha : Ev ta σ H (.int β)) (hb : Ev tb σ H (.int n)) (b2 : 2 ≤ β) (b10 : β ≤ 10) (n2 : n < 2 ^ 50000) : Ev (tCall spLDigits [] E (tCons ta (tCons tb tNil))) σ H (.str (digs β n)) :=
  ev_call (ea_cons ha (ea_cons hb ea_nil)) fun H1 e Q q E => ⟨β, n, rfl, b2, b10, n2, fun H2 e2 => q H2 e2⟩
theorem ev_powL {σ : St} {H : Hp} {ta tb : TE} {E : XK} {β k : Nat} (ha : Ev ta σ H (.int β)) (hb : Ev tb σ H (.int k)) (b2 : 2 ≤ β) (b10 : β ≤ 10) (k2 : k ≤ 100000) : Ev (tCall spLPower [] E (tCons ta (tCons tb tNil))) σ H (.int ((β ^ k : Nat) : Int)) :=
  ev_call (ea_cons ha (ea_cons hb ea_nil)) fun H1 e Q q E => ⟨β, k, rfl, b2, b10, k2, fun H2 e2 => q H2 e2⟩
theorem ev_lenX {K : PySem.W.Frag} {σ : St} {H : Hp} {te : TE} {x : Str} (h : Ev te σ H (.str x)) (hz : x.length ≤ 100000) : Ev (tCB (fun xs H Q => ∃ z, xs = [.str z] ∧ z.length ≤ sizeLine ∧ Q (.int z.length) H) (tCons te tNil)) σ H (.int x.length) := fun H1 e Q q =>
  h H1 e _ fun H2 e2 => ⟨x, rfl, sz_of hz, q H2 e2⟩
theorem ev_cutS {σ : St} {H : Hp} {te : TE} {tl th : TO} {x : Str} {lo hi : Option Int} (h : Ev te σ H (.str x)) (h1 : EvO tl σ H lo) (h2 : EvO th σ H hi) (hz : x.length ≤ 100000) : Ev (tSl rSlS te tl th) σ H (.str (cutS x lo hi)) := fun H1 e Q q =>
  h H1 e _ fun H2 e2 => h1 H2 (e.trans e2) _ fun H3 e3 => h2 H3 ((e.trans e2).trans e3) _ fun H4 e4 => ⟨x, rfl, sz_of hz, q H4 ((e2.trans e3).trans e4)⟩
theorem digs_le {β n : Nat} (b2 : 2 ≤ β) (n2 : n < 2 ^ 50000) : (digs β n).length ≤ 50000 := by
  rw [digs_len]
  exact dl_lenB b2 50000 n (Nat.lt_of_lt_of_le n2 (Nat.pow_le_pow_left b2 _))
def spLChg : Sp := fun vs H Q _ => ∃ β f s : Nat, vs = [.int β, .int f, .int s] ∧ 2 ≤ β ∧ β ≤ 10 ∧ f < s ∧ s < 2 ^ 50000 ∧ ∀ m, ChgIs β f s m → RetV (.int m) H Q
abbrev nLChg : List Str := ["base", "first", "second", "one", "other"]
def spLNear : Sp := fun vs H Q _ => ∃ β f s : Nat, vs = [.int β, .int f, .int s] ∧ 2 ≤ β ∧ β ≤ 10 ∧ f < s ∧ s < 2 ^ 50000 ∧ ∀ m, NearIs β (s - f) m → RetV (.int m) H Q
abbrev nLNear : List Str := ["base", "first", "second", "found"]
end
end Dg

/-! k06: what is told of a range, as data. -/
namespace Evl
open PySem L2
theorem s_tup {ta : TA} {vs : List V} {D : Ends} {σ : St} {H : Hp} (h : EvA ta σ H vs) (hz : vs.length ≤ sizeLine) (k : ∀ t H1, Ex H H1 → H t = none → H1 t = some (.tup vs) → D.rt (.ref t) H1) : tRet (tTup ta) D σ H :=
  h H (Ex.refl H) _ fun H1 e1 => ⟨hz, fun t nt => k t _ (e1.trans (Ex.new nt)) (fresh_back e1 nt) upd_same⟩
end Evl
namespace Dg
open PySem L2 Evl TL
theorem near_ex {β : Nat} (hb : 2 ≤ β) (d : Nat) : ∃ k, NearIs β d k := by
  have h0 : d ≤ β ^ d := Nat.le_of_lt (Nat.lt_of_lt_of_le Nat.lt_two_pow_self (Nat.pow_le_pow_left hb d))
  have key : ∀ n : Nat, d ≤ β ^ n → ∃ k, NearIs β d k := by
    intro n
    induction n using Nat.strongRecOn with
    | _ n ih =>
      intro h
      by_cases hx : ∃ j, j < n ∧ d ≤ β ^ j
      · obtain ⟨j, hj, hd⟩ := hx
        exact ih j hj hd
      · exact ⟨n, h, fun j hj => Nat.lt_of_not_le fun hd => hx ⟨j, hj, hd⟩⟩
  exact key d h0
open Classical in
noncomputable def neaN (β d : Nat) : Nat := if h : ∃ k, NearIs β d k then Classical.choose h else 0
theorem neaN_is {β : Nat} (hb : 2 ≤ β) (d : Nat) : NearIs β d (neaN β d) := by
  unfold neaN
  rw [dif_pos (near_ex hb d)]
  exact Classical.choose_spec (near_ex hb d)
theorem neaN_eq {β d k : Nat} (h : NearIs β d k) : neaN β d = k := by
  have e : ∃ k, NearIs β d k := ⟨k, h⟩
  unfold neaN
  rw [dif_pos e]
  exact (Classical.choose_spec e).uniq h
theorem neaN_le {β d i : Nat} (hb : 2 ≤ β) : neaN β d ≤ i ↔ d ≤ β ^ i := by
  have n := neaN_is hb d
  constructor
  · intro h
    exact Nat.le_trans n.1 (Nat.pow_le_pow_right (by omega) h)
  · intro h
    rcases Nat.lt_or_ge i (neaN β d) with z | z
    · exact absurd (n.2 i z) (by omega)
    · exact z
open Classical in
noncomputable def chgN (β f s : Nat) : Nat := if h : ∃ m, ChgIs β f s m then Classical.choose h else 0
theorem chgN_eq {β f s m : Nat} (h : ChgIs β f s m) : chgN β f s = m := by
  have e : ∃ m, ChgIs β f s m := ⟨m, h⟩
  unfold chgN
  rw [dif_pos e]
  exact (Classical.choose_spec e).uniq h
/-- the last two digits -/
def enD (β f : Nat) : Str := cutS (digs β f) (some (-2)) none
/-- what facts_of tells -/
noncomputable def fctV (β f s : Nat) : List V := [.int ((dl β f).length : Int), .int ((dl β s).length : Int), .int (chgN β f s : Int), .int (neaN β (s - f) : Int), .str (enD β f)]
/-- what is refused of two values, and what is due of a range -/
structure RngQ (ca : Nat → Addr) (v u : V) (b c : Bool) (H : Hp) (E : XK) (G : Nat → Nat → Prop) : Prop where
  bad : (b && c) = false → LeavesP (ca 4) v u H E
  ok : (b && c) = true → (∃ i j : Int, v = .int i ∧ u = .int j ∧ j ≤ i ∧ LeavesP (ca 4) v u H E) ∨ ∃ f s : Nat, v = .int f ∧ u = .int s ∧ 1 ≤ f ∧ f < s ∧ s < 2 ^ 50000 ∧ G f s
theorem RngQ.map {ca : Nat → Addr} {v u : V} {b c : Bool} {H H' : Hp} {E : XK} {G G' : Nat → Nat → Prop} (R : RngQ ca v u b c H E G) (e : Ex H H') (h : ∀ f s : Nat, v = .int (f : Int) → u = .int (s : Int) → 1 ≤ f → f < s → s < 2 ^ 50000 → G f s → G' f s) : RngQ ca v u b c H' E G' :=
  ⟨fun z => (R.bad z).go e, fun z => by
    rcases R.ok z with ⟨i, j, h1, h2, h3, l⟩ | ⟨f, s, h1, h2, h3, h4, h5, g⟩
    · exact .inl ⟨i, j, h1, h2, h3, l.go e⟩
    · exact .inr ⟨f, s, h1, h2, h3, h4, h5, h f s h1 h2 h3 h4 h5 g⟩⟩
section
variable {K : PySem.W.Frag} {σ : St} {H : Hp} {t0 t1 t2 : TE} {E : St → XK} {β f s n : Nat} {ca : Nat → Addr}
theorem nm_yes (h : 1 ≤ n) : Nm K H (.int n) true := by
  rw [← decide_eq_true (p := (1 : Int) ≤ (n : Int)) (by omega)]
  exact .int n
theorem ev_digP (b2 : 2 ≤ β) (b10 : β ≤ 10) (n1 : 1 ≤ n) (nz : n < 2 ^ 50000) (h0 : Ev t0 σ H (.int β)) (h1 : Ev t1 σ H (.int n)) : Ev (tCallS (spDigits K ca) E (tCons t0 (tCons t1 tNil))) σ H (.str (digs β n)) := fun H1 e Q q =>
  h0 H1 e _ fun H2 e2 => h1 H2 (e.trans e2) _ fun H3 e3 => ⟨.int β, .int n, true, true, rfl, Dt.bs_yes b2 b10, nm_yes n1, (fun z => nomatch z), (fun _ z => nomatch z), fun _ _ => ⟨β, n, rfl, rfl, b2, b10, n1, nz, fun H4 e4 => q H4 ((e2.trans e3).trans e4)⟩⟩
theorem ev_lenP (b2 : 2 ≤ β) (b10 : β ≤ 10) (n1 : 1 ≤ n) (nz : n < 2 ^ 50000) (h0 : Ev t0 σ H (.int β)) (h1 : Ev t1 σ H (.int n)) : Ev (tCallS (spLength K ca) E (tCons t0 (tCons t1 tNil))) σ H (.int ((dl β n).length : Int)) := fun H1 e Q q =>
  h0 H1 e _ fun H2 e2 => h1 H2 (e.trans e2) _ fun H3 e3 => ⟨.int β, .int n, true, true, rfl, Dt.bs_yes b2 b10, nm_yes n1, (fun z => nomatch z), (fun _ z => nomatch z), fun _ _ => ⟨β, n, rfl, rfl, b2, b10, n1, nz, fun H4 e4 => q H4 ((e2.trans e3).trans e4)⟩⟩
theorem ev_rng {R : Nat → Nat → Nat → Nat → Prop} {z : Nat} (b2 : 2 ≤ β) (b10 : β ≤ 10) (f1 : 1 ≤ f) (hfs : f < s) (hz : ∀ m, R β f s m → z = m) (h0 : Ev t0 σ H (.int β)) (h1 : Ev t1 σ H (.int f)) (h2 : Ev t2 σ H (.int s)) :
    Ev (tCallS (spRng K ca R) E (tCons t0 (tCons t1 (tCons t2 tNil)))) σ H (.int (z : Int)) := fun H1 e Q q =>
  h0 H1 e _ fun H2 e2 => h1 H2 (e.trans e2) _ fun H3 e3 => h2 H3 ((e.trans e2).trans e3) _ fun H4 e4 => ⟨.int β, .int f, .int s, true, true, true, rfl, Dt.bs_yes b2 b10, nm_yes f1, nm_yes (Nat.le_of_lt (Nat.lt_of_le_of_lt f1 hfs)), (fun z => nomatch z), (fun _ z => nomatch z), fun _ _ => ⟨β, f, s, rfl, b2, b10, .inr ⟨rfl, rfl, hfs, fun m hm H5 e5 => by
    rw [← hz m hm]
    exact q H5 (((e2.trans e3).trans e4).trans e5)⟩⟩⟩
end
abbrev sFacts : Stmt := top 36
structure TxFa (K : PySem.W.Frag) (mg : Str → Option Value) (fnr fdg fne fle fch : Addr) : Prop where
  needR : mg "need_range" = some (.ref fnr)
  kNR : PySem.W.keepIn K (.ref fnr) = true
  digits : mg "digits" = some (.ref fdg)
  kDg : PySem.W.keepIn K (.ref fdg) = true
  near : mg "near" = some (.ref fne)
  kNe : PySem.W.keepIn K (.ref fne) = true
  length : mg "length" = some (.ref fle)
  kLe : PySem.W.keepIn K (.ref fle) = true
  changed : mg "changed" = some (.ref fch)
  kCh : PySem.W.keepIn K (.ref fch) = true
  len : mg "len" = none
  mend : ∃ t, mg "MOST_ENDING" = some (.int 2 t)
theorem z5 : 5 ≤ sizeLine := by rw [sizeLine_eq]; decide
section
variable {P : Program} {w : World} {K : PySem.W.Frag} {mg : Str → Option Value} {base : Heap} {ca : Nat → Addr} {fnr fdg fne fle fch : Addr}
def spFacts (K : PySem.W.Frag) (ca : Nat → Addr) : Sp := fun vs H Q E => ∃ (β : Nat) (v u : V) (b c : Bool), vs = [.int β, v, u] ∧ 2 ≤ β ∧ β ≤ 10 ∧ Nm K H v b ∧ Nm K H u c ∧ RngQ ca v u b c H E fun f s => ∀ t H', Ex H H' → H' t = some (.tup (fctV β f s)) → Q (.ref t) H'
theorem scFacts : FnScope ["base", "first", "second", "written", "gap"] ["base", "first", "second"] (defScope sFacts) := ⟨rfl, rfl, rfl, by decide +kernel, rfl, by decide +kernel, by decide +kernel⟩
theorem ok_facts {f : Addr} {fd fd1 fd2 fd3 fd4 fd5 : FuncData} (F : Fun K "facts_of" "facts_of" sFacts f fd) (GR : FnOk P w K mg base (L2.CX P w) 5 fnr fd1 ["first", "second"] (spNeedR K ca)) (bR : Binds K fd1 ["first", "second"] [])
    (GD : FnOk P w K mg base (L2.CX P w) 5 fdg fd2 ["base", "number"] (spDigits K ca)) (bD : Binds K fd2 ["base", "number"] []) (GN : FnOk P w K mg base (L2.CX P w) 5 fne fd3 ["base", "first", "second"] (spRng K ca fun β f s m => NearIs β (s - f) m)) (bN : Binds K fd3 ["base", "first", "second"] [])
    (GL : FnOk P w K mg base (L2.CX P w) 5 fle fd4 ["base", "number"] (spLength K ca)) (bL : Binds K fd4 ["base", "number"] []) (GC : FnOk P w K mg base (L2.CX P w) 5 fch fd5 ["base", "first", "second"] (spRng K ca ChgIs)) (bC : Binds K fd5 ["base", "first", "second"] [])
    (T : TxFa K mg fnr fdg fne fle fch) : FnOk P w K mg base (L2.CX P w) 6 f fd ["base", "first", "second"] (spFacts K ca) := by
  refine F.okX scFacts (fun vs H Q E h => ?_) (fun cdv A outer s H vs Q E hr h => ?_)
  · obtain ⟨_, _, _, _, _, rfl, _⟩ := h
    rfl
  · obtain ⟨β, v, u, b, c, rfl, b2, b10, kb, kc, R⟩ := h
    obtain ⟨tm, hm⟩ := T.mend
    refine ⟨_, pss_cons (ps_expr (pe_callS GR hr (by rfl) T.needR T.kNR bR (fun σ => passAt (takes_of rfl rfl rfl rfl) σ) (pa_cons (pv 1) (pa_cons (pv 2) pa_nil))))
      (pss_cons (ps_set (i := 3) scFacts.nd rfl (.inl rfl) (pe_callS GD hr (by rfl) T.digits T.kDg bD (fun σ => passAt (takes_of rfl rfl rfl rfl) σ) (pa_cons (pv 0) (pa_cons (pv 1) pa_nil))))
      (pss_cons (ps_set (i := 4) scFacts.nd rfl (.inl rfl) (pe_callS GN hr (by rfl) T.near T.kNe bN (fun σ => passAt (takes_of rfl rfl rfl rfl) σ) (pa_cons (pv 0) (pa_cons (pv 1) (pa_cons (pv 2) pa_nil)))))
      (pss_one (ps_ret (pe_tup (pa_cons (pe_callB call_len_str (by rfl) T.len (by decide +kernel) (pa_cons (pv 3) pa_nil))
        (pa_cons (pe_callS GL hr (by rfl) T.length T.kLe bL (fun σ => passAt (takes_of rfl rfl rfl rfl) σ) (pa_cons (pv 0) (pa_cons (pv 2) pa_nil)))
        (pa_cons (pe_callS GC hr (by rfl) T.changed T.kCh bC (fun σ => passAt (takes_of rfl rfl rfl rfl) σ) (pa_cons (pv 0) (pa_cons (pv 1) (pa_cons (pv 2) pa_nil))))
        (pa_cons (pv 4) (pa_cons (pe_slice sl_str (pv 3) (po_some (pe_un un_neg (pe_glob (by rfl) hm (v := .int 2) ⟨_, rfl⟩))) po_none) pa_nil)))))))))), ?_⟩
    refine ⟨_, rfl, _, rfl, v, u, b, c, rfl, kb, kc, R.bad, fun z => ?_⟩
    rcases R.ok z with ⟨i, j, rfl, rfl, hij, lt⟩ | ⟨f, s, rfl, rfl, f1, hfs, s2, q⟩
    · exact ⟨i, j, rfl, rfl, fun _ => lt, fun z => absurd hij (Int.not_le.mpr z)⟩
    · have f2 : f < 2 ^ 50000 := Nat.lt_trans hfs s2
      have s1 : 1 ≤ s := Nat.le_of_lt (Nat.lt_of_le_of_lt f1 hfs)
      refine ⟨f, s, rfl, rfl, fun z => absurd z (Int.not_le.mpr (Int.ofNat_lt.mpr hfs)), fun _ H1 e1 => ?_⟩
      refine q_asg (ev_digP b2 b10 f1 f2 (ev_var rfl) (ev_var rfl)) fun H2 e2 => ?_
      refine q_asg (v := .int (neaN β (s - f) : Int)) (ev_rng b2 b10 f1 hfs (fun m hm => neaN_eq hm) (ev_var rfl) (ev_var rfl) (ev_var rfl)) fun H3 e3 => ?_
      have lf : (digs β f).length ≤ 100000 := Nat.le_trans (digs_le (n := f) b2 f2) (by decide)
      refine s_tup (vs := fctV β f s) ?_ z5 fun t H4 e4 nt ht => q t H4 (((e1.trans e2).trans e3).trans e4) ht
      refine ea_cons (ev_is (ev_lenX (K := K) (x := digs β f) (ev_var rfl) lf) (by rw [digs_len])) ?_
      refine ea_cons (ev_lenP b2 b10 s1 s2 (ev_var rfl) (ev_var rfl)) ?_
      refine ea_cons (ev_rng (z := chgN β f s) b2 b10 f1 hfs (fun m hm => chgN_eq hm) (ev_var rfl) (ev_var rfl) (ev_var rfl)) ?_
      refine ea_cons (ev_var rfl) ?_
      exact ea_cons (ev_cutS (ev_var rfl) (eo_some (ev_un ev_c ru_neg)) eo_none lf) ea_nil
end
end Dg

/-! k06: the rule that writes a range, and how much it keeps. -/
namespace Dt
open PySem L2 Evl Dg LamR LamX StX ClX TL
open Dr (StAt SameB)
/-- whether a condition holds -/
noncomputable def holdsD (β f s : Nat) : PyData → Bool
  | .tuple [.str _, .str x] => Txt.endswith (enD β f) x
  | .tuple [.str _, .int i] => decide ((neaN β (s - f) : Int) ≤ i)
  | .tuple [.str w, .int i, e] => decide (i ≤ (if w = "length" then ((dl β f).length : Int) else (chgN β f s : Int))) && (isN e || decide ((if w = "length" then ((dl β f).length : Int) else (chgN β f s : Int)) ≤ intD e))
  | _ => false
noncomputable def appl (β f s : Nat) (d : PyData) : Bool := (tupD (at_ 0 d)).all (holdsD β f s)
/-- the number of the first rule that applies -/
noncomputable def firstD (β f s : Nat) (Ds : List PyData) : Nat := (Ds.take (Ds.length - 1)).findIdx (appl β f s)
/-- how many digits a rule keeps -/
noncomputable def keepN (β f s : Nat) : PyData → Nat
  | .tuple [.str _] => (dl β s).length
  | .tuple [.str w, .int i] => if w = "changed" then min (max (chgN β f s) i.toNat) (dl β s).length else min i.toNat (dl β s).length
  | _ => 0
noncomputable def keptD (β f s : Nat) (Ds : List PyData) : Nat := keepN β f s (at_ 1 (Ds.getD (firstD β f s Ds) .none))
theorem firstD_lt {β f s : Nat} {Ds : List PyData} (h : 1 ≤ Ds.length) : firstD β f s Ds < Ds.length := by
  have := List.findIdx_le_length (xs := Ds.take (Ds.length - 1)) (p := appl β f s)
  rw [List.length_take] at this
  unfold firstD
  omega
abbrev sHolds : Stmt := top 37
abbrev sFirst : Stmt := top 38
abbrev sMany : Stmt := top 39
abbrev sWritten : Stmt := top 40
structure TxW (K : PySem.W.Frag) (mg : Str → Option Value) (fho ffi fma : Addr) : Prop where
  holds : mg "holds" = some (.ref fho)
  kHo : PySem.W.keepIn K (.ref fho) = true
  first : mg "first_applying" = some (.ref ffi)
  kFi : PySem.W.keepIn K (.ref ffi) = true
  many : mg "many_kept" = some (.ref fma)
  kMa : PySem.W.keepIn K (.ref fma) = true
  len : mg "len" = none
  range : mg "range" = none
  all : mg "all" = none
  min : mg "min" = none
  max : mg "max" = none
section
variable {P : Program} {w : World} {K : PySem.W.Frag} {mg : Str → Option Value} {base : Heap} {ca : Nat → Addr} {fho ffi fma : Addr}
def spHolds : Sp := fun vs H Q _ => ∃ (v : V) (t : Addr) (D : PyData) (β f s : Nat), vs = [v, .ref t] ∧ Pt H v D ∧ CondS β D ∧ H t = some (.tup (fctV β f s)) ∧ RetV (.bl (holdsD β f s D)) H Q
abbrev nHolds : List Str := ["condition", "facts", "first_length", "second_length", "change", "gap", "ending", "word", "size"]
theorem scHolds : FnScope nHolds ["condition", "facts"] (defScope sHolds) := ⟨rfl, rfl, rfl, by decide +kernel, rfl, by decide +kernel, by decide +kernel⟩
theorem ok_holds {f : Addr} {fd : FuncData} (F : Fun K "holds" "holds" sHolds f fd) : FnOk P w K mg base CX0 1 f fd ["condition", "facts"] spHolds := by
  refine F.ok scHolds (fun vs H Q E h => ?_) (fun cdv A outer s H vs Q E hr h => ?_)
  · obtain ⟨_, _, _, _, _, _, rfl, _⟩ := h
    rfl
  · obtain ⟨v, t, D, β, f, s, rfl, k, hc, ht, q⟩ := h
    refine ⟨_, pss_cons (ps_asg (pv 1) (pg_tup (by rfl) (pgs_cons (pg_name (i := 2) scHolds.nd rfl (.inl rfl)) (pgs_cons (pg_name (i := 3) scHolds.nd rfl (.inl rfl)) (pgs_cons (pg_name (i := 4) scHolds.nd rfl (.inl rfl)) (pgs_cons (pg_name (i := 5) scHolds.nd rfl (.inl rfl)) (pgs_cons (pg_name (i := 6) scHolds.nd rfl (.inl rfl)) pgs_nil)))))))
      (pss_cons (ps_set (i := 7) scHolds.nd rfl (.inl rfl) (pe_ix ix_tup (pv 0) pe_int (fun _ _ => rfl)))
      (pss_cons (ps_if (pt_cmpR op_eq (pv 7) pe_str (nomark _)) (pss_one (ps_ret (pe_m1 PySem.F.slot_str_endswith PySem.F.type_str_endswith mt_endswith (pv 6) (pe_ix ix_tup (pv 0) pe_int (fun _ _ => rfl))))) pss_nil)
      (pss_cons (ps_if (pt_cmpR op_eq (pv 7) pe_str (nomark _)) (pss_one (ps_ret (pe_cmpR op_le (pv 5) (pe_ix ix_tup (pv 0) pe_int (fun _ _ => rfl)) (nomark _)))) pss_nil)
      (pss_cons (ps_set (i := 8) scHolds.nd rfl (.inl rfl) (pe_ifExp (pt_cmpR op_eq (pv 7) pe_str (nomark _)) (pv 2) (pv 4)))
      (pss_one (ps_ret (pe_and (pe_cmpR op_le (pe_ix ix_tup (pv 0) pe_int (fun _ _ => rfl)) (pv 8) (nomark _)) (pe_one (pe_or (pe_cmpR op_isN (pe_ix ix_tup (pv 0) pe_int (fun _ _ => rfl)) pe_non (nomark _)) (pe_one (pe_cmpR op_le (pv 8) (pe_ix ix_tup (pv 0) pe_int (fun _ _ => rfl)) (nomark _)))))))))))), ?_⟩
    have k' : ∃ ds, D = .tuple ds := by cases hc <;> exact ⟨_, rfl⟩
    obtain ⟨ds, rfl⟩ := k'
    obtain ⟨a, us, rfl, ha, ka⟩ := k.tupI'
    refine ⟨_, rfl, t, _, rfl, st_of ht, rfl, _, _, rfl, _, _, rfl, _, _, rfl, _, _, rfl, _, _, rfl, rfl, ?_⟩
    cases hc with
    | ends x hx =>
      obtain ⟨u0, u1, rfl⟩ : ∃ u0 u1, us = [u0, u1] := by
        match us, ka.length with
        | [u0, u1], _ => exact ⟨_, _, rfl⟩
      cases ka with
      | cons k0 ka =>
        cases ka with
        | cons k1 _ =>
          cases k0
          cases k1
          refine q_asg (v := .str "ends") (ev_at (K := K) (i := 0) (ev_var rfl) ha rfl) fun H1 e1 => ?_
          refine q_when (b := true) (et_test (ev_is (ev_op (ev_var rfl) ev_c (rv_eq rfl)) (by rw [decide_eq_true rfl]))) (fun z H2 e2 => ?_) (fun z => nomatch z)
          exact ⟨_, rfl, ⟨_, rfl⟩, ev_at (K := K) (i := 1) (ev_var rfl) (e2 _ _ (e1 _ _ ha)) rfl H2 (Ex.refl H2) _ fun H3 e3 => ⟨_, _, rfl, rfl, q H3 ((e1.trans e2).trans e3)⟩⟩
    | near i h0 h6 =>
      obtain ⟨u0, u1, rfl⟩ : ∃ u0 u1, us = [u0, u1] := by
        match us, ka.length with
        | [u0, u1], _ => exact ⟨_, _, rfl⟩
      cases ka with
      | cons k0 ka =>
        cases ka with
        | cons k1 _ =>
          cases k0
          cases k1
          refine q_asg (v := .str "near") (ev_at (K := K) (i := 0) (ev_var rfl) ha rfl) fun H1 e1 => ?_
          refine q_when (b := false) (et_test (ev_is (ev_op (ev_var rfl) ev_c (rv_eq rfl)) (by rw [decide_eq_false (by decide +kernel)]))) (fun z => nomatch z) (fun z H2 e2 => ?_)
          refine q_when (b := true) (et_test (ev_is (ev_op (ev_var rfl) ev_c (rv_eq rfl)) (by rw [decide_eq_true rfl]))) (fun z H3 e3 => ?_) (fun z => nomatch z)
          have e13 := (e1.trans e2).trans e3
          exact s_ret (ev_op (ev_var rfl) (ev_at (K := K) (i := 1) (ev_var rfl) (e13 _ _ ha) rfl) rv_I0) fun H4 e4 => q H4 (e13.trans e4)
    | len w hw i h1 h6 e he =>
      obtain ⟨u0, u1, u2, rfl⟩ : ∃ u0 u1 u2, us = [u0, u1, u2] := by
        match us, ka.length with
        | [u0, u1, u2], _ => exact ⟨_, _, _, rfl⟩
      cases ka with
      | cons k0 ka =>
        cases ka with
        | cons k1 ka =>
          cases ka with
          | cons k2 _ =>
            cases k0
            cases k1
            have n1 : w ≠ "ends" := by rcases hw with rfl | rfl <;> decide +kernel
            have n2 : w ≠ "near" := by rcases hw with rfl | rfl <;> decide +kernel
            refine q_asg (v := .str w) (ev_at (K := K) (i := 0) (ev_var rfl) ha rfl) fun H1 e1 => ?_
            refine q_when (b := false) (et_test (ev_is (ev_op (ev_var rfl) ev_c (rv_eq rfl)) (by rw [decide_eq_false (fun z => n1 (by injection z))]))) (fun z => nomatch z) (fun z H2 e2 => ?_)
            refine q_when (b := false) (et_test (ev_is (ev_op (ev_var rfl) ev_c (rv_eq rfl)) (by rw [decide_eq_false (fun z => n2 (by injection z))]))) (fun z => nomatch z) (fun z H3 e3 => ?_)
            have e13 := (e1.trans e2).trans e3
            obtain ⟨sz, hsz⟩ : ∃ sz : Int, sz = if w = "length" then ((dl β f).length : Int) else (chgN β f s : Int) := ⟨_, rfl⟩
            refine q_asg (v := .int sz) (ev_if (b := decide (w = "length")) (et_test (ev_is (ev_op (ev_var rfl) ev_c (rv_eq rfl)) (by
                congr 1
                exact decide_eq_decide.mpr ⟨fun z => by injection z, fun z => by rw [z]⟩))) (fun z => ?_) (fun z => ?_)) fun H4 e4 => ?_
            · rw [hsz, if_pos (of_decide_eq_true z)]
              exact ev_var rfl
            · rw [hsz, if_neg (of_decide_eq_false z)]
              exact ev_var rfl
            have e14 := e13.trans e4
            have ha4 := e14 _ _ ha
            have q' : RetV (.bl (decide (i ≤ sz) && (isN e || decide (sz ≤ intD e)))) H Q := by
              rw [hsz]
              exact q
            refine s_ret (ev_andV (ev_op (ev_at (K := K) (i := 1) (ev_var rfl) ha4 rfl) (ev_var rfl) rv_I0) fun _ => ev_orV (a := isN e) (ev_op (y := .non) (ev_at (K := K) (i := 2) (ev_var rfl) ha4 rfl) ev_c fun H5 e5 Q5 k5 => ⟨rfl, by rw [(k2.ex (e14.trans e5)).isN]; exact k5 _ (Ex.refl _)⟩) fun z => ?_) fun H5 e5 => q' H5 (e14.trans e5)
            rcases he with rfl | ⟨j, rfl, hj, hj6⟩
            · cases z
            · cases k2
              exact ev_op (ev_var rfl) (ev_at (K := K) (i := 2) (ev_var rfl) ha4 rfl) rv_I0
/-! ### the first that applies -/
/-- rules of a style -/
def RowS (β : Nat) (Ds : List PyData) : Prop := 1 ≤ Ds.length ∧ Ds.length ≤ 8 ∧ Ds.all (ruleB β) = true
theorem RowS.at {β : Nat} {Ds : List PyData} (h : RowS β Ds) {i : Nat} {d : PyData} (hd : Ds[i]? = some d) : ∃ cs k, d = .tuple [.tuple cs, k] ∧ cs.length ≤ 3 ∧ (∀ c ∈ cs, CondS β c) ∧ KeepS k := rule_inv (List.all_eq_true.mp h.2.2 d (List.mem_of_getElem? hd))
/-- the conditions and the keep of a rule that lies there -/
theorem Pt.rule {H : Hp} {v k : _} {cs : List PyData} (h : Pt H v (.tuple [.tuple cs, k])) : ∃ a ac ws vk, v = .ref a ∧ H a = some (.tup [.ref ac, vk]) ∧ H ac = some (.tup ws) ∧ PtAll H ws cs ∧ Pt H vk k := by
  obtain ⟨a, us, rfl, ha, ka⟩ := h.tupI'
  cases ka with
  | cons k0 ka =>
    cases ka with
    | cons k1 kz =>
      cases kz
      obtain ⟨ac, ws, rfl, hac, kw⟩ := k0.tupI'
      exact ⟨a, ac, ws, _, rfl, ha, hac, kw, k1⟩
def spFirst : Sp := fun vs H Q _ => ∃ (r t : Addr) (rs : List V) (Ds : List PyData) (β f s : Nat), vs = [.ref r, .ref t] ∧ H r = some (.tup rs) ∧ PtAll H rs Ds ∧ RowS β Ds ∧ H t = some (.tup (fctV β f s)) ∧ RetV (.int (firstD β f s Ds : Int)) H Q
abbrev nFirst : List Str := ["rules", "facts", "last", "number", "condition"]
theorem scFirst : FnScope nFirst ["rules", "facts"] (defScope sFirst) := ⟨rfl, rfl, rfl, by decide +kernel, rfl, by decide +kernel, by decide +kernel⟩
theorem ok_first {f : Addr} {fd fdh : FuncData} (F : Fun K "first_applying" "first_applying" sFirst f fd) (GH : FnOk P w K mg base CX0 1 fho fdh ["condition", "facts"] spHolds) (bH : Binds K fdh ["condition", "facts"] []) (T : TxW K mg fho ffi fma) :
    FnOk P w K mg base CX0 2 f fd ["rules", "facts"] spFirst := by
  refine F.ok scFirst (fun vs H Q E h => ?_) (fun cdv A outer s H vs Q E hr h => ?_)
  · obtain ⟨_, _, _, _, _, _, _, rfl, _⟩ := h
    rfl
  · obtain ⟨r, t, rs, Ds, β, f, s, rfl, hrs, ka, good, ht, q⟩ := h
    refine ⟨_, pss_cons (ps_set (i := 2) scFirst.nd rfl (.inl rfl) (pe_op op_sub (pe_callB call_len_seq (by rfl) T.len (by decide +kernel) (pa_cons (pv 0) pa_nil)) pe_int))
      (pss_cons (ps_for PassesOwn.never rfl (pi_range1 (by rfl) T.range (pa_cons (pv 2) pa_nil)) (pg_name (i := 3) scFirst.nd rfl (.inl rfl))
        (pss_one (ps_if (pt_val (pe_callB (cr_all rfl) (by rfl) T.all (by decide +kernel) (pa_cons (pe_lc (own := [("condition", 4)]) (g := gName 4) (tt := tYes) rfl scFirst.nd (pi_tup (pe_ix ix_tup (pe_ix ix_tup (pv 0) (pv 3) (fun _ _ => rfl)) pe_int (fun _ _ => rfl))) (blkOk_by (own := [("condition", 4)]) (N := nFirst) (sc := defScope sFirst) (by decide +kernel)) (fun _ _ _ _ _ => pg_name (i := 4) scFirst.nd rfl (Or.inl rfl)) (fun _ _ _ _ _ => pts_nil)
            (fun _ _ _ _ _ => pe_call GH hr (by rfl) T.holds T.kHo bH .nil pass0 (pa_cons (pv 4) (pa_cons (pv 1) pa_nil)))) pa_nil))) (pss_one (ps_ret (pv 3))) pss_nil)))
      (pss_one (ps_ret (pv 2)))), ?_⟩
    have hl := ka.length
    have h1 := good.1
    refine q_asg (v := .int ((Ds.length - 1 : Nat) : Int)) (ev_is (ev_op (ev_lenT (K := K) (ev_var rfl) hrs) ev_c rv_I0) (by
      congr 1
      show (rs.length : Int) - 1 = _
      omega)) fun H1 e1 => ?_
    refine q_forR1 (n := ((Ds.length - 1 : Nat) : Int)) (ea_cons (ev_var rfl) ea_nil) (by have := good.2.1; omega) (fun i σ H' => Ex H H' ∧ (∃ x3, σ = [some (.ref r), some (.ref t), some (.int ((Ds.length - 1 : Nat) : Int)), x3, none]) ∧ ∀ j d, j < i → Ds[j]? = some d → appl β f s d = false)
      (fun H2 e2 => ⟨e1.trans e2, ⟨none, rfl⟩, fun j d hj _ => absurd hj (Nat.not_lt_zero j)⟩) (fun i σ H2 hi ⟨e2, ⟨x3, hσ⟩, hne⟩ => ?_) (fun σ H2 ⟨e2, ⟨x3, hσ⟩, hne⟩ => ?_)
    · subst hσ
      have hi2 : i < Ds.length - 1 := by omega
      obtain ⟨d, hd⟩ : ∃ d, Ds[i]? = some d := ⟨_, List.getElem?_eq_getElem (by omega)⟩
      obtain ⟨u, hu, ku⟩ := ka.get hd
      obtain ⟨cs, k, rfl, hc3, hcs, hks⟩ := good.at hd
      obtain ⟨au, ac, ws, vk, rfl, hau, hac, kws, kk⟩ := (ku.ex e2).rule
      have hrs2 := e2 _ _ hrs
      have ht2 := e2 _ _ ht
      have hcl := kws.length
      have eC : Ev (tOp (rIxT K) (tOp (rIxT K) (tVar 0) (tVar 3)) (tC (.int ((0 : Nat) : Int)))) [some (.ref r), some (.ref t), some (.int ((Ds.length - 1 : Nat) : Int)), some (.int (i : Int)), none] H2 (.ref ac) := ev_at (K := K) (i := 0) (ev_op (ev_var rfl) (ev_var rfl) (rv_ixT (st_of hrs2) (atI_nat hu))) hau rfl
      have eL : EvL (tLc (iTup K (tOp (rIxT K) (tOp (rIxT K) (tVar 0) (tVar 3)) (tC (.int ((0 : Nat) : Int))))) (gName 4) tYes (tCall spHolds [] E0 (tCons (tVar 4) (tCons (tVar 1) tNil))) [4]) [some (.ref r), some (.ref t), some (.int ((Ds.length - 1 : Nat) : Int)), some (.int (i : Int)), none] H2 ((cs.map (holdsD β f s)).map V.bl) := by
        rw [List.map_map, ← given_all cs (V.bl ∘ holdsD β f s) .non, ← hcl]
        refine el_lcT (fun _ => true) _ eC (st_of hac) (by omega) (fun _ => rfl) (fun i x H4 e4 hx => fun H5 e5 Q5 q5 => q5 H5 (Ex.refl _)) (fun i x H4 e4 hx _ => ?_)
        obtain ⟨dd, hd', kd'⟩ := kws.get2 hx
        rw [hd']
        exact ev_call (ea_cons (ev_var rfl) (ea_cons (ev_var rfl) ea_nil)) fun H5 e5 Q5 q5 E5 => ⟨x, t, dd, β, f, s, rfl, (kd'.ex e4).ex e5, hcs dd (List.mem_of_getElem? hd'), e5 _ _ (e4 _ _ ht2), fun H6 e6 => q5 H6 e6⟩
      refine s_when (b := appl β f s (.tuple [.tuple cs, k])) (et_B (ev_is (ev_allL eL) (by rw [List.all_map]; rfl))) (fun z H3 e3 => ?_) (fun z H3 e3 => ?_)
      · have hf : firstD β f s Ds = i := by
          unfold firstD
          rw [List.findIdx_eq (by rw [List.length_take]; omega)]
          refine ⟨?_, fun j hj => ?_⟩
          · rw [List.getElem_take]
            rw [List.getElem?_eq_getElem (by omega)] at hd
            injection hd with hd
            rw [hd]
            exact z
          · rw [List.getElem_take]
            exact hne j _ hj (List.getElem?_eq_getElem (by omega))
        rw [hf] at q
        exact ⟨_, rfl, q H3 (e2.trans e3)⟩
      · refine ⟨e2.trans e3, ⟨_, rfl⟩, fun j d' hj hd' => ?_⟩
        rcases Nat.lt_or_ge j i with y | y
        · exact hne j d' y hd'
        · have : j = i := by omega
          subst this
          rw [hd] at hd'
          injection hd' with hd'
          rw [← hd']
          exact z
    · subst hσ
      have hf : firstD β f s Ds = Ds.length - 1 := by
        unfold firstD
        rw [List.findIdx_eq_length.mpr, List.length_take]
        · omega
        · intro x hx
          obtain ⟨j, hj, e⟩ := List.mem_take_iff_getElem.mp hx
          exact hne j x (by omega) (by rw [← e]; exact List.getElem?_eq_getElem (by omega))
      rw [hf] at q
      exact ⟨_, rfl, q H2 e2⟩
/-! ### how many -/
def spMany : Sp := fun vs H Q _ => ∃ (v : V) (t : Addr) (D : PyData) (β f s : Nat), vs = [v, .ref t] ∧ Pt H v D ∧ KeepS D ∧ H t = some (.tup (fctV β f s)) ∧ RetV (.int (keepN β f s D : Int)) H Q
abbrev nMany : List Str := ["keep", "facts", "first_length", "second_length", "change", "gap", "ending"]
theorem scMany : FnScope nMany ["keep", "facts"] (defScope sMany) := ⟨rfl, rfl, rfl, by decide +kernel, rfl, by decide +kernel, by decide +kernel⟩
theorem ok_many {f : Addr} {fd : FuncData} (F : Fun K "many_kept" "many_kept" sMany f fd) (T : TxW K mg fho ffi fma) : FnOk P w K mg base CX0 1 f fd ["keep", "facts"] spMany := by
  refine F.ok scMany (fun vs H Q E h => ?_) (fun cdv A outer s H vs Q E hr h => ?_)
  · obtain ⟨_, _, _, _, _, _, rfl, _⟩ := h
    rfl
  · obtain ⟨v, t, D, β, f, s, rfl, k, hc, ht, q⟩ := h
    refine ⟨_, pss_cons (ps_asg (pv 1) (pg_tup (by rfl) (pgs_cons (pg_name (i := 2) scMany.nd rfl (.inl rfl)) (pgs_cons (pg_name (i := 3) scMany.nd rfl (.inl rfl)) (pgs_cons (pg_name (i := 4) scMany.nd rfl (.inl rfl)) (pgs_cons (pg_name (i := 5) scMany.nd rfl (.inl rfl)) (pgs_cons (pg_name (i := 6) scMany.nd rfl (.inl rfl)) pgs_nil)))))))
      (pss_cons (ps_if (pt_cmpR op_eq (pe_ix ix_tup (pv 0) pe_int (fun _ _ => rfl)) pe_str (nomark _)) (pss_one (ps_ret (pv 3))) pss_nil)
      (pss_cons (ps_if (pt_cmpR op_eq (pe_ix ix_tup (pv 0) pe_int (fun _ _ => rfl)) pe_str (nomark _)) (pss_one (ps_ret (pe_callB (call_min2 (by rfl)) (by rfl) T.min (by decide +kernel) (pa_cons (pe_callB (call_max2 (by rfl)) (by rfl) T.max (by decide +kernel) (pa_cons (pv 4) (pa_cons (pe_ix ix_tup (pv 0) pe_int (fun _ _ => rfl)) pa_nil))) (pa_cons (pv 3) pa_nil))))) pss_nil)
      (pss_one (ps_ret (pe_callB (call_min2 (by rfl)) (by rfl) T.min (by decide +kernel) (pa_cons (pe_ix ix_tup (pv 0) pe_int (fun _ _ => rfl)) (pa_cons (pv 3) pa_nil))))))), ?_⟩
    have k' : ∃ ds, D = .tuple ds := by cases hc <;> exact ⟨_, rfl⟩
    obtain ⟨ds, rfl⟩ := k'
    obtain ⟨a, us, rfl, ha, ka⟩ := k.tupI'
    refine ⟨_, rfl, t, _, rfl, st_of ht, rfl, _, _, rfl, _, _, rfl, _, _, rfl, _, _, rfl, _, _, rfl, rfl, ?_⟩
    have minI : ∀ (x y : Nat), (if (y : Int) < (x : Int) then (y : Int) else (x : Int)) = ((min x y : Nat) : Int) := fun x y => by
      rcases Nat.lt_or_ge y x with z | z
      · rw [if_pos (by omega), Nat.min_eq_right (Nat.le_of_lt z)]
      · rw [if_neg (by omega), Nat.min_eq_left z]
    have maxI : ∀ (x y : Nat), (if (y : Int) > (x : Int) then (y : Int) else (x : Int)) = ((max x y : Nat) : Int) := fun x y => by
      rcases Nat.lt_or_ge x y with z | z
      · rw [if_pos (by omega), Nat.max_eq_right (Nat.le_of_lt z)]
      · rw [if_neg (by omega), Nat.max_eq_left z]
    cases hc with
    | all =>
      obtain ⟨u0, rfl⟩ : ∃ u0, us = [u0] := by
        match us, ka.length with
        | [u0], _ => exact ⟨_, rfl⟩
      cases ka with
      | cons k0 _ =>
        cases k0
        refine q_when (b := true) (et_test (ev_is (ev_op (ev_at (K := K) (i := 0) (ev_var rfl) ha rfl) ev_c (rv_eq rfl)) (by rw [decide_eq_true rfl]))) (fun z H2 e2 => ?_) (fun z => nomatch z)
        exact ⟨_, rfl, q H2 e2⟩
    | size w hw i h1 h6 =>
      obtain ⟨u0, u1, rfl⟩ : ∃ u0 u1, us = [u0, u1] := by
        match us, ka.length with
        | [u0, u1], _ => exact ⟨_, _, rfl⟩
      cases ka with
      | cons k0 ka =>
        cases ka with
        | cons k1 _ =>
          cases k0
          cases k1
          obtain ⟨ι, rfl⟩ : ∃ ι : Nat, i = (ι : Int) := ⟨i.toNat, by omega⟩
          refine q_when (b := false) (et_test (ev_is (ev_op (ev_at (K := K) (i := 0) (ev_var rfl) ha rfl) ev_c (rv_eq rfl)) (by rw [decide_eq_false (fun z => by rcases hw with rfl | rfl <;> exact absurd z (by decide +kernel))]))) (fun z => nomatch z) (fun z H2 e2 => ?_)
          have ha2 := e2 _ _ ha
          refine q_when (b := decide (w = "changed")) (et_test (ev_is (ev_op (ev_at (K := K) (i := 0) (ev_var rfl) ha2 rfl) ev_c (rv_eq rfl)) (by
            congr 1
            exact decide_eq_decide.mpr ⟨fun z => by injection z, fun z => by rw [z]⟩))) (fun z H3 e3 => ?_) (fun z H3 e3 => ?_)
          · have hk : keepN β f s (.tuple [.str w, .int (ι : Int)]) = min (max (chgN β f s) ι) (dl β s).length := by
              show (if w = "changed" then _ else _) = _
              rw [if_pos (of_decide_eq_true z)]
              rfl
            rw [hk] at q
            refine ⟨_, rfl, ev_at (K := K) (i := 1) (ev_var rfl) (e3 _ _ ha2) rfl H3 (Ex.refl H3) _ fun H4 e4 => ⟨_, _, rfl, ?_⟩⟩
            rw [maxI]
            refine ⟨_, rfl, _, _, rfl, ?_⟩
            rw [minI]
            exact q H4 ((e2.trans e3).trans e4)
          · have hk : keepN β f s (.tuple [.str w, .int (ι : Int)]) = min ι (dl β s).length := by
              show (if w = "changed" then _ else _) = _
              rw [if_neg (of_decide_eq_false z)]
              rfl
            rw [hk] at q
            refine ev_at (K := K) (i := 1) (ev_var rfl) (e3 _ _ ha2) rfl H3 (Ex.refl H3) _ fun H4 e4 => ⟨_, rfl, _, _, rfl, ?_⟩
            rw [minI]
            exact q H4 ((e2.trans e3).trans e4)
/-! ### both -/
def spWritten : Sp := fun vs H Q _ => ∃ (r t : Addr) (rs : List V) (Ds : List PyData) (β f s : Nat), vs = [.ref r, .ref t] ∧ H r = some (.tup rs) ∧ PtAll H rs Ds ∧ RowS β Ds ∧ H t = some (.tup (fctV β f s)) ∧ ∀ p H', Ex H H' → H' p = some (.tup [.int (firstD β f s Ds : Int), .int (keptD β f s Ds : Int)]) → Q (.ref p) H'
theorem scWritten : FnScope ["rules", "facts", "number"] ["rules", "facts"] (defScope sWritten) := ⟨rfl, rfl, rfl, by decide +kernel, rfl, by decide +kernel, by decide +kernel⟩
theorem ok_written {f : Addr} {fd fd1 fd2 : FuncData} (F : Fun K "written" "written" sWritten f fd) (G1 : FnOk P w K mg base CX0 2 ffi fd1 ["rules", "facts"] spFirst) (b1 : Binds K fd1 ["rules", "facts"] []) (G2 : FnOk P w K mg base CX0 2 fma fd2 ["keep", "facts"] spMany) (b2 : Binds K fd2 ["keep", "facts"] []) (T : TxW K mg fho ffi fma) :
    FnOk P w K mg base CX0 3 f fd ["rules", "facts"] spWritten := by
  refine F.ok scWritten (fun vs H Q E h => ?_) (fun cdv A outer s H vs Q E hr h => ?_)
  · obtain ⟨_, _, _, _, _, _, _, rfl, _⟩ := h
    rfl
  · obtain ⟨r, t, rs, Ds, β, f, s, rfl, hrs, ka, good, ht, q⟩ := h
    refine ⟨_, pss_cons (ps_set (i := 2) scWritten.nd rfl (.inl rfl) (pe_call G1 hr (by rfl) T.first T.kFi b1 .nil pass0 (pa_cons (pv 0) (pa_cons (pv 1) pa_nil))))
      (pss_one (ps_ret (pe_tup (pa_cons (pv 2) (pa_cons (pe_call G2 hr (by rfl) T.many T.kMa b2 .nil pass0 (pa_cons (pe_ix ix_tup (pe_ix ix_tup (pv 0) (pv 2) (fun _ _ => rfl)) pe_int (fun _ _ => rfl)) (pa_cons (pv 1) pa_nil))) pa_nil))))), ?_⟩
    have hlt := firstD_lt (β := β) (f := f) (s := s) good.1
    obtain ⟨d, hd⟩ : ∃ d, Ds[firstD β f s Ds]? = some d := ⟨_, List.getElem?_eq_getElem hlt⟩
    obtain ⟨u, hu, ku⟩ := ka.get hd
    obtain ⟨cs, k, rfl, hc3, hcs, hks⟩ := good.at hd
    obtain ⟨au, ac, ws, vk, rfl, hau, hac, kws, kk⟩ := ku.rule
    have hk : keptD β f s Ds = keepN β f s k := by
      unfold keptD
      rw [List.getD_eq_getElem?_getD, hd]
      rfl
    rw [hk] at q
    refine q_asg (v := .int (firstD β f s Ds : Int)) (ev_call (ea_cons (ev_var rfl) (ea_cons (ev_var rfl) ea_nil)) fun H1 e1 Q1 q1 E1 => ⟨r, t, rs, Ds, β, f, s, rfl, e1 _ _ hrs, ka.ex e1, good, e1 _ _ ht, fun H2 e2 => q1 H2 e2⟩) fun H1 e1 => ?_
    refine s_tup (vs := [.int (firstD β f s Ds : Int), .int (keepN β f s k : Int)]) (ea_cons (ev_var rfl) (ea_cons ?_ ea_nil)) (by show (2:Nat) ≤ sizeLine; rw [sizeLine_eq]; omega) fun p H4 e4 np hp => q p H4 (e1.trans e4) hp
    exact ev_call (ea_cons (ev_at (K := K) (i := 1) (ev_op (ev_var rfl) (ev_var rfl) (rv_ixT (st_of (e1 _ _ hrs)) (atI_nat hu))) (e1 _ _ hau) rfl) (ea_cons (ev_var rfl) ea_nil)) fun H2 e2 Q2 q2 E2 => ⟨vk, t, k, β, f, s, rfl, kk.ex (e1.trans e2), hks, (e1.trans e2) _ _ ht, fun H3 e3 => q2 H3 e3⟩
end
end Dt

/-! k06: a style's own methods. -/
namespace Dt
open PySem L2 Evl Dg LamR LamX StX ClX TL
open Dr (StAt SameB)
abbrev sKeptOf : Stmt := inClass clStyle 5
abbrev sTailOf : Stmt := inClass clStyle 6
abbrev sCallOf : Stmt := inClass clStyle 7
theorem lk_rules (b r : V) : ([(("stored_base" : Str), b), ("stored_rules", r)]).lookup ("stored_rules" : Str) = some r := by
  have h : (("stored_rules" : Str) == "stored_base") = false := by decide +kernel
  simp [List.lookup, h]
theorem lk_base (b r : V) : ([(("stored_base" : Str), b), ("stored_rules", r)]).lookup ("stored_base" : Str) = some b := by simp [List.lookup]
theorem lk_none {m : Str} (b r : V) (h1 : (m == "stored_base") = false) (h2 : (m == "stored_rules") = false) : ([(("stored_base" : Str), b), ("stored_rules", r)]).lookup m = none := by simp [List.lookup, h1, h2]
noncomputable def tailD (β f s : Nat) (Ds : List PyData) : Str := cutS (digs β s) (some (-(keptD β f s Ds : Int))) none
noncomputable def formD (β f s : Nat) (Ds : List PyData) : Str := (digs β f ++ "-") ++ tailD β f s Ds
structure TxM (K : PySem.W.Frag) (mg : Str → Option Value) (fwr ffa fdg C : Addr) : Prop where
  written : mg "written" = some (.ref fwr)
  kWr : PySem.W.keepIn K (.ref fwr) = true
  facts : mg "facts_of" = some (.ref ffa)
  kFa : PySem.W.keepIn K (.ref ffa) = true
  digits : mg "digits" = some (.ref fdg)
  kDg : PySem.W.keepIn K (.ref fdg) = true
  cl : Cls K C
  nB : NoAttr K C "stored_base"
  nR : NoAttr K C "stored_rules"
section
variable {P : Program} {w : World} {K : PySem.W.Frag} {mg : Str → Option Value} {base : Heap} {ca : Nat → Addr} {fwr ffa fdg C : Addr}
/-- a style's method of a range -/
def spM (K : PySem.W.Frag) (C : Addr) (ca : Nat → Addr) (G : Nat → Nat → Nat → List PyData → V) : Sp := fun vs H Q E => ∃ (x : Addr) (β : Nat) (Ds : List PyData) (v u : V) (b c : Bool), vs = [.ref x, v, u] ∧ StyAt H C x β Ds ∧ 2 ≤ β ∧ β ≤ 10 ∧ RowS β Ds ∧ Nm K H v b ∧ Nm K H u c ∧ RngQ ca v u b c H E fun f s => RetV (G β f s Ds) H Q
theorem spM_len {G : Nat → Nat → Nat → List PyData → V} {vs : List V} {H : Hp} {Q : VK} {E : XK} (h : spM K C ca G vs H Q E) : vs.length = 3 := by
  obtain ⟨_, _, _, _, _, _, _, rfl, _⟩ := h
  rfl
theorem ev_rulesF {σ : St} {H : Hp} {x dx t : Addr} {b : V} (cl : Cls K C) (n : NoAttr K C "stored_rules") (h0 : σ[0]? = some (some (.ref x))) (hx : H x = some (.ins C dx [("stored_base", b), ("stored_rules", .ref t)])) : Ev (tFld K (tVar 0) "stored_rules") σ H (.ref t) := fun H1 e Q q =>
  ⟨_, h0, x, C, dx, _, .ref t, rfl, e _ _ hx, cl, n, lk_rules _ _, q H1 (Ex.refl H1)⟩
theorem ev_baseF {σ : St} {H : Hp} {x dx : Addr} {b r : V} (cl : Cls K C) (n : NoAttr K C "stored_base") (h0 : σ[0]? = some (some (.ref x))) (hx : H x = some (.ins C dx [("stored_base", b), ("stored_rules", r)])) : Ev (tFld K (tVar 0) "stored_base") σ H b := fun H1 e Q q =>
  ⟨_, h0, x, C, dx, _, b, rfl, e _ _ hx, cl, n, lk_base _ _, q H1 (Ex.refl H1)⟩
theorem scKeptOf : FnScope ["self", "first", "second"] ["self", "first", "second"] (defScope sKeptOf) := ⟨rfl, rfl, rfl, by decide +kernel, rfl, by decide +kernel, by decide +kernel⟩
theorem scTailOf : FnScope ["self", "first", "second", "many"] ["self", "first", "second"] (defScope sTailOf) := ⟨rfl, rfl, rfl, by decide +kernel, rfl, by decide +kernel, by decide +kernel⟩
theorem scCallOf : FnScope ["self", "first", "second", "behind"] ["self", "first", "second"] (defScope sCallOf) := ⟨rfl, rfl, rfl, by decide +kernel, rfl, by decide +kernel, by decide +kernel⟩
theorem ok_keptOf {f : Addr} {fd fd1 fd2 : FuncData} (F : Fun K "kept" "Style.kept" sKeptOf f fd) (GW : FnOk P w K mg base CX0 6 fwr fd1 ["rules", "facts"] spWritten) (bW : Binds K fd1 ["rules", "facts"] [])
    (GF : FnOk P w K mg base (L2.CX P w) 6 ffa fd2 ["base", "first", "second"] (spFacts K ca)) (bF : Binds K fd2 ["base", "first", "second"] []) (T : TxM K mg fwr ffa fdg C) : FnOk P w K mg base (L2.CX P w) 7 f fd ["self", "first", "second"] (spM K C ca fun β f s Ds => .int (keptD β f s Ds : Int)) := by
  refine F.okX scKeptOf (fun vs H Q E h => spM_len h) (fun cdv A outer s H vs Q E hr h => ?_)
  obtain ⟨x, β, Ds, v, u, b, c, rfl, ⟨dx, tr, hx, kr⟩, b2, b10, good, kb, kc, R⟩ := h
  obtain ⟨tr', rs, e, hrs, ka⟩ := kr.tupI'
  cases e
  refine ⟨_, pss_one (ps_ret (pe_ix ix_tup (pe_call GW hr (by rfl) T.written T.kWr bW .nil pass0 (pa_cons (pe_fld (pv 0) rfl) (pa_cons (pe_callS GF hr (by rfl) T.facts T.kFa bF (fun σ => passAt (takes_of rfl rfl rfl rfl) σ) (pa_cons (pe_fld (pv 0) rfl) (pa_cons (pv 1) (pa_cons (pv 2) pa_nil)))) pa_nil))) pe_int (fun _ _ => rfl))), ?_⟩
  refine ⟨_, rfl, x, C, dx, _, .ref tr, rfl, hx, T.cl, T.nR, lk_rules _ _, _, rfl, x, C, dx, _, .int β, rfl, hx, T.cl, T.nB, lk_base _ _, _, rfl, _, rfl, β, v, u, b, c, rfl, b2, b10, kb, kc, R.map (Ex.refl H) fun f s hv hu f1 hfs s2 g t H3 e3 ht => ?_⟩
  have e13 := e3
  exact ⟨tr, t, rs, Ds, β, f, s, rfl, e13 _ _ hrs, ka.ex e13, good, ht, fun p H4 e4 hp => ⟨p, _, _, _, rfl, rfl, st_of hp, atI_nat (j := 1) rfl, g H4 (e13.trans e4)⟩⟩
theorem ok_tailOf {f fk : Addr} {fd fd1 fd2 : FuncData} (F : Fun K "tail" "Style.tail" sTailOf f fd) (mK : Meth K C "kept" fk) (GK : FnOk P w K mg base (L2.CX P w) 7 fk fd1 ["self", "first", "second"] (spM K C ca fun β f s Ds => .int (keptD β f s Ds : Int))) (bK : Binds K fd1 ["self", "first", "second"] [])
    (GD : FnOk P w K mg base (L2.CX P w) 7 fdg fd2 ["base", "number"] (spDigits K ca)) (bD : Binds K fd2 ["base", "number"] []) (T : TxM K mg fwr ffa fdg C) : FnOk P w K mg base (L2.CX P w) 8 f fd ["self", "first", "second"] (spM K C ca fun β f s Ds => .str (tailD β f s Ds)) := by
  refine F.okX scTailOf (fun vs H Q E h => spM_len h) (fun cdv A outer s H vs Q E hr h => ?_)
  obtain ⟨x, β, Ds, v, u, b, c, rfl, ⟨dx, tr, hx, kr⟩, b2, b10, good, kb, kc, R⟩ := h
  refine ⟨_, pss_cons (ps_set (i := 3) scTailOf.nd rfl (.inl rfl) (pe_meth (pv 0) T.cl mK GK hr bK .nil (fun pins s H st e s' I c => passAt (takes_of rfl rfl rfl rfl) s pins H st e s' I c) (pa_cons (pv 1) (pa_cons (pv 2) pa_nil))))
    (pss_one (ps_ret (pe_slice sl_str (pe_callS GD hr (by rfl) T.digits T.kDg bD (fun σ => passAt (takes_of rfl rfl rfl rfl) σ) (pa_cons (pe_fld (pv 0) rfl) (pa_cons (pv 2) pa_nil))) (po_some (pe_un un_neg (pv 3))) po_none))), ?_⟩
  refine ⟨_, rfl, x, dx, _, rfl, hx, lk_none _ _ (by decide +kernel) (by decide +kernel), _, rfl, _, rfl, x, β, Ds, v, u, b, c, rfl, ⟨dx, tr, hx, kr⟩, b2, b10, good, kb, kc, R.map (Ex.refl H) fun f s hv hu f1 hfs s2 g H1 e1 => ?_⟩
  subst hv hu
  have ls : (digs β s).length ≤ 100000 := Nat.le_trans (digs_le (n := s) b2 s2) (by decide)
  exact s_ret (ev_cutS (ev_digP b2 b10 (Nat.le_of_lt (Nat.lt_of_le_of_lt f1 hfs)) s2 (ev_baseF T.cl T.nB rfl (e1 _ _ hx)) (ev_var rfl)) (eo_some (ev_un (ev_var rfl) ru_neg)) eo_none ls) fun H2 e2 => g H2 (e1.trans e2)
theorem len_append (x y : Str) : (x ++ y).length = x.length + y.length := by
  rw [len_t, len_t, len_t, tl_append, List.length_append]
theorem cut_len (x : Str) (lo hi : Option Int) : (cutS x lo hi).length ≤ x.length := by
  rw [len_t (cutS x lo hi)]
  show (((x.cps.toList.drop _).take _).toArray).toList.length ≤ x.cps.size
  rw [List.length_take, List.length_drop, Array.length_toList]
  omega
theorem ok_callOf {f ft : Addr} {fd fd1 fd2 : FuncData} (F : Fun K "__call__" "Style.__call__" sCallOf f fd) (mT : Meth K C "tail" ft) (GT : FnOk P w K mg base (L2.CX P w) 8 ft fd1 ["self", "first", "second"] (spM K C ca fun β f s Ds => .str (tailD β f s Ds))) (bT : Binds K fd1 ["self", "first", "second"] [])
    (GD : FnOk P w K mg base (L2.CX P w) 8 fdg fd2 ["base", "number"] (spDigits K ca)) (bD : Binds K fd2 ["base", "number"] []) (T : TxM K mg fwr ffa fdg C) : FnOk P w K mg base (L2.CX P w) 9 f fd ["self", "first", "second"] (spM K C ca fun β f s Ds => .str (formD β f s Ds)) := by
  refine F.okX scCallOf (fun vs H Q E h => spM_len h) (fun cdv A outer s H vs Q E hr h => ?_)
  obtain ⟨x, β, Ds, v, u, b, c, rfl, ⟨dx, tr, hx, kr⟩, b2, b10, good, kb, kc, R⟩ := h
  refine ⟨_, pss_cons (ps_set (i := 3) scCallOf.nd rfl (.inl rfl) (pe_meth (pv 0) T.cl mT GT hr bT .nil (fun pins s H st e s' I c => passAt (takes_of rfl rfl rfl rfl) s pins H st e s' I c) (pa_cons (pv 1) (pa_cons (pv 2) pa_nil))))
    (pss_one (ps_ret (pe_op op_add_str (pe_op op_add_str (pe_callS GD hr (by rfl) T.digits T.kDg bD (fun σ => passAt (takes_of rfl rfl rfl rfl) σ) (pa_cons (pe_fld (pv 0) rfl) (pa_cons (pv 1) pa_nil))) pe_str) (pv 3)))), ?_⟩
  refine ⟨_, rfl, x, dx, _, rfl, hx, lk_none _ _ (by decide +kernel) (by decide +kernel), _, rfl, _, rfl, x, β, Ds, v, u, b, c, rfl, ⟨dx, tr, hx, kr⟩, b2, b10, good, kb, kc, R.map (Ex.refl H) fun f s hv hu f1 hfs s2 g H1 e1 => ?_⟩
  subst hv hu
  have lf : (digs β f).length ≤ 50000 := digs_le (n := f) b2 (Nat.lt_trans hfs s2)
  have ls : (tailD β f s Ds).length ≤ 50000 := Nat.le_trans (cut_len _ _ _) (digs_le (n := s) b2 s2)
  have one : ("-" : Str).length = 1 := by decide
  have f2 := Nat.lt_trans hfs s2
  clear R
  refine ev_digP b2 b10 f1 f2 (ev_baseF T.cl T.nB rfl (e1 _ _ hx)) (ev_var rfl) H1 (Ex.refl H1) _ fun H2 e2 => ⟨_, _, rfl, rfl, ?_, _, rfl, _, _, rfl, rfl, ?_, g H2 (e1.trans e2)⟩
  · clear f2 s2
    rw [sizeLine_eq, one]
    omega
  · clear f2 s2
    show (digs β f ++ "-").length + (tailD β f s Ds).length ≤ sizeLine
    rw [sizeLine_eq, len_append, one]
    omega
end
end Dt

/-! k03: the ranges that the law draws. -/
namespace Dg
open PySem L2 Evl TL
open Dr (StAt SameB spDraw TxO)
theorem SameB.trans {H H1 H2 : Hp} {p l : Addr} (a : SameB H H1 p l) (b : SameB H1 H2 p l) : SameB H H2 p l := fun x o e n1 n2 => b x o (a x o e n1 n2) n1 n2
theorem SameB.of {H H1 : Hp} {p l : Addr} (a : Ex H H1) : SameB H H1 p l := fun x o e _ _ => a x o e
theorem log2_lt9 {x : Nat} (h : x < 2 ^ 900) : x.log2 < 900 := by
  rcases Nat.eq_zero_or_pos x with z | z
  · subst z
    decide
  · exact (Nat.log2_lt (by omega)).mpr h
section
variable {P : Program} {w : World} {K : PySem.W.Frag} {mg : Str → Option Value} {base : Heap} {fm fdr fld flp : Addr}
def spLRange : Sp := fun vs H Q _ => ∃ (p c l : Addr) (n : Nat) (a : Int) (β many : Nat), vs = [.ref p, .int β, .int many] ∧ StAt H p c l n a ∧ l ≠ c ∧ a + 1000 < 2 ^ 39 ∧ 2 ≤ β ∧ β ≤ 10 ∧ 1 ≤ many ∧ many ≤ 200 ∧
  ∀ (t : Addr) (F S : Nat) (H' : Hp) (a' : Int), 1 ≤ F → F < S → S < 2 ^ 900 → S < β ^ (many + 12) → a ≤ a' → a' ≤ a + 405 → StAt H' p c l n a' → SameB H H' p l → H' t = some (.tup [.int F, .int S]) → (t ≠ p ∧ t ≠ l) → Q (.ref t) H'
abbrev nLRange : List Str := ["state", "base", "many", "first", "k", "size", "more", "way"]
theorem StAt.off {H : Hp} {p c l : Addr} {n : Nat} {a : Int} (S : StAt H p c l n a) {x : Addr} (h : H x = none) : x ≠ p ∧ x ≠ l := by
  obtain ⟨ls, hl, _⟩ := S.l
  exact ⟨(ne_of_none S.d h).symm, (ne_of_none hl h).symm⟩
end
end Dg

/-! k06: the law's own reading of the rules. -/
namespace Dg
open PySem L2 Evl TL
theorem tl_cutN (x : Str) {k : Nat} (h : 1 ≤ k) : tl (cutS x (some (-(k : Int))) none) = (tl x).drop ((tl x).length - k) := by
  show (((x.cps.toList.drop (HT.sIx x.length 0 (some (-(k : Int))))).take (HT.sIx x.length x.length none - HT.sIx x.length 0 (some (-(k : Int))))).toArray).toList = _
  have e1 : HT.sIx x.length 0 (some (-(k : Int))) = x.length - k := by
    show (if (-(k : Int)) < 0 then ((-(k : Int)) + (x.length : Int)).toNat else min (-(k : Int)).toNat x.length) = _
    rw [if_pos (by omega)]
    omega
  have hl : x.length = (tl x).length := len_t x
  rw [HT.sIx_none, e1]
  show (((tl x).drop (x.length - k)).take (x.length - (x.length - k))) = _
  rw [hl, List.take_of_length_le (by rw [List.length_drop]; omega)]
theorem tl_cutP (x : Str) (k : Nat) : tl (cutS x (some (k : Int)) none) = (tl x).drop k := by
  show (((x.cps.toList.drop (HT.sIx x.length 0 (some (k : Int)))).take (HT.sIx x.length x.length none - HT.sIx x.length 0 (some (k : Int)))).toArray).toList = _
  have hl : x.length = (tl x).length := len_t x
  rw [HT.sIx_none, HT.sIx_nat]
  show (((tl x).drop (min k x.length)).take (x.length - min k x.length)) = _
  rw [hl, List.take_of_length_le (by rw [List.length_drop]; omega)]
  rcases Nat.le_total k (tl x).length with z | z
  · rw [Nat.min_eq_left z]
  · rw [Nat.min_eq_right z, List.drop_of_length_le (Nat.le_refl _), List.drop_of_length_le z]
theorem ends_eq (t x : Str) (h1 : 1 ≤ x.length) (h2 : x.length ≤ 2) : Txt.endswith (cutS t (some (-2)) none) x = decide (cutS t (some (-(x.length : Int))) none = x) := by
  obtain ⟨e, he⟩ : ∃ e, e = cutS t (some (-2)) none := ⟨_, rfl⟩
  have te : tl e = (tl t).drop ((tl t).length - 2) := by
    rw [he]
    exact tl_cutN t (k := 2) (by decide)
  have le : e.length = (tl e).length := len_t e
  have lx : x.length = (tl x).length := len_t x
  have l2 : (tl e).length = min 2 (tl t).length := by
    rw [te, List.length_drop]
    omega
  rw [← he]
  have tc := tl_cutN t (k := x.length) h1
  have sub : Builtin.Str.subAt e x (e.length - x.length) = decide (((tl e).drop (e.length - x.length)).take x.length = tl x) := by
    show (e.cps.extract (e.length - x.length) (e.length - x.length + x.length) == x.cps) = _
    have h3 : (e.cps.extract (e.length - x.length) (e.length - x.length + x.length)).toList = ((tl e).drop (e.length - x.length)).take x.length := by
      rw [Array.toList_extract]
      show ((tl e).drop _).take _ = _
      rw [Nat.add_sub_cancel_left]
    by_cases hh : e.cps.extract (e.length - x.length) (e.length - x.length + x.length) = x.cps
    · rw [hh, decide_eq_true (by rw [← h3, hh])]
      exact beq_self_eq_true _
    · rw [decide_eq_false (fun z => hh (Array.toList_inj.mp (by rw [h3, z])))]
      exact beq_eq_false_iff_ne.mpr hh
  unfold Txt.endswith
  rw [sub]
  by_cases hle : x.length ≤ e.length
  · rw [decide_eq_true (by omega), Bool.true_and]
    refine decide_eq_decide.mpr ?_
    have e3 : ((tl e).drop (e.length - x.length)).take x.length = (tl t).drop ((tl t).length - x.length) := by
      rw [List.take_of_length_le (by rw [List.length_drop]; omega), te, List.drop_drop]
      congr 1
      omega
    rw [e3, ← tc]
    exact ⟨fun z => str_ext z, fun z => by rw [z]⟩
  · rw [decide_eq_false (by omega), Bool.false_and]
    refine (decide_eq_false fun z => ?_).symm
    have := congrArg tl z
    rw [tc] at this
    have := congrArg List.length this
    rw [List.length_drop] at this
    omega
end Dg
namespace Dt
open PySem L2 Evl Dg LamR LamX StX ClX TL
open Dr (StAt SameB)
theorem keptD_in {β f s : Nat} {Ds : List PyData} (good : RowS β Ds) (b2 : 2 ≤ β) (s1 : 1 ≤ s) : 1 ≤ keptD β f s Ds ∧ keptD β f s Ds ≤ (dl β s).length := by
  have hl : 1 ≤ (dl β s).length := by
    rw [dl_step b2 s1, List.length_cons]
    omega
  obtain ⟨d, hd⟩ : ∃ d, Ds[firstD β f s Ds]? = some d := ⟨_, List.getElem?_eq_getElem (firstD_lt good.1)⟩
  obtain ⟨cs, k, rfl, hc3, hcs, hks⟩ := good.at hd
  have hk : keptD β f s Ds = keepN β f s k := by
    unfold keptD
    rw [List.getD_eq_getElem?_getD, hd]
    rfl
  rw [hk]
  cases hks with
  | all => exact ⟨hl, Nat.le_refl _⟩
  | size w hw i h1 h6 =>
    show 1 ≤ (if w = "changed" then min (max (chgN β f s) i.toNat) (dl β s).length else min i.toNat (dl β s).length) ∧ (if w = "changed" then min (max (chgN β f s) i.toNat) (dl β s).length else min i.toNat (dl β s).length) ≤ _
    by_cases z : w = "changed"
    · rw [if_pos z]
      omega
    · rw [if_neg z]
      omega
theorem tailD_eq {β f s : Nat} {Ds : List PyData} (good : RowS β Ds) (b2 : 2 ≤ β) (s1 : 1 ≤ s) : cutS (digs β s) (some (((digs β s).length : Int) - (keptD β f s Ds : Int))) none = tailD β f s Ds := by
  obtain ⟨h1, h2⟩ := keptD_in (f := f) good b2 s1
  rw [← digs_len] at h2
  refine str_ext ?_
  unfold tailD
  rw [tl_cutN _ h1, show ((digs β s).length : Int) - (keptD β f s Ds : Int) = (((digs β s).length - keptD β f s Ds : Nat) : Int) by omega, tl_cutP, ← len_t]
theorem tailD_len {β f s : Nat} {Ds : List PyData} (good : RowS β Ds) (b2 : 2 ≤ β) (s1 : 1 ≤ s) : (tailD β f s Ds).length = keptD β f s Ds := by
  obtain ⟨h1, h2⟩ := keptD_in (f := f) good b2 s1
  rw [← digs_len] at h2
  have e : tl (tailD β f s Ds) = (tl (digs β s)).drop ((tl (digs β s)).length - keptD β f s Ds) := tl_cutN _ h1
  rw [len_t, e, List.length_drop, ← len_t]
  omega
structure TxZ (K : PySem.W.Frag) (mg : Str → Option Value) (fld flp flc flh flr flb flk : Addr) : Prop extends TxH K mg fld flp where
  min : mg "min" = none
  max : mg "max" = none
/-- a range in a base -/
structure RgN (β f s : Nat) : Prop where
  b2 : 2 ≤ β
  b10 : β ≤ 10
  f1 : 1 ≤ f
  lt : f < s
  s2 : s < 2 ^ 50000
theorem RgN.s1 {β f s : Nat} (r : RgN β f s) : 1 ≤ s := Nat.le_of_lt (Nat.lt_of_le_of_lt r.f1 r.lt)
theorem RgN.f2 {β f s : Nat} (r : RgN β f s) : f < 2 ^ 50000 := Nat.lt_trans r.lt r.s2
theorem RgN.lf {β f s : Nat} (r : RgN β f s) : (digs β f).length ≤ 50000 := digs_le r.b2 r.f2
theorem RgN.ls {β f s : Nat} (r : RgN β f s) : (digs β s).length ≤ 50000 := digs_le r.b2 r.s2
section
variable {P : Program} {w : World} {K : PySem.W.Frag} {mg : Str → Option Value} {base : Heap} {ca : Nat → Addr} {fld flp flc flh flr flb flk : Addr}
theorem ev_chgL {σ : St} {H : Hp} {t0 t1 t2 : TE} {E : XK} {β f s : Nat} (r : RgN β f s) (h0 : Ev t0 σ H (.int β)) (h1 : Ev t1 σ H (.int f)) (h2 : Ev t2 σ H (.int s)) : Ev (tCall spLChg [] E (tCons t0 (tCons t1 (tCons t2 tNil)))) σ H (.int (chgN β f s : Int)) :=
  ev_call (ea_cons h0 (ea_cons h1 (ea_cons h2 ea_nil))) fun H1 e Q q E => ⟨β, f, s, rfl, r.b2, r.b10, r.lt, r.s2, fun m hm H2 e2 => by
    rw [← chgN_eq hm]
    exact q H2 e2⟩
def spLHolds : Sp := fun vs H Q _ => ∃ (v : V) (D : PyData) (β f s : Nat), vs = [.int β, v, .int f, .int s] ∧ RgN β f s ∧ Pt H v D ∧ CondS β D ∧ RetV (.bl (holdsD β f s D)) H Q
abbrev nLHolds : List Str := ["base", "condition", "first", "second", "text", "size"]
end
end Dt

/-! Entries, as data: what the program's own defs tell of them. -/
namespace Dt
open PySem L2 Evl Dg LamR LamX StX ClX TL
open Dr (StAt SameB)
def numD : PyData → Bool
  | .int i => decide (1 ≤ i)
  | _ => false
/-- whether data is an item -/
def itemB (d : PyData) : Bool := if isT d = true then decide ((tupD d).length = 2) && (numD (at_ 0 d) && (numD (at_ 1 d) && decide (intD (at_ 0 d) < intD (at_ 1 d)))) else numD d
def spanA (d : PyData) : PyData := if isT d = true then at_ 0 d else d
def spanZ (d : PyData) : PyData := if isT d = true then at_ 1 d else d
/-- the place of the first thing that cannot stand -/
def entGo : Int → Nat → List PyData → Option PyData
  | _, _, [] => none
  | a, k, d :: ds => if (itemB d && decide (a < intD (spanA d))) = true then entGo (intD (spanZ d)) (k + 1) ds else some (.int (k : Int))
/-- what is refused of an entry -/
def dueE (d : PyData) : Option PyData := if (isT d && (decide (1 ≤ (tupD d).length) && decide ((tupD d).length ≤ 50))) = true then entGo 0 0 (tupD d) else some .none
def manB : PyData → Bool
  | .str x => decide (x = "full") || decide (x = "running")
  | _ => false
/-- an item's two numbers -/
structure Span (d : PyData) (f l : Nat) : Prop where
  f1 : 1 ≤ f
  fl : f ≤ l
  a : spanA d = .int (f : Int)
  z : spanZ d = .int (l : Int)
  t : isT d = true → d = .tuple [.int (f : Int), .int (l : Int)]
theorem item_span {d : PyData} (h : itemB d = true) : ∃ f l, Span d f l := by
  unfold itemB at h
  cases ht : isT d with
  | true =>
    rw [ht, if_pos rfl] at h
    simp only [Bool.and_eq_true] at h
    obtain ⟨h1, h2, h3, h4⟩ := h
    cases d with
    | tuple ds =>
      have h1 : ds.length = 2 := of_decide_eq_true h1
      match ds, h1 with
      | [x, y], _ =>
        cases x with
        | int i =>
          cases y with
          | int j =>
            have h2 : 1 ≤ i := of_decide_eq_true h2
            have h4 : i < j := of_decide_eq_true h4
            refine ⟨i.toNat, j.toNat, by omega, by omega, ?_, ?_, fun _ => ?_⟩
            · show PyData.int i = _
              rw [Int.toNat_of_nonneg (by omega)]
            · show PyData.int j = _
              rw [Int.toNat_of_nonneg (by omega)]
            · rw [Int.toNat_of_nonneg (by omega), Int.toNat_of_nonneg (by omega)]
          | _ => cases h3
        | _ => cases h2
    | _ => cases ht
  | false =>
    rw [ht, if_neg (by decide)] at h
    cases d with
    | int i =>
      have h : 1 ≤ i := of_decide_eq_true h
      refine ⟨i.toNat, i.toNat, by omega, by omega, ?_, ?_, fun z => nomatch z⟩
      · show PyData.int i = _
        rw [Int.toNat_of_nonneg (by omega)]
      · show PyData.int i = _
        rw [Int.toNat_of_nonneg (by omega)]
    | _ => cases h
theorem Pt.nm {K : PySem.W.Frag} {H : Hp} {v : V} {d : PyData} (h : Pt H v d) : Nm K H v (numD d) := by
  have k := h.kn (K := K)
  cases h with
  | int i => exact .int i
  | non => exact .oth k
  | bl b => exact .oth k
  | str x _ => exact .oth k
  | tup h _ => exact .oth k
  | lst h _ => exact .oth k
  | nil h => exact .oth k
/-- what is due: an exception of that class with that place, or G -/
structure DueC (C : Addr) (H : Hp) (E : XK) (o : Option PyData) (G : Prop) : Prop where
  bad : ∀ pl, o = some pl → Leaves C "place" (plV pl) H E
  ok : o = none → G
structure TxEn (K : PySem.W.Frag) (mg : Str → Option Value) (fnum fit fsp fnm fne am : Addr) (ca : Nat → Addr) : Prop where
  isNum : mg "is_number" = some (.ref fnum)
  kNum : PySem.W.keepIn K (.ref fnum) = true
  isi : mg "isinstance" = none
  tuple : mg "tuple" = none
  str : mg "str" = none
  len : mg "len" = none
  enum : mg "enumerate" = none
  sup : mg "super" = none
  mn : ∀ H : Hp, SqT K H am [.str "full", .str "running"]
section
variable {P : Program} {w : World} {K : PySem.W.Frag} {mg : Str → Option Value} {base : Heap} {ca : Nat → Addr} {fnum fit fsp fnm fne am : Addr}
theorem in_man (r : Str) : inV (.str r) [.str "full", .str "running"] = (decide (r = "full") || decide (r = "running")) := by
  have e : inV (.str r) [.str "full", .str "running"] = ((("full" : Str) == r) || ((("running" : Str) == r) || false)) := rfl
  have one : ∀ a : Str, (a == r) = decide (r = a) := fun a => by
    by_cases h : r = a
    · rw [h, decide_eq_true rfl]
      exact beq_self_eq_true _
    · rw [decide_eq_false h]
      exact beq_eq_false_iff_ne.mpr (Ne.symm h)
  rw [e, Bool.or_false, one, one]
def spNeedMan (ca : Nat → Addr) : Sp := fun vs H Q E => ∃ v D, vs = [v] ∧ Pt H v D ∧ (manB D = false → Leaves (ca 7) "value" v H E) ∧ (manB D = true → RetV .non H Q)
theorem ev_numC {σ : St} {H : Hp} {te : TE} {v : V} {b : Bool} {E : XK} (h : Ev te σ H v) (k : Nm K H v b) (kx : ∀ H', Ex H H' → Nm K H' v b) : Ev (tCall (spIsNum K) [] E (tCons te tNil)) σ H (.bl b) :=
  ev_call (ea_cons h ea_nil) fun H1 e Q q E => ⟨v, b, rfl, kx H1 e, fun H2 e2 => q H2 e2⟩
def spItem : Sp := fun vs H Q _ => ∃ v D, vs = [v] ∧ Pt H v D ∧ RetV (.bl (itemB D)) H Q
def spSpanOf : Sp := fun vs H Q _ => ∃ v D f l, vs = [v] ∧ Pt H v D ∧ Span D f l ∧ ∀ t H', Ex H H' → H' t = some (.tup [.int (f : Nat), .int (l : Nat)]) → Q (.ref t) H'
/-- an item's number by its place -/
theorem ev_spanAt {σ : St} {H : Hp} {te : TE} {v : V} {d : PyData} {f l : Nat} {j : Nat} {z : Nat} {E : XK} (h : Ev te σ H v) (k : Pt H v d) (S : Span d f l) (hz : ([V.int (f : Nat), .int (l : Nat)])[j]? = some (.int (z : Nat))) : Ev (tOp (rIxT K) (tCall spSpanOf [] E (tCons te tNil)) (tC (.int (j : Nat)))) σ H (.int (z : Nat)) := fun H1 e Q q =>
  h H1 e _ fun H2 e2 => ⟨v, d, f, l, rfl, k.ex (e.trans e2), S, fun t H3 e3 ht => ⟨t, _, _, _, rfl, rfl, st_of ht, atI_nat hz, q H3 (e2.trans e3)⟩⟩
def spNeedEnt (ca : Nat → Addr) : Sp := fun vs H Q E => ∃ v D, vs = [v] ∧ Pt H v D ∧ DueC (ca 8) H E (dueE D) (RetV v H Q)
end
end Dt

/-! The text of an entry. -/
namespace Dt
open PySem L2 Evl Dg LamR LamX StX ClX TL
open Dr (StAt SameB)
/-- the spans of ascending items, all behind a number -/
inductive Spans : Nat → List PyData → List (Nat × Nat) → Prop
  | nil {a : Nat} : Spans a [] []
  | cons {a f l : Nat} {d : PyData} {ds : List PyData} {ps : List (Nat × Nat)} : Span d f l → a < f → Spans l ds ps → Spans a (d :: ds) ((f, l) :: ps)
theorem go_spans : ∀ {ds : List PyData} {a k : Nat}, entGo a k ds = none → ∃ ps, Spans a ds ps
  | [], a, k, _ => ⟨[], .nil⟩
  | d :: ds, a, k, h => by
    have e : entGo a k (d :: ds) = if (itemB d && decide ((a : Int) < intD (spanA d))) = true then entGo (intD (spanZ d)) (k + 1) ds else some (.int (k : Int)) := rfl
    rw [e] at h
    cases hb : (itemB d && decide ((a : Int) < intD (spanA d))) with
    | false =>
      rw [hb] at h
      cases h
    | true =>
      rw [hb, if_pos rfl] at h
      obtain ⟨h1, h2⟩ := Bool.and_eq_true_iff.mp hb
      obtain ⟨f, l, S⟩ := item_span h1
      have h2 := of_decide_eq_true h2
      rw [S.a] at h2
      rw [S.z] at h
      have h2 : (a : Int) < (f : Int) := h2
      obtain ⟨ps, hp⟩ := go_spans h
      exact ⟨(f, l) :: ps, .cons S (by omega) hp⟩
theorem Span.item {d : PyData} {f l : Nat} (S : Span d f l) (h : isT d = true → f < l) : itemB d = true := by
  unfold itemB
  have f1 := S.f1
  cases ht : isT d with
  | true =>
    rw [if_pos rfl, S.t ht]
    have := h ht
    rw [Bool.and_eq_true_iff, Bool.and_eq_true_iff, Bool.and_eq_true_iff]
    exact ⟨rfl, decide_eq_true (show (1 : Int) ≤ f by omega), decide_eq_true (show (1 : Int) ≤ l by omega), decide_eq_true (show (f : Int) < l by omega)⟩
  | false =>
    rw [if_neg (by decide)]
    have e : d = .int (f : Int) := by
      have := S.a
      unfold spanA at this
      rw [ht] at this
      exact this
    rw [e]
    exact decide_eq_true (by omega)
theorem spans_go : ∀ {ds : List PyData} {a k : Nat} {ps : List (Nat × Nat)}, Spans a ds ps → (∀ d ∈ ds, itemB d = true) → entGo a k ds = none
  | [], _, _, _, _, _ => rfl
  | d :: ds, a, k, _, h, hi => by
    cases h with
    | @cons _ f l _ _ ps S hf hr =>
      have e : entGo a k (d :: ds) = if (itemB d && decide ((a : Int) < intD (spanA d))) = true then entGo (intD (spanZ d)) (k + 1) ds else some (.int (k : Int)) := rfl
      rw [e, hi d List.mem_cons_self, S.a, S.z]
      rw [show (true && decide ((a : Int) < intD (.int (f : Int)))) = true from decide_eq_true (show (a : Int) < (f : Int) by omega), if_pos rfl]
      exact spans_go hr fun x hx => hi x (List.mem_cons_of_mem _ hx)
theorem Spans.len : ∀ {ds : List PyData} {a : Nat} {ps : List (Nat × Nat)}, Spans a ds ps → ps.length = ds.length
  | _, _, _, .nil => rfl
  | _, _, _, .cons _ _ h => by rw [List.length_cons, List.length_cons, h.len]
theorem ent_spans {ds : List PyData} (h : dueE (.tuple ds) = none) : ∃ ps, Spans 0 ds ps := by
  unfold dueE at h
  split at h
  · exact go_spans (a := 0) (k := 0) h
  · cases h
theorem ent_len {D : PyData} (h : dueE D = none) : (tupD D).length ≤ 50 ∧ 1 ≤ (tupD D).length ∧ isT D = true := by
  unfold dueE at h
  split at h
  · next z =>
    simp only [Bool.and_eq_true, decide_eq_true_eq] at z
    exact ⟨z.2.2, z.2.1, z.1⟩
  · cases h
/-- a part of an entry's text, behind a number (0: none) -/
noncomputable def partE (β : Nat) (Ds : List PyData) (full : Bool) (a f l : Nat) : Str :=
  let p := if (full || decide (a = 0)) = true then digs β f else tailD β a f Ds
  if f < l then (p ++ "-") ++ tailD β f l Ds else p
noncomputable def partsE (β : Nat) (Ds : List PyData) (full : Bool) : Nat → List (Nat × Nat) → List Str
  | _, [] => []
  | a, p :: ps => partE β Ds full a p.1 p.2 :: partsE β Ds full p.2 ps
/-- the text of an entry -/
noncomputable def entT (β : Nat) (Ds : List PyData) (full : Bool) (ps : List (Nat × Nat)) : Str := Txt.join ", " (partsE β Ds full 0 ps)
def isFull : PyData → Bool
  | .str x => decide (x = "full")
  | _ => false
def aV (a : Nat) : V := if a = 0 then .non else .int (a : Int)
section
variable {P : Program} {w : World} {K : PySem.W.Frag} {mg : Str → Option Value} {base : Heap} {ca : Nat → Addr} {fnum fit fsp fnm fne am fdg C : Addr}
theorem spM_int {G : Nat → Nat → Nat → List PyData → V} {H : Hp} {x : Addr} {β f s : Nat} {Ds : List PyData} {Q : VK} {E : XK} (sty : StyAt H C x β Ds) (good : RowS β Ds) (r : RgN β f s) (q : RetV (G β f s Ds) H Q) : spM K C ca G [.ref x, .int f, .int s] H Q E :=
  ⟨x, β, Ds, .int f, .int s, true, true, rfl, sty, r.b2, r.b10, good, nm_yes r.f1, nm_yes r.s1, ⟨(fun z => nomatch z), fun _ => .inr ⟨f, s, rfl, rfl, r.f1, r.lt, r.s2, q⟩⟩⟩
theorem ev_methM {G : Nat → Nat → Nat → List PyData → V} {σ : St} {H : Hp} {t0 t1 t2 : TE} {E : XK} {m : Str} {x : Addr} {β f s : Nat} {Ds : List PyData} (h1 : (m == "stored_base") = false) (h2 : (m == "stored_rules") = false) (sty : StyAt H C x β Ds) (good : RowS β Ds) (r : RgN β f s)
    (k0 : Ev t0 σ H (.ref x)) (k1 : Ev t1 σ H (.int f)) (k2 : Ev t2 σ H (.int s)) : Ev (tMeth C m (spM K C ca G) [] E t0 (tCons t1 (tCons t2 tNil))) σ H (G β f s Ds) := fun H1 e Q q =>
  k0 H1 e _ fun H2 e2 => by
    obtain ⟨dx, tr, hx, kr⟩ := sty.ex (e.trans e2)
    exact ⟨x, dx, _, rfl, hx, lk_none _ _ h1 h2, k1 H2 (e.trans e2) _ fun H3 e3 => k2 H3 ((e.trans e2).trans e3) _ fun H4 e4 => spM_int (sty.ex (((e.trans e2).trans e3).trans e4)) good r fun H5 e5 => q H5 (((e2.trans e3).trans e4).trans e5)⟩
theorem ev_propB {σ : St} {H : Hp} {te : TE} {E : XK} {x : Addr} {β : Nat} {Ds : List PyData} (h : Ev te σ H (.ref x)) (sty : StyAt H C x β Ds) : Ev (tProp C (getSp C "stored_base") [] E te) σ H (.int (β : Int)) := fun H1 e Q q =>
  h H1 e _ fun H2 e2 => by
    obtain ⟨dx, tr, hx, kr⟩ := sty.ex (e.trans e2)
    exact ⟨x, dx, _, rfl, hx, x, dx, _, _, rfl, hx, lk_base _ _, q H2 e2⟩
theorem rv_addT {x y : Str} {H : Hp} (h : x.length + y.length ≤ 1000000) : RV (fun x y H Q => ∃ i j, x = .str i ∧ y = .str j ∧ i.length + j.length ≤ sizeLine ∧ Q (.str (i ++ j)) H) (.str x) (.str y) H (.str (x ++ y)) := fun H1 e Q q => ⟨x, y, rfl, rfl, by
  rw [sizeLine_eq]
  omega, q H1 (Ex.refl H1)⟩
theorem partE_len {β a f l : Nat} {Ds : List PyData} {full : Bool} (b2 : 2 ≤ β) (hf : f < 2 ^ 50000) (hl : l < 2 ^ 50000) : (partE β Ds full a f l).length ≤ 100001 := by
  have one : ("-" : Str).length = 1 := by decide
  have l1 : (digs β f).length ≤ 50000 := digs_le b2 hf
  have l2 : (tailD β a f Ds).length ≤ 50000 := Nat.le_trans (cut_len _ _ _) l1
  have l3 : (tailD β f l Ds).length ≤ 50000 := Nat.le_trans (cut_len _ _ _) (digs_le b2 hl)
  clear hf hl
  unfold partE
  dsimp only
  by_cases h1 : (full || decide (a = 0)) = true <;> by_cases h2 : f < l
  · rw [if_pos h1, if_pos h2, len_append, len_append, one]
    omega
  · rw [if_pos h1, if_neg h2]
    omega
  · rw [if_neg h1, if_pos h2, len_append, len_append, one]
    omega
  · rw [if_neg h1, if_neg h2]
    omega
def spEntT (C : Addr) (ca : Nat → Addr) : Sp := fun vs H Q E => ∃ (x : Addr) (vm v : V) (M D : PyData), vs = [.ref x, vm, v] ∧ Pt H vm M ∧ Pt H v D ∧ (manB M = false → Leaves (ca 7) "value" vm H E) ∧
  (manB M = true → DueC (ca 8) H E (dueE D) (∃ (β : Nat) (Ds : List PyData) (ps : List (Nat × Nat)), StyAt H C x β Ds ∧ 2 ≤ β ∧ β ≤ 10 ∧ RowS β Ds ∧ Spans 0 (tupD D) ps ∧ (∀ p ∈ ps, p.2 < 2 ^ 50000) ∧ RetV (.str (entT β Ds (isFull M) ps)) H Q))
abbrev nEntText : List Str := ["style", "manner", "entry", "parts", "ahead", "item", "first", "last", "alone", "part"]
theorem join_le {qs : List Str} {n : Nat} (h : ∀ q ∈ qs, q.length ≤ 100001) (hn : qs.length ≤ n) : (qs.map (·.length)).sum ≤ 100001 * n := by
  have : (qs.map (·.length)).sum ≤ 100001 * qs.length := by
    induction qs with
    | nil => exact Nat.zero_le _
    | cons q qs ih =>
      rw [List.map_cons, List.sum_cons, List.length_cons]
      have := h q List.mem_cons_self
      have := ih (fun q hq => h q (List.mem_cons_of_mem _ hq)) (by rw [List.length_cons] at hn; omega)
      omega
  exact Nat.le_trans this (Nat.mul_le_mul_left _ hn)
end
end Dt

/-! Rules as they are shown, laid and cut. -/
namespace Dt
open PySem L2 Evl Dg LamR LamX TL
open Dr (StAt SameB)
/-! Data that stands in the written form -/
mutual
/-- no dict in it -/
def noK : PyData → Bool
  | .list ds => noKs ds
  | .dict _ => false
  | .tuple ds => noKs ds
  | _ => true
def noKs : List PyData → Bool
  | [] => true
  | d :: ds => noK d && noKs ds
end
mutual
theorem noL_K : ∀ {d : PyData}, noL d = true → noK d = true
  | .none, _ => rfl
  | .bool _, _ => rfl
  | .int _, _ => rfl
  | .str _, _ => rfl
  | .tuple ds, h => by
    rw [noK]
    exact noLs_K (by rw [noL] at h; exact h)
  | .list _, h => by rw [noL] at h; cases h
  | .dict _, h => by rw [noL] at h; cases h
theorem noLs_K : ∀ {ds : List PyData}, noLs ds = true → noKs ds = true
  | [], _ => rfl
  | d :: ds, h => by
    rw [noLs, Bool.and_eq_true] at h
    rw [noKs, noL_K h.1, noLs_K h.2]
    rfl
end
mutual
theorem Pt.dp {K : PySem.W.Frag} {H : Hp} : ∀ {v : V} {d : PyData}, Pt H v d → noK d = true → Dp K H v d
  | _, .none, h, _ => by cases h; exact .non
  | _, .bool _, h, _ => by cases h; exact .bl _
  | _, .int _, h, _ => by cases h; exact .int _
  | _, .str _, h, _ => by cases h with | str _ _ => exact .str _
  | _, .tuple ds, h, k => by
    cases h with
    | tup hs ha => exact .tup (st_of hs) (PtAll.dp ha (by rw [noK] at k; exact k))
  | _, .list ds, h, k => by
    cases h with
    | lst hs ha => exact .lst (sq_of hs) (PtAll.dp ha (by rw [noK] at k; exact k))
  | _, .dict _, _, k => by rw [noK] at k; cases k
theorem PtAll.dp {K : PySem.W.Frag} {H : Hp} : ∀ {vs : List V} {ds : List PyData}, PtAll H vs ds → noKs ds = true → DpAll K H vs ds
  | _, [], h, _ => by cases h; exact .nil
  | _, d :: ds, h, k => by
    cases h with
    | cons h1 h2 =>
      rw [noKs, Bool.and_eq_true] at k
      exact .cons (Pt.dp h1 k.1) (PtAll.dp h2 k.2)
end
theorem PtAll.drop {H : Hp} : ∀ {vs : List V} {ds : List PyData}, PtAll H vs ds → ∀ n : Nat, PtAll H (vs.drop n) (ds.drop n)
  | _, [], h, n => by
    cases h
    rw [List.drop_nil, List.drop_nil]
    exact .nil
  | _, d :: ds, h, n => by
    cases h with
    | cons h1 h2 =>
      cases n with
      | zero => exact .cons h1 h2
      | succ n => exact PtAll.drop h2 n
def cutD (ds : List PyData) (lo hi : Option Int) : List PyData := (ds.drop (HT.sIx ds.length 0 lo)).take (HT.sIx ds.length ds.length hi - HT.sIx ds.length 0 lo)
theorem mem_cut {ds : List PyData} {lo hi : Option Int} {d : PyData} (h : d ∈ cutD ds lo hi) : d ∈ ds := List.mem_of_mem_drop (List.mem_of_mem_take h)
theorem len_cut (ds : List PyData) (lo hi : Option Int) : (cutD ds lo hi).length ≤ ds.length := by
  unfold cutD
  rw [List.length_take, List.length_drop]
  omega
theorem cut_whole {ds : List PyData} {lo hi : Option Int} (h : HT.sIx ds.length 0 lo = 0 ∧ HT.sIx ds.length ds.length hi = ds.length) : cutD ds lo hi = ds := by
  unfold cutD
  rw [h.1, h.2, List.drop_zero, Nat.sub_zero, List.take_length]
theorem PtAll.cut {H : Hp} {vs : List V} {ds : List PyData} (h : PtAll H vs ds) (lo hi : Option Int) : PtAll H (cutV vs lo hi) (cutD ds lo hi) := by
  unfold cutV cutD
  rw [h.length]
  exact (h.drop _).take _
section
variable {K : PySem.W.Frag} {H : Hp} {Q : VK}
theorem rd_sl {a : Addr} {xs : List V} {Ds : List PyData} {lo hi : Option Int} (h : H a = some (.tup xs)) (ka : PtAll H xs Ds) (k : ∀ b H' ys, Ex H H' → H' b = some (.tup ys) → PtAll H' ys (cutD Ds lo hi) → Q (.ref b) H') : rSlA K (.ref a) lo hi H Q := by
  refine ⟨a, xs, rfl, st_of h, fun hw => ?_, fun hw p hp => ?_⟩
  · rw [ka.length] at hw
    exact k a H xs (Ex.refl H) h (by rw [cut_whole hw]; exact ka)
  · exact k p _ _ (Ex.new hp) upd_same ((ka.cut lo hi).ex (Ex.new hp))
theorem rd_cat {a b : Addr} {xs ys : List V} {Ds Es : List PyData} (ha : H a = some (.tup xs)) (hb : H b = some (.tup ys)) (ka : PtAll H xs Ds) (kb : PtAll H ys Es) (hl : Ds.length + Es.length ≤ 100000) (k : ∀ c H' zs, Ex H H' → H' c = some (.tup zs) → PtAll H' zs (Ds ++ Es) → Q (.ref c) H') : rCatA K (.ref a) (.ref b) H Q := by
  refine ⟨a, b, xs, ys, rfl, rfl, st_of ha, st_of hb, sz_of (by rw [ka.length, kb.length]; exact hl), fun hx => ?_, fun hx hy => ?_, fun hx hy p hp => ?_⟩
  · have : Ds = [] := by
      have := ka.length
      rw [hx] at this
      exact List.length_eq_zero_iff.mp this.symm
    subst this
    exact k b H ys (Ex.refl H) hb kb
  · have : Es = [] := by
      have := kb.length
      rw [hy] at this
      exact List.length_eq_zero_iff.mp this.symm
    subst this
    rw [List.append_nil] at k
    exact k a H xs (Ex.refl H) ha ka
  · exact k p _ _ (Ex.new hp) upd_same ((ka.app kb).ex (Ex.new hp))
end
/-! small: what is shown of a rule -/
structure Ts (d : PyData) (m n : Nat) : Prop where
  p : plainD d
  c : cap d ≤ m
  e : d.depth ≤ n
  l : d.canLay0 = true
theorem ts_int {i : Int} (h : i.natAbs < 2 ^ 64) : Ts (.int i) 1921 0 := ⟨by
  show i.natAbs.log2 < 1920
  by_cases hz : i.natAbs = 0
  · rw [hz]; decide
  · exact Nat.lt_of_lt_of_le ((Nat.log2_lt hz).mpr h) (by decide), by simp [cap], by simp [PyData.depth], rfl⟩
theorem figs1 : ∀ c < 10, (PyData.str ⟨#[48 + c]⟩).canLay0 = true := by decide +kernel
theorem figs2 : ∀ c < 10, ∀ d < 10, (PyData.str ⟨#[48 + c, 48 + d]⟩).canLay0 = true := by decide +kernel
theorem figs_cases {β : Nat} {x : Str} (b10 : β ≤ 10) (h : isFigs β 2 x = true) : (∃ c, c < 10 ∧ x = ⟨#[48 + c]⟩) ∨ ∃ c d, c < 10 ∧ d < 10 ∧ x = ⟨#[48 + c, 48 + d]⟩ := by
  unfold isFigs at h
  rw [Bool.and_eq_true, Bool.and_eq_true] at h
  obtain ⟨⟨h1, h2⟩, h3⟩ := h
  have h1 := of_decide_eq_true h1
  have h2 := of_decide_eq_true h2
  obtain ⟨⟨l⟩⟩ := x
  have hl : (Str.length ⟨⟨l⟩⟩) = l.length := rfl
  rw [hl] at h1 h2
  have h3 : l.all (fun c => decide (48 ≤ c ∧ c < 48 + β)) = true := h3
  match l, h1, h2, h3 with
  | [a], _, _, h3 =>
    simp only [List.all_cons, List.all_nil, Bool.and_true, decide_eq_true_eq] at h3
    exact .inl ⟨a - 48, by omega, by rw [show 48 + (a - 48) = a by omega]⟩
  | [a, b], _, _, h3 =>
    simp only [List.all_cons, List.all_nil, Bool.and_true, Bool.and_eq_true, decide_eq_true_eq] at h3
    exact .inr ⟨a - 48, b - 48, by omega, by omega, by rw [show 48 + (a - 48) = a by omega, show 48 + (b - 48) = b by omega]⟩
theorem ts_figs {β : Nat} {x : Str} (b10 : β ≤ 10) (h : isFigs β 2 x = true) : Ts (.str x) 22 0 := by
  rcases figs_cases b10 h with ⟨c, hc, rfl⟩ | ⟨c, d, hc, hd, rfl⟩
  · exact ⟨fun e he => by
      have : e = 48 + c := by simpa using he
      rw [this]
      exact Nat.lt_of_lt_of_le (show 48 + c < 58 by omega) (by decide), by simp [cap, Str.length], by simp [PyData.depth], figs1 c hc⟩
  · exact ⟨fun e he => by
      have : e = 48 + c ∨ e = 48 + d := by simpa using he
      rcases this with rfl | rfl
      · exact Nat.lt_of_lt_of_le (show 48 + c < 58 by omega) (by decide)
      · exact Nat.lt_of_lt_of_le (show 48 + d < 58 by omega) (by decide), by simp [cap, Str.length], by simp [PyData.depth], figs2 c hc d hd⟩
theorem ts_word {w : Str} (h : w = "ends" ∨ w = "near" ∨ w = "length" ∨ w = "changed" ∨ w = "all" ∨ w = "last") : Ts (.str w) 72 0 := by
  have one : ∀ {w : Str}, (∀ c ∈ w.cps.toList, c < 16 ^ 8) → w.length ≤ 7 → (PyData.str w).canLay0 = true → Ts (.str w) 72 0 := fun h1 h2 h3 => ⟨h1, by simp only [cap]; omega, by simp [PyData.depth], h3⟩
  rcases h with rfl | rfl | rfl | rfl | rfl | rfl <;> exact one (by decide) (by decide) (by decide +kernel)
theorem ts_non : Ts .none 4 0 := ⟨trivial, by simp [cap], by simp [PyData.depth], rfl⟩
theorem Ts.up {d : PyData} {m m' n n' : Nat} (t : Ts d m n) (h : m ≤ m') (k : n ≤ n') : Ts d m' n' := ⟨t.p, Nat.le_trans t.c h, Nat.le_trans t.e k, t.l⟩
inductive TsAll (m n : Nat) : List PyData → Prop
  | nil : TsAll m n []
  | cons {d : PyData} {ds : List PyData} : Ts d m n → TsAll m n ds → TsAll m n (d :: ds)
theorem TsAll.tup {m n : Nat} {ds : List PyData} (h : TsAll m n ds) : Ts (.tuple ds) (ds.length * (m + 2) + 4) (n + 1) := by
  have key : plainAll ds ∧ capAll ds ≤ ds.length * (m + 2) ∧ PyData.depthAll ds ≤ n ∧ PyData.canLayAll0 ds = true := by
    induction h with
    | nil => exact ⟨trivial, Nat.zero_le _, Nat.zero_le _, rfl⟩
    | cons h t ih =>
      obtain ⟨a, b, c, d⟩ := ih
      refine ⟨⟨h.p, a⟩, ?_, ?_, ?_⟩
      · have := h.c
        simp only [capAll, List.length_cons, Nat.add_mul]
        omega
      · have := h.e
        simp only [PyData.depthAll]
        omega
      · simp only [PyData.canLayAll0, h.l, d, Bool.and_self]
  obtain ⟨a, b, c, d⟩ := key
  exact ⟨a, by simp only [cap]; omega, by simp only [PyData.depth]; omega, by simpa only [PyData.canLay0] using d⟩
theorem tsAll_of {m n : Nat} : ∀ {ds : List PyData}, (∀ d ∈ ds, Ts d m n) → TsAll m n ds
  | [], _ => .nil
  | d :: ds, h => .cons (h d List.mem_cons_self) (tsAll_of fun e he => h e (List.mem_cons_of_mem _ he))
theorem ts_cond {β : Nat} {d : PyData} (b10 : β ≤ 10) (h : CondS β d) : Ts d 6000 1 := by
  cases h with
  | ends x hx => exact (TsAll.tup (m := 1921) (n := 0) (.cons ((ts_word (.inl rfl)).up (by decide) (by decide)) (.cons ((ts_figs b10 hx).up (by decide) (by decide)) .nil))).up (by simp) (by decide)
  | near i h0 h6 => exact (TsAll.tup (m := 1921) (n := 0) (.cons ((ts_word (.inr (.inl rfl))).up (by decide) (by decide)) (.cons (ts_int (by omega)) .nil))).up (by simp) (by decide)
  | len w hw i h1 h6 e he =>
    have tw : Ts (.str w) 72 0 := ts_word (by rcases hw with rfl | rfl <;> simp)
    have te : Ts e 1921 0 := by
      rcases he with rfl | ⟨j, rfl, _, _⟩
      · exact ts_non.up (by decide) (by decide)
      · exact ts_int (by omega)
    exact (TsAll.tup (m := 1921) (n := 0) (.cons (tw.up (by decide) (by decide)) (.cons (ts_int (by omega)) (.cons te .nil)))).up (by simp) (by decide)
theorem ts_keep {d : PyData} (h : KeepS d) : Ts d 6000 1 := by
  cases h with
  | all => exact (TsAll.tup (m := 1921) (n := 0) (.cons ((ts_word (by simp)).up (by decide) (by decide)) .nil)).up (by decide) (by decide)
  | size w hw i h1 h6 =>
    have tw : Ts (.str w) 72 0 := ts_word (by rcases hw with rfl | rfl <;> simp)
    exact (TsAll.tup (m := 1921) (n := 0) (.cons (tw.up (by decide) (by decide)) (.cons (ts_int (by omega)) .nil))).up (by simp) (by decide)
theorem ts_conds {β : Nat} {cs : List PyData} (b10 : β ≤ 10) (h3 : cs.length ≤ 3) (h : ∀ c ∈ cs, CondS β c) : Ts (.tuple cs) 20000 2 := (TsAll.tup (m := 6000) (n := 1) (tsAll_of fun c hc => ts_cond b10 (h c hc))).up (by omega) (by decide)
theorem ts_rule {β : Nat} {d : PyData} (b10 : β ≤ 10) (h : ruleB β d = true) : Ts d 50000 3 := by
  obtain ⟨cs, k, rfl, h3, hc, hk⟩ := rule_inv h
  exact (TsAll.tup (m := 20000) (n := 2) (.cons (ts_conds b10 h3 hc) (.cons ((ts_keep hk).up (by decide) (by decide)) .nil))).up (by simp) (by decide)
theorem ts_rules {β : Nat} {ds : List PyData} (b10 : β ≤ 10) (h : ds.all (ruleB β) = true) (hl : ds.length ≤ 20) : Ts (.tuple ds) 1100000 4 :=
  (TsAll.tup (m := 50000) (n := 3) (tsAll_of fun d hd => ts_rule b10 (List.all_eq_true.mp h d hd))).up (by omega) (by decide)
theorem Ts.shaped {d : PyData} {m n : Nat} (t : Ts d m n) (h : n ≤ 60) : SeqAt.shaped d = true := Bool.and_eq_true_iff.mpr ⟨t.l, decide_eq_true (by have := t.e; omega)⟩
theorem eqv_none (cs : List PyData) : PyData.eqv (.tuple cs) (.tuple []) = decide (cs = []) := by
  cases cs with
  | nil => simp [PyData.eqv, PyData.eqvAll]
  | cons n ns => simp [PyData.eqv, PyData.eqvAll]
end Dt

/-! k06: the law's rule, kept, tail. -/
namespace Dt
open PySem L2 Evl Dg LamR LamX StX ClX TL
open Dr (StAt SameB)
section
variable {P : Program} {w : World} {K : PySem.W.Frag} {mg : Str → Option Value} {base : Heap} {ca : Nat → Addr} {fld flp flc flh flr flb flk : Addr}
/-- the rules as data, the range -/
def RuR (H : Hp) (vr : V) (β f s : Nat) (Ds : List PyData) : Prop := RgN β f s ∧ RowS β Ds ∧ lastC Ds = false ∧ Pt H vr (.tuple Ds)
theorem RuR.ex {H H' : Hp} {vr : V} {β f s : Nat} {Ds : List PyData} (r : RuR H vr β f s Ds) (e : Ex H H') : RuR H' vr β f s Ds := ⟨r.1, r.2.1, r.2.2.1, r.2.2.2.ex e⟩
def spLRule : Sp := fun vs H Q _ => ∃ (vr : V) (Ds : List PyData) (β f s : Nat), vs = [.int β, vr, .int f, .int s] ∧ RuR H vr β f s Ds ∧ RetV (.int (firstD β f s Ds : Int)) H Q
abbrev nLRule : List Str := ["base", "rules", "first", "second", "number", "condition"]
theorem appl_last {β f s : Nat} {Ds : List PyData} (good : RowS β Ds) (hl : lastC Ds = false) {d : PyData} (hd : Ds[Ds.length - 1]? = some d) : appl β f s d = true := by
  obtain ⟨cs, k, rfl, hc3, hcs, hks⟩ := good.at hd
  have h1 : lastC Ds = decide (0 < cs.length) := by
    unfold lastC
    have : Ds.getLastD .none = .tuple [.tuple cs, k] := by
      rw [List.getLastD_eq_getLast?, List.getLast?_eq_getElem?, hd]
      rfl
    rw [this]
    rfl
  rw [hl] at h1
  have h2 := of_decide_eq_false h1.symm
  have h3 : cs = [] := List.length_eq_zero_iff.mp (by omega)
  rw [h3]
  rfl
theorem firstD_at {β f s : Nat} {Ds : List PyData} {i : Nat} (hi : i < Ds.length) (hne : ∀ j d, j < i → Ds[j]? = some d → appl β f s d = false) (h : i = Ds.length - 1 ∨ ∃ d, Ds[i]? = some d ∧ appl β f s d = true) : firstD β f s Ds = i := by
  rcases Nat.lt_or_ge i (Ds.length - 1) with y | y
  · rcases h with h | ⟨d, hd, z⟩
    · omega
    · unfold firstD
      rw [List.findIdx_eq (by rw [List.length_take]; omega)]
      refine ⟨?_, fun j hj => ?_⟩
      · rw [List.getElem_take]
        rw [List.getElem?_eq_getElem (by omega)] at hd
        injection hd with hd
        rw [hd]
        exact z
      · rw [List.getElem_take]
        exact hne j _ hj (List.getElem?_eq_getElem (by omega))
  · unfold firstD
    rw [List.findIdx_eq_length.mpr, List.length_take]
    · omega
    · intro x hx
      obtain ⟨j, hj, e⟩ := List.mem_take_iff_getElem.mp hx
      exact hne j x (by omega) (by rw [← e]; exact List.getElem?_eq_getElem (by omega))
theorem et_ne2 {σ : St} {H : Hp} {te : TE} {ns : List Int} (h : EvL te σ H (ns.map V.int)) : EvT (tTest (tOp (rNeD K) te (tLst tNil))) σ H (!decide (ns = [])) := fun H1 e1 Q q =>
  h H1 e1 _ fun p1 H2 n1 e2 h2 => el_lst (σ := σ) (H := H2) ea_nil (by simp) H2 (Ex.refl H2) _ fun p2 H3 n2 e3 h3 => ⟨.list (ns.map PyData.int), .list [], .lst (sq_of (e3 _ _ h2)) (Dr.dpAll_ints _), .lst (sq_of h3) .nil, Dr.shaped_ints _, by decide +kernel, by
    rw [Dr.eqv_nil]
    exact ⟨_, rfl, q H3 (e2.trans e3)⟩⟩
/-! ### how many digits, the tail -/
def spLKeptBy : Sp := fun vs H Q _ => ∃ (v : V) (D : PyData) (β f s : Nat), vs = [.int β, v, .int f, .int s] ∧ RgN β f s ∧ Pt H v D ∧ KeepS D ∧ RetV (.int (keepN β f s D : Int)) H Q
abbrev nLKeptBy : List Str := ["base", "keep", "first", "second", "many", "size"]
theorem minI (x y : Nat) : (if (y : Int) < (x : Int) then (y : Int) else (x : Int)) = ((min x y : Nat) : Int) := by
  rcases Nat.lt_or_ge y x with z | z
  · rw [if_pos (by omega), Nat.min_eq_right (Nat.le_of_lt z)]
  · rw [if_neg (by omega), Nat.min_eq_left z]
theorem maxI (x y : Nat) : (if (y : Int) > (x : Int) then (y : Int) else (x : Int)) = ((max x y : Nat) : Int) := by
  rcases Nat.lt_or_ge x y with z | z
  · rw [if_pos (by omega), Nat.max_eq_right (Nat.le_of_lt z)]
  · rw [if_neg (by omega), Nat.max_eq_left z]
theorem ev_max2 {σ : St} {H : Hp} {ta tb : TE} {x y : Nat} (ha : Ev ta σ H (.int x)) (hb : Ev tb σ H (.int y)) : Ev (tCB (fun xs H Q => ∃ i j, xs = [.int i, .int j] ∧ Q (.int (if j > i then j else i)) H) (tCons ta (tCons tb tNil))) σ H (.int ((max x y : Nat) : Int)) :=
  ev_cb (ea_cons ha (ea_cons hb ea_nil)) fun H1 e Q q => ⟨_, _, rfl, by
    rw [maxI]
    exact q _ (Ex.refl _)⟩
theorem ev_min2 {σ : St} {H : Hp} {ta tb : TE} {x y : Nat} (ha : Ev ta σ H (.int x)) (hb : Ev tb σ H (.int y)) : Ev (tCB (fun xs H Q => ∃ i j, xs = [.int i, .int j] ∧ Q (.int (if j < i then j else i)) H) (tCons ta (tCons tb tNil))) σ H (.int ((min x y : Nat) : Int)) :=
  ev_cb (ea_cons ha (ea_cons hb ea_nil)) fun H1 e Q q => ⟨_, _, rfl, by
    rw [minI]
    exact q _ (Ex.refl _)⟩
def spLKept : Sp := fun vs H Q _ => ∃ (vr : V) (Ds : List PyData) (β f s : Nat), vs = [.int β, vr, .int f, .int s] ∧ RuR H vr β f s Ds ∧ RetV (.int (keptD β f s Ds : Int)) H Q
theorem ev_callGL {sp : Sp} {ta : TA} {vs : List V} {v : V} {σ : St} {H : Hp} {E : XK} (h : EvA ta σ H vs) (k : ∀ H1, Ex H H1 → ∀ Q, (∀ H2, Ex H1 H2 → Q v H2) → ∀ E, sp vs H1 Q E) : Ev (tCall sp [] E ta) σ H v := fun H1 e Q q => h H1 e _ fun H2 e2 => by
  rw [List.append_nil]
  exact k H2 (e.trans e2) _ (fun H3 e3 => q H3 (e2.trans e3)) _
def spLTail : Sp := fun vs H Q _ => ∃ (vr : V) (Ds : List PyData) (β f s : Nat), vs = [.int β, vr, .int f, .int s] ∧ RuR H vr β f s Ds ∧ RetV (.str (tailD β f s Ds)) H Q
end
end Dt

/-! The law's own entries and their texts. -/
namespace Dt
open PySem L2 Evl Dg LamR LamX StX ClX TL
open Dr (StAt SameB)
/-- what is drawn so far: a list of data that grows -/
structure Le (H0 H' : Hp) (p c l fl : Addr) (n : Nat) (b : Int) (us : List V) (ds : List PyData) : Prop where
  s : StAt H' p c l n b
  sb : SameB H0 H' p l
  fl : H' fl = some (.lst us)
  k : PtAll H' us ds
  nl : noLs ds = true
section
variable {H0 H' H2 : Hp} {p c l fl : Addr} {n : Nat} {b b2 : Int} {us : List V} {ds : List PyData} {v : V} {d : PyData}
theorem Le.ex (L : Le H0 H' p c l fl n b us ds) (e : Ex H' H2) : Le H0 H2 p c l fl n b us ds := ⟨L.s.ex e, sameB_trans L.sb (sameB_ex e), e _ _ L.fl, L.k.ex e, L.nl⟩
theorem Le.same (L : Le H0 H' p c l fl n b us ds) (o : fl ≠ p ∧ fl ≠ c ∧ fl ≠ l) (S : StAt H2 p c l n b2) (e : SameB H' H2 p l) : Le H0 H2 p c l fl n b2 us ds := ⟨S, sameB_trans L.sb e, e _ _ L.fl o.1 o.2.2, L.k.tk (tupK_same L.s e) L.nl, L.nl⟩
theorem Le.app (L : Le H0 H' p c l fl n b us ds) (o : fl ≠ p ∧ fl ≠ c ∧ fl ≠ l) (nf : H0 fl = none) (kv : Pt H' v d) (nd : noL d = true) : Le H0 (upd H' fl (.lst (us ++ [v]))) p c l fl n b (us ++ [v]) (ds ++ [d]) :=
  ⟨stAt_upd L.s o, sameB_upd L.sb nf, upd_same, (L.k.tk (tupK_upd L.fl) L.nl).app (.cons (kv.tk (tupK_upd L.fl) nd) .nil), noLs_app L.nl (by show (noL d && true) = true; rw [nd]; rfl)⟩
end
/-- an item of two numbers -/
def mkI (f l : Nat) : PyData := if l = f then .int (f : Int) else .tuple [.int (f : Int), .int (l : Int)]
theorem mkI_span {f l : Nat} (f1 : 1 ≤ f) (h : f ≤ l) : Span (mkI f l) f l ∧ itemB (mkI f l) = true ∧ noL (mkI f l) = true := by
  unfold mkI
  by_cases e : l = f
  · subst e
    rw [if_pos rfl]
    have S : Span (.int (l : Int)) l l := ⟨f1, Nat.le_refl _, rfl, rfl, fun z => nomatch z⟩
    exact ⟨S, S.item (fun z => nomatch z), rfl⟩
  · rw [if_neg e]
    have S : Span (.tuple [.int (f : Int), .int (l : Int)]) f l := ⟨f1, h, rfl, rfl, fun _ => rfl⟩
    exact ⟨S, S.item (fun _ => by omega), rfl⟩
section
variable {P : Program} {w : World} {K : PySem.W.Frag} {mg : Str → Option Value} {base : Heap} {fm fdr flp fle fld flt : Addr}
def spLEntry : Sp := fun vs H Q _ => ∃ (p c l : Addr) (n β m : Nat) (a : Int), vs = [.ref p, .int β, .int m] ∧ StAt H p c l n a ∧ l ≠ c ∧ a < 2 ^ 39 - 10000 ∧ 2 ≤ β ∧ β ≤ 10 ∧ m ≤ 60 ∧
  ∀ (v : V) (ds : List PyData) (ps : List (Nat × Nat)) (H' : Hp) (b : Int), ds.length = m → Spans 0 ds ps → (∀ d ∈ ds, itemB d = true) → noLs ds = true → (∀ q ∈ ps, q.2 ≤ 200000 * m) → Pt H' v (.tuple ds) → a ≤ b → b ≤ a + 10 * m → StAt H' p c l n b → SameB H H' p l → Q v H'
def spLEnds : Sp := fun vs H Q _ => ∃ v D f l, vs = [v] ∧ Pt H v D ∧ Span D f l ∧ ∀ t H', Ex H H' → H' t = some (.tup [.int (f : Nat), .int (l : Nat)]) → Q (.ref t) H'
/-- what the law's writer is given -/
structure EnR (H : Hp) (vr v : V) (β : Nat) (Ds ds : List PyData) (ps : List (Nat × Nat)) : Prop where
  b2 : 2 ≤ β
  b10 : β ≤ 10
  row : RowS β Ds
  last : lastC Ds = false
  kr : Pt H vr (.tuple Ds)
  k : Pt H v (.tuple ds)
  sp : Spans 0 ds ps
  n : ds.length ≤ 50
  big : ∀ p ∈ ps, p.2 < 2 ^ 50000
theorem EnR.ex {H H' : Hp} {vr v : V} {β : Nat} {Ds ds : List PyData} {ps : List (Nat × Nat)} (h : EnR H vr v β Ds ds ps) (e : Ex H H') : EnR H' vr v β Ds ds ps := ⟨h.b2, h.b10, h.row, h.last, h.kr.ex e, h.k.ex e, h.sp, h.n, h.big⟩
def spLEntT : Sp := fun vs H Q _ => ∃ (vr v : V) (xm : Str) (β : Nat) (Ds ds : List PyData) (ps : List (Nat × Nat)), vs = [.int β, vr, .str xm, v] ∧ (xm = "full" ∨ xm = "running") ∧ EnR H vr v β Ds ds ps ∧ RetV (.str (entT β Ds (decide (xm = "full")) ps)) H Q
theorem ev_ldigC {σ : St} {H : Hp} {t0 t1 : TE} {E : XK} {β n : Nat} (b2 : 2 ≤ β) (b10 : β ≤ 10) (hn : n < 2 ^ 50000) (h0 : Ev t0 σ H (.int β)) (h1 : Ev t1 σ H (.int n)) : Ev (tCall spLDigits [] E (tCons t0 (tCons t1 tNil))) σ H (.str (digs β n)) :=
  ev_call (ea_cons h0 (ea_cons h1 ea_nil)) fun H1 e Q q E => ⟨β, n, rfl, b2, b10, hn, fun H2 e2 => q H2 e2⟩
theorem ev_ltailC {σ : St} {H : Hp} {t0 t1 t2 t3 : TE} {E : XK} {β f s : Nat} {vr : V} {Ds : List PyData} (r : RgN β f s) (row : RowS β Ds) (hl : lastC Ds = false) (k : Pt H vr (.tuple Ds)) (h0 : Ev t0 σ H (.int β)) (h1 : Ev t1 σ H vr) (h2 : Ev t2 σ H (.int f)) (h3 : Ev t3 σ H (.int s)) : Ev (tCall spLTail [] E (tCons t0 (tCons t1 (tCons t2 (tCons t3 tNil))))) σ H (.str (tailD β f s Ds)) :=
  ev_call (ea_cons h0 (ea_cons h1 (ea_cons h2 (ea_cons h3 ea_nil)))) fun H1 e Q q E => ⟨vr, Ds, β, f, s, rfl, ⟨r, row, hl, k.ex e⟩, fun H2 e2 => q H2 e2⟩
end
end Dt

/-! An own object that is called, by names, its reading without the context (so that it may stand in a lambda). -/
namespace L2
open PySem PySem.Spec PyProof.Rows StX
def tCallN (C : Addr) (sp : Sp) (E : XK) (tf : TE) (t : TA) : TE := fun σ H Q => tf σ H fun y H1 => ∃ a, y = V.ref a ∧ t σ H1 fun vs H2 => (∃ dx fs, H2 a = some (.ins C dx fs)) ∧ sp (V.ref a :: vs) H2 Q E
section
variable {X : Cx} {CX : CXT} {k : Nat} {C : Addr} {sp : Sp} {E : XK} {e fe : Expr} {es : List Expr} {pos : Pos} {g : Addr} {i j l : Nat}
theorem pe_callO3 (h0 : PE X fe (tVar i)) (c : CallO X.K C g) (F : FnR X.prog X.w X.K X.mg X.base CX k g sp) (hr : Room k X.A) (hx : Passes CX X E) (ha : PA X (e :: es) (tCons (tVar j) (tCons (tVar l) tNil)))
    (hev : eval (fe.Call (e :: es) [] pos) X.env = (do
      let fv ← eval fe X.env
      callWith pos fv [] (backTo pos (starEach (e :: es) X.env)) (backToKw pos (keywordEach [] X.env))) := by rfl)
    (he : starEach (e :: es) X.env = (false, eval e X.env) :: starEach es X.env := by rfl) (hpl : ((backTo pos (starEach es X.env)).any fun x => x.1) = false := by rfl) :
    PE X (fe.Call (e :: es) [] pos) (tCallN C sp E (tVar i) (tCons (tVar j) (tCons (tVar l) tNil))) :=
  ⟨fun pins s σ H Q I h => (pe_callO h0 c F hr hx ha hev he hpl).run pins s σ H Q I (by
    obtain ⟨v, h1, a, h4, w1, h2, w2, h3, hi, hsp⟩ := h
    exact ⟨v, h1, a, h4, w1, h2, w2, h3, .inr hi, hsp⟩)⟩
end
end L2

/-! Data: sums, slices, items, equality, what is shown. -/
namespace Dt
open PySem L2 Evl Dg LamR LamX TL ExM
open Dr (StAt SameB)
theorem djP {K : PySem.W.Frag} {H : Hp} {v : V} {d : PyData} (h : Pt H v d) (k : noK d = true) : Dj K H v d := .di (.dp (h.dp k))
theorem ts_show {d : PyData} {m n : Nat} (t : Ts d m n) (h : m ≤ 16000000) (k : n ≤ 60) : d.showable = true ∧ d.shown.length ≤ sizeLine ∧ d.depth ≤ 60 := by
  obtain ⟨a, b⟩ := shown_cap d t.p
  have := t.c
  have := t.e
  exact ⟨a, by rw [sizeLine_eq]; omega, by omega⟩
section
variable {K : PySem.W.Frag} {σ : St} {H : Hp} {te ta tb tc to : TE} {D e d : PyData} {Ds Es : List PyData} {j : Nat}
theorem ep_catA {ta tb : TE} {Ds Es : List PyData} (ha : EvP ta σ H (.tuple Ds)) (hb : EvP tb σ H (.tuple Es)) (hl : Ds.length + Es.length ≤ 100000) : EvP (tOp (rCatA K) ta tb) σ H (.tuple (Ds ++ Es)) := fun H1 e Q q =>
  ha H1 e _ fun v1 H2 e2 k1 => hb H2 (e.trans e2) _ fun v2 H3 e3 k2 => by
    obtain ⟨a, xs, rfl, h1, ka⟩ := (k1.ex e3).tupI'
    obtain ⟨b, ys, rfl, h2, kb⟩ := k2.tupI'
    exact rd_cat h1 h2 ka kb hl fun c H4 zs e4 h4 kz => q (.ref c) H4 ((e2.trans e3).trans e4) (.tup h4 kz)
theorem EvP.mono {H' : Hp} (e : Ex H H') (h : EvP te σ H d) : EvP te σ H' d := fun H1 e1 Q q => h H1 (e.trans e1) Q q
theorem ev_neP (ha : EvP ta σ H d) (hb : EvP tb σ H e) (kd : noK d = true) (ke : noK e = true) (sd : SeqAt.shaped d = true) (se : SeqAt.shaped e = true) : Ev (tOp (rNeD K) ta tb) σ H (.bl (!PyData.eqv d e)) := fun H1 e1 Q q =>
  ha H1 e1 _ fun v H2 e2 k2 => hb H2 (e1.trans e2) _ fun u H3 e3 k3 => ⟨d, e, (k2.ex e3).dp kd, k3.dp ke, sd, se, q H3 (e2.trans e3)⟩
theorem ev_eqDP (ha : EvP ta σ H d) (hb : EvP tb σ H e) (kd : noK d = true) (ke : noK e = true) (sd : SeqAt.shaped d = true) (se : SeqAt.shaped e = true) : Ev (tOp (rEqD K) ta tb) σ H (.bl (PyData.eqv d e)) := fun H1 e1 Q q =>
  ha H1 e1 _ fun v H2 e2 k2 => hb H2 (e1.trans e2) _ fun u H3 e3 k3 => ⟨d, e, (k2.ex e3).dp kd, k3.dp ke, sd, se, q H3 (e2.trans e3)⟩
theorem ev_reprP {m n : Nat} (h : EvP te σ H d) (kn : noK d = true) (t : Ts d m n) (hm : m ≤ 16000000) (hn : n ≤ 60) : Ev (tCB (rReprJ K) (tCons te tNil)) σ H (.str d.shown) := fun H1 e Q q => by
  obtain ⟨y1, y2, y3⟩ := ts_show t hm hn
  exact h H1 e _ fun v H2 e2 k2 => ⟨v, d, rfl, djP k2 kn, y1, y2, y3, q H2 e2⟩
theorem ep_sl {tlo thi : TO} {lo hi : Option Int} (h : EvP te σ H (.tuple Ds)) (h1 : EvO tlo σ H lo) (h2 : EvO thi σ H hi) : EvP (tSl (rSlA K) te tlo thi) σ H (.tuple (cutD Ds lo hi)) := fun H1 e Q q =>
  h H1 e _ fun v H2 e2 k2 => h1 H2 (e.trans e2) _ fun H3 e3 => h2 H3 ((e.trans e2).trans e3) _ fun H4 e4 => by
    obtain ⟨a, xs, rfl, ha, ka⟩ := ((k2.ex e3).ex e4).tupI'
    exact rd_sl ha ka fun b H5 ys e5 h5 k5 => q (.ref b) H5 (((e2.trans e3).trans e4).trans e5) (.tup h5 k5)
theorem ep_ix (h : EvP te σ H (.tuple Ds)) (h2 : Ev tb σ H (.int (j : Nat))) (hd : Ds[j]? = some d) : EvP (tOp (rIxT K) te tb) σ H d := fun H1 e Q q =>
  h H1 e _ fun v H2 e2 k2 => h2 H2 (e.trans e2) _ fun H3 e3 => by
    obtain ⟨a, xs, rfl, ha, ka⟩ := (k2.ex e3).tupI'
    obtain ⟨u, hu, ku⟩ := ka.get hd
    exact ⟨a, xs, _, u, rfl, rfl, st_of ha, atI_nat hu, q u H3 (e2.trans e3) ku⟩
theorem ptAll_rep {v : V} (k : Pt H v d) : ∀ n : Nat, PtAll H (List.replicate n [v]).flatten (List.replicate n d)
  | 0 => .nil
  | n + 1 => by
    rw [List.replicate_succ, List.replicate_succ, List.flatten_cons]
    exact .cons k (ptAll_rep k n)
theorem ep_rep7 (h : EvP te σ H (.tuple [d])) : EvP (tOp (rRepT K) te (tC (.int 7))) σ H (.tuple (List.replicate 7 d)) := fun H1 e Q q =>
  h H1 e _ fun v H2 e2 k2 => by
    obtain ⟨a, xs, rfl, ha, ka⟩ := k2.tupI'
    cases ka with
    | cons k0 k1 => cases k1 with
      | nil => exact ⟨a, 7, _, rfl, rfl, st_of ha, (by simp), by decide, by decide, by simp, fun p hp => q (.ref p) _ (e2.trans (Ex.new hp)) (.tup upd_same ((ptAll_rep k0 7).ex (Ex.new hp)))⟩
end
theorem cut_lo {Ds : List PyData} {j : Nat} : cutD Ds none (some (j : Int)) = Ds.take j := by
  unfold cutD
  rw [HT.sIx_none, HT.sIx_nat, List.drop_zero, Nat.sub_zero]
  by_cases h : j ≤ Ds.length
  · rw [Nat.min_eq_left h]
  · rw [Nat.min_eq_right (by omega), List.take_of_length_le (Nat.le_refl _), List.take_of_length_le (by omega)]
theorem cut_hi {Ds : List PyData} {j : Nat} : cutD Ds (some (j : Int)) none = Ds.drop j := by
  unfold cutD
  rw [HT.sIx_none, HT.sIx_nat]
  by_cases h : j ≤ Ds.length
  · rw [Nat.min_eq_left h, List.take_of_length_le (by rw [List.length_drop]; omega)]
  · rw [Nat.min_eq_right (by omega), List.drop_of_length_le (Nat.le_refl _), List.drop_of_length_le (by omega)]
    simp
theorem set_cut {α : Type} : ∀ {Ds : List α} {j : Nat} {e : α}, j < Ds.length → Ds.take j ++ [e] ++ Ds.drop (j + 1) = Ds.set j e
  | [], _, _, h => by simp at h
  | a :: Ds, 0, e, _ => by simp
  | a :: Ds, j + 1, e, h => by
    have := set_cut (Ds := Ds) (j := j) (e := e) (by simpa using h)
    simp at this ⊢
    exact this
theorem erase_cut {α : Type} (Ds : List α) (j : Nat) : Ds.take j ++ Ds.drop (j + 1) = Ds.eraseIdx j := (List.eraseIdx_eq_take_drop_succ Ds j).symm
/-- a text's show -/
theorem ts_txt {x : Str} {n : Nat} (h1 : ∀ c ∈ tl x, c < 100) (h2 : x.length ≤ n) : plainD (.str x) ∧ cap (.str x) ≤ 10 * n + 2 := by
  refine ⟨fun c hc => ?_, ?_⟩
  · have := h1 c hc
    have e : (16 : Nat) ^ 8 = 4294967296 := by decide
    omega
  · simp only [cap]
    omega
theorem ev_reprS {K : PySem.W.Frag} {σ : St} {H : Hp} {te : TE} {x : Str} {n : Nat} (h : Ev te σ H (.str x)) (h1 : ∀ c ∈ tl x, c < 100) (h2 : x.length ≤ n) (hn : n ≤ 1000000) : Ev (tCB (rReprJ K) (tCons te tNil)) σ H (.str (PyData.str x).shown) := fun H1 e Q q => by
  obtain ⟨p, c⟩ := ts_txt h1 h2
  obtain ⟨a, b⟩ := shown_cap _ p
  exact h H1 e _ fun H2 e2 => ⟨_, .str x, rfl, .di (.dp (.str x)), a, by rw [sizeLine_eq]; omega, by simp [PyData.depth], q H2 e2⟩
end Dt

/-! How entries and their texts are shown. -/
namespace Dt
open PySem L2 Evl Dg LamR LamX StX ClX TL
open Dr (StAt SameB)
theorem mem_joinL {s : List Nat} : ∀ {ls : List (List Nat)} {c : Nat}, c ∈ joinL s ls → c ∈ s ∨ ∃ l ∈ ls, c ∈ l
  | [], c, h => by simp [joinL] at h
  | [p], c, h => .inr ⟨p, by simp, by simpa [joinL] using h⟩
  | p :: q :: r, c, h => by
    simp only [joinL, List.mem_append] at h
    rcases h with h | h | h
    · exact .inr ⟨p, by simp, h⟩
    · exact .inl h
    · rcases mem_joinL (ls := q :: r) h with k | ⟨l, hl, k⟩
      · exact .inl k
      · exact .inr ⟨l, List.mem_cons_of_mem _ hl, k⟩
theorem len_joinL {s : List Nat} {m : Nat} : ∀ {ls : List (List Nat)}, (∀ l ∈ ls, l.length ≤ m) → (joinL s ls).length ≤ ls.length * (m + s.length)
  | [], _ => by simp [joinL]
  | [p], h => by
    have := h p (by simp)
    simp only [joinL, List.length_cons, List.length_nil]
    omega
  | p :: q :: r, h => by
    have h1 := h p (by simp)
    have h2 := len_joinL (s := s) (ls := q :: r) fun l hl => h l (List.mem_cons_of_mem _ hl)
    simp only [joinL, List.length_append]
    rw [List.length_cons, Nat.succ_mul]
    omega
theorem tl_joinT (a : Str) (xs : List Str) : tl (Txt.join a xs) = joinL (tl a) (xs.map tl) := by
  rw [join_eq, tl_join]
theorem digs_lt {β n : Nat} (b2 : 2 ≤ β) (b10 : β ≤ 10) : ∀ c ∈ tl (digs β n), c < 100 := fun c hc => by
  rw [tl_digs] at hc
  obtain ⟨d, hd, rfl⟩ := List.mem_map.mp hc
  have := dl_lt b2 n d (List.mem_reverse.mp hd)
  omega
theorem mem_cutS {x : Str} {lo hi : Option Int} {c : Nat} (h : c ∈ tl (cutS x lo hi)) : c ∈ tl x := by
  have h' : c ∈ ((x.cps.toList.drop (HT.sIx x.length 0 lo)).take (HT.sIx x.length x.length hi - HT.sIx x.length 0 lo)) := h
  exact List.mem_of_mem_drop (List.mem_of_mem_take h')
theorem tailD_lt {β f s : Nat} {Ds : List PyData} (b2 : 2 ≤ β) (b10 : β ≤ 10) : ∀ c ∈ tl (tailD β f s Ds), c < 100 := fun c hc => digs_lt b2 b10 c (mem_cutS hc)
theorem partE_lt {β a f l : Nat} {Ds : List PyData} {full : Bool} (b2 : 2 ≤ β) (b10 : β ≤ 10) : ∀ c ∈ tl (partE β Ds full a f l), c < 100 := fun c hc => by
  unfold partE at hc
  dsimp only at hc
  have dash : ∀ c ∈ tl ("-" : Str), c < 100 := by decide
  have one : ∀ c ∈ tl (if (full || decide (a = 0)) = true then digs β f else tailD β a f Ds), c < 100 := fun c hc => by
    split at hc
    · exact digs_lt b2 b10 c hc
    · exact tailD_lt b2 b10 c hc
  split at hc
  · rw [tl_append, tl_append, List.mem_append, List.mem_append] at hc
    rcases hc with (h | h) | h
    · exact one c h
    · exact dash c h
    · exact tailD_lt b2 b10 c h
  · exact one c hc
theorem digs_lenB {β n L : Nat} (b2 : 2 ≤ β) (h : n < β ^ L) : (digs β n).length ≤ L := by
  rw [digs_len]
  exact dl_lenB b2 L n h
theorem partE_lenB {β a f l L : Nat} {Ds : List PyData} {full : Bool} (b2 : 2 ≤ β) (fl : f ≤ l) (h : l < β ^ L) : (partE β Ds full a f l).length ≤ 2 * L + 1 := by
  have h1 := digs_lenB b2 (Nat.lt_of_le_of_lt fl h)
  have h2 := digs_lenB b2 h
  have t1 : (tailD β a f Ds).length ≤ L := Nat.le_trans (cut_len _ _ _) h1
  have t2 : (tailD β f l Ds).length ≤ L := Nat.le_trans (cut_len _ _ _) h2
  have dash : ("-" : Str).length = 1 := by decide
  unfold partE
  dsimp only
  have one : (if (full || decide (a = 0)) = true then digs β f else tailD β a f Ds).length ≤ L := by
    split
    · exact h1
    · exact t1
  split
  · rw [len_append, len_append, dash]
    omega
  · omega
theorem Spans.le : ∀ {ds : List PyData} {a : Nat} {ps : List (Nat × Nat)}, Spans a ds ps → ∀ p ∈ ps, 1 ≤ p.1 ∧ p.1 ≤ p.2
  | _, _, _, .nil, _, h => nomatch h
  | _, _, _, .cons S _ r, p, h => by
    rcases List.mem_cons.mp h with rfl | h
    · exact ⟨S.f1, S.fl⟩
    · exact r.le p h
theorem partsE_mem {β : Nat} {Ds : List PyData} {full : Bool} {J : Str → Prop} : ∀ {ps : List (Nat × Nat)} {a : Nat}, (∀ p ∈ ps, ∀ a, J (partE β Ds full a p.1 p.2)) → ∀ x ∈ partsE β Ds full a ps, J x
  | [], _, _, x, h => nomatch h
  | p :: ps, a, hp, x, h => by
    rcases List.mem_cons.mp h with rfl | h
    · exact hp p List.mem_cons_self a
    · exact partsE_mem (fun q hq => hp q (List.mem_cons_of_mem _ hq)) x h
theorem partsE_len {β : Nat} {Ds : List PyData} {full : Bool} : ∀ {ps : List (Nat × Nat)} {a : Nat}, (partsE β Ds full a ps).length = ps.length
  | [], _ => rfl
  | p :: ps, a => by
    show (partE β Ds full a p.1 p.2 :: partsE β Ds full p.2 ps).length = _
    rw [List.length_cons, List.length_cons, partsE_len]
theorem entT_lt {β : Nat} {Ds : List PyData} {full : Bool} {ps : List (Nat × Nat)} (b2 : 2 ≤ β) (b10 : β ≤ 10) : ∀ c ∈ tl (entT β Ds full ps), c < 100 := fun c hc => by
  unfold entT at hc
  rw [tl_joinT] at hc
  rcases mem_joinL hc with h | ⟨l, hl, h⟩
  · exact (by decide : ∀ c ∈ tl (", " : Str), c < 100) c h
  · obtain ⟨x, hx, rfl⟩ := List.mem_map.mp hl
    exact partsE_mem (J := fun x => ∀ c ∈ tl x, c < 100) (fun p hp a => partE_lt b2 b10) x hx c h
theorem entT_lenB {β L : Nat} {Ds ds : List PyData} {full : Bool} {ps : List (Nat × Nat)} {a : Nat} (b2 : 2 ≤ β) (sp : Spans a ds ps) (h : ∀ p ∈ ps, p.2 < β ^ L) : (entT β Ds full ps).length ≤ ps.length * (2 * L + 3) := by
  unfold entT
  rw [len_t, tl_joinT]
  have key := len_joinL (s := tl (", " : Str)) (m := 2 * L + 1) (ls := (partsE β Ds full 0 ps).map tl) fun l hl => by
    obtain ⟨x, hx, rfl⟩ := List.mem_map.mp hl
    rw [← len_t]
    exact partsE_mem (J := fun x => x.length ≤ 2 * L + 1) (fun p hp a => partE_lenB b2 (sp.le p hp).2 (h p hp)) x hx
  have e : (tl (", " : Str)).length = 2 := by decide
  rw [List.length_map, partsE_len, e] at key
  exact key
theorem item_of {d : PyData} {f l : Nat} (S : Span d f l) : d = .int (f : Int) ∨ d = .tuple [.int (f : Int), .int (l : Int)] := by
  cases ht : isT d with
  | true => exact .inr (S.t ht)
  | false =>
    have := S.a
    unfold spanA at this
    rw [ht] at this
    exact .inl this
theorem span_ts {d : PyData} {f l : Nat} (S : Span d f l) (h : l < 2 ^ 60) : Ts d 10000 1 ∧ noK d = true := by
  have fl := S.fl
  rcases item_of S with rfl | rfl
  · exact ⟨(ts_int (i := (f : Int)) (by omega)).up (by decide) (by decide), rfl⟩
  · exact ⟨(TsAll.tup (m := 1921) (n := 0) (.cons (ts_int (by omega)) (.cons (ts_int (by omega)) .nil))).up (by simp) (by decide), rfl⟩
theorem spans_ts : ∀ {ds : List PyData} {a : Nat} {ps : List (Nat × Nat)}, Spans a ds ps → (∀ p ∈ ps, p.2 < 2 ^ 60) → (∀ d ∈ ds, Ts d 10000 1 ∧ noK d = true)
  | _, _, _, .nil, _, _, h => nomatch h
  | _, _, _, .cons S _ r, hp, d, h => by
    rcases List.mem_cons.mp h with rfl | h
    · exact span_ts S (hp _ List.mem_cons_self)
    · exact spans_ts r (fun p hq => hp p (List.mem_cons_of_mem _ hq)) d h
theorem noKs_all : ∀ {ds : List PyData}, (∀ d ∈ ds, noK d = true) → noKs ds = true
  | [], _ => rfl
  | d :: ds, h => by
    show (noK d && noKs ds) = true
    rw [h d List.mem_cons_self, noKs_all fun e he => h e (List.mem_cons_of_mem _ he)]
    rfl
theorem ent_ts {ds : List PyData} {a : Nat} {ps : List (Nat × Nat)} (sp : Spans a ds ps) (h : ∀ p ∈ ps, p.2 < 2 ^ 60) (n : ds.length ≤ 60) : Ts (.tuple ds) 1000000 2 ∧ noK (.tuple ds) = true := by
  have k := spans_ts sp h
  refine ⟨(TsAll.tup (tsAll_of fun d hd => (k d hd).1)).up ?_ (by decide), noKs_all fun d hd => (k d hd).2⟩
  have : ds.length * (10000 + 2) ≤ 60 * (10000 + 2) := Nat.mul_le_mul_right _ n
  omega
end Dt

/-! Styles by hand, and what they write, worked out. -/
namespace Dt
open PySem L2 Evl Dg LamR LamX StX ClX TL ExM
open Dr (StAt SameB)
def pgD : List PyData := [.tuple [.tuple [.tuple [.str "ends", .str "00"]], .tuple [.str "all"]], .tuple [.tuple [.tuple [.str "length", .int 1, .int 2]], .tuple [.str "all"]], .tuple [.tuple [], .tuple [.str "changed", .int 2]]]
theorem pg_due : dueD 10 pgD = none := by decide +kernel
theorem pg_row : RowS 10 pgD := ⟨by decide, by decide, by decide +kernel⟩
/-! the forms, worked out -/
def holdsC (l1 ch ne : Nat) (en : Str) : PyData → Bool
  | .tuple [.str _, .str x] => Txt.endswith en x
  | .tuple [.str _, .int i] => decide ((ne : Int) ≤ i)
  | .tuple [.str w, .int i, e] => decide (i ≤ (if w = "length" then (l1 : Int) else (ch : Int))) && (isN e || decide ((if w = "length" then (l1 : Int) else (ch : Int)) ≤ intD e))
  | _ => false
def keepC (ch l2 : Nat) : PyData → Nat
  | .tuple [.str _] => l2
  | .tuple [.str w, .int i] => if w = "changed" then min (max ch i.toNat) l2 else min i.toNat l2
  | _ => 0
theorem holdsD_C (β f s : Nat) : holdsD β f s = holdsC (dl β f).length (chgN β f s) (neaN β (s - f)) (enD β f) := by
  funext d
  unfold holdsD holdsC
  rfl
theorem keepN_C (β f s : Nat) : keepN β f s = keepC (chgN β f s) (dl β s).length := by
  funext d
  unfold keepN keepC
  rfl
def firstC (β f ch ne : Nat) (Ds : List PyData) : Nat := (Ds.take (Ds.length - 1)).findIdx fun d => (tupD (at_ 0 d)).all (holdsC (dl β f).length ch ne (enD β f))
def formC (β f s ch ne : Nat) (Ds : List PyData) : Str := (digs β f ++ "-") ++ cutS (digs β s) (some (-((keepC ch (dl β s).length (at_ 1 (Ds.getD (firstC β f ch ne Ds) .none)) : Nat) : Int))) none
theorem formD_C {β f s ch ne : Nat} {Ds : List PyData} (hc : ChgIs β f s ch) (hn : NearIs β (s - f) ne) : formD β f s Ds = formC β f s ch ne Ds := by
  have h1 : firstD β f s Ds = firstC β f ch ne Ds := by
    unfold firstD firstC appl
    rw [holdsD_C, chgN_eq hc, neaN_eq hn]
  unfold formD tailD keptD formC
  rw [h1, keepN_C, chgN_eq hc]
instance {β f s m : Nat} : Decidable (ChgIs β f s m) := by
  unfold ChgIs
  infer_instance
instance {β d k : Nat} : Decidable (NearIs β d k) := by
  unfold NearIs
  infer_instance
def tailC (β f s ch ne : Nat) (Ds : List PyData) : Str := cutS (digs β s) (some (-((keepC ch (dl β s).length (at_ 1 (Ds.getD (firstC β f ch ne Ds) .none)) : Nat) : Int))) none
theorem tailD_C {β f s ch ne : Nat} {Ds : List PyData} (hc : ChgIs β f s ch) (hn : NearIs β (s - f) ne) : tailD β f s Ds = tailC β f s ch ne Ds := by
  have h1 : firstD β f s Ds = firstC β f ch ne Ds := by
    unfold firstD firstC appl
    rw [holdsD_C, chgN_eq hc, neaN_eq hn]
  unfold tailD keptD tailC
  rw [h1, keepN_C, chgN_eq hc]
/-- Style(.., ..) by its positional promise: what is passed behind the base -/
theorem rd_mk {K : PySem.W.Frag} {C : Addr} {ca : Nat → Addr} {H : Hp} {Q : VK} {E : XK} {β : Nat} {rs : List V} {Ds : List PyData} (b2 : 2 ≤ β) (b10 : β ≤ 10) (kr : PtAll H rs Ds) (h20 : rs.length ≤ 100) (hD : Due ca H E (dueD β Ds) (∀ x H', Ex H H' → StyAt H' C x β Ds → Q (.ref x) H')) :
    ∀ x dx, H x = Option.none → H dx = Option.none → dx ≠ x → spInitR K C ca (V.ref x :: (.int (β : Int) :: rs)) (upd (upd H dx (.own x)) x (.ins C dx [])) (fun v H2 => v = .non ∧ Q (.ref x) H2) E := fun x dx hx hdx hne => by
  refine ⟨[.ref x, .int β], rs, rfl, rfl, by rw [sizeLine_eq]; omega, fun p hp => ?_⟩
  have eA : Ex H (upd (upd H dx (.own x)) x (.ins C dx [])) := (Ex.new hdx).trans (Ex.new (by rw [upd_ne (Ne.symm hne)]; exact hx))
  have eB := Ex.new (o := .tup rs) hp
  have eAB := eA.trans eB
  refine ⟨x, p, dx, .int β, rs, Ds, true, rfl, eB _ _ upd_same, upd_same, kr.ex eAB, bs_yes b2 b10, (fun z => nomatch z), fun _ => ⟨β, rfl, b2, b10, ⟨fun pl hpl => (hD.bad pl hpl).go eAB, fun hn t2 H' kx hx' k' => ⟨rfl, ?_⟩⟩⟩⟩
  refine hD.ok hn x H' (fun b o h => ?_) ⟨dx, t2, hx', k'⟩
  exact kx b o (eAB _ _ h) (ne_of_none h hx)
theorem rd_makeP {K : PySem.W.Frag} {C : Addr} {ca : Nat → Addr} {σ : St} {H : Hp} {t : TA} {Q : VK} {E : XK} {β : Nat} {Ds : List PyData} (h : EvPA t σ H (.int (β : Int) :: Ds)) (b2 : 2 ≤ β) (b10 : β ≤ 10) (hl : Ds.length ≤ 100) (hd : dueD β Ds = none) (q : ∀ x H', Ex H H' → StyAt H' C x β Ds → Q (.ref x) H') : tMakeR C (spInitR K C ca) E t σ H Q :=
  h H (Ex.refl H) _ fun vs H2 e2 ks => by
    cases ks with
    | cons k0 kr =>
      cases k0
      exact rd_mk b2 b10 kr (by rw [kr.length]; exact hl) ⟨fun pl hp => (by rw [hd] at hp; cases hp), fun _ x H' e sty => q x H' (e2.trans e) sty⟩
/-- == of two lists of texts -/
theorem ev_eqTxts {K : PySem.W.Frag} {σ : St} {H : Hp} {ta tb : TE} {p : Addr} {xs : List Str} (h : Ev ta σ H (.ref p)) (hp : H p = some (.lst (xs.map V.str))) (hb : EvL tb σ H (xs.map V.str)) (sh : SeqAt.shaped (.list (xs.map PyData.str)) = true) : Ev (tOp (rEqD K) ta tb) σ H (.bl true) := by
  have dp : ∀ (xs : List Str) (H' : Hp), DpAll K H' (xs.map V.str) (xs.map PyData.str) := fun xs H' => by
    induction xs with
    | nil => exact .nil
    | cons x xs ih => exact .cons (.str x) ih
  have eq : PyData.eqv (.list (xs.map PyData.str)) (.list (xs.map PyData.str)) = true := SeqAt.eqv_refl _ (Bool.and_eq_true_iff.mp sh).1
  refine ev_opL h hb fun p3 H3 h3 e3 => fun H4 e4 Q4 q4 => ⟨.list (xs.map PyData.str), .list (xs.map PyData.str), .lst (sq_of (e4 _ _ (e3 _ _ hp))) (dp xs _), .lst (sq_of (e4 _ _ h3)) (dp xs _), sh, sh, ?_⟩
  rw [eq]
  exact q4 _ (Ex.refl _)
end Dt

/-! len(x), x of an own class with __len__. -/
namespace L2
open PySem PySem.Spec PyProof.Rows
section
variable {X : Cx} {k : Nat} {C g : Addr} {fd : FuncData} {ps : List Str} {sp : Sp}
theorem call_len_own (hs : PySem.W.findIn X.K (.ref C) "__len__" = some (some (.ref g))) (hf : PySem.W.isFn X.K (.ref g) = true) (F : FnOk X.prog X.w X.K X.mg X.base CX0 k g fd ps sp) (hr : Room (k + 1) X.A) (hb : Binds X.K fd ps []) :
    CallR X (.builtin "len") (fun xs H Q => ∃ a dx fs, xs = [.ref a] ∧ H a = some (.ins C dx fs) ∧ sp [.ref a] H (fun v H' => ∃ n : Nat, v = .int n ∧ n ≤ sizeLine ∧ Q (.int n) H') E0) := by
  intro pins s σ H xs us Q I r h
  obtain ⟨a, dx, fs, rfl, ha, h⟩ := h
  cases r with
  | cons r0 rr =>
    cases rr
    cases r0
    obtain ⟨mA, O, _⟩ := ins_get I.hok ha
    obtain ⟨od, J, _⟩ := O.look
    have hl : ([Value.ref a] ++ []).length = ps.length := by
      rw [← F.len _ _ _ _ h]
      rfl
    refine Calls.call_function_entry kind_len plain_len entry_len (args_len1 _) ?_
    unfold Builtin.«len»
    refine wpAny_bind (m := oneArg "len" _) (wpAny_pure ?_)
    refine wpAny_bind (m := callSpecial? (.ref a) (Str.ofString "__len__")) (PySem.W.special_fn I.kIn J hs (beq_iff_eq.mp hf) (wpAny_call (codeAny_mono (F.run X.A.in1 X.stack s H ⟨[.ref a], []⟩ [.ref a] [.ref a] _ E0 hr.in1 I.env0.in1 (by
      have := hb s [.ref a] I.kIn (by simpa using hl)
      simpa using this) (.cons rfl .nil) h) fun r s' hq => ?_)))
    cases r with
    | error er => exact False.elim hq
    | ok fl =>
      cases fl with
      | ret u =>
        obtain ⟨v, H', I3, rv, n, ev, hn, q3⟩ := I.after hq
        subst ev
        obtain ⟨t, rfl⟩ := rv
        refine wpAny_bind (wpAny_holding (wpAny_pure ?_))
        refine wpAny_bind (wpAny_letGo ?_)
        rw [sizeLine_eq] at hn
        show wpAny _ _ (if (n : Int) < 0 then _ else _) _ _ _
        rw [if_neg (by omega)]
        show wpAny _ _ (if (n : Int) ≥ 2 ^ 63 then _ else _) _ _ _
        rw [if_neg (by omega)]
        exact wpAny_bind (wpAny_mkInt (wpAny_pure ⟨_, rfl, ⟨.int n, H', I3.tok _, ⟨_, rfl⟩, q3⟩⟩))
      | next => exact False.elim hq
      | brk => exact False.elim hq
      | cont => exact False.elim hq
end
end L2

/-! Operators of an own class: ==, !=, [], in, + from the right; in, over a tuple of data. -/
namespace PySem.W
open PySem PySem.Calls PyProof.Rows Builtin
section
variable {prog : Program} {w : World} {A : Around} {E : Value → Shared → Prop} {s : Shared} {K : Frag} {x C L f : Addr} {h₀ : Heap} {m : Str → Option Value} {ox : Obj} {od : Option Obj} {b tb : Value}
theorem ono_call {Q : Value → Shared → Prop} (hu : A.in1.units < cLine) (X : K.In s.heap) (I : InstAt s.heap x ox C od) (hm : mroIn K C (.type "object") = some true) (hs : findIn K (.ref C) "__eq__" = some (some (.ref f))) (hf : isFn K (.ref f) = true)
    (h : wpAny (model prog w) A.in1 (call (.ref f) [.ref x, b]) (fun v s' => ∃ r, v = .bool r ∧ Q (.bool (!r)) s') E s) : wpAny (model prog w) A (call (.builtin "object.__ne__") [.ref x, b]) Q E s := by
  refine wpAny_call (codeAny_call_builtin F.cmp_object.ne.plain F.cmpEntry_ne (check_slot (i := "object.__ne__") (owner := "object") (n := "__ne__") (by decide +kernel) (by decide +kernel) (I.type.andThen (looks_mroIn X hm)) (F.cmpArgs_ne _ _) ?_))
  unfold Builtin.«object.__ne__»
  refine wpAny_bind (m := slotArgs "__ne__" 1 _) (wpAny_pure ?_)
  refine wpAny_bind (m := cRoomFor _ _) (wpAny_cRoomFor hu ?_)
  refine wpAny_bind (m := callSpecialIfBound? (.ref x) (Str.ofString "__eq__") _) (ifBound_K X I hs hf (wpAny_mono h (fun r s' hq => ?_) fun _ _ y => y))
  obtain ⟨r, rfl, hq⟩ := hq
  exact wpAny_bind (wpAny_truthy_bool (wpAny_pure hq))
theorem ifBound_B {M : Model} {name : Str} {id : String} {args : List Value} {Q : Option Value → Shared → Prop} (X : K.In s.heap) (I : InstAt s.heap x ox C od) (hs : findIn K (.ref C) name = some (some (.builtin id))) (hb : ∀ self, bindSpecial (.builtin id) self = pure (.builtin id, [self]))
    (h : wpAny M A (call (.builtin id) (.ref x :: args)) (fun v => Q (some v)) E s) : wpAny M A (callSpecialIfBound? (.ref x) name args) Q E s := by
  simp only [callSpecialIfBound?, bindSpecialIfBound?]
  refine wpAny_holding (wpAny_bind (wpAny_bind (wpAny_bind (I.type.here ((looks_findIn X hs).here ?_)))))
  refine wpAny_bind (wpAny_askSetting (wpAny_ite ?_))
  have fin : wpAny M A (call (.builtin id) ([.ref x] ++ args) >>= fun v => pure (some v)) Q E s := wpAny_bind (wpAny_mono h (fun v s' h' => wpAny_pure h') fun _ _ h' => h')
  split
  · exact wpAny_bind ((Looks.of_pure (hb _)).here (wpAny_pure (by exact fin)))
  · exact wpAny_tryCatch (wpAny_bind ((Looks.of_pure (hb _)).here (wpAny_pure (by exact fin))))
theorem ne_K {Q : Value → Shared → Prop} (hu : A.in1.units < cLine) (hu0 : A.units < cLine) (F₀ : Fr h₀ L s.heap m) (X₀ : K.In h₀) (I : InstAt s.heap x ox C od) (hb : Looks (model prog w) s.heap (typeOf b) tb) (hn : notFirst K C tb = true)
    (hne : findIn K (.ref C) "__ne__" = some (some (.builtin "object.__ne__"))) (hm : mroIn K C (.type "object") = some true) (hs : findIn K (.ref C) "__eq__" = some (some (.ref f))) (hf : isFn K (.ref f) = true)
    (h : wpAny (model prog w) A.in1 (call (.ref f) [.ref x, b]) (fun v s' => ∃ r, v = .bool r ∧ Q (.bool (!r)) s') E s) : wpAny (model prog w) A (richCompare .NotEq (.ref x) b) Q E s := by
  have X := X₀.keeps F₀.keep
  have one : wpAny (model prog w) A (tryCompare (.ref x) "__ne__" b) (fun r s' => ∃ v, r = some v ∧ Q v s') E s := by
    unfold tryCompare
    refine wpAny_bind (ifBound_B X I hne F.cmp_object.ne.bind (ono_call hu X I hm hs hf (wpAny_mono h (fun v s' hv => ?_) fun _ _ e => e)))
    obtain ⟨r, rfl, hq⟩ := hv
    exact ⟨r, rfl, wpAny_pure ⟨_, rfl, hq⟩⟩
  unfold richCompare
  simp only [oneThing_ref]
  refine wpAny_holding (wpAny_bind (wpAny_cRoomFor hu0 ?_))
  refine wpAny_bind (I.type.here (wpAny_bind (hb.here ?_)))
  split
  · rename_i q
    have e : subIn K tb (.ref C) = some false := by
      rcases Bool.or_eq_true_iff.mp hn with e | e
      · rw [beq_iff_eq.mp e] at q; simp at q
      · exact beq_iff_eq.mp e
    refine wpAny_bind ((looks_subIn X e).here ?_)
    simp only [Bool.false_eq_true, if_false]
    refine wpAny_bind (wpAny_mono one (fun r s' z => ?_) fun _ _ e => e)
    obtain ⟨v, rfl, hq⟩ := z
    exact wpAny_pure hq
  · refine wpAny_bind (wpAny_pure ?_)
    simp only [Bool.false_eq_true, if_false]
    refine wpAny_bind (wpAny_mono one (fun r s' z => ?_) fun _ _ e => e)
    obtain ⟨v, rfl, hq⟩ := z
    exact wpAny_pure hq
theorem fills_R {M : Model} {h : Heap} {nm : String} {cd : ClassData} {rest : List Value} (X : K.In h) (hc : clsIn K C = some cd) (hm : cd.mro = .ref C :: rest) (h0 : findIn K (.ref C) (PySem.dunder nm) = some none) (hs : findIn K (.ref C) (dunderR nm) = some (some (.ref f))) : Looks M h (fillsNumberSlot (.ref C) nm) true := by
  intro A Q E s k q
  unfold fillsNumberSlot
  refine wpAny_bind ((looks_clsIn X hc).andThen (f := fun cd => pure cd.mro) .now A _ E s k ?_)
  rw [hm, List.anyM_cons]
  refine wpAny_bind ?_
  show wpAny M A (List.anyM _ [PySem.dunder nm, dunderR nm]) _ _ _
  rw [List.anyM_cons]
  refine wpAny_bind (wpAny_bind (looks_findIn X h0 A _ E s k ?_))
  dsimp only
  refine wpAny_pure ?_
  rw [if_neg (by decide)]
  rw [List.anyM_cons]
  refine wpAny_bind (wpAny_bind (looks_findIn X hs A _ E s k ?_))
  dsimp only
  rw [if_pos (show (!ownNameWrapper (.ref f) (dunderR nm)) = true from rfl)]
  refine wpAny_pure ?_
  rw [if_pos rfl]
  refine wpAny_pure ?_
  rw [if_pos rfl]
  exact wpAny_pure q
theorem radd_K {a : Value} {fo : Option Value} {Q : Value → Shared → Prop} (F₀ : Fr h₀ L s.heap m) (X₀ : K.In h₀) (I : InstAt s.heap x ox C od) (ha : Looks (model prog w) s.heap (typeOf a) (.type "tuple")) (hc : selfFirst K C = true)
    (h0 : findIn K (.ref C) "__add__" = some none) (hs : findIn K (.ref C) "__radd__" = some (some (.ref f))) (hf : isFn K (.ref f) = true)
    (h1 : findIn K (.type "tuple") "__add__" = some fo) (hsq : isSeqSlot fo = true) (h2 : findIn K (.type "tuple") "__radd__" = some none)
    (h : wpAny (model prog w) A (call (.ref f) [.ref x, a]) (CmpBack Q) E s) : wpAny (model prog w) A (binaryOp .Add a (.ref x)) Q E s := by
  have X := X₀.keeps F₀.keep
  obtain ⟨cd, rest, hcd, hm⟩ := ksp_first hc
  have one := ksp_try X I hs hf h
  obtain ⟨hh, g, d, tt, os⟩ := s
  have L1 : Looks (model prog w) hh (typeOf (.ref x)) (.ref C) := I.type
  have L2 : Looks (model prog w) hh (typeOf a) (.type "tuple") := ha
  have L3 : Looks (model prog w) hh (fillsNumberSlot (.ref C) "add") true := fills_R (nm := "add") X hcd hm h0 hs
  have L4 : Looks (model prog w) hh (fillsNumberSlot (.type "tuple") "add") false := by
    have := ksp_fillsT (M := model prog w) (nm := "add") X h1 h2
    rw [hsq] at this
    simpa [isSeqSlot] using this
  have hne : (Value.type "tuple" == Value.ref C) = false := Bool.eq_false_iff.mpr fun q => by cases beq_iff_eq.mp q
  simp only [binaryOp, Operator.info]
  refine wpAny_holding (wpAny_bind ?_)
  unfold binaryOp1
  refine wpAny_bind (L2.at (wpAny_bind (L1.at (wpAny_bind (L4.at ?_)))))
  simp only [hne, Bool.false_eq_true, if_false]
  ksp_lk
  refine wpAny_mono one (fun r s' hr' => ?_) fun _ _ e => e
  obtain ⟨v, rfl, hq⟩ := hr'
  ksp_lk
  exact hq
end
end PySem.W
namespace L2
open PySem PySem.Spec PyProof.Rows SlX
section
variable {X : Cx} {CX : CXT} {k : Nat} {C g : Addr} {sp : Sp} {E : XK} {pins : List (Addr × Obj)} {σ : St} {H : Hp} {s : Shared}
theorem looks_ty {y : V} {u t : Value} (I : Inv X pins σ H s) (ry : RelV y u) (ty : TyX X.K H y t) : PySem.W.Looks (model X.prog X.w) s.heap (typeOf u) t := by
  obtain ⟨P, Z, hP, _⟩ := kit_of I ry ty
  exact Z.ty _ _ I.kIn hP
/-- what the own class has for its operators -/
structure OpsC (K : PySem.W.Frag) (C : Addr) : Prop where
  ne : PySem.W.findIn K (.ref C) "__ne__" = some (some (.builtin "object.__ne__"))
  mo : PySem.W.mroIn K C (.type "object") = some true
/-- x == y -/
def rEqOwn (K : PySem.W.Frag) (C : Addr) (sp : Sp) (E : XK) : R2 := fun x y H Q => ∃ a dx fs t, x = .ref a ∧ H a = some (.ins C dx fs) ∧ TyX K H y t ∧ PySem.W.notFirst K C t = true ∧ sp [x, y] H Q E
theorem op_eqOwn (hs : PySem.W.findIn X.K (.ref C) "__eq__" = some (some (.ref g))) (hf : PySem.W.isFn X.K (.ref g) = true) (F : FnR X.prog X.w X.K X.mg X.base CX k g sp) (hr : Room k X.A) (hx : Passes CX X E) : OpR X (compareOp .Eq) (rEqOwn X.K C sp E) := by
  intro pins s σ H x y v u Q I rx ry h
  obtain ⟨a, dx, fs, t, rfl, ha, ty, hn, q⟩ := h
  cases (show v = Value.ref a from rx)
  obtain ⟨mA, O, _⟩ := ins_get I.hok ha
  obtain ⟨od, J, _⟩ := O.look
  obtain ⟨m, hF⟩ := I.fr
  show wpAny _ _ (richCompare .Eq _ _) _ _ _
  refine PySem.W.cmp_K (op := .Eq) hr.units0 hF I.ok.mod.kin J (looks_ty I ry ty) hn hs hf ?_
  refine wpAny_mono (wpAny_call (run_fnR (us := [.ref a, u]) (vs := [.ref a, y]) F hr hx I (.cons rfl (.cons ry .nil)) q)) (fun w s' z => ?_) fun _ _ x => x
  obtain ⟨z', H', I', rz, qz⟩ := z
  exact cmpback rz ⟨z', H', I', rz, qz⟩
/-- x != y -/
def rNeOwn (K : PySem.W.Frag) (C : Addr) (sp : Sp) (E : XK) : R2 := fun x y H Q => ∃ a dx fs t, x = .ref a ∧ H a = some (.ins C dx fs) ∧ TyX K H y t ∧ PySem.W.notFirst K C t = true ∧ sp [x, y] H (fun v H' => ∃ r, v = .bl r ∧ Q (.bl (!r)) H') E
theorem op_neOwn (oc : OpsC X.K C) (hs : PySem.W.findIn X.K (.ref C) "__eq__" = some (some (.ref g))) (hf : PySem.W.isFn X.K (.ref g) = true) (F : FnR X.prog X.w X.K X.mg X.base CX k g sp) (hr : Room (k + 1) X.A) (hx : Passes CX X E) : OpR X (compareOp .NotEq) (rNeOwn X.K C sp E) := by
  intro pins s σ H x y v u Q I rx ry h
  obtain ⟨a, dx, fs, t, rfl, ha, ty, hn, q⟩ := h
  cases (show v = Value.ref a from rx)
  obtain ⟨mA, O, _⟩ := ins_get I.hok ha
  obtain ⟨od, J, _⟩ := O.look
  obtain ⟨m, hF⟩ := I.fr
  show wpAny _ _ (richCompare .NotEq _ _) _ _ _
  refine PySem.W.ne_K hr.in1.units0 hr.units0 hF I.ok.mod.kin J (looks_ty I ry ty) hn oc.ne oc.mo hs hf ?_
  refine wpAny_mono (wpAny_call (run_at (us := [.ref a, u]) (ws := [.ref a, y]) F hr.in1 I.env0.in1 hx I (.cons rfl (.cons ry .nil)) q)) (fun w s' z => ?_) fun _ _ x => x
  obtain ⟨z', H', I', rz, r, ez, qz⟩ := z
  subst ez
  cases (show w = Value.bool r from rz)
  exact ⟨r, rfl, .bl (!r), H', I', rfl, qz⟩
/-- x in y, y of an own class -/
def rInOwn (C : Addr) (sp : Sp) (E : XK) : R2 := fun x y H Q => ∃ a dx fs, y = .ref a ∧ H a = some (.ins C dx fs) ∧ sp [y, x] H (fun v H' => ∃ r, v = .bl r ∧ Q (.bl r) H') E
theorem op_inOwn (hs : PySem.W.findIn X.K (.ref C) "__contains__" = some (some (.ref g))) (hf : PySem.W.isFn X.K (.ref g) = true) (F : FnR X.prog X.w X.K X.mg X.base CX k g sp) (hr : Room k X.A) (hx : Passes CX X E) : OpR X (compareOp .In) (rInOwn C sp E) := by
  intro pins s σ H x y v u Q I rx ry h
  obtain ⟨a, dx, fs, rfl, ha, q⟩ := h
  cases (show u = Value.ref a from ry)
  obtain ⟨mA, O, _⟩ := ins_get I.hok ha
  obtain ⟨od, J, _⟩ := O.look
  obtain ⟨m, hF⟩ := I.fr
  refine PySem.W.in_K hF I.ok.mod.kin J hs hf ?_
  refine wpAny_mono (wpAny_call (run_fnR (us := [.ref a, v]) (vs := [.ref a, x]) F hr hx I (.cons rfl (.cons rx .nil)) q)) (fun w s' z => ?_) fun _ _ x => x
  obtain ⟨z', H', I', rz, r, ez, qz⟩ := z
  subst ez
  cases (show w = Value.bool r from rz)
  exact wpAny_truthy_bool ⟨.bl r, H', I', rfl, qz⟩
/-- x[i], x of an own class -/
def rIxOwn (C : Addr) (sp : Sp) (E : XK) : R2 := fun x y H Q => ∃ a dx fs, x = .ref a ∧ H a = some (.ins C dx fs) ∧ sp [x, y] H Q E
theorem pe_ixOwn {a b : Expr} {ta tb : TE} {pos : Pos} (hs : PySem.W.findIn X.K (.ref C) "__getitem__" = some (some (.ref g))) (hk : PySem.W.fnIn X.K g = true) (hf : PySem.W.isFn X.K (.ref g) = true) (F : FnR X.prog X.w X.K X.mg X.base CX k g sp) (hr : Room (k + 1) X.A) (hx : Passes CX X E)
    (ha : PE X a ta) (hb : PE X b tb) (hsl : ∀ v u, subscripted b true v u = runValue (.builtin "lifetime.subscript" ⟨[v, u], []⟩)) : PE X (.Subscript a b pos) (tOp (rIxOwn C sp E) ta tb) := by
  refine ⟨fun pins s σ H Q I h => ?_⟩
  refine Subscript_ (binT ha hb I h fun v u s2 x y H2 I2 rx ry q => ?_)
  obtain ⟨a1, dx, fs, rfl, ha1, q⟩ := q
  cases (show v = Value.ref a1 from rx)
  obtain ⟨mA, O, _⟩ := ins_get I2.hok ha1
  obtain ⟨od, J, _⟩ := O.look
  obtain ⟨m, hF⟩ := I2.fr
  exact PySem.W.sub_K hF I2.ok.mod.kin J hs hk hf (wpAny_call (run_at (us := [.ref a1, u]) (ws := [.ref a1, y]) F hr.in1 I2.env0.in1 hx I2 (.cons rfl (.cons ry .nil)) q)) (hsl _ _)
/-- t + x, t a tuple, x of an own class -/
def rAddOwn (K : PySem.W.Frag) (C : Addr) (sp : Sp) (E : XK) : R2 := fun x y H Q => ∃ a dx fs, y = .ref a ∧ H a = some (.ins C dx fs) ∧ TyX K H x (.type "tuple") ∧ sp [y, x] H Q E
structure RaddC (K : PySem.W.Frag) (C g : Addr) : Prop where
  sf : PySem.W.selfFirst K C = true
  a0 : PySem.W.findIn K (.ref C) "__add__" = some none
  ra : PySem.W.findIn K (.ref C) "__radd__" = some (some (.ref g))
  fn : PySem.W.isFn K (.ref g) = true
  t1 : PySem.W.findIn K (.type "tuple") "__add__" = some (some (.builtin "tuple.__add__"))
  t2 : PySem.W.findIn K (.type "tuple") "__radd__" = some none
theorem op_addOwn (rc : RaddC X.K C g) (F : FnR X.prog X.w X.K X.mg X.base CX k g sp) (hr : Room k X.A) (hx : Passes CX X E) : OpR X (binaryOp .Add) (rAddOwn X.K C sp E) := by
  intro pins s σ H x y v u Q I rx ry h
  obtain ⟨a, dx, fs, rfl, ha, ty, q⟩ := h
  cases (show u = Value.ref a from ry)
  obtain ⟨mA, O, _⟩ := ins_get I.hok ha
  obtain ⟨od, J, _⟩ := O.look
  obtain ⟨m, hF⟩ := I.fr
  refine PySem.W.radd_K hF I.ok.mod.kin J (looks_ty I rx ty) rc.sf rc.a0 rc.ra rc.fn rc.t1 (by decide +kernel) rc.t2 ?_
  refine wpAny_mono (wpAny_call (run_fnR (us := [.ref a, v]) (vs := [.ref a, x]) F hr hx I (.cons rfl (.cons rx .nil)) q)) (fun w s' z => ?_) fun _ _ x => x
  obtain ⟨z', H', I', rz, qz⟩ := z
  exact cmpback rz ⟨z', H', I', rz, qz⟩
/-- x in t, t a tuple of data -/
def rInDT (K : PySem.W.Frag) : R2 := fun x y H Q => ∃ d p xs es, y = .ref p ∧ Dp K H x d ∧ SqT K H p xs ∧ DpAll K H xs es ∧ SeqAt.shaped d = true ∧ (∀ e ∈ es, SeqAt.shaped e = true) ∧ Q (.bl (es.any fun e => PyData.eqv e d)) H
theorem room_data {A : Around} {d e : PyData} (h : SeqAt.shaped d = true) (hu : A.units + 65 < cLine) : A.in1.units + min d.depth e.depth < cLine := by
  have h1 := SeqAt.depth_of_shaped h
  have h2 : min d.depth e.depth ≤ d.depth := Nat.min_le_left _ _
  have h3 : A.in1.units ≤ A.units + 1 := by
    show A.units + 1 ≤ A.units + 1
    exact Nat.le_refl _
  omega
end
section
variable {X : Cx} {pins : List (Addr × Obj)} {σ : St} {H : Hp} {s : Shared}
theorem dp_at : ∀ {xs : List V} {us : List Value} {es : List PyData}, Vals xs us → DpAll X.K H xs es → us.length = es.length ∧ ∀ (j : Nat) (u : Value) (e : PyData), us[j]? = some u → es[j]? = some e → ∃ x, RelV x u ∧ Dp X.K H x e
  | _, _, _, .nil, .nil => ⟨rfl, fun j u e h => by simp at h⟩
  | _, _, _, .cons r t, .cons d t' => by
    obtain ⟨hl, hj⟩ := dp_at t t'
    refine ⟨by simp [hl], fun j u e h1 h2 => ?_⟩
    cases j with
    | zero =>
      simp at h1 h2
      subst h1 h2
      exact ⟨_, r, d⟩
    | succ j =>
      simp at h1 h2
      exact hj j u e h1 h2
open Classical in
theorem op_inDT (hu : X.A.units + 65 < cLine) : OpR X (compareOp .In) (rInDT X.K) := by
  intro pins s σ H x y v u Q I rx ry h
  obtain ⟨d, p, xs, es, rfl, hd, hq, hes, sd, ses, q⟩ := h
  cases ry
  obtain ⟨its, r, pl, hz⟩ := I.tuple hq
  obtain ⟨as, rd⟩ := Dp.reads I d x v hd rx
  obtain ⟨hl, hj⟩ := dp_at (H := H) (X := X) r hes
  have one : ∀ (j : Nat) (w : Value) (e : PyData), its[j]? = some w → es[j]? = some e → SeqAt.EqAt X.A.in1 s w v (PyData.eqv e d) := fun j w e h1 h2 => by
    obtain ⟨z, rz, dz⟩ := hj j w e h1 h2
    obtain ⟨bs, re⟩ := Dp.reads I e z w dz rz
    have se := ses e (List.mem_of_getElem? h2)
    exact SeqAt.eqAt_reads e d X.A.in1 s w v bs as re rd (SeqAt.canLay_of_shaped se) (SeqAt.canLay_of_shaped sd) (room_data se hu)
  refine SeqAt.in_tupleAt (fun w => decide (∃ (j : Nat) (e : PyData), its[j]? = some w ∧ es[j]? = some e ∧ PyData.eqv e d = true)) pl (fun w hw => ?_) ⟨.bl _, H, I, rfl, ?_⟩
  · obtain ⟨j, hj1, hjw⟩ := List.getElem_of_mem (by simpa using hw : w ∈ its)
    have h1 : its[j]? = some w := by rw [List.getElem?_eq_getElem hj1, hjw]
    obtain ⟨e, h2⟩ : ∃ e, es[j]? = some e := ⟨_, List.getElem?_eq_getElem (hl ▸ hj1)⟩
    by_cases hx : ∃ (j : Nat) (e : PyData), its[j]? = some w ∧ es[j]? = some e ∧ PyData.eqv e d = true
    · rw [decide_eq_true hx]
      obtain ⟨j', e', a1, a2, a3⟩ := hx
      rw [← a3]
      exact one j' w e' a1 a2
    · rw [decide_eq_false hx]
      have : PyData.eqv e d = false := by
        cases hz : PyData.eqv e d with
        | false => rfl
        | true => exact absurd ⟨j, e, h1, h2, hz⟩ hx
      rw [← this]
      exact one j w e h1 h2
  · have : (its.toArray.any fun w => decide (∃ (j : Nat) (e : PyData), its[j]? = some w ∧ es[j]? = some e ∧ PyData.eqv e d = true)) = es.any fun e => PyData.eqv e d := by
      rw [Bool.eq_iff_iff]
      simp only [List.any_toArray, List.any_eq_true, decide_eq_true_eq]
      constructor
      · rintro ⟨w, _, j, e, _, h2, h3⟩
        exact ⟨e, List.mem_of_getElem? h2, h3⟩
      · rintro ⟨e, he, h3⟩
        obtain ⟨j, hj1, hje⟩ := List.getElem_of_mem he
        have h2 : es[j]? = some e := by rw [List.getElem?_eq_getElem hj1, hje]
        have hj2 : j < its.length := hl ▸ hj1
        exact ⟨its[j], List.getElem_mem hj2, j, e, List.getElem?_eq_getElem hj2, h2, h3⟩
    rw [this]
    exact q
end
end L2

/-! k07: a style as an object: its own methods. -/
namespace Dt
open PySem L2 Evl Dg LamR LamX StX ClX
open Dr (StAt SameB)
abbrev sPlace : Stmt := top 34
abbrev sGetI : Stmt := inClass clStyle 9
abbrev sContI : Stmt := inClass clStyle 11
abbrev sEqI : Stmt := inClass clStyle 12
abbrev sRaddI : Stmt := inClass clStyle 13
abbrev sWoI : Stmt := inClass clStyle 14
/-- an integer from 0 to below n -/
def plB (n : Nat) : PyData → Bool
  | .int i => decide (0 ≤ i) && decide (i < (n : Int))
  | _ => false
theorem pl_inv {n : Nat} {d : PyData} (h : plB n d = true) : ∃ j : Nat, d = .int (j : Int) ∧ j < n := by
  cases d with
  | int i =>
    unfold plB at h
    rw [Bool.and_eq_true] at h
    have h1 := of_decide_eq_true h.1
    have h2 := of_decide_eq_true h.2
    exact ⟨i.toNat, by rw [show ((i.toNat : Nat) : Int) = i by omega], by omega⟩
  | _ => cases h
theorem pl_of {n j : Nat} (h : j < n) : plB n (.int (j : Int)) = true := by
  unfold plB
  rw [Bool.and_eq_true]
  exact ⟨decide_eq_true (by omega), decide_eq_true (by omega)⟩
theorem ev_chL {σ : St} {H : Hp} {ta tb tc : TE} {a b c : Int} (ha : Ev ta σ H (.int a)) (hb : Ev tb σ H (.int b)) (hc : Ev tc σ H (.int c)) :
    Ev (tChain (rI0 fun i j => .bl (decide (i ≤ j))) (rI0 fun i j => .bl (decide (i < j))) ta tb tc) σ H (.bl (decide (a ≤ b) && decide (b < c))) := fun H1 e Q q =>
  ha H1 e _ fun H2 e2 => hb H2 (e.trans e2) _ fun H3 e3 => ⟨a, b, rfl, rfl, _, rfl, by
    by_cases h : a ≤ b
    · rw [if_pos (decide_eq_true h)]
      exact hc H3 ((e.trans e2).trans e3) _ fun H4 e4 => ⟨b, c, rfl, rfl, by
        have z := q H4 ((e2.trans e3).trans e4)
        rw [decide_eq_true h, Bool.true_and] at z
        exact z⟩
    · rw [if_neg (by simpa using h)]
      have z := q H3 (e2.trans e3)
      rw [decide_eq_false h, Bool.false_and] at z
      exact z⟩
structure TxN (K : PySem.W.Frag) (mg : Str → Option Value) (fi frl fpc C : Addr) (ca : Nat → Addr) : Prop where
  isInt : mg "is_integer" = some (.ref fi)
  kInt : PySem.W.keepIn K (.ref fi) = true
  rule : mg "is_rule" = some (.ref frl)
  kRl : PySem.W.keepIn K (.ref frl) = true
  place : mg "need_place" = some (.ref fpc)
  kPc : PySem.W.keepIn K (.ref fpc) = true
  badNum : mg "BadNumber" = some (.ref (ca 2))
  badRule : mg "BadRule" = some (.ref (ca 5))
  style : mg "Style" = some (.ref C)
  len : mg "len" = none
  isi : mg "isinstance" = none
  tuple : mg "tuple" = none
  list : mg "list" = none
  sup : mg "super" = none
  cl : Cls K C
  nB : NoAttr K C "stored_base"
  nR : NoAttr K C "stored_rules"
section
variable {P : Program} {w : World} {K : PySem.W.Frag} {mg : Str → Option Value} {base : Heap} {ca : Nat → Addr} {fi frl fpc C : Addr}
def spPlace (ca : Nat → Addr) : Sp := fun vs H Q E => ∃ (v : V) (n : Nat) (d : PyData), vs = [v, .int (n : Int)] ∧ Pt H v d ∧ (plB n d = true → RetV .non H Q) ∧ (plB n d = false → Leaves (ca 2) "value" v H E)
theorem scPlace : FnScope ["number", "many"] ["number", "many"] (defScope sPlace) := ⟨rfl, rfl, rfl, by decide +kernel, rfl, by decide +kernel, by decide +kernel⟩
theorem ok_place {f : Addr} {fd fdi : FuncData} (F : Fun K "need_place" "need_place" sPlace f fd) (GI : FnOk P w K mg base CX0 1 fi fdi ["value"] (spIsInt K)) (bI : Binds K fdi ["value"] []) (M : Mks P K mg (ca 2) ["value"]) (T : TxN K mg fi frl fpc C ca) :
    FnOk P w K mg base (L2.CX P w) 2 f fd ["number", "many"] (spPlace ca) := by
  refine F.okX scPlace (fun vs H Q E h => ?_) (fun cdv A outer s H vs Q E hr h => ?_)
  · obtain ⟨v, n, d, rfl, _⟩ := h
    rfl
  · obtain ⟨v, n, d, rfl, k, q, l⟩ := h
    refine ⟨_, pss_one (ps_if (PW.pt (pw_or (pt_not (pt_val (pe_call GI hr (by rfl) T.isInt T.kInt bI .nil pass0 (pa_cons (pv 0) pa_nil)))) (pw_or1 (pt_not (pt_chain op_le op_lt pe_int (pv 0) (pv 1))))))
      (pss_one (ps_raise rfl (takes_of rfl rfl rfl rfl) (pmk_mks M T.sup hr (by simp) (pa_cons (pv 0) pa_nil) (by rfl) T.badNum))) pss_nil), ?_⟩
    have kn : Kn K H v (isI d) := k.kn
    cases hd : isI d with
    | true =>
      cases k with
      | int i =>
        refine s_when (b := !plB n (.int i)) (et_is (et_or (et_not (et_B (ev_callI (ev_var rfl) (.int i)))) fun _ => et_not (et_test (ev_chL ev_c (ev_var rfl) (ev_var rfl)))) (by
          show (!true || !(decide (0 ≤ i) && decide (i < (n : Int)))) = _
          simp [plB])) (fun z H1 e => ?_) (fun z H1 e => q (by simpa using z) H1 e)
        exact ⟨_, rfl, rfl, fun d' hd' => (l (by simpa using z)).go e H1 d' (Ex.refl _) hd'⟩
      | _ => cases hd
    | false =>
      rw [hd] at kn
      have hp : plB n d = false := by
        cases d <;> first | rfl | cases hd
      refine s_when (b := true) (et_is (et_or (b := true) (et_not (et_B (ev_callI (ev_var rfl) kn))) fun z => nomatch z) (by simp)) (fun z H1 e => ?_) (fun z => nomatch z)
      exact ⟨_, rfl, rfl, fun d' hd' => (l hp).go e H1 d' (Ex.refl _) hd'⟩
/-- style[number] -/
def spGetI (C : Addr) (ca : Nat → Addr) : Sp := fun vs H Q E => ∃ (x dx t : Addr) (v b : V) (rs : List V) (d : PyData), vs = [.ref x, v] ∧ H x = some (.ins C dx [("stored_base", b), ("stored_rules", .ref t)]) ∧ H t = some (.tup rs) ∧ Pt H v d ∧
  (∀ (j : Nat) (u : V), d = .int (j : Int) → rs[j]? = some u → RetV u H Q) ∧ (plB rs.length d = false → Leaves (ca 2) "value" v H E)
theorem scGetI : FnScope ["self", "number"] ["self", "number"] (defScope sGetI) := ⟨rfl, rfl, rfl, by decide +kernel, rfl, by decide +kernel, by decide +kernel⟩
theorem ok_getI {f : Addr} {fd fdp : FuncData} (F : Fun K "__getitem__" "Style.__getitem__" sGetI f fd) (GP : FnOk P w K mg base (L2.CX P w) 2 fpc fdp ["number", "many"] (spPlace ca)) (bP : Binds K fdp ["number", "many"] []) (T : TxN K mg fi frl fpc C ca) :
    FnOk P w K mg base (L2.CX P w) 3 f fd ["self", "number"] (spGetI C ca) := by
  refine F.okX scGetI (fun vs H Q E h => ?_) (fun cdv A outer s H vs Q E hr h => ?_)
  · obtain ⟨x, dx, t, v, b, rs, d, rfl, _⟩ := h
    rfl
  · obtain ⟨x, dx, t, v, b, rs, d, rfl, hx, hrs, kv, q, l⟩ := h
    refine ⟨_, pss_cons (ps_expr (pe_callS GP hr (by rfl) T.place T.kPc bP (fun σ => passAt (takes_of rfl rfl rfl rfl) σ) (pa_cons (pv 1) (pa_cons (pe_callB call_len_seq (by rfl) T.len (by decide +kernel) (pa_cons (pe_fld (pv 0) rfl) pa_nil)) pa_nil))))
      (pss_one (ps_ret (pe_ix ix_tup (pe_fld (pv 0) rfl) (pv 1) (fun _ _ => rfl)))), ?_⟩
    refine ⟨_, rfl, _, rfl, x, C, dx, _, .ref t, rfl, hx, T.cl, T.nR, lk_rules _ _, t, rs, rfl, .inr (st_of hrs), v, rs.length, d, rfl, kv, fun hp H1 e1 => ?_, fun hp => l hp⟩
    obtain ⟨j, rfl, hj⟩ := pl_inv hp
    obtain ⟨u, hu⟩ : ∃ u, rs[j]? = some u := ⟨_, List.getElem?_eq_getElem hj⟩
    cases kv
    exact ⟨_, rfl, x, C, dx, _, .ref t, rfl, e1 _ _ hx, T.cl, T.nR, lk_rules _ _, _, rfl, t, rs, _, u, rfl, rfl, st_of (e1 _ _ hrs), atI_nat hu, q j u rfl hu H1 e1⟩
/-- a style as it stands -/
structure StyG (H : Hp) (C x : Addr) (β : Nat) (Ds : List PyData) : Prop where
  a : StyAt H C x β Ds
  b2 : 2 ≤ β
  b10 : β ≤ 10
  due : dueD β Ds = none
theorem StyG.ex {H H' : Hp} {x : Addr} {β : Nat} {Ds : List PyData} (h : StyG H C x β Ds) (e : Ex H H') : StyG H' C x β Ds := ⟨h.a.ex e, h.b2, h.b10, h.due⟩
theorem StyG.extN {H H' : Hp} {x : Addr} {β : Nat} {Ds : List PyData} (h : StyG H C x β Ds) (e : ExtN H H') : StyG H' C x β Ds := ⟨h.a.extN e, h.b2, h.b10, h.due⟩
theorem StyG.all {H : Hp} {x : Addr} {β : Nat} {Ds : List PyData} (h : StyG H C x β Ds) : Ds.all (ruleB β) = true := (due_none h.due).2.1
theorem StyG.len {H : Hp} {x : Addr} {β : Nat} {Ds : List PyData} (h : StyG H C x β Ds) : 1 ≤ Ds.length ∧ Ds.length ≤ 8 := (due_none h.due).1
theorem StyG.same {H H' : Hp} {p c l : Addr} {n : Nat} {a : Int} {x : Addr} {β : Nat} {Ds : List PyData} (S : StAt H p c l n a) (h : StyG H C x β Ds) (e : SameB H H' p l) : StyG H' C x β Ds := ⟨h.a.same S e (rules_noL h.all), h.b2, h.b10, h.due⟩
theorem rules_noK {β : Nat} {Ds : List PyData} (h : Ds.all (ruleB β) = true) : noK (.tuple Ds) = true := by
  rw [noK]
  exact noLs_K (rules_noL h)
theorem rules_shaped {β : Nat} {Ds : List PyData} (b10 : β ≤ 10) (h : Ds.all (ruleB β) = true) (hl : Ds.length ≤ 20) : SeqAt.shaped (.tuple Ds) = true := (ts_rules b10 h hl).shaped (by decide)
theorem rule_noK {β : Nat} {d : PyData} (h : ruleB β d = true) : noK d = true := noL_K (rule_noL h)
/-- value in style -/
def spContI (C : Addr) : Sp := fun vs H Q _ => ∃ (x : Addr) (v : V) (β : Nat) (Ds : List PyData) (d : PyData), vs = [.ref x, v] ∧ StyG H C x β Ds ∧ Pt H v d ∧ RetV (.bl (ruleB β d && Ds.any fun e => PyData.eqv e d)) H Q
theorem scContI : FnScope ["self", "value"] ["self", "value"] (defScope sContI) := ⟨rfl, rfl, rfl, by decide +kernel, rfl, by decide +kernel, by decide +kernel⟩
theorem ok_contI {f : Addr} {fd fdr : FuncData} (F : Fun K "__contains__" "Style.__contains__" sContI f fd) (GR : FnOk P w K mg base (L2.CX P w) 5 frl fdr ["base", "value"] (spRule K ca)) (bR : Binds K fdr ["base", "value"] []) (T : TxN K mg fi frl fpc C ca) :
    FnOk P w K mg base (L2.CX P w) 6 f fd ["self", "value"] (spContI C) := by
  refine F.okX scContI (fun vs H Q E h => ?_) (fun cdv A outer s H vs Q E hr h => ?_)
  · obtain ⟨x, v, β, Ds, d, rfl, _⟩ := h
    rfl
  · obtain ⟨x, v, β, Ds, d, rfl, SG, kv, q⟩ := h
    obtain ⟨dx, t, hx, kt⟩ := SG.a
    obtain ⟨t', rs, e, hrs, ka⟩ := kt.tupI'
    cases e
    have hu65 : (A.deeper (PyProof.Rows.envOfC "Style.__contains__" (defScope sContI) s.heap.objs.size f cdv)).units + 65 < cLine := by have := hr.un; omega
    refine ⟨_, pss_one (ps_ret (pe_and (pe_callS GR hr (by rfl) T.rule T.kRl bR (fun σ => passAt (takes_of rfl rfl rfl rfl) σ) (pa_cons (pe_fld (pv 0) rfl) (pa_cons (pv 1) pa_nil))) (pe_one (pe_cmpR (op_inDT hu65) (pv 1) (pe_fld (pv 0) rfl) (by rfl))))), ?_⟩
    have eB : Ev (tFld K (tVar 0) "stored_base") [some (.ref x), some v] H (.int β) := fun H1 e Q q => ⟨_, rfl, x, C, dx, _, .int β, rfl, e _ _ hx, T.cl, T.nB, lk_base _ _, q H1 (Ex.refl H1)⟩
    have eR : Ev (tFld K (tVar 0) "stored_rules") [some (.ref x), some v] H (.ref t) := fun H1 e Q q => ⟨_, rfl, x, C, dx, _, .ref t, rfl, e _ _ hx, T.cl, T.nR, lk_rules _ _, q H1 (Ex.refl H1)⟩
    refine s_ret (ev_andV (ev_rule SG.b2 SG.b10 eB (ep_v (ev_var rfl) kv)) fun hd => ev_op (ev_var rfl) eR fun H1 e1 Q1 q1 => ?_) fun H1 e1 => q H1 e1
    exact ⟨d, t, rs, Ds, rfl, (kv.ex e1).dp (rule_noK hd), st_of (e1 _ _ hrs), (ka.ex e1).dp (noLs_K (rules_noL SG.all)), (ts_rule SG.b10 hd).shaped (by decide), fun e he => (ts_rule SG.b10 (List.all_eq_true.mp SG.all e he)).shaped (by decide), q1 _ (Ex.refl _)⟩
/-- what isinstance and == ask of the class -/
structure IsC (K : PySem.W.Frag) (C : Addr) : Prop where
  si : SlX.SIsi K C
  self : PySem.W.kitOne K (.ref C) (.ref C) = some true
  no : ∀ d : PyData, PySem.W.kitOne K (.type (tyN d)) (.ref C) = some false
  nf : ∀ d : PyData, PySem.W.notFirst K C (.type (tyN d)) = true
theorem IsC.ty {H : Hp} {a dx : Addr} {fs : List (Str × V)} (I : IsC K C) (cl : Cls K C) (h : H a = some (.ins C dx fs)) : TyX K H (.ref a) (.ref C) := .base (.ins h cl I.si.ca I.si.cn I.si.ct I.si.cm)
theorem StyG.ty {H : Hp} {x : Addr} {β : Nat} {Ds : List PyData} (h : StyG H C x β Ds) (I : IsC K C) (cl : Cls K C) : TyX K H (.ref x) (.ref C) := let ⟨_, _, hx, _⟩ := h.a; I.ty cl hx
/-- style == other -/
def spEqI (C : Addr) : Sp := fun vs H Q _ => ∃ (x : Addr) (y : V) (β : Nat) (Ds : List PyData), vs = [.ref x, y] ∧ StyG H C x β Ds ∧
  ((∃ (z : Addr) (γ : Nat) (Es : List PyData), y = .ref z ∧ StyG H C z γ Es ∧ RetV (.bl (decide (β = γ) && PyData.eqv (.tuple Ds) (.tuple Es))) H Q) ∨ (∃ d, Pt H y d ∧ RetV (.bl false) H Q))
theorem scEqI : FnScope ["self", "other"] ["self", "other"] (defScope sEqI) := ⟨rfl, rfl, rfl, by decide +kernel, rfl, by decide +kernel, by decide +kernel⟩
theorem ok_eqI {f : Addr} {fd : FuncData} (F : Fun K "__eq__" "Style.__eq__" sEqI f fd) (I : IsC K C) (T : TxN K mg fi frl fpc C ca) : FnOk P w K mg base CX0 2 f fd ["self", "other"] (spEqI C) := by
  refine F.ok scEqI (fun vs H Q E h => ?_) (fun cdv A outer s H vs Q E hr h => ?_)
  · obtain ⟨x, y, β, Ds, rfl, _⟩ := h
    rfl
  · obtain ⟨x, y, β, Ds, rfl, SG, h⟩ := h
    obtain ⟨dx, t, hx, kt⟩ := SG.a
    have hu64 : (A.deeper (PyProof.Rows.envOfC "Style.__eq__" (defScope sEqI) s.heap.objs.size f cdv)).units + 64 < cLine := by have := hr.units; omega
    refine ⟨_, pss_one (ps_ret (pe_and (pe_callB call_isi (by rfl) T.isi (by decide +kernel) (pa_cons (pv 1) (pa_cons (pe_glob (by rfl) T.style (v := .ref C) rfl) pa_nil)))
      (pe_and (pe_cmpR op_eq (pe_fld (pv 0) rfl) (pe_fld (pv 1) rfl) (nomark _)) (pe_one (pe_cmpR (op_eqD hu64) (pe_fld (pv 0) rfl) (pe_fld (pv 1) rfl) (nomark _)))))), ?_⟩
    have eB : Ev (tFld K (tVar 0) "stored_base") [some (.ref x), some y] H (.int β) := fun H1 e Q q => ⟨_, rfl, x, C, dx, _, .int β, rfl, e _ _ hx, T.cl, T.nB, lk_base _ _, q H1 (Ex.refl H1)⟩
    have eR : Ev (tFld K (tVar 0) "stored_rules") [some (.ref x), some y] H (.ref t) := fun H1 e Q q => ⟨_, rfl, x, C, dx, _, .ref t, rfl, e _ _ hx, T.cl, T.nR, lk_rules _ _, q H1 (Ex.refl H1)⟩
    rcases h with ⟨z, γ, Es, rfl, SZ, q⟩ | ⟨d, kd, q⟩
    · obtain ⟨dz, tz, hz, kz⟩ := SZ.a
      have eB2 : Ev (tFld K (tVar 1) "stored_base") [some (.ref x), some (.ref z)] H (.int γ) := fun H1 e Q q => ⟨_, rfl, z, C, dz, _, .int γ, rfl, e _ _ hz, T.cl, T.nB, lk_base _ _, q H1 (Ex.refl H1)⟩
      have eR2 : Ev (tFld K (tVar 1) "stored_rules") [some (.ref x), some (.ref z)] H (.ref tz) := fun H1 e Q q => ⟨_, rfl, z, C, dz, _, .ref tz, rfl, e _ _ hz, T.cl, T.nR, lk_rules _ _, q H1 (Ex.refl H1)⟩
      refine s_ret (ev_is (ev_andV (a := true) (ev_cb (ea_cons (ev_var rfl) (ea_cons ev_c ea_nil)) fun H1 e Q q => ⟨.ref z, .ref C, .ref C, .ref C, true, rfl, .own C, I.ty T.cl (e _ _ hz), I.self, q _ (Ex.refl _)⟩) fun _ => ev_andV (a := decide (V.int (β : Int) = V.int (γ : Int))) (b := PyData.eqv (.tuple Ds) (.tuple Es)) (ev_op eB eB2 (rv_eq rfl)) fun _ => ev_op eR eR2 fun H1 e1 Q1 q1 => ?_) ?_) fun H1 e1 => q H1 e1
      · exact ⟨.tuple Ds, .tuple Es, (kt.ex e1).dp (rules_noK SG.all), (kz.ex e1).dp (rules_noK SZ.all), rules_shaped SG.b10 SG.all (by have := SG.len; omega), rules_shaped SZ.b10 SZ.all (by have := SZ.len; omega), q1 _ (Ex.refl _)⟩
      · have : decide (V.int (β : Int) = V.int (γ : Int)) = decide (β = γ) := decide_eq_decide.mpr ⟨fun z => by injection z with z; omega, fun z => by rw [z]⟩
        rw [this]
        simp
    · exact s_ret (ev_andV (a := false) (b := false) (ev_cb (ea_cons (ev_var rfl) (ea_cons ev_c ea_nil)) fun H1 e Q q => ⟨y, .ref C, .type (tyN d), .ref C, false, rfl, .own C, (kd.ex e).ty, I.no d, q _ (Ex.refl _)⟩) fun z => nomatch z) fun H1 e1 => q H1 e1
/-- other + style -/
def spRaddI (C : Addr) (ca : Nat → Addr) : Sp := fun vs H Q E => ∃ (x : Addr) (v : V) (β : Nat) (Ds : List PyData) (d : PyData), vs = [.ref x, v] ∧ StyG H C x β Ds ∧ Pt H v d ∧ isT d = true ∧
  (ruleB β d = false → Leaves (ca 5) "place" (.int 0) H E) ∧ (ruleB β d = true → Due ca H E (dueD β (d :: Ds)) (∀ y H', Ex H H' → StyAt H' C y β (d :: Ds) → Q (.ref y) H'))
theorem scRaddI : FnScope ["self", "other"] ["self", "other"] (defScope sRaddI) := ⟨rfl, rfl, rfl, by decide +kernel, rfl, by decide +kernel, by decide +kernel⟩
theorem ok_raddI {f fin : Addr} {fd fdr : FuncData} (F : Fun K "__radd__" "Style.__radd__" sRaddI f fd) (GR : FnOk P w K mg base (L2.CX P w) 5 frl fdr ["base", "value"] (spRule K ca)) (bR : Binds K fdr ["base", "value"] []) (M : Mk K C fin) (GI : FnR P w K mg base (L2.CX P w) 7 fin (spInitR K C ca))
    (M5 : Mks P K mg (ca 5) ["place"]) (T : TxN K mg fi frl fpc C ca) : FnOk P w K mg base (L2.CX P w) 9 f fd ["self", "other"] (spRaddI C ca) := by
  refine F.okX scRaddI (fun vs H Q E h => ?_) (fun cdv A outer s H vs Q E hr h => ?_)
  · obtain ⟨x, v, β, Ds, d, rfl, _⟩ := h
    rfl
  · obtain ⟨x, v, β, Ds, d, rfl, SG, kv, hT, lb, hq⟩ := h
    obtain ⟨dx, t, hx, kt⟩ := SG.a
    obtain ⟨t', rs, e, hrs, ka⟩ := kt.tupI'
    cases e
    refine ⟨_, pss_cons (ps_if (pt_not (pt_val (pe_callB call_isi (by rfl) T.isi (by decide +kernel) (pa_cons (pv 1) (pa_cons (pe_bltn (by rfl) T.tuple (by decide +kernel) (v := .ty "tuple") rfl) pa_nil))))) (pss_one ps_never) pss_nil)
      (pss_cons (ps_if (pt_not (pt_val (pe_callS GR (hr.mono (by decide)) (by rfl) T.rule T.kRl bR (fun σ => passAt (takes_of rfl rfl rfl rfl) σ) (pa_cons (pe_fld (pv 0) rfl) (pa_cons (pv 1) pa_nil)))))
        (pss_one (ps_raise rfl (takes_of rfl rfl rfl rfl) (pmk_mks M5 T.sup hr (by simp) (pa_cons pe_int pa_nil) (by rfl) T.badRule))) pss_nil)
      (pss_one (ps_ret (pe_makeRS M GI hr (by rfl) T.style (fun pins σ H s e s' I c => passAt (takes_of rfl rfl rfl rfl) σ pins H s e s' I c) (pa_cons (pe_fld (pv 0) rfl) (pa_cons (pv 1) (pa_star (pe_fld (pv 0) rfl) pa_nil))))))), ?_⟩
    have eB : ∀ {H1 : Hp}, Ex H H1 → Ev (tFld K (tVar 0) "stored_base") [some (.ref x), some v] H1 (.int β) := fun e0 H1 e Q q => ⟨_, rfl, x, C, dx, _, .int β, rfl, e _ _ (e0 _ _ hx), T.cl, T.nB, lk_base _ _, q H1 (Ex.refl H1)⟩
    refine q_when (b := false) (et_is (et_not (et_B (ev_isiT (ev_var rfl) kv))) (by rw [hT]; rfl)) (fun z => nomatch z) (fun _ H1 e1 => ?_)
    refine q_when (b := !ruleB β d) (et_not (et_B (ev_rule SG.b2 SG.b10 (eB e1) (ep_v (ev_var rfl) (kv.ex e1))))) (fun z H2 e2 => ?_) (fun z H2 e2 => ?_)
    · exact ⟨rfl, fun d' hd' => (lb (by simpa using z)).go (e1.trans e2) H2 d' (Ex.refl _) hd'⟩
    · have hr1 : ruleB β d = true := by simpa using z
      have due := hq hr1
      have e12 := e1.trans e2
      have hx2 := e12 _ _ hx
      refine ⟨_, rfl, x, C, dx, _, .int β, rfl, hx2, T.cl, T.nB, lk_base _ _, _, rfl, _, rfl, x, C, dx, _, .ref t, rfl, hx2, T.cl, T.nR, lk_rules _ _, t, rs, rfl, .inl (st_of (e12 _ _ hrs)), fun y dy hy hdy hne => ?_⟩
      refine ⟨[.ref y, .int β], v :: (rs ++ []), rfl, rfl, ?_, fun p hp => ?_⟩
      · have := SG.len
        rw [List.append_nil, List.length_cons, ka.length, sizeLine_eq]
        omega
      have eA : Ex H2 (upd (upd H2 dy (.own y)) y (.ins C dy [])) := (Ex.new hdy).trans (Ex.new (by rw [upd_ne (Ne.symm hne)]; exact hy))
      have eB' := Ex.new (o := .tup (v :: (rs ++ []))) hp
      have eAB := eA.trans eB'
      have e3 := e12.trans eAB
      refine ⟨y, p, dy, .int β, v :: (rs ++ []), d :: Ds, true, rfl, eB' _ _ upd_same, upd_same, .cons (kv.ex e3) ((List.append_nil rs).symm ▸ ka.ex e3), bs_yes SG.b2 SG.b10, (fun z => nomatch z), fun _ => ⟨β, rfl, SG.b2, SG.b10, ⟨fun pl hpl => (due.bad pl hpl).go e3, fun hn t2 H' kx hx' k' => ?_⟩⟩⟩
      refine ⟨rfl, ?_⟩
      refine due.ok hn y H' (fun b o h => ?_) ⟨dy, t2, hx', k'⟩
      exact kx b o (eAB _ _ (e12 _ _ h)) (ne_of_none (e12 _ _ h) hy)
theorem PtAll.erase {H : Hp} : ∀ {vs : List V} {ds : List PyData}, PtAll H vs ds → ∀ n : Nat, PtAll H (vs.eraseIdx n) (ds.eraseIdx n)
  | _, [], h, n => by
    cases h
    exact .nil
  | _, d :: ds, h, n => by
    cases h with
    | cons h1 h2 =>
      cases n with
      | zero => exact h2
      | succ n => exact .cons h1 (PtAll.erase h2 n)
theorem PtAll.set {H : Hp} {u : V} {e : PyData} (k : Pt H u e) : ∀ {vs : List V} {ds : List PyData}, PtAll H vs ds → ∀ n : Nat, PtAll H (vs.set n u) (ds.set n e)
  | _, [], h, n => by
    cases h
    exact .nil
  | _, d :: ds, h, n => by
    cases h with
    | cons h1 h2 =>
      cases n with
      | zero => exact .cons k h2
      | succ n => exact .cons h1 (PtAll.set k h2 n)
/-- style.without(number) -/
def spWoI (C : Addr) (ca : Nat → Addr) : Sp := fun vs H Q E => ∃ (x : Addr) (v : V) (β : Nat) (Ds : List PyData) (d : PyData), vs = [.ref x, v] ∧ StyG H C x β Ds ∧ Pt H v d ∧
  (plB (Ds.length - 1) d = false → Leaves (ca 2) "value" v H E) ∧ (∀ j : Nat, d = .int (j : Int) → j < Ds.length - 1 → Due ca H E (dueD β (Ds.eraseIdx j)) (∀ y H', Ex H H' → StyAt H' C y β (Ds.eraseIdx j) → Q (.ref y) H'))
theorem scWoI : FnScope ["self", "number", "rules"] ["self", "number"] (defScope sWoI) := ⟨rfl, rfl, rfl, by decide +kernel, rfl, by decide +kernel, by decide +kernel⟩
/-- style.put(number, rule) -/
def spPutI (C : Addr) (ca : Nat → Addr) : Sp := fun vs H Q E => ∃ (x : Addr) (v u : V) (β : Nat) (Ds : List PyData) (d e : PyData), vs = [.ref x, v, u] ∧ StyG H C x β Ds ∧ Pt H v d ∧ Pt H u e ∧
  (plB Ds.length d = false → Leaves (ca 2) "value" v H E) ∧ (∀ j : Nat, d = .int (j : Int) → j < Ds.length → Due ca H E (dueD β (Ds.set j e)) (∀ y H', Ex H H' → StyAt H' C y β (Ds.set j e) → Q (.ref y) H'))
section
variable {mc : Value} {ofp ofg : Addr} {fdo fdp : FuncData}
theorem ok_woI {f : Addr} {fd : FuncData} (F : Fun K "without" "Style.without" sWoI f fd) (GP : FnOk P w K mg base (L2.CX P w) 2 fpc fdp ["number", "many"] (spPlace ca)) (bP : Binds K fdp ["number", "many"] []) (cR : CRead K C mc) (cM : CMet K C mc "of" ofp ofg)
    (GO : FnOk P w K mg base (L2.CX P w) 9 ofg fdo ["cls", "base", "rules"] (spOfS K C ca)) (bO : Binds K fdo ["cls", "base", "rules"] []) (T : TxN K mg fi frl fpc C ca) : FnOk P w K mg base (L2.CX P w) 10 f fd ["self", "number"] (spWoI C ca) := by
  refine F.okX scWoI (fun vs H Q E h => ?_) (fun cdv A outer s H vs Q E hr h => ?_)
  · obtain ⟨x, v, β, Ds, d, rfl, _⟩ := h
    rfl
  · obtain ⟨x, v, β, Ds, d, rfl, SG, kv, lb, hq⟩ := h
    obtain ⟨dx, t, hx, kt⟩ := SG.a
    obtain ⟨t', rs, e, hrs, ka⟩ := kt.tupI'
    cases e
    have hl := ka.length
    have hlen := SG.len
    refine ⟨_, pss_cons (ps_expr (pe_callS GP (hr.mono (by decide)) (by rfl) T.place T.kPc bP (fun σ => passAt (takes_of rfl rfl rfl rfl) σ) (pa_cons (pv 1) (pa_cons (pe_op op_sub (pe_callB call_len_seq (by rfl) T.len (by decide +kernel) (pa_cons (pe_fld (pv 0) rfl) pa_nil)) pe_int) pa_nil))))
      (pss_cons (ps_set (i := 2) scWoI.nd rfl (.inl rfl) (pe_callTy (T := "list") (r := fun xs H Q => ∃ p ys, xs = [V.ref p] ∧ (SqL K H p ys ∨ SqT K H p ys) ∧ ∀ l, H l = none → Q (V.ref l) (upd H l (.lst ys))) call_list_of (by rfl) T.list (by decide +kernel) (pa_cons (pe_fld (pv 0) rfl) pa_nil)))
      (pss_cons (ps_delL (pv 2) (pv 1))
      (pss_one (ps_ret (pe_cmeth (pe_glob (by rfl) T.style (v := .ref C) rfl) cR cM (GO.raw bO .nil) hr (fun pins σ H s e s' I c => passAt (takes_of rfl rfl rfl rfl) σ pins H s e s' I c) (pa_cons (pe_fld (pv 0) rfl) (pa_cons (pv 2) pa_nil))))))), ?_⟩
    refine ⟨_, rfl, _, rfl, x, C, dx, _, .ref t, rfl, hx, T.cl, T.nR, lk_rules _ _, t, rs, rfl, .inr (st_of hrs), _, _, rfl, rfl, v, Ds.length - 1, d, ?_, kv, fun hp H1 e1 => ?_, lb⟩
    · show [v, V.int ((rs.length : Int) - 1)] = _
      rw [show (rs.length : Int) - 1 = ((Ds.length - 1 : Nat) : Int) by omega]
    obtain ⟨j, rfl, hj⟩ := pl_inv hp
    cases kv
    have hx1 := e1 _ _ hx
    refine ⟨_, rfl, x, C, dx, _, .ref t, rfl, hx1, T.cl, T.nR, lk_rules _ _, t, rs, rfl, .inr (st_of (e1 _ _ hrs)), fun l nl => ?_⟩
    have hlx : ∀ {b : Addr} {o : HO}, H1 b = some o → b ≠ l := fun h => ne_of_none h nl
    refine ⟨_, rfl, _, rfl, l, rs, _, j, rfl, rfl, upd_same, by omega, by omega, ?_, ?_⟩
    · unfold seqIndex?
      rw [hl]
      simp
      omega
    have e3 : Ex H1 (upd (upd H1 l (.lst rs)) l (.lst (rs.eraseIdx j))) := (Ex.new nl).mut nl
    have e13 := e1.trans e3
    have due := hq j rfl hj
    refine ⟨rfl, _, rfl, x, C, dx, _, .int β, rfl, e3 _ _ hx1, T.cl, T.nB, lk_base _ _, _, rfl, .int β, .ref l, .list (Ds.eraseIdx j), true, rfl, bs_yes SG.b2 SG.b10, .lst upd_same ((ka.ex e13).erase j), ?_, (fun z => nomatch z), fun _ => ⟨β, rfl, SG.b2, SG.b10, ⟨fun pl hpl => (due.bad pl hpl).go e13, fun hn y H' e' sa => due.ok hn y H' (e13.trans e') sa⟩⟩⟩
    show (Ds.eraseIdx j).length ≤ 100000
    have := List.length_eraseIdx_le Ds j
    omega
end
end
end Dt

/-! Rules that are shown alike are the same; equal ones are the same. -/
namespace Dt
open PySem L2 Evl Dg LamR LamX TL
open Dr (StAt SameB)
mutual
/-- of None, whole numbers, texts and tuples alone -/
def pl0 : PyData → Bool
  | .none => true
  | .int _ => true
  | .str _ => true
  | .tuple ds => pl0s ds
  | _ => false
def pl0s : List PyData → Bool
  | [] => true
  | d :: ds => pl0 d && pl0s ds
end
mutual
theorem eqv_eq : ∀ {d e : PyData}, pl0 d = true → pl0 e = true → PyData.eqv d e = true → d = e
  | .none, .none, _, _, _ => rfl
  | .int i, .int j, _, _, h => by
    have : i = j := by simpa [PyData.eqv] using h
    rw [this]
  | .str x, .str y, _, _, h => by
    have : x = y := by simpa [PyData.eqv] using h
    rw [this]
  | .tuple ds, .tuple es, h1, h2, h => by
    rw [pl0] at h1 h2
    rw [PyData.eqv] at h
    rw [eqvs_eq h1 h2 h]
  | .none, .int _, _, _, h => by simp [PyData.eqv] at h
  | .none, .str _, _, _, h => by simp [PyData.eqv] at h
  | .none, .tuple _, _, _, h => by simp [PyData.eqv] at h
  | .int _, .none, _, _, h => by simp [PyData.eqv] at h
  | .int _, .str _, _, _, h => by simp [PyData.eqv] at h
  | .int _, .tuple _, _, _, h => by simp [PyData.eqv] at h
  | .str _, .none, _, _, h => by simp [PyData.eqv] at h
  | .str _, .int _, _, _, h => by simp [PyData.eqv] at h
  | .str _, .tuple _, _, _, h => by simp [PyData.eqv] at h
  | .tuple _, .none, _, _, h => by simp [PyData.eqv] at h
  | .tuple _, .int _, _, _, h => by simp [PyData.eqv] at h
  | .tuple _, .str _, _, _, h => by simp [PyData.eqv] at h
  | .bool _, _, h, _, _ => by simp [pl0] at h
  | .list _, _, h, _, _ => by simp [pl0] at h
  | .dict _, _, h, _, _ => by simp [pl0] at h
  | _, .bool _, _, h, _ => by simp [pl0] at h
  | _, .list _, _, h, _ => by simp [pl0] at h
  | _, .dict _, _, h, _ => by simp [pl0] at h
theorem eqvs_eq : ∀ {ds es : List PyData}, pl0s ds = true → pl0s es = true → PyData.eqvAll ds es = true → ds = es
  | [], [], _, _, _ => rfl
  | d :: ds, e :: es, h1, h2, h => by
    rw [pl0s, Bool.and_eq_true] at h1 h2
    rw [PyData.eqvAll, Bool.and_eq_true] at h
    rw [eqv_eq h1.1 h2.1 h.1, eqvs_eq h1.2 h2.2 h.2]
  | [], _ :: _, _, _, h => by simp [PyData.eqvAll] at h
  | _ :: _, [], _, _, h => by simp [PyData.eqvAll] at h
end
mutual
theorem eqv_self : ∀ {d : PyData}, pl0 d = true → PyData.eqv d d = true
  | .none, _ => by simp [PyData.eqv]
  | .int i, _ => by simp [PyData.eqv]
  | .str x, _ => by simp [PyData.eqv]
  | .tuple ds, h => by
    rw [pl0] at h
    rw [PyData.eqv]
    exact eqvs_self h
  | .bool _, h => by simp [pl0] at h
  | .list _, h => by simp [pl0] at h
  | .dict _, h => by simp [pl0] at h
theorem eqvs_self : ∀ {ds : List PyData}, pl0s ds = true → PyData.eqvAll ds ds = true
  | [], _ => by simp [PyData.eqvAll]
  | d :: ds, h => by
    rw [pl0s, Bool.and_eq_true] at h
    rw [PyData.eqvAll, eqv_self h.1, eqvs_self h.2]
    rfl
end
theorem pl0s_all : ∀ {ds : List PyData}, (∀ d ∈ ds, pl0 d = true) → pl0s ds = true
  | [], _ => rfl
  | d :: ds, h => by
    rw [pl0s, h d List.mem_cons_self, pl0s_all fun e he => h e (List.mem_cons_of_mem _ he)]
    rfl
theorem cond_pl0 {β : Nat} {d : PyData} (h : CondS β d) : pl0 d = true := by
  cases h with
  | ends x h => rfl
  | near i h0 h6 => rfl
  | len w hw i h1 h6 e he =>
    rcases he with rfl | ⟨j, rfl, _, _⟩ <;> rfl
theorem keep_pl0 {d : PyData} (h : KeepS d) : pl0 d = true := by
  cases h <;> rfl
theorem rule_pl0 {β : Nat} {d : PyData} (h : ruleB β d = true) : pl0 d = true := by
  obtain ⟨cs, k, rfl, _, hc, hk⟩ := rule_inv h
  rw [pl0, pl0s, pl0, pl0s, pl0s, keep_pl0 hk, pl0s_all fun c h => cond_pl0 (hc c h)]
  rfl
theorem rules_pl0 {β : Nat} {ds : List PyData} (h : ds.all (ruleB β) = true) : pl0 (.tuple ds) = true := by
  rw [pl0]
  exact pl0s_all fun d hd => rule_pl0 (List.all_eq_true.mp h d hd)
/-- tuples of rules are equal where they are the same -/
theorem rules_eqv {β γ : Nat} {ds es : List PyData} (h : ds.all (ruleB β) = true) (k : es.all (ruleB γ) = true) : PyData.eqv (.tuple ds) (.tuple es) = true ↔ ds = es := by
  constructor
  · intro z
    have := eqv_eq (rules_pl0 h) (rules_pl0 k) z
    injection this with this
  · rintro rfl
    exact eqv_self (rules_pl0 k)
/-! how tuples are shown -/
theorem tl_t0 : tl (PyData.tuple []).shown = [40, 41] := by decide +kernel
theorem tl_t1 (a : PyData) : tl (PyData.tuple [a]).shown = 40 :: (tl a.shown ++ [44, 41]) := by
  have e : (PyData.tuple [a]).shown = ("(" : Str) ++ a.shown ++ (",)" : Str) := by
    simp only [PyData.shown, PyData.shownAll, PySem.tupleText]
    rfl
  rw [e]
  simp only [tl_append]
  have e1 : tl ("(" : Str) = [40] := by decide
  have e2 : tl (",)" : Str) = [44, 41] := by decide
  rw [e1, e2]
  simp
theorem tl_t2 (a b : PyData) : tl (PyData.tuple [a, b]).shown = 40 :: (tl a.shown ++ (44 :: 32 :: (tl b.shown ++ [41]))) := by
  have e : (PyData.tuple [a, b]).shown = ("(" : Str) ++ (a.shown ++ ", " ++ b.shown) ++ (")" : Str) := by
    simp only [PyData.shown, PyData.shownAll, PySem.tupleText]
    rfl
  rw [e]
  simp only [tl_append]
  have e1 : tl ("(" : Str) = [40] := by decide
  have e2 : tl (")" : Str) = [41] := by decide
  have e3 : tl (", " : Str) = [44, 32] := by decide
  rw [e1, e2]
  show [40] ++ (tl a.shown ++ tl (", " : Str) ++ tl b.shown) ++ [41] = _
  rw [e3]
  simp
theorem tl_t3 (a b c : PyData) : tl (PyData.tuple [a, b, c]).shown = 40 :: (tl a.shown ++ (44 :: 32 :: (tl b.shown ++ (44 :: 32 :: (tl c.shown ++ [41]))))) := by
  have e : (PyData.tuple [a, b, c]).shown = ("(" : Str) ++ (a.shown ++ ", " ++ (b.shown ++ ", " ++ c.shown)) ++ (")" : Str) := by
    simp only [PyData.shown, PyData.shownAll, PySem.tupleText]
    rfl
  rw [e]
  simp only [tl_append]
  have e1 : tl ("(" : Str) = [40] := by decide
  have e2 : tl (")" : Str) = [41] := by decide
  have e3 : tl (", " : Str) = [44, 32] := by decide
  rw [e1, e2]
  show [40] ++ (tl a.shown ++ tl (", " : Str) ++ (tl b.shown ++ tl (", " : Str) ++ tl c.shown)) ++ [41] = _
  rw [e3]
  simp
theorem tl_tC (c : PyData) (r : List PyData) : ∃ rest, tl (PyData.tuple (c :: r)).shown = 40 :: (tl c.shown ++ rest) := by
  have e1 : tl ("(" : Str) = [40] := by decide
  cases r with
  | nil => exact ⟨_, tl_t1 c⟩
  | cons d r =>
    refine ⟨tl (", " : Str) ++ tl (Str.join ", " (PyData.shownAll (d :: r))) ++ tl (")" : Str), ?_⟩
    have e : (PyData.tuple (c :: d :: r)).shown = ("(" : Str) ++ (c.shown ++ ", " ++ Str.join ", " (PyData.shownAll (d :: r))) ++ (")" : Str) := by
      simp only [PyData.shown, PyData.shownAll, PySem.tupleText]
      rfl
    rw [e, tl_append, tl_append, tl_append, tl_append, e1]
    simp
theorem t_ends : tl (PyData.str "ends").shown = [39, 101, 110, 100, 115, 39] := by decide +kernel
theorem t_near : tl (PyData.str "near").shown = [39, 110, 101, 97, 114, 39] := by decide +kernel
theorem t_len : tl (PyData.str "length").shown = [39, 108, 101, 110, 103, 116, 104, 39] := by decide +kernel
theorem t_chg : tl (PyData.str "changed").shown = [39, 99, 104, 97, 110, 103, 101, 100, 39] := by decide +kernel
theorem t_all : tl (PyData.str "all").shown = [39, 97, 108, 108, 39] := by decide +kernel
theorem t_last : tl (PyData.str "last").shown = [39, 108, 97, 115, 116, 39] := by decide +kernel
theorem t_non : tl PyData.none.shown = [78, 111, 110, 101] := by decide +kernel
theorem t_dig : ∀ i < 10, tl (PyData.int (i : Nat)).shown = [48 + i] := by decide +kernel
theorem t_f1 : ∀ c < 10, tl (PyData.str ⟨#[48 + c]⟩).shown = [39, 48 + c, 39] := by decide +kernel
theorem t_f2 : ∀ c < 10, ∀ d < 10, tl (PyData.str ⟨#[48 + c, 48 + d]⟩).shown = [39, 48 + c, 48 + d, 39] := by decide +kernel
/-- the conditions, with how they are shown -/
inductive CN : PyData → List Nat → Prop
  | e1 (c : Nat) (h : c < 10) : CN (.tuple [.str "ends", .str ⟨#[48 + c]⟩]) [40, 39, 101, 110, 100, 115, 39, 44, 32, 39, 48 + c, 39, 41]
  | e2 (c d : Nat) (h : c < 10) (k : d < 10) : CN (.tuple [.str "ends", .str ⟨#[48 + c, 48 + d]⟩]) [40, 39, 101, 110, 100, 115, 39, 44, 32, 39, 48 + c, 48 + d, 39, 41]
  | nr (i : Nat) (h : i ≤ 6) : CN (.tuple [.str "near", .int (i : Nat)]) [40, 39, 110, 101, 97, 114, 39, 44, 32, 48 + i, 41]
  | lN (i : Nat) (h : i ≤ 6) : CN (.tuple [.str "length", .int (i : Nat), .none]) [40, 39, 108, 101, 110, 103, 116, 104, 39, 44, 32, 48 + i, 44, 32, 78, 111, 110, 101, 41]
  | lJ (i j : Nat) (h : i ≤ 6) (k : j ≤ 6) : CN (.tuple [.str "length", .int (i : Nat), .int (j : Nat)]) [40, 39, 108, 101, 110, 103, 116, 104, 39, 44, 32, 48 + i, 44, 32, 48 + j, 41]
  | cN (i : Nat) (h : i ≤ 6) : CN (.tuple [.str "changed", .int (i : Nat), .none]) [40, 39, 99, 104, 97, 110, 103, 101, 100, 39, 44, 32, 48 + i, 44, 32, 78, 111, 110, 101, 41]
  | cJ (i j : Nat) (h : i ≤ 6) (k : j ≤ 6) : CN (.tuple [.str "changed", .int (i : Nat), .int (j : Nat)]) [40, 39, 99, 104, 97, 110, 103, 101, 100, 39, 44, 32, 48 + i, 44, 32, 48 + j, 41]
theorem cn_of {β : Nat} {d : PyData} (b10 : β ≤ 10) (h : CondS β d) : CN d (tl d.shown) := by
  cases h with
  | ends x hx =>
    rcases figs_cases b10 hx with ⟨c, hc, rfl⟩ | ⟨c, e, hc, he, rfl⟩
    · rw [tl_t2, t_ends, t_f1 c hc]
      exact .e1 c hc
    · rw [tl_t2, t_ends, t_f2 c hc e he]
      exact .e2 c e hc he
  | near i h0 h6 =>
    obtain ⟨n, rfl⟩ : ∃ n : Nat, i = (n : Int) := ⟨i.toNat, by omega⟩
    rw [tl_t2, t_near, t_dig n (by omega)]
    exact .nr n (by omega)
  | len w hw i h1 h6 e he =>
    obtain ⟨n, rfl⟩ : ∃ n : Nat, i = (n : Int) := ⟨i.toNat, by omega⟩
    rcases hw with rfl | rfl
    · rcases he with rfl | ⟨j, rfl, hij, hj⟩
      · rw [tl_t3, t_len, t_dig n (by omega), t_non]
        exact .lN n (by omega)
      · obtain ⟨m, rfl⟩ : ∃ m : Nat, j = (m : Int) := ⟨j.toNat, by omega⟩
        rw [tl_t3, t_len, t_dig n (by omega), t_dig m (by omega)]
        exact .lJ n m (by omega) (by omega)
    · rcases he with rfl | ⟨j, rfl, hij, hj⟩
      · rw [tl_t3, t_chg, t_dig n (by omega), t_non]
        exact .cN n (by omega)
      · obtain ⟨m, rfl⟩ : ∃ m : Nat, j = (m : Int) := ⟨j.toNat, by omega⟩
        rw [tl_t3, t_chg, t_dig n (by omega), t_dig m (by omega)]
        exact .cJ n m (by omega) (by omega)
theorem cn_inj {d e : PyData} {t u r r' : List Nat} (h : CN d t) (k : CN e u) (z : t ++ r = u ++ r') : d = e ∧ r = r' := by
  cases h <;> cases k <;> simp at z <;> first
    | (exfalso; omega)
    | (obtain ⟨rfl, rfl⟩ := z; exact ⟨rfl, rfl⟩)
    | (obtain ⟨rfl, rfl, rfl⟩ := z; exact ⟨rfl, rfl⟩)
    | skip
/-- the keeps, with how they are shown -/
inductive KN : PyData → List Nat → Prop
  | all : KN (.tuple [.str "all"]) [40, 39, 97, 108, 108, 39, 44, 41]
  | ch (i : Nat) (h : i ≤ 6) : KN (.tuple [.str "changed", .int (i : Nat)]) [40, 39, 99, 104, 97, 110, 103, 101, 100, 39, 44, 32, 48 + i, 41]
  | la (i : Nat) (h : i ≤ 6) : KN (.tuple [.str "last", .int (i : Nat)]) [40, 39, 108, 97, 115, 116, 39, 44, 32, 48 + i, 41]
theorem kn_of {d : PyData} (h : KeepS d) : KN d (tl d.shown) := by
  cases h with
  | all =>
    rw [tl_t1, t_all]
    exact .all
  | size w hw i h1 h6 =>
    obtain ⟨n, rfl⟩ : ∃ n : Nat, i = (n : Int) := ⟨i.toNat, by omega⟩
    rcases hw with rfl | rfl
    · rw [tl_t2, t_chg, t_dig n (by omega)]
      exact .ch n (by omega)
    · rw [tl_t2, t_last, t_dig n (by omega)]
      exact .la n (by omega)
theorem kn_inj {d e : PyData} {t u r r' : List Nat} (h : KN d t) (k : KN e u) (z : t ++ r = u ++ r') : d = e ∧ r = r' := by
  cases h <;> cases k <;> simp at z <;> first
    | (exfalso; omega)
    | (subst z; exact ⟨rfl, rfl⟩)
    | (obtain ⟨rfl, rfl⟩ := z; exact ⟨rfl, rfl⟩)
    | skip
theorem cn_head {d : PyData} {t : List Nat} (h : CN d t) : ∃ r, t = 40 :: 39 :: r := by
  cases h <;> exact ⟨_, rfl⟩
/-- the conditions' tuple: how it begins, and that it is told by how it is shown -/
theorem cs_inj {β γ : Nat} {cs es : List PyData} {r r' : List Nat} (b10 : β ≤ 10) (g10 : γ ≤ 10) (h3 : cs.length ≤ 3) (k3 : es.length ≤ 3) (h : ∀ c ∈ cs, CondS β c) (k : ∀ c ∈ es, CondS γ c) (z : tl (PyData.tuple cs).shown ++ r = tl (PyData.tuple es).shown ++ r') : cs = es ∧ r = r' := by
  have hc : ∀ c ∈ cs, CN c (tl c.shown) := fun c hc => cn_of b10 (h c hc)
  have kc : ∀ c ∈ es, CN c (tl c.shown) := fun c hc => cn_of g10 (k c hc)
  match cs, es, h3, k3, hc, kc, z with
  | [], [], _, _, _, _, z =>
    rw [tl_t0] at z
    simp at z
    exact ⟨rfl, z⟩
  | [], a :: as, _, _, _, kc, z =>
    obtain ⟨q, hq⟩ := tl_tC a as
    obtain ⟨q2, hq2⟩ := cn_head (kc a List.mem_cons_self)
    rw [tl_t0, hq, hq2] at z
    simp at z
  | a :: as, [], _, _, hc, _, z =>
    obtain ⟨q, hq⟩ := tl_tC a as
    obtain ⟨q2, hq2⟩ := cn_head (hc a List.mem_cons_self)
    rw [tl_t0, hq, hq2] at z
    simp at z
  | [a], [x], _, _, hc, kc, z =>
    rw [tl_t1, tl_t1] at z
    simp only [List.cons_append, List.append_assoc, List.cons.injEq, true_and] at z
    obtain ⟨rfl, z1⟩ := cn_inj (hc a (by simp)) (kc x (by simp)) z
    simp at z1
    exact ⟨rfl, z1⟩
  | [a], [x, y], _, _, hc, kc, z =>
    rw [tl_t1, tl_t2] at z
    simp only [List.cons_append, List.append_assoc, List.cons.injEq, true_and] at z
    obtain ⟨rfl, z1⟩ := cn_inj (hc a (by simp)) (kc x (by simp)) z
    simp at z1
  | [a], [x, y, w], _, _, hc, kc, z =>
    rw [tl_t1, tl_t3] at z
    simp only [List.cons_append, List.append_assoc, List.cons.injEq, true_and] at z
    obtain ⟨rfl, z1⟩ := cn_inj (hc a (by simp)) (kc x (by simp)) z
    simp at z1
  | [a, b], [x], _, _, hc, kc, z =>
    rw [tl_t2, tl_t1] at z
    simp only [List.cons_append, List.append_assoc, List.cons.injEq, true_and] at z
    obtain ⟨rfl, z1⟩ := cn_inj (hc a (by simp)) (kc x (by simp)) z
    simp at z1
  | [a, b], [x, y], _, _, hc, kc, z =>
    rw [tl_t2, tl_t2] at z
    simp only [List.cons_append, List.append_assoc, List.cons.injEq, true_and] at z
    obtain ⟨rfl, z1⟩ := cn_inj (hc a (by simp)) (kc x (by simp)) z
    injection z1 with _ z1
    injection z1 with _ z1
    first | simp only [List.append_assoc] at z1 | skip
    obtain ⟨rfl, z2⟩ := cn_inj (hc b (by simp)) (kc y (by simp)) z1
    simp at z2
    exact ⟨rfl, z2⟩
  | [a, b], [x, y, w], _, _, hc, kc, z =>
    rw [tl_t2, tl_t3] at z
    simp only [List.cons_append, List.append_assoc, List.cons.injEq, true_and] at z
    obtain ⟨rfl, z1⟩ := cn_inj (hc a (by simp)) (kc x (by simp)) z
    injection z1 with _ z1
    injection z1 with _ z1
    first | simp only [List.append_assoc] at z1 | skip
    obtain ⟨rfl, z2⟩ := cn_inj (hc b (by simp)) (kc y (by simp)) z1
    simp at z2
  | [a, b, c], [x], _, _, hc, kc, z =>
    rw [tl_t3, tl_t1] at z
    simp only [List.cons_append, List.append_assoc, List.cons.injEq, true_and] at z
    obtain ⟨rfl, z1⟩ := cn_inj (hc a (by simp)) (kc x (by simp)) z
    simp at z1
  | [a, b, c], [x, y], _, _, hc, kc, z =>
    rw [tl_t3, tl_t2] at z
    simp only [List.cons_append, List.append_assoc, List.cons.injEq, true_and] at z
    obtain ⟨rfl, z1⟩ := cn_inj (hc a (by simp)) (kc x (by simp)) z
    injection z1 with _ z1
    injection z1 with _ z1
    first | simp only [List.append_assoc] at z1 | skip
    obtain ⟨rfl, z2⟩ := cn_inj (hc b (by simp)) (kc y (by simp)) z1
    simp at z2
  | [a, b, c], [x, y, w], _, _, hc, kc, z =>
    rw [tl_t3, tl_t3] at z
    simp only [List.cons_append, List.append_assoc, List.cons.injEq, true_and] at z
    obtain ⟨rfl, z1⟩ := cn_inj (hc a (by simp)) (kc x (by simp)) z
    injection z1 with _ z1
    injection z1 with _ z1
    first | simp only [List.append_assoc] at z1 | skip
    obtain ⟨rfl, z2⟩ := cn_inj (hc b (by simp)) (kc y (by simp)) z1
    injection z2 with _ z2
    injection z2 with _ z2
    first | simp only [List.append_assoc] at z2 | skip
    obtain ⟨rfl, z3⟩ := cn_inj (hc c (by simp)) (kc w (by simp)) z2
    simp at z3
    exact ⟨rfl, z3⟩
  | _ :: _ :: _ :: _ :: _, _, h3, _, _, _, _ => simp at h3
  | _, _ :: _ :: _ :: _ :: _, _, k3, _, _, _ => simp at k3
theorem rule_inj {β γ : Nat} {d e : PyData} (b10 : β ≤ 10) (g10 : γ ≤ 10) (h : ruleB β d = true) (k : ruleB γ e = true) (z : d.shown = e.shown) : d = e := by
  obtain ⟨cs, q, rfl, h3, hc, hk⟩ := rule_inv h
  obtain ⟨es, u, rfl, k3, kc, kk⟩ := rule_inv k
  have z2 := congrArg tl z
  rw [tl_t2, tl_t2] at z2
  simp only [List.cons.injEq, true_and] at z2
  obtain ⟨rfl, z3⟩ := cs_inj b10 g10 h3 k3 hc kc z2
  simp only [List.cons.injEq, true_and] at z3
  obtain ⟨rfl, _⟩ := kn_inj (kn_of hk) (kn_of kk) z3
  rfl
/-- how a rule begins -/
theorem rule_head {β : Nat} {d : PyData} (b10 : β ≤ 10) (h : ruleB β d = true) : (∃ r, tl d.shown = 40 :: 40 :: 41 :: r) ∨ ∃ c t r, CN c t ∧ tl d.shown = 40 :: 40 :: (t ++ r) := by
  obtain ⟨cs, q, rfl, h3, hc, hk⟩ := rule_inv h
  rw [tl_t2]
  cases cs with
  | nil =>
    rw [tl_t0]
    exact .inl ⟨_, rfl⟩
  | cons c r =>
    obtain ⟨q2, hq⟩ := tl_tC c r
    rw [hq]
    refine .inr ⟨c, tl c.shown, q2 ++ (44 :: 32 :: (tl q.shown ++ [41])), cn_of b10 (hc c List.mem_cons_self), ?_⟩
    simp
/-- the other things that the law looks for in a style -/
def moreD : List PyData := [.tuple [.tuple [.tuple [.str "changed", .int 6, .int 6], .tuple [.str "near", .int 0]], .tuple [.str "last", .int 6]], .tuple [.tuple [.tuple [.str "near", .bool true]], .tuple [.str "all"]], .none, .tuple [], .int 5]
theorem more_no {β : Nat} {d : PyData} (b10 : β ≤ 10) (h : ruleB β d = true) : d.shown ≠ (PyData.tuple [.tuple [.tuple [.str "near", .bool true]], .tuple [.str "all"]]).shown ∧ d.shown ≠ PyData.none.shown ∧ d.shown ≠ (PyData.tuple []).shown ∧ d.shown ≠ (PyData.int 5).shown ∧ d.shown ≠ (PyData.list [.int 1]).shown := by
  have tb : tl (PyData.bool true).shown = [84, 114, 117, 101] := by decide +kernel
  have tL : ∃ r, tl (PyData.list [.int 1]).shown = 91 :: r := ⟨_, (by decide +kernel : tl (PyData.list [.int 1]).shown = 91 :: [49, 93])⟩
  have t5 : tl (PyData.int 5).shown = [53] := by decide +kernel
  refine ⟨fun z => ?_, fun z => ?_, fun z => ?_, fun z => ?_, fun z => ?_⟩ <;> have z2 := congrArg tl z <;> rcases rule_head b10 h with ⟨r, hr⟩ | ⟨c, t, r, hc, hr⟩ <;> rw [hr] at z2
  · rw [tl_t2, tl_t1, tl_t2, t_near] at z2
    simp at z2
  · rw [tl_t2, tl_t1, tl_t2, t_near, tb] at z2
    cases hc <;> simp at z2 <;> try omega
  · rw [t_non] at z2
    simp at z2
  · rw [t_non] at z2
    simp at z2
  · rw [tl_t0] at z2
    simp at z2
  · rw [tl_t0] at z2
    simp at z2
  · rw [t5] at z2
    simp at z2
  · rw [t5] at z2
    simp at z2
  · obtain ⟨q, hq⟩ := tL
    rw [hq] at z2
    simp at z2
  · obtain ⟨q, hq⟩ := tL
    rw [hq] at z2
    simp at z2
theorem more_rules {β : Nat} {d e : PyData} {ds : List PyData} (b10 : β ≤ 10) (h : ruleB β d = true) (k : ruleB β e = true) : d.shown ≠ (PyData.tuple (e :: ds)).shown := fun z => by
  have z2 := congrArg tl z
  obtain ⟨q, hq⟩ := tl_tC e ds
  rw [hq] at z2
  rcases rule_head b10 h with ⟨r, hr⟩ | ⟨c, t, r, hc, hr⟩ <;> rw [hr] at z2 <;> rcases rule_head b10 k with ⟨r2, hr2⟩ | ⟨c2, t2, r2, hc2, hr2⟩ <;> rw [hr2] at z2
  · simp at z2
  · simp at z2
  · obtain ⟨y, rfl⟩ := cn_head hc
    simp at z2
  · obtain ⟨y, rfl⟩ := cn_head hc
    obtain ⟨y2, rfl⟩ := cn_head hc2
    simp at z2
end Dt

/-! What expressions of styles are read as, whatever the class's address. -/
namespace Dt
open PySem L2 Evl Dg LamR LamX TL StX ClX
open Dr (StAt SameB)
theorem fnr0 {P : Program} {w : World} {K : PySem.W.Frag} {mg : Str → Option Value} {base : Heap} {CX : CXT} {k : Nat} {f : Addr} {fd : FuncData} {ps : List Str} {sp : Sp} (F : FnOk P w K mg base CX k f fd ps sp) (hb : Binds K fd ps []) : FnR P w K mg base CX k f sp := by
  have h := F.raw hb .nil
  have e : (fun (vs : List V) (H : Hp) (Q : VK) (E : XK) => sp (vs ++ []) H Q E) = sp := by
    funext vs H Q E
    rw [List.append_nil]
  exact e ▸ h
/-- the expression is a style of that base with those rules -/
def EvS (C : Addr) (te : TE) (σ : St) (H : Hp) (β : Nat) (Ds : List PyData) : Prop := ∀ H1, Ex H H1 → ∀ Q : VK, (∀ x H2, Ex H1 H2 → StyG H2 C x β Ds → Q (.ref x) H2) → te σ H1 Q
section
variable {K : PySem.W.Frag} {C : Addr} {σ : St} {H : Hp} {ta tb to te : TE} {E : XK} {β γ : Nat} {Ds Es : List PyData} {x : Addr}
theorem es_v (h : Ev te σ H (.ref x)) (S : StyG H C x β Ds) : EvS C te σ H β Ds := fun H1 e Q q => h H1 e Q fun H2 e2 => q x H2 e2 (S.ex (e.trans e2))
theorem ep_rulesS (h : EvS C to σ H β Ds) : EvP (tProp C (getSp C "stored_rules") [] E to) σ H (.tuple Ds) := fun H1 e Q q =>
  h H1 e _ fun x H2 e2 S => by
    obtain ⟨dx, t, hx, kt⟩ := S.a
    exact ⟨x, dx, _, rfl, hx, x, dx, _, _, rfl, hx, lk_rules _ _, q (.ref t) H2 e2 kt⟩
theorem ev_baseS (h : EvS C to σ H β Ds) : Ev (tProp C (getSp C "stored_base") [] E to) σ H (.int (β : Nat)) := fun H1 e Q q =>
  h H1 e _ fun x H2 e2 S => by
    obtain ⟨dx, t, hx, kt⟩ := S.a
    exact ⟨x, dx, _, rfl, hx, x, dx, _, _, rfl, hx, lk_base _ _, q H2 e2⟩
theorem ev_isiSt (I : IsC K C) (cl : Cls K C) (h : EvS C ta σ H β Ds) : Ev (tCB (rIsi K) (tCons ta (tCons (tC (.ref C)) tNil))) σ H (.bl true) := fun H1 e Q q =>
  h H1 e _ fun x H2 e2 S => ⟨.ref x, .ref C, .ref C, .ref C, true, rfl, .own C, S.ty I cl, I.self, q H2 e2⟩
theorem ev_eqS (I : IsC K C) (cl : Cls K C) (nf : PySem.W.notFirst K C (.ref C) = true) (h1 : EvS C ta σ H β Ds) (h2 : EvS C tb σ H γ Es) : Ev (tOp (rEqOwn K C (spEqI C) E) ta tb) σ H (.bl (decide (β = γ) && PyData.eqv (.tuple Ds) (.tuple Es))) := fun H1 e Q q =>
  h1 H1 e _ fun x H2 e2 S => h2 H2 (e.trans e2) _ fun y H3 e3 S3 => by
    obtain ⟨dx, t, hx, kt⟩ := (S.ex e3).a
    exact ⟨x, dx, _, .ref C, rfl, hx, S3.ty I cl, nf, x, .ref y, β, Ds, rfl, S.ex e3, .inl ⟨y, γ, Es, rfl, S3, fun H4 e4 => q H4 ((e2.trans e3).trans e4)⟩⟩
/-- repr of a text without great signs -/
theorem ev_reprT {x : Str} {n : Nat} (h : Ev te σ H (.str x)) (h1 : ∀ c ∈ tl x, c < 128) (h2 : x.length ≤ n) (hn : n ≤ 1000000) : Ev (tCB (rReprJ K) (tCons te tNil)) σ H (.str (PyData.str x).shown) := fun H1 e Q q => by
  have p : plainD (.str x) := fun c hc => by
    have := h1 c hc
    have e : (16 : Nat) ^ 8 = 4294967296 := by decide
    omega
  obtain ⟨a, b⟩ := shown_cap _ p
  have c : cap (.str x) ≤ 10 * n + 2 := by
    simp only [cap]
    omega
  exact h H1 e _ fun H2 e2 => ⟨_, .str x, rfl, .di (.dp (.str x)), a, by rw [sizeLine_eq]; omega, by simp [PyData.depth], q H2 e2⟩
/-- a list of a base and its rules -/
theorem ts_baseRules {β : Nat} {Ds : List PyData} (b10 : β ≤ 10) (t : Ts (.tuple Ds) 1100000 4) : Ts (.list [.int (β : Int), .tuple Ds]) 2300000 5 := by
  have ti : Ts (.int (β : Int)) 1100000 4 := (ts_int (i := (β : Int)) (by omega)).up (by omega) (by omega)
  have h := (TsAll.cons ti (TsAll.cons t .nil)).tup
  refine ⟨?_, ?_, ?_, ?_⟩
  · exact h.p
  · have := h.c
    simp only [List.length_cons, List.length_nil] at this
    have e : cap (.list [.int (β : Int), .tuple Ds]) ≤ cap (.tuple [.int (β : Int), .tuple Ds]) := by
      simp only [cap]
      omega
    omega
  · exact h.e
  · exact h.l
end
end Dt

/-! Texts of styles: words, lines, and how they are read; no program in it. -/
namespace Tx
open PySem L2 Evl Dg Dt TL
/-! joining and splitting -/
theorem str_ext {x y : Str} (h : tl x = tl y) : x = y := by
  cases x with
  | mk a =>
    cases y with
    | mk b =>
      have : a = b := Array.toList_inj.mp h
      rw [this]
theorem joinL_cons {s a : List Nat} {ls : List (List Nat)} (h : ls ≠ []) : joinL s (a :: ls) = a ++ s ++ joinL s ls := by
  cases ls with
  | nil => exact absurd rfl h
  | cons b r => simp [joinL]
theorem joinL_app {s : List Nat} : ∀ {ls ms : List (List Nat)}, ls ≠ [] → ms ≠ [] → joinL s (ls ++ ms) = joinL s ls ++ s ++ joinL s ms
  | [], _, h, _ => absurd rfl h
  | [a], ms, _, h => by
    rw [List.singleton_append, joinL_cons h]
    simp [joinL]
  | a :: b :: r, ms, _, h => by
    have ih := joinL_app (s := s) (ls := b :: r) (ms := ms) (by simp) h
    rw [List.cons_append, joinL_cons (by simp), ih, joinL_cons (ls := b :: r) (by simp)]
    simp [List.append_assoc]
/-- parts of parts -/
theorem joinL_join {s : List Nat} : ∀ {lss : List (List (List Nat))}, (∀ l ∈ lss, l ≠ []) → joinL s (lss.map (joinL s)) = joinL s lss.flatten
  | [], _ => rfl
  | [l], _ => by simp [joinL]
  | l :: m :: r, h => by
    have ih := joinL_join (s := s) (lss := m :: r) fun x hx => h x (List.mem_cons_of_mem _ hx)
    have hl := h l (by simp)
    have hm : (m :: r).flatten ≠ [] := by
      have := h m (by simp)
      simp [this]
    rw [List.map_cons, joinL_cons (by simp), ih, show (l :: m :: r).flatten = l ++ (m :: r).flatten from List.flatten_cons, joinL_app hl hm]
theorem join_join {a : Str} {xss : List (List Str)} (h : ∀ x ∈ xss, x ≠ []) : Txt.join a (xss.map (Txt.join a)) = Txt.join a xss.flatten := by
  refine str_ext ?_
  rw [tl_joinT, tl_joinT, List.map_map]
  have e : (xss.map (tl ∘ Txt.join a)) = (xss.map (List.map tl)).map (joinL (tl a)) := by
    rw [List.map_map]
    exact List.map_congr_left fun x _ => tl_joinT a x
  rw [e, joinL_join (fun l hl => by
    obtain ⟨x, hx, rfl⟩ := List.mem_map.mp hl
    intro z
    exact h x hx (List.map_eq_nil_iff.mp z))]
  rw [List.map_flatten]
/-- parts without the sign between them are told by what they are joined to -/
theorem joinL_inj {c : Nat} : ∀ {ls ms : List (List Nat)}, ls ≠ [] → ms ≠ [] → (∀ l ∈ ls, c ∉ l) → (∀ l ∈ ms, c ∉ l) → joinL [c] ls = joinL [c] ms → ls = ms := by
  have split : ∀ {a b r t : List Nat}, c ∉ a → c ∉ b → a ++ c :: r = b ++ c :: t → a = b ∧ r = t := by
    intro a
    induction a with
    | nil =>
      intro b r t ha hb h
      cases b with
      | nil => exact ⟨rfl, by simpa using h⟩
      | cons y b =>
        injection h with h1 h2
        exact absurd (by rw [h1]; exact List.mem_cons_self) hb
    | cons x a ih =>
      intro b r t ha hb h
      cases b with
      | nil =>
        injection h with h1 h2
        exact absurd (by rw [← h1]; exact List.mem_cons_self) ha
      | cons y b =>
        injection h with h1 h2
        obtain ⟨e1, e2⟩ := ih (fun z => ha (List.mem_cons_of_mem _ z)) (fun z => hb (List.mem_cons_of_mem _ z)) h2
        exact ⟨by rw [h1, e1], e2⟩
  have one : ∀ {a b r : List Nat}, c ∉ a → a = b ++ c :: r → False := fun ha h => ha (by rw [h]; simp)
  intro ls
  induction ls with
  | nil => intro ms h; exact absurd rfl h
  | cons a ls ih =>
    intro ms _ hm fa fm h
    cases ms with
    | nil => exact absurd rfl hm
    | cons b ms =>
      cases ls with
      | nil =>
        cases ms with
        | nil => simpa [joinL] using h
        | cons b2 ms =>
          rw [joinL_cons (ls := b2 :: ms) (by simp)] at h
          exact (one (fa a (by simp)) (by simpa [joinL] using h)).elim
      | cons a2 ls =>
        cases ms with
        | nil =>
          rw [joinL_cons (ls := a2 :: ls) (by simp)] at h
          exact (one (fm b (by simp)) (by simpa [joinL] using h.symm)).elim
        | cons b2 ms =>
          rw [joinL_cons (ls := a2 :: ls) (by simp), joinL_cons (ls := b2 :: ms) (by simp)] at h
          obtain ⟨e1, e2⟩ := split (fa a (by simp)) (fm b (by simp)) (by simpa [List.append_assoc] using h)
          rw [e1, ih (by simp) (by simp) (fun l hl => fa l (List.mem_cons_of_mem _ hl)) (fun l hl => fm l (List.mem_cons_of_mem _ hl)) e2]
theorem split_join {c : Nat} {ws : List Str} (hn : ws ≠ []) (h : ∀ w ∈ ws, c ∉ tl w) : Txt.split (Txt.join ⟨#[c]⟩ ws) ⟨#[c]⟩ = ws := by
  have h1 := StrLaws.join_split (Txt.join ⟨#[c]⟩ ws) ⟨#[c]⟩
  have h2 := StrLaws.split_free (Txt.join ⟨#[c]⟩ ws) c
  have h3 := PyProof.Rows.split_pos (Txt.join ⟨#[c]⟩ ws) ⟨#[c]⟩
  have e : (Txt.split (Txt.join ⟨#[c]⟩ ws) ⟨#[c]⟩).map tl = ws.map tl := by
    refine joinL_inj (c := c) (fun z => ?_) (fun z => hn (List.map_eq_nil_iff.mp z)) (fun l hl => ?_) (fun l hl => ?_) ?_
    · rw [List.map_eq_nil_iff.mp z] at h3
      simp at h3
    · obtain ⟨x, hx, rfl⟩ := List.mem_map.mp hl
      exact h2 x hx
    · obtain ⟨x, hx, rfl⟩ := List.mem_map.mp hl
      exact h x hx
    · have k1 : tl (Str.join ⟨#[c]⟩ (Txt.split (Txt.join ⟨#[c]⟩ ws) ⟨#[c]⟩)) = tl (Txt.join ⟨#[c]⟩ ws) := by rw [h1]
      rw [tl_joinT] at k1
      have k2 := tl_joinT ⟨#[c]⟩ (Txt.split (Txt.join ⟨#[c]⟩ ws) ⟨#[c]⟩)
      rw [join_eq] at k2
      rw [k2] at k1
      exact k1
  have inj : ∀ {xs ys : List Str}, xs.map tl = ys.map tl → xs = ys := by
    intro xs
    induction xs with
    | nil => intro ys h; exact (List.map_eq_nil_iff.mp h.symm).symm
    | cons x xs ih =>
      intro ys h
      cases ys with
      | nil => cases h
      | cons y ys =>
        injection h with h1 h2
        rw [str_ext h1, ih h2]
  exact inj e
end Tx

/-! enumerate over a list, from a start given by its name. -/
namespace PyProof.Rows
open PySem
section
variable {M : Model} {A : Around} {E : Value → Shared → Prop} {s : Shared} {env : Env}
theorem callWith_type_kwB {pos : Pos} {T : String} {first : List Value} {args : List (Bool × Sem Value)} {keywords : List (Option Str × Sem Value)} {Q : Value → Shared → Prop}
    (hplain : args.any (·.1) = false) (hkw : keywords.any (·.1.isNone) = false)
    (h : wpAny M A (evalArgs (.type T) true args keywords) (fun a s₁ => wpAny M A (call (.type T) (first ++ a.pos) a.kw) Q E s₁) E s) :
    wpAny M A (callWith pos (.type T) first args keywords) Q E s := by
  unfold callWith
  refine wpAny_bind (wpAny_holding (wpAny_mono h (fun a s₁ h₁ => wpAny_bind (wpAny_standAt ?_)) fun _ _ x => x))
  simp only [hplain, hkw, Bool.or_false]
  refine wpAny_bind (wpAny_pure ?_)
  exact wpAny_bind (wpAny_mono h₁ (fun r s₂ hr => wpAny_bind (wpAny_holding (wpAny_point (wpAny_pure hr)))) fun _ _ x => x)
theorem callWith_typeKw {pos : Pos} {T : String} {e : Expr} {rest : List Expr} {kws : List Keyword} {Q : Value → Shared → Prop}
    (h : wpAny M A (spliced (backTo pos (starEach (e :: rest) env))) (fun vs s₁ => wpAny M A (evalAll ((backToKw pos (keywordEach kws env)).map (·.2)))
      (fun kvs s₂ => wpAny M A (call (.type T) vs (((backToKw pos (keywordEach kws env)).filterMap (·.1)).zip kvs)) Q E s₂) E s₁) E s)
    (he : backTo pos (starEach (e :: rest) env) = (false, eval e env) :: backTo pos (starEach rest env) := by rfl)
    (hplain : (backTo pos (starEach (e :: rest) env)).any (·.1) = false := by rfl)
    (hall : (backToKw pos (keywordEach kws env)).all (·.1.isSome) = true := by rfl)
    (hkw : (backToKw pos (keywordEach kws env)).any (·.1.isNone) = false := by rfl) :
    wpAny M A (callWith pos (.type T) [] (backTo pos (starEach (e :: rest) env)) (backToKw pos (keywordEach kws env))) Q E s := by
  refine callWith_type_kwB hplain hkw ?_
  rw [he] at h ⊢
  exact evalArgs_kwB hall h
end
end PyProof.Rows
namespace L2
open PySem PySem.Spec PyProof.Rows
/-- the list at a at each turn, each item in a new pair behind c0 and its place -/
def IteS (K : PySem.W.Frag) (a : Addr) (c0 : Int) : It :=
  ⟨fun i H => ∃ (xs : List V) (x : V), SqL K H a xs ∧ xs[i]? = some x, fun i H v H' => ∃ T x, v = .ref T ∧ H T = none ∧ H' = upd H T (.tup [.int (c0 + (i : Nat)), x]) ∧ ∀ xs, SqL K H a xs → xs[i]? = some x, fun i H => ∃ xs : List V, SqL K H a xs ∧ xs.length = i⟩
theorem turn_enumS {P : Program} {w : World} {K : PySem.W.Frag} {elts : List Expr} {kk : Nat} {tpos : Pos} (a e it : Addr) (c0 : Int) :
    Turn P w K (.Tuple elts kk tpos) (IteS K a c0) [e, it] e (fun i h => (∃ old, IsEnum h e it (c0 + ((i : Nat) : Int)) old) ∧ h.IsListIter it a i ∧ e ≠ it ∧ a ≠ it ∧ a ≠ e) where
  mem := by simp
  obj := fun i h st b hb => by
    obtain ⟨⟨old, he⟩, ⟨o, ho, hc, hd⟩, _⟩ := st
    have e' : b = e ∨ b = it := by simpa using hb
    rcases e' with z | z
    · rw [z]; exact ⟨_, he, fun v q => nomatch q⟩
    · rw [z]; exact ⟨o, ho, fun v q => by rw [hd] at q; cases q⟩
  keep := fun i h h' st k => let ⟨⟨old, he⟩, hi, hne⟩ := st; ⟨⟨old, k e (by simp) _ he⟩, hi.at fun o q => k it (by simp) o q, hne⟩
  item := by
    intro X hP hw hK hc i pins s σ H E I hf st hg
    subst hP hw hK
    obtain ⟨⟨old, he⟩, hit, hne, hai, hae⟩ := st
    obtain ⟨xs, x, hq, hx⟩ := hg
    obtain ⟨its, rv, p, hz⟩ := I.list hq
    obtain ⟨u, hu, ru⟩ := rv.get hx
    have hel : e < s.heap.objs.size := Heap.lt_size he
    have hil : it < s.heap.objs.size := by obtain ⟨_, q, _⟩ := hit; exact Heap.lt_size q
    have hlt : i < its.toArray.size := by
      have := (List.getElem?_eq_some_iff.mp hu).1
      simpa using this
    have hcm : X.A.in1.handled = none := I.ok.hd hc
    refine wpAny_pyNext_enum_itemC (Draws.list hcm it a hai its.toArray) he ⟨hit, p.isList⟩ hlt hne (by simp [hne, Ne.symm hae]) fun x' h' tk hPx ho st' hT hsz hk => ?_
    have exu : x' = u := by
      have : its[i]? = some x' := by simpa using hPx
      rw [hu] at this
      exact (Option.some.inj this).symm
    subst exu
    obtain ⟨hit', _⟩ := st'
    refine ⟨_, rfl, wpAny_letOwnedTupleGo_enum (s := { s with heap := h', toks := tk + 1 }) ho fun h'' he' sb => ?_⟩
    have hT2 : h''.get? s.heap.objs.size = some { cls := .type "tuple", data := .seq #[.int (c0 + (i : Nat)) tk, x'] } := (sb.2 _ (Nat.ne_of_gt hel)).trans hT
    have new : ObjOk X.prog X.w (upd H s.heap.objs.size (.tup [.int (c0 + (i : Nat)), x])) h'' s.heap.objs.size (.tup [.int (c0 + (i : Nat)), x]) :=
      ⟨by show 2 ≤ sizeLine; decide, [.int (c0 + (i : Nat)) tk, x'], .cons ⟨_, rfl⟩ (.cons ru .nil), ⟨_, hT2, rfl, _, rfl⟩⟩
    have I1 : Inv X pins σ (upd H s.heap.objs.size (.tup [.int (c0 + (i : Nat)), x])) { s with heap := h'', toks := tk + 1 } :=
      I.turnedNew (ch := [e, it]) (fun b ob hb q => (sb.2 b (fun z => hb (by simp [z]))).trans (hk b ob (fun z => hb (by simp [z])) (fun z => hb (by simp [z])) q)) hf (Nat.le_refl _) new
    refine ⟨.ref s.heap.objs.size, _, I1, rfl, ⟨_, x, rfl, I.hok.fresh (Nat.le_refl _), rfl, fun ys hy => by rw [I.list_inj hy hq]; exact hx⟩, ⟨⟨x', ?_⟩, hit'.at fun o q => (sb.2 it (Ne.symm hne)).trans q, hne, hai, hae⟩, fun b hb => ?_⟩
    · have e1 : c0 + ((i + 1 : Nat) : Int) = c0 + (i : Int) + 1 := by omega
      rw [e1]; exact he'
    · have hb' : b < s.heap.objs.size := by
        have e' : b = e ∨ b = it := by simpa using hb
        rcases e' with z | z
        · rw [z]; exact hel
        · rw [z]; exact hil
      rw [upd_ne (Nat.ne_of_lt hb')]
      exact (hf b hb).1
  done := by
    intro X hP hw hK hc i pins s σ H E I hf st hg
    subst hP hw hK
    obtain ⟨⟨old, he⟩, hit, hne, hai, hae⟩ := st
    obtain ⟨xs, hq, hx⟩ := hg
    obtain ⟨its, rv, p, hz⟩ := I.list hq
    obtain ⟨f0, f1, f2, f3, f4, f5⟩ := hf it (by simp)
    have hl := rv.length
    have hcm : X.A.in1.handled = none := I.ok.hd hc
    have hi : i = its.toArray.size := by
      rw [← hx, hl]
      simp
    subst hi
    exact wpAny_pyNext_enum_endD (Draws.list hcm it a hai its.toArray) he ⟨hit, p.isList⟩ fun h' eb => ⟨rfl, I.turned (t' := s.toks) (fun b o hb q => eb b o hb q) f0 f1 f3 f4 f5⟩
  self := fun A i s Q E st h => let ⟨⟨_, he⟩, _⟩ := st; wpAny_pyIter_enum he h
def iEnumS (K : PySem.W.Frag) (c0 : Int) (ta : TA) : TI := fun σ H R => ta σ H fun vs H1 => ∃ a xs, vs = [.ref a] ∧ SqL K H1 a xs ∧ R (IteS K a c0) H1
theorem pi_enumS {X : Cx} {e : Expr} {ta : TA} {p pos tpos kp cp : Pos} {elts : List Expr} {kk j : Nat} {c0 : Int} (hg : Gl X "enumerate") (hm : X.mg "enumerate" = none) (ha : PA X [e] ta) (h0 : -(2 ^ 63) ≤ c0) (h1 : c0 < 2 ^ 63) (hs : starEach [e] X.env = [(false, eval e X.env)] := by rfl) :
    PI X (.Tuple elts kk tpos) (.Call (.Name "enumerate" p) [e] [⟨some "start", .Constant (.int c0) j cp, kp⟩] pos) (iEnumS X.K c0 ta) := by
  refine ⟨fun pins s σ H R I h => ?_⟩
  refine wpAny_Call_Name_kw (ld_blt I hg hm boot_enumerate (PyProof.Rows.callWith_typeKw (thn (ha.run pos pins s σ H _ I h) fun us s1 ⟨vs, H1, I1, r1, q1⟩ => ?_) (by rw [hs]; rfl) (by rw [hs]; rfl)))
  obtain ⟨a, xs, ex, hq, q⟩ := q1
  subst ex
  cases r1 with
  | cons r rr =>
    cases rr
    cases r
    refine PyProof.Rows.kws_cons (thn ((pe_int (X := X) (i := c0)).run pins s1 σ H1 (fun v H' => v = .int c0 ∧ H' = H1) I1 ⟨rfl, rfl⟩) fun u s2 ⟨v2, H2, I2', ru, ev, eh⟩ => PyProof.Rows.kws_nil ?_)
    subst ev eh
    obtain ⟨tk, rfl⟩ := ru
    obtain ⟨its, rv, p', hz⟩ := I2'.list hq
    refine enum_begins_start (begins_list a its.toArray) p'.isList h0 h1 fun h' he hit hsz hk => wpAny_pyIter_enum he ?_
    have I2 : Inv X pins σ H2 { s2 with heap := h' } := I2'.kept (t' := s2.toks) hk
    have hal : a < s2.heap.objs.size := by
      obtain ⟨o, ho, _⟩ := p'.isList
      exact Heap.lt_size ho
    refine ⟨s2.heap.objs.size + 1, [s2.heap.objs.size + 1, s2.heap.objs.size], _, _, H2, rfl, I2, turn_enumS a (s2.heap.objs.size + 1) s2.heap.objs.size c0, ⟨⟨.none, by simpa using he⟩, ⟨_, hit, rfl, rfl⟩, Nat.succ_ne_self _, Nat.ne_of_lt hal, Nat.ne_of_lt (Nat.lt_succ_of_lt hal)⟩, fun b hb => ?_, q⟩
    have e' : b = s2.heap.objs.size + 1 ∨ b = s2.heap.objs.size := by simpa using hb
    have hle : s2.heap.objs.size ≤ b := by
      rcases e' with z | z
      · rw [z]; exact Nat.le_add_right _ _
      · rw [z]; exact Nat.le_refl _
    exact I2'.fpOk hle (I2'.hok.fresh hle)
end L2

/-! list(a text); str(an int or a text). -/
namespace L2
open PySem PySem.Spec PyProof.Rows
def signsV (x : Str) : List V := x.cps.toList.map fun c => V.str ⟨#[c]⟩
def rListS1 : List V → Hp → VK → Prop := fun xs H Q => ∃ x : Str, xs = [.str x] ∧ x.length ≤ sizeLine ∧ ∀ l, H l = none → Q (.ref l) (upd H l (.lst (signsV x)))
theorem call_listStr {X : Cx} (hc : X.calm = true) : CallR X (.type "list") rListS1 := by
  intro pins s σ H xs us Q I r h
  obtain ⟨x, rfl, hz, q⟩ := h
  obtain ⟨u, rfl, rx⟩ := vals1 r
  obtain ⟨t, rfl⟩ := rx
  have hl : (signsV x).length = x.cps.size := by
    unfold signsV
    rw [List.length_map, Array.length_toList]
  refine call_list_str (I.ok.hd hc) x t (fun h' tk acc c' hk e hi => ?_) hz
  refine ⟨.ref s.heap.objs.size, upd H s.heap.objs.size (.lst (signsV x)), I.laid hk (Nat.le_refl _) ⟨by rw [hl]; exact hz, acc.toList, c', ?_, by rw [Array.toArray_toList]; exact e⟩, rfl, q _ (I.hok.fresh (Nat.le_refl _))⟩
  refine vals_of_idx _ _ (by rw [hl, Array.length_toList]; exact hi.1) fun j u hj => ?_
  obtain ⟨c, t', hc, rfl⟩ := hi.2 j u (by rw [← Array.getElem?_toList]; exact hj)
  exact ⟨.str ⟨#[c]⟩, by simp [signsV, hc], ⟨_, rfl⟩⟩
def rStrIS : List V → Hp → VK → Prop := fun xs H Q => (∃ i, xs = [.int i] ∧ i.natAbs.log2 < 1920 ∧ Q (.str (toString i)) H) ∨ ∃ a, xs = [.str a] ∧ Q (.str a) H
theorem call_strIS {X : Cx} : CallR X (.type "str") rStrIS := by
  intro pins s σ H xs us Q I r h
  rcases h with h | h
  · exact call_str_int pins s σ H xs us Q I r h
  · exact SkE.call_str_str pins s σ H xs us Q I r h
end L2

/-! Texts of styles: how they are written, by the program and by the law. -/
namespace Tx
open PySem L2 Evl Dg Dt TL StX ClX LamR LamX
open Dr (StAt SameB)
abbrev sWordsOf : Stmt := top 44
abbrev sRuleText : Stmt := top 45
abbrev sStyleText : Stmt := top 46
abbrev sLWords : Stmt := top 62
abbrev sLText : Stmt := top 63
/-- a word of a part -/
def valW : PyData → Str
  | .none => "*"
  | .int i => toString i
  | .str x => x
  | _ => ""
def partW (d : PyData) : List Str := (tupD d).map valW
def condsOf (d : PyData) : List PyData := tupD (at_ 0 d)
def keepOf (d : PyData) : PyData := at_ 1 d
/-- the words of a rule -/
def ruleW (d : PyData) : List Str := partW (keepOf d) ++ (if (condsOf d).isEmpty then [] else ("when" : Str) :: (condsOf d).flatMap partW)
/-- the text of a style -/
def styT (β : Nat) (Ds : List PyData) : Str := Txt.join "\n" ((("base " : Str) ++ toString (β : Int)) :: Ds.map fun d => Txt.join " " (ruleW d))
/-- a value that stands in a part: none, a size, a short text -/
inductive ItS : PyData → Prop
  | non : ItS .none
  | int (i : Int) (h0 : 0 ≤ i) (h6 : i ≤ 6) : ItS (.int i)
  | str (x : Str) (h : x.length ≤ 7) (k : ∀ c ∈ tl x, 33 ≤ c ∧ c < 128) : ItS (.str x)
theorem word_ok {w : Str} (h : w = "ends" ∨ w = "near" ∨ w = "length" ∨ w = "changed" ∨ w = "all" ∨ w = "last" ∨ w = "when" ∨ w = "*" ∨ w = "base") : w.length ≤ 7 ∧ ∀ c ∈ tl w, 33 ≤ c ∧ c < 128 := by
  rcases h with rfl | rfl | rfl | rfl | rfl | rfl | rfl | rfl | rfl <;> decide
theorem it_word {w : Str} (h : w = "ends" ∨ w = "near" ∨ w = "length" ∨ w = "changed" ∨ w = "all" ∨ w = "last" ∨ w = "when" ∨ w = "*" ∨ w = "base") : ItS (.str w) := .str w (word_ok h).1 (word_ok h).2
theorem num_ok : ∀ n : Nat, n ≤ 10 → (toString (n : Int) : Str).length ≤ 2 ∧ ∀ c ∈ tl (toString (n : Int) : Str), 33 ≤ c ∧ c < 128 := by
  have h : ∀ n : Nat, n < 11 → (toString (n : Int) : Str).length ≤ 2 ∧ ∀ c ∈ tl (toString (n : Int) : Str), 33 ≤ c ∧ c < 128 := by decide +kernel
  exact fun n hn => h n (by omega)
theorem num_int {i : Int} (h0 : 0 ≤ i) (h6 : i ≤ 10) : (toString i : Str).length ≤ 2 ∧ ∀ c ∈ tl (toString i : Str), 33 ≤ c ∧ c < 128 := by
  have := num_ok i.toNat (by omega)
  rw [Int.toNat_of_nonneg h0] at this
  exact this
theorem figs_word {β : Nat} {x : Str} (b10 : β ≤ 10) (h : isFigs β 2 x = true) : x.length ≤ 7 ∧ ∀ c ∈ tl x, 33 ≤ c ∧ c < 128 := by
  unfold isFigs at h
  obtain ⟨h1, h2⟩ := Bool.and_eq_true_iff.mp h
  obtain ⟨h3, h4⟩ := Bool.and_eq_true_iff.mp h1
  have h4 := of_decide_eq_true h4
  exact ⟨by omega, fun c hc => by
    have := of_decide_eq_true (List.all_eq_true.mp h2 c hc)
    omega⟩
/-- a condition, or what is kept -/
def PartS (β : Nat) (d : PyData) : Prop := CondS β d ∨ KeepS d
theorem part_items {β : Nat} {d : PyData} (b10 : β ≤ 10) (h : PartS β d) : ∃ ds, d = .tuple ds ∧ 1 ≤ ds.length ∧ ds.length ≤ 3 ∧ ∀ e ∈ ds, ItS e := by
  rcases h with h | h
  · cases h with
    | ends x hx => exact ⟨_, rfl, by simp, by simp, fun e he => by
        rcases List.mem_cons.mp he with rfl | he
        · exact it_word (by simp)
        · rw [List.mem_singleton.mp he]
          exact .str x (figs_word b10 hx).1 (figs_word b10 hx).2⟩
    | near i h0 h6 => exact ⟨_, rfl, by simp, by simp, fun e he => by
        rcases List.mem_cons.mp he with rfl | he
        · exact it_word (by simp)
        · rw [List.mem_singleton.mp he]
          exact .int i h0 h6⟩
    | len w hw i h1 h6 e0 he0 => exact ⟨_, rfl, by simp, by simp, fun e he => by
        rcases List.mem_cons.mp he with rfl | he
        · exact it_word (by rcases hw with rfl | rfl <;> simp)
        · rcases List.mem_cons.mp he with rfl | he
          · exact .int i (by omega) h6
          · rw [List.mem_singleton.mp he]
            rcases he0 with rfl | ⟨j, rfl, j1, j6⟩
            · exact .non
            · exact .int j (by omega) j6⟩
  · cases h with
    | all => exact ⟨_, rfl, by simp, by simp, fun e he => by
        rw [List.mem_singleton.mp he]
        exact it_word (by simp)⟩
    | size w hw i h1 h6 => exact ⟨_, rfl, by simp, by simp, fun e he => by
        rcases List.mem_cons.mp he with rfl | he
        · exact it_word (by rcases hw with rfl | rfl <;> simp)
        · rw [List.mem_singleton.mp he]
          exact .int i (by omega) h6⟩
theorem it_val {d : PyData} (h : ItS d) : (valW d).length ≤ 7 ∧ ∀ c ∈ tl (valW d), 33 ≤ c ∧ c < 128 := by
  cases h with
  | non => exact word_ok (w := "*") (by simp)
  | int i h0 h6 => exact ⟨Nat.le_trans (num_int h0 (by omega)).1 (by decide), (num_int h0 (by omega)).2⟩
  | str x h k => exact ⟨h, k⟩
theorem partW_ok {β : Nat} {d : PyData} (b10 : β ≤ 10) (h : PartS β d) : partW d ≠ [] ∧ (partW d).length ≤ 3 ∧ ∀ w ∈ partW d, w.length ≤ 7 ∧ ∀ c ∈ tl w, 33 ≤ c ∧ c < 128 := by
  obtain ⟨ds, rfl, h1, h3, hi⟩ := part_items b10 h
  refine ⟨fun z => ?_, by show (ds.map valW).length ≤ 3; rw [List.length_map]; exact h3, fun w hw => ?_⟩
  · have : ds = [] := List.map_eq_nil_iff.mp z
    rw [this] at h1
    simp at h1
  · obtain ⟨e, he, rfl⟩ := List.mem_map.mp hw
    exact it_val (hi e he)
theorem sum_le {qs : List Str} {m n : Nat} (h : ∀ q ∈ qs, q.length ≤ m) (hn : qs.length ≤ n) : (qs.map (·.length)).sum ≤ m * n := by
  have : (qs.map (·.length)).sum ≤ m * qs.length := by
    induction qs with
    | nil => exact Nat.zero_le _
    | cons q qs ih =>
      rw [List.map_cons, List.sum_cons, List.length_cons, Nat.mul_succ]
      have := h q List.mem_cons_self
      have := ih (fun q hq => h q (List.mem_cons_of_mem _ hq)) (by rw [List.length_cons] at hn; omega)
      omega
  exact Nat.le_trans this (Nat.mul_le_mul_left _ hn)
theorem join_lenB {a : Str} {qs : List Str} {m n : Nat} (h : ∀ q ∈ qs, q.length ≤ m) (hn : qs.length ≤ n) : (Txt.join a qs).length ≤ n * (m + a.length) := by
  rw [len_t, tl_joinT]
  have := len_joinL (s := tl a) (m := m) (ls := qs.map tl) fun l hl => by
    obtain ⟨x, hx, rfl⟩ := List.mem_map.mp hl
    rw [← len_t]
    exact h x hx
  rw [List.length_map, ← len_t] at this
  exact Nat.le_trans this (Nat.mul_le_mul_right _ hn)
abbrev rJoin (K : PySem.W.Frag) : V → List V → Hp → VK → Prop := fun x xs H Q => ∃ a p, ∃ ys : List Str, x = .str a ∧ xs = [.ref p] ∧ (SqL K H p (ys.map V.str) ∨ SqT K H p (ys.map V.str)) ∧ (ys.map (·.length)).sum + ys.length * a.length ≤ 16777216 ∧ Q (.str (Txt.join a ys)) H
section
variable {K : PySem.W.Frag} {σ : St} {H : Hp} {ta tb te : TE}
theorem ev_join {a : Str} {ys : List Str} (h : EvL te σ H (ys.map V.str)) (hz : (ys.map (·.length)).sum + ys.length * a.length ≤ 16777216) : Ev (tM1 (rJoin K) (tC (.str a)) te) σ H (.str (Txt.join a ys)) := fun H1 e Q q =>
  ⟨⟨a, rfl⟩, h H1 e _ fun p H2 hp e2 h2 => ⟨a, p, ys, rfl, rfl, .inl (sq_of h2), hz, q H2 e2⟩⟩
abbrev rIsN : R2 := fun x y H Q => y = .non ∧ Q (.bl (decide (x = .non))) H
theorem el_catLL {xs ys : List V} (ha : EvL ta σ H xs) (hb : EvL tb σ H ys) (hz : xs.length + ys.length ≤ 100000) : EvL (tOp rCat ta tb) σ H (xs ++ ys) := fun H1 e Q q =>
  ha H1 e _ fun p H2 hp e2 h2 => hb H2 (e.trans e2) _ fun p3 H3 hp3 e3 h3 => ⟨p, p3, xs, ys, rfl, rfl, e3 _ _ h2, h3, sz_of hz, fun l hl => q l _ (fresh_back (e2.trans e3) hl) ((e2.trans e3).trans (Ex.new hl)) upd_same⟩
theorem el_repE {xs : List V} {k : Nat} (ha : EvL ta σ H xs) (hb : Ev tb σ H (.int (k : Int))) (h0 : k ≤ 100) (hz : xs.length ≤ 100) : EvL (tOp rRep ta tb) σ H (List.replicate k xs).flatten := fun H1 e Q q =>
  ha H1 e _ fun p H2 hp e2 h2 => hb H2 (e.trans e2) _ fun H3 e3 => ⟨p, k, xs, rfl, rfl, e3 _ _ h2, by omega, by omega, by
    rw [sizeLine_eq, Int.toNat_natCast]
    have : xs.length * k ≤ 100 * 100 := Nat.mul_le_mul hz h0
    omega, fun l hl => q l _ (fresh_back (e2.trans e3) hl) ((e2.trans e3).trans (Ex.new hl)) upd_same⟩
theorem ev_strIS {d : PyData} {v : V} (h : Ev te σ H v) (k : Pt H v d) (hd : ItS d) (hn : d ≠ .none) : Ev (tCB rStrIS (tCons te tNil)) σ H (.str (valW d)) :=
  ev_cb (ea_cons h ea_nil) fun H1 e Q q => by
    cases hd with
    | non => exact absurd rfl hn
    | int i h0 h6 =>
      cases k
      refine .inl ⟨i, rfl, ?_, q H1 (Ex.refl H1)⟩
      have : i.natAbs ≤ 6 := by omega
      have : ∀ n ≤ 6, n.log2 < 1920 := by decide
      exact this _ (by omega)
    | str x hx hc =>
      cases k
      exact .inr ⟨x, rfl, q H1 (Ex.refl H1)⟩
end
structure TxTx (K : PySem.W.Frag) (mg : Str → Option Value) (fw fr C : Addr) : Prop where
  words : mg "words_of" = some (.ref fw)
  kWo : PySem.W.keepIn K (.ref fw) = true
  rtext : mg "rule_text" = some (.ref fr)
  kRt : PySem.W.keepIn K (.ref fr) = true
  unb : ∃ t, mg "UNBOUNDED" = some (.str "*" t)
  str : mg "str" = none
  len : mg "len" = none
  cl : Cls K C
section
variable {P : Program} {w : World} {K : PySem.W.Frag} {mg : Str → Option Value} {base : Heap} {fw fr C flw : Addr}
/-- the words of a part, one by one -/
theorem el_words {σ : St} {H : Hp} {tl' te : TE} {j : Nat} {a : Addr} {xs : List V} {ds : List PyData} (h : Ev tl' σ H (.ref a)) (ha : H a = some (.tup xs)) (ka : PtAll H xs ds) (hn : ds.length ≤ 3) (hw : ∀ x, wipe ((wipe σ [j]).set j (some x)) [j] = wipe σ [j])
    (he : ∀ (x : V) (d : PyData) H1, Ex H H1 → d ∈ ds → Pt H1 x d → Ev te ((wipe σ [j]).set j (some x)) H1 (.str (valW d))) : EvL (tLc (iTup K tl') (gName j) tYes te [j]) σ H ((ds.map valW).map V.str) := by
  have eL := el_lcT (K := K) (σ := σ) (H := H) (tl := tl') (j := j) (vs := [j]) (t := tYes) (te := te) (fun _ => true) (fun i => ((ds.map valW).map V.str).getD i .non) h (st_of ha) (by rw [ka.length]; omega) hw (fun i x H4 e4 hx => fun H5 e5 Q5 q5 => q5 H5 (Ex.refl _)) (fun i x H4 e4 hx _ => by
    obtain ⟨d, hd, kd⟩ := ka.get2 hx
    have e : ((ds.map valW).map V.str).getD i .non = V.str (valW d) := by
      rw [List.getD_eq_getElem?_getD, List.getElem?_map, List.getElem?_map, hd]
      rfl
    rw [e]
    exact he x d H4 e4 (List.mem_of_getElem? hd) (kd.ex e4))
  rw [show xs.length = ((ds.map valW).map V.str).length by rw [List.length_map, List.length_map, ka.length], given_one] at eL
  exact eL
def spWordsOf : Sp := fun vs H Q _ => ∃ v d β, vs = [v] ∧ Pt H v d ∧ β ≤ 10 ∧ PartS β d ∧ RetV (.str (Txt.join " " (partW d))) H Q
theorem scWordsOf : FnScope ["part", "value"] ["part"] (defScope sWordsOf) := ⟨rfl, rfl, rfl, by decide +kernel, rfl, by decide +kernel, by decide +kernel⟩
theorem ev_wordIf {σ : St} {H : Hp} {te t0 : TE} {v : V} {d : PyData} (h : Ev te σ H v) (h0 : Ev t0 σ H (.str "*")) (k : Pt H v d) (hd : ItS d) : Ev (tIf (tTest (tOp rIsN te (tC .non))) t0 (tCB rStrIS (tCons te tNil))) σ H (.str (valW d)) := by
  cases hd with
  | non =>
    cases k
    exact ev_if (b := true) (et_test (ev_op h ev_c fun H1 e1 Q1 q1 => ⟨rfl, q1 H1 (Ex.refl H1)⟩)) (fun _ => h0) (fun z => nomatch z)
  | int i h0' h6 =>
    have k' := k
    cases k
    exact ev_if (b := false) (et_test (ev_op h ev_c fun H1 e1 Q1 q1 => ⟨rfl, q1 H1 (Ex.refl H1)⟩)) (fun z => nomatch z) (fun _ => ev_strIS h k' (.int i h0' h6) (fun z => nomatch z))
  | str x hx hc =>
    have k' := k
    cases k
    exact ev_if (b := false) (et_test (ev_op h ev_c fun H1 e1 Q1 q1 => ⟨rfl, q1 H1 (Ex.refl H1)⟩)) (fun z => nomatch z) (fun _ => ev_strIS h k' (.str x hx hc) (fun z => nomatch z))
theorem ok_wordsOf {f : Addr} {fd : FuncData} (F : Fun K "words_of" "words_of" sWordsOf f fd) (T : TxTx K mg fw fr C) : FnOk P w K mg base CX0 1 f fd ["part"] spWordsOf := by
  refine F.ok scWordsOf (fun vs H Q E h => ?_) (fun cdv A outer s H vs Q E hr h => ?_)
  · obtain ⟨_, _, _, rfl, _⟩ := h
    rfl
  · obtain ⟨v, d, β, rfl, k, b10, hp, q⟩ := h
    obtain ⟨tu, hu⟩ := T.unb
    refine ⟨_, pss_one (ps_ret (pe_join pe_str (pe_lc (own := [("value", 1)]) (g := gName 1) (tt := tYes) (te := tIf (tTest (tOp rIsN (tVar 1) (tC .non))) (tC (.str "*")) (tCB rStrIS (tCons (tVar 1) tNil))) rfl scWordsOf.nd (pi_tup (pv 0)) (blkOk_by (own := [("value", 1)]) (N := ["part", "value"]) (sc := defScope sWordsOf) (by decide +kernel)) (fun _ _ _ _ _ => pg_name (i := 1) scWordsOf.nd rfl (Or.inl rfl)) (fun _ _ _ _ _ => pts_nil)
      (fun _ _ _ _ _ => pe_ifExp (pt_cmpR op_isN (pv 1) pe_non (nomark _)) (pe_glob (by rfl) hu (v := .str "*") ⟨_, rfl⟩) (pe_callTy (T := "str") (r := rStrIS) call_strIS (by rfl) T.str (by decide +kernel) (pa_cons (pv 1) pa_nil)))))), ?_⟩
    obtain ⟨ds, rfl, h1, h3, hi⟩ := part_items b10 hp
    obtain ⟨a, xs, rfl, ha, ka⟩ := k.tupI'
    have hl := sum_le (qs := ds.map valW) (m := 7) (n := 3) (fun q hq => by
      obtain ⟨e, he, rfl⟩ := List.mem_map.mp hq
      exact (it_val (hi e he)).1) (by rw [List.length_map]; exact h3)
    have one : (" " : Str).length = 1 := by decide
    refine s_ret (ev_join (K := K) (ys := ds.map valW) (el_words (j := 1) (ev_var rfl) ha ka h3 (fun _ => rfl) fun x e H1 e1 he ke => ev_wordIf (ev_var rfl) ev_c ke (hi e he)) ?_) fun H1 e1 => q H1 e1
    rw [one, List.length_map]
    omega
theorem rule_parts {β : Nat} {d : PyData} (h : ruleB β d = true) : ∃ cs k, d = .tuple [.tuple cs, k] ∧ cs.length ≤ 3 ∧ (∀ c ∈ cs, CondS β c) ∧ KeepS k := rule_inv h
theorem ruleW_eq (cs : List PyData) (k : PyData) : ruleW (.tuple [.tuple cs, k]) = partW k ++ (if cs.isEmpty then [] else ("when" : Str) :: cs.flatMap partW) := rfl
theorem ruleW_ok {β : Nat} {d : PyData} (b10 : β ≤ 10) (h : ruleB β d = true) : ruleW d ≠ [] ∧ (ruleW d).length ≤ 13 ∧ ∀ w ∈ ruleW d, w.length ≤ 7 ∧ ∀ c ∈ tl w, 33 ≤ c ∧ c < 128 := by
  obtain ⟨cs, k, rfl, h3, hc, hk⟩ := rule_parts h
  rw [ruleW_eq]
  obtain ⟨k1, k2, k3⟩ := partW_ok b10 (.inr hk)
  have hf : ∀ cs : List PyData, (∀ c ∈ cs, CondS β c) → (cs.flatMap partW).length ≤ 3 * cs.length ∧ ∀ w ∈ cs.flatMap partW, w.length ≤ 7 ∧ ∀ c ∈ tl w, 33 ≤ c ∧ c < 128 := by
    intro cs
    induction cs with
    | nil => intro _; exact ⟨by simp, by simp⟩
    | cons c cs ih =>
      intro h
      obtain ⟨i1, i2⟩ := ih fun e he => h e (List.mem_cons_of_mem _ he)
      obtain ⟨_, c2, c3⟩ := partW_ok b10 (.inl (h c List.mem_cons_self))
      refine ⟨by rw [List.flatMap_cons, List.length_append, List.length_cons]; omega, fun w hw => ?_⟩
      rw [List.flatMap_cons] at hw
      rcases List.mem_append.mp hw with h | h
      · exact c3 w h
      · exact i2 w h
  obtain ⟨f1, f2⟩ := hf cs hc
  refine ⟨fun z => k1 (List.append_eq_nil_iff.mp z).1, ?_, fun w hw => ?_⟩
  · rw [List.length_append]
    cases cs with
    | nil => simp; omega
    | cons c cs =>
      rw [show (if (c :: cs).isEmpty = true then ([] : List Str) else ("when" : Str) :: (c :: cs).flatMap partW) = ("when" : Str) :: (c :: cs).flatMap partW from rfl, List.length_cons]
      omega
  · rcases List.mem_append.mp hw with h | h
    · exact k3 w h
    · cases cs with
      | nil => cases h
      | cons c cs =>
        rcases List.mem_cons.mp h with rfl | h
        · exact word_ok (by simp)
        · exact f2 w h
theorem lineW_len {β : Nat} {d : PyData} (b10 : β ≤ 10) (h : ruleB β d = true) : (Txt.join " " (ruleW d)).length ≤ 104 := by
  obtain ⟨_, h2, h3⟩ := ruleW_ok b10 h
  exact join_lenB (a := " ") (m := 7) (n := 13) (fun q hq => (h3 q hq).1) h2
/-- the rule's line as the program puts it together -/
theorem rule_join {β : Nat} {cs : List PyData} {k : PyData} (b10 : β ≤ 10) (hk : KeepS k) (hc : ∀ c ∈ cs, CondS β c) (hn : cs.isEmpty = false) : Txt.join " " ([Txt.join " " (partW k), "when"] ++ cs.map fun c => Txt.join " " (partW c)) = Txt.join " " (ruleW (.tuple [.tuple cs, k])) := by
  have e : [Txt.join " " (partW k), "when"] ++ (cs.map fun c => Txt.join " " (partW c)) = (partW k :: ["when"] :: cs.map partW).map (Txt.join " ") := by
    rw [List.map_cons, List.map_cons, List.map_map]
    rfl
  rw [e, join_join (a := " ") (fun x hx => ?_), ruleW_eq, hn]
  · congr 1
  · rcases List.mem_cons.mp hx with rfl | hx
    · exact (partW_ok b10 (.inr hk)).1
    · rcases List.mem_cons.mp hx with rfl | hx
      · simp
      · obtain ⟨c, hcm, rfl⟩ := List.mem_map.mp hx
        exact (partW_ok b10 (.inl (hc c hcm))).1
def spRuleText : Sp := fun vs H Q _ => ∃ v d β, vs = [v] ∧ Pt H v d ∧ β ≤ 10 ∧ ruleB β d = true ∧ RetV (.str (Txt.join " " (ruleW d))) H Q
theorem scRuleText : FnScope ["rule", "conditions", "keep", "condition"] ["rule"] (defScope sRuleText) := ⟨rfl, rfl, rfl, by decide +kernel, rfl, by decide +kernel, by decide +kernel⟩
theorem ev_wordsOf {σ : St} {H : Hp} {te : TE} {v : V} {d : PyData} {β : Nat} {E : XK} (h : Ev te σ H v) (k : Pt H v d) (b10 : β ≤ 10) (hp : PartS β d) : Ev (tCall spWordsOf [] E (tCons te tNil)) σ H (.str (Txt.join " " (partW d))) :=
  ev_call (ea_cons h ea_nil) fun H1 e Q q E => ⟨v, d, β, rfl, k.ex e, b10, hp, fun H2 e2 => q H2 e2⟩
theorem ok_ruleText {f : Addr} {fd fd1 : FuncData} (F : Fun K "rule_text" "rule_text" sRuleText f fd) (GW : FnOk P w K mg base CX0 1 fw fd1 ["part"] spWordsOf) (bW : Binds K fd1 ["part"] []) (T : TxTx K mg fw fr C) : FnOk P w K mg base CX0 2 f fd ["rule"] spRuleText := by
  refine F.ok scRuleText (fun vs H Q E h => ?_) (fun cdv A outer s H vs Q E hr h => ?_)
  · obtain ⟨_, _, _, rfl, _⟩ := h
    rfl
  · obtain ⟨v, d, β, rfl, k, b10, hp, q⟩ := h
    refine ⟨_, pss_cons (ps_asg (pv 0) (pg_tup (by rfl) (pgs_cons (pg_name (i := 1) scRuleText.nd rfl (.inl rfl)) (pgs_cons (pg_name (i := 2) scRuleText.nd rfl (.inl rfl)) pgs_nil))))
      (pss_cons (ps_if (pt_cmpR op_eq (pe_callB (id := "len") (r := rLenS K) call_len_seq (by rfl) T.len (by decide +kernel) (pa_cons (pv 1) pa_nil)) pe_int (nomark _)) (pss_one (ps_ret (pe_call GW hr (by rfl) T.words T.kWo bW .nil pass0 (pa_cons (pv 2) pa_nil)))) pss_nil)
      (pss_one (ps_ret (pe_join pe_str (pe_op op_cat (pe_lst (pa_cons (pe_call GW hr (by rfl) T.words T.kWo bW .nil pass0 (pa_cons (pv 2) pa_nil)) (pa_cons pe_str pa_nil)))
        (pe_lc (own := [("condition", 3)]) (g := gName 3) (tt := tYes) (te := tCall spWordsOf [] E0 (tCons (tVar 3) tNil)) rfl scRuleText.nd (pi_tup (pv 1)) (blkOk_by (own := [("condition", 3)]) (N := ["rule", "conditions", "keep", "condition"]) (sc := defScope sRuleText) (by decide +kernel)) (fun _ _ _ _ _ => pg_name (i := 3) scRuleText.nd rfl (Or.inl rfl)) (fun _ _ _ _ _ => pts_nil)
          (fun _ _ _ _ _ => pe_call GW hr (by rfl) T.words T.kWo bW .nil pass0 (pa_cons (pv 3) pa_nil)))))))), ?_⟩
    obtain ⟨cs, kd, rfl, h3, hc, hk⟩ := rule_parts hp
    obtain ⟨a, xs, rfl, ha, ka⟩ := k.tupI'
    cases ka with
    | @cons v1 _ _ _ k1 ka =>
      cases ka with
      | @cons v2 _ _ _ k2 ka =>
        cases ka
        obtain ⟨ac, us, rfl, hac, kc⟩ := k1.tupI'
        have hcl := kc.length
        refine ⟨_, rfl, a, _, rfl, st_of ha, rfl, _, _, rfl, _, _, rfl, rfl, ?_⟩
        show tSeq _ _ _ [some (.ref a), some (.ref ac), some v2, none] H
        refine q_when (b := cs.isEmpty) (et_is (et_test (ev_op (ev_lenT (K := K) (ev_var rfl) hac) ev_c (rv_eq rfl))) ?_) (fun z H1 e1 => ?_) (fun z H1 e1 => ?_)
        · rw [hcl]
          cases cs with
          | nil => rfl
          | cons c cs =>
            exact decide_eq_false fun z => by
              injection z with z
              rw [List.length_cons] at z
              omega
        · have : cs = [] := List.isEmpty_iff.mp z
          subst this
          refine s_ret (ev_wordsOf (ev_var rfl) (k2.ex e1) b10 (.inr hk)) fun H2 e2 => ?_
          have := q H2 (e1.trans e2)
          rw [ruleW_eq, show (if ([] : List PyData).isEmpty = true then ([] : List Str) else "when" :: ([] : List PyData).flatMap partW) = [] from rfl, List.append_nil] at this
          exact this
        · have eL := el_lcT (K := K) (σ := [some (.ref a), some (.ref ac), some v2, none]) (H := H1) (tl := tVar 1) (j := 3) (vs := [3]) (t := tYes) (te := tCall spWordsOf [] E0 (tCons (tVar 3) tNil)) (fun _ => true) (fun i => ((cs.map fun c => Txt.join " " (partW c)).map V.str).getD i .non) (ev_var rfl) (st_of (e1 _ _ hac)) (by omega) (fun _ => rfl) (fun i x H4 e4 hx => fun H5 e5 Q5 q5 => q5 H5 (Ex.refl _)) (fun i x H4 e4 hx _ => by
            obtain ⟨d, hd, kd⟩ := (kc.ex (e1.trans e4)).get2 hx
            have e : ((cs.map fun c => Txt.join " " (partW c)).map V.str).getD i .non = V.str (Txt.join " " (partW d)) := by
              rw [List.getD_eq_getElem?_getD, List.getElem?_map, List.getElem?_map, hd]
              rfl
            rw [e]
            exact ev_wordsOf (ev_var rfl) kd b10 (.inl (hc d (List.mem_of_getElem? hd))))
          rw [show us.length = ((cs.map fun c => Txt.join " " (partW c)).map V.str).length by rw [List.length_map, List.length_map, hcl], given_one] at eL
          have one : (" " : Str).length = 1 := by decide
          have plen : ∀ d : PyData, PartS β d → (Txt.join " " (partW d)).length ≤ 24 := fun d hd => by
            obtain ⟨_, p2, p3⟩ := partW_ok b10 hd
            exact join_lenB (a := " ") (m := 7) (n := 3) (fun q hq => (p3 q hq).1) p2
          have hs := sum_le (qs := [Txt.join " " (partW kd), "when"] ++ cs.map fun c => Txt.join " " (partW c)) (m := 24) (n := 5) (fun q hq => by
            rcases List.mem_append.mp hq with h | h
            · rcases List.mem_cons.mp h with rfl | h
              · exact plen _ (.inr hk)
              · rw [List.mem_singleton.mp h]
                decide
            · obtain ⟨c, hcm, rfl⟩ := List.mem_map.mp h
              exact plen c (.inl (hc c hcm))) (by rw [List.length_append, List.length_map]; simp only [List.length_cons, List.length_nil]; omega)
          have hj := rule_join b10 hk hc z
          rw [← hj] at q
          refine s_ret (ev_join (K := K) (ys := [Txt.join " " (partW kd), "when"] ++ cs.map fun c => Txt.join " " (partW c)) ?_ ?_) fun H2 e2 => q H2 (e1.trans e2)
          · rw [List.map_append]
            exact el_catLL (el_lst (vs := [.str (Txt.join " " (partW kd)), .str "when"]) (ea_cons (ev_wordsOf (ev_var rfl) (k2.ex e1) b10 (.inr hk)) (ea_cons ev_c ea_nil)) (by simp)) eL (by simp only [List.length_map, List.length_cons, List.length_nil]; omega)
          · rw [one, List.length_append, List.length_map]
            simp only [List.length_cons, List.length_nil]
            omega
/-- the lines of a style -/
def linesT (β : Nat) (Ds : List PyData) : List Str := (("base " : Str) ++ toString (β : Int)) :: Ds.map fun d => Txt.join " " (ruleW d)
theorem styT_lines (β : Nat) (Ds : List PyData) : styT β Ds = Txt.join "\n" (linesT β Ds) := rfl
theorem base_len {β : Nat} (b10 : β ≤ 10) : (("base " : Str) ++ toString (β : Int)).length ≤ 7 := by
  rw [len_append]
  have := (num_ok β b10).1
  have : ("base " : Str).length = 5 := by decide
  omega
theorem lines_sum {β : Nat} {Ds : List PyData} (b10 : β ≤ 10) (ha : Ds.all (ruleB β) = true) (h8 : Ds.length ≤ 8) : ((linesT β Ds).map (·.length)).sum + (linesT β Ds).length * ("\n" : Str).length ≤ 16777216 ∧ (styT β Ds).length ≤ 1000 := by
  have hl : ∀ q ∈ linesT β Ds, q.length ≤ 104 := fun q hq => by
    rcases List.mem_cons.mp hq with rfl | hq
    · exact Nat.le_trans (base_len b10) (by decide)
    · obtain ⟨d, hd, rfl⟩ := List.mem_map.mp hq
      exact lineW_len b10 (List.all_eq_true.mp ha d hd)
  have hn : (linesT β Ds).length ≤ 9 := by
    show (_ :: _).length ≤ 9
    rw [List.length_cons, List.length_map]
    omega
  have one : ("\n" : Str).length = 1 := by decide
  refine ⟨?_, Nat.le_trans (join_lenB (a := "\n") hl hn) (by decide)⟩
  have := sum_le hl hn
  rw [one]
  omega
def spStyleText (C : Addr) : Sp := fun vs H Q _ => ∃ (x : Addr) (β : Nat) (Ds : List PyData), vs = [.ref x] ∧ StyAt H C x β Ds ∧ β ≤ 10 ∧ Ds.all (ruleB β) = true ∧ Ds.length ≤ 8 ∧ RetV (.str (styT β Ds)) H Q
theorem scStyleText : FnScope ["style", "rule"] ["style"] (defScope sStyleText) := ⟨rfl, rfl, rfl, by decide +kernel, rfl, by decide +kernel, by decide +kernel⟩
theorem ok_styleText {f pb gb pr gr : Addr} {fd fd1 fd2 fd3 : FuncData} (F : Fun K "style_text" "style_text" sStyleText f fd) (GR : FnOk P w K mg base CX0 2 fr fd1 ["rule"] spRuleText) (bR : Binds K fd1 ["rule"] [])
    (pB : PropOf K C "base" pb gb) (G2 : FnOk P w K mg base CX0 1 gb fd2 ["self"] (getSp C "stored_base")) (b2 : Binds K fd2 ["self"] []) (pR : PropOf K C "rules" pr gr) (G3 : FnOk P w K mg base CX0 1 gr fd3 ["self"] (getSp C "stored_rules")) (b3 : Binds K fd3 ["self"] []) (T : TxTx K mg fw fr C) : FnOk P w K mg base CX0 3 f fd ["style"] (spStyleText C) := by
  refine F.ok scStyleText (fun vs H Q E h => ?_) (fun cdv A outer s H vs Q E hr h => ?_)
  · obtain ⟨_, _, _, rfl, _⟩ := h
    rfl
  · obtain ⟨x, β, Ds, rfl, sty, b10, hall, h8, q⟩ := h
    refine ⟨_, pss_one (ps_ret (pe_join pe_str (pe_op op_cat (pe_lst (pa_cons (pe_joined (PJ.cons pe_str (PJ.cons (pe_fmt (pe_prop (pv 0) T.cl pB G2 (hr.mono (by decide)) b2 .nil pass0 rfl)) PJ.nil))) pa_nil))
        (pe_lc (own := [("rule", 1)]) (g := gName 1) (tt := tYes) (te := tCall spRuleText [] E0 (tCons (tVar 1) tNil)) rfl scStyleText.nd (pi_tup (pe_prop (pv 0) T.cl pR G3 (hr.mono (by decide)) b3 .nil pass0 rfl)) (blkOk_by (own := [("rule", 1)]) (N := ["style", "rule"]) (sc := defScope sStyleText) (by decide +kernel)) (fun _ _ _ _ _ => pg_name (i := 1) scStyleText.nd rfl (Or.inl rfl)) (fun _ _ _ _ _ => pts_nil)
          (fun _ _ _ _ _ => pe_call GR hr (by rfl) T.rtext T.kRt bR .nil pass0 (pa_cons (pv 1) pa_nil)))))), ?_⟩
    obtain ⟨hs, _⟩ := lines_sum b10 hall h8
    refine s_ret (ev_join (K := K) (ys := linesT β Ds) ?_ hs) fun H2 e2 => q H2 e2
    refine el_catLL (el_lst (vs := [.str (("base " : Str) ++ toString (β : Int))]) (ea_cons ?_ ea_nil) (by simp)) ?_ ?_
    · obtain ⟨dx, t, hx, kt⟩ := sty
      refine fun H1 e1 Q1 q1 => ⟨"base ", rfl, by rw [sizeLine_eq]; decide, ?_⟩
      refine ev_propB (β := β) (Ds := Ds) (ev_var rfl) ⟨dx, t, hx, kt⟩ H1 e1 _ fun H2 e2 => .inr ⟨(β : Int), rfl, ?_, _, rfl, ?_, ?_⟩
      · rw [Int.natAbs_natCast]
        exact Nat.lt_of_le_of_lt (Nat.log2_le_self _) (by omega)
      · have e0 : (Str.empty ++ ("base " : Str)) = "base " := by decide
        rw [e0]
        exact Nat.le_trans (base_len b10) (by rw [sizeLine_eq]; decide)
      · have e0 : (Str.empty ++ ("base " : Str)) = "base " := by decide
        rw [e0]
        exact q1 H2 e2
    · obtain ⟨dx, t, hx, kt⟩ := sty
      obtain ⟨t', us, et, hus, ku⟩ := kt.tupI'
      cases et
      have hul := ku.length
      have eL := el_lcT (K := K) (σ := [some (.ref x), none]) (H := H) (tl := tProp C (getSp C "stored_rules") [] E0 (tVar 0)) (j := 1) (vs := [1]) (t := tYes) (te := tCall spRuleText [] E0 (tCons (tVar 1) tNil)) (fun _ => true) (fun i => ((Ds.map fun d => Txt.join " " (ruleW d)).map V.str).getD i .non) (fun H1 e1 Q1 q1 => ⟨_, rfl, x, dx, _, rfl, e1 _ _ hx, x, dx, _, _, rfl, e1 _ _ hx, lk_rules _ _, q1 H1 (Ex.refl H1)⟩) (st_of hus) (by omega) (fun _ => rfl) (fun i x H4 e4 hx => fun H5 e5 Q5 q5 => q5 H5 (Ex.refl _)) (fun i u H4 e4 hu _ => by
        obtain ⟨d, hd, kd⟩ := (ku.ex e4).get2 hu
        have e : ((Ds.map fun d => Txt.join " " (ruleW d)).map V.str).getD i .non = V.str (Txt.join " " (ruleW d)) := by
          rw [List.getD_eq_getElem?_getD, List.getElem?_map, List.getElem?_map, hd]
          rfl
        rw [e]
        exact ev_call (ea_cons (ev_var rfl) ea_nil) fun H5 e5 Q5 q5 E5 => ⟨u, d, β, rfl, kd.ex e5, b10, List.all_eq_true.mp hall d (List.mem_of_getElem? hd), fun H6 e6 => q5 H6 e6⟩)
      rw [show us.length = ((Ds.map fun d => Txt.join " " (ruleW d)).map V.str).length by rw [List.length_map, List.length_map, hul], given_one] at eL
      exact eL
    · simp only [List.length_map, List.length_cons, List.length_nil]
      omega
end
section
variable {P : Program} {w : World} {K : PySem.W.Frag} {mg : Str → Option Value} {base : Heap} {flw : Addr}
def spLWords : Sp := fun vs H Q _ => ∃ v d β, vs = [v] ∧ Pt H v d ∧ β ≤ 10 ∧ ruleB β d = true ∧ RetL ((ruleW d).map V.str) H Q
theorem scLWords : FnScope ["rule", "some", "keep", "words", "condition", "part"] ["rule"] (defScope sLWords) := ⟨rfl, rfl, rfl, by decide +kernel, rfl, by decide +kernel, by decide +kernel⟩
theorem ok_lwords {f : Addr} {fd : FuncData} (F : Fun K "_law_words" "_law_words" sLWords f fd) (mS : mg "str" = none) (mI : mg "int" = none) : FnOk P w K mg base CX0 1 f fd ["rule"] spLWords := by
  refine F.ok scLWords (fun vs H Q E h => ?_) (fun cdv A outer s H vs Q E hr h => ?_)
  · obtain ⟨_, _, _, rfl, _⟩ := h
    rfl
  · obtain ⟨v, d, β, rfl, k, b10, hp, q⟩ := h
    have hu64 : (A.deeper (PyProof.Rows.envOfC "_law_words" (defScope sLWords) s.heap.objs.size f cdv)).units + 64 < cLine := by have := hr.units; omega
    refine ⟨_, pss_cons (ps_asg (pv 0) (pg_tup (by rfl) (pgs_cons (pg_name (i := 1) scLWords.nd rfl (.inl rfl)) (pgs_cons (pg_name (i := 2) scLWords.nd rfl (.inl rfl)) pgs_nil))))
      (pss_cons (ps_set (i := 3) scLWords.nd rfl (.inl rfl) (pe_op op_cat (pe_lc (own := [("part", 5)]) (g := gName 5) (tt := tYes) (te := tCB rStrIS (tCons (tVar 5) tNil)) rfl scLWords.nd (pi_tup (pv 2)) (blkOk_by (own := [("part", 5)]) (N := ["rule", "some", "keep", "words", "condition", "part"]) (sc := defScope sLWords) (by decide +kernel)) (fun _ _ _ _ _ => pg_name (i := 5) scLWords.nd rfl (Or.inl rfl)) (fun _ _ _ _ _ => pts_nil)
          (fun _ _ _ _ _ => pe_callTy (T := "str") (r := rStrIS) call_strIS (by rfl) mS (by decide +kernel) (pa_cons (pv 5) pa_nil)))
        (pe_op op_rep (pe_lst (pa_cons pe_str pa_nil)) (pe_callTy (T := "int") call_int1 (by rfl) mI (by decide +kernel) (pa_cons (pe_cmpR (r := rNeD K) (op_neD (show _ + 64 < cLine from hu64)) (pv 1) (pe_tup pa_nil) (nomark _)) pa_nil)))))
      (pss_cons (ps_for PassesOwn.never rfl (pi_tup (pv 1)) (pg_name (i := 4) scLWords.nd rfl (.inl rfl))
        (pss_one (ps_set (i := 3) scLWords.nd rfl (.inl rfl) (pe_op op_cat (pv 3) (pe_lc (own := [("part", 5)]) (g := gName 5) (tt := tYes) (te := tIf (tTest (tOp rIsN (tVar 5) (tC .non))) (tC (.str "*")) (tCB rStrIS (tCons (tVar 5) tNil))) rfl scLWords.nd (pi_tup (pv 4)) (blkOk_by (own := [("part", 5)]) (N := ["rule", "some", "keep", "words", "condition", "part"]) (sc := defScope sLWords) (by decide +kernel)) (fun _ _ _ _ _ => pg_name (i := 5) scLWords.nd rfl (Or.inl rfl)) (fun _ _ _ _ _ => pts_nil)
          (fun _ _ _ _ _ => pe_ifExp (pt_cmpR op_isN (pv 5) pe_non (nomark _)) pe_str (pe_callTy (T := "str") (r := rStrIS) call_strIS (by rfl) mS (by decide +kernel) (pa_cons (pv 5) pa_nil))))))))
      (pss_one (ps_ret (pv 3))))), ?_⟩
    obtain ⟨cs, kd, rfl, h3, hc, hk⟩ := rule_parts hp
    obtain ⟨a, xs, rfl, ha, ka⟩ := k.tupI'
    cases ka with
    | @cons v1 _ _ _ k1 ka =>
      cases ka with
      | @cons v2 _ _ _ k2 ka =>
        cases ka
        obtain ⟨ac, us, rfl, hac, kc⟩ := k1.tupI'
        obtain ⟨kds, rfl, kn1, kn3, ki⟩ := part_items b10 (.inr hk : PartS β kd)
        obtain ⟨ak, ws, rfl, hak, kk⟩ := k2.tupI'
        have hcl := kc.length
        refine ⟨_, rfl, a, _, rfl, st_of ha, rfl, _, _, rfl, _, _, rfl, rfl, ?_⟩
        show tSeq _ _ _ [some (.ref a), some (.ref ac), some (.ref ak), none, none, none] H
        have kb : ∀ d ∈ kds, d ≠ PyData.none := fun d hd => by
          cases hk with
          | all =>
            rw [List.mem_singleton.mp hd]
            exact fun z => nomatch z
          | size w hw i h1 h6 =>
            rcases List.mem_cons.mp hd with rfl | hd
            · exact fun z => nomatch z
            · rw [List.mem_singleton.mp hd]
              exact fun z => nomatch z
        have eK := el_words (K := K) (σ := [some (.ref a), some (.ref ac), some (.ref ak), none, none, none]) (H := H) (tl' := tVar 2) (te := tCB rStrIS (tCons (tVar 5) tNil)) (j := 5) (ev_var rfl) hak kk kn3 (fun _ => rfl) fun x e H1 e1 he ke => ev_strIS (ev_var rfl) ke (ki e he) (kb e he)
        have eN : Ev (tOp (rNeD K) (tVar 1) (tTup tNil)) [some (.ref a), some (.ref ac), some (.ref ak), none, none, none] H (.bl (!cs.isEmpty)) := by
          have tsc : Ts (.tuple cs) 20000 2 := ts_conds b10 h3 hc
          have nkc : noK (.tuple cs) = true := by
            have := rule_noL hp
            rw [noL, noLs, Bool.and_eq_true] at this
            exact noL_K this.1
          have h0 := ev_neP (K := K) (σ := [some (.ref a), some (.ref ac), some (.ref ak), none, none, none]) (H := H) (d := .tuple cs) (e := .tuple []) (ep_v (ev_var (i := 1) rfl) k1) (ep_tup epa_nil (by simp)) nkc rfl (tsc.shaped (by decide)) (by decide +kernel)
          rw [show (!PyData.eqv (.tuple cs) (.tuple [])) = !cs.isEmpty by cases cs <;> rfl] at h0
          exact h0
        have eR := el_repE (ta := tLst (tCons (tC (.str "when")) tNil)) (σ := [some (.ref a), some (.ref ac), some (.ref ak), none, none, none]) (H := H) (xs := [.str "when"]) (k := if cs.isEmpty then 0 else 1) (tb := tCB (fun xs H Q => (∃ i, xs = [V.int i] ∧ Q (V.int i) H) ∨ ∃ k, xs = [V.bl k] ∧ Q (V.int (if k then 1 else 0)) H) (tCons (tOp (rNeD K) (tVar 1) (tTup tNil)) tNil)) (el_lst (ea_cons ev_c ea_nil) (by simp)) (ev_cb (ea_cons eN ea_nil) fun H1 e1 Q1 q1 => .inr ⟨!cs.isEmpty, rfl, by
          have e : (if (!cs.isEmpty) = true then (1 : Int) else 0) = ((if cs.isEmpty = true then 0 else 1 : Nat) : Int) := by cases cs.isEmpty <;> rfl
          rw [e]
          exact q1 H1 (Ex.refl H1)⟩) (by split <;> decide) (by simp)
        have e0 : (kds.map valW).map V.str ++ (List.replicate (if cs.isEmpty then 0 else 1) [V.str "when"]).flatten = (partW (.tuple kds) ++ (if cs.isEmpty then [] else [("when" : Str)])).map V.str := by
          rw [List.map_append]
          cases cs.isEmpty <;> rfl
        refine q_asgL (xs := (partW (.tuple kds) ++ (if cs.isEmpty then [] else [("when" : Str)])).map V.str) (e0 ▸ el_catLL eK eR (by cases cs.isEmpty <;> simp <;> omega)) fun l H1 n1 e1 h1 => ?_
        refine ⟨_, rfl, ac, rfl, ⟨us, st_of (e1 _ _ hac)⟩, for_tup (xs := us) (fun i σ' H' => (∃ (l' : Addr) (x4 : Option V), σ' = [some (.ref a), some (.ref ac), some (.ref ak), some (.ref l'), x4, none] ∧ H' l' = some (.lst ((partW (.tuple kds) ++ (if cs.isEmpty then [] else [("when" : Str)]) ++ (cs.take i).flatMap partW).map V.str)) ∧ H l' = none) ∧ Ex H H') ⟨⟨l, _, rfl, by rw [List.take_zero, List.flatMap_nil, List.append_nil]; exact h1, n1⟩, e1⟩ (fun i σ' H' _ hI => st_of (hI.2 _ _ hac)) (fun i u σ' H' hu hI => ?_) (fun σ' H' hI => ?_)⟩
        · obtain ⟨⟨l', x4, rfl, hl', nl'⟩, e2⟩ := hI
          obtain ⟨c, hcd, kcd⟩ := (kc.ex e2).get2 hu
          obtain ⟨cds, rfl, cn1, cn3, ci⟩ := part_items b10 (.inl (hc _ (List.mem_of_getElem? hcd)) : PartS β c)
          obtain ⟨aci, wsi, rfl, haci, kki⟩ := kcd.tupI'
          have hi3 : i < cs.length := (List.getElem?_eq_some_iff.mp hcd).1
          have eC := el_words (K := K) (σ := [some (.ref a), some (.ref ac), some (.ref ak), some (.ref l'), some (.ref aci), none]) (H := H') (tl' := tVar 4) (te := tIf (tTest (tOp rIsN (tVar 5) (tC .non))) (tC (.str "*")) (tCB rStrIS (tCons (tVar 5) tNil))) (j := 5) (ev_var rfl) haci kki cn3 (fun _ => rfl) fun x e H1 e1 he ke => ev_wordIf (ev_var rfl) ev_c ke (ci e he)
          have pl : (partW (.tuple kds)).length ≤ 3 := by show (kds.map valW).length ≤ 3; rw [List.length_map]; exact kn3
          have fl : ((cs.take i).flatMap partW).length ≤ 3 * 3 := by
            have : ∀ ds : List PyData, (∀ d ∈ ds, CondS β d) → (ds.flatMap partW).length ≤ 3 * ds.length := fun ds => by
              induction ds with
              | nil => intro _; simp
              | cons d ds ih =>
                intro h
                have := (partW_ok b10 (.inl (h d List.mem_cons_self) : PartS β d)).2.1
                have := ih fun e he => h e (List.mem_cons_of_mem _ he)
                rw [List.flatMap_cons, List.length_append, List.length_cons]
                omega
            refine Nat.le_trans (this _ fun d hd => hc d (List.mem_of_mem_take hd)) ?_
            rw [List.length_take]
            omega
          refine s_asgL (xs := (partW (.tuple kds) ++ (if cs.isEmpty then [] else [("when" : Str)]) ++ (cs.take i).flatMap partW).map V.str ++ (cds.map valW).map V.str) (el_cat (ev_var rfl) hl' eC ?_) fun p H3 n3 e3 h3' => ?_
          · have : (if cs.isEmpty then ([] : List Str) else [("when" : Str)]).length ≤ 1 := by split <;> simp
            simp only [List.length_map, List.length_append]
            omega
          · refine ⟨⟨p, _, rfl, ?_, fresh_back e2 n3⟩, e2.trans e3⟩
            rw [List.take_add_one, hcd, List.flatMap_append, ← List.append_assoc, List.map_append]
            have : ((some (PyData.tuple cds)).toList.flatMap partW).map V.str = (cds.map valW).map V.str := by
              simp [partW, tupD]
            rw [this]
            exact h3'
        · obtain ⟨⟨l', x4, rfl, hl', nl'⟩, e2⟩ := hI
          rw [hcl, List.take_length] at hl'
          refine s_ret (ev_var rfl) fun H3 e3 => q l' H3 nl' (e2.trans e3) ?_
          rw [ruleW_eq]
          have e9 : partW (.tuple kds) ++ (if cs.isEmpty then ([] : List Str) else [("when" : Str)]) ++ cs.flatMap partW = partW (.tuple kds) ++ (if cs.isEmpty then [] else ("when" : Str) :: cs.flatMap partW) := by
            cases cs with
            | nil => simp
            | cons c cs => simp
          rw [← e9]
          exact e3 _ _ hl'
def spLText : Sp := fun vs H Q _ => ∃ v Ds β, vs = [.int (β : Nat), v] ∧ Pt H v (.tuple Ds) ∧ β ≤ 10 ∧ Ds.all (ruleB β) = true ∧ Ds.length ≤ 8 ∧ RetV (.str (styT β Ds)) H Q
theorem scLText : FnScope ["base", "rules", "rule"] ["base", "rules"] (defScope sLText) := ⟨rfl, rfl, rfl, by decide +kernel, rfl, by decide +kernel, by decide +kernel⟩
theorem ok_ltext {f : Addr} {fd fd1 : FuncData} (F : Fun K "_law_text" "_law_text" sLText f fd) (GW : FnOk P w K mg base CX0 1 flw fd1 ["rule"] spLWords) (bW : Binds K fd1 ["rule"] []) (gW : mg "_law_words" = some (.ref flw)) (kW : PySem.W.keepIn K (.ref flw) = true) (mS : mg "str" = none) : FnOk P w K mg base CX0 2 f fd ["base", "rules"] spLText := by
  refine F.ok scLText (fun vs H Q E h => ?_) (fun cdv A outer s H vs Q E hr h => ?_)
  · obtain ⟨_, _, _, rfl, _⟩ := h
    rfl
  · obtain ⟨v, Ds, β, rfl, k, b10, hall, h8, q⟩ := h
    refine ⟨_, pss_one (ps_ret (pe_join pe_str (pe_op op_cat (pe_lst (pa_cons (pe_op op_add_str pe_str (pe_callTy (T := "str") (r := rStrIS) call_strIS (by rfl) mS (by decide +kernel) (pa_cons (pv 0) pa_nil))) pa_nil))
        (pe_lc (own := [("rule", 2)]) (g := gName 2) (tt := tYes) (te := tM1 (rJoin K) (tC (.str " ")) (tCall spLWords [] E0 (tCons (tVar 2) tNil))) rfl scLText.nd (pi_tup (pv 1)) (blkOk_by (own := [("rule", 2)]) (N := ["base", "rules", "rule"]) (sc := defScope sLText) (by decide +kernel)) (fun _ _ _ _ _ => pg_name (i := 2) scLText.nd rfl (Or.inl rfl)) (fun _ _ _ _ _ => pts_nil)
          (fun _ _ _ _ _ => pe_join pe_str (pe_call GW hr (by rfl) gW kW bW .nil pass0 (pa_cons (pv 2) pa_nil))))))), ?_⟩
    obtain ⟨hs, _⟩ := lines_sum b10 hall h8
    obtain ⟨a, us, rfl, ha, ku⟩ := k.tupI'
    have hul := ku.length
    refine s_ret (ev_join (K := K) (ys := linesT β Ds) ?_ hs) fun H2 e2 => q H2 e2
    refine el_catLL (el_lst (vs := [.str (("base " : Str) ++ toString (β : Int))]) (ea_cons (ev_op ev_c (ev_cb (z := .str (toString (β : Int))) (ea_cons (ev_var rfl) ea_nil) fun H1 e1 Q1 q1 => .inl ⟨(β : Int), rfl, ?_, q1 H1 (Ex.refl H1)⟩) (rv_addT ?_)) ea_nil) (by simp)) ?_ ?_
    · have := (num_ok β b10).1
      have : ("base " : Str).length = 5 := by decide
      omega
    · have one : (" " : Str).length = 1 := by decide
      have eL := el_lcT (K := K) (σ := [some (.int (β : Nat)), some (.ref a), none]) (H := H) (tl := tVar 1) (j := 2) (vs := [2]) (t := tYes) (te := tM1 (rJoin K) (tC (.str " ")) (tCall spLWords [] E0 (tCons (tVar 2) tNil))) (fun _ => true) (fun i => ((Ds.map fun d => Txt.join " " (ruleW d)).map V.str).getD i .non) (ev_var rfl) (st_of ha) (by omega) (fun _ => rfl) (fun i x H4 e4 hx => fun H5 e5 Q5 q5 => q5 H5 (Ex.refl _)) (fun i u H4 e4 hu _ => by
        obtain ⟨d, hd, kd⟩ := (ku.ex e4).get2 hu
        have e : ((Ds.map fun d => Txt.join " " (ruleW d)).map V.str).getD i .non = V.str (Txt.join " " (ruleW d)) := by
          rw [List.getD_eq_getElem?_getD, List.getElem?_map, List.getElem?_map, hd]
          rfl
        rw [e]
        have hrd := List.all_eq_true.mp hall d (List.mem_of_getElem? hd)
        obtain ⟨_, r2, r3⟩ := ruleW_ok b10 hrd
        have hs2 := sum_le (qs := ruleW d) (m := 7) (n := 13) (fun q hq => (r3 q hq).1) r2
        exact ev_join (el_call (ea_cons (ev_var rfl) ea_nil) fun H5 e5 Q5 q5 E5 => ⟨u, d, β, rfl, kd.ex e5, b10, hrd, fun p H6 hp e6 h6 => q5 p H6 hp e6 h6⟩) (by rw [one]; omega))
      rw [show us.length = ((Ds.map fun d => Txt.join " " (ruleW d)).map V.str).length by rw [List.length_map, List.length_map, hul], given_one] at eL
      exact eL
    · simp only [List.length_map, List.length_cons, List.length_nil]
      omega
    · rw [Int.natAbs_natCast]
      exact Nat.lt_of_le_of_lt (Nat.log2_le_self _) (by omega)
end
end Tx

/-! Texts of styles: that unlike styles have unlike texts; what reading them back rests on. -/
namespace Tx
open PySem L2 Evl Dg Dt TL StX ClX LamR LamX
open Dr (StAt SameB)
theorem num_back {i : Int} (h0 : 0 ≤ i) (h6 : i ≤ 10) : PySem.intText? (toString i : Str) = some i := by
  have h : ∀ n : Nat, n < 11 → PySem.intText? (toString (n : Int) : Str) = some (n : Int) := by decide +kernel
  have := h i.toNat (by omega)
  rw [Int.toNat_of_nonneg h0] at this
  exact this
theorem num_inj {i j : Int} (h0 : 0 ≤ i) (h6 : i ≤ 10) (k0 : 0 ≤ j) (k6 : j ≤ 10) (e : (toString i : Str) = toString j) : i = j := by
  have h1 := num_back h0 h6
  rw [e, num_back k0 k6] at h1
  exact (Option.some.inj h1).symm
theorem num_star {i : Int} (h0 : 0 ≤ i) (h6 : i ≤ 10) : (toString i : Str) ≠ "*" := by
  intro z
  have h1 := num_back h0 h6
  rw [z] at h1
  revert h1
  rw [show PySem.intText? ("*" : Str) = none by decide +kernel]
  exact fun z => nomatch z
theorem keep_cut {k k' : PyData} {r r' : List Str} (h : KeepS k) (h' : KeepS k') (e : partW k ++ r = partW k' ++ r') : k = k' ∧ r = r' := by
  cases h with
  | all =>
    cases h' with
    | all =>
      have e : ("all" : Str) :: r = ("all" : Str) :: r' := e
      exact ⟨rfl, (List.cons.inj e).2⟩
    | size w hw i h1 h6 =>
      have e : ("all" : Str) :: r = w :: (toString i : Str) :: r' := e
      have := (List.cons.inj e).1
      rcases hw with rfl | rfl <;> exact absurd this (by decide)
  | size w hw i h1 h6 =>
    cases h' with
    | all =>
      have e : w :: (toString i : Str) :: r = ("all" : Str) :: r' := e
      have := (List.cons.inj e).1
      rcases hw with rfl | rfl <;> exact absurd this (by decide)
    | size w' hw' i' h1' h6' =>
      have e : w :: (toString i : Str) :: r = w' :: (toString i' : Str) :: r' := e
      obtain ⟨e1, e2⟩ := List.cons.inj e
      obtain ⟨e3, e4⟩ := List.cons.inj e2
      rw [e1, num_inj (by omega) (by omega) (by omega) (by omega) e3]
      exact ⟨rfl, e4⟩
theorem cond_cut {β γ : Nat} {k k' : PyData} {r r' : List Str} (h : CondS β k) (h' : CondS γ k') (e : partW k ++ r = partW k' ++ r') : k = k' ∧ r = r' := by
  cases h with
  | ends x hx =>
    cases h' with
    | ends x' hx' =>
      have e : ("ends" : Str) :: x :: r = ("ends" : Str) :: x' :: r' := e
      obtain ⟨e1, e2⟩ := List.cons.inj e
      obtain ⟨e3, e4⟩ := List.cons.inj e2
      rw [e3]
      exact ⟨rfl, e4⟩
    | near i h0 h6 =>
      have e : ("ends" : Str) :: x :: r = ("near" : Str) :: (toString i : Str) :: r' := e
      exact absurd (List.cons.inj e).1 (by decide)
    | len w hw i h1 h6 d hd =>
      have e : ("ends" : Str) :: x :: r = w :: (toString i : Str) :: valW d :: r' := e
      have := (List.cons.inj e).1
      rcases hw with rfl | rfl <;> exact absurd this (by decide)
  | near i h0 h6 =>
    cases h' with
    | ends x' hx' =>
      have e : ("near" : Str) :: (toString i : Str) :: r = ("ends" : Str) :: x' :: r' := e
      exact absurd (List.cons.inj e).1 (by decide)
    | near i' h0' h6' =>
      have e : ("near" : Str) :: (toString i : Str) :: r = ("near" : Str) :: (toString i' : Str) :: r' := e
      obtain ⟨e1, e2⟩ := List.cons.inj e
      obtain ⟨e3, e4⟩ := List.cons.inj e2
      rw [num_inj (by omega) (by omega) (by omega) (by omega) e3]
      exact ⟨rfl, e4⟩
    | len w hw i' h1 h6 d hd =>
      have e : ("near" : Str) :: (toString i : Str) :: r = w :: (toString i' : Str) :: valW d :: r' := e
      have := (List.cons.inj e).1
      rcases hw with rfl | rfl <;> exact absurd this (by decide)
  | len w hw i h1 h6 d hd =>
    cases h' with
    | ends x' hx' =>
      have e : w :: (toString i : Str) :: valW d :: r = ("ends" : Str) :: x' :: r' := e
      have := (List.cons.inj e).1
      rcases hw with rfl | rfl <;> exact absurd this (by decide)
    | near i' h0' h6' =>
      have e : w :: (toString i : Str) :: valW d :: r = ("near" : Str) :: (toString i' : Str) :: r' := e
      have := (List.cons.inj e).1
      rcases hw with rfl | rfl <;> exact absurd this (by decide)
    | len w' hw' i' h1' h6' d' hd' =>
      have e : w :: (toString i : Str) :: valW d :: r = w' :: (toString i' : Str) :: valW d' :: r' := e
      obtain ⟨e1, e2⟩ := List.cons.inj e
      obtain ⟨e3, e4⟩ := List.cons.inj e2
      obtain ⟨e5, e6⟩ := List.cons.inj e4
      have e7 : d = d' := by
        rcases hd with rfl | ⟨j, rfl, j1, j6⟩
        · rcases hd' with rfl | ⟨j', rfl, j1', j6'⟩
          · rfl
          · exact absurd e5.symm (num_star (by omega) (by omega))
        · rcases hd' with rfl | ⟨j', rfl, j1', j6'⟩
          · exact absurd e5 (num_star (by omega) (by omega))
          · rw [num_inj (by omega) (by omega) (by omega) (by omega) e5]
      rw [e1, num_inj (by omega) (by omega) (by omega) (by omega) e3, e7]
      exact ⟨rfl, e6⟩
theorem cond_ne {β : Nat} {d : PyData} (h : CondS β d) : partW d ≠ [] := by
  cases h <;> exact fun z => nomatch z
theorem conds_cut {β γ : Nat} : ∀ {cs cs' : List PyData}, (∀ c ∈ cs, CondS β c) → (∀ c ∈ cs', CondS γ c) → cs.flatMap partW = cs'.flatMap partW → cs = cs'
  | [], [], _, _, _ => rfl
  | [], c :: cs, _, h, e => by
    rw [List.flatMap_nil, List.flatMap_cons] at e
    exact absurd (List.append_eq_nil_iff.mp e.symm).1 (cond_ne (h c List.mem_cons_self))
  | c :: cs, [], h, _, e => by
    rw [List.flatMap_nil, List.flatMap_cons] at e
    exact absurd (List.append_eq_nil_iff.mp e).1 (cond_ne (h c List.mem_cons_self))
  | c :: cs, c' :: cs', h, h', e => by
    rw [List.flatMap_cons, List.flatMap_cons] at e
    obtain ⟨e1, e2⟩ := cond_cut (h c List.mem_cons_self) (h' c' List.mem_cons_self) e
    rw [e1, conds_cut (fun d hd => h d (List.mem_cons_of_mem _ hd)) (fun d hd => h' d (List.mem_cons_of_mem _ hd)) e2]
theorem ruleW_inj {β γ : Nat} {d d' : PyData} (h : ruleB β d = true) (h' : ruleB γ d' = true) (e : ruleW d = ruleW d') : d = d' := by
  obtain ⟨cs, k, rfl, _, hc, hk⟩ := rule_inv h
  obtain ⟨cs', k', rfl, _, hc', hk'⟩ := rule_inv h'
  rw [ruleW_eq, ruleW_eq] at e
  obtain ⟨e1, e2⟩ := keep_cut hk hk' e
  rw [e1]
  cases cs with
  | nil =>
    cases cs' with
    | nil => rfl
    | cons c cs => cases e2
  | cons c cs =>
    cases cs' with
    | nil => cases e2
    | cons c' cs' =>
      have e3 := conds_cut hc hc' (List.cons.inj e2).2
      rw [e3]
theorem mem_joinL {s : List Nat} {c : Nat} : ∀ {ls : List (List Nat)}, c ∈ joinL s ls → c ∈ s ∨ ∃ l ∈ ls, c ∈ l
  | [], h => by
    rw [joinL] at h
    cases h
  | a :: ls, h => by
    by_cases z : ls = []
    · subst z
      exact .inr ⟨a, List.mem_cons_self, by simpa [joinL] using h⟩
    · rw [joinL_cons z] at h
      rcases List.mem_append.mp h with h | h
      · rcases List.mem_append.mp h with h | h
        · exact .inr ⟨a, List.mem_cons_self, h⟩
        · exact .inl h
      · rcases mem_joinL h with h | ⟨l, hl, hc⟩
        · exact .inl h
        · exact .inr ⟨l, List.mem_cons_of_mem _ hl, hc⟩
theorem line_signs {ws : List Str} (h : ∀ w ∈ ws, ∀ c ∈ tl w, 33 ≤ c) : ∀ c ∈ tl (Txt.join " " ws), c ≠ 10 := by
  intro c hc
  rw [tl_joinT] at hc
  rcases mem_joinL hc with hc | ⟨l, hl, hc⟩
  · have : c ∈ [32] := by
      have e : tl (" " : Str) = [32] := by decide
      rwa [e] at hc
    have := List.mem_singleton.mp this
    omega
  · obtain ⟨w, hw, rfl⟩ := List.mem_map.mp hl
    have := h w hw c hc
    omega
/-- the words of a base's line -/
def baseW (β : Nat) : List Str := ["base", toString (β : Int)]
theorem baseW_ok {β : Nat} (h : β ≤ 10) : ∀ w ∈ baseW β, ∀ c ∈ tl w, 33 ≤ c := by
  intro w hw c hc
  rcases List.mem_cons.mp hw with rfl | hw
  · exact ((word_ok (w := "base") (by simp)).2 c hc).1
  · rw [List.mem_singleton.mp hw] at hc
    exact ((num_ok β h).2 c hc).1
theorem base_line {β : Nat} : ("base " : Str) ++ toString (β : Int) = Txt.join " " (baseW β) := by
  refine str_ext ?_
  rw [tl_append, tl_joinT]
  have e : tl ("base " : Str) = tl ("base" : Str) ++ tl (" " : Str) := by decide
  rw [e]
  rfl
theorem rule_words {β : Nat} {d : PyData} (b10 : β ≤ 10) (h : ruleB β d = true) : ruleW d ≠ [] ∧ ∀ w ∈ ruleW d, ∀ c ∈ tl w, 33 ≤ c :=
  ⟨(ruleW_ok b10 h).1, fun w hw c hc => (((ruleW_ok b10 h).2.2 w hw).2 c hc).1⟩
/-- all lines of a style's text, as words -/
def lineWs (β : Nat) (Ds : List PyData) : List (List Str) := baseW β :: Ds.map ruleW
theorem lines_eq {β : Nat} {Ds : List PyData} : linesT β Ds = (lineWs β Ds).map (Txt.join " ") := by
  unfold linesT lineWs
  rw [List.map_cons, List.map_map, base_line]
  rfl
theorem lineWs_ok {β : Nat} {Ds : List PyData} (b10 : β ≤ 10) (h : Ds.all (ruleB β) = true) : ∀ ws ∈ lineWs β Ds, ws ≠ [] ∧ ∀ w ∈ ws, ∀ c ∈ tl w, 33 ≤ c := by
  intro ws hw
  rcases List.mem_cons.mp hw with rfl | hw
  · exact ⟨List.cons_ne_nil _ _, baseW_ok b10⟩
  · obtain ⟨d, hd, rfl⟩ := List.mem_map.mp hw
    exact rule_words b10 (List.all_eq_true.mp h d hd)
theorem line_split {ws : List Str} (h : ws ≠ [] ∧ ∀ w ∈ ws, ∀ c ∈ tl w, 33 ≤ c) : Txt.split (Txt.join " " ws) " " = ws := by
  have e : (" " : Str) = ⟨#[32]⟩ := by decide
  rw [e]
  exact split_join h.1 fun w hw hc => by
    have := h.2 w hw 32 hc
    omega
theorem styT_split {β : Nat} {Ds : List PyData} (b10 : β ≤ 10) (h : Ds.all (ruleB β) = true) : Txt.split (styT β Ds) "\n" = (lineWs β Ds).map (Txt.join " ") := by
  have e : ("\n" : Str) = ⟨#[10]⟩ := by decide
  unfold styT
  rw [show ((("base " : Str) ++ toString (β : Int)) :: Ds.map fun d => Txt.join " " (ruleW d)) = linesT β Ds from rfl, lines_eq, e]
  refine split_join (by unfold lineWs; simp) fun l hl hc => ?_
  obtain ⟨ws, hw, rfl⟩ := List.mem_map.mp hl
  exact line_signs (lineWs_ok b10 h ws hw).2 10 hc rfl
theorem map_inj_on {α γ : Type} {f : α → γ} : ∀ {xs ys : List α}, (∀ x ∈ xs, ∀ y ∈ ys, f x = f y → x = y) → xs.map f = ys.map f → xs = ys
  | [], [], _, _ => rfl
  | [], y :: ys, _, e => by cases e
  | x :: xs, [], _, e => by cases e
  | x :: xs, y :: ys, h, e => by
    rw [List.map_cons, List.map_cons] at e
    obtain ⟨e1, e2⟩ := List.cons.inj e
    rw [h x List.mem_cons_self y List.mem_cons_self e1, map_inj_on (fun a ha b hb => h a (List.mem_cons_of_mem _ ha) b (List.mem_cons_of_mem _ hb)) e2]
/-- unlike styles have unlike texts -/
theorem styT_inj {β γ : Nat} {Ds Es : List PyData} (b10 : β ≤ 10) (g10 : γ ≤ 10) (h : Ds.all (ruleB β) = true) (k : Es.all (ruleB γ) = true) (e : styT β Ds = styT γ Es) : β = γ ∧ Ds = Es := by
  have e1 : (lineWs β Ds).map (Txt.join " ") = (lineWs γ Es).map (Txt.join " ") := by
    rw [← styT_split b10 h, ← styT_split g10 k, e]
  have e2 : lineWs β Ds = lineWs γ Es := by
    refine map_inj_on (fun x hx y hy e => ?_) e1
    rw [← line_split (lineWs_ok b10 h x hx), ← line_split (lineWs_ok g10 k y hy), e]
  unfold lineWs at e2
  obtain ⟨e3, e4⟩ := List.cons.inj e2
  have e5 : (toString (β : Int) : Str) = toString (γ : Int) := (List.cons.inj (List.cons.inj e3).2).1
  have e6 := num_inj (by omega) (by omega) (by omega) (by omega) e5
  refine ⟨by omega, map_inj_on (fun x hx y hy e => ?_) e4⟩
  exact ruleW_inj (List.all_eq_true.mp h x hx) (List.all_eq_true.mp k y hy) e
/-! what the words must be among -/
def numsL (lo hi : Nat) : List Str := (List.range (hi + 1 - lo)).map fun k => (toString ((lo + k : Nat) : Int) : Str)
theorem nums_mem {lo hi : Nat} {i : Int} (h0 : (lo : Int) ≤ i) (h1 : i ≤ (hi : Int)) : (toString i : Str) ∈ numsL lo hi := by
  refine List.mem_map.mpr ⟨i.toNat - lo, List.mem_range.mpr (by omega), ?_⟩
  have : ((lo + (i.toNat - lo) : Nat) : Int) = i := by omega
  rw [this]
def figsL (β : Nat) : List Str := (List.range β).map fun k => (⟨#[48 + k]⟩ : Str)
def endsL (β : Nat) : List Str := figsL β ++ (figsL β).flatMap fun a => (figsL β).map fun b => a ++ b
theorem figs_mem {β c : Nat} (h0 : 48 ≤ c) (h1 : c < 48 + β) : (⟨#[c]⟩ : Str) ∈ figsL β := by
  refine List.mem_map.mpr ⟨c - 48, List.mem_range.mpr (by omega), ?_⟩
  have : 48 + (c - 48) = c := by omega
  rw [this]
theorem ends_mem {β : Nat} {x : Str} (h : isFigs β 2 x = true) : x ∈ endsL β := by
  unfold isFigs at h
  obtain ⟨h1, h2⟩ := Bool.and_eq_true_iff.mp h
  obtain ⟨h3, h4⟩ := Bool.and_eq_true_iff.mp h1
  have h3 := of_decide_eq_true h3
  have h4 := of_decide_eq_true h4
  have ha : ∀ c ∈ tl x, 48 ≤ c ∧ c < 48 + β := fun c hc => by
    have := of_decide_eq_true (List.all_eq_true.mp h2 c hc)
    omega
  rw [len_t] at h3 h4
  unfold endsL
  match e : tl x, h3, h4, ha with
  | [a], _, _, ha =>
    have : x = ⟨#[a]⟩ := str_ext (by rw [e])
    rw [this]
    exact List.mem_append_left _ (figs_mem (ha a (by simp)).1 (ha a (by simp)).2)
  | [a, b], _, _, ha =>
    have : x = (⟨#[a]⟩ : Str) ++ (⟨#[b]⟩ : Str) := str_ext (by rw [e, tl_append]; rfl)
    rw [this]
    exact List.mem_append_right _ (List.mem_flatMap.mpr ⟨_, figs_mem (ha a (by simp)).1 (ha a (by simp)).2, List.mem_map.mpr ⟨_, figs_mem (ha b (by simp)).1 (ha b (by simp)).2, rfl⟩⟩)
theorem inV_strs {w : Str} {ws : List Str} (h : w ∈ ws) : inV (.str w) (ws.map V.str) = true := by
  refine List.any_eq_true.mpr ⟨.str w, List.mem_map.mpr ⟨w, h, rfl⟩, ?_⟩
  simp [eqV]
theorem flat_strs {ws : List Str} : (ws.map V.str).all flatV = true := by
  refine List.all_eq_true.mpr fun v hv => ?_
  obtain ⟨w, _, rfl⟩ := List.mem_map.mp hv
  rfl
end Tx

/-! A list comprehension with any number of clauses: each clause's loop by itself (Lp), the next clause behind its tests. -/
namespace L2.Lcn
open PySem PySem.Spec PyProof.Rows
abbrev TB := St → Hp → (Hp → Prop) → Prop
abbrev NoX : Value → Shared → Prop := fun _ _ => False
/-- one clause's loop: from H0 on to Nx -/
def Lp (J : It) (τ : St) (vs : List Nat) (g : TG) (tt : TT) (tb : TB) (H0 : Hp) (Nx : Hp → Prop) : Prop :=
  ∃ W : Nat → Nat → Hp → Prop, (∃ m, W 0 m H0) ∧ ∀ i m H, W i m H →
    (J.stop i H ∧ Nx H) ∨
    (J.go i H ∧ ∃ N1 : Hp → Prop, (∀ H', N1 H' → ∃ m', m' < m ∧ W (i + 1) m' H') ∧
      ∀ x H', J.yld i H x H' → g x τ H' fun σ2 H2 => wipe σ2 vs = τ ∧
        tt σ2 H2 fun b H3 => if b = true then tb σ2 H3 N1 else N1 H3)
/-- behind the last clause: the new item -/
def tbE (te : TE) (D : Addr) : TB := fun σ H Nx => te σ H fun y H1 =>
  ∃ acc, H1 D = some (.lst acc) ∧ acc.length < sizeLine ∧ Nx (upd H1 D (.lst (acc ++ [y])))
/-- behind another: the next clause -/
def tbI (wi : TI) (vs : List Nat) (g : TG) (tt : TT) (tb : TB) : TB := fun σ H Nx =>
  wi σ H fun J H1 => Lp J (wipe σ vs) vs g tt tb H1 Nx
def testsOf (ifs : List Expr) (env : Env) : Sem Bool :=
  forIn ifs true fun c r => if r = true then do let ok ← isTrue c env (eval c env); pure (ForInStep.yield ok) else pure (ForInStep.yield r)
def turnOf (e : Expr) (d : Nat) (ip : Pos) (tg : Expr) (ifs : List Expr) (body : Sem Fin → Sem Fin) (it acc : Value) (env : Env) : Sem Fin := do
  standAt ip
  match ← pyNext it with
  | none => pure (.done .next)
  | some v =>
    letOwnedTupleGo tg it v
    assign tg env v
    let ok ← testsOf ifs env
    if ok = true then body (again (.compLoop e d it acc env)) else again (.compLoop e d it acc env)
def bodyE (elt : Expr) (acc : Value) (env : Env) (k : Sem Fin) : Sem Fin := do
  (do let _ ← call (.builtin "list.append") [acc, ← eval elt env])
  k
def bodyI (e : Expr) (d : Nat) (src : Expr) (acc : Value) (env : Env) (k : Sem Fin) : Sem Fin := do
  let x ← eval src env
  standAt src.pos
  let x ← foldedSetIterable src env x
  let _ ← runOwn (.compStart e (d + 1) (← holding [x] (pyIter x)) acc env) env
  k
section
variable {prog : Program} {w : World} {A : Around} {R : Result → Shared → Prop} {e tg src elt : Expr} {d : Nat} {ip : Pos} {ifs : List Expr} {it acc : Value} {env : Env} {body : Sem Fin → Sem Fin}
  {P : (Shared → Prop) → Shared → Prop}
theorem quietly {α : Type} {t : Sem α} {Q Q' : α → Shared → Prop} {M : Model} {E : Value → Shared → Prop} {s : Shared} (h : wpAny M A t Q NoX s) (k : ∀ a s, Q a s → Q' a s) : wpAny M A t Q' E s :=
  wpAny_mono h k fun _ _ z => z.elim
theorem loop_run {el : Expr} {gs : List Comprehension} {scope : Scope} {pos : Pos} (hT : compTurn (.ListComp el gs scope pos) d it acc env = turnOf (.ListComp el gs scope pos) d ip tg ifs body it acc env)
    (hB : ∀ (k : Sem Fin) (Q : Fin → Shared → Prop) (E : Value → Shared → Prop) (C : Shared → Prop) (s : Shared), (∀ s', C s' → wpAny (model prog w) A k Q E s') → P C s → wpAny (model prog w) A (body k) Q E s)
    (I : Nat → Shared → Prop)
    (turn : ∀ n s, I n s → wpAny (model prog w) A (pyNext it) (fun r s1 => match r with
      | none => R (.ok .next) s1
      | some v => wpAny (model prog w) A (letOwnedTupleGo tg it v) (fun _ s2 => wpAny (model prog w) A (assign tg env v) (fun _ s3 =>
          wpAny (model prog w) A (testsOf ifs env) (fun ok s4 => if ok = true then P (fun s' => ∃ m, m < n ∧ I m s') s4 else ∃ m, m < n ∧ I m s4) NoX s3) NoX s2) NoX s1) NoX s)
    (n : Nat) (s : Shared) (h : I n s) : codeAny (model prog w) A (.compLoop (.ListComp el gs scope pos) d it acc env) R s := by
  refine codeAny_loop rfl I (fun n s hI => ?_) n h
  show wpAny (model prog w) A ((compTurn (.ListComp el gs scope pos) d it acc env).onRaise fun x => do noteFrame x env; theTreesLotGoes x) _ _ s
  refine wpAny_noted ?_
  rw [hT]
  refine wpAny_bind (wpAny_standAt (wpAny_bind (quietly (turn n s hI) fun r s1 h1 => ?_)))
  cases r with
  | none => exact wpAny_pure h1
  | some v =>
    refine wpAny_bind (quietly h1 fun _ s2 h2 => wpAny_bind (quietly h2 fun _ s3 h3 => wpAny_bind (quietly h3 fun ok s4 h4 => ?_)))
    cases ok with
    | false => exact wpAny_pure ⟨rfl, h4⟩
    | true => exact hB _ _ _ _ _ (fun s' c => wpAny_pure ⟨rfl, c⟩) h4
/-- what the two bodies ask -/
def actE (prog : Program) (w : World) (A : Around) (elt : Expr) (acc : Value) (env : Env) (C : Shared → Prop) (s : Shared) : Prop :=
  wpAny (model prog w) A (eval elt env) (fun x s1 => wpAny (model prog w) A (call (.builtin "list.append") [acc, x]) (fun _ s2 => C s2) NoX s1) NoX s
def actI (prog : Program) (w : World) (A : Around) (e : Expr) (d : Nat) (src : Expr) (acc : Value) (env : Env) (C : Shared → Prop) (s : Shared) : Prop :=
  wpAny (model prog w) A (eval src env) (fun x s1 => wpAny (model prog w) A (pyIter x) (fun i s2 => codeAny (model prog w) A (.compStart e (d + 1) i acc env) (fun r s3 => match r with
    | .ok _ => C s3
    | .error _ => False) s2) NoX s1) NoX s
theorem bodyE_ok (k : Sem Fin) (Q : Fin → Shared → Prop) (E : Value → Shared → Prop) (C : Shared → Prop) (s : Shared) (hk : ∀ s', C s' → wpAny (model prog w) A k Q E s') (h : actE prog w A elt acc env C s) :
    wpAny (model prog w) A (bodyE elt acc env k) Q E s :=
  wpAny_bind (wpAny_bind (quietly h fun x s1 h1 => wpAny_bind (quietly h1 fun _ s2 h2 => wpAny_pure (hk s2 h2))))
theorem bodyI_ok (hs : ∀ env x, foldedSetIterable src env x = pure x) (k : Sem Fin) (Q : Fin → Shared → Prop) (E : Value → Shared → Prop) (C : Shared → Prop) (s : Shared) (hk : ∀ s', C s' → wpAny (model prog w) A k Q E s')
    (h : actI prog w A e d src acc env C s) : wpAny (model prog w) A (bodyI e d src acc env k) Q E s := by
  refine wpAny_bind (quietly h fun x s1 h1 => wpAny_bind (wpAny_standAt (wpAny_bind (wpAny_of_eq (hs env x) (wpAny_bind (wpAny_holding (quietly h1 fun i s2 h2 => ?_)))))))
  refine wpAny_bind (wpAny_runOwn ?_)
  rw [Around.mark_none]
  refine codeAny_mono h2 fun r s' hr => ?_
  cases r with
  | ok f =>
    first
      | exact hk _ hr
      | exact wpAny_bind (wpAny_pure (hk _ hr))
      | exact wpAny_pure (hk _ hr)
  | error x => exact hr.elim
theorem actE_mono {C C' : Shared → Prop} {s : Shared} (k : ∀ s, C s → C' s) (h : actE prog w A elt acc env C s) : actE prog w A elt acc env C' s :=
  quietly h fun _ _ h1 => quietly h1 fun _ _ c => k _ c
theorem actI_mono {C C' : Shared → Prop} {s : Shared} (k : ∀ s, C s → C' s) (h : actI prog w A e d src acc env C s) : actI prog w A e d src acc env C' s :=
  quietly h fun _ _ h1 => quietly h1 fun _ _ h2 => codeAny_mono h2 fun r s' hr => by
    cases r with
    | ok f => exact k _ hr
    | error x => exact hr
/-- a later clause's start -/
theorem start_ok {el : Expr} {gs : List Comprehension} {scope : Scope} {pos : Pos} {s : Shared} (he : (clausesOf (.ListComp el gs scope pos))[d]? = some ⟨tg, src, ifs, 0⟩) (h0 : codeAny (model prog w) A (.compLoop (.ListComp el gs scope pos) d it acc env) R s)
    (h : wpAny (model prog w) A (pyIter it) (fun i s' => codeAny (model prog w) A (.compLoop (.ListComp el gs scope pos) d i acc env) R s') NoX s) : codeAny (model prog w) A (.compStart (.ListComp el gs scope pos) d it acc env) R s := by
  refine codeAny_of_tree ?_
  show wpAny (model prog w) _ ((compStart (.ListComp el gs scope pos) d it acc env).onRaise fun x => do noteFrame x env; standAt theWindowsPlace) _ _ s
  refine wpAny_notedAt ?_
  unfold compStart
  rw [he]
  show wpAny (model prog w) _ (ask >>= _) _ _ s
  refine wpAny_bind (wpAny_askSetting (wpAny_ite ?_))
  split
  · first
      | exact wpAny_bind (wpAny_pure (wpAny_pure ⟨rfl, h0⟩))
      | exact wpAny_pure ⟨rfl, h0⟩
  · refine wpAny_bind (wpAny_rule ?_)
    first
      | exact wpAny_bind (wpAny_standAt (wpAny_bind (quietly h fun i s' h' => wpAny_pure ⟨rfl, h'⟩)))
      | exact wpAny_bind (wpAny_bind (wpAny_standAt (wpAny_pure (wpAny_bind (quietly h fun i s' h' => wpAny_pure ⟨rfl, h'⟩)))))
end
/-- a clause in a block -/
structure Cl (X : Cx) (e : Expr) (d : Nat) (tg src : Expr) (ifs : List Expr) (g : TG) (tt : TT) (tb : TB) (vs : List Nat) (D : Addr) : Prop where
  at_ : (clausesOf e)[d]? = some ⟨tg, src, ifs, 0⟩
  pg : PG X tg g
  pt : PTs X ifs tt
  body : ∃ (bd : Sem Fin → Sem Fin) (P : (Shared → Prop) → Shared → Prop) (v1 : List Nat), (∀ i ∈ v1, i ∈ vs) ∧
    (∀ it : Addr, compTurn e d (.ref it) (.ref D) X.env = turnOf e d src.pos tg ifs bd (.ref it) (.ref D) X.env) ∧
    (∀ (k : Sem Fin) (Q : Fin → Shared → Prop) (E : Value → Shared → Prop) (C : Shared → Prop) (s : Shared), (∀ s', C s' → wpAny (model X.prog X.w) X.A k Q E s') → P C s → wpAny (model X.prog X.w) X.A (bd k) Q E s) ∧
    (∀ (C C' : Shared → Prop) (s : Shared), (∀ s, C s → C' s) → P C s → P C' s) ∧
    ∀ pins s σ H Nx, Inv X pins σ H s → tb σ H Nx → P (fun s' => ∃ H', Inv X pins (wipe σ v1) H' s' ∧ Nx H') s
section
variable {X : Cx} {e tg src elt : Expr} {d : Nat} {ifs : List Expr} {g : TG} {tt : TT} {tb : TB} {vs : List Nat} {D : Addr}
theorem Cl.loop {el : Expr} {gs : List Comprehension} {scope : Scope} {pos : Pos} (K : Cl X (.ListComp el gs scope pos) d tg src ifs g tt tb vs D) (hx : X.xe = NoX) (hc : X.calm = true) {it : Addr} {fp : List Addr} {tn : Nat → Heap → Prop} {J : It} {pins : List (Addr × Obj)} {s : Shared} {τ : St} {H : Hp} {Nx : Hp → Prop} {R : Result → Shared → Prop}
    (T : Turn X.prog X.w X.K tg J fp it tn) (I : Inv X pins τ H s) (hf : ∀ b ∈ fp, FpOk X pins H b) (st : tn 0 s.heap) (h : Lp J τ vs g tt tb H Nx) (hR : ∀ H' s', Inv X pins τ H' s' → Nx H' → R (.ok .next) s') :
    codeAny (model X.prog X.w) X.A (.compLoop (.ListComp el gs scope pos) d (.ref it) (.ref D) X.env) R s := by
  obtain ⟨bd, P, v1, hv, hT, hB, hP, ha⟩ := K.body
  obtain ⟨W, ⟨m0, w0⟩, turn⟩ := h
  have fpk : ∀ {H' : Hp}, (∀ b ∈ fp, H' b = none) → ∀ b ∈ fp, FpOk X pins H' b := fun hn b hb => ⟨hn b hb, (hf b hb).2⟩
  refine loop_run (P := P) (hT it) hB (fun n s' => ∃ i H', Inv X pins τ H' s' ∧ tn i s'.heap ∧ (∀ b ∈ fp, H' b = none) ∧ W i n H') ?_ m0 s ⟨0, H, I, st, fun b hb => (hf b hb).1, w0⟩
  rintro n s1 ⟨i, H1, I1, st1, n1, w1⟩
  rcases turn i n H1 w1 with ⟨stop, nx⟩ | ⟨go, N1, hN, step⟩
  · exact quietly (T.done X rfl rfl rfl hc i pins s1 τ H1 NoX I1 (fpk n1) st1 stop) fun r s2 ⟨hr, I2⟩ => by
      subst hr
      exact hR _ _ I2 nx
  · refine quietly (T.item X rfl rfl rfl hc i pins s1 τ H1 NoX I1 (fpk n1) st1 go) fun r s2 ⟨u, hr, h2⟩ => ?_
    subst hr
    refine quietly h2 fun _ s3 ⟨x, H3, I3, r3, y3, st3, n3⟩ => ?_
    have a1 := K.pg.run _ s3 τ H3 x u _ (I3.pinned (fpk n3) (T.obj _ _ st3)) r3 (step x H3 y3)
    rw [hx] at a1
    refine quietly a1 fun _ s4 ⟨σ4, H4, I4, hw4, q4⟩ => ?_
    have a2 := K.pt.run _ s4 σ4 H4 _ I4 q4
    rw [hx] at a2
    refine quietly a2 fun b s5 ⟨H5, I5, q5⟩ => ?_
    have back : ∀ {s' : Shared} {H' : Hp}, Inv X (pins ++ pinsAt fp s3.heap) (wipe σ4 v1) H' s' → N1 H' →
        ∃ m, m < n ∧ ∃ i H', Inv X pins τ H' s' ∧ tn i s'.heap ∧ (∀ b ∈ fp, H' b = none) ∧ W i m H' := fun {s' H'} I' k => by
      obtain ⟨m', hm, w'⟩ := hN H' k
      have still : ∀ b ∈ fp, ∀ o, s3.heap.get? b = some o → s'.heap.get? b = some o ∧ H' b = none := fun b hb o z =>
        ⟨(I'.pin (b, o) (List.mem_append_right _ (List.mem_append_right _ (mem_pinsAt hb z)))).1, (I'.pin (b, o) (List.mem_append_right _ (List.mem_append_right _ (mem_pinsAt hb z)))).2.1⟩
      refine ⟨m', hm, i + 1, H', I'.unpinned.weak ?_ (fun j v z => ?_), T.keep _ _ _ st3 fun b hb o z => (still b hb o z).1, fun b hb => ?_, w'⟩
      · rw [← hw4, wipe_length, wipe_length]
      · rw [← hw4] at z
        rw [wipe_out fun y => (wipe_some z).2 (hv j y)]
        exact (wipe_some z).1
      · obtain ⟨o, z, _⟩ := T.obj _ _ st3 b hb
        exact (still b hb o z).2
    cases b with
    | false => exact back (I5.weak (wipe_length _ _) fun j v z => (wipe_some z).1) q5
    | true => exact hP _ _ _ (fun s' ⟨H', I', k⟩ => back I' k) (ha _ s5 σ4 H5 N1 I5 q5)
theorem cl_last {te : TE} (he : (clausesOf e)[d]? = some ⟨tg, src, ifs, 0⟩) (hx : X.xe = NoX) (pg : PG X tg g) (pt : PTs X ifs tt) (pe : PE X elt te)
    (hT : ∀ it : Addr, compTurn e d (.ref it) (.ref D) X.env = turnOf e d src.pos tg ifs (bodyE elt (.ref D) X.env) (.ref it) (.ref D) X.env) : Cl X e d tg src ifs g tt (tbE te D) vs D :=
  ⟨he, pg, pt, bodyE elt (.ref D) X.env, actE X.prog X.w X.A elt (.ref D) X.env, [], (fun i h => nomatch h), hT, bodyE_ok, fun C C' s k h => actE_mono k h, fun pins s σ H Nx I h => by
    have a1 := pe.run pins s σ H _ I h
    rw [hx] at a1
    exact quietly a1 fun z s1 ⟨y, H1, I1, r1, acc, hD, hz, nx⟩ => app_ok I1 hD hz r1 fun s2 I2 => ⟨_, I2, nx⟩⟩
theorem cl_next {el : Expr} {gs : List Comprehension} {scope : Scope} {pos : Pos} {tg1 src1 : Expr} {ifs1 : List Expr} {g1 : TG} {tt1 : TT} {wi : TI} {tb : TB} {v1 : List Nat} (he : (clausesOf (.ListComp el gs scope pos))[d]? = some ⟨tg, src, ifs, 0⟩) (hx : X.xe = NoX) (hc : X.calm = true) (pg : PG X tg g) (pt : PTs X ifs tt) (pi : PI X tg1 src1 wi)
    (K : Cl X (.ListComp el gs scope pos) (d + 1) tg1 src1 ifs1 g1 tt1 tb v1 D) (hv : ∀ i ∈ v1, i ∈ vs) (hs : ∀ env x, foldedSetIterable src1 env x = pure x)
    (hT : ∀ it : Addr, compTurn (.ListComp el gs scope pos) d (.ref it) (.ref D) X.env = turnOf (.ListComp el gs scope pos) d src.pos tg ifs (bodyI (.ListComp el gs scope pos) d src1 (.ref D) X.env) (.ref it) (.ref D) X.env) : Cl X (.ListComp el gs scope pos) d tg src ifs g tt (tbI wi v1 g1 tt1 tb) vs D :=
  ⟨he, pg, pt, bodyI (.ListComp el gs scope pos) d src1 (.ref D) X.env, actI X.prog X.w X.A (.ListComp el gs scope pos) d src1 (.ref D) X.env, v1, hv, hT, bodyI_ok hs, fun C C' s k h => actI_mono k h, fun pins s σ H Nx I h => by
    have a1 := pi.run pins s σ H _ I h
    rw [hx] at a1
    refine quietly a1 fun xv s1 hx1 => quietly hx1 fun iv s2 h2 => ?_
    obtain ⟨it, fp, tn, J, H2, rfl, I2, T, st, hf, lp⟩ := h2
    have lo := K.loop hx hc (R := fun r s3 => match r with
      | .ok _ => ∃ H', Inv X pins (wipe σ v1) H' s3 ∧ Nx H'
      | .error _ => False) T (I2.weak (wipe_length _ _) fun j v z => (wipe_some z).1) hf st lp fun H' s' I' k => ⟨H', I', k⟩
    exact start_ok K.at_ lo (T.self X.A 0 _ _ _ st lo)⟩
/-- the whole comprehension, as a value -/
def tLcN (wi : TI) (vs : List Nat) (g : TG) (tt : TT) (tb : Addr → TB) : TE := fun σ H Q => wi σ H fun J H1 => ∀ D, H1 D = none → Lp J (wipe σ vs) vs g tt (tb D) (upd H1 D (.lst [])) (Q (.ref D))
theorem pe_lcN {iter : Expr} {rest : List Comprehension} {scope : Scope} {own : List (Str × Nat)} {pos : Pos} {wi : TI} {tbs : Addr → TB} (hc : X.calm = true) (hN : X.N.Nodup) (hi : PI X tg iter wi) (ok : BlkOk X.N X.env.scope scope own)
    (hs : ∀ x, foldedSetIterable iter X.env x = pure x)
    (K : ∀ (s : Shared) (H : Hp) (C : Addr) (cl : List (Str × Addr)) (fp : List Addr) (D : Addr), Cl (X.blk s H scope (compEnvC scope cl C X.env) fp) (.ListComp elt (⟨tg, iter, ifs, 0⟩ :: rest) scope pos) 0 tg iter ifs g tt (tbs D) (own.map (·.2)) D) :
    PE X (.ListComp elt (⟨tg, iter, ifs, 0⟩ :: rest) scope pos) (tLcN wi (own.map (·.2)) g tt tbs) := by
  refine ⟨fun pins s σ H Q I h => ?_⟩
  rw [eval_ListComp]
  have free : ∀ y ∈ scope.names, y.2 = .free → ∃ c, X.env.cells.lookup y.1 = some c := fun y hy z =>
    (ok.free y hy z).elim (fun k => I.ok.has _ (.inl k)) fun k => I.ok.has _ (.inr k)
  refine wpAny_comprehension_free (use := none) rfl hs (closure_ok free) ok.kind (fun y hy z => by rw [ok.uniq y hy, z]) (thn (hi.run pins s σ H _ I h) fun xv sA hx => thn hx fun iv sB hB => ?_)
  obtain ⟨it, fp, tn, J, HB, rfl, IB, T, stB, fB, lp⟩ := hB
  refine wpAny_newObj_type (newEnv_comp ?_) (by show 0 ≤ sizeLine; decide)
  obtain ⟨D, hD⟩ : ∃ D, sB.heap.objs.size = D := ⟨_, rfl⟩
  have lpD := lp D (IB.hok.fresh (Nat.le_of_eq hD))
  rw [hD]
  obtain ⟨sC, hsC⟩ : ∃ sC : Shared, ({ sB with heap := sB.heap.push { cls := .type "list", data := .seq ([] : List Value).toArray } } : Shared) = sC := ⟨_, rfl⟩
  have heapC : sC.heap = sB.heap.push { cls := .type "list", data := .seq ([] : List Value).toArray } := by rw [← hsC]
  have IC : Inv X pins σ (upd HB D (.lst [])) sC := by
    rw [← hsC]
    exact IB.laid (t' := sB.toks) (fun b o z => Heap.get?_push_of_some _ z) (Nat.le_of_eq hD) ⟨Nat.zero_le _, [], 0, .nil, by rw [← hD]; exact Heap.get?_push_size _ rfl⟩
  have small : ∀ b ∈ fp, b < sB.heap.objs.size := fun b hb => let ⟨o, z, _⟩ := T.obj _ _ stB b hb; Heap.lt_size z
  have fC : ∀ b ∈ fp, FpOk X pins (upd HB D (.lst [])) b ∧ b < sC.heap.objs.size := fun b hb =>
    ⟨⟨by rw [upd_ne (by rw [← hD]; exact Nat.ne_of_lt (small b hb))]; exact (fB b hb).1, (fB b hb).2⟩, by rw [heapC, Heap.size_push]; exact Nat.lt_succ_of_lt (small b hb)⟩
  have stC : tn 0 sC.heap := T.keep _ _ _ stB fun b _ o z => by rw [heapC]; exact Heap.get?_push_of_some _ z
  have ID := block_start IC ok hN fC
  have KD := K sC (upd HB D (.lst [])) sC.heap.objs.size (cellsFrom (sC.heap.objs.size + 1) scope.names (cloFrom X.env.cells scope.names [])) fp D
  rw [hsC]
  show codeAny _ _ (.compStart (.ListComp elt (⟨tg, iter, ifs, 0⟩ :: rest) scope pos) 0 (.ref it) (.ref D) (compEnvC scope (cellsFrom (sC.heap.objs.size + 1) scope.names (cloFrom X.env.cells scope.names [])) sC.heap.objs.size X.env)) _ { sC with heap := pushCells (sC.heap.push { cls := .type "dict", data := .dict #[] }) scope.names }
  obtain ⟨ce, hce⟩ : ∃ ce, compEnvC scope (cellsFrom (sC.heap.objs.size + 1) scope.names (cloFrom X.env.cells scope.names [])) sC.heap.objs.size X.env = ce := ⟨_, rfl⟩
  rw [hce] at ID KD ⊢
  have cL : ce.locals = sC.heap.objs.size := by rw [← hce]; rfl
  have stD : tn 0 (pushCells (sC.heap.push { cls := .type "dict", data := .dict #[] }) scope.names) := T.keep _ _ _ stC fun b _ o z => pushCells_keeps _ _ _ _ (Heap.get?_push_of_some _ z)
  have fD : ∀ b ∈ fp, FpOk (X.blk sC (upd HB D (.lst [])) scope ce fp) [] (upd HB D (.lst [])) b := fun b hb =>
    ⟨(fC b hb).1.1, (ID.ok.exf b hb).1, ID.ok.exfs b hb, .inl hb, fun x c z => (ID.ok.exf b hb).2 x c z, fun p hp => absurd (show p ∈ ([] : List (Addr × Obj)) ++ [] from hp) (by simp)⟩
  have lo := KD.loop rfl hc (R := compPost (model X.prog X.w) X.A X.xe none (fun x s' => EP X pins σ Q x s') (.ref D) ce.locals) T ID fD stD lpD fun H' s' I' q => by
    have I7 : Inv X pins σ H' s' := IC.call' (ch := fp) I'.os I'.base I'.hok I'.bare fun b hb => ⟨(fC b hb).1.2.2.2.1, (fC b hb).1.2.1, (fC b hb).1.2.2.2.2.1, (fC b hb).1.2.2.2.2.2⟩
    have nC : H' ce.locals = none := I'.free
    obtain ⟨m, hn, _⟩ := I'.loc
    refine ⟨m, hn, fun h'' sb => ?_⟩
    obtain ⟨f0, f1, f2, f3, f4, f5⟩ := IC.fpOk (b := ce.locals) (Nat.le_of_eq cL.symm) nC
    exact ⟨.ref D, H', I7.turned (t' := s'.toks) (fun b o hb z => (sb.2 b hb).trans z) f0 f1 f3 f4 f5, rfl, q⟩
  rw [cL] at lo
  exact codeAny_compStart_list lo (T.self X.A 0 _ _ _ stD lo)
end
end L2.Lcn

/-! A def with a star parameter called plainly; a clause over a tuple, over a list. -/
namespace L2
open PySem PySem.Spec PyProof.Rows
section
variable {X : Cx} {CX : CXT} {k : Nat} {f : Addr} {sp : Sp} {E : XK} {x : Str} {p pos : Pos} {e : Expr} {es : List Expr} {t : TA}
theorem pe_callR (F : FnR X.prog X.w X.K X.mg X.base CX k f sp) (hr : Room k X.A) (hg : Gl X x) (hm : X.mg x = some (.ref f)) (hk : PySem.W.keepIn X.K (.ref f) = true) (hx : Passes CX X E) (ha : PA X (e :: es) t)
    (hd : (x == ("__debug__" : Str)) = false := by decide) (he : starEach (e :: es) X.env = (false, eval e X.env) :: starEach es X.env := by rfl) (hp : (backTo pos (starEach es X.env)).any (·.1) = false := by rfl) :
    PE X (.Call (.Name x p) (e :: es) [] pos) (fun σ H Q => t σ H fun vs H1 => sp vs H1 Q E) := by
  refine ⟨fun pins s σ H Q I h => wpAny_Call_Name_kw (ld_glob I hg hm ?_ hd)⟩
  refine PySem.W.callWith_K (h₀ := X.base) I.ok.mod.kin hk (thn (ha.run pos pins s σ H _ I h) fun us s1 ⟨vs, H1, I1, r, q⟩ => ⟨I1.kIn, ?_⟩) he hp
  exact wpAny_call (run_fnR F hr hx I1 r q)
end
theorem bind_star0 {B : List Value → Sem (List (Str × Value))} {pv : Str} (h0 : B [] = (newTuple [] >>= fun t => pure [(pv, t)])) (h1 : ∀ r rs, B (r :: rs) = (newTuple (r :: rs) >>= fun t => pure [(pv, t)])) :
    ∀ us rest : List Value, us.length = ([] : List Str).length → B (us ++ rest) = (newTuple rest >>= fun t => pure (([] : List Str).zip us ++ [(pv, t)]))
  | [], [], _ => h0
  | [], r :: rs, _ => h1 r rs
end L2
namespace L2.Lcn
open PySem PySem.Spec PyProof.Rows
section
variable {K : PySem.W.Frag} {a : Addr} {xs : List V} {τ : St} {vs : List Nat} {g : TG} {tt : TT} {tb : TB} {H0 : Hp} {Nx : Hp → Prop}
theorem lp_tup (Pv : Nat → Hp → Prop) (h0 : Pv 0 H0) (hl : ∀ i H, Pv i H → SqT K H a xs)
    (hs : ∀ i x H, xs[i]? = some x → Pv i H → g x τ H fun σ2 H2 => wipe σ2 vs = τ ∧ tt σ2 H2 fun b H3 => if b = true then tb σ2 H3 (Pv (i + 1)) else Pv (i + 1) H3) (hd : ∀ H, Pv xs.length H → Nx H) : Lp (Itt K a) τ vs g tt tb H0 Nx := by
  refine ⟨fun i m H => m = xs.length - i ∧ i ≤ xs.length ∧ Pv i H, ⟨xs.length, by simp, Nat.zero_le _, h0⟩, ?_⟩
  rintro i m H ⟨rfl, hi, hp⟩
  have q := hl i H hp
  by_cases lt : i < xs.length
  · exact .inr ⟨⟨xs, xs[i], q, List.getElem?_eq_getElem lt⟩, Pv (i + 1), fun H' h => ⟨xs.length - (i + 1), by omega, rfl, lt, h⟩, fun x H' y => by
      obtain ⟨z, y⟩ := y
      subst z
      exact hs i x _ (y xs q) hp⟩
  · obtain rfl : i = xs.length := by omega
    exact .inl ⟨⟨xs, q, Nat.le_refl _⟩, hd H hp⟩
theorem lp_list (Pv : Nat → Hp → Prop) (h0 : Pv 0 H0) (hl : ∀ i H, Pv i H → SqL K H a xs)
    (hs : ∀ i x H, xs[i]? = some x → Pv i H → g x τ H fun σ2 H2 => wipe σ2 vs = τ ∧ tt σ2 H2 fun b H3 => if b = true then tb σ2 H3 (Pv (i + 1)) else Pv (i + 1) H3) (hd : ∀ H, Pv xs.length H → Nx H) : Lp (Itl K a) τ vs g tt tb H0 Nx := by
  refine ⟨fun i m H => m = xs.length - i ∧ i ≤ xs.length ∧ Pv i H, ⟨xs.length, by simp, Nat.zero_le _, h0⟩, ?_⟩
  rintro i m H ⟨rfl, hi, hp⟩
  have q := hl i H hp
  by_cases lt : i < xs.length
  · exact .inr ⟨⟨xs, xs[i], q, List.getElem?_eq_getElem lt⟩, Pv (i + 1), fun H' h => ⟨xs.length - (i + 1), by omega, rfl, lt, h⟩, fun x H' y => by
      obtain ⟨z, y⟩ := y
      subst z
      exact hs i x _ (y xs q) hp⟩
  · obtain rfl : i = xs.length := by omega
    exact .inl ⟨⟨xs, q, Nat.le_refl _⟩, hd H hp⟩
end
section
variable (elt t0 i0 t1 i1 t2 i2 : Expr) (f0 f1 f2 : List Expr) (scope : Scope) (pos : Pos) (it acc : Value) (env : Env)
abbrev e3 : Expr := .ListComp elt [⟨t0, i0, f0, 0⟩, ⟨t1, i1, f1, 0⟩, ⟨t2, i2, f2, 0⟩] scope pos
theorem turn30 : compTurn (e3 elt t0 i0 t1 i1 t2 i2 f0 f1 f2 scope pos) 0 it acc env = turnOf (e3 elt t0 i0 t1 i1 t2 i2 f0 f1 f2 scope pos) 0 i0.pos t0 f0 (bodyI (e3 elt t0 i0 t1 i1 t2 i2 f0 f1 f2 scope pos) 0 i1 acc env) it acc env := by rfl
theorem turn31 : compTurn (e3 elt t0 i0 t1 i1 t2 i2 f0 f1 f2 scope pos) 1 it acc env = turnOf (e3 elt t0 i0 t1 i1 t2 i2 f0 f1 f2 scope pos) 1 i1.pos t1 f1 (bodyI (e3 elt t0 i0 t1 i1 t2 i2 f0 f1 f2 scope pos) 1 i2 acc env) it acc env := by rfl
theorem turn32 : compTurn (e3 elt t0 i0 t1 i1 t2 i2 f0 f1 f2 scope pos) 2 it acc env = turnOf (e3 elt t0 i0 t1 i1 t2 i2 f0 f1 f2 scope pos) 2 i2.pos t2 f2 (bodyE elt acc env) it acc env := by rfl
end
section
variable {X : Cx} {elt t0 i0 t1 i1 t2 i2 : Expr} {f0 f1 f2 : List Expr} {scope : Scope} {pos : Pos} {own : List (Str × Nat)} {v1 v2 : List Nat} {w0 w1 w2 : TI} {g0 g1 g2 : TG} {q0 q1 q2 : TT} {te : TE}
theorem pe_lc3 (hc : X.calm = true) (hN : X.N.Nodup) (ok : BlkOk X.N X.env.scope scope own) (h1 : ∀ i ∈ v1, i ∈ own.map (·.2)) (h2 : ∀ i ∈ v2, i ∈ v1) (hi : PI X t0 i0 w0)
    (hg0 : ∀ (s : Shared) (H : Hp) (C : Addr) (cl : List (Str × Addr)) (fp : List Addr), PG (X.blk s H scope (compEnvC scope cl C X.env) fp) t0 g0) (ht0 : ∀ (s : Shared) (H : Hp) (C : Addr) (cl : List (Str × Addr)) (fp : List Addr), PTs (X.blk s H scope (compEnvC scope cl C X.env) fp) f0 q0)
    (hi1 : ∀ (s : Shared) (H : Hp) (C : Addr) (cl : List (Str × Addr)) (fp : List Addr), PI (X.blk s H scope (compEnvC scope cl C X.env) fp) t1 i1 w1)
    (hg1 : ∀ (s : Shared) (H : Hp) (C : Addr) (cl : List (Str × Addr)) (fp : List Addr), PG (X.blk s H scope (compEnvC scope cl C X.env) fp) t1 g1) (ht1 : ∀ (s : Shared) (H : Hp) (C : Addr) (cl : List (Str × Addr)) (fp : List Addr), PTs (X.blk s H scope (compEnvC scope cl C X.env) fp) f1 q1)
    (hi2 : ∀ (s : Shared) (H : Hp) (C : Addr) (cl : List (Str × Addr)) (fp : List Addr), PI (X.blk s H scope (compEnvC scope cl C X.env) fp) t2 i2 w2)
    (hg2 : ∀ (s : Shared) (H : Hp) (C : Addr) (cl : List (Str × Addr)) (fp : List Addr), PG (X.blk s H scope (compEnvC scope cl C X.env) fp) t2 g2) (ht2 : ∀ (s : Shared) (H : Hp) (C : Addr) (cl : List (Str × Addr)) (fp : List Addr), PTs (X.blk s H scope (compEnvC scope cl C X.env) fp) f2 q2)
    (he : ∀ (s : Shared) (H : Hp) (C : Addr) (cl : List (Str × Addr)) (fp : List Addr), PE (X.blk s H scope (compEnvC scope cl C X.env) fp) elt te)
    (s0 : ∀ x, foldedSetIterable i0 X.env x = pure x := by intro _; rfl) (s1 : ∀ env x, foldedSetIterable i1 env x = pure x := by intro _ _; rfl) (s2 : ∀ env x, foldedSetIterable i2 env x = pure x := by intro _ _; rfl) :
    PE X (.ListComp elt [⟨t0, i0, f0, 0⟩, ⟨t1, i1, f1, 0⟩, ⟨t2, i2, f2, 0⟩] scope pos) (tLcN w0 (own.map (·.2)) g0 q0 fun D => tbI w1 v1 g1 q1 (tbI w2 v2 g2 q2 (tbE te D))) :=
  pe_lcN hc hN hi ok s0 fun s H C cl fp D => cl_next rfl rfl hc (hg0 s H C cl fp) (ht0 s H C cl fp) (hi1 s H C cl fp)
    (cl_next rfl rfl hc (hg1 s H C cl fp) (ht1 s H C cl fp) (hi2 s H C cl fp) (cl_last rfl rfl (hg2 s H C cl fp) (ht2 s H C cl fp) (he s H C cl fp) fun it => turn32 _ _ _ _ _ _ _ _ _ _ _ _ _ _ _) h2 s2 fun it => turn31 _ _ _ _ _ _ _ _ _ _ _ _ _ _ _) h1 s1 fun it => turn30 _ _ _ _ _ _ _ _ _ _ _ _ _ _ _
end
end L2.Lcn

/-! Texts of styles: the words of a line, taken one after another. -/
namespace Tx
open PySem L2 Evl Dg Dt TL StX ClX LamR LamX
open Dr (StAt SameB)
abbrev sNumerals : Stmt := top 47
abbrev sEndings : Stmt := top 48
abbrev clWords : Stmt := top 49
abbrev sWInit : Stmt := inClass clWords 0
abbrev sWOver : Stmt := inClass clWords 1
abbrev sWTake : Stmt := inClass clWords 2
abbrev sWEnd : Stmt := inClass clWords 3
section
variable {K : PySem.W.Frag} {σ : St} {H : Hp} {te : TE} {CW : Addr}
/-- kept but for what stands at x -/
def Bx (x : Addr) (H H' : Hp) : Prop := ∀ b o, H b = some o → b ≠ x → H' b = some o
theorem Bx.of {x : Addr} {H H' : Hp} (e : Ex H H') : Bx x H H' := fun b o h _ => e b o h
theorem Bx.trans {x : Addr} {H H1 H2 : Hp} (h : Bx x H H1) (k : Bx x H1 H2) : Bx x H H2 := fun b o hb n => k b o (h b o hb n) n
theorem Bx.upd {x : Addr} {H : Hp} {o : HO} : Bx x H (L2.upd H x o) := fun b o' hb n => by
  rw [upd_ne n]
  exact hb
theorem Bx.tupK {x : Addr} {H H' : Hp} {C dx : Addr} {fs : List (Str × V)} (h : Bx x H H') (hx : H x = some (.ins C dx fs)) : TupK H H' := fun a xs ha => h a _ ha (ne_of ha hx (by intro z; cases z))
def wdF (ln : Int) (la : Addr) (i : Nat) : List (Str × V) := [("line", .int ln), ("words", .ref la), ("taken", .int (i : Int))]
/-- the words of a line, i of them taken -/
def WdAt (CW : Addr) (H : Hp) (x : Addr) (ln : Int) (ws : List Str) (i : Nat) : Prop := ∃ dx la, H x = some (.ins CW dx (wdF ln la i)) ∧ H la = some (.lst (ws.map V.str))
theorem WdAt.ex {H H' : Hp} {x : Addr} {ln : Int} {ws : List Str} {i : Nat} (h : WdAt CW H x ln ws i) (e : Ex H H') : WdAt CW H' x ln ws i := let ⟨dx, la, h1, h2⟩ := h; ⟨dx, la, e _ _ h1, e _ _ h2⟩
theorem WdAt.bx {H H' : Hp} {x y : Addr} {ln : Int} {ws : List Str} {i : Nat} {C dx : Addr} {fs : List (Str × V)} (h : WdAt CW H x ln ws i) (e : Bx y H H') (n : x ≠ y) (hy : H y = some (.ins C dx fs)) : WdAt CW H' x ln ws i := let ⟨dx', la, h1, h2⟩ := h; ⟨dx', la, e _ _ h1 n, e _ _ h2 (ne_of h2 hy (by intro z; cases z))⟩
theorem ev_fldW {f : Str} {v : V} {x dx : Addr} {fs : List (Str × V)} (h : Ev te σ H (.ref x)) (cl : Cls K CW) (n : NoAttr K CW f) (hx : H x = some (.ins CW dx fs)) (hl : fs.lookup f = some v) : Ev (tFld K te f) σ H v := fun H1 e Q q =>
  h H1 e _ fun H2 e2 => ⟨x, CW, dx, fs, v, rfl, (e.trans e2) _ _ hx, cl, n, hl, q H2 e2⟩
theorem wd_line {ln : Int} {la : Addr} {i : Nat} : List.lookup ("line" : Str) (wdF ln la i) = some (.int ln) := rfl
theorem wd_words {ln : Int} {la : Addr} {i : Nat} : List.lookup ("words" : Str) (wdF ln la i) = some (.ref la) := rfl
theorem wd_taken {ln : Int} {la : Addr} {i : Nat} : List.lookup ("taken" : Str) (wdF ln la i) = some (.int (i : Int)) := rfl
structure TxWd (K : PySem.W.Frag) (mg : Str → Option Value) (CW : Addr) : Prop where
  len : mg "len" = none
  clW : Cls K CW
  nL : NoAttr K CW "line"
  nW : NoAttr K CW "words"
  nT : NoAttr K CW "taken"
end
section
variable {P : Program} {w : World} {K : PySem.W.Frag} {mg : Str → Option Value} {base : Heap} {CW fov : Addr}
def spNums : Sp := fun vs H Q _ => ∃ lo hi : Nat, vs = [.int (lo : Int), .int (hi : Int)] ∧ lo ≤ 10 ∧ hi ≤ 10 ∧ RetL ((numsL lo hi).map V.str) H Q
theorem scNums : FnScope ["least", "most", "number"] ["least", "most"] (defScope sNumerals) := ⟨rfl, rfl, rfl, by decide +kernel, rfl, by decide +kernel, by decide +kernel⟩
theorem str_nat {n : Nat} (h : n ≤ 20) : ((n : Nat) : Int).natAbs.log2 < 1920 := by
  rw [Int.natAbs_natCast]
  exact Nat.lt_of_le_of_lt (Nat.log2_le_self _) (by omega)
theorem ok_numerals {f : Addr} {fd : FuncData} (F : Fun K "numerals" "numerals" sNumerals f fd) (mS : mg "str" = none) (mR : mg "range" = none) : FnOk P w K mg base CX0 1 f fd ["least", "most"] spNums := by
  refine F.ok scNums (fun vs H Q E h => ?_) (fun cdv A outer s H vs Q E hr h => ?_)
  · obtain ⟨_, _, rfl, _⟩ := h
    rfl
  · obtain ⟨lo, hi, rfl, l10, h10, q⟩ := h
    refine ⟨_, pss_one (ps_ret (pe_lc (own := [("number", 2)]) (g := gName 2) (tt := tYes) (te := tCB rStrIS (tCons (tVar 2) tNil)) rfl scNums.nd (pi_range2 (by rfl) mR (pa_cons (pv 0) (pa_cons (pe_op op_add (pv 1) pe_int) pa_nil))) (blkOk_by (own := [("number", 2)]) (N := ["least", "most", "number"]) (sc := defScope sNumerals) (by decide +kernel)) (fun _ _ _ _ _ => pg_name (i := 2) scNums.nd rfl (Or.inl rfl)) (fun _ _ _ _ _ => pts_nil)
      (fun _ _ _ _ _ => pe_callTy (T := "str") (r := rStrIS) call_strIS (by rfl) mS (by decide +kernel) (pa_cons (pv 2) pa_nil)))), ?_⟩
    refine ⟨_, rfl, _, rfl, (hi : Int), 1, rfl, rfl, ?_⟩
    refine ⟨(lo : Int), (hi : Int) + 1, rfl, ⟨by omega, by omega, by omega, by omega⟩, fun D nD => ?_⟩
    have en : (((hi : Int) + 1) - (lo : Int)).toNat = hi + 1 - lo := by omega
    rw [en]
    refine lc_range (lo := (lo : Int)) (n := hi + 1 - lo) (fun j H' => H' D = some (.lst (((numsL lo hi).take j).map V.str)) ∧ Ex H H') ⟨upd_same, Ex.new nD⟩ (fun j H' hj hI => ?_) (fun H' hI => ?_)
    · obtain ⟨hD, e⟩ := hI
      refine ⟨rfl, ?_⟩
      rw [show (tYes : TT) = fun _ H Q => Q true H from rfl]
      dsimp only
      rw [if_pos rfl]
      have ej : (lo : Int) + (j : Int) = ((lo + j : Nat) : Int) := by omega
      rw [ej]
      refine ⟨_, rfl, .inl ⟨((lo + j : Nat) : Int), rfl, str_nat (by omega), _, hD, ?_, ?_, fun b o hb => ?_⟩⟩
      · rw [List.length_map, List.length_take, sizeLine_eq]
        omega
      · rw [upd_same, List.take_add_one]
        have : (numsL lo hi)[j]? = some (toString ((lo + j : Nat) : Int) : Str) := by
          unfold numsL
          rw [List.getElem?_map, List.getElem?_range hj]
          rfl
        rw [this, List.map_append]
        rfl
      · rw [upd_ne (ne_of_none hb nD)]
        exact e _ _ hb
    · obtain ⟨hD, e⟩ := hI
      have : (numsL lo hi).take (hi + 1 - lo) = numsL lo hi := List.take_of_length_le (by unfold numsL; rw [List.length_map, List.length_range]; omega)
      rw [this] at hD
      exact q D H' nD e hD
def spOver (CW : Addr) : Sp := fun vs H Q _ => ∃ (x : Addr) (ln : Int) (ws : List Str) (i : Nat), vs = [.ref x] ∧ WdAt CW H x ln ws i ∧ RetV (.bl (decide (i = ws.length))) H Q
theorem scWOver : FnScope ["self"] ["self"] (defScope sWOver) := ⟨rfl, rfl, rfl, by decide +kernel, rfl, by decide +kernel, by decide +kernel⟩
theorem ok_wover {f : Addr} {fd : FuncData} (F : Fun K "are_over" "Words.are_over" sWOver f fd) (T : TxWd K mg CW) : FnOk P w K mg base CX0 1 f fd ["self"] (spOver CW) := by
  refine F.ok scWOver (fun vs H Q E h => ?_) (fun cdv A outer s H vs Q E hr h => ?_)
  · obtain ⟨_, _, _, _, rfl, _⟩ := h
    rfl
  · obtain ⟨x, ln, ws, i, rfl, ⟨dx, la, hx, hla⟩, q⟩ := h
    refine ⟨_, pss_one (ps_ret (pe_cmpR op_eq (pe_fld (pv 0) rfl) (pe_callB (id := "len") (r := rLenS K) call_len_seq (by rfl) T.len (by decide +kernel) (pa_cons (pe_fld (pv 0) rfl) pa_nil)) (nomark _))), ?_⟩
    have eL : Ev (tCB (rLenS K) (tCons (tFld K (tVar 0) "words") tNil)) [some (.ref x)] H (.int (ws.length : Int)) := ev_cb (ea_cons (ev_fldW (ev_var rfl) T.clW T.nW hx wd_words) ea_nil) fun H1 e1 Q1 q1 => ⟨la, _, rfl, .inl (sq_of (e1 _ _ hla)), by
      rw [List.length_map]
      exact q1 H1 (Ex.refl H1)⟩
    refine s_ret (ev_is (ev_op (ev_fldW (ev_var rfl) T.clW T.nT hx wd_taken) eL (rv_eq rfl)) ?_) fun H1 e1 => q H1 e1
    congr 1
    exact decide_eq_decide.mpr ⟨fun z => by injection z with z; omega, fun z => by rw [z]⟩
def spTake (CW : Addr) (K : PySem.W.Frag) : Sp := fun vs H Q _ => ∃ (x p : Addr) (ln : Int) (ws : List Str) (i : Nat) (wd : Str) (fs : List Str), vs = [.ref x, .ref p] ∧ WdAt CW H x ln ws i ∧ ws[i]? = some wd ∧ wd ∈ fs ∧ (SqL K H p (fs.map V.str) ∨ SqT K H p (fs.map V.str)) ∧
  ∀ H', Bx x H H' → WdAt CW H' x ln ws (i + 1) → Q (.str wd) H'
theorem scWTake : FnScope ["self", "fit"] ["self", "fit"] (defScope sWTake) := ⟨rfl, rfl, rfl, by decide +kernel, rfl, by decide +kernel, by decide +kernel⟩
theorem sq_ex {H H' : Hp} {p : Addr} {xs : List V} (h : SqL K H p xs ∨ SqT K H p xs) (e : Ex H H') : SqL K H' p xs ∨ SqT K H' p xs := h.elim (fun h => .inl (ex_l e h)) fun h => .inr (ex_t e h)
theorem ok_wtake {f : Addr} {fd fd1 : FuncData} (F : Fun K "take" "Words.take" sWTake f fd) (mO : Meth K CW "are_over" fov) (GO : FnOk P w K mg base CX0 1 fov fd1 ["self"] (spOver CW)) (bO : Binds K fd1 ["self"] []) (T : TxWd K mg CW) : FnOk P w K mg base CX0 2 f fd ["self", "fit"] (spTake CW K) := by
  refine F.ok scWTake (fun vs H Q E h => ?_) (fun cdv A outer s H vs Q E hr h => ?_)
  · obtain ⟨_, _, _, _, _, _, _, rfl, _⟩ := h
    rfl
  · obtain ⟨x, p, ln, ws, i, wd, fs, rfl, WA, hw, hm, hp, q⟩ := h
    obtain ⟨dx, la, hx, hla⟩ := WA
    refine ⟨_, pss_cons (ps_if (PW.pt (pw_or (pt_val (pe_meth0 (pv 0) T.clW mO GO hr bO .nil pass0)) (pw_or1 (pt_cmpR op_notIn_seq (pe_ix ix_list (pe_fld (pv 0) rfl) (pe_fld (pv 0) rfl) (fun _ _ => rfl)) (pv 1) (by rfl))))) (pss_one ps_never) pss_nil)
      (pss_cons (ps_fld (pv 0) (pe_op op_add (pe_fld (pv 0) rfl) pe_int) rfl)
      (pss_one (ps_ret (pe_ix ix_list (pe_fld (pv 0) rfl) (pe_op op_sub (pe_fld (pv 0) rfl) pe_int) (fun _ _ => rfl))))), ?_⟩
    have hi : i < ws.length := (List.getElem?_eq_some_iff.mp hw).1
    have at1 : atI (ws.map V.str) ((i : Nat) : Int) = some (V.str wd) := atI_nat (by rw [List.getElem?_map, hw]; rfl)
    refine q_when (b := false) (et_is (et_or (a := decide (i = ws.length)) (et_B fun H1 e1 Q1 q1 => ⟨_, rfl, x, dx, _, rfl, e1 _ _ hx, rfl, x, ln, ws, i, rfl, ⟨dx, la, e1 _ _ hx, e1 _ _ hla⟩, fun H2 e2 => q1 H2 e2⟩) fun _ => et_test (ev_op (ev_op (ev_fldW (ev_var rfl) T.clW T.nW hx wd_words) (ev_fldW (ev_var rfl) T.clW T.nT hx wd_taken) (rv_ixL (sq_of hla) at1)) (ev_var rfl) (z := .bl (!inV (.str wd) (fs.map V.str))) fun H1 e1 Q1 q1 => ⟨p, _, rfl, sq_ex hp e1, rfl, flat_strs, q1 H1 (Ex.refl H1)⟩)) ?_) (fun z => nomatch z) (fun _ H1 e1 => ?_)
    · rw [inV_strs hm]
      simp
      omega
    · have hx1 := e1 _ _ hx
      have hla1 := e1 _ _ hla
      refine ⟨_, rfl, x, CW, dx, _, _, rfl, hx1, T.clW, T.nT, wd_taken, (i : Int), 1, rfl, rfl, _, rfl, x, CW, dx, _, rfl, hx1, T.clW, T.nT, (show 3 < 1000 by decide), ?_⟩
      have e2 : putF "taken" (V.int ((i : Int) + 1)) (wdF ln la i) = wdF ln la (i + 1) := rfl
      rw [e2]
      have hla2 : (upd H1 x (.ins CW dx (wdF ln la (i + 1)))) la = some (.lst (ws.map V.str)) := by
        rw [upd_ne (ne_of hla1 hx1 (by intro z; cases z))]
        exact hla1
      have hx2 : (upd H1 x (.ins CW dx (wdF ln la (i + 1)))) x = some (.ins CW dx (wdF ln la (i + 1))) := upd_same
      have eI : ((i + 1 : Nat) : Int) - 1 = (i : Int) := by omega
      refine s_ret (ev_op (ev_fldW (ev_var rfl) T.clW T.nW hx2 wd_words) (ev_op (ev_fldW (ev_var rfl) T.clW T.nT hx2 wd_taken) ev_c rv_I0) (rv_ixL (sq_of hla2) (by rw [eI]; exact at1))) fun H3 e3 => q H3 ?_ ?_
      · exact (Bx.of e1).trans (Bx.upd.trans (Bx.of e3))
      · exact WdAt.ex ⟨dx, la, hx2, hla2⟩ e3
def spWEnd (CW : Addr) : Sp := fun vs H Q _ => ∃ (x : Addr) (ln : Int) (ws : List Str), vs = [.ref x] ∧ WdAt CW H x ln ws ws.length ∧ RetV .non H Q
theorem scWEnd : FnScope ["self"] ["self"] (defScope sWEnd) := ⟨rfl, rfl, rfl, by decide +kernel, rfl, by decide +kernel, by decide +kernel⟩
theorem ok_wend {f : Addr} {fd fd1 : FuncData} (F : Fun K "need_end" "Words.need_end" sWEnd f fd) (mO : Meth K CW "are_over" fov) (GO : FnOk P w K mg base CX0 1 fov fd1 ["self"] (spOver CW)) (bO : Binds K fd1 ["self"] []) (T : TxWd K mg CW) : FnOk P w K mg base CX0 2 f fd ["self"] (spWEnd CW) := by
  refine F.ok scWEnd (fun vs H Q E h => ?_) (fun cdv A outer s H vs Q E hr h => ?_)
  · obtain ⟨_, _, _, rfl, _⟩ := h
    rfl
  · obtain ⟨x, ln, ws, rfl, ⟨dx, la, hx, hla⟩, q⟩ := h
    refine ⟨_, pss_one (ps_if (pt_not (pt_val (pe_meth0 (pv 0) T.clW mO GO hr bO .nil pass0))) (pss_one ps_never) pss_nil), ?_⟩
    exact s_when (b := false) (et_is (et_not (et_B fun H1 e1 Q1 q1 => ⟨_, rfl, x, dx, _, rfl, e1 _ _ hx, rfl, x, ln, ws, ws.length, rfl, ⟨dx, la, e1 _ _ hx, e1 _ _ hla⟩, fun H2 e2 => q1 H2 e2⟩)) (by simp)) (fun z => nomatch z) (fun _ H1 e1 => q H1 e1)
def spWInit (CW : Addr) : Sp := fun vs H Q _ => ∃ (x dx : Addr) (ln : Int) (ws : List Str), vs = [.ref x, .int ln, .str (Txt.join " " ws)] ∧ H x = some (.ins CW dx []) ∧ (ws ≠ [] ∧ ∀ w ∈ ws, ∀ c ∈ tl w, 33 ≤ c) ∧ (Txt.join " " ws).length ≤ 1000 ∧
  ∀ H', Bx x H H' → WdAt CW H' x ln ws 0 → Q .non H'
theorem scWInit : FnScope ["self", "line", "text"] ["self", "line", "text"] (defScope sWInit) := ⟨rfl, rfl, rfl, by decide +kernel, rfl, by decide +kernel, by decide +kernel⟩
theorem ok_winit {f : Addr} {fd : FuncData} (F : Fun K "__init__" "Words.__init__" sWInit f fd) (T : TxWd K mg CW) : FnOk P w K mg base CX0 1 f fd ["self", "line", "text"] (spWInit CW) := by
  refine F.ok scWInit (fun vs H Q E h => ?_) (fun cdv A outer s H vs Q E hr h => ?_)
  · obtain ⟨_, _, _, _, rfl, _⟩ := h
    rfl
  · obtain ⟨x, dx, ln, ws, rfl, hx, hw, hz, q⟩ := h
    refine ⟨_, pss_cons (ps_fld (pv 0) (pv 1) rfl) (pss_cons (ps_fld (pv 0) (pe_split (pv 2) pe_str) rfl) (pss_one (ps_fld (pv 0) pe_int rfl))), ?_⟩
    refine ⟨_, rfl, _, rfl, x, CW, dx, _, rfl, hx, T.clW, T.nL, by decide, ?_⟩
    refine ⟨_, rfl, ⟨_, rfl⟩, _, " ", rfl, rfl, by decide, by rw [sizeLine_eq]; omega, fun la hla => ?_⟩
    rw [line_split hw]
    have nx : la ≠ x := fun z => by
      rw [z, upd_same] at hla
      cases hla
    have h1 : (upd (upd H x (.ins CW dx [("line", .int ln)])) la (.lst (ws.map V.str))) x = some (.ins CW dx [("line", .int ln)]) := by
      rw [upd_ne nx.symm, upd_same]
    have nla : H la = none := by
      cases hz : H la with
      | none => rfl
      | some o =>
        rw [upd_ne nx, hz] at hla
        cases hla
    refine ⟨_, rfl, x, CW, dx, _, rfl, h1, T.clW, T.nW, (show 1 < 1000 by decide), ?_⟩
    refine ⟨_, rfl, x, CW, dx, _, rfl, upd_same, T.clW, T.nT, (show 2 < 1000 by decide), ?_⟩
    refine q _ (fun b o hb n => ?_) ⟨dx, la, upd_same, ?_⟩
    · rw [upd_ne n, upd_ne n, upd_ne (ne_of_none hb nla), upd_ne n]
      exact hb
    · rw [upd_ne nx, upd_ne nx, upd_same]
end
end Tx

/-! Texts of styles: how a line is read. -/
namespace Tx
open PySem L2 Evl Dg Dt TL StX ClX LamR LamX
open L2.Lcn (tbE tbI lp_list)
open Dr (StAt SameB)
abbrev sRdBase : Stmt := top 50
abbrev sRdKeep : Stmt := top 51
abbrev sRdCond : Stmt := top 52
abbrev sRdRule : Stmt := top 53
theorem figs_cut {β : Nat} (h2 : 2 ≤ β) (h10 : β ≤ 10) : signsV (cutS "0123456789" none (some (β : Int))) = (figsL β).map V.str := by
  have e : ((cutS "0123456789" none (some (β : Int))).cps.toList.map fun c => (⟨#[c]⟩ : Str)) = figsL β := by
    have cc : β = 2 ∨ β = 3 ∨ β = 4 ∨ β = 5 ∨ β = 6 ∨ β = 7 ∨ β = 8 ∨ β = 9 ∨ β = 10 := by omega
    rcases cc with rfl | rfl | rfl | rfl | rfl | rfl | rfl | rfl | rfl <;> decide +kernel
  unfold signsV
  rw [← e, List.map_map]
  rfl
theorem cut_len {β : Nat} (h2 : 2 ≤ β) (h10 : β ≤ 10) : (cutS "0123456789" none (some (β : Int))).length ≤ 10 := by
  have cc : β = 2 ∨ β = 3 ∨ β = 4 ∨ β = 5 ∨ β = 6 ∨ β = 7 ∨ β = 8 ∨ β = 9 ∨ β = 10 := by omega
  rcases cc with rfl | rfl | rfl | rfl | rfl | rfl | rfl | rfl | rfl <;> decide +kernel
abbrev rIntT : List V → Hp → VK → Prop := fun xs H Q => ∃ a n, xs = [V.str a] ∧ PySem.intText? a = some n ∧ a.length ≤ 640 ∧ Q (.int n) H
abbrev rAddS : R2 := fun x y H Q => ∃ i j, x = .str i ∧ y = .str j ∧ i.length + j.length ≤ sizeLine ∧ Q (.str (i ++ j)) H
section
variable {K : PySem.W.Frag} {σ : St} {H : Hp} {te tf : TE} {CW : Addr}
/-- all pairs of texts of a list put together -/
theorem el_pairs {a : Addr} {ws : List Str} {v0 : Option V} (ha : H a = some (.lst (ws.map V.str))) (hl : ws.length ≤ 10) (h1 : ∀ w ∈ ws, w.length ≤ 1) :
    EvL (tLc2 (iList K (tVar 1)) (gName 2) tYes (iList K (tVar 1)) (gName 3) tYes (tOp rAddS (tVar 2) (tVar 3)) [2, 3] [3]) [v0, some (.ref a), none, none] H ((ws.flatMap fun x => ws.map fun y => x ++ y).map V.str) := by
  intro H1 e1 Q q
  have ha1 := e1 _ _ ha
  refine ⟨_, rfl, a, rfl, ⟨_, sq_of ha1⟩, fun D nD => ?_⟩
  have fl : ∀ j, ((ws.take j).flatMap fun x => ws.map fun y => x ++ y).length ≤ 10 * 10 := fun j => by
    have : ∀ us : List Str, us.length ≤ 10 → (us.flatMap fun x => ws.map fun y => x ++ y).length ≤ us.length * 10 := fun us => by
      induction us with
      | nil => intro _; simp
      | cons u us ih =>
        intro hu
        rw [List.length_cons] at hu
        have := ih (by omega)
        rw [List.flatMap_cons, List.length_append, List.length_map, List.length_cons]
        omega
    have h2 : (ws.take j).length ≤ 10 := by rw [List.length_take]; omega
    have := this (ws.take j) h2
    omega
  refine lp_list (K := K) (a := a) (xs := ws.map V.str) (vs := [2, 3]) (g := gName 2) (tt := tYes) (tb := tbI (iList K (tVar 1)) [3] (gName 3) tYes (tbE (tOp rAddS (tVar 2) (tVar 3)) D))
    (fun i H' => H' D = some (.lst (((ws.take i).flatMap fun x => ws.map fun y => x ++ y).map V.str)) ∧ Ex H1 H') ⟨upd_same, Ex.new nD⟩ (fun i H' hI => sq_of (hI.2 _ _ ha1)) (fun i x H' hx hI => ?_) (fun H' hI => ?_)
  · obtain ⟨hD, e2⟩ := hI
    rw [List.getElem?_map] at hx
    obtain ⟨u, hu, rfl⟩ := Option.map_eq_some_iff.mp hx
    have hu1 := h1 u (List.mem_of_getElem? hu)
    refine ⟨rfl, ?_⟩
    rw [show (tYes : TT) = fun _ H Q => Q true H from rfl]
    dsimp only
    rw [if_pos rfl]
    have ha2 := e2 _ _ ha1
    refine ⟨_, rfl, a, rfl, ⟨_, sq_of ha2⟩, ?_⟩
    refine lp_list (K := K) (a := a) (xs := ws.map V.str) (vs := [3]) (g := gName 3) (tt := tYes) (tb := tbE (tOp rAddS (tVar 2) (tVar 3)) D)
      (fun j H4 => H4 D = some (.lst ((((ws.take i).flatMap fun x => ws.map fun y => x ++ y) ++ (ws.take j).map fun y => u ++ y).map V.str)) ∧ Ex H1 H4) ⟨by rw [List.take_zero, List.map_nil, List.append_nil]; exact hD, e2⟩ (fun j H4 hI => sq_of (hI.2 _ _ ha1)) (fun j y H4 hy hI => ?_) (fun H4 hI => ?_)
    · obtain ⟨hD4, e4⟩ := hI
      rw [List.getElem?_map] at hy
      obtain ⟨z, hz, rfl⟩ := Option.map_eq_some_iff.mp hy
      have hz1 := h1 z (List.mem_of_getElem? hz)
      refine ⟨rfl, ?_⟩
      rw [show (tYes : TT) = fun _ H Q => Q true H from rfl]
      dsimp only
      rw [if_pos rfl]
      refine ⟨_, rfl, _, rfl, u, z, rfl, rfl, by rw [sizeLine_eq]; omega, _, hD4, ?_, ?_, fun b o hb => ?_⟩
      · have := fl i
        have : ((ws.take j).map fun y => u ++ y).length ≤ 10 := by rw [List.length_map, List.length_take]; omega
        rw [List.length_map, List.length_append, sizeLine_eq]
        omega
      · rw [upd_same, List.take_add_one (i := j), hz]
        simp only [List.map_append, List.append_assoc]
        rfl
      · rw [upd_ne (ne_of_none hb nD)]
        exact e4 _ _ hb
    · obtain ⟨hD4, e4⟩ := hI
      refine ⟨?_, e4⟩
      rw [List.length_map, List.take_length] at hD4
      rw [List.take_add_one, hu, List.flatMap_append]
      have : ((some u).toList.flatMap fun x => ws.map fun y => x ++ y) = ws.map fun y => u ++ y := by simp
      rw [this]
      exact hD4
  · obtain ⟨hD, e2⟩ := hI
    rw [List.length_map, List.take_length] at hD
    exact q D H' nD e2 hD
theorem g_name {i : Nat} {v : V} {σ σ' : St} {H : Hp} {Q : St → Hp → Prop} (h : σ.set i (some v) = σ') (k : Q σ' H) : gName i v σ H Q := by
  subst h
  exact k
/-- what the next word may be: a list or a tuple of texts -/
def Fits (K : PySem.W.Frag) (tf : TE) (σ : St) (H : Hp) (fs : List Str) : Prop := ∀ Q : VK, (∀ p H1, Ex H H1 → (SqL K H1 p (fs.map V.str) ∨ SqT K H1 p (fs.map V.str)) → Q (.ref p) H1) → tf σ H Q
theorem fits_L {fs : List Str} (h : EvL tf σ H (fs.map V.str)) : Fits K tf σ H fs := fun Q q => h H (Ex.refl H) _ fun p H1 _ e1 h1 => q p H1 e1 (.inl (sq_of h1))
theorem fits_U {fs : List Str} (h : EvU tf σ H (fs.map V.str)) : Fits K tf σ H fs := fun Q q => h H (Ex.refl H) _ fun p H1 _ e1 h1 => q p H1 e1 (.inr (st_of h1))
/-- the next word, one of those that fit -/
theorem rd_take {j i : Nat} {x : Addr} {ln : Int} {ws fs : List Str} {wd : Str} {Q : VK} (hs : σ[j]? = some (some (.ref x))) (WA : WdAt CW H x ln ws i) (hw : ws[i]? = some wd) (hm : wd ∈ fs) (hf : Fits K tf σ H fs)
    (k : ∀ H', Bx x H H' → WdAt CW H' x ln ws (i + 1) → Q (.str wd) H') : tMeth CW "take" (spTake CW K) [] E0 (tVar j) (tCons tf tNil) σ H Q := by
  have WA0 := WA
  obtain ⟨dx, la, hx, hla⟩ := WA
  exact ⟨_, hs, x, dx, _, rfl, hx, rfl, hf _ fun p H1 e1 hp => ⟨x, p, ln, ws, i, wd, fs, rfl, WA0.ex e1, hw, hm, hp, fun H' b W' => k H' ((Bx.of e1).trans b) W'⟩⟩
/-- .. as a whole number -/
theorem rd_takeI {j i : Nat} {x : Addr} {ln : Int} {ws fs : List Str} {n : Int} {Q : VK} (hs : σ[j]? = some (some (.ref x))) (WA : WdAt CW H x ln ws i) (hw : ws[i]? = some (toString n : Str)) (n0 : 0 ≤ n) (n10 : n ≤ 10) (hm : (toString n : Str) ∈ fs) (hf : Fits K tf σ H fs)
    (k : ∀ H', Bx x H H' → WdAt CW H' x ln ws (i + 1) → Q (.int n) H') : tCB rIntT (tCons (tMeth CW "take" (spTake CW K) [] E0 (tVar j) (tCons tf tNil)) tNil) σ H Q :=
  rd_take (Q := fun v H1 => rIntT [v] H1 Q) hs WA hw hm hf fun H' b W' => ⟨_, n, rfl, num_back n0 n10, Nat.le_trans (num_int n0 n10).1 (by decide), k H' b W'⟩
theorem fits_nums {lo hi : Nat} (l10 : lo ≤ 10) (h10 : hi ≤ 10) {ta tb : TE} (ha : Ev ta σ H (.int (lo : Int))) (hb : Ev tb σ H (.int (hi : Int))) : Fits K (tCall spNums [] E0 (tCons ta (tCons tb tNil))) σ H (numsL lo hi) :=
  fits_L (el_call (ea_cons ha (ea_cons hb ea_nil)) fun H1 e1 Q1 q1 E => ⟨lo, hi, rfl, l10, h10, fun p H2 hp e2 h2 => q1 p H2 hp e2 h2⟩)
end
structure TxRd (K : PySem.W.Frag) (mg : Str → Option Value) (fnu fen : Addr) : Prop where
  nums : mg "numerals" = some (.ref fnu)
  kNu : PySem.W.keepIn K (.ref fnu) = true
  ends : mg "endings" = some (.ref fen)
  kEn : PySem.W.keepIn K (.ref fen) = true
  intN : mg "int" = none
  least : ∃ t, mg "LEAST_BASE" = some (.int 2 t)
  most : ∃ t, mg "MOST_BASE" = some (.int 10 t)
  size : ∃ t, mg "MOST_SIZE" = some (.int 6 t)
  unb : ∃ t, mg "UNBOUNDED" = some (.str "*" t)
section
variable {P : Program} {w : World} {K : PySem.W.Frag} {mg : Str → Option Value} {base : Heap} {CW ftk fne fnu fen fov : Addr}
def spEnds : Sp := fun vs H Q _ => ∃ β : Nat, vs = [.int (β : Int)] ∧ 2 ≤ β ∧ β ≤ 10 ∧ RetL ((endsL β).map V.str) H Q
theorem scEnds : FnScope ["base", "figures", "figure", "other"] ["base"] (defScope sEndings) := ⟨rfl, rfl, rfl, by decide +kernel, rfl, by decide +kernel, by decide +kernel⟩
theorem ok_endings {f : Addr} {fd : FuncData} (F : Fun K "endings" "endings" sEndings f fd) (mL : mg "list" = none) (hf : ∃ t, mg "FIGURES" = some (.str "0123456789" t)) : FnOk P w K mg base CX0 1 f fd ["base"] spEnds := by
  refine F.ok scEnds (fun vs H Q E h => ?_) (fun cdv A outer s H vs Q E hr h => ?_)
  · obtain ⟨_, rfl, _⟩ := h
    rfl
  · obtain ⟨β, rfl, b2, b10, q⟩ := h
    obtain ⟨tf, hf⟩ := hf
    refine ⟨_, pss_cons (ps_set (i := 1) scEnds.nd rfl (.inr rfl) (pe_callTy (T := "list") (r := rListS1) (call_listStr rfl) (by rfl) mL (by decide +kernel) (pa_cons (pe_slice sl_str (pe_glob (by rfl) hf (v := .str "0123456789") ⟨_, rfl⟩) po_none (po_some (pv 0))) pa_nil)))
      (pss_one (ps_ret (pe_op op_cat (pv 1) (pe_lc2 (own := [("figure", 2), ("other", 3)]) (vs1 := [3]) (g := gName 2) (tt := tYes) (g1 := gName 3) (tt1 := tYes) (wi1 := iList K (tVar 1)) (te := tOp rAddS (tVar 2) (tVar 3)) rfl scEnds.nd (pi_list (pv 1)) (blkOk_by (own := [("figure", 2), ("other", 3)]) (N := ["base", "figures", "figure", "other"]) (sc := defScope sEndings) (by decide +kernel)) (by decide)
        (fun _ _ _ _ _ => pg_name (i := 2) scEnds.nd rfl (Or.inl rfl)) (fun _ _ _ _ _ => pts_nil) (fun _ _ _ _ _ => pi_list (pv 1)) (fun _ _ _ _ _ => pg_name (i := 3) scEnds.nd rfl (Or.inl rfl)) (fun _ _ _ _ _ => pts_nil) (fun _ _ _ _ _ => pe_op op_add_str (pv 2) (pv 3)))))), ?_⟩
    refine q_asgL (xs := (figsL β).map V.str) (el_cb (vs := [.str (cutS "0123456789" none (some (β : Int)))]) (ea_cons (fun H3 e3 Q3 q3 => ⟨_, rfl, _, rfl, _, rfl, by decide, q3 H3 (Ex.refl _)⟩) ea_nil) fun H1 e1 Q1 q1 => ⟨_, rfl, ?_, fun l hl => ?_⟩) fun l H1 nl e1 h1 => ?_
    · have := cut_len b2 b10
      rw [sizeLine_eq]
      omega
    · rw [figs_cut b2 b10]
      exact q1 l _ hl (Ex.new hl) upd_same
    · have fl : (figsL β).length ≤ 10 := by
        unfold figsL
        rw [List.length_map, List.length_range]
        exact b10
      have f1 : ∀ x ∈ figsL β, x.length ≤ 1 := fun x hx => by
        obtain ⟨k, _, rfl⟩ := List.mem_map.mp hx
        exact Nat.le_refl 1
      have eP := el_pairs (K := K) (v0 := some (.int (β : Int))) h1 fl f1
      refine s_retL (xs := (endsL β).map V.str) ?_ fun p H2 hp e2 h2 => q p H2 (fresh_back e1 hp) (e1.trans e2) h2
      unfold endsL
      rw [List.map_append]
      refine el_cat (ev_var rfl) h1 eP ?_
      have : ((figsL β).flatMap fun a => (figsL β).map fun b => a ++ b).length ≤ 10 * 10 := by
        have : ∀ us : List Str, us.length ≤ 10 → (us.flatMap fun x => (figsL β).map fun y => x ++ y).length ≤ us.length * 10 := fun us => by
          induction us with
          | nil => intro _; simp
          | cons u us ih =>
            intro hu
            rw [List.length_cons] at hu
            have := ih (by omega)
            rw [List.flatMap_cons, List.length_append, List.length_map, List.length_cons]
            omega
        have := this (figsL β) fl
        omega
      rw [List.length_map, List.length_map]
      omega
def spRdBase (CW : Addr) : Sp := fun vs H Q _ => ∃ (x : Addr) (ln : Int) (β : Nat), vs = [.ref x] ∧ WdAt CW H x ln (baseW β) 0 ∧ 2 ≤ β ∧ β ≤ 10 ∧ ∀ H', Bx x H H' → Q (.int (β : Int)) H'
theorem scRdBase : FnScope ["words", "base"] ["words"] (defScope sRdBase) := ⟨rfl, rfl, rfl, by decide +kernel, rfl, by decide +kernel, by decide +kernel⟩
theorem ok_rdBase {f : Addr} {fd fd1 fd2 fd3 : FuncData} (F : Fun K "read_base" "read_base" sRdBase f fd) (mT : Meth K CW "take" ftk) (GT : FnOk P w K mg base CX0 2 ftk fd1 ["self", "fit"] (spTake CW K)) (bT : Binds K fd1 ["self", "fit"] [])
    (mE : Meth K CW "need_end" fne) (GE : FnOk P w K mg base CX0 2 fne fd2 ["self"] (spWEnd CW)) (bE : Binds K fd2 ["self"] []) (GN : FnOk P w K mg base CX0 1 fnu fd3 ["least", "most"] spNums) (bN : Binds K fd3 ["least", "most"] []) (T : TxWd K mg CW) (U : TxRd K mg fnu fen) :
    FnOk P w K mg base CX0 3 f fd ["words"] (spRdBase CW) := by
  refine F.ok scRdBase (fun vs H Q E h => ?_) (fun cdv A outer s H vs Q E hr h => ?_)
  · obtain ⟨_, _, _, rfl, _⟩ := h
    rfl
  · obtain ⟨x, ln, β, rfl, WA, b2, b10, q⟩ := h
    obtain ⟨t1, h1⟩ := U.least
    obtain ⟨t2, h2⟩ := U.most
    refine ⟨_, pss_cons (ps_expr (pe_meth (pv 0) T.clW mT GT hr bT .nil pass0 (pa_cons (pe_tup (pa_cons pe_str pa_nil)) pa_nil)))
      (pss_cons (ps_set (i := 1) scRdBase.nd rfl (.inl rfl) (pe_callTy (T := "int") (r := rIntT) call_int_str (by rfl) U.intN (by decide +kernel) (pa_cons (pe_meth (pv 0) T.clW mT GT hr bT .nil pass0 (pa_cons (pe_call GN (hr.mono (by decide)) (by rfl) U.nums U.kNu bN .nil pass0 (pa_cons (pe_glob (by rfl) h1 (v := .int 2) ⟨_, rfl⟩) (pa_cons (pe_glob (by rfl) h2 (v := .int 10) ⟨_, rfl⟩) pa_nil))) pa_nil)) pa_nil)))
      (pss_cons (ps_expr (pe_meth0 (pv 0) T.clW mE GE hr bE .nil pass0))
      (pss_one (ps_ret (pv 1))))), ?_⟩
    refine rd_take (fs := ["base"]) rfl WA rfl (by simp) (fits_U (eu_tup (ea_cons ev_c ea_nil) (by decide))) fun H1 x1 W1 => ?_
    refine rd_takeI (n := (β : Int)) (fs := numsL 2 10) rfl W1 rfl (by omega) (by omega) (nums_mem (by omega) (by omega)) (fits_nums (by omega) (by omega) ev_c ev_c) fun H2 x2 W2 => ?_
    have W2' := W2
    obtain ⟨dx, la, hx, hla⟩ := W2
    exact ⟨_, rfl, x, dx, _, rfl, hx, rfl, x, ln, baseW β, rfl, W2', fun H3 e3 => ⟨_, rfl, q H3 ((x1.trans x2).trans (Bx.of e3))⟩⟩
/-- the words of a part stand from i on -/
def From (ws : List Str) (i : Nat) (ps : List Str) : Prop := ∀ j wd, ps[j]? = some wd → ws[i + j]? = some wd
def spRdKeep (CW : Addr) : Sp := fun vs H Q _ => ∃ (x : Addr) (ln : Int) (ws : List Str) (i : Nat) (k : PyData), vs = [.ref x] ∧ WdAt CW H x ln ws i ∧ KeepS k ∧ From ws i (partW k) ∧ ∀ v H', Bx x H H' → WdAt CW H' x ln ws (i + (partW k).length) → Pt H' v k → Q v H'
theorem scRdKeep : FnScope ["words", "word"] ["words"] (defScope sRdKeep) := ⟨rfl, rfl, rfl, by decide +kernel, rfl, by decide +kernel, by decide +kernel⟩
theorem ok_rdKeep {f : Addr} {fd fd1 fd3 : FuncData} (F : Fun K "read_keep" "read_keep" sRdKeep f fd) (mT : Meth K CW "take" ftk) (GT : FnOk P w K mg base CX0 2 ftk fd1 ["self", "fit"] (spTake CW K)) (bT : Binds K fd1 ["self", "fit"] [])
    (GN : FnOk P w K mg base CX0 1 fnu fd3 ["least", "most"] spNums) (bN : Binds K fd3 ["least", "most"] []) (T : TxWd K mg CW) (U : TxRd K mg fnu fen) :
    FnOk P w K mg base CX0 3 f fd ["words"] (spRdKeep CW) := by
  refine F.ok scRdKeep (fun vs H Q E h => ?_) (fun cdv A outer s H vs Q E hr h => ?_)
  · obtain ⟨_, _, _, _, _, rfl, _⟩ := h
    rfl
  · obtain ⟨x, ln, ws, i, k, rfl, WA, hk, fr, q⟩ := h
    obtain ⟨t1, h1⟩ := U.size
    refine ⟨_, pss_cons (ps_set (i := 1) scRdKeep.nd rfl (.inl rfl) (pe_meth (pv 0) T.clW mT GT hr bT .nil pass0 (pa_cons (pe_tup (pa_cons pe_str (pa_cons pe_str (pa_cons pe_str pa_nil)))) pa_nil)))
      (pss_one (ps_ret (pe_ifExp (pt_cmpR op_eq (pv 1) pe_str (nomark _)) (pe_tup (pa_cons (pv 1) pa_nil)) (pe_tup (pa_cons (pv 1) (pa_cons (pe_callTy (T := "int") (r := rIntT) call_int_str (by rfl) U.intN (by decide +kernel) (pa_cons (pe_meth (pv 0) T.clW mT GT hr bT .nil pass0 (pa_cons (pe_call GN (hr.mono (by decide)) (by rfl) U.nums U.kNu bN .nil pass0 (pa_cons pe_int (pa_cons (pe_glob (by rfl) h1 (v := .int 6) ⟨_, rfl⟩) pa_nil))) pa_nil)) pa_nil)) pa_nil)))))), ?_⟩
    have eF : ∀ {wd : Str} {H : Hp}, Fits K (tTup (tCons (tC (.str "all")) (tCons (tC (.str "changed")) (tCons (tC (.str "last")) tNil)))) [some (.ref x), none] H ["all", "changed", "last"] := fun {_ _} => fits_U (eu_tup (ea_cons ev_c (ea_cons ev_c (ea_cons ev_c ea_nil))) (by decide))
    cases hk with
    | all =>
      have w0 : ws[i]? = some ("all" : Str) := fr 0 "all" rfl
      refine rd_take (fs := ["all", "changed", "last"]) rfl WA w0 (by simp) (eF (wd := "all")) fun H1 x1 W1 => ?_
      refine g_name (σ' := [some (.ref x), some (.str "all")]) rfl ?_
      dsimp only
      have e0 : EvT (tTest (tOp rEq (tVar 1) (tC (.str "all")))) [some (.ref x), some (.str "all")] H1 true := et_test (ev_op (ev_var rfl) ev_c (rv_eq rfl))
      refine e0 H1 (Ex.refl H1) _ fun H2 e2 => ?_
      rw [if_pos rfl]
      refine ⟨_, rfl, by show 1 ≤ sizeLine; decide, fun p hp => ?_⟩
      have e4 := Ex.new (o := .tup [V.str "all"]) hp
      exact q (.ref p) _ (x1.trans (Bx.of (e2.trans e4))) (W1.ex (e2.trans e4)) (.tup upd_same (.cons (.str _ (by decide)) .nil))
    | size wd hwd n n1 n6 =>
      have w0 : ws[i]? = some wd := fr 0 wd rfl
      have w1 : ws[i + 1]? = some (toString n : Str) := fr 1 _ rfl
      have hm : wd ∈ (["all", "changed", "last"] : List Str) := by rcases hwd with rfl | rfl <;> simp
      refine rd_take (fs := ["all", "changed", "last"]) rfl WA w0 hm (eF (wd := wd)) fun H1 x1 W1 => ?_
      refine g_name (σ' := [some (.ref x), some (.str wd)]) rfl ?_
      dsimp only
      have e0 : EvT (tTest (tOp rEq (tVar 1) (tC (.str "all")))) [some (.ref x), some (.str wd)] H1 false := by
        refine et_is (et_test (ev_op (ev_var rfl) ev_c (rv_eq rfl))) ?_
        rcases hwd with rfl | rfl <;> decide
      refine e0 H1 (Ex.refl H1) _ fun H2 e2 => ?_
      rw [if_neg (by decide)]
      refine ⟨_, rfl, ?_⟩
      refine rd_takeI (n := n) (fs := numsL 1 6) rfl (W1.ex e2) w1 (by omega) (by omega) (nums_mem (by omega) (by omega)) (fits_nums (by omega) (by omega) ev_c ev_c) fun H3 x3 W3 => ?_
      refine ⟨by show 2 ≤ sizeLine; decide, fun p hp => ?_⟩
      have e4 := Ex.new (o := .tup [V.str wd, V.int n]) hp
      refine q (.ref p) _ ((x1.trans (Bx.of e2)).trans (x3.trans (Bx.of e4))) (W3.ex e4) (.tup upd_same (.cons (.str _ ?_) (.cons (.int _) .nil)))
      rcases hwd with rfl | rfl <;> decide
end
end Tx

/-! Texts of styles: how a condition and a rule are read. -/
namespace Tx
open PySem L2 Evl Dg Dt TL StX ClX LamR LamX
open Dr (StAt SameB)
section
variable {P : Program} {w : World} {K : PySem.W.Frag} {mg : Str → Option Value} {base : Heap} {CW ftk fne fnu fen fov fkp fcn : Addr}
def spRdCond (CW : Addr) : Sp := fun vs H Q _ => ∃ (x : Addr) (ln : Int) (ws : List Str) (i β : Nat) (c : PyData), vs = [.int (β : Int), .ref x] ∧ WdAt CW H x ln ws i ∧ 2 ≤ β ∧ β ≤ 10 ∧ CondS β c ∧ From ws i (partW c) ∧ ∀ v H', Bx x H H' → WdAt CW H' x ln ws (i + (partW c).length) → Pt H' v c → Q v H'
theorem scRdCond : FnScope ["base", "words", "word", "least", "most"] ["base", "words"] (defScope sRdCond) := ⟨rfl, rfl, rfl, by decide +kernel, rfl, by decide +kernel, by decide +kernel⟩
theorem ok_rdCond {f : Addr} {fd fd1 fd3 fd4 : FuncData} (F : Fun K "read_condition" "read_condition" sRdCond f fd) (mT : Meth K CW "take" ftk) (GT : FnOk P w K mg base CX0 2 ftk fd1 ["self", "fit"] (spTake CW K)) (bT : Binds K fd1 ["self", "fit"] [])
    (GN : FnOk P w K mg base CX0 1 fnu fd3 ["least", "most"] spNums) (bN : Binds K fd3 ["least", "most"] []) (GE : FnOk P w K mg base CX0 1 fen fd4 ["base"] spEnds) (bE : Binds K fd4 ["base"] []) (T : TxWd K mg CW) (U : TxRd K mg fnu fen) :
    FnOk P w K mg base CX0 3 f fd ["base", "words"] (spRdCond CW) := by
  refine F.ok scRdCond (fun vs H Q E h => ?_) (fun cdv A outer s H vs Q E hr h => ?_)
  · obtain ⟨_, _, _, _, _, _, rfl, _⟩ := h
    rfl
  · obtain ⟨x, ln, ws, i, β, c, rfl, WA, b2, b10, hc, fr, q⟩ := h
    obtain ⟨t1, h1⟩ := U.size
    obtain ⟨t2, h2⟩ := U.unb
    refine ⟨_, pss_cons (ps_set (i := 2) scRdCond.nd rfl (.inl rfl) (pe_meth (pv 1) T.clW mT GT hr bT .nil pass0 (pa_cons (pe_tup (pa_cons pe_str (pa_cons pe_str (pa_cons pe_str (pa_cons pe_str pa_nil))))) pa_nil)))
      (pss_cons (ps_if (pt_cmpR op_eq (pv 2) pe_str (nomark _)) (pss_one (ps_ret (pe_tup (pa_cons (pv 2) (pa_cons (pe_meth (pv 1) T.clW mT GT hr bT .nil pass0 (pa_cons (pe_call GE (hr.mono (by decide)) (by rfl) U.ends U.kEn bE .nil pass0 (pa_cons (pv 0) pa_nil)) pa_nil)) pa_nil))))) pss_nil)
      (pss_cons (ps_if (pt_cmpR op_eq (pv 2) pe_str (nomark _)) (pss_one (ps_ret (pe_tup (pa_cons (pv 2) (pa_cons (pe_callTy (T := "int") (r := rIntT) call_int_str (by rfl) U.intN (by decide +kernel) (pa_cons (pe_meth (pv 1) T.clW mT GT hr bT .nil pass0 (pa_cons (pe_call GN (hr.mono (by decide)) (by rfl) U.nums U.kNu bN .nil pass0 (pa_cons pe_int (pa_cons (pe_glob (by rfl) h1 (v := .int 6) ⟨_, rfl⟩) pa_nil))) pa_nil)) pa_nil)) pa_nil))))) pss_nil)
      (pss_cons (ps_set (i := 3) scRdCond.nd rfl (.inl rfl) (pe_callTy (T := "int") (r := rIntT) call_int_str (by rfl) U.intN (by decide +kernel) (pa_cons (pe_meth (pv 1) T.clW mT GT hr bT .nil pass0 (pa_cons (pe_call GN (hr.mono (by decide)) (by rfl) U.nums U.kNu bN .nil pass0 (pa_cons pe_int (pa_cons (pe_glob (by rfl) h1 (v := .int 6) ⟨_, rfl⟩) pa_nil))) pa_nil)) pa_nil)))
      (pss_cons (ps_set (i := 4) scRdCond.nd rfl (.inl rfl) (pe_meth (pv 1) T.clW mT GT hr bT .nil pass0 (pa_cons (pe_op op_cat (pe_call GN (hr.mono (by decide)) (by rfl) U.nums U.kNu bN .nil pass0 (pa_cons (pv 3) (pa_cons (pe_glob (by rfl) h1 (v := .int 6) ⟨_, rfl⟩) pa_nil))) (pe_lst (pa_cons (pe_glob (by rfl) h2 (v := .str "*") ⟨_, rfl⟩) pa_nil))) pa_nil)))
      (pss_one (ps_ret (pe_tup (pa_cons (pv 2) (pa_cons (pv 3) (pa_cons (pe_ifExp (pt_cmpR op_eq (pv 4) (pe_glob (by rfl) h2 (v := .str "*") ⟨_, rfl⟩) (nomark _)) pe_non (pe_callTy (T := "int") (r := rIntT) call_int_str (by rfl) U.intN (by decide +kernel) (pa_cons (pv 4) pa_nil))) pa_nil)))))))))), ?_⟩
    have eF : ∀ {H : Hp}, Fits K (tTup (tCons (tC (.str "ends")) (tCons (tC (.str "length")) (tCons (tC (.str "changed")) (tCons (tC (.str "near")) tNil))))) [some (.int (β : Int)), some (.ref x), none, none, none] H ["ends", "length", "changed", "near"] := fun {_} => fits_U (eu_tup (ea_cons ev_c (ea_cons ev_c (ea_cons ev_c (ea_cons ev_c ea_nil)))) (by decide))
    have eEq : ∀ {wd z : Str} {b : Bool} {H : Hp} {v3 v4 : Option V}, decide (wd = z) = b → EvT (tTest (tOp rEq (tVar 2) (tC (.str z)))) [some (.int (β : Int)), some (.ref x), some (.str wd), v3, v4] H b := fun hb => by
      refine et_is (et_test (ev_op (ev_var rfl) ev_c (rv_eq rfl))) ?_
      rw [← hb]
      exact decide_eq_decide.mpr ⟨fun z => by injection z, fun z => by rw [z]⟩
    cases hc with
    | ends y hy =>
      have w0 : ws[i]? = some ("ends" : Str) := fr 0 "ends" rfl
      have w1 : ws[i + 1]? = some y := fr 1 y rfl
      refine rd_take (fs := ["ends", "length", "changed", "near"]) rfl WA w0 (by simp) eF fun H1 x1 W1 => ?_
      refine g_name (σ' := [some (.int (β : Int)), some (.ref x), some (.str "ends"), none, none]) rfl ?_
      dsimp only
      refine q_when (b := true) (eEq rfl) (fun _ H2 e2 => ?_) (fun z => nomatch z)
      refine ⟨_, rfl, ?_⟩
      refine rd_take (fs := endsL β) rfl (W1.ex e2) w1 (ends_mem hy) (fits_L (el_call (ea_cons (ev_var rfl) ea_nil) fun H4 e4 Q4 q4 E => ⟨β, rfl, b2, b10, fun p H5 hp e5 h5 => q4 p H5 hp e5 h5⟩)) fun H3 x3 W3 => ?_
      refine ⟨by show 2 ≤ sizeLine; decide, fun p hp => ?_⟩
      have e4 := Ex.new (o := .tup [V.str "ends", V.str y]) hp
      have := (figs_word b10 hy).1
      exact q (.ref p) _ ((x1.trans (Bx.of e2)).trans (x3.trans (Bx.of e4))) (W3.ex e4) (.tup upd_same (.cons (.str _ (by decide)) (.cons (.str _ (by omega)) .nil)))
    | near n n0 n6 =>
      have w0 : ws[i]? = some ("near" : Str) := fr 0 "near" rfl
      have w1 : ws[i + 1]? = some (toString n : Str) := fr 1 _ rfl
      refine rd_take (fs := ["ends", "length", "changed", "near"]) rfl WA w0 (by simp) eF fun H1 x1 W1 => ?_
      refine g_name (σ' := [some (.int (β : Int)), some (.ref x), some (.str "near"), none, none]) rfl ?_
      dsimp only
      refine q_when (b := false) (eEq (by decide)) (fun z => nomatch z) (fun _ H2 e2 => ?_)
      refine q_when (b := true) (eEq rfl) (fun _ H3 e3 => ?_) (fun z => nomatch z)
      refine ⟨_, rfl, ?_⟩
      refine rd_takeI (n := n) (fs := numsL 0 6) rfl (W1.ex (e2.trans e3)) w1 (by omega) (by omega) (nums_mem (by omega) (by omega)) (fits_nums (by omega) (by omega) ev_c ev_c) fun H4 x4 W4 => ?_
      refine ⟨by show 2 ≤ sizeLine; decide, fun p hp => ?_⟩
      have e5 := Ex.new (o := .tup [V.str "near", V.int n]) hp
      exact q (.ref p) _ ((x1.trans (Bx.of (e2.trans e3))).trans (x4.trans (Bx.of e5))) (W4.ex e5) (.tup upd_same (.cons (.str _ (by decide)) (.cons (.int _) .nil)))
    | len wd hwd n n1 n6 d hd =>
      have w0 : ws[i]? = some wd := fr 0 wd rfl
      have w1 : ws[i + 1]? = some (toString n : Str) := fr 1 _ rfl
      have w2 : ws[i + 1 + 1]? = some (valW d) := fr 2 _ rfl
      have hm : wd ∈ (["ends", "length", "changed", "near"] : List Str) := by rcases hwd with rfl | rfl <;> simp
      have z1 : decide (wd = "ends") = false := by rcases hwd with rfl | rfl <;> decide
      have z2 : decide (wd = "near") = false := by rcases hwd with rfl | rfl <;> decide
      have z3 : wd.length ≤ 3000 := by rcases hwd with rfl | rfl <;> decide
      refine rd_take (fs := ["ends", "length", "changed", "near"]) rfl WA w0 hm eF fun H1 x1 W1 => ?_
      refine g_name (σ' := [some (.int (β : Int)), some (.ref x), some (.str wd), none, none]) rfl ?_
      dsimp only
      refine q_when (b := false) (eEq z1) (fun z => nomatch z) (fun _ H2 e2 => ?_)
      refine q_when (b := false) (eEq z2) (fun z => nomatch z) (fun _ H3 e3 => ?_)
      refine rd_takeI (n := n) (fs := numsL 1 6) rfl (W1.ex (e2.trans e3)) w1 (by omega) (by omega) (nums_mem (by omega) (by omega)) (fits_nums (by omega) (by omega) ev_c ev_c) fun H4 x4 W4 => ?_
      refine g_name (σ' := [some (.int (β : Int)), some (.ref x), some (.str wd), some (.int n), none]) rfl ?_
      dsimp only
      obtain ⟨m, rfl⟩ : ∃ m : Nat, n = (m : Int) := ⟨n.toNat, by omega⟩
      have eN : EvL (tOp rCat (tCall spNums [] E0 (tCons (tVar 3) (tCons (tC (.int 6)) tNil))) (tLst (tCons (tC (.str "*")) tNil))) [some (.int (β : Int)), some (.ref x), some (.str wd), some (.int (m : Int)), none] H4 ((numsL m 6 ++ [("*" : Str)]).map V.str) := by
        rw [List.map_append]
        refine el_catLL (el_call (ea_cons (ev_var rfl) (ea_cons ev_c ea_nil)) fun H5 e5 Q5 q5 E => ⟨m, 6, rfl, by omega, by omega, fun p H6 hp e6 h6 => q5 p H6 hp e6 h6⟩) (el_lst (ea_cons ev_c ea_nil) (by decide)) ?_
        unfold numsL
        rw [List.length_map, List.length_map, List.length_range, List.length_map]
        simp
        omega
      have hmem : valW d ∈ numsL m 6 ++ [("*" : Str)] := by
        rcases hd with rfl | ⟨j, rfl, j1, j6⟩
        · exact List.mem_append_right _ (by simp [valW])
        · exact List.mem_append_left _ (nums_mem j1 (by omega))
      refine rd_take (fs := numsL m 6 ++ [("*" : Str)]) rfl W4 w2 hmem (fits_L eN) fun H5 x5 W5 => ?_
      refine g_name (σ' := [some (.int (β : Int)), some (.ref x), some (.str wd), some (.int (m : Int)), some (.str (valW d))]) rfl ?_
      dsimp only
      have xx := (x1.trans (Bx.of (e2.trans e3))).trans (x4.trans x5)
      have eI : EvP (tIf (tTest (tOp rEq (tVar 4) (tC (.str "*")))) (tC .non) (tCB rIntT (tCons (tVar 4) tNil))) [some (.int (β : Int)), some (.ref x), some (.str wd), some (.int (m : Int)), some (.str (valW d))] H5 d := by
        rcases hd with rfl | ⟨j, rfl, j1, j6⟩
        · exact ep_v (ev_if (b := true) (et_test (ev_op (ev_var rfl) ev_c (rv_eq rfl))) (fun _ => ev_c) (fun z => nomatch z)) .non
        · refine ep_v (v := .int j) (ev_if (b := false) (et_is (et_test (ev_op (ev_var rfl) ev_c (rv_eq rfl))) ?_) (fun z => nomatch z) (fun _ => ev_cb (ea_cons (ev_var rfl) ea_nil) fun H6 e6 Q6 q6 => ⟨_, j, rfl, num_back (by omega) (by omega), Nat.le_trans (num_int (by omega) (by omega)).1 (by decide), q6 H6 (Ex.refl H6)⟩)) (.int j)
          have : valW (.int j) ≠ "*" := num_star (by omega) (by omega)
          exact decide_eq_false fun z => this (by injection z)
      have eW : Ev (tVar 2) [some (.int (β : Int)), some (.ref x), some (.str wd), some (.int (m : Int)), some (.str (valW d))] H5 (.str wd) := ev_var rfl
      have eT := ep_tup (epa_cons (ep_v eW (.str wd z3)) (epa_cons (ep_v (ev_var (i := 3) rfl) (.int (m : Int))) (epa_cons eI epa_nil))) (by simp)
      refine eT H5 (Ex.refl H5) _ fun v H6 e6 k6 => ?_
      exact q v H6 (xx.trans (Bx.of e6)) (W5.ex e6) k6
end
end Tx

/-! Texts of styles: how a rule is read. -/
namespace Tx
open PySem L2 Evl Dg Dt TL StX ClX LamR LamX
open Dr (StAt SameB)
/-- a list of references alone -/
def allRef (ys : List V) : Prop := ∀ y ∈ ys, ∃ a, y = V.ref a
theorem allRef.app {ys : List V} {a : Addr} (h : allRef ys) : allRef (ys ++ [.ref a]) := fun y hy => by
  rcases List.mem_append.mp hy with hy | hy
  · exact h y hy
  · exact ⟨a, List.mem_singleton.mp hy⟩
theorem WdAt.app {CW : Addr} {H : Hp} {x l : Addr} {ln : Int} {ws : List Str} {i : Nat} {ys zs : List V} (h : WdAt CW H x ln ws i) (hw : ws ≠ []) (hl : H l = some (.lst ys)) (hr : allRef ys) : WdAt CW (L2.upd H l (.lst zs)) x ln ws i := by
  obtain ⟨dx, la, h1, h2⟩ := h
  refine ⟨dx, la, ?_, ?_⟩
  · rw [upd_ne (ne_of h1 hl (by intro z; cases z))]
    exact h1
  · rw [upd_ne]
    · exact h2
    · intro z
      rw [z, hl] at h2
      have e : ys = ws.map V.str := by
        injection h2 with h2
        injection h2
      cases ws with
      | nil => exact hw rfl
      | cons w ws =>
        obtain ⟨a, ha⟩ := hr (.str w) (by rw [e]; exact List.mem_cons_self)
        cases ha
theorem PtAll.refs {H : Hp} : ∀ {vs : List V} {ds : List PyData}, PtAll H vs ds → (∀ d ∈ ds, isT d = true) → allRef vs
  | _, [], h, _ => by
    cases h
    exact fun y hy => nomatch hy
  | _, d :: ds, h, k => by
    cases h with
    | cons h1 h2 =>
      intro y hy
      rcases List.mem_cons.mp hy with rfl | hy
      · have := k d List.mem_cons_self
        cases h1 <;> first | exact ⟨_, rfl⟩ | cases this
      · exact PtAll.refs h2 (fun e he => k e (List.mem_cons_of_mem _ he)) y hy
/-- where the words of the j-th condition begin -/
def posR (k : PyData) (cs : List PyData) (j : Nat) : Nat := (partW k).length + (if cs.isEmpty then 0 else 1) + ((cs.take j).flatMap partW).length
theorem from_at {ws as ps bs : List Str} (h : ws = as ++ ps ++ bs) : From ws as.length ps := by
  intro j wd hj
  rw [h, List.append_assoc, List.getElem?_append_right (by omega), show as.length + j - as.length = j by omega, List.getElem?_append_left (List.getElem?_eq_some_iff.mp hj).1]
  exact hj
theorem rule_split {cs : List PyData} {k : PyData} {j : Nat} {c : PyData} (hc : cs[j]? = some c) : ∃ as bs, ruleW (.tuple [.tuple cs, k]) = as ++ partW c ++ bs ∧ as.length = posR k cs j := by
  obtain ⟨hj, ec⟩ := List.getElem?_eq_some_iff.mp hc
  have hn : cs.isEmpty = false := by
    cases cs with
    | nil => simp at hj
    | cons _ _ => rfl
  refine ⟨partW k ++ [("when" : Str)] ++ (cs.take j).flatMap partW, (cs.drop (j + 1)).flatMap partW, ?_, ?_⟩
  · rw [ruleW_eq, hn, if_neg (by decide)]
    have e : cs = cs.take j ++ c :: cs.drop (j + 1) := by
      rw [← ec, List.getElem_cons_drop, List.take_append_drop]
    have e2 : cs.flatMap partW = (cs.take j).flatMap partW ++ (partW c ++ (cs.drop (j + 1)).flatMap partW) := by
      rw [← List.flatMap_cons, ← List.flatMap_append, ← e]
    rw [e2]
    simp only [List.append_assoc, List.cons_append, List.nil_append]
  · unfold posR
    rw [hn, if_neg (by decide)]
    simp only [List.length_append, List.length_cons, List.length_nil]
theorem pos_succ {cs : List PyData} {k : PyData} {j : Nat} {c : PyData} (hc : cs[j]? = some c) : posR k cs (j + 1) = posR k cs j + (partW c).length := by
  unfold posR
  rw [List.take_add_one, hc, List.flatMap_append, List.length_append]
  simp
  omega
theorem pos_end {cs : List PyData} {k : PyData} : posR k cs cs.length = (ruleW (.tuple [.tuple cs, k])).length := by
  unfold posR
  rw [ruleW_eq, List.take_length]
  cases cs with
  | nil => simp
  | cons c cs =>
    simp only [List.isEmpty_cons, List.length_append, List.length_cons]
    rw [if_neg (by decide), if_neg (by decide), List.length_cons]
    omega
theorem pos_lt {β : Nat} {cs : List PyData} {k : PyData} {j : Nat} (hC : ∀ c ∈ cs, CondS β c) (hj : j < cs.length) : posR k cs j < (ruleW (.tuple [.tuple cs, k])).length := by
  obtain ⟨as, bs, e, l⟩ := rule_split (k := k) (List.getElem?_eq_getElem hj)
  have := cond_ne (hC _ (List.getElem_mem hj))
  have : 1 ≤ (partW cs[j]).length := by
    cases h : partW cs[j] with
    | nil => exact absurd h this
    | cons a b => simp
  rw [e, List.length_append, List.length_append]
  omega
section
variable {P : Program} {w : World} {K : PySem.W.Frag} {mg : Str → Option Value} {base : Heap} {CW ftk fne fnu fen fov fkp fcn : Addr}
/-- between two conditions of a rule: j are read -/
def RI (CW : Addr) (H : Hp) (x lc : Addr) (ln : Int) (cs : List PyData) (k : PyData) (vk : V) (j : Nat) (H' : Hp) : Prop := Bx x H H' ∧ Pt H' vk k ∧ (∃ ys, H' lc = some (.lst ys) ∧ PtAll H' ys (cs.take j)) ∧ WdAt CW H' x ln (ruleW (.tuple [.tuple cs, k])) (posR k cs j)
theorem RI.ex {H H1 H2 : Hp} {x lc : Addr} {ln : Int} {cs : List PyData} {k : PyData} {vk : V} {j : Nat} (R : RI CW H x lc ln cs k vk j H1) (e : Ex H1 H2) : RI CW H x lc ln cs k vk j H2 := by
  obtain ⟨b, kv, ⟨ys, hl, ky⟩, WA⟩ := R
  exact ⟨b.trans (Bx.of e), kv.ex e, ⟨ys, e _ _ hl, ky.ex e⟩, WA.ex e⟩
theorem ruleW_ne {cs : List PyData} {k : PyData} (hk : KeepS k) : ruleW (.tuple [.tuple cs, k]) ≠ [] := by
  rw [ruleW_eq]
  cases hk <;> exact fun z => nomatch z
/-- a condition is read and put behind those before it -/
theorem rd_step {H H1 : Hp} {x lc : Addr} {ln : Int} {cs : List PyData} {k c : PyData} {vk : V} {j β : Nat} {σ : St} {D : Ends} (b2 : 2 ≤ β) (b10 : β ≤ 10) (hk : KeepS k) (hC : ∀ c ∈ cs, CondS β c) (h3 : cs.length ≤ 3) (nlc : H lc = none) (hσ : σ = [some (.int (β : Int)), some (.ref x), some vk, some (.ref lc)]) (R : RI CW H x lc ln cs k vk j H1) (hc : cs[j]? = some c)
    (kx : ∀ H', RI CW H x lc ln cs k vk (j + 1) H' → D.nx σ H') : tDrop (tBM K "list" rAppend (tVar 3) (tCons (tCall (spRdCond CW) [] E0 (tCons (tVar 0) (tCons (tVar 1) tNil))) tNil)) D σ H1 := by
  subst hσ
  obtain ⟨b, kv, ⟨ys, hl, ky⟩, WA⟩ := R
  obtain ⟨as, bs, e, l⟩ := rule_split (k := k) hc
  have fr := from_at e
  rw [l] at fr
  have hcC := hC c (List.mem_of_getElem? hc)
  have WA' := WA
  obtain ⟨dx, la, hx, hla⟩ := WA'
  have nx : lc ≠ x := ne_of hl hx (by intro z; cases z)
  refine ⟨_, rfl, .inl ⟨rfl, ys, sq_of hl⟩, _, rfl, _, rfl, x, ln, _, posR k cs j, β, c, rfl, WA, b2, b10, hcC, fr, fun v H2 x2 W2 kc => ?_⟩
  have hl2 := x2 _ _ hl nx
  have tk2 := x2.tupK hx
  have nT : noLs (cs.take j) = true := noLs_all fun d hd => (cond_noL (hC d (List.mem_of_mem_take hd))).1
  have ky2 := ky.tk tk2 nT
  have aR : allRef ys := PtAll.refs ky2 fun d hd => (cond_noL (hC d (List.mem_of_mem_take hd))).2
  refine ⟨lc, ys, v, rfl, rfl, hl2, ?_, kx _ ⟨fun b' o hb n => ?_, ?_, ⟨ys ++ [v], upd_same, ?_⟩, ?_⟩⟩
  · rw [ky.length, List.length_take, sizeLine_eq]
    omega
  · rw [upd_ne (ne_of_none hb nlc)]
    exact x2 _ _ (b _ _ hb n) n
  · exact (kv.tk tk2 (keep_noL hk).1).tk (tupK_upd hl2) (keep_noL hk).1
  · rw [List.take_add_one, hc]
    exact (ky2.tk (tupK_upd hl2) nT).app (.cons (kc.tk (tupK_upd hl2) (cond_noL hcC).1) .nil)
  · rw [pos_succ hc]
    exact W2.app (ruleW_ne hk) hl2 aR
def spRdRule (CW : Addr) : Sp := fun vs H Q _ => ∃ (x : Addr) (ln : Int) (β : Nat) (d : PyData), vs = [.int (β : Int), .ref x] ∧ WdAt CW H x ln (ruleW d) 0 ∧ 2 ≤ β ∧ β ≤ 10 ∧ ruleB β d = true ∧ ∀ v H', Bx x H H' → Pt H' v d → Q v H'
theorem scRdRule : FnScope ["base", "words", "keep", "conditions"] ["base", "words"] (defScope sRdRule) := ⟨rfl, rfl, rfl, by decide +kernel, rfl, by decide +kernel, by decide +kernel⟩
structure TxRr (K : PySem.W.Frag) (mg : Str → Option Value) (fkp fcn : Addr) : Prop where
  rKeep : mg "read_keep" = some (.ref fkp)
  kRk : PySem.W.keepIn K (.ref fkp) = true
  rCond : mg "read_condition" = some (.ref fcn)
  kRc : PySem.W.keepIn K (.ref fcn) = true
  tupN : mg "tuple" = none
  lenN : mg "len" = none
  mostC : ∃ t, mg "MOST_CONDITIONS" = some (.int 3 t)
theorem ok_rdRule {f : Addr} {fd fd1 fd2 fd3 fd4 fd5 : FuncData} (F : Fun K "read_rule" "read_rule" sRdRule f fd) (mT : Meth K CW "take" ftk) (GT : FnOk P w K mg base CX0 2 ftk fd1 ["self", "fit"] (spTake CW K)) (bT : Binds K fd1 ["self", "fit"] [])
    (mE : Meth K CW "need_end" fne) (GE : FnOk P w K mg base CX0 2 fne fd2 ["self"] (spWEnd CW)) (bE : Binds K fd2 ["self"] []) (mO : Meth K CW "are_over" fov) (GO : FnOk P w K mg base CX0 1 fov fd5 ["self"] (spOver CW)) (bO : Binds K fd5 ["self"] [])
    (GK : FnOk P w K mg base CX0 3 fkp fd3 ["words"] (spRdKeep CW)) (bK : Binds K fd3 ["words"] []) (GC : FnOk P w K mg base CX0 3 fcn fd4 ["base", "words"] (spRdCond CW)) (bC : Binds K fd4 ["base", "words"] []) (T : TxWd K mg CW) (U : TxRr K mg fkp fcn) :
    FnOk P w K mg base CX0 4 f fd ["base", "words"] (spRdRule CW) := by
  refine F.ok scRdRule (fun vs H Q E h => ?_) (fun cdv A outer s H vs Q E hr h => ?_)
  · obtain ⟨_, _, _, _, rfl, _⟩ := h
    rfl
  · obtain ⟨x, ln, β, d, rfl, WA, b2, b10, hd, q⟩ := h
    obtain ⟨t3, hm3⟩ := U.mostC
    refine ⟨_, pss_cons (ps_set (i := 2) scRdRule.nd rfl (.inl rfl) (pe_call GK hr (by rfl) U.rKeep U.kRk bK .nil pass0 (pa_cons (pv 1) pa_nil)))
      (pss_cons (ps_set (i := 3) scRdRule.nd rfl (.inl rfl) (pe_lst pa_nil))
      (pss_cut (ps_if (pt_not (pt_val (pe_meth0 (pv 1) T.clW mO GO (hr.mono (by decide)) bO .nil pass0))) (pss_cons (ps_expr (pe_meth (pv 1) T.clW mT GT (hr.mono (by decide)) bT .nil pass0 (pa_cons (pe_tup (pa_cons pe_str pa_nil)) pa_nil))) (pss_one (ps_expr (pe_bm PySem.F.plainAttrs_list PySem.F.slot_list_append PySem.F.type_list_append mt_append (pv 3) (pa_cons (pe_call GC hr (by rfl) U.rCond U.kRc bC .nil pass0 (pa_cons (pv 0) (pa_cons (pv 1) pa_nil))) pa_nil))))) pss_nil)
      (pss_cons (ps_while PassesOwn.never (PW.pt (pw_and (pt_cmpR op_lt (pe_callB (id := "len") (r := rLenS K) call_len_seq (by rfl) U.lenN (by decide +kernel) (pa_cons (pv 3) pa_nil)) (pe_glob (by rfl) hm3 (v := .int 3) ⟨_, rfl⟩) (nomark _)) (pw_and1 (pt_not (pt_val (pe_meth0 (pv 1) T.clW mO GO (hr.mono (by decide)) bO .nil pass0))))))
        (pss_one (ps_expr (pe_bm PySem.F.plainAttrs_list PySem.F.slot_list_append PySem.F.type_list_append mt_append (pv 3) (pa_cons (pe_call GC hr (by rfl) U.rCond U.kRc bC .nil pass0 (pa_cons (pv 0) (pa_cons (pv 1) pa_nil))) pa_nil)))))
      (pss_cons (ps_expr (pe_meth0 (pv 1) T.clW mE GE (hr.mono (by decide)) bE .nil pass0))
      (pss_one (ps_ret (pe_tup (pa_cons (pe_callTy (T := "tuple") (r := rTupOf K) call_tuple_of (by rfl) U.tupN (by decide +kernel) (pa_cons (pv 3) pa_nil)) (pa_cons (pv 2) pa_nil))))))))), ?_⟩
    obtain ⟨cs, k, rfl, h3, hC, hk⟩ := rule_parts hd
    have hx0 := WA
    obtain ⟨dx0, la0, hx, _⟩ := hx0
    have frK : From (ruleW (.tuple [.tuple cs, k])) 0 (partW k) := by
      have := from_at (ws := ruleW (.tuple [.tuple cs, k])) (as := []) (ps := partW k) (bs := if cs.isEmpty then [] else ("when" : Str) :: cs.flatMap partW) (by rw [ruleW_eq, List.nil_append])
      exact this
    refine ⟨_, rfl, x, ln, _, 0, k, rfl, WA, hk, frK, fun vk H1 x1 W1 k1 => ?_⟩
    rw [Nat.zero_add] at W1
    refine g_name (σ' := [some (.int (β : Int)), some (.ref x), some vk, none]) rfl ?_
    dsimp only
    refine q_asgL (xs := []) (el_lst ea_nil (by decide)) fun lc H2 nlc e2 h2 => ?_
    have nlcH : H lc = none := by
      cases hz : H lc with
      | none => rfl
      | some o =>
        by_cases hlx : lc = x
        · obtain ⟨dx', la', hx', _⟩ := W1
          rw [hlx, hx'] at nlc
          cases nlc
        · rw [x1 _ _ hz hlx] at nlc
          cases nlc
    show tCut _ _ _ [some (.int (β : Int)), some (.ref x), some vk, some (.ref lc)] H2
    have W2 := W1.ex e2
    have eOver : ∀ {H3 : Hp} {i : Nat}, WdAt CW H3 x ln (ruleW (.tuple [.tuple cs, k])) i → EvT (tNot (tTest (tMeth CW "are_over" (spOver CW) [] E0 (tVar 1) tNil))) [some (.int (β : Int)), some (.ref x), some vk, some (.ref lc)] H3 (!decide (i = (ruleW (.tuple [.tuple cs, k])).length)) := fun {H3 i} W3 => et_not (et_B fun H4 e4 Q4 q4 => by
      have W4 := W3.ex e4
      have W4' := W4
      obtain ⟨dx, la, hx, hla⟩ := W4
      exact ⟨_, rfl, x, dx, _, rfl, hx, rfl, x, ln, _, i, rfl, W4', fun H5 e5 => q4 H5 e5⟩)
    refine q_cut (M := fun σ' H' => σ' = [some (.int (β : Int)), some (.ref x), some vk, some (.ref lc)] ∧ ∃ j, j ≤ cs.length ∧ RI CW H x lc ln cs k vk j H') ?_ ?_
    · have p0 : cs = [] → (partW k).length = (ruleW (.tuple [.tuple cs, k])).length := fun z => by
        subst z
        rw [ruleW_eq]
        simp
      cases cs with
      | nil =>
        refine s_when (b := false) (et_is (eOver W2) (by rw [decide_eq_true (p0 rfl)]; rfl)) (fun z => nomatch z) (fun _ H3 e3 => ⟨rfl, 0, Nat.le_refl _, (x1.trans (Bx.of e2)).trans (Bx.of e3), (k1.ex e2).ex e3, ⟨[], e3 _ _ h2, .nil⟩, ?_⟩)
        exact W2.ex e3
      | cons c cs' =>
        have ew : (ruleW (.tuple [.tuple (c :: cs'), k]))[(partW k).length]? = some ("when" : Str) := by
          rw [ruleW_eq, List.getElem?_append_right (Nat.le_refl _), Nat.sub_self]
          rfl
        have lt := (List.getElem?_eq_some_iff.mp ew).1
        refine s_when (b := true) (et_is (eOver W2) (by rw [decide_eq_false (by omega)]; rfl)) (fun _ H3 e3 => ?_) (fun z => nomatch z)
        refine rd_take (fs := ["when"]) rfl (W2.ex e3) ew (by simp) (fits_U (eu_tup (ea_cons ev_c ea_nil) (by decide))) fun H4 x4 W4 => ?_
        have hx3 : ∃ dx la i, H3 x = some (.ins CW dx (wdF ln la i)) := by
          obtain ⟨dx, la, hx, _⟩ := W2.ex e3
          exact ⟨dx, la, _, hx⟩
        obtain ⟨dx3, la3, i3, hx3⟩ := hx3
        have hl3 := e3 _ _ h2
        have R0 : RI CW H x lc ln (c :: cs') k vk 0 H4 := by
          refine ⟨((x1.trans (Bx.of e2)).trans (Bx.of e3)).trans x4, ((k1.ex e2).ex e3).tk (x4.tupK hx3) (keep_noL hk).1, ⟨[], x4 _ _ hl3 (ne_of hl3 hx3 (by intro z; cases z)), .nil⟩, ?_⟩
          have : posR k (c :: cs') 0 = (partW k).length + 1 := by
            unfold posR
            simp
          rw [this]
          exact W4
        exact rd_step b2 b10 hk hC h3 nlcH rfl R0 rfl fun H5 R5 => ⟨rfl, 1, by simp, R5⟩
    · rintro σ' H3 ⟨rfl, j, hj, R3⟩
      refine q_while (fun m σ' H' => σ' = [some (.int (β : Int)), some (.ref x), some vk, some (.ref lc)] ∧ ∃ j, j ≤ cs.length ∧ m = cs.length - j ∧ RI CW H x lc ln cs k vk j H') (cs.length - j) ⟨rfl, j, hj, rfl, R3⟩ ?_
      rintro m σ'' H4 ⟨rfl, j, hj, rfl, R4⟩
      have R4' := R4
      obtain ⟨b4, kv4, ⟨ys, hl4, ky4⟩, W4⟩ := R4'
      have len4 : ys.length = j := by rw [ky4.length, List.length_take]; omega
      have eLen : EvT (tTest (tOp (rI0 fun i j => .bl (decide (i < j))) (tCB (rLenS K) (tCons (tVar 3) tNil)) (tC (.int 3)))) [some (.int (β : Int)), some (.ref x), some vk, some (.ref lc)] H4 (decide (j < 3)) := by
        refine et_is (et_test (ev_op (ev_len (ev_var rfl) (sq_of hl4)) ev_c rv_I0)) ?_
        rw [len4]
        exact decide_eq_decide.mpr (by omega)
      refine ⟨decide (j < 3) && !decide (posR k cs j = (ruleW (.tuple [.tuple cs, k])).length), et_and eLen fun _ => eOver W4, fun hb H5 e5 => ?_, fun hb H5 e5 => ?_⟩
      · have hj2 : j < cs.length := by
          rcases Nat.lt_or_ge j cs.length with h | h
          · exact h
          · have : j = cs.length := by omega
            rw [this, pos_end] at hb
            simp at hb
        refine ⟨fun σ6 H6 => σ6 = [some (.int (β : Int)), some (.ref x), some vk, some (.ref lc)] ∧ RI CW H x lc ln cs k vk (j + 1) H6, fun σ6 H6 h6 => ⟨cs.length - (j + 1), by omega, h6.1, j + 1, by omega, rfl, h6.2⟩, ?_⟩
        exact rd_step b2 b10 hk hC h3 nlcH rfl (R4.ex e5) (List.getElem?_eq_getElem hj2) fun H6 R6 => ⟨rfl, R6⟩
      · have hj2 : j = cs.length := by
          rcases Nat.lt_or_ge j cs.length with h | h
          · have := pos_lt (k := k) hC h
            have e1 : decide (j < 3) = true := decide_eq_true (by omega)
            have e2 : decide (posR k cs j = (ruleW (.tuple [.tuple cs, k])).length) = false := decide_eq_false (by omega)
            rw [e1, e2] at hb
            cases hb
          · omega
        subst hj2
        obtain ⟨b5, kv5, ⟨ys5, hl5, ky5⟩, W5⟩ := R4.ex e5
        rw [List.take_length] at ky5
        rw [pos_end] at W5
        have W5' := W5
        obtain ⟨dx, la, hx5, hla5⟩ := W5
        refine ⟨_, rfl, x, dx, _, rfl, hx5, rfl, x, ln, _, rfl, W5', fun H6 e6 => ?_⟩
        have ep := ep_tup (epa_cons (ep_tupOf (r := rTupOf K) (fun p ys H Q hs k => ⟨p, ys, rfl, .inl ⟨hs, k⟩⟩) (ep_v (te := tVar 3) (σ := [some (.int (β : Int)), some (.ref x), some vk, some (.ref lc)]) (ev_var rfl) (.lst (e6 _ _ hl5) (ky5.ex e6)))) (epa_cons (ep_v (te := tVar 2) (ev_var rfl) (kv5.ex e6)) epa_nil)) (by simp)
        exact ep H6 (Ex.refl H6) _ fun v H7 e7 k7 => q v H7 ((b5.trans (Bx.of e6)).trans (Bx.of e7)) k7
end
end Tx

/-! Texts of styles: how a text is read. -/
namespace Tx
open PySem L2 Evl Dg Dt TL StX ClX LamR LamX
open Dr (StAt SameB)
abbrev sRdStyle : Stmt := top 54
theorem walk_enumS {K : PySem.W.Frag} {a : Addr} {c0 : Int} {xs : List V} : Walk (IteS K a c0) xs.length (fun H => SqL K H a xs) (YPair (fun i => some (.int (c0 + (i : Nat)))) (fun i => xs[i]?)) := by
  refine ⟨fun i _ hi q => ⟨xs, xs[i], q, by simp [hi]⟩, fun _ q => ⟨xs, q, rfl⟩, fun i H v H' _ q y => ?_⟩
  obtain ⟨T, x, h1, h2, h3, h4⟩ := y
  exact ⟨T, .int (c0 + (i : Nat)), x, h1, h2, h3, rfl, h4 xs q⟩
/-- the words of some line, none of them taken -/
def WdX (CW : Addr) (H : Hp) (x : Addr) (ws : List Str) : Prop := ∃ ln, WdAt CW H x ln ws 0
theorem WdX.ex {CW : Addr} {H H' : Hp} {x : Addr} {ws : List Str} (h : WdX CW H x ws) (e : Ex H H') : WdX CW H' x ws := let ⟨ln, h⟩ := h; ⟨ln, h.ex e⟩
theorem WdX.ins {CW : Addr} {H : Hp} {x : Addr} {ws : List Str} (h : WdX CW H x ws) : ∃ dx fs, H x = some (.ins CW dx fs) := let ⟨_, dx, _, h, _⟩ := h; ⟨dx, _, h⟩
theorem cut_tail {xs : List V} {x : V} (h : xs.length ≤ 8) : cutV (x :: xs) (some 1) (some 9) = xs := by
  unfold cutV
  rw [show (some (1 : Int)) = some ((1 : Nat) : Int) from rfl, show (some (9 : Int)) = some ((9 : Nat) : Int) from rfl, HT.sIx_nat, HT.sIx_nat]
  rw [List.length_cons, show min 1 (xs.length + 1) = 1 by omega, show min 9 (xs.length + 1) = xs.length + 1 by omega, List.drop_one, List.tail_cons]
  exact List.take_of_length_le (by omega)
structure TxRs (K : PySem.W.Frag) (mg : Str → Option Value) (fbs frr C CW : Addr) : Prop where
  rBase : mg "read_base" = some (.ref fbs)
  kRb : PySem.W.keepIn K (.ref fbs) = true
  rRule : mg "read_rule" = some (.ref frr)
  kRr : PySem.W.keepIn K (.ref frr) = true
  style : mg "Style" = some (.ref C)
  words : mg "Words" = some (.ref CW)
  isi : mg "isinstance" = none
  str : mg "str" = none
  len : mg "len" = none
  enum : mg "enumerate" = none
  mostR : ∃ t, mg "MOST_RULES" = some (.int 8 t)
section
variable {P : Program} {w : World} {K : PySem.W.Frag} {mg : Str → Option Value} {base : Heap} {ca : Nat → Addr} {C CW fbs frr fwi : Addr} {mc : Value} {ofp ofg : Addr}
def spRdStyle (C : Addr) : Sp := fun vs H Q _ => ∃ (β : Nat) (Ds : List PyData), vs = [.str (styT β Ds)] ∧ 2 ≤ β ∧ β ≤ 10 ∧ dueD β Ds = none ∧ ∀ y H', Ex H H' → StyAt H' C y β Ds → Q (.ref y) H'
abbrev nRS : List Str := ["text", "lines", "number", "line", "most", "base", "rules", "words"]
theorem scRdStyle : FnScope nRS ["text"] (defScope sRdStyle) := ⟨rfl, rfl, rfl, by decide +kernel, rfl, by decide +kernel, by decide +kernel⟩
theorem ok_rdStyle {f : Addr} {fd fd1 fd2 fd3 fdo : FuncData} (F : Fun K "read_style" "read_style" sRdStyle f fd) (MW : Mk K CW fwi) (GI : FnOk P w K mg base CX0 1 fwi fd1 ["self", "line", "text"] (spWInit CW)) (bI : Binds K fd1 ["self", "line", "text"] [])
    (GB : FnOk P w K mg base CX0 3 fbs fd2 ["words"] (spRdBase CW)) (bB : Binds K fd2 ["words"] []) (GR : FnOk P w K mg base CX0 4 frr fd3 ["base", "words"] (spRdRule CW)) (bR : Binds K fd3 ["base", "words"] [])
    (cR : CRead K C mc) (cM : CMet K C mc "of" ofp ofg) (GO : FnOk P w K mg base (L2.CX P w) 9 ofg fdo ["cls", "base", "rules"] (spOfS K C ca)) (bO : Binds K fdo ["cls", "base", "rules"] []) (T : TxRs K mg fbs frr C CW) :
    FnOk P w K mg base (L2.CX P w) 10 f fd ["text"] (spRdStyle C) := by
  refine F.okX scRdStyle (fun vs H Q E h => ?_) (fun cdv A outer s H vs Q E hr h => ?_)
  · obtain ⟨_, _, rfl, _⟩ := h
    rfl
  · obtain ⟨β, Ds, rfl, b2, b10, due, q⟩ := h
    obtain ⟨t8, hm8⟩ := T.mostR
    obtain ⟨⟨l1, l8⟩, hall, _⟩ := due_none due
    refine ⟨_, pss_cons (ps_if (pt_not (pt_val (pe_callB call_isi (by rfl) T.isi (by decide +kernel) (pa_cons (pv 0) (pa_cons (pe_bltn (by rfl) T.str (by decide +kernel) (v := .ty "str") rfl) pa_nil))))) (pss_one ps_never) pss_nil)
      (pss_cons (ps_setLc (own := [("number", 2), ("line", 3)]) (g := gTup K 2 (gCons (gName 2) (gCons (gName 3) gNil))) (i := 1) (tt := tYes) (te := tMake CW (spWInit CW) [] E0 (tCons (tVar 2) (tCons (tVar 3) tNil))) (by rfl) scRdStyle.nd rfl rfl (sw_true rfl rfl rfl (by decide +kernel)) (pi_enumS (by rfl) T.enum (pa_cons (pe_split (pv 0) pe_str) pa_nil) (by decide) (by decide)) (blkOk_by (own := [("number", 2), ("line", 3)]) (N := nRS) (sc := defScope sRdStyle) (by decide +kernel))
        (fun _ _ _ _ _ => pg_tup (by rfl) (pgs_cons (pg_name (i := 2) scRdStyle.nd rfl (Or.inl rfl)) (pgs_cons (pg_name (i := 3) scRdStyle.nd rfl (Or.inl rfl)) pgs_nil))) (fun _ _ _ _ _ => pts_nil) (fun _ _ _ _ _ => pe_make MW GI (hr.mono (by decide)) (by rfl) T.words bI .nil pass0 (pa_cons (pv 2) (pa_cons (pv 3) pa_nil))))
      (pss_cons (ps_set (i := 4) scRdStyle.nd rfl (.inl rfl) (pe_op op_add (pe_glob (by rfl) hm8 (v := .int 8) ⟨_, rfl⟩) pe_int))
      (pss_cons (ps_set (i := 5) scRdStyle.nd rfl (.inr rfl) (pe_call GB (hr.mono (by decide)) (by rfl) T.rBase T.kRb bB .nil pass0 (pa_cons (pe_ix ix_list (pv 1) pe_int (fun _ _ => rfl)) pa_nil)))
      (pss_cons (ps_setLc (own := [("words", 7)]) (g := gName 7) (i := 6) (tt := tYes) (te := tCall (spRdRule CW) [] E0 (tCons (tVar 5) (tCons (tVar 7) tNil))) (by rfl) scRdStyle.nd rfl rfl (sw_true rfl rfl rfl (by decide +kernel)) (pi_list (pe_slice (r := rSlL K) sl_list (pv 1) (po_some pe_int) (po_some (pv 4)))) (blkOk_by (own := [("words", 7)]) (N := nRS) (sc := defScope sRdStyle) (by decide +kernel))
        (fun _ _ _ _ _ => pg_name (i := 7) scRdStyle.nd rfl (Or.inl rfl)) (fun _ _ _ _ _ => pts_nil) (fun _ _ _ _ _ => pe_call GR (hr.mono (by decide)) (by rfl) T.rRule T.kRr bR .nil pass0 (pa_cons (pv 5) (pa_cons (pv 7) pa_nil))))
      (pss_cons (ps_if (pt_cmpR op_eq (pe_callB (id := "len") (r := rLenS K) call_len_seq (by rfl) T.len (by decide +kernel) (pa_cons (pv 1) pa_nil)) pe_int (nomark _)) (pss_one ps_never) pss_nil)
      (pss_cons (ps_if (pt_cmpR op_gt (pe_callB (id := "len") (r := rLenS K) call_len_seq (by rfl) T.len (by decide +kernel) (pa_cons (pv 1) pa_nil)) (pv 4) (nomark _)) (pss_one ps_never) pss_nil)
      (pss_one (ps_ret (pe_cmeth (pe_glob (by rfl) T.style (v := .ref C) rfl) cR cM (GO.raw bO .nil) hr (fun pins σ H s e s' I c => passAt (takes_of rfl rfl rfl rfl) σ pins H s e s' I c) (pa_cons (pv 5) (pa_cons (pv 6) pa_nil))))))))))), ?_⟩
    refine q_when (b := false) (et_is (et_not (et_B (ev_isi (r := true) (ev_var rfl) (.base (.str _)) (by decide +kernel)))) rfl) (fun z => nomatch z) (fun _ H1 e1 => ?_)
    -- the lines as words
    have hz : (styT β Ds).length ≤ 1000 := (lines_sum b10 hall l8).2
    have nws : ∀ ws ∈ lineWs β Ds, ws ≠ [] ∧ ∀ w ∈ ws, ∀ c ∈ tl w, 33 ≤ c := lineWs_ok b10 hall
    have lens : ∀ ws ∈ lineWs β Ds, (Txt.join " " ws).length ≤ 1000 := fun ws hw => by
      rcases List.mem_cons.mp hw with rfl | hw
      · rw [← base_line]
        exact Nat.le_trans (base_len b10) (by decide)
      · obtain ⟨d, hd, rfl⟩ := List.mem_map.mp hw
        exact Nat.le_trans (lineW_len b10 (List.all_eq_true.mp hall d hd)) (by decide)
    have lwl : (lineWs β Ds).length = Ds.length + 1 := by
      unfold lineWs
      rw [List.length_cons, List.length_map]
    have hfirst : (lineWs β Ds)[0]? = some (baseW β) := rfl
    have hrest : ∀ i d, Ds[i]? = some d → (lineWs β Ds)[i + 1]? = some (ruleW d) := fun i d h => by
      show (Ds.map ruleW)[i]? = _
      rw [List.getElem?_map, h]
      rfl
    have hsp := styT_split b10 hall
    generalize hLW : lineWs β Ds = LW at nws lens lwl hfirst hrest hsp
    refine ⟨_, rfl, ⟨_, rfl⟩, _, "\n", rfl, rfl, by decide, by rw [sizeLine_eq]; omega, fun sp nsp => ?_⟩
    rw [hsp]
    refine ⟨sp, _, rfl, sq_of upd_same, fun D nD => ?_⟩
    have eS := Ex.new (o := .lst ((LW.map (Txt.join " ")).map V.str)) nsp
    have hspl : (upd H1 sp (.lst ((LW.map (Txt.join " ")).map V.str))) sp = some (.lst ((LW.map (Txt.join " ")).map V.str)) := upd_same
    have eHS := e1.trans eS
    generalize upd H1 sp (.lst ((LW.map (Txt.join " ")).map V.str)) = H2 at nD hspl eHS
    have wl : ((LW.map (Txt.join " ")).map V.str).length = Ds.length + 1 := by rw [List.length_map, List.length_map, lwl]
    refine lc_it (walk_enumS (xs := (LW.map (Txt.join " ")).map V.str)) (fun j H' => ∃ as : List Addr, H' D = some (.lst (as.map V.ref)) ∧ as.length = j ∧ as.Nodup ∧ (∀ a ∈ as, H2 a = none) ∧ (∀ (i : Nat) (a : Addr) (ws : List Str), as[i]? = some a → LW[i]? = some ws → WdX CW H' a ws) ∧ Ex H2 H')
      ⟨[], upd_same, rfl, List.nodup_nil, (fun a h => nomatch h), (fun i a ws h _ => by simp at h), Ex.new nD⟩ (fun i H' _ hI => let ⟨_, _, _, _, _, _, e⟩ := hI; sq_of (e _ _ hspl)) (fun j y H' H4 hj hI hy => ?_) (fun H4 hI => ?_)
    · obtain ⟨as, hD, hla, nd, fresh, wds, e2⟩ := hI
      obtain ⟨Tp, p1, p2, rfl, nT, rfl, hp1, hp2⟩ := hy
      obtain rfl : p1 = .int (1 + (j : Nat)) := (Option.some.inj hp1).symm
      have hp2 : ((LW.map (Txt.join " ")).map V.str)[j]? = some p2 := hp2
      rw [List.getElem?_map] at hp2
      obtain ⟨tx, htx, rfl⟩ := Option.map_eq_some_iff.mp hp2
      rw [List.getElem?_map] at htx
      obtain ⟨ws, hws, rfl⟩ := Option.map_eq_some_iff.mp htx
      have eT := Ex.new (o := .tup [V.int (1 + (j : Nat)), V.str (Txt.join " " ws)]) nT
      have hT : (upd H' Tp (.tup [V.int (1 + (j : Nat)), V.str (Txt.join " " ws)])) Tp = some (.tup [V.int (1 + (j : Nat)), V.str (Txt.join " " ws)]) := upd_same
      generalize upd H' Tp (.tup [V.int (1 + (j : Nat)), V.str (Txt.join " " ws)]) = H4 at eT hT
      refine ⟨Tp, _, rfl, st_of hT, rfl, _, _, rfl, _, _, rfl, rfl, ?_⟩
      refine ⟨rfl, ?_⟩
      rw [show (tYes : TT) = fun _ H Q => Q true H from rfl]
      dsimp only
      rw [if_pos rfl]
      refine ⟨_, rfl, _, rfl, fun x dx hx hdx hne => ?_⟩
      have eA : Ex H4 (upd (upd H4 dx (.own x)) x (.ins CW dx [])) := (Ex.new hdx).trans (Ex.new (by rw [upd_ne (Ne.symm hne)]; exact hx))
      have hx5 : (upd (upd H4 dx (.own x)) x (.ins CW dx [])) x = some (.ins CW dx []) := upd_same
      generalize upd (upd H4 dx (.own x)) x (.ins CW dx []) = H5 at eA hx5
      have hmem := List.mem_of_getElem? hws
      refine ⟨x, dx, _, ws, rfl, hx5, nws ws hmem, lens ws hmem, fun H6 x6 W6 => ⟨rfl, ?_⟩⟩
      have e25 := (e2.trans eT).trans eA
      have nxD : D ≠ x := fun z => by
        have := eT _ _ hD
        rw [z, hx] at this
        cases this
      have hD6 := x6 _ _ (eA _ _ (eT _ _ hD)) nxD
      have aR : allRef (as.map V.ref) := fun v hv => let ⟨a, _, e⟩ := List.mem_map.mp hv; ⟨a, e.symm⟩
      have hxnew : H2 x = none := fresh_back (e2.trans eT) hx
      have xas : x ∉ as := fun hxa => by
        obtain ⟨i, hi⟩ := List.getElem?_of_mem hxa
        have hi2 : i < as.length := (List.getElem?_eq_some_iff.mp hi).1
        obtain ⟨dx', fs', h'⟩ := (wds i x _ hi (List.getElem?_eq_getElem (show i < LW.length by omega))).ins
        have := eT _ _ h'
        rw [hx] at this
        cases this
      refine ⟨as.map V.ref, hD6, by rw [List.length_map, sizeLine_eq]; omega, as ++ [x], ?_, ?_, ?_, ?_, ?_, ?_⟩
      · rw [upd_same, List.map_append]
        rfl
      · rw [List.length_append, hla]
        rfl
      · rw [List.nodup_append]
        refine ⟨nd, by simp, fun a ha b hb => ?_⟩
        rw [List.mem_singleton.mp hb]
        exact fun z => xas (z ▸ ha)
      · intro a ha
        rcases List.mem_append.mp ha with ha | ha
        · exact fresh a ha
        · rw [List.mem_singleton.mp ha]
          exact hxnew
      · intro i a ws' ha hw'
        rcases Nat.lt_or_ge i as.length with hi | hi
        · rw [List.getElem?_append_left hi] at ha
          obtain ⟨ln, WA⟩ := wds i a ws' ha hw'
          have nax : a ≠ x := fun z => xas (z ▸ List.mem_of_getElem? ha)
          exact ⟨ln, (((WA.ex (eT.trans eA)).bx x6 nax hx5).app (nws ws' (List.mem_of_getElem? hw')).1 hD6 aR)⟩
        · rw [List.getElem?_append_right hi] at ha
          have hi0 : i - as.length = 0 := by
            have := (List.getElem?_eq_some_iff.mp ha).1
            simp at this
            omega
          rw [hi0] at ha
          have : a = x := by simpa using ha.symm
          subst this
          have hij : i = j := by omega
          subst hij
          rw [hws] at hw'
          cases hw'
          exact ⟨_, W6.app (nws ws hmem).1 hD6 aR⟩
      · intro b o hb
        have hbx : b ≠ x := ne_of_none hb hxnew
        rw [upd_ne (ne_of_none hb nD)]
        exact x6 _ _ (e25 _ _ hb) hbx
    · obtain ⟨as, hD, hla, nd, fresh, wds, e2⟩ := hI
      rw [wl] at hla
      obtain ⟨a0, as', rfl⟩ : ∃ a0 as', as = a0 :: as' := by
        cases as with
        | nil => simp at hla
        | cons a b => exact ⟨a, b, rfl⟩
      rw [List.length_cons] at hla
      have hla' : as'.length = Ds.length := by omega
      refine g_name (σ' := [some (.str (styT β Ds)), some (.ref D), none, none, none, none, none, none]) rfl ?_
      dsimp only
      refine q_asg (v := .int 9) (ev_op ev_c ev_c rv_I0) fun H5 e5 => ?_
      have WB := (wds 0 a0 _ rfl hfirst).ex e5
      obtain ⟨ln0, W0⟩ := WB
      have hD5 := e5 _ _ hD
      refine ⟨_, rfl, D, _, 0, .ref a0, rfl, rfl, sq_of hD5, atI_nat (j := 0) rfl, a0, ln0, β, rfl, W0, b2, b10, fun H6 x6 => ?_⟩
      refine g_name (σ' := [some (.str (styT β Ds)), some (.ref D), none, none, some (.int 9), some (.int (β : Int)), none, none]) rfl ?_
      dsimp only
      obtain ⟨nd0, nd'⟩ := List.nodup_cons.mp nd
      obtain ⟨dx0, fs0, hx0⟩ := WdX.ins ⟨ln0, W0⟩
      have hD6 := x6 _ _ hD5 (ne_of hD5 hx0 (by intro z; cases z))
      have w6 : ∀ i a d, as'[i]? = some a → Ds[i]? = some d → WdX CW H6 a (ruleW d) := fun i a d ha hd => by
        obtain ⟨ln, WA⟩ := (wds (i + 1) a _ ha (hrest i d hd)).ex e5
        exact ⟨ln, WA.bx x6 (fun z => nd0 (z ▸ List.mem_of_getElem? ha)) hx0⟩
      have k6 : ∀ b o, H2 b = some o → H6 b = some o := fun b o hb => x6 _ _ ((e2.trans e5) _ _ hb) (ne_of_none hb (fresh a0 List.mem_cons_self))
      refine ⟨_, rfl, 1, rfl, _, rfl, 9, rfl, D, _, rfl, sq_of hD6, fun p np => ?_⟩
      have cutE : cutV (List.map V.ref (a0 :: as')) (some 1) (some 9) = as'.map V.ref := cut_tail (by rw [List.length_map]; omega)
      rw [cutE]
      refine ⟨p, rfl, ⟨_, sq_of upd_same⟩, fun Dl nDl => ?_⟩
      have eP := Ex.new (o := .lst (as'.map V.ref)) np
      have hp7 : (upd H6 p (.lst (as'.map V.ref))) p = some (.lst (as'.map V.ref)) := upd_same
      generalize upd H6 p (.lst (as'.map V.ref)) = H7 at eP hp7 nDl
      have w7 : ∀ i a d, as'[i]? = some a → Ds[i]? = some d → WdX CW H7 a (ruleW d) := fun i a d ha hd => (w6 i a d ha hd).ex eP
      have ins7 : ∀ a ∈ as', ∃ dx fs, H7 a = some (.ins CW dx fs) := fun a ha => by
        obtain ⟨i, hi⟩ := List.getElem?_of_mem ha
        have := (List.getElem?_eq_some_iff.mp hi).1
        exact (w7 i a _ hi (List.getElem?_eq_getElem (show i < Ds.length by omega))).ins
      have pas : p ∉ as' := fun h => by
        obtain ⟨dx, fs, h'⟩ := ins7 p h
        rw [hp7] at h'
        cases h'
      refine lc_list (xs := as'.map V.ref) (fun j H' => (∃ vs, H' Dl = some (.lst vs) ∧ PtAll H' vs (Ds.take j)) ∧ (∀ b o, H7 b = some o → b ∉ as' → H' b = some o) ∧ (∀ (i : Nat) (a : Addr) (d : PyData), j ≤ i → as'[i]? = some a → Ds[i]? = some d → WdX CW H' a (ruleW d)))
        ⟨⟨[], upd_same, .nil⟩, fun b o hb _ => by rw [upd_ne (ne_of_none hb nDl)]; exact hb, fun i a d _ ha hd => (w7 i a d ha hd).ex (Ex.new nDl)⟩ (fun j H' _ hI => sq_of (hI.2.1 _ _ hp7 pas)) (fun j v H8 hv hI => ?_) (fun H8 hI => ?_)
      · obtain ⟨⟨vs, hDl, kvs⟩, kp, wj⟩ := hI
        rw [List.getElem?_map] at hv
        obtain ⟨a, ha, rfl⟩ := Option.map_eq_some_iff.mp hv
        have hjl : j < Ds.length := by
          have := (List.getElem?_eq_some_iff.mp ha).1
          omega
        have hd : Ds[j]? = some Ds[j] := List.getElem?_eq_getElem hjl
        have hrule := List.all_eq_true.mp hall Ds[j] (List.getElem_mem hjl)
        have WX := wj j a _ (Nat.le_refl _) ha hd
        obtain ⟨dxa, fsa, hxa⟩ := WX.ins
        obtain ⟨ln, WA⟩ := WX
        refine ⟨rfl, ?_⟩
        rw [show (tYes : TT) = fun _ H Q => Q true H from rfl]
        dsimp only
        rw [if_pos rfl]
        refine ⟨_, rfl, _, rfl, a, ln, β, Ds[j], rfl, WA, b2, b10, hrule, fun u H9 x9 ku => ?_⟩
        have tk9 := x9.tupK hxa
        have hDl9 := x9 _ _ hDl (ne_of hDl hxa (by intro z; cases z))
        have nT : noLs (Ds.take j) = true := noLs_all fun d hd => rule_noL (List.all_eq_true.mp hall d (List.mem_of_mem_take hd))
        have kv9 := kvs.tk tk9 nT
        have aR : allRef vs := PtAll.refs kv9 fun d hd => by
          obtain ⟨cs, k, rfl, _, _, _⟩ := rule_inv (List.all_eq_true.mp hall d (List.mem_of_mem_take hd))
          rfl
        refine ⟨vs, hDl9, ?_, ⟨vs ++ [u], upd_same, ?_⟩, fun b o hb hn => ?_, fun i a' d hi ha' hd' => ?_⟩
        · rw [kvs.length, List.length_take, sizeLine_eq]
          omega
        · rw [List.take_add_one, hd]
          exact (kv9.tk (tupK_upd hDl9) nT).app (.cons (ku.tk (tupK_upd hDl9) (rule_noL hrule)) .nil)
        · rw [upd_ne (ne_of_none hb nDl)]
          exact x9 _ _ (kp b o hb hn) (fun z => hn (z ▸ List.mem_of_getElem? ha))
        · have naa : a' ≠ a := fun z => by
            subst z
            have := (List.getElem?_inj (List.getElem?_eq_some_iff.mp ha').1 nd').mp (ha'.trans ha.symm)
            omega
          obtain ⟨ln', WA'⟩ := wj i a' d (by omega) ha' hd'
          exact ⟨ln', (WA'.bx x9 naa hxa).app ((rule_words b10 (List.all_eq_true.mp hall d (List.mem_of_getElem? hd'))).1) hDl9 aR⟩
      · obtain ⟨⟨vs, hDl, kvs⟩, kp, _⟩ := hI
        rw [List.length_map, hla', List.take_length] at kvs
        have D7 : H7 D = some (.lst ((a0 :: as').map V.ref)) := eP _ _ hD6
        have Das : D ∉ as' := fun h => by
          obtain ⟨dx, fs, h'⟩ := ins7 D h
          rw [D7] at h'
          cases h'
        have hD8 := kp _ _ D7 Das
        refine g_name (σ' := [some (.str (styT β Ds)), some (.ref D), none, none, some (.int 9), some (.int (β : Int)), some (.ref Dl), none]) rfl ?_
        dsimp only
        have ll : ((a0 :: as').map V.ref).length = Ds.length + 1 := by rw [List.length_map, List.length_cons, hla']
        refine q_when (b := false) (et_is (et_test (ev_op (ev_len (ev_var rfl) (sq_of hD8)) ev_c (rv_eq rfl))) ?_) (fun z => nomatch z) (fun _ H9 e9 => ?_)
        · rw [ll]
          exact decide_eq_false fun z => by injection z with z; omega
        refine q_when (b := false) (et_is (et_test (ev_op (ev_len (ev_var rfl) (sq_of (e9 _ _ hD8))) (ev_var rfl) rv_I0)) ?_) (fun z => nomatch z) (fun _ H10 e10 => ?_)
        · rw [ll]
          exact decide_eq_false (by omega)
        have e910 := e9.trans e10
        refine ⟨rfl, _, rfl, _, rfl, .int β, .ref Dl, .list Ds, true, rfl, bs_yes b2 b10, .lst (e910 _ _ hDl) (kvs.ex e910), ?_, (fun z => nomatch z), fun _ => ⟨β, rfl, b2, b10, ⟨fun pl hpl => ?_, fun hn y H' e' sa => q y H' (fun b o hb => ?_) sa⟩⟩⟩
        · show Ds.length ≤ 100000
          omega
        · rw [show dueO β (.list Ds) = dueD β Ds from rfl, due] at hpl
          cases hpl
        · have hb2 := eHS _ _ hb
          exact e' _ _ (e910 _ _ (kp _ _ (eP _ _ (k6 _ _ hb2)) fun h => ne_of_none hb2 (fresh b (List.mem_cons_of_mem _ h)) rfl))
end
end Tx

/-! What lies at an address of the written part, told by the part itself. -/
namespace L2
open PySem PySem.Spec PyProof.Rows ExM
open PySem (cStatics)
open PySem.W (Frag findIn typeIn keepIn subIn nsIn codeIn ksFn ks_superIn excTail)
/-! what lies at an address of the written part -/
def oO (K : Frag) (a : Addr) : Obj := (K.lookup a).getD default
def fO (K : Frag) (a : Addr) : FuncData := match (oO K a).data with
  | .func fd => fd
  | _ => default
def cO (K : Frag) (a : Addr) : ClassData := match (oO K a).data with
  | .cls cd => cd
  | _ => default
def vO (K : Frag) (a : Addr) : Array Value := match (oO K a).data with
  | .fields vs => vs
  | _ => #[]
def sO (v : Option Value) : Str × Tok := match v with
  | some (.str x t) => (x, t)
  | _ => default
def slO (K : Frag) (a : Addr) (i : Nat) : Option Value := ((oO K a).slots[i]?).getD none
theorem cfs_mkO {K : Frag} {prog : Program} {C f cc cda : Addr} {qual : Str} {params : Arguments} {body : List Stmt} {scope : Scope} {bmB : List Value} {B newId initId : String}
    (lc : K.lookup C = some (excClassObj (cO K C).name (cO K C).qualname C (cO K C).ns (cO K C).bases (cO K C).mro.tail true (cO K C).slotNames (cO K C).subclasses (cO K C).abstract (cO K C).collection (oO K C).dict (slO K C 0) (slO K C 1) (slO K C 2) (slO K C 3) (slO K C 5) newId))
    (iC : findIn K (.ref C) "__init__" = some (some (.ref f)))
    (lf : K.lookup f = some ⟨(oO K f).cls, (oO K f).dict, .func (ksFn "__init__" qual params body scope .none (fO K f).kwdefaults (fO K f).doc (fO K f).pyModule (fO K f).annotations (.ref cda) (fO K f).closureTuple cc), (oO K f).slots⟩)
    (lcd : K.lookup cda = some ⟨(oO K cda).cls, (oO K cda).dict, .fields (vO K cda), (oO K cda).slots⟩) (lcc : K.lookup cc = some ⟨(oO K cc).cls, (oO K cc).dict, .cell (some (.ref C)), (oO K cc).slots⟩)
    (sa : findIn K (.ref C) "__setattr__" = some (some (.builtin "object.__setattr__"))) (tF : typeIn K (.ref f) = some (.type "function")) (kC : keepIn K (.ref C) = true) (exC : subIn K (.ref C) (.type "BaseException") = some true) (bC : subIn K (.ref C) (.type B) = some true)
    (tyC : typeIn K (.ref C) = some (.type "type")) (op : nsIn K cStatics "thirdparty.any" = some none) (cf : codeIn K (.ref cda) qual = true)
    (al : ks_superIn K C C "__init__" = some (some (.builtin initId))) (tl : excTail bmB (cO K C).mro.tail = true) (v2 : (vO K cda)[2]? = some (.str (sO (vO K cda)[2]?).1 (sO (vO K cda)[2]?).2)) (hf : ((prog.main.file : Str) == (sO (vO K cda)[2]?).1) = true) (top : (prog.main.scope.names.lookup ("super" : Str)).isSome = false) :
    Cfs K prog C f cc cda qual params body scope bmB B newId initId :=
  cfs_mk lc iC lf lcd lcc sa tF kC exC bC tyC op cf al tl v2 hf top
end L2
namespace L2
open PySem
/-- a def as the top has written it -/
def fdX (K : PySem.W.Frag) (name : Str) (st : Stmt) (f : Addr) : FuncData := PySem.W.fnOf name name (defArgs st) (defBody st) (defScope st) .none (fO K f).kwdefaults (fO K f).doc (fO K f).pyModule (fO K f).annotations (fO K f).code (fO K f).closureTuple
end L2

section
open PySem PySem.W PyProof.Rows
set_option maxRecDepth 100000
set_option maxHeartbeats 0
open_top hd33 for PySem.Challenge.rw_shortspans_k33_whole_texts_of_styles
end
/-! k33: what the top has written, at its addresses. -/
namespace KH33
open PySem L2 Evl ExM Dg Dt StX ClX
abbrev P33 : Program := PySem.Challenge.pw_shortspans_k33_whole_texts_of_styles
noncomputable abbrev K33 : Params → PySem.W.Frag := hd33.heap_39
def ca33 : Nat → Addr
  | 0 => 31
  | 1 => 53
  | 2 => 74
  | 4 => 95
  | 5 => 116
  | 10 => 137
  | _ => 0
section
variable (p : Params) {mg : Str → Option Value}
theorem cfs1 : Cfs (K33 p) P33 53 50 38 49 "BadBase.__init__" (defArgs (inClass (top 3) 0)) (defBody (inClass (top 3) 0)) (defScope (inClass (top 3) 0)) [.type "ValueError", .type "Exception", .type "BaseException", .type "object"] "ValueError" "ValueError.__new__" "ValueError.__init__" :=
  cfs_mkO (by kernel_rfl) (by kernel_rfl) (by kernel_rfl) (by kernel_rfl) (by kernel_rfl) (by kernel_rfl) (by kernel_rfl) (by kernel_rfl) (by kernel_rfl) (by kernel_rfl) (by kernel_rfl) (by kernel_rfl) (by kernel_rfl) (by kernel_rfl) (by kernel_rfl) (by kernel_rfl) (by kernel_rfl) (by kernel_rfl)
theorem mk1 : Mks P33 (K33 p) mg 53 ["value"] :=
  mks_one (cfs1 p) base_VE rfl rfl rfl ⟨rfl, by decide +kernel, by decide +kernel, rfl, rfl, ⟨_, rfl, rfl⟩, by decide +kernel⟩ (fun L cd => ⟨rfl, _, rfl⟩) (by kernel_rfl)
    (fun a v h x kV doc pm an cdv ct => match h with | .pos _ => by kernel_rfl | .kw1 => by kernel_rfl)
theorem cfs2 : Cfs (K33 p) P33 74 71 59 70 "BadNumber.__init__" (defArgs (inClass (top 4) 0)) (defBody (inClass (top 4) 0)) (defScope (inClass (top 4) 0)) [.type "ValueError", .type "Exception", .type "BaseException", .type "object"] "ValueError" "ValueError.__new__" "ValueError.__init__" :=
  cfs_mkO (by kernel_rfl) (by kernel_rfl) (by kernel_rfl) (by kernel_rfl) (by kernel_rfl) (by kernel_rfl) (by kernel_rfl) (by kernel_rfl) (by kernel_rfl) (by kernel_rfl) (by kernel_rfl) (by kernel_rfl) (by kernel_rfl) (by kernel_rfl) (by kernel_rfl) (by kernel_rfl) (by kernel_rfl) (by kernel_rfl)
theorem mk2 : Mks P33 (K33 p) mg 74 ["value"] :=
  mks_one (cfs2 p) base_VE rfl rfl rfl ⟨rfl, by decide +kernel, by decide +kernel, rfl, rfl, ⟨_, rfl, rfl⟩, by decide +kernel⟩ (fun L cd => ⟨rfl, _, rfl⟩) (by kernel_rfl)
    (fun a v h x kV doc pm an cdv ct => match h with | .pos _ => by kernel_rfl | .kw1 => by kernel_rfl)
theorem cfs4 : Cfs (K33 p) P33 95 92 80 91 "BadRange.__init__" (defArgs (inClass (top 5) 0)) (defBody (inClass (top 5) 0)) (defScope (inClass (top 5) 0)) [.type "ValueError", .type "Exception", .type "BaseException", .type "object"] "ValueError" "ValueError.__new__" "ValueError.__init__" :=
  cfs_mkO (by kernel_rfl) (by kernel_rfl) (by kernel_rfl) (by kernel_rfl) (by kernel_rfl) (by kernel_rfl) (by kernel_rfl) (by kernel_rfl) (by kernel_rfl) (by kernel_rfl) (by kernel_rfl) (by kernel_rfl) (by kernel_rfl) (by kernel_rfl) (by kernel_rfl) (by kernel_rfl) (by kernel_rfl) (by kernel_rfl)
theorem mk4 : Mks P33 (K33 p) mg 95 ["value"] :=
  mks_one (cfs4 p) base_VE rfl rfl rfl ⟨rfl, by decide +kernel, by decide +kernel, rfl, rfl, ⟨_, rfl, rfl⟩, by decide +kernel⟩ (fun L cd => ⟨rfl, _, rfl⟩) (by kernel_rfl)
    (fun a v h x kV doc pm an cdv ct => match h with | .pos _ => by kernel_rfl | .kw1 => by kernel_rfl)
theorem cfs5 : Cfs (K33 p) P33 116 113 101 112 "BadRule.__init__" (defArgs (inClass (top 6) 0)) (defBody (inClass (top 6) 0)) (defScope (inClass (top 6) 0)) [.type "ValueError", .type "Exception", .type "BaseException", .type "object"] "ValueError" "ValueError.__new__" "ValueError.__init__" :=
  cfs_mkO (by kernel_rfl) (by kernel_rfl) (by kernel_rfl) (by kernel_rfl) (by kernel_rfl) (by kernel_rfl) (by kernel_rfl) (by kernel_rfl) (by kernel_rfl) (by kernel_rfl) (by kernel_rfl) (by kernel_rfl) (by kernel_rfl) (by kernel_rfl) (by kernel_rfl) (by kernel_rfl) (by kernel_rfl) (by kernel_rfl)
theorem mk5 : Mks P33 (K33 p) mg 116 ["place"] :=
  mks_one (cfs5 p) base_VE rfl rfl rfl ⟨rfl, by decide +kernel, by decide +kernel, rfl, rfl, ⟨_, rfl, rfl⟩, by decide +kernel⟩ (fun L cd => ⟨rfl, _, rfl⟩) (by kernel_rfl)
    (fun a v h x kV doc pm an cdv ct => match h with | .pos _ => by kernel_rfl | .kw1 => by kernel_rfl)
theorem cfs10 : Cfs (K33 p) P33 137 134 122 133 "BadText.__init__" (defArgs (inClass (top 7) 0)) (defBody (inClass (top 7) 0)) (defScope (inClass (top 7) 0)) [.type "ValueError", .type "Exception", .type "BaseException", .type "object"] "ValueError" "ValueError.__new__" "ValueError.__init__" :=
  cfs_mkO (by kernel_rfl) (by kernel_rfl) (by kernel_rfl) (by kernel_rfl) (by kernel_rfl) (by kernel_rfl) (by kernel_rfl) (by kernel_rfl) (by kernel_rfl) (by kernel_rfl) (by kernel_rfl) (by kernel_rfl) (by kernel_rfl) (by kernel_rfl) (by kernel_rfl) (by kernel_rfl) (by kernel_rfl) (by kernel_rfl)
theorem kp_is_integer : PySem.W.keepIn (K33 p) (.ref 146) = true := by kernel_rfl
theorem lk_is_integer : (K33 p).lookup 146 = some ⟨(oO (K33 p) 146).cls, (oO (K33 p) 146).dict, .func (PySem.W.fnOf "is_integer" "is_integer" (defArgs (top 12)) (defBody (top 12)) (defScope (top 12)) .none (fO (K33 p) 146).kwdefaults (fO (K33 p) 146).doc (fO (K33 p) 146).pyModule (fO (K33 p) 146).annotations (fO (K33 p) 146).code (fO (K33 p) 146).closureTuple), (oO (K33 p) 146).slots⟩ := by kernel_rfl
theorem cd_is_integer : PySem.W.codeIn (K33 p) (fO (K33 p) 146).code "is_integer" = true := by kernel_rfl
noncomputable abbrev fd_is_integer (p : Params) : FuncData := PySem.W.fnOf "is_integer" "is_integer" (defArgs (top 12)) (defBody (top 12)) (defScope (top 12)) .none (fO (K33 p) 146).kwdefaults (fO (K33 p) 146).doc (fO (K33 p) 146).pyModule (fO (K33 p) 146).annotations (fO (K33 p) 146).code (fO (K33 p) 146).closureTuple
theorem fn_is_integer : Fun (K33 p) "is_integer" "is_integer" (top 12) 146 (fd_is_integer p) := ⟨⟨_, _, _, _, _, _, _, _, _, rfl, lk_is_integer p, cd_is_integer p⟩, kp_is_integer p⟩
theorem bd_is_integer : Binds (K33 p) (fd_is_integer p) ["value"] [] := (fn_is_integer p).binds (ps := ["value"]) fun _ _ _ _ _ _ us hl => match us, hl with | [_], _ => rfl
theorem kp_is_number : PySem.W.keepIn (K33 p) (.ref 153) = true := by kernel_rfl
theorem lk_is_number : (K33 p).lookup 153 = some ⟨(oO (K33 p) 153).cls, (oO (K33 p) 153).dict, .func (PySem.W.fnOf "is_number" "is_number" (defArgs (top 13)) (defBody (top 13)) (defScope (top 13)) .none (fO (K33 p) 153).kwdefaults (fO (K33 p) 153).doc (fO (K33 p) 153).pyModule (fO (K33 p) 153).annotations (fO (K33 p) 153).code (fO (K33 p) 153).closureTuple), (oO (K33 p) 153).slots⟩ := by kernel_rfl
theorem cd_is_number : PySem.W.codeIn (K33 p) (fO (K33 p) 153).code "is_number" = true := by kernel_rfl
noncomputable abbrev fd_is_number (p : Params) : FuncData := PySem.W.fnOf "is_number" "is_number" (defArgs (top 13)) (defBody (top 13)) (defScope (top 13)) .none (fO (K33 p) 153).kwdefaults (fO (K33 p) 153).doc (fO (K33 p) 153).pyModule (fO (K33 p) 153).annotations (fO (K33 p) 153).code (fO (K33 p) 153).closureTuple
theorem fn_is_number : Fun (K33 p) "is_number" "is_number" (top 13) 153 (fd_is_number p) := ⟨⟨_, _, _, _, _, _, _, _, _, rfl, lk_is_number p, cd_is_number p⟩, kp_is_number p⟩
theorem bd_is_number : Binds (K33 p) (fd_is_number p) ["value"] [] := (fn_is_number p).binds (ps := ["value"]) fun _ _ _ _ _ _ us hl => match us, hl with | [_], _ => rfl
theorem kp_is_figures : PySem.W.keepIn (K33 p) (.ref 158) = true := by kernel_rfl
theorem lk_is_figures : (K33 p).lookup 158 = some ⟨(oO (K33 p) 158).cls, (oO (K33 p) 158).dict, .func (PySem.W.fnOf "is_figures" "is_figures" (defArgs (top 14)) (defBody (top 14)) (defScope (top 14)) .none (fO (K33 p) 158).kwdefaults (fO (K33 p) 158).doc (fO (K33 p) 158).pyModule (fO (K33 p) 158).annotations (fO (K33 p) 158).code (fO (K33 p) 158).closureTuple), (oO (K33 p) 158).slots⟩ := by kernel_rfl
theorem cd_is_figures : PySem.W.codeIn (K33 p) (fO (K33 p) 158).code "is_figures" = true := by kernel_rfl
noncomputable abbrev fd_is_figures (p : Params) : FuncData := PySem.W.fnOf "is_figures" "is_figures" (defArgs (top 14)) (defBody (top 14)) (defScope (top 14)) .none (fO (K33 p) 158).kwdefaults (fO (K33 p) 158).doc (fO (K33 p) 158).pyModule (fO (K33 p) 158).annotations (fO (K33 p) 158).code (fO (K33 p) 158).closureTuple
theorem fn_is_figures : Fun (K33 p) "is_figures" "is_figures" (top 14) 158 (fd_is_figures p) := ⟨⟨_, _, _, _, _, _, _, _, _, rfl, lk_is_figures p, cd_is_figures p⟩, kp_is_figures p⟩
theorem bd_is_figures : Binds (K33 p) (fd_is_figures p) ["base", "value", "most"] [] := (fn_is_figures p).binds (ps := ["base", "value", "most"]) fun _ _ _ _ _ _ us hl => match us, hl with | [_, _, _], _ => rfl
theorem kp_need_base : PySem.W.keepIn (K33 p) (.ref 165) = true := by kernel_rfl
theorem lk_need_base : (K33 p).lookup 165 = some ⟨(oO (K33 p) 165).cls, (oO (K33 p) 165).dict, .func (PySem.W.fnOf "need_base" "need_base" (defArgs (top 15)) (defBody (top 15)) (defScope (top 15)) .none (fO (K33 p) 165).kwdefaults (fO (K33 p) 165).doc (fO (K33 p) 165).pyModule (fO (K33 p) 165).annotations (fO (K33 p) 165).code (fO (K33 p) 165).closureTuple), (oO (K33 p) 165).slots⟩ := by kernel_rfl
theorem cd_need_base : PySem.W.codeIn (K33 p) (fO (K33 p) 165).code "need_base" = true := by kernel_rfl
noncomputable abbrev fd_need_base (p : Params) : FuncData := PySem.W.fnOf "need_base" "need_base" (defArgs (top 15)) (defBody (top 15)) (defScope (top 15)) .none (fO (K33 p) 165).kwdefaults (fO (K33 p) 165).doc (fO (K33 p) 165).pyModule (fO (K33 p) 165).annotations (fO (K33 p) 165).code (fO (K33 p) 165).closureTuple
theorem fn_need_base : Fun (K33 p) "need_base" "need_base" (top 15) 165 (fd_need_base p) := ⟨⟨_, _, _, _, _, _, _, _, _, rfl, lk_need_base p, cd_need_base p⟩, kp_need_base p⟩
theorem bd_need_base : Binds (K33 p) (fd_need_base p) ["base"] [] := (fn_need_base p).binds (ps := ["base"]) fun _ _ _ _ _ _ us hl => match us, hl with | [_], _ => rfl
theorem kp_need_number : PySem.W.keepIn (K33 p) (.ref 172) = true := by kernel_rfl
theorem lk_need_number : (K33 p).lookup 172 = some ⟨(oO (K33 p) 172).cls, (oO (K33 p) 172).dict, .func (PySem.W.fnOf "need_number" "need_number" (defArgs (top 16)) (defBody (top 16)) (defScope (top 16)) .none (fO (K33 p) 172).kwdefaults (fO (K33 p) 172).doc (fO (K33 p) 172).pyModule (fO (K33 p) 172).annotations (fO (K33 p) 172).code (fO (K33 p) 172).closureTuple), (oO (K33 p) 172).slots⟩ := by kernel_rfl
theorem cd_need_number : PySem.W.codeIn (K33 p) (fO (K33 p) 172).code "need_number" = true := by kernel_rfl
noncomputable abbrev fd_need_number (p : Params) : FuncData := PySem.W.fnOf "need_number" "need_number" (defArgs (top 16)) (defBody (top 16)) (defScope (top 16)) .none (fO (K33 p) 172).kwdefaults (fO (K33 p) 172).doc (fO (K33 p) 172).pyModule (fO (K33 p) 172).annotations (fO (K33 p) 172).code (fO (K33 p) 172).closureTuple
theorem fn_need_number : Fun (K33 p) "need_number" "need_number" (top 16) 172 (fd_need_number p) := ⟨⟨_, _, _, _, _, _, _, _, _, rfl, lk_need_number p, cd_need_number p⟩, kp_need_number p⟩
theorem bd_need_number : Binds (K33 p) (fd_need_number p) ["number"] [] := (fn_need_number p).binds (ps := ["number"]) fun _ _ _ _ _ _ us hl => match us, hl with | [_], _ => rfl
theorem kp_need_range : PySem.W.keepIn (K33 p) (.ref 179) = true := by kernel_rfl
theorem lk_need_range : (K33 p).lookup 179 = some ⟨(oO (K33 p) 179).cls, (oO (K33 p) 179).dict, .func (PySem.W.fnOf "need_range" "need_range" (defArgs (top 17)) (defBody (top 17)) (defScope (top 17)) .none (fO (K33 p) 179).kwdefaults (fO (K33 p) 179).doc (fO (K33 p) 179).pyModule (fO (K33 p) 179).annotations (fO (K33 p) 179).code (fO (K33 p) 179).closureTuple), (oO (K33 p) 179).slots⟩ := by kernel_rfl
theorem cd_need_range : PySem.W.codeIn (K33 p) (fO (K33 p) 179).code "need_range" = true := by kernel_rfl
noncomputable abbrev fd_need_range (p : Params) : FuncData := PySem.W.fnOf "need_range" "need_range" (defArgs (top 17)) (defBody (top 17)) (defScope (top 17)) .none (fO (K33 p) 179).kwdefaults (fO (K33 p) 179).doc (fO (K33 p) 179).pyModule (fO (K33 p) 179).annotations (fO (K33 p) 179).code (fO (K33 p) 179).closureTuple
theorem fn_need_range : Fun (K33 p) "need_range" "need_range" (top 17) 179 (fd_need_range p) := ⟨⟨_, _, _, _, _, _, _, _, _, rfl, lk_need_range p, cd_need_range p⟩, kp_need_range p⟩
theorem bd_need_range : Binds (K33 p) (fd_need_range p) ["first", "second"] [] := (fn_need_range p).binds (ps := ["first", "second"]) fun _ _ _ _ _ _ us hl => match us, hl with | [_, _], _ => rfl
theorem kp_digits : PySem.W.keepIn (K33 p) (.ref 186) = true := by kernel_rfl
theorem lk_digits : (K33 p).lookup 186 = some ⟨(oO (K33 p) 186).cls, (oO (K33 p) 186).dict, .func (PySem.W.fnOf "digits" "digits" (defArgs (top 18)) (defBody (top 18)) (defScope (top 18)) .none (fO (K33 p) 186).kwdefaults (fO (K33 p) 186).doc (fO (K33 p) 186).pyModule (fO (K33 p) 186).annotations (fO (K33 p) 186).code (fO (K33 p) 186).closureTuple), (oO (K33 p) 186).slots⟩ := by kernel_rfl
theorem cd_digits : PySem.W.codeIn (K33 p) (fO (K33 p) 186).code "digits" = true := by kernel_rfl
noncomputable abbrev fd_digits (p : Params) : FuncData := PySem.W.fnOf "digits" "digits" (defArgs (top 18)) (defBody (top 18)) (defScope (top 18)) .none (fO (K33 p) 186).kwdefaults (fO (K33 p) 186).doc (fO (K33 p) 186).pyModule (fO (K33 p) 186).annotations (fO (K33 p) 186).code (fO (K33 p) 186).closureTuple
theorem fn_digits : Fun (K33 p) "digits" "digits" (top 18) 186 (fd_digits p) := ⟨⟨_, _, _, _, _, _, _, _, _, rfl, lk_digits p, cd_digits p⟩, kp_digits p⟩
theorem bd_digits : Binds (K33 p) (fd_digits p) ["base", "number"] [] := (fn_digits p).binds (ps := ["base", "number"]) fun _ _ _ _ _ _ us hl => match us, hl with | [_, _], _ => rfl
theorem kp_length : PySem.W.keepIn (K33 p) (.ref 193) = true := by kernel_rfl
theorem lk_length : (K33 p).lookup 193 = some ⟨(oO (K33 p) 193).cls, (oO (K33 p) 193).dict, .func (PySem.W.fnOf "length" "length" (defArgs (top 19)) (defBody (top 19)) (defScope (top 19)) .none (fO (K33 p) 193).kwdefaults (fO (K33 p) 193).doc (fO (K33 p) 193).pyModule (fO (K33 p) 193).annotations (fO (K33 p) 193).code (fO (K33 p) 193).closureTuple), (oO (K33 p) 193).slots⟩ := by kernel_rfl
theorem cd_length : PySem.W.codeIn (K33 p) (fO (K33 p) 193).code "length" = true := by kernel_rfl
noncomputable abbrev fd_length (p : Params) : FuncData := PySem.W.fnOf "length" "length" (defArgs (top 19)) (defBody (top 19)) (defScope (top 19)) .none (fO (K33 p) 193).kwdefaults (fO (K33 p) 193).doc (fO (K33 p) 193).pyModule (fO (K33 p) 193).annotations (fO (K33 p) 193).code (fO (K33 p) 193).closureTuple
theorem fn_length : Fun (K33 p) "length" "length" (top 19) 193 (fd_length p) := ⟨⟨_, _, _, _, _, _, _, _, _, rfl, lk_length p, cd_length p⟩, kp_length p⟩
theorem bd_length : Binds (K33 p) (fd_length p) ["base", "number"] [] := (fn_length p).binds (ps := ["base", "number"]) fun _ _ _ _ _ _ us hl => match us, hl with | [_, _], _ => rfl
theorem kp_changed : PySem.W.keepIn (K33 p) (.ref 200) = true := by kernel_rfl
theorem lk_changed : (K33 p).lookup 200 = some ⟨(oO (K33 p) 200).cls, (oO (K33 p) 200).dict, .func (PySem.W.fnOf "changed" "changed" (defArgs (top 20)) (defBody (top 20)) (defScope (top 20)) .none (fO (K33 p) 200).kwdefaults (fO (K33 p) 200).doc (fO (K33 p) 200).pyModule (fO (K33 p) 200).annotations (fO (K33 p) 200).code (fO (K33 p) 200).closureTuple), (oO (K33 p) 200).slots⟩ := by kernel_rfl
theorem cd_changed : PySem.W.codeIn (K33 p) (fO (K33 p) 200).code "changed" = true := by kernel_rfl
noncomputable abbrev fd_changed (p : Params) : FuncData := PySem.W.fnOf "changed" "changed" (defArgs (top 20)) (defBody (top 20)) (defScope (top 20)) .none (fO (K33 p) 200).kwdefaults (fO (K33 p) 200).doc (fO (K33 p) 200).pyModule (fO (K33 p) 200).annotations (fO (K33 p) 200).code (fO (K33 p) 200).closureTuple
theorem fn_changed : Fun (K33 p) "changed" "changed" (top 20) 200 (fd_changed p) := ⟨⟨_, _, _, _, _, _, _, _, _, rfl, lk_changed p, cd_changed p⟩, kp_changed p⟩
theorem bd_changed : Binds (K33 p) (fd_changed p) ["base", "first", "second"] [] := (fn_changed p).binds (ps := ["base", "first", "second"]) fun _ _ _ _ _ _ us hl => match us, hl with | [_, _, _], _ => rfl
theorem kp_near : PySem.W.keepIn (K33 p) (.ref 207) = true := by kernel_rfl
theorem lk_near : (K33 p).lookup 207 = some ⟨(oO (K33 p) 207).cls, (oO (K33 p) 207).dict, .func (PySem.W.fnOf "near" "near" (defArgs (top 21)) (defBody (top 21)) (defScope (top 21)) .none (fO (K33 p) 207).kwdefaults (fO (K33 p) 207).doc (fO (K33 p) 207).pyModule (fO (K33 p) 207).annotations (fO (K33 p) 207).code (fO (K33 p) 207).closureTuple), (oO (K33 p) 207).slots⟩ := by kernel_rfl
theorem cd_near : PySem.W.codeIn (K33 p) (fO (K33 p) 207).code "near" = true := by kernel_rfl
noncomputable abbrev fd_near (p : Params) : FuncData := PySem.W.fnOf "near" "near" (defArgs (top 21)) (defBody (top 21)) (defScope (top 21)) .none (fO (K33 p) 207).kwdefaults (fO (K33 p) 207).doc (fO (K33 p) 207).pyModule (fO (K33 p) 207).annotations (fO (K33 p) 207).code (fO (K33 p) 207).closureTuple
theorem fn_near : Fun (K33 p) "near" "near" (top 21) 207 (fd_near p) := ⟨⟨_, _, _, _, _, _, _, _, _, rfl, lk_near p, cd_near p⟩, kp_near p⟩
theorem bd_near : Binds (K33 p) (fd_near p) ["base", "first", "second"] [] := (fn_near p).binds (ps := ["base", "first", "second"]) fun _ _ _ _ _ _ us hl => match us, hl with | [_, _, _], _ => rfl
theorem kp_is_size : PySem.W.keepIn (K33 p) (.ref 214) = true := by kernel_rfl
theorem lk_is_size : (K33 p).lookup 214 = some ⟨(oO (K33 p) 214).cls, (oO (K33 p) 214).dict, .func (PySem.W.fnOf "is_size" "is_size" (defArgs (top 27)) (defBody (top 27)) (defScope (top 27)) .none (fO (K33 p) 214).kwdefaults (fO (K33 p) 214).doc (fO (K33 p) 214).pyModule (fO (K33 p) 214).annotations (fO (K33 p) 214).code (fO (K33 p) 214).closureTuple), (oO (K33 p) 214).slots⟩ := by kernel_rfl
theorem cd_is_size : PySem.W.codeIn (K33 p) (fO (K33 p) 214).code "is_size" = true := by kernel_rfl
noncomputable abbrev fd_is_size (p : Params) : FuncData := PySem.W.fnOf "is_size" "is_size" (defArgs (top 27)) (defBody (top 27)) (defScope (top 27)) .none (fO (K33 p) 214).kwdefaults (fO (K33 p) 214).doc (fO (K33 p) 214).pyModule (fO (K33 p) 214).annotations (fO (K33 p) 214).code (fO (K33 p) 214).closureTuple
theorem fn_is_size : Fun (K33 p) "is_size" "is_size" (top 27) 214 (fd_is_size p) := ⟨⟨_, _, _, _, _, _, _, _, _, rfl, lk_is_size p, cd_is_size p⟩, kp_is_size p⟩
theorem bd_is_size : Binds (K33 p) (fd_is_size p) ["value", "least"] [] := (fn_is_size p).binds (ps := ["value", "least"]) fun _ _ _ _ _ _ us hl => match us, hl with | [_, _], _ => rfl
theorem kp_are_bounds : PySem.W.keepIn (K33 p) (.ref 221) = true := by kernel_rfl
theorem lk_are_bounds : (K33 p).lookup 221 = some ⟨(oO (K33 p) 221).cls, (oO (K33 p) 221).dict, .func (PySem.W.fnOf "are_bounds" "are_bounds" (defArgs (top 28)) (defBody (top 28)) (defScope (top 28)) .none (fO (K33 p) 221).kwdefaults (fO (K33 p) 221).doc (fO (K33 p) 221).pyModule (fO (K33 p) 221).annotations (fO (K33 p) 221).code (fO (K33 p) 221).closureTuple), (oO (K33 p) 221).slots⟩ := by kernel_rfl
theorem cd_are_bounds : PySem.W.codeIn (K33 p) (fO (K33 p) 221).code "are_bounds" = true := by kernel_rfl
noncomputable abbrev fd_are_bounds (p : Params) : FuncData := PySem.W.fnOf "are_bounds" "are_bounds" (defArgs (top 28)) (defBody (top 28)) (defScope (top 28)) .none (fO (K33 p) 221).kwdefaults (fO (K33 p) 221).doc (fO (K33 p) 221).pyModule (fO (K33 p) 221).annotations (fO (K33 p) 221).code (fO (K33 p) 221).closureTuple
theorem fn_are_bounds : Fun (K33 p) "are_bounds" "are_bounds" (top 28) 221 (fd_are_bounds p) := ⟨⟨_, _, _, _, _, _, _, _, _, rfl, lk_are_bounds p, cd_are_bounds p⟩, kp_are_bounds p⟩
theorem bd_are_bounds : Binds (K33 p) (fd_are_bounds p) ["least", "most"] [] := (fn_are_bounds p).binds (ps := ["least", "most"]) fun _ _ _ _ _ _ us hl => match us, hl with | [_, _], _ => rfl
theorem kp_begins : PySem.W.keepIn (K33 p) (.ref 228) = true := by kernel_rfl
theorem lk_begins : (K33 p).lookup 228 = some ⟨(oO (K33 p) 228).cls, (oO (K33 p) 228).dict, .func (PySem.W.fnOf "begins" "begins" (defArgs (top 29)) (defBody (top 29)) (defScope (top 29)) .none (fO (K33 p) 228).kwdefaults (fO (K33 p) 228).doc (fO (K33 p) 228).pyModule (fO (K33 p) 228).annotations (fO (K33 p) 228).code (fO (K33 p) 228).closureTuple), (oO (K33 p) 228).slots⟩ := by kernel_rfl
theorem cd_begins : PySem.W.codeIn (K33 p) (fO (K33 p) 228).code "begins" = true := by kernel_rfl
noncomputable abbrev fd_begins (p : Params) : FuncData := PySem.W.fnOf "begins" "begins" (defArgs (top 29)) (defBody (top 29)) (defScope (top 29)) .none (fO (K33 p) 228).kwdefaults (fO (K33 p) 228).doc (fO (K33 p) 228).pyModule (fO (K33 p) 228).annotations (fO (K33 p) 228).code (fO (K33 p) 228).closureTuple
theorem fn_begins : Fun (K33 p) "begins" "begins" (top 29) 228 (fd_begins p) := ⟨⟨_, _, _, _, _, _, _, _, _, rfl, lk_begins p, cd_begins p⟩, kp_begins p⟩
theorem bd_begins : Binds (K33 p) (fd_begins p) ["value", "word", "many"] [] := (fn_begins p).binds (ps := ["value", "word", "many"]) fun _ _ _ _ _ _ us hl => match us, hl with | [_, _, _], _ => rfl
theorem kp_is_condition : PySem.W.keepIn (K33 p) (.ref 235) = true := by kernel_rfl
theorem lk_is_condition : (K33 p).lookup 235 = some ⟨(oO (K33 p) 235).cls, (oO (K33 p) 235).dict, .func (PySem.W.fnOf "is_condition" "is_condition" (defArgs (top 30)) (defBody (top 30)) (defScope (top 30)) .none (fO (K33 p) 235).kwdefaults (fO (K33 p) 235).doc (fO (K33 p) 235).pyModule (fO (K33 p) 235).annotations (fO (K33 p) 235).code (fO (K33 p) 235).closureTuple), (oO (K33 p) 235).slots⟩ := by kernel_rfl
theorem cd_is_condition : PySem.W.codeIn (K33 p) (fO (K33 p) 235).code "is_condition" = true := by kernel_rfl
noncomputable abbrev fd_is_condition (p : Params) : FuncData := PySem.W.fnOf "is_condition" "is_condition" (defArgs (top 30)) (defBody (top 30)) (defScope (top 30)) .none (fO (K33 p) 235).kwdefaults (fO (K33 p) 235).doc (fO (K33 p) 235).pyModule (fO (K33 p) 235).annotations (fO (K33 p) 235).code (fO (K33 p) 235).closureTuple
theorem fn_is_condition : Fun (K33 p) "is_condition" "is_condition" (top 30) 235 (fd_is_condition p) := ⟨⟨_, _, _, _, _, _, _, _, _, rfl, lk_is_condition p, cd_is_condition p⟩, kp_is_condition p⟩
theorem bd_is_condition : Binds (K33 p) (fd_is_condition p) ["base", "value"] [] := (fn_is_condition p).binds (ps := ["base", "value"]) fun _ _ _ _ _ _ us hl => match us, hl with | [_, _], _ => rfl
theorem kp_is_keep : PySem.W.keepIn (K33 p) (.ref 242) = true := by kernel_rfl
theorem lk_is_keep : (K33 p).lookup 242 = some ⟨(oO (K33 p) 242).cls, (oO (K33 p) 242).dict, .func (PySem.W.fnOf "is_keep" "is_keep" (defArgs (top 31)) (defBody (top 31)) (defScope (top 31)) .none (fO (K33 p) 242).kwdefaults (fO (K33 p) 242).doc (fO (K33 p) 242).pyModule (fO (K33 p) 242).annotations (fO (K33 p) 242).code (fO (K33 p) 242).closureTuple), (oO (K33 p) 242).slots⟩ := by kernel_rfl
theorem cd_is_keep : PySem.W.codeIn (K33 p) (fO (K33 p) 242).code "is_keep" = true := by kernel_rfl
noncomputable abbrev fd_is_keep (p : Params) : FuncData := PySem.W.fnOf "is_keep" "is_keep" (defArgs (top 31)) (defBody (top 31)) (defScope (top 31)) .none (fO (K33 p) 242).kwdefaults (fO (K33 p) 242).doc (fO (K33 p) 242).pyModule (fO (K33 p) 242).annotations (fO (K33 p) 242).code (fO (K33 p) 242).closureTuple
theorem fn_is_keep : Fun (K33 p) "is_keep" "is_keep" (top 31) 242 (fd_is_keep p) := ⟨⟨_, _, _, _, _, _, _, _, _, rfl, lk_is_keep p, cd_is_keep p⟩, kp_is_keep p⟩
theorem bd_is_keep : Binds (K33 p) (fd_is_keep p) ["value"] [] := (fn_is_keep p).binds (ps := ["value"]) fun _ _ _ _ _ _ us hl => match us, hl with | [_], _ => rfl
theorem kp_is_rule : PySem.W.keepIn (K33 p) (.ref 247) = true := by kernel_rfl
theorem lk_is_rule : (K33 p).lookup 247 = some ⟨(oO (K33 p) 247).cls, (oO (K33 p) 247).dict, .func (PySem.W.fnOf "is_rule" "is_rule" (defArgs (top 32)) (defBody (top 32)) (defScope (top 32)) .none (fO (K33 p) 247).kwdefaults (fO (K33 p) 247).doc (fO (K33 p) 247).pyModule (fO (K33 p) 247).annotations (fO (K33 p) 247).code (fO (K33 p) 247).closureTuple), (oO (K33 p) 247).slots⟩ := by kernel_rfl
theorem cd_is_rule : PySem.W.codeIn (K33 p) (fO (K33 p) 247).code "is_rule" = true := by kernel_rfl
noncomputable abbrev fd_is_rule (p : Params) : FuncData := PySem.W.fnOf "is_rule" "is_rule" (defArgs (top 32)) (defBody (top 32)) (defScope (top 32)) .none (fO (K33 p) 247).kwdefaults (fO (K33 p) 247).doc (fO (K33 p) 247).pyModule (fO (K33 p) 247).annotations (fO (K33 p) 247).code (fO (K33 p) 247).closureTuple
theorem fn_is_rule : Fun (K33 p) "is_rule" "is_rule" (top 32) 247 (fd_is_rule p) := ⟨⟨_, _, _, _, _, _, _, _, _, rfl, lk_is_rule p, cd_is_rule p⟩, kp_is_rule p⟩
theorem bd_is_rule : Binds (K33 p) (fd_is_rule p) ["base", "value"] [] := (fn_is_rule p).binds (ps := ["base", "value"]) fun _ _ _ _ _ _ us hl => match us, hl with | [_, _], _ => rfl
theorem kp_need_rules : PySem.W.keepIn (K33 p) (.ref 254) = true := by kernel_rfl
theorem lk_need_rules : (K33 p).lookup 254 = some ⟨(oO (K33 p) 254).cls, (oO (K33 p) 254).dict, .func (PySem.W.fnOf "need_rules" "need_rules" (defArgs (top 33)) (defBody (top 33)) (defScope (top 33)) .none (fO (K33 p) 254).kwdefaults (fO (K33 p) 254).doc (fO (K33 p) 254).pyModule (fO (K33 p) 254).annotations (fO (K33 p) 254).code (fO (K33 p) 254).closureTuple), (oO (K33 p) 254).slots⟩ := by kernel_rfl
theorem cd_need_rules : PySem.W.codeIn (K33 p) (fO (K33 p) 254).code "need_rules" = true := by kernel_rfl
noncomputable abbrev fd_need_rules (p : Params) : FuncData := PySem.W.fnOf "need_rules" "need_rules" (defArgs (top 33)) (defBody (top 33)) (defScope (top 33)) .none (fO (K33 p) 254).kwdefaults (fO (K33 p) 254).doc (fO (K33 p) 254).pyModule (fO (K33 p) 254).annotations (fO (K33 p) 254).code (fO (K33 p) 254).closureTuple
theorem fn_need_rules : Fun (K33 p) "need_rules" "need_rules" (top 33) 254 (fd_need_rules p) := ⟨⟨_, _, _, _, _, _, _, _, _, rfl, lk_need_rules p, cd_need_rules p⟩, kp_need_rules p⟩
theorem bd_need_rules : Binds (K33 p) (fd_need_rules p) ["base", "rules"] [] := (fn_need_rules p).binds (ps := ["base", "rules"]) fun _ _ _ _ _ _ us hl => match us, hl with | [_, _], _ => rfl
theorem kp_need_place : PySem.W.keepIn (K33 p) (.ref 261) = true := by kernel_rfl
theorem lk_need_place : (K33 p).lookup 261 = some ⟨(oO (K33 p) 261).cls, (oO (K33 p) 261).dict, .func (PySem.W.fnOf "need_place" "need_place" (defArgs (top 34)) (defBody (top 34)) (defScope (top 34)) .none (fO (K33 p) 261).kwdefaults (fO (K33 p) 261).doc (fO (K33 p) 261).pyModule (fO (K33 p) 261).annotations (fO (K33 p) 261).code (fO (K33 p) 261).closureTuple), (oO (K33 p) 261).slots⟩ := by kernel_rfl
theorem cd_need_place : PySem.W.codeIn (K33 p) (fO (K33 p) 261).code "need_place" = true := by kernel_rfl
noncomputable abbrev fd_need_place (p : Params) : FuncData := PySem.W.fnOf "need_place" "need_place" (defArgs (top 34)) (defBody (top 34)) (defScope (top 34)) .none (fO (K33 p) 261).kwdefaults (fO (K33 p) 261).doc (fO (K33 p) 261).pyModule (fO (K33 p) 261).annotations (fO (K33 p) 261).code (fO (K33 p) 261).closureTuple
theorem fn_need_place : Fun (K33 p) "need_place" "need_place" (top 34) 261 (fd_need_place p) := ⟨⟨_, _, _, _, _, _, _, _, _, rfl, lk_need_place p, cd_need_place p⟩, kp_need_place p⟩
theorem bd_need_place : Binds (K33 p) (fd_need_place p) ["number", "many"] [] := (fn_need_place p).binds (ps := ["number", "many"]) fun _ _ _ _ _ _ us hl => match us, hl with | [_, _], _ => rfl
theorem kp_plain_rule : PySem.W.keepIn (K33 p) (.ref 266) = true := by kernel_rfl
theorem lk_plain_rule : (K33 p).lookup 266 = some ⟨(oO (K33 p) 266).cls, (oO (K33 p) 266).dict, .func (PySem.W.fnOf "plain_rule" "plain_rule" (defArgs (top 35)) (defBody (top 35)) (defScope (top 35)) .none (fO (K33 p) 266).kwdefaults (fO (K33 p) 266).doc (fO (K33 p) 266).pyModule (fO (K33 p) 266).annotations (fO (K33 p) 266).code (fO (K33 p) 266).closureTuple), (oO (K33 p) 266).slots⟩ := by kernel_rfl
theorem cd_plain_rule : PySem.W.codeIn (K33 p) (fO (K33 p) 266).code "plain_rule" = true := by kernel_rfl
noncomputable abbrev fd_plain_rule (p : Params) : FuncData := PySem.W.fnOf "plain_rule" "plain_rule" (defArgs (top 35)) (defBody (top 35)) (defScope (top 35)) .none (fO (K33 p) 266).kwdefaults (fO (K33 p) 266).doc (fO (K33 p) 266).pyModule (fO (K33 p) 266).annotations (fO (K33 p) 266).code (fO (K33 p) 266).closureTuple
theorem fn_plain_rule : Fun (K33 p) "plain_rule" "plain_rule" (top 35) 266 (fd_plain_rule p) := ⟨⟨_, _, _, _, _, _, _, _, _, rfl, lk_plain_rule p, cd_plain_rule p⟩, kp_plain_rule p⟩
theorem bd_plain_rule : Binds (K33 p) (fd_plain_rule p) ["rule"] [] := (fn_plain_rule p).binds (ps := ["rule"]) fun _ _ _ _ _ _ us hl => match us, hl with | [_], _ => rfl
theorem kp_facts_of : PySem.W.keepIn (K33 p) (.ref 273) = true := by kernel_rfl
theorem lk_facts_of : (K33 p).lookup 273 = some ⟨(oO (K33 p) 273).cls, (oO (K33 p) 273).dict, .func (PySem.W.fnOf "facts_of" "facts_of" (defArgs (top 36)) (defBody (top 36)) (defScope (top 36)) .none (fO (K33 p) 273).kwdefaults (fO (K33 p) 273).doc (fO (K33 p) 273).pyModule (fO (K33 p) 273).annotations (fO (K33 p) 273).code (fO (K33 p) 273).closureTuple), (oO (K33 p) 273).slots⟩ := by kernel_rfl
theorem cd_facts_of : PySem.W.codeIn (K33 p) (fO (K33 p) 273).code "facts_of" = true := by kernel_rfl
noncomputable abbrev fd_facts_of (p : Params) : FuncData := PySem.W.fnOf "facts_of" "facts_of" (defArgs (top 36)) (defBody (top 36)) (defScope (top 36)) .none (fO (K33 p) 273).kwdefaults (fO (K33 p) 273).doc (fO (K33 p) 273).pyModule (fO (K33 p) 273).annotations (fO (K33 p) 273).code (fO (K33 p) 273).closureTuple
theorem fn_facts_of : Fun (K33 p) "facts_of" "facts_of" (top 36) 273 (fd_facts_of p) := ⟨⟨_, _, _, _, _, _, _, _, _, rfl, lk_facts_of p, cd_facts_of p⟩, kp_facts_of p⟩
theorem bd_facts_of : Binds (K33 p) (fd_facts_of p) ["base", "first", "second"] [] := (fn_facts_of p).binds (ps := ["base", "first", "second"]) fun _ _ _ _ _ _ us hl => match us, hl with | [_, _, _], _ => rfl
theorem kp_holds : PySem.W.keepIn (K33 p) (.ref 280) = true := by kernel_rfl
theorem lk_holds : (K33 p).lookup 280 = some ⟨(oO (K33 p) 280).cls, (oO (K33 p) 280).dict, .func (PySem.W.fnOf "holds" "holds" (defArgs (top 37)) (defBody (top 37)) (defScope (top 37)) .none (fO (K33 p) 280).kwdefaults (fO (K33 p) 280).doc (fO (K33 p) 280).pyModule (fO (K33 p) 280).annotations (fO (K33 p) 280).code (fO (K33 p) 280).closureTuple), (oO (K33 p) 280).slots⟩ := by kernel_rfl
theorem cd_holds : PySem.W.codeIn (K33 p) (fO (K33 p) 280).code "holds" = true := by kernel_rfl
noncomputable abbrev fd_holds (p : Params) : FuncData := PySem.W.fnOf "holds" "holds" (defArgs (top 37)) (defBody (top 37)) (defScope (top 37)) .none (fO (K33 p) 280).kwdefaults (fO (K33 p) 280).doc (fO (K33 p) 280).pyModule (fO (K33 p) 280).annotations (fO (K33 p) 280).code (fO (K33 p) 280).closureTuple
theorem fn_holds : Fun (K33 p) "holds" "holds" (top 37) 280 (fd_holds p) := ⟨⟨_, _, _, _, _, _, _, _, _, rfl, lk_holds p, cd_holds p⟩, kp_holds p⟩
theorem bd_holds : Binds (K33 p) (fd_holds p) ["condition", "facts"] [] := (fn_holds p).binds (ps := ["condition", "facts"]) fun _ _ _ _ _ _ us hl => match us, hl with | [_, _], _ => rfl
theorem kp_first_applying : PySem.W.keepIn (K33 p) (.ref 285) = true := by kernel_rfl
theorem lk_first_applying : (K33 p).lookup 285 = some ⟨(oO (K33 p) 285).cls, (oO (K33 p) 285).dict, .func (PySem.W.fnOf "first_applying" "first_applying" (defArgs (top 38)) (defBody (top 38)) (defScope (top 38)) .none (fO (K33 p) 285).kwdefaults (fO (K33 p) 285).doc (fO (K33 p) 285).pyModule (fO (K33 p) 285).annotations (fO (K33 p) 285).code (fO (K33 p) 285).closureTuple), (oO (K33 p) 285).slots⟩ := by kernel_rfl
theorem cd_first_applying : PySem.W.codeIn (K33 p) (fO (K33 p) 285).code "first_applying" = true := by kernel_rfl
noncomputable abbrev fd_first_applying (p : Params) : FuncData := PySem.W.fnOf "first_applying" "first_applying" (defArgs (top 38)) (defBody (top 38)) (defScope (top 38)) .none (fO (K33 p) 285).kwdefaults (fO (K33 p) 285).doc (fO (K33 p) 285).pyModule (fO (K33 p) 285).annotations (fO (K33 p) 285).code (fO (K33 p) 285).closureTuple
theorem fn_first_applying : Fun (K33 p) "first_applying" "first_applying" (top 38) 285 (fd_first_applying p) := ⟨⟨_, _, _, _, _, _, _, _, _, rfl, lk_first_applying p, cd_first_applying p⟩, kp_first_applying p⟩
theorem bd_first_applying : Binds (K33 p) (fd_first_applying p) ["rules", "facts"] [] := (fn_first_applying p).binds (ps := ["rules", "facts"]) fun _ _ _ _ _ _ us hl => match us, hl with | [_, _], _ => rfl
theorem kp_many_kept : PySem.W.keepIn (K33 p) (.ref 292) = true := by kernel_rfl
theorem lk_many_kept : (K33 p).lookup 292 = some ⟨(oO (K33 p) 292).cls, (oO (K33 p) 292).dict, .func (PySem.W.fnOf "many_kept" "many_kept" (defArgs (top 39)) (defBody (top 39)) (defScope (top 39)) .none (fO (K33 p) 292).kwdefaults (fO (K33 p) 292).doc (fO (K33 p) 292).pyModule (fO (K33 p) 292).annotations (fO (K33 p) 292).code (fO (K33 p) 292).closureTuple), (oO (K33 p) 292).slots⟩ := by kernel_rfl
theorem cd_many_kept : PySem.W.codeIn (K33 p) (fO (K33 p) 292).code "many_kept" = true := by kernel_rfl
noncomputable abbrev fd_many_kept (p : Params) : FuncData := PySem.W.fnOf "many_kept" "many_kept" (defArgs (top 39)) (defBody (top 39)) (defScope (top 39)) .none (fO (K33 p) 292).kwdefaults (fO (K33 p) 292).doc (fO (K33 p) 292).pyModule (fO (K33 p) 292).annotations (fO (K33 p) 292).code (fO (K33 p) 292).closureTuple
theorem fn_many_kept : Fun (K33 p) "many_kept" "many_kept" (top 39) 292 (fd_many_kept p) := ⟨⟨_, _, _, _, _, _, _, _, _, rfl, lk_many_kept p, cd_many_kept p⟩, kp_many_kept p⟩
theorem bd_many_kept : Binds (K33 p) (fd_many_kept p) ["keep", "facts"] [] := (fn_many_kept p).binds (ps := ["keep", "facts"]) fun _ _ _ _ _ _ us hl => match us, hl with | [_, _], _ => rfl
theorem kp_written : PySem.W.keepIn (K33 p) (.ref 299) = true := by kernel_rfl
theorem lk_written : (K33 p).lookup 299 = some ⟨(oO (K33 p) 299).cls, (oO (K33 p) 299).dict, .func (PySem.W.fnOf "written" "written" (defArgs (top 40)) (defBody (top 40)) (defScope (top 40)) .none (fO (K33 p) 299).kwdefaults (fO (K33 p) 299).doc (fO (K33 p) 299).pyModule (fO (K33 p) 299).annotations (fO (K33 p) 299).code (fO (K33 p) 299).closureTuple), (oO (K33 p) 299).slots⟩ := by kernel_rfl
theorem cd_written : PySem.W.codeIn (K33 p) (fO (K33 p) 299).code "written" = true := by kernel_rfl
noncomputable abbrev fd_written (p : Params) : FuncData := PySem.W.fnOf "written" "written" (defArgs (top 40)) (defBody (top 40)) (defScope (top 40)) .none (fO (K33 p) 299).kwdefaults (fO (K33 p) 299).doc (fO (K33 p) 299).pyModule (fO (K33 p) 299).annotations (fO (K33 p) 299).code (fO (K33 p) 299).closureTuple
theorem fn_written : Fun (K33 p) "written" "written" (top 40) 299 (fd_written p) := ⟨⟨_, _, _, _, _, _, _, _, _, rfl, lk_written p, cd_written p⟩, kp_written p⟩
theorem bd_written : Binds (K33 p) (fd_written p) ["rules", "facts"] [] := (fn_written p).binds (ps := ["rules", "facts"]) fun _ _ _ _ _ _ us hl => match us, hl with | [_, _], _ => rfl
theorem kp_words_of : PySem.W.keepIn (K33 p) (.ref 433) = true := by kernel_rfl
theorem lk_words_of : (K33 p).lookup 433 = some ⟨(oO (K33 p) 433).cls, (oO (K33 p) 433).dict, .func (PySem.W.fnOf "words_of" "words_of" (defArgs (top 44)) (defBody (top 44)) (defScope (top 44)) .none (fO (K33 p) 433).kwdefaults (fO (K33 p) 433).doc (fO (K33 p) 433).pyModule (fO (K33 p) 433).annotations (fO (K33 p) 433).code (fO (K33 p) 433).closureTuple), (oO (K33 p) 433).slots⟩ := by kernel_rfl
theorem cd_words_of : PySem.W.codeIn (K33 p) (fO (K33 p) 433).code "words_of" = true := by kernel_rfl
noncomputable abbrev fd_words_of (p : Params) : FuncData := PySem.W.fnOf "words_of" "words_of" (defArgs (top 44)) (defBody (top 44)) (defScope (top 44)) .none (fO (K33 p) 433).kwdefaults (fO (K33 p) 433).doc (fO (K33 p) 433).pyModule (fO (K33 p) 433).annotations (fO (K33 p) 433).code (fO (K33 p) 433).closureTuple
theorem fn_words_of : Fun (K33 p) "words_of" "words_of" (top 44) 433 (fd_words_of p) := ⟨⟨_, _, _, _, _, _, _, _, _, rfl, lk_words_of p, cd_words_of p⟩, kp_words_of p⟩
theorem bd_words_of : Binds (K33 p) (fd_words_of p) ["part"] [] := (fn_words_of p).binds (ps := ["part"]) fun _ _ _ _ _ _ us hl => match us, hl with | [_], _ => rfl
theorem kp_rule_text : PySem.W.keepIn (K33 p) (.ref 438) = true := by kernel_rfl
theorem lk_rule_text : (K33 p).lookup 438 = some ⟨(oO (K33 p) 438).cls, (oO (K33 p) 438).dict, .func (PySem.W.fnOf "rule_text" "rule_text" (defArgs (top 45)) (defBody (top 45)) (defScope (top 45)) .none (fO (K33 p) 438).kwdefaults (fO (K33 p) 438).doc (fO (K33 p) 438).pyModule (fO (K33 p) 438).annotations (fO (K33 p) 438).code (fO (K33 p) 438).closureTuple), (oO (K33 p) 438).slots⟩ := by kernel_rfl
theorem cd_rule_text : PySem.W.codeIn (K33 p) (fO (K33 p) 438).code "rule_text" = true := by kernel_rfl
noncomputable abbrev fd_rule_text (p : Params) : FuncData := PySem.W.fnOf "rule_text" "rule_text" (defArgs (top 45)) (defBody (top 45)) (defScope (top 45)) .none (fO (K33 p) 438).kwdefaults (fO (K33 p) 438).doc (fO (K33 p) 438).pyModule (fO (K33 p) 438).annotations (fO (K33 p) 438).code (fO (K33 p) 438).closureTuple
theorem fn_rule_text : Fun (K33 p) "rule_text" "rule_text" (top 45) 438 (fd_rule_text p) := ⟨⟨_, _, _, _, _, _, _, _, _, rfl, lk_rule_text p, cd_rule_text p⟩, kp_rule_text p⟩
theorem bd_rule_text : Binds (K33 p) (fd_rule_text p) ["rule"] [] := (fn_rule_text p).binds (ps := ["rule"]) fun _ _ _ _ _ _ us hl => match us, hl with | [_], _ => rfl
theorem kp_style_text : PySem.W.keepIn (K33 p) (.ref 443) = true := by kernel_rfl
theorem lk_style_text : (K33 p).lookup 443 = some ⟨(oO (K33 p) 443).cls, (oO (K33 p) 443).dict, .func (PySem.W.fnOf "style_text" "style_text" (defArgs (top 46)) (defBody (top 46)) (defScope (top 46)) .none (fO (K33 p) 443).kwdefaults (fO (K33 p) 443).doc (fO (K33 p) 443).pyModule (fO (K33 p) 443).annotations (fO (K33 p) 443).code (fO (K33 p) 443).closureTuple), (oO (K33 p) 443).slots⟩ := by kernel_rfl
theorem cd_style_text : PySem.W.codeIn (K33 p) (fO (K33 p) 443).code "style_text" = true := by kernel_rfl
noncomputable abbrev fd_style_text (p : Params) : FuncData := PySem.W.fnOf "style_text" "style_text" (defArgs (top 46)) (defBody (top 46)) (defScope (top 46)) .none (fO (K33 p) 443).kwdefaults (fO (K33 p) 443).doc (fO (K33 p) 443).pyModule (fO (K33 p) 443).annotations (fO (K33 p) 443).code (fO (K33 p) 443).closureTuple
theorem fn_style_text : Fun (K33 p) "style_text" "style_text" (top 46) 443 (fd_style_text p) := ⟨⟨_, _, _, _, _, _, _, _, _, rfl, lk_style_text p, cd_style_text p⟩, kp_style_text p⟩
theorem bd_style_text : Binds (K33 p) (fd_style_text p) ["style"] [] := (fn_style_text p).binds (ps := ["style"]) fun _ _ _ _ _ _ us hl => match us, hl with | [_], _ => rfl
theorem kp_numerals : PySem.W.keepIn (K33 p) (.ref 448) = true := by kernel_rfl
theorem lk_numerals : (K33 p).lookup 448 = some ⟨(oO (K33 p) 448).cls, (oO (K33 p) 448).dict, .func (PySem.W.fnOf "numerals" "numerals" (defArgs (top 47)) (defBody (top 47)) (defScope (top 47)) .none (fO (K33 p) 448).kwdefaults (fO (K33 p) 448).doc (fO (K33 p) 448).pyModule (fO (K33 p) 448).annotations (fO (K33 p) 448).code (fO (K33 p) 448).closureTuple), (oO (K33 p) 448).slots⟩ := by kernel_rfl
theorem cd_numerals : PySem.W.codeIn (K33 p) (fO (K33 p) 448).code "numerals" = true := by kernel_rfl
noncomputable abbrev fd_numerals (p : Params) : FuncData := PySem.W.fnOf "numerals" "numerals" (defArgs (top 47)) (defBody (top 47)) (defScope (top 47)) .none (fO (K33 p) 448).kwdefaults (fO (K33 p) 448).doc (fO (K33 p) 448).pyModule (fO (K33 p) 448).annotations (fO (K33 p) 448).code (fO (K33 p) 448).closureTuple
theorem fn_numerals : Fun (K33 p) "numerals" "numerals" (top 47) 448 (fd_numerals p) := ⟨⟨_, _, _, _, _, _, _, _, _, rfl, lk_numerals p, cd_numerals p⟩, kp_numerals p⟩
theorem bd_numerals : Binds (K33 p) (fd_numerals p) ["least", "most"] [] := (fn_numerals p).binds (ps := ["least", "most"]) fun _ _ _ _ _ _ us hl => match us, hl with | [_, _], _ => rfl
theorem kp_endings : PySem.W.keepIn (K33 p) (.ref 453) = true := by kernel_rfl
theorem lk_endings : (K33 p).lookup 453 = some ⟨(oO (K33 p) 453).cls, (oO (K33 p) 453).dict, .func (PySem.W.fnOf "endings" "endings" (defArgs (top 48)) (defBody (top 48)) (defScope (top 48)) .none (fO (K33 p) 453).kwdefaults (fO (K33 p) 453).doc (fO (K33 p) 453).pyModule (fO (K33 p) 453).annotations (fO (K33 p) 453).code (fO (K33 p) 453).closureTuple), (oO (K33 p) 453).slots⟩ := by kernel_rfl
theorem cd_endings : PySem.W.codeIn (K33 p) (fO (K33 p) 453).code "endings" = true := by kernel_rfl
noncomputable abbrev fd_endings (p : Params) : FuncData := PySem.W.fnOf "endings" "endings" (defArgs (top 48)) (defBody (top 48)) (defScope (top 48)) .none (fO (K33 p) 453).kwdefaults (fO (K33 p) 453).doc (fO (K33 p) 453).pyModule (fO (K33 p) 453).annotations (fO (K33 p) 453).code (fO (K33 p) 453).closureTuple
theorem fn_endings : Fun (K33 p) "endings" "endings" (top 48) 453 (fd_endings p) := ⟨⟨_, _, _, _, _, _, _, _, _, rfl, lk_endings p, cd_endings p⟩, kp_endings p⟩
theorem bd_endings : Binds (K33 p) (fd_endings p) ["base"] [] := (fn_endings p).binds (ps := ["base"]) fun _ _ _ _ _ _ us hl => match us, hl with | [_], _ => rfl
theorem kp_read_base : PySem.W.keepIn (K33 p) (.ref 502) = true := by kernel_rfl
theorem lk_read_base : (K33 p).lookup 502 = some ⟨(oO (K33 p) 502).cls, (oO (K33 p) 502).dict, .func (PySem.W.fnOf "read_base" "read_base" (defArgs (top 50)) (defBody (top 50)) (defScope (top 50)) .none (fO (K33 p) 502).kwdefaults (fO (K33 p) 502).doc (fO (K33 p) 502).pyModule (fO (K33 p) 502).annotations (fO (K33 p) 502).code (fO (K33 p) 502).closureTuple), (oO (K33 p) 502).slots⟩ := by kernel_rfl
theorem cd_read_base : PySem.W.codeIn (K33 p) (fO (K33 p) 502).code "read_base" = true := by kernel_rfl
noncomputable abbrev fd_read_base (p : Params) : FuncData := PySem.W.fnOf "read_base" "read_base" (defArgs (top 50)) (defBody (top 50)) (defScope (top 50)) .none (fO (K33 p) 502).kwdefaults (fO (K33 p) 502).doc (fO (K33 p) 502).pyModule (fO (K33 p) 502).annotations (fO (K33 p) 502).code (fO (K33 p) 502).closureTuple
theorem fn_read_base : Fun (K33 p) "read_base" "read_base" (top 50) 502 (fd_read_base p) := ⟨⟨_, _, _, _, _, _, _, _, _, rfl, lk_read_base p, cd_read_base p⟩, kp_read_base p⟩
theorem bd_read_base : Binds (K33 p) (fd_read_base p) ["words"] [] := (fn_read_base p).binds (ps := ["words"]) fun _ _ _ _ _ _ us hl => match us, hl with | [_], _ => rfl
theorem kp_read_keep : PySem.W.keepIn (K33 p) (.ref 509) = true := by kernel_rfl
theorem lk_read_keep : (K33 p).lookup 509 = some ⟨(oO (K33 p) 509).cls, (oO (K33 p) 509).dict, .func (PySem.W.fnOf "read_keep" "read_keep" (defArgs (top 51)) (defBody (top 51)) (defScope (top 51)) .none (fO (K33 p) 509).kwdefaults (fO (K33 p) 509).doc (fO (K33 p) 509).pyModule (fO (K33 p) 509).annotations (fO (K33 p) 509).code (fO (K33 p) 509).closureTuple), (oO (K33 p) 509).slots⟩ := by kernel_rfl
theorem cd_read_keep : PySem.W.codeIn (K33 p) (fO (K33 p) 509).code "read_keep" = true := by kernel_rfl
noncomputable abbrev fd_read_keep (p : Params) : FuncData := PySem.W.fnOf "read_keep" "read_keep" (defArgs (top 51)) (defBody (top 51)) (defScope (top 51)) .none (fO (K33 p) 509).kwdefaults (fO (K33 p) 509).doc (fO (K33 p) 509).pyModule (fO (K33 p) 509).annotations (fO (K33 p) 509).code (fO (K33 p) 509).closureTuple
theorem fn_read_keep : Fun (K33 p) "read_keep" "read_keep" (top 51) 509 (fd_read_keep p) := ⟨⟨_, _, _, _, _, _, _, _, _, rfl, lk_read_keep p, cd_read_keep p⟩, kp_read_keep p⟩
theorem bd_read_keep : Binds (K33 p) (fd_read_keep p) ["words"] [] := (fn_read_keep p).binds (ps := ["words"]) fun _ _ _ _ _ _ us hl => match us, hl with | [_], _ => rfl
theorem kp_read_condition : PySem.W.keepIn (K33 p) (.ref 516) = true := by kernel_rfl
theorem lk_read_condition : (K33 p).lookup 516 = some ⟨(oO (K33 p) 516).cls, (oO (K33 p) 516).dict, .func (PySem.W.fnOf "read_condition" "read_condition" (defArgs (top 52)) (defBody (top 52)) (defScope (top 52)) .none (fO (K33 p) 516).kwdefaults (fO (K33 p) 516).doc (fO (K33 p) 516).pyModule (fO (K33 p) 516).annotations (fO (K33 p) 516).code (fO (K33 p) 516).closureTuple), (oO (K33 p) 516).slots⟩ := by kernel_rfl
theorem cd_read_condition : PySem.W.codeIn (K33 p) (fO (K33 p) 516).code "read_condition" = true := by kernel_rfl
noncomputable abbrev fd_read_condition (p : Params) : FuncData := PySem.W.fnOf "read_condition" "read_condition" (defArgs (top 52)) (defBody (top 52)) (defScope (top 52)) .none (fO (K33 p) 516).kwdefaults (fO (K33 p) 516).doc (fO (K33 p) 516).pyModule (fO (K33 p) 516).annotations (fO (K33 p) 516).code (fO (K33 p) 516).closureTuple
theorem fn_read_condition : Fun (K33 p) "read_condition" "read_condition" (top 52) 516 (fd_read_condition p) := ⟨⟨_, _, _, _, _, _, _, _, _, rfl, lk_read_condition p, cd_read_condition p⟩, kp_read_condition p⟩
theorem bd_read_condition : Binds (K33 p) (fd_read_condition p) ["base", "words"] [] := (fn_read_condition p).binds (ps := ["base", "words"]) fun _ _ _ _ _ _ us hl => match us, hl with | [_, _], _ => rfl
theorem kp_read_rule : PySem.W.keepIn (K33 p) (.ref 523) = true := by kernel_rfl
theorem lk_read_rule : (K33 p).lookup 523 = some ⟨(oO (K33 p) 523).cls, (oO (K33 p) 523).dict, .func (PySem.W.fnOf "read_rule" "read_rule" (defArgs (top 53)) (defBody (top 53)) (defScope (top 53)) .none (fO (K33 p) 523).kwdefaults (fO (K33 p) 523).doc (fO (K33 p) 523).pyModule (fO (K33 p) 523).annotations (fO (K33 p) 523).code (fO (K33 p) 523).closureTuple), (oO (K33 p) 523).slots⟩ := by kernel_rfl
theorem cd_read_rule : PySem.W.codeIn (K33 p) (fO (K33 p) 523).code "read_rule" = true := by kernel_rfl
noncomputable abbrev fd_read_rule (p : Params) : FuncData := PySem.W.fnOf "read_rule" "read_rule" (defArgs (top 53)) (defBody (top 53)) (defScope (top 53)) .none (fO (K33 p) 523).kwdefaults (fO (K33 p) 523).doc (fO (K33 p) 523).pyModule (fO (K33 p) 523).annotations (fO (K33 p) 523).code (fO (K33 p) 523).closureTuple
theorem fn_read_rule : Fun (K33 p) "read_rule" "read_rule" (top 53) 523 (fd_read_rule p) := ⟨⟨_, _, _, _, _, _, _, _, _, rfl, lk_read_rule p, cd_read_rule p⟩, kp_read_rule p⟩
theorem bd_read_rule : Binds (K33 p) (fd_read_rule p) ["base", "words"] [] := (fn_read_rule p).binds (ps := ["base", "words"]) fun _ _ _ _ _ _ us hl => match us, hl with | [_, _], _ => rfl
theorem kp_read_style : PySem.W.keepIn (K33 p) (.ref 528) = true := by kernel_rfl
theorem lk_read_style : (K33 p).lookup 528 = some ⟨(oO (K33 p) 528).cls, (oO (K33 p) 528).dict, .func (PySem.W.fnOf "read_style" "read_style" (defArgs (top 54)) (defBody (top 54)) (defScope (top 54)) .none (fO (K33 p) 528).kwdefaults (fO (K33 p) 528).doc (fO (K33 p) 528).pyModule (fO (K33 p) 528).annotations (fO (K33 p) 528).code (fO (K33 p) 528).closureTuple), (oO (K33 p) 528).slots⟩ := by kernel_rfl
theorem cd_read_style : PySem.W.codeIn (K33 p) (fO (K33 p) 528).code "read_style" = true := by kernel_rfl
noncomputable abbrev fd_read_style (p : Params) : FuncData := PySem.W.fnOf "read_style" "read_style" (defArgs (top 54)) (defBody (top 54)) (defScope (top 54)) .none (fO (K33 p) 528).kwdefaults (fO (K33 p) 528).doc (fO (K33 p) 528).pyModule (fO (K33 p) 528).annotations (fO (K33 p) 528).code (fO (K33 p) 528).closureTuple
theorem fn_read_style : Fun (K33 p) "read_style" "read_style" (top 54) 528 (fd_read_style p) := ⟨⟨_, _, _, _, _, _, _, _, _, rfl, lk_read_style p, cd_read_style p⟩, kp_read_style p⟩
theorem bd_read_style : Binds (K33 p) (fd_read_style p) ["text"] [] := (fn_read_style p).binds (ps := ["text"]) fun _ _ _ _ _ _ us hl => match us, hl with | [_], _ => rfl
theorem kp_l_mixed : PySem.W.keepIn (K33 p) (.ref 535) = true := by kernel_rfl
theorem lk_l_mixed : (K33 p).lookup 535 = some ⟨(oO (K33 p) 535).cls, (oO (K33 p) 535).dict, .func (PySem.W.fnOf "_law_mixed" "_law_mixed" (defArgs (top 56)) (defBody (top 56)) (defScope (top 56)) .none (fO (K33 p) 535).kwdefaults (fO (K33 p) 535).doc (fO (K33 p) 535).pyModule (fO (K33 p) 535).annotations (fO (K33 p) 535).code (fO (K33 p) 535).closureTuple), (oO (K33 p) 535).slots⟩ := by kernel_rfl
theorem cd_l_mixed : PySem.W.codeIn (K33 p) (fO (K33 p) 535).code "_law_mixed" = true := by kernel_rfl
noncomputable abbrev fd_l_mixed (p : Params) : FuncData := PySem.W.fnOf "_law_mixed" "_law_mixed" (defArgs (top 56)) (defBody (top 56)) (defScope (top 56)) .none (fO (K33 p) 535).kwdefaults (fO (K33 p) 535).doc (fO (K33 p) 535).pyModule (fO (K33 p) 535).annotations (fO (K33 p) 535).code (fO (K33 p) 535).closureTuple
theorem fn_l_mixed : Fun (K33 p) "_law_mixed" "_law_mixed" (top 56) 535 (fd_l_mixed p) := ⟨⟨_, _, _, _, _, _, _, _, _, rfl, lk_l_mixed p, cd_l_mixed p⟩, kp_l_mixed p⟩
theorem bd_l_mixed : Binds (K33 p) (fd_l_mixed p) ["cell", "k"] [] := (fn_l_mixed p).binds (ps := ["cell", "k"]) fun _ _ _ _ _ _ us hl => match us, hl with | [_, _], _ => rfl
theorem kp_l_begin : PySem.W.keepIn (K33 p) (.ref 540) = true := by kernel_rfl
theorem lk_l_begin : (K33 p).lookup 540 = some ⟨(oO (K33 p) 540).cls, (oO (K33 p) 540).dict, .func (PySem.W.fnOf "_law_begin" "_law_begin" (defArgs (top 57)) (defBody (top 57)) (defScope (top 57)) .none (fO (K33 p) 540).kwdefaults (fO (K33 p) 540).doc (fO (K33 p) 540).pyModule (fO (K33 p) 540).annotations (fO (K33 p) 540).code (fO (K33 p) 540).closureTuple), (oO (K33 p) 540).slots⟩ := by kernel_rfl
theorem cd_l_begin : PySem.W.codeIn (K33 p) (fO (K33 p) 540).code "_law_begin" = true := by kernel_rfl
noncomputable abbrev fd_l_begin (p : Params) : FuncData := PySem.W.fnOf "_law_begin" "_law_begin" (defArgs (top 57)) (defBody (top 57)) (defScope (top 57)) .none (fO (K33 p) 540).kwdefaults (fO (K33 p) 540).doc (fO (K33 p) 540).pyModule (fO (K33 p) 540).annotations (fO (K33 p) 540).code (fO (K33 p) 540).closureTuple
theorem fn_l_begin : Fun (K33 p) "_law_begin" "_law_begin" (top 57) 540 (fd_l_begin p) := ⟨⟨_, _, _, _, _, _, _, _, _, rfl, lk_l_begin p, cd_l_begin p⟩, kp_l_begin p⟩
theorem bd_l_begin : Binds (K33 p) (fd_l_begin p) ["script"] [] := (fn_l_begin p).binds (ps := ["script"]) fun _ _ _ _ _ _ us hl => match us, hl with | [_], _ => rfl
theorem kp_l_draw : PySem.W.keepIn (K33 p) (.ref 547) = true := by kernel_rfl
theorem lk_l_draw : (K33 p).lookup 547 = some ⟨(oO (K33 p) 547).cls, (oO (K33 p) 547).dict, .func (PySem.W.fnOf "_law_draw" "_law_draw" (defArgs (top 58)) (defBody (top 58)) (defScope (top 58)) .none (fO (K33 p) 547).kwdefaults (fO (K33 p) 547).doc (fO (K33 p) 547).pyModule (fO (K33 p) 547).annotations (fO (K33 p) 547).code (fO (K33 p) 547).closureTuple), (oO (K33 p) 547).slots⟩ := by kernel_rfl
theorem cd_l_draw : PySem.W.codeIn (K33 p) (fO (K33 p) 547).code "_law_draw" = true := by kernel_rfl
noncomputable abbrev fd_l_draw (p : Params) : FuncData := PySem.W.fnOf "_law_draw" "_law_draw" (defArgs (top 58)) (defBody (top 58)) (defScope (top 58)) .none (fO (K33 p) 547).kwdefaults (fO (K33 p) 547).doc (fO (K33 p) 547).pyModule (fO (K33 p) 547).annotations (fO (K33 p) 547).code (fO (K33 p) 547).closureTuple
theorem fn_l_draw : Fun (K33 p) "_law_draw" "_law_draw" (top 58) 547 (fd_l_draw p) := ⟨⟨_, _, _, _, _, _, _, _, _, rfl, lk_l_draw p, cd_l_draw p⟩, kp_l_draw p⟩
theorem bd_l_draw : Binds (K33 p) (fd_l_draw p) ["state", "many"] [] := (fn_l_draw p).binds (ps := ["state", "many"]) fun _ _ _ _ _ _ us hl => match us, hl with | [_, _], _ => rfl
theorem kp_l_condition : PySem.W.keepIn (K33 p) (.ref 554) = true := by kernel_rfl
theorem lk_l_condition : (K33 p).lookup 554 = some ⟨(oO (K33 p) 554).cls, (oO (K33 p) 554).dict, .func (PySem.W.fnOf "_law_condition" "_law_condition" (defArgs (top 59)) (defBody (top 59)) (defScope (top 59)) .none (fO (K33 p) 554).kwdefaults (fO (K33 p) 554).doc (fO (K33 p) 554).pyModule (fO (K33 p) 554).annotations (fO (K33 p) 554).code (fO (K33 p) 554).closureTuple), (oO (K33 p) 554).slots⟩ := by kernel_rfl
theorem cd_l_condition : PySem.W.codeIn (K33 p) (fO (K33 p) 554).code "_law_condition" = true := by kernel_rfl
noncomputable abbrev fd_l_condition (p : Params) : FuncData := PySem.W.fnOf "_law_condition" "_law_condition" (defArgs (top 59)) (defBody (top 59)) (defScope (top 59)) .none (fO (K33 p) 554).kwdefaults (fO (K33 p) 554).doc (fO (K33 p) 554).pyModule (fO (K33 p) 554).annotations (fO (K33 p) 554).code (fO (K33 p) 554).closureTuple
theorem fn_l_condition : Fun (K33 p) "_law_condition" "_law_condition" (top 59) 554 (fd_l_condition p) := ⟨⟨_, _, _, _, _, _, _, _, _, rfl, lk_l_condition p, cd_l_condition p⟩, kp_l_condition p⟩
theorem bd_l_condition : Binds (K33 p) (fd_l_condition p) ["state", "base", "most"] [] := (fn_l_condition p).binds (ps := ["state", "base", "most"]) fun _ _ _ _ _ _ us hl => match us, hl with | [_, _, _], _ => rfl
theorem kp_l_keep : PySem.W.keepIn (K33 p) (.ref 561) = true := by kernel_rfl
theorem lk_l_keep : (K33 p).lookup 561 = some ⟨(oO (K33 p) 561).cls, (oO (K33 p) 561).dict, .func (PySem.W.fnOf "_law_keep" "_law_keep" (defArgs (top 60)) (defBody (top 60)) (defScope (top 60)) .none (fO (K33 p) 561).kwdefaults (fO (K33 p) 561).doc (fO (K33 p) 561).pyModule (fO (K33 p) 561).annotations (fO (K33 p) 561).code (fO (K33 p) 561).closureTuple), (oO (K33 p) 561).slots⟩ := by kernel_rfl
theorem cd_l_keep : PySem.W.codeIn (K33 p) (fO (K33 p) 561).code "_law_keep" = true := by kernel_rfl
noncomputable abbrev fd_l_keep (p : Params) : FuncData := PySem.W.fnOf "_law_keep" "_law_keep" (defArgs (top 60)) (defBody (top 60)) (defScope (top 60)) .none (fO (K33 p) 561).kwdefaults (fO (K33 p) 561).doc (fO (K33 p) 561).pyModule (fO (K33 p) 561).annotations (fO (K33 p) 561).code (fO (K33 p) 561).closureTuple
theorem fn_l_keep : Fun (K33 p) "_law_keep" "_law_keep" (top 60) 561 (fd_l_keep p) := ⟨⟨_, _, _, _, _, _, _, _, _, rfl, lk_l_keep p, cd_l_keep p⟩, kp_l_keep p⟩
theorem bd_l_keep : Binds (K33 p) (fd_l_keep p) ["state", "most"] [] := (fn_l_keep p).binds (ps := ["state", "most"]) fun _ _ _ _ _ _ us hl => match us, hl with | [_, _], _ => rfl
theorem kp_l_rules : PySem.W.keepIn (K33 p) (.ref 566) = true := by kernel_rfl
theorem lk_l_rules : (K33 p).lookup 566 = some ⟨(oO (K33 p) 566).cls, (oO (K33 p) 566).dict, .func (PySem.W.fnOf "_law_rules" "_law_rules" (defArgs (top 61)) (defBody (top 61)) (defScope (top 61)) .none (fO (K33 p) 566).kwdefaults (fO (K33 p) 566).doc (fO (K33 p) 566).pyModule (fO (K33 p) 566).annotations (fO (K33 p) 566).code (fO (K33 p) 566).closureTuple), (oO (K33 p) 566).slots⟩ := by kernel_rfl
theorem cd_l_rules : PySem.W.codeIn (K33 p) (fO (K33 p) 566).code "_law_rules" = true := by kernel_rfl
noncomputable abbrev fd_l_rules (p : Params) : FuncData := PySem.W.fnOf "_law_rules" "_law_rules" (defArgs (top 61)) (defBody (top 61)) (defScope (top 61)) .none (fO (K33 p) 566).kwdefaults (fO (K33 p) 566).doc (fO (K33 p) 566).pyModule (fO (K33 p) 566).annotations (fO (K33 p) 566).code (fO (K33 p) 566).closureTuple
theorem fn_l_rules : Fun (K33 p) "_law_rules" "_law_rules" (top 61) 566 (fd_l_rules p) := ⟨⟨_, _, _, _, _, _, _, _, _, rfl, lk_l_rules p, cd_l_rules p⟩, kp_l_rules p⟩
theorem bd_l_rules : Binds (K33 p) (fd_l_rules p) ["state", "base", "most", "many"] [] := (fn_l_rules p).binds (ps := ["state", "base", "most", "many"]) fun _ _ _ _ _ _ us hl => match us, hl with | [_, _, _, _], _ => rfl
theorem kp_l_words : PySem.W.keepIn (K33 p) (.ref 571) = true := by kernel_rfl
theorem lk_l_words : (K33 p).lookup 571 = some ⟨(oO (K33 p) 571).cls, (oO (K33 p) 571).dict, .func (PySem.W.fnOf "_law_words" "_law_words" (defArgs (top 62)) (defBody (top 62)) (defScope (top 62)) .none (fO (K33 p) 571).kwdefaults (fO (K33 p) 571).doc (fO (K33 p) 571).pyModule (fO (K33 p) 571).annotations (fO (K33 p) 571).code (fO (K33 p) 571).closureTuple), (oO (K33 p) 571).slots⟩ := by kernel_rfl
theorem cd_l_words : PySem.W.codeIn (K33 p) (fO (K33 p) 571).code "_law_words" = true := by kernel_rfl
noncomputable abbrev fd_l_words (p : Params) : FuncData := PySem.W.fnOf "_law_words" "_law_words" (defArgs (top 62)) (defBody (top 62)) (defScope (top 62)) .none (fO (K33 p) 571).kwdefaults (fO (K33 p) 571).doc (fO (K33 p) 571).pyModule (fO (K33 p) 571).annotations (fO (K33 p) 571).code (fO (K33 p) 571).closureTuple
theorem fn_l_words : Fun (K33 p) "_law_words" "_law_words" (top 62) 571 (fd_l_words p) := ⟨⟨_, _, _, _, _, _, _, _, _, rfl, lk_l_words p, cd_l_words p⟩, kp_l_words p⟩
theorem bd_l_words : Binds (K33 p) (fd_l_words p) ["rule"] [] := (fn_l_words p).binds (ps := ["rule"]) fun _ _ _ _ _ _ us hl => match us, hl with | [_], _ => rfl
theorem kp_l_text : PySem.W.keepIn (K33 p) (.ref 576) = true := by kernel_rfl
theorem lk_l_text : (K33 p).lookup 576 = some ⟨(oO (K33 p) 576).cls, (oO (K33 p) 576).dict, .func (PySem.W.fnOf "_law_text" "_law_text" (defArgs (top 63)) (defBody (top 63)) (defScope (top 63)) .none (fO (K33 p) 576).kwdefaults (fO (K33 p) 576).doc (fO (K33 p) 576).pyModule (fO (K33 p) 576).annotations (fO (K33 p) 576).code (fO (K33 p) 576).closureTuple), (oO (K33 p) 576).slots⟩ := by kernel_rfl
theorem cd_l_text : PySem.W.codeIn (K33 p) (fO (K33 p) 576).code "_law_text" = true := by kernel_rfl
noncomputable abbrev fd_l_text (p : Params) : FuncData := PySem.W.fnOf "_law_text" "_law_text" (defArgs (top 63)) (defBody (top 63)) (defScope (top 63)) .none (fO (K33 p) 576).kwdefaults (fO (K33 p) 576).doc (fO (K33 p) 576).pyModule (fO (K33 p) 576).annotations (fO (K33 p) 576).code (fO (K33 p) 576).closureTuple
theorem fn_l_text : Fun (K33 p) "_law_text" "_law_text" (top 63) 576 (fd_l_text p) := ⟨⟨_, _, _, _, _, _, _, _, _, rfl, lk_l_text p, cd_l_text p⟩, kp_l_text p⟩
theorem bd_l_text : Binds (K33 p) (fd_l_text p) ["base", "rules"] [] := (fn_l_text p).binds (ps := ["base", "rules"]) fun _ _ _ _ _ _ us hl => match us, hl with | [_, _], _ => rfl
theorem kp_law : PySem.W.keepIn (K33 p) (.ref 583) = true := by kernel_rfl
theorem lk_law : (K33 p).lookup 583 = some ⟨(oO (K33 p) 583).cls, (oO (K33 p) 583).dict, .func (PySem.W.fnOf "law" "law" (defArgs (top 64)) (defBody (top 64)) (defScope (top 64)) .none (fO (K33 p) 583).kwdefaults (fO (K33 p) 583).doc (fO (K33 p) 583).pyModule (fO (K33 p) 583).annotations (fO (K33 p) 583).code (fO (K33 p) 583).closureTuple), (oO (K33 p) 583).slots⟩ := by kernel_rfl
theorem cd_law : PySem.W.codeIn (K33 p) (fO (K33 p) 583).code "law" = true := by kernel_rfl
noncomputable abbrev fd_law (p : Params) : FuncData := PySem.W.fnOf "law" "law" (defArgs (top 64)) (defBody (top 64)) (defScope (top 64)) .none (fO (K33 p) 583).kwdefaults (fO (K33 p) 583).doc (fO (K33 p) 583).pyModule (fO (K33 p) 583).annotations (fO (K33 p) 583).code (fO (K33 p) 583).closureTuple
theorem fn_law : Fun (K33 p) "law" "law" (top 64) 583 (fd_law p) := ⟨⟨_, _, _, _, _, _, _, _, _, rfl, lk_law p, cd_law p⟩, kp_law p⟩
theorem bd_law : Binds (K33 p) (fd_law p) ["script"] [] := (fn_law p).binds (ps := ["script"]) fun _ _ _ _ _ _ us hl => match us, hl with | [_], _ => rfl
theorem cl_Style : Cls (K33 p) 424 := ⟨by kernel_rfl, by kernel_rfl, by kernel_rfl, by kernel_rfl⟩
theorem na_Style_stored_base : NoAttr (K33 p) 424 "stored_base" := (show PySem.W.findIn (K33 p) (.ref 424) "stored_base" = some none by kernel_rfl)
theorem na_Style_stored_rules : NoAttr (K33 p) 424 "stored_rules" := (show PySem.W.findIn (K33 p) (.ref 424) "stored_rules" = some none by kernel_rfl)
theorem ic_Style : IsC (K33 p) 424 := ⟨⟨by kernel_rfl, by kernel_rfl, by kernel_rfl, by kernel_rfl⟩, by kernel_rfl, fun d => by
  cases d <;> simp only [tyN] <;> kernel_rfl, fun d => by cases d <;> simp only [tyN] <;> kernel_rfl⟩
theorem nf_Style : PySem.W.notFirst (K33 p) 424 (.ref 424) = true := by simp [PySem.W.notFirst]
theorem oc_Style : OpsC (K33 p) 424 := ⟨by kernel_rfl, by kernel_rfl⟩
theorem mk_Style : Mk (K33 p) 424 311 := ⟨by kernel_rfl, by kernel_rfl, by kernel_rfl, by kernel_rfl⟩
theorem kp_Style___init__ : PySem.W.keepIn (K33 p) (.ref 311) = true := by kernel_rfl
theorem lk_Style___init__ : (K33 p).lookup 311 = some ⟨(oO (K33 p) 311).cls, (oO (K33 p) 311).dict, .func (PySem.W.fnOf "__init__" "Style.__init__" (defArgs (inClass (top 41) 0)) (defBody (inClass (top 41) 0)) (defScope (inClass (top 41) 0)) .none (fO (K33 p) 311).kwdefaults (fO (K33 p) 311).doc (fO (K33 p) 311).pyModule (fO (K33 p) 311).annotations (fO (K33 p) 311).code (fO (K33 p) 311).closureTuple), (oO (K33 p) 311).slots⟩ := by kernel_rfl
theorem cd_Style___init__ : PySem.W.codeIn (K33 p) (fO (K33 p) 311).code "Style.__init__" = true := by kernel_rfl
noncomputable abbrev fd_Style___init__ (p : Params) : FuncData := PySem.W.fnOf "__init__" "Style.__init__" (defArgs (inClass (top 41) 0)) (defBody (inClass (top 41) 0)) (defScope (inClass (top 41) 0)) .none (fO (K33 p) 311).kwdefaults (fO (K33 p) 311).doc (fO (K33 p) 311).pyModule (fO (K33 p) 311).annotations (fO (K33 p) 311).code (fO (K33 p) 311).closureTuple

theorem kp_Style_of : PySem.W.keepIn (K33 p) (.ref 318) = true := by kernel_rfl
theorem lk_Style_of : (K33 p).lookup 318 = some ⟨(oO (K33 p) 318).cls, (oO (K33 p) 318).dict, .func (PySem.W.fnOf "of" "Style.of" (defArgs (inClass (top 41) 1)) (defBody (inClass (top 41) 1)) (defScope (inClass (top 41) 1)) .none (fO (K33 p) 318).kwdefaults (fO (K33 p) 318).doc (fO (K33 p) 318).pyModule (fO (K33 p) 318).annotations (fO (K33 p) 318).code (fO (K33 p) 318).closureTuple), (oO (K33 p) 318).slots⟩ := by kernel_rfl
theorem cd_Style_of : PySem.W.codeIn (K33 p) (fO (K33 p) 318).code "Style.of" = true := by kernel_rfl
noncomputable abbrev fd_Style_of (p : Params) : FuncData := PySem.W.fnOf "of" "Style.of" (defArgs (inClass (top 41) 1)) (defBody (inClass (top 41) 1)) (defScope (inClass (top 41) 1)) .none (fO (K33 p) 318).kwdefaults (fO (K33 p) 318).doc (fO (K33 p) 318).pyModule (fO (K33 p) 318).annotations (fO (K33 p) 318).code (fO (K33 p) 318).closureTuple
theorem fn_Style_of : Fun (K33 p) "of" "Style.of" (inClass (top 41) 1) 318 (fd_Style_of p) := ⟨⟨_, _, _, _, _, _, _, _, _, rfl, lk_Style_of p, cd_Style_of p⟩, kp_Style_of p⟩
theorem bd_Style_of : Binds (K33 p) (fd_Style_of p) ["cls", "base", "rules"] [] := (fn_Style_of p).binds (ps := ["cls", "base", "rules"]) fun _ _ _ _ _ _ us hl => match us, hl with | [_, _, _], _ => rfl
theorem cr_Style : ClX.CRead (K33 p) 424 (.type "type") := ⟨by kernel_rfl, by kernel_rfl⟩
theorem cm_Style_of : ClX.CMet (K33 p) 424 (.type "type") "of" 320 318 := ⟨by kernel_rfl, ⟨((PySem.W.recIn (K33 p) 320 "classmethod").getD []).tail, by kernel_rfl⟩, by kernel_rfl⟩
theorem kp_Style_base : PySem.W.keepIn (K33 p) (.ref 328) = true := by kernel_rfl
theorem lk_Style_base : (K33 p).lookup 328 = some ⟨(oO (K33 p) 328).cls, (oO (K33 p) 328).dict, .func (PySem.W.fnOf "base" "Style.base" (defArgs (inClass (top 41) 2)) (defBody (inClass (top 41) 2)) (defScope (inClass (top 41) 2)) .none (fO (K33 p) 328).kwdefaults (fO (K33 p) 328).doc (fO (K33 p) 328).pyModule (fO (K33 p) 328).annotations (fO (K33 p) 328).code (fO (K33 p) 328).closureTuple), (oO (K33 p) 328).slots⟩ := by kernel_rfl
theorem cd_Style_base : PySem.W.codeIn (K33 p) (fO (K33 p) 328).code "Style.base" = true := by kernel_rfl
noncomputable abbrev fd_Style_base (p : Params) : FuncData := PySem.W.fnOf "base" "Style.base" (defArgs (inClass (top 41) 2)) (defBody (inClass (top 41) 2)) (defScope (inClass (top 41) 2)) .none (fO (K33 p) 328).kwdefaults (fO (K33 p) 328).doc (fO (K33 p) 328).pyModule (fO (K33 p) 328).annotations (fO (K33 p) 328).code (fO (K33 p) 328).closureTuple
theorem fn_Style_base : Fun (K33 p) "base" "Style.base" (inClass (top 41) 2) 328 (fd_Style_base p) := ⟨⟨_, _, _, _, _, _, _, _, _, rfl, lk_Style_base p, cd_Style_base p⟩, kp_Style_base p⟩
theorem bd_Style_base : Binds (K33 p) (fd_Style_base p) ["self"] [] := (fn_Style_base p).binds (ps := ["self"]) fun _ _ _ _ _ _ us hl => match us, hl with | [_], _ => rfl
theorem pr_Style_base : PropOf (K33 p) 424 "base" 329 328 := ⟨by kernel_rfl, by kernel_rfl, by kernel_rfl, ⟨((PySem.W.recIn (K33 p) 329 "property").getD []).tail, by kernel_rfl⟩⟩
theorem kp_Style_rules : PySem.W.keepIn (K33 p) (.ref 336) = true := by kernel_rfl
theorem lk_Style_rules : (K33 p).lookup 336 = some ⟨(oO (K33 p) 336).cls, (oO (K33 p) 336).dict, .func (PySem.W.fnOf "rules" "Style.rules" (defArgs (inClass (top 41) 3)) (defBody (inClass (top 41) 3)) (defScope (inClass (top 41) 3)) .none (fO (K33 p) 336).kwdefaults (fO (K33 p) 336).doc (fO (K33 p) 336).pyModule (fO (K33 p) 336).annotations (fO (K33 p) 336).code (fO (K33 p) 336).closureTuple), (oO (K33 p) 336).slots⟩ := by kernel_rfl
theorem cd_Style_rules : PySem.W.codeIn (K33 p) (fO (K33 p) 336).code "Style.rules" = true := by kernel_rfl
noncomputable abbrev fd_Style_rules (p : Params) : FuncData := PySem.W.fnOf "rules" "Style.rules" (defArgs (inClass (top 41) 3)) (defBody (inClass (top 41) 3)) (defScope (inClass (top 41) 3)) .none (fO (K33 p) 336).kwdefaults (fO (K33 p) 336).doc (fO (K33 p) 336).pyModule (fO (K33 p) 336).annotations (fO (K33 p) 336).code (fO (K33 p) 336).closureTuple
theorem fn_Style_rules : Fun (K33 p) "rules" "Style.rules" (inClass (top 41) 3) 336 (fd_Style_rules p) := ⟨⟨_, _, _, _, _, _, _, _, _, rfl, lk_Style_rules p, cd_Style_rules p⟩, kp_Style_rules p⟩
theorem bd_Style_rules : Binds (K33 p) (fd_Style_rules p) ["self"] [] := (fn_Style_rules p).binds (ps := ["self"]) fun _ _ _ _ _ _ us hl => match us, hl with | [_], _ => rfl
theorem pr_Style_rules : PropOf (K33 p) 424 "rules" 337 336 := ⟨by kernel_rfl, by kernel_rfl, by kernel_rfl, ⟨((PySem.W.recIn (K33 p) 337 "property").getD []).tail, by kernel_rfl⟩⟩
theorem kp_Style_kept : PySem.W.keepIn (K33 p) (.ref 351) = true := by kernel_rfl
theorem lk_Style_kept : (K33 p).lookup 351 = some ⟨(oO (K33 p) 351).cls, (oO (K33 p) 351).dict, .func (PySem.W.fnOf "kept" "Style.kept" (defArgs (inClass (top 41) 5)) (defBody (inClass (top 41) 5)) (defScope (inClass (top 41) 5)) .none (fO (K33 p) 351).kwdefaults (fO (K33 p) 351).doc (fO (K33 p) 351).pyModule (fO (K33 p) 351).annotations (fO (K33 p) 351).code (fO (K33 p) 351).closureTuple), (oO (K33 p) 351).slots⟩ := by kernel_rfl
theorem cd_Style_kept : PySem.W.codeIn (K33 p) (fO (K33 p) 351).code "Style.kept" = true := by kernel_rfl
noncomputable abbrev fd_Style_kept (p : Params) : FuncData := PySem.W.fnOf "kept" "Style.kept" (defArgs (inClass (top 41) 5)) (defBody (inClass (top 41) 5)) (defScope (inClass (top 41) 5)) .none (fO (K33 p) 351).kwdefaults (fO (K33 p) 351).doc (fO (K33 p) 351).pyModule (fO (K33 p) 351).annotations (fO (K33 p) 351).code (fO (K33 p) 351).closureTuple
theorem fn_Style_kept : Fun (K33 p) "kept" "Style.kept" (inClass (top 41) 5) 351 (fd_Style_kept p) := ⟨⟨_, _, _, _, _, _, _, _, _, rfl, lk_Style_kept p, cd_Style_kept p⟩, kp_Style_kept p⟩
theorem bd_Style_kept : Binds (K33 p) (fd_Style_kept p) ["self", "first", "second"] [] := (fn_Style_kept p).binds (ps := ["self", "first", "second"]) fun _ _ _ _ _ _ us hl => match us, hl with | [_, _, _], _ => rfl
theorem mt_Style_kept : Meth (K33 p) 424 "kept" 351 := ⟨by kernel_rfl, by kernel_rfl, by kernel_rfl⟩
theorem at_Style_kept : PySem.W.findIn (K33 p) (.ref 424) "kept" = some (some (.ref 351)) := by kernel_rfl
theorem is_Style_kept : PySem.W.isFn (K33 p) (.ref 351) = true := by kernel_rfl
theorem fi_Style_kept : PySem.W.fnIn (K33 p) 351 = true := by kernel_rfl
theorem kp_Style_tail : PySem.W.keepIn (K33 p) (.ref 358) = true := by kernel_rfl
theorem lk_Style_tail : (K33 p).lookup 358 = some ⟨(oO (K33 p) 358).cls, (oO (K33 p) 358).dict, .func (PySem.W.fnOf "tail" "Style.tail" (defArgs (inClass (top 41) 6)) (defBody (inClass (top 41) 6)) (defScope (inClass (top 41) 6)) .none (fO (K33 p) 358).kwdefaults (fO (K33 p) 358).doc (fO (K33 p) 358).pyModule (fO (K33 p) 358).annotations (fO (K33 p) 358).code (fO (K33 p) 358).closureTuple), (oO (K33 p) 358).slots⟩ := by kernel_rfl
theorem cd_Style_tail : PySem.W.codeIn (K33 p) (fO (K33 p) 358).code "Style.tail" = true := by kernel_rfl
noncomputable abbrev fd_Style_tail (p : Params) : FuncData := PySem.W.fnOf "tail" "Style.tail" (defArgs (inClass (top 41) 6)) (defBody (inClass (top 41) 6)) (defScope (inClass (top 41) 6)) .none (fO (K33 p) 358).kwdefaults (fO (K33 p) 358).doc (fO (K33 p) 358).pyModule (fO (K33 p) 358).annotations (fO (K33 p) 358).code (fO (K33 p) 358).closureTuple
theorem fn_Style_tail : Fun (K33 p) "tail" "Style.tail" (inClass (top 41) 6) 358 (fd_Style_tail p) := ⟨⟨_, _, _, _, _, _, _, _, _, rfl, lk_Style_tail p, cd_Style_tail p⟩, kp_Style_tail p⟩
theorem bd_Style_tail : Binds (K33 p) (fd_Style_tail p) ["self", "first", "second"] [] := (fn_Style_tail p).binds (ps := ["self", "first", "second"]) fun _ _ _ _ _ _ us hl => match us, hl with | [_, _, _], _ => rfl
theorem mt_Style_tail : Meth (K33 p) 424 "tail" 358 := ⟨by kernel_rfl, by kernel_rfl, by kernel_rfl⟩
theorem at_Style_tail : PySem.W.findIn (K33 p) (.ref 424) "tail" = some (some (.ref 358)) := by kernel_rfl
theorem is_Style_tail : PySem.W.isFn (K33 p) (.ref 358) = true := by kernel_rfl
theorem fi_Style_tail : PySem.W.fnIn (K33 p) 358 = true := by kernel_rfl
theorem kp_Style___call__ : PySem.W.keepIn (K33 p) (.ref 365) = true := by kernel_rfl
theorem lk_Style___call__ : (K33 p).lookup 365 = some ⟨(oO (K33 p) 365).cls, (oO (K33 p) 365).dict, .func (PySem.W.fnOf "__call__" "Style.__call__" (defArgs (inClass (top 41) 7)) (defBody (inClass (top 41) 7)) (defScope (inClass (top 41) 7)) .none (fO (K33 p) 365).kwdefaults (fO (K33 p) 365).doc (fO (K33 p) 365).pyModule (fO (K33 p) 365).annotations (fO (K33 p) 365).code (fO (K33 p) 365).closureTuple), (oO (K33 p) 365).slots⟩ := by kernel_rfl
theorem cd_Style___call__ : PySem.W.codeIn (K33 p) (fO (K33 p) 365).code "Style.__call__" = true := by kernel_rfl
noncomputable abbrev fd_Style___call__ (p : Params) : FuncData := PySem.W.fnOf "__call__" "Style.__call__" (defArgs (inClass (top 41) 7)) (defBody (inClass (top 41) 7)) (defScope (inClass (top 41) 7)) .none (fO (K33 p) 365).kwdefaults (fO (K33 p) 365).doc (fO (K33 p) 365).pyModule (fO (K33 p) 365).annotations (fO (K33 p) 365).code (fO (K33 p) 365).closureTuple
theorem fn_Style___call__ : Fun (K33 p) "__call__" "Style.__call__" (inClass (top 41) 7) 365 (fd_Style___call__ p) := ⟨⟨_, _, _, _, _, _, _, _, _, rfl, lk_Style___call__ p, cd_Style___call__ p⟩, kp_Style___call__ p⟩
theorem bd_Style___call__ : Binds (K33 p) (fd_Style___call__ p) ["self", "first", "second"] [] := (fn_Style___call__ p).binds (ps := ["self", "first", "second"]) fun _ _ _ _ _ _ us hl => match us, hl with | [_, _, _], _ => rfl
theorem mt_Style___call__ : StX.CallO (K33 p) 424 365 := ⟨by kernel_rfl, by kernel_rfl, by kernel_rfl⟩
theorem at_Style___call__ : PySem.W.findIn (K33 p) (.ref 424) "__call__" = some (some (.ref 365)) := by kernel_rfl
theorem is_Style___call__ : PySem.W.isFn (K33 p) (.ref 365) = true := by kernel_rfl
theorem fi_Style___call__ : PySem.W.fnIn (K33 p) 365 = true := by kernel_rfl
theorem kp_Style___len__ : PySem.W.keepIn (K33 p) (.ref 372) = true := by kernel_rfl
theorem lk_Style___len__ : (K33 p).lookup 372 = some ⟨(oO (K33 p) 372).cls, (oO (K33 p) 372).dict, .func (PySem.W.fnOf "__len__" "Style.__len__" (defArgs (inClass (top 41) 8)) (defBody (inClass (top 41) 8)) (defScope (inClass (top 41) 8)) .none (fO (K33 p) 372).kwdefaults (fO (K33 p) 372).doc (fO (K33 p) 372).pyModule (fO (K33 p) 372).annotations (fO (K33 p) 372).code (fO (K33 p) 372).closureTuple), (oO (K33 p) 372).slots⟩ := by kernel_rfl
theorem cd_Style___len__ : PySem.W.codeIn (K33 p) (fO (K33 p) 372).code "Style.__len__" = true := by kernel_rfl
noncomputable abbrev fd_Style___len__ (p : Params) : FuncData := PySem.W.fnOf "__len__" "Style.__len__" (defArgs (inClass (top 41) 8)) (defBody (inClass (top 41) 8)) (defScope (inClass (top 41) 8)) .none (fO (K33 p) 372).kwdefaults (fO (K33 p) 372).doc (fO (K33 p) 372).pyModule (fO (K33 p) 372).annotations (fO (K33 p) 372).code (fO (K33 p) 372).closureTuple
theorem fn_Style___len__ : Fun (K33 p) "__len__" "Style.__len__" (inClass (top 41) 8) 372 (fd_Style___len__ p) := ⟨⟨_, _, _, _, _, _, _, _, _, rfl, lk_Style___len__ p, cd_Style___len__ p⟩, kp_Style___len__ p⟩
theorem bd_Style___len__ : Binds (K33 p) (fd_Style___len__ p) ["self"] [] := (fn_Style___len__ p).binds (ps := ["self"]) fun _ _ _ _ _ _ us hl => match us, hl with | [_], _ => rfl
theorem mt_Style___len__ : Meth (K33 p) 424 "__len__" 372 := ⟨by kernel_rfl, by kernel_rfl, by kernel_rfl⟩
theorem at_Style___len__ : PySem.W.findIn (K33 p) (.ref 424) "__len__" = some (some (.ref 372)) := by kernel_rfl
theorem is_Style___len__ : PySem.W.isFn (K33 p) (.ref 372) = true := by kernel_rfl
theorem fi_Style___len__ : PySem.W.fnIn (K33 p) 372 = true := by kernel_rfl
theorem kp_Style___getitem__ : PySem.W.keepIn (K33 p) (.ref 379) = true := by kernel_rfl
theorem lk_Style___getitem__ : (K33 p).lookup 379 = some ⟨(oO (K33 p) 379).cls, (oO (K33 p) 379).dict, .func (PySem.W.fnOf "__getitem__" "Style.__getitem__" (defArgs (inClass (top 41) 9)) (defBody (inClass (top 41) 9)) (defScope (inClass (top 41) 9)) .none (fO (K33 p) 379).kwdefaults (fO (K33 p) 379).doc (fO (K33 p) 379).pyModule (fO (K33 p) 379).annotations (fO (K33 p) 379).code (fO (K33 p) 379).closureTuple), (oO (K33 p) 379).slots⟩ := by kernel_rfl
theorem cd_Style___getitem__ : PySem.W.codeIn (K33 p) (fO (K33 p) 379).code "Style.__getitem__" = true := by kernel_rfl
noncomputable abbrev fd_Style___getitem__ (p : Params) : FuncData := PySem.W.fnOf "__getitem__" "Style.__getitem__" (defArgs (inClass (top 41) 9)) (defBody (inClass (top 41) 9)) (defScope (inClass (top 41) 9)) .none (fO (K33 p) 379).kwdefaults (fO (K33 p) 379).doc (fO (K33 p) 379).pyModule (fO (K33 p) 379).annotations (fO (K33 p) 379).code (fO (K33 p) 379).closureTuple
theorem fn_Style___getitem__ : Fun (K33 p) "__getitem__" "Style.__getitem__" (inClass (top 41) 9) 379 (fd_Style___getitem__ p) := ⟨⟨_, _, _, _, _, _, _, _, _, rfl, lk_Style___getitem__ p, cd_Style___getitem__ p⟩, kp_Style___getitem__ p⟩
theorem bd_Style___getitem__ : Binds (K33 p) (fd_Style___getitem__ p) ["self", "number"] [] := (fn_Style___getitem__ p).binds (ps := ["self", "number"]) fun _ _ _ _ _ _ us hl => match us, hl with | [_, _], _ => rfl
theorem mt_Style___getitem__ : Meth (K33 p) 424 "__getitem__" 379 := ⟨by kernel_rfl, by kernel_rfl, by kernel_rfl⟩
theorem at_Style___getitem__ : PySem.W.findIn (K33 p) (.ref 424) "__getitem__" = some (some (.ref 379)) := by kernel_rfl
theorem is_Style___getitem__ : PySem.W.isFn (K33 p) (.ref 379) = true := by kernel_rfl
theorem fi_Style___getitem__ : PySem.W.fnIn (K33 p) 379 = true := by kernel_rfl
theorem kp_Style___iter__ : PySem.W.keepIn (K33 p) (.ref 386) = true := by kernel_rfl
theorem lk_Style___iter__ : (K33 p).lookup 386 = some ⟨(oO (K33 p) 386).cls, (oO (K33 p) 386).dict, .func (PySem.W.fnOf "__iter__" "Style.__iter__" (defArgs (inClass (top 41) 10)) (defBody (inClass (top 41) 10)) (defScope (inClass (top 41) 10)) .none (fO (K33 p) 386).kwdefaults (fO (K33 p) 386).doc (fO (K33 p) 386).pyModule (fO (K33 p) 386).annotations (fO (K33 p) 386).code (fO (K33 p) 386).closureTuple), (oO (K33 p) 386).slots⟩ := by kernel_rfl
theorem cd_Style___iter__ : PySem.W.codeIn (K33 p) (fO (K33 p) 386).code "Style.__iter__" = true := by kernel_rfl
noncomputable abbrev fd_Style___iter__ (p : Params) : FuncData := PySem.W.fnOf "__iter__" "Style.__iter__" (defArgs (inClass (top 41) 10)) (defBody (inClass (top 41) 10)) (defScope (inClass (top 41) 10)) .none (fO (K33 p) 386).kwdefaults (fO (K33 p) 386).doc (fO (K33 p) 386).pyModule (fO (K33 p) 386).annotations (fO (K33 p) 386).code (fO (K33 p) 386).closureTuple
theorem fn_Style___iter__ : Fun (K33 p) "__iter__" "Style.__iter__" (inClass (top 41) 10) 386 (fd_Style___iter__ p) := ⟨⟨_, _, _, _, _, _, _, _, _, rfl, lk_Style___iter__ p, cd_Style___iter__ p⟩, kp_Style___iter__ p⟩
theorem bd_Style___iter__ : Binds (K33 p) (fd_Style___iter__ p) ["self"] [] := (fn_Style___iter__ p).binds (ps := ["self"]) fun _ _ _ _ _ _ us hl => match us, hl with | [_], _ => rfl
theorem mt_Style___iter__ : Meth (K33 p) 424 "__iter__" 386 := ⟨by kernel_rfl, by kernel_rfl, by kernel_rfl⟩
theorem at_Style___iter__ : PySem.W.findIn (K33 p) (.ref 424) "__iter__" = some (some (.ref 386)) := by kernel_rfl
theorem is_Style___iter__ : PySem.W.isFn (K33 p) (.ref 386) = true := by kernel_rfl
theorem fi_Style___iter__ : PySem.W.fnIn (K33 p) 386 = true := by kernel_rfl
theorem kp_Style___contains__ : PySem.W.keepIn (K33 p) (.ref 393) = true := by kernel_rfl
theorem lk_Style___contains__ : (K33 p).lookup 393 = some ⟨(oO (K33 p) 393).cls, (oO (K33 p) 393).dict, .func (PySem.W.fnOf "__contains__" "Style.__contains__" (defArgs (inClass (top 41) 11)) (defBody (inClass (top 41) 11)) (defScope (inClass (top 41) 11)) .none (fO (K33 p) 393).kwdefaults (fO (K33 p) 393).doc (fO (K33 p) 393).pyModule (fO (K33 p) 393).annotations (fO (K33 p) 393).code (fO (K33 p) 393).closureTuple), (oO (K33 p) 393).slots⟩ := by kernel_rfl
theorem cd_Style___contains__ : PySem.W.codeIn (K33 p) (fO (K33 p) 393).code "Style.__contains__" = true := by kernel_rfl
noncomputable abbrev fd_Style___contains__ (p : Params) : FuncData := PySem.W.fnOf "__contains__" "Style.__contains__" (defArgs (inClass (top 41) 11)) (defBody (inClass (top 41) 11)) (defScope (inClass (top 41) 11)) .none (fO (K33 p) 393).kwdefaults (fO (K33 p) 393).doc (fO (K33 p) 393).pyModule (fO (K33 p) 393).annotations (fO (K33 p) 393).code (fO (K33 p) 393).closureTuple
theorem fn_Style___contains__ : Fun (K33 p) "__contains__" "Style.__contains__" (inClass (top 41) 11) 393 (fd_Style___contains__ p) := ⟨⟨_, _, _, _, _, _, _, _, _, rfl, lk_Style___contains__ p, cd_Style___contains__ p⟩, kp_Style___contains__ p⟩
theorem bd_Style___contains__ : Binds (K33 p) (fd_Style___contains__ p) ["self", "value"] [] := (fn_Style___contains__ p).binds (ps := ["self", "value"]) fun _ _ _ _ _ _ us hl => match us, hl with | [_, _], _ => rfl
theorem mt_Style___contains__ : Meth (K33 p) 424 "__contains__" 393 := ⟨by kernel_rfl, by kernel_rfl, by kernel_rfl⟩
theorem at_Style___contains__ : PySem.W.findIn (K33 p) (.ref 424) "__contains__" = some (some (.ref 393)) := by kernel_rfl
theorem is_Style___contains__ : PySem.W.isFn (K33 p) (.ref 393) = true := by kernel_rfl
theorem fi_Style___contains__ : PySem.W.fnIn (K33 p) 393 = true := by kernel_rfl
theorem kp_Style___eq__ : PySem.W.keepIn (K33 p) (.ref 400) = true := by kernel_rfl
theorem lk_Style___eq__ : (K33 p).lookup 400 = some ⟨(oO (K33 p) 400).cls, (oO (K33 p) 400).dict, .func (PySem.W.fnOf "__eq__" "Style.__eq__" (defArgs (inClass (top 41) 12)) (defBody (inClass (top 41) 12)) (defScope (inClass (top 41) 12)) .none (fO (K33 p) 400).kwdefaults (fO (K33 p) 400).doc (fO (K33 p) 400).pyModule (fO (K33 p) 400).annotations (fO (K33 p) 400).code (fO (K33 p) 400).closureTuple), (oO (K33 p) 400).slots⟩ := by kernel_rfl
theorem cd_Style___eq__ : PySem.W.codeIn (K33 p) (fO (K33 p) 400).code "Style.__eq__" = true := by kernel_rfl
noncomputable abbrev fd_Style___eq__ (p : Params) : FuncData := PySem.W.fnOf "__eq__" "Style.__eq__" (defArgs (inClass (top 41) 12)) (defBody (inClass (top 41) 12)) (defScope (inClass (top 41) 12)) .none (fO (K33 p) 400).kwdefaults (fO (K33 p) 400).doc (fO (K33 p) 400).pyModule (fO (K33 p) 400).annotations (fO (K33 p) 400).code (fO (K33 p) 400).closureTuple
theorem fn_Style___eq__ : Fun (K33 p) "__eq__" "Style.__eq__" (inClass (top 41) 12) 400 (fd_Style___eq__ p) := ⟨⟨_, _, _, _, _, _, _, _, _, rfl, lk_Style___eq__ p, cd_Style___eq__ p⟩, kp_Style___eq__ p⟩
theorem bd_Style___eq__ : Binds (K33 p) (fd_Style___eq__ p) ["self", "other"] [] := (fn_Style___eq__ p).binds (ps := ["self", "other"]) fun _ _ _ _ _ _ us hl => match us, hl with | [_, _], _ => rfl
theorem mt_Style___eq__ : Meth (K33 p) 424 "__eq__" 400 := ⟨by kernel_rfl, by kernel_rfl, by kernel_rfl⟩
theorem at_Style___eq__ : PySem.W.findIn (K33 p) (.ref 424) "__eq__" = some (some (.ref 400)) := by kernel_rfl
theorem is_Style___eq__ : PySem.W.isFn (K33 p) (.ref 400) = true := by kernel_rfl
theorem fi_Style___eq__ : PySem.W.fnIn (K33 p) 400 = true := by kernel_rfl
theorem kp_Style___radd__ : PySem.W.keepIn (K33 p) (.ref 407) = true := by kernel_rfl
theorem lk_Style___radd__ : (K33 p).lookup 407 = some ⟨(oO (K33 p) 407).cls, (oO (K33 p) 407).dict, .func (PySem.W.fnOf "__radd__" "Style.__radd__" (defArgs (inClass (top 41) 13)) (defBody (inClass (top 41) 13)) (defScope (inClass (top 41) 13)) .none (fO (K33 p) 407).kwdefaults (fO (K33 p) 407).doc (fO (K33 p) 407).pyModule (fO (K33 p) 407).annotations (fO (K33 p) 407).code (fO (K33 p) 407).closureTuple), (oO (K33 p) 407).slots⟩ := by kernel_rfl
theorem cd_Style___radd__ : PySem.W.codeIn (K33 p) (fO (K33 p) 407).code "Style.__radd__" = true := by kernel_rfl
noncomputable abbrev fd_Style___radd__ (p : Params) : FuncData := PySem.W.fnOf "__radd__" "Style.__radd__" (defArgs (inClass (top 41) 13)) (defBody (inClass (top 41) 13)) (defScope (inClass (top 41) 13)) .none (fO (K33 p) 407).kwdefaults (fO (K33 p) 407).doc (fO (K33 p) 407).pyModule (fO (K33 p) 407).annotations (fO (K33 p) 407).code (fO (K33 p) 407).closureTuple
theorem fn_Style___radd__ : Fun (K33 p) "__radd__" "Style.__radd__" (inClass (top 41) 13) 407 (fd_Style___radd__ p) := ⟨⟨_, _, _, _, _, _, _, _, _, rfl, lk_Style___radd__ p, cd_Style___radd__ p⟩, kp_Style___radd__ p⟩
theorem bd_Style___radd__ : Binds (K33 p) (fd_Style___radd__ p) ["self", "other"] [] := (fn_Style___radd__ p).binds (ps := ["self", "other"]) fun _ _ _ _ _ _ us hl => match us, hl with | [_, _], _ => rfl
theorem mt_Style___radd__ : Meth (K33 p) 424 "__radd__" 407 := ⟨by kernel_rfl, by kernel_rfl, by kernel_rfl⟩
theorem at_Style___radd__ : PySem.W.findIn (K33 p) (.ref 424) "__radd__" = some (some (.ref 407)) := by kernel_rfl
theorem is_Style___radd__ : PySem.W.isFn (K33 p) (.ref 407) = true := by kernel_rfl
theorem fi_Style___radd__ : PySem.W.fnIn (K33 p) 407 = true := by kernel_rfl
theorem kp_Style_without : PySem.W.keepIn (K33 p) (.ref 414) = true := by kernel_rfl
theorem lk_Style_without : (K33 p).lookup 414 = some ⟨(oO (K33 p) 414).cls, (oO (K33 p) 414).dict, .func (PySem.W.fnOf "without" "Style.without" (defArgs (inClass (top 41) 14)) (defBody (inClass (top 41) 14)) (defScope (inClass (top 41) 14)) .none (fO (K33 p) 414).kwdefaults (fO (K33 p) 414).doc (fO (K33 p) 414).pyModule (fO (K33 p) 414).annotations (fO (K33 p) 414).code (fO (K33 p) 414).closureTuple), (oO (K33 p) 414).slots⟩ := by kernel_rfl
theorem cd_Style_without : PySem.W.codeIn (K33 p) (fO (K33 p) 414).code "Style.without" = true := by kernel_rfl
noncomputable abbrev fd_Style_without (p : Params) : FuncData := PySem.W.fnOf "without" "Style.without" (defArgs (inClass (top 41) 14)) (defBody (inClass (top 41) 14)) (defScope (inClass (top 41) 14)) .none (fO (K33 p) 414).kwdefaults (fO (K33 p) 414).doc (fO (K33 p) 414).pyModule (fO (K33 p) 414).annotations (fO (K33 p) 414).code (fO (K33 p) 414).closureTuple
theorem fn_Style_without : Fun (K33 p) "without" "Style.without" (inClass (top 41) 14) 414 (fd_Style_without p) := ⟨⟨_, _, _, _, _, _, _, _, _, rfl, lk_Style_without p, cd_Style_without p⟩, kp_Style_without p⟩
theorem bd_Style_without : Binds (K33 p) (fd_Style_without p) ["self", "number"] [] := (fn_Style_without p).binds (ps := ["self", "number"]) fun _ _ _ _ _ _ us hl => match us, hl with | [_, _], _ => rfl
theorem mt_Style_without : Meth (K33 p) 424 "without" 414 := ⟨by kernel_rfl, by kernel_rfl, by kernel_rfl⟩
theorem at_Style_without : PySem.W.findIn (K33 p) (.ref 424) "without" = some (some (.ref 414)) := by kernel_rfl
theorem is_Style_without : PySem.W.isFn (K33 p) (.ref 414) = true := by kernel_rfl
theorem fi_Style_without : PySem.W.fnIn (K33 p) 414 = true := by kernel_rfl
theorem cl_Words : Cls (K33 p) 491 := ⟨by kernel_rfl, by kernel_rfl, by kernel_rfl, by kernel_rfl⟩
theorem na_Words_line : NoAttr (K33 p) 491 "line" := (show PySem.W.findIn (K33 p) (.ref 491) "line" = some none by kernel_rfl)
theorem na_Words_words : NoAttr (K33 p) 491 "words" := (show PySem.W.findIn (K33 p) (.ref 491) "words" = some none by kernel_rfl)
theorem na_Words_taken : NoAttr (K33 p) 491 "taken" := (show PySem.W.findIn (K33 p) (.ref 491) "taken" = some none by kernel_rfl)
theorem mk_Words : Mk (K33 p) 491 467 := ⟨by kernel_rfl, by kernel_rfl, by kernel_rfl, by kernel_rfl⟩
theorem kp_Words___init__ : PySem.W.keepIn (K33 p) (.ref 467) = true := by kernel_rfl
theorem lk_Words___init__ : (K33 p).lookup 467 = some ⟨(oO (K33 p) 467).cls, (oO (K33 p) 467).dict, .func (PySem.W.fnOf "__init__" "Words.__init__" (defArgs (inClass (top 49) 0)) (defBody (inClass (top 49) 0)) (defScope (inClass (top 49) 0)) .none (fO (K33 p) 467).kwdefaults (fO (K33 p) 467).doc (fO (K33 p) 467).pyModule (fO (K33 p) 467).annotations (fO (K33 p) 467).code (fO (K33 p) 467).closureTuple), (oO (K33 p) 467).slots⟩ := by kernel_rfl
theorem cd_Words___init__ : PySem.W.codeIn (K33 p) (fO (K33 p) 467).code "Words.__init__" = true := by kernel_rfl
noncomputable abbrev fd_Words___init__ (p : Params) : FuncData := PySem.W.fnOf "__init__" "Words.__init__" (defArgs (inClass (top 49) 0)) (defBody (inClass (top 49) 0)) (defScope (inClass (top 49) 0)) .none (fO (K33 p) 467).kwdefaults (fO (K33 p) 467).doc (fO (K33 p) 467).pyModule (fO (K33 p) 467).annotations (fO (K33 p) 467).code (fO (K33 p) 467).closureTuple
theorem fn_Words___init__ : Fun (K33 p) "__init__" "Words.__init__" (inClass (top 49) 0) 467 (fd_Words___init__ p) := ⟨⟨_, _, _, _, _, _, _, _, _, rfl, lk_Words___init__ p, cd_Words___init__ p⟩, kp_Words___init__ p⟩
theorem bd_Words___init__ : Binds (K33 p) (fd_Words___init__ p) ["self", "line", "text"] [] := (fn_Words___init__ p).binds (ps := ["self", "line", "text"]) fun _ _ _ _ _ _ us hl => match us, hl with | [_, _, _], _ => rfl
theorem kp_Words_are_over : PySem.W.keepIn (K33 p) (.ref 474) = true := by kernel_rfl
theorem lk_Words_are_over : (K33 p).lookup 474 = some ⟨(oO (K33 p) 474).cls, (oO (K33 p) 474).dict, .func (PySem.W.fnOf "are_over" "Words.are_over" (defArgs (inClass (top 49) 1)) (defBody (inClass (top 49) 1)) (defScope (inClass (top 49) 1)) .none (fO (K33 p) 474).kwdefaults (fO (K33 p) 474).doc (fO (K33 p) 474).pyModule (fO (K33 p) 474).annotations (fO (K33 p) 474).code (fO (K33 p) 474).closureTuple), (oO (K33 p) 474).slots⟩ := by kernel_rfl
theorem cd_Words_are_over : PySem.W.codeIn (K33 p) (fO (K33 p) 474).code "Words.are_over" = true := by kernel_rfl
noncomputable abbrev fd_Words_are_over (p : Params) : FuncData := PySem.W.fnOf "are_over" "Words.are_over" (defArgs (inClass (top 49) 1)) (defBody (inClass (top 49) 1)) (defScope (inClass (top 49) 1)) .none (fO (K33 p) 474).kwdefaults (fO (K33 p) 474).doc (fO (K33 p) 474).pyModule (fO (K33 p) 474).annotations (fO (K33 p) 474).code (fO (K33 p) 474).closureTuple
theorem fn_Words_are_over : Fun (K33 p) "are_over" "Words.are_over" (inClass (top 49) 1) 474 (fd_Words_are_over p) := ⟨⟨_, _, _, _, _, _, _, _, _, rfl, lk_Words_are_over p, cd_Words_are_over p⟩, kp_Words_are_over p⟩
theorem bd_Words_are_over : Binds (K33 p) (fd_Words_are_over p) ["self"] [] := (fn_Words_are_over p).binds (ps := ["self"]) fun _ _ _ _ _ _ us hl => match us, hl with | [_], _ => rfl
theorem mt_Words_are_over : Meth (K33 p) 491 "are_over" 474 := ⟨by kernel_rfl, by kernel_rfl, by kernel_rfl⟩
theorem at_Words_are_over : PySem.W.findIn (K33 p) (.ref 491) "are_over" = some (some (.ref 474)) := by kernel_rfl
theorem is_Words_are_over : PySem.W.isFn (K33 p) (.ref 474) = true := by kernel_rfl
theorem fi_Words_are_over : PySem.W.fnIn (K33 p) 474 = true := by kernel_rfl
theorem kp_Words_take : PySem.W.keepIn (K33 p) (.ref 481) = true := by kernel_rfl
theorem lk_Words_take : (K33 p).lookup 481 = some ⟨(oO (K33 p) 481).cls, (oO (K33 p) 481).dict, .func (PySem.W.fnOf "take" "Words.take" (defArgs (inClass (top 49) 2)) (defBody (inClass (top 49) 2)) (defScope (inClass (top 49) 2)) .none (fO (K33 p) 481).kwdefaults (fO (K33 p) 481).doc (fO (K33 p) 481).pyModule (fO (K33 p) 481).annotations (fO (K33 p) 481).code (fO (K33 p) 481).closureTuple), (oO (K33 p) 481).slots⟩ := by kernel_rfl
theorem cd_Words_take : PySem.W.codeIn (K33 p) (fO (K33 p) 481).code "Words.take" = true := by kernel_rfl
noncomputable abbrev fd_Words_take (p : Params) : FuncData := PySem.W.fnOf "take" "Words.take" (defArgs (inClass (top 49) 2)) (defBody (inClass (top 49) 2)) (defScope (inClass (top 49) 2)) .none (fO (K33 p) 481).kwdefaults (fO (K33 p) 481).doc (fO (K33 p) 481).pyModule (fO (K33 p) 481).annotations (fO (K33 p) 481).code (fO (K33 p) 481).closureTuple
theorem fn_Words_take : Fun (K33 p) "take" "Words.take" (inClass (top 49) 2) 481 (fd_Words_take p) := ⟨⟨_, _, _, _, _, _, _, _, _, rfl, lk_Words_take p, cd_Words_take p⟩, kp_Words_take p⟩
theorem bd_Words_take : Binds (K33 p) (fd_Words_take p) ["self", "fit"] [] := (fn_Words_take p).binds (ps := ["self", "fit"]) fun _ _ _ _ _ _ us hl => match us, hl with | [_, _], _ => rfl
theorem mt_Words_take : Meth (K33 p) 491 "take" 481 := ⟨by kernel_rfl, by kernel_rfl, by kernel_rfl⟩
theorem at_Words_take : PySem.W.findIn (K33 p) (.ref 491) "take" = some (some (.ref 481)) := by kernel_rfl
theorem is_Words_take : PySem.W.isFn (K33 p) (.ref 481) = true := by kernel_rfl
theorem fi_Words_take : PySem.W.fnIn (K33 p) 481 = true := by kernel_rfl
theorem kp_Words_need_end : PySem.W.keepIn (K33 p) (.ref 488) = true := by kernel_rfl
theorem lk_Words_need_end : (K33 p).lookup 488 = some ⟨(oO (K33 p) 488).cls, (oO (K33 p) 488).dict, .func (PySem.W.fnOf "need_end" "Words.need_end" (defArgs (inClass (top 49) 3)) (defBody (inClass (top 49) 3)) (defScope (inClass (top 49) 3)) .none (fO (K33 p) 488).kwdefaults (fO (K33 p) 488).doc (fO (K33 p) 488).pyModule (fO (K33 p) 488).annotations (fO (K33 p) 488).code (fO (K33 p) 488).closureTuple), (oO (K33 p) 488).slots⟩ := by kernel_rfl
theorem cd_Words_need_end : PySem.W.codeIn (K33 p) (fO (K33 p) 488).code "Words.need_end" = true := by kernel_rfl
noncomputable abbrev fd_Words_need_end (p : Params) : FuncData := PySem.W.fnOf "need_end" "Words.need_end" (defArgs (inClass (top 49) 3)) (defBody (inClass (top 49) 3)) (defScope (inClass (top 49) 3)) .none (fO (K33 p) 488).kwdefaults (fO (K33 p) 488).doc (fO (K33 p) 488).pyModule (fO (K33 p) 488).annotations (fO (K33 p) 488).code (fO (K33 p) 488).closureTuple
theorem fn_Words_need_end : Fun (K33 p) "need_end" "Words.need_end" (inClass (top 49) 3) 488 (fd_Words_need_end p) := ⟨⟨_, _, _, _, _, _, _, _, _, rfl, lk_Words_need_end p, cd_Words_need_end p⟩, kp_Words_need_end p⟩
theorem bd_Words_need_end : Binds (K33 p) (fd_Words_need_end p) ["self"] [] := (fn_Words_need_end p).binds (ps := ["self"]) fun _ _ _ _ _ _ us hl => match us, hl with | [_], _ => rfl
theorem mt_Words_need_end : Meth (K33 p) 491 "need_end" 488 := ⟨by kernel_rfl, by kernel_rfl, by kernel_rfl⟩
theorem at_Words_need_end : PySem.W.findIn (K33 p) (.ref 491) "need_end" = some (some (.ref 488)) := by kernel_rfl
theorem is_Words_need_end : PySem.W.isFn (K33 p) (.ref 488) = true := by kernel_rfl
theorem fi_Words_need_end : PySem.W.fnIn (K33 p) 488 = true := by kernel_rfl
end
end KH33

namespace KH33
open PySem L2 Evl Dg Dt StX ClX
def tkO (v : Option (Option Value)) : Tok := match v with
  | some (some (.int _ t)) => t
  | some (some (.str _ t)) => t
  | _ => default
def itO (K : PySem.W.Frag) (a : Addr) : Array Value := match (oO K a).data with
  | .seq v _ => v
  | _ => #[]
def epO (K : PySem.W.Frag) (a : Addr) : Nat := match (oO K a).data with
  | .seq _ n => n
  | _ => 0
def tkI (K : PySem.W.Frag) (a : Addr) (i : Nat) : Tok := tkO (some (itO K a)[i]?)
section
variable {w : World} {mg : Str → Option Value} {h base : Heap} (X : (K33 w.params).In h) (G : h.Ns mainGlobals mg)
include X G
theorem txG : TxG mg where
  isi := PySem.W.mg_none_of X G (show PySem.W.nsIn (K33 w.params) mainGlobals "isinstance" = some none by kernel_rfl)
  int := PySem.W.mg_none_of X G (show PySem.W.nsIn (K33 w.params) mainGlobals "int" = some none by kernel_rfl)
  bool := PySem.W.mg_none_of X G (show PySem.W.nsIn (K33 w.params) mainGlobals "bool" = some none by kernel_rfl)
  str := PySem.W.mg_none_of X G (show PySem.W.nsIn (K33 w.params) mainGlobals "str" = some none by kernel_rfl)
  len := PySem.W.mg_none_of X G (show PySem.W.nsIn (K33 w.params) mainGlobals "len" = some none by kernel_rfl)
  sup := PySem.W.mg_none_of X G (show PySem.W.nsIn (K33 w.params) mainGlobals "super" = some none by kernel_rfl)
  fig := (by
    obtain ⟨t, e⟩ : ∃ t, PySem.W.nsIn (K33 w.params) mainGlobals "FIGURES" = some (some (.str "0123456789" t)) := ⟨tkO (PySem.W.nsIn (K33 w.params) mainGlobals "FIGURES"), by kernel_rfl⟩
    exact ⟨t, PySem.W.mg_of X G e⟩)
  least := (by
    obtain ⟨t, e⟩ : ∃ t, PySem.W.nsIn (K33 w.params) mainGlobals "LEAST_BASE" = some (some (.int 2 t)) := ⟨tkO (PySem.W.nsIn (K33 w.params) mainGlobals "LEAST_BASE"), by kernel_rfl⟩
    exact ⟨t, PySem.W.mg_of X G e⟩)
  most := (by
    obtain ⟨t, e⟩ : ∃ t, PySem.W.nsIn (K33 w.params) mainGlobals "MOST_BASE" = some (some (.int 10 t)) := ⟨tkO (PySem.W.nsIn (K33 w.params) mainGlobals "MOST_BASE"), by kernel_rfl⟩
    exact ⟨t, PySem.W.mg_of X G e⟩)
theorem txI : TxI (K33 w.params) mg 146 where
  toTxG := txG X G
  isInt := PySem.W.mg_of X G (show PySem.W.nsIn (K33 w.params) mainGlobals "is_integer" = some (some (.ref 146)) by kernel_rfl)
  kInt := kp_is_integer _
theorem txF : TxF (K33 w.params) mg 146 153 165 172 186 where
  toTxI := txI X G
  isNum := PySem.W.mg_of X G (show PySem.W.nsIn (K33 w.params) mainGlobals "is_number" = some (some (.ref 153)) by kernel_rfl)
  kNum := kp_is_number _
  needB := PySem.W.mg_of X G (show PySem.W.nsIn (K33 w.params) mainGlobals "need_base" = some (some (.ref 165)) by kernel_rfl)
  kNB := kp_need_base _
  needN := PySem.W.mg_of X G (show PySem.W.nsIn (K33 w.params) mainGlobals "need_number" = some (some (.ref 172)) by kernel_rfl)
  kNN := kp_need_number _
  digits := PySem.W.mg_of X G (show PySem.W.nsIn (K33 w.params) mainGlobals "digits" = some (some (.ref 186)) by kernel_rfl)
  kDg := kp_digits _
  divmod := PySem.W.mg_none_of X G (show PySem.W.nsIn (K33 w.params) mainGlobals "divmod" = some none by kernel_rfl)
theorem txB : Dr.TxB mg where
  int := PySem.W.mg_none_of X G (show PySem.W.nsIn (K33 w.params) mainGlobals "int" = some none by kernel_rfl)
  len := PySem.W.mg_none_of X G (show PySem.W.nsIn (K33 w.params) mainGlobals "len" = some none by kernel_rfl)
  list := PySem.W.mg_none_of X G (show PySem.W.nsIn (K33 w.params) mainGlobals "list" = some none by kernel_rfl)
theorem txD : Dr.TxD (K33 w.params) mg 535 where
  toTxB := txB X G
  mixed := PySem.W.mg_of X G (show PySem.W.nsIn (K33 w.params) mainGlobals "_law_mixed" = some (some (.ref 535)) by kernel_rfl)
  kMixed := kp_l_mixed _
theorem txO : Dr.TxO (K33 w.params) mg 535 547 where
  toTxD := txD X G
  draw := PySem.W.mg_of X G (show PySem.W.nsIn (K33 w.params) mainGlobals "_law_draw" = some (some (.ref 547)) by kernel_rfl)
  kDraw := kp_l_draw _
theorem txF3 : TxF3 (K33 w.params) mg 146 153 165 179 where
  toTxI := txI X G
  isNum := PySem.W.mg_of X G (show PySem.W.nsIn (K33 w.params) mainGlobals "is_number" = some (some (.ref 153)) by kernel_rfl)
  kNum := kp_is_number _
  needB := PySem.W.mg_of X G (show PySem.W.nsIn (K33 w.params) mainGlobals "need_base" = some (some (.ref 165)) by kernel_rfl)
  kNB := kp_need_base _
  needR := PySem.W.mg_of X G (show PySem.W.nsIn (K33 w.params) mainGlobals "need_range" = some (some (.ref 179)) by kernel_rfl)
  kNR := kp_need_range _
theorem txH : TxH (K33 w.params) mg 0 0 where
  len := PySem.W.mg_none_of X G (show PySem.W.nsIn (K33 w.params) mainGlobals "len" = some none by kernel_rfl)
theorem txR : TxR (K33 w.params) mg 146 165 158 214 221 228 235 242 where
  toTxI := txI X G
  needB := PySem.W.mg_of X G (show PySem.W.nsIn (K33 w.params) mainGlobals "need_base" = some (some (.ref 165)) by kernel_rfl)
  kNB := kp_need_base _
  isFig := PySem.W.mg_of X G (show PySem.W.nsIn (K33 w.params) mainGlobals "is_figures" = some (some (.ref 158)) by kernel_rfl)
  kFig := kp_is_figures _
  size := PySem.W.mg_of X G (show PySem.W.nsIn (K33 w.params) mainGlobals "is_size" = some (some (.ref 214)) by kernel_rfl)
  kSz := kp_is_size _
  bounds := PySem.W.mg_of X G (show PySem.W.nsIn (K33 w.params) mainGlobals "are_bounds" = some (some (.ref 221)) by kernel_rfl)
  kBd := kp_are_bounds _
  begins := PySem.W.mg_of X G (show PySem.W.nsIn (K33 w.params) mainGlobals "begins" = some (some (.ref 228)) by kernel_rfl)
  kBg := kp_begins _
  cond := PySem.W.mg_of X G (show PySem.W.nsIn (K33 w.params) mainGlobals "is_condition" = some (some (.ref 235)) by kernel_rfl)
  kCd := kp_is_condition _
  keep := PySem.W.mg_of X G (show PySem.W.nsIn (K33 w.params) mainGlobals "is_keep" = some (some (.ref 242)) by kernel_rfl)
  kKp := kp_is_keep _
  tuple := PySem.W.mg_none_of X G (show PySem.W.nsIn (K33 w.params) mainGlobals "tuple" = some none by kernel_rfl)
  all := PySem.W.mg_none_of X G (show PySem.W.nsIn (K33 w.params) mainGlobals "all" = some none by kernel_rfl)
  msize := (by
    obtain ⟨t, e⟩ : ∃ t, PySem.W.nsIn (K33 w.params) mainGlobals "MOST_SIZE" = some (some (.int 6 t)) := ⟨tkO (PySem.W.nsIn (K33 w.params) mainGlobals "MOST_SIZE"), by kernel_rfl⟩
    exact ⟨t, PySem.W.mg_of X G e⟩)
  mconds := (by
    obtain ⟨t, e⟩ : ∃ t, PySem.W.nsIn (K33 w.params) mainGlobals "MOST_CONDITIONS" = some (some (.int 3 t)) := ⟨tkO (PySem.W.nsIn (K33 w.params) mainGlobals "MOST_CONDITIONS"), by kernel_rfl⟩
    exact ⟨t, PySem.W.mg_of X G e⟩)
  mend := (by
    obtain ⟨t, e⟩ : ∃ t, PySem.W.nsIn (K33 w.params) mainGlobals "MOST_ENDING" = some (some (.int 2 t)) := ⟨tkO (PySem.W.nsIn (K33 w.params) mainGlobals "MOST_ENDING"), by kernel_rfl⟩
    exact ⟨t, PySem.W.mg_of X G e⟩)
theorem txY : TxY (K33 w.params) mg 165 247 254 266 ca33 where
  needB := PySem.W.mg_of X G (show PySem.W.nsIn (K33 w.params) mainGlobals "need_base" = some (some (.ref 165)) by kernel_rfl)
  kNB := kp_need_base _
  rule := PySem.W.mg_of X G (show PySem.W.nsIn (K33 w.params) mainGlobals "is_rule" = some (some (.ref 247)) by kernel_rfl)
  kRl := kp_is_rule _
  needR := PySem.W.mg_of X G (show PySem.W.nsIn (K33 w.params) mainGlobals "need_rules" = some (some (.ref 254)) by kernel_rfl)
  kNR := kp_need_rules _
  plain := PySem.W.mg_of X G (show PySem.W.nsIn (K33 w.params) mainGlobals "plain_rule" = some (some (.ref 266)) by kernel_rfl)
  kPl := kp_plain_rule _
  badRule := PySem.W.mg_of X G (show PySem.W.nsIn (K33 w.params) mainGlobals "BadRule" = some (some (.ref 116)) by kernel_rfl)
  len := PySem.W.mg_none_of X G (show PySem.W.nsIn (K33 w.params) mainGlobals "len" = some none by kernel_rfl)
  tuple := PySem.W.mg_none_of X G (show PySem.W.nsIn (K33 w.params) mainGlobals "tuple" = some none by kernel_rfl)
  enum := PySem.W.mg_none_of X G (show PySem.W.nsIn (K33 w.params) mainGlobals "enumerate" = some none by kernel_rfl)
  isi := PySem.W.mg_none_of X G (show PySem.W.nsIn (K33 w.params) mainGlobals "isinstance" = some none by kernel_rfl)
  sup := PySem.W.mg_none_of X G (show PySem.W.nsIn (K33 w.params) mainGlobals "super" = some none by kernel_rfl)
  list := PySem.W.mg_none_of X G (show PySem.W.nsIn (K33 w.params) mainGlobals "list" = some none by kernel_rfl)
  mrules := (by
    obtain ⟨t, e⟩ : ∃ t, PySem.W.nsIn (K33 w.params) mainGlobals "MOST_RULES" = some (some (.int 8 t)) := ⟨tkO (PySem.W.nsIn (K33 w.params) mainGlobals "MOST_RULES"), by kernel_rfl⟩
    exact ⟨t, PySem.W.mg_of X G e⟩)
theorem txN : TxN (K33 w.params) mg 146 247 261 424 ca33 where
  isInt := PySem.W.mg_of X G (show PySem.W.nsIn (K33 w.params) mainGlobals "is_integer" = some (some (.ref 146)) by kernel_rfl)
  kInt := kp_is_integer _
  rule := PySem.W.mg_of X G (show PySem.W.nsIn (K33 w.params) mainGlobals "is_rule" = some (some (.ref 247)) by kernel_rfl)
  kRl := kp_is_rule _
  place := PySem.W.mg_of X G (show PySem.W.nsIn (K33 w.params) mainGlobals "need_place" = some (some (.ref 261)) by kernel_rfl)
  kPc := kp_need_place _
  badNum := PySem.W.mg_of X G (show PySem.W.nsIn (K33 w.params) mainGlobals "BadNumber" = some (some (.ref 74)) by kernel_rfl)
  badRule := PySem.W.mg_of X G (show PySem.W.nsIn (K33 w.params) mainGlobals "BadRule" = some (some (.ref 116)) by kernel_rfl)
  style := PySem.W.mg_of X G (show PySem.W.nsIn (K33 w.params) mainGlobals "Style" = some (some (.ref 424)) by kernel_rfl)
  len := PySem.W.mg_none_of X G (show PySem.W.nsIn (K33 w.params) mainGlobals "len" = some none by kernel_rfl)
  isi := PySem.W.mg_none_of X G (show PySem.W.nsIn (K33 w.params) mainGlobals "isinstance" = some none by kernel_rfl)
  tuple := PySem.W.mg_none_of X G (show PySem.W.nsIn (K33 w.params) mainGlobals "tuple" = some none by kernel_rfl)
  list := PySem.W.mg_none_of X G (show PySem.W.nsIn (K33 w.params) mainGlobals "list" = some none by kernel_rfl)
  sup := PySem.W.mg_none_of X G (show PySem.W.nsIn (K33 w.params) mainGlobals "super" = some none by kernel_rfl)
  cl := cl_Style _
  nB := na_Style_stored_base _
  nR := na_Style_stored_rules _
theorem txFa : TxFa (K33 w.params) mg 179 186 207 193 200 where
  needR := PySem.W.mg_of X G (show PySem.W.nsIn (K33 w.params) mainGlobals "need_range" = some (some (.ref 179)) by kernel_rfl)
  kNR := kp_need_range _
  digits := PySem.W.mg_of X G (show PySem.W.nsIn (K33 w.params) mainGlobals "digits" = some (some (.ref 186)) by kernel_rfl)
  kDg := kp_digits _
  near := PySem.W.mg_of X G (show PySem.W.nsIn (K33 w.params) mainGlobals "near" = some (some (.ref 207)) by kernel_rfl)
  kNe := kp_near _
  length := PySem.W.mg_of X G (show PySem.W.nsIn (K33 w.params) mainGlobals "length" = some (some (.ref 193)) by kernel_rfl)
  kLe := kp_length _
  changed := PySem.W.mg_of X G (show PySem.W.nsIn (K33 w.params) mainGlobals "changed" = some (some (.ref 200)) by kernel_rfl)
  kCh := kp_changed _
  len := PySem.W.mg_none_of X G (show PySem.W.nsIn (K33 w.params) mainGlobals "len" = some none by kernel_rfl)
  mend := (by
    obtain ⟨t, e⟩ : ∃ t, PySem.W.nsIn (K33 w.params) mainGlobals "MOST_ENDING" = some (some (.int 2 t)) := ⟨tkO (PySem.W.nsIn (K33 w.params) mainGlobals "MOST_ENDING"), by kernel_rfl⟩
    exact ⟨t, PySem.W.mg_of X G e⟩)
theorem txW : TxW (K33 w.params) mg 280 285 292 where
  holds := PySem.W.mg_of X G (show PySem.W.nsIn (K33 w.params) mainGlobals "holds" = some (some (.ref 280)) by kernel_rfl)
  kHo := kp_holds _
  first := PySem.W.mg_of X G (show PySem.W.nsIn (K33 w.params) mainGlobals "first_applying" = some (some (.ref 285)) by kernel_rfl)
  kFi := kp_first_applying _
  many := PySem.W.mg_of X G (show PySem.W.nsIn (K33 w.params) mainGlobals "many_kept" = some (some (.ref 292)) by kernel_rfl)
  kMa := kp_many_kept _
  len := PySem.W.mg_none_of X G (show PySem.W.nsIn (K33 w.params) mainGlobals "len" = some none by kernel_rfl)
  range := PySem.W.mg_none_of X G (show PySem.W.nsIn (K33 w.params) mainGlobals "range" = some none by kernel_rfl)
  all := PySem.W.mg_none_of X G (show PySem.W.nsIn (K33 w.params) mainGlobals "all" = some none by kernel_rfl)
  min := PySem.W.mg_none_of X G (show PySem.W.nsIn (K33 w.params) mainGlobals "min" = some none by kernel_rfl)
  max := PySem.W.mg_none_of X G (show PySem.W.nsIn (K33 w.params) mainGlobals "max" = some none by kernel_rfl)
theorem txM : TxM (K33 w.params) mg 299 273 186 424 where
  written := PySem.W.mg_of X G (show PySem.W.nsIn (K33 w.params) mainGlobals "written" = some (some (.ref 299)) by kernel_rfl)
  kWr := kp_written _
  facts := PySem.W.mg_of X G (show PySem.W.nsIn (K33 w.params) mainGlobals "facts_of" = some (some (.ref 273)) by kernel_rfl)
  kFa := kp_facts_of _
  digits := PySem.W.mg_of X G (show PySem.W.nsIn (K33 w.params) mainGlobals "digits" = some (some (.ref 186)) by kernel_rfl)
  kDg := kp_digits _
  cl := cl_Style _
  nB := na_Style_stored_base _
  nR := na_Style_stored_rules _
theorem txZ : TxZ (K33 w.params) mg 0 0 0 0 0 0 0 where
  toTxH := txH X G
  min := PySem.W.mg_none_of X G (show PySem.W.nsIn (K33 w.params) mainGlobals "min" = some none by kernel_rfl)
  max := PySem.W.mg_none_of X G (show PySem.W.nsIn (K33 w.params) mainGlobals "max" = some none by kernel_rfl)
theorem txTx : Tx.TxTx (K33 w.params) mg 433 438 424 where
  words := PySem.W.mg_of X G (show PySem.W.nsIn (K33 w.params) mainGlobals "words_of" = some (some (.ref 433)) by kernel_rfl)
  kWo := kp_words_of _
  rtext := PySem.W.mg_of X G (show PySem.W.nsIn (K33 w.params) mainGlobals "rule_text" = some (some (.ref 438)) by kernel_rfl)
  kRt := kp_rule_text _
  unb := (by
    obtain ⟨t, e⟩ : ∃ t, PySem.W.nsIn (K33 w.params) mainGlobals "UNBOUNDED" = some (some (.str "*" t)) := ⟨tkO (PySem.W.nsIn (K33 w.params) mainGlobals "UNBOUNDED"), by kernel_rfl⟩
    exact ⟨t, PySem.W.mg_of X G e⟩)
  str := PySem.W.mg_none_of X G (show PySem.W.nsIn (K33 w.params) mainGlobals "str" = some none by kernel_rfl)
  len := PySem.W.mg_none_of X G (show PySem.W.nsIn (K33 w.params) mainGlobals "len" = some none by kernel_rfl)
  cl := cl_Style _
theorem txWd : Tx.TxWd (K33 w.params) mg 491 where
  len := PySem.W.mg_none_of X G (show PySem.W.nsIn (K33 w.params) mainGlobals "len" = some none by kernel_rfl)
  clW := cl_Words _
  nL := na_Words_line _
  nW := na_Words_words _
  nT := na_Words_taken _
theorem txRd : Tx.TxRd (K33 w.params) mg 448 453 where
  nums := PySem.W.mg_of X G (show PySem.W.nsIn (K33 w.params) mainGlobals "numerals" = some (some (.ref 448)) by kernel_rfl)
  kNu := kp_numerals _
  ends := PySem.W.mg_of X G (show PySem.W.nsIn (K33 w.params) mainGlobals "endings" = some (some (.ref 453)) by kernel_rfl)
  kEn := kp_endings _
  intN := PySem.W.mg_none_of X G (show PySem.W.nsIn (K33 w.params) mainGlobals "int" = some none by kernel_rfl)
  least := (by
    obtain ⟨t, e⟩ : ∃ t, PySem.W.nsIn (K33 w.params) mainGlobals "LEAST_BASE" = some (some (.int 2 t)) := ⟨tkO (PySem.W.nsIn (K33 w.params) mainGlobals "LEAST_BASE"), by kernel_rfl⟩
    exact ⟨t, PySem.W.mg_of X G e⟩)
  most := (by
    obtain ⟨t, e⟩ : ∃ t, PySem.W.nsIn (K33 w.params) mainGlobals "MOST_BASE" = some (some (.int 10 t)) := ⟨tkO (PySem.W.nsIn (K33 w.params) mainGlobals "MOST_BASE"), by kernel_rfl⟩
    exact ⟨t, PySem.W.mg_of X G e⟩)
  size := (by
    obtain ⟨t, e⟩ : ∃ t, PySem.W.nsIn (K33 w.params) mainGlobals "MOST_SIZE" = some (some (.int 6 t)) := ⟨tkO (PySem.W.nsIn (K33 w.params) mainGlobals "MOST_SIZE"), by kernel_rfl⟩
    exact ⟨t, PySem.W.mg_of X G e⟩)
  unb := (by
    obtain ⟨t, e⟩ : ∃ t, PySem.W.nsIn (K33 w.params) mainGlobals "UNBOUNDED" = some (some (.str "*" t)) := ⟨tkO (PySem.W.nsIn (K33 w.params) mainGlobals "UNBOUNDED"), by kernel_rfl⟩
    exact ⟨t, PySem.W.mg_of X G e⟩)
theorem txRr : Tx.TxRr (K33 w.params) mg 509 516 where
  rKeep := PySem.W.mg_of X G (show PySem.W.nsIn (K33 w.params) mainGlobals "read_keep" = some (some (.ref 509)) by kernel_rfl)
  kRk := kp_read_keep _
  rCond := PySem.W.mg_of X G (show PySem.W.nsIn (K33 w.params) mainGlobals "read_condition" = some (some (.ref 516)) by kernel_rfl)
  kRc := kp_read_condition _
  tupN := PySem.W.mg_none_of X G (show PySem.W.nsIn (K33 w.params) mainGlobals "tuple" = some none by kernel_rfl)
  lenN := PySem.W.mg_none_of X G (show PySem.W.nsIn (K33 w.params) mainGlobals "len" = some none by kernel_rfl)
  mostC := (by
    obtain ⟨t, e⟩ : ∃ t, PySem.W.nsIn (K33 w.params) mainGlobals "MOST_CONDITIONS" = some (some (.int 3 t)) := ⟨tkO (PySem.W.nsIn (K33 w.params) mainGlobals "MOST_CONDITIONS"), by kernel_rfl⟩
    exact ⟨t, PySem.W.mg_of X G e⟩)
theorem txRs : Tx.TxRs (K33 w.params) mg 502 523 424 491 where
  rBase := PySem.W.mg_of X G (show PySem.W.nsIn (K33 w.params) mainGlobals "read_base" = some (some (.ref 502)) by kernel_rfl)
  kRb := kp_read_base _
  rRule := PySem.W.mg_of X G (show PySem.W.nsIn (K33 w.params) mainGlobals "read_rule" = some (some (.ref 523)) by kernel_rfl)
  kRr := kp_read_rule _
  style := PySem.W.mg_of X G (show PySem.W.nsIn (K33 w.params) mainGlobals "Style" = some (some (.ref 424)) by kernel_rfl)
  words := PySem.W.mg_of X G (show PySem.W.nsIn (K33 w.params) mainGlobals "Words" = some (some (.ref 491)) by kernel_rfl)
  isi := PySem.W.mg_none_of X G (show PySem.W.nsIn (K33 w.params) mainGlobals "isinstance" = some none by kernel_rfl)
  str := PySem.W.mg_none_of X G (show PySem.W.nsIn (K33 w.params) mainGlobals "str" = some none by kernel_rfl)
  len := PySem.W.mg_none_of X G (show PySem.W.nsIn (K33 w.params) mainGlobals "len" = some none by kernel_rfl)
  enum := PySem.W.mg_none_of X G (show PySem.W.nsIn (K33 w.params) mainGlobals "enumerate" = some none by kernel_rfl)
  mostR := (by
    obtain ⟨t, e⟩ : ∃ t, PySem.W.nsIn (K33 w.params) mainGlobals "MOST_RULES" = some (some (.int 8 t)) := ⟨tkO (PySem.W.nsIn (K33 w.params) mainGlobals "MOST_RULES"), by kernel_rfl⟩
    exact ⟨t, PySem.W.mg_of X G e⟩)
theorem sc_Style_base : FnScope ["self"] ["self"] (defScope (inClass (top 41) 2)) := ⟨rfl, rfl, rfl, by decide +kernel, rfl, by decide +kernel, by decide +kernel⟩
theorem f_Style_base : FnOk P33 w (K33 w.params) mg base CX0 1 328 (fd_Style_base w.params) ["self"] (getSp 424 "stored_base") := fn_getter (N := ["self"]) (lk_Style_base _) (cd_Style_base _) (sc_Style_base X G) rfl rfl (cl_Style _) (na_Style_stored_base _)
theorem sc_Style_rules : FnScope ["self"] ["self"] (defScope (inClass (top 41) 3)) := ⟨rfl, rfl, rfl, by decide +kernel, rfl, by decide +kernel, by decide +kernel⟩
theorem f_Style_rules : FnOk P33 w (K33 w.params) mg base CX0 1 336 (fd_Style_rules w.params) ["self"] (getSp 424 "stored_rules") := fn_getter (N := ["self"]) (lk_Style_rules _) (cd_Style_rules _) (sc_Style_rules X G) rfl rfl (cl_Style _) (na_Style_stored_rules _)
theorem mgStyle : mg "Style" = some (.ref 424) := PySem.W.mg_of X G (show PySem.W.nsIn (K33 w.params) mainGlobals "Style" = some (some (.ref 424)) by kernel_rfl)
theorem f_is_integer : FnOk P33 w (K33 w.params) mg base CX0 1 146 (fd_is_integer w.params) ["value"] (spIsInt (K33 w.params)) := Dg.ok_isInt (fn_is_integer _) (txG X G)
theorem f_is_number : FnOk P33 w (K33 w.params) mg base CX0 2 153 (fd_is_number w.params) ["value"] (spIsNum (K33 w.params)) := Dg.ok_isNum (fn_is_number _) ((f_is_integer X G).mono (by decide)) (bd_is_integer _) (txI X G)
theorem f_need_number : FnOk P33 w (K33 w.params) mg base (L2.CX P33 w) 3 172 (fd_need_number w.params) ["number"] (spNeed (Nm (K33 w.params)) (ca33 2)) := Dg.ok_needN (ca := ca33) (fn_need_number _) ((f_is_number X G).mono (by decide)) (bd_is_number _) (PySem.W.mg_of X G (show PySem.W.nsIn (K33 w.params) mainGlobals "is_number" = some (some (.ref 153)) by kernel_rfl)) (kp_is_number _) (txG X G) (mk2 _) (PySem.W.mg_of X G (show PySem.W.nsIn (K33 w.params) mainGlobals "BadNumber" = some (some (.ref 74)) by kernel_rfl))
theorem f_need_base : FnOk P33 w (K33 w.params) mg base (L2.CX P33 w) 2 165 (fd_need_base w.params) ["base"] (spNeed (Bs (K33 w.params)) (ca33 1)) := Dg.ok_needB (ca := ca33) (fn_need_base _) ((f_is_integer X G).mono (by decide)) (bd_is_integer _) (txI X G) (mk1 _) (PySem.W.mg_of X G (show PySem.W.nsIn (K33 w.params) mainGlobals "BadBase" = some (some (.ref 53)) by kernel_rfl))
theorem f_digits : FnOk P33 w (K33 w.params) mg base (L2.CX P33 w) 4 186 (fd_digits w.params) ["base", "number"] (spDigits (K33 w.params) ca33) := Dg.ok_digits (ca := ca33) (fn_digits _) ((f_need_base X G).mono (by decide)) (bd_need_base _) ((f_need_number X G).mono (by decide)) (bd_need_number _) (txF X G)
theorem f_length : FnOk P33 w (K33 w.params) mg base (L2.CX P33 w) 5 193 (fd_length w.params) ["base", "number"] (spLength (K33 w.params) ca33) := Dg.ok_length (ca := ca33) (fn_length _) ((f_digits X G).mono (by decide)) (bd_digits _) (txF X G)
theorem f_is_figures : FnOk P33 w (K33 w.params) mg base CX0 1 158 (fd_is_figures w.params) ["base", "value", "most"] (spIsFig (K33 w.params)) := Dg.ok_isFig (fn_is_figures _) (txG X G) (PySem.W.mg_none_of X G (show PySem.W.nsIn (K33 w.params) mainGlobals "all" = some none by kernel_rfl))
theorem f_l_mixed : FnOk P33 w (K33 w.params) mg base CX0 1 535 (fd_l_mixed w.params) ["cell", "k"] Dr.spMixed := Dr.ok_mixed (fn_l_mixed _) (txB X G)
theorem f_l_begin : FnOk P33 w (K33 w.params) mg base CX0 1 540 (fd_l_begin w.params) ["script"] (Dr.spBegin (K33 w.params)) := Dr.ok_begin (fn_l_begin _) (txB X G)
theorem f_l_draw : FnOk P33 w (K33 w.params) mg base CX0 2 547 (fd_l_draw w.params) ["state", "many"] Dr.spDraw := Dr.ok_draw (fn_l_draw _) (fn_l_mixed _) (bd_l_mixed _) (txD X G)
theorem f_need_range : FnOk P33 w (K33 w.params) mg base (L2.CX P33 w) 3 179 (fd_need_range w.params) ["first", "second"] (spNeedR (K33 w.params) ca33) := Dg.ok_needR (ca := ca33) (fn_need_range _) ((f_is_number X G).mono (by decide)) (bd_is_number _) (txF3 X G) (mk4 _) (PySem.W.mg_of X G (show PySem.W.nsIn (K33 w.params) mainGlobals "BadRange" = some (some (.ref 95)) by kernel_rfl))
theorem f_changed : FnOk P33 w (K33 w.params) mg base (L2.CX P33 w) 4 200 (fd_changed w.params) ["base", "first", "second"] (spRng (K33 w.params) ca33 ChgIs) := Dg.ok_changed (ca := ca33) (fn_changed _) ((f_need_base X G).mono (by decide)) (bd_need_base _) ((f_need_range X G).mono (by decide)) (bd_need_range _) (txF3 X G)
theorem f_near : FnOk P33 w (K33 w.params) mg base (L2.CX P33 w) 4 207 (fd_near w.params) ["base", "first", "second"] (spRng (K33 w.params) ca33 fun β f s m => NearIs β (s - f) m) := Dg.ok_near (ca := ca33) (fn_near _) ((f_need_base X G).mono (by decide)) (bd_need_base _) ((f_need_range X G).mono (by decide)) (bd_need_range _) (txF3 X G)
theorem f_is_size : FnOk P33 w (K33 w.params) mg base CX0 2 214 (fd_is_size w.params) ["value", "least"] spSize := Dt.ok_size (fn_is_size _) ((f_is_integer X G).mono (by decide)) (bd_is_integer _) (txI X G) (by
    obtain ⟨t, e⟩ : ∃ t, PySem.W.nsIn (K33 w.params) mainGlobals "MOST_SIZE" = some (some (.int 6 t)) := ⟨tkO (PySem.W.nsIn (K33 w.params) mainGlobals "MOST_SIZE"), by kernel_rfl⟩
    exact ⟨t, PySem.W.mg_of X G e⟩)
theorem f_are_bounds : FnOk P33 w (K33 w.params) mg base CX0 3 221 (fd_are_bounds w.params) ["least", "most"] spBounds := Dt.ok_bounds (fn_are_bounds _) ((f_is_size X G).mono (by decide)) (bd_is_size _) (txR X G)
theorem f_begins : FnOk P33 w (K33 w.params) mg base CX0 1 228 (fd_begins w.params) ["value", "word", "many"] spBegins := Dt.ok_begins (fn_begins _) (txR X G)
theorem f_is_condition : FnOk P33 w (K33 w.params) mg base CX0 4 235 (fd_is_condition w.params) ["base", "value"] spCond := Dt.ok_cond (fn_is_condition _) ((f_is_figures X G).mono (by decide)) (bd_is_figures _) ((f_is_size X G).mono (by decide)) (bd_is_size _) ((f_are_bounds X G).mono (by decide)) (bd_are_bounds _) ((f_begins X G).mono (by decide)) (bd_begins _) (txR X G)
theorem f_is_keep : FnOk P33 w (K33 w.params) mg base CX0 3 242 (fd_is_keep w.params) ["value"] spKeep := Dt.ok_keep (fn_is_keep _) ((f_is_size X G).mono (by decide)) (bd_is_size _) ((f_begins X G).mono (by decide)) (bd_begins _) (txR X G)
theorem f_is_rule : FnOk P33 w (K33 w.params) mg base (L2.CX P33 w) 5 247 (fd_is_rule w.params) ["base", "value"] (spRule (K33 w.params) ca33) := Dt.ok_rule (ca := ca33) (fn_is_rule _) ((f_need_base X G).mono (by decide)) (bd_need_base _) ((f_is_condition X G).mono (by decide)) (bd_is_condition _) ((f_is_keep X G).mono (by decide)) (bd_is_keep _) (txR X G)
theorem f_l_keep : FnOk P33 w (K33 w.params) mg base CX0 3 561 (fd_l_keep w.params) ["state", "most"] spLKeep := Dt.ok_lkeep (fn_l_keep _) ((f_l_draw X G).mono (by decide)) (bd_l_draw _) (txO X G)
theorem f_l_condition : FnOk P33 w (K33 w.params) mg base CX0 3 554 (fd_l_condition w.params) ["state", "base", "most"] spLCond := Dt.ok_lcond (fn_l_condition _) ((f_l_draw X G).mono (by decide)) (bd_l_draw _) (txO X G) (PySem.W.mg_none_of X G (show PySem.W.nsIn (K33 w.params) mainGlobals "range" = some none by kernel_rfl)) (PySem.W.mg_none_of X G (show PySem.W.nsIn (K33 w.params) mainGlobals "min" = some none by kernel_rfl))
theorem f_l_rules : FnOk P33 w (K33 w.params) mg base CX0 4 566 (fd_l_rules w.params) ["state", "base", "most", "many"] spLRules := Dt.ok_lrules (fn_l_rules _) ((f_l_draw X G).mono (by decide)) (bd_l_draw _) (txO X G) ((f_l_condition X G).mono (by decide)) (bd_l_condition _) (PySem.W.mg_of X G (show PySem.W.nsIn (K33 w.params) mainGlobals "_law_condition" = some (some (.ref 554)) by kernel_rfl)) (kp_l_condition _) ((f_l_keep X G).mono (by decide)) (bd_l_keep _) (PySem.W.mg_of X G (show PySem.W.nsIn (K33 w.params) mainGlobals "_law_keep" = some (some (.ref 561)) by kernel_rfl)) (kp_l_keep _) (PySem.W.mg_none_of X G (show PySem.W.nsIn (K33 w.params) mainGlobals "range" = some none by kernel_rfl)) (PySem.W.mg_none_of X G (show PySem.W.nsIn (K33 w.params) mainGlobals "tuple" = some none by kernel_rfl))
theorem f_need_rules : FnOk P33 w (K33 w.params) mg base (L2.CX P33 w) 6 254 (fd_need_rules w.params) ["base", "rules"] (spNeedRules ca33) := Dt.ok_needRules (ca := ca33) (fn_need_rules _) ((f_is_rule X G).mono (by decide)) (bd_is_rule _) (mk5 _) (txY X G)
theorem f_plain_rule : FnOk P33 w (K33 w.params) mg base CX0 1 266 (fd_plain_rule w.params) ["rule"] spPlain := Dt.ok_plain (ca := ca33) (fn_plain_rule _) (txY X G)
theorem f_Style___init__ : FnR P33 w (K33 w.params) mg base (L2.CX P33 w) 7 311 (spInitR (K33 w.params) 424 ca33) := Dt.ok_init (ca := ca33) (lk_Style___init__ _) (cd_Style___init__ _) (cl_Style _) (na_Style_stored_base _) (na_Style_stored_rules _) ((f_need_base X G).mono (by decide)) (bd_need_base _) ((f_need_rules X G).mono (by decide)) (bd_need_rules _) ((f_plain_rule X G).mono (by decide)) (bd_plain_rule _) (txY X G)
theorem f_Style_of : FnOk P33 w (K33 w.params) mg base (L2.CX P33 w) 9 318 (fd_Style_of w.params) ["cls", "base", "rules"] (spOfS (K33 w.params) 424 ca33) := Dt.ok_ofS (ca := ca33) (fn_Style_of _) (mk_Style _) (f_Style___init__ X G) ((f_need_base X G).mono (by decide)) (bd_need_base _) (mk5 _) (txY X G)
theorem f_Style___eq__ : FnOk P33 w (K33 w.params) mg base CX0 2 400 (fd_Style___eq__ w.params) ["self", "other"] (spEqI 424) := Dt.ok_eqI (ca := ca33) (fn_Style___eq__ _) (ic_Style _) (txN X G)
theorem f_facts_of : FnOk P33 w (K33 w.params) mg base (L2.CX P33 w) 6 273 (fd_facts_of w.params) ["base", "first", "second"] (spFacts (K33 w.params) ca33) := Dg.ok_facts (ca := ca33) (fn_facts_of _) ((f_need_range X G).mono (by decide)) (bd_need_range _) ((f_digits X G).mono (by decide)) (bd_digits _) ((f_near X G).mono (by decide)) (bd_near _) ((f_length X G).mono (by decide)) (bd_length _) ((f_changed X G).mono (by decide)) (bd_changed _) (txFa X G)
theorem f_holds : FnOk P33 w (K33 w.params) mg base CX0 1 280 (fd_holds w.params) ["condition", "facts"] spHolds := Dt.ok_holds (fn_holds _)
theorem f_first_applying : FnOk P33 w (K33 w.params) mg base CX0 2 285 (fd_first_applying w.params) ["rules", "facts"] spFirst := Dt.ok_first (fn_first_applying _) ((f_holds X G).mono (by decide)) (bd_holds _) (txW X G)
theorem f_many_kept : FnOk P33 w (K33 w.params) mg base CX0 1 292 (fd_many_kept w.params) ["keep", "facts"] spMany := Dt.ok_many (fn_many_kept _) (txW X G)
theorem f_written : FnOk P33 w (K33 w.params) mg base CX0 3 299 (fd_written w.params) ["rules", "facts"] spWritten := Dt.ok_written (fn_written _) ((f_first_applying X G).mono (by decide)) (bd_first_applying _) ((f_many_kept X G).mono (by decide)) (bd_many_kept _) (txW X G)
theorem f_Style_kept : FnOk P33 w (K33 w.params) mg base (L2.CX P33 w) 7 351 (fd_Style_kept w.params) ["self", "first", "second"] (spM (K33 w.params) 424 ca33 fun β f s Ds => .int (keptD β f s Ds : Int)) := Dt.ok_keptOf (ca := ca33) (fn_Style_kept _) ((f_written X G).mono (by decide)) (bd_written _) ((f_facts_of X G).mono (by decide)) (bd_facts_of _) (txM X G)
theorem f_Style_tail : FnOk P33 w (K33 w.params) mg base (L2.CX P33 w) 8 358 (fd_Style_tail w.params) ["self", "first", "second"] (spM (K33 w.params) 424 ca33 fun β f s Ds => .str (tailD β f s Ds)) := Dt.ok_tailOf (ca := ca33) (fn_Style_tail _) (mt_Style_kept _) ((f_Style_kept X G).mono (by decide)) (bd_Style_kept _) ((f_digits X G).mono (by decide)) (bd_digits _) (txM X G)
theorem f_Style___call__ : FnOk P33 w (K33 w.params) mg base (L2.CX P33 w) 9 365 (fd_Style___call__ w.params) ["self", "first", "second"] (spM (K33 w.params) 424 ca33 fun β f s Ds => .str (formD β f s Ds)) := Dt.ok_callOf (ca := ca33) (fn_Style___call__ _) (mt_Style_tail _) ((f_Style_tail X G).mono (by decide)) (bd_Style_tail _) ((f_digits X G).mono (by decide)) (bd_digits _) (txM X G)
theorem f_words_of : FnOk P33 w (K33 w.params) mg base CX0 1 433 (fd_words_of w.params) ["part"] Tx.spWordsOf := Tx.ok_wordsOf (fn_words_of _) (txTx X G)
theorem f_rule_text : FnOk P33 w (K33 w.params) mg base CX0 2 438 (fd_rule_text w.params) ["rule"] Tx.spRuleText := Tx.ok_ruleText (fn_rule_text _) ((f_words_of X G).mono (by decide)) (bd_words_of _) (txTx X G)
theorem f_style_text : FnOk P33 w (K33 w.params) mg base CX0 3 443 (fd_style_text w.params) ["style"] (Tx.spStyleText 424) := Tx.ok_styleText (fn_style_text _) ((f_rule_text X G).mono (by decide)) (bd_rule_text _) (pr_Style_base _) ((f_Style_base X G).mono (by decide)) (bd_Style_base _) (pr_Style_rules _) ((f_Style_rules X G).mono (by decide)) (bd_Style_rules _) (txTx X G)
theorem f_l_words : FnOk P33 w (K33 w.params) mg base CX0 1 571 (fd_l_words w.params) ["rule"] Tx.spLWords := Tx.ok_lwords (fn_l_words _) (PySem.W.mg_none_of X G (show PySem.W.nsIn (K33 w.params) mainGlobals "str" = some none by kernel_rfl)) (PySem.W.mg_none_of X G (show PySem.W.nsIn (K33 w.params) mainGlobals "int" = some none by kernel_rfl))
theorem f_l_text : FnOk P33 w (K33 w.params) mg base CX0 2 576 (fd_l_text w.params) ["base", "rules"] Tx.spLText := Tx.ok_ltext (fn_l_text _) ((f_l_words X G).mono (by decide)) (bd_l_words _) (PySem.W.mg_of X G (show PySem.W.nsIn (K33 w.params) mainGlobals "_law_words" = some (some (.ref 571)) by kernel_rfl)) (kp_l_words _) (PySem.W.mg_none_of X G (show PySem.W.nsIn (K33 w.params) mainGlobals "str" = some none by kernel_rfl))
theorem f_numerals : FnOk P33 w (K33 w.params) mg base CX0 1 448 (fd_numerals w.params) ["least", "most"] Tx.spNums := Tx.ok_numerals (fn_numerals _) (PySem.W.mg_none_of X G (show PySem.W.nsIn (K33 w.params) mainGlobals "str" = some none by kernel_rfl)) (PySem.W.mg_none_of X G (show PySem.W.nsIn (K33 w.params) mainGlobals "range" = some none by kernel_rfl))
theorem f_Words_are_over : FnOk P33 w (K33 w.params) mg base CX0 1 474 (fd_Words_are_over w.params) ["self"] (Tx.spOver 491) := Tx.ok_wover (fn_Words_are_over _) (txWd X G)
theorem f_Words_take : FnOk P33 w (K33 w.params) mg base CX0 2 481 (fd_Words_take w.params) ["self", "fit"] (Tx.spTake 491 (K33 w.params)) := Tx.ok_wtake (fn_Words_take _) (mt_Words_are_over _) ((f_Words_are_over X G).mono (by decide)) (bd_Words_are_over _) (txWd X G)
theorem f_Words_need_end : FnOk P33 w (K33 w.params) mg base CX0 2 488 (fd_Words_need_end w.params) ["self"] (Tx.spWEnd 491) := Tx.ok_wend (fn_Words_need_end _) (mt_Words_are_over _) ((f_Words_are_over X G).mono (by decide)) (bd_Words_are_over _) (txWd X G)
theorem f_Words___init__ : FnOk P33 w (K33 w.params) mg base CX0 1 467 (fd_Words___init__ w.params) ["self", "line", "text"] (Tx.spWInit 491) := Tx.ok_winit (fn_Words___init__ _) (txWd X G)
theorem f_endings : FnOk P33 w (K33 w.params) mg base CX0 1 453 (fd_endings w.params) ["base"] Tx.spEnds := Tx.ok_endings (fn_endings _) (PySem.W.mg_none_of X G (show PySem.W.nsIn (K33 w.params) mainGlobals "list" = some none by kernel_rfl)) (by
    obtain ⟨t, e⟩ : ∃ t, PySem.W.nsIn (K33 w.params) mainGlobals "FIGURES" = some (some (.str "0123456789" t)) := ⟨tkO (PySem.W.nsIn (K33 w.params) mainGlobals "FIGURES"), by kernel_rfl⟩
    exact ⟨t, PySem.W.mg_of X G e⟩)
theorem f_read_base : FnOk P33 w (K33 w.params) mg base CX0 3 502 (fd_read_base w.params) ["words"] (Tx.spRdBase 491) := Tx.ok_rdBase (fn_read_base _) (mt_Words_take _) ((f_Words_take X G).mono (by decide)) (bd_Words_take _) (mt_Words_need_end _) ((f_Words_need_end X G).mono (by decide)) (bd_Words_need_end _) ((f_numerals X G).mono (by decide)) (bd_numerals _) (txWd X G) (txRd X G)
theorem f_read_keep : FnOk P33 w (K33 w.params) mg base CX0 3 509 (fd_read_keep w.params) ["words"] (Tx.spRdKeep 491) := Tx.ok_rdKeep (fn_read_keep _) (mt_Words_take _) ((f_Words_take X G).mono (by decide)) (bd_Words_take _) ((f_numerals X G).mono (by decide)) (bd_numerals _) (txWd X G) (txRd X G)
theorem f_read_condition : FnOk P33 w (K33 w.params) mg base CX0 3 516 (fd_read_condition w.params) ["base", "words"] (Tx.spRdCond 491) := Tx.ok_rdCond (fn_read_condition _) (mt_Words_take _) ((f_Words_take X G).mono (by decide)) (bd_Words_take _) ((f_numerals X G).mono (by decide)) (bd_numerals _) ((f_endings X G).mono (by decide)) (bd_endings _) (txWd X G) (txRd X G)
theorem f_read_rule : FnOk P33 w (K33 w.params) mg base CX0 4 523 (fd_read_rule w.params) ["base", "words"] (Tx.spRdRule 491) := Tx.ok_rdRule (fn_read_rule _) (mt_Words_take _) ((f_Words_take X G).mono (by decide)) (bd_Words_take _) (mt_Words_need_end _) ((f_Words_need_end X G).mono (by decide)) (bd_Words_need_end _) (mt_Words_are_over _) ((f_Words_are_over X G).mono (by decide)) (bd_Words_are_over _) ((f_read_keep X G).mono (by decide)) (bd_read_keep _) ((f_read_condition X G).mono (by decide)) (bd_read_condition _) (txWd X G) (txRr X G)
theorem f_read_style : FnOk P33 w (K33 w.params) mg base (L2.CX P33 w) 10 528 (fd_read_style w.params) ["text"] (Tx.spRdStyle 424) := Tx.ok_rdStyle (ca := ca33) (fn_read_style _) (mk_Words _) ((f_Words___init__ X G).mono (by decide)) (bd_Words___init__ _) ((f_read_base X G).mono (by decide)) (bd_read_base _) ((f_read_rule X G).mono (by decide)) (bd_read_rule _) (cr_Style _) (cm_Style_of _) ((f_Style_of X G).mono (by decide)) (bd_Style_of _) (txRs X G)
end
end KH33

namespace KH33
open PySem L2 Evl Dg Dt LamR LamX TL StX ClX Tx
open Dr (StAt SameB)
abbrev sLaw : Stmt := top 64
abbrev nLaw : List Str := ["script", "state", "before", "text", "turn", "base", "rules", "style", "told", "pages"]
theorem scLaw : FnScope nLaw ["script"] (defScope sLaw) := ⟨rfl, rfl, rfl, by decide +kernel, rfl, by decide +kernel, by decide +kernel⟩
def inLaw (i : Nat) : Stmt := (defBody sLaw).getD i (.Pass ⟨0, 0, 0, 0⟩)
/-- a statement of the law's loop, by its place -/
def inLoop (i : Nat) : Stmt := match inLaw 2 with
  | .For _ _ b _ _ => b.getD i (.Pass ⟨0, 0, 0, 0⟩)
  | s => s
noncomputable abbrev XL (w : World) (mg : Str → Option Value) (base : Heap) (A : Around) (outer : List Env) (s : Shared) (H : Hp) (E : XK) : Cx := (cxOf CX0 P33 w (K33 w.params) mg base nLaw "law" (defScope sLaw) 583 (.ref 582) A outer s H E).nox
structure TxL (mg : Str → Option Value) : Prop where
  l_begin : mg "_law_begin" = some (.ref 540)
  l_draw : mg "_law_draw" = some (.ref 547)
  l_rules : mg "_law_rules" = some (.ref 566)
  l_text : mg "_law_text" = some (.ref 576)
  read_style : mg "read_style" = some (.ref 528)
  style_text : mg "style_text" = some (.ref 443)
  isinstance : mg "isinstance" = none
  len : mg "len" = none
  min : mg "min" = none
  range : mg "range" = none
  repr : mg "repr" = none
structure Rm (w : World) (mg : Str → Option Value) (base : Heap) (A : Around) (outer : List Env) (s : Shared) (H : Hp) (E : XK) : Prop where
  hr : RoomG 16 (XL w mg base A outer s H E).A
  hu64 : (XL w mg base A outer s H E).A.units + 64 < cLine
theorem due_rls {β : Nat} {Ds : List PyData} (h : Rls β Ds) (h8 : Ds.length ≤ 8) : RowS β Ds ∧ lastC Ds = false ∧ dueD β Ds = none := by
  have ha := h.all
  obtain ⟨Es, k, rfl, hk, he⟩ := h
  have hl : lastC (Es ++ [.tuple [.tuple [], k]]) = false := by
    unfold lastC
    rw [List.getLastD_eq_getLast?, List.getLast?_append]
    rfl
  have h1 : 1 ≤ (Es ++ [PyData.tuple [.tuple [], k]]).length := by
    rw [List.length_append]
    exact Nat.le_add_left _ _
  refine ⟨⟨h1, h8, ha⟩, hl, ?_⟩
  rw [due_last ⟨h1, h8⟩ ha, hl]
  rfl
/-- the rules that are drawn -/
structure Rn (H : Hp) (vr : V) (β : Nat) (Ds : List PyData) : Prop where
  b2 : 2 ≤ β
  b10 : β ≤ 10
  row : RowS β Ds
  due : dueD β Ds = none
  nl : noLs Ds = true
  k : Pt H vr (.tuple Ds)
/-- the style and its text from the turn before -/
structure Bf (H : Hp) (z : Addr) (γ : Nat) (Es : List PyData) : Prop where
  s : StyG H 424 z γ Es
/-- the turn's things -/
structure Tn (H : Hp) (vr : V) (x z : Addr) (β γ : Nat) (Ds Es : List PyData) : Prop where
  r : Rn H vr β Ds
  sty : StyG H 424 x β Ds
  bf : StyG H 424 z γ Es
theorem rd_drawI {σ : St} {H : Hp} {te : TE} {Q : VK} {p c l : Addr} {n i : Nat} {a m : Int} (h0 : σ[i]? = some (some (.ref p))) (hm : Ev te σ H (.int m)) (S : StAt H p c l n a) (nlc : l ≠ c) (ha : a < 2 ^ 39) (m0 : 0 < m) (m1 : m < 1073741824)
    (k : ∀ (r : Nat) (H' : Hp), (r : Int) < m → StAt H' p c l n (a + 1) → SameB H H' p l → Q (.int (r : Int)) H') : tCall Dr.spDraw [] E0 (tCons (tVar i) (tCons te tNil)) σ H Q :=
  ⟨_, h0, hm H (Ex.refl H) _ fun H2 e2 => ⟨p, c, l, n, a, m, rfl, S.ex e2, nlc, ha, m0, m1, fun r H' r0 r1 S' sb nn => by
    obtain ⟨ρ, rfl⟩ : ∃ ρ : Nat, r = ρ := ⟨r.toNat, by omega⟩
    exact k ρ H' r1 S' (sameB_trans (sameB_ex e2) sb)⟩⟩
section
variable {H H' : Hp} {vr : V} {x z : Addr} {β γ : Nat} {Ds Es : List PyData}
theorem Rn.ex (r : Rn H vr β Ds) (e : Ex H H') : Rn H' vr β Ds := ⟨r.b2, r.b10, r.row, r.due, r.nl, r.k.ex e⟩
theorem Tn.ex (t : Tn H vr x z β γ Ds Es) (e : Ex H H') : Tn H' vr x z β γ Ds Es := ⟨t.r.ex e, t.sty.ex e, t.bf.ex e⟩
theorem ev_styT {σ : St} {t0 : TE} {E : XK} (S : StyG H 424 x β Ds) (h0 : Ev t0 σ H (.ref x)) : Ev (tCall (spStyleText 424) [] E (tCons t0 tNil)) σ H (.str (styT β Ds)) :=
  ev_call (ea_cons h0 ea_nil) fun H1 e Q q E => ⟨x, β, Ds, rfl, (S.ex e).a, S.b10, S.all, S.len.2, fun H2 e2 => q H2 e2⟩
theorem ev_ltxt {σ : St} {t0 t1 : TE} {E : XK} (r : Rn H vr β Ds) (h0 : Ev t0 σ H (.int β)) (h1 : Ev t1 σ H vr) : Ev (tCall spLText [] E (tCons t0 (tCons t1 tNil))) σ H (.str (styT β Ds)) :=
  ev_call (ea_cons h0 (ea_cons h1 ea_nil)) fun H1 e Q q E => ⟨vr, Ds, β, rfl, r.k.ex e, r.b10, r.row.2.2, r.row.2.1, fun H2 e2 => q H2 e2⟩
theorem styT_lt (b10 : β ≤ 10) (h : Ds.all (ruleB β) = true) (h8 : Ds.length ≤ 8) : (∀ c ∈ tl (styT β Ds), c < 128) ∧ (styT β Ds).length ≤ 1000 := by
  refine ⟨fun c hc => ?_, (lines_sum b10 h h8).2⟩
  have lw : ∀ ws : List Str, (∀ w ∈ ws, ∀ c ∈ tl w, c < 128) → ∀ c ∈ tl (Txt.join " " ws), c < 128 := fun ws hw c hc => by
    rw [tl_joinT] at hc
    rcases Tx.mem_joinL hc with hc | ⟨l, hl, hc⟩
    · have e : tl (" " : Str) = [32] := by decide
      rw [e] at hc
      have := List.mem_singleton.mp hc
      omega
    · obtain ⟨w, hw', rfl⟩ := List.mem_map.mp hl
      exact hw w hw' c hc
  rw [styT_lines, lines_eq, tl_joinT] at hc
  rcases Tx.mem_joinL hc with hc | ⟨l, hl, hc⟩
  · have e : tl ("\n" : Str) = [10] := by decide
    rw [e] at hc
    have := List.mem_singleton.mp hc
    omega
  · obtain ⟨y, hy, rfl⟩ := List.mem_map.mp hl
    obtain ⟨ws, hws, rfl⟩ := List.mem_map.mp hy
    refine lw ws (fun w hw c2 hc2 => ?_) c hc
    rcases List.mem_cons.mp hws with rfl | hws
    · rcases List.mem_cons.mp hw with rfl | hw
      · exact ((word_ok (w := "base") (by simp)).2 c2 hc2).2
      · rw [List.mem_singleton.mp hw] at hc2
        exact ((num_ok β b10).2 c2 hc2).2
    · obtain ⟨d, hd, rfl⟩ := List.mem_map.mp hws
      exact (((ruleW_ok b10 (List.all_eq_true.mp h d hd)).2.2 w hw).2 c2 hc2).2
end
section
variable {w : World} {mg : Str → Option Value} {h base : Heap} (X : (K33 w.params).In h) (G : h.Ns mainGlobals mg) {A : Around} {outer : List Env} {s : Shared} {H0 : Hp} {E0 : XK} (R : Rm w mg base A outer s H0 E0) (L : TxL mg)
include X G R L
theorem row0 : ∃ t, PS (XL w mg base A outer s H0 E0) (inLoop 0) t ∧ ∀ (D : Ends) (H : Hp) (sc p cc l : Addr) (n : Nat) (a : Int) (x4 x5 x6 x7 x8 x9 : Option V) (z : Addr) (γ : Nat) (Es : List PyData), l ≠ cc → a + 2 < 2 ^ 39 → StAt H p cc l n a → StyG H 424 z γ Es → 
    (∀ (β : Nat) (H' : Hp), 2 ≤ β → β ≤ 10 → StAt H' p cc l n (a + 1) → StyG H' 424 z γ Es → D.nx [some (.ref sc), some (.ref p), some (.ref z), some (.str (styT γ Es)), x4, some (.int β), x6, x7, x8, x9] H') → t D [some (.ref sc), some (.ref p), some (.ref z), some (.str (styT γ Es)), x4, x5, x6, x7, x8, x9] H := by
  obtain ⟨hr, hu64⟩ := R
  refine ⟨_, (ps_set (i := 5) scLaw.nd rfl (.inl rfl) (pe_op op_add pe_int (pe_call (f_l_draw X G) (hr.r.mono (by decide)) (by rfl) L.l_draw (kp_l_draw _) (bd_l_draw _) .nil pass0 (pa_cons (pv 1) (pa_cons pe_int pa_nil))))), fun D H sc p cc l n a x4 x5 x6 x7 x8 x9 z γ Es nlc ha S Z q => ?_⟩
  refine rd_drawI (i := 1) (p := p) rfl ev_c S nlc (by omega) (by decide) (by decide) fun r H1 hr1 S1 sb1 => ⟨_, _, rfl, rfl, ?_⟩
  have h := q (2 + r) H1 (by omega) (by omega) S1 (Z.same S sb1)
  rw [show ((2 + r : Nat) : Int) = 2 + (r : Int) by omega] at h
  exact h
theorem row1 : ∃ t, PS (XL w mg base A outer s H0 E0) (inLoop 1) t ∧ ∀ (D : Ends) (H : Hp) (sc p cc l : Addr) (n : Nat) (a : Int) (x4 x6 x7 x8 x9 : Option V) (β : Nat) (z : Addr) (γ : Nat) (Es : List PyData), l ≠ cc → a + 20000 < 2 ^ 39 → StAt H p cc l n a → 2 ≤ β → β ≤ 10 → StyG H 424 z γ Es → 
    (∀ (vr : V) (Ds : List PyData) (b : Int) (H' : Hp), a ≤ b → b ≤ a + 1001 → StAt H' p cc l n b → Rn H' vr β Ds → StyG H' 424 z γ Es → D.nx [some (.ref sc), some (.ref p), some (.ref z), some (.str (styT γ Es)), x4, some (.int β), some (vr), x7, x8, x9] H') → t D [some (.ref sc), some (.ref p), some (.ref z), some (.str (styT γ Es)), x4, some (.int β), x6, x7, x8, x9] H := by
  obtain ⟨hr, hu64⟩ := R
  refine ⟨_, (ps_set (i := 6) scLaw.nd rfl (.inl rfl) (pe_call (f_l_rules X G) (hr.r.mono (by decide)) (by rfl) L.l_rules (kp_l_rules _) (bd_l_rules _) .nil pass0 (pa_cons (pv 1) (pa_cons (pv 5) (pa_cons pe_int (pa_cons pe_int pa_nil)))))), fun D H sc p cc l n a x4 x6 x7 x8 x9 β z γ Es nlc ha S b2 b10 Z q => ?_⟩
  refine ⟨_, rfl, _, rfl, p, cc, l, n, β, 6, 7, a, rfl, S, nlc, by omega, b2, b10, by decide, by decide, by decide, fun v Ds H2 b hR hl nl k ab ba S2 sb2 => ?_⟩
  obtain ⟨h1, h2, h3⟩ := due_rls hR (by omega)
  exact q v Ds b H2 (by omega) (by omega) S2 ⟨b2, b10, h1, h3, nl, k⟩ (Z.same S sb2)
theorem row2 : ∃ t, PS (XL w mg base A outer s H0 E0) (inLoop 2) t ∧ ∀ (D : Ends) (H : Hp) (sc p cc l : Addr) (n : Nat) (a : Int) (x4 x7 x8 x9 : Option V) (β : Nat) (vr : V) (Ds : List PyData) (z : Addr) (γ : Nat) (Es : List PyData), Rn H vr β Ds → StyG H 424 z γ Es → 
    (∀ (x : Addr) (H' : Hp), Ex H H' → Tn H' vr x z β γ Ds Es → D.nx [some (.ref sc), some (.ref p), some (.ref z), some (.str (styT γ Es)), x4, some (.int β), some (vr), some (.ref x), x8, x9] H') → t D [some (.ref sc), some (.ref p), some (.ref z), some (.str (styT γ Es)), x4, some (.int β), some (vr), x7, x8, x9] H := by
  obtain ⟨hr, hu64⟩ := R
  refine ⟨_, (ps_set (i := 7) scLaw.nd rfl (.inl rfl) (pe_cmeth (pe_glob (by rfl) (mgStyle X G) (v := .ref 424) rfl) (cr_Style _) (cm_Style_of _) ((f_Style_of X G).raw (bd_Style_of _) .nil) (hr.r.mono (by decide)) (fun pins σ H s e s' I c => passAt L2.takes0 σ pins H s e s' I c) (pa_cons (pv 5) (pa_cons (pv 6) pa_nil)))), fun D H sc p cc l n a x4 x7 x8 x9 β vr Ds z γ Es r Z q => ?_⟩
  refine ⟨rfl, _, rfl, _, rfl, .int β, vr, .tuple Ds, true, rfl, bs_yes r.b2 r.b10, r.k, (by show Ds.length ≤ 100000; have := r.row.2.1; omega), (fun z => nomatch z), fun _ => ⟨β, rfl, r.b2, r.b10, ⟨fun pl h => (by rw [show dueO β (.tuple Ds) = dueD β Ds from rfl, r.due] at h; cases h), fun _ x H1 e1 sty => ?_⟩⟩⟩
  exact q x H1 e1 ⟨r.ex e1, ⟨sty, r.b2, r.b10, r.due⟩, Z.ex e1⟩
theorem row3 : ∃ t, PS (XL w mg base A outer s H0 E0) (inLoop 3) t ∧ ∀ (D : Ends) (H : Hp) (sc p cc l : Addr) (n : Nat) (a : Int) (x4 x8 x9 : Option V) (β : Nat) (vr : V) (x : Addr) (Ds : List PyData) (z : Addr) (γ : Nat) (Es : List PyData), Tn H vr x z β γ Ds Es → 
    (∀ (H' : Hp), Ex H H' → D.nx [some (.ref sc), some (.ref p), some (.ref z), some (.str (styT γ Es)), x4, some (.int β), some (vr), some (.ref x), x8, x9] H') → t D [some (.ref sc), some (.ref p), some (.ref z), some (.str (styT γ Es)), x4, some (.int β), some (vr), some (.ref x), x8, x9] H := by
  obtain ⟨hr, hu64⟩ := R
  refine ⟨_, (ps_if (pt_cmpR op_ne (pe_callB (id := "repr") (r := rReprJ (K33 w.params)) (call_reprJ hr.g hu64) (by rfl) L.repr (by decide +kernel) (pa_cons (pe_call (f_style_text X G) (hr.r.mono (by decide)) (by rfl) L.style_text (kp_style_text _) (bd_style_text _) .nil pass0 (pa_cons (pv 7) pa_nil)) pa_nil)) (pe_callB (id := "repr") (r := rReprJ (K33 w.params)) (call_reprJ hr.g hu64) (by rfl) L.repr (by decide +kernel) (pa_cons (pe_call (f_l_text X G) (hr.r.mono (by decide)) (by rfl) L.l_text (kp_l_text _) (bd_l_text _) .nil pass0 (pa_cons (pv 5) (pa_cons (pv 6) pa_nil))) pa_nil)) (nomark _)) (pss_one (ps_ret pe_bl)) pss_nil), fun D H sc p cc l n a x4 x8 x9 β vr x Ds z γ Es t q => ?_⟩
  obtain ⟨c1, c2⟩ := styT_lt t.r.b10 t.r.row.2.2 t.r.row.2.1
  exact s_when (b := false) (et_is (et_test (ev_op (ev_reprT (n := 1000) (ev_styT t.sty (ev_var rfl)) c1 c2 (by decide)) (ev_reprT (n := 1000) (ev_ltxt t.r (ev_var rfl) (ev_var rfl)) c1 c2 (by decide)) (rv_ne rfl))) (by simp)) (fun z => nomatch z) fun _ H2 e2 => q H2 e2
theorem row4 : ∃ t, PS (XL w mg base A outer s H0 E0) (inLoop 4) t ∧ ∀ (D : Ends) (H : Hp) (sc p cc l : Addr) (n : Nat) (a : Int) (x4 x8 x9 : Option V) (β : Nat) (vr : V) (x : Addr) (Ds : List PyData) (z : Addr) (γ : Nat) (Es : List PyData), Tn H vr x z β γ Ds Es → 
    (∀ (y : Addr) (H' : Hp), Ex H H' → StyG H' 424 y β Ds → D.nx [some (.ref sc), some (.ref p), some (.ref z), some (.str (styT γ Es)), x4, some (.int β), some (vr), some (.ref x), some (.ref y), x9] H') → t D [some (.ref sc), some (.ref p), some (.ref z), some (.str (styT γ Es)), x4, some (.int β), some (vr), some (.ref x), x8, x9] H := by
  obtain ⟨hr, hu64⟩ := R
  refine ⟨_, (ps_set (i := 8) scLaw.nd rfl (.inl rfl) (pe_call (f_read_style X G) (hr.r.mono (by decide)) (by rfl) L.read_style (kp_read_style _) (bd_read_style _) .nil (fun pins σ H s e s' I c => passAt L2.takes0 σ pins H s e s' I c) (pa_cons (pe_call (f_l_text X G) (hr.r.mono (by decide)) (by rfl) L.l_text (kp_l_text _) (bd_l_text _) .nil pass0 (pa_cons (pv 5) (pa_cons (pv 6) pa_nil))) pa_nil))), fun D H sc p cc l n a x4 x8 x9 β vr x Ds z γ Es t q => ?_⟩
  refine ev_ltxt t.r (ev_var rfl) (ev_var rfl) H (Ex.refl H) _ fun H1 e1 => ⟨β, Ds, rfl, t.r.b2, t.r.b10, t.r.due, fun y H2 e2 sty => ?_⟩
  exact q y H2 (e1.trans e2) ⟨sty, t.r.b2, t.r.b10, t.r.due⟩
theorem row5 : ∃ t, PS (XL w mg base A outer s H0 E0) (inLoop 5) t ∧ ∀ (D : Ends) (H : Hp) (sc p cc l : Addr) (n : Nat) (a : Int) (x4 x9 : Option V) (β : Nat) (vr : V) (x : Addr) (Ds : List PyData) (z : Addr) (γ : Nat) (Es : List PyData) (y : Addr), Tn H vr x z β γ Ds Es → StyG H 424 y β Ds → 
    (∀ (H' : Hp), Ex H H' → D.nx [some (.ref sc), some (.ref p), some (.ref z), some (.str (styT γ Es)), x4, some (.int β), some (vr), some (.ref x), some (.ref y), x9] H') → t D [some (.ref sc), some (.ref p), some (.ref z), some (.str (styT γ Es)), x4, some (.int β), some (vr), some (.ref x), some (.ref y), x9] H := by
  obtain ⟨hr, hu64⟩ := R
  refine ⟨_, (ps_if (PW.pt (pw_or (pt_not (pt_val (pe_callB (id := "isinstance") (r := rIsi (K33 w.params)) call_isi (by rfl) L.isinstance (by decide +kernel) (pa_cons (pv 8) (pa_cons (pe_glob (by rfl) (mgStyle X G) (v := .ref 424) rfl) pa_nil))))) (pw_or (pt_cmpR op_ne (pe_callB (id := "repr") (r := rReprJ (K33 w.params)) (call_reprJ hr.g hu64) (by rfl) L.repr (by decide +kernel) (pa_cons (pe_lst (pa_cons (pe_prop (pv 8) (cl_Style _) (pr_Style_base _) (f_Style_base X G) (hr.r.mono (by decide)) (bd_Style_base _) .nil pass0 rfl) (pa_cons (pe_prop (pv 8) (cl_Style _) (pr_Style_rules _) (f_Style_rules X G) (hr.r.mono (by decide)) (bd_Style_rules _) .nil pass0 rfl) pa_nil))) pa_nil)) (pe_callB (id := "repr") (r := rReprJ (K33 w.params)) (call_reprJ hr.g hu64) (by rfl) L.repr (by decide +kernel) (pa_cons (pe_lst (pa_cons (pv 5) (pa_cons (pv 6) pa_nil))) pa_nil)) (nomark _)) (pw_or1 (pt_not (pt_cmpR (r := rEqOwn (K33 w.params) 424 (spEqI 424) E0) (op_eqOwn (E := E0) (sp := spEqI 424) (at_Style___eq__ _) (is_Style___eq__ _) (fnr0 (f_Style___eq__ X G) (bd_Style___eq__ _)) (hr.r.mono (by decide)) pass0) (pv 8) (pv 7) (nomark _))))))) (pss_one (ps_ret pe_bl)) pss_nil), fun D H sc p cc l n a x4 x9 β vr x Ds z γ Es y t SY q => ?_⟩
  have tR := ts_rules t.r.b10 t.r.row.2.2 (by have := t.r.row.2.1; omega)
  have tL := ts_baseRules t.r.b10 tR
  have nk : noK (.list [.int (β : Int), .tuple Ds]) = true := by
    have := rules_noK t.r.row.2.2
    simp only [noK, noKs] at this ⊢
    simp [this]
  have eY : EvS 424 (tVar 8) [some (.ref sc), some (.ref p), some (.ref z), some (.str (styT γ Es)), x4, some (.int β), some (vr), some (.ref x), some (.ref y), x9] H β Ds := es_v (ev_var rfl) SY
  have eX : EvS 424 (tVar 7) [some (.ref sc), some (.ref p), some (.ref z), some (.str (styT γ Es)), x4, some (.int β), some (vr), some (.ref x), some (.ref y), x9] H β Ds := es_v (ev_var rfl) t.sty
  have eqD : PyData.eqv (.tuple Ds) (.tuple Ds) = true := (rules_eqv (β := β) (γ := β) t.r.row.2.2 t.r.row.2.2).mpr rfl
  refine s_when (b := false) (et_is (et_or (a := false) (b := false) (et_is (et_not (et_B (ev_isiSt (ic_Style _) (cl_Style _) eY))) rfl) fun _ => et_or (a := false) (b := false) (et_is (et_test (ev_op (ev_reprP (ep_lst (epa_cons (ep_v (ev_baseS eY) (.int _)) (epa_cons (ep_rulesS eY) epa_nil)) (by simp)) nk tL (by decide) (by decide)) (ev_reprP (ep_lst (epa_cons (ep_v (ev_var rfl) (.int _)) (epa_cons (ep_v (ev_var rfl) t.r.k) epa_nil)) (by simp)) nk tL (by decide) (by decide)) (rv_ne rfl))) (by simp)) fun _ => et_is (et_not (et_test (ev_eqS (ic_Style _) (cl_Style _) (nf_Style _) eY eX))) (by rw [eqD]; simp)) rfl) (fun z => nomatch z) fun _ H1 e1 => q H1 e1
theorem row6 : ∃ t, PS (XL w mg base A outer s H0 E0) (inLoop 6) t ∧ ∀ (D : Ends) (H : Hp) (sc p cc l : Addr) (n : Nat) (a : Int) (x4 x8 x9 : Option V) (β : Nat) (vr : V) (x : Addr) (Ds : List PyData) (z : Addr) (γ : Nat) (Es : List PyData), Tn H vr x z β γ Ds Es → 
    (∀ (H' : Hp), Ex H H' → D.nx [some (.ref sc), some (.ref p), some (.ref z), some (.str (styT γ Es)), x4, some (.int β), some (vr), some (.ref x), x8, x9] H') → t D [some (.ref sc), some (.ref p), some (.ref z), some (.str (styT γ Es)), x4, some (.int β), some (vr), some (.ref x), x8, x9] H := by
  obtain ⟨hr, hu64⟩ := R
  refine ⟨_, (ps_if (pt_cmpR op_ne (pe_cmpR op_eq (pe_call (f_style_text X G) (hr.r.mono (by decide)) (by rfl) L.style_text (kp_style_text _) (bd_style_text _) .nil pass0 (pa_cons (pv 7) pa_nil)) (pv 3) (nomark _)) (pe_cmpR (r := rEqOwn (K33 w.params) 424 (spEqI 424) E0) (op_eqOwn (E := E0) (sp := spEqI 424) (at_Style___eq__ _) (is_Style___eq__ _) (fnr0 (f_Style___eq__ X G) (bd_Style___eq__ _)) (hr.r.mono (by decide)) pass0) (pv 7) (pv 2) (nomark _)) (nomark _)) (pss_one (ps_ret pe_bl)) pss_nil), fun D H sc p cc l n a x4 x8 x9 β vr x Ds z γ Es t q => ?_⟩
  have eX : EvS 424 (tVar 7) [some (.ref sc), some (.ref p), some (.ref z), some (.str (styT γ Es)), x4, some (.int β), some (vr), some (.ref x), x8, x9] H β Ds := es_v (ev_var rfl) t.sty
  have eZ : EvS 424 (tVar 2) [some (.ref sc), some (.ref p), some (.ref z), some (.str (styT γ Es)), x4, some (.int β), some (vr), some (.ref x), x8, x9] H γ Es := es_v (ev_var rfl) t.bf
  have same : decide (V.str (styT β Ds) = V.str (styT γ Es)) = (decide (β = γ) && PyData.eqv (.tuple Ds) (.tuple Es)) := by
    rw [Bool.eq_iff_iff, decide_eq_true_iff, Bool.and_eq_true, decide_eq_true_iff, rules_eqv (β := β) (γ := γ) t.r.row.2.2 t.bf.all]
    constructor
    · intro h
      exact styT_inj t.r.b10 t.bf.b10 t.r.row.2.2 t.bf.all (by injection h)
    · rintro ⟨rfl, rfl⟩
      rfl
  refine s_when (b := false) (et_is (et_test (ev_op (ev_op (ev_styT t.sty (ev_var rfl)) (ev_var rfl) (rv_eq rfl)) (ev_eqS (ic_Style _) (cl_Style _) (nf_Style _) eX eZ) (rv_ne rfl))) (by rw [same]; simp)) (fun z => nomatch z) fun _ H1 e1 => q H1 e1
theorem row7 : ∃ t, PS (XL w mg base A outer s H0 E0) (inLoop 7) t ∧ ∀ (D : Ends) (H : Hp) (sc p cc l : Addr) (n : Nat) (a : Int) (x4 x8 x9 : Option V) (β : Nat) (vr : V) (x : Addr) (Ds : List PyData) (z : Addr) (γ : Nat) (Es : List PyData), Tn H vr x z β γ Ds Es → 
    (∀ (H' : Hp), Ex H H' → D.nx [some (.ref sc), some (.ref p), some (.ref x), some (.str (styT β Ds)), x4, some (.int β), some (vr), some (.ref x), x8, x9] H') → t D [some (.ref sc), some (.ref p), some (.ref z), some (.str (styT γ Es)), x4, some (.int β), some (vr), some (.ref x), x8, x9] H := by
  obtain ⟨hr, hu64⟩ := R
  refine ⟨_, (ps_par (i := 2) (j := 3) (by rfl) scLaw.nd rfl rfl (by decide) rfl rfl (pa_cons (pv 7) (pa_cons (pe_call (f_style_text X G) (hr.r.mono (by decide)) (by rfl) L.style_text (kp_style_text _) (bd_style_text _) .nil pass0 (pa_cons (pv 7) pa_nil)) pa_nil)) (by rfl)), fun D H sc p cc l n a x4 x8 x9 β vr x Ds z γ Es t q => ?_⟩
  exact s_par (ea_cons (ev_var rfl) (ea_cons (ev_styT t.sty (ev_var rfl)) ea_nil)) fun H1 e1 => q H1 e1
end
end KH33

namespace KH33
open PySem L2 Evl Dg Dt LamR LamX TL StX ClX Tx
open Dr (StAt SameB)
def bfD : List PyData := [.tuple [.tuple [], .tuple [.str "all"]]]
theorem bf_due : dueD 2 bfD = none := by decide +kernel
theorem bf_txt : styT 2 bfD = "base 2\nall" := by decide +kernel
def pgS : List PyData := [.tuple [.tuple [.tuple [.str "ends", .str "00"]], .tuple [.str "all"]], .tuple [.tuple [.tuple [.str "length", .int 1, .none], .tuple [.str "near", .int 0]], .tuple [.str "last", .int 2]], .tuple [.tuple [], .tuple [.str "changed", .int 2]]]
theorem pgS_due : dueD 10 pgS = none := by decide +kernel
theorem pgS_txt : styT 10 pgS = "base 10\nall when ends 00\nlast 2 when length 1 * near 0\nchanged 2" := by decide +kernel
section
variable {w : World} {mg : Str → Option Value} {h base : Heap} (X : (K33 w.params).In h) (G : h.Ns mainGlobals mg) {A : Around} {outer : List Env} {s : Shared} {H0 : Hp} {E0 : XK} (R : Rm w mg base A outer s H0 E0) (L : TxL mg)
include X G R L
theorem beg1 : ∃ t, PS (XL w mg base A outer s H0 E0) (inLaw 1) t ∧ ∀ (D : Ends) (H : Hp) (sc p cc l : Addr) (n : Nat) (a : Int) (x2 x3 x4 x5 x6 x7 x8 x9 : Option V) , 
    (∀ (z : Addr) (H' : Hp), Ex H H' → StyG H' 424 z 2 bfD → D.nx [some (.ref sc), some (.ref p), some (.ref z), some (.str (styT 2 bfD)), x4, x5, x6, x7, x8, x9] H') → t D [some (.ref sc), some (.ref p), x2, x3, x4, x5, x6, x7, x8, x9] H := by
  obtain ⟨hr, hu64⟩ := R
  refine ⟨_, (ps_par (i := 2) (j := 3) (by rfl) scLaw.nd rfl rfl (by decide) rfl rfl (pa_cons (pe_makeR (mk_Style _) (f_Style___init__ X G) (hr.r.mono (by decide)) (by rfl) (mgStyle X G) (fun pins σ H s e s' I c => passAt L2.takes0 σ pins H s e s' I c) (pa_cons pe_int (pa_cons (pe_tup (pa_cons (pe_tup pa_nil) (pa_cons (pe_tup (pa_cons pe_str pa_nil)) pa_nil))) pa_nil))) (pa_cons pe_str pa_nil)) (by rfl)), fun D H sc p cc l n a x2 x3 x4 x5 x6 x7 x8 x9 q => ?_⟩
  refine rd_makeP (β := 2) (Ds := bfD) (Q := fun x H1 => ∃ v w, [x, V.str "base 2\nall"] = [v, w] ∧ D.nx (([some (.ref sc), some (.ref p), x2, x3, x4, x5, x6, x7, x8, x9].set 2 (some v)).set 3 (some w)) H1) (epa_cons ep_int (epa_cons (ep_tup (epa_cons (ep_tup epa_nil (by first | simp | decide)) (epa_cons (ep_tup (epa_cons (ep_str (by decide)) epa_nil) (by first | simp | decide)) epa_nil)) (by first | simp | decide)) epa_nil)) (by decide) (by decide) (by decide) bf_due fun z H' e sty => ⟨_, _, rfl, ?_⟩
  have h := q z H' e ⟨sty, by decide, by decide, bf_due⟩
  rw [bf_txt] at h
  exact h
theorem end3 : ∃ t, PS (XL w mg base A outer s H0 E0) (inLaw 3) t ∧ ∀ (D : Ends) (H : Hp) (sc p cc l : Addr) (n : Nat) (a : Int) (x2 x3 x4 x5 x6 x7 x8 x9 : Option V) , 
    (∀ (v : V) (H' : Hp), Pt H' v (.tuple pgS) → D.nx [some (.ref sc), some (.ref p), x2, x3, x4, x5, some (v), x7, x8, x9] H') → t D [some (.ref sc), some (.ref p), x2, x3, x4, x5, x6, x7, x8, x9] H := by
  obtain ⟨hr, hu64⟩ := R
  refine ⟨_, (ps_set (i := 6) scLaw.nd rfl (.inl rfl) (pe_tup (pa_cons (pe_tup (pa_cons (pe_tup (pa_cons (pe_tup (pa_cons pe_str (pa_cons pe_str pa_nil))) pa_nil)) (pa_cons (pe_tup (pa_cons pe_str pa_nil)) pa_nil))) (pa_cons (pe_tup (pa_cons (pe_tup (pa_cons (pe_tup (pa_cons pe_str (pa_cons pe_int (pa_cons pe_non pa_nil)))) (pa_cons (pe_tup (pa_cons pe_str (pa_cons pe_int pa_nil))) pa_nil))) (pa_cons (pe_tup (pa_cons pe_str (pa_cons pe_int pa_nil))) pa_nil))) (pa_cons (pe_tup (pa_cons (pe_tup pa_nil) (pa_cons (pe_tup (pa_cons pe_str (pa_cons pe_int pa_nil))) pa_nil))) pa_nil))))), fun D H sc p cc l n a x2 x3 x4 x5 x6 x7 x8 x9 q => ?_⟩
  exact s_asgP (D := .tuple pgS) (ep_tup (epa_cons (ep_tup (epa_cons (ep_tup (epa_cons (ep_tup (epa_cons (ep_str (by decide)) (epa_cons (ep_str (by decide)) epa_nil)) (by first | simp | decide)) epa_nil) (by first | simp | decide)) (epa_cons (ep_tup (epa_cons (ep_str (by decide)) epa_nil) (by first | simp | decide)) epa_nil)) (by first | simp | decide)) (epa_cons (ep_tup (epa_cons (ep_tup (epa_cons (ep_tup (epa_cons (ep_str (by decide)) (epa_cons ep_int (epa_cons ep_non epa_nil))) (by first | simp | decide)) (epa_cons (ep_tup (epa_cons (ep_str (by decide)) (epa_cons ep_int epa_nil)) (by first | simp | decide)) epa_nil)) (by first | simp | decide)) (epa_cons (ep_tup (epa_cons (ep_str (by decide)) (epa_cons ep_int epa_nil)) (by first | simp | decide)) epa_nil)) (by first | simp | decide)) (epa_cons (ep_tup (epa_cons (ep_tup epa_nil (by first | simp | decide)) (epa_cons (ep_tup (epa_cons (ep_str (by decide)) (epa_cons ep_int epa_nil)) (by first | simp | decide)) epa_nil)) (by first | simp | decide)) epa_nil))) (by first | simp | decide)) fun v H1 e1 k1 => q v H1 k1
theorem end4 : ∃ t, PS (XL w mg base A outer s H0 E0) (inLaw 4) t ∧ ∀ (D : Ends) (H : Hp) (sc p cc l : Addr) (n : Nat) (a : Int) (x2 x3 x4 x5 x7 x8 x9 : Option V) (v : V), Pt H v (.tuple pgS) → 
    (∀ (x : Addr) (H' : Hp), StyG H' 424 x 10 pgS → D.nx [some (.ref sc), some (.ref p), x2, x3, x4, x5, some (v), x7, x8, some (.ref x)] H') → t D [some (.ref sc), some (.ref p), x2, x3, x4, x5, some (v), x7, x8, x9] H := by
  obtain ⟨hr, hu64⟩ := R
  refine ⟨_, (ps_set (i := 9) scLaw.nd rfl (.inl rfl) (pe_cmeth (pe_glob (by rfl) (mgStyle X G) (v := .ref 424) rfl) (cr_Style _) (cm_Style_of _) ((f_Style_of X G).raw (bd_Style_of _) .nil) (hr.r.mono (by decide)) (fun pins σ H s e s' I c => passAt L2.takes0 σ pins H s e s' I c) (pa_cons pe_int (pa_cons (pv 6) pa_nil)))), fun D H sc p cc l n a x2 x3 x4 x5 x7 x8 x9 v k q => ?_⟩
  refine ⟨rfl, _, rfl, .int 10, v, .tuple pgS, true, rfl, bs_yes (β := 10) (by decide) (by decide), k, (by decide), (fun z => nomatch z), fun _ => ⟨10, rfl, by decide, by decide, ⟨fun pl h => (by rw [show dueO 10 (.tuple pgS) = dueD 10 pgS from rfl, pgS_due] at h; cases h), fun _ x H1 e1 sty => ?_⟩⟩⟩
  exact q x H1 ⟨sty, by decide, by decide, pgS_due⟩
theorem end5 : ∃ t, PS (XL w mg base A outer s H0 E0) (inLaw 5) t ∧ ∀ (D : Ends) (H : Hp) (sc p cc l : Addr) (n : Nat) (a : Int) (x2 x3 x4 x5 x6 x7 x8 : Option V) (x : Addr), StyG H 424 x 10 pgS → 
    (∀ (H' : Hp), D.rt (.bl true) H') → t D [some (.ref sc), some (.ref p), x2, x3, x4, x5, x6, x7, x8, some (.ref x)] H := by
  obtain ⟨hr, hu64⟩ := R
  refine ⟨_, (ps_ret (pe_cmpR op_eq (pe_call (f_style_text X G) (hr.r.mono (by decide)) (by rfl) L.style_text (kp_style_text _) (bd_style_text _) .nil pass0 (pa_cons (pv 9) pa_nil)) pe_str (nomark _))), fun D H sc p cc l n a x2 x3 x4 x5 x6 x7 x8 x S q => ?_⟩
  exact s_ret (v := .bl true) (ev_is (ev_op (ev_styT S (ev_var rfl)) ev_c (rv_eq rfl)) (by rw [pgS_txt]; simp)) fun H' _ => q H'
end
end KH33

namespace KH33
open PySem L2 Evl Dg Dt LamR LamX TL StX ClX Tx
open Dr (StAt SameB)
def spLaw33 (K : PySem.W.Frag) : Sp := fun vs H Q _ => ∃ (a : Addr) (ns : List Int), vs = [.ref a] ∧ SqL K H a (ns.map V.int) ∧ ns.length ≤ 63 ∧ ∀ H', Q (.bl true) H'
section
variable {w : World} {mg : Str → Option Value} {h base : Heap} (X : (K33 w.params).In h) (G : h.Ns mainGlobals mg) {A : Around} {outer : List Env} {s : Shared} {H0 : Hp} {E0 : XK} (R : Rm w mg base A outer s H0 E0) (L : TxL mg)
include X G R L
theorem turnR : ∃ t, PSs (XL w mg base A outer s H0 E0) [inLoop 0, inLoop 1, inLoop 2, inLoop 3, inLoop 4, inLoop 5, inLoop 6, inLoop 7] t ∧ ∀ (D : Ends) (H : Hp) (sc p cc l : Addr) (n : Nat) (a : Int) (x4 x5 x6 x7 x8 x9 : Option V) (z : Addr) (γ : Nat) (Es : List PyData), l ≠ cc → a + 30000 < 2 ^ 39 → StAt H p cc l n a → StyG H 424 z γ Es →
    (∀ (y5 y6 y7 y8 : Option V) (b : Int) (z' : Addr) (γ' : Nat) (Es' : List PyData) (H' : Hp), a ≤ b → b ≤ a + 2000 → StAt H' p cc l n b → StyG H' 424 z' γ' Es' → D.nx [some (.ref sc), some (.ref p), some (.ref z'), some (.str (styT γ' Es')), x4, y5, y6, y7, y8, x9] H') → t D [some (.ref sc), some (.ref p), some (.ref z), some (.str (styT γ Es)), x4, x5, x6, x7, x8, x9] H := by
  obtain ⟨t0, p0, q0⟩ := row0 X G R L
  obtain ⟨t1, p1, q1⟩ := row1 X G R L
  obtain ⟨t2, p2, q2⟩ := row2 X G R L
  obtain ⟨t3, p3, q3⟩ := row3 X G R L
  obtain ⟨t4, p4, q4⟩ := row4 X G R L
  obtain ⟨t5, p5, q5⟩ := row5 X G R L
  obtain ⟨t6, p6, q6⟩ := row6 X G R L
  obtain ⟨t7, p7, q7⟩ := row7 X G R L
  refine ⟨_, (pss_cons p0 (pss_cons p1 (pss_cons p2 (pss_cons p3 (pss_cons p4 (pss_cons p5 (pss_cons p6 (pss_one p7)))))))), fun D H sc p cc l n a x4 x5 x6 x7 x8 x9 z γ Es nlc ha S Z q => ?_⟩
  refine q0 _ _ sc p cc l n a _ _ _ _ _ _ z γ Es nlc (by omega) S Z fun β H1 b2 b10 S1 Z1 => ?_
  refine q1 _ _ sc p cc l n _ _ _ _ _ _ β z γ Es nlc (by omega) S1 b2 b10 Z1 fun vr Ds b H2 ab ba S2 r2 Z2 => ?_
  refine q2 _ _ sc p cc l n b _ _ _ _ β vr Ds z γ Es r2 Z2 fun x H3 e3 t3 => ?_
  refine q3 _ _ sc p cc l n b _ _ _ β vr x Ds z γ Es t3 fun H4 e4 => ?_
  refine q4 _ _ sc p cc l n b _ _ _ β vr x Ds z γ Es (t3.ex e4) fun y H5 e5 SY => ?_
  have t5 := (t3.ex e4).ex e5
  refine q5 _ _ sc p cc l n b _ _ β vr x Ds z γ Es y t5 SY fun H6 e6 => ?_
  refine q6 _ _ sc p cc l n b _ _ _ β vr x Ds z γ Es (t5.ex e6) fun H7 e7 => ?_
  have t7 := (t5.ex e6).ex e7
  refine q7 _ _ sc p cc l n b _ _ _ β vr x Ds z γ Es t7 fun H8 e8 => ?_
  exact q _ _ _ _ b x β Ds H8 (by omega) (by omega) ((((((S2.ex e3).ex e4).ex e5).ex e6).ex e7).ex e8) (t7.sty.ex e8)
theorem lawR : ∃ t, PSs (XL w mg base A outer s H0 E0) [inLaw 0, inLaw 1, inLaw 2, inLaw 3, inLaw 4, inLaw 5] t ∧ ∀ (D : Ends) (H : Hp) (sc : Addr) (ns : List Int), SqL (K33 w.params) H sc (ns.map V.int) → ns.length ≤ 63 →
    (∀ (H' : Hp), D.rt (.bl true) H') → t D (L2.start nLaw [V.ref sc]) H := by
  obtain ⟨tT, pT, qT⟩ := turnR X G R L
  obtain ⟨t1, p1, q1⟩ := beg1 X G R L
  obtain ⟨t3, p3, q3⟩ := end3 X G R L
  obtain ⟨t4, p4, q4⟩ := end4 X G R L
  obtain ⟨t5, p5, q5⟩ := end5 X G R L
  obtain ⟨hr, hu64⟩ := R
  refine ⟨_, pss_cons (ps_set (i := 1) scLaw.nd rfl (.inl rfl) (pe_call (f_l_begin X G) (hr.r.mono (by decide)) (by rfl) L.l_begin (kp_l_begin _) (bd_l_begin _) .nil pass0 (pa_cons (pv 0) pa_nil))) (pss_cons p1 (pss_cons (ps_for PassesOwn.never rfl (pi_range1 (by rfl) L.range (pa_cons (pe_op op_add pe_int (pe_callB (id := "min") (call_min2 (by rfl)) (by rfl) L.min (by decide +kernel) (pa_cons pe_int (pa_cons (pe_callB (id := "len") (r := rLenS (K33 w.params)) call_len_seq (by rfl) L.len (by decide +kernel) (pa_cons (pv 0) pa_nil)) pa_nil)))) pa_nil)) (pg_name (i := 4) scLaw.nd rfl (.inl rfl)) pT) (pss_cons p3 (pss_cons p4 (pss_one p5))))), fun D H sc ns hS hlen q => ?_⟩
  refine ⟨_, rfl, sc, ns, rfl, hS, hlen, fun p cc l n H0' sm np nl S0 nlc => ?_⟩
  refine g_name (σ' := [some (.ref sc), some (.ref p), none, none, none, none, none, none, none, none]) rfl ?_
  dsimp only
  refine q1 _ _ sc p cc l n 0 _ _ _ _ _ _ _ _ fun z0 H1 e1 Z0 => ?_
  have S1 := S0.ex e1
  have hS1 := ex_l e1 (Same.seq sm hS)
  have eL : Ev (tCB (rLenS (K33 w.params)) (tCons (tVar 0) tNil)) [some (.ref sc), some (.ref p), some (.ref z0), some (.str (styT 2 bfD)), none, none, none, none, none, none] H1 (.int ((ns.map V.int).length : Int)) := ev_len (ev_var rfl) hS1
  obtain ⟨N, hN, hN8⟩ : ∃ N : Nat, 4 + (if ((ns.map V.int).length : Int) < 10 then ((ns.map V.int).length : Int) else 10) = (N : Int) ∧ N ≤ 14 := by
    by_cases h : ((ns.map V.int).length : Int) < 10
    · rw [if_pos h]; exact ⟨4 + (ns.map V.int).length, by omega, by omega⟩
    · rw [if_neg h]; exact ⟨14, by omega, by omega⟩
  have eA : EvA (tCons (tOp (rI0 fun i j => V.int (i + j)) (tC (V.int 4)) (tCB (fun xs H Q => ∃ i j : Int, xs = [V.int i, V.int j] ∧ Q (V.int (if j < i then j else i)) H) (tCons (tC (V.int 10)) (tCons (tCB (rLenS (K33 w.params)) (tCons (tVar 0) tNil)) tNil)))) tNil)
      [some (.ref sc), some (.ref p), some (.ref z0), some (.str (styT 2 bfD)), none, none, none, none, none, none] H1 [V.int (N : Int)] := by
    rw [← hN]
    exact ea_cons (ev_op ev_c (ev_cb (ea_cons ev_c (ea_cons eL ea_nil)) fun H1 _ Q k => ⟨_, _, rfl, k _ (Ex.refl _)⟩) rv_I0) ea_nil
  refine q_forR1 (D := D) (n := (N : Int)) eA (by omega)
    (fun t σ H' => ∃ (z : Addr) (γ : Nat) (Es : List PyData), (∃ x4 x5 x6 x7 x8 x9, σ = [some (.ref sc), some (.ref p), some (.ref z), some (.str (styT γ Es)), x4, x5, x6, x7, x8, x9]) ∧ (∃ a : Int, a ≤ 3000 * (t : Int) ∧ StAt H' p cc l n a) ∧ StyG H' 424 z γ Es)
    (fun H3 e => ⟨z0, 2, bfD, ⟨_, _, _, _, _, _, rfl⟩, ⟨0, by omega, S1.ex e⟩, Z0.ex e⟩) (fun t σ H3 ht ⟨z, γ, Es, ⟨x4, x5, x6, x7, x8, x9, hσ⟩, ⟨a, ha, W⟩, Z⟩ => ?_) (fun σ H3 ⟨z, γ, Es, ⟨x4, x5, x6, x7, x8, x9, hσ⟩, ⟨a, ha, W⟩, Z⟩ => ?_)
  · subst hσ
    refine qT _ _ sc p cc l n a _ _ _ _ _ _ z γ Es nlc (by omega) W Z fun y5 y6 y7 y8 b z' γ' Es' H' a1 a2 W' Z' => ?_
    exact ⟨z', γ', Es', ⟨_, _, _, _, _, _, rfl⟩, ⟨b, by omega, W'⟩, Z'⟩
  · subst hσ
    refine q3 _ _ sc p cc l n a _ _ _ _ _ _ _ _ fun v H4 k4 => ?_
    refine q4 _ _ sc p cc l n a _ _ _ _ _ _ _ v k4 fun x H5 S5 => ?_
    exact q5 _ _ sc p cc l n a _ _ _ _ _ _ _ x S5 fun H9 => q H9
end
section
variable {w : World} {mg : Str → Option Value} {h base : Heap} (X : (K33 w.params).In h) (G : h.Ns mainGlobals mg)
include X G
theorem txL : TxL mg where
  l_begin := PySem.W.mg_of X G (show PySem.W.nsIn (K33 w.params) mainGlobals "_law_begin" = some (some (.ref 540)) by kernel_rfl)
  l_draw := PySem.W.mg_of X G (show PySem.W.nsIn (K33 w.params) mainGlobals "_law_draw" = some (some (.ref 547)) by kernel_rfl)
  l_rules := PySem.W.mg_of X G (show PySem.W.nsIn (K33 w.params) mainGlobals "_law_rules" = some (some (.ref 566)) by kernel_rfl)
  l_text := PySem.W.mg_of X G (show PySem.W.nsIn (K33 w.params) mainGlobals "_law_text" = some (some (.ref 576)) by kernel_rfl)
  read_style := PySem.W.mg_of X G (show PySem.W.nsIn (K33 w.params) mainGlobals "read_style" = some (some (.ref 528)) by kernel_rfl)
  style_text := PySem.W.mg_of X G (show PySem.W.nsIn (K33 w.params) mainGlobals "style_text" = some (some (.ref 443)) by kernel_rfl)
  isinstance := PySem.W.mg_none_of X G (show PySem.W.nsIn (K33 w.params) mainGlobals "isinstance" = some none by kernel_rfl)
  len := PySem.W.mg_none_of X G (show PySem.W.nsIn (K33 w.params) mainGlobals "len" = some none by kernel_rfl)
  min := PySem.W.mg_none_of X G (show PySem.W.nsIn (K33 w.params) mainGlobals "min" = some none by kernel_rfl)
  range := PySem.W.mg_none_of X G (show PySem.W.nsIn (K33 w.params) mainGlobals "range" = some none by kernel_rfl)
  repr := PySem.W.mg_none_of X G (show PySem.W.nsIn (K33 w.params) mainGlobals "repr" = some none by kernel_rfl)
theorem ok_law33 : FnG P33 w (K33 w.params) mg base CX0 17 583 (PySem.W.fnOf "law" "law" (defArgs sLaw) (defBody sLaw) (defScope sLaw) .none (fO (K33 w.params) 583).kwdefaults (fO (K33 w.params) 583).doc (fO (K33 w.params) 583).pyModule (fO (K33 w.params) 583).annotations (.ref 582) (fO (K33 w.params) 583).closureTuple) ["script"] (spLaw33 (K33 w.params)) := by
  have lk : (K33 w.params).lookup 583 = some ⟨(oO (K33 w.params) 583).cls, (oO (K33 w.params) 583).dict, .func (PySem.W.fnOf "law" "law" (defArgs sLaw) (defBody sLaw) (defScope sLaw) .none (fO (K33 w.params) 583).kwdefaults (fO (K33 w.params) 583).doc (fO (K33 w.params) 583).pyModule (fO (K33 w.params) 583).annotations (.ref 582) (fO (K33 w.params) 583).closureTuple), (oO (K33 w.params) 583).slots⟩ := by kernel_rfl
  have hcd : PySem.W.codeIn (K33 w.params) (.ref 582) "law" = true := by kernel_rfl
  refine fn_ofG lk hcd scLaw (fun vs H Q E h => ?_) (fun A outer s H vs Q E hr h => ?_)
  · obtain ⟨a, ns, rfl, _⟩ := h
    rfl
  · obtain ⟨sc, ns, rfl, hS, hlen, q⟩ := h
    have hu64 : (A.deeper (PyProof.Rows.envOfC "law" (defScope sLaw) s.heap.objs.size 583 (.ref 582))).units + 64 < cLine := by have := hr.r.units; omega
    obtain ⟨t, pt, qt⟩ := lawR (A := A) (outer := outer) (s := s) (H0 := H) (E0 := E) X G ⟨hr, hu64⟩ (txL X G)
    exact ⟨t, pt.nox, qt _ _ _ ns hS hlen fun H' => q H'⟩
theorem all33 {fa : Addr} (hfa : mg "law" = some (.ref fa)) : ∃ fd : FuncData, (∀ (s : Shared) (v : Value), BindsTo s fd ⟨[v], []⟩ [("script", v)]) ∧ ∀ base : Heap, (K33 w.params).In base → base.Ns mainGlobals mg → FnG P33 w (K33 w.params) mg base CX0 17 fa fd ["script"] (spLaw33 (K33 w.params)) := by
  have e := hfa.symm.trans (PySem.W.mg_of X G (show PySem.W.nsIn (K33 w.params) mainGlobals "law" = some (some (.ref 583)) by kernel_rfl))
  cases e
  exact ⟨_, fun s v => .of_eq rfl, fun base X' G' => ok_law33 X G⟩
end
end KH33
open PySem PySem.W PyProof.Rows L2
theorem KH33.walk33 {q : Program} {loose : List Str} {XP : (Str → Option Value) → Heap → Prop} {YP : World → Heap → Prop} {d : DefRec} (hdf : d.params.defaults = []) (hd : d.name = ("law" : Str)) (hY : ∀ (w : World) (h : Heap), YP w h → (KH33.K33 w.params).In h) :
    PySem.W.WalkO q loose XP YP PySem.Challenge.rw_shortspans_k33_whole_texts_of_styles.row.toRowW d [] (fun f vs => PySem.call f vs) :=
  L2.walk_ofG (l := PySem.Challenge.rw_shortspans_k33_whole_texts_of_styles) (n := 63) (k := 17) (x := "script") (K := KH33.K33) (CX := fun _ => CX0) (sp := fun w => KH33.spLaw33 (KH33.K33 w.params)) rfl (by decide) hdf ⟨⟨rfl, by decide, by decide⟩, rfl⟩ hY
    (fun w mg fa h X G hmg => KH33.all33 X G (by rw [hd] at hmg; exact hmg)) (fun _ _ a ns hl _ hS => ⟨a, ns, rfl, hS, hl, fun _ => rfl⟩) fun _ _ _ _ _ z => z
set_option maxRecDepth 100000 in
set_option maxHeartbeats 0 in
theorem PySem.Challenge.cw_shortspans_k33_whole_texts_of_styles_holds : PySem.Challenge.rw_shortspans_k33_whole_texts_of_styles.Holds := by
  refine hd33 ?_
  exact KH33.walk33 rfl rfl fun w h Y => kIn_of Y

