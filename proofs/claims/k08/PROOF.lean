import PyProof.Rows.All
import Wide.All
import OpenK.AllK
import Wide.FinOn
import HandS.ForMost
import HandS.ForExc
import KE.KExcSuper
import HandS.ExcInit
import KE.KExcIs
import HandS.IsInst
import HandS.ExcValue
import HandS.TryMany
import HandS.ExcField
import HandS.Deep
import HandS.Evl
import HandS.Lambda
import HandS.EndTab
import KE.KDflt
import KE.KRevSl
import HandS.Iter
import KE.GoesEnum
import HandS.Star
import HandS.ClsMeth
import HandS.CallLocal
import HandS.Property
import HandS.TupAny
import HandS.Words
import PyProof.StrOps2
import HandS.Style
import PySem.Challenge.RW_shortspans_k08_tails_by_hand
set_option Elab.async false
set_option linter.all false
set_option maxRecDepth 100000
set_option maxHeartbeats 0
set_option exponentiation.threshold 100000
/-! Defs that are called where no repr is being made (so that they may call repr). -/
namespace L2
open PySem PySem.Spec PyProof.Rows
/-- room, and no guard stands around -/
structure RoomG (k : Nat) (A : Around) : Prop where
  r : Room k A
  g : A.guards = some []
theorem RoomG.mono {j k : Nat} {A : Around} (r : RoomG k A) (h : j ≤ k) : RoomG j A := ⟨r.r.mono h, r.g⟩
theorem RoomG.deeper {k : Nat} {A : Around} (r : RoomG (k + 1) A) (env : Env) : RoomG k (A.deeper env) := ⟨r.r.deeper env, r.g⟩
structure FnG (P : Program) (w : World) (K : PySem.W.Frag) (mg : Str → Option Value) (base : Heap) (CX : CXT) (k : Nat) (f : Addr) (fd : FuncData) (ps : List Str) (sp : Sp) : Prop where
  len : ∀ vs H Q E, sp vs H Q E → vs.length = ps.length
  run : ∀ (A : Around) (outer : List Env) (s : Shared) (H : Hp) (args : Args) (us : List Value) (vs : List V) (Q : VK) (E : XK), RoomG k A → Env0 P w K mg base A outer s H → BindsTo s fd args (ps.zip us) → Vals vs us → sp vs H Q E →
    codeAny (model P w) A (.call (.ref f) args) (CR CX outer P w H s Q E) s
theorem FnG.of {P : Program} {w : World} {K : PySem.W.Frag} {mg : Str → Option Value} {base : Heap} {CX : CXT} {k : Nat} {f : Addr} {fd : FuncData} {ps : List Str} {sp : Sp} (F : FnOk P w K mg base CX k f fd ps sp) : FnG P w K mg base CX k f fd ps sp :=
  ⟨F.len, fun A outer s H args us vs Q E hr => F.run A outer s H args us vs Q E hr.r⟩
theorem FnG.mono {P : Program} {w : World} {K : PySem.W.Frag} {mg : Str → Option Value} {base : Heap} {CX : CXT} {j k : Nat} {f : Addr} {fd : FuncData} {ps : List Str} {sp : Sp} (F : FnG P w K mg base CX j f fd ps sp) (h : j ≤ k) : FnG P w K mg base CX k f fd ps sp :=
  ⟨F.len, fun A outer s H args us vs Q E hr => F.run A outer s H args us vs Q E (hr.mono h)⟩
theorem FnG.imp {P : Program} {w : World} {K : PySem.W.Frag} {mg : Str → Option Value} {base : Heap} {CX : CXT} {k : Nat} {f : Addr} {fd : FuncData} {ps : List Str} {sp sp' : Sp} (F : FnG P w K mg base CX k f fd ps sp)
    (h : ∀ vs H Q E, sp' vs H Q E → sp vs H Q E) : FnG P w K mg base CX k f fd ps sp' :=
  ⟨fun vs H Q E q => F.len vs H Q E (h _ _ _ _ q), fun A outer s H args us vs Q E hr he hb hv hs => F.run A outer s H args us vs Q E hr he hb hv (h _ _ _ _ hs)⟩
section
variable {X : Cx} {CX : CXT} {k : Nat} {f C : Addr} {fd : FuncData} {ps : List Str} {sp : Sp} {dvs : List V} {ds : List Value} {E : XK} {x m : Str} {p pos apos : Pos} {e o : Expr} {es : List Expr} {ta : TE} {t : TA}
theorem run_fnG {pins : List (Addr × Obj)} {σ : St} {H : Hp} {s : Shared} {Q : VK} {us : List Value} {vs : List V} (F : FnG X.prog X.w X.K X.mg X.base CX k f fd ps sp) (hr : RoomG k X.A) (hb : Binds X.K fd ps ds) (hd : Vals dvs ds) (hx : Passes CX X E)
    (I : Inv X pins σ H s) (r : Vals vs us) (h : sp (vs ++ dvs) H Q E) : wpAny (model X.prog X.w) X.A (call (.ref f) us) (EP X pins σ Q) X.xe s := by
  have r2 : Vals (vs ++ dvs) (us ++ ds) := r.append hd
  have hl : (us ++ ds).length = ps.length := by rw [← r2.length]; exact F.len _ _ _ _ h
  refine wpAny_call (codeAny_mono (F.run X.A X.stack s H ⟨us, []⟩ (us ++ ds) (vs ++ dvs) Q E hr I.env0 (hb s us I.kIn hl) r2 h) fun r s' hq => ?_)
  cases r with
  | error e => exact hx pins σ H s e s' I hq
  | ok fl =>
    cases fl with
    | ret u => exact I.after hq
    | next => exact False.elim hq
    | brk => exact False.elim hq
    | cont => exact False.elim hq
theorem pe_callG (F : FnG X.prog X.w X.K X.mg X.base CX k f fd ps sp) (hr : RoomG k X.A) (hg : Gl X x) (hm : X.mg x = some (.ref f)) (hk : PySem.W.keepIn X.K (.ref f) = true) (hb : Binds X.K fd ps ds) (hd : Vals dvs ds) (hx : Passes CX X E)
    (ha : PA X (e :: es) t) (hdb : (x == ("__debug__" : Str)) = false := by decide) (he : starEach (e :: es) X.env = (false, eval e X.env) :: starEach es X.env := by rfl) (hpl : (backTo pos (starEach es X.env)).any (·.1) = false := by rfl) :
    PE X (.Call (.Name x p) (e :: es) [] pos) (tCall sp dvs E t) := by
  refine ⟨fun pins s σ H Q I h => ?_⟩
  refine wpAny_Call_Name_kw (ld_glob I hg hm ?_ hdb)
  refine PySem.W.callWith_K (h₀ := X.base) I.ok.mod.kin hk (thn (ha.run pos pins s σ H _ I h) fun us s1 ⟨vs, H1, I1, r, q⟩ => ⟨I1.kIn, ?_⟩) he hpl
  exact run_fnG F hr hb hd hx I1 r q
theorem pe_call0G (F : FnG X.prog X.w X.K X.mg X.base CX k f fd ps sp) (hr : RoomG k X.A) (hg : Gl X x) (hm : X.mg x = some (.ref f)) (hk : PySem.W.keepIn X.K (.ref f) = true) (hb : Binds X.K fd ps ds) (hd : Vals dvs ds) (hx : Passes CX X E)
    (hdb : (x == ("__debug__" : Str)) = false := by decide) : PE X (.Call (.Name x p) [] [] pos) (tCall sp dvs E tNil) := by
  refine ⟨fun pins s σ H Q I h => ?_⟩
  refine wpAny_Call_Name_kw (ld_glob I hg hm ?_ hdb)
  exact PySem.W.callWith_K0 I.kIn hk (run_fnG (us := []) F hr hb hd hx I .nil h)
end
theorem fn_ofG {CX : CXT} {P : Program} {w : World} {K : PySem.W.Frag} {mg : Str → Option Value} {base : Heap} {k : Nat} {f : Addr} {name qual : Str} {params : Arguments} {body : List Stmt} {scope : Scope} {dV kV doc pm cdv ct oc : Value} {an od : Option Addr}
    {osl : Array (Option Value)} {N ps : List Str} {sp : Sp} (lk : K.lookup f = some ⟨oc, od, .func (PySem.W.fnOf name qual params body scope dV kV doc pm an cdv ct), osl⟩) (hcd : PySem.W.codeIn K cdv qual = true) (S : FnScope N ps scope)
    (len : ∀ vs H Q E, sp vs H Q E → vs.length = ps.length)
    (hbody : ∀ (A : Around) (outer : List Env) (s : Shared) (H : Hp) (vs : List V) (Q : VK) (E : XK), RoomG k (A.deeper (envOfC qual scope s.heap.objs.size f cdv)) → sp vs H Q E →
      ∃ t, PSs (cxOf CX P w K mg base N qual scope f cdv A outer s H E) body t ∧ t { nx := fun _ H' => Q .non H', rt := Q } (start N vs) H) :
    FnG P w K mg base CX (k + 1) f (PySem.W.fnOf name qual params body scope dV kV doc pm an cdv ct) ps sp := by
  refine ⟨len, fun A outer s H args us vs Q E hr e0 hb r hsp => ?_⟩
  have hl := len _ _ _ _ hsp
  have KX : K.In s.heap := e0.mod.kin.keeps fun b o e => (e0.bs b o e).1
  have lim : s.heap.NoLimit := e0.mod.nolimit.keeps fun b o e => (e0.bs b o e).1
  have hkind : ∀ y ∈ ps.zip us, scope.names.lookup y.1 = some .local ∨ (scope.names.lookup y.1 = some .cell ∧ ((cellsFrom (s.heap.objs.size + 1) scope.names []).lookup y.1).isSome = true) := fun ⟨n, v⟩ hy => by
    rcases S.par n (List.of_mem_zip hy).1 with q | q
    · exact .inl q
    · exact .inr ⟨q, PySem.W.cellsFrom_some _ _ _ (.inl q)⟩
  refine codeAny_call_function hr.r.depth (KX _ _ lk) rfl S.co S.gen rfl (PySem.W.codeRec_of KX hcd) (hb _ _ _ _ ?_)
  refine wpAny_newFunctionEnv_cells S.kind hkind fun env he s1 x => ?_
  subst he
  refine ⟨lim.keeps x.toInCall.keep, codeAny_func ?_⟩
  obtain ⟨t, ht, hq⟩ := hbody A outer s H vs Q E (hr.deeper _) hsp
  have I : Inv (cxOf CX P w K mg base N qual scope f cdv A outer s H E) [] (start N vs) H s1 := inv_start S hr.r.hd e0 hl r x
  refine wpAny_mono (ht.run [] s1 (start N vs) H _ I hq) (fun fl s' hs => ?_) fun e s' hs => hs
  have fin : ∀ {σ' : St} {H' : Hp} {v : V} {u : Value}, Inv (cxOf CX P w K mg base N qual scope f cdv A outer s H E) [] σ' H' s' → RelV v u → Q v H' → CE outer P w H s Q u s' :=
    fun {σ' H' v u} J rv q => ⟨v, H', J.os, J.bare, J.base, J.hok, rv, q⟩
  cases fl with
  | ret u =>
    obtain ⟨v, σ', H', J, rv, q⟩ := hs
    exact fin J rv q
  | next =>
    obtain ⟨σ', H', J, q⟩ := hs
    exact fin (v := V.non) (u := Value.none) J rfl q
  | brk =>
    obtain ⟨_, _, _, q⟩ := hs
    exact False.elim q
  | cont =>
    obtain ⟨_, _, _, q⟩ := hs
    exact False.elim q
section
variable {P : Program} {w : World} {K : PySem.W.Frag} {mg : Str → Option Value} {base : Heap}
theorem Fun.okG {x qual : Str} {st : Stmt} {f : Addr} {fd : FuncData} {N ps : List Str} {k : Nat} {sp : Sp} (F : Fun K x qual st f fd) (S : FnScope N ps (defScope st)) (len : ∀ vs H Q E, sp vs H Q E → vs.length = ps.length)
    (hbody : ∀ (cdv : Value) (A : Around) (outer : List Env) (s : Shared) (H : Hp) (vs : List V) (Q : VK) (E : XK), RoomG k (A.deeper (envOfC qual (defScope st) s.heap.objs.size f cdv)) → sp vs H Q E →
      ∃ t, PSs (cxOf CX0 P w K mg base N qual (defScope st) f cdv A outer s H E).nox (defBody st) t ∧ t { nx := fun _ H' => Q .non H', rt := Q } (start N vs) H) : FnG P w K mg base CX0 (k + 1) f fd ps sp := by
  obtain ⟨oc, od, kV, doc, pm, an, cdv, ct, osl, rfl, lk, hcd⟩ := F.ex
  refine fn_ofG lk hcd S len fun A outer s H vs Q E hr hsp => ?_
  obtain ⟨t, h, q⟩ := hbody cdv A outer s H vs Q E hr hsp
  exact ⟨t, h.nox, q⟩
theorem Fun.okXG {x qual : Str} {st : Stmt} {f : Addr} {fd : FuncData} {N ps : List Str} {k : Nat} {sp : Sp} (F : Fun K x qual st f fd) (S : FnScope N ps (defScope st)) (len : ∀ vs H Q E, sp vs H Q E → vs.length = ps.length)
    (hbody : ∀ (cdv : Value) (A : Around) (outer : List Env) (s : Shared) (H : Hp) (vs : List V) (Q : VK) (E : XK), RoomG k (A.deeper (envOfC qual (defScope st) s.heap.objs.size f cdv)) → sp vs H Q E →
      ∃ t, PSs (cxOf (L2.CX P w) P w K mg base N qual (defScope st) f cdv A outer s H E) (defBody st) t ∧ t { nx := fun _ H' => Q .non H', rt := Q } (start N vs) H) : FnG P w K mg base (L2.CX P w) (k + 1) f fd ps sp := by
  obtain ⟨oc, od, kV, doc, pm, an, cdv, ct, osl, rfl, lk, hcd⟩ := F.ex
  exact fn_ofG lk hcd S len fun A outer s H vs Q E hr hsp => hbody cdv A outer s H vs Q E hr hsp
end
/-! ### the head -/
theorem law_callG {P : Program} {w : World} {K : PySem.W.Frag} {mg mb : Str → Option Value} {CX : CXT} {k : Nat} {fa a : Addr} {fd : FuncData} {x : Str} {sp : Sp} {s₁ : Shared} {vs : List Value} {ns : List Int}
    (KX : K.In s₁.heap) (hns : s₁.heap.Ns mainGlobals mg) (hb : s₁.heap.Ns builtinsNs mb) (hbb : ∀ x : Str, x ≠ "__name__" → mb x = bootBuiltins x) (hlim : s₁.heap.NoLimit) (hg : s₁.gens = #[])
    (ha : s₁.heap.get? a = some { cls := .type "list", data := .seq vs.toArray }) (hi : IntsAre vs ns) (hl : ns.length ≤ sizeLine) (hr : RoomG k callerA)
    (F : ∀ base : Heap, K.In base → base.Ns mainGlobals mg → FnG P w K mg base CX k fa fd [x] sp) (hbind : ∀ (s : Shared) (u : Value), BindsTo s fd ⟨[u], []⟩ [(x, u)])
    (hsp : ∀ H : Hp, Only H → SqL K H a (ns.map V.int) → sp [.ref a] H (fun v _ => v = .bl true) fun _ _ _ => False)
    (hCX : ∀ H e s', CX [] H s₁ (fun _ _ _ => False) e s' → False) :
    codeAny (model P w) callerA (.call (.ref fa) ⟨[.ref a], []⟩) (fun r s' => r = .ok (.ret (.bool true)) ∧ OldK s₁.heap s'.heap ∧ s'.os = s₁.os ∧ AllBare s'.gens) s₁ := by
  have rv := vals_ints hi
  have lenV := hi.length
  have core : ∀ H : Hp, Only H → SqL K H a (ns.map V.int) → HOk P w H s₁.heap → (∀ b, H b ≠ none → b = a) → (H a ≠ none → K.lookup a = none) →
      codeAny (model P w) callerA (.call (.ref fa) ⟨[.ref a], []⟩) (fun r s' => r = .ok (.ret (.bool true)) ∧ OldK s₁.heap s'.heap ∧ s'.os = s₁.os ∧ AllBare s'.gens) s₁ := by
    intro H hO hS hok hA hK
    have base_of : ∀ {b : Addr} {o : Obj}, s₁.heap.get? b = some o → H b = none → (hidT s₁.heap H).get? b = some o := fun e n => hidT_get e n
    have noA : ∀ {b : Addr} {o : Obj} {es : Array DictEntry} {ep : Nat}, s₁.heap.get? b = some o → o.data = .dict es ep → H b = none := fun {b o es ep} e d => by
      cases q : H b with
      | none => rfl
      | some u =>
        have e' : b = a := hA b (by rw [q]; simp)
        subst e'
        rw [ha] at e; cases e
        have d' : Data.seq vs.toArray _ = Data.dict es ep := d
        cases d'
    have nsK : ∀ {b : Addr} {m : Str → Option Value}, s₁.heap.Ns b m → (hidT s₁.heap H).Ns b m := fun {b m} ⟨o, es, ep, e, d, r⟩ => ⟨o, es, ep, base_of e (noA e d), d, r⟩
    have hKb : K.In (hidT s₁.heap H) := fun b o e => base_of (KX b o e) (by
      cases q : H b with
      | none => rfl
      | some u =>
        have e' : b = a := hA b (by rw [q]; simp)
        subst e'
        rw [hK (by rw [q]; simp)] at e; cases e)
    have hM : Mod K mg (hidT s₁.heap H) := ⟨hKb, nsK hns, ⟨mb, nsK hb, hbb⟩, let ⟨mc, h1, h2⟩ := hlim; ⟨mc, nsK h1, h2⟩⟩
    have e0 : Env0 P w K mg (hidT s₁.heap H) callerA [] s₁ H := ⟨rfl, hM, fun b o e => of_hidT e, Nat.le_of_eq (hidT_size _ _), trivial, fun b hb => absurd (show b ∈ ([] : List Addr) from hb) (by simp), hok, .of_eq hg⟩
    refine codeAny_mono ((F _ hKb (nsK hns)).run callerA [] s₁ H ⟨[.ref a], []⟩ [.ref a] [.ref a] _ _ hr e0 (hbind s₁ (.ref a)) (.cons rfl .nil) (hsp H hO hS)) fun r s' h => ?_
    cases r with
    | error e => exact (hCX H e s' h).elim
    | ok fl =>
      cases fl with
      | next => exact False.elim h
      | brk => exact False.elim h
      | cont => exact False.elim h
      | ret u =>
        obtain ⟨v, H', os, bare, un, hok', r', q⟩ := h
        have q' : v = .bl true := q
        subst q'
        obtain rfl : u = Value.bool true := r'
        refine ⟨rfl, OldK.of_keep fun b o e => ?_, os, bare⟩
        cases q : H b with
        | none => exact un.keep b o e q (by intro z; exact absurd (show b ∈ ([] : List Addr) from z) (by simp)) (by simp)
        | some u =>
          rcases hO b with z | ⟨ob, xs, z⟩
          · rw [q] at z; cases z
          · have z2 := un.frzs b ob _ z
            obtain ⟨e1, _⟩ := hok b _ z
            obtain ⟨e2, _⟩ := hok' b _ z2
            rw [e] at e1; cases e1
            exact e2
  cases hk : K.lookup a with
  | some o =>
    have e := KX a o hk
    rw [ha] at e
    cases e
    refine core (fun _ => none) (fun _ => .inl rfl) (.inr ⟨_, vs.toArray, _, hk, rfl, rfl, rfl, by rw [List.size_toArray, lenV]; exact hl, by simpa using rv⟩) (fun b u z => by have z' : (none : Option HO) = some u := z; cases z') (fun b z => absurd rfl z) fun z => absurd rfl z
  | none =>
    refine core (fun b => if b = a then some (.frz { cls := .type "list", data := .seq vs.toArray } (.lst (ns.map V.int))) else none) (fun b => ?_) (.inl (.inr ⟨{ cls := .type "list", data := .seq vs.toArray }, if_pos rfl⟩)) (fun b u z => ?_) (fun b z => ?_) fun _ => hk
    · by_cases hb : b = a
      · exact .inr ⟨_, _, if_pos hb⟩
      · exact .inl (if_neg hb)
    · by_cases hb : b = a
      · have z' := (if_pos hb).symm.trans z
        cases z'
        subst hb
        exact ⟨ha, by rw [List.length_map]; exact hl, vs, _, rv, ha⟩
      · have z' := (if_neg hb).symm.trans z
        cases z'
    · by_cases hb : b = a
      · exact hb
      · exact absurd (if_neg hb) z
theorem walk_ofG {l : PySem.W.OpenLaw} {n k : Nat} {q : Program} {loose : List Str} {XP : (Str → Option Value) → Heap → Prop} {YP : World → Heap → Prop} {d : DefRec} {K : Params → PySem.W.Frag} {CX : World → CXT} {sp : World → Sp} {x : Str}
    (hn : l.most = some n) (hn2 : n ≤ sizeLine) (hdf : d.params.defaults = []) (hr : RoomG k callerA)
    (hY : ∀ (w : World) (h : Heap), YP w h → (K w.params).In h)
    (F : ∀ (w : World) (mg : Str → Option Value) (fa : Addr) (h : Heap), (K w.params).In h → h.Ns mainGlobals mg → mg d.name = some (.ref fa) →
      ∃ fd : FuncData, (∀ (s : Shared) (u : Value), BindsTo s fd ⟨[u], []⟩ [(x, u)]) ∧
        ∀ base : Heap, (K w.params).In base → base.Ns mainGlobals mg → FnG l.prog w (K w.params) mg base (CX w) k fa fd [x] (sp w))
    (hsp : ∀ (w : World) (H : Hp) (a : Addr) (ns : List Int), ns.length ≤ n → Only H → SqL (K w.params) H a (ns.map V.int) → sp w [.ref a] H (fun v _ => v = .bl true) fun _ _ _ => False)
    (hCX : ∀ (w : World) (H : Hp) (s : Shared) (e : Value) (s' : Shared), CX w [] H s (fun _ _ _ => False) e s' → False) :
    PySem.W.WalkO q loose XP YP l.row.toRowW d [] (fun f vs => PySem.call f vs) := by
  refine Att.attach_call hn hdf fun w s₀ s₁ mg mb fa o pm cd doc a vs ns G Y ho hd hcd hmg hobj hints hlen hg => ?_
  have KX := hY w _ Y
  obtain ⟨fd, hb, hF⟩ := F w mg fa _ KX G.T.g hmg
  exact law_callG KX G.T.g G.T.b G.T.builtins G.T.nolimit hg hobj hints (Nat.le_trans hlen hn2) hr hF hb (fun H hO hS => hsp w H a ns hlen hO hS) fun H e s' => hCX w H s₁ e s'
end L2

/-! An own exception class whose __init__ says super().__init__(text) and then stores its arguments: made. -/
namespace ExM
open PySem PySem.W PySem.Calls PyProof.Rows

/-- what stands around a body's globals -/
structure GlobAt (h : Heap) (mg : Str → Option Value) : Prop where
  g : h.Ns mainGlobals mg
  b : ∃ mb, h.Ns builtinsNs mb ∧ mb "super" = some (.type "super")
  s : mg "super" = none
  lim : h.NoLimit
theorem GlobAt.keeps {h h' : Heap} {mg : Str → Option Value} (x : GlobAt h mg) (k : ∀ b o, h.get? b = some o → h'.get? b = some o) : GlobAt h' mg :=
  ⟨x.g.keeps k, let ⟨mb, a, c⟩ := x.b; ⟨mb, a.keeps k, c⟩, x.s, x.lim.keeps k⟩

/-- what the library tells of a built-in __init__ that is the base's -/
structure InF (B i : String) : Prop where
  entry : entryFor table i = some Builtin.«BaseException.__init__»
  kind : builtinKind i = some .slot
  row : Manifest.signature? i = some ⟨.positional, "*", B, .self, [⟨"args", .varPos, false⟩]⟩
  noStar : (B != "*") = true
  plain : plainId i = true
  sup : KxsFacts B i
/-- what the written part says of the class at C and of its __init__ at f (its __class__ cell at cc) -/
structure Ini (K : Frag) (prog : Program) (C f cc : Addr) (qual : Str) (params : Arguments) (body : List Stmt) (scope : Scope) (bmB : List Value) (B newId initId : String) : Prop where
  cls : ∃ nm q N bs bm sn sub ab col dd k0 k1 k2 k3 k5, K.lookup C = some (excClassObj nm q C N bs bm true sn sub ab col dd k0 k1 k2 k3 k5 newId) ∧ excTail bmB bm = true
  new : ∃ Bn initN bmN, ExcBaseFacts Bn newId initN bmN ∧ bmB.contains (.type Bn) = true ∧ bmB.contains (.type "AttributeError") = false ∧ bmB.contains (.type "NameError") = false
  ini : InF B initId
  pass : ∀ self, refuseLoop self "__setattr__" bmB = pure ()
  obj : bmB.contains (.type "object") = true
  sa : findIn K (.ref C) "__setattr__" = some (some (.builtin "object.__setattr__"))
  iC : findIn K (.ref C) "__init__" = some (some (.ref f))
  tF : typeIn K (.ref f) = some (.type "function")
  kC : keepIn K (.ref C) = true
  exC : subIn K (.ref C) (.type "BaseException") = some true
  bC : subIn K (.ref C) (.type B) = some true
  tyC : typeIn K (.ref C) = some (.type "type")
  op : nsIn K cStatics "thirdparty.any" = some none
  al : ks_superIn K C C "__init__" = some (some (.builtin initId))
  fn : ∃ (oc : Value) (od : Option Addr) (kV doc pm : Value) (an : Option Addr) (cda : Addr) (ct : Value) (osl : Array (Option Value)),
    K.lookup f = some ⟨oc, od, .func (ksFn "__init__" qual params body scope .none kV doc pm an (.ref cda) ct cc), osl⟩ ∧ codeIn K (.ref cda) qual = true ∧
    ∃ ccl cdd vs ccs file tf, K.lookup cda = some ⟨ccl, cdd, .fields vs, ccs⟩ ∧ vs[2]? = some (.str file tf) ∧ ((prog.main.file : Str) == file) = true
  cell : ∃ cl cld csl, K.lookup cc = some ⟨cl, cld, .cell (some (.ref C)), csl⟩
  top : (prog.main.scope.names.lookup ("super" : Str)).isSome = false
  sS : scope.names.lookup ("super" : Str) = some .globalImplicit
  sC : scope.names.lookup ("__class__" : Str) = some .free
  sk : scope.kind = .function

section
variable {prog : Program} {w : World} {A : Around} {E : Value → Shared → Prop} {h : Heap} {g : Array GenState} {d : Drawn} {t : Nat} {os : OsState}
variable {K : Frag} {mg : Str → Option Value} {C f cc x L : Addr} {qual : Str} {params : Arguments} {body : List Stmt} {scope : Scope} {bmB : List Value} {B newId initId : String}

theorem Ini.cd (T : Ini K prog C f cc qual params body scope bmB B newId initId) : ∃ cd : ClassData, clsIn K C = some cd ∧ (∃ bm, cd.mro = .ref C :: bm ∧ excTail bmB bm = true) ∧ cd.hasDict = true := by
  obtain ⟨nm, q, N, bs, bm, sn, sub, ab, col, dd, k0, k1, k2, k3, k5, hC, hbm⟩ := T.cls
  exact ⟨{ name := nm, bases := bs, mro := .ref C :: bm, ns := N, qualname := q, hasDict := true, slotNames := sn, subclasses := sub, abstract := ab, collection := col, hasDel := false }, by unfold clsIn; rw [hC] <;> rfl, ⟨bm, rfl, hbm⟩, rfl⟩

/-- super() in the body, self at x, an exception of C without a dict -/
theorem super_made (T : Ini K prog C f cc qual params body scope bmB B newId initId) {cda : Addr} {oc : Value} {od : Option Addr} {kV doc pm ct : Value} {an : Option Addr} {osl : Array (Option Value)} {m : Str → Option Value} {ox : Obj}
    (hf : K.lookup f = some ⟨oc, od, .func (ksFn "__init__" qual params body scope .none kV doc pm an (.ref cda) ct cc), osl⟩)
    (hcda : ∃ ccl cdd vs ccs file tf, K.lookup cda = some ⟨ccl, cdd, .fields vs, ccs⟩ ∧ vs[2]? = some (.str file tf) ∧ ((prog.main.file : Str) == file) = true)
    {ar : Arg} (hp : (params.posonlyargs ++ params.args).head? = some ar) (hka : scope.names.lookup ar.arg = some .local) (X : K.In h) (G : GlobAt h mg) (hn : h.Ns L m) (hv : m ar.arg = some (.ref x)) (hx : h.get? x = some ox) (hc : ox.cls = .ref C) (hd : ∀ c, ox.data ≠ .cls c)
    {bd : List Stmt} {p0 p1 : Pos} {whole : Sem Value} {Q : Value → Shared → Prop}
    (hq : ∀ h', h'.get? h.objs.size = some (ks_superObj C x C) → (∀ b o, h.get? b = some o → h'.get? b = some o) → Q (.ref h.objs.size) ⟨h', g, d, t, os⟩) :
    _root_.PySem.wpAt (model prog w) A (.func bd (ksEnv qual scope L f (.ref cda) cc)) (attributeBase (.Call (.Name "super" p0) [] [] p1) "__init__" (ksEnv qual scope L f (.ref cda) cc) whole) Q E ⟨h, g, d, t, os⟩ := by
  obtain ⟨ccl, cdd, vs, ccs, file, tf, hcode, hvs, hfile⟩ := hcda
  obtain ⟨cl, cld, csl, hcell⟩ := T.cell
  obtain ⟨cd, hcd, ⟨bm, hm, hbm⟩, hh⟩ := T.cd
  obtain ⟨oD, hD1, hD2⟩ : ∃ oD, h.get? C = some oD ∧ oD.data = .cls cd := by
    unfold clsIn at hcd
    split at hcd
    · rename_i c0 d0 cd' sl ho
      cases hcd
      exact ⟨_, X _ _ ho, rfl⟩
    · cases hcd
  have hsub : Looks (model prog w) h (isSubtype (.ref C) (.ref C)) true := looks_mroIn X (by unfold mroIn; rw [hcd, Option.bind_some, hm]; simp)
  obtain ⟨mb, hb, hbs⟩ := G.b
  refine ks_wpAt_super_base (env := ksEnv qual scope L f (.ref cda) cc) T.sS T.sC (by decide) rfl (X _ _ hf) rfl hp rfl (X _ _ hcode) rfl hvs hfile T.top ?_
  refine ks_loadName_global T.sk T.sS (loadGlobal_builtin (env := ksEnv qual scope L f (.ref cda) cc) G.g G.s hb hbs ⟨rfl, ?_⟩)
  refine wpAny_loadName_free T.sk T.sC rfl ⟨_, X _ _ hcell, rfl⟩ ?_
  refine wpAny_loadName_local T.sk hka hn hv ?_
  refine ks_wpAny_isType_cls hD1 hD2 ⟨rfl, ?_⟩
  exact ks_wpAny_call_super hD1 hD2 hx hc hd hsub fun h' e k => hq h' e k

theorem check_bound {M : Model} {B i newId : String} (F : InF B i) {nm q : Str} {C N e : Addr} {oe : Obj} {bs bm : List Value} {hdct : Bool} {sn : List Str} {sub : List Value} {ab : Bool} {col : Option Bool} {dd : Option Addr} {k0 k1 k2 k3 k5 : Option Value} {rest : List Value} {Q : Unit → Shared → Prop}
    (hC : h.get? C = some (excClassObj nm q C N bs bm hdct sn sub ab col dd k0 k1 k2 k3 k5 newId)) (he : h.get? e = some oe) (hcls : oe.cls = .ref C) (hq : Q () ⟨h, g, d, t, os⟩) : wpAny M A (checkBoundCall i ⟨.ref e :: rest, []⟩) Q E ⟨h, g, d, t, os⟩ := by
  have hshort := F.noStar
  simp only [checkBoundCall, F.kind, F.row]
  repeat (first | (with_reducible refine wpAny_loadPart_at he ?_; rw [hcls]) | with_reducible refine wpAny_loadPart_at hC ?_ | wp_step)
  refine wpAny_onRaise ?_
  rw [show ∀ (a b : String) (n : Nat), Bind.check ⟨.positional, "*", B, .self, [⟨"args", .varPos, false⟩]⟩ a b n (List.map (fun x => x.fst) ({ pos := Value.ref e :: rest } : Args).kw) = pure () from
    fun a b n => check_star_args _ _ _ _ _ _]
  exact wpAny_pure hq
/-- the bound __init__ of the built-in base, called: the exception's args are laid anew -/
theorem bound_called (T : Ini K prog C f cc qual params body scope bmB B newId initId) {u t0 : Addr} {dv : Option Addr} {rest : List Value} {Q : Value → Shared → Prop} (X : K.In h)
    (hx : h.get? x = some (excObj C t0 dv .none)) (hu : h.get? u = some (kxs_mw initId x)) (hz : rest.length ≤ sizeLine)
    (hq : ∀ h' t1, (∀ b o, b ≠ x → h.get? b = some o → h'.get? b = some o) → h'.get? x = some (excObj C t1 dv .none) → Q .none ⟨h', g, d, t, os⟩) :
    wpAny (model prog w) A (call (.ref u) rest) Q E ⟨h, g, d, t, os⟩ := by
  obtain ⟨nm, q, N, bs, bm, sn, sub, ab, col, dd, k0, k1, k2, k3, k5, hC, hbm⟩ := T.cls
  have FB := T.ini
  refine wpAny_call (codeAny_of_tree ?_)
  show wpAny _ A.in1 (callAny (.ref u) ⟨rest, []⟩) _ _ _
  simp only [callAny]
  refine wpAny_bind (wpAny_load hu ?_)
  simp only [kxs_mw, show (Value.type "method-wrapper" == Value.type "method" || Value.type "method-wrapper" == Value.type "builtin_function_or_method" || Value.type "method-wrapper" == Value.type "method-wrapper") = true by decide, if_true]
  refine KFB.if_so (by decide) ?_
  refine wpAny_bind (check_bound FB (X _ _ hC) hx rfl ?_)
  refine wpAny_bind (wpAny_pure (wpAny_pure ?_))
  refine ⟨plainId_quiet FB.plain _, codeAny_builtin FB.entry ?_⟩
  exact exc_init_tree (cls := .ref C) (t0 := t0) (dv := dv) (c2 := .none) (c3 := .none) (b4 := .bool false) hx hz fun h' k e' _ => hq h' _ k e'

/-- the statement super().__init__(text) -/
theorem super_said (T : Ini K prog C f cc qual params body scope bmB B newId initId) {cda : Addr} {oc : Value} {od : Option Addr} {kV doc pm ct : Value} {an : Option Addr} {osl : Array (Option Value)} {m : Str → Option Value} {t0 : Addr}
    (hf : K.lookup f = some ⟨oc, od, .func (ksFn "__init__" qual params body scope .none kV doc pm an (.ref cda) ct cc), osl⟩)
    (hcda : ∃ ccl cdd vs ccs file tf, K.lookup cda = some ⟨ccl, cdd, .fields vs, ccs⟩ ∧ vs[2]? = some (.str file tf) ∧ ((prog.main.file : Str) == file) = true)
    {ar : Arg} (hp : (params.posonlyargs ++ params.args).head? = some ar) (hka : scope.names.lookup ar.arg = some .local) (X : K.In h) (G : GlobAt h mg) (hn : h.Ns L m) (hv : m ar.arg = some (.ref x)) (hx : h.get? x = some (excObj C t0 none .none)) (hxL : x ≠ L) (hxK : K.lookup x = none)
    {bd : List Stmt} {p0 p1 p2 p3 p4 p5 : Pos} {msg : Str} {j : Nat} {Q : Flow → Shared → Prop}
    (hq : ∀ h' tk t1, (∀ b o, b ≠ x → h.get? b = some o → h'.get? b = some o) → h'.get? x = some (excObj C t1 none .none) → Q .next ⟨h', g, d, tk, os⟩)
    (hi : interactive (ksEnv qual scope L f (.ref cda) cc) = false) {pl : Sem Bool}
    (hev : eval (.Call (.Attribute (.Call (.Name "super" p0) [] [] p1) "__init__" p2) [.Constant (.str msg) j p3] [] p4) (ksEnv qual scope L f (.ref cda) cc) = (do
      let ov ← attributeBase (.Call (.Name "super" p0) [] [] p1) "__init__" (ksEnv qual scope L f (.ref cda) cc) (eval (.Call (.Name "super" p0) [] [] p1) (ksEnv qual scope L f (.ref cda) cc))
      standAt p2.atName
      let (fx, first) ← holding [ov] (getMethod ov "__init__" pl)
      callWith p4 fx first (backTo p4 (starEach [.Constant (.str msg) j p3] (ksEnv qual scope L f (.ref cda) cc))) [])) :
    _root_.PySem.wpAt (model prog w) A (.func bd (ksEnv qual scope L f (.ref cda) cc))
      (exec (.Expr (.Call (.Attribute (.Call (.Name "super" p0) [] [] p1) "__init__" p2) [.Constant (.str msg) j p3] [] p4) p5) (ksEnv qual scope L f (.ref cda) cc)) Q E ⟨h, g, d, t, os⟩ := by
  refine ks_wpAt_Expr_any ?_ hi rfl
  refine ks_wpAt_MethodCall ?_ hev
  refine super_made T hf hcda hp hka X G hn hv hx rfl (fun c z => by cases z) fun h1 e1 k1 => ?_
  have X1 : K.In h1 := X.keeps k1
  have hx1 := k1 _ _ hx
  obtain ⟨cd, hcd, ⟨bm, hm, hbm⟩, hh⟩ := T.cd
  have I1 : InstAt h1 x (excObj C t0 none .none) C none := ⟨hx1, rfl, rfl, trivial⟩
  have hI : Looks (model prog w) h1 (isInstance (.ref x) (.type B)) true := I1.type.andThen (looks_subIn X1 T.bC)
  have hal : alongIn K "__init__" ((cd.mro.dropWhile (· != .ref C)).drop 1) = some (some (.builtin initId)) := by
    have z := T.al
    unfold ks_superIn at z
    rw [hcd] at z
    exact z
  refine kxs_getMethod T.ini.sup e1 (looks_opaque X1 T.op) (l₀ := cd.mro) (fun A Q E s k q => wpAny_bind ((looks_clsIn X1 hcd) A _ E s k (wpAny_pure q))) rfl X1 hal hI (ks_ne X1 I1 hcd) (by decide) ?_
  have k2 : ∀ b o, h1.get? b = some o → (h1.push (kxs_mw initId x)).get? b = some o := fun b o e => Heap.get?_push_of_some _ e
  have hu : (h1.push (kxs_mw initId x)).get? h1.objs.size = some (kxs_mw initId x) := Heap.get?_push_at rfl rfl
  refine kxs_callWith (i := initId) (x := x) rfl (evalArgs_plain ?_)
  show wpAny _ _ (spliced ((false, eval (.Constant (.str msg) j p3) _) :: backTo p4 (starEach [] _))) _ _ _
  refine Calls.spliced_cons (Calls.Constant_str ?_)
  refine Calls.spliced_nil ⟨hu, ?_⟩
  refine bound_called T (X1.keeps k2) (k2 _ _ hx1) hu (by rw [sizeLine_eq]; exact (by decide : 1 ≤ 16777216)) fun h3 t1 k3 e3 => ?_
  exact hq h3 _ t1 (fun b o hb e => k3 b o hb (k2 b o (k1 b o e))) e3

/-- what a new exception with one dict is: the class at C, its dict at dx -/
structure Own (h h' : Heap) (x C dx : Addr) (m : Str → Option Value) : Prop where
  keep : ∀ b o, b ≠ x → h.get? b = some o → h'.get? b = some o
  obj : ∃ t1, h'.get? x = some (excObj C t1 (some dx) .none)
  dbig : h.objs.size ≤ dx
  dne : dx ≠ x
  ns : h'.Ns1 dx m

section
open Builtin Builtin.ObjectAttr
/-- the built-in store at such an exception -/
theorem store_walk (T : Ini K prog C f cc qual params body scope bmB B newId initId) {name : Str} {tk : Tok} {v : Value} {ox : Obj} {od : Option Obj} {R : Result → Shared → Prop}
    (X : K.In h) (I : InstAt h x ox C od) (ha : findIn K (.ref C) name = some none)
    (hq : wpAny (model prog w) A.in1 (storeInOwnDict (.ref x) (.ref C) (.str name tk) name v false)
      (fun fin s' => match fin with | .done f => R (.ok f) s' | .again c' => c'.quiet = true ∧ codeAny (model prog w) A c' R s') (fun e s' => R (.error e) s') ⟨h, g, d, t, os⟩) :
    codeAny (model prog w) A (.call (.builtin "object.__setattr__") ⟨[.ref x, .str name tk, v], []⟩) R ⟨h, g, d, t, os⟩ := by
  obtain ⟨cd, hcd, ⟨bm, hm, hbm⟩, hh⟩ := T.cd
  have SF := F.store_object
  have hpass : refuseLoop (.ref x) "__setattr__" cd.mro = pure () := by
    rw [hm, refuseLoop_ref]
    exact excTail_pass _ (T.pass _) bm hbm
  have hob : cd.mro.contains (.type "object") = true := by
    rw [hm, List.contains_cons, excTail_contains "object" bm hbm]
    exact Bool.or_eq_true_iff.mpr (.inr (T.obj))
  have sub : Looks (model prog w) h (isInstance (.ref x) (.type "object")) true := I.type.andThen (looks_mroIn X (by unfold mroIn; rw [hcd, Option.bind_some, if_neg (by rw [hm]; exact Bool.false_ne_true), hob]))
  refine codeAny_call_builtin SF.slot.plain SF.entry (@check_slot (model prog w) _ _ ⟨h, g, d, t, os⟩ "object.__setattr__" "object" "__setattr__" (.ref x) [.str name tk, v] [] _ SF.kind SF.split sub (SF.args (.ref x) (.str name tk) v) ?_)
  have hmr : Looks (model prog w) h (mroOf (.ref C)) cd.mro := (looks_clsIn X hcd).andThen .now
  have L3 : Looks (model prog w) h (storeTaker? none) none := .now
  rw [osa_eq, refuse_eq]
  refine wpAny_bind (wpAny_bind (I.type.at (wpAny_bind (hmr.at ?_))))
  rw [hpass]
  exact wpAny_pure (wpAny_bind (I.type.at (wpAny_bind ((looks_findIn X ha).at (wpAny_bind (L3.at hq))))))
/-- self.name = v, the first one -/
theorem store_first (T : Ini K prog C f cc qual params body scope bmB B newId initId) {name : Str} {v : Value} {fv : Array Value} {Q : Unit → Shared → Prop}
    (X : K.In h) (hx : h.get? x = some { cls := .ref C, data := .fields fv }) (ha : findIn K (.ref C) name = some none)
    (hq : ∀ h' tk' dx, (∀ b o, b ≠ x → h.get? b = some o → h'.get? b = some o) → h.objs.size ≤ dx → dx ≠ x → h'.get? x = some { cls := .ref C, dict := some dx, data := .fields fv } →
      h'.Ns1 dx (fun y => if y = name then some v else none) → Q () ⟨h', g, d, tk', os⟩) :
    wpAny (model prog w) A (setAttr (.ref x) name v) Q E ⟨h, g, d, t, os⟩ := by
  obtain ⟨cd, hcd, ⟨bm, hm, hbm⟩, hh⟩ := T.cd
  have I : InstAt h x { cls := .ref C, data := .fields fv } C none := ⟨hx, rfl, rfl, trivial⟩
  have hxs : x ≠ h.objs.size := Nat.ne_of_lt (Heap.lt_size hx)
  have hcls : Looks (model prog w) h (classData C) cd := looks_clsIn X hcd
  refine set_plain X I T.sa (store_walk T X I ha ?_)
  obtain ⟨nm, bs, mro, ns, qn, hd, sn, sb, ab, col, del⟩ := cd
  dsimp only at hh
  subst hh
  unfold storeInOwnDict ownDictForStores
  repeat (first | with_reducible refine HandSPX.store_in_new ?_ ?_ | with_reducible refine wpAny_loadPart_at hx ?_ | with_reducible refine hcls.at ?_ | wp_step)
  · exact ⟨_, #[], _, (Heap.get?_update_ne _ _ _ _ hxs.symm).trans (Heap.get?_push_at rfl rfl), rfl, fun e he => absurd he (by simp), fun _ => rfl⟩
  · intro h' tk' hn' hs
    have hx₁ : (h.push { cls := .type "dict", data := .dict #[] }).get? x = some { cls := .ref C, data := .fields fv } := Heap.get?_push_of_some _ hx
    refine hq h' tk' h.objs.size (fun b o hb ho => ?_) (Nat.le_refl _) hxs.symm ?_ hn'
    · exact (hs.2 b (Nat.ne_of_lt (Heap.lt_size ho))).trans ((Heap.get?_update_ne _ _ _ _ hb).trans (Heap.get?_push_of_some _ ho))
    · exact (hs.2 x hxs).trans (Heap.get?_update_self _ hx₁ rfl)
/-- a further one -/
theorem store_more (T : Ini K prog C f cc qual params body scope bmB B newId initId) {dx : Addr} {name : Str} {v : Value} {fv : Array Value} {m0 : Str → Option Value} {nl : List Str} {Q : Unit → Shared → Prop}
    (X : K.In h) (hx : h.get? x = some { cls := .ref C, dict := some dx, data := .fields fv }) (hns : h.Ns1 dx m0) (hw : Within m0 nl) (hz : nl.length ≤ 1000) (ha : findIn K (.ref C) name = some none)
    (hq : ∀ h' tk', (∀ b o, b ≠ dx → h.get? b = some o → h'.get? b = some o) → h'.Ns1 dx (fun y => if y = name then some v else m0 y) → Q () ⟨h', g, d, tk', os⟩) :
    wpAny (model prog w) A (setAttr (.ref x) name v) Q E ⟨h, g, d, t, os⟩ := by
  obtain ⟨cd, hcd, ⟨bm, hm, hbm⟩, hh⟩ := T.cd
  obtain ⟨oD, esD, epD, hoD, hdD, _⟩ := hns.count hw
  have I : InstAt h x { cls := .ref C, dict := some dx, data := .fields fv } C (some oD) := ⟨hx, rfl, rfl, hoD⟩
  have hcls : Looks (model prog w) h (classData C) cd := looks_clsIn X hcd
  refine set_plain X I T.sa (store_walk T X I ha ?_)
  obtain ⟨nm, bs, mro, ns, qn, hd, sn, sb, ab, col, del⟩ := cd
  dsimp only at hh
  subst hh
  unfold storeInOwnDict ownDictForStores
  repeat (first | with_reducible refine OEX.store_in_old hns hw hz ?_ | with_reducible refine wpAny_loadPart_at hx ?_ | with_reducible refine hcls.at ?_ | wp_step)
  intro h' tk' hn' hs
  exact hq h' tk' (fun b o hb ho => (hs.2 b hb).trans ho) hn'
end

end
end ExM

/-! Own exceptions called with keywords; own exceptions over KeyError (whose __new__ is LookupError's). -/
namespace ExM
open PySem PySem.W PySem.Calls
section
variable {M : Model} {prog : Program} {w : World} {A : Around} {E : Value → Shared → Prop} {R : Result → Shared → Prop} {h : Heap} {g : Array GenState} {d : Drawn} {t : Nat} {os : OsState}
variable {nm q : Str} {C N : Addr} {bs bm bmN : List Value} {hdct : Bool} {sn : List Str} {sub : List Value} {ab : Bool} {col : Option Bool} {dd : Option Addr} {k0 k1 k2 k3 k5 : Option Value} {Bn newId initN : String}
/-- what the class's mro says of the built-in that makes its instances -/
structure NewM (C : Addr) (bm : List Value) (Bn : String) : Prop where
  hb : (Value.ref C :: bm).contains (.type Bn) = true
  ha : (Value.ref C :: bm).contains (.type "AttributeError") = false
  hn : (Value.ref C :: bm).contains (.type "NameError") = false
theorem check_newK (F : ExcBaseFacts Bn newId initN bmN) (m : NewM C bm Bn) {rest : List Value} {kw : List (Str × Value)} {Q : Unit → Shared → Prop}
    (hC : h.get? C = some (excClassObj nm q C N bs bm hdct sn sub ab col dd k0 k1 k2 k3 k5 newId)) (hq : Q () ⟨h, g, d, t, os⟩) : wpAny M A (checkBuiltinCall newId ⟨.ref C :: rest, kw⟩) Q E ⟨h, g, d, t, os⟩ := by
  have hcont := m.hb
  have hstar := F.noStar
  simp only [checkBuiltinCall, F.newKind, F.newSplit, F.newRow]
  repeat (first | refine wpAny_loadPart_at hC ?_ | (refine wpAny_isSubtype_exc hC ?_; rw [hcont]) | refine wpAny_staticBase_exc hC ?_ | refine wpAny_madeBy_exc hC ?_ | simp only [bne_self_eq_false, Bool.false_eq_true, if_false] | wp_step)
  exact hq
theorem newK (F : ExcBaseFacts Bn newId initN bmN) (m : NewM C bm Bn) {rest : List Value} {kw : List (Str × Value)}
    (hC : h.get? C = some (excClassObj nm q C N bs bm hdct sn sub ab col dd k0 k1 k2 k3 k5 newId))
    (hq : R (.ok (.ret (.ref (h.objs.size + 1)))) ⟨(h.push { cls := .type "tuple", data := .seq rest.toArray }).push
      { cls := .ref C, data := .fields #[.ref h.objs.size, .none, .none, .none, .bool false, .none] }, g, d, t, os⟩) (hrest : rest.length ≤ sizeLine) :
    codeAny (model prog w) A (.builtin newId ⟨.ref C :: rest, kw⟩) R ⟨h, g, d, t, os⟩ := by
  have hends := F.ends
  have hcB := m.hb
  have hcA := m.ha
  have hcN := m.hn
  refine codeAny_builtinAt F.entry ?_
  unfold Builtin.«BaseException.__new__»
  refine wpAt_bind ?_
  show wpAt _ _ _ (stack >>= _) _ _ _
  refine wpAt_bind (wpAt_stack fun p below => wpAt_of_wpAny ?_)
  wp_walk
  refine wpAt_of_wpAny ?_
  rw [F.owner]
  repeat (first | with_reducible refine wpAny_madeHere_exc F.canon hC ?_ | with_reducible refine wpAny_loadPart_at hC ?_ | (with_reducible refine wpAny_isSubtype_exc hC ?_; first | rw [hcB] | rw [hcA] | rw [hcN]) | wp_step)
  show R _ _
  rw [Heap.size_push]
  exact hq
theorem type_callK (F : ExcBaseFacts Bn newId initN bmN) (m : NewM C bm Bn) {rest : List Value} {kw : List (Str × Value)} {fI : Addr} {Q : Fin → Shared → Prop}
    (hC : h.get? C = some (excClassObj nm q C N bs bm hdct sn sub ab col dd k0 k1 k2 k3 k5 newId))
    (hi : W.Looks (model prog w) h (typeLookup (.ref C) "__init__") (some (.ref fI))) (hb : ∀ self, W.Looks (model prog w) h (bindSpecial (.ref fI) self) (.ref fI, [self])) (hrest : rest.length ≤ sizeLine)
    (hq : codeAny (model prog w) A (.call (.ref fI) ⟨.ref (h.objs.size + 1) :: rest, kw⟩)
      (fun r s' => match r with | .ok (.ret v) => v = .none ∧ Q (.done (.ret (.ref (h.objs.size + 1)))) s' | .ok _ => False | .error e => E e s')
      ⟨(h.push (W.kdv_tup rest)).push (HandSPX.excO C h.objs.size), g, d, t, os⟩) :
    wpAny (model prog w) A (Builtin.«type.__call__» ⟨.ref C :: rest, kw⟩) Q E ⟨h, g, d, t, os⟩ := by
  repeat (first | with_reducible refine wpAny_loadPart_at hC ?_ | with_reducible refine wpAny_madeBy_exc hC ?_ | wp_step)
  refine codeAny_call_builtin_code (Code.quiet_builtin _ F.quiet) (check_newK F m hC ?_)
  refine newK F m hC ?_ hrest
  show wpAny _ _ _ _ _ _
  have k : ∀ b o, h.get? b = some o → ((h.push (W.kdv_tup rest)).push (HandSPX.excO C h.objs.size)).get? b = some o := fun b o e => Heap.get?_push_of_some _ (Heap.get?_push_of_some _ e)
  have hC₁ := k _ _ hC
  have hget : ((h.push (W.kdv_tup rest)).push (HandSPX.excO C h.objs.size)).get? (h.objs.size + 1) = some (HandSPX.excO C h.objs.size) := by heap_get
  have hcC : (Value.ref C :: bm).contains (.ref C) = true := by simp
  have i1 := hi.keeps k
  have b1 := (hb (.ref (h.objs.size + 1))).keeps k
  unfold isInstance
  repeat (first | with_reducible refine wpAny_loadPart_at hget ?_ | (with_reducible refine wpAny_isSubtype_exc hC₁ ?_; rw [hcC]) | wp_step)
  show wpAny _ _ (typeLookup (.ref C) _) _ _ _
  refine i1.at ?_
  refine wpAny_holding (wpAny_bind (b1.at ?_))
  refine wpAny_bind (wpAny_call (codeAny_mono hq fun r s' z => ?_))
  rcases r with e | (v | _ | _ | _) <;> first | exact z | exact z.elim | skip
  obtain ⟨rfl, z⟩ := z
  first
    | exact wpAny_pure (wpAny_pure z)
    | (wp_walk; exact z)
theorem check_typeK {rest : List Value} {kw : List (Str × Value)} {Q : Unit → Shared → Prop} (hC : h.get? C = some (excClassObj nm q C N bs bm hdct sn sub ab col dd k0 k1 k2 k3 k5 newId))
    (hq : Q () ⟨h, g, d, t, os⟩) : wpAny M A (checkBuiltinCall "type.__call__" ⟨.ref C :: rest, kw⟩) Q E ⟨h, g, d, t, os⟩ := by
  have f3 := tc_sub
  have hT : (⟨h, g, d, t, os⟩ : Shared).TypeIs (.ref C) "type" := ⟨_, hC, rfl⟩
  simp only [checkBuiltinCall, tc_kind, tc_split]
  repeat (any_goals (first | assumption | with_reducible refine wpAny_loadPart_at hC ?_ | with_reducible refine wpAny_onRaise ?_ | with_reducible refine wpAny_map ?_ | wp_step))
theorem call_K (F : ExcBaseFacts Bn newId initN bmN) (m : NewM C bm Bn) {rest : List Value} {kw : List (Str × Value)} {fI : Addr}
    (hC : h.get? C = some (excClassObj nm q C N bs bm hdct sn sub ab col dd k0 k1 k2 k3 k5 newId))
    (hi : W.Looks (model prog w) h (typeLookup (.ref C) "__init__") (some (.ref fI))) (hb : ∀ self, W.Looks (model prog w) h (bindSpecial (.ref fI) self) (.ref fI, [self])) (hrest : rest.length ≤ sizeLine)
    (hq : codeAny (model prog w) (A.under (.builtin "type.__call__" ⟨.ref C :: rest, kw⟩)) (.call (.ref fI) ⟨.ref (h.objs.size + 1) :: rest, kw⟩) (W.InitBack (h.objs.size + 1) R)
      ⟨(h.push (W.kdv_tup rest)).push (HandSPX.excO C h.objs.size), g, d, t, os⟩) :
    codeAny (model prog w) A (.call (.ref C) ⟨rest, kw⟩) R ⟨h, g, d, t, os⟩ := by
  have f1 := tc_lookup
  have f2 := tc_bind (.ref C)
  have hTy : (⟨h, g, d, t, os⟩ : Shared).TypeIs (.ref C) "type" := ⟨_, hC, rfl⟩
  refine codeAny_of_tree ?_
  show wpAny _ _ (callAny (.ref C) _) _ _ _
  repeat (any_goals (first | assumption | with_reducible refine wpAny_loadPart_at hC ?_ | wp_step))
  refine ⟨rfl, ?_⟩
  refine codeAny_call_builtin_at (Code.quiet_builtin _ (by decide +kernel)) entry_typeCall (check_typeK hC (type_callK F m hC hi hb hrest ?_))
  refine codeAny_mono hq fun r s' z => ?_
  rcases r with e | (v | _ | _ | _) <;> exact z
end
end ExM

namespace ExM
open PySem PySem.W PySem.Calls PyProof.Rows
section
variable {prog : Program} {w : World} {A : Around} {E : Value → Shared → Prop} {s : Shared}
variable {K : Frag} {mg : Str → Option Value} {C f cc x L : Addr} {qual : Str} {scope : Scope} {bmB : List Value} {B newId initId : String}

abbrev supSt (msg : Str) (j : Nat) (p0 p1 p2 p3 p4 p5 : Pos) : Stmt := .Expr (.Call (.Attribute (.Call (.Name "super" p0) [] [] p1) "__init__" p2) [.Constant (.str msg) j p3] [] p4) p5
abbrev putSt (fld : Str) (q1 q2 q3 q4 : Pos) : Stmt := .Assign [.Attribute (.Name "self" q1) fld q2] (.Name fld q3) q4
/-- what is computed of the scope -/
structure Sc (scope : Scope) (params : Arguments) (flds : List Str) : Prop where
  self : scope.names.lookup ("self" : Str) = some .local
  fl : ∀ y ∈ flds, scope.names.lookup y = some .local
  nc : ∀ y ∈ scope.names, y.2 ≠ .cell
  co : scope.isCoroutine = false
  gen : scope.isGenerator = false
  hd : ∃ ar, (params.posonlyargs ++ params.args).head? = some ar ∧ ar.arg = "self"
  nd : ∀ y ∈ flds, y ≠ "self" ∧ (y == ("__debug__" : Str)) = false
/-- super().__init__ is evaluated so -/
def Ev (qual : Str) (scope : Scope) (f cc : Addr) (msg : Str) (j : Nat) (p0 p1 p2 p3 p4 : Pos) : Prop := ∀ (L : Addr) (cd : Value), interactive (ksEnv qual scope L f cd cc) = false ∧ ∃ pl : Sem Bool,
  eval (.Call (.Attribute (.Call (.Name "super" p0) [] [] p1) "__init__" p2) [.Constant (.str msg) j p3] [] p4) (ksEnv qual scope L f cd cc) = (do
      let ov ← attributeBase (.Call (.Name "super" p0) [] [] p1) "__init__" (ksEnv qual scope L f cd cc) (eval (.Call (.Name "super" p0) [] [] p1) (ksEnv qual scope L f cd cc))
      standAt p2.atName
      let (fx, first) ← holding [ov] (getMethod ov "__init__" pl)
      callWith p4 fx first (backTo p4 (starEach [.Constant (.str msg) j p3] (ksEnv qual scope L f cd cc))) [])

theorem ld_local {M : Model} {cd : Value} {m : Str → Option Value} {y : Str} {pos : Pos} {v : Value} {Q : Value → Shared → Prop} (hn : s.heap.Ns L m) (hv : m y = some v) (hk : scope.kind = .function) (hl : scope.names.lookup y = some .local) (hd : (y == ("__debug__" : Str)) = false) (h : Q v s) :
    wpAny M A (eval (.Name y pos) (ksEnv qual scope L f cd cc)) Q E s := wpAny_Name (wpAny_loadName_local hk hl hn hv h) hd

variable {params : Arguments} {msg fld : Str} {j : Nat} {p0 p1 p2 p3 p4 p5 q1 q2 q3 q4 : Pos}
/-- __init__ of one field, run on a fresh exception -/
theorem init_one (T : Ini K prog C f cc qual params [supSt msg j p0 p1 p2 p3 p4 p5, putSt fld q1 q2 q3 q4] scope bmB B newId initId) (S : Sc scope params [fld]) (V : Ev qual scope f cc msg j p0 p1 p2 p3 p4) (hno : findIn K (.ref C) fld = some none)
    {t0 : Addr} {v : Value} {args : Args} {R : Result → Shared → Prop} (X : K.In s.heap) (G : GlobAt s.heap mg) (hx : s.heap.get? x = some (excObj C t0 none .none)) (hxK : K.lookup x = none) (hroom : A.depth < recursionLimit)
    (hb : ∀ (kV doc pm : Value) (an : Option Addr) (cdv ct : Value), BindsTo s (ksFn "__init__" qual params [supSt msg j p0 p1 p2 p3 p4 p5, putSt fld q1 q2 q3 q4] scope .none kV doc pm an cdv ct cc) args [(("self" : Str), .ref x), (fld, v)])
    (hq : ∀ h' tk dx, Own s.heap h' x C dx (fun y => if y = fld then some v else none) → R (.ok (.ret .none)) { s with heap := h', toks := tk }) :
    codeAny (model prog w) A (.call (.ref f) args) R s := by
  obtain ⟨oc, od, kV, doc, pm, an, cda, ct, osl, ho, hcd, hcda⟩ := T.fn
  obtain ⟨ar, har, hself⟩ := S.hd
  have hfn := S.nd fld (by simp)
  obtain ⟨hp, g, d, t, os⟩ := s
  refine ks_codeAny_call_defAt (fd := ksFn "__init__" qual params [supSt msg j p0 p1 p2 p3 p4 p5, putSt fld q1 q2 q3 q4] scope .none kV doc pm an (.ref cda) ct cc) (body := [supSt msg j p0 p1 p2 p3 p4 p5, putSt fld q1 q2 q3 q4]) hroom (X _ _ ho) rfl G.lim (codeRec_of X hcd) rfl (hb _ _ _ _ _ _) S.nc
    (fun y hy => ?_) (fun h0 hns k0 => ?_) S.co S.gen T.sk
  · rcases List.mem_cons.mp hy with rfl | hy
    · exact S.self
    · rcases List.mem_cons.mp hy with rfl | hy
      · exact S.fl _ (by simp)
      · exact absurd hy (by simp)
  have X0 : K.In h0 := X.keeps k0
  have G0 := G.keeps k0
  have hx0 := k0 _ _ hx
  have hxL : x ≠ hp.objs.size := Nat.ne_of_lt (Heap.lt_size hx)
  have m1 : (fun y => ([(("self" : Str), Value.ref x), (fld, v)] : List (Str × Value)).reverse.lookup y) "self" = some (Value.ref x) := by
    have e : (("self" : Str) == fld) = false := by simpa using fun z => hfn.1 z.symm
    simp [List.lookup, e]
  have m2 : (fun y => ([(("self" : Str), Value.ref x), (fld, v)] : List (Str × Value)).reverse.lookup y) fld = some v := by simp [List.lookup]
  obtain ⟨hin, pl, hev⟩ := V hp.objs.size (.ref cda)
  refine ks_wpAt_execs_cons ?_
  refine super_said T (g := g) (d := d) (os := os) (t := t + [(("self" : Str), Value.ref x), (fld, v)].length) ho hcda har (by rw [hself]; exact S.self) X0 G0 hns (by rw [hself]; exact m1) hx0 hxL hxK (fun h1 tk1 t1 k1 e1 => ?_) hin hev
  refine _root_.PySem.wpAt_of_wpAny ?_
  have X1 : K.In h1 := fun b o e => k1 b o (fun z => by rw [z, hxK] at e; cases e) (X0 b o e)
  have hns1 : h1.Ns hp.objs.size (fun y => ([(("self" : Str), Value.ref x), (fld, v)] : List (Str × Value)).reverse.lookup y) := by
    obtain ⟨o, es, ep, a, b⟩ := hns
    exact ⟨o, es, ep, k1 _ _ (Ne.symm hxL) a, b⟩
  refine wpAny_execs_cons (plainObj_wpAny_Assign_Attribute ?_)
  refine ld_local hns1 m2 T.sk (S.fl _ (by simp)) hfn.2 (ld_local hns1 m1 T.sk S.self (by decide) ?_)
  refine store_first T X1 e1 hno fun h2 tk2 dx k2 dn dne e2 n2 => ?_
  refine wpAny_execs_nil ?_
  have hz : hp.objs.size ≤ h1.objs.size := by
    obtain ⟨o, es, ep, a, b⟩ := hns1
    exact Nat.le_of_lt (Heap.lt_size a)
  exact hq h2 tk2 dx ⟨fun b o hb e => k2 b o hb (k1 b o hb (k0 b o e)), ⟨t1, e2⟩, Nat.le_trans hz dn, dne, n2⟩

/-- __init__ without a field -/
theorem init_none (T : Ini K prog C f cc qual params [supSt msg j p0 p1 p2 p3 p4 p5] scope bmB B newId initId) (S : Sc scope params []) (V : Ev qual scope f cc msg j p0 p1 p2 p3 p4)
    {t0 : Addr} {args : Args} {R : Result → Shared → Prop} (X : K.In s.heap) (G : GlobAt s.heap mg) (hx : s.heap.get? x = some (excObj C t0 none .none)) (hxK : K.lookup x = none) (hroom : A.depth < recursionLimit)
    (hb : ∀ (kV doc pm : Value) (an : Option Addr) (cdv ct : Value), BindsTo s (ksFn "__init__" qual params [supSt msg j p0 p1 p2 p3 p4 p5] scope .none kV doc pm an cdv ct cc) args [(("self" : Str), .ref x)])
    (hq : ∀ h' tk t1, (∀ b o, b ≠ x → s.heap.get? b = some o → h'.get? b = some o) → h'.get? x = some (excObj C t1 none .none) → R (.ok (.ret .none)) { s with heap := h', toks := tk }) :
    codeAny (model prog w) A (.call (.ref f) args) R s := by
  obtain ⟨oc, od, kV, doc, pm, an, cda, ct, osl, ho, hcd, hcda⟩ := T.fn
  obtain ⟨ar, har, hself⟩ := S.hd
  obtain ⟨hp, g, d, t, os⟩ := s
  refine ks_codeAny_call_defAt (fd := ksFn "__init__" qual params [supSt msg j p0 p1 p2 p3 p4 p5] scope .none kV doc pm an (.ref cda) ct cc) (body := [supSt msg j p0 p1 p2 p3 p4 p5]) hroom (X _ _ ho) rfl G.lim (codeRec_of X hcd) rfl (hb _ _ _ _ _ _) S.nc
    (fun y hy => ?_) (fun h0 hns k0 => ?_) S.co S.gen T.sk
  · rcases List.mem_cons.mp hy with rfl | hy
    · exact S.self
    · exact absurd hy (by simp)
  have hx0 := k0 _ _ hx
  have hxL : x ≠ hp.objs.size := Nat.ne_of_lt (Heap.lt_size hx)
  have m1 : (fun y => ([(("self" : Str), Value.ref x)] : List (Str × Value)).reverse.lookup y) "self" = some (Value.ref x) := by simp [List.lookup]
  obtain ⟨hin, pl, hev⟩ := V hp.objs.size (.ref cda)
  refine ks_wpAt_execs_cons ?_
  refine super_said T (g := g) (d := d) (os := os) (t := t + [(("self" : Str), Value.ref x)].length) ho hcda har (by rw [hself]; exact S.self) (X.keeps k0) (G.keeps k0) hns (by rw [hself]; exact m1) hx0 hxL hxK (fun h1 tk1 t1 k1 e1 => ?_) hin hev
  refine _root_.PySem.wpAt_of_wpAny (wpAny_execs_nil ?_)
  exact hq h1 tk1 t1 (fun b o hb e => k1 b o hb (k0 b o e)) e1
variable {fld2 : Str} {r1 r2 r3 r4 : Pos}
/-- __init__ of two fields -/
theorem init_two (T : Ini K prog C f cc qual params [supSt msg j p0 p1 p2 p3 p4 p5, putSt fld q1 q2 q3 q4, putSt fld2 r1 r2 r3 r4] scope bmB B newId initId) (S : Sc scope params [fld, fld2]) (V : Ev qual scope f cc msg j p0 p1 p2 p3 p4) (hno : findIn K (.ref C) fld = some none)
    (hno2 : findIn K (.ref C) fld2 = some none) (hff : fld ≠ fld2)
    {t0 : Addr} {v v2 : Value} {args : Args} {R : Result → Shared → Prop} (X : K.In s.heap) (G : GlobAt s.heap mg) (hx : s.heap.get? x = some (excObj C t0 none .none)) (hxK : K.lookup x = none) (hroom : A.depth < recursionLimit)
    (hb : ∀ (kV doc pm : Value) (an : Option Addr) (cdv ct : Value), BindsTo s (ksFn "__init__" qual params [supSt msg j p0 p1 p2 p3 p4 p5, putSt fld q1 q2 q3 q4, putSt fld2 r1 r2 r3 r4] scope .none kV doc pm an cdv ct cc) args [(("self" : Str), .ref x), (fld, v), (fld2, v2)])
    (hq : ∀ h' tk dx, Own s.heap h' x C dx (fun y => if y = fld2 then some v2 else if y = fld then some v else none) → R (.ok (.ret .none)) { s with heap := h', toks := tk }) :
    codeAny (model prog w) A (.call (.ref f) args) R s := by
  obtain ⟨oc, od, kV, doc, pm, an, cda, ct, osl, ho, hcd, hcda⟩ := T.fn
  obtain ⟨ar, har, hself⟩ := S.hd
  have hf1 := S.nd fld (by simp)
  have hf2 := S.nd fld2 (by simp)
  obtain ⟨hp, g, d, t, os⟩ := s
  refine ks_codeAny_call_defAt (fd := ksFn "__init__" qual params [supSt msg j p0 p1 p2 p3 p4 p5, putSt fld q1 q2 q3 q4, putSt fld2 r1 r2 r3 r4] scope .none kV doc pm an (.ref cda) ct cc)
    (body := [supSt msg j p0 p1 p2 p3 p4 p5, putSt fld q1 q2 q3 q4, putSt fld2 r1 r2 r3 r4]) hroom (X _ _ ho) rfl G.lim (codeRec_of X hcd) rfl (hb _ _ _ _ _ _) S.nc
    (fun y hy => ?_) (fun h0 hns k0 => ?_) S.co S.gen T.sk
  · rcases List.mem_cons.mp hy with rfl | hy
    · exact S.self
    · rcases List.mem_cons.mp hy with rfl | hy
      · exact S.fl _ (by simp)
      · rcases List.mem_cons.mp hy with rfl | hy
        · exact S.fl _ (by simp)
        · exact absurd hy (by simp)
  have X0 : K.In h0 := X.keeps k0
  have hx0 := k0 _ _ hx
  have hxL : x ≠ hp.objs.size := Nat.ne_of_lt (Heap.lt_size hx)
  have e1' : (("self" : Str) == fld) = false := by simpa using fun z => hf1.1 z.symm
  have e2' : (("self" : Str) == fld2) = false := by simpa using fun z => hf2.1 z.symm
  have e3' : (fld == fld2) = false := by simpa using hff
  have m1 : (fun y => ([(("self" : Str), Value.ref x), (fld, v), (fld2, v2)] : List (Str × Value)).reverse.lookup y) "self" = some (Value.ref x) := by simp [List.lookup, e1', e2']
  have m2 : (fun y => ([(("self" : Str), Value.ref x), (fld, v), (fld2, v2)] : List (Str × Value)).reverse.lookup y) fld = some v := by simp [List.lookup, e3']
  have m3 : (fun y => ([(("self" : Str), Value.ref x), (fld, v), (fld2, v2)] : List (Str × Value)).reverse.lookup y) fld2 = some v2 := by simp [List.lookup]
  obtain ⟨hin, pl, hev⟩ := V hp.objs.size (.ref cda)
  refine ks_wpAt_execs_cons ?_
  refine super_said T (g := g) (d := d) (os := os) (t := t + [(("self" : Str), Value.ref x), (fld, v), (fld2, v2)].length) ho hcda har (by rw [hself]; exact S.self) X0 (G.keeps k0) hns (by rw [hself]; exact m1) hx0 hxL hxK (fun h1 tk1 t1 k1 e1 => ?_) hin hev
  refine _root_.PySem.wpAt_of_wpAny ?_
  have X1 : K.In h1 := fun b o e => k1 b o (fun z => by rw [z, hxK] at e; cases e) (X0 b o e)
  have hns1 : h1.Ns hp.objs.size (fun y => ([(("self" : Str), Value.ref x), (fld, v), (fld2, v2)] : List (Str × Value)).reverse.lookup y) := by
    obtain ⟨o, es, ep, a, b⟩ := hns
    exact ⟨o, es, ep, k1 _ _ (Ne.symm hxL) a, b⟩
  refine wpAny_execs_cons (plainObj_wpAny_Assign_Attribute ?_)
  refine ld_local hns1 m2 T.sk (S.fl _ (by simp)) hf1.2 (ld_local hns1 m1 T.sk S.self (by decide) ?_)
  refine store_first T X1 e1 hno fun h2 tk2 dx k2 dn dne e2 n2 => ?_
  have X2 : K.In h2 := fun b o e => k2 b o (fun z => by rw [z, hxK] at e; cases e) (X1 b o e)
  have hz : hp.objs.size < h1.objs.size := by
    obtain ⟨o, es, ep, a, b⟩ := hns1
    exact Heap.lt_size a
  have hns2 : h2.Ns hp.objs.size (fun y => ([(("self" : Str), Value.ref x), (fld, v), (fld2, v2)] : List (Str × Value)).reverse.lookup y) := by
    obtain ⟨o, es, ep, a, b⟩ := hns1
    exact ⟨o, es, ep, k2 _ _ (Ne.symm hxL) a, b⟩
  refine wpAny_execs_cons (plainObj_wpAny_Assign_Attribute ?_)
  refine ld_local hns2 m3 T.sk (S.fl _ (by simp)) hf2.2 (ld_local hns2 m1 T.sk S.self (by decide) ?_)
  have hw : Within (fun y => if y = fld then some v else none) [fld] := Within.cons fld v Within.nil
  refine store_more T X2 e2 n2 hw (show 1 ≤ 1000 by decide) hno2 fun h3 tk3 k3 n3 => ?_
  refine wpAny_execs_nil ?_
  have nd : ∀ {b : Addr} {o : Obj}, h1.get? b = some o → b ≠ dx := fun {b o} e => Nat.ne_of_lt (Nat.lt_of_lt_of_le (Heap.lt_size e) dn)
  exact hq h3 tk3 dx ⟨fun b o hb e => k3 b o (nd (k1 b o hb (k0 b o e))) (k2 b o hb (k1 b o hb (k0 b o e))), ⟨t1, k3 _ _ (Ne.symm dne) e2⟩, Nat.le_trans (Nat.le_of_lt hz) dn, dne, n3⟩

/-- a made exception: all that stood stands -/
structure Made (h h' : Heap) (e C : Addr) (d : Option Addr) (m : Str → Option Value) : Prop where
  keep : ∀ b o, h.get? b = some o → h'.get? b = some o
  new : h.objs.size ≤ e
  obj : ∃ t1, h'.get? e = some (excObj C t1 d .none)
  dict : ∀ dx, d = some dx → h.objs.size ≤ dx ∧ dx ≠ e ∧ h'.Ns1 dx m
theorem call_made {us : List Value} {kw : List (Str × Value)} {body : List Stmt} (T : Ini K prog C f cc qual params body scope bmB B newId initId) (X : K.In s.heap) (hz : us.length ≤ sizeLine) {R : Result → Shared → Prop} {dopt : Option Addr → Prop} {m : Str → Option Value}
    (hrun : ∀ (h0 : Heap), (∀ b o, s.heap.get? b = some o → h0.get? b = some o) → h0.objs.size = s.heap.objs.size + 2 → K.lookup (s.heap.objs.size + 1) = none → h0.get? (s.heap.objs.size + 1) = some (excObj C s.heap.objs.size none .none) →
      ∀ R' : Result → Shared → Prop, (∀ h' tk d, dopt d → (∀ b o, b ≠ s.heap.objs.size + 1 → h0.get? b = some o → h'.get? b = some o) → (∃ t1, h'.get? (s.heap.objs.size + 1) = some (excObj C t1 d .none)) →
          (∀ dx, d = some dx → h0.objs.size ≤ dx ∧ dx ≠ s.heap.objs.size + 1 ∧ h'.Ns1 dx m) → R' (.ok (.ret .none)) { s with heap := h', toks := tk }) →
        codeAny (model prog w) (A.under (.builtin "type.__call__" ⟨.ref C :: us, kw⟩)) (.call (.ref f) ⟨.ref (s.heap.objs.size + 1) :: us, kw⟩) R' { s with heap := h0 })
    (hq : ∀ h' tk e d, dopt d → Made s.heap h' e C d m → R (.ok (.ret (.ref e))) { s with heap := h', toks := tk }) :
    codeAny (model prog w) A (.call (.ref C) ⟨us, kw⟩) R s := by
  obtain ⟨nm, q, N, bs, bm, sn, sub, ab, col, dd, k0, k1, k2, k3, k5, hC, hbm⟩ := T.cls
  obtain ⟨Bn, initN, bmN, FB, c1, c2, c3⟩ := T.new
  have M : NewM C bm Bn := ⟨by rw [List.contains_cons, excTail_contains Bn bm hbm, c1, Bool.or_true], by rw [List.contains_cons, excTail_contains "AttributeError" bm hbm, c2]; rfl, by rw [List.contains_cons, excTail_contains "NameError" bm hbm, c3]; rfl⟩
  obtain ⟨hp, g, dr, tk, os⟩ := s
  have k : ∀ b o, hp.get? b = some o → ((hp.push (kdv_tup us)).push (HandSPX.excO C hp.objs.size)).get? b = some o := fun b o e => Heap.get?_push_of_some _ (Heap.get?_push_of_some _ e)
  have hget : ((hp.push (kdv_tup us)).push (HandSPX.excO C hp.objs.size)).get? (hp.objs.size + 1) = some (HandSPX.excO C hp.objs.size) := by heap_get
  have hnx : K.lookup (hp.objs.size + 1) = none := by
    cases e : K.lookup (hp.objs.size + 1) with
    | none => rfl
    | some o => exact absurd (Nat.lt_of_succ_lt (Heap.lt_size (X _ _ e))) (Nat.lt_irrefl _)
  have hsz : ((hp.push (kdv_tup us)).push (HandSPX.excO C hp.objs.size)).objs.size = hp.objs.size + 2 := by rw [Heap.size_push, Heap.size_push]
  refine call_K FB M (X _ _ hC) (looks_findIn X T.iC) (fun self => bind_fn X self T.tF) hz ?_
  refine hrun _ k hsz hnx hget _ fun h' tk' d hd k' hx' hdict => ?_
  refine ⟨rfl, hq h' tk' (hp.objs.size + 1) d hd ⟨fun b o e => k' b o (Nat.ne_of_lt (Nat.lt_succ_of_lt (Heap.lt_size e))) (k b o e), Nat.le_succ _, hx', fun dx e => ?_⟩⟩
  obtain ⟨a, b, c⟩ := hdict dx e
  rw [hsz] at a
  exact ⟨Nat.le_trans (Nat.le_add_right _ 2) a, b, c⟩
/-- how the arguments are given: by place, or by the fields' names -/
inductive ArgOk : List Str → Args → List Value → Prop
  | pos {flds : List Str} {us : List Value} (h : us.length = flds.length) : ArgOk flds ⟨us, []⟩ us
  | kw1 {f : Str} {v : Value} : ArgOk [f] ⟨[], [(f, v)]⟩ [v]
  | kw2 {f f2 : Str} {v v2 : Value} : ArgOk [f, f2] ⟨[], [(f2, v2), (f, v)]⟩ [v, v2]
theorem ArgOk.pz {flds : List Str} {a : Args} {us : List Value} (h : ArgOk flds a us) (hf : flds.length ≤ 2) : a.pos.length ≤ sizeLine := by
  rw [sizeLine_eq]
  cases h with
  | pos h => show us.length ≤ _; omega
  | kw1 => exact Nat.zero_le _
  | kw2 => exact Nat.zero_le _
theorem ArgOk.len {flds : List Str} {a : Args} {us : List Value} (h : ArgOk flds a us) : us.length = flds.length := by
  cases h with
  | pos h => exact h
  | kw1 => rfl
  | kw2 => rfl
theorem made_one (T : Ini K prog C f cc qual params [supSt msg j p0 p1 p2 p3 p4 p5, putSt fld q1 q2 q3 q4] scope bmB B newId initId) (S : Sc scope params [fld]) (V : Ev qual scope f cc msg j p0 p1 p2 p3 p4) (hno : findIn K (.ref C) fld = some none)
    {a : Args} {v : Value} {R : Result → Shared → Prop} (ha : ArgOk [fld] a [v]) (X : K.In s.heap) (G : GlobAt s.heap mg) (hroom : A.depth + 1 < recursionLimit)
    (hb : ∀ (s' : Shared) (x : Addr) (kV doc pm : Value) (an : Option Addr) (cdv ct : Value), BindsTo s' (ksFn "__init__" qual params [supSt msg j p0 p1 p2 p3 p4 p5, putSt fld q1 q2 q3 q4] scope .none kV doc pm an cdv ct cc) ⟨.ref x :: a.pos, a.kw⟩ [(("self" : Str), .ref x), (fld, v)])
    (hq : ∀ h' tk e d, Made s.heap h' e C (some d) (fun y => if y = fld then some v else none) → R (.ok (.ret (.ref e))) { s with heap := h', toks := tk }) :
    codeAny (model prog w) A (.call (.ref C) a) R s := by
  refine call_made (us := a.pos) (kw := a.kw) (dopt := fun d => ∃ dx, d = some dx) (m := fun y => if y = fld then some v else none) T X (ha.pz (show 1 ≤ 2 by decide)) (fun h0 k0 hsz hnx hx R' hR => ?_) (fun h' tk e d ⟨dx, hd⟩ M => by subst hd; exact hq h' tk e dx M)
  refine init_one T S V hno (s := { s with heap := h0 }) (X.keeps k0) (G.keeps k0) hx hnx ?_ (fun _ _ _ _ _ _ => hb _ _ _ _ _ _ _ _) fun h' tk dx O => ?_
  · show A.depth + 1 < recursionLimit
    exact hroom
  · exact hR h' tk (some dx) ⟨dx, rfl⟩ O.keep O.obj fun dy e => by cases e; exact ⟨O.dbig, O.dne, O.ns⟩
theorem made_two (T : Ini K prog C f cc qual params [supSt msg j p0 p1 p2 p3 p4 p5, putSt fld q1 q2 q3 q4, putSt fld2 r1 r2 r3 r4] scope bmB B newId initId) (S : Sc scope params [fld, fld2]) (V : Ev qual scope f cc msg j p0 p1 p2 p3 p4) (hno : findIn K (.ref C) fld = some none)
    (hno2 : findIn K (.ref C) fld2 = some none) (hff : fld ≠ fld2) {a : Args} {v v2 : Value} {R : Result → Shared → Prop} (ha : ArgOk [fld, fld2] a [v, v2]) (X : K.In s.heap) (G : GlobAt s.heap mg) (hroom : A.depth + 1 < recursionLimit)
    (hb : ∀ (s' : Shared) (x : Addr) (kV doc pm : Value) (an : Option Addr) (cdv ct : Value), BindsTo s' (ksFn "__init__" qual params [supSt msg j p0 p1 p2 p3 p4 p5, putSt fld q1 q2 q3 q4, putSt fld2 r1 r2 r3 r4] scope .none kV doc pm an cdv ct cc) ⟨.ref x :: a.pos, a.kw⟩ [(("self" : Str), .ref x), (fld, v), (fld2, v2)])
    (hq : ∀ h' tk e d, Made s.heap h' e C (some d) (fun y => if y = fld2 then some v2 else if y = fld then some v else none) → R (.ok (.ret (.ref e))) { s with heap := h', toks := tk }) :
    codeAny (model prog w) A (.call (.ref C) a) R s := by
  refine call_made (us := a.pos) (kw := a.kw) (dopt := fun d => ∃ dx, d = some dx) (m := fun y => if y = fld2 then some v2 else if y = fld then some v else none) T X (ha.pz (show 2 ≤ 2 by decide)) (fun h0 k0 hsz hnx hx R' hR => ?_) (fun h' tk e d ⟨dx, hd⟩ M => by subst hd; exact hq h' tk e dx M)
  refine init_two T S V hno hno2 hff (s := { s with heap := h0 }) (X.keeps k0) (G.keeps k0) hx hnx ?_ (fun _ _ _ _ _ _ => hb _ _ _ _ _ _ _ _) fun h' tk dx O => ?_
  · show A.depth + 1 < recursionLimit
    exact hroom
  · exact hR h' tk (some dx) ⟨dx, rfl⟩ O.keep O.obj fun dy e => by cases e; exact ⟨O.dbig, O.dne, O.ns⟩
theorem made_none (T : Ini K prog C f cc qual params [supSt msg j p0 p1 p2 p3 p4 p5] scope bmB B newId initId) (S : Sc scope params []) (V : Ev qual scope f cc msg j p0 p1 p2 p3 p4)
    {a : Args} {R : Result → Shared → Prop} (ha : ArgOk [] a []) (X : K.In s.heap) (G : GlobAt s.heap mg) (hroom : A.depth + 1 < recursionLimit)
    (hb : ∀ (s' : Shared) (x : Addr) (kV doc pm : Value) (an : Option Addr) (cdv ct : Value), BindsTo s' (ksFn "__init__" qual params [supSt msg j p0 p1 p2 p3 p4 p5] scope .none kV doc pm an cdv ct cc) ⟨.ref x :: a.pos, a.kw⟩ [(("self" : Str), .ref x)])
    (hq : ∀ h' tk e, Made s.heap h' e C none (fun _ => none) → R (.ok (.ret (.ref e))) { s with heap := h', toks := tk }) :
    codeAny (model prog w) A (.call (.ref C) a) R s := by
  refine call_made (us := a.pos) (kw := a.kw) (dopt := fun d => d = none) (m := fun _ => none) T X (ha.pz (by decide)) (fun h0 k0 hsz hnx hx R' hR => ?_) (fun h' tk e d hd M => by subst hd; exact hq h' tk e M)
  refine init_none T S V (s := { s with heap := h0 }) (X.keeps k0) (G.keeps k0) hx hnx ?_ (fun _ _ _ _ _ _ => hb _ _ _ _ _ _ _ _) fun h' tk t1 kk e1 => ?_
  · show A.depth + 1 < recursionLimit
    exact hroom
  · exact hR h' tk none rfl kk ⟨t1, e1⟩ fun dy e => by cases e
end
end ExM

/-! Own exceptions as values: made, raised, caught by a clause over a tuple of classes, kept, asked. -/
namespace L2
open PySem PySem.Spec PyProof.Rows ExM

/-- at e: an exception of the class cls, its own dict d -/
def exv (e : Addr) (cls : Value) (d : Option Addr) : HO := .ext fun h => ∃ (oe : Obj) (vs : Array Value), h.get? e = some oe ∧ Zc cls d oe ∧ oe.data = .fields vs
theorem exv_ok {P : Program} {w : World} {H : Hp} {h : Heap} {e : Addr} {cls : Value} {d : Option Addr} {oe : Obj} {vs : Array Value} (he : h.get? e = some oe) (hz : Zc cls d oe) (hd : oe.data = .fields vs) : ObjOk P w H h e (exv e cls d) :=
  ⟨⟨oe, vs, he, hz, hd⟩, ⟨oe, he⟩, fun _ _ ⟨o, v, q, r⟩ k => ⟨o, v, k o q, r⟩⟩
theorem exv_at {P : Program} {w : World} {H : Hp} {h : Heap} {e : Addr} {cls : Value} {d : Option Addr} (hok : HOk P w H h) (he : H e = some (exv e cls d)) : ∃ (oe : Obj) (vs : Array Value), h.get? e = some oe ∧ Zc cls d oe ∧ oe.data = .fields vs := by
  have x : ObjOk P w H h e (.ext fun h => ∃ (oe : Obj) (vs : Array Value), h.get? e = some oe ∧ Zc cls d oe ∧ oe.data = .fields vs) := hok e _ he
  exact x.1

/-- calling the class at C with as many values as fields makes an exception that holds them (the last field first) -/
structure Mks (prog : Program) (K : PySem.W.Frag) (mg : Str → Option Value) (C : Addr) (flds : List Str) : Prop where
  call : ∀ (w : World) (A : Around) (s : Shared) (a : Args) (us : List Value) (R : Result → Shared → Prop), ArgOk flds a us → K.In s.heap → GlobAt s.heap mg → A.depth + 1 < recursionLimit →
    (∀ h' tk e d m, Made s.heap h' e C d m → (flds = [] ↔ d = none) → (∀ f, m f = (flds.zip us).reverse.lookup f) → R (.ok (.ret (.ref e))) { s with heap := h', toks := tk }) → codeAny (model prog w) A (.call (.ref C) a) R s
  kC : PySem.W.keepIn K (.ref C) = true
  exC : PySem.W.subIn K (.ref C) (.type "BaseException") = some true
  tyC : PySem.W.typeIn K (.ref C) = some (.type "type")

abbrev PV : Str × V → Str × Value → Prop := fun p q => p.1 = q.1 ∧ RelV p.2 q.2
theorem relO_look : ∀ {ps : List (Str × V)} {qs : List (Str × Value)}, Paired PV ps qs → ∀ f, RelO (ps.lookup f) (qs.lookup f)
  | _, _, .nil, _ => True.intro
  | _, _, .cons (a := p) (b := q) r t, f => by
    obtain ⟨g, v⟩ := p
    obtain ⟨g', u⟩ := q
    obtain ⟨e, r⟩ := r
    dsimp only at e r
    subst e
    by_cases h : f = g
    · subst h
      simp only [List.lookup, beq_self_eq_true]
      exact r
    · have e : (f == g) = false := by simpa using h
      simpa [List.lookup, e] using relO_look t f
theorem pv_zip : ∀ {fs : List Str} {vs : List V} {us : List Value}, Vals vs us → Paired PV (fs.zip vs) (fs.zip us)
  | [], _, _, _ => by simpa using Paired.nil
  | _ :: _, _, _, .nil => by simpa using Paired.nil
  | _ :: _, _, _, .cons r t => .cons ⟨rfl, r⟩ (pv_zip t)
theorem paired_app {α β : Type} {F : α → β → Prop} : ∀ {a : List α} {b : List β} {c : List α} {d : List β}, Paired F a b → Paired F c d → Paired F (a ++ c) (b ++ d)
  | _, _, _, _, .nil, s => s
  | _, _, _, _, .cons r t, s => .cons r (paired_app t s)
theorem paired_rev {α β : Type} {F : α → β → Prop} : ∀ {a : List α} {b : List β}, Paired F a b → Paired F a.reverse b.reverse
  | _, _, .nil => .nil
  | _, _, .cons r t => by
    rw [List.reverse_cons, List.reverse_cons]
    exact paired_app (paired_rev t) (.cons r .nil)
theorem relO_rev {fs : List Str} {vs : List V} {us : List Value} (r : Vals vs us) (hl : vs.length = fs.length) (f : Str) : RelO ((fs.zip vs).reverse.lookup f) ((fs.zip us).reverse.lookup f) := relO_look (paired_rev (pv_zip r)) f

section
variable {X : Cx} {pins : List (Addr × Obj)} {σ : St} {H : Hp} {s : Shared}
theorem Inv.globAt (I : Inv X pins σ H s) (hs : X.mg "super" = none) : GlobAt s.heap X.mg := by
  obtain ⟨mb, h1, h2⟩ := I.mod.blt
  exact ⟨I.mod.glob.keeps I.bk, ⟨mb, h1.keeps I.bk, (h2 "super" (by decide)).trans (by decide +kernel)⟩, hs, I.nolimit⟩
end

section
variable {X : Cx} {C : Addr} {x : Str} {flds : List Str} {es : List Expr} {e : Expr} {ta : TA} {p pos : Pos} {k : Nat}
/-- C(e, ..) for a raise: its dict alone is told -/
def tMks (C : Addr) (flds : List Str) (ta : TA) : St → Hp → XK → Prop := fun σ H Q => ta σ H fun vs H1 => vs.length = flds.length ∧ ∀ d, H1 d = none → Q (.ref C) (some d) (upd H1 d (.xd (flds.zip vs).reverse))
theorem pmk_mks (T : Mks X.prog X.K X.mg C flds) (hs : X.mg "super" = none) (hr : Room k X.A) (hne : flds ≠ []) (ha : PA X (e :: es) ta) (hg : Gl X x) (hm : X.mg x = some (.ref C)) (hdb : (x == ("__debug__" : Str)) = false := by decide)
    (he : starEach (e :: es) X.env = (false, eval e X.env) :: starEach es X.env := by rfl) (hpl : (backTo pos (starEach es X.env)).any (·.1) = false := by rfl) :
    PMk X (.Call (.Name x p) (e :: es) [] pos) (tMks C flds ta) := by
  intro pins s σ H Q I h
  refine wpAny_Call_Name_kw (ld_glob I hg hm ?_ hdb)
  refine PySem.W.callWith_K (h₀ := X.base) I.ok.mod.kin T.kC (thn (ha.run pos pins s σ H _ I h) fun us s1 ⟨vs, H1, I1, r1, hl, q1⟩ => ⟨I1.kIn, ?_⟩) he hpl
  show wpAny _ _ (call (.ref C) us) _ _ _
  have hlu : us.length = flds.length := r1.length.symm.trans hl
  refine wpAny_call (T.call _ _ _ _ us _ (.pos hlu) I1.kIn (I1.globAt hs) (by have := hr.dp; omega) fun h' tk' e d m M hd hmm => ?_)
  show MkP X pins σ Q (.ref e) _
  obtain ⟨d, rfl⟩ : ∃ dd, d = some dd := by
    cases d with
    | none => exact absurd (hd.mpr rfl) hne
    | some dd => exact ⟨dd, rfl⟩
  obtain ⟨t1, hoe⟩ := M.obj
  obtain ⟨db, dne, hns⟩ := M.dict d rfl
  obtain ⟨hp, g, dr, tk, os⟩ := s1
  obtain ⟨G, g1, g2⟩ := restrict h' fun b => decide (b ≠ e)
  have gk : ∀ b, b ≠ e → G.get? b = h'.get? b := fun b hb => g1 b (decide_eq_true hb)
  have ge : G.get? e = none := g2 e (by simp)
  have old : ∀ b o, hp.get? b = some o → G.get? b = some o := fun b o q => (gk b (Nat.ne_of_lt (Nat.lt_of_lt_of_le (Heap.lt_size q) M.new))).trans (M.keep b o q)
  have ob : ObjOk X.prog X.w (upd H1 d (.xd (flds.zip vs).reverse)) G d (.xd (flds.zip vs).reverse) :=
    ⟨_, hns.at (fun o q => (gk d dne).trans q), fun f => by rw [hmm f]; exact relO_rev r1 hl f⟩
  have J : Inv X pins σ (upd H1 d (.xd (flds.zip vs).reverse)) ⟨G, g, dr, tk', os⟩ := I1.laid (t' := tk') old db ob
  refine ⟨e, _, _, ⟨G, g, dr, tk', os⟩, _, .ref C, some d, rfl, J, fun b o q => ?_, ge, hoe, ⟨rfl, rfl⟩, rfl, rfl, ?_, rfl, I1.bare, raises_own T.exC T.tyC, q1 d (I1.hok.fresh db)⟩
  · by_cases hb : b = e
    · rw [hb, ge] at q
      cases q
    · exact (gk b hb).symm.trans q
  · rw [upd_ne (Ne.symm dne)]
    exact I1.hok.fresh M.new
/-- C() for a raise -/
theorem pmk_mks0 (T : Mks X.prog X.K X.mg C []) (hs : X.mg "super" = none) (hr : Room k X.A) (hg : Gl X x) (hm : X.mg x = some (.ref C)) (hdb : (x == ("__debug__" : Str)) = false := by decide) :
    PMk X (.Call (.Name x p) [] [] pos) (fun σ H Q => Q (.ref C) none H) := by
  intro pins s σ H Q I h
  refine wpAny_Call_Name_kw (ld_glob I hg hm ?_ hdb)
  refine PySem.W.callWith_K0 I.kIn T.kC ?_
  refine wpAny_call (T.call _ _ _ _ [] _ (.pos rfl) I.kIn (I.globAt hs) (by have := hr.dp; omega) fun h' tk' e d m M hd hmm => ?_)
  show MkP X pins σ Q (.ref e) _
  obtain rfl : d = none := hd.mp rfl
  obtain ⟨t1, hoe⟩ := M.obj
  have na : H e = none := I.hok.fresh M.new
  have nn : s.heap.get? e = none := by
    cases q : s.heap.get? e with
    | none => rfl
    | some o => exact absurd (Nat.lt_of_lt_of_le (Heap.lt_size q) M.new) (Nat.lt_irrefl _)
  exact ⟨e, _, _, s, _, .ref C, none, rfl, I, M.keep, nn, hoe, ⟨rfl, rfl⟩, rfl, rfl, na, rfl, I.bare, raises_own T.exC T.tyC, h⟩
/-- C(e, ..) as a value: the exception is kept -/
def tMkv (C : Addr) (flds : List Str) (ta : TA) : TE := fun σ H Q => ta σ H fun vs H1 => vs.length = flds.length ∧ ∀ e d, H1 e = none → H1 d = none → d ≠ e → Q (.ref e) (upd (upd H1 d (.xd (flds.zip vs).reverse)) e (exv e (.ref C) (some d)))
theorem pe_mkv (T : Mks X.prog X.K X.mg C flds) (hs : X.mg "super" = none) (hr : Room k X.A) (hne : flds ≠ []) (ha : PA X (e :: es) ta) (hg : Gl X x) (hm : X.mg x = some (.ref C)) (hdb : (x == ("__debug__" : Str)) = false := by decide)
    (he : starEach (e :: es) X.env = (false, eval e X.env) :: starEach es X.env := by rfl) (hpl : (backTo pos (starEach es X.env)).any (·.1) = false := by rfl) :
    PE X (.Call (.Name x p) (e :: es) [] pos) (tMkv C flds ta) := by
  refine ⟨fun pins s σ H Q I h => ?_⟩
  refine wpAny_Call_Name_kw (ld_glob I hg hm ?_ hdb)
  refine PySem.W.callWith_K (h₀ := X.base) I.ok.mod.kin T.kC (thn (ha.run pos pins s σ H _ I h) fun us s1 ⟨vs, H1, I1, r1, hl, q1⟩ => ⟨I1.kIn, ?_⟩) he hpl
  show wpAny _ _ (call (.ref C) us) _ _ _
  have hlu : us.length = flds.length := r1.length.symm.trans hl
  refine wpAny_call (T.call _ _ _ _ us _ (.pos hlu) I1.kIn (I1.globAt hs) (by have := hr.dp; omega) fun h' tk' e d m M hd hmm => ?_)
  obtain ⟨d, rfl⟩ : ∃ dd, d = some dd := by
    cases d with
    | none => exact absurd (hd.mpr rfl) hne
    | some dd => exact ⟨dd, rfl⟩
  obtain ⟨t1, hoe⟩ := M.obj
  obtain ⟨db, dne, hns⟩ := M.dict d rfl
  obtain ⟨hp, g, dr, tk, os⟩ := s1
  obtain ⟨G, g1, g2⟩ := restrict h' fun b => decide (b ≠ e)
  have gk : ∀ b, b ≠ e → G.get? b = h'.get? b := fun b hb => g1 b (decide_eq_true hb)
  have ge : G.get? e = none := g2 e (by simp)
  have gs : ∀ b o, G.get? b = some o → h'.get? b = some o := fun b o q => by
    by_cases hb : b = e
    · rw [hb, ge] at q
      cases q
    · exact (gk b hb).symm.trans q
  have old : ∀ b o, hp.get? b = some o → G.get? b = some o := fun b o q => (gk b (Nat.ne_of_lt (Nat.lt_of_lt_of_le (Heap.lt_size q) M.new))).trans (M.keep b o q)
  have ob : ObjOk X.prog X.w (upd H1 d (.xd (flds.zip vs).reverse)) G d (.xd (flds.zip vs).reverse) :=
    ⟨_, hns.at (fun o q => (gk d dne).trans q), fun f => by rw [hmm f]; exact relO_rev r1 hl f⟩
  have J : Inv X pins σ (upd H1 d (.xd (flds.zip vs).reverse)) ⟨G, g, dr, tk', os⟩ := I1.laid (t' := tk') old db ob
  have ne1 : H1 e = none := I1.hok.fresh M.new
  have ne2 : (upd H1 d (.xd (flds.zip vs).reverse)) e = none := by
    rw [upd_ne (Ne.symm dne)]
    exact ne1
  exact ⟨.ref e, _, J.laidN (t' := tk') gs ge ne2 (exv_ok hoe ⟨rfl, rfl⟩ rfl), rfl, q1 e d ne1 (I1.hok.fresh db) dne⟩
theorem pe_mkv0 (T : Mks X.prog X.K X.mg C []) (hs : X.mg "super" = none) (hr : Room k X.A) (hg : Gl X x) (hm : X.mg x = some (.ref C)) (hdb : (x == ("__debug__" : Str)) = false := by decide) :
    PE X (.Call (.Name x p) [] [] pos) (fun σ H Q => ∀ e, H e = none → Q (.ref e) (upd H e (exv e (.ref C) none))) := by
  refine ⟨fun pins s σ H Q I h => ?_⟩
  refine wpAny_Call_Name_kw (ld_glob I hg hm ?_ hdb)
  refine PySem.W.callWith_K0 I.kIn T.kC ?_
  refine wpAny_call (T.call _ _ _ _ [] _ (.pos rfl) I.kIn (I.globAt hs) (by have := hr.dp; omega) fun h' tk' e d m M hd hmm => ?_)
  obtain rfl : d = none := hd.mp rfl
  obtain ⟨t1, hoe⟩ := M.obj
  have na : H e = none := I.hok.fresh M.new
  exact ⟨.ref e, _, I.laid (t' := tk') M.keep M.new (exv_ok hoe ⟨rfl, rfl⟩ rfl), rfl, h e na⟩
/-- C(f = e) -/
def tMkvK (C : Addr) (flds : List Str) (g : List V → List V) (ta : TA) : TE := fun σ H Q => ta σ H fun vs H1 => vs.length = flds.length ∧ ∀ e d, H1 e = none → H1 d = none → d ≠ e → Q (.ref e) (upd (upd H1 d (.xd (flds.zip (g vs)).reverse)) e (exv e (.ref C) (some d)))
theorem mkv_end {pins : List (Addr × Obj)} {σ : St} {H1 : Hp} {Q : VK} {s1 : Shared} {a : Args} {us : List Value} {vs : List V} (T : Mks X.prog X.K X.mg C flds) (hs : X.mg "super" = none) (hr : Room k X.A) (hne : flds ≠ []) (I1 : Inv X pins σ H1 s1) (r1 : Vals vs us) (ha : ArgOk flds a us)
    (q1 : ∀ e d, H1 e = none → H1 d = none → d ≠ e → Q (.ref e) (upd (upd H1 d (.xd (flds.zip vs).reverse)) e (exv e (.ref C) (some d)))) :
    wpAny (model X.prog X.w) X.A (call (.ref C) a.pos a.kw) (EP X pins σ Q) X.xe s1 := by
  have hl : vs.length = flds.length := r1.length.trans ha.len
  refine wpAny_call (T.call _ _ _ _ us _ ha I1.kIn (I1.globAt hs) (by have := hr.dp; omega) fun h' tk' e d m M hd hmm => ?_)
  obtain ⟨d, rfl⟩ : ∃ dd, d = some dd := by
    cases d with
    | none => exact absurd (hd.mpr rfl) hne
    | some dd => exact ⟨dd, rfl⟩
  obtain ⟨t1, hoe⟩ := M.obj
  obtain ⟨db, dne, hns⟩ := M.dict d rfl
  obtain ⟨hp, g, dr, tk, os⟩ := s1
  obtain ⟨G, g1, g2⟩ := restrict h' fun b => decide (b ≠ e)
  have gk : ∀ b, b ≠ e → G.get? b = h'.get? b := fun b hb => g1 b (decide_eq_true hb)
  have ge : G.get? e = none := g2 e (by simp)
  have gs : ∀ b o, G.get? b = some o → h'.get? b = some o := fun b o q => by
    by_cases hb : b = e
    · rw [hb, ge] at q
      cases q
    · exact (gk b hb).symm.trans q
  have old : ∀ b o, hp.get? b = some o → G.get? b = some o := fun b o q => (gk b (Nat.ne_of_lt (Nat.lt_of_lt_of_le (Heap.lt_size q) M.new))).trans (M.keep b o q)
  have ob : ObjOk X.prog X.w (upd H1 d (.xd (flds.zip vs).reverse)) G d (.xd (flds.zip vs).reverse) :=
    ⟨_, hns.at (fun o q => (gk d dne).trans q), fun f => by rw [hmm f]; exact relO_rev r1 hl f⟩
  have J : Inv X pins σ (upd H1 d (.xd (flds.zip vs).reverse)) ⟨G, g, dr, tk', os⟩ := I1.laid (t' := tk') old db ob
  have ne1 : H1 e = none := I1.hok.fresh M.new
  have ne2 : (upd H1 d (.xd (flds.zip vs).reverse)) e = none := by
    rw [upd_ne (Ne.symm dne)]
    exact ne1
  exact ⟨.ref e, _, J.laidN (t' := tk') gs ge ne2 (exv_ok hoe ⟨rfl, rfl⟩ rfl), rfl, q1 e d ne1 (I1.hok.fresh db) dne⟩
end
end L2

namespace L2
open PySem PySem.Spec PyProof.Rows ExM
section
variable {X : Cx} {pins : List (Addr × Obj)} {σ : St} {H : Hp} {s : Shared}
/-- a pinned object that was not there at the entry is tracked from now on -/
theorem Inv.track {a : Addr} {oe : Obj} {o : HO} (I : Inv X ((a, oe) :: pins) σ H s) (n0 : X.s_0.heap.get? a = none) (hp : ∀ p ∈ X.pn ++ pins, p.1 ≠ a) (hk : ∀ v, oe.data ≠ .cell v) (new : ObjOk X.prog X.w (upd H a o) s.heap a o) : Inv X pins σ (upd H a o) s := by
  obtain ⟨ea, na, nL, nF, _⟩ := I.pin (a, oe) (List.mem_append_right _ List.mem_cons_self)
  dsimp only at ea na nL nF
  have sub : ∀ p ∈ X.pn ++ pins, p ∈ X.pn ++ (a, oe) :: pins := fun p hp => (List.mem_append.mp hp).elim (List.mem_append_left _) fun z => List.mem_append_right _ (List.mem_cons_of_mem _ z)
  have old : ∀ b u, X.s_0.heap.get? b = some u → b ≠ a := fun b u e z => by
    rw [z, n0] at e
    cases e
  refine ⟨I.ok, I.os, I.bare, ⟨I.base.keep, I.base.slot, fun b u e n hx => ?_, I.base.there, fun b xs e => ?_, fun b u v e => ?_, fun b ps e => ?_⟩, I.loc, I.cell, ?_, fun x c e => ?_, fun p h => ?_, fun b u e => ?_, I.len⟩
  · rw [upd_ne (old b u e)]
    exact I.base.free b u e n hx
  · have q := I.base.tups b xs e
    rw [upd_ne (ne_of_none q na)]
    exact q
  · have q := I.base.frzs b u v e
    rw [upd_ne (ne_of_none q na)]
    exact q
  · obtain ⟨m, q⟩ := I.base.tbls b ps e
    exact ⟨m, by rw [upd_ne (ne_of_none q na)]; exact q⟩
  · rw [upd_ne (Ne.symm nL)]
    exact I.free
  · have hc : c ≠ a := fun z => by
      obtain ⟨v, oc, hoc, hd⟩ := I.cell x c e
      rw [z, ea] at hoc
      cases hoc
      exact hk v hd
    rw [upd_ne hc]
    exact I.freeC x c e
  · obtain ⟨e, n, ne, nf, d⟩ := I.pin p (sub p h)
    exact ⟨e, by rw [upd_ne (hp p h)]; exact n, ne, nf, d⟩
  · by_cases hb : b = a
    · subst hb
      rw [upd_same] at e
      cases e
      exact new
    · rw [upd_ne hb] at e
      exact (I.hok b u e).stay (fun _ _ _ q => q) (fun c q => by rw [upd_ne (ne_of_none q na)]; exact q) fun c xs q => by rw [upd_ne (ne_of_none q na)]; exact q
end

/-- what the clause 'except (c1, .., c4) as n' wishes: behind the suite the exception is an object that is kept -/
def wAsT (K : PySem.W.Frag) (cs : List Value) (i : Nat) (ts : Addr → Value → Option Addr → TS) (Wout : WX) (D : Ends) : WX := fun cls d σ H =>
  ∃ b, PySem.W.exmAny K cls cs = some b ∧ (b = true → ∀ a, H a = none → ts a cls d { nx := fun σ' H' => D.nx (σ'.set i none) (upd H' a (exv a cls d)), rt := fun _ _ => False } (σ.set i (some (.ref a))) H) ∧
    (b = false → Wout cls d σ H)
/-- a global class, as an expression of a clause -/
inductive NamesT (X : Cx) : List Expr → List Value → Prop
  | nil : NamesT X [] []
  | cons {x : Str} {c : Addr} {np : Pos} {es : List Expr} {cs : List Value} (hg : Gl X x) (hm : X.mg x = some (.ref c)) (hd : (x == ("__debug__" : Str)) = false) (r : NamesT X es cs) : NamesT X (.Name x np :: es) (.ref c :: cs)
theorem NamesT.run {X : Cx} {pins : List (Addr × Obj)} {σ : St} {H : Hp} {s : Shared} {A : Around} {E : Value → Shared → Prop} {pos : Pos} (hk : X.env.scope.kind = .function) (hgl : s.heap.Ns X.env.globals X.mg) : ∀ {es : List Expr} {cs : List Value}, NamesT X es cs → ∀ {Q : List Value → Shared → Prop}, Q cs s →
    wpAny (model X.prog X.w) A (spliced (backTo pos (starEach es X.env))) Q E s
  | _, _, .nil, _, q => Calls.spliced_nil q
  | _, _, .cons (x := x) (c := c) (np := np) (es := es) hg hm hd r, Q, q => by
    rw [show starEach (.Name x np :: es) X.env = (false, eval (.Name x np) X.env) :: starEach es X.env from rfl]
    show wpAny _ _ (spliced ((false, eval (.Name x np) X.env) :: backTo pos (starEach es X.env))) _ _ s
    refine Calls.spliced_cons (Calls.Name_function_global hk hg (Calls.loadGlobal_global hgl hm ?_) hd)
    exact NamesT.run (pins := pins) (σ := σ) (H := H) hk hgl r q
section
variable {X : Cx} {n : Str} {i kx : Nat} {body suite : List Stmt} {b₀ : Stmt} {tpos pos pos' : Pos} {es : List Expr} {c1 c2 c3 c4 : Value} {tb : WX → TS} {ts : Addr → Value → Option Addr → TS} {Wout : WX}
theorem ps_try_asT (hs : X.stack = X.env :: X.outer) (hf : X.env.frame = some X.env.locals) (hN : X.N.Nodup) (hi : X.N[i]? = some n) (hln : X.env.kindOf n = some .local) (hc : NamesT X es [c1, c2, c3, c4]) (hex : X.ex = []) (tk : Takes X Wout)
    (hb : ∀ (W : WX) (pn : List (Addr × Obj)) (xe : Value → Shared → Prop), Takes (X.tr pn xe) W → PassesOwn (model X.prog X.w) X.A X.env xe → PSs (X.tr pn xe) body (tb W))
    (hsu : ∀ (a : Addr) (oe : Obj) (cls : Value) (d : Option Addr) (pn : List (Addr × Obj)), Zc cls d oe → (∃ vs, oe.data = .fields vs) → PSs (X.suite a ((a, oe) :: pn)) (b₀ :: suite) (ts a cls d)) :
    PS X (.Try body [.ExceptHandler (some (.Tuple es kx tpos)) (some n) (b₀ :: suite) pos'] [] [] pos) (fun D σ H => tb (wAsT X.K [c1, c2, c3, c4] i ts Wout D) D σ H) := by
  refine ⟨fun pins s σ H D I h => ?_⟩
  have ok := I.ok
  have hfr : X.A.frames = some (X.env :: X.outer) := by rw [ok.frames, hs]
  refine wpAny_Try_except (wpAny_mono ((hb (wAsT X.K [c1, c2, c3, c4] i ts Wout D) (X.pn ++ pins) (fun e s₁ => wpAny (model X.prog X.w) X.A (noteFrame e X.env) (fun _ s₂ => wpAny (model X.prog X.w) X.A (setFlight e none) (fun _ s₃ =>
    wpAny (model X.prog X.w) X.A (handleBy e X.env [.ExceptHandler (some (.Tuple es kx tpos)) (some n) (b₀ :: suite) pos']) (SP X pins D) X.xe s₃) X.xe s₂) X.xe s₁) (fun u s' xx => ?_) PassesOwn.looking).run [] s σ H D (I.toTry _) h) (fun f s1 hsp => ?_) (fun e s1 he => he))
  · obtain ⟨a, B, sI, pins', σ', H', cls, d, rfl, J', nb, up, sky, na, os, ag, b, hb1, hyes, hno⟩ := xx
    have J : Inv X pins σ' H' sI := J'.ofTry ok
    have sky' : Sky B (X.env :: X.outer) a (Zc cls d) X.env.locals s'.heap := by rw [← hs]; exact sky
    show wpAny (model X.prog X.w) X.A (noteFrame (.ref a) X.env) _ _ _
    refine Sky.land Zc.steady hfr hf sky' fun h3 fl3 up3 => ?_
    have J3 : Inv X pins σ' H' { s' with heap := h3 } := J.landed nb fl3.1 (up.trans up3) os ag
    obtain ⟨oe3, vs3, he3, hz3, hd3⟩ := fl3.there
    have nfr : a ∉ frs (X.env :: X.outer) := fun hm => by
      obtain ⟨_, o', e', hnf⟩ := fl3.2.2.1.mem hm
      rw [he3] at e'
      cases e'
      exact hnf _ hd3
    have nL : a ≠ X.env.locals := fun z => nfr (List.mem_filterMap.mpr ⟨X.env, List.mem_cons_self, by rw [hf, z]⟩)
    have nF : a ∉ X.fs := fun hm => by
      obtain ⟨e, he, q⟩ := List.mem_filterMap.mp hm
      exact nfr (List.mem_filterMap.mpr ⟨e, List.mem_cons_of_mem _ he, q⟩)
    have aB : B.get? a = none := fl3.2.1
    have aI : sI.heap.get? a = none := by
      cases q : sI.heap.get? a with
      | none => rfl
      | some o =>
        have z := nb a o q (by rw [hs]; exact nfr)
        rw [aB] at z
        cases z
    have a0 : X.s_0.heap.get? a = none := by
      cases q : X.s_0.heap.get? a with
      | none => rfl
      | some o =>
        obtain ⟨o', z⟩ := J.base.there a o q (by rw [hex]; exact fun z => nomatch z)
        rw [aI] at z
        cases z
    have apn : ∀ p ∈ X.pn ++ pins, p.1 ≠ a := fun p hp z => by
      obtain ⟨e, _⟩ := J.pin p hp
      rw [z, aI] at e
      cases e
    refine wpAny_handleBy_cons (codeAny_handlers_test ?_) (by intro q; cases q)
    have LT : ∀ {g : Heap}, g.get? a = some oe3 → PySem.W.Looks (model X.prog X.w) g (typeOf (.ref a)) cls := fun {g} e A Q E s k q => wpAny_typeOf_ref (k _ _ e) (by rw [hz3.1]; exact q)
    refine wpAny_Tuple_spliced (NamesT.run (pins := pins) (σ := σ') (H := H') ok.kind (by rw [ok.glob]; exact J3.mod.glob.keeps J3.bk) hc ⟨by rw [sizeLine_eq]; exact (by decide : 4 ≤ 16777216), ?_⟩)
    have kT : ∀ b o, h3.get? b = some o → (h3.push { cls := .type "tuple", data := .seq [c1, c2, c3, c4].toArray }).get? b = some o := fun b o e => Heap.get?_push_of_some _ e
    have LM := PySem.W.exm_tup4 (M := model X.prog X.w) (J3.kIn.keeps kT) (LT (kT _ _ he3)) (Heap.get?_push_size h3 rfl) hb1
    refine LM.here ?_
    have fl3' : HandSPX.FlyingZ B (X.env :: X.outer) a (Zc cls d) (h3.push { cls := .type "tuple", data := .seq [c1, c2, c3, c4].toArray }) := by
      obtain ⟨f1, f2, f3, oe, vs, T, oT, tts, e1, e2, e3, e4, e5, e6, e7, e8, e9⟩ := fl3
      exact ⟨fun b o e => kT b o (f1 b o e), f2, f3.of_keeps fun b o e _ => ⟨o, kT b o e, rfl⟩, oe, vs, T, oT, tts, kT _ _ e1, e2, e3, e4, e5, e6, kT _ _ e7, e8, e9⟩
    have upT : h3.UpToSlots (h3.push { cls := .type "tuple", data := .seq [c1, c2, c3, c4].toArray }) := Heap.UpToSlots.of_keeps kT
    cases b with
    | true =>
      refine codeAny_handlers_suite_as ?_
      refine HandSPX.lands_againZ fl3' fun h4 fl4 up4 => ?_
      have J4 : Inv X pins σ' H' { s' with heap := h4 } := J.landed nb fl4.1 (((up.trans up3).trans upT).trans up4) os ag
      obtain ⟨oe4, vs4, he4, hz4, hd4⟩ := fl4.there
      have S4 := J4.suite he4 hd4 na nL nF
      refine store_ok (X := X.suite a ((a, oe4) :: (X.pn ++ pins))) (v := .ref a) S4 hN hi (.inl hln) rfl (fun s5 S5 => ?_) (.inr hln)
      refine wpAny_mono ((hsu a oe4 cls d (X.pn ++ pins) hz4 ⟨_, hd4⟩).run [] s5 _ H' _ S5 (hyes rfl a na)) (fun f s6 hsp => ?_) (fun _ _ z => False.elim z)
      have back : ∀ {σ6 : St} {H6 : Hp}, Inv (X.suite a ((a, oe4) :: (X.pn ++ pins))) [] σ6 H6 s6 → Inv X ((a, oe4) :: pins) σ6 H6 s6 := fun {σ6 H6} S6 =>
        ⟨ok, S6.os, S6.bare, S6.base, S6.loc, S6.cell, S6.free, S6.freeC, fun p hp => S6.pin p (by
          rcases List.mem_append.mp hp with z | z
          · exact List.mem_append_left _ (List.mem_cons_of_mem _ (List.mem_append_left _ z))
          · rcases List.mem_cons.mp z with z | z
            · rw [z]
              exact List.mem_append_left _ List.mem_cons_self
            · exact List.mem_append_left _ (List.mem_cons_of_mem _ (List.mem_append_right _ z))), S6.hok, S6.len⟩
      cases f with
      | next =>
        obtain ⟨σ6, H6, S6, q6⟩ := hsp
        refine gone_ok (back S6) hN hi hln fun s7 J7 => ?_
        have e7 := (J7.pin (a, oe4) (List.mem_append_right _ List.mem_cons_self)).1
        exact ⟨_, _, J7.track a0 apn (fun v z => by rw [hd4] at z; cases z) (exv_ok e7 hz4 hd4), q6⟩
      | brk =>
        obtain ⟨σ6, H6, S6, q6⟩ := hsp
        exact False.elim q6
      | cont =>
        obtain ⟨σ6, H6, S6, q6⟩ := hsp
        exact False.elim q6
      | ret u =>
        obtain ⟨v6, σ6, H6, S6, r6, q6⟩ := hsp
        exact False.elim q6
    | false =>
      show wpAny _ X.A (handleBy (.ref a) X.env []) _ _ _
      refine wpAny_handleBy_nil ?_
      obtain ⟨k1, k2, k3, oe, vs, T, oT, ts', he, hz, hd, h1, hr⟩ := id fl3'
      unfold PySem.passOn
      refine wpAny_bind (wpAny_field he hd h1 ?_)
      rw [if_neg (show ¬ ((Value.ref T == Value.none) = true) from by simp)]
      have fin : wpAny (model X.prog X.w) X.A (setFlight (.ref a) X.env.frame) (fun _ s4 => wpAny (model X.prog X.w) X.A (throw (.ref a) : Sem Flow) (SP X pins D) X.xe s4) X.xe { s' with heap := h3.push { cls := .type "tuple", data := .seq [c1, c2, c3, c4].toArray } } := by
        rw [hf]
        refine HandSPX.setFlight_upZ fl3' fun h4 hh4 up4 => wpAny_throw (tk _ _ ?_)
        exact ⟨a, B, sI, pins, σ', H', cls, d, rfl, J, nb, ((up.trans up3).trans upT).trans up4, .inr (.inr (by rw [hs]; exact hh4)), na, os, ag, hno rfl⟩
      first
        | exact wpAny_bind (wpAny_pure (wpAny_bind fin))
        | exact wpAny_bind fin
  · cases f with
    | next =>
      obtain ⟨σ', H', J', q⟩ := hsp
      exact wpAny_execs_nil ⟨σ', H', J'.ofTry ok, q⟩
    | brk =>
      obtain ⟨σ', H', J', q⟩ := hsp
      exact ⟨σ', H', J'.ofTry ok, q⟩
    | cont =>
      obtain ⟨σ', H', J', q⟩ := hsp
      exact ⟨σ', H', J'.ofTry ok, q⟩
    | ret u =>
      obtain ⟨v, σ', H', J', r, q⟩ := hsp
      exact ⟨v, σ', H', J'.ofTry ok, r, q⟩
end
end L2

namespace L2
open PySem PySem.Spec PyProof.Rows ExM
/-- what an own exception class must say, so that its instances are asked rightly -/
structure XcC (K : PySem.W.Frag) (C : Addr) : Prop where
  ga : PySem.W.findIn K (.ref C) "__getattribute__" = some (some (.builtin "BaseException.__getattribute__"))
  gg : PySem.W.findIn K (.ref C) "__getattr__" = some none
  exC : PySem.W.subIn K (.ref C) (.type "BaseException") = some true
  hd : PySem.W.hasDictIn K C = true
  ha : PySem.W.findIn K (.ref C) "__class__" = some (some (.builtin "object.__class__"))
  hn : PySem.W.specialIn K (.builtin "object.__class__") "__get__" = some (some (.builtin "getset_descriptor.__get__"))
  ht : PySem.W.takesIn K (.builtin "object.__class__") = some true
  hm : PySem.W.mroIn K C (.type "object") = some true
def xcB (K : PySem.W.Frag) (C : Addr) : Bool := decide (PySem.W.findIn K (.ref C) "__getattribute__" = some (some (.builtin "BaseException.__getattribute__"))) && (decide (PySem.W.findIn K (.ref C) "__getattr__" = some none) &&
  (decide (PySem.W.subIn K (.ref C) (.type "BaseException") = some true) && (PySem.W.hasDictIn K C && (decide (PySem.W.findIn K (.ref C) "__class__" = some (some (.builtin "object.__class__"))) &&
  (decide (PySem.W.specialIn K (.builtin "object.__class__") "__get__" = some (some (.builtin "getset_descriptor.__get__"))) && (decide (PySem.W.takesIn K (.builtin "object.__class__") = some true) && decide (PySem.W.mroIn K C (.type "object") = some true)))))))
theorem xcB_ok {K : PySem.W.Frag} {C : Addr} (h : xcB K C = true) : XcC K C := by
  obtain ⟨h1, h⟩ := Bool.and_eq_true_iff.mp h
  obtain ⟨h2, h⟩ := Bool.and_eq_true_iff.mp h
  obtain ⟨h3, h⟩ := Bool.and_eq_true_iff.mp h
  obtain ⟨h4, h⟩ := Bool.and_eq_true_iff.mp h
  obtain ⟨h5, h⟩ := Bool.and_eq_true_iff.mp h
  obtain ⟨h6, h⟩ := Bool.and_eq_true_iff.mp h
  obtain ⟨h7, h8⟩ := Bool.and_eq_true_iff.mp h
  exact ⟨of_decide_eq_true h1, of_decide_eq_true h2, of_decide_eq_true h3, h4, of_decide_eq_true h5, of_decide_eq_true h6, of_decide_eq_true h7, of_decide_eq_true h8⟩
section
variable {X : Cx} {pins : List (Addr × Obj)} {σ : St} {H : Hp} {s : Shared}
theorem exv_inst (I : Inv X pins σ H s) {a C : Addr} {d : Option Addr} (ha : H a = some (exv a (.ref C) d)) (hd : ∀ dx, d = some dx → ∃ o, s.heap.get? dx = some o) : ∃ oe od, PySem.W.InstAt s.heap a oe C od ∧ (d = none → od = none) ∧ ∀ dx, d = some dx → od = s.heap.get? dx := by
  obtain ⟨oe, vs, h1, hz, h2⟩ := exv_at I.hok ha
  obtain ⟨oc, od, oda, osl⟩ := oe
  obtain ⟨z1, z2⟩ := hz
  dsimp only at z1 z2 h2
  subst z1 z2 h2
  cases od with
  | none => exact ⟨_, none, ⟨h1, rfl, rfl, trivial⟩, fun _ => rfl, fun _ z => by cases z⟩
  | some dx =>
    obtain ⟨o, ho⟩ := hd dx rfl
    exact ⟨_, some o, ⟨h1, rfl, rfl, ho⟩, fun z => by (cases z), fun dy z => by cases z; exact ho.symm⟩
theorem isIn_some {K : PySem.W.Frag} {C : Addr} (h : PySem.W.hasDictIn K C = true) : (PySem.W.clsIn K C).isSome = true := by
  obtain ⟨cd, hc, _⟩ := PySem.W.any_some h
  rw [hc]
  rfl
end
/-- isinstance(e, c), e a kept exception -/
def rIsX (K : PySem.W.Frag) : List V → Hp → VK → Prop := fun xs H Q => ∃ (a C : Addr) (d : Option Addr) (c : V) (u : Value) (b : Bool), xs = [.ref a, c] ∧ ClsV c u ∧ H a = some (exv a (.ref C) d) ∧ (∀ dx, d = some dx → ∃ fs, H dx = some (.xd fs)) ∧ XcC K C ∧ PySem.W.kitOne K (.ref C) u = some b ∧ Q (.bl b) H
theorem call_isX {X : Cx} : CallR X (.builtin "isinstance") (rIsX X.K) := by
  intro pins s σ H xs us Q I r h
  obtain ⟨a, C, d, c, u, b, rfl, k, ha, hd, T, e, q⟩ := h
  obtain ⟨u1, u2, rfl, r1, r2⟩ := vals2 r
  have e2 := k.eq r2
  subst e2
  cases (show u1 = Value.ref a from r1)
  obtain ⟨oe, od, J, _⟩ := exv_inst I ha fun dx z => by
    obtain ⟨fs, hf⟩ := hd dx z
    obtain ⟨mA, ⟨o, _, _, ho, _⟩, _⟩ := (show ObjOk X.prog X.w H s.heap dx (.xd fs) from I.hok dx _ hf)
    exact ⟨o, ho⟩
  exact PySem.W.kia_one (PySem.W.kitx_exc (isIn_some T.hd) T.ga T.gg T.exC T.ha T.hn T.ht T.hm) I.kIn J e (fun z => nomatch z) fun tk => ⟨.bl b, H, I.tok tk, rfl, q⟩
/-- e.f, e a kept exception -/
def tXfT (K : PySem.W.Frag) (f : Str) (te : TE) : TE := fun σ H Q => te σ H fun x H1 => ∃ (a C dd : Addr) (fs : List (Str × V)) (v : V), x = .ref a ∧ H1 a = some (exv a (.ref C) (some dd)) ∧ H1 dd = some (.xd fs) ∧ XcC K C ∧ PySem.W.findIn K (.ref C) f = some none ∧ fs.lookup f = some v ∧ Q v H1
theorem pe_xfT {X : Cx} {e : Expr} {te : TE} {pos : Pos} {n : Str} (he : PE X e te) (hb : attributeBase e n X.env (eval e X.env) = eval e X.env := by rfl) : PE X (.Attribute e n pos) (tXfT X.K n te) := by
  refine ⟨fun pins s σ H Q I h => ?_⟩
  refine attr_of hb (thn (he.run pins s σ H _ I h) fun u s1 ⟨x, H1, I1, rx, a, C, dd, fs, v, ex, ea, ed, T, hno, l, q⟩ => ?_)
  subst ex
  obtain rfl : u = Value.ref a := rx
  have hx : ObjOk X.prog X.w H1 s1.heap dd (.xd fs) := I1.hok dd _ ed
  obtain ⟨mA, hns, hr⟩ := hx
  obtain ⟨od, ho, hl⟩ := lookIn_ns hns
  obtain ⟨u, hu, ru⟩ := RelO.some_of (v := v) (o := mA n) (by rw [← l]; exact hr n)
  obtain ⟨oe, od', J, _, hod⟩ := exv_inst I1 ea fun dx z => by cases z; exact ⟨od, ho⟩
  have e1 : od' = some od := (hod dd rfl).trans ho
  subst e1
  exact HandSPX.exc_get I1.kIn J T.ga T.gg T.exC (PySem.W.findObj_own T.hd hno rfl (by rw [hl, hu])) (handed_of ru) ⟨v, H1, I1.tok _, ru, q⟩
end L2

/-! repr of data. -/
namespace L2
open PySem PySem.Spec PyProof.Rows

theorem guards_in1 {A : Around} (h : A.guards = some []) : A.in1.guards = some [] := h
/-! data without a dict holds none -/
mutual
theorem Dp.noDict {K : PySem.W.Frag} {H : Hp} : ∀ {v : V} {d : PyData}, Dp K H v d → d.hasDict = false
  | _, .none, _ => by simp only [PyData.hasDict]
  | _, .bool _, _ => by simp only [PyData.hasDict]
  | _, .int _, _ => by simp only [PyData.hasDict]
  | _, .str _, _ => by simp only [PyData.hasDict]
  | _, .list ds, h => by
    cases h with
    | lst hs ha =>
      simp only [PyData.hasDict]
      exact DpAll.noDict ha
  | _, .tuple ds, h => by
    cases h with
    | tup hs ha =>
      simp only [PyData.hasDict]
      exact DpAll.noDict ha
  | _, .dict _, h => by cases h
theorem DpAll.noDict {K : PySem.W.Frag} {H : Hp} : ∀ {vs : List V} {ds : List PyData}, DpAll K H vs ds → PyData.hasDictAll ds = false
  | _, [], _ => by simp only [PyData.hasDictAll]
  | _, d :: ds, h => by
    cases h with
    | cons h1 h2 => simp only [PyData.hasDictAll, Dp.noDict h1, DpAll.noDict h2, Bool.or_self]
end
/-- repr(v), v data that is read -/
def rRepr (K : PySem.W.Frag) : List V → Hp → VK → Prop := fun xs H Q => ∃ v d, xs = [v] ∧ Dp K H v d ∧ d.showable = true ∧ d.shown.length ≤ sizeLine ∧ d.depth ≤ 60 ∧ Q (.str d.shown) H
theorem call_repr {X : Cx} (hg : X.A.guards = some []) (hu : X.A.units + 64 < cLine) : CallR X (.builtin "repr") (rRepr X.K) := by
  intro pins s σ H xs us Q I r h
  obtain ⟨v, d, rfl, hd, hs, hz, hdp, q⟩ := h
  cases r with
  | @cons _ u _ us r1 r2 =>
    cases r2
    show wpAny _ _ (call (.builtin "repr") [u]) _ _ _
    obtain ⟨as, rd⟩ := Dp.reads I d v u hd r1
    have nd := Dp.noDict hd
    cases rd with
    | none => exact P.repr_of_none ⟨.str _, H, I.tok _, ⟨_, rfl⟩, by simpa [PyData.shown] using q⟩
    | bool b => exact P.repr_of_bool ⟨.str _, H, I.tok _, ⟨_, rfl⟩, by simpa [PyData.shown] using q⟩
    | int i t => exact P.repr_of_int (by simpa [PyData.showable] using hs) ⟨.str _, H, I.tok _, ⟨_, rfl⟩, by simpa [PyData.shown] using q⟩
    | str x t => exact P.repr_of_str ⟨.str _, H, I.tok _, ⟨_, rfl⟩, by simpa [PyData.shown] using q⟩ (by simpa [PyData.shown] using hz)
    | list h1 h2 h3 h4 =>
      exact repr_of_reads' (.list h1 h2 h3 h4) hs (fun z => by rw [nd] at z; cases z) hg (by omega) (fun _ _ e => e) (fun h' u tk k => ⟨.str _, H, I.kept (t' := tk) k, ⟨_, rfl⟩, q⟩) hz
    | tuple h1 h2 h3 h4 =>
      exact repr_of_reads' (.tuple h1 h2 h3 h4) hs (fun z => by rw [nd] at z; cases z) hg (by omega) (fun _ _ e => e) (fun h' u tk k => ⟨.str _, H, I.kept (t' := tk) k, ⟨_, rfl⟩, q⟩) hz
    | dict => cases hd

/-! ### how long a repr may be -/
mutual
def cap : PyData → Nat
  | .none => 4
  | .bool _ => 5
  | .int _ => 1921
  | .str x => 10 * x.length + 2
  | .list xs | .tuple xs => capAll xs + 4
  | .dict _ => 0
def capAll : List PyData → Nat
  | [] => 0
  | x :: xs => cap x + 2 + capAll xs
end
mutual
/-- every sign of every text is one that a repr writes in ten signs at most; ints have a repr -/
def plainD : PyData → Prop
  | .none | .bool _ => True
  | .int i => i.natAbs.log2 < 1920
  | .str x => ∀ c ∈ x.cps.toList, c < 16 ^ 8
  | .list xs | .tuple xs => plainAll xs
  | .dict _ => False
def plainAll : List PyData → Prop
  | [] => True
  | x :: xs => plainD x ∧ plainAll xs
end
theorem textFrom_cap : ∀ (ts : List Str) (k : Nat) (acc : Str), (textFrom k acc ts).length ≤ acc.length + (ts.map fun t => t.length + 2).sum
  | [], k, acc => by simp [textFrom]
  | t :: r, k, acc => by
    have ih := textFrom_cap r (k + 1) (acc ++ (if k > 0 then ", " else "" : String) ++ t)
    have e : (acc ++ ((if k > 0 then ", " else "" : String) : Str) ++ t).length ≤ acc.length + 2 + t.length := by
      rw [strLen_append, strLen_append]
      have : ((if k > 0 then ", " else "" : String) : Str).length ≤ 2 := by split <;> decide
      omega
    simp only [textFrom, List.map_cons, List.sum_cons]
    omega
theorem piled_cap : ∀ ts : List Str, piled ts = (ts.map fun t => t.length + 2).sum
  | [] => rfl
  | t :: r => by simp [piled, piled_cap r]
theorem join_cap (ts : List Str) : (Str.join ", " ts).length ≤ (ts.map fun t => t.length + 2).sum := by
  by_cases h : ts = []
  · subst h
    show Str.empty.length ≤ _
    exact Nat.le_of_eq (show Str.empty.length = 0 by decide)
  · have := join_length_add ts h
    rw [piled_cap] at this
    omega
mutual
theorem shown_cap : ∀ d : PyData, plainD d → d.showable = true ∧ d.shown.length ≤ cap d
  | .none, _ => ⟨by simp [PyData.showable], by simp only [PyData.shown, cap]; decide⟩
  | .bool b, _ => ⟨by simp [PyData.showable], by simp only [PyData.shown, cap]; cases b <;> decide⟩
  | .int i, h => by
    have h' : i.natAbs.log2 < 1920 := by simpa [plainD] using h
    refine ⟨by simp [PyData.showable, h'], ?_⟩
    simp only [PyData.shown, cap]
    have := int_text_length_le (a := i) (k := 1920) (by decide) h'
    rw [PySem.ofString_length]
    omega
  | .str x, h => by
    have h' : ∀ c ∈ x.cps.toList, c < 16 ^ 8 := by simpa [plainD] using h
    exact ⟨by simp [PyData.showable], by simp only [PyData.shown, cap]; exact StrLaws.reprText_len x h'⟩
  | .list xs, h => by
    have h' : plainAll xs := by simpa [plainD] using h
    obtain ⟨a, b⟩ := shown_capAll xs h'
    refine ⟨by simpa [PyData.showable] using a, ?_⟩
    simp only [PyData.shown, cap, listText]
    rw [strLen_append]
    have := textFrom_cap (PyData.shownAll xs) 0 "["
    have e1 : (("[" : Str)).length = 1 := by decide
    have e2 : (("]" : Str)).length = 1 := by decide
    omega
  | .tuple xs, h => by
    have h' : plainAll xs := by simpa [plainD] using h
    obtain ⟨a, b⟩ := shown_capAll xs h'
    refine ⟨by simpa [PyData.showable] using a, ?_⟩
    simp only [PyData.shown, cap, tupleText]
    rw [strLen_append, strLen_append]
    have := join_cap (PyData.shownAll xs)
    have e1 : (("(" : Str)).length = 1 := by decide
    have e2 : (((if (PyData.shownAll xs).length == 1 then ",)" else ")" : String) : Str)).length ≤ 2 := by split <;> decide
    omega
  | .dict _, h => by simp [plainD] at h
theorem shown_capAll : ∀ ds : List PyData, plainAll ds → PyData.showableAll ds = true ∧ ((PyData.shownAll ds).map fun t => t.length + 2).sum ≤ capAll ds
  | [], _ => ⟨by simp [PyData.showableAll], by simp [PyData.shownAll, capAll]⟩
  | d :: ds, h => by
    have h' : plainD d ∧ plainAll ds := by simpa [plainAll] using h
    obtain ⟨a, b⟩ := shown_cap d h'.1
    obtain ⟨c, e⟩ := shown_capAll ds h'.2
    refine ⟨by simp [PyData.showableAll, a, c], ?_⟩
    simp only [PyData.shownAll, capAll, List.map_cons, List.sum_cons]
    omega
end
/-- repr(v) as a rule: its wants in one -/
def rReprP (K : PySem.W.Frag) : List V → Hp → VK → Prop := fun xs H Q => ∃ v d, xs = [v] ∧ Dp K H v d ∧ plainD d ∧ cap d ≤ 16777216 ∧ d.depth ≤ 60 ∧ Q (.str d.shown) H
theorem call_reprP {X : Cx} (hg : X.A.guards = some []) (hu : X.A.units + 64 < cLine) : CallR X (.builtin "repr") (rReprP X.K) := by
  intro pins s σ H xs us Q I r h
  obtain ⟨v, d, e, hd, hp, hz, hdp, q⟩ := h
  obtain ⟨a, b⟩ := shown_cap d hp
  exact call_repr hg hu pins s σ H xs us Q I r ⟨v, d, e, hd, a, by rw [sizeLine_eq]; omega, hdp, q⟩
end L2

/-! Own exceptions: keywords; what the four built-in bases are; the class as the top has made it. -/
namespace L2
open PySem PySem.Spec PyProof.Rows ExM
section
variable {X : Cx} {C : Addr} {x f f2 : Str} {e e2 : Expr} {te te2 : TE} {p pos kp kp2 : Pos} {k : Nat}
/-- C(f = e) -/
theorem pe_mkvK1 (T : Mks X.prog X.K X.mg C [f]) (hs : X.mg "super" = none) (hr : Room k X.A) (he : PE X e te) (hg : Gl X x) (hm : X.mg x = some (.ref C)) (hdb : (x == ("__debug__" : Str)) = false := by decide)
    (hall : (backToKw pos (keywordEach [⟨some f, e, kp⟩] X.env)).all (·.1.isSome) = true := by rfl) (hks : (backToKw pos (keywordEach [⟨some f, e, kp⟩] X.env)).filterMap (·.1) = [f] := by rfl)
    (hpl : ((backTo pos (starEach [] X.env)).any (·.1) || (backToKw pos (keywordEach [⟨some f, e, kp⟩] X.env)).any (·.1.isNone)) = false := by rfl) :
    PE X (.Call (.Name x p) [] [⟨some f, e, kp⟩] pos) (tMkv C [f] (tCons te tNil)) := by
  refine ⟨fun pins s σ H Q I h => ?_⟩
  refine wpAny_Call_Name_kw (ld_glob I hg hm ?_ hdb)
  refine PySem.W.callWith_KW0 (h₀ := X.base) I.ok.mod.kin T.kC hall ?_ hpl
  refine thn ((pk_cons (nm := some f) (kpos := kp) he pk_nil).run pos pins s σ H _ I h) fun us s1 ⟨vs, H1, I1, r1, hl, q1⟩ => ⟨I1.kIn, ?_⟩
  rw [hks]
  cases r1 with
  | nil => exact absurd hl (by simp)
  | @cons v u vs' us' r1 r2 =>
    cases r2 with
    | nil => exact mkv_end (a := ⟨[], [(f, u)]⟩) T hs hr (by simp) I1 (.cons r1 .nil) .kw1 q1
    | cons _ _ => exact absurd hl (by simp)
/-- C(f2 = e2, f = e), the fields being f, f2 -/
def tMkv2 (C : Addr) (f f2 : Str) (ta : TA) : TE := fun σ H Q => ta σ H fun vs H1 => ∃ a b, vs = [b, a] ∧ ∀ e d, H1 e = none → H1 d = none → d ≠ e → Q (.ref e) (upd (upd H1 d (.xd [(f2, b), (f, a)])) e (exv e (.ref C) (some d)))
theorem pe_mkvK2 (T : Mks X.prog X.K X.mg C [f, f2]) (hs : X.mg "super" = none) (hr : Room k X.A) (he2 : PE X e2 te2) (he : PE X e te) (hg : Gl X x) (hm : X.mg x = some (.ref C)) (hdb : (x == ("__debug__" : Str)) = false := by decide)
    (hall : (backToKw pos (keywordEach [⟨some f2, e2, kp2⟩, ⟨some f, e, kp⟩] X.env)).all (·.1.isSome) = true := by rfl) (hks : (backToKw pos (keywordEach [⟨some f2, e2, kp2⟩, ⟨some f, e, kp⟩] X.env)).filterMap (·.1) = [f2, f] := by rfl)
    (hpl : ((backTo pos (starEach [] X.env)).any (·.1) || (backToKw pos (keywordEach [⟨some f2, e2, kp2⟩, ⟨some f, e, kp⟩] X.env)).any (·.1.isNone)) = false := by rfl) :
    PE X (.Call (.Name x p) [] [⟨some f2, e2, kp2⟩, ⟨some f, e, kp⟩] pos) (tMkv2 C f f2 (tCons te2 (tCons te tNil))) := by
  refine ⟨fun pins s σ H Q I h => ?_⟩
  refine wpAny_Call_Name_kw (ld_glob I hg hm ?_ hdb)
  refine PySem.W.callWith_KW0 (h₀ := X.base) I.ok.mod.kin T.kC hall ?_ hpl
  refine thn ((pk_cons (nm := some f2) (kpos := kp2) he2 (pk_cons (nm := some f) (kpos := kp) he pk_nil)).run pos pins s σ H _ I h) fun us s1 ⟨vs, H1, I1, r1, a, b, ev, q1⟩ => ⟨I1.kIn, ?_⟩
  rw [hks]
  subst ev
  obtain ⟨u1, u2, rfl, r1, r2⟩ := vals2 r1
  exact mkv_end (a := ⟨[], [(f2, u1), (f, u2)]⟩) T hs hr (by simp) I1 (.cons r2 (.cons r1 .nil)) .kw2 q1
end
end L2
namespace ExM
open PySem PySem.W PySem.Calls PyProof.Rows
/-- what the library tells of a built-in base: its __new__ (perhaps its own base's), its __init__ -/
structure BaseF (bmB : List Value) (B newId initId : String) : Prop where
  new : ∃ Bn initN bmN, ExcBaseFacts Bn newId initN bmN ∧ bmB.contains (.type Bn) = true ∧ bmB.contains (.type "AttributeError") = false ∧ bmB.contains (.type "NameError") = false
  ini : InF B initId
  pass : ∀ self, refuseLoop self "__setattr__" bmB = pure ()
  obj : bmB.contains (.type "object") = true
theorem inF_of {B newId i : String} (F : ExcCallFacts B newId i) (K : KxsFacts B i) : InF B i := ⟨F.initEntry, F.initKind, F.initRow, F.noStar, F.init.plain, K⟩
theorem base_VE : BaseF [.type "ValueError", .type "Exception", .type "BaseException", .type "object"] "ValueError" "ValueError.__new__" "ValueError.__init__" :=
  ⟨⟨_, _, _, F.excBase_ValueError, by decide +kernel, by decide +kernel, by decide +kernel⟩, inF_of F.excBase_ValueError.toExcCallFacts kxs_ValueError, F.store_ValueError.passes, by decide +kernel⟩
theorem base_OE : BaseF [.type "OverflowError", .type "ArithmeticError", .type "Exception", .type "BaseException", .type "object"] "OverflowError" "OverflowError.__new__" "OverflowError.__init__" :=
  ⟨⟨_, _, _, F.excBase_OverflowError, by decide +kernel, by decide +kernel, by decide +kernel⟩, inF_of F.excBase_OverflowError.toExcCallFacts kxs_OverflowError, F.store_OverflowError.passes, by decide +kernel⟩
theorem base_RE : BaseF [.type "RuntimeError", .type "Exception", .type "BaseException", .type "object"] "RuntimeError" "RuntimeError.__new__" "RuntimeError.__init__" :=
  ⟨⟨_, _, _, F.excBase_RuntimeError, by decide +kernel, by decide +kernel, by decide +kernel⟩, inF_of F.excBase_RuntimeError.toExcCallFacts kxs_RuntimeError, F.store_RuntimeError.passes, by decide +kernel⟩
theorem kxs_KE : KxsFacts "KeyError" "KeyError.__init__" := ⟨by show builtinType _ = _; rw [builtinType_eq_fast]; kernel_rfl, by first | kernel_rfl | rfl⟩
theorem base_KE : BaseF [.type "KeyError", .type "LookupError", .type "Exception", .type "BaseException", .type "object"] "KeyError" "LookupError.__new__" "KeyError.__init__" :=
  ⟨⟨_, _, _, F.excBase_LookupError, by decide +kernel, by decide +kernel, by decide +kernel⟩,
    ⟨entryFor_alias (id' := "BaseException.__init__") (by rw [fastTable_eq_tree]; kernel_rfl) (by first | rfl | decide +kernel) (by decide +kernel) (by rw [fastTable_eq_tree]; kernel_rfl), by kernel_rfl, by kernel_rfl, by decide +kernel, by decide +kernel, kxs_KE⟩,
    fun self => by kernel_rfl, by decide +kernel⟩
end ExM

namespace L2
open PySem PySem.Spec PyProof.Rows ExM
open PySem (cStatics)
open PySem.W (Frag findIn typeIn keepIn subIn nsIn codeIn ksFn ks_superIn excTail)
/-- what k_is finds of a class and its __init__ -/
structure Cfs (K : Frag) (prog : Program) (C f cc cda : Addr) (qual : Str) (params : Arguments) (body : List Stmt) (scope : Scope) (bmB : List Value) (B newId initId : String) : Prop where
  cls : ∃ nm q N bs bm sn sub ab col dd k0 k1 k2 k3 k5, K.lookup C = some (excClassObj nm q C N bs bm true sn sub ab col dd k0 k1 k2 k3 k5 newId) ∧ excTail bmB bm = true
  sa : findIn K (.ref C) "__setattr__" = some (some (.builtin "object.__setattr__"))
  iC : findIn K (.ref C) "__init__" = some (some (.ref f))
  tF : typeIn K (.ref f) = some (.type "function")
  kC : keepIn K (.ref C) = true
  exC : subIn K (.ref C) (.type "BaseException") = some true
  bC : subIn K (.ref C) (.type B) = some true
  tyC : typeIn K (.ref C) = some (.type "type")
  op : nsIn K cStatics "thirdparty.any" = some none
  al : ks_superIn K C C "__init__" = some (some (.builtin initId))
  lf : ∃ (oc : Value) (od : Option Addr) (kV doc pm : Value) (an : Option Addr) (ct : Value) (osl : Array (Option Value)), K.lookup f = some ⟨oc, od, .func (ksFn "__init__" qual params body scope .none kV doc pm an (.ref cda) ct cc), osl⟩
  cf : codeIn K (.ref cda) qual = true
  lcd : ∃ ccl cdd vs ccs file tf, K.lookup cda = some ⟨ccl, cdd, .fields vs, ccs⟩ ∧ vs[2]? = some (.str file tf) ∧ ((prog.main.file : Str) == file) = true
  cell : ∃ cl cld csl, K.lookup cc = some ⟨cl, cld, .cell (some (.ref C)), csl⟩
  top : (prog.main.scope.names.lookup ("super" : Str)).isSome = false
theorem cfs_mk {K : Frag} {prog : Program} {C f cc cda : Addr} {qual : Str} {params : Arguments} {body : List Stmt} {scope : Scope} {bmB : List Value} {B newId initId : String}
    {nm q : Str} {N : Addr} {bs bm : List Value} {sn : List Str} {sub : List Value} {ab : Bool} {col : Option Bool} {dd : Option Addr} {k0 k1 k2 k3 k5 : Option Value} {oc kV doc pm ct : Value} {od an : Option Addr} {osl : Array (Option Value)}
    {ccl : Value} {cdd : Option Addr} {vs : Array Value} {ccs : Array (Option Value)} {file : Str} {tf : Tok} {cl : Value} {cld : Option Addr} {csl : Array (Option Value)}
    (lc : K.lookup C = some (excClassObj nm q C N bs bm true sn sub ab col dd k0 k1 k2 k3 k5 newId)) (iC : findIn K (.ref C) "__init__" = some (some (.ref f)))
    (lf : K.lookup f = some ⟨oc, od, .func (ksFn "__init__" qual params body scope .none kV doc pm an (.ref cda) ct cc), osl⟩) (lcd : K.lookup cda = some ⟨ccl, cdd, .fields vs, ccs⟩) (lcc : K.lookup cc = some ⟨cl, cld, .cell (some (.ref C)), csl⟩)
    (sa : findIn K (.ref C) "__setattr__" = some (some (.builtin "object.__setattr__"))) (tF : typeIn K (.ref f) = some (.type "function")) (kC : keepIn K (.ref C) = true) (exC : subIn K (.ref C) (.type "BaseException") = some true) (bC : subIn K (.ref C) (.type B) = some true)
    (tyC : typeIn K (.ref C) = some (.type "type")) (op : nsIn K cStatics "thirdparty.any" = some none) (cf : codeIn K (.ref cda) qual = true)
    (al : ks_superIn K C C "__init__" = some (some (.builtin initId))) (tl : excTail bmB bm = true) (v2 : vs[2]? = some (.str file tf)) (hf : ((prog.main.file : Str) == file) = true) (top : (prog.main.scope.names.lookup ("super" : Str)).isSome = false) :
    Cfs K prog C f cc cda qual params body scope bmB B newId initId :=
  ⟨⟨_, _, _, _, _, _, _, _, _, _, _, _, _, _, _, lc, tl⟩, sa, iC, tF, kC, exC, bC, tyC, op, al, ⟨_, _, _, _, _, _, _, _, lf⟩, cf, ⟨_, _, _, _, _, _, lcd, v2, hf⟩, ⟨_, _, _, lcc⟩, top⟩
section
variable {K : Frag} {prog : Program} {mg : Str → Option Value} {C f cc cda : Addr} {qual : Str} {params : Arguments} {body : List Stmt} {scope : Scope} {bmB : List Value} {B newId initId : String} {msg fld fld2 : Str} {j : Nat} {p0 p1 p2 p3 p4 p5 q1 q2 q3 q4 r1 r2 r3 r4 : Pos}
theorem Cfs.ini (F : Cfs K prog C f cc cda qual params body scope bmB B newId initId) (b : BaseF bmB B newId initId) (hs : scope.names.lookup ("super" : Str) = some .globalImplicit) (hc : scope.names.lookup ("__class__" : Str) = some .free) (hk : scope.kind = .function) :
    Ini K prog C f cc qual params body scope bmB B newId initId := by
  obtain ⟨oc, od, kV, doc, pm, an, ct, osl, lf⟩ := F.lf
  exact ⟨F.cls, b.new, b.ini, b.pass, b.obj, F.sa, F.iC, F.tF, F.kC, F.exC, F.bC, F.tyC, F.op, F.al, ⟨oc, od, kV, doc, pm, an, cda, ct, osl, lf, F.cf, F.lcd⟩, F.cell, F.top, hs, hc, hk⟩
theorem mks_one (F : Cfs K prog C f cc cda qual params [supSt msg j p0 p1 p2 p3 p4 p5, putSt fld q1 q2 q3 q4] scope bmB B newId initId) (b : BaseF bmB B newId initId) (hs : scope.names.lookup ("super" : Str) = some .globalImplicit) (hc : scope.names.lookup ("__class__" : Str) = some .free) (hk : scope.kind = .function)
    (S : Sc scope params [fld]) (V : Ev qual scope f cc msg j p0 p1 p2 p3 p4) (hno : findIn K (.ref C) fld = some none)
    (hb : ∀ (a : Args) (v : Value), ArgOk [fld] a [v] → ∀ (x : Addr) (kV doc pm : Value) (an : Option Addr) (cdv ct : Value), bindArgs (ksFn "__init__" qual params [supSt msg j p0 p1 p2 p3 p4 p5, putSt fld q1 q2 q3 q4] scope .none kV doc pm an cdv ct cc) ⟨.ref x :: a.pos, a.kw⟩ = pure [(("self" : Str), .ref x), (fld, v)]) :
    Mks prog K mg C [fld] where
  kC := F.kC
  exC := F.exC
  tyC := F.tyC
  call := fun w A s a us R ha X G hd hq => by
    obtain ⟨v, rfl⟩ : ∃ v, us = [v] := by
      have z := ha.len
      match us, z with
      | [v], _ => exact ⟨v, rfl⟩
    refine made_one (F.ini b hs hc hk) S V hno ha X G hd (fun s' x kV doc pm an cdv ct => .of_eq (hb a v ha x kV doc pm an cdv ct)) fun h' tk e d M => hq h' tk e (some d) _ M (by simp) fun y => ?_
    by_cases h : y = fld
    · subst h
      simp
    · have e : (y == fld) = false := by simpa using h
      simp [h, List.lookup, e]
theorem mks_none (F : Cfs K prog C f cc cda qual params [supSt msg j p0 p1 p2 p3 p4 p5] scope bmB B newId initId) (b : BaseF bmB B newId initId) (hs : scope.names.lookup ("super" : Str) = some .globalImplicit) (hc : scope.names.lookup ("__class__" : Str) = some .free) (hk : scope.kind = .function)
    (S : Sc scope params []) (V : Ev qual scope f cc msg j p0 p1 p2 p3 p4)
    (hb : ∀ (x : Addr) (kV doc pm : Value) (an : Option Addr) (cdv ct : Value), bindArgs (ksFn "__init__" qual params [supSt msg j p0 p1 p2 p3 p4 p5] scope .none kV doc pm an cdv ct cc) ⟨[.ref x], []⟩ = pure [(("self" : Str), .ref x)]) :
    Mks prog K mg C [] where
  kC := F.kC
  exC := F.exC
  tyC := F.tyC
  call := fun w A s a us R ha X G hd hq => by
    have ea : a = ⟨[], []⟩ ∧ us = [] := by
      cases ha with
      | pos h =>
        have z := List.length_eq_zero_iff.mp h
        subst z
        exact ⟨rfl, rfl⟩
    obtain ⟨rfl, rfl⟩ := ea
    exact made_none (F.ini b hs hc hk) S V ha X G hd (fun s' x kV doc pm an cdv ct => .of_eq (hb x kV doc pm an cdv ct)) fun h' tk e M => hq h' tk e none _ M (by simp) fun y => by simp
theorem mks_two (F : Cfs K prog C f cc cda qual params [supSt msg j p0 p1 p2 p3 p4 p5, putSt fld q1 q2 q3 q4, putSt fld2 r1 r2 r3 r4] scope bmB B newId initId) (b : BaseF bmB B newId initId) (hs : scope.names.lookup ("super" : Str) = some .globalImplicit) (hc : scope.names.lookup ("__class__" : Str) = some .free) (hk : scope.kind = .function)
    (S : Sc scope params [fld, fld2]) (V : Ev qual scope f cc msg j p0 p1 p2 p3 p4) (hno : findIn K (.ref C) fld = some none) (hno2 : findIn K (.ref C) fld2 = some none) (hff : fld ≠ fld2)
    (hb : ∀ (a : Args) (v v2 : Value), ArgOk [fld, fld2] a [v, v2] → ∀ (x : Addr) (kV doc pm : Value) (an : Option Addr) (cdv ct : Value), bindArgs (ksFn "__init__" qual params [supSt msg j p0 p1 p2 p3 p4 p5, putSt fld q1 q2 q3 q4, putSt fld2 r1 r2 r3 r4] scope .none kV doc pm an cdv ct cc) ⟨.ref x :: a.pos, a.kw⟩ = pure [(("self" : Str), .ref x), (fld, v), (fld2, v2)]) :
    Mks prog K mg C [fld, fld2] where
  kC := F.kC
  exC := F.exC
  tyC := F.tyC
  call := fun w A s a us R ha X G hd hq => by
    obtain ⟨v, v2, rfl⟩ : ∃ v v2, us = [v, v2] := by
      have z := ha.len
      match us, z with
      | [v, v2], _ => exact ⟨v, v2, rfl⟩
    refine made_two (F.ini b hs hc hk) S V hno hno2 hff ha X G hd (fun s' x kV doc pm an cdv ct => .of_eq (hb a v v2 ha x kV doc pm an cdv ct)) fun h' tk e d M => hq h' tk e (some d) _ M (by simp) fun y => ?_
    by_cases h2 : y = fld2
    · subst h2
      simp
    · have e2 : (y == fld2) = false := by simpa using h2
      by_cases h : y = fld
      · subst h
        simp [List.lookup, e2, h2]
      · have e : (y == fld) = false := by simpa using h
        simp [h, h2, List.lookup, e, e2]
end
end L2

namespace L2
open PySem PySem.Spec PyProof.Rows ExM
/-- what the clause 'except c as n' wishes: behind the suite the exception is an object that is kept -/
def wAs1T (K : PySem.W.Frag) (c : Value) (i : Nat) (ts : Addr → Value → Option Addr → TS) (Wout : WX) (D : Ends) : WX := fun cls d σ H =>
  ∃ b, PySem.W.exmOne K cls c = some b ∧ (b = true → ∀ a, H a = none → ts a cls d { nx := fun σ' H' => D.nx (σ'.set i none) (upd H' a (exv a cls d)), rt := fun _ _ => False } (σ.set i (some (.ref a))) H) ∧
    (b = false → Wout cls d σ H)
section
variable {X : Cx} {x n : Str} {i : Nat} {body suite : List Stmt} {b₀ : Stmt} {np pos pos' : Pos} {c : Value} {tb : WX → TS} {ts : Addr → Value → Option Addr → TS} {Wout : WX}
theorem ps_try_as1T (hs : X.stack = X.env :: X.outer) (hf : X.env.frame = some X.env.locals) (hN : X.N.Nodup) (hi : X.N[i]? = some n) (hln : X.env.kindOf n = some .local) (hc : Names X x c) (hex : X.ex = []) (tk : Takes X Wout)
    (hb : ∀ (W : WX) (pn : List (Addr × Obj)) (xe : Value → Shared → Prop), Takes (X.tr pn xe) W → PassesOwn (model X.prog X.w) X.A X.env xe → PSs (X.tr pn xe) body (tb W))
    (hsu : ∀ (a : Addr) (oe : Obj) (cls : Value) (d : Option Addr) (pn : List (Addr × Obj)), Zc cls d oe → (∃ vs, oe.data = .fields vs) → PSs (X.suite a ((a, oe) :: pn)) (b₀ :: suite) (ts a cls d)) :
    PS X (.Try body [.ExceptHandler (some (.Name x np)) (some n) (b₀ :: suite) pos'] [] [] pos) (fun D σ H => tb (wAs1T X.K c i ts Wout D) D σ H) := by
  refine ⟨fun pins s σ H D I h => ?_⟩
  have ok := I.ok
  have hfr : X.A.frames = some (X.env :: X.outer) := by rw [ok.frames, hs]
  refine wpAny_Try_except (wpAny_mono ((hb (wAs1T X.K c i ts Wout D) (X.pn ++ pins) (fun e s₁ => wpAny (model X.prog X.w) X.A (noteFrame e X.env) (fun _ s₂ => wpAny (model X.prog X.w) X.A (setFlight e none) (fun _ s₃ =>
    wpAny (model X.prog X.w) X.A (handleBy e X.env [.ExceptHandler (some (.Name x np)) (some n) (b₀ :: suite) pos']) (SP X pins D) X.xe s₃) X.xe s₂) X.xe s₁) (fun u s' xx => ?_) PassesOwn.looking).run [] s σ H D (I.toTry _) h) (fun f s1 hsp => ?_) (fun e s1 he => he))
  · obtain ⟨a, B, sI, pins', σ', H', cls, d, rfl, J', nb, up, sky, na, os, ag, b, hb1, hyes, hno⟩ := xx
    have J : Inv X pins σ' H' sI := J'.ofTry ok
    have sky' : Sky B (X.env :: X.outer) a (Zc cls d) X.env.locals s'.heap := by rw [← hs]; exact sky
    show wpAny (model X.prog X.w) X.A (noteFrame (.ref a) X.env) _ _ _
    refine Sky.land Zc.steady hfr hf sky' fun h3 fl3 up3 => ?_
    have J3 : Inv X pins σ' H' { s' with heap := h3 } := J.landed nb fl3.1 (up.trans up3) os ag
    obtain ⟨oe3, vs3, he3, hz3, hd3⟩ := fl3.there
    have nfr : a ∉ frs (X.env :: X.outer) := fun hm => by
      obtain ⟨_, o', e', hnf⟩ := fl3.2.2.1.mem hm
      rw [he3] at e'
      cases e'
      exact hnf _ hd3
    have nL : a ≠ X.env.locals := fun z => nfr (List.mem_filterMap.mpr ⟨X.env, List.mem_cons_self, by rw [hf, z]⟩)
    have nF : a ∉ X.fs := fun hm => by
      obtain ⟨e, he, q⟩ := List.mem_filterMap.mp hm
      exact nfr (List.mem_filterMap.mpr ⟨e, List.mem_cons_of_mem _ he, q⟩)
    have aB : B.get? a = none := fl3.2.1
    have aI : sI.heap.get? a = none := by
      cases q : sI.heap.get? a with
      | none => rfl
      | some o =>
        have z := nb a o q (by rw [hs]; exact nfr)
        rw [aB] at z
        cases z
    have a0 : X.s_0.heap.get? a = none := by
      cases q : X.s_0.heap.get? a with
      | none => rfl
      | some o =>
        obtain ⟨o', z⟩ := J.base.there a o q (by rw [hex]; exact fun z => nomatch z)
        rw [aI] at z
        cases z
    have apn : ∀ p ∈ X.pn ++ pins, p.1 ≠ a := fun p hp z => by
      obtain ⟨e, _⟩ := J.pin p hp
      rw [z, aI] at e
      cases e
    refine wpAny_handleBy_cons (codeAny_handlers_test ?_) (by intro q; cases q)
    have S3 := J3.suite he3 hd3 na nL nF
    have LT : PySem.W.Looks (model X.prog X.w) h3 (typeOf (.ref a)) cls := fun A Q E s k q => wpAny_typeOf_ref (k _ _ he3) (by rw [hz3.1]; exact q)
    have LM := PySem.W.exm_one (M := model X.prog X.w) (J3.kIn) LT hb1
    have test : ∀ {Q : Value → Shared → Prop} {E : Value → Shared → Prop}, Q c { s' with heap := h3 } → wpAny (model X.prog X.w) (X.A.mark (some (.ref a))) (eval (.Name x np) X.env) Q E { s' with heap := h3 } := fun {Q E} q => by
      obtain ⟨hg, hdbg, hm | ⟨hm, hv, hnn⟩⟩ := hc
      · exact ld_glob (X := X.suite a ((a, oe3) :: (X.pn ++ pins))) S3 hg hm q hdbg
      · exact ld_blt (X := X.suite a ((a, oe3) :: (X.pn ++ pins))) S3 hg hm hv q hnn hdbg
    refine test (LM.here ?_)
    cases b with
    | true =>
      refine codeAny_handlers_suite_as ?_
      refine HandSPX.lands_againZ fl3 fun h4 fl4 up4 => ?_
      have J4 : Inv X pins σ' H' { s' with heap := h4 } := J.landed nb fl4.1 ((up.trans up3).trans up4) os ag
      obtain ⟨oe4, vs4, he4, hz4, hd4⟩ := fl4.there
      have S4 := J4.suite he4 hd4 na nL nF
      refine store_ok (X := X.suite a ((a, oe4) :: (X.pn ++ pins))) (v := .ref a) S4 hN hi (.inl hln) rfl (fun s5 S5 => ?_) (.inr hln)
      refine wpAny_mono ((hsu a oe4 cls d (X.pn ++ pins) hz4 ⟨_, hd4⟩).run [] s5 _ H' _ S5 (hyes rfl a na)) (fun f s6 hsp => ?_) (fun _ _ z => False.elim z)
      have back : ∀ {σ6 : St} {H6 : Hp}, Inv (X.suite a ((a, oe4) :: (X.pn ++ pins))) [] σ6 H6 s6 → Inv X ((a, oe4) :: pins) σ6 H6 s6 := fun {σ6 H6} S6 =>
        ⟨ok, S6.os, S6.bare, S6.base, S6.loc, S6.cell, S6.free, S6.freeC, fun p hp => S6.pin p (by
          rcases List.mem_append.mp hp with z | z
          · exact List.mem_append_left _ (List.mem_cons_of_mem _ (List.mem_append_left _ z))
          · rcases List.mem_cons.mp z with z | z
            · rw [z]
              exact List.mem_append_left _ List.mem_cons_self
            · exact List.mem_append_left _ (List.mem_cons_of_mem _ (List.mem_append_right _ z))), S6.hok, S6.len⟩
      cases f with
      | next =>
        obtain ⟨σ6, H6, S6, q6⟩ := hsp
        refine gone_ok (back S6) hN hi hln fun s7 J7 => ?_
        have e7 := (J7.pin (a, oe4) (List.mem_append_right _ List.mem_cons_self)).1
        exact ⟨_, _, J7.track a0 apn (fun v z => by rw [hd4] at z; cases z) (exv_ok e7 hz4 hd4), q6⟩
      | brk =>
        obtain ⟨σ6, H6, S6, q6⟩ := hsp
        exact False.elim q6
      | cont =>
        obtain ⟨σ6, H6, S6, q6⟩ := hsp
        exact False.elim q6
      | ret u =>
        obtain ⟨v6, σ6, H6, S6, r6, q6⟩ := hsp
        exact False.elim q6
    | false =>
      show wpAny _ X.A (handleBy (.ref a) X.env []) _ _ _
      refine wpAny_handleBy_nil ?_
      obtain ⟨k1, k2, k3, oe, vs, T, oT, ts', he, hz, hd, h1, hr⟩ := id fl3
      unfold PySem.passOn
      refine wpAny_bind (wpAny_field he hd h1 ?_)
      rw [if_neg (show ¬ ((Value.ref T == Value.none) = true) from by simp)]
      have fin : wpAny (model X.prog X.w) X.A (setFlight (.ref a) X.env.frame) (fun _ s4 => wpAny (model X.prog X.w) X.A (throw (.ref a) : Sem Flow) (SP X pins D) X.xe s4) X.xe { s' with heap := h3 } := by
        rw [hf]
        refine HandSPX.setFlight_upZ fl3 fun h4 hh4 up4 => wpAny_throw (tk _ _ ?_)
        exact ⟨a, B, sI, pins, σ', H', cls, d, rfl, J, nb, (up.trans up3).trans up4, .inr (.inr (by rw [hs]; exact hh4)), na, os, ag, hno rfl⟩
      first
        | exact wpAny_bind (wpAny_pure (wpAny_bind fin))
        | exact wpAny_bind fin
  · cases f with
    | next =>
      obtain ⟨σ', H', J', q⟩ := hsp
      exact wpAny_execs_nil ⟨σ', H', J'.ofTry ok, q⟩
    | brk =>
      obtain ⟨σ', H', J', q⟩ := hsp
      exact ⟨σ', H', J'.ofTry ok, q⟩
    | cont =>
      obtain ⟨σ', H', J', q⟩ := hsp
      exact ⟨σ', H', J'.ofTry ok, q⟩
    | ret u =>
      obtain ⟨v, σ', H', J', r, q⟩ := hsp
      exact ⟨v, σ', H', J'.ofTry ok, r, q⟩
end
end L2

/-! repr of data that may be a small dict, and of lists of such. -/
namespace L2
open PySem PySem.Spec PyProof.Rows
/-- data without a dict, or a dict of one int under a text -/
inductive Di (K : PySem.W.Frag) (H : Hp) : V → PyData → Prop
  | dp {v : V} {d : PyData} : Dp K H v d → Di K H v d
  | dic {a : Addr} {k : Str} {i : Int} : H a = some (.dK [(Sum.inr k, .int i)]) → Di K H (.ref a) (.dict [(.str k, .int i)])
inductive DiAll (K : PySem.W.Frag) (H : Hp) : List V → List PyData → Prop
  | nil : DiAll K H [] []
  | cons {v : V} {vs : List V} {d : PyData} {ds : List PyData} : Di K H v d → DiAll K H vs ds → DiAll K H (v :: vs) (d :: ds)
inductive ReadsI (h : Heap) : List Value → List PyData → Prop
  | nil : ReadsI h [] []
  | cons {v : Value} {vs : List Value} {d : PyData} {ds : List PyData} {as : List Addr} : Reads h v d as → (d.hasDict = true → sysModules ∉ as) → ReadsI h vs ds → ReadsI h (v :: vs) (d :: ds)
theorem ReadsI.all {h : Heap} : ∀ {vs : List Value} {ds : List PyData}, ReadsI h vs ds → ∃ as, ReadsAll h vs ds as
  | _, _, .nil => ⟨_, .nil⟩
  | _, _, .cons r _ t => let ⟨_, q⟩ := t.all; ⟨_, .cons r q⟩
theorem ReadsI.repr {prog : Program} {w : World} {h₀ : Heap} : ∀ {vs : List Value} {ds : List PyData}, ReadsI h₀ vs ds → PyData.showableAll ds = true → (∀ t ∈ PyData.shownAll ds, t.length ≤ sizeLine) →
    ∃ bs, ReadAtMost h₀ (PyData.depthAll ds) bs ∧ ReprAllK prog w bs h₀ (PyData.depthAll ds) vs (PyData.shownAll ds)
  | _, _, .nil, _, _ => ⟨[], (fun _ h => nomatch h), by simp only [PyData.shownAll]; exact .nil⟩
  | _, _, .cons (d := d) (ds := ds) r m t, hs, hz => by
    have hs' : d.showable = true ∧ PyData.showableAll ds = true := by simpa [PyData.showableAll] using hs
    obtain ⟨b1, hb1, k1⟩ := ReprK.of_reads (prog := prog) (w := w) r hs'.1 m (hz _ (by simp only [PyData.shownAll]; exact List.mem_cons_self ..))
    obtain ⟨b2, hb2, k2⟩ := ReadsI.repr (prog := prog) (w := w) t hs'.2 (fun t ht => hz t (by simp only [PyData.shownAll]; exact List.mem_cons_of_mem _ ht))
    have l1 : d.depth ≤ PyData.depthAll (d :: ds) := by simp only [PyData.depthAll]; omega
    have l2 : PyData.depthAll ds ≤ PyData.depthAll (d :: ds) := by simp only [PyData.depthAll]; omega
    refine ⟨b1 ++ b2, (hb1.mono l1).append (hb2.mono l2), ?_⟩
    simp only [PyData.depthAll, PyData.shownAll]
    have k1' : ReprK prog w b1 h₀ d.depth _ _ := k1
    exact .cons ((k1'.more fun b hb => List.mem_append_left _ hb).level_le (Nat.le_max_left _ _)) (k2.more_le (fun b hb => List.mem_append_right _ hb) (Nat.le_max_right _ _))
section
variable {X : Cx} {pins : List (Addr × Obj)} {σ : St} {H : Hp} {s : Shared}
theorem Di.reads (I : Inv X pins σ H s) {d : PyData} {v : V} {u : Value} (h : Di X.K H v d) (r : RelV v u) : ∃ as, Reads s.heap u d as ∧ (d.hasDict = true → sysModules ∉ as) := by
  cases h with
  | dp h =>
    obtain ⟨as, q⟩ := Dp.reads I d v u h r
    exact ⟨as, q, fun z => by rw [Dp.noDict h] at z; cases z⟩
  | @dic a k i hs =>
    cases r
    obtain ⟨_, hne, vs, rel, o, es, ep, ho, ⟨hx, _, _⟩, hd, _, hp, _⟩ := dk_of I.hok hs
    cases rel with
    | @cons _ q _ qs r1 r2 =>
      cases r2
      obtain ⟨qk, qv⟩ := q
      obtain ⟨e1, rv⟩ := r1
      dsimp only at e1 rv
      subst e1
      cases es with
      | mk es =>
      cases hp with
      | @cons e _ es' _ hk hv' hp' =>
        cases hp'
        rcases keyIs_shape (show keyIs (Sum.inr k) e.key = true from hk) with ⟨_, _, e2, _⟩ | ⟨y, t, e2, e3⟩
        · cases e2
        · cases e2
          dsimp only at hv'
          obtain ⟨tt, rfl⟩ := rv
          refine ⟨_, Reads.dict ho hx hd (kvs := [(.str k, .int i)]) (as := [] ++ []) (bs := [] ++ []) ?_ ?_, fun _ h => ?_⟩
          · exact .cons (by dsimp only; rw [e3]; exact .str _ _) .nil
          · exact .cons (by dsimp only; rw [hv']; exact .int _ _) .nil
          · simp only [List.append_nil, List.mem_cons, List.not_mem_nil, or_false] at h
            rw [← h] at hne
            exact absurd hne (by decide)
theorem DiAll.reads (I : Inv X pins σ H s) : ∀ {ds : List PyData} {vs : List V} {us : List Value}, DiAll X.K H vs ds → Vals vs us → ReadsI s.heap us ds
  | [], _, _, h, r => by
    cases h
    cases r
    exact .nil
  | d :: ds, _, _, h, r => by
    cases h with
    | cons h1 h2 =>
      cases r with
      | cons r1 r2 =>
        obtain ⟨as, q, m⟩ := Di.reads I h1 r1
        exact .cons q m (DiAll.reads I h2 r2)
end
/-- repr(v) -/
def rRepr1 (K : PySem.W.Frag) : List V → Hp → VK → Prop := fun xs H Q => ∃ v d, xs = [v] ∧ Di K H v d ∧ d.showable = true ∧ d.shown.length ≤ sizeLine ∧ d.depth ≤ 60 ∧ Q (.str d.shown) H
/-- repr(xs), xs a list of such -/
def rReprL (K : PySem.W.Frag) : List V → Hp → VK → Prop := fun xs H Q => ∃ a vs ds, xs = [.ref a] ∧ SqL K H a vs ∧ DiAll K H vs ds ∧ (PyData.list ds).showable = true ∧ (PyData.list ds).shown.length ≤ sizeLine ∧ PyData.depthAll ds ≤ 60 ∧ Q (.str (PyData.list ds).shown) H
theorem call_repr1 {X : Cx} (hg : X.A.guards = some []) (hu : X.A.units + 64 < cLine) : CallR X (.builtin "repr") (rRepr1 X.K) := by
  intro pins s σ H xs us Q I r h
  obtain ⟨v, d, rfl, hd, hs, hz, hdp, q⟩ := h
  cases r with
  | @cons _ u _ us r1 r2 =>
    cases r2
    show wpAny _ _ (call (.builtin "repr") [u]) _ _ _
    obtain ⟨as, rd, hm⟩ := Di.reads I hd r1
    cases rd with
    | none => exact P.repr_of_none ⟨.str _, H, I.tok _, ⟨_, rfl⟩, by simpa [PyData.shown] using q⟩
    | bool b => exact P.repr_of_bool ⟨.str _, H, I.tok _, ⟨_, rfl⟩, by simpa [PyData.shown] using q⟩
    | int i t => exact P.repr_of_int (by simpa [PyData.showable] using hs) ⟨.str _, H, I.tok _, ⟨_, rfl⟩, by simpa [PyData.shown] using q⟩
    | str x t => exact P.repr_of_str ⟨.str _, H, I.tok _, ⟨_, rfl⟩, by simpa [PyData.shown] using q⟩ (by simpa [PyData.shown] using hz)
    | list h1 h2 h3 h4 =>
      exact repr_of_reads' (.list h1 h2 h3 h4) hs hm hg (by omega) (fun _ _ e => e) (fun h' u tk k => ⟨.str _, H, I.kept (t' := tk) k, ⟨_, rfl⟩, q⟩) hz
    | tuple h1 h2 h3 h4 =>
      exact repr_of_reads' (.tuple h1 h2 h3 h4) hs hm hg (by omega) (fun _ _ e => e) (fun h' u tk k => ⟨.str _, H, I.kept (t' := tk) k, ⟨_, rfl⟩, q⟩) hz
    | dict h1 h2 h3 h4 h5 =>
      exact repr_of_reads' (.dict h1 h2 h3 h4 h5) hs hm hg (by omega) (fun _ _ e => e) (fun h' u tk k => ⟨.str _, H, I.kept (t' := tk) k, ⟨_, rfl⟩, q⟩) hz
theorem call_reprL {X : Cx} (hg : X.A.guards = some []) (hu : X.A.units + 64 < cLine) : CallR X (.builtin "repr") (rReprL X.K) := by
  intro pins s σ H xs us Q I r h
  obtain ⟨a, vs, ds, rfl, hS, hd, hs, hz, hdp, q⟩ := h
  cases r with
  | @cons _ u _ us r1 r2 =>
    cases r2
    cases r1
    show wpAny _ _ (call (.builtin "repr") [.ref a]) _ _ _
    obtain ⟨its, rv, ⟨o, n, h1, h2, _, h3⟩, _⟩ := I.list hS
    have RI := DiAll.reads I hd rv
    obtain ⟨as, h4⟩ := RI.all
    have hz' : (listText (PyData.shownAll ds)).length ≤ sizeLine := by simpa only [PyData.shown] using hz
    obtain ⟨bs, hb, hk⟩ := RI.repr (prog := X.prog) (w := X.w) (by simpa [PyData.showable] using hs) (fun t ht => Nat.le_trans (listText_mem_le ht) hz')
    have h4' : ReadsAll s.heap its.toArray.toList ds as := by simpa using h4
    have hna : a ∉ bs := not_mem_of_deeper (.list h1 h2 h3 h4') (by simp only [PyData.depth]; omega) hb
    have fin : ∀ {h' u tk}, (∀ b o, s.heap.get? b = some o → h'.get? b = some o) → EP X pins σ Q (.str (PyData.list ds).shown u) { s with heap := h', toks := tk } := fun {h' u tk} k => ⟨.str _, H, I.kept (t' := tk) k, ⟨_, rfl⟩, q⟩
    refine call_repr_slot (by omega) ⟨o, h1, h2⟩ F.slot_list_repr.toG ?_
    cases its with
    | nil =>
      cases h4
      have e : (PyData.list []).shown = ("[]" : Str) := by simp only [PyData.shown, PyData.shownAll, listText_nil]
      refine call_list_repr_empty ⟨o, h1, h2⟩ h1 h3 ⟨_, _, rfl, ?_⟩
      rw [← e]
      exact fin fun _ _ e => e
    | cons x l =>
      refine call_list_reprK h1 h2 h3 hna (by simpa using hk.length_eq) (fun i y e => hk.item i y (by simpa using e)) hg (fun b _ => Clear.nil b) (by show X.A.units + 1 + _ < _; omega) (fun _ _ e => e) (fun h' u tk k => ⟨_, _, rfl, ?_⟩) hz'
      have := fin (h' := h') (u := u) (tk := tk) k
      simpa only [PyData.shown] using this
end L2

/-! General readings (any law): data that is small, made exceptions, texts that are compared. -/
namespace L2
open PySem PySem.Spec PyProof.Rows Evl
section
variable {K : PySem.W.Frag} {σ : L2.St} {H : Hp} {ta tb : TE}
/-- xs + ys, both lists tracked: a new list -/
theorem el_cat {l : Addr} {xs ys : List V} (ha : Ev ta σ H (.ref l)) (hl : H l = some (.lst xs)) (hb : EvL tb σ H ys) (hz : xs.length + ys.length ≤ 100000) : EvL (tOp rCat ta tb) σ H (xs ++ ys) := fun H1 e Q q =>
  ha H1 e _ fun H2 e2 => hb H2 (e.trans e2) _ fun b H3 hb0 e3 hb3 => ⟨l, b, xs, ys, rfl, rfl, e3 _ _ (e2 _ _ (e _ _ hl)), hb3, sz_of hz, fun p hp => q p _ (fresh_back (e2.trans e3) hp) ((e2.trans e3).trans (Ex.new hp)) upd_same⟩
end
end L2
namespace L2
open PySem PySem.Spec PyProof.Rows Evl
mutual
theorem Dp.ex {K : PySem.W.Frag} {H H' : Hp} (e : Ex H H') : ∀ {v : V} {d : PyData}, Dp K H v d → Dp K H' v d
  | _, .none, h => by cases h; exact .non
  | _, .bool _, h => by cases h; exact .bl _
  | _, .int _, h => by cases h; exact .int _
  | _, .str _, h => by cases h; exact .str _
  | _, .list ds, h => by
    cases h with
    | lst hs ha => exact .lst (ex_l e hs) (DpAll.ex e ha)
  | _, .tuple ds, h => by
    cases h with
    | tup hs ha => exact .tup (ex_t e hs) (DpAll.ex e ha)
  | _, .dict _, h => by cases h
theorem DpAll.ex {K : PySem.W.Frag} {H H' : Hp} (e : Ex H H') : ∀ {vs : List V} {ds : List PyData}, DpAll K H vs ds → DpAll K H' vs ds
  | _, [], h => by cases h; exact .nil
  | _, d :: ds, h => by
    cases h with
    | cons h1 h2 => exact .cons (Dp.ex e h1) (DpAll.ex e h2)
end
theorem Di.ex {K : PySem.W.Frag} {H H' : Hp} (e : Ex H H') {v : V} {d : PyData} : Di K H v d → Di K H' v d
  | .dp h => .dp (h.ex e)
  | .dic h => .dic (e _ _ h)
theorem DiAll.ex {K : PySem.W.Frag} {H H' : Hp} (e : Ex H H') : ∀ {vs : List V} {ds : List PyData}, DiAll K H vs ds → DiAll K H' vs ds
  | _, _, .nil => .nil
  | _, _, .cons h t => .cons (h.ex e) (t.ex e)
/-- small data: shown in four thousand signs at most -/
structure Sm (d : PyData) : Prop where
  a : d.showable = true
  b : d.shown.length ≤ 4000
  c : d.depth ≤ 3
inductive SmAll : List PyData → Prop
  | nil : SmAll []
  | cons {d : PyData} {ds : List PyData} : Sm d → SmAll ds → SmAll (d :: ds)
theorem SmAll.show : ∀ {ds : List PyData}, SmAll ds → PyData.showableAll ds = true ∧ ((PyData.shownAll ds).map fun t => t.length + 2).sum ≤ 4002 * ds.length ∧ PyData.depthAll ds ≤ 3
  | _, .nil => ⟨by simp [PyData.showableAll], by simp [PyData.shownAll], by simp [PyData.depthAll]⟩
  | _, .cons (d := d) (ds := ds) h t => by
    obtain ⟨a, b, c⟩ := t.show
    refine ⟨by simp [PyData.showableAll, h.a, a], ?_, ?_⟩
    · simp only [PyData.shownAll, List.map_cons, List.sum_cons, List.length_cons]
      have := h.b
      omega
    · simp only [PyData.depthAll]
      have := h.c
      omega
theorem SmAll.list {ds : List PyData} (h : SmAll ds) (hl : ds.length ≤ 100) : (PyData.list ds).showable = true ∧ (PyData.list ds).shown.length ≤ sizeLine ∧ PyData.depthAll ds ≤ 60 := by
  obtain ⟨a, b, c⟩ := h.show
  refine ⟨by simpa [PyData.showable] using a, ?_, by omega⟩
  simp only [PyData.shown, listText]
  rw [strLen_append, sizeLine_eq]
  have := textFrom_cap (PyData.shownAll ds) 0 "["
  have e1 : (("[" : Str)).length = 1 := by decide
  have e2 : (("]" : Str)).length = 1 := by decide
  omega
section
variable {K : PySem.W.Frag} {σ : L2.St} {H : Hp} {ta tb te : TE}
theorem ev_repr1 {v : V} {d : PyData} (h : Ev te σ H v) (hd : Di K H v d) (s : Sm d) : Ev (tCB (rRepr1 K) (tCons te tNil)) σ H (.str d.shown) :=
  ev_cb (ea_cons h ea_nil) fun H1 e Q q => ⟨v, d, rfl, hd.ex e, s.a, Nat.le_trans s.b (by rw [sizeLine_eq]; omega), Nat.le_trans s.c (by decide), q H1 (Ex.refl H1)⟩
theorem ev_reprL {vs : List V} {ds : List PyData} (h : EvL te σ H vs) (hd : DiAll K H vs ds) (s : SmAll ds) (hl : ds.length ≤ 100) : Ev (tCB (rReprL K) (tCons te tNil)) σ H (.str (PyData.list ds).shown) := fun H1 e Q q =>
  h H1 e _ fun p H2 hp e2 h2 => ⟨p, vs, ds, rfl, sq_of h2, hd.ex (e.trans e2), (s.list hl).1, (s.list hl).2.1, (s.list hl).2.2, q H2 e2⟩
theorem ev_reprV {a : Addr} {vs : List V} {ds : List PyData} (h : Ev te σ H (.ref a)) (ha : H a = some (.lst vs)) (hd : DiAll K H vs ds) (s : SmAll ds) (hl : ds.length ≤ 100) : Ev (tCB (rReprL K) (tCons te tNil)) σ H (.str (PyData.list ds).shown) := fun H1 e Q q =>
  h H1 e _ fun H2 e2 => ⟨a, vs, ds, rfl, sq_of (e2 _ _ (e _ _ ha)), hd.ex (e.trans e2), (s.list hl).1, (s.list hl).2.1, (s.list hl).2.2, q H2 e2⟩
/-- two equal texts are not unlike -/
theorem ev_neS {z : Str} (ha : Ev ta σ H (.str z)) (hb : Ev tb σ H (.str z)) : EvT (tTest (tOp rNe ta tb)) σ H false :=
  et_test (ev_is (ev_op ha hb (rv_ne rfl)) (by simp))
/-- xs * k: a new list -/
theorem el_rep {xs : List V} {k : Int} (ha : EvL ta σ H xs) (hb : ∀ H1, Ev tb σ H1 (.int k)) (h0 : 0 ≤ k ∧ k ≤ 100) (hz : xs.length ≤ 100) : EvL (tOp rRep ta tb) σ H (List.replicate k.toNat xs).flatten := fun H1 e Q q =>
  ha H1 e _ fun l H2 hl e2 h2 => hb H2 H2 (Ex.refl _) _ fun H3 e3 => ⟨l, k, xs, rfl, rfl, e3 _ _ h2, by omega, by omega, by
    have : k.toNat ≤ 100 := by omega
    have : xs.length * k.toNat ≤ 100 * 100 := Nat.mul_le_mul hz this
    rw [sizeLine_eq]; omega, fun p hp => q p _ (fresh_back (e2.trans e3) hp) ((e2.trans e3).trans (Ex.new hp)) upd_same⟩
end
end L2
namespace Toy
open PySem L2 Evl
def nmN : Nat → Str
  | 0 => "SpanError" | 1 => "BadBase" | 2 => "BadNumber" | 3 => "BadDigits" | 4 => "BadRange" | 5 => "BadRule" | 6 => "BadReader" | 7 => "BadManner" | 8 => "BadEntry" | 9 => "BadName"
  | 10 => "BadText" | 11 => "OtherBase" | 12 => "TooMany" | 13 => "Missing" | _ => "NothingLeft"
/-- an exception that is kept at e, of the class at C -/
def ExAt (H : Hp) (e C : Addr) (d : Option Addr) : Prop := H e = some (exv e (.ref C) d) ∧ ∀ dx, d = some dx → ∃ fs, H dx = some (.xd fs)
theorem ExAt.ex {H H' : Hp} {e C : Addr} {d : Option Addr} (x : ExAt H e C d) (k : Ex H H') : ExAt H' e C d := ⟨k _ _ x.1, fun dx z => let ⟨fs, h⟩ := x.2 dx z; ⟨fs, k _ _ h⟩⟩
section
variable {K : PySem.W.Frag}
/-- e.f as a reading -/
theorem ev_xf {σ : St} {H : Hp} {f : Str} {te : TE} {e C d : Addr} {fs : List (Str × V)} {v : V} (h : Ev te σ H (.ref e)) (x : ExAt H e C (some d)) (hd : H d = some (.xd fs)) (T : XcC K C) (no : PySem.W.findIn K (.ref C) f = some none) (l : fs.lookup f = some v) :
    Ev (tXfT K f te) σ H v := fun H1 k Q q => h H1 k _ fun H2 k2 => ⟨e, C, d, fs, v, rfl, (x.ex (k.trans k2)).1, k2 _ _ (k _ _ hd), T, no, l, q H2 k2⟩
end
theorem shaped_bls (bs : List Bool) : SeqAt.shaped (.list (bs.map PyData.bool)) = true := by
  have lay : ∀ bs : List Bool, PyData.canLayAll0 (bs.map PyData.bool) = true := fun bs => by
    induction bs with
    | nil => rfl
    | cons n ns ih => simp only [List.map_cons, PyData.canLayAll0, PyData.canLay0, ih, Bool.and_self]
  have dep : ∀ bs : List Bool, PyData.depthAll (bs.map PyData.bool) ≤ 1 := fun bs => by
    induction bs with
    | nil => simp [PyData.depthAll]
    | cons n ns ih => simp only [List.map_cons, PyData.depthAll, PyData.depth]; omega
  have h := dep bs
  refine Bool.and_eq_true_iff.mpr ⟨?_, decide_eq_true ?_⟩
  · simpa only [PyData.canLay0] using lay bs
  · simp only [PyData.depth]
    omega
theorem dpAll_bls {K : PySem.W.Frag} {H : Hp} : ∀ bs : List Bool, DpAll K H (bs.map V.bl) (bs.map PyData.bool)
  | [] => .nil
  | b :: bs => .cons (.bl b) (dpAll_bls bs)
/-- two lists of the same truths are not unlike -/
theorem et_neB {K : PySem.W.Frag} {σ : St} {H : Hp} {ta tb : TE} {bs : List Bool} (ha : EvL ta σ H (bs.map V.bl)) (hb : EvL tb σ H (bs.map V.bl)) : EvT (tTest (tOp (rNeD K) ta tb)) σ H false :=
  et_test (ev_opLL ha hb fun p q H1 hp hq e => fun H2 e2 Q k => ⟨_, _, .lst (sq_of (e2 _ _ hp)) (dpAll_bls bs), .lst (sq_of (e2 _ _ hq)) (dpAll_bls bs), shaped_bls bs, shaped_bls bs, by
    rw [SeqAt.eqv_refl _ (Bool.and_eq_true_iff.mp (shaped_bls bs)).1]
    exact k _ (Ex.refl _)⟩)
/-- an exception of the class at C with one field -/
def Made1 (H : Hp) (e C : Addr) (f : Str) (v : V) : Prop := ∃ d, ExAt H e C (some d) ∧ H d = some (.xd [(f, v)])
theorem Made1.ex {H H' : Hp} {e C : Addr} {f : Str} {v : V} (x : Made1 H e C f v) (k : Ex H H') : Made1 H' e C f v := let ⟨d, a, b⟩ := x; ⟨d, a.ex k, k _ _ b⟩
def EvM (te : TE) (σ : St) (H : Hp) (C : Addr) (f : Str) (v : V) : Prop := ∀ H1, Ex H H1 → ∀ Q : VK, (∀ e H2, H1 e = none → Ex H1 H2 → Made1 H2 e C f v → Q (.ref e) H2) → te σ H1 Q
theorem em_mk {σ : St} {H : Hp} {te : TE} {C : Addr} {f : Str} {v : V} (h : Ev te σ H v) : EvM (tMkv C [f] (tCons te tNil)) σ H C f v := fun H1 e Q q =>
  h H1 e _ fun H2 e2 => ⟨rfl, fun x d hx hd hne => by
    have hx' : (upd H2 d (.xd [(f, v)])) x = none := by
      rw [upd_ne (Ne.symm hne)]
      exact hx
    exact q x _ (fresh_back e2 hx) (e2.trans ((Ex.new hd).trans (Ex.new hx'))) ⟨d, ⟨upd_same, fun dx z => by cases z; exact ⟨_, (Ex.new hx') _ _ upd_same⟩⟩, (Ex.new hx') _ _ upd_same⟩⟩
theorem ev_xfM {K : PySem.W.Frag} {σ : St} {H : Hp} {te : TE} {C : Addr} {f : Str} {v : V} (h : EvM te σ H C f v) (T : XcC K C) (no : PySem.W.findIn K (.ref C) f = some none) : Ev (tXfT K f te) σ H v := fun H1 k Q q =>
  h H1 k _ fun e H2 he e2 ⟨d, x, hd⟩ => ⟨e, C, d, _, v, rfl, x.1, hd, T, no, by simp [List.lookup], q H2 e2⟩
/-- a value of the law: data that is small -/
def Val (K : PySem.W.Frag) (H : Hp) (v : V) : Prop := ∃ d, Di K H v d ∧ Sm d
theorem sm_int {i : Int} (h : i.natAbs < 2 ^ 200) : Sm (.int i) := by
  have hl : i.natAbs.log2 < 1920 := by
    by_cases hz : i.natAbs = 0
    · rw [hz]; decide
    · exact Nat.lt_of_lt_of_le ((Nat.log2_lt hz).mpr h) (by decide)
  obtain ⟨a, b⟩ := shown_cap (.int i) (by simpa [plainD] using hl)
  exact ⟨a, Nat.le_trans b (by simp [cap]), by simp [PyData.depth]⟩
theorem Val.ex {K : PySem.W.Frag} {H H' : Hp} {v : V} (x : Val K H v) (e : Ex H H') : Val K H' v := let ⟨d, a, b⟩ := x; ⟨d, a.ex e, b⟩
theorem et_andF {σ : St} {H : Hp} {t u : TT} {a : Bool} (h1 : EvT t σ H a) (h2 : a = true → EvT u σ H false) : EvT (tAnd t u) σ H false := et_is (et_and h1 h2) (by simp)
theorem mk_at {H : Hp} {x d C : Addr} {f : Str} {v : V} (hx : H x = none) (hd : H d = none) (hne : d ≠ x) : Ex H (upd (upd H d (.xd [(f, v)])) x (exv x (.ref C) (some d))) ∧ Made1 (upd (upd H d (.xd [(f, v)])) x (exv x (.ref C) (some d))) x C f v := by
  have hx' : (upd H d (.xd [(f, v)])) x = none := by
    rw [upd_ne (Ne.symm hne)]
    exact hx
  exact ⟨(Ex.new hd).trans (Ex.new hx'), d, ⟨upd_same, fun dx z => by cases z; exact ⟨_, (Ex.new hx') _ _ upd_same⟩⟩, (Ex.new hx') _ _ upd_same⟩
theorem any_end {A : Hp → Prop} {G : Hp → Prop} {Hf : Hp} (a : A Hf) (k : ∀ Hf, A Hf → G Hf) : G Hf := k Hf a
theorem mk2_at {H : Hp} {x d C : Addr} {f f2 : Str} {a b : V} (hx : H x = none) (hd : H d = none) (hne : d ≠ x) : Ex H (upd (upd H d (.xd [(f2, b), (f, a)])) x (exv x (.ref C) (some d))) ∧ ExAt (upd (upd H d (.xd [(f2, b), (f, a)])) x (exv x (.ref C) (some d))) x C (some d) ∧ (upd (upd H d (.xd [(f2, b), (f, a)])) x (exv x (.ref C) (some d))) d = some (.xd [(f2, b), (f, a)]) := by
  have hx' : (upd H d (.xd [(f2, b), (f, a)])) x = none := by
    rw [upd_ne (Ne.symm hne)]
    exact hx
  exact ⟨(Ex.new hd).trans (Ex.new hx'), ⟨upd_same, fun dx z => by cases z; exact ⟨_, (Ex.new hx') _ _ upd_same⟩⟩, (Ex.new hx') _ _ upd_same⟩
end Toy

namespace Dr
open PySem L2
def top (i : Nat) : Stmt := PySem.Challenge.pw_shortspans_k08_tails_by_hand.main.body.getD i (.Pass ⟨0, 0, 0, 0⟩)
abbrev sMixed : Stmt := top 64
abbrev sBegin : Stmt := top 65
abbrev sDraw : Stmt := top 66
abbrev sOf : Stmt := top 67
/-- the built-ins that the draws name -/
structure TxB (mg : Str → Option Value) : Prop where
  int : mg "int" = none
  len : mg "len" = none
  list : mg "list" = none
section
variable {P : Program} {w : World} {K : PySem.W.Frag} {mg : Str → Option Value} {base : Heap}
def spMixed : Sp := fun vs H Q _ => ∃ c k : Int, vs = [.int c, .int k] ∧ 0 ≤ k ∧ k < 2 ^ 40 ∧ ∀ r : Int, 0 ≤ r → r < 2147483629 → Q (.int r) H
theorem scMixed : FnScope ["cell", "k"] ["cell", "k"] (defScope sMixed) := ⟨rfl, rfl, rfl, by decide +kernel, rfl, by decide +kernel, by decide +kernel⟩
theorem ok_mixed {f : Addr} {fd : FuncData} (F : Fun K "_law_mixed" "_law_mixed" sMixed f fd) (T : TxB mg) : FnOk P w K mg base CX0 1 f fd ["cell", "k"] spMixed := by
  refine F.ok scMixed (fun vs H Q E h => ?_) (fun cdv A outer s H vs Q E hr h => ?_)
  · obtain ⟨c, k, rfl, _⟩ := h
    rfl
  · obtain ⟨c, k, rfl, h0, h1, q⟩ := h
    refine ⟨_, pss_cons (ps_set (i := 0) scMixed.nd rfl (.inl rfl) (pe_op op_mod (pe_callTy call_int1 (by rfl) T.int (by decide +kernel) (pa_cons (pv 0) pa_nil)) pe_int))
      (pss_one (ps_ret (pe_op op_mod (pe_op op_mul (pe_op op_mod (pe_op op_add (pe_op op_add (pe_op op_mul (pv 0) (pe_op op_add pe_int (pe_op op_mul (pe_op op_mul pe_int (pv 1)) (pv 1)))) (pe_op op_mul pe_int (pv 1))) pe_int) pe_int) pe_int) pe_int))), ?_⟩
    have e0 : (0 : Int) < 2147483647 := by decide
    have e1 : (0 : Int) < 2147483629 := by decide
    have a0 := Int.emod_nonneg c (Int.ne_of_gt e0)
    have a1 := Int.emod_lt_of_pos c e0
    refine ⟨_, rfl, .inl ⟨_, rfl, _, _, rfl, rfl, e0, ?_⟩⟩
    refine ⟨_, rfl, _, rfl, _, _, rfl, rfl, .inl ⟨by decide, by decide⟩, _, rfl, _, _, rfl, rfl, .inl ⟨by omega, by omega⟩, _, _, rfl, rfl, _, _, rfl, rfl, .inl ⟨by omega, by omega⟩, _, rfl, _, _, rfl, rfl, .inl ⟨by decide, by decide⟩, _, _, rfl, rfl, _, _, rfl, rfl, _, _, rfl, rfl, e0, _, _, rfl, rfl, .inl ⟨?_, ?_⟩, _, _, rfl, rfl, e1, ?_⟩
    · exact Int.lt_of_lt_of_le (by decide) (Int.emod_nonneg _ (Int.ne_of_gt e0))
    · exact Int.lt_trans (Int.emod_lt_of_pos _ e0) (by decide)
    · exact q _ (Int.emod_nonneg _ (Int.ne_of_gt e1)) (Int.emod_lt_of_pos _ e1)
end
end Dr
namespace Dr
open PySem L2
/-- the drawer's state: at p, its cells at c, what is left of the great ones at l; a draws were made -/
structure StAt (H : Hp) (p c l : Addr) (n : Nat) (a : Int) : Prop where
  d : H p = some (.dK [(Sum.inr "cells", .ref c), (Sum.inr "lefts", .ref l), (Sum.inr "at", .int a)])
  c : ∃ cs : List Int, H c = some (.lst (cs.map V.int)) ∧ cs.length = n
  l : ∃ ls : List Int, H l = some (.lst (ls.map V.int)) ∧ ls.length = n
  n0 : 0 < n
  n1 : n ≤ 63
  a0 : 0 ≤ a
theorem StAt.ne {H : Hp} {p c l : Addr} {n : Nat} {a : Int} (S : StAt H p c l n a) : p ≠ c ∧ p ≠ l := by
  obtain ⟨cs, hc, _⟩ := S.c
  obtain ⟨ls, hl, _⟩ := S.l
  exact ⟨ne_of S.d hc (by intro z; cases z), ne_of S.d hl (by intro z; cases z)⟩
/-- all that was tracked stands, but for the drawer's own dict and list -/
def SameB (H H' : Hp) (p l : Addr) : Prop := ∀ b o, H b = some o → b ≠ p → b ≠ l → H' b = some o
section
variable {P : Program} {w : World} {K : PySem.W.Frag} {mg : Str → Option Value} {base : Heap}
def spBegin (K : PySem.W.Frag) : Sp := fun vs H Q _ => ∃ (s : Addr) (ns : List Int), vs = [.ref s] ∧ SqL K H s (ns.map V.int) ∧ ns.length ≤ 63 ∧
  ∀ (p c l : Addr) (n : Nat) (H' : Hp), Same H H' → H p = none → H l = none → StAt H' p c l n 0 → l ≠ c → Q (.ref p) H'
theorem scBegin : FnScope ["script", "cells", "cell"] ["script"] (defScope sBegin) := ⟨rfl, rfl, rfl, by decide +kernel, rfl, by decide +kernel, by decide +kernel⟩
abbrev kC : Key := Sum.inr ("cells" : Str)
abbrev kL : Key := Sum.inr ("lefts" : Str)
abbrev kA : Key := Sum.inr ("at" : Str)
theorem k12 : ¬ kC = kL := by decide +kernel
theorem k13 : ¬ kC = kA := by decide +kernel
theorem k23 : ¬ kL = kA := by decide +kernel
abbrev dk3 (a b c : V) : List (Key × V) := [(kC, a), (kL, b), (kA, c)]
theorem merge3 (a b c : V) : mergeK [] (dk3 a b c) = dk3 a b c := by
  have d12 : decide (kC = kL) = false := decide_eq_false k12
  have d13 : decide (kC = kA) = false := decide_eq_false k13
  have d23 : decide (kL = kA) = false := decide_eq_false k23
  simp only [mergeK, List.foldl_cons, List.foldl_nil, putK, List.any_nil, Bool.false_eq_true, if_false, List.nil_append, List.any_cons, d12, d13, d23, Bool.or_false, List.cons_append]
theorem put_at (a b c z : V) : putK (dk3 a b c) kA z = dk3 a b z := by
  have d13 : decide (kC = kA) = false := decide_eq_false k13
  have d23 : decide (kL = kA) = false := decide_eq_false k23
  simp only [putK, List.any_cons, List.any_nil, d13, d23, Bool.false_or, Bool.or_false, decide_true, if_true, List.map_cons, List.map_nil, if_neg k13, if_neg k23]
theorem val_cells (a b c : V) : valV (dk3 a b c) kC = some a := valV_pos rfl
theorem val_lefts (a b c : V) : valV (dk3 a b c) kL = some b := (valV_neg k12).trans (valV_pos rfl)
theorem val_at (a b c : V) : valV (dk3 a b c) kA = some c := (valV_neg k13).trans ((valV_neg k23).trans (valV_pos rfl))
theorem lay_ints : ∀ ns : List Int, PyData.canLayAll0 (ns.map PyData.int) = true
  | [] => rfl
  | n :: ns => by
    simp only [List.map_cons, PyData.canLayAll0, PyData.canLay0, lay_ints ns, Bool.and_self]
theorem depth_ints : ∀ ns : List Int, PyData.depthAll (ns.map PyData.int) ≤ 1
  | [] => by simp [PyData.depthAll]
  | n :: ns => by
    have := depth_ints ns
    simp only [List.map_cons, PyData.depthAll, PyData.depth]
    omega
theorem shaped_ints (ns : List Int) : SeqAt.shaped (.list (ns.map PyData.int)) = true := by
  have h := depth_ints ns
  refine Bool.and_eq_true_iff.mpr ⟨?_, decide_eq_true ?_⟩
  · simpa only [PyData.canLay0] using lay_ints ns
  · simp only [PyData.depth]
    omega
theorem eqv_nil (ns : List Int) : PyData.eqv (.list (ns.map .int)) (.list []) = decide (ns = []) := by
  cases ns with
  | nil => simp [PyData.eqv, PyData.eqvAll]
  | cons n ns => simp [PyData.eqv, PyData.eqvAll]
theorem dpAll_ints {K : PySem.W.Frag} {H : Hp} : ∀ ns : List Int, DpAll K H (ns.map V.int) (ns.map PyData.int)
  | [] => .nil
  | n :: ns => .cons (.int n) (dpAll_ints ns)
theorem ok_begin {f : Addr} {fd : FuncData} (F : Fun K "_law_begin" "_law_begin" sBegin f fd) (T : TxB mg) : FnOk P w K mg base CX0 1 f fd ["script"] (spBegin K) := by
  refine F.ok scBegin (fun vs H Q E h => ?_) (fun cdv A outer s H vs Q E hr h => ?_)
  · obtain ⟨s, ns, rfl, _⟩ := h
    rfl
  · obtain ⟨sc, ns, rfl, hS, hlen, q⟩ := h
    refine ⟨_, pss_cons (ps_set (i := 1) scBegin.nd rfl (.inl rfl) (pe_ifExp (pt_cmpR (op_neD hr.units) (pv 0) (pe_lst pa_nil) (nomark _)) (pe_callTy call_list_of (by rfl) T.list (by decide +kernel) (pa_cons (pv 0) pa_nil)) (pe_lst (pa_cons pe_int pa_nil))))
      (pss_one (ps_ret (pe_disp (pps_cons pe_str (pv 1) (pps_cons pe_str (pe_lc (own := [("cell", 2)]) (g := gName 2) (tt := tYes) rfl scBegin.nd (pi_list (pv 1)) (blkOk_by (N := ["script", "cells", "cell"]) (sc := defScope sBegin) (by decide +kernel))
        (fun _ _ _ _ _ => pg_name (i := 2) scBegin.nd rfl (Or.inl rfl)) (fun _ _ _ _ _ => pts_nil) (fun _ _ _ _ _ => pe_ifExp (pt_cmpR op_ge (pv 2) (pe_op op_pow pe_int pe_int) (nomark _)) (pv 2) pe_int)) (pps_cons pe_str pe_int pps_nil))) (by rfl) (by rfl) (fun z => by cases z) (by decide)))), ?_⟩
    refine ⟨_, rfl, (by show (0:Nat) ≤ sizeLine; rw [sizeLine_eq]; omega), fun p0 np0 => ?_⟩
    refine ⟨.list (ns.map .int), .list [], .lst ((Same.seq (fun b o e => by rw [upd_ne (ne_of_none e np0)]; exact e) hS)) (dpAll_ints ns), .lst (SqL.of upd_same) .nil, shaped_ints ns, by decide +kernel, ?_⟩
    rw [eqv_nil]
    have sp0 : Same H (upd H p0 (.lst [])) := fun b o e => by
      rw [upd_ne (ne_of_none e np0)]
      exact e
    have sel : ∃ b : Bool, (!decide (ns = [])) = b ∧ ∀ G : Addr → Hp → Prop, (∀ (c : Addr) (H1 : Hp) (xs : List Int), xs ≠ [] → xs.length ≤ 63 → Same H H1 → H1 c = some (.lst (xs.map V.int)) → G c H1) →
        (b = true → ∀ c, (upd H p0 (.lst [])) c = none → G c (upd (upd H p0 (.lst [])) c (.lst (ns.map V.int)))) ∧ (b = false → ∀ c, (upd H p0 (.lst [])) c = none → G c (upd (upd H p0 (.lst [])) c (.lst [V.int 0]))) := by
      refine ⟨_, rfl, fun G g => ⟨fun hb c nc => ?_, fun hb c nc => ?_⟩⟩
      · refine g c _ ns (fun z => by rw [decide_eq_true z] at hb; cases hb) hlen (fun b o e => ?_) upd_same
        rw [upd_ne (ne_of_none e (sp0.free nc))]
        exact sp0 b o e
      · refine g c _ [0] (by simp) (by decide) (fun b o e => ?_) upd_same
        rw [upd_ne (ne_of_none e (sp0.free nc))]
        exact sp0 b o e
    obtain ⟨b, hb, sel⟩ := sel
    refine ⟨b, by rw [hb], ?_⟩
    have fin : ∀ (c : Addr) (H1 : Hp) (xs : List Int), xs ≠ [] → xs.length ≤ 63 → Same H H1 → H1 c = some (.lst (xs.map V.int)) → (fun (x : V) (H1 : Hp) =>
      gName 1 x (L2.start ["script", "cells", "cell"] [V.ref sc]) H1
        ({ nx := tRet (tDisp [(tC (V.str "cells"), tVar 1), (tC (V.str "lefts"), tLc (iList K (tVar 1)) (gName 2) tYes
                        (tIf (tTest (tOp (rI0 fun i j => V.bl (decide (j ≤ i))) (tVar 2) (tOp (rI CPow fun i j => V.int (i ^ j.toNat)) (tC (V.int 10)) (tC (V.int 18))))) (tVar 2) (tC (V.int 0)))
                        (List.map (fun x => x.2) ([(("cell" : Str), 2)] : List (Str × Nat)))), (tC (V.str "at"), tC (V.int 0))]) { nx := fun x H' => Q V.non H', rt := Q }, rt := Q } : Ends).nx) (V.ref c) H1 := by
      intro c H1 xs hx hl s1 hc
      show ∀ p, H1 p = none → _
      intro p np
      have npc : c ≠ p := ne_of_none hc np
      have sp : Same H1 (upd H1 p (.dK [])) := fun b o e => by
        rw [upd_ne (ne_of_none e np)]
        exact e
      refine ⟨_, rfl, _, rfl, c, rfl, ⟨_, SqL.of (sp _ _ hc)⟩, fun D nD => lc_list (K := K) (a := c) (xs := xs.map V.int) (fun i H2 => ∃ ls : List Int, H2 D = some (.lst (ls.map V.int)) ∧ ls.length = i ∧ Same (upd H1 p (.dK [])) H2) ?_ ?_ ?_ ?_⟩
      · exact ⟨[], upd_same, rfl, fun b o e => by rw [upd_ne (ne_of_none e nD)]; exact e⟩
      · rintro i H2 _ ⟨ls, _, _, s2⟩
        exact SqL.of (s2 _ _ (sp _ _ hc))
      · rintro i x H2 hi ⟨ls, hD, hn, s2⟩
        rw [List.getElem?_map] at hi
        obtain ⟨z, hz, rfl⟩ := Option.map_eq_some_iff.mp hi
        have hlt : i < xs.length := (List.getElem?_eq_some_iff.mp hz).1
        have stp : ∀ y : Int, ∃ acc, H2 D = some (.lst acc) ∧ acc.length < sizeLine ∧ ∃ ls : List Int, (upd H2 D (.lst (acc ++ [V.int y]))) D = some (.lst (ls.map V.int)) ∧ ls.length = i + 1 ∧ Same (upd H1 p (.dK [])) (upd H2 D (.lst (acc ++ [V.int y]))) := fun y =>
          ⟨_, hD, by rw [List.length_map, sizeLine_eq]; omega, ls ++ [y], by rw [upd_same, List.map_append]; rfl, by rw [List.length_append, hn]; rfl, fun b o e => by rw [upd_ne (ne_of_none e nD)]; exact s2 b o e⟩
        refine ⟨rfl, ?_⟩
        rw [show (tYes : TT) = fun _ H Q => Q true H from rfl]
        dsimp only
        rw [if_pos rfl]
        refine ⟨_, rfl, _, _, rfl, rfl, ⟨by decide, by decide, by decide⟩, _, _, rfl, rfl, _, rfl, ?_⟩
        refine ite2 (fun _ => ?_) (fun _ => ?_)
        · exact ⟨_, rfl, stp z⟩
        · exact stp 0
      · rintro H2 ⟨ls, hD, hn, s2⟩
        rw [List.length_map] at hn
        have hp2 : H2 p = some (.dK []) := s2 _ _ upd_same
        have npD : D ≠ p := fun z => by
          rw [z, upd_same] at nD
          cases nD
        have ncD : D ≠ c := fun z => by
          rw [z, upd_ne npc, hc] at nD
          cases nD
        refine ⟨hp2, [(Sum.inr "cells", .ref c), (Sum.inr "lefts", .ref D), (Sum.inr "at", .int 0)], rfl, by show 3 ≤ 15; decide, ?_⟩
        have nDH : H D = none := by
          rw [upd_ne npD] at nD
          exact s1.free nD
        have hm := merge3 (V.ref c) (V.ref D) (V.int 0)
        refine q p c D xs.length _ (fun b o e => ?_) (s1.free np) nDH ⟨by rw [upd_same, hm], ⟨xs, by rw [upd_ne npc]; exact s2 _ _ (sp _ _ hc), rfl⟩, ⟨ls, by rw [upd_ne npD]; exact hD, hn⟩, List.length_pos_iff.mpr hx, hl, Int.le_refl 0⟩ ncD
        rw [upd_ne (ne_of_none e (s1.free np))]
        exact s2 _ _ (sp _ _ (s1 _ _ e))
    cases b with
    | true => exact iteT ⟨_, rfl, sc, _, rfl, .inl (Same.seq sp0 hS), fun c nc => (sel _ fin).1 rfl c nc⟩
    | false => exact iteF ⟨by show 1 ≤ sizeLine; rw [sizeLine_eq]; omega, fun c nc => (sel _ fin).2 rfl c nc⟩
end
end Dr
namespace Dr
open PySem L2
structure TxD (K : PySem.W.Frag) (mg : Str → Option Value) (fm : Addr) : Prop extends TxB mg where
  mixed : mg "_law_mixed" = some (.ref fm)
  kMixed : PySem.W.keepIn K (.ref fm) = true
section
variable {P : Program} {w : World} {K : PySem.W.Frag} {mg : Str → Option Value} {base : Heap}
def spDraw : Sp := fun vs H Q _ => ∃ (p c l : Addr) (n : Nat) (a m : Int), vs = [.ref p, .int m] ∧ StAt H p c l n a ∧ l ≠ c ∧ a < 2 ^ 39 ∧ 0 < m ∧ m < 1073741824 ∧
  ∀ (r : Int) (H' : Hp), 0 ≤ r → r < m → StAt H' p c l n (a + 1) → SameB H H' p l → (∀ b, H b = none → H' b = none) → Q (.int r) H'
theorem scDraw : FnScope ["state", "many", "at", "place", "left", "number"] ["state", "many"] (defScope sDraw) := ⟨rfl, rfl, rfl, by decide +kernel, rfl, by decide +kernel, by decide +kernel⟩
theorem ok_draw {f fm : Addr} {fd fdm : FuncData} (F : Fun K "_law_draw" "_law_draw" sDraw f fd) (FM : Fun K "_law_mixed" "_law_mixed" sMixed fm fdm) (bM : Binds K fdm ["cell", "k"] []) (T : TxD K mg fm) : FnOk P w K mg base CX0 2 f fd ["state", "many"] spDraw := by
  have GM : FnOk P w K mg base CX0 1 fm fdm ["cell", "k"] spMixed := ok_mixed FM T.toTxB
  refine F.ok scDraw (fun vs H Q E h => ?_) (fun cdv A outer s H vs Q E hr h => ?_)
  · obtain ⟨p, c, l, n, a, m, rfl, _⟩ := h
    rfl
  · obtain ⟨p, c, l, n, a, m, rfl, S, nlc, ha, m0, m1, q⟩ := h
    have hu := hu_of hr
    have hix : ∀ {X : Cx}, X.A.units + 1 < cLine → X.A.units + 1 < cLine := fun h => h
    refine ⟨_, pss_cons (ps_set (i := 2) scDraw.nd rfl (.inl rfl) (pe_dget hu (pv 0) pe_str (fun _ _ => rfl)))
      (pss_cons (ps_dput hu (pv 0) pe_str (pe_op op_add (pv 2) pe_int) rfl)
      (pss_cons (ps_set (i := 3) scDraw.nd rfl (.inl rfl) (pe_op op_mod (pe_callTy call_int1 (by rfl) T.int (by decide +kernel) (pa_cons (pv 2) pa_nil)) (pe_callB call_len_seq (by rfl) T.len (by decide +kernel) (pa_cons (pe_dget hu (pv 0) pe_str (fun _ _ => rfl)) pa_nil))))
      (pss_cons (ps_set (i := 4) scDraw.nd rfl (.inl rfl) (pe_ix ix_list (pe_dget hu (pv 0) pe_str (fun _ _ => rfl)) (pv 3) (fun _ _ => rfl)))
      (pss_cons (ps_if (pt_cmpR op_gt (pv 4) pe_int (nomark _))
        (pss_cons (ps_asg (pe_op op_fdiv (pv 4) (pv 1)) (pg_sub (pe_dget hu (pv 0) pe_str (fun _ _ => rfl)) (pv 3) set_list))
          (pss_one (ps_ret (pe_op op_mod (pe_callTy call_int1 (by rfl) T.int (by decide +kernel) (pa_cons (pv 4) pa_nil)) (pv 1))))) pss_nil)
      (pss_cons (ps_set (i := 5) scDraw.nd rfl (.inl rfl) (pe_call GM hr (by rfl) T.mixed T.kMixed bM .nil pass0 (pa_cons (pe_call GM hr (by rfl) T.mixed T.kMixed bM .nil pass0 (pa_cons (pe_ix ix_list (pe_dget hu (pv 0) pe_str (fun _ _ => rfl)) (pv 3) (fun _ _ => rfl)) (pa_cons (pv 2) pa_nil))) (pa_cons (pe_op op_add pe_int (pv 2)) pa_nil))))
      (pss_one (ps_ret (pe_op op_mod (pe_op op_fdiv (pe_callTy call_int1 (by rfl) T.int (by decide +kernel) (pa_cons (pe_op op_add (pe_op op_mul (pv 5) pe_int) (pe_call GM hr (by rfl) T.mixed T.kMixed bM .nil pass0 (pa_cons (pv 5) (pa_cons (pe_op op_add pe_int (pv 2)) pa_nil)))) pa_nil)) pe_int) (pv 1))))))))), ?_⟩
    obtain ⟨cs, hc, hcn⟩ := S.c
    obtain ⟨ls, hl, hln⟩ := S.l
    obtain ⟨npc, npl⟩ := S.ne
    have n0 := S.n0
    have a0 := S.a0
    refine ⟨_, rfl, p, _, rfl, DGet.k (k := kA) S.d, ?_⟩
    -- state['at'] = at + 1
    obtain ⟨H1, eH1⟩ : ∃ H1, H1 = upd H p (.dK (dk3 (.ref c) (.ref l) (.int (a + 1)))) := ⟨_, rfl⟩
    have dp : DPut H p (kV kA) (.int (a + 1)) H1 := by
      rw [eH1, ← put_at (.ref c) (.ref l) (.int a)]
      exact DPut.k (k := kA) S.d (by show 3 < sizeLine; rw [PySem.sizeLine_eq]; omega)
    refine ⟨_, rfl, _, _, rfl, rfl, _, rfl, p, H1, rfl, dp, ?_⟩
    have hp1 : H1 p = some (.dK (dk3 (.ref c) (.ref l) (.int (a + 1)))) := by rw [eH1, upd_same]
    have hc1 : H1 c = some (.lst (cs.map V.int)) := by rw [eH1, upd_ne npc.symm]; exact hc
    have hl1 : H1 l = some (.lst (ls.map V.int)) := by rw [eH1, upd_ne npl.symm]; exact hl
    have sb1 : SameB H H1 p l := fun b o e h1 h2 => by rw [eH1, upd_ne h1]; exact e
    have nn1 : ∀ b, H b = none → H1 b = none := fun b e => by
      rw [eH1, upd_ne (fun z => by rw [z, S.d] at e; cases e)]
      exact e
    -- spot
    have np : (0 : Int) < ((cs.map V.int).length : Int) := by rw [List.length_map, hcn]; omega
    refine ⟨_, rfl, .inl ⟨_, rfl, _, rfl, p, _, rfl, DGet.k (k := kC) hp1, c, _, rfl, .inl (SqL.of hc1), _, _, rfl, rfl, np, ?_⟩⟩
    have eN : ((cs.map V.int).length : Int) = (n : Int) := by rw [List.length_map, hcn]
    rw [eN]
    obtain ⟨k, hk, hkn⟩ : ∃ k : Nat, a % (n : Int) = (k : Int) ∧ k < n := by
      have h1 := Int.emod_nonneg a (show (n : Int) ≠ 0 by omega)
      have h2 := Int.emod_lt_of_pos a (show (0 : Int) < n by omega)
      exact ⟨(a % n).toNat, by omega, by omega⟩
    rw [show ((fun i j : Int => V.int (i % j)) a (n : Int)) = V.int (k : Int) from congrArg V.int hk]
    obtain ⟨x, hx⟩ : ∃ x, ls[k]? = some x := ⟨ls[k]'(by omega), by simp [show k < ls.length by omega]⟩
    obtain ⟨y, hy⟩ : ∃ y, cs[k]? = some y := ⟨cs[k]'(by omega), by simp [show k < cs.length by omega]⟩
    have hx' : (ls.map V.int)[k]? = some (V.int x) := by rw [List.getElem?_map, hx]; rfl
    have hy' : (cs.map V.int)[k]? = some (V.int y) := by rw [List.getElem?_map, hy]; rfl
    refine ⟨_, rfl, p, _, rfl, DGet.k (k := kL) hp1, _, rfl, l, _, _, _, rfl, rfl, SqL.of hl1, atI_nat hx', ?_⟩
    refine ⟨_, rfl, _, _, rfl, rfl, _, rfl, ?_⟩
    refine ite2 (fun _ => ?_) (fun _ => ?_)
    · -- a great one is used up
      refine ⟨_, rfl, _, rfl, _, _, rfl, rfl, ⟨m0, m1⟩, _, rfl, p, _, rfl, DGet.k (k := kL) hp1, _, rfl, l, _, _, k, rfl, rfl, hl1, ?_, ?_⟩
      · unfold ixN
        rw [if_pos (by omega), if_pos (by rw [List.length_map]; omega)]
        simp
      refine ⟨_, rfl, .inl ⟨_, rfl, _, rfl, _, _, rfl, rfl, m0, ?_⟩⟩
      refine q _ _ (Int.emod_nonneg _ (by omega)) (Int.emod_lt_of_pos _ m0) ⟨?_, ⟨cs, ?_, hcn⟩, ⟨ls.set k (x / m), ?_, by rw [List.length_set]; exact hln⟩, n0, S.n1, by omega⟩ (fun b o e h1 h2 => ?_) fun b e => ?_
      · rw [upd_ne npl]; exact hp1
      · rw [upd_ne nlc.symm]; exact hc1
      · rw [upd_same, List.map_set]
      · rw [upd_ne h2]; exact sb1 b o e h1 h2
      · rw [upd_ne (fun z => by rw [z, hl] at e; cases e)]; exact nn1 b e
    · -- number
      have r0 : ∀ {z : Int}, 0 ≤ z → z < 2147483629 → -(2 ^ 64) < z ∧ z < 2 ^ 64 := fun {z} h1 h2 => ⟨by omega, by omega⟩
      refine ⟨_, rfl, p, _, rfl, DGet.k (k := kC) hp1, _, rfl, c, _, _, _, rfl, rfl, SqL.of hc1, atI_nat hy', _, rfl, y, a, rfl, a0, by omega, fun z1 z10 z11 => ?_⟩
      refine ⟨_, rfl, _, _, rfl, rfl, z1, 40 + a, rfl, by omega, by omega, fun z2 z20 z21 => ?_⟩
      refine ⟨_, rfl, _, _, rfl, rfl, .inl (r0 z20 z21), _, rfl, _, rfl, _, _, rfl, rfl, z2, 7 + a, rfl, by omega, by omega, fun z3 z30 z31 => ?_⟩
      refine ⟨_, _, rfl, rfl, .inl ⟨_, rfl, _, _, rfl, rfl, ⟨by decide, by decide⟩, _, rfl, _, _, rfl, rfl, m0, ?_⟩⟩
      exact q _ _ (Int.emod_nonneg _ (by omega)) (Int.emod_lt_of_pos _ m0) ⟨hp1, ⟨cs, hc1, hcn⟩, ⟨ls, hl1, hln⟩, n0, S.n1, by omega⟩ sb1 nn1
end
end Dr
namespace Dr
open PySem L2
structure TxO (K : PySem.W.Frag) (mg : Str → Option Value) (fm fdr : Addr) : Prop extends TxD K mg fm where
  draw : mg "_law_draw" = some (.ref fdr)
  kDraw : PySem.W.keepIn K (.ref fdr) = true
section
variable {P : Program} {w : World} {K : PySem.W.Frag} {mg : Str → Option Value} {base : Heap}
def spOf : Sp := fun vs H Q _ => ∃ (p c l so : Addr) (n : Nat) (a : Int) (xs : List V), vs = [.ref p, .ref so] ∧ StAt H p c l n a ∧ l ≠ c ∧ a < 2 ^ 39 ∧ H so = some (.lst xs) ∧ so ≠ p ∧ so ≠ l ∧ 0 < xs.length ∧ xs.length < 1073741824 ∧
  ∀ (i : Nat) (v : V) (H' : Hp), xs[i]? = some v → StAt H' p c l n (a + 1) → SameB H H' p l → (∀ b, H b = none → H' b = none) → Q v H'
theorem scOf : FnScope ["state", "some"] ["state", "some"] (defScope sOf) := ⟨rfl, rfl, rfl, by decide +kernel, rfl, by decide +kernel, by decide +kernel⟩
theorem ok_of {f fm fdr : Addr} {fd fdm fdd : FuncData} (F : Fun K "_law_of" "_law_of" sOf f fd) (GD : FnOk P w K mg base CX0 2 fdr fdd ["state", "many"] spDraw) (bD : Binds K fdd ["state", "many"] []) (T : TxO K mg fm fdr) : FnOk P w K mg base CX0 3 f fd ["state", "some"] spOf := by
  refine F.ok scOf (fun vs H Q E h => ?_) (fun cdv A outer s H vs Q E hr h => ?_)
  · obtain ⟨p, c, l, so, n, a, xs, rfl, _⟩ := h
    rfl
  · obtain ⟨p, c, l, so, n, a, xs, rfl, S, nlc, ha, hso, n1, n2, x0, x1, q⟩ := h
    refine ⟨_, pss_one (ps_ret (pe_ix ix_list (pv 1) (pe_call GD hr (by rfl) T.draw T.kDraw bD .nil pass0 (pa_cons (pv 0) (pa_cons (pe_callB call_len_seq (by rfl) T.len (by decide +kernel) (pa_cons (pv 1) pa_nil)) pa_nil))) (fun _ _ => rfl))), ?_⟩
    refine ⟨_, rfl, _, rfl, _, rfl, so, _, rfl, .inl (SqL.of hso), p, c, l, n, a, _, rfl, S, nlc, ha, by omega, by omega, fun r H' r0 r1 S' sb nn => ?_⟩
    obtain ⟨k, hk⟩ : ∃ k : Nat, r = (k : Int) := ⟨r.toNat, by omega⟩
    subst hk
    obtain ⟨v, hv⟩ : ∃ v, xs[k]? = some v := ⟨xs[k]'(by omega), by simp [show k < xs.length by omega]⟩
    exact ⟨so, xs, k, v, rfl, rfl, SqL.of (sb so _ hso n1 n2), atI_nat hv, q k v H' hv S' sb nn⟩
end
end Dr
namespace Dr
open PySem L2 Evl
theorem StAt.ex {H H' : Hp} {p c l : Addr} {n : Nat} {a : Int} (S : StAt H p c l n a) (e : Ex H H') : StAt H' p c l n a :=
  ⟨e _ _ S.d, let ⟨cs, h, k⟩ := S.c; ⟨cs, e _ _ h, k⟩, let ⟨ls, h, k⟩ := S.l; ⟨ls, e _ _ h, k⟩, S.n0, S.n1, S.a0⟩
end Dr

/-! f(lambda: e) and f(lambda at=0: e), f a def that keeps what the lambda raises. -/
namespace LamR
open PySem PySem.Spec PyProof.Rows L2 LamX
open PySem.W (kdv_obj kdv_fn kdv_tup)
/-- a lambda's names: captured ones, globals, and names of its own that the def around has not -/
structure LamN (sc scope : Scope) (N : List Str) : Prop where
  kind : scope.kind = .function
  co : scope.isCoroutine = false
  gen : scope.isGenerator = false
  cell : ∀ y ∈ scope.names, y.2 ≠ .cell
  own : ∀ y ∈ scope.names, y.2 = .local → y.1 ∉ N
  free : ∀ y ∈ scope.names, y.2 = .free → sc.names.lookup y.1 = some .cell ∨ sc.names.lookup y.1 = some .free
def lamNB (sc scope : Scope) (N : List Str) : Bool :=
  decide (scope.kind = .function) && (!scope.isCoroutine && (!scope.isGenerator && ((scope.names.all fun y => !decide (y.2 = .cell)) && ((scope.names.all fun y => !decide (y.2 = .local) || !N.contains y.1) &&
    (scope.names.all fun y => !decide (y.2 = .free) || (decide (sc.names.lookup y.1 = some .cell) || decide (sc.names.lookup y.1 = some .free)))))))
theorem lamN_by {sc scope : Scope} {N : List Str} (h : lamNB sc scope N = true) : LamN sc scope N := by
  unfold lamNB at h
  simp only [Bool.and_eq_true, Bool.or_eq_true, Bool.not_eq_true', decide_eq_true_eq, decide_eq_false_iff_not, List.all_eq_true] at h
  obtain ⟨h1, h2, h3, h4, h5, h6⟩ := h
  refine ⟨h1, h2, h3, h4, fun y hy e => ?_, fun y hy e => ?_⟩
  · rcases h5 y hy with z | z
    · exact absurd e z
    · simpa using z
  · rcases h6 y hy with z | z
    · exact absurd e z
    · exact z
theorem LamN.has {X : Cx} {scope : Scope} {N : List Str} (L : LamN X.env.scope scope N) (ok : X.Ok) : ∀ y ∈ scope.names, y.2 = .free → ∃ c, X.env.cells.lookup y.1 = some c := fun y hy e => by
  rcases L.free y hy e with k | k
  · exact ok.has _ (.inl k)
  · exact ok.has _ (.inr k)
section
variable {X : Cx} {pins : List (Addr × Obj)} {σ : L2.St} {H HZ : Hp} {s s1 : Shared}
theorem lam_startR {A : Around} {outer : List Env} {E : XK} {scope : Scope} {f c' : Addr} {h₁ : Heap} {tk : Nat} {mL : Str → Option Value} (I : Inv X pins σ H s) (L : LamN X.env.scope scope X.N) (e0 : Env0 X.prog X.w X.K X.mg X.base A outer s1 HZ) (hd : A.handled = none)
    (un : Un (frs X.stack) [] H HZ s.heap s1.heap) (hns : h₁.Ns s1.heap.objs.size mL) (kp : ∀ b o, s1.heap.get? b = some o → h₁.get? b = some o) :
    Inv (lamCx X A outer s1 HZ E scope f c') [] σ HZ { s1 with heap := h₁, toks := tk } := by
  have hfree := L.has I.ok
  have cm : ∀ {y c}, (cloFrom X.env.cells scope.names []).lookup y = some c → X.env.cells.lookup y = some c := fun {y c} e => by
    rcases cloFrom_mem (PySem.mem_of_lookup e) with hm | ⟨h1, h2⟩
    · exact absurd hm (by simp)
    · obtain ⟨c1, hc⟩ := hfree _ h1 rfl
      have hc : X.env.cells.lookup y = some c1 := hc
      have e2 : c = c1 := by
        rw [h2, hc] <;> rfl
      rw [e2, hc]
  have look : ∀ {y}, scope.names.lookup y = some .free → ∃ c, (cloFrom X.env.cells scope.names []).lookup y = some c := fun {y} hl =>
    mem_lookup (cloFrom_has (cells := X.env.cells) (acc := []) (show (y, NameKind.free) ∈ scope.names from PySem.mem_of_lookup hl))
  have cellK : ∀ {c : Addr} {v : Option Value}, H c = none → s.heap.IsCell c v → h₁.IsCell c v := fun {c v} n ⟨o, ho, hd⟩ =>
    let ⟨_, q⟩ := un.any ho n (by simp)
    ⟨_, kp _ _ q, hd⟩
  have noA : ∀ b : Addr, b ∉ (lamCx X A outer s1 HZ E scope f c').ex := fun b z => absurd (show b ∈ ([] : List Addr) from z) (by simp)
  have visC : ∀ {y}, scope.names.lookup y ≠ some .cell := fun {y} k => L.cell _ (PySem.mem_of_lookup k) rfl
  refine ⟨⟨e0.mod, L.kind, rfl, rfl, Nat.le_refl _, fun y z c e1 e2 => I.ok.inj y z c (cm e1) (cm e2), fun y hy => ?_, fun y c z _ => Bool.noConfusion (show false = true from z), fun _ => hd, Around.frames_deeper e0.frames, .inr ⟨rfl, rfl⟩, fun b z => absurd z (noA b), e0.bs, e0.bsz, fun b _ _ => noA b,
      fun b z => absurd z (noA b), e0.funs, e0.frf⟩,
    rfl, e0.bare, Un.kept kp, ⟨_, hns, fun i y v e1 e2 e3 => ?_⟩, fun y c e => ?_, e0.hok.fresh (Nat.le_refl _), fun y c e => ?_, fun q hq => absurd (show q ∈ ([] : List (Addr × Obj)) from hq) (by simp), e0.hok.kept kp, I.len⟩
  · have hy : scope.names.lookup y = some .cell ∨ scope.names.lookup y = some .free := hy
    rcases hy with hy | hy
    · exact absurd hy visC
    · exact look hy
  · have e3 : Vis scope y := e3
    rcases e3 with k | k | k
    · exact absurd (List.mem_of_getElem? e1) (L.own _ (PySem.mem_of_lookup k) rfl)
    · exact absurd k visC
    · obtain ⟨m, hn, hl⟩ := I.loc
      obtain ⟨w', r, q⟩ := hl i y v e1 e2 (.inr (L.free _ (PySem.mem_of_lookup k) rfl))
      obtain ⟨c2, h2⟩ := look k
      refine ⟨w', r, .inr ⟨.inr k, c2, h2, ?_⟩⟩
      have c1 := cm h2
      rcases q with ⟨k', _⟩ | ⟨_, c3, e', z⟩
      · have k' : X.env.scope.names.lookup y = some .local := k'
        rcases L.free _ (PySem.mem_of_lookup k) rfl with k2 | k2 <;> rw [show X.env.scope.names.lookup y = _ from k2] at k' <;> cases k'
      · rw [c1] at e'
        cases e'
        exact cellK (I.freeC y _ c1) z
  · obtain ⟨w', z⟩ := I.cell y c (cm e)
    exact ⟨w', cellK (I.freeC y c (cm e)) z⟩
  · obtain ⟨v, o, ho, hd⟩ := I.cell y c (cm e)
    exact un.free c o ho (I.freeC y c (cm e)) (by simp)
/-- x(), in the def that got the lambda; what it raises is what that def's own wish takes, at its names as they are -/
theorem pe_actR {CXg : CXT} {Eg : XK} {Ng : List Str} {qg : Str} {sg : Scope} {g f c' : Addr} {cdg dV doc pm ctv : Value} {params : Arguments} {body : Expr} {scope : Scope} {k i : Nat} {a : Str} {pn : List (Addr × Obj)} {xe : Value → Shared → Prop} {W : WX} {tb : XK → TE} {p1 p2 : Pos} {binds : List (Str × Value)}
    (I : Inv X pins σ H s) (L : LamN X.env.scope scope X.N) (hf : s.heap.get? f = some (kdv_obj "<lambda>" (X.env.qual ++ "<lambda>") params (.expr body) scope (cloFrom X.env.cells scope.names []) dV doc pm c' ctv)) (hfn : H f = none) (hfr : f ∉ frs X.stack)
    (hbind : ∀ s1 : Shared, (∀ b o, s.heap.get? b = some o → H b = none → b ∉ frs X.stack → s1.heap.get? b = some o) → BindsTo s1 (kdv_fn "<lambda>" (X.env.qual ++ "<lambda>") params (.expr body) scope (cloFrom X.env.cells scope.names []) dV doc pm (.ref c') ctv) ⟨[], []⟩ binds)
    (hloc : ∀ y ∈ binds, scope.names.lookup y.1 = some .local)
    (tk : Takes ((cxOf CXg X.prog X.w X.K X.mg X.base Ng qg sg g cdg X.A X.stack s H Eg).tr pn xe) W) (hr : Room (k + 1) (X.A.deeper (envOfC qg sg s.heap.objs.size g cdg)))
    (hbody : ∀ (A : Around) (outer : List Env) (s : Shared) (H : Hp) (E : XK), Room k (A.deeper (lamEnv X scope s.heap.objs.size f c')) → PE (lamCx X A outer s H E scope f c') body (tb E))
    (hN : Ng[i]? = some a) (hv : Vis sg a) (hd : (a == ("__debug__" : Str)) = false := by decide) (hcd : (a == ("__classdict__" : Str)) = false := by decide) :
    PE ((cxOf CXg X.prog X.w X.K X.mg X.base Ng qg sg g cdg X.A X.stack s H Eg).tr pn xe) (.Call (.Name a p1) [] [] p2)
      (fun σZ HZ Q => σZ[i]? = some (some (.ref f)) ∧ HZ c' = some (CodeO c' (X.env.qual ++ "<lambda>")) ∧ ∃ (E : XK) (Q' : VK), (∀ cls d H', E cls d H' → W cls d σZ H') ∧ (∀ v H', Q' v H' → Q v H') ∧ tb E σ HZ Q') := by
  refine ⟨fun pinsZ sZ σZ HZ Q IZ h => ?_⟩
  obtain ⟨hs, hc, E, Q', hW, hQ, ht⟩ := h
  refine wpAny_Call_Name_kw (thn ((pe_var (pos := p1) (i := i) hN hv hd hcd).run pinsZ sZ σZ HZ (fun v H1 => v = .ref f ∧ H1 = HZ) IZ ⟨.ref f, hs, rfl, rfl⟩) fun u s1 ⟨v, H1, I1, r1, ev, eH⟩ => ?_)
  subst ev
  rw [eH] at I1
  obtain rfl : u = Value.ref f := r1
  have un : Un (frs X.stack) [] H HZ s.heap s1.heap := I1.base
  have keep : ∀ b o, s.heap.get? b = some o → H b = none → b ∉ frs X.stack → s1.heap.get? b = some o := fun b o e n nf => un.keep b o e n nf (fun z => absurd (show b ∈ ([] : List Addr) from z) (by simp))
  have of1 := keep f _ hf hfn hfr
  refine PySem.W.callWith_F0 ⟨_, _, _, _, of1⟩ ?_
  obtain ⟨⟨oc, vs, t, hoc, hdc, hvc⟩, _, _⟩ := I1.hok c' _ hc
  have rc : codeAny (model X.prog X.w) (X.A.deeper (envOfC qg sg s.heap.objs.size g cdg)) (.call (.ref f) ⟨[], []⟩) (CR (L2.CX X.prog X.w) (envOfC qg sg s.heap.objs.size g cdg :: X.stack) X.prog X.w HZ s1 Q E) s1 := by
    refine PySem.W.kla_callFunE hr.depth of1 rfl L.co L.gen rfl ⟨c', oc, vs, t, rfl, hoc, hdc, hvc⟩ (hbind s1 keep _ _ _ _ ?_)
    refine wpAny_newFunctionEnv L.cell hloc (fun h₁ hns hsb => ⟨I1.nolimit.fresh _ hsb, ?_⟩) L.kind
    show codeAny _ _ (.expr body (lamEnv X scope s1.heap.objs.size f c')) _ _
    have kp : ∀ b o, s1.heap.get? b = some o → h₁.get? b = some o := fun b o e => hsb.extBut b o (Nat.ne_of_lt (Heap.lt_size e)) (Heap.get?_push_of_some _ e)
    have J : Inv (lamCx X (X.A.deeper (envOfC qg sg s.heap.objs.size g cdg)) (envOfC qg sg s.heap.objs.size g cdg :: X.stack) s1 HZ E scope f c') [] σ HZ { s1 with heap := h₁, toks := s1.toks + binds.length } :=
      lam_startR I L I1.env0 hr.hd un hns kp
    exact PySem.W.kla_codeExpr (wpAny_mono ((hbody _ _ s1 HZ E (hr.deeper _)).run [] _ _ HZ Q' J ht) (fun v s' ⟨w', H', J', rv, q⟩ => ⟨w', H', J'.os, J'.bare, J'.base, J'.hok, rv, hQ _ _ q⟩) fun e s' hq => hq)
  refine wpAny_call (codeAny_mono rc fun r s' hq => ?_)
  cases r with
  | error e => exact tk e s' (XE.of_call I1 hW hq)
  | ok fl =>
    cases fl with
    | ret u => exact I1.after hq
    | next => exact False.elim hq
    | brk => exact False.elim hq
    | cont => exact False.elim hq
end
end LamR

namespace LamR
open PySem PySem.Spec PyProof.Rows L2 LamX
open PySem.W (kdv_obj kdv_fn kdv_tup)
section
variable {X : Cx} {pins : List (Addr × Obj)} {σ : L2.St} {H : Hp} {s : Shared}
/-- the lambda with one int as a default is made -/
theorem lam_makeD {T : List (Addr × Str)} {c P : Addr} {params : Arguments} {body : Expr} {scope : Scope} {pos cp : Pos} {j : Nat} {n : Int} {E : Value → Shared → Prop} {Q : Value → Shared → Prop} (I : Inv X pins σ H s) (TB : TabB X.base X.mg c P) (hcode : X.env.code = .ref c)
    (hm : (P, X.env.qual ++ "<lambda>") ∈ T) (hu : ∀ p ∈ T, p.1 = P → p.2 = X.env.qual ++ "<lambda>") (hT : Tabs T H) (hdef : params.defaults = [.Constant (.int n) j cp]) (hk0 : params.kw_defaults = []) (hfree : ∀ y ∈ scope.names, y.2 = .free → ∃ c, X.env.cells.lookup y.1 = some c)
    (hE : E = X.xe)
    (h : ∀ (f c' T₀ : Addr) (tk : Tok) (doc pm ctv : Value) (H1 : Hp) (s' : Shared), Inv X pins σ H1 s' → ExtN H H1 → Tabs T H1 →
      s'.heap.get? f = some (kdv_obj "<lambda>" (X.env.qual ++ "<lambda>") params (.expr body) scope (cloFrom X.env.cells scope.names []) (.ref T₀) doc pm c' ctv) → H1 f = none → f ∉ frs X.stack → H1 c' = some (CodeO c' (X.env.qual ++ "<lambda>")) →
      s'.heap.get? T₀ = some (kdv_tup [.int n tk]) → H1 T₀ = none → T₀ ∉ frs X.stack → Q (.ref f) s') :
    wpAny (model X.prog X.w) X.A (eval (.Lambda params body scope pos) X.env) Q E s := by
  subst hE
  obtain ⟨ps, hP, ht, ha⟩ := hT _ hm
  refine PySem.W.kdv_lam (by rw [hdef]; rfl) hk0 ?_
  rw [hdef]
  refine PySem.W.kdv_all1 (wpAny_Constant_int (PySem.W.kdv_all0 ?_))
  generalize hs1 : ({ s with toks := s.toks + 1 } : Shared) = s1
  have I1 : Inv X pins σ H s1 := by
    rw [← hs1]
    exact I.tok _
  generalize s.toks = tk
  rw [makeFunction_eq]
  simp only [List.zip_nil_right, List.filterMap_nil, List.isEmpty_nil, if_true, pure_bind, List.isEmpty_cons, Bool.false_eq_true, if_false]
  refine wpAny_bind (wpAny_newTextTuple ?_)
  obtain ⟨T₀, hT0⟩ : ∃ T₀, T₀ = s1.heap.objs.size := ⟨_, rfl⟩
  rw [← hT0]
  have n0 : H T₀ = none := I1.hok.fresh (Nat.le_of_eq hT0.symm)
  have g0 : (s1.heap.push (kdv_tup [.int n tk])).get? T₀ = some (kdv_tup [.int n tk]) := by
    rw [hT0]
    exact Heap.get?_push_size _ rfl
  have I2 : Inv X pins σ H { s1 with heap := s1.heap.push (kdv_tup [.int n tk]) } := I1.kept (t' := s1.toks) fun b o e => Heap.get?_push_of_some _ e
  have nofr : ∀ f, s1.heap.objs.size ≤ f → f ∉ frs X.stack := fun f hf z => by
    rcases List.mem_cons.mp (I1.stkSub _ z) with e | e
    · have h1 := I1.lt
      rw [← e] at h1
      exact Nat.lt_irrefl _ (Nat.lt_of_lt_of_le h1 hf)
    · exact I1.nofs hf e
  have f0 : T₀ ∉ frs X.stack := nofr _ (Nat.le_of_eq hT0.symm)
  have sz2 : (s1.heap.push (kdv_tup [.int n tk])).objs.size = T₀ + 1 := by rw [Heap.size_push, hT0]
  generalize hs2 : ({ s1 with heap := s1.heap.push (kdv_tup [.int n tk]) } : Shared) = s2 at I2 ⊢
  have hh2 : s2.heap = s1.heap.push (kdv_tup [.int n tk]) := by rw [← hs2]
  rw [← hh2] at g0 sz2
  have bP : s2.heap.BuiltinsAt X.mg P := TB.bm.keeps I2.bk
  have hP' : s2.heap.get? P = some { cls := .none, data := .fields ps } := I2.hok P _ hP
  cases hc : codeAmong pos ps.toList with
  | none =>
    refine PySem.W.kdv_makeTail (mg := X.mg) (c := c) (P := P) (ps := ps) (closure_ok hfree) I2.ok.glob (I2.mod.glob.keeps I2.bk) hcode (TB.code.keeps I2.bk) hP' ht hc TB.gP bP fun c' ctv doc h' tk' hx hge hlt hrec htb => ?_
    obtain ⟨c2, oc, vs, t, e2, hoc, hd, hv⟩ := hrec
    cases e2
    have hsz : s2.heap.objs.size ≤ h'.objs.size := Nat.le_trans hge (Nat.le_of_lt hlt)
    have nC : H c' = none := I2.hok.fresh hge
    have I3 := inv_table (t' := tk') (more := #[rawInt pos.line, rawInt pos.col, .ref c']) (h' := h'.push (kdv_obj "<lambda>" (X.env.qual ++ "<lambda>") params (.expr body) scope (cloFrom X.env.cells scope.names []) (.ref T₀) doc ((X.mg "__name__").getD .none) c' ctv)) I2 hP
      (fun b o hb e => Heap.get?_push_of_some _ (hx b o hb e)) (Heap.get?_push_of_some _ htb) hge ⟨oc, vs, t, Heap.get?_push_of_some _ hoc, hd, hv⟩
    have hE : ExtN H (upd (upd H P (.tbl (ps ++ #[rawInt pos.line, rawInt pos.col, .ref c']))) c' (CodeO c' (X.env.qual ++ "<lambda>"))) := fun b o e nt => by
      rw [upd_ne (ne_of_none e nC), upd_ne (fun z => nt ps (Option.some.inj (e.symm.trans (by rw [z]; exact hP))))]
      exact e
    have eL : (ps ++ #[rawInt pos.line, rawInt pos.col, .ref c']).toList = ps.toList ++ [rawInt pos.line, rawInt pos.col, .ref c'] := by simp
    have T0P : T₀ ≠ P := fun z => by
      rw [z, hP] at n0
      cases n0
    have T0c : T₀ ≠ c' := fun z => by omega
    refine h h'.objs.size c' T₀ tk doc ((X.mg "__name__").getD .none) ctv _ _ I3 hE (fun p hp => ?_) (Heap.get?_push_size _ rfl) ?_ (nofr _ (by omega)) upd_same (Heap.get?_push_of_some _ (hx _ _ T0P g0)) ?_ f0
    · by_cases hb : p.1 = P
      · rw [hu p hp hb, hb]
        refine ⟨_, by rw [upd_ne (ne_of_none hP nC), upd_same], by rw [eL]; exact PySem.TriplesOk_snoc _ _ _ _ ht, fun p' cv hcv => ?_⟩
        rw [eL] at hcv
        rcases among_app _ ht hcv with z | z
        · obtain ⟨c0, e1, e2⟩ := ha p' cv z
          exact ⟨c0, e1, hE _ _ e2 codeO_ne⟩
        · exact ⟨c', z, upd_same⟩
      · obtain ⟨ps', a1, a2, a3⟩ := hT p hp
        refine ⟨ps', by rw [upd_ne (ne_of_none a1 nC), upd_ne hb]; exact a1, a2, fun p' cv hcv => ?_⟩
        obtain ⟨c0, e1, e2⟩ := a3 p' cv hcv
        exact ⟨c0, e1, hE _ _ e2 codeO_ne⟩
    · have n1 : h'.objs.size ≠ c' := Nat.ne_of_gt hlt
      have n2 : h'.objs.size ≠ P := Nat.ne_of_gt (Nat.lt_of_lt_of_le (Heap.lt_size hP') hsz)
      rw [upd_ne n1, upd_ne n2]
      exact I2.hok.fresh hsz
    · rw [upd_ne T0c, upd_ne T0P]
      exact n0
  | some cv =>
    obtain ⟨c', e, hco⟩ := ha pos cv hc
    subst e
    refine PySem.W.kdv_makeTailHit (mg := X.mg) (c := c) (P := P) (ps := ps) (closure_ok hfree) I2.ok.glob (I2.mod.glob.keeps I2.bk) hcode (TB.code.keeps I2.bk) hP' ht hc bP fun ctv doc h' tk' hx hsz => ?_
    have I3 : Inv X pins σ H { s2 with heap := h'.push (kdv_obj "<lambda>" (X.env.qual ++ "<lambda>") params (.expr body) scope (cloFrom X.env.cells scope.names []) (.ref T₀) doc ((X.mg "__name__").getD .none) c' ctv), toks := tk' } := I2.kept fun b o e => Heap.get?_push_of_some _ (hx b o e)
    exact h h'.objs.size c' T₀ tk doc ((X.mg "__name__").getD .none) ctv H _ I3 (ExtN.refl H) hT (Heap.get?_push_size _ rfl) (I2.hok.fresh hsz) (nofr _ (by omega)) hco (Heap.get?_push_of_some _ (hx _ _ g0)) n0 f0
end
end LamR

namespace LamR
open PySem PySem.Spec PyProof.Rows L2 LamX
open PySem.W (kdv_obj kdv_fn kdv_tup)
/-- the def that calls what it got; TT: what it makes of the lambda's reading -/
def GivesR (X : Cx) (Ng : List Str) (x : Str) (sg : Scope) (g : Addr) (cdg : Value) (bg : List Stmt) (a : Str) (q : Str) (TT : (XK → Hp → VK → Prop) → Hp → VK → Prop) : Prop :=
  ∀ (f c' : Addr) (s : Shared) (H : Hp) (Q : VK) (tl : XK → Hp → VK → Prop),
    (∀ (W : WX) (pn : List (Addr × Obj)) (xe : Value → Shared → Prop) (p1 p2 : Pos), Takes ((cxOf C8.CX0 X.prog X.w X.K X.mg X.base Ng x sg g cdg X.A X.stack s H C8.E0).tr pn xe) W →
      PE ((cxOf C8.CX0 X.prog X.w X.K X.mg X.base Ng x sg g cdg X.A X.stack s H C8.E0).tr pn xe) (.Call (.Name a p1) [] [] p2) (fun σZ HZ Q => σZ[0]? = some (some (.ref f)) ∧ HZ c' = some (CodeO c' q) ∧ ∃ (E : XK) (Q' : VK), (∀ cls d H', E cls d H' → W cls d σZ H') ∧ (∀ v H', Q' v H' → Q v H') ∧ tl E HZ Q')) →
    H c' = some (CodeO c' q) → TT tl H Q →
    ∃ t, PSs (cxOf C8.CX0 X.prog X.w X.K X.mg X.base Ng x sg g cdg X.A X.stack s H C8.E0).nox bg t ∧ t { nx := fun _ H' => Q .non H', rt := Q } (L2.start Ng [.ref f]) H
section
variable {X : Cx} {T : List (Addr × Str)} {TT : (XK → Hp → VK → Prop) → Hp → VK → Prop} {x a : Str} {g c P : Addr} {k : Nat} {pg : Arguments} {bg : List Stmt} {sg : Scope} {dV kV doc pm cdv ct oc : Value} {an od : Option Addr} {osl : Array (Option Value)} {Ng : List Str}
    {params : Arguments} {body : Expr} {scope : Scope} {t : XK → TE} {p lpos pos : Pos}
/-- behind the lambda's making: the def is called -/
theorem lam_endR {pins : List (Addr × Obj)} {σ : L2.St} {H1 : Hp} {s' : Shared} {Q : VK} {f c' : Addr} {dL docL pmL ctL : Value} {binds : List (Str × Value)}
    (hk : PySem.W.keepIn X.K (.ref g) = true) (lk : X.K.lookup g = some ⟨oc, od, .func (PySem.W.fnOf x x pg bg sg dV kV doc pm an cdv ct), osl⟩) (hcg : PySem.W.codeIn X.K cdv x = true) (hb : L2.Binds X.K (PySem.W.fnOf x x pg bg sg dV kV doc pm an cdv ct) [a] []) (Sg : FnScope Ng [a] sg) (hNg : Ng[0]? = some a) (hva : Vis sg a)
    (hG : GivesR X Ng x sg g cdv bg a (X.env.qual ++ "<lambda>") TT) (hr : Room (k + 2) X.A) (L : LamN X.env.scope scope X.N)
    (hbody : ∀ (A : Around) (outer : List Env) (s : Shared) (H : Hp) (E : XK) (f c' : Addr), Room k (A.deeper (lamEnv X scope s.heap.objs.size f c')) → PE (lamCx X A outer s H E scope f c') body (t E))
    (I1 : Inv X pins σ H1 s') (hf : s'.heap.get? f = some (kdv_obj "<lambda>" (X.env.qual ++ "<lambda>") params (.expr body) scope (cloFrom X.env.cells scope.names []) dL docL pmL c' ctL)) (hfn : H1 f = none) (hfr : f ∉ frs X.stack) (hco : H1 c' = some (CodeO c' (X.env.qual ++ "<lambda>")))
    (hbind : ∀ s1 : Shared, (∀ b o, s'.heap.get? b = some o → H1 b = none → b ∉ frs X.stack → s1.heap.get? b = some o) → BindsTo s1 (kdv_fn "<lambda>" (X.env.qual ++ "<lambda>") params (.expr body) scope (cloFrom X.env.cells scope.names []) dL docL pmL (.ref c') ctL) ⟨[], []⟩ binds)
    (hloc : ∀ y ∈ binds, scope.names.lookup y.1 = some .local) (h : TT (fun E H' Q' => t E σ H' Q') H1 Q)
    (hd : (a == ("__debug__" : Str)) = false := by decide) (hcd : (a == ("__classdict__" : Str)) = false := by decide) :
    wpAny (model X.prog X.w) X.A (call (.ref g) [.ref f]) (EP X pins σ Q) X.xe s' := by
  have rc : codeAny (model X.prog X.w) X.A (.call (.ref g) ⟨[.ref f], []⟩) (CR C8.CX0 X.stack X.prog X.w H1 s' Q C8.E0) s' := by
    refine run_ofS (N := Ng) (ps := [a]) (us := [.ref f]) (vs := [.ref f]) lk hcg Sg hr I1.env0 (hb s' [.ref f] I1.kIn rfl) (.cons rfl .nil) rfl fun hr' => ?_
    obtain ⟨t', ht', hq'⟩ := hG f c' s' H1 Q (fun E H' Q' => t E σ H' Q') (fun W pn xe p1 p2 tk => pe_actR (i := 0) I1 L hf hfn hfr hbind hloc tk hr' (fun A outer s H E hr2 => hbody A outer s H E f c' hr2) hNg hva hd hcd) hco h
    exact ⟨t', ht'.nox, hq'⟩
  refine wpAny_call (codeAny_mono rc fun r s2 hq => ?_)
  cases r with
  | error e => exact (show False from hq).elim
  | ok fl =>
    cases fl with
    | ret u => exact I1.after hq
    | next => exact False.elim hq
    | brk => exact False.elim hq
    | cont => exact False.elim hq
/-- x(lambda: body) -/
theorem pe_lamcallR (hg : Gl X x) (hm : X.mg x = some (.ref g)) (hk : PySem.W.keepIn X.K (.ref g) = true)
    (lk : X.K.lookup g = some ⟨oc, od, .func (PySem.W.fnOf x x pg bg sg dV kV doc pm an cdv ct), osl⟩) (hcg : PySem.W.codeIn X.K cdv x = true) (hb : L2.Binds X.K (PySem.W.fnOf x x pg bg sg dV kV doc pm an cdv ct) [a] []) (Sg : FnScope Ng [a] sg) (hNg : Ng[0]? = some a) (hva : Vis sg a)
    (hG : GivesR X Ng x sg g cdv bg a (X.env.qual ++ "<lambda>") TT)
    (TB : TabB X.base X.mg c P) (hcode : X.env.code = .ref c) (hmT : (P, X.env.qual ++ "<lambda>") ∈ T) (hu : ∀ p ∈ T, p.1 = P → p.2 = X.env.qual ++ "<lambda>") (hr : Room (k + 2) X.A) (L : LamN X.env.scope scope X.N) (hdef : defaultsOf params X.env = ([], []))
    (hbind : ∀ (q : Str) (cl : List (Str × Addr)) (pm cv ctv : Value), bindArgs (PySem.W.kla_fn "<lambda>" q params body scope cl pm cv ctv) ⟨[], []⟩ = pure [])
    (hbody : ∀ (A : Around) (outer : List Env) (s : Shared) (H : Hp) (E : XK) (f c' : Addr), Room k (A.deeper (lamEnv X scope s.heap.objs.size f c')) → PE (lamCx X A outer s H E scope f c') body (t E))
    (hdb : (x == ("__debug__" : Str)) = false := by decide) (hd : (a == ("__debug__" : Str)) = false := by decide) (hcd : (a == ("__classdict__" : Str)) = false := by decide) :
    PE X (.Call (.Name x p) [.Lambda params body scope lpos] [] pos) (tLam T TT t) := by
  refine ⟨fun pins s σ H Q I ⟨hT, h⟩ => ?_⟩
  refine wpAny_Call_Name_kw (ld_glob I hg hm ?_ hdb)
  refine PySem.W.callWith_K (h₀ := X.base) I.ok.mod.kin hk ?_ (by rfl) (by rfl)
  show wpAny _ _ (spliced ((false, eval (.Lambda params body scope lpos) X.env) :: backTo pos (starEach [] X.env))) _ _ s
  refine Calls.spliced_cons (lam_make2 I TB hcode hmT hu hT hdef (L.has I.ok) fun f c' pm' ctv H1 s' I1 eN T1 hf hfn hfr hco => ?_)
  exact Calls.spliced_nil ⟨I1.kIn, lam_endR (binds := []) (dL := .none) (docL := .none) hk lk hcg hb Sg hNg hva hG hr L hbody I1 hf hfn hfr hco (fun s1 _ => .of_eq (hbind _ _ _ _ _)) (fun y hy => absurd hy (by simp)) (h H1 eN T1) hd hcd⟩
/-- x(lambda y=n: body) -/
theorem pe_lamcallD {y : Str} {n : Int} {j : Nat} {cp : Pos} (hg : Gl X x) (hm : X.mg x = some (.ref g)) (hk : PySem.W.keepIn X.K (.ref g) = true)
    (lk : X.K.lookup g = some ⟨oc, od, .func (PySem.W.fnOf x x pg bg sg dV kV doc pm an cdv ct), osl⟩) (hcg : PySem.W.codeIn X.K cdv x = true) (hb : L2.Binds X.K (PySem.W.fnOf x x pg bg sg dV kV doc pm an cdv ct) [a] []) (Sg : FnScope Ng [a] sg) (hNg : Ng[0]? = some a) (hva : Vis sg a)
    (hG : GivesR X Ng x sg g cdv bg a (X.env.qual ++ "<lambda>") TT)
    (TB : TabB X.base X.mg c P) (hcode : X.env.code = .ref c) (hmT : (P, X.env.qual ++ "<lambda>") ∈ T) (hu : ∀ p ∈ T, p.1 = P → p.2 = X.env.qual ++ "<lambda>") (hr : Room (k + 2) X.A) (L : LamN X.env.scope scope X.N)
    (hdef : params.defaults = [.Constant (.int n) j cp]) (hk0 : params.kw_defaults = []) (hyl : scope.names.lookup y = some .local)
    (hbind : ∀ (q : Str) (cl : List (Str × Addr)) (T₀ : Addr) (doc pm cv ctv u : Value), ∃ k : Option (Array Value) → Sem (List (Str × Value)), bindArgs (kdv_fn "<lambda>" q params (.expr body) scope cl (.ref T₀) doc pm cv ctv) ⟨[], []⟩ = seqItems? (.ref T₀) >>= k ∧ k (some #[u]) = pure [(y, u)])
    (hbody : ∀ (A : Around) (outer : List Env) (s : Shared) (H : Hp) (E : XK) (f c' : Addr), Room k (A.deeper (lamEnv X scope s.heap.objs.size f c')) → PE (lamCx X A outer s H E scope f c') body (t E))
    (hdb : (x == ("__debug__" : Str)) = false := by decide) (hd : (a == ("__debug__" : Str)) = false := by decide) (hcd : (a == ("__classdict__" : Str)) = false := by decide) :
    PE X (.Call (.Name x p) [.Lambda params body scope lpos] [] pos) (tLam T TT t) := by
  refine ⟨fun pins s σ H Q I ⟨hT, h⟩ => ?_⟩
  refine wpAny_Call_Name_kw (ld_glob I hg hm ?_ hdb)
  refine PySem.W.callWith_K (h₀ := X.base) I.ok.mod.kin hk ?_ (by rfl) (by rfl)
  show wpAny _ _ (spliced ((false, eval (.Lambda params body scope lpos) X.env) :: backTo pos (starEach [] X.env))) _ _ s
  refine Calls.spliced_cons (lam_makeD I TB hcode hmT hu hT hdef hk0 (L.has I.ok) rfl fun f c' T₀ tk doc' pm' ctv H1 s' I1 eN T1 hf hfn hfr hco g0 n0 f0 => ?_)
  refine Calls.spliced_nil ⟨I1.kIn, lam_endR (binds := [(y, .int n tk)]) hk lk hcg hb Sg hNg hva hG hr L hbody I1 hf hfn hfr hco (fun s1 kp => ?_) (fun z hz => ?_) (h H1 eN T1) hd hcd⟩
  · obtain ⟨kk, e1, e2⟩ := hbind (X.env.qual ++ "<lambda>") (cloFrom X.env.cells scope.names []) T₀ doc' pm' (.ref c') ctv (.int n tk)
    exact BindsTo.of_defaults rfl (kp _ _ g0 n0 f0) rfl e1 e2
  · rw [List.mem_singleton.mp hz]
    exact hyl
end
end LamR

/-! k02: what the program's own defs tell. -/
namespace Dg
open PySem L2 Evl
def top (i : Nat) : Stmt := PySem.Challenge.pw_shortspans_k08_tails_by_hand.main.body.getD i (.Pass ⟨0, 0, 0, 0⟩)
abbrev sIsInt : Stmt := top 21
abbrev sIsNum : Stmt := top 22
abbrev sIsFig : Stmt := top 23
abbrev sNeedB : Stmt := top 24
abbrev sNeedN : Stmt := top 25
abbrev sWorth : Stmt := top 29
abbrev sDigits : Stmt := top 30

abbrev sLength : Stmt := top 31
abbrev sNeedR : Stmt := top 26
abbrev sChanged : Stmt := top 32
abbrev sNear : Stmt := top 33
structure TxG (mg : Str → Option Value) : Prop where
  isi : mg "isinstance" = none
  int : mg "int" = none
  bool : mg "bool" = none
  str : mg "str" = none
  len : mg "len" = none
  sup : mg "super" = none
  fig : ∃ t, mg "FIGURES" = some (.str "0123456789" t)
  least : ∃ t, mg "LEAST_BASE" = some (.int 2 t)
  most : ∃ t, mg "MOST_BASE" = some (.int 10 t)
structure TxI (K : PySem.W.Frag) (mg : Str → Option Value) (fi : Addr) : Prop extends TxG mg where
  isInt : mg "is_integer" = some (.ref fi)
  kInt : PySem.W.keepIn K (.ref fi) = true
/-- whether a value is an integer -/
inductive Kn (K : PySem.W.Frag) (H : Hp) : V → Bool → Prop
  | int (i : Int) : Kn K H (.int i) true
  | oth {v : V} {a : String} {x y : Bool} (t : TyX K H v (.type a)) (h1 : kitB a "int" = some x) (h2 : kitB a "bool" = some y) (h : (x && !y) = false) : Kn K H v false
/-- whether a value is a number -/
inductive Nm (K : PySem.W.Frag) (H : Hp) : V → Bool → Prop
  | int (i : Int) : Nm K H (.int i) (decide (1 ≤ i))
  | oth {v : V} (h : Kn K H v false) : Nm K H v false
/-- whether a value is a base -/
inductive Bs (K : PySem.W.Frag) (H : Hp) : V → Bool → Prop
  | int (i : Int) : Bs K H (.int i) (decide (2 ≤ i) && decide (i ≤ 10))
  | oth {v : V} (h : Kn K H v false) : Bs K H v false
theorem tyx_ex {K : PySem.W.Frag} {H H' : Hp} {v : V} {a : String} (e : Ex H H') (t : TyX K H v (.type a)) : TyX K H' v (.type a) := by
  cases t with
  | base b =>
    cases b with
    | non => exact .base .non
    | bl x => exact .base (.bl x)
    | int i => exact .base (.int i)
    | str x => exact .base (.str x)
    | flt x => exact .base (.flt x)
    | lst h => exact .base (.lst (e _ _ h))
    | frz h => exact .base (.frz (e _ _ h))
    | tup h => exact .base (.tup (e _ _ h))
    | dK h => exact .base (.dK (e _ _ h))
    | dT h => exact .base (.dT (e _ _ h))
  | byt b => exact .byt b
  | set h => exact .set (e _ _ h)
  | kList h c => exact .kList h c
  | kTuple h c => exact .kTuple h c
  | kDict h c => exact .kDict h c
  | fTuple h => exact .fTuple (e _ _ h)
  | fDict h => exact .fDict (e _ _ h)
theorem Kn.ex {K : PySem.W.Frag} {H H' : Hp} {v : V} {b : Bool} (e : Ex H H') (k : Kn K H v b) : Kn K H' v b := by
  cases k with
  | int i => exact .int i
  | oth t h1 h2 h => exact .oth (tyx_ex e t) h1 h2 h
theorem Nm.ex {K : PySem.W.Frag} {H H' : Hp} {v : V} {b : Bool} (e : Ex H H') (k : Nm K H v b) : Nm K H' v b := by
  cases k with
  | int i => exact .int i
  | oth h => exact .oth (h.ex e)
theorem Bs.ex {K : PySem.W.Frag} {H H' : Hp} {v : V} {b : Bool} (e : Ex H H') (k : Bs K H v b) : Bs K H' v b := by
  cases k with
  | int i => exact .int i
  | oth h => exact .oth (h.ex e)
/-- the exception C(f = v) leaves -/
def Leaves (C : Addr) (f : Str) (v : V) (H : Hp) (E : XK) : Prop := ∀ H2 d, Ex H H2 → H2 d = none → E (.ref C) (some d) (upd H2 d (.xd [(f, v)]))
theorem Leaves.go {C : Addr} {f : Str} {v : V} {H H' : Hp} {E : XK} (l : Leaves C f v H E) (e : Ex H H') : Leaves C f v H' E := fun H2 d e2 hd => l H2 d (e.trans e2) hd
section
variable {P : Program} {w : World} {K : PySem.W.Frag} {mg : Str → Option Value} {base : Heap} {ca : Nat → Addr}
theorem ev_isi {σ : St} {H : Hp} {te : TE} {v : V} {a b : String} {r : Bool} (h : Ev te σ H v) (t : TyX K H v (.type a)) (k : kitB a b = some r) : Ev (tCB (rIsi K) (tCons te (tCons (tC (.ty b)) tNil))) σ H (.bl r) :=
  ev_cb (ea_cons h (ea_cons ev_c ea_nil)) fun H1 e Q q => ⟨v, .ty b, .type a, .type b, r, rfl, .ty b, tyx_ex e t, kit_ty k, q _ (Ex.refl _)⟩
def spIsInt (K : PySem.W.Frag) : Sp := fun vs H Q _ => ∃ v b, vs = [v] ∧ Kn K H v b ∧ RetV (.bl b) H Q
theorem scIsInt : FnScope ["value"] ["value"] (defScope sIsInt) := ⟨rfl, rfl, rfl, by decide +kernel, rfl, by decide +kernel, by decide +kernel⟩
theorem ok_isInt {f : Addr} {fd : FuncData} (F : Fun K "is_integer" "is_integer" sIsInt f fd) (T : TxG mg) : FnOk P w K mg base CX0 1 f fd ["value"] (spIsInt K) := by
  refine F.ok scIsInt (fun vs H Q E h => ?_) (fun cdv A outer s H vs Q E hr h => ?_)
  · obtain ⟨v, b, rfl, _⟩ := h
    rfl
  · obtain ⟨v, b, rfl, k, q⟩ := h
    refine ⟨_, pss_one (ps_ret (pe_and (pe_callB call_isi (by rfl) T.isi (by decide +kernel) (pa_cons (pv 0) (pa_cons (pe_bltn (by rfl) T.int (by decide +kernel) (v := .ty "int") rfl) pa_nil)))
      (pe_one (pe_not (pe_callB call_isi (by rfl) T.isi (by decide +kernel) (pa_cons (pv 0) (pa_cons (pe_bltn (by rfl) T.bool (by decide +kernel) (v := .ty "bool") rfl) pa_nil))))))), ?_⟩
    cases k with
    | int i => exact s_ret (ev_andV (ev_isi (ev_var rfl) (.base (.int i)) (r := true) (by decide +kernel)) (fun _ => ev_notV (ev_isi (ev_var rfl) (.base (.int i)) (r := false) (by decide +kernel)))) fun H1 e => q H1 e
    | oth t h1 h2 hx => exact s_ret (ev_is (ev_andV (ev_isi (ev_var rfl) t h1) (fun _ => ev_notV (ev_isi (ev_var rfl) t h2))) (by rw [hx])) fun H1 e => q H1 e
def spIsNum (K : PySem.W.Frag) : Sp := fun vs H Q _ => ∃ v b, vs = [v] ∧ Nm K H v b ∧ RetV (.bl b) H Q
theorem scIsNum : FnScope ["value"] ["value"] (defScope sIsNum) := ⟨rfl, rfl, rfl, by decide +kernel, rfl, by decide +kernel, by decide +kernel⟩
theorem ev_callI {σ : St} {H : Hp} {te : TE} {v : V} {b : Bool} (h : Ev te σ H v) (k : Kn K H v b) : Ev (tCall (spIsInt K) [] E0 (tCons te tNil)) σ H (.bl b) :=
  ev_call (ea_cons h ea_nil) fun H1 e Q q E => ⟨v, b, rfl, k.ex e, fun H2 e2 => q H2 e2⟩
theorem ok_isNum {f fi : Addr} {fd fdi : FuncData} (F : Fun K "is_number" "is_number" sIsNum f fd) (GI : FnOk P w K mg base CX0 1 fi fdi ["value"] (spIsInt K)) (bI : Binds K fdi ["value"] []) (T : TxI K mg fi) : FnOk P w K mg base CX0 2 f fd ["value"] (spIsNum K) := by
  refine F.ok scIsNum (fun vs H Q E h => ?_) (fun cdv A outer s H vs Q E hr h => ?_)
  · obtain ⟨v, b, rfl, _⟩ := h
    rfl
  · obtain ⟨v, b, rfl, k, q⟩ := h
    refine ⟨_, pss_one (ps_ret (pe_and (pe_call GI hr (by rfl) T.isInt T.kInt bI .nil pass0 (pa_cons (pv 0) pa_nil)) (pe_one (pe_cmpR op_ge (pv 0) pe_int (nomark _))))), ?_⟩
    cases k with
    | int i => exact s_ret (ev_is (ev_andV (ev_callI (ev_var rfl) (.int i)) (fun _ => ev_op (ev_var rfl) ev_c rv_I0)) (by simp)) fun H1 e => q H1 e
    | oth h => exact s_ret (ev_is (ev_andV (b := false) (ev_callI (ev_var rfl) h) (fun z => nomatch z)) (by simp)) fun H1 e => q H1 e
/-- need_base, need_number: nothing, or the exception -/
def spNeed (J : Hp → V → Bool → Prop) (C : Addr) : Sp := fun vs H Q E => ∃ v b, vs = [v] ∧ J H v b ∧ (b = true → RetV .non H Q) ∧ (b = false → Leaves C "value" v H E)
theorem scNeedB : FnScope ["base"] ["base"] (defScope sNeedB) := ⟨rfl, rfl, rfl, by decide +kernel, rfl, by decide +kernel, by decide +kernel⟩
theorem scNeedN : FnScope ["number"] ["number"] (defScope sNeedN) := ⟨rfl, rfl, rfl, by decide +kernel, rfl, by decide +kernel, by decide +kernel⟩
theorem ok_needN {f fn : Addr} {fd fdn : FuncData} (F : Fun K "need_number" "need_number" sNeedN f fd) (GN : FnOk P w K mg base CX0 2 fn fdn ["value"] (spIsNum K)) (bN : Binds K fdn ["value"] []) (gN : mg "is_number" = some (.ref fn)) (kN : PySem.W.keepIn K (.ref fn) = true) (T : TxG mg)
    (M : Mks P K mg (ca 2) ["value"]) (gC : mg "BadNumber" = some (.ref (ca 2))) : FnOk P w K mg base (L2.CX P w) 3 f fd ["number"] (spNeed (Nm K) (ca 2)) := by
  refine F.okX scNeedN (fun vs H Q E h => ?_) (fun cdv A outer s H vs Q E hr h => ?_)
  · obtain ⟨v, b, rfl, _⟩ := h
    rfl
  · obtain ⟨v, b, rfl, k, qy, qn⟩ := h
    refine ⟨_, pss_one (ps_if (pt_not (pt_val (pe_call GN hr (by rfl) gN kN bN .nil pass0 (pa_cons (pv 0) pa_nil)))) (pss_one (ps_raise rfl (takes_of rfl rfl rfl rfl) (pmk_mks M T.sup hr (by simp) (pa_cons (pv 0) pa_nil) (by rfl) gC))) pss_nil), ?_⟩
    refine s_when (b := !b) (et_not (et_B (ev_call (ea_cons (ev_var rfl) ea_nil) fun H1 e Q q E => ⟨v, b, rfl, k.ex e, fun H2 e2 => q H2 e2⟩))) (fun z H1 e => ?_) (fun z H1 e => qy (by simpa using z) H1 e)
    exact ⟨_, rfl, rfl, fun d hd => qn (by simpa using z) H1 d e hd⟩
end
end Dg

namespace L2
open PySem PySem.Spec PyProof.Rows
section
variable {X : Cx} {e : Expr} {te : TE} {p2 p3 p4 pos : Pos} {j : Nat}
/-- xs[::-1] of a list: a new one -/
def tBack (K : PySem.W.Frag) (te : TE) : TE := fun σ H Q => te σ H fun x H2 => ∃ a xs, x = .ref a ∧ SqL K H2 a xs ∧ ∀ p, H2 p = none → Q (.ref p) (upd H2 p (.lst xs.reverse))
theorem vals_reverse : ∀ {xs : List V} {us : List Value}, Vals xs us → Vals xs.reverse us.reverse
  | _, _, .nil => .nil
  | _, _, .cons r t => by
    rw [List.reverse_cons, List.reverse_cons]
    exact (vals_reverse t).append (.cons r .nil)
theorem pe_back (he : PE X e te) : PE X (.Subscript e (.Slice none none (some (.UnaryOp .USub (.Constant (.int 1) j p3) p4)) p2) pos) (tBack X.K te) := by
  refine ⟨fun pins s σ H Q I h => ?_⟩
  refine Subscript_ (thn (he.run pins s σ H _ I h) fun v s1 ⟨x, H1, I1, r1, a, xs, ex, hx, q⟩ => ?_)
  subst ex
  obtain rfl : v = Value.ref a := r1
  refine wpAny_Slice ?_
  rw [evalPart_none]
  refine wpAny_pure (wpAny_pure ?_)
  rw [evalPart_some]
  refine thn ((pe_un (pos := p4) un_neg (pe_int (X := X) (i := 1) (j := j) (pos := p3))).run pins s1 σ H1 (fun y H2 => y = .int (-1) ∧ H2 = H1) I1 ⟨1, rfl, rfl, rfl⟩) fun vu s3 ⟨y, H3, I3, r3, ey, eH⟩ => ?_
  subst ey
  rw [eH] at I3
  obtain ⟨tk, rfl⟩ := r3
  have I4 : Inv X pins σ H1 { s3 with heap := s3.heap.push { cls := .type "slice", data := .fields #[.none, .none, .int (-1) tk] } } := I3.kept (t' := s3.toks) fun b ob q => Heap.get?_push_of_some _ q
  obtain ⟨its, r, ht, hz⟩ := I4.list hx
  show wpAny (model X.prog X.w) X.A (subscriptTail e (.Slice none none (some (.UnaryOp .USub (.Constant (.int 1) j p3) p4)) p2) (.ref a) (.ref s3.heap.objs.size)) (EP X pins σ Q) X.xe { s3 with heap := s3.heap.push { cls := .type "slice", data := .fields #[.none, .none, .int (-1) tk] } }
  refine tail_any (ops := _) ht.isList.typeIs slot_list_getitem.lookup ?_ (by with_unfolding_all rfl)
  refine wpAny_getItem_list_slice ht.isList (Heap.IsSliceOf.new ..) .none .none (.int _ _) (by simp) ?_ (by rw [List.size_toArray, ← r.length]; exact hz)
  rw [PySem.W.krv_pick]
  refine ⟨.ref _, _, I4.laid (t' := s3.toks) (o := .lst xs.reverse) (fun b ob q => Heap.get?_push_of_some _ q) (Nat.le_refl _) ?_, rfl, q _ (I4.hok.fresh (Nat.le_refl _))⟩
  exact ⟨by rw [List.length_reverse]; exact hz, its.reverse, 0, vals_reverse r, Heap.get?_push_size _ rfl⟩
end
end L2

namespace Evl
open PySem L2
/-- a <= b <= c of whole numbers -/
theorem ev_chI {σ : St} {H : Hp} {ta tb tc : TE} {a b c : Int} (ha : Ev ta σ H (.int a)) (hb : Ev tb σ H (.int b)) (hc : Ev tc σ H (.int c)) :
    Ev (tChain (rI0 fun i j => .bl (decide (i ≤ j))) (rI0 fun i j => .bl (decide (i ≤ j))) ta tb tc) σ H (.bl (decide (a ≤ b) && decide (b ≤ c))) := fun H1 e Q q =>
  ha H1 e _ fun H2 e2 => hb H2 (e.trans e2) _ fun H3 e3 => ⟨a, b, rfl, rfl, _, rfl, by
    by_cases h : a ≤ b
    · rw [if_pos (decide_eq_true h)]
      exact hc H3 ((e.trans e2).trans e3) _ fun H4 e4 => ⟨b, c, rfl, rfl, by
        have z := q H4 ((e2.trans e3).trans e4)
        rw [decide_eq_true h, Bool.true_and] at z
        exact z⟩
    · rw [if_neg (by simpa using h)]
      have z := q H3 (e2.trans e3)
      rw [decide_eq_false h, Bool.false_and] at z
      exact z⟩
end Evl
namespace Dg
open PySem L2 Evl
/-- the digits of a number, the last one first -/
def dlF (b : Nat) : Nat → Nat → List Nat
  | 0, _ => []
  | k + 1, n => if n = 0 then [] else n % b :: dlF b k (n / b)
def dl (b n : Nat) : List Nat := dlF b n n
theorem dlF_fuel {b : Nat} (hb : 2 ≤ b) : ∀ k n : Nat, n ≤ k → dlF b k n = dl b n := by
  have key : ∀ k n m : Nat, n ≤ k → n ≤ m → dlF b k n = dlF b m n := by
    intro k
    induction k with
    | zero =>
      intro n m h1 h2
      have : n = 0 := by omega
      subst this
      cases m <;> simp [dlF]
    | succ k ih =>
      intro n m h1 h2
      by_cases hn : n = 0
      · subst hn
        cases m <;> simp [dlF]
      · cases m with
        | zero => omega
        | succ m =>
          have hlt : n / b < n := Nat.div_lt_self (by omega) (by omega)
          simp only [dlF, if_neg hn]
          rw [ih (n / b) m (by omega) (by omega)]
  exact fun k n h => key k n n h (Nat.le_refl _)
theorem dl_zero (b : Nat) : dl b 0 = [] := rfl
theorem dl_step {b n : Nat} (hb : 2 ≤ b) (hn : 0 < n) : dl b n = n % b :: dl b (n / b) := by
  obtain ⟨k, rfl⟩ : ∃ k, n = k + 1 := ⟨n - 1, by omega⟩
  have hlt : (k + 1) / b < k + 1 := Nat.div_lt_self (by omega) (by omega)
  show dlF b (k + 1) (k + 1) = _
  simp only [dlF, if_neg (by omega : ¬ k + 1 = 0)]
  rw [dlF_fuel hb k _ (by omega)]
theorem dl_lt {b : Nat} (hb : 2 ≤ b) : ∀ n : Nat, ∀ d ∈ dl b n, d < b := by
  intro n
  induction n using Nat.strongRecOn with
  | ind n ih =>
    intro d hd
    by_cases hn : n = 0
    · subst hn; exact absurd hd (by simp [dl_zero])
    · rw [dl_step hb (by omega)] at hd
      rcases List.mem_cons.mp hd with rfl | h
      · exact Nat.mod_lt _ (by omega)
      · exact ih _ (Nat.div_lt_self (by omega) (by omega)) d h
theorem dl_len {b : Nat} (hb : 2 ≤ b) : ∀ k n : Nat, n < 2 ^ k → (dl b n).length ≤ k := by
  intro k
  induction k with
  | zero =>
    intro n h
    have : n = 0 := by simpa using h
    subst this
    simp [dl_zero]
  | succ k ih =>
    intro n h
    by_cases hn : n = 0
    · subst hn; simp [dl_zero]
    · rw [dl_step hb (by omega), List.length_cons]
      have : n / b < 2 ^ k := by
        have h1 : n / b ≤ n / 2 := Nat.div_le_div_left hb (by decide)
        have h2 : n / 2 < 2 ^ k := by
          rw [Nat.div_lt_iff_lt_mul (by decide)]
          rw [Nat.pow_succ] at h
          exact h
        omega
      have := ih _ this
      omega
/-- a figure -/
def fig (d : Nat) : Str := ⟨#[48 + d]⟩
theorem figs_at {d : Nat} (h : d < 10) : atI ("0123456789" : Str).cps.toList (d : Int) = some (48 + d) := by
  have c : d = 0 ∨ d = 1 ∨ d = 2 ∨ d = 3 ∨ d = 4 ∨ d = 5 ∨ d = 6 ∨ d = 7 ∨ d = 8 ∨ d = 9 := by omega
  rcases c with rfl | rfl | rfl | rfl | rfl | rfl | rfl | rfl | rfl | rfl <;> decide +kernel
/-- what digits tells -/
def digs (b n : Nat) : Str := Txt.join "" (((dl b n).map fig).reverse)
structure TxF (K : PySem.W.Frag) (mg : Str → Option Value) (fi fnum fnb fnn fdg : Addr) : Prop extends TxI K mg fi where
  isNum : mg "is_number" = some (.ref fnum)
  kNum : PySem.W.keepIn K (.ref fnum) = true
  needB : mg "need_base" = some (.ref fnb)
  kNB : PySem.W.keepIn K (.ref fnb) = true
  needN : mg "need_number" = some (.ref fnn)
  kNN : PySem.W.keepIn K (.ref fnn) = true
  digits : mg "digits" = some (.ref fdg)
  kDg : PySem.W.keepIn K (.ref fdg) = true
  divmod : mg "divmod" = none
section
variable {P : Program} {w : World} {K : PySem.W.Frag} {mg : Str → Option Value} {base : Heap} {ca : Nat → Addr} {fi fnum fnb fnn fdg : Addr}
theorem ok_needB {f : Addr} {fd fdi : FuncData} (F : Fun K "need_base" "need_base" sNeedB f fd) (GI : FnOk P w K mg base CX0 1 fi fdi ["value"] (spIsInt K)) (bI : Binds K fdi ["value"] []) (T : TxI K mg fi)
    (M : Mks P K mg (ca 1) ["value"]) (gC : mg "BadBase" = some (.ref (ca 1))) : FnOk P w K mg base (L2.CX P w) 2 f fd ["base"] (spNeed (Bs K) (ca 1)) := by
  refine F.okX scNeedB (fun vs H Q E h => ?_) (fun cdv A outer s H vs Q E hr h => ?_)
  · obtain ⟨v, b, rfl, _⟩ := h
    rfl
  · obtain ⟨v, b, rfl, k, qy, qn⟩ := h
    obtain ⟨t1, hl⟩ := T.least
    obtain ⟨t2, hm⟩ := T.most
    refine ⟨_, pss_one (ps_if (PW.pt (pw_or (pt_not (pt_val (pe_call GI hr (by rfl) T.isInt T.kInt bI .nil pass0 (pa_cons (pv 0) pa_nil)))) (pw_or1 (pt_not (pt_chain op_le op_le (pe_glob (by rfl) hl (v := .int 2) ⟨_, rfl⟩) (pv 0) (pe_glob (by rfl) hm (v := .int 10) ⟨_, rfl⟩))))))
      (pss_one (ps_raise rfl (takes_of rfl rfl rfl rfl) (pmk_mks M T.sup hr (by simp) (pa_cons (pv 0) pa_nil) (by rfl) gC))) pss_nil), ?_⟩
    cases k with
    | int i =>
      refine s_when (b := !(decide (2 ≤ i) && decide (i ≤ 10))) (et_is (et_or (et_not (et_B (ev_callI (ev_var rfl) (.int i)))) fun _ => et_not (et_test (ev_chI ev_c (ev_var rfl) ev_c))) (by simp)) (fun z H1 e => ?_) (fun z H1 e => qy (by simpa using z) H1 e)
      exact ⟨_, rfl, rfl, fun d hd => qn (by rw [Bool.not_eq_true'] at z; exact z) H1 d e hd⟩
    | oth h =>
      refine s_when (b := true) (et_is (et_or (b := true) (et_not (et_B (ev_callI (ev_var rfl) h))) fun z => nomatch z) (by simp)) (fun z H1 e => ?_) (fun z => nomatch z)
      exact ⟨_, rfl, rfl, fun d hd => qn rfl H1 d e hd⟩
/-- digits(base, number) -/
def spDigits (K : PySem.W.Frag) (ca : Nat → Addr) : Sp := fun vs H Q E => ∃ vb vn b c, vs = [vb, vn] ∧ Bs K H vb b ∧ Nm K H vn c ∧ (b = false → Leaves (ca 1) "value" vb H E) ∧ (b = true → c = false → Leaves (ca 2) "value" vn H E) ∧
  (b = true → c = true → ∃ β n : Nat, vb = .int β ∧ vn = .int n ∧ 2 ≤ β ∧ β ≤ 10 ∧ 1 ≤ n ∧ n < 2 ^ 50000 ∧ RetV (.str (digs β n)) H Q)
theorem scDigits : FnScope ["base", "number", "figures", "figure"] ["base", "number"] (defScope sDigits) := ⟨rfl, rfl, rfl, by decide +kernel, rfl, by decide +kernel, by decide +kernel⟩
theorem ok_digits {f : Addr} {fd fdb fdn : FuncData} (F : Fun K "digits" "digits" sDigits f fd) (GB : FnOk P w K mg base (L2.CX P w) 3 fnb fdb ["base"] (spNeed (Bs K) (ca 1))) (bB : Binds K fdb ["base"] [])
    (GN : FnOk P w K mg base (L2.CX P w) 3 fnn fdn ["number"] (spNeed (Nm K) (ca 2))) (bN : Binds K fdn ["number"] []) (T : TxF K mg fi fnum fnb fnn fdg) : FnOk P w K mg base (L2.CX P w) 4 f fd ["base", "number"] (spDigits K ca) := by
  refine F.okX scDigits (fun vs H Q E h => ?_) (fun cdv A outer s H vs Q E hr h => ?_)
  · obtain ⟨v, _, _, _, rfl, _⟩ := h
    rfl
  · obtain ⟨vb, vn, b, c, rfl, kb, kn, l1, l2, hq⟩ := h
    obtain ⟨t1, hf⟩ := T.fig
    refine ⟨_, pss_cons (ps_expr (pe_callS GB hr (by rfl) T.needB T.kNB bB (fun σ => passAt (takes_of rfl rfl rfl rfl) σ) (pa_cons (pv 0) pa_nil)))
      (pss_cons (ps_expr (pe_callS GN hr (by rfl) T.needN T.kNN bN (fun σ => passAt (takes_of rfl rfl rfl rfl) σ) (pa_cons (pv 1) pa_nil)))
      (pss_cons (ps_set (i := 2) scDigits.nd rfl (.inl rfl) (pe_lst pa_nil))
      (pss_cons (ps_while (passes_of rfl) (pt_cmpR op_gt (pv 1) pe_int (nomark _))
        (pss_cons (ps_asg (pe_callB call_divmod (by rfl) T.divmod (by decide +kernel) (pa_cons (pv 1) (pa_cons (pv 0) pa_nil))) (pg_tup (by rfl) (pgs_cons (pg_name (i := 1) scDigits.nd rfl (.inl rfl)) (pgs_cons (pg_name (i := 3) scDigits.nd rfl (.inl rfl)) pgs_nil))))
          (pss_one (ps_expr (pe_bm PySem.F.plainAttrs_list PySem.F.slot_list_append PySem.F.type_list_append mt_append (pv 2) (pa_cons (pe_ix ix_str (pe_glob (by rfl) hf (v := .str "0123456789") ⟨_, rfl⟩) (pv 3) (fun _ _ => rfl)) pa_nil))))))
      (pss_one (ps_ret (pe_join pe_str (pe_back (pv 2)))))))), ?_⟩
    refine ⟨_, rfl, vb, b, rfl, kb, fun hb H1 e1 => ?_, fun hb => ?_⟩
    · refine ⟨_, rfl, vn, c, rfl, kn.ex e1, fun hc H2 e2 => ?_, fun hc => (l2 hb hc).go e1⟩
      obtain ⟨β, n, rfl, rfl, b2, b10, n1, nz, q⟩ := hq hb hc
      refine ⟨Nat.zero_le _, fun fl hfl => ?_⟩
      refine q_while (fun m σ' H' => ∃ (done : List Nat) (x3 : Option V), σ' = [some (.int β), some (.int (m : Int)), some (.ref fl), x3] ∧ H' fl = some (.lst (done.map fun d => V.str (fig d))) ∧ done ++ dl β m = dl β n ∧ Ex H2 H') n
        ⟨[], none, rfl, upd_same, rfl, Ex.new hfl⟩ (fun m σ' H' ⟨done, x3, hσ, hL, hd, ex⟩ => ⟨decide ((0 : Int) < (m : Int)), ?_, fun z H4 e4 => ?_, fun z H4 e4 => ?_⟩)
      · subst hσ
        exact et_test (ev_op (ev_var rfl) ev_c rv_I0)
      · subst hσ
        have m0 : 0 < m := by
          have := of_decide_eq_true z
          omega
        refine ⟨fun σ2 H5 => σ2 = [some (.int β), some (.int ((m / β : Nat) : Int)), some (.ref fl), some (.int ((m % β : Nat) : Int))] ∧ H5 fl = some (.lst ((done ++ [m % β]).map fun d => V.str (fig d))) ∧ Ex H2 H5, fun σ2 H5 ⟨a, b, c⟩ => ⟨m / β, Nat.div_lt_self m0 (by omega), done ++ [m % β], _, a, b, ?_, c⟩, ?_⟩
        · rw [List.append_assoc, List.singleton_append, ← dl_step (by omega) m0]
          exact hd
        · have hlt : m % β < 10 := Nat.lt_of_lt_of_le (Nat.mod_lt _ (by omega)) b10
          refine ⟨_, rfl, _, rfl, (m : Int), (β : Int), rfl, ⟨by omega, by omega⟩, fun p hp => ⟨p, _, rfl, st_of upd_same, rfl, _, _, rfl, _, _, rfl, rfl, ?_⟩⟩
          have hfl4 := (Ex.new (o := .tup [.int ((m : Int) / (β : Int)), .int ((m : Int) % (β : Int))]) hp) _ _ (e4 _ _ hL)
          refine s_app hfl4 (ev_var rfl) (ev_op (σ := [some (.int β), some (.int ((m / β : Nat) : Int)), some (.ref fl), some (.int ((m % β : Nat) : Int))]) ev_c (ev_var rfl) (rv_ixS (by decide) (figs_at hlt))) ?_ fun H5 e5 => ⟨rfl, ?_, ?_⟩
          · rw [List.length_map]
            have h1 := congrArg List.length hd
            rw [List.length_append] at h1
            have hz := dl_len b2 50000 n nz
            clear nz
            omega
          · rw [upd_same, List.map_append]
            rfl
          · exact ((ex.trans e4).trans ((Ex.new hp).trans e5)).mut hfl
      · subst hσ
        have m0 : m = 0 := by
          have := of_decide_eq_false z
          omega
        subst m0
        rw [dl_zero, List.append_nil] at hd
        subst hd
        refine ⟨⟨_, rfl⟩, _, rfl, fl, _, rfl, sq_of (e4 _ _ hL), fun p hp => ⟨"", p, ((dl β n).map fig).reverse, rfl, rfl, .inl (sq_of ?_), ?_, ?_⟩⟩
        · rw [upd_same, List.map_reverse, List.map_map]
          rfl
        · have h1 : ∀ l : List Nat, ((l.map fig).map (·.length)).sum = l.length := fun l => by
            induction l with
            | nil => rfl
            | cons d l ih =>
              simp only [List.map_cons, List.sum_cons, List.length_cons, ih]
              have : (fig d).length = 1 := rfl
              omega
          have hz := dl_len b2 50000 n nz
          clear nz
          rw [← List.map_reverse, h1, List.length_reverse]
          have e0 : ("" : Str).length = 0 := by decide
          rw [e0, Nat.mul_zero]
          omega
        · exact q _ (((e1.trans e2).trans ex).trans (e4.trans (Ex.new hp)))
    · exact l1 hb
end
end Dg

namespace Evl
open PySem L2
/-- a comprehension over the signs of a text -/
theorem el_lcS {x : Str} {σ : St} {H : Hp} {tl : TE} {te : TE} {j : Nat} {vs : List Nat} (v : Nat → V) (h : Ev tl σ H (.str x)) (hz : x.length ≤ 40000) (hw : ∀ y, wipe ((wipe σ vs).set j (some y)) vs = wipe σ vs)
    (he : ∀ (i c : Nat) H1, Ex H H1 → x.cps[i]? = some c → Ev te ((wipe σ vs).set j (some (.str ⟨#[c]⟩))) H1 (v c)) :
    EvL (tLc (iStr tl) (gName j) tYes te vs) σ H (x.cps.toList.map v) := fun H0 e Q q => h H0 e _ fun H1 e1 => ⟨x, rfl, fun D hD => by
  have sz : x.cps.toList.length = x.cps.size := Array.length_toList
  refine ⟨fun i m H' => m = x.cps.size - i ∧ i ≤ x.cps.size ∧ H' D = some (.lst ((x.cps.toList.take i).map v)) ∧ Ex H1 H', ⟨x.cps.size, by simp, Nat.zero_le _, by simp [upd_same], Ex.new hD⟩, ?_⟩
  rintro i m H' ⟨rfl, hi, hL, ex⟩
  by_cases hlt : i < x.cps.size
  · refine .inr ⟨hlt, fun H2 => H2 D = some (.lst ((x.cps.toList.take (i + 1)).map v)) ∧ Ex H1 H2, fun H2 ⟨a, b⟩ => ⟨x.cps.size - (i + 1), by omega, rfl, hlt, a, b⟩, fun y H2 hy => ?_⟩
    obtain ⟨rfl, c, hc, rfl⟩ := hy
    refine ⟨hw _, ?_⟩
    rw [show (tYes : TT) = fun _ H Q => Q true H from rfl]
    dsimp only
    rw [if_pos rfl]
    refine he i c H2 ((e.trans e1).trans ex) hc H2 (Ex.refl _) _ fun H4 e4 => ⟨_, e4 _ _ hL, ?_, ?_, ?_⟩
    · rw [List.length_map, List.length_take, sizeLine_eq]
      have : x.cps.size ≤ 40000 := hz
      omega
    · rw [upd_same, List.take_add_one, List.map_append]
      have : x.cps.toList[i]? = some c := by rw [Array.getElem?_toList]; exact hc
      rw [this]
      rfl
    · exact (ex.trans e4).mut hD
  · have e3 : i = x.cps.size := by omega
    subst e3
    refine .inl ⟨Nat.le_refl _, q D H' (fresh_back e1 hD) (e1.trans ex) ?_⟩
    rw [List.take_of_length_le (by rw [sz]; exact Nat.le_refl _)] at hL
    exact hL⟩
end Evl
namespace Dg
open PySem L2 Evl TL
theorem joinL_nil : ∀ ls : List (List Nat), joinL [] ls = ls.flatten
  | [] => rfl
  | [p] => by simp [joinL]
  | p :: q :: r => by simp [joinL, joinL_nil (q :: r)]
theorem flat_one : ∀ l : List Nat, (l.map fun d => [48 + d]).flatten = l.map (48 + ·)
  | [] => rfl
  | d :: l => by simp [flat_one l]
theorem tl_digs (b n : Nat) : tl (digs b n) = (dl b n).reverse.map (48 + ·) := by
  unfold digs
  rw [join_eq, tl_join]
  show joinL [] _ = _
  rw [joinL_nil, List.map_reverse, List.map_map]
  have e : (tl ∘ fig) = fun d => [48 + d] := funext fun d => rfl
  rw [e, ← List.map_reverse, flat_one]
theorem digs_len (b n : Nat) : (digs b n).length = (dl b n).length := by
  show (digs b n).cps.size = _
  rw [← Array.length_toList, show (digs b n).cps.toList = tl (digs b n) from rfl, tl_digs, List.length_map, List.length_reverse]
/-- whether a value is a text of 1 to so many digits of a base -/
def isFigs (β m : Nat) (x : Str) : Bool := (decide (1 ≤ x.length) && decide (x.length ≤ m)) && (tl x).all fun c => decide (48 ≤ c ∧ c < 48 + β)
def figsO (β m : Nat) : Option Str → Bool
  | some x => isFigs β m x
  | none => false
inductive Tx (K : PySem.W.Frag) (H : Hp) : V → Option Str → Prop
  | str (x : Str) : Tx K H (.str x) (some x)
  | oth {v : V} {a : String} (t : TyX K H v (.type a)) (h : kitB a "str" = some false) : Tx K H v none
theorem Tx.ex {K : PySem.W.Frag} {H H' : Hp} {v : V} {b : Option Str} (e : Ex H H') (k : Tx K H v b) : Tx K H' v b := by
  cases k with
  | str x => exact .str x
  | oth t h => exact .oth (tyx_ex e t) h
theorem cut_figs {β : Nat} (h2 : 2 ≤ β) (h10 : β ≤ 10) (c : Nat) : decide (c ∈ (cutS "0123456789" none (some (β : Int))).cps.toList) = decide (48 ≤ c ∧ c < 48 + β) := by
  have e : (cutS "0123456789" none (some (β : Int))).cps.toList = (List.range β).map (48 + ·) := by
    have cc : β = 2 ∨ β = 3 ∨ β = 4 ∨ β = 5 ∨ β = 6 ∨ β = 7 ∨ β = 8 ∨ β = 9 ∨ β = 10 := by omega
    rcases cc with rfl | rfl | rfl | rfl | rfl | rfl | rfl | rfl | rfl <;> decide +kernel
  rw [e]
  apply decide_eq_decide.mpr
  rw [List.mem_map]
  constructor
  · rintro ⟨a, ha, rfl⟩
    have := List.mem_range.mp ha
    omega
  · rintro ⟨a, b⟩
    exact ⟨c - 48, List.mem_range.mpr (by omega), by omega⟩
section
variable {P : Program} {w : World} {K : PySem.W.Frag} {mg : Str → Option Value} {base : Heap} {ca : Nat → Addr} {fi fnum fnb fnn fdg : Addr}
theorem ev_allL {σ : St} {H : Hp} {te : TE} {bs : List Bool} (h : EvL te σ H (bs.map V.bl)) : Ev (tCB (rAll K) (tCons te tNil)) σ H (.bl (bs.all id)) := fun H1 e Q q =>
  h H1 e _ fun p H2 hp e2 h2 => ⟨p, bs, rfl, sq_of h2, q H2 e2⟩
/-- length(base, number) -/
def spLength (K : PySem.W.Frag) (ca : Nat → Addr) : Sp := fun vs H Q E => ∃ vb vn b c, vs = [vb, vn] ∧ Bs K H vb b ∧ Nm K H vn c ∧ (b = false → Leaves (ca 1) "value" vb H E) ∧ (b = true → c = false → Leaves (ca 2) "value" vn H E) ∧
  (b = true → c = true → ∃ β n : Nat, vb = .int β ∧ vn = .int n ∧ 2 ≤ β ∧ β ≤ 10 ∧ 1 ≤ n ∧ n < 2 ^ 50000 ∧ RetV (.int (dl β n).length) H Q)
theorem scLength : FnScope ["base", "number"] ["base", "number"] (defScope sLength) := ⟨rfl, rfl, rfl, by decide +kernel, rfl, by decide +kernel, by decide +kernel⟩
theorem ok_length {f : Addr} {fd fdd : FuncData} (F : Fun K "length" "length" sLength f fd) (GD : FnOk P w K mg base (L2.CX P w) 4 fdg fdd ["base", "number"] (spDigits K ca)) (bD : Binds K fdd ["base", "number"] []) (T : TxF K mg fi fnum fnb fnn fdg) :
    FnOk P w K mg base (L2.CX P w) 5 f fd ["base", "number"] (spLength K ca) := by
  refine F.okX scLength (fun vs H Q E h => ?_) (fun cdv A outer s H vs Q E hr h => ?_)
  · obtain ⟨v, _, _, _, rfl, _⟩ := h
    rfl
  · obtain ⟨vb, vn, b, c, rfl, kb, kn, l1, l2, hq⟩ := h
    refine ⟨_, pss_one (ps_ret (pe_callB call_len_str (by rfl) T.len (by decide +kernel) (pa_cons (pe_callS GD hr (by rfl) T.digits T.kDg bD (fun σ => passAt (takes_of rfl rfl rfl rfl) σ) (pa_cons (pv 0) (pa_cons (pv 1) pa_nil))) pa_nil))), ?_⟩
    refine ⟨_, rfl, _, rfl, vb, vn, b, c, rfl, kb, kn, l1, l2, fun hb hc => ?_⟩
    obtain ⟨β, n, rfl, rfl, b2, b10, n1, nz, q⟩ := hq hb hc
    refine ⟨β, n, rfl, rfl, b2, b10, n1, nz, fun H1 e1 => ⟨_, rfl, ?_, ?_⟩⟩
    · rw [digs_len, sizeLine_eq]
      have hz := dl_len b2 50000 n nz
      clear nz q
      omega
    · rw [digs_len]
      exact q H1 e1
/-- is_figures(base, value, most) -/
def spIsFig (K : PySem.W.Frag) : Sp := fun vs H Q _ => ∃ (β m : Nat) (v : V) (o : Option Str), vs = [.int β, v, .int m] ∧ 2 ≤ β ∧ β ≤ 10 ∧ m ≤ 40000 ∧ Tx K H v o ∧ (∀ x, o = some x → x.length ≤ sizeLine) ∧ RetV (.bl (figsO β m o)) H Q
theorem scIsFig : FnScope ["base", "value", "most", "figure"] ["base", "value", "most"] (defScope sIsFig) := ⟨rfl, rfl, rfl, by decide +kernel, rfl, by decide +kernel, by decide +kernel⟩
theorem ok_isFig {f : Addr} {fd : FuncData} (F : Fun K "is_figures" "is_figures" sIsFig f fd) (T : TxG mg) (mA : mg "all" = none) : FnOk P w K mg base CX0 1 f fd ["base", "value", "most"] (spIsFig K) := by
  refine F.ok scIsFig (fun vs H Q E h => ?_) (fun cdv A outer s H vs Q E hr h => ?_)
  · obtain ⟨_, _, _, _, rfl, _⟩ := h
    rfl
  · obtain ⟨β, m, v, o, rfl, b2, b10, hm, k, hz, q⟩ := h
    obtain ⟨t1, hf⟩ := T.fig
    refine ⟨_, pss_cons (ps_if (PW.pt (pw_or (pt_not (pt_val (pe_callB call_isi (by rfl) T.isi (by decide +kernel) (pa_cons (pv 1) (pa_cons (pe_bltn (by rfl) T.str (by decide +kernel) (v := .ty "str") rfl) pa_nil))))) (pw_or1 (pt_not (pt_chain op_le op_le pe_int (pe_callB call_len_str (by rfl) T.len (by decide +kernel) (pa_cons (pv 1) pa_nil)) (pv 2)))))) (pss_one (ps_ret pe_bl)) pss_nil)
      (pss_one (ps_ret (pe_callB (cr_all rfl) (by rfl) mA (by decide +kernel) (pa_cons (pe_lc (own := [("figure", 3)]) (g := gName 3) (tt := tYes) rfl scIsFig.nd (pi_str (pv 1)) (blkOk_by (own := [("figure", 3)]) (N := ["base", "value", "most", "figure"]) (sc := defScope sIsFig) (by decide +kernel)) (fun _ _ _ _ _ => pg_name (i := 3) scIsFig.nd rfl (Or.inl rfl)) (fun _ _ _ _ _ => pts_nil)
        (fun _ _ _ _ _ => pe_cmpR op_in_sign (pv 3) (pe_slice (sl_str) (pe_glob (by rfl) hf (v := .str "0123456789") ⟨_, rfl⟩) po_none (po_some (pv 0))) (by rfl))) pa_nil)))), ?_⟩
    cases k with
    | oth t h =>
      exact q_when (b := true) (et_is (et_or (b := true) (et_not (et_B (ev_isi (ev_var rfl) t h))) fun z => nomatch z) (by simp)) (fun z H1 e => q H1 e) (fun z => nomatch z)
    | str x =>
      have hx := hz x rfl
      have eT : Ev (tCB (fun xs H Q => ∃ z : Str, xs = [.str z] ∧ z.length ≤ sizeLine ∧ Q (.int z.length) H) (tCons (tVar 1) tNil)) (L2.start ["base", "value", "most", "figure"] [.int β, .str x, .int m]) H (.int (x.length : Int)) :=
        ev_cb (ea_cons (ev_var rfl) ea_nil) fun H1 e Q q => ⟨x, rfl, hx, q _ (Ex.refl _)⟩
      refine q_when (b := !(decide ((1 : Int) ≤ (x.length : Int)) && decide ((x.length : Int) ≤ (m : Int)))) (et_is (et_or (et_not (et_B (ev_isi (r := true) (ev_var rfl) (.base (.str x)) (by decide +kernel)))) fun _ => et_not (et_test (ev_chI ev_c eT (ev_var rfl)))) (by simp)) (fun z H1 e => ?_) (fun z H1 e => ?_)
      · have e0 : isFigs β m x = false := by
          rw [Bool.not_eq_true'] at z
          unfold isFigs
          have : (decide (1 ≤ x.length) && decide (x.length ≤ m)) = false := by
            rw [← z]
            congr 1 <;> exact decide_eq_decide.mpr (by omega)
          rw [this, Bool.false_and]
        have q' := q
        dsimp only [figsO] at q'
        rw [e0] at q'
        exact q' H1 e
      · have z' : (decide ((1 : Int) ≤ (x.length : Int)) && decide ((x.length : Int) ≤ (m : Int))) = true := by simpa using z
        have hlen : x.length ≤ 40000 := by
          have := of_decide_eq_true (Bool.and_eq_true_iff.mp z').2
          omega
        have e1 : isFigs β m x = ((tl x).map fun c => decide (48 ≤ c ∧ c < 48 + β)).all id := by
          unfold isFigs
          have : (decide (1 ≤ x.length) && decide (x.length ≤ m)) = true := by
            rw [← z']
            congr 1 <;> exact decide_eq_decide.mpr (by omega)
          rw [this, Bool.true_and, List.all_map]
          rfl
        have q' := q
        dsimp only [figsO] at q'
        rw [e1] at q'
        refine s_ret (ev_allL (bs := (tl x).map fun c => decide (48 ≤ c ∧ c < 48 + β)) ?_) fun H2 e2 => q' H2 (e.trans e2)
        rw [List.map_map]
        refine el_lcS (v := fun c => V.bl (decide (48 ≤ c ∧ c < 48 + β))) (ev_var rfl) hlen (fun _ => rfl) (fun i c H2 e2 hc => ?_)
        refine ev_is (ev_op (ev_var rfl) (y := .str (cutS "0123456789" none (some (β : Int)))) (fun H3 e3 Q q => ⟨_, rfl, _, rfl, _, rfl, by decide, q H3 (Ex.refl _)⟩) (z := .bl (decide (c ∈ (cutS "0123456789" none (some (β : Int))).cps.toList))) (fun H3 e3 Q q => ⟨c, _, rfl, rfl, q H3 (Ex.refl _)⟩)) ?_
        rw [cut_figs b2 b10]
end
end Dg

/-! Things as data: what lies at the heap is that data; what a rule is, of data. -/
namespace Dt
open PySem L2 Evl Dg LamR LamX
open Dr (StAt SameB)
mutual
/-- the thing is that data, as the heap stands; texts are short -/
inductive Pt (H : Hp) : V → PyData → Prop
  | non : Pt H .non .none
  | bl (b : Bool) : Pt H (.bl b) (.bool b)
  | int (i : Int) : Pt H (.int i) (.int i)
  | str (x : Str) (h : x.length ≤ 3000) : Pt H (.str x) (.str x)
  | tup {a : Addr} {vs : List V} {ds : List PyData} : H a = some (.tup vs) → PtAll H vs ds → Pt H (.ref a) (.tuple ds)
  | lst {a : Addr} {vs : List V} {ds : List PyData} : H a = some (.lst vs) → PtAll H vs ds → Pt H (.ref a) (.list ds)
  | nil {a : Addr} : H a = some (.dK []) → Pt H (.ref a) (.dict [])
inductive PtAll (H : Hp) : List V → List PyData → Prop
  | nil : PtAll H [] []
  | cons {v : V} {d : PyData} {vs : List V} {ds : List PyData} : Pt H v d → PtAll H vs ds → PtAll H (v :: vs) (d :: ds)
end
mutual
theorem Pt.extN {H H' : Hp} (e : ExtN H H') : ∀ {v : V} {d : PyData}, Pt H v d → Pt H' v d
  | _, .none, h => by cases h; exact .non
  | _, .bool _, h => by cases h; exact .bl _
  | _, .int _, h => by cases h; exact .int _
  | _, .str _, h => by cases h with | str _ z => exact .str _ z
  | _, .tuple ds, h => by
    cases h with
    | tup hs ha => exact .tup (e _ _ hs (by simp)) (PtAll.extN e ha)
  | _, .list ds, h => by
    cases h with
    | lst hs ha => exact .lst (e _ _ hs (by simp)) (PtAll.extN e ha)
  | _, .dict _, h => by
    cases h with
    | nil hs => exact .nil (e _ _ hs (by simp))
theorem PtAll.extN {H H' : Hp} (e : ExtN H H') : ∀ {vs : List V} {ds : List PyData}, PtAll H vs ds → PtAll H' vs ds
  | _, [], h => by cases h; exact .nil
  | _, d :: ds, h => by
    cases h with
    | cons h1 h2 => exact .cons (Pt.extN e h1) (PtAll.extN e h2)
end
theorem Pt.ex {H H' : Hp} (e : Ex H H') {v : V} {d : PyData} (h : Pt H v d) : Pt H' v d := h.extN (ExtN.of e)
theorem PtAll.ex {H H' : Hp} (e : Ex H H') {vs : List V} {ds : List PyData} (h : PtAll H vs ds) : PtAll H' vs ds := h.extN (ExtN.of e)
def isI : PyData → Bool
  | .int _ => true
  | _ => false
mutual
/-- no list in it is a row of integers alone -/
def okD : PyData → Bool
  | .list ds => !(ds.all isI && !ds.isEmpty) && okDs ds
  | .tuple ds => okDs ds
  | _ => true
def okDs : List PyData → Bool
  | [] => true
  | d :: ds => okD d && okDs ds
end
theorem PtAll.ints {H : Hp} : ∀ {is : List Int} {ds : List PyData}, PtAll H (is.map V.int) ds → ds.all isI = true ∧ ds.length = is.length
  | [], ds, h => by
    cases h
    exact ⟨rfl, rfl⟩
  | i :: is, ds, h => by
    cases h with
    | cons h1 h2 =>
      obtain ⟨a, b⟩ := PtAll.ints h2
      cases h1
      exact ⟨by simp [isI, a], by simp [b]⟩
mutual
theorem Pt.same {H H' : Hp} {p c l : Addr} {n : Nat} {a : Int} (S : StAt H p c l n a) (e : SameB H H' p l) : ∀ {v : V} {d : PyData}, Pt H v d → okD d = true → Pt H' v d
  | _, .none, h, _ => by cases h; exact .non
  | _, .bool _, h, _ => by cases h; exact .bl _
  | _, .int _, h, _ => by cases h; exact .int _
  | _, .str _, h, _ => by cases h with | str _ z => exact .str _ z
  | _, .tuple ds, h, k => by
    cases h with
    | tup hs ha =>
      obtain ⟨ls, hl, _⟩ := S.l
      exact .tup (e _ _ hs (ne_of hs S.d (by intro z; cases z)) (ne_of hs hl (by intro z; cases z))) (PtAll.same S e ha (by rw [okD] at k; exact k))
  | _, .list ds, h, k => by
    cases h with
    | @lst a vs _ hs ha =>
      obtain ⟨ls, hl, hn⟩ := S.l
      rw [okD, Bool.and_eq_true] at k
      refine .lst (e _ _ hs (ne_of hs S.d (by intro z; cases z)) (fun z => ?_)) (PtAll.same S e ha k.2)
      rw [z, hl] at hs
      have hv : vs = ls.map V.int := by
        injection hs with hs
        injection hs with hs
        exact hs.symm
      rw [hv] at ha
      obtain ⟨q1, q2⟩ := PtAll.ints ha
      have n0 := S.n0
      have : ds.isEmpty = false := by
        cases ds with
        | nil =>
          rw [List.length_nil] at q2
          omega
        | cons _ _ => rfl
      rw [q1, this] at k
      exact absurd k.1 (by decide)
  | _, .dict _, h, _ => by
    cases h with
    | nil hs =>
      obtain ⟨ls, hl, _⟩ := S.l
      refine .nil (e _ _ hs (fun z => ?_) (ne_of hs hl (by intro z; cases z)))
      rw [z, S.d] at hs
      injection hs with hs
      injection hs with hs
      cases hs
theorem PtAll.same {H H' : Hp} {p c l : Addr} {n : Nat} {a : Int} (S : StAt H p c l n a) (e : SameB H H' p l) : ∀ {vs : List V} {ds : List PyData}, PtAll H vs ds → okDs ds = true → PtAll H' vs ds
  | _, [], h, _ => by cases h; exact .nil
  | _, d :: ds, h, k => by
    cases h with
    | cons h1 h2 =>
      rw [okDs, Bool.and_eq_true] at k
      exact .cons (Pt.same S e h1 k.1) (PtAll.same S e h2 k.2)
end
theorem PtAll.length {H : Hp} : ∀ {vs : List V} {ds : List PyData}, PtAll H vs ds → vs.length = ds.length
  | _, [], h => by cases h; rfl
  | _, d :: ds, h => by
    cases h with
    | cons h1 h2 => rw [List.length_cons, List.length_cons, PtAll.length h2]
theorem PtAll.get {H : Hp} : ∀ {vs : List V} {ds : List PyData}, PtAll H vs ds → ∀ {i : Nat} {d : PyData}, ds[i]? = some d → ∃ v, vs[i]? = some v ∧ Pt H v d
  | _, [], h, i, d, hd => by simp at hd
  | _, d :: ds, h, i, d', hd => by
    cases h with
    | cons h1 h2 =>
      cases i with
      | zero =>
        simp only [List.getElem?_cons_zero, Option.some.injEq] at hd
        subst hd
        exact ⟨_, rfl, h1⟩
      | succ i =>
        simp only [List.getElem?_cons_succ] at hd
        obtain ⟨v, hv, k⟩ := PtAll.get h2 hd
        exact ⟨v, by simpa using hv, k⟩
theorem PtAll.get2 {H : Hp} : ∀ {vs : List V} {ds : List PyData}, PtAll H vs ds → ∀ {i : Nat} {v : V}, vs[i]? = some v → ∃ d, ds[i]? = some d ∧ Pt H v d
  | _, [], h, i, v, hv => by
    cases h
    simp at hv
  | _, d :: ds, h, i, v', hv => by
    cases h with
    | cons h1 h2 =>
      cases i with
      | zero =>
        simp only [List.getElem?_cons_zero, Option.some.injEq] at hv
        subst hv
        exact ⟨_, rfl, h1⟩
      | succ i =>
        simp only [List.getElem?_cons_succ] at hv
        obtain ⟨d, hd, k⟩ := PtAll.get2 h2 hv
        exact ⟨d, by simpa using hd, k⟩
theorem PtAll.app {H : Hp} : ∀ {vs : List V} {ds : List PyData}, PtAll H vs ds → ∀ {ws : List V} {es : List PyData}, PtAll H ws es → PtAll H (vs ++ ws) (ds ++ es)
  | _, [], h, ws, es, k => by cases h; exact k
  | _, d :: ds, h, ws, es, k => by
    cases h with
    | cons h1 h2 => exact .cons h1 (PtAll.app h2 k)
theorem PtAll.take {H : Hp} : ∀ {vs : List V} {ds : List PyData}, PtAll H vs ds → ∀ n : Nat, PtAll H (vs.take n) (ds.take n)
  | _, [], h, n => by
    cases h
    rw [List.take_nil, List.take_nil]
    exact .nil
  | _, d :: ds, h, n => by
    cases h with
    | cons h1 h2 =>
      cases n with
      | zero => exact .nil
      | succ n =>
        rw [List.take_succ_cons, List.take_succ_cons]
        exact .cons h1 (PtAll.take h2 n)
/-- its type -/
def tyN : PyData → String
  | .none => "NoneType"
  | .bool _ => "bool"
  | .int _ => "int"
  | .str _ => "str"
  | .tuple _ => "tuple"
  | .list _ => "list"
  | .dict _ => "dict"
def isT : PyData → Bool
  | .tuple _ => true
  | _ => false
def isS : PyData → Bool
  | .str _ => true
  | _ => false
section
variable {K : PySem.W.Frag} {H : Hp} {v : V} {d : PyData}
theorem Pt.ty (h : Pt H v d) : TyX K H v (.type (tyN d)) := by
  cases h with
  | non => exact .base .non
  | bl b => exact .base (.bl b)
  | int i => exact .base (.int i)
  | str x _ => exact .base (.str x)
  | tup h _ => exact .base (.tup h)
  | lst h _ => exact .base (.lst h)
  | nil h => exact .base (.dK h)
theorem kit_tup (d : PyData) : kitB (tyN d) "tuple" = some (isT d) := by
  cases d <;> simp only [tyN, isT] <;> decide +kernel
theorem kit_str (d : PyData) : kitB (tyN d) "str" = some (isS d) := by
  cases d <;> simp only [tyN, isS] <;> decide +kernel
theorem Pt.kn (h : Pt H v d) : Kn K H v (isI d) := by
  have t : TyX K H v (.type (tyN d)) := h.ty
  cases h with
  | int i => exact .int i
  | non => exact .oth (x := false) (y := false) t (by show kitB "NoneType" "int" = _; decide +kernel) (by show kitB "NoneType" "bool" = _; decide +kernel) rfl
  | bl b => exact .oth (x := true) (y := true) t (by show kitB "bool" "int" = _; decide +kernel) (by show kitB "bool" "bool" = _; decide +kernel) rfl
  | str x _ => exact .oth (x := false) (y := false) t (by show kitB "str" "int" = _; decide +kernel) (by show kitB "str" "bool" = _; decide +kernel) rfl
  | tup h _ => exact .oth (x := false) (y := false) t (by show kitB "tuple" "int" = _; decide +kernel) (by show kitB "tuple" "bool" = _; decide +kernel) rfl
  | lst h _ => exact .oth (x := false) (y := false) t (by show kitB "list" "int" = _; decide +kernel) (by show kitB "list" "bool" = _; decide +kernel) rfl
  | nil h => exact .oth (x := false) (y := false) t (by show kitB "dict" "int" = _; decide +kernel) (by show kitB "dict" "bool" = _; decide +kernel) rfl
def txtD : PyData → Option Str
  | .str x => some x
  | _ => none
theorem Pt.tx (h : Pt H v d) : Tx K H v (txtD d) ∧ ∀ x, txtD d = some x → x.length ≤ sizeLine := by
  have t : TyX K H v (.type (tyN d)) := h.ty
  have k := kit_str d
  cases h with
  | str x z => exact ⟨.str x, fun y e => by
      cases e
      exact Nat.le_trans z (by rw [sizeLine_eq]; decide)⟩
  | non => exact ⟨.oth t k, fun y e => by cases e⟩
  | bl b => exact ⟨.oth t k, fun y e => by cases e⟩
  | int i => exact ⟨.oth t k, fun y e => by cases e⟩
  | tup h _ => exact ⟨.oth t k, fun y e => by cases e⟩
  | lst h _ => exact ⟨.oth t k, fun y e => by cases e⟩
  | nil h => exact ⟨.oth t k, fun y e => by cases e⟩
theorem ev_isiT {σ : St} {te : TE} (h : Ev te σ H v) (k : Pt H v d) : Ev (tCB (rIsi K) (tCons te (tCons (tC (.ty "tuple")) tNil))) σ H (.bl (isT d)) := ev_isi h k.ty (kit_tup d)
theorem ev_isiS {σ : St} {te : TE} (h : Ev te σ H v) (k : Pt H v d) : Ev (tCB (rIsi K) (tCons te (tCons (tC (.ty "str")) tNil))) σ H (.bl (isS d)) := ev_isi h k.ty (kit_str d)
end
/-- an integer from a least one to 6 -/
def sizeB (l : Int) : PyData → Bool
  | .int i => decide (l ≤ i) && decide (i ≤ 6)
  | _ => false
def intD : PyData → Int
  | .int i => i
  | _ => 0
def isN : PyData → Bool
  | .none => true
  | _ => false
def boundsB (a b : PyData) : Bool := sizeB 1 a && (isN b || sizeB (intD a) b)
def tupD : PyData → List PyData
  | .tuple ds => ds
  | _ => []
def eqS (w : Str) : PyData → Bool
  | .str x => decide (x = w)
  | _ => false
def begB (d : PyData) (w : Str) (n : Nat) : Bool := isT d && (decide ((tupD d).length = n) && eqS w ((tupD d).headD .none))
def at_ (i : Nat) (d : PyData) : PyData := (tupD d).getD i .none
def condB (β : Nat) (d : PyData) : Bool :=
  if begB d "ends" 2 = true then figsO β 2 (txtD (at_ 1 d)) else if begB d "near" 2 = true then sizeB 0 (at_ 1 d) else if (begB d "length" 3 || begB d "changed" 3) = true then boundsB (at_ 1 d) (at_ 2 d) else false
def keepB (d : PyData) : Bool := if (begB d "changed" 2 || begB d "last" 2) = true then sizeB 1 (at_ 1 d) else begB d "all" 1
def ruleB (β : Nat) (d : PyData) : Bool := isT d && (decide ((tupD d).length = 2) && (isT (at_ 0 d) && (decide ((tupD (at_ 0 d)).length ≤ 3) && ((tupD (at_ 0 d)).all (condB β) && keepB (at_ 1 d)))))
end Dt

/-! What the program's defs tell of data. -/
namespace Evl
open PySem L2
/-- a comprehension over a tuple -/
theorem el_lcT {K : PySem.W.Frag} {σ : St} {H : Hp} {t : TT} {te : TE} {a : Addr} {xs : List V} {tl : TE} {j : Nat} {vs : List Nat} (f : Nat → Bool) (v : Nat → V) (h : Ev tl σ H (.ref a)) (hx : SqT K H a xs) (hz : xs.length ≤ 40000) (hw : ∀ x, wipe ((wipe σ vs).set j (some x)) vs = wipe σ vs)
    (ht : ∀ (i : Nat) (x : V) H1, Ex H H1 → xs[i]? = some x → EvT t ((wipe σ vs).set j (some x)) H1 (f i)) (he : ∀ (i : Nat) (x : V) H1, Ex H H1 → xs[i]? = some x → f i = true → Ev te ((wipe σ vs).set j (some x)) H1 (v i)) :
    EvL (tLc (iTup K tl) (gName j) t te vs) σ H (given xs.length f v) := fun H0 e Q q => h H0 e _ fun H1 e1 => ⟨a, rfl, ⟨xs, ex_t (e.trans e1) hx⟩, fun Dl hD =>
  lc_tup (xs := xs) (Cw H1 f v Dl) ⟨hD, Ex.new hD, upd_same⟩ (fun i H' _ p => ex_t ((e.trans e1).trans p.2.1) hx) (fun i x H' hi p => ⟨hw x, cw_turn p (by have := (List.getElem?_eq_some_iff.mp hi).1; omega) (ht i x H1 (e.trans e1) hi) (fun hf => he i x H1 (e.trans e1) hi hf)⟩)
    (fun H' p => q Dl H' (fresh_back e1 p.1) (e1.trans p.2.1) p.2.2)⟩
theorem given_all {α : Type} (xs : List α) (g : α → V) (z : V) : given xs.length (fun _ => true) (fun i => match xs[i]? with | some x => g x | none => z) = xs.map g := by
  unfold given
  have e : (List.range xs.length).filter (fun _ => true) = List.range xs.length := List.filter_eq_self.mpr fun _ _ => rfl
  rw [e]
  apply List.ext_getElem?
  intro i
  rw [List.getElem?_map, List.getElem?_map]
  by_cases h : i < xs.length
  · have h1 : (List.range xs.length)[i]? = some i := by
      rw [List.getElem?_range h]
    rw [h1]
    simp [List.getElem?_eq_getElem h]
  · have h1 : (List.range xs.length)[i]? = none := List.getElem?_eq_none_iff.mpr (by rw [List.length_range]; omega)
    have h2 : xs[i]? = none := List.getElem?_eq_none_iff.mpr (by omega)
    rw [h1, h2]
    rfl
end Evl
namespace Dt
open PySem L2 Evl Dg LamR LamX
open Dr (StAt SameB)
abbrev sSize : Stmt := top 39
abbrev sBounds : Stmt := top 40
abbrev sBegins : Stmt := top 41
abbrev sCond : Stmt := top 42
abbrev sKeep : Stmt := top 43
abbrev sRule : Stmt := top 44
section
variable {K : PySem.W.Frag} {H : Hp} {v : V} {d : PyData}
theorem Pt.isN (h : Pt H v d) : decide (v = V.non) = Dt.isN d := by
  cases h <;> first | rfl | exact decide_eq_false (fun z => by cases z)
theorem sizeB_int {l : Int} (h : sizeB l d = true) (k : Pt H v d) : v = .int (intD d) := by
  cases k <;> first | rfl | cases h
/-- where it begins so, each of its places is there -/
theorem Pt.beg {w : Str} {n : Nat} (k : Pt H v d) (h : begB d w n = true) : ∃ a vs, v = .ref a ∧ H a = some (.tup vs) ∧ vs.length = n ∧ ∀ i, i < n → ∃ u, vs[i]? = some u ∧ Pt H u (at_ i d) := by
  unfold begB at h
  rw [Bool.and_eq_true, Bool.and_eq_true] at h
  obtain ⟨h1, h2, _⟩ := h
  cases k with
  | @tup a vs ds hs ha =>
    have hl : ds.length = n := of_decide_eq_true h2
    refine ⟨a, vs, rfl, hs, by rw [ha.length, hl], fun i hi => ?_⟩
    have hd : ds[i]? = some (at_ i (.tuple ds)) := by
      unfold at_ tupD
      rw [List.getD_eq_getElem?_getD, List.getElem?_eq_getElem (by omega)]
      rfl
    exact ha.get hd
  | _ => cases h1
end
section
variable {P : Program} {w : World} {K : PySem.W.Frag} {mg : Str → Option Value} {base : Heap} {ca : Nat → Addr}
def spSize : Sp := fun vs H Q _ => ∃ v d l, vs = [v, .int l] ∧ Pt H v d ∧ RetV (.bl (sizeB l d)) H Q
theorem scSize : FnScope ["value", "least"] ["value", "least"] (defScope sSize) := ⟨rfl, rfl, rfl, by decide +kernel, rfl, by decide +kernel, by decide +kernel⟩
theorem ok_size {f fi : Addr} {fd fdi : FuncData} (F : Fun K "is_size" "is_size" sSize f fd) (GI : FnOk P w K mg base CX0 1 fi fdi ["value"] (spIsInt K)) (bI : Binds K fdi ["value"] []) (T : TxI K mg fi) (hM : ∃ t, mg "MOST_SIZE" = some (.int 6 t)) :
    FnOk P w K mg base CX0 2 f fd ["value", "least"] spSize := by
  refine F.ok scSize (fun vs H Q E h => ?_) (fun cdv A outer s H vs Q E hr h => ?_)
  · obtain ⟨v, d, l, rfl, _⟩ := h
    rfl
  · obtain ⟨v, d, l, rfl, k, q⟩ := h
    obtain ⟨t, hm⟩ := hM
    refine ⟨_, pss_one (ps_ret (pe_and (pe_call GI hr (by rfl) T.isInt T.kInt bI .nil pass0 (pa_cons (pv 0) pa_nil)) (pe_one (pe_chain op_le op_le (pv 1) (pv 0) (pe_glob (by rfl) hm (v := .int 6) ⟨_, rfl⟩))))), ?_⟩
    have kn := k.kn (K := K)
    cases hd : isI d with
    | true =>
      cases k with
      | int i => exact s_ret (ev_is (ev_andV (ev_callI (ev_var rfl) (.int i)) (fun _ => ev_chI (ev_var rfl) (ev_var rfl) ev_c)) (by simp [sizeB])) fun H1 e => q H1 e
      | _ => cases hd
    | false =>
      have e : sizeB l d = false := by cases d <;> first | rfl | cases hd
      rw [e] at q
      rw [hd] at kn
      exact s_ret (ev_is (ev_andV (b := false) (ev_callI (ev_var rfl) kn) (fun z => nomatch z)) (by simp)) fun H1 e => q H1 e
theorem ev_size {σ : St} {H : Hp} {ta tb : TE} {v : V} {d : PyData} {l : Int} (ha : Ev ta σ H v) (hb : Ev tb σ H (.int l)) (k : Pt H v d) : Ev (tCall spSize [] E0 (tCons ta (tCons tb tNil))) σ H (.bl (sizeB l d)) :=
  ev_call (ea_cons ha (ea_cons hb ea_nil)) fun H1 e Q q E => ⟨v, d, l, rfl, k.ex e, fun H2 e2 => q H2 e2⟩
structure TxR (K : PySem.W.Frag) (mg : Str → Option Value) (fi fb ff fs fbd fbg fc fk : Addr) : Prop extends TxI K mg fi where
  needB : mg "need_base" = some (.ref fb)
  kNB : PySem.W.keepIn K (.ref fb) = true
  isFig : mg "is_figures" = some (.ref ff)
  kFig : PySem.W.keepIn K (.ref ff) = true
  size : mg "is_size" = some (.ref fs)
  kSz : PySem.W.keepIn K (.ref fs) = true
  bounds : mg "are_bounds" = some (.ref fbd)
  kBd : PySem.W.keepIn K (.ref fbd) = true
  begins : mg "begins" = some (.ref fbg)
  kBg : PySem.W.keepIn K (.ref fbg) = true
  cond : mg "is_condition" = some (.ref fc)
  kCd : PySem.W.keepIn K (.ref fc) = true
  keep : mg "is_keep" = some (.ref fk)
  kKp : PySem.W.keepIn K (.ref fk) = true
  tuple : mg "tuple" = none
  all : mg "all" = none
  msize : ∃ t, mg "MOST_SIZE" = some (.int 6 t)
  mconds : ∃ t, mg "MOST_CONDITIONS" = some (.int 3 t)
  mend : ∃ t, mg "MOST_ENDING" = some (.int 2 t)
variable {fi fb ff fs fbd fbg fc fk : Addr}
def spBounds : Sp := fun vs H Q _ => ∃ va vb a b, vs = [va, vb] ∧ Pt H va a ∧ Pt H vb b ∧ RetV (.bl (boundsB a b)) H Q
theorem scBounds : FnScope ["least", "most"] ["least", "most"] (defScope sBounds) := ⟨rfl, rfl, rfl, by decide +kernel, rfl, by decide +kernel, by decide +kernel⟩
theorem ok_bounds {f : Addr} {fd fds : FuncData} (F : Fun K "are_bounds" "are_bounds" sBounds f fd) (GS : FnOk P w K mg base CX0 2 fs fds ["value", "least"] spSize) (bS : Binds K fds ["value", "least"] []) (T : TxR K mg fi fb ff fs fbd fbg fc fk) :
    FnOk P w K mg base CX0 3 f fd ["least", "most"] spBounds := by
  refine F.ok scBounds (fun vs H Q E h => ?_) (fun cdv A outer s H vs Q E hr h => ?_)
  · obtain ⟨va, vb, a, b, rfl, _⟩ := h
    rfl
  · obtain ⟨va, vb, a, b, rfl, ka, kb, q⟩ := h
    refine ⟨_, pss_one (ps_ret (pe_and (pe_call GS hr (by rfl) T.size T.kSz bS .nil pass0 (pa_cons (pv 0) (pa_cons pe_int pa_nil)))
      (pe_one (pe_or (pe_cmpR op_isN (pv 1) pe_non (nomark _)) (pe_one (pe_call GS hr (by rfl) T.size T.kSz bS .nil pass0 (pa_cons (pv 1) (pa_cons (pv 0) pa_nil)))))))), ?_⟩
    refine s_ret (ev_andV (ev_size (ev_var rfl) ev_c ka) fun z => ev_orV (a := Dt.isN b) (ev_op (y := .non) (ev_var rfl) ev_c fun H1 e Q k => ⟨rfl, by rw [kb.isN]; exact k _ (Ex.refl _)⟩) fun _ => ?_) fun H1 e => q H1 e
    have hi := sizeB_int z ka
    subst hi
    exact ev_size (ev_var rfl) (ev_var rfl) kb
theorem ev_bounds {σ : St} {H : Hp} {ta tb : TE} {va vb : V} {a b : PyData} (ha : Ev ta σ H va) (hb : Ev tb σ H vb) (ka : Pt H va a) (kb : Pt H vb b) : Ev (tCall spBounds [] E0 (tCons ta (tCons tb tNil))) σ H (.bl (boundsB a b)) :=
  ev_call (ea_cons ha (ea_cons hb ea_nil)) fun H1 e Q q E => ⟨va, vb, a, b, rfl, ka.ex e, kb.ex e, fun H2 e2 => q H2 e2⟩
def spBegins : Sp := fun vs H Q _ => ∃ v d w n, vs = [v, .str w, .int ((n : Nat) : Int)] ∧ 1 ≤ n ∧ Pt H v d ∧ RetV (.bl (begB d w n)) H Q
theorem scBegins : FnScope ["value", "word", "many"] ["value", "word", "many"] (defScope sBegins) := ⟨rfl, rfl, rfl, by decide +kernel, rfl, by decide +kernel, by decide +kernel⟩
theorem ev_lenT {σ : St} {H : Hp} {te : TE} {a : Addr} {vs : List V} (h : Ev te σ H (.ref a)) (ht : H a = some (.tup vs)) : Ev (tCB (rLenS K) (tCons te tNil)) σ H (.int (vs.length : Int)) :=
  ev_cb (ea_cons h ea_nil) fun H1 e Q q => ⟨a, vs, rfl, .inr (st_of (e _ _ ht)), q _ (Ex.refl _)⟩
theorem ev_at {σ : St} {H : Hp} {te : TE} {a : Addr} {vs : List V} {i : Nat} {u : V} (h : Ev te σ H (.ref a)) (ht : H a = some (.tup vs)) (hu : vs[i]? = some u) : Ev (tOp (rIxT K) te (tC (.int (i : Int)))) σ H u :=
  ev_op h ev_c (rv_ixT (st_of ht) (atI_nat hu))
theorem ok_begins {f : Addr} {fd : FuncData} (F : Fun K "begins" "begins" sBegins f fd) (T : TxR K mg fi fb ff fs fbd fbg fc fk) : FnOk P w K mg base CX0 1 f fd ["value", "word", "many"] spBegins := by
  refine F.ok scBegins (fun vs H Q E h => ?_) (fun cdv A outer s H vs Q E hr h => ?_)
  · obtain ⟨v, d, w, n, rfl, _⟩ := h
    rfl
  · obtain ⟨v, d, x, n, rfl, n1, k, q⟩ := h
    refine ⟨_, pss_cons (ps_if (PW.pt (pw_or (pt_not (pt_val (pe_callB call_isi (by rfl) T.isi (by decide +kernel) (pa_cons (pv 0) (pa_cons (pe_bltn (by rfl) T.tuple (by decide +kernel) (v := .ty "tuple") rfl) pa_nil)))))
        (pw_or1 (pt_cmpR op_ne (pe_callB call_len_seq (by rfl) T.len (by decide +kernel) (pa_cons (pv 0) pa_nil)) (pv 2) (nomark _))))) (pss_one (ps_ret pe_bl)) pss_nil)
      (pss_one (ps_ret (pe_and (pe_callB call_isi (by rfl) T.isi (by decide +kernel) (pa_cons (pe_ix ix_tup (pv 0) pe_int (fun _ _ => rfl)) (pa_cons (pe_bltn (by rfl) T.str (by decide +kernel) (v := .ty "str") rfl) pa_nil)))
        (pe_one (pe_cmpR op_eq (pe_ix ix_tup (pv 0) pe_int (fun _ _ => rfl)) (pv 1) (nomark _)))))), ?_⟩
    cases hT : isT d with
    | false =>
      have e0 : begB d x n = false := by unfold begB; rw [hT]; rfl
      rw [e0] at q
      exact q_when (b := true) (et_is (et_or (b := true) (et_not (et_B (ev_is (w := .bl false) (ev_isiT (ev_var rfl) k) (by rw [hT])))) fun z => nomatch z) (by simp)) (fun z H1 e => q H1 e) (fun z => nomatch z)
    | true =>
      cases k with
      | @tup a us ds hs ha =>
        have hl := ha.length
        refine q_when (b := !decide (ds.length = n)) (et_is (et_or (et_not (et_B (ev_isiT (d := .tuple ds) (ev_var rfl) (.tup hs ha)))) fun _ => et_test (ev_op (ev_lenT (ev_var rfl) hs) (ev_var rfl) (rv_ne rfl))) (by
          simp only [isT, Bool.not_true, Bool.false_or]
          congr 1
          refine decide_eq_decide.mpr ⟨fun z => ?_, fun z => ?_⟩
          · injection z with z
            omega
          · rw [show (us.length : Int) = (n : Int) by omega])) (fun z H1 e => ?_) (fun z H1 e => ?_)
        · have e0 : begB (.tuple ds) x n = false := by
            unfold begB tupD
            rw [Bool.not_eq_true'] at z
            rw [z]
            simp
          rw [e0] at q
          exact q H1 e
        · have z' : ds.length = n := by simpa using z
          cases ds with
          | nil =>
            rw [List.length_nil] at z'
            omega
          | cons d0 ds =>
            cases ha with
            | @cons u0 _ us _ k0 kr =>
              have hs1 := e _ _ hs
              have k1 := k0.ex e
              have e0 : begB (.tuple (d0 :: ds)) x n = (isS d0 && eqS x d0) := by
                unfold begB
                show (isT _ && (decide ((d0 :: ds).length = n) && eqS x d0)) = _
                rw [decide_eq_true z']
                cases d0 <;> simp [isT, isS, eqS]
              rw [e0] at q
              cases hS : isS d0 with
              | false =>
                rw [hS] at q
                exact s_ret (ev_is (ev_andV (b := false) (ev_is (w := .bl false) (ev_isiS (ev_at (i := 0) (ev_var rfl) hs1 rfl) k1) (by rw [hS])) (fun z => nomatch z)) (by simp)) fun H2 e2 => q H2 (e.trans e2)
              | true =>
                cases k0 with
                | str y hy =>
                  refine s_ret (ev_andV (ev_isiS (d := .str y) (ev_at (i := 0) (ev_var rfl) hs1 rfl) k1) (fun _ => ev_is (ev_op (ev_at (i := 0) (ev_var rfl) hs1 rfl) (ev_var rfl) (rv_eq rfl)) (w := .bl (decide (y = x))) ?_)) fun H2 e2 => q H2 (e.trans e2)
                  congr 1
                  refine decide_eq_decide.mpr ⟨fun z => ?_, fun z => ?_⟩
                  · injection z
                  · rw [z]
                | _ => cases hS
      | _ => cases hT
theorem ev_beg {σ : St} {H : Hp} {te : TE} {v : V} {d : PyData} {x : Str} {n : Nat} (h : Ev te σ H v) (k : Pt H v d) (n1 : 1 ≤ n) : Ev (tCall spBegins [] E0 (tCons te (tCons (tC (.str x)) (tCons (tC (.int (n : Int))) tNil)))) σ H (.bl (begB d x n)) :=
  ev_call (ea_cons h (ea_cons ev_c (ea_cons ev_c ea_nil))) fun H1 e Q q E => ⟨v, d, x, n, rfl, n1, k.ex e, fun H2 e2 => q H2 e2⟩
def spCond : Sp := fun vs H Q _ => ∃ (β : Nat) (v : V) (d : PyData), vs = [.int β, v] ∧ 2 ≤ β ∧ β ≤ 10 ∧ Pt H v d ∧ RetV (.bl (condB β d)) H Q
theorem scCond : FnScope ["base", "value"] ["base", "value"] (defScope sCond) := ⟨rfl, rfl, rfl, by decide +kernel, rfl, by decide +kernel, by decide +kernel⟩
theorem ok_cond {f : Addr} {fd fdf fds fdb fdg : FuncData} (F : Fun K "is_condition" "is_condition" sCond f fd) (GF : FnOk P w K mg base CX0 3 ff fdf ["base", "value", "most"] (spIsFig K)) (bF : Binds K fdf ["base", "value", "most"] [])
    (GS : FnOk P w K mg base CX0 3 fs fds ["value", "least"] spSize) (bS : Binds K fds ["value", "least"] []) (GB : FnOk P w K mg base CX0 3 fbd fdb ["least", "most"] spBounds) (bB : Binds K fdb ["least", "most"] [])
    (GG : FnOk P w K mg base CX0 3 fbg fdg ["value", "word", "many"] spBegins) (bG : Binds K fdg ["value", "word", "many"] []) (T : TxR K mg fi fb ff fs fbd fbg fc fk) :
    FnOk P w K mg base CX0 4 f fd ["base", "value"] spCond := by
  refine F.ok scCond (fun vs H Q E h => ?_) (fun cdv A outer s H vs Q E hr h => ?_)
  · obtain ⟨β, v, d, rfl, _⟩ := h
    rfl
  · obtain ⟨β, v, d, rfl, b2, b10, k, q⟩ := h
    obtain ⟨t, hm⟩ := T.mend
    refine ⟨_, pss_cons (ps_if (pt_val (pe_call GG hr (by rfl) T.begins T.kBg bG .nil pass0 (pa_cons (pv 1) (pa_cons pe_str (pa_cons pe_int pa_nil)))))
        (pss_one (ps_ret (pe_call GF hr (by rfl) T.isFig T.kFig bF .nil pass0 (pa_cons (pv 0) (pa_cons (pe_ix ix_tup (pv 1) pe_int (fun _ _ => rfl)) (pa_cons (pe_glob (by rfl) hm (v := .int 2) ⟨_, rfl⟩) pa_nil)))))) pss_nil)
      (pss_cons (ps_if (pt_val (pe_call GG hr (by rfl) T.begins T.kBg bG .nil pass0 (pa_cons (pv 1) (pa_cons pe_str (pa_cons pe_int pa_nil)))))
        (pss_one (ps_ret (pe_call GS hr (by rfl) T.size T.kSz bS .nil pass0 (pa_cons (pe_ix ix_tup (pv 1) pe_int (fun _ _ => rfl)) (pa_cons pe_int pa_nil))))) pss_nil)
      (pss_cons (ps_if (PW.pt (pw_or (pt_val (pe_call GG hr (by rfl) T.begins T.kBg bG .nil pass0 (pa_cons (pv 1) (pa_cons pe_str (pa_cons pe_int pa_nil))))) (pw_or1 (pt_val (pe_call GG hr (by rfl) T.begins T.kBg bG .nil pass0 (pa_cons (pv 1) (pa_cons pe_str (pa_cons pe_int pa_nil))))))))
        (pss_one (ps_ret (pe_call GB hr (by rfl) T.bounds T.kBd bB .nil pass0 (pa_cons (pe_ix ix_tup (pv 1) pe_int (fun _ _ => rfl)) (pa_cons (pe_ix ix_tup (pv 1) pe_int (fun _ _ => rfl)) pa_nil))))) pss_nil)
      (pss_one (ps_ret pe_bl)))), ?_⟩
    refine q_when (b := begB d "ends" 2) (et_B (ev_beg (n := 2) (ev_var rfl) k (by decide))) (fun z H1 e => ?_) (fun z H1 e => ?_)
    · have e0 : condB β d = figsO β 2 (txtD (at_ 1 d)) := by unfold condB; rw [if_pos z]
      rw [e0] at q
      obtain ⟨a, us, rfl, hs, _, hi⟩ := k.beg z
      obtain ⟨u, hu, ku⟩ := hi 1 (by decide)
      have k1 := (ku.ex e).tx (K := K)
      exact s_ret (ev_call (ea_cons (ev_var rfl) (ea_cons (ev_at (i := 1) (ev_var rfl) (e _ _ hs) hu) (ea_cons ev_c ea_nil))) fun H2 e2 Q2 q2 E2 => ⟨β, 2, u, _, rfl, b2, b10, by decide, k1.1.ex e2, k1.2, fun H3 e3 => q2 H3 e3⟩) fun H2 e2 => q H2 (e.trans e2)
    · have k1 := k.ex e
      refine q_when (b := begB d "near" 2) (et_B (ev_beg (n := 2) (ev_var rfl) k1 (by decide))) (fun z2 H2 e2 => ?_) (fun z2 H2 e2 => ?_)
      · have e0 : condB β d = sizeB 0 (at_ 1 d) := by unfold condB; rw [if_neg (by rw [z]; decide), if_pos z2]
        rw [e0] at q
        obtain ⟨a, us, rfl, hs, _, hi⟩ := (k1.ex e2).beg z2
        obtain ⟨u, hu, ku⟩ := hi 1 (by decide)
        exact s_ret (ev_size (ev_at (i := 1) (ev_var rfl) hs hu) ev_c ku) fun H3 e3 => q H3 ((e.trans e2).trans e3)
      · have k2 := k1.ex e2
        refine q_when (b := (begB d "length" 3 || begB d "changed" 3)) (et_or (et_B (ev_beg (n := 3) (ev_var rfl) k2 (by decide))) fun _ => et_B (ev_beg (n := 3) (ev_var rfl) k2 (by decide))) (fun z3 H3 e3 => ?_) (fun z3 H3 e3 => ?_)
        · have e0 : condB β d = boundsB (at_ 1 d) (at_ 2 d) := by unfold condB; rw [if_neg (by rw [z]; decide), if_neg (by rw [z2]; decide), if_pos z3]
          rw [e0] at q
          have key : ∃ a us, v = .ref a ∧ H3 a = some (.tup us) ∧ us.length = 3 ∧ ∀ i, i < 3 → ∃ u, us[i]? = some u ∧ Pt H3 u (at_ i d) := by
            rcases Bool.or_eq_true_iff.mp z3 with y | y
            · exact (k2.ex e3).beg y
            · exact (k2.ex e3).beg y
          obtain ⟨a, us, rfl, hs, _, hi⟩ := key
          obtain ⟨u, hu, ku⟩ := hi 1 (by decide)
          obtain ⟨u2, hu2, ku2⟩ := hi 2 (by decide)
          exact s_ret (ev_bounds (ev_at (i := 1) (ev_var rfl) hs hu) (ev_at (i := 2) (ev_var rfl) hs hu2) ku ku2) fun H4 e4 => q H4 (((e.trans e2).trans e3).trans e4)
        · have e0 : condB β d = false := by unfold condB; rw [if_neg (by rw [z]; decide), if_neg (by rw [z2]; decide), if_neg (by rw [z3]; decide)]
          rw [e0] at q
          exact s_ret ev_c fun H4 e4 => q H4 (((e.trans e2).trans e3).trans e4)
def spKeep : Sp := fun vs H Q _ => ∃ v d, vs = [v] ∧ Pt H v d ∧ RetV (.bl (keepB d)) H Q
theorem scKeep : FnScope ["value"] ["value"] (defScope sKeep) := ⟨rfl, rfl, rfl, by decide +kernel, rfl, by decide +kernel, by decide +kernel⟩
theorem ok_keep {f : Addr} {fd fds fdg : FuncData} (F : Fun K "is_keep" "is_keep" sKeep f fd) 
    (GS : FnOk P w K mg base CX0 2 fs fds ["value", "least"] spSize) (bS : Binds K fds ["value", "least"] [])
    (GG : FnOk P w K mg base CX0 2 fbg fdg ["value", "word", "many"] spBegins) (bG : Binds K fdg ["value", "word", "many"] []) (T : TxR K mg fi fb ff fs fbd fbg fc fk) :
    FnOk P w K mg base CX0 3 f fd ["value"] spKeep := by
  refine F.ok scKeep (fun vs H Q E h => ?_) (fun cdv A outer s H vs Q E hr h => ?_)
  · obtain ⟨v, d, rfl, _⟩ := h
    rfl
  · obtain ⟨v, d, rfl, k, q⟩ := h
    refine ⟨_, pss_cons (ps_if (PW.pt (pw_or (pt_val (pe_call GG hr (by rfl) T.begins T.kBg bG .nil pass0 (pa_cons (pv 0) (pa_cons pe_str (pa_cons pe_int pa_nil))))) (pw_or1 (pt_val (pe_call GG hr (by rfl) T.begins T.kBg bG .nil pass0 (pa_cons (pv 0) (pa_cons pe_str (pa_cons pe_int pa_nil))))))))
        (pss_one (ps_ret (pe_call GS hr (by rfl) T.size T.kSz bS .nil pass0 (pa_cons (pe_ix ix_tup (pv 0) pe_int (fun _ _ => rfl)) (pa_cons pe_int pa_nil))))) pss_nil)
      (pss_one (ps_ret (pe_call GG hr (by rfl) T.begins T.kBg bG .nil pass0 (pa_cons (pv 0) (pa_cons pe_str (pa_cons pe_int pa_nil)))))), ?_⟩
    refine q_when (b := (begB d "changed" 2 || begB d "last" 2)) (et_or (et_B (ev_beg (n := 2) (ev_var rfl) k (by decide))) fun _ => et_B (ev_beg (n := 2) (ev_var rfl) k (by decide))) (fun z H1 e => ?_) (fun z H1 e => ?_)
    · have e0 : keepB d = sizeB 1 (at_ 1 d) := by unfold keepB; rw [if_pos z]
      rw [e0] at q
      have key : ∃ a us, v = .ref a ∧ H1 a = some (.tup us) ∧ us.length = 2 ∧ ∀ i, i < 2 → ∃ u, us[i]? = some u ∧ Pt H1 u (at_ i d) := by
        rcases Bool.or_eq_true_iff.mp z with y | y
        · exact (k.ex e).beg y
        · exact (k.ex e).beg y
      obtain ⟨a, us, rfl, hs, _, hi⟩ := key
      obtain ⟨u, hu, ku⟩ := hi 1 (by decide)
      exact s_ret (ev_size (ev_at (i := 1) (ev_var rfl) hs hu) ev_c ku) fun H3 e3 => q H3 (e.trans e3)
    · have e0 : keepB d = begB d "all" 1 := by unfold keepB; rw [if_neg (by rw [z]; decide)]
      rw [e0] at q
      exact s_ret (ev_beg (n := 1) (ev_var rfl) (k.ex e) (by decide)) fun H3 e3 => q H3 (e.trans e3)
def spRule (K : PySem.W.Frag) (ca : Nat → Addr) : Sp := fun vs H Q E => ∃ vb v d b, vs = [vb, v] ∧ Bs K H vb b ∧ Pt H v d ∧ (b = false → Leaves (ca 1) "value" vb H E) ∧ (b = true → ∃ β : Nat, vb = .int β ∧ 2 ≤ β ∧ β ≤ 10 ∧ RetV (.bl (ruleB β d)) H Q)
theorem scRule : FnScope ["base", "value", "conditions", "keep", "condition"] ["base", "value"] (defScope sRule) := ⟨rfl, rfl, rfl, by decide +kernel, rfl, by decide +kernel, by decide +kernel⟩
theorem ok_rule {f : Addr} {fd fdn fdc fdk : FuncData} (F : Fun K "is_rule" "is_rule" sRule f fd) (GN : FnOk P w K mg base (L2.CX P w) 4 fb fdn ["base"] (spNeed (Bs K) (ca 1))) (bN : Binds K fdn ["base"] [])
    (GC : FnOk P w K mg base CX0 4 fc fdc ["base", "value"] spCond) (bC : Binds K fdc ["base", "value"] []) (GK : FnOk P w K mg base CX0 4 fk fdk ["value"] spKeep) (bK : Binds K fdk ["value"] []) (T : TxR K mg fi fb ff fs fbd fbg fc fk) :
    FnOk P w K mg base (L2.CX P w) 5 f fd ["base", "value"] (spRule K ca) := by
  refine F.okX scRule (fun vs H Q E h => ?_) (fun cdv A outer s H vs Q E hr h => ?_)
  · obtain ⟨vb, v, d, b, rfl, _⟩ := h
    rfl
  · obtain ⟨vb, v, d, b, rfl, kb, k, l1, hq⟩ := h
    obtain ⟨t, hm⟩ := T.mconds
    refine ⟨_, pss_cons (ps_expr (pe_callS GN hr (by rfl) T.needB T.kNB bN (fun σ => passAt (takes_of rfl rfl rfl rfl) σ) (pa_cons (pv 0) pa_nil)))
      (pss_cons (ps_if (PW.pt (pw_or (pt_not (pt_val (pe_callB call_isi (by rfl) T.isi (by decide +kernel) (pa_cons (pv 1) (pa_cons (pe_bltn (by rfl) T.tuple (by decide +kernel) (v := .ty "tuple") rfl) pa_nil)))))
        (pw_or1 (pt_cmpR op_ne (pe_callB call_len_seq (by rfl) T.len (by decide +kernel) (pa_cons (pv 1) pa_nil)) pe_int (nomark _))))) (pss_one (ps_ret pe_bl)) pss_nil)
      (pss_cons (ps_asg (pv 1) (pg_tup (by rfl) (pgs_cons (pg_name (i := 2) scRule.nd rfl (.inl rfl)) (pgs_cons (pg_name (i := 3) scRule.nd rfl (.inl rfl)) pgs_nil))))
      (pss_cons (ps_if (PW.pt (pw_or (pt_not (pt_val (pe_callB call_isi (by rfl) T.isi (by decide +kernel) (pa_cons (pv 2) (pa_cons (pe_bltn (by rfl) T.tuple (by decide +kernel) (v := .ty "tuple") rfl) pa_nil)))))
        (pw_or1 (pt_cmpR op_gt (pe_callB call_len_seq (by rfl) T.len (by decide +kernel) (pa_cons (pv 2) pa_nil)) (pe_glob (by rfl) hm (v := .int 3) ⟨_, rfl⟩) (nomark _))))) (pss_one (ps_ret pe_bl)) pss_nil)
      (pss_one (ps_ret (pe_and (pe_callB (cr_all rfl) (by rfl) T.all (by decide +kernel) (pa_cons (pe_lc (own := [("condition", 4)]) (g := gName 4) (tt := tYes) rfl scRule.nd (pi_tup (pv 2)) (blkOk_by (own := [("condition", 4)]) (N := ["base", "value", "conditions", "keep", "condition"]) (sc := defScope sRule) (by decide +kernel))
          (fun _ _ _ _ _ => pg_name (i := 4) scRule.nd rfl (Or.inl rfl)) (fun _ _ _ _ _ => pts_nil)
          (fun _ _ _ _ _ => pe_call GC hr (by rfl) T.cond T.kCd bC .nil pass0 (pa_cons (pv 0) (pa_cons (pv 4) pa_nil)))) pa_nil))
        (pe_one (pe_call GK hr (by rfl) T.keep T.kKp bK .nil pass0 (pa_cons (pv 3) pa_nil))))))))), ?_⟩
    refine ⟨_, rfl, vb, b, rfl, kb, fun hb H1 e1 => ?_, fun hb => l1 hb⟩
    obtain ⟨β, rfl, b2, b10, q⟩ := hq hb
    have k1 := k.ex e1
    cases hT : isT d with
    | false =>
      have e0 : ruleB β d = false := by unfold ruleB; rw [hT]; rfl
      rw [e0] at q
      exact q_when (b := true) (et_is (et_or (b := true) (et_not (et_B (ev_is (w := .bl false) (ev_isiT (ev_var rfl) k1) (by rw [hT])))) fun z => nomatch z) (by simp)) (fun z H2 e => q H2 (e1.trans e)) (fun z => nomatch z)
    | true =>
      cases k1 with
      | @tup a us ds hs ha =>
        have hl := ha.length
        refine q_when (b := !decide (ds.length = 2)) (et_is (et_or (et_not (et_B (ev_isiT (d := .tuple ds) (ev_var rfl) (.tup hs ha)))) fun _ => et_test (ev_op (ev_lenT (ev_var rfl) hs) ev_c (rv_ne rfl))) (by
          simp only [isT, Bool.not_true, Bool.false_or]
          congr 1
          refine decide_eq_decide.mpr ⟨fun z => ?_, fun z => ?_⟩
          · injection z with z
            omega
          · rw [show (us.length : Int) = 2 by omega])) (fun z H2 e2 => ?_) (fun z H2 e2 => ?_)
        · have e0 : ruleB β (.tuple ds) = false := by
            unfold ruleB tupD
            rw [Bool.not_eq_true'] at z
            simp only [z]
            simp
          rw [e0] at q
          exact q H2 (e1.trans e2)
        · have z' : ds.length = 2 := by simpa using z
          match ds, us, ha, z' with
          | [cd, kd], _, .cons (v := vc) kc (.cons (v := vk) kk .nil), _ =>
            have hs2 := e2 _ _ hs
            have kc2 := kc.ex e2
            have kk2 := kk.ex e2
            have e0 : ruleB β (.tuple [cd, kd]) = (isT cd && (decide ((tupD cd).length ≤ 3) && ((tupD cd).all (condB β) && keepB kd))) := rfl
            rw [e0] at q
            refine ⟨_, rfl, a, _, rfl, st_of hs2, rfl, _, _, rfl, _, _, rfl, rfl, ?_⟩
            cases hC : isT cd with
            | false =>
              rw [hC] at q
              exact q_when (b := true) (et_is (et_or (b := true) (et_not (et_B (ev_is (w := .bl false) (ev_isiT (ev_var rfl) kc2) (by rw [hC])))) fun z => nomatch z) (by simp)) (fun z H3 e => q H3 ((e1.trans e2).trans e)) (fun z => nomatch z)
            | true =>
              cases kc2 with
              | @tup ac ws cs hcs hca =>
                have hcl := hca.length
                refine q_when (b := !decide (cs.length ≤ 3)) (et_is (et_or (et_not (et_B (ev_isiT (d := .tuple cs) (ev_var rfl) (.tup hcs hca)))) fun _ => et_test (ev_op (ev_lenT (ev_var rfl) hcs) ev_c rv_I0)) (by
                  simp only [isT, Bool.not_true, Bool.false_or]
                  by_cases h : cs.length ≤ 3
                  · rw [decide_eq_true h, decide_eq_false (by omega)]
                    rfl
                  · rw [decide_eq_false h, decide_eq_true (by omega)]
                    rfl)) (fun z3 H3 e3 => ?_) (fun z3 H3 e3 => ?_)
                · rw [Bool.not_eq_true'] at z3
                  unfold tupD at q
                  simp only [z3, Bool.false_and, Bool.and_false] at q
                  exact q H3 ((e1.trans e2).trans e3)
                · have z4 : cs.length ≤ 3 := by simpa using z3
                  unfold tupD at q
                  simp only [decide_eq_true z4, isT, Bool.true_and] at q
                  have eL : EvL (tLc (iTup K (tVar 2)) (gName 4) tYes (tCall spCond [] E0 (tCons (tVar 0) (tCons (tVar 4) tNil))) [4]) [some (.int β), some (.ref a), some (.ref ac), some vk, none] H3 ((cs.map (condB β)).map V.bl) := by
                    rw [List.map_map, ← given_all cs (V.bl ∘ condB β) .non, ← hcl]
                    refine el_lcT (fun _ => true) _ (ev_var rfl) (st_of (e3 _ _ hcs)) (by omega) (fun _ => rfl) (fun i x H4 e4 hx => fun H5 e5 Q5 q5 => q5 H5 (Ex.refl _)) (fun i x H4 e4 hx _ => ?_)
                    obtain ⟨dd, hd, kd'⟩ := hca.get2 hx
                    rw [hd]
                    exact ev_call (ea_cons (ev_var rfl) (ea_cons (ev_var rfl) ea_nil)) fun H5 e5 Q5 q5 E5 => ⟨β, x, dd, rfl, b2, b10, (kd'.ex (e3.trans e4)).ex e5, fun H6 e6 => q5 H6 e6⟩
                  refine s_ret (ev_andV (ev_is (ev_allL eL) (w := .bl (cs.all (condB β))) (by rw [List.all_map]; rfl)) fun _ => ev_call (ea_cons (ev_var rfl) ea_nil) fun H5 e5 Q5 q5 E5 => ⟨vk, kd, rfl, (kk2.ex e3).ex e5, fun H6 e6 => q5 H6 e6⟩) fun H4 e4 => q H4 (((e1.trans e2).trans e3).trans e4)
              | _ => cases hC
      | _ => cases hT
end
end Dt

/-! k02: the law's own helpers. -/
namespace Dg
open PySem L2 Evl TL Dr


/-- the text of digits, the last one first -/
def ofD (l : List Nat) : Str := ⟨(l.reverse.map (48 + ·)).toArray⟩
theorem str_ext {x y : Str} (h : tl x = tl y) : x = y := by
  cases x
  cases y
  congr 1
  exact Array.toList_inj.mp h
theorem digs_eq (b n : Nat) : digs b n = ofD (dl b n) := str_ext (by rw [tl_digs]; rfl)
theorem ofD_snoc (l : List Nat) (d : Nat) : (⟨#[48 + d]⟩ : Str) ++ ofD l = ofD (l ++ [d]) := str_ext (by
  show (#[48 + d] ++ (l.reverse.map (48 + ·)).toArray).toList = _
  simp [ofD])
theorem ofD_len (l : List Nat) : (ofD l).length = l.length := by
  show (ofD l).cps.size = _
  simp [ofD]
theorem dl_lenB {b : Nat} (hb : 2 ≤ b) : ∀ k n : Nat, n < b ^ k → (dl b n).length ≤ k
  | 0, n, h => by
    have : n = 0 := by
      rw [Nat.pow_zero] at h
      omega
    subst this
    simp [dl_zero]
  | k + 1, n, h => by
    rcases Nat.eq_zero_or_pos n with h0 | h0
    · subst h0
      simp [dl_zero]
    · rw [dl_step hb h0, List.length_cons]
      have := dl_lenB hb k (n / b) (by
        rw [Nat.pow_succ] at h
        exact Nat.div_lt_of_lt_mul (by rw [Nat.mul_comm]; exact h))
      omega
end Dg

/-! k03: need_range, changed, near. -/
namespace Dg
open PySem L2 Evl TL
/-- how many digits are changed -/
def ChgIs (β f s m : Nat) : Prop := f / β ^ m = s / β ^ m ∧ ∀ j < m, f / β ^ j ≠ s / β ^ j
theorem ChgIs.uniq {β f s m m' : Nat} (h : ChgIs β f s m) (h' : ChgIs β f s m') : m = m' := by
  rcases Nat.lt_trichotomy m m' with z | z | z
  · exact absurd h.1 (h'.2 m z)
  · exact z
  · exact absurd h'.1 (h.2 m' z)
/-- the least exponent -/
def NearIs (β d k : Nat) : Prop := d ≤ β ^ k ∧ ∀ j < k, β ^ j < d
theorem NearIs.uniq {β d k k' : Nat} (h : NearIs β d k) (h' : NearIs β d k') : k = k' := by
  rcases Nat.lt_trichotomy k k' with z | z | z
  · exact absurd h.1 (Nat.not_le.mpr (h'.2 k z))
  · exact z
  · exact absurd h'.1 (Nat.not_le.mpr (h.2 k' z))
/-- C((v, u)) leaves -/
def LeavesP (C : Addr) (v u : V) (H : Hp) (E : XK) : Prop := ∀ H2 t d, Ex H H2 → H2 t = some (.tup [v, u]) → H2 d = none → E (.ref C) (some d) (upd H2 d (.xd [("value", .ref t)]))
structure TxF3 (K : PySem.W.Frag) (mg : Str → Option Value) (fi fnum fnb fnr : Addr) : Prop extends TxI K mg fi where
  isNum : mg "is_number" = some (.ref fnum)
  kNum : PySem.W.keepIn K (.ref fnum) = true
  needB : mg "need_base" = some (.ref fnb)
  kNB : PySem.W.keepIn K (.ref fnb) = true
  needR : mg "need_range" = some (.ref fnr)
  kNR : PySem.W.keepIn K (.ref fnr) = true
section
variable {P : Program} {w : World} {K : PySem.W.Frag} {mg : Str → Option Value} {base : Heap} {ca : Nat → Addr} {fi fnum fnb fnr : Addr}
def spNeedR (K : PySem.W.Frag) (ca : Nat → Addr) : Sp := fun vs H Q E => ∃ v u b c, vs = [v, u] ∧ Nm K H v b ∧ Nm K H u c ∧ ((b && c) = false → LeavesP (ca 4) v u H E) ∧
  ((b && c) = true → ∃ i j : Int, v = .int i ∧ u = .int j ∧ (j ≤ i → LeavesP (ca 4) v u H E) ∧ (i < j → RetV .non H Q))
theorem scNeedR : FnScope ["first", "second"] ["first", "second"] (defScope sNeedR) := ⟨rfl, rfl, rfl, by decide +kernel, rfl, by decide +kernel, by decide +kernel⟩
theorem ok_needR {f : Addr} {fd fdn : FuncData} (F : Fun K "need_range" "need_range" sNeedR f fd) (GN : FnOk P w K mg base CX0 2 fnum fdn ["value"] (spIsNum K)) (bN : Binds K fdn ["value"] []) (T : TxF3 K mg fi fnum fnb fnr)
    (M : Mks P K mg (ca 4) ["value"]) (gC : mg "BadRange" = some (.ref (ca 4))) : FnOk P w K mg base (L2.CX P w) 3 f fd ["first", "second"] (spNeedR K ca) := by
  refine F.okX scNeedR (fun vs H Q E h => ?_) (fun cdv A outer s H vs Q E hr h => ?_)
  · obtain ⟨v, u, _, _, rfl, _⟩ := h
    rfl
  · obtain ⟨v, u, b, c, rfl, kb, kc, l1, l2⟩ := h
    refine ⟨_, pss_one (ps_if (PW.pt (pw_or (pt_not (pt_val (pe_call GN hr (by rfl) T.isNum T.kNum bN .nil pass0 (pa_cons (pv 0) pa_nil)))) (pw_or (pt_not (pt_val (pe_call GN hr (by rfl) T.isNum T.kNum bN .nil pass0 (pa_cons (pv 1) pa_nil)))) (pw_or1 (pt_cmpR op_ge (pv 0) (pv 1) (nomark _))))))
      (pss_one (ps_raise rfl (takes_of rfl rfl rfl rfl) (pmk_mks M T.sup hr (by simp) (pa_cons (pe_tup (pa_cons (pv 0) (pa_cons (pv 1) pa_nil))) pa_nil) (by rfl) gC))) pss_nil), ?_⟩
    have raise : LeavesP (ca 4) v u H E → ∀ H2, Ex H H2 → tMks (ca 4) ["value"] (tCons (tTup (tCons (tVar 0) (tCons (tVar 1) tNil))) tNil) (L2.start ["first", "second"] [v, u]) H2 (fun cls d H' => E cls d H') := fun lt H2 e2 =>
      ⟨_, rfl, _, rfl, by show (2 : Nat) ≤ sizeLine; rw [sizeLine_eq]; omega, fun t nt => ⟨rfl, fun d hd => lt _ t d (e2.trans (Ex.new nt)) upd_same hd⟩⟩
    have e1 : ∀ {te : TE} {x : V} {r : Bool}, Ev te (L2.start ["first", "second"] [v, u]) H x → Nm K H x r → Ev (tCall (spIsNum K) [] E0 (tCons te tNil)) (L2.start ["first", "second"] [v, u]) H (.bl r) := fun h k =>
      ev_call (ea_cons h ea_nil) fun H1 e Q q E => ⟨_, _, rfl, k.ex e, fun H2 e2 => q H2 e2⟩
    cases hb : (b && c) with
    | false =>
      refine s_when (b := true) (et_is (et_or (et_not (et_B (e1 (ev_var rfl) kb))) fun z => et_or (b := true) (et_not (et_B (e1 (ev_var rfl) kc))) fun y => ?_) ?_) (fun z H2 e2 => raise (l1 hb) H2 e2) (fun z => nomatch z)
      · cases b <;> cases c <;> simp_all
      · cases b <;> cases c <;> simp_all
    | true =>
      obtain ⟨i, j, rfl, rfl, l3, l4⟩ := l2 hb
      have hbb : b = true ∧ c = true := by cases b <;> cases c <;> simp_all
      refine s_when (b := decide (i ≥ j)) (et_is (et_or (et_not (et_B (e1 (ev_var rfl) kb))) fun z => et_or (et_not (et_B (e1 (ev_var rfl) kc))) fun y => et_test (ev_op (ev_var rfl) (ev_var rfl) rv_I0)) ?_) (fun z H2 e2 => raise (l3 (of_decide_eq_true z)) H2 e2) (fun z H2 e2 => l4 (by have := of_decide_eq_false z; omega) H2 e2)
      rw [hbb.1, hbb.2]
      simp
/-- changed, near: the base first, then the range -/
def spRng (K : PySem.W.Frag) (ca : Nat → Addr) (R : Nat → Nat → Nat → Nat → Prop) : Sp := fun vs H Q E => ∃ vb v u a b c, vs = [vb, v, u] ∧ Bs K H vb a ∧ Nm K H v b ∧ Nm K H u c ∧ (a = false → Leaves (ca 1) "value" vb H E) ∧ (a = true → (b && c) = false → LeavesP (ca 4) v u H E) ∧
  (a = true → (b && c) = true → ∃ (β f s : Nat), vb = .int β ∧ 2 ≤ β ∧ β ≤ 10 ∧ ((∃ i j : Int, v = .int i ∧ u = .int j ∧ j ≤ i ∧ LeavesP (ca 4) v u H E) ∨ (v = .int f ∧ u = .int s ∧ f < s ∧ ∀ m, R β f s m → RetV (.int m) H Q)))
abbrev nChg : List Str := ["base", "first", "second", "many"]
theorem scChanged : FnScope nChg ["base", "first", "second"] (defScope sChanged) := ⟨rfl, rfl, rfl, by decide +kernel, rfl, by decide +kernel, by decide +kernel⟩
theorem LeavesP.go {C : Addr} {v u : V} {H H' : Hp} {E : XK} (l : LeavesP C v u H E) (e : Ex H H') : LeavesP C v u H' E := fun H2 t d e2 ht hd => l H2 t d (e.trans e2) ht hd
theorem ok_changed {f : Addr} {fd fdb fdr : FuncData} (F : Fun K "changed" "changed" sChanged f fd) (GB : FnOk P w K mg base (L2.CX P w) 3 fnb fdb ["base"] (spNeed (Bs K) (ca 1))) (bB : Binds K fdb ["base"] [])
    (GR : FnOk P w K mg base (L2.CX P w) 3 fnr fdr ["first", "second"] (spNeedR K ca)) (bR : Binds K fdr ["first", "second"] []) (T : TxF3 K mg fi fnum fnb fnr) : FnOk P w K mg base (L2.CX P w) 4 f fd ["base", "first", "second"] (spRng K ca ChgIs) := by
  refine F.okX scChanged (fun vs H Q E h => ?_) (fun cdv A outer s H vs Q E hr h => ?_)
  · obtain ⟨_, _, _, _, _, _, rfl, _⟩ := h
    rfl
  · obtain ⟨vb, v, u, a, b, c, rfl, ka, kb, kc, l1, l2, hq⟩ := h
    refine ⟨_, pss_cons (ps_expr (pe_callS GB hr (by rfl) T.needB T.kNB bB (fun σ => passAt (takes_of rfl rfl rfl rfl) σ) (pa_cons (pv 0) pa_nil)))
      (pss_cons (ps_expr (pe_callS GR hr (by rfl) T.needR T.kNR bR (fun σ => passAt (takes_of rfl rfl rfl rfl) σ) (pa_cons (pv 1) (pa_cons (pv 2) pa_nil))))
      (pss_cons (ps_set (i := 3) scChanged.nd rfl (.inl rfl) pe_int)
      (pss_cons (ps_while (passes_of rfl) (pt_cmpR op_ne (pv 1) (pv 2) (nomark _))
        (pss_cons (ps_par (i := 1) (j := 2) (by rfl) scChanged.nd rfl rfl (by decide) rfl rfl (pa_cons (pe_op op_fdiv (pv 1) (pv 0)) (pa_cons (pe_op op_fdiv (pv 2) (pv 0)) pa_nil)) (by rfl)) (pss_one (ps_set (i := 3) scChanged.nd rfl (.inl rfl) (pe_op op_add (pv 3) pe_int)))))
      (pss_one (ps_ret (pv 3)))))), ?_⟩
    refine ⟨_, rfl, vb, a, rfl, ka, fun ha H1 e1 => ?_, fun ha => l1 ha⟩
    refine ⟨_, rfl, _, rfl, v, u, b, c, rfl, kb.ex e1, kc.ex e1, fun z => (l2 ha z).go e1, fun z => ?_⟩
    obtain ⟨β, f, s, rfl, b2, b10, alt⟩ := hq ha z
    rcases alt with ⟨i, j, rfl, rfl, hij, lt⟩ | ⟨rfl, rfl, hfs, q⟩
    · exact ⟨i, j, rfl, rfl, fun _ => lt.go e1, fun z => by omega⟩
    · refine ⟨f, s, rfl, rfl, fun z => by omega, fun _ H2 e2 => ?_⟩
      refine q_asg (v := .int 0) ev_c fun H3 e3 => ?_
      refine q_while (fun n σ' H' => Ex H H' ∧ ∃ i f' s' : Nat, σ' = [some (.int β), some (.int f'), some (.int s'), some (.int (i : Int))] ∧ f' = f / β ^ i ∧ s' = s / β ^ i ∧ n = f' + s' ∧ ∀ j < i, f / β ^ j ≠ s / β ^ j) (f + s)
        ⟨(e1.trans e2).trans e3, 0, f, s, rfl, by simp, by simp, rfl, fun j hj => absurd hj (Nat.not_lt_zero j)⟩ (fun n σ' H' ⟨ex, i, f', s', hσ, hf, hs, hn, hne⟩ => ⟨!decide (V.int (f' : Int) = V.int (s' : Int)), ?_, fun z H4 e4 => ?_, fun z H4 e4 => ?_⟩)
      · subst hσ
        exact et_test (ev_op (ev_var rfl) (ev_var rfl) (rv_ne rfl))
      · subst hσ
        have zne : f' ≠ s' := fun y => by
          rw [y] at z
          simp at z
        have lt1 : f' / β + s' / β < f' + s' := by
          rcases Nat.eq_zero_or_pos f' with y | y
          · have y2 : 0 < s' := by omega
            have := Nat.div_lt_self y2 (show 1 < β by omega)
            have := Nat.div_le_self f' β
            omega
          · have := Nat.div_lt_self y (show 1 < β by omega)
            have := Nat.div_le_self s' β
            omega
        refine ⟨fun σ2 H5 => Ex H H5 ∧ σ2 = [some (.int β), some (.int ((f' / β : Nat) : Int)), some (.int ((s' / β : Nat) : Int)), some (.int ((i + 1 : Nat) : Int))], fun σ2 H5 ⟨ex5, a⟩ => ⟨f' / β + s' / β, by omega, ex5, i + 1, f' / β, s' / β, a, by rw [Nat.pow_succ, ← Nat.div_div_eq_div_mul, ← hf], by rw [Nat.pow_succ, ← Nat.div_div_eq_div_mul, ← hs], rfl, fun j hj => ?_⟩, ?_⟩
        · rcases Nat.lt_or_ge j i with y | y
          · exact hne j y
          · have : j = i := by omega
            subst this
            rw [← hf, ← hs]
            exact zne
        · refine ⟨_, rfl, _, rfl, _, _, rfl, rfl, ⟨by omega, by omega⟩, _, rfl, _, rfl, _, _, rfl, rfl, ⟨by omega, by omega⟩, _, _, rfl, ?_⟩
          refine s_asg (i := 3) (v := .int ((i : Int) + 1)) (ev_op (ev_var rfl) ev_c rv_I0) fun H6 e6 => ⟨(ex.trans e4).trans e6, ?_⟩
          rfl
      · subst hσ
        have zeq : f' = s' := by
          have : V.int (f' : Int) = V.int (s' : Int) := by simpa using z
          injection this with this
          omega
        exact ⟨_, rfl, q i ⟨by rw [← hf, ← hs]; exact zeq, hne⟩ H4 (ex.trans e4)⟩
abbrev nNear : List Str := ["base", "first", "second", "exponent", "power"]
theorem scNear : FnScope nNear ["base", "first", "second"] (defScope sNear) := ⟨rfl, rfl, rfl, by decide +kernel, rfl, by decide +kernel, by decide +kernel⟩
theorem ok_near {f : Addr} {fd fdb fdr : FuncData} (F : Fun K "near" "near" sNear f fd) (GB : FnOk P w K mg base (L2.CX P w) 3 fnb fdb ["base"] (spNeed (Bs K) (ca 1))) (bB : Binds K fdb ["base"] [])
    (GR : FnOk P w K mg base (L2.CX P w) 3 fnr fdr ["first", "second"] (spNeedR K ca)) (bR : Binds K fdr ["first", "second"] []) (T : TxF3 K mg fi fnum fnb fnr) : FnOk P w K mg base (L2.CX P w) 4 f fd ["base", "first", "second"] (spRng K ca fun β f s m => NearIs β (s - f) m) := by
  refine F.okX scNear (fun vs H Q E h => ?_) (fun cdv A outer s H vs Q E hr h => ?_)
  · obtain ⟨_, _, _, _, _, _, rfl, _⟩ := h
    rfl
  · obtain ⟨vb, v, u, a, b, c, rfl, ka, kb, kc, l1, l2, hq⟩ := h
    refine ⟨_, pss_cons (ps_expr (pe_callS GB hr (by rfl) T.needB T.kNB bB (fun σ => passAt (takes_of rfl rfl rfl rfl) σ) (pa_cons (pv 0) pa_nil)))
      (pss_cons (ps_expr (pe_callS GR hr (by rfl) T.needR T.kNR bR (fun σ => passAt (takes_of rfl rfl rfl rfl) σ) (pa_cons (pv 1) (pa_cons (pv 2) pa_nil))))
      (pss_cons (ps_set (i := 3) scNear.nd rfl (.inl rfl) pe_int)
      (pss_cons (ps_set (i := 4) scNear.nd rfl (.inl rfl) pe_int)
      (pss_cons (ps_while (passes_of rfl) (pt_cmpR op_lt (pv 4) (pe_op op_sub (pv 2) (pv 1)) (nomark _))
        (pss_cons (ps_set (i := 4) scNear.nd rfl (.inl rfl) (pe_op op_mul (pv 4) (pv 0))) (pss_one (ps_set (i := 3) scNear.nd rfl (.inl rfl) (pe_op op_add (pv 3) pe_int)))))
      (pss_one (ps_ret (pv 3))))))), ?_⟩
    refine ⟨_, rfl, vb, a, rfl, ka, fun ha H1 e1 => ?_, fun ha => l1 ha⟩
    refine ⟨_, rfl, _, rfl, v, u, b, c, rfl, kb.ex e1, kc.ex e1, fun z => (l2 ha z).go e1, fun z => ?_⟩
    obtain ⟨β, f, s, rfl, b2, b10, alt⟩ := hq ha z
    rcases alt with ⟨i, j, rfl, rfl, hij, lt⟩ | ⟨rfl, rfl, hfs, q⟩
    · exact ⟨i, j, rfl, rfl, fun _ => lt.go e1, fun z => by omega⟩
    · refine ⟨f, s, rfl, rfl, fun z => by omega, fun _ H2 e2 => ?_⟩
      refine q_asg (v := .int 0) ev_c fun H3 e3 => ?_
      refine q_asg (v := .int 1) ev_c fun H3 e3' => ?_
      refine q_while (fun n σ' H' => Ex H H' ∧ ∃ i g : Nat, σ' = [some (.int β), some (.int f), some (.int s), some (.int (i : Int)), some (.int (g : Int))] ∧ g = β ^ i ∧ n = (s - f) - g ∧ ∀ j < i, β ^ j < s - f) ((s - f) - 1)
        ⟨((e1.trans e2).trans e3).trans e3', 0, 1, rfl, by simp, rfl, fun j hj => absurd hj (Nat.not_lt_zero j)⟩ (fun n σ' H' ⟨ex, i, g, hσ, hg, hn, hne⟩ => ⟨decide ((g : Int) < (s : Int) - (f : Int)), ?_, fun z H4 e4 => ?_, fun z H4 e4 => ?_⟩)
      · subst hσ
        exact et_test (ev_op (ev_var rfl) (ev_op (ev_var rfl) (ev_var rfl) rv_I0) rv_I0)
      · subst hσ
        have zlt := of_decide_eq_true z
        have g1 : 1 ≤ g := by
          rw [hg]
          exact Nat.one_le_pow _ _ (by omega)
        have g2 : g < g * β := by
          have : g * 2 ≤ g * β := Nat.mul_le_mul_left _ b2
          omega
        refine ⟨fun σ2 H5 => Ex H H5 ∧ σ2 = [some (.int β), some (.int f), some (.int s), some (.int ((i + 1 : Nat) : Int)), some (.int ((g * β : Nat) : Int))], fun σ2 H5 ⟨ex5, a⟩ => ⟨(s - f) - g * β, by omega, ex5, i + 1, g * β, a, by rw [Nat.pow_succ, ← hg], rfl, fun j hj => ?_⟩, ?_⟩
        · rcases Nat.lt_or_ge j i with y | y
          · exact hne j y
          · have : j = i := by omega
            subst this
            rw [← hg]
            omega
        · refine q_asg (v := .int ((g : Int) * (β : Int))) (ev_op (ev_var rfl) (ev_var rfl) (rv_I (.inr ⟨by omega, by omega⟩))) fun H5 e5 => ?_
          refine s_asg (i := 3) (v := .int ((i : Int) + 1)) (ev_op (ev_var rfl) ev_c rv_I0) fun H6 e6 => ⟨((ex.trans e4).trans e5).trans e6, ?_⟩
          rw [← Int.natCast_mul]
          rfl
      · subst hσ
        have zge := of_decide_eq_false z
        exact ⟨_, rfl, q i ⟨by rw [← hg]; omega, hne⟩ H4 (ex.trans e4)⟩
end
end Dg

/-! k03: digits and what is changed, as lists. -/
namespace Dg
open PySem L2 Evl TL
theorem dl_inj {β : Nat} (hb : 2 ≤ β) : ∀ a b : Nat, dl β a = dl β b → a = b := by
  intro a
  induction a using Nat.strongRecOn with
  | _ a ih =>
    intro b h
    rcases Nat.eq_zero_or_pos a with z | z
    · rcases Nat.eq_zero_or_pos b with y | y
      · omega
      · rw [z, dl_zero, dl_step hb y] at h
        cases h
    · rcases Nat.eq_zero_or_pos b with y | y
      · rw [y, dl_zero, dl_step hb z] at h
        cases h
      · rw [dl_step hb z, dl_step hb y] at h
        injection h with h1 h2
        have := ih (a / β) (Nat.div_lt_self z (by omega)) _ h2
        have e1 := Nat.div_add_mod a β
        have e2 := Nat.div_add_mod b β
        rw [← e1, ← e2, this, h1]
theorem dl_drop {β : Nat} (hb : 2 ≤ β) : ∀ m n : Nat, dl β (n / β ^ m) = (dl β n).drop m
  | 0, n => by simp
  | m + 1, n => by
    rw [Nat.pow_succ, ← Nat.div_div_eq_div_mul]
    rw [show m + 1 = m + 1 from rfl, ← List.drop_drop, ← dl_drop hb m n]
    rcases Nat.eq_zero_or_pos (n / β ^ m) with z | z
    · rw [z]
      simp [dl_zero]
    · rw [dl_step hb z]
      rfl
theorem dl_mono {β : Nat} (hb : 2 ≤ β) {f s : Nat} (h : f ≤ s) : (dl β f).length ≤ (dl β s).length := by
  have h1 : (dl β (s / β ^ (dl β s).length)) = [] := by
    rw [dl_drop hb]
    simp
  have h2 : s / β ^ (dl β s).length = 0 := dl_inj hb _ _ (by rw [h1, dl_zero])
  have h3 : f / β ^ (dl β s).length = 0 := by
    have y := Nat.div_le_div_right (c := β ^ (dl β s).length) h
    rw [h2] at y
    exact Nat.le_zero.mp y
  have h4 : dl β (f / β ^ (dl β s).length) = [] := by rw [h3, dl_zero]
  rw [dl_drop hb] at h4
  exact List.drop_eq_nil_iff.mp h4
/-- what the tops of equal length tell -/
theorem chg_same {β f s k : Nat} (hb : 2 ≤ β) (hl : (dl β f).length = (dl β s).length) (hk : k < (dl β f).length) (h1 : (dl β f).reverse.take k = (dl β s).reverse.take k) (h2 : (dl β f).reverse.take (k + 1) ≠ (dl β s).reverse.take (k + 1)) : ChgIs β f s ((dl β s).length - k) := by
  have key : ∀ j, (dl β f).drop ((dl β f).length - j) = ((dl β f).reverse.take j).reverse := fun j => by
    rw [← List.reverse_reverse (dl β f)]
    rw [List.drop_reverse]
    simp only [List.reverse_reverse, List.length_reverse]
    congr 1
    rcases Nat.le_total j (dl β f).length with y | y
    · congr 1
      omega
    · rw [show (dl β f).length - j = 0 by omega]
      rw [List.take_of_length_le (by simp), List.take_of_length_le (by simpa using y)]
  have key2 : ∀ j, (dl β s).drop ((dl β s).length - j) = ((dl β s).reverse.take j).reverse := fun j => by
    rw [← List.reverse_reverse (dl β s)]
    rw [List.drop_reverse]
    simp only [List.reverse_reverse, List.length_reverse]
    congr 1
    rcases Nat.le_total j (dl β s).length with y | y
    · congr 1
      omega
    · rw [show (dl β s).length - j = 0 by omega]
      rw [List.take_of_length_le (by simp), List.take_of_length_le (by simpa using y)]
  have hne : f / β ^ ((dl β s).length - k - 1) ≠ s / β ^ ((dl β s).length - k - 1) := fun e => by
    have e2 : (dl β f).drop ((dl β s).length - k - 1) = (dl β s).drop ((dl β s).length - k - 1) := by rw [← dl_drop hb, ← dl_drop hb, e]
    rw [show (dl β s).length - k - 1 = (dl β s).length - (k + 1) by omega] at e2
    rw [key2, ← hl, key] at e2
    exact h2 (List.reverse_inj.mp e2)
  refine ⟨dl_inj hb _ _ ?_, fun j hj e => hne ?_⟩
  · rw [dl_drop hb, dl_drop hb, key2, ← hl, key, h1]
  · have e3 : ∀ n, n / β ^ ((dl β s).length - k - 1) = n / β ^ j / β ^ ((dl β s).length - k - 1 - j) := fun n => by
      rw [Nat.div_div_eq_div_mul, ← Nat.pow_add, show j + ((dl β s).length - k - 1 - j) = (dl β s).length - k - 1 by omega]
    rw [e3, e3, e]
theorem chg_diff {β f s : Nat} (hb : 2 ≤ β) (hl : (dl β f).length < (dl β s).length) : ChgIs β f s (dl β s).length := by
  refine ⟨dl_inj hb _ _ ?_, fun j hj e => ?_⟩
  · rw [dl_drop hb, dl_drop hb, List.drop_of_length_le (by omega), List.drop_of_length_le (Nat.le_refl _)]
  · have e2 : (dl β f).drop ((dl β s).length - 1) = (dl β s).drop ((dl β s).length - 1) := by
      rw [← dl_drop hb, ← dl_drop hb]
      have e3 : ∀ n, n / β ^ ((dl β s).length - 1) = n / β ^ j / β ^ ((dl β s).length - 1 - j) := fun n => by
        rw [Nat.div_div_eq_div_mul, ← Nat.pow_add, show j + ((dl β s).length - 1 - j) = (dl β s).length - 1 by omega]
      rw [e3, e3, e]
    have e4 := congrArg List.length e2
    rw [List.length_drop, List.length_drop] at e4
    omega
theorem chg_pos {β f s m : Nat} (h : f < s) (c : ChgIs β f s m) : 0 < m := by
  rcases Nat.eq_zero_or_pos m with z | z
  · subst z
    have := c.1
    simp at this
    omega
  · exact z
theorem chg_len {β f s m : Nat} (hb : 2 ≤ β) (h : f < s) (c : ChgIs β f s m) : m ≤ (dl β s).length := by
  rcases Nat.lt_or_ge (dl β s).length m with z | z
  · refine absurd ?_ (c.2 _ z)
    refine dl_inj hb _ _ ?_
    rw [dl_drop hb, dl_drop hb, List.drop_of_length_le (dl_mono hb (Nat.le_of_lt h)), List.drop_of_length_le (Nat.le_refl _)]
  · exact z
theorem near_chg {β f s m k : Nat} (hb : 2 ≤ β) (h : f < s) (c : ChgIs β f s m) (n : NearIs β (s - f) k) : k ≤ m := by
  rcases Nat.lt_or_ge m k with z | z
  · have h1 : β ^ m < s - f := n.2 m z
    have h2 : f / β ^ m = s / β ^ m := c.1
    have p : 0 < β ^ m := Nat.pow_pos (by omega)
    have e1 := Nat.div_add_mod f (β ^ m)
    have e2 := Nat.div_add_mod s (β ^ m)
    have l2 := Nat.mod_lt s p
    rw [h2] at e1
    generalize β ^ m * (s / β ^ m) = y at e1 e2
    generalize f % β ^ m = r1 at e1
    generalize s % β ^ m = r2 at e2 l2
    omega
  · exact z
theorem near_len {β d k : Nat} (hb : 2 ≤ β) {z : Nat} (hd : d < 2 ^ z) (n : NearIs β d k) : k ≤ z := by
  rcases Nat.lt_or_ge z k with y | y
  · have h1 : β ^ z < d := n.2 z y
    have h2 : 2 ^ z ≤ β ^ z := Nat.pow_le_pow_left hb z
    omega
  · exact y
theorem tl_cut1 (x : Str) : tl (cutS x none (some 1)) = (tl x).take 1 := by
  show (((x.cps.toList.drop (HT.sIx x.length 0 none)).take (HT.sIx x.length x.length (some 1) - HT.sIx x.length 0 none)).toArray).toList = x.cps.toList.take 1
  have h : x.length = x.cps.toList.length := Array.length_toList.symm
  rw [HT.sIx_none, show ((1 : Int)) = ((1 : Nat) : Int) from rfl, HT.sIx_nat, h]
  cases x.cps.toList with
  | nil => rfl
  | cons a l => simp
theorem tl_cut2 (x : Str) : tl (cutS x (some 1) none) = (tl x).drop 1 := by
  show (((x.cps.toList.drop (HT.sIx x.length 0 (some 1))).take (HT.sIx x.length x.length none - HT.sIx x.length 0 (some 1))).toArray).toList = x.cps.toList.drop 1
  have h : x.length = x.cps.toList.length := Array.length_toList.symm
  rw [HT.sIx_none, show ((1 : Int)) = ((1 : Nat) : Int) from rfl, HT.sIx_nat, h]
  cases x.cps.toList with
  | nil => rfl
  | cons a l => simp
end Dg

/-! repr of a word with a thing (which may be a small dict), and of lists of such. -/
namespace L2
open PySem PySem.Spec PyProof.Rows Evl
/-- what Di tells, an empty dict, or a tuple of a text and such -/
inductive Dj (K : PySem.W.Frag) (H : Hp) : V → PyData → Prop
  | di {v : V} {d : PyData} : Di K H v d → Dj K H v d
  | nil {a : Addr} : H a = some (.dK []) → Dj K H (.ref a) (.dict [])
  | pair {a : Addr} {x : Str} {v : V} {d : PyData} : SqT K H a [.str x, v] → Dj K H v d → Dj K H (.ref a) (.tuple [.str x, d])
inductive DjAll (K : PySem.W.Frag) (H : Hp) : List V → List PyData → Prop
  | nil : DjAll K H [] []
  | cons {v : V} {vs : List V} {d : PyData} {ds : List PyData} : Dj K H v d → DjAll K H vs ds → DjAll K H (v :: vs) (d :: ds)
section
variable {X : Cx} {pins : List (Addr × Obj)} {σ : St} {H : Hp} {s : Shared}
theorem Dj.reads (I : Inv X pins σ H s) {v : V} {d : PyData} (h : Dj X.K H v d) : ∀ {u : Value}, RelV v u → ∃ as, Reads s.heap u d as ∧ (d.hasDict = true → sysModules ∉ as) := by
  induction h with
  | di h => exact fun r => Di.reads I h r
  | @nil a hs =>
    intro u r
    cases r
    obtain ⟨_, hne, vs, rel, o, es, ep, ho, ⟨hx, _, _⟩, hd, _, hp, _⟩ := dk_of I.hok hs
    cases rel
    cases es with
    | mk es =>
    cases hp
    refine ⟨_, Reads.dict ho hx hd (kvs := []) (as := []) (bs := []) .nil .nil, fun _ h => ?_⟩
    simp only [List.append_nil, List.mem_cons, List.not_mem_nil, or_false] at h
    rw [← h] at hne
    exact absurd hne (by decide)
  | @pair a x v d hs hv ih =>
    intro u r
    cases r
    obtain ⟨its, rv, ⟨o, ho, hc, n, hd⟩, _⟩ := I.tuple hs
    obtain ⟨u1, u2, rfl, ⟨t, rfl⟩, r2⟩ := vals2 rv
    obtain ⟨bs, hr, hm⟩ := ih r2
    refine ⟨_, Reads.tuple ho hc hd (.cons (.str _ _) (.cons hr .nil)), fun z h => hm ?_ ?_⟩
    · simpa [PyData.hasDict, PyData.hasDictAll] using z
    · simpa using h
theorem DjAll.reads (I : Inv X pins σ H s) : ∀ {ds : List PyData} {vs : List V} {us : List Value}, DjAll X.K H vs ds → Vals vs us → ReadsI s.heap us ds
  | [], _, _, h, r => by
    cases h
    cases r
    exact .nil
  | d :: ds, _, _, h, r => by
    cases h with
    | cons h1 h2 =>
      cases r with
      | cons r1 r2 =>
        obtain ⟨as, q, m⟩ := Dj.reads I h1 r1
        exact .cons q m (DjAll.reads I h2 r2)
theorem Dj.ex {K : PySem.W.Frag} {H H' : Hp} (e : Ex H H') {v : V} {d : PyData} (h : Dj K H v d) : Dj K H' v d := by
  induction h with
  | di h => exact .di (h.ex e)
  | nil h => exact .nil (e _ _ h)
  | pair h _ ih => exact .pair (ex_t e h) ih
theorem DjAll.ex {K : PySem.W.Frag} {H H' : Hp} (e : Ex H H') : ∀ {vs : List V} {ds : List PyData}, DjAll K H vs ds → DjAll K H' vs ds
  | _, _, .nil => .nil
  | _, _, .cons h t => .cons (h.ex e) (t.ex e)
end
def rReprJ (K : PySem.W.Frag) : List V → Hp → VK → Prop := fun xs H Q => ∃ v d, xs = [v] ∧ Dj K H v d ∧ d.showable = true ∧ d.shown.length ≤ sizeLine ∧ d.depth ≤ 60 ∧ Q (.str d.shown) H
def rReprK (K : PySem.W.Frag) : List V → Hp → VK → Prop := fun xs H Q => ∃ a vs ds, xs = [.ref a] ∧ SqL K H a vs ∧ DjAll K H vs ds ∧ (PyData.list ds).showable = true ∧ (PyData.list ds).shown.length ≤ sizeLine ∧ PyData.depthAll ds ≤ 60 ∧ Q (.str (PyData.list ds).shown) H
theorem call_reprJ {X : Cx} (hg : X.A.guards = some []) (hu : X.A.units + 64 < cLine) : CallR X (.builtin "repr") (rReprJ X.K) := by
  intro pins s σ H xs us Q I r h
  obtain ⟨v, d, rfl, hd, hs, hz, hdp, q⟩ := h
  cases r with
  | @cons _ u _ us r1 r2 =>
    cases r2
    show wpAny _ _ (call (.builtin "repr") [u]) _ _ _
    obtain ⟨as, rd, hm⟩ := Dj.reads I hd r1
    cases rd with
    | none => exact P.repr_of_none ⟨.str _, H, I.tok _, ⟨_, rfl⟩, by simpa [PyData.shown] using q⟩
    | bool b => exact P.repr_of_bool ⟨.str _, H, I.tok _, ⟨_, rfl⟩, by simpa [PyData.shown] using q⟩
    | int i t => exact P.repr_of_int (by simpa [PyData.showable] using hs) ⟨.str _, H, I.tok _, ⟨_, rfl⟩, by simpa [PyData.shown] using q⟩
    | str x t => exact P.repr_of_str ⟨.str _, H, I.tok _, ⟨_, rfl⟩, by simpa [PyData.shown] using q⟩ (by simpa [PyData.shown] using hz)
    | list h1 h2 h3 h4 => exact repr_of_reads' (.list h1 h2 h3 h4) hs hm hg (by omega) (fun _ _ e => e) (fun h' u tk k => ⟨.str _, H, I.kept (t' := tk) k, ⟨_, rfl⟩, q⟩) hz
    | tuple h1 h2 h3 h4 => exact repr_of_reads' (.tuple h1 h2 h3 h4) hs hm hg (by omega) (fun _ _ e => e) (fun h' u tk k => ⟨.str _, H, I.kept (t' := tk) k, ⟨_, rfl⟩, q⟩) hz
    | dict h1 h2 h3 h4 h5 => exact repr_of_reads' (.dict h1 h2 h3 h4 h5) hs hm hg (by omega) (fun _ _ e => e) (fun h' u tk k => ⟨.str _, H, I.kept (t' := tk) k, ⟨_, rfl⟩, q⟩) hz
theorem call_reprK {X : Cx} (hg : X.A.guards = some []) (hu : X.A.units + 64 < cLine) : CallR X (.builtin "repr") (rReprK X.K) := by
  intro pins s σ H xs us Q I r h
  obtain ⟨a, vs, ds, rfl, hS, hd, hs, hz, hdp, q⟩ := h
  cases r with
  | @cons _ u _ us r1 r2 =>
    cases r2
    cases r1
    show wpAny _ _ (call (.builtin "repr") [.ref a]) _ _ _
    obtain ⟨its, rv, ⟨o, n, h1, h2, _, h3⟩, _⟩ := I.list hS
    have RI := DjAll.reads I hd rv
    obtain ⟨as, h4⟩ := RI.all
    have hz' : (listText (PyData.shownAll ds)).length ≤ sizeLine := by simpa only [PyData.shown] using hz
    obtain ⟨bs, hb, hk⟩ := RI.repr (prog := X.prog) (w := X.w) (by simpa [PyData.showable] using hs) (fun t ht => Nat.le_trans (listText_mem_le ht) hz')
    have h4' : ReadsAll s.heap its.toArray.toList ds as := by simpa using h4
    have hna : a ∉ bs := not_mem_of_deeper (.list h1 h2 h3 h4') (by simp only [PyData.depth]; omega) hb
    have fin : ∀ {h' u tk}, (∀ b o, s.heap.get? b = some o → h'.get? b = some o) → EP X pins σ Q (.str (PyData.list ds).shown u) { s with heap := h', toks := tk } := fun {h' u tk} k => ⟨.str _, H, I.kept (t' := tk) k, ⟨_, rfl⟩, q⟩
    refine call_repr_slot (by omega) ⟨o, h1, h2⟩ F.slot_list_repr.toG ?_
    cases its with
    | nil =>
      cases h4
      have e : (PyData.list []).shown = ("[]" : Str) := by simp only [PyData.shown, PyData.shownAll, listText_nil]
      refine call_list_repr_empty ⟨o, h1, h2⟩ h1 h3 ⟨_, _, rfl, ?_⟩
      rw [← e]
      exact fin fun _ _ e => e
    | cons x l =>
      refine call_list_reprK h1 h2 h3 hna (by simpa using hk.length_eq) (fun i y e => hk.item i y (by simpa using e)) hg (fun b _ => Clear.nil b) (by show X.A.units + 1 + _ < _; omega) (fun _ _ e => e) (fun h' u tk k => ⟨_, _, rfl, ?_⟩) hz'
      have := fin (h' := h') (u := u) (tk := tk) k
      simpa only [PyData.shown] using this
section
variable {K : PySem.W.Frag} {σ : L2.St} {H : Hp} {te : TE}
theorem ev_reprJ {v : V} {d : PyData} (h : Ev te σ H v) (hd : Dj K H v d) (s : Sm d) : Ev (tCB (rReprJ K) (tCons te tNil)) σ H (.str d.shown) :=
  ev_cb (ea_cons h ea_nil) fun H1 e Q q => ⟨v, d, rfl, hd.ex e, s.a, Nat.le_trans s.b (by rw [sizeLine_eq]; omega), Nat.le_trans s.c (by decide), q H1 (Ex.refl H1)⟩
theorem ev_reprK {vs : List V} {ds : List PyData} (h : EvL te σ H vs) (hd : DjAll K H vs ds) (s : SmAll ds) (hl : ds.length ≤ 100) : Ev (tCB (rReprK K) (tCons te tNil)) σ H (.str (PyData.list ds).shown) := fun H1 e Q q =>
  h H1 e _ fun p H2 hp e2 h2 => ⟨p, vs, ds, rfl, sq_of h2, hd.ex (e.trans e2), (s.list hl).1, (s.list hl).2.1, (s.list hl).2.2, q H2 e2⟩
end
end L2

/-! k03: the law's own helpers. -/
namespace Evl
open PySem L2
theorem s_par {i j : Nat} {ta : TA} {v w : V} {D : Ends} {σ : St} {H : Hp} (h : EvA ta σ H [v, w]) (k : ∀ H1, Ex H H1 → D.nx ((σ.set i (some v)).set j (some w)) H1) : tPar i j ta D σ H := h H (Ex.refl H) _ fun H1 e => ⟨v, w, rfl, k H1 e⟩
theorem q_par {i j : Nat} {ta : TA} {v w : V} {D : Ends} {tz : TS} {σ : St} {H : Hp} (h : EvA ta σ H [v, w]) (k : ∀ H1, Ex H H1 → tz D ((σ.set i (some v)).set j (some w)) H1) : tSeq (tPar i j ta) tz D σ H := s_par (D := { D with nx := tz D }) h k
end Evl
namespace Dg
open PySem L2 Evl TL
open Dr (StAt SameB spDraw)


theorem len_t (x : Str) : x.length = (tl x).length := by
  show x.cps.size = _
  exact Array.length_toList.symm
section
variable {P : Program} {w : World} {K : PySem.W.Frag} {mg : Str → Option Value} {base : Heap} {fld flp : Addr}
theorem ev_lenX {K : PySem.W.Frag} {σ : St} {H : Hp} {te : TE} {x : Str} (h : Ev te σ H (.str x)) (hz : x.length ≤ 100000) : Ev (tCB (fun xs H Q => ∃ z, xs = [.str z] ∧ z.length ≤ sizeLine ∧ Q (.int z.length) H) (tCons te tNil)) σ H (.int x.length) := fun H1 e Q q =>
  h H1 e _ fun H2 e2 => ⟨x, rfl, sz_of hz, q H2 e2⟩
theorem ev_cutS {σ : St} {H : Hp} {te : TE} {tl th : TO} {x : Str} {lo hi : Option Int} (h : Ev te σ H (.str x)) (h1 : EvO tl σ H lo) (h2 : EvO th σ H hi) (hz : x.length ≤ 100000) : Ev (tSl rSlS te tl th) σ H (.str (cutS x lo hi)) := fun H1 e Q q =>
  h H1 e _ fun H2 e2 => h1 H2 (e.trans e2) _ fun H3 e3 => h2 H3 ((e.trans e2).trans e3) _ fun H4 e4 => ⟨x, rfl, sz_of hz, q H4 ((e2.trans e3).trans e4)⟩
theorem digs_le {β n : Nat} (b2 : 2 ≤ β) (n2 : n < 2 ^ 50000) : (digs β n).length ≤ 50000 := by
  rw [digs_len]
  exact dl_lenB b2 50000 n (Nat.lt_of_lt_of_le n2 (Nat.pow_le_pow_left b2 _))
end
end Dg

namespace Evl
open PySem L2
/-- for c in x: a text, sign by sign -/
theorem s_forS {x : Str} {σ : St} {H : Hp} {te : TE} {j : Nat} {tu : TS} {D : Ends} (h : Ev te σ H (.str x)) (Pv : Nat → St → Hp → Prop) (h0 : ∀ H1, Ex H H1 → Pv 0 σ H1)
    (hs : ∀ (i c : Nat) σ' H', x.cps[i]? = some c → Pv i σ' H' → tu { D with nx := Pv (i + 1), ct := Pv (i + 1), bk := D.nx } (σ'.set j (some (.str ⟨#[c]⟩))) H') (hd : ∀ σ' H', Pv x.cps.size σ' H' → D.nx σ' H') : tFor (iStr te) (gName j) tu D σ H :=
  h H (Ex.refl H) _ fun H1 e => ⟨x, rfl, fun i m σ' H' => m = x.cps.size - i ∧ i ≤ x.cps.size ∧ Pv i σ' H', ⟨x.cps.size, by simp, Nat.zero_le _, h0 H1 e⟩, by
    rintro i m σ' H' ⟨rfl, hi, p⟩
    by_cases hlt : i < x.cps.size
    · refine .inr ⟨hlt, Pv (i + 1), fun σ2 H2 p' => ⟨x.cps.size - (i + 1), by omega, rfl, hlt, p'⟩, fun y H2 hy => ?_⟩
      obtain ⟨rfl, c, hc, rfl⟩ := hy
      exact hs i c σ' _ hc p
    · have e3 : i = x.cps.size := by omega
      subst e3
      exact .inl ⟨Nat.le_refl _, hd σ' H' p⟩⟩
end Evl
namespace Dg
open PySem L2 Evl TL
/-- the number that figures write -/
def numF (β : Nat) (cs : List Nat) : Nat := cs.foldl (fun a c => a * β + (c - 48)) 0
theorem numF_snoc (β : Nat) (cs : List Nat) (c : Nat) : numF β (cs ++ [c]) = numF β cs * β + (c - 48) := by simp [numF, List.foldl_append]
theorem int_fig {d : Nat} (h : d < 10) : PySem.intText? ⟨#[48 + d]⟩ = some (d : Int) := by
  have c : d = 0 ∨ d = 1 ∨ d = 2 ∨ d = 3 ∨ d = 4 ∨ d = 5 ∨ d = 6 ∨ d = 7 ∨ d = 8 ∨ d = 9 := by omega
  rcases c with rfl | rfl | rfl | rfl | rfl | rfl | rfl | rfl | rfl | rfl <;> decide +kernel
/-- a text of 1 to 4,000 digits of a base without a zero in front -/
def isNumeral (β : Nat) (x : Str) : Bool := isFigs β 4000 x && !decide ((tl x)[0]? = some 48)
def numO (β : Nat) : Option Str → Bool
  | some x => isNumeral β x
  | none => false
section
variable {P : Program} {w : World} {K : PySem.W.Frag} {mg : Str → Option Value} {base : Heap}
def spWorth : Sp := fun vs H Q _ => ∃ (β : Nat) (x : Str), vs = [.int β, .str x] ∧ 2 ≤ β ∧ β ≤ 10 ∧ (∀ c ∈ tl x, 48 ≤ c ∧ c < 48 + β) ∧ RetV (.int (numF β (tl x))) H Q
theorem scWorth : FnScope ["base", "figures", "number", "figure"] ["base", "figures"] (defScope sWorth) := ⟨rfl, rfl, rfl, by decide +kernel, rfl, by decide +kernel, by decide +kernel⟩
theorem ok_worth {f : Addr} {fd : FuncData} (F : Fun K "worth" "worth" sWorth f fd) (mI : mg "int" = none) : FnOk P w K mg base CX0 1 f fd ["base", "figures"] spWorth := by
  refine F.ok scWorth (fun vs H Q E h => ?_) (fun cdv A outer s H vs Q E hr h => ?_)
  · obtain ⟨_, _, rfl, _⟩ := h
    rfl
  · obtain ⟨β, x, rfl, b2, b10, hall, q⟩ := h
    refine ⟨_, pss_cons (ps_set (i := 2) scWorth.nd rfl (.inl rfl) pe_int)
      (pss_cons (ps_for PassesOwn.never rfl (pi_str (pv 1)) (pg_name (i := 3) scWorth.nd rfl (.inl rfl))
        (pss_one (ps_set (i := 2) scWorth.nd rfl (.inl rfl) (pe_op op_add (pe_op op_mul (pv 2) (pv 0)) (pe_callTy call_int_str (by rfl) mI (by decide +kernel) (pa_cons (pv 3) pa_nil))))))
      (pss_one (ps_ret (pv 2)))), ?_⟩
    refine q_asg (v := .int 0) ev_c fun H1 e1 => ?_
    have hsz : (tl x).length = x.cps.size := Array.length_toList
    refine s_forS (x := x) (D := { nx := tRet (tVar 2) { nx := fun _ H' => Q .non H', rt := Q }, rt := Q }) (ev_var rfl) (fun i σ H' => Ex H H' ∧ ∃ x3, σ = [some (.int β), some (.str x), some (.int (numF β ((tl x).take i))), x3])
      (fun H3 e3 => ⟨e1.trans e3, none, rfl⟩) (fun i c σ H3 hc ⟨e3, x3, hσ⟩ => ?_) (fun σ H3 ⟨e3, x3, hσ⟩ => ?_)
    · subst hσ
      have hc' : (tl x)[i]? = some c := by
        show x.cps.toList[i]? = some c
        rw [Array.getElem?_toList]
        exact hc
      obtain ⟨ha, hb2⟩ := hall c (List.mem_of_getElem? hc')
      refine ⟨_, rfl, _, rfl, _, _, rfl, rfl, .inr ⟨by omega, by omega⟩, _, rfl, _, ((c - 48 : Nat) : Int), rfl, ?_, (by show (1 : Nat) ≤ 640; decide), _, _, rfl, rfl, e3, some (.str ⟨#[c]⟩), ?_⟩
      · obtain ⟨d, rfl⟩ : ∃ d, c = 48 + d := ⟨c - 48, by omega⟩
        rw [Nat.add_sub_cancel_left]
        exact int_fig (by omega)
      · have e4 : (tl x).take (i + 1) = (tl x).take i ++ [c] := by
          rw [List.take_add_one, hc']
          rfl
        rw [e4, numF_snoc]
        simp
    · subst hσ
      refine ⟨_, rfl, ?_⟩
      rw [List.take_of_length_le (by rw [hsz]; exact Nat.le_refl _)]
      exact q H3 e3
end
end Dg

/-! k09: readers, where nothing is refused. -/
namespace Dg
open PySem L2 Evl TL
abbrev sRaised : Stmt := top 27
abbrev sBehind : Stmt := top 28
abbrev sNeedRd : Stmt := top 57
abbrev sReplaced : Stmt := top 58
abbrev sCompleted : Stmt := top 59
/-- a statement that is not come to -/
theorem ps_no {X : Cx} {st : Stmt} : PS X st (fun _ _ _ => False) := ⟨fun _ _ _ _ _ _ h => h.elim⟩
structure TxP (K : PySem.W.Frag) (mg : Str → Option Value) (fi fnum ff fnb fnn fra fbe fwo fnr frp ar : Addr) : Prop extends TxI K mg fi where
  range : mg "range" = none
  many : ∃ t, mg "MOST_TAIL" = some (.int 1000 t)
  isNum : mg "is_number" = some (.ref fnum)
  kNum : PySem.W.keepIn K (.ref fnum) = true
  isFig : mg "is_figures" = some (.ref ff)
  kFig : PySem.W.keepIn K (.ref ff) = true
  needB : mg "need_base" = some (.ref fnb)
  kNB : PySem.W.keepIn K (.ref fnb) = true
  needN : mg "need_number" = some (.ref fnn)
  kNN : PySem.W.keepIn K (.ref fnn) = true
  raised : mg "raised" = some (.ref fra)
  kRa : PySem.W.keepIn K (.ref fra) = true
  behind : mg "behind" = some (.ref fbe)
  kBe : PySem.W.keepIn K (.ref fbe) = true
  worth : mg "worth" = some (.ref fwo)
  kWo : PySem.W.keepIn K (.ref fwo) = true
  needRd : mg "need_reader" = some (.ref fnr)
  kNR : PySem.W.keepIn K (.ref fnr) = true
  repl : mg "replaced" = some (.ref frp)
  kRp : PySem.W.keepIn K (.ref frp) = true
  readers : mg "READERS" = some (.ref ar)
  rd : ∀ H : Hp, SqT K H ar [.str "replace", .str "next"]
/-- what "next" tells -/
def nxtI (f S v : Int) : Int := f + 1 + (v - f - 1) % S
/-- what "replace" tells -/
def rplV (f S v : Int) (z : Bool) : V := if decide (f < S) && z then .non else if decide (f < f - f % S + v) then .int (f - f % S + v) else .non
/-- a tail begins with 0 -/
def zeroAt (x : Str) : Bool := decide ((tl x)[0]? = some 48)
theorem fig_all {β m : Nat} {x : Str} (h : isFigs β m x = true) : 1 ≤ x.length ∧ x.length ≤ m ∧ ∀ c ∈ tl x, 48 ≤ c ∧ c < 48 + β := by
  unfold isFigs at h
  obtain ⟨h1, h2⟩ := Bool.and_eq_true_iff.mp h
  obtain ⟨h3, h4⟩ := Bool.and_eq_true_iff.mp h1
  exact ⟨of_decide_eq_true h3, of_decide_eq_true h4, fun c hc => of_decide_eq_true (List.all_eq_true.mp h2 c hc)⟩
section
variable {P : Program} {w : World} {K : PySem.W.Frag} {mg : Str → Option Value} {base : Heap} {fi fnum ff fnb fnn fra fbe fwo fnr frp ar : Addr}
def spNeedBv : Sp := fun vs H Q _ => ∃ β : Nat, vs = [.int β] ∧ 2 ≤ β ∧ β ≤ 10 ∧ RetV .non H Q
theorem scNeedBv : FnScope ["base"] ["base"] (defScope sNeedB) := ⟨rfl, rfl, rfl, by decide +kernel, rfl, by decide +kernel, by decide +kernel⟩
theorem ok_needBv {f : Addr} {fd fdi : FuncData} (F : Fun K "need_base" "need_base" sNeedB f fd) (GI : FnOk P w K mg base CX0 1 fi fdi ["value"] (spIsInt K)) (bI : Binds K fdi ["value"] []) (T : TxI K mg fi) : FnOk P w K mg base CX0 2 f fd ["base"] spNeedBv := by
  refine F.ok scNeedBv (fun vs H Q E h => ?_) (fun cdv A outer s H vs Q E hr h => ?_)
  · obtain ⟨_, rfl, _⟩ := h
    rfl
  · obtain ⟨β, rfl, b2, b10, q⟩ := h
    obtain ⟨t1, hl⟩ := T.least
    obtain ⟨t2, hm⟩ := T.most
    refine ⟨_, pss_one (ps_if (PW.pt (pw_or (pt_not (pt_val (pe_call GI hr (by rfl) T.isInt T.kInt bI .nil pass0 (pa_cons (pv 0) pa_nil)))) (pw_or1 (pt_not (pt_chain op_le op_le (pe_glob (by rfl) hl (v := .int 2) ⟨_, rfl⟩) (pv 0) (pe_glob (by rfl) hm (v := .int 10) ⟨_, rfl⟩))))))
      (pss_one ps_no) pss_nil), ?_⟩
    refine s_when (b := false) (et_is (et_or (a := false) (b := false) (et_not (et_B (ev_callI (ev_var rfl) (.int β)))) fun _ => et_is (et_not (et_test (ev_chI ev_c (ev_var rfl) ev_c))) (by rw [decide_eq_true (show (2 : Int) ≤ β by omega), decide_eq_true (show (β : Int) ≤ 10 by omega)]; rfl)) rfl) (fun z => nomatch z) fun _ H1 e => q H1 e
def spNeedNv : Sp := fun vs H Q _ => ∃ n : Nat, vs = [.int n] ∧ 1 ≤ n ∧ RetV .non H Q
theorem scNeedNv : FnScope ["number"] ["number"] (defScope sNeedN) := ⟨rfl, rfl, rfl, by decide +kernel, rfl, by decide +kernel, by decide +kernel⟩
theorem ok_needNv {f : Addr} {fd fdn : FuncData} (F : Fun K "need_number" "need_number" sNeedN f fd) (GN : FnOk P w K mg base CX0 2 fnum fdn ["value"] (spIsNum K)) (bN : Binds K fdn ["value"] []) (T : TxP K mg fi fnum ff fnb fnn fra fbe fwo fnr frp ar) : FnOk P w K mg base CX0 3 f fd ["number"] spNeedNv := by
  refine F.ok scNeedNv (fun vs H Q E h => ?_) (fun cdv A outer s H vs Q E hr h => ?_)
  · obtain ⟨_, rfl, _⟩ := h
    rfl
  · obtain ⟨n, rfl, n1, q⟩ := h
    refine ⟨_, pss_one (ps_if (pt_not (pt_val (pe_call GN hr (by rfl) T.isNum T.kNum bN .nil pass0 (pa_cons (pv 0) pa_nil)))) (pss_one ps_no) pss_nil), ?_⟩
    have nm : Nm K H (.int n) true := by
      rw [← show decide ((1 : Int) ≤ n) = true from decide_eq_true (by omega)]
      exact .int _
    refine s_when (b := false) (et_is (et_not (et_B (ev_call (z := .bl true) (ea_cons (ev_var rfl) ea_nil) fun H1 e Q q E => ⟨_, true, rfl, nm.ex e, fun H2 e2 => q H2 e2⟩))) rfl) (fun z => nomatch z) fun _ H1 e => q H1 e
def spNeedRd : Sp := fun vs H Q _ => ∃ r : Str, vs = [.str r] ∧ (r = "next" ∨ r = "replace") ∧ RetV .non H Q
theorem scNeedRd : FnScope ["reader"] ["reader"] (defScope sNeedRd) := ⟨rfl, rfl, rfl, by decide +kernel, rfl, by decide +kernel, by decide +kernel⟩
theorem ok_needRd {f : Addr} {fd : FuncData} (F : Fun K "need_reader" "need_reader" sNeedRd f fd) (T : TxP K mg fi fnum ff fnb fnn fra fbe fwo fnr frp ar) : FnOk P w K mg base CX0 1 f fd ["reader"] spNeedRd := by
  refine F.ok scNeedRd (fun vs H Q E h => ?_) (fun cdv A outer s H vs Q E hr h => ?_)
  · obtain ⟨_, rfl, _⟩ := h
    rfl
  · obtain ⟨r, rfl, hr', q⟩ := h
    refine ⟨_, pss_one (ps_if (PW.pt (pw_or (pt_not (pt_val (pe_callB call_isi (by rfl) T.isi (by decide +kernel) (pa_cons (pv 0) (pa_cons (pe_bltn (by rfl) T.str (by decide +kernel) (v := .ty "str") rfl) pa_nil))))) (pw_or1 (pt_cmpR op_notIn_seq (pv 0) (pe_glob (by rfl) T.readers (v := .ref ar) rfl) (by rfl))))) (pss_one ps_no) pss_nil), ?_⟩
    refine s_when (b := false) (et_is (et_or (a := false) (b := false) (et_not (et_B (ev_isi (r := true) (ev_var rfl) (.base (.str r)) (by decide +kernel)))) fun _ => et_is (et_test (ev_op (ev_var rfl) ev_c (rv_niT (T.rd H) rfl rfl))) ?_) rfl) (fun z => nomatch z) fun _ H1 e => q H1 e
    rcases hr' with rfl | rfl <;> decide +kernel
def spRaisedP : Sp := fun vs H Q _ => ∃ β k : Nat, vs = [.int β, .int k] ∧ 2 ≤ β ∧ β ≤ 10 ∧ k ≤ 100000 ∧ RetV (.int ((β ^ k : Nat) : Int)) H Q
theorem scRaisedP : FnScope ["base", "exponent", "power", "step"] ["base", "exponent"] (defScope sRaised) := ⟨rfl, rfl, rfl, by decide +kernel, rfl, by decide +kernel, by decide +kernel⟩
theorem ok_raisedP {f : Addr} {fd : FuncData} (F : Fun K "raised" "raised" sRaised f fd) (mR : mg "range" = none) : FnOk P w K mg base CX0 1 f fd ["base", "exponent"] spRaisedP := by
  refine F.ok scRaisedP (fun vs H Q E h => ?_) (fun cdv A outer s H vs Q E hr h => ?_)
  · obtain ⟨_, _, rfl, _⟩ := h
    rfl
  · obtain ⟨β, k, rfl, b2, b10, kz, q⟩ := h
    refine ⟨_, pss_cons (ps_set (i := 2) scRaisedP.nd rfl (.inl rfl) pe_int) (pss_cons (ps_for PassesOwn.never rfl (pi_range1 (by rfl) mR (pa_cons (pv 1) pa_nil)) (pg_name (i := 3) scRaisedP.nd rfl (.inl rfl))
        (pss_one (ps_set (i := 2) scRaisedP.nd rfl (.inl rfl) (pe_op op_mul (pv 2) (pv 0)))))
      (pss_one (ps_ret (pv 2)))), ?_⟩
    refine q_asg (v := .int 1) ev_c fun H1 e1 => ?_
    refine q_forR1 (n := (k : Int)) (ea_cons (ev_var rfl) ea_nil) (by omega) (fun i σ H' => Ex H H' ∧ ∃ x3, σ = [some (.int β), some (.int (k : Int)), some (.int ((β ^ i : Nat) : Int)), x3]) (fun H2 e2 => ⟨e1.trans e2, none, rfl⟩)
      (fun i σ H2 hi ⟨e2, x3, hσ⟩ => ?_) (fun σ H2 ⟨e2, x3, hσ⟩ => ?_)
    · subst hσ
      refine ⟨_, rfl, _, rfl, _, _, rfl, rfl, .inr ⟨by omega, by omega⟩, e2, some (.int (i : Int)), ?_⟩
      rw [Nat.pow_succ]
      simp
    · subst hσ
      exact ⟨_, rfl, q _ e2⟩
def spBehind : Sp := fun vs H Q _ => ∃ f v S : Int, vs = [.int f, .int v, .int S] ∧ 0 < S ∧ RetV (.int (nxtI f S v)) H Q
theorem scBehind : FnScope ["number", "remainder", "step"] ["number", "remainder", "step"] (defScope sBehind) := ⟨rfl, rfl, rfl, by decide +kernel, rfl, by decide +kernel, by decide +kernel⟩
theorem ok_behind {f : Addr} {fd : FuncData} (F : Fun K "behind" "behind" sBehind f fd) : FnOk P w K mg base CX0 1 f fd ["number", "remainder", "step"] spBehind := by
  refine F.ok scBehind (fun vs H Q E h => ?_) (fun cdv A outer s H vs Q E hr h => ?_)
  · obtain ⟨_, _, _, rfl, _⟩ := h
    rfl
  · obtain ⟨f, v, S, rfl, s0, q⟩ := h
    refine ⟨_, pss_one (ps_ret (pe_op op_add (pe_op op_add (pv 0) pe_int) (pe_op op_mod (pe_op op_sub (pe_op op_sub (pv 1) (pv 0)) pe_int) (pv 2)))), ?_⟩
    exact s_ret (ev_op (ev_op (ev_var rfl) ev_c rv_I0) (ev_op (ev_op (ev_op (ev_var rfl) (ev_var rfl) rv_I0) ev_c rv_I0) (ev_var rfl) (rv_I s0)) rv_I0) fun H1 e => q H1 e
/-- x[0] == "0" -/
theorem ev_zero {σ : St} {H : Hp} {te : TE} {x : Str} (h : Ev te σ H (.str x)) (l1 : 1 ≤ x.length) (hz : x.length ≤ 100000) : EvT (tTest (tOp rEq (tOp rIxS te (tC (.int 0))) (tC (.str "0")))) σ H (zeroAt x) := by
  have hsz : (tl x).length = x.cps.size := Array.length_toList
  obtain ⟨c0, h0⟩ : ∃ c, (tl x)[0]? = some c := ⟨(tl x)[0]'(by rw [hsz]; exact l1), by rw [List.getElem?_eq_getElem]⟩
  refine et_is (et_test (ev_op (ev_op h ev_c (rv_ixS hz (atI_nat (j := 0) h0))) (y := .str "0") ev_c (rv_eq rfl))) ?_
  unfold zeroAt
  rw [h0]
  apply decide_eq_decide.mpr
  constructor
  · intro h
    injection h with h
    have h5 : ([c0] : List Nat) = [48] := (congrArg (fun y : Str => y.cps.toList) h).trans (by decide)
    injection h5 with h5
    rw [h5]
  · intro h
    injection h with h
    rw [h]
    rfl
theorem ev_worth {σ : St} {H : Hp} {ta tb : TE} {E : XK} {β : Nat} {x : Str} (ha : Ev ta σ H (.int β)) (hb : Ev tb σ H (.str x)) (b2 : 2 ≤ β) (b10 : β ≤ 10) (hx : ∀ c ∈ tl x, 48 ≤ c ∧ c < 48 + β) : Ev (tCall spWorth [] E (tCons ta (tCons tb tNil))) σ H (.int (numF β (tl x))) :=
  ev_call (ea_cons ha (ea_cons hb ea_nil)) fun H1 e Q q E => ⟨β, x, rfl, b2, b10, hx, fun H2 e2 => q H2 e2⟩
theorem ev_raisedP {σ : St} {H : Hp} {ta tb : TE} {E : XK} {β k : Nat} (ha : Ev ta σ H (.int β)) (hb : Ev tb σ H (.int k)) (b2 : 2 ≤ β) (b10 : β ≤ 10) (k2 : k ≤ 100000) : Ev (tCall spRaisedP [] E (tCons ta (tCons tb tNil))) σ H (.int ((β ^ k : Nat) : Int)) :=
  ev_call (ea_cons ha (ea_cons hb ea_nil)) fun H1 e Q q E => ⟨β, k, rfl, b2, b10, k2, fun H2 e2 => q H2 e2⟩
def spReplaced : Sp := fun vs H Q _ => ∃ (β f : Nat) (x : Str), vs = [.int β, .int f, .str x] ∧ 2 ≤ β ∧ β ≤ 10 ∧ isFigs β 1000 x = true ∧ RetV (rplV f ((β ^ x.length : Nat) : Int) (numF β (tl x)) (zeroAt x)) H Q
theorem scReplaced : FnScope ["base", "first", "tail", "power", "number"] ["base", "first", "tail"] (defScope sReplaced) := ⟨rfl, rfl, rfl, by decide +kernel, rfl, by decide +kernel, by decide +kernel⟩
theorem ok_replaced {f : Addr} {fd fdr fdw : FuncData} (F : Fun K "replaced" "replaced" sReplaced f fd) (GR : FnOk P w K mg base CX0 1 fra fdr ["base", "exponent"] spRaisedP) (bR : Binds K fdr ["base", "exponent"] []) (GW : FnOk P w K mg base CX0 1 fwo fdw ["base", "figures"] spWorth) (bW : Binds K fdw ["base", "figures"] [])
    (T : TxP K mg fi fnum ff fnb fnn fra fbe fwo fnr frp ar) : FnOk P w K mg base CX0 2 f fd ["base", "first", "tail"] spReplaced := by
  refine F.ok scReplaced (fun vs H Q E h => ?_) (fun cdv A outer s H vs Q E hr h => ?_)
  · obtain ⟨_, _, _, rfl, _⟩ := h
    rfl
  · obtain ⟨β, f, x, rfl, b2, b10, hx, q⟩ := h
    obtain ⟨l1, l2, hc⟩ := fig_all hx
    refine ⟨_, pss_cons (ps_set (i := 3) scReplaced.nd rfl (.inl rfl) (pe_call GR hr (by rfl) T.raised T.kRa bR .nil pass0 (pa_cons (pv 0) (pa_cons (pe_callB call_len_str (by rfl) T.len (by decide +kernel) (pa_cons (pv 2) pa_nil)) pa_nil))))
      (pss_cons (ps_if (PW.pt (pw_and (pt_cmpR op_lt (pv 1) (pv 3) (nomark _)) (pw_and1 (pt_cmpR op_eq (pe_ix ix_str (pv 2) pe_int (fun _ _ => rfl)) pe_str (nomark _))))) (pss_one (ps_ret pe_non)) pss_nil)
      (pss_cons (ps_set (i := 4) scReplaced.nd rfl (.inl rfl) (pe_op op_add (pe_op op_sub (pv 1) (pe_op op_mod (pv 1) (pv 3))) (pe_call GW hr (by rfl) T.worth T.kWo bW .nil pass0 (pa_cons (pv 0) (pa_cons (pv 2) pa_nil)))))
      (pss_one (ps_ret (pe_ifExp (pt_cmpR op_gt (pv 4) (pv 1) (nomark _)) (pv 4) pe_non))))), ?_⟩
    obtain ⟨S, hS⟩ : ∃ S : Nat, S = β ^ x.length := ⟨_, rfl⟩
    have s0 : 0 < S := by
      rw [hS]
      exact Nat.pow_pos (by omega)
    have q' : ∀ v, v = rplV f (S : Int) (numF β (tl x)) (zeroAt x) → RetV v H Q := fun v hv => by
      rw [hv, hS]
      exact q
    clear q
    refine q_asg (v := .int (S : Int)) (by rw [hS]; exact ev_raisedP (ev_var rfl) (ev_lenX (K := K) (ev_var rfl) (by omega)) b2 b10 (by omega)) fun H1 e1 => ?_
    refine q_when (b := decide ((f : Int) < (S : Int)) && zeroAt x) (et_and (et_test (ev_op (ev_var rfl) (ev_var rfl) rv_I0)) fun _ => ev_zero (ev_var rfl) l1 (by omega)) (fun z H2 e2 => ?_) (fun z H2 e2 => ?_)
    · exact s_ret ev_c fun H3 e3 => q' _ (by unfold rplV; rw [z]; rfl) H3 ((e1.trans e2).trans e3)
    · refine q_asg (v := .int ((f : Int) - (f : Int) % (S : Int) + (numF β (tl x) : Int))) (ev_op (ev_op (ev_var rfl) (ev_op (ev_var rfl) (ev_var rfl) (rv_I (by omega))) rv_I0) (ev_worth (ev_var rfl) (ev_var rfl) b2 b10 hc) rv_I0) fun H3 e3 => ?_
      refine s_ret (ev_if (b := decide ((f : Int) < (f : Int) - (f : Int) % (S : Int) + (numF β (tl x) : Int))) (v := rplV f (S : Int) (numF β (tl x)) (zeroAt x)) (et_test (ev_op (ev_var rfl) (ev_var rfl) rv_I0)) (fun y => ev_is (ev_var rfl) ?_) (fun y => ev_is ev_c ?_)) fun H4 e4 => q' _ rfl H4 (((e1.trans e2).trans e3).trans e4)
      · unfold rplV
        rw [z, y]
        rfl
      · unfold rplV
        rw [z, y]
        rfl
def cmpl (r : Str) (f S v : Int) (z : Bool) : V := if r = "replace" then rplV f S v z else .int (nxtI f S v)
def spCompl : Sp := fun vs H Q _ => ∃ (r : Str) (β f : Nat) (x : Str), vs = [.str r, .int β, .int f, .str x] ∧ (r = "next" ∨ r = "replace") ∧ 2 ≤ β ∧ β ≤ 10 ∧ 1 ≤ f ∧ isFigs β 1000 x = true ∧ RetV (cmpl r f ((β ^ x.length : Nat) : Int) (numF β (tl x)) (zeroAt x)) H Q
theorem scCompl : FnScope ["reader", "base", "first", "tail"] ["reader", "base", "first", "tail"] (defScope sCompleted) := ⟨rfl, rfl, rfl, by decide +kernel, rfl, by decide +kernel, by decide +kernel⟩
theorem ok_compl {f : Addr} {fd fdr fdw fdb fdn fdd fdf fdp fdh : FuncData} (F : Fun K "completed" "completed" sCompleted f fd) (GR : FnOk P w K mg base CX0 3 fra fdr ["base", "exponent"] spRaisedP) (bR : Binds K fdr ["base", "exponent"] []) (GW : FnOk P w K mg base CX0 3 fwo fdw ["base", "figures"] spWorth) (bW : Binds K fdw ["base", "figures"] [])
    (GB : FnOk P w K mg base CX0 3 fnb fdb ["base"] spNeedBv) (bB : Binds K fdb ["base"] []) (GN : FnOk P w K mg base CX0 3 fnn fdn ["number"] spNeedNv) (bN : Binds K fdn ["number"] []) (GD : FnOk P w K mg base CX0 3 fnr fdd ["reader"] spNeedRd) (bD : Binds K fdd ["reader"] [])
    (GF : FnOk P w K mg base CX0 3 ff fdf ["base", "value", "most"] (spIsFig K)) (bF : Binds K fdf ["base", "value", "most"] []) (GP : FnOk P w K mg base CX0 3 frp fdp ["base", "first", "tail"] spReplaced) (bP : Binds K fdp ["base", "first", "tail"] []) (GH : FnOk P w K mg base CX0 3 fbe fdh ["number", "remainder", "step"] spBehind) (bH : Binds K fdh ["number", "remainder", "step"] [])
    (T : TxP K mg fi fnum ff fnb fnn fra fbe fwo fnr frp ar) : FnOk P w K mg base CX0 4 f fd ["reader", "base", "first", "tail"] spCompl := by
  refine F.ok scCompl (fun vs H Q E h => ?_) (fun cdv A outer s H vs Q E hr h => ?_)
  · obtain ⟨_, _, _, _, rfl, _⟩ := h
    rfl
  · obtain ⟨r, β, f, x, rfl, hrd, b2, b10, f1, hx, q⟩ := h
    obtain ⟨l1, l2, hc⟩ := fig_all hx
    obtain ⟨t4, hm⟩ := T.many
    refine ⟨_, pss_cons (ps_expr (pe_call GD hr (by rfl) T.needRd T.kNR bD .nil pass0 (pa_cons (pv 0) pa_nil)))
      (pss_cons (ps_expr (pe_call GB hr (by rfl) T.needB T.kNB bB .nil pass0 (pa_cons (pv 1) pa_nil)))
      (pss_cons (ps_expr (pe_call GN hr (by rfl) T.needN T.kNN bN .nil pass0 (pa_cons (pv 2) pa_nil)))
      (pss_cons (ps_if (pt_not (pt_val (pe_call GF hr (by rfl) T.isFig T.kFig bF .nil pass0 (pa_cons (pv 1) (pa_cons (pv 3) (pa_cons (pe_glob (by rfl) hm (v := .int 1000) ⟨_, rfl⟩) pa_nil)))))) (pss_one ps_no) pss_nil)
      (pss_cons (ps_if (pt_cmpR op_eq (pv 0) pe_str (nomark _)) (pss_one (ps_ret (pe_call GP hr (by rfl) T.repl T.kRp bP .nil pass0 (pa_cons (pv 1) (pa_cons (pv 2) (pa_cons (pv 3) pa_nil)))))) pss_nil)
      (pss_one (ps_ret (pe_call GH hr (by rfl) T.behind T.kBe bH .nil pass0 (pa_cons (pv 2) (pa_cons (pe_call GW hr (by rfl) T.worth T.kWo bW .nil pass0 (pa_cons (pv 1) (pa_cons (pv 3) pa_nil))) (pa_cons (pe_call GR hr (by rfl) T.raised T.kRa bR .nil pass0 (pa_cons (pv 1) (pa_cons (pe_callB call_len_str (by rfl) T.len (by decide +kernel) (pa_cons (pv 3) pa_nil)) pa_nil))) pa_nil)))))))))), ?_⟩
    refine q_drop (v := .non) (ev_call (ea_cons (ev_var rfl) ea_nil) fun H1 e Q q E => ⟨r, rfl, hrd, fun H2 e2 => q H2 e2⟩) fun H1 e1 => ?_
    refine q_drop (v := .non) (ev_call (ea_cons (ev_var rfl) ea_nil) fun H1 e Q q E => ⟨β, rfl, b2, b10, fun H2 e2 => q H2 e2⟩) fun H2 e2 => ?_
    refine q_drop (v := .non) (ev_call (ea_cons (ev_var rfl) ea_nil) fun H1 e Q q E => ⟨f, rfl, f1, fun H2 e2 => q H2 e2⟩) fun H3 e3 => ?_
    refine q_when (b := false) (et_is (et_not (et_B (ev_call (z := .bl (figsO β 1000 (some x))) (ea_cons (ev_var rfl) (ea_cons (ev_var rfl) (ea_cons ev_c ea_nil))) fun H1 e Q q E => ⟨β, 1000, .str x, some x, rfl, b2, b10, by decide, .str x, fun y hy => by cases hy; rw [sizeLine_eq]; omega, fun H2 e2 => q H2 e2⟩))) (by
      show (!isFigs β 1000 x) = false
      rw [hx]
      rfl)) (fun z => nomatch z) fun _ H4 e4 => ?_
    have e14 := ((e1.trans e2).trans e3).trans e4
    refine q_when (b := decide (V.str r = V.str "replace")) (et_test (ev_op (ev_var rfl) ev_c (rv_eq rfl))) (fun z H5 e5 => ?_) (fun z H5 e5 => ?_)
    · have hz : r = "replace" := by
        have := of_decide_eq_true z
        injection this
      refine s_ret (ev_call (z := cmpl r f ((β ^ x.length : Nat) : Int) (numF β (tl x)) (zeroAt x)) (ea_cons (ev_var rfl) (ea_cons (ev_var rfl) (ea_cons (ev_var rfl) ea_nil))) fun H1 e Q q E => ⟨β, f, x, rfl, b2, b10, hx, fun H2 e2 => ?_⟩) fun H6 e6 => q H6 ((e14.trans e5).trans e6)
      have := q H2 e2
      unfold cmpl at this
      rw [if_pos hz] at this
      exact this
    · have hz : ¬ r = "replace" := fun y => by
        have := of_decide_eq_false z
        exact this (by rw [y])
      obtain ⟨S, hS⟩ : ∃ S : Nat, S = β ^ x.length := ⟨_, rfl⟩
      have s0 : 0 < S := by
        rw [hS]
        exact Nat.pow_pos (by omega)
      refine s_ret (ev_call (z := .int (nxtI f (S : Int) (numF β (tl x)))) (vs := [.int f, .int (numF β (tl x)), .int (S : Int)]) (ea_cons (ev_var rfl) (ea_cons (ev_worth (ev_var rfl) (ev_var rfl) b2 b10 hc) (ea_cons (by rw [hS]; exact ev_raisedP (ev_var rfl) (ev_lenX (K := K) (ev_var rfl) (by omega)) b2 b10 (by omega)) ea_nil))) fun H1 e Q q E => ⟨f, numF β (tl x), S, rfl, by omega, fun H2 e2 => q H2 e2⟩) fun H6 e6 => ?_
      have := q H6 ((e14.trans e5).trans e6)
      unfold cmpl at this
      rw [if_neg hz] at this
      rw [hS]
      exact this
end
end Dg

/-! k09: what figures write. -/
namespace Dg
open PySem L2 Evl TL
theorem numF_digs {β : Nat} (hb : 2 ≤ β) : ∀ n : Nat, numF β (tl (digs β n)) = n := by
  intro n
  rw [tl_digs]
  induction n using Nat.strongRecOn with
  | ind n ih =>
    by_cases hn : n = 0
    · subst hn
      rfl
    · rw [dl_step hb (by omega), List.reverse_cons, List.map_append]
      show numF β (_ ++ [48 + n % β]) = n
      rw [numF_snoc, ih (n / β) (Nat.div_lt_self (by omega) (by omega)), Nat.add_sub_cancel_left, Nat.mul_comm]
      exact Nat.div_add_mod n β
theorem dl_last {β : Nat} (hb : 2 ≤ β) : ∀ n : Nat, 0 < n → ∃ d, 0 < d ∧ (dl β n).reverse[0]? = some d := by
  intro n
  induction n using Nat.strongRecOn with
  | ind n ih =>
    intro hn
    rw [dl_step hb hn, List.reverse_cons]
    by_cases hd : n / β = 0
    · rw [hd, dl_zero]
      refine ⟨n % β, ?_, rfl⟩
      have := Nat.div_add_mod n β
      rw [hd, Nat.mul_zero, Nat.zero_add] at this
      omega
    · obtain ⟨d, h0, h1⟩ := ih (n / β) (Nat.div_lt_self hn (by omega)) (Nat.pos_of_ne_zero hd)
      refine ⟨d, h0, ?_⟩
      have hl : 0 < (dl β (n / β)).reverse.length := by
        cases hq : (dl β (n / β)).reverse with
        | nil => rw [hq] at h1; cases h1
        | cons x y => simp
      rw [List.getElem?_append_left hl]
      exact h1
abbrev Figs (β : Nat) (cs : List Nat) : Prop := ∀ c ∈ cs, 48 ≤ c ∧ c < 48 + β
theorem numF_from (β : Nat) : ∀ (cs : List Nat) (a : Nat), cs.foldl (fun a c => a * β + (c - 48)) a = a * β ^ cs.length + numF β cs
  | [], a => by simp [numF]
  | c :: cs, a => by
    rw [List.foldl_cons, numF_from β cs, List.length_cons, Nat.pow_succ]
    show _ = a * (β ^ cs.length * β) + cs.foldl (fun a c => a * β + (c - 48)) (0 * β + (c - 48))
    rw [numF_from β cs, Nat.add_mul, Nat.zero_mul, Nat.zero_add]
    have e : a * β * β ^ cs.length = a * (β ^ cs.length * β) := by rw [Nat.mul_assoc, Nat.mul_comm β]
    omega
theorem numF_cons (β c : Nat) (cs : List Nat) : numF β (c :: cs) = (c - 48) * β ^ cs.length + numF β cs := by
  show cs.foldl (fun a c => a * β + (c - 48)) (0 * β + (c - 48)) = _
  rw [numF_from, Nat.zero_mul, Nat.zero_add]
theorem numF_app (β : Nat) (xs ys : List Nat) : numF β (xs ++ ys) = numF β xs * β ^ ys.length + numF β ys := by
  show (xs ++ ys).foldl (fun a c => a * β + (c - 48)) 0 = _
  rw [List.foldl_append, numF_from]
  rfl
theorem numF_lt {β : Nat} : ∀ {cs : List Nat}, Figs β cs → numF β cs < β ^ cs.length
  | [], _ => by simp [numF]
  | c :: cs, h => by
    have h1 := h c (List.mem_cons_self ..)
    have h2 := numF_lt fun x hx => h x (List.mem_cons_of_mem _ hx)
    rw [numF_cons, List.length_cons, Nat.pow_succ]
    have h3 : (c - 48 + 1) * β ^ cs.length ≤ β * β ^ cs.length := Nat.mul_le_mul_right _ (by omega)
    rw [Nat.add_mul, Nat.one_mul] at h3
    rw [Nat.mul_comm _ β]
    omega
theorem numF_inj {β : Nat} : ∀ {xs ys : List Nat}, Figs β xs → Figs β ys → xs.length = ys.length → numF β xs = numF β ys → xs = ys
  | [], [], _, _, _, _ => rfl
  | [], _ :: _, _, _, h, _ => by cases h
  | _ :: _, [], _, _, h, _ => by cases h
  | x :: xs, y :: ys, hx, hy, hl, h => by
    have hl' : xs.length = ys.length := by simpa using hl
    have x1 := hx x (List.mem_cons_self ..)
    have y1 := hy y (List.mem_cons_self ..)
    have fx : Figs β xs := fun c hc => hx c (List.mem_cons_of_mem _ hc)
    have fy : Figs β ys := fun c hc => hy c (List.mem_cons_of_mem _ hc)
    have lx := numF_lt fx
    have ly := numF_lt fy
    rw [numF_cons, numF_cons, hl'] at h
    rw [hl'] at lx
    have p : 0 < β ^ ys.length := by omega
    have d1 : ((x - 48) * β ^ ys.length + numF β xs) / β ^ ys.length = x - 48 := by
      rw [Nat.mul_comm, Nat.mul_add_div p, Nat.div_eq_of_lt lx, Nat.add_zero]
    have d2 : ((y - 48) * β ^ ys.length + numF β ys) / β ^ ys.length = y - 48 := by
      rw [Nat.mul_comm, Nat.mul_add_div p, Nat.div_eq_of_lt ly, Nat.add_zero]
    have e : x - 48 = y - 48 := by rw [← d1, ← d2, h]
    have e2 : x = y := by omega
    subst e2
    rw [numF_inj fx fy hl' (by omega)]
theorem lex_num {β : Nat} : ∀ {xs ys : List Nat}, Figs β xs → Figs β ys → xs.length = ys.length → (xs < ys ↔ numF β xs < numF β ys)
  | [], [], _, _, _ => by simp
  | [], _ :: _, _, _, h => by cases h
  | _ :: _, [], _, _, h => by cases h
  | x :: xs, y :: ys, hx, hy, hl => by
    have hl' : xs.length = ys.length := by simpa using hl
    have x1 := hx x (List.mem_cons_self ..)
    have y1 := hy y (List.mem_cons_self ..)
    have fx : Figs β xs := fun c hc => hx c (List.mem_cons_of_mem _ hc)
    have fy : Figs β ys := fun c hc => hy c (List.mem_cons_of_mem _ hc)
    have lx := numF_lt fx
    have ly := numF_lt fy
    have ih := lex_num fx fy hl'
    rw [List.cons_lt_cons_iff, numF_cons, numF_cons, hl', ih]
    rw [hl'] at lx
    rcases Nat.lt_trichotomy x y with z | z | z
    · have h3 : (x - 48 + 1) * β ^ ys.length ≤ (y - 48) * β ^ ys.length := Nat.mul_le_mul_right _ (by omega)
      rw [Nat.add_mul, Nat.one_mul] at h3
      constructor
      · intro _
        omega
      · intro _
        exact .inl z
    · subst z
      constructor
      · rintro (h | ⟨_, h⟩)
        · omega
        · omega
      · intro h
        exact .inr ⟨rfl, by omega⟩
    · have h3 : (y - 48 + 1) * β ^ ys.length ≤ (x - 48) * β ^ ys.length := Nat.mul_le_mul_right _ (by omega)
      rw [Nat.add_mul, Nat.one_mul] at h3
      constructor
      · rintro (h | ⟨h, _⟩)
        · omega
        · omega
      · intro h
        omega
theorem figs_digs {β n : Nat} (hb : 2 ≤ β) : Figs β (tl (digs β n)) := fun c hc => by
  rw [tl_digs] at hc
  obtain ⟨d, hd, rfl⟩ := List.mem_map.mp hc
  have := dl_lt hb n d (List.mem_reverse.mp hd)
  omega
theorem len_tls (x : Str) : x.length = (tl x).length := by
  show x.cps.size = _
  exact Array.length_toList.symm
theorem dlen {β n : Nat} : (tl (digs β n)).length = (dl β n).length := by
  rw [tl_digs]
  simp
theorem digs_take {β n : Nat} (hb : 2 ≤ β) (k : Nat) : (tl (digs β n)).take ((dl β n).length - k) = tl (digs β (n / β ^ k)) := by
  rw [tl_digs, tl_digs, dl_drop hb, ← List.map_take]
  congr 1
  rw [← List.reverse_drop]
theorem digs_dropN {β n : Nat} (hb : 2 ≤ β) {k : Nat} (hk : k ≤ (dl β n).length) : numF β ((tl (digs β n)).drop ((dl β n).length - k)) = n % β ^ k ∧ ((tl (digs β n)).drop ((dl β n).length - k)).length = k ∧ Figs β ((tl (digs β n)).drop ((dl β n).length - k)) := by
  have hl : ((tl (digs β n)).drop ((dl β n).length - k)).length = k := by
    rw [List.length_drop, dlen]
    omega
  have hf : Figs β ((tl (digs β n)).drop ((dl β n).length - k)) := fun c hc => figs_digs hb c (List.mem_of_mem_drop hc)
  refine ⟨?_, hl, hf⟩
  have h1 := numF_digs hb n
  rw [← List.take_append_drop ((dl β n).length - k) (tl (digs β n)), numF_app, digs_take hb, numF_digs hb, hl] at h1
  have h2 := numF_lt hf
  rw [hl] at h2
  have p : 0 < β ^ k := Nat.pow_pos (by omega)
  have h3 := Nat.div_add_mod n (β ^ k)
  rw [Nat.mul_comm] at h3
  omega
theorem len_gt {β n : Nat} (hb : 2 ≤ β) (k : Nat) : k < (dl β n).length ↔ β ^ k ≤ n := by
  have h := dl_drop hb k n
  have p : 0 < β ^ k := Nat.pow_pos (by omega)
  constructor
  · intro hk
    rcases Nat.lt_or_ge n (β ^ k) with z | z
    · rw [Nat.div_eq_of_lt z, dl_zero] at h
      have := List.drop_eq_nil_iff.mp h.symm
      omega
    · exact z
  · intro hn
    rcases Nat.lt_or_ge k (dl β n).length with z | z
    · exact z
    · rw [List.drop_of_length_le z] at h
      have h0 : n / β ^ k = 0 := dl_inj hb _ _ (by rw [h, dl_zero])
      have := Nat.div_pos hn p
      omega
theorem digs_of {β : Nat} (hb : 2 ≤ β) {x : Str} (hf : Figs β (tl x)) (l1 : 1 ≤ x.length) (hz : zeroAt x = false) : digs β (numF β (tl x)) = x := by
  apply str_ext
  refine numF_inj (figs_digs hb) hf ?_ (numF_digs hb _)
  rw [dlen]
  have hlt := numF_lt hf
  have le := dl_lenB hb _ _ hlt
  rcases Nat.lt_or_ge (dl β (numF β (tl x))).length (tl x).length with z | z
  · exfalso
    have g : ¬ (tl x).length - 1 < (dl β (numF β (tl x))).length := by omega
    rw [len_gt hb] at g
    cases ht : tl x with
    | nil =>
      rw [len_tls, ht] at l1
      cases l1
    | cons c cs =>
      have hc := hf c (by rw [ht]; exact List.mem_cons_self ..)
      unfold zeroAt at hz
      rw [ht] at hz
      have c48 : c ≠ 48 := by
        have := of_decide_eq_false hz
        simpa using this
      rw [ht, numF_cons, List.length_cons, Nat.add_sub_cancel] at g
      have : 1 * β ^ cs.length ≤ (c - 48) * β ^ cs.length := Nat.mul_le_mul_right _ (by omega)
      omega
  · omega
theorem tl_cutA (x : Str) (k : Nat) : tl (cutS x none (some (k : Int))) = (tl x).take k := by
  show (((x.cps.toList.drop (HT.sIx x.length 0 none)).take (HT.sIx x.length x.length (some (k : Int)) - HT.sIx x.length 0 none)).toArray).toList = x.cps.toList.take k
  have h : x.length = x.cps.toList.length := Array.length_toList.symm
  rw [HT.sIx_none, HT.sIx_nat, h]
  simp only [List.drop_zero, Nat.sub_zero]
  rcases Nat.le_total k x.cps.toList.length with z | z
  · rw [Nat.min_eq_left z]
  · rw [Nat.min_eq_right z, List.take_of_length_le (Nat.le_refl _), List.take_of_length_le z]
theorem tl_cutB (x : Str) (k : Nat) : tl (cutS x (some (k : Int)) none) = (tl x).drop k := by
  show (((x.cps.toList.drop (HT.sIx x.length 0 (some (k : Int)))).take (HT.sIx x.length x.length none - HT.sIx x.length 0 (some (k : Int)))).toArray).toList = x.cps.toList.drop k
  have h : x.length = x.cps.toList.length := Array.length_toList.symm
  rw [HT.sIx_none, HT.sIx_nat, h]
  rcases Nat.le_total k x.cps.toList.length with z | z
  · rw [Nat.min_eq_left z, List.take_of_length_le (by rw [List.length_drop]; exact Nat.le_refl _)]
  · rw [Nat.min_eq_right z, List.drop_of_length_le (Nat.le_refl _), List.drop_of_length_le z]
    simp
end Dg

/-! Displays as data; the law's drawn rules. -/
namespace Dt
open PySem L2 Evl Dg LamR LamX
open Dr (StAt SameB)
/-- a value that is that data -/
def EvP (te : TE) (σ : St) (H : Hp) (D : PyData) : Prop := ∀ H1, Ex H H1 → ∀ Q : VK, (∀ v H2, Ex H1 H2 → Pt H2 v D → Q v H2) → te σ H1 Q
def EvPA (ta : TA) (σ : St) (H : Hp) (Ds : List PyData) : Prop := ∀ H1, Ex H H1 → ∀ Q : List V → Hp → Prop, (∀ vs H2, Ex H1 H2 → PtAll H2 vs Ds → Q vs H2) → ta σ H1 Q
section
variable {K : PySem.W.Frag} {σ : St} {H : Hp} {te ta tb : TE} {D E : PyData} {Ds Es : List PyData}
theorem ep_c {v : V} (h : ∀ H, Pt H v D) : EvP (tC v) σ H D := fun H1 _ _ q => q v H1 (Ex.refl H1) (h H1)
theorem ep_v {v : V} (h : Ev te σ H v) (k : Pt H v D) : EvP te σ H D := fun H1 e Q q => h H1 e Q fun H2 e2 => q v H2 e2 (k.ex (e.trans e2))
theorem ep_non : EvP (tC .non) σ H .none := ep_c fun _ => .non
theorem ep_bl {b : Bool} : EvP (tC (.bl b)) σ H (.bool b) := ep_c fun _ => .bl b
theorem ep_int {i : Int} : EvP (tC (.int i)) σ H (.int i) := ep_c fun _ => .int i
theorem ep_str {x : Str} (h : x.length ≤ 3000) : EvP (tC (.str x)) σ H (.str x) := ep_c fun _ => .str x h
theorem epa_nil : EvPA tNil σ H [] := fun H1 _ _ q => q [] H1 (Ex.refl H1) .nil
theorem epa_cons {tr : TA} (h : EvP te σ H D) (hr : EvPA tr σ H Ds) : EvPA (tCons te tr) σ H (D :: Ds) := fun H1 e _ q =>
  h H1 e _ fun v H2 e2 k => hr H2 (e.trans e2) _ fun vs H3 e3 ks => q (v :: vs) H3 (e2.trans e3) (.cons (k.ex e3) ks)
theorem ep_tup {ta : TA} (h : EvPA ta σ H Ds) (hl : Ds.length ≤ 100000) : EvP (tTup ta) σ H (.tuple Ds) := fun H1 e _ q =>
  h H1 e _ fun vs H2 e2 ks => ⟨sz_of (by rw [ks.length]; exact hl), fun p hp => q (.ref p) _ (e2.trans (Ex.new hp)) (.tup upd_same (ks.ex (Ex.new hp)))⟩
theorem ep_lst {ta : TA} (h : EvPA ta σ H Ds) (hl : Ds.length ≤ 100000) : EvP (tLst ta) σ H (.list Ds) := fun H1 e _ q =>
  h H1 e _ fun vs H2 e2 ks => ⟨sz_of (by rw [ks.length]; exact hl), fun p hp => q (.ref p) _ (e2.trans (Ex.new hp)) (.lst upd_same (ks.ex (Ex.new hp)))⟩
theorem ep_cat (ha : EvP ta σ H (.list Ds)) (hb : EvP tb σ H (.list Es)) (hl : Ds.length + Es.length ≤ 100000) : EvP (tOp rCat ta tb) σ H (.list (Ds ++ Es)) := fun H1 e _ q =>
  ha H1 e _ fun v H2 e2 k => hb H2 (e.trans e2) _ fun w H3 e3 k3 => by
    cases k with
    | @lst a vs _ ha hv =>
      cases k3 with
      | @lst b ws _ hb hw =>
        exact ⟨a, b, vs, ws, rfl, rfl, e3 _ _ ha, hb, sz_of (by rw [hv.length, hw.length]; exact hl), fun p hp => q (.ref p) _ ((e2.trans e3).trans (Ex.new hp)) (.lst upd_same (((hv.ex e3).app hw).ex (Ex.new hp)))⟩
theorem ep_if {t : TT} {b : Bool} (h : EvT t σ H b) (h1 : b = true → EvP ta σ H D) (h2 : b = false → EvP tb σ H D) : EvP (tIf t ta tb) σ H D := fun H1 e Q q => h H1 e _ fun H2 e2 => by
  cases b with
  | true => exact iteT (h1 rfl H2 (e.trans e2) _ fun v H3 e3 k => q v H3 (e2.trans e3) k)
  | false => exact iteF (h2 rfl H2 (e.trans e2) _ fun v H3 e3 k => q v H3 (e2.trans e3) k)
theorem s_retP {DD : Ends} (h : EvP te σ H D) (k : ∀ v H1, Ex H H1 → Pt H1 v D → DD.rt v H1) : tRet te DD σ H := h H (Ex.refl H) _ k
theorem s_asgP {DD : Ends} {i : Nat} (h : EvP te σ H D) (k : ∀ v H1, Ex H H1 → Pt H1 v D → DD.nx (σ.set i (some v)) H1) : tAsg te (gName i) DD σ H := h H (Ex.refl H) _ fun v H1 e kk => k v H1 e kk
theorem q_asgP {DD : Ends} {tz : TS} {i : Nat} (h : EvP te σ H D) (k : ∀ v H1, Ex H H1 → Pt H1 v D → tz DD (σ.set i (some v)) H1) : tSeq (tAsg te (gName i)) tz DD σ H := s_asgP (DD := { DD with nx := tz DD }) h k
end
theorem sameB_trans {H H1 H2 : Hp} {p l : Addr} (a : SameB H H1 p l) (b : SameB H1 H2 p l) : SameB H H2 p l := fun x o h h1 h2 => b x o (a x o h h1 h2) h1 h2
theorem sameB_ex {H H1 : Hp} {p l : Addr} (e : Ex H H1) : SameB H H1 p l := fun x o h _ _ => e x o h
mutual
/-- tuples and what is plain alone -/
def noL : PyData → Bool
  | .list _ => false
  | .dict _ => false
  | .tuple ds => noLs ds
  | _ => true
def noLs : List PyData → Bool
  | [] => true
  | d :: ds => noL d && noLs ds
end
mutual
theorem noL_ok : ∀ {d : PyData}, noL d = true → okD d = true
  | .none, _ => rfl
  | .bool _, _ => rfl
  | .int _, _ => rfl
  | .str _, _ => rfl
  | .tuple ds, h => by
    rw [okD]
    exact noLs_ok (by rw [noL] at h; exact h)
  | .list _, h => by rw [noL] at h; cases h
  | .dict _, h => by rw [noL] at h; cases h
theorem noLs_ok : ∀ {ds : List PyData}, noLs ds = true → okDs ds = true
  | [], _ => rfl
  | d :: ds, h => by
    rw [noLs, Bool.and_eq_true] at h
    rw [okDs, noL_ok h.1, noLs_ok h.2]
    rfl
end
theorem noLs_app : ∀ {ds es : List PyData}, noLs ds = true → noLs es = true → noLs (ds ++ es) = true
  | [], _, _, k => k
  | d :: ds, es, h, k => by
    rw [noLs, Bool.and_eq_true] at h
    show (noL d && noLs (ds ++ es)) = true
    rw [h.1, noLs_app h.2 k]
    rfl
/-- tuples stay -/
def TupK (H H' : Hp) : Prop := ∀ a xs, H a = some (.tup xs) → H' a = some (.tup xs)
theorem TupK.trans {H H1 H2 : Hp} (a : TupK H H1) (b : TupK H1 H2) : TupK H H2 := fun x xs h => b x xs (a x xs h)
theorem tupK_ex {H H' : Hp} (e : Ex H H') : TupK H H' := fun a xs h => e _ _ h
theorem tupK_same {H H' : Hp} {p c l : Addr} {n : Nat} {a : Int} (S : StAt H p c l n a) (e : SameB H H' p l) : TupK H H' := fun x xs h => by
  obtain ⟨ls, hl, _⟩ := S.l
  exact e _ _ h (ne_of h S.d (by intro z; cases z)) (ne_of h hl (by intro z; cases z))
theorem tupK_upd {H : Hp} {x : Addr} {ys zs : List V} (h : H x = some (.lst ys)) : TupK H (upd H x (.lst zs)) := fun a xs ha => by
  rw [upd_ne (ne_of ha h (by intro z; cases z))]
  exact ha
mutual
theorem Pt.tk {H H' : Hp} (e : TupK H H') : ∀ {v : V} {d : PyData}, Pt H v d → noL d = true → Pt H' v d
  | _, .none, h, _ => by cases h; exact .non
  | _, .bool _, h, _ => by cases h; exact .bl _
  | _, .int _, h, _ => by cases h; exact .int _
  | _, .str _, h, _ => by cases h with | str _ z => exact .str _ z
  | _, .tuple ds, h, k => by
    cases h with
    | tup hs ha => exact .tup (e _ _ hs) (PtAll.tk e ha (by rw [noL] at k; exact k))
  | _, .list _, _, k => by rw [noL] at k; cases k
  | _, .dict _, _, k => by rw [noL] at k; cases k
theorem PtAll.tk {H H' : Hp} (e : TupK H H') : ∀ {vs : List V} {ds : List PyData}, PtAll H vs ds → noLs ds = true → PtAll H' vs ds
  | _, [], h, _ => by cases h; exact .nil
  | _, d :: ds, h, k => by
    cases h with
    | cons h1 h2 =>
      rw [noLs, Bool.and_eq_true] at k
      exact .cons (Pt.tk e h1 k.1) (PtAll.tk e h2 k.2)
end
theorem off_of {H : Hp} {p c l x : Addr} {n : Nat} {a : Int} (S : StAt H p c l n a) (h : H x = none) : x ≠ p ∧ x ≠ l := by
  obtain ⟨ls, hls, _⟩ := S.l
  exact ⟨(ne_of_none S.d h).symm, (ne_of_none hls h).symm⟩
/-- one draw -/
theorem rd_draw {σ : St} {H : Hp} {te : TE} {Q : VK} {p c l : Addr} {n : Nat} {a m : Int} (h0 : σ[0]? = some (some (.ref p))) (hm : Ev te σ H (.int m)) (S : StAt H p c l n a) (nlc : l ≠ c) (ha : a < 2 ^ 39) (m0 : 0 < m) (m1 : m < 1073741824)
    (k : ∀ (r : Nat) (H' : Hp), (r : Int) < m → StAt H' p c l n (a + 1) → SameB H H' p l → Q (.int (r : Int)) H') : tCall Dr.spDraw [] E0 (tCons (tVar 0) (tCons te tNil)) σ H Q :=
  ⟨_, h0, hm H (Ex.refl H) _ fun H2 e2 => ⟨p, c, l, n, a, m, rfl, S.ex e2, nlc, ha, m0, m1, fun r H' r0 r1 S' sb nn => by
    obtain ⟨ρ, rfl⟩ : ∃ ρ : Nat, r = ρ := ⟨r.toNat, by omega⟩
    exact k ρ H' r1 S' (sameB_trans (sameB_ex e2) sb)⟩⟩
/-! what small data is, of rules -/
theorem beg2 (x w : Str) (d : PyData) : begB (.tuple [.str x, d]) w 2 = decide (x = w) := by simp [begB, isT, tupD, eqS]
theorem beg3 (x w : Str) (d e : PyData) : begB (.tuple [.str x, d, e]) w 3 = decide (x = w) := by simp [begB, isT, tupD, eqS]
theorem beg23 (x w : Str) (d : PyData) : begB (.tuple [.str x, d]) w 3 = false := by simp [begB, isT, tupD, eqS]
theorem beg32 (x w : Str) (d e : PyData) : begB (.tuple [.str x, d, e]) w 2 = false := by simp [begB, isT, tupD, eqS]
theorem keep_chg {s : Int} (h1 : 1 ≤ s) (h2 : s ≤ 6) : keepB (.tuple [.str "changed", .int s]) = true := by
  unfold keepB
  rw [beg2, decide_eq_true rfl]
  simp [at_, tupD, sizeB, h1, h2]
theorem keep_last {s : Int} (h1 : 1 ≤ s) (h2 : s ≤ 6) : keepB (.tuple [.str "last", .int s]) = true := by
  unfold keepB
  rw [beg2, beg2, decide_eq_true (p := ("last" : Str) = "last") rfl]
  simp [at_, tupD, sizeB, h1, h2]
theorem cond_ends {β : Nat} {x : Str} (h : isFigs β 2 x = true) : condB β (.tuple [.str "ends", .str x]) = true := by
  unfold condB
  rw [beg2, decide_eq_true rfl]
  simpa [at_, tupD, txtD, figsO] using h
theorem cond_near {β : Nat} {i : Int} (h1 : 0 ≤ i) (h2 : i ≤ 6) : condB β (.tuple [.str "near", .int i]) = true := by
  unfold condB
  rw [beg2, beg2, decide_eq_false (p := ("near" : Str) = "ends") (by decide +kernel), decide_eq_true (p := ("near" : Str) = "near") rfl]
  simp [at_, tupD, sizeB, h1, h2]
theorem cond_len {β : Nat} {x : Str} {i : Int} {d : PyData} (hx : x = "length" ∨ x = "changed") (h1 : 1 ≤ i) (h2 : i ≤ 6) (hd : d = .none ∨ ∃ j : Int, d = .int j ∧ i ≤ j ∧ j ≤ 6) : condB β (.tuple [.str x, .int i, d]) = true := by
  unfold condB
  rw [beg32, beg32, beg3, beg3]
  have e : (decide (x = "length") || decide (x = "changed")) = true := by
    rcases hx with rfl | rfl
    · rw [decide_eq_true rfl]; rfl
    · rw [decide_eq_true (p := ("changed" : Str) = "changed") rfl, Bool.or_true]
  rw [e]
  rcases hd with rfl | ⟨j, rfl, h3, h4⟩
  · simp [at_, tupD, boundsB, sizeB, intD, isN, h1, h2]
  · simp [at_, tupD, boundsB, sizeB, intD, isN, h1, h2, h3, h4]
theorem rule_mk {β : Nat} {cs : List PyData} {k : PyData} : ruleB β (.tuple [.tuple cs, k]) = (decide (cs.length ≤ 3) && (cs.all (condB β) && keepB k)) := rfl
end Dt

/-! The end of a law whose defs make lambdas and call repr. -/
namespace LamR
open PySem PySem.Spec PyProof.Rows L2 LamX
/-- a table of code objects, still empty -/
abbrev bare : Obj := { cls := .none, data := .fields #[] }
/-- what is known where the law is called; cs: code objects with their tables -/
structure HeadAt (K : PySem.W.Frag) (mg mb : Str → Option Value) (cs : List (Addr × Addr)) (s : Shared) : Prop where
  kin : K.In s.heap
  glob : s.heap.Ns mainGlobals mg
  blt : s.heap.Ns builtinsNs mb
  boot : ∀ x : Str, x ≠ "__name__" → mb x = bootBuiltins x
  lim : s.heap.NoLimit
  gens : s.gens = #[]
  tab : ∀ p ∈ cs, s.heap.get? p.2 = some bare
  off : ∀ p ∈ cs, K.lookup p.2 = none
  cod : ∀ p ∈ cs, PySem.W.CodeHd s.heap p.1 p.2
  bmod : ∃ (m : Addr) (o : Obj), mg "__builtins__" = some (.ref m) ∧ m ≠ builtinsNs ∧ s.heap.get? m = some o ∧ o.cls = .type "module" ∧ o.dict = some builtinsNs ∧ o.data = .plain
/-- what is followed: the tables, and the script where the written part has it not -/
structure Hid (K : PySem.W.Frag) (cs : List (Addr × Addr)) (a : Addr) (H : Hp) : Prop where
  only : ∀ b, H b ≠ none → b = a ∨ ∃ p ∈ cs, b = p.2
  mine : H a = none ∨ (K.lookup a = none ∧ ∃ o xs, H a = some (.frz o (.lst xs)))
  tabs : ∀ p ∈ cs, H p.2 = some (.tbl #[])
section
variable {P : Program} {w : World} {K : PySem.W.Frag} {mg mb : Str → Option Value} {cs : List (Addr × Addr)} {s : Shared} {a : Addr} {H : Hp} {vs : List Value}
/-- neither a list nor an empty row of fields: it is not followed -/
theorem Hid.out (h : Hid K cs a H) (D : HeadAt K mg mb cs s) (ha : s.heap.get? a = some { cls := .type "list", data := .seq vs.toArray }) {b : Addr} {o : Obj} (e : s.heap.get? b = some o) (nl : ∀ us n, o.data ≠ .seq us n) (nf : o.data ≠ .fields #[]) : H b = none := by
  by_cases z : H b = none
  · exact z
  · exfalso
    rcases h.only b z with q | ⟨p, hp, q⟩ <;> subst q
    · cases ha.symm.trans e
      exact nl _ _ rfl
    · cases (D.tab p hp).symm.trans e
      exact nf rfl
theorem Hid.stays (h : Hid K cs a H) (D : HeadAt K mg mb cs s) (ha : s.heap.get? a = some { cls := .type "list", data := .seq vs.toArray }) {b : Addr} {o : Obj} (e : s.heap.get? b = some o) (nl : ∀ us n, o.data ≠ .seq us n) (nf : o.data ≠ .fields #[]) : (hidT s.heap H).get? b = some o := hidT_get e (h.out D ha e nl nf)
theorem Hid.names (h : Hid K cs a H) (D : HeadAt K mg mb cs s) (ha : s.heap.get? a = some { cls := .type "list", data := .seq vs.toArray }) {b : Addr} {m : Str → Option Value} (n : s.heap.Ns b m) : (hidT s.heap H).Ns b m := by
  obtain ⟨o, es, ep, e, d, r⟩ := n
  refine ⟨o, es, ep, h.stays D ha e (fun us n z => ?_) (fun z => ?_), d, r⟩ <;> cases d.symm.trans z
theorem Hid.frag (h : Hid K cs a H) (D : HeadAt K mg mb cs s) : K.In (hidT s.heap H) := fun b o e => by
  refine hidT_get (D.kin b o e) ?_
  by_cases z : H b = none
  · exact z
  · exfalso
    rcases h.only b z with q | ⟨p, hp, q⟩ <;> subst q
    · rcases h.mine with y | ⟨y, _⟩
      · exact z y
      · cases y.symm.trans e
    · cases (D.off p hp).symm.trans e
theorem Hid.table (h : Hid K cs a H) (D : HeadAt K mg mb cs s) (ha : s.heap.get? a = some { cls := .type "list", data := .seq vs.toArray }) : ∀ p ∈ cs, TabB (hidT s.heap H) mg p.1 p.2 := fun p hp => by
  have tp := D.tab p hp
  have gl := D.glob
  refine ⟨?_, ?_, fun z => ?_⟩
  · obtain ⟨o, us, file, tf, flags, tg, inF, text, tt, e1, k1, k2, k3, rest⟩ := D.cod p hp
    refine ⟨o, us, file, tf, flags, tg, inF, text, tt, h.stays D ha e1 (fun vs n z => ?_) (fun z => ?_), k1, k2, k3, rest⟩
    · cases k2.symm.trans z
    · cases k2.symm.trans z
      simp at k3
  · obtain ⟨m, o, y1, y2, y3, y4, y5, y6⟩ := D.bmod
    refine ⟨m, o, y1, y2, fun q => ?_, fun q => ?_, h.stays D ha y3 (fun vs n z => ?_) (fun z => ?_), y4, y5, y6⟩
    · obtain ⟨o', es, ep, e', d', _⟩ := gl
      subst q
      cases y3.symm.trans e'
      cases y6.symm.trans d'
    · subst q
      cases y3.symm.trans tp
      cases y6
    · cases y6.symm.trans z
    · cases y6.symm.trans z
  · obtain ⟨o', es, ep, e', d', _⟩ := gl
    rw [z] at e'
    cases tp.symm.trans e'
    cases d'
/-- the call of the law, at what is followed -/
theorem call_at {CX : CXT} {k : Nat} {fa : Addr} {fd : FuncData} {x : Str} {sp : Sp} (h : Hid K cs a H) (D : HeadAt K mg mb cs s) (ha : s.heap.get? a = some { cls := .type "list", data := .seq vs.toArray }) (ok : HOk P w H s.heap) (hr : RoomG k callerA)
    (F : ∀ base : Heap, K.In base → base.Ns mainGlobals mg → (∀ p ∈ cs, TabB base mg p.1 p.2) → FnG P w K mg base CX k fa fd [x] sp) (hb : BindsTo s fd ⟨[.ref a], []⟩ [(x, .ref a)]) (hsp : sp [.ref a] H (fun v _ => v = .bl true) fun _ _ _ => False) (hCX : ∀ e s', CX [] H s (fun _ _ _ => False) e s' → False) :
    codeAny (model P w) callerA (.call (.ref fa) ⟨[.ref a], []⟩) (fun r s' => r = .ok (.ret (.bool true)) ∧ OldK s.heap s'.heap ∧ s'.os = s.os ∧ AllBare s'.gens) s := by
  have fr := h.frag D
  have gl := h.names D ha D.glob
  obtain ⟨mc, lim1, lim2⟩ := D.lim
  have env : Env0 P w K mg (hidT s.heap H) callerA [] s H :=
    ⟨rfl, ⟨fr, gl, ⟨mb, h.names D ha D.blt, D.boot⟩, ⟨mc, h.names D ha lim1, lim2⟩⟩, fun b o e => of_hidT e, Nat.le_of_eq (hidT_size _ _), trivial, fun b z => absurd (show b ∈ ([] : List Addr) from z) (by simp), ok, .of_eq D.gens⟩
  refine codeAny_mono ((F _ fr gl (h.table D ha)).run callerA [] s H ⟨[.ref a], []⟩ [.ref a] [.ref a] _ _ hr env hb (.cons rfl .nil) hsp) fun r s' hq => ?_
  match r, hq with
  | .error e, hq => exact (hCX e s' hq).elim
  | .ok (.ret u), ⟨v, H', os, gens, un, ok', rel, q⟩ =>
    have q : v = .bl true := q
    subst q
    have rel : u = Value.bool true := rel
    subst rel
    -- what was there is there still, but for the tables, which may have grown
    have old : ∀ b o, (∀ p ∈ cs, b ≠ p.2) → s.heap.get? b = some o → s'.heap.get? b = some o := fun b o nb e => by
      by_cases z : H b = none
      · exact un.keep b o e z (fun y => absurd (show b ∈ ([] : List Addr) from y) (by simp)) (by simp)
      · rcases h.only b z with y | ⟨p, hp, y⟩
        · subst y
          rcases h.mine with y | ⟨_, ob, xs, y⟩
          · exact (z y).elim
          · have g1 := (ok b _ y).1
            have g2 := (ok' b _ (un.frzs b ob _ y)).1
            cases e.symm.trans g1
            exact g2
        · exact (nb p hp y).elim
    have more : ∀ p ∈ cs, ∃ us : Array Value, s'.heap.get? p.2 = some { cls := .none, data := .fields us } := fun p hp =>
      let ⟨us, y⟩ := un.tbls p.2 #[] (h.tabs p hp)
      ⟨_, ok' p.2 _ y⟩
    refine ⟨rfl, ⟨fun b o e => ?_, fun b o e => ?_⟩, os, gens⟩
    · by_cases y : ∃ p ∈ cs, b = p.2
      · obtain ⟨p, hp, rfl⟩ := y
        obtain ⟨us, g⟩ := more p hp
        have tp := D.tab p hp
        cases tp.symm.trans e
        exact .inr (.inl ⟨((D.cod p hp).tab tp).isCodeTable, rfl, #[], us, rfl, by rw [Array.empty_append]; exact g⟩)
      · exact .inl (old b o (fun p hp z => y ⟨p, hp, z⟩) e)
    · by_cases y : ∃ p ∈ cs, b = p.2
      · obtain ⟨p, hp, rfl⟩ := y
        obtain ⟨us, g⟩ := more p hp
        exact ⟨_, g⟩
      · exact ⟨o, old b o (fun p hp z => y ⟨p, hp, z⟩) e⟩
  | .ok .next, hq => exact False.elim hq
  | .ok .brk, hq => exact False.elim hq
  | .ok .cont, hq => exact False.elim hq
/-- the script is followed as a list that stays, or stands in the written part -/
theorem call_law {CX : CXT} {k : Nat} {fa : Addr} {fd : FuncData} {x : Str} {sp : Sp} {ns : List Int} (D : HeadAt K mg mb cs s) (ha : s.heap.get? a = some { cls := .type "list", data := .seq vs.toArray }) (hi : IntsAre vs ns) (hl : ns.length ≤ sizeLine) (hr : RoomG k callerA)
    (F : ∀ base : Heap, K.In base → base.Ns mainGlobals mg → (∀ p ∈ cs, TabB base mg p.1 p.2) → FnG P w K mg base CX k fa fd [x] sp) (hb : ∀ u : Value, BindsTo s fd ⟨[u], []⟩ [(x, u)])
    (hsp : ∀ H : Hp, (∀ p ∈ cs, H p.2 = some (.tbl #[])) → SqL K H a (ns.map V.int) → sp [.ref a] H (fun v _ => v = .bl true) fun _ _ _ => False) (hCX : ∀ H e s', CX [] H s (fun _ _ _ => False) e s' → False) :
    codeAny (model P w) callerA (.call (.ref fa) ⟨[.ref a], []⟩) (fun r s' => r = .ok (.ret (.bool true)) ∧ OldK s.heap s'.heap ∧ s'.os = s.os ∧ AllBare s'.gens) s := by
  have rel := vals_ints hi
  have na : ∀ p ∈ cs, p.2 ≠ a := fun p hp z => by
    have tp := D.tab p hp
    rw [z] at tp
    cases ha.symm.trans tp
  have tabled : ∀ b, (∃ p ∈ cs, b = p.2) → s.heap.get? b = some bare := fun b ⟨p, hp, z⟩ => by
    rw [z]
    exact D.tab p hp
  classical
  let own : Option HO := if K.lookup a = none then some (.frz { cls := .type "list", data := .seq vs.toArray } (.lst (ns.map V.int))) else none
  let H : Hp := fun b => if b = a then own else if ∃ p ∈ cs, b = p.2 then some (.tbl #[]) else none
  have Ha : H a = own := if_pos rfl
  have Ht : ∀ p ∈ cs, H p.2 = some (.tbl #[]) := fun p hp => (if_neg (na p hp)).trans (if_pos ⟨p, hp, rfl⟩)
  have Hid0 : Hid K cs a H := by
    refine ⟨fun b z => ?_, ?_, Ht⟩
    · by_cases y : b = a
      · exact .inl y
      · by_cases y2 : ∃ p ∈ cs, b = p.2
        · exact .inr y2
        · exact (z ((if_neg y).trans (if_neg y2))).elim
    · rw [Ha]
      by_cases y : K.lookup a = none
      · exact .inr ⟨y, _, _, if_pos y⟩
      · exact .inl (if_neg y)
  have seq : SqL K H a (ns.map V.int) := by
    cases y : K.lookup a with
    | none => exact .inl (.inr ⟨_, Ha.trans (if_pos y)⟩)
    | some o =>
      cases (D.kin a o y).symm.trans ha
      exact .inr ⟨_, vs.toArray, _, y, rfl, rfl, rfl, by rw [List.size_toArray, hi.length]; exact hl, by simpa using rel⟩
  have ok : HOk P w H s.heap := fun b u z => by
    by_cases y : b = a
    · subst y
      rw [Ha] at z
      by_cases y2 : K.lookup b = none
      · cases (if_pos y2).symm.trans z
        exact ⟨ha, by rw [List.length_map]; exact hl, vs, _, rel, ha⟩
      · cases (if_neg y2).symm.trans z
    · by_cases y2 : ∃ p ∈ cs, b = p.2
      · cases ((if_neg y).trans (if_pos y2)).symm.trans z
        exact tabled b y2
      · cases ((if_neg y).trans (if_neg y2)).symm.trans z
  exact call_at Hid0 D ha ok hr F (hb _) (hsp H Ht seq) fun e s' => hCX H e s'
end
/-- the whole walk -/
theorem walk_T {l : PySem.W.OpenLaw} {n k : Nat} {q : Program} {loose : List Str} {XP : (Str → Option Value) → Heap → Prop} {YP : World → Heap → Prop} {d : DefRec} {K : Params → PySem.W.Frag} {CX : World → CXT} {x : Str} {cs : List (Addr × Addr)} {sp : World → Sp}
    (hn : l.most = some n) (hn2 : n ≤ sizeLine) (hdf : d.params.defaults = []) (hr : RoomG k callerA) (hY : ∀ (w : World) (h : Heap), YP w h → (K w.params).In h)
    (hT : ∀ (w : World) (h : Heap), YP w h → ∀ p ∈ cs, h.get? p.2 = some bare) (nT : ∀ w : World, ∀ p ∈ cs, (K w.params).lookup p.2 = none) (hC : ∀ w : World, ∀ p ∈ cs, PySem.W.codeHdIn (K w.params) p.1 p.2 = true)
    (F : ∀ (w : World) (mg : Str → Option Value) (fa : Addr) (h : Heap), (K w.params).In h → h.Ns mainGlobals mg → mg d.name = some (.ref fa) → ∃ fd : FuncData, (∀ (s : Shared) (u : Value), BindsTo s fd ⟨[u], []⟩ [(x, u)]) ∧
      ∀ base : Heap, (K w.params).In base → base.Ns mainGlobals mg → (∀ p ∈ cs, TabB base mg p.1 p.2) → FnG l.prog w (K w.params) mg base (CX w) k fa fd [x] (sp w))
    (hsp : ∀ (w : World) (H : Hp) (a : Addr) (ns : List Int), ns.length ≤ n → (∀ p ∈ cs, H p.2 = some (.tbl #[])) → SqL (K w.params) H a (ns.map V.int) → sp w [.ref a] H (fun v _ => v = .bl true) fun _ _ _ => False)
    (hCX : ∀ (w : World) (H : Hp) (s : Shared) (e : Value) (s' : Shared), CX w [] H s (fun _ _ _ => False) e s' → False) :
    PySem.W.WalkO q loose XP YP l.row.toRowW d [] (fun f vs => PySem.call f vs) := by
  refine Att.attach_call hn hdf fun w s₀ s₁ mg mb fa o pm cd doc a vs ns G Y _ _ _ hmg hobj hints hlen hg => ?_
  have kin := hY w _ Y
  obtain ⟨fd, hb, hF⟩ := F w mg fa _ kin G.T.g hmg
  exact call_law ⟨kin, G.T.g, G.T.b, G.T.builtins, G.T.nolimit, hg, hT w _ Y, nT w, fun p hp => PySem.W.codeHd_of_K kin (hC w p hp), G.T.bmain⟩ hobj hints (Nat.le_trans hlen hn2) hr hF (hb s₁) (fun H hH hS => hsp w H a ns hlen hH hS) fun H e s' => hCX w H s₁ e s'
end LamR

/-! enumerate over a tuple. -/
namespace PySem
open Sem (wp)
theorem meets_enumerate_newB1 {v : Value} {o : Obj} {H : Heap → Prop} (B : Begins v o H) :
    Meets (Builtin.«enumerate.__new__» ⟨[.type "enumerate", v], []⟩) (fun _ R s => H s.heap ∧
      R (.ok (.ret (.ref (s.heap.push o).objs.size))) { s with heap := (s.heap.push o).push { cls := .type "enumerate", data := .fields #[.none, .bool false, .ref s.heap.objs.size, rawInt 0, .none, .none] } }) :=
  .of_wp fun prog w A R s h => by
    obtain ⟨hp, g, d, tk, os⟩ := s; obtain ⟨h1, h⟩ := h
    have hsub := sub_enumerate
    have q1 : ∀ {A' : Around} {E : Value → Shared → Prop} {Q : Value → Shared → Prop}, Q (.ref hp.objs.size) ⟨hp.push o, g, d, tk, os⟩ → wpAny (model prog w) A' (pyIter v) Q E ⟨hp, g, d, tk, os⟩ :=
      fun q => B.iter prog w _ _ ⟨hp, g, d, tk, os⟩ _ h1 q
    wp_walk using q1
    refine wpAny_stack_any fun st => wpAny_pure ?_
    split
    · rename_i c _ _ _ _ _
      cases (c == Value.type "enumerate")
      · wp_walk using q1
        exact ⟨_, rfl, h⟩
      · wp_walk using q1
        exact ⟨_, rfl, h⟩
    · wp_walk using q1
      exact ⟨_, rfl, h⟩
section
variable {prog : Program} {w : World} {A : Around} {E : Value → Shared → Prop} {s : Shared}
theorem call_enumerate_tuple {l : Addr} {items : Array Value} {Q : Value → Shared → Prop} (hL : s.heap.IsTuple l items)
    (h : ∀ h', IsEnum h' (s.heap.objs.size + 1) s.heap.objs.size 0 .none → h'.IsTupleIter s.heap.objs.size l 0 → h'.objs.size = s.heap.objs.size + 2 →
      (∀ b o, s.heap.get? b = some o → h'.get? b = some o) → Q (.ref (s.heap.objs.size + 1)) { s with heap := h' }) :
    wpAny (model prog w) A (call (.type "enumerate") [.ref l]) Q E s := by
  refine callType_new F.called_enumerate (by decide) (F.typeCall_enumerate_1 _) (F.newCall_enumerate_1 _) (fun obj => F.args_object_init_2 obj _) F.entry_enumerate_new
    (meets_enumerate_newB1 (begins_tuple l items)) ⟨hL, ?_⟩
  have hz : (s.heap.push { cls := .type "tuple_iterator", data := .fields #[.ref l, .int 0 0] }).objs.size = s.heap.objs.size + 1 := Heap.size_push ..
  show _ ∧ _
  rw [hz]
  have he : IsEnum ((s.heap.push { cls := .type "tuple_iterator", data := .fields #[.ref l, .int 0 0] }).push
      { cls := .type "enumerate", data := .fields #[.none, .bool false, .ref s.heap.objs.size, rawInt 0, .none, .none] }) (s.heap.objs.size + 1) s.heap.objs.size 0 .none := by
    have := Heap.get?_push_size (s.heap.push { cls := .type "tuple_iterator", data := .fields #[.ref l, .int 0 0] })
      (o := { cls := .type "enumerate", data := .fields #[.none, .bool false, .ref s.heap.objs.size, rawInt 0, .none, .none] }) rfl
    rw [hz] at this; exact this
  refine ⟨⟨_, he, rfl⟩, h _ he ⟨_, Heap.get?_push_of_some _ (Heap.get?_push_size _ rfl), rfl, rfl⟩ (by rw [Heap.size_push, hz]) fun b o x => Heap.get?_push_of_some _ (Heap.get?_push_of_some _ x)⟩
end
end PySem
namespace L2
open PySem PySem.Spec PyProof.Rows
/-- the tuple at a at each turn, each item in a new pair -/
def IteT (K : PySem.W.Frag) (a : Addr) : It :=
  ⟨fun i H => ∃ (xs : List V) (x : V), SqT K H a xs ∧ xs[i]? = some x, fun i H v H' => ∃ T x, v = .ref T ∧ H T = none ∧ H' = upd H T (.tup [.int (i : Nat), x]) ∧ ∀ xs, SqT K H a xs → xs[i]? = some x, fun i H => ∃ xs : List V, SqT K H a xs ∧ xs.length = i⟩
theorem turn_enumT {P : Program} {w : World} {K : PySem.W.Frag} {elts : List Expr} {kk : Nat} {tpos : Pos} (a e it : Addr) :
    Turn P w K (.Tuple elts kk tpos) (IteT K a) [e, it] e (fun i h => (∃ old, IsEnum h e it ((i : Nat) : Int) old) ∧ h.IsTupleIter it a i ∧ e ≠ it) where
  mem := by simp
  obj := fun i h st b hb => by
    obtain ⟨⟨old, he⟩, ⟨o, ho, hc, hd⟩, _⟩ := st
    have e' : b = e ∨ b = it := by simpa using hb
    rcases e' with z | z
    · rw [z]; exact ⟨_, he, fun v q => nomatch q⟩
    · rw [z]; exact ⟨o, ho, fun v q => by rw [hd] at q; cases q⟩
  keep := fun i h h' st k => let ⟨⟨old, he⟩, hi, hne⟩ := st; ⟨⟨old, k e (by simp) _ he⟩, hi.at fun o q => k it (by simp) o q, hne⟩
  item := by
    intro X hP hw hK hc i pins s σ H E I hf st hg
    subst hP hw hK
    obtain ⟨⟨old, he⟩, hit, hne⟩ := st
    obtain ⟨xs, x, hq, hx⟩ := hg
    obtain ⟨its, rv, p, hz⟩ := I.tuple hq
    have pt : s.heap.IsTuple a its.toArray := p
    obtain ⟨u, hu, ru⟩ := rv.get hx
    have hel : e < s.heap.objs.size := Heap.lt_size he
    have hil : it < s.heap.objs.size := by obtain ⟨_, q, _⟩ := hit; exact Heap.lt_size q
    have hae : e ≠ a := fun z => by
      obtain ⟨o, ho, hc', _⟩ := id pt
      rw [← z] at ho
      cases ho.symm.trans he
      exact absurd hc' (by show ¬ (Value.type "enumerate" = .type "tuple"); decide +kernel)
    have hai : a ≠ it := fun z => by
      obtain ⟨o, ho, hc', _⟩ := id pt
      obtain ⟨o2, ho2, hc2, _⟩ := id hit
      rw [z] at ho
      cases ho.symm.trans ho2
      exact absurd (hc'.symm.trans hc2) (by decide +kernel)
    have hlt : i < its.toArray.size := by
      have := (List.getElem?_eq_some_iff.mp hu).1
      simpa using this
    have hcm : X.A.in1.handled = none := I.ok.hd hc
    refine wpAny_pyNext_enum_itemD (Draws.tuple hcm it a hai its.toArray) he ⟨hit, pt⟩ hlt hne (by simp [hne, hae]) fun x' h' tk hPx ho st' hT hsz hk => ?_
    have exu : x' = u := by
      have : its[i]? = some x' := by simpa using hPx
      rw [hu] at this
      exact (Option.some.inj this).symm
    subst exu
    obtain ⟨hit', _⟩ := st'
    refine ⟨_, rfl, wpAny_letOwnedTupleGo_enum (s := { s with heap := h', toks := tk + 1 }) ho fun h'' he' sb => ?_⟩
    have hT2 : h''.get? s.heap.objs.size = some { cls := .type "tuple", data := .seq #[.int i tk, x'] } := (sb.2 _ (Nat.ne_of_gt hel)).trans hT
    have new : ObjOk X.prog X.w (upd H s.heap.objs.size (.tup [.int (i : Nat), x])) h'' s.heap.objs.size (.tup [.int (i : Nat), x]) :=
      ⟨by show 2 ≤ sizeLine; decide, [.int i tk, x'], .cons ⟨_, rfl⟩ (.cons ru .nil), ⟨_, hT2, rfl, _, rfl⟩⟩
    have I1 : Inv X pins σ (upd H s.heap.objs.size (.tup [.int (i : Nat), x])) { s with heap := h'', toks := tk + 1 } :=
      I.turnedNew (ch := [e, it]) (fun b ob hb q => (sb.2 b (fun z => hb (by simp [z]))).trans (hk b ob (fun z => hb (by simp [z])) (fun z => hb (by simp [z])) q)) hf (Nat.le_refl _) new
    refine ⟨.ref s.heap.objs.size, _, I1, rfl, ⟨_, x, rfl, I.hok.fresh (Nat.le_refl _), rfl, fun ys hy => by rw [I.tuple_inj hy hq]; exact hx⟩, ⟨⟨x', ?_⟩, hit'.at fun o q => (sb.2 it (Ne.symm hne)).trans q, hne⟩, fun b hb => ?_⟩
    · have e1 : ((i + 1 : Nat) : Int) = (i : Int) + 1 := by omega
      rw [e1]; exact he'
    · have hb' : b < s.heap.objs.size := by
        have e' : b = e ∨ b = it := by simpa using hb
        rcases e' with z | z
        · rw [z]; exact hel
        · rw [z]; exact hil
      rw [upd_ne (Nat.ne_of_lt hb')]
      exact (hf b hb).1
  done := by
    intro X hP hw hK hc i pins s σ H E I hf st hg
    subst hP hw hK
    obtain ⟨⟨old, he⟩, hit, hne⟩ := st
    obtain ⟨xs, hq, hx⟩ := hg
    obtain ⟨its, rv, p, hz⟩ := I.tuple hq
    have pt : s.heap.IsTuple a its.toArray := p
    obtain ⟨f0, f1, f2, f3, f4, f5⟩ := hf it (by simp)
    have hl := rv.length
    have hai : a ≠ it := fun z => by
      obtain ⟨o, ho, hc', _⟩ := id pt
      obtain ⟨o2, ho2, hc2, _⟩ := id hit
      rw [z] at ho
      cases ho.symm.trans ho2
      exact absurd (hc'.symm.trans hc2) (by decide +kernel)
    have hcm : X.A.in1.handled = none := I.ok.hd hc
    have hi : i = its.toArray.size := by
      rw [← hx, hl]
      simp
    subst hi
    exact wpAny_pyNext_enum_endD (Draws.tuple hcm it a hai its.toArray) he ⟨hit, pt⟩ fun h' eb => ⟨rfl, I.turned (t' := s.toks) (fun b o hb q => eb b o hb q) f0 f1 f3 f4 f5⟩
  self := fun A i s Q E st h => let ⟨⟨_, he⟩, _⟩ := st; wpAny_pyIter_enum he h
def iEnumT (K : PySem.W.Frag) (ta : TA) : TI := fun σ H R => ta σ H fun vs H1 => ∃ a xs, vs = [.ref a] ∧ SqT K H1 a xs ∧ R (IteT K a) H1
theorem pi_enumT {X : Cx} {e : Expr} {ta : TA} {p pos tpos : Pos} {elts : List Expr} {kk : Nat} (hg : Gl X "enumerate") (hm : X.mg "enumerate" = none) (ha : PA X [e] ta) (hs : starEach [e] X.env = [(false, eval e X.env)] := by rfl) :
    PI X (.Tuple elts kk tpos) (.Call (.Name "enumerate" p) [e] [] pos) (iEnumT X.K ta) := by
  refine ⟨fun pins s σ H R I h => ?_⟩
  refine Call_ (ld_blt I hg hm boot_enumerate (PyProof.Rows.callWith_type1 (thn (ha.run pos pins s σ H _ I h) fun us s1 ⟨vs, H1, I1, r1, q1⟩ => ?_) hs rfl))
  obtain ⟨a, xs, ex, hq, q⟩ := q1
  subst ex
  cases r1 with
  | cons r rr =>
    cases rr
    cases r
    obtain ⟨its, rv, p', hz⟩ := I1.tuple hq
    refine call_enumerate_tuple (show s1.heap.IsTuple a its.toArray from p') fun h' he hit hsz hk => wpAny_pyIter_enum he ?_
    have I2 : Inv X pins σ H1 { s1 with heap := h' } := I1.kept (t' := s1.toks) hk
    refine ⟨s1.heap.objs.size + 1, [s1.heap.objs.size + 1, s1.heap.objs.size], _, _, H1, rfl, I2, turn_enumT a (s1.heap.objs.size + 1) s1.heap.objs.size, ⟨⟨.none, he⟩, hit, Nat.succ_ne_self _⟩, fun b hb => ?_, q⟩
    have e' : b = s1.heap.objs.size + 1 ∨ b = s1.heap.objs.size := by simpa using hb
    have hle : s1.heap.objs.size ≤ b := by
      rcases e' with z | z
      · rw [z]; exact Nat.le_add_right _ _
      · rw [z]; exact Nat.le_refl _
    exact I1.fpOk hle (I1.hok.fresh hle)
theorem for_enumT {K : PySem.W.Frag} {a : Addr} {xs : List V} {g : TG} {tb : TS} {D : Ends} {σ : St} {H : Hp} (Pv : Nat → St → Hp → Prop) (h0 : Pv 0 σ H) (hl : ∀ i σ H, i ≤ xs.length → Pv i σ H → SqT K H a xs)
    (hs : ∀ i x T σ H, xs[i]? = some x → Pv i σ H → H T = none → g (.ref T) σ (upd H T (.tup [.int (i : Nat), x])) fun σ2 H2 => tb { D with nx := Pv (i + 1), ct := Pv (i + 1), bk := D.nx } σ2 H2) (hd : ∀ σ H, Pv xs.length σ H → D.nx σ H) :
    ∃ W : Nat → Nat → St → Hp → Prop, (∃ m, W 0 m σ H) ∧ ∀ i m σ H, W i m σ H →
      ((IteT K a).stop i H ∧ D.nx σ H) ∨ ((IteT K a).go i H ∧ ∃ N : St → Hp → Prop, (∀ σ' H', N σ' H' → ∃ m', m' < m ∧ W (i + 1) m' σ' H') ∧ ∀ x H', (IteT K a).yld i H x H' → g x σ H' fun σ2 H2 => tb { D with nx := N, ct := N, bk := D.nx } σ2 H2) := by
  refine ⟨fun i m σ H => m = xs.length - i ∧ i ≤ xs.length ∧ Pv i σ H, ⟨xs.length, by simp, Nat.zero_le _, h0⟩, ?_⟩
  rintro i m σ H ⟨rfl, hi, p⟩
  have q := hl i σ H hi p
  by_cases hlt : i < xs.length
  · refine .inr ⟨⟨xs, xs[i], q, by simp [hlt]⟩, Pv (i + 1), fun σ' H' p' => ⟨xs.length - (i + 1), by omega, rfl, hlt, p'⟩, fun x H' y => ?_⟩
    obtain ⟨T, z, rfl, hT, rfl, hz⟩ := y
    exact hs i z T σ H (hz xs q) p hT
  · have e : i = xs.length := by omega
    subst e
    exact .inl ⟨⟨xs, q, rfl⟩, hd σ H p⟩
end L2

/-! A class that a local name holds, called with a starred argument. -/
namespace L2
open PySem PySem.Spec PyProof.Rows StX ClX
section
variable {X : Cx} {CX : CXT} {k i : Nat} {f C : Addr} {sp : Sp} {E : XK} {x : Str} {e fe : Expr} {es : List Expr} {te tf : TE} {t : TA} {p pos : Pos}
theorem pe_makeLS (M : Mk X.K C f) (F : FnR X.prog X.w X.K X.mg X.base CX k f sp) (hr : Room (k + 1) X.A) (hN : X.N[i]? = some x) (hv : Vis X.env.scope x) (hx : Passes CX X E) (ha : PA X (e :: es) t)
    (hdb : (x == ("__debug__" : Str)) = false := by decide) (hcd : (x == ("__classdict__" : Str)) = false := by decide)
    (he : starEach (e :: es) X.env = (false, eval e X.env) :: starEach es X.env := by rfl) (hst : (backTo pos (starEach es X.env)).any (·.1) = true := by rfl) : PE X (.Call (.Name x p) (e :: es) [] pos) (fun σ H Q => σ[i]? = some (some (.ref C)) ∧ tMakeR C sp E t σ H Q) := by
  refine ⟨fun pins s σ H Q I h => ?_⟩
  obtain ⟨hs, ht⟩ := h
  refine wpAny_Call_Name_kw (thn ((pe_var (pos := p) hN hv hdb hcd).run pins s σ H (fun v H1 => v = .ref C ∧ H1 = H) I ⟨.ref C, hs, rfl, rfl⟩) fun u s1 ⟨v, H1, I1, r1, q1⟩ => ?_)
  obtain ⟨rfl, rfl⟩ := q1
  cases r1
  refine PySem.W.callWith_S2 (h₀ := X.base) I.ok.mod.kin M.kp (thn (ha.run pos pins s1 σ _ _ I1 ht) fun us s2 ⟨vs, H2, I2, r, q⟩ => ⟨I2.kIn, ?_⟩) he hst
  exact run_makeR M F hr hx I2 r q
/-- .. the class by its own name -/
theorem pe_makeRS (M : Mk X.K C f) (F : FnR X.prog X.w X.K X.mg X.base CX k f sp) (hr : Room (k + 1) X.A) (hg : Gl X x) (hm : X.mg x = some (.ref C)) (hx : Passes CX X E) (ha : PA X (e :: es) t) (hdb : (x == ("__debug__" : Str)) = false := by decide)
    (he : starEach (e :: es) X.env = (false, eval e X.env) :: starEach es X.env := by rfl) (hst : (backTo pos (starEach es X.env)).any (·.1) = true := by rfl) : PE X (.Call (.Name x p) (e :: es) [] pos) (tMakeR C sp E t) := by
  refine ⟨fun pins s σ H Q I h => ?_⟩
  refine wpAny_Call_Name_kw (ld_glob I hg hm ?_ hdb)
  refine PySem.W.callWith_S2 (h₀ := X.base) I.ok.mod.kin M.kp (thn (ha.run pos pins s σ H _ I h) fun us s1 ⟨vs, H1, I1, r, q⟩ => ⟨I1.kIn, ?_⟩) he hst
  exact run_makeR M F hr hx I1 r q
end
end L2

/-! Styles: what is due of rules, and what the program's defs tell. -/
namespace Evl
open PySem L2
theorem given_one (xs : List V) : given xs.length (fun _ => true) (fun i => xs.getD i V.non) = xs := by
  unfold given
  have e : (List.range xs.length).filter (fun _ => true) = List.range xs.length := List.filter_eq_self.mpr fun _ _ => rfl
  rw [e]
  apply List.ext_getElem?
  intro i
  rw [List.getElem?_map]
  by_cases h : i < xs.length
  · rw [List.getElem?_range h]
    simp [List.getElem?_eq_getElem h]
  · have h1 : (List.range xs.length)[i]? = none := List.getElem?_eq_none_iff.mpr (by rw [List.length_range]; omega)
    have h2 : xs[i]? = none := List.getElem?_eq_none_iff.mpr (by omega)
    rw [h1, h2]
    rfl
end Evl
namespace Dt
open PySem L2 Evl Dg LamR LamX
open Dr (StAt SameB)
/-! the shapes of what is a condition, a keep, a rule -/
theorem beg_inv {d : PyData} {w : Str} {n : Nat} (h : begB d w n = true) : ∃ ds, d = .tuple ds ∧ ds.length = n ∧ eqS w (ds.headD .none) = true := by
  unfold begB at h
  rw [Bool.and_eq_true, Bool.and_eq_true] at h
  obtain ⟨h1, h2, h3⟩ := h
  cases d with
  | tuple ds => exact ⟨ds, rfl, of_decide_eq_true h2, h3⟩
  | _ => cases h1
theorem eqS_inv {w : Str} {d : PyData} (h : eqS w d = true) : d = .str w := by
  cases d with
  | str x =>
    have e : x = w := of_decide_eq_true h
    rw [e]
  | _ => cases h
theorem beg2_inv {d : PyData} {w : Str} (h : begB d w 2 = true) : ∃ u, d = .tuple [.str w, u] := by
  obtain ⟨ds, rfl, hl, h3⟩ := beg_inv h
  match ds, hl with
  | [a, b], _ =>
    have := eqS_inv h3
    exact ⟨b, by rw [show a = .str w from this]⟩
theorem beg3_inv {d : PyData} {w : Str} (h : begB d w 3 = true) : ∃ u v, d = .tuple [.str w, u, v] := by
  obtain ⟨ds, rfl, hl, h3⟩ := beg_inv h
  match ds, hl with
  | [a, b, c], _ =>
    have := eqS_inv h3
    exact ⟨b, c, by rw [show a = .str w from this]⟩
theorem size_inv {l : Int} {d : PyData} (h : sizeB l d = true) : ∃ i : Int, d = .int i ∧ l ≤ i ∧ i ≤ 6 := by
  cases d with
  | int i =>
    unfold sizeB at h
    rw [Bool.and_eq_true] at h
    exact ⟨i, rfl, of_decide_eq_true h.1, of_decide_eq_true h.2⟩
  | _ => cases h
theorem bounds_inv {a b : PyData} (h : boundsB a b = true) : ∃ i : Int, a = .int i ∧ 1 ≤ i ∧ i ≤ 6 ∧ (b = .none ∨ ∃ j : Int, b = .int j ∧ i ≤ j ∧ j ≤ 6) := by
  unfold boundsB at h
  rw [Bool.and_eq_true, Bool.or_eq_true] at h
  obtain ⟨h1, h2⟩ := h
  obtain ⟨i, rfl, h3, h4⟩ := size_inv h1
  refine ⟨i, rfl, h3, h4, ?_⟩
  rcases h2 with h2 | h2
  · cases b with
    | none => exact .inl rfl
    | _ => cases h2
  · exact .inr (size_inv h2)
inductive CondS (β : Nat) : PyData → Prop
  | ends (x : Str) (h : isFigs β 2 x = true) : CondS β (.tuple [.str "ends", .str x])
  | near (i : Int) (h0 : 0 ≤ i) (h6 : i ≤ 6) : CondS β (.tuple [.str "near", .int i])
  | len (w : Str) (hw : w = "length" ∨ w = "changed") (i : Int) (h1 : 1 ≤ i) (h6 : i ≤ 6) (e : PyData) (he : e = .none ∨ ∃ j : Int, e = .int j ∧ i ≤ j ∧ j ≤ 6) : CondS β (.tuple [.str w, .int i, e])
theorem cond_inv {β : Nat} {d : PyData} (h : condB β d = true) : CondS β d := by
  unfold condB at h
  cases h1 : begB d "ends" 2 with
  | true =>
    rw [h1, if_pos rfl] at h
    obtain ⟨u, rfl⟩ := beg2_inv h1
    have h' : figsO β 2 (txtD u) = true := h
    cases u with
    | str x => exact .ends x h'
    | _ => cases h'
  | false =>
    rw [h1, if_neg (by decide)] at h
    cases h2 : begB d "near" 2 with
    | true =>
      rw [h2, if_pos rfl] at h
      obtain ⟨u, rfl⟩ := beg2_inv h2
      obtain ⟨i, e, a, b⟩ := size_inv (d := u) h
      rw [e]
      exact .near i a b
    | false =>
      rw [h2, if_neg (by decide)] at h
      cases h3 : (begB d "length" 3 || begB d "changed" 3) with
      | true =>
        rw [h3, if_pos rfl] at h
        rcases Bool.or_eq_true_iff.mp h3 with h4 | h4
        · obtain ⟨u, v, rfl⟩ := beg3_inv h4
          obtain ⟨i, e, a, b, c⟩ := bounds_inv (a := u) (b := v) h
          rw [e]
          exact .len _ (.inl rfl) i a b v c
        · obtain ⟨u, v, rfl⟩ := beg3_inv h4
          obtain ⟨i, e, a, b, c⟩ := bounds_inv (a := u) (b := v) h
          rw [e]
          exact .len _ (.inr rfl) i a b v c
      | false =>
        rw [h3, if_neg (by decide)] at h
        cases h
inductive KeepS : PyData → Prop
  | all : KeepS (.tuple [.str "all"])
  | size (w : Str) (hw : w = "changed" ∨ w = "last") (i : Int) (h1 : 1 ≤ i) (h6 : i ≤ 6) : KeepS (.tuple [.str w, .int i])
theorem keep_inv {d : PyData} (h : keepB d = true) : KeepS d := by
  unfold keepB at h
  cases h1 : (begB d "changed" 2 || begB d "last" 2) with
  | true =>
    rw [h1, if_pos rfl] at h
    rcases Bool.or_eq_true_iff.mp h1 with h4 | h4
    · obtain ⟨u, rfl⟩ := beg2_inv h4
      obtain ⟨i, e, a, b⟩ := size_inv (d := u) h
      rw [e]
      exact .size _ (.inl rfl) i a b
    · obtain ⟨u, rfl⟩ := beg2_inv h4
      obtain ⟨i, e, a, b⟩ := size_inv (d := u) h
      rw [e]
      exact .size _ (.inr rfl) i a b
  | false =>
    rw [h1, if_neg (by decide)] at h
    obtain ⟨ds, rfl, hl, h3⟩ := beg_inv h
    match ds, hl with
    | [a], _ =>
      have := eqS_inv h3
      rw [show a = .str "all" from this]
      exact .all
theorem rule_inv {β : Nat} {d : PyData} (h : ruleB β d = true) : ∃ cs k, d = .tuple [.tuple cs, k] ∧ cs.length ≤ 3 ∧ (∀ c ∈ cs, CondS β c) ∧ KeepS k := by
  unfold ruleB at h
  rw [Bool.and_eq_true, Bool.and_eq_true, Bool.and_eq_true, Bool.and_eq_true, Bool.and_eq_true] at h
  obtain ⟨h1, h2, h3, h4, h5, h6⟩ := h
  cases d with
  | tuple ds =>
    have hl : ds.length = 2 := of_decide_eq_true h2
    match ds, hl with
    | [c, k], _ =>
      have h3' : isT c = true := h3
      cases c with
      | tuple cs => exact ⟨cs, k, rfl, of_decide_eq_true h4, fun c hc => cond_inv (List.all_eq_true.mp h5 c hc), keep_inv h6⟩
      | _ => cases h3'
  | _ => cases h1
theorem cond_noL {β : Nat} {d : PyData} (h : CondS β d) : noL d = true ∧ isT d = true := by
  cases h with
  | ends x h => exact ⟨rfl, rfl⟩
  | near i h0 h6 => exact ⟨rfl, rfl⟩
  | len w hw i h1 h6 e he =>
    rcases he with rfl | ⟨j, rfl, _, _⟩ <;> exact ⟨rfl, rfl⟩
theorem keep_noL {d : PyData} (h : KeepS d) : noL d = true ∧ isT d = true := by
  cases h <;> exact ⟨rfl, rfl⟩
theorem noLs_all : ∀ {ds : List PyData}, (∀ d ∈ ds, noL d = true) → noLs ds = true
  | [], _ => rfl
  | d :: ds, h => by
    rw [noLs, h d List.mem_cons_self, noLs_all fun e he => h e (List.mem_cons_of_mem _ he)]
    rfl
theorem rule_noL {β : Nat} {d : PyData} (h : ruleB β d = true) : noL d = true := by
  obtain ⟨cs, k, rfl, _, hc, hk⟩ := rule_inv h
  show (noLs cs && (noL k && true)) = true
  rw [noLs_all fun c h => (cond_noL (hc c h)).1, (keep_noL hk).1]
  rfl
theorem rules_noL {β : Nat} {ds : List PyData} (h : ds.all (ruleB β) = true) : noLs ds = true := noLs_all fun d hd => rule_noL (List.all_eq_true.mp h d hd)
/-! what is due of a row of rules -/
def badAt (β : Nat) : List PyData → Nat → Option Nat
  | [], _ => none
  | d :: ds, k => if ruleB β d = true then badAt β ds (k + 1) else some k
theorem badAt_all {β : Nat} : ∀ {ds : List PyData} {k : Nat}, ds.all (ruleB β) = true → badAt β ds k = none
  | [], _, _ => rfl
  | d :: ds, k, h => by
    rw [List.all_cons, Bool.and_eq_true] at h
    unfold badAt
    rw [if_pos h.1]
    exact badAt_all h.2
theorem badAt_none {β : Nat} : ∀ {ds : List PyData} {k : Nat}, badAt β ds k = none → ds.all (ruleB β) = true
  | [], _, _ => rfl
  | d :: ds, k, h => by
    unfold badAt at h
    by_cases hd : ruleB β d = true
    · rw [if_pos hd] at h
      rw [List.all_cons, hd, badAt_none h]
      rfl
    · rw [if_neg hd] at h
      cases h
theorem badAt_at {β : Nat} : ∀ {i : Nat} {ds : List PyData} {k : Nat} {d : PyData}, (ds.take i).all (ruleB β) = true → ds[i]? = some d → ruleB β d = false → badAt β ds k = some (k + i)
  | _, [], _, _, _, h, _ => by simp at h
  | 0, e :: ds, k, d, _, h, hd => by
    simp only [List.getElem?_cons_zero, Option.some.injEq] at h
    subst h
    unfold badAt
    rw [if_neg (by rw [hd]; decide)]
    rfl
  | i + 1, e :: ds, k, d, ha, h, hd => by
    rw [List.take_succ_cons, List.all_cons, Bool.and_eq_true] at ha
    unfold badAt
    rw [if_pos ha.1]
    simp only [List.getElem?_cons_succ] at h
    rw [badAt_at ha.2 h hd]
    congr 1
    omega
/-- the last one has conditions -/
def lastC (ds : List PyData) : Bool := decide (0 < (tupD (at_ 0 (ds.getLastD .none))).length)
/-- none: nothing is wrong; else the place -/
def dueD (β : Nat) (ds : List PyData) : Option PyData :=
  if 1 ≤ ds.length ∧ ds.length ≤ 8 then (match badAt β ds 0 with
    | some k => some (.int (k : Int))
    | none => if lastC ds = true then some (.int ((ds.length : Int) - 1)) else none) else some .none
theorem due_len {β : Nat} {ds : List PyData} (h : ¬ (1 ≤ ds.length ∧ ds.length ≤ 8)) : dueD β ds = some .none := by unfold dueD; rw [if_neg h]
theorem due_bad {β : Nat} {ds : List PyData} {i : Nat} {d : PyData} (h : 1 ≤ ds.length ∧ ds.length ≤ 8) (ha : (ds.take i).all (ruleB β) = true) (hi : ds[i]? = some d) (hd : ruleB β d = false) : dueD β ds = some (.int (i : Int)) := by
  unfold dueD
  rw [if_pos h, badAt_at ha hi hd, Nat.zero_add]
theorem due_last {β : Nat} {ds : List PyData} (h : 1 ≤ ds.length ∧ ds.length ≤ 8) (ha : ds.all (ruleB β) = true) : dueD β ds = if lastC ds = true then some (.int ((ds.length : Int) - 1)) else none := by
  unfold dueD
  rw [if_pos h, badAt_all ha]
theorem due_none {β : Nat} {ds : List PyData} (h : dueD β ds = none) : (1 ≤ ds.length ∧ ds.length ≤ 8) ∧ ds.all (ruleB β) = true ∧ lastC ds = false := by
  unfold dueD at h
  by_cases h1 : 1 ≤ ds.length ∧ ds.length ≤ 8
  · rw [if_pos h1] at h
    cases hb : badAt β ds 0 with
    | some k =>
      rw [hb] at h
      cases h
    | none =>
      rw [hb] at h
      refine ⟨h1, badAt_none hb, ?_⟩
      cases hl : lastC ds with
      | false => rfl
      | true =>
        rw [hl] at h
        cases h
  · rw [if_neg h1] at h
    cases h
def plV : PyData → V
  | .int i => .int i
  | _ => .non
/-- the refusal, or going on -/
structure Due (ca : Nat → Addr) (H : Hp) (E : XK) (o : Option PyData) (G : Prop) : Prop where
  bad : ∀ pl, o = some pl → Leaves (ca 5) "place" (plV pl) H E
  ok : o = none → G
end Dt

namespace Dt
open PySem L2 Evl Dg LamR LamX StX ClX
open Dr (StAt SameB)
abbrev sNeedRules : Stmt := top 45
abbrev sPlain : Stmt := top 47
abbrev clStyle : Stmt := top 53
abbrev sInit : Stmt := inClass clStyle 0
abbrev sOfS : Stmt := inClass clStyle 1
abbrev rTupOf (K : PySem.W.Frag) : List V → Hp → VK → Prop := fun xs H Q => ∃ p ys, xs = [V.ref p] ∧ ((SqL K H p ys ∧ ∀ l, H l = none → Q (V.ref l) (upd H l (.tup ys))) ∨ (SqT K H p ys ∧ Q (V.ref p) H))
section
variable {K : PySem.W.Frag} {σ : St} {H : Hp} {t0 t1 te : TE} {E : St → XK} {β : Nat} {D : PyData} {ca : Nat → Addr}
theorem bs_yes (b2 : 2 ≤ β) (b10 : β ≤ 10) : Bs K H (.int β) true := by
  have e : (decide ((2 : Int) ≤ (β : Int)) && decide ((β : Int) ≤ 10)) = true := by
    rw [decide_eq_true (by omega), decide_eq_true (by omega)]
    rfl
  rw [← e]
  exact .int β
theorem ev_rule (b2 : 2 ≤ β) (b10 : β ≤ 10) (h0 : Ev t0 σ H (.int β)) (h1 : EvP t1 σ H D) : Ev (tCallS (spRule K ca) E (tCons t0 (tCons t1 tNil))) σ H (.bl (ruleB β D)) := fun H1 e Q q =>
  h0 H1 e _ fun H2 e2 => h1 H2 (e.trans e2) _ fun v H3 e3 k => ⟨.int β, v, D, true, rfl, bs_yes b2 b10, k, (fun z => nomatch z), fun _ => ⟨β, rfl, b2, b10, fun H4 e4 => q H4 ((e2.trans e3).trans e4)⟩⟩
theorem ep_tupOf {r : List V → Hp → VK → Prop} (hr : ∀ (p : Addr) (ys : List V) (H : Hp) (Q : VK), SqL K H p ys → (∀ l, H l = none → Q (.ref l) (upd H l (.tup ys))) → r [.ref p] H Q) {Ds : List PyData} (h : EvP t0 σ H (.list Ds)) : EvP (tCB r (tCons t0 tNil)) σ H (.tuple Ds) := fun H1 e Q q =>
  h H1 e _ fun v H2 e2 k => by
    cases k with
    | @lst a vs _ ha hv => exact hr a vs H2 _ (sq_of ha) fun l hl => q (.ref l) _ (e2.trans (Ex.new hl)) (.tup upd_same (hv.ex (Ex.new hl)))
theorem ep_tupId {r : List V → Hp → VK → Prop} (hr : ∀ (p : Addr) (ys : List V) (H : Hp) (Q : VK), SqT K H p ys → Q (.ref p) H → r [.ref p] H Q) {Ds : List PyData} (h : EvP t0 σ H (.tuple Ds)) : EvP (tCB r (tCons t0 tNil)) σ H (.tuple Ds) := fun H1 e Q q =>
  h H1 e _ fun v H2 e2 k => by
    cases k with
    | @tup a vs _ ha hv => exact hr a vs H2 _ (st_of ha) (q (.ref a) _ e2 (.tup ha hv))
theorem ev_tupId {r : List V → Hp → VK → Prop} (hr : ∀ (p : Addr) (ys : List V) (H : Hp) (Q : VK), SqT K H p ys → Q (.ref p) H → r [.ref p] H Q) {a : Addr} {vs : List V} (h : Ev t0 σ H (.ref a)) (ha : H a = some (.tup vs)) : Ev (tCB r (tCons t0 tNil)) σ H (.ref a) := fun H1 e Q q =>
  h H1 e _ fun H2 e2 => hr a vs H2 _ (st_of (e2 _ _ (e _ _ ha))) (q _ e2)
theorem ep_L {xs : List V} {ds : List PyData} (h : EvL t0 σ H xs) (k : PtAll H xs ds) : EvP t0 σ H (.list ds) := fun H1 e Q q => h H1 e _ fun p H2 hp e2 h2 => q (.ref p) H2 e2 (.lst h2 (k.ex (e.trans e2)))
end
theorem Pt.tupI' {H : Hp} {v : V} {ds : List PyData} (h : Pt H v (.tuple ds)) : ∃ a vs, v = .ref a ∧ H a = some (.tup vs) ∧ PtAll H vs ds := by
  cases h with
  | tup hs ha => exact ⟨_, _, rfl, hs, ha⟩
structure TxY (K : PySem.W.Frag) (mg : Str → Option Value) (fnb frl fnr fpl : Addr) (ca : Nat → Addr) : Prop where
  needB : mg "need_base" = some (.ref fnb)
  kNB : PySem.W.keepIn K (.ref fnb) = true
  rule : mg "is_rule" = some (.ref frl)
  kRl : PySem.W.keepIn K (.ref frl) = true
  needR : mg "need_rules" = some (.ref fnr)
  kNR : PySem.W.keepIn K (.ref fnr) = true
  plain : mg "plain_rule" = some (.ref fpl)
  kPl : PySem.W.keepIn K (.ref fpl) = true
  badRule : mg "BadRule" = some (.ref (ca 5))
  len : mg "len" = none
  tuple : mg "tuple" = none
  enum : mg "enumerate" = none
  isi : mg "isinstance" = none
  sup : mg "super" = none
  list : mg "list" = none
  mrules : ∃ t, mg "MOST_RULES" = some (.int 8 t)
section
variable {P : Program} {w : World} {K : PySem.W.Frag} {mg : Str → Option Value} {base : Heap} {ca : Nat → Addr} {fnb frl fnr fpl : Addr}
def spNeedRules (ca : Nat → Addr) : Sp := fun vs H Q E => ∃ (β : Nat) (t : Addr) (rs : List V) (Ds : List PyData), vs = [.int β, .ref t] ∧ 2 ≤ β ∧ β ≤ 10 ∧ H t = some (.tup rs) ∧ PtAll H rs Ds ∧ Due ca H E (dueD β Ds) (RetV .non H Q)
theorem scNeedRules : FnScope ["base", "rules", "number", "rule", "last"] ["base", "rules"] (defScope sNeedRules) := ⟨rfl, rfl, rfl, by decide +kernel, rfl, by decide +kernel, by decide +kernel⟩
theorem ok_needRules {f : Addr} {fd fdr : FuncData} (F : Fun K "need_rules" "need_rules" sNeedRules f fd) (GR : FnOk P w K mg base (L2.CX P w) 5 frl fdr ["base", "value"] (spRule K ca)) (bR : Binds K fdr ["base", "value"] []) (M : Mks P K mg (ca 5) ["place"]) (T : TxY K mg fnb frl fnr fpl ca) :
    FnOk P w K mg base (L2.CX P w) 6 f fd ["base", "rules"] (spNeedRules ca) := by
  refine F.okX scNeedRules (fun vs H Q E h => ?_) (fun cdv A outer s H vs Q E hr h => ?_)
  · obtain ⟨β, t, rs, Ds, rfl, _⟩ := h
    rfl
  · obtain ⟨β, t, rs, Ds, rfl, b2, b10, ht, ka, due⟩ := h
    obtain ⟨tm, hm⟩ := T.mrules
    refine ⟨_, pss_cons (ps_if (pt_not (pt_chain op_le op_le pe_int (pe_callB call_len_seq (by rfl) T.len (by decide +kernel) (pa_cons (pv 1) pa_nil)) (pe_glob (by rfl) hm (v := .int 8) ⟨_, rfl⟩)))
        (pss_one (ps_raise rfl (takes_of rfl rfl rfl rfl) (pmk_mks M T.sup hr (by simp) (pa_cons pe_non pa_nil) (by rfl) T.badRule))) pss_nil)
      (pss_cons (ps_for (passes_of rfl) rfl (pi_enumT (by rfl) T.enum (pa_cons (pv 1) pa_nil)) (pg_tup (by rfl) (pgs_cons (pg_name (i := 2) scNeedRules.nd rfl (.inl rfl)) (pgs_cons (pg_name (i := 3) scNeedRules.nd rfl (.inl rfl)) pgs_nil)))
        (pss_one (ps_if (pt_not (pt_val (pe_callS GR hr (by rfl) T.rule T.kRl bR (fun σ => passAt (takes_of rfl rfl rfl rfl) σ) (pa_cons (pv 0) (pa_cons (pv 3) pa_nil)))))
          (pss_one (ps_raise rfl (takes_of rfl rfl rfl rfl) (pmk_mks M T.sup hr (by simp) (pa_cons (pv 2) pa_nil) (by rfl) T.badRule))) pss_nil)))
      (pss_cons (ps_set (i := 4) scNeedRules.nd rfl (.inl rfl) (pe_op op_sub (pe_callB call_len_seq (by rfl) T.len (by decide +kernel) (pa_cons (pv 1) pa_nil)) pe_int))
      (pss_one (ps_if (pt_cmpR op_gt (pe_callB call_len_seq (by rfl) T.len (by decide +kernel) (pa_cons (pe_ix ix_tup (pe_ix ix_tup (pv 1) (pv 4) (fun _ _ => rfl)) pe_int (fun _ _ => rfl)) pa_nil)) pe_int (nomark _))
        (pss_one (ps_raise rfl (takes_of rfl rfl rfl rfl) (pmk_mks M T.sup hr (by simp) (pa_cons (pv 4) pa_nil) (by rfl) T.badRule))) pss_nil)))), ?_⟩
    have hl := ka.length
    have leaf : ∀ {pl : PyData} {v : V} {H1 : Hp}, dueD β Ds = some pl → plV pl = v → Ex H H1 → Leaves (ca 5) "place" v H1 E := fun hp hv e => hv ▸ (due.bad _ hp).go e
    refine q_when (b := !(decide (1 ≤ Ds.length) && decide (Ds.length ≤ 8))) (et_is (et_not (et_test (ev_chI ev_c (ev_lenT (K := K) (ev_var rfl) ht) ev_c))) (by
      rw [hl]
      congr 1
      congr 1 <;> exact decide_eq_decide.mpr (by omega))) (fun z H1 e1 => ?_) (fun z H1 e1 => ?_)
    · have hb : ¬ (1 ≤ Ds.length ∧ Ds.length ≤ 8) := fun ⟨a, b⟩ => by
        rw [decide_eq_true a, decide_eq_true b] at z
        cases z
      exact ⟨rfl, fun d hd => leaf (due_len hb) rfl e1 H1 d (Ex.refl _) hd⟩
    · have hb : 1 ≤ Ds.length ∧ Ds.length ≤ 8 := by
        rw [Bool.not_eq_false', Bool.and_eq_true] at z
        exact ⟨of_decide_eq_true z.1, of_decide_eq_true z.2⟩
      refine ⟨_, rfl, t, rs, rfl, st_of (e1 _ _ ht), for_enumT (xs := rs) (fun i σ' H' => (∃ x2 x3, σ' = [some (.int β), some (.ref t), x2, x3, none]) ∧ Ex H H' ∧ (Ds.take i).all (ruleB β) = true)
        ⟨⟨_, _, rfl⟩, e1, rfl⟩ (fun i σ' H' _ hI => st_of (hI.2.1 _ _ ht)) (fun i x T' σ' H' hx hI hT => ?_) (fun σ' H' hI => ?_)⟩
      · obtain ⟨⟨x2, x3, rfl⟩, e2, hg⟩ := hI
        obtain ⟨dx, hdx, kx⟩ := ka.get2 hx
        have e3 := e2.trans (Ex.new (o := .tup [.int (i : Nat), x]) hT)
        refine ⟨T', _, rfl, st_of upd_same, rfl, _, _, rfl, _, _, rfl, rfl, ?_⟩
        refine s_when (b := !ruleB β dx) (et_not (et_B (ev_rule b2 b10 (ev_var rfl) (ep_v (ev_var rfl) (kx.ex e3))))) (fun z4 H4 e4 => ?_) (fun z4 H4 e4 => ?_)
        · exact ⟨_, rfl, rfl, fun d hd => leaf (due_bad hb hg hdx (by simpa using z4)) rfl (e3.trans e4) H4 d (Ex.refl _) hd⟩
        · refine ⟨⟨_, _, rfl⟩, e3.trans e4, ?_⟩
          rw [List.take_add_one, hdx, List.all_append, hg]
          have : ruleB β dx = true := by simpa using z4
          simp [this]
      · obtain ⟨⟨x2, x3, rfl⟩, e2, hg⟩ := hI
        rw [hl, List.take_length] at hg
        have ht2 := e2 _ _ ht
        refine q_asg (ev_op (ev_lenT (K := K) (ev_var rfl) ht2) ev_c rv_I0) fun H3 e3 => ?_
        have ht3 := e3 _ _ ht2
        have hpos : Ds.length - 1 < Ds.length := by omega
        obtain ⟨dl, hdl⟩ : ∃ dl, Ds[Ds.length - 1]? = some dl := ⟨_, List.getElem?_eq_getElem hpos⟩
        obtain ⟨u, hu, ku⟩ := ka.get hdl
        have hr2 : ruleB β dl = true := List.all_eq_true.mp hg _ (List.mem_of_getElem? hdl)
        obtain ⟨cs, kk, rfl, hc3, hcs, hks⟩ := rule_inv hr2
        obtain ⟨au, us, rfl, hau, kus⟩ := ((ku.ex e2).ex e3).tupI'
        obtain ⟨uc, huc, kuc⟩ := kus.get (i := 0) rfl
        obtain ⟨ac, vcs, rfl, hac, kcs⟩ := kuc.tupI'
        have hlast : lastC Ds = decide (0 < cs.length) := by
          unfold lastC
          have : Ds.getLastD .none = .tuple [.tuple cs, kk] := by
            rw [List.getLastD_eq_getLast?, List.getLast?_eq_getElem?, hdl]
            rfl
          rw [this]
          rfl
        have elast : Ev (tOp (rIxT K) (tVar 1) (tVar 4)) [some (.int β), some (.ref t), x2, x3, some (.int ((rs.length : Int) - 1))] H3 (.ref au) := ev_op (ev_var rfl) (ev_var rfl) (rv_ixT (st_of ht3) (by
          rw [show (rs.length : Int) - 1 = ((Ds.length - 1 : Nat) : Int) by omega]
          exact atI_nat hu))
        refine s_when (b := decide (0 < cs.length)) (et_is (et_test (ev_op (ev_lenT (K := K) (ev_at (K := K) (i := 0) elast hau huc) hac) ev_c rv_I0)) (by
          rw [kcs.length]
          exact decide_eq_decide.mpr (by omega))) (fun z H4 e4 => ?_) (fun z H4 e4 => ?_)
        · refine ⟨_, rfl, rfl, fun d hd => leaf (v := .int ((rs.length : Int) - 1)) (due_last hb hg |>.trans (by rw [hlast, z]; rfl)) (by rw [hl]; rfl) ((e2.trans e3).trans e4) H4 d (Ex.refl _) hd⟩
        · exact due.ok (due_last hb hg |>.trans (by rw [hlast, z]; rfl)) H4 ((e2.trans e3).trans e4)
def spPlain : Sp := fun vs H Q _ => ∃ v cs k, vs = [v] ∧ Pt H v (.tuple [.tuple cs, k]) ∧ (∀ c ∈ cs, isT c = true) ∧ isT k = true ∧ cs.length ≤ 3 ∧ ∀ v' H', Ex H H' → Pt H' v' (.tuple [.tuple cs, k]) → Q v' H'
theorem scPlain : FnScope ["rule", "conditions", "keep", "condition"] ["rule"] (defScope sPlain) := ⟨rfl, rfl, rfl, by decide +kernel, rfl, by decide +kernel, by decide +kernel⟩
theorem ok_plain {f : Addr} {fd : FuncData} (F : Fun K "plain_rule" "plain_rule" sPlain f fd) (T : TxY K mg fnb frl fnr fpl ca) : FnOk P w K mg base CX0 1 f fd ["rule"] spPlain := by
  refine F.ok scPlain (fun vs H Q E h => ?_) (fun cdv A outer s H vs Q E hr h => ?_)
  · obtain ⟨v, cs, k, rfl, _⟩ := h
    rfl
  · obtain ⟨v, cs, k, rfl, kv, hcs, hk, hc3, q⟩ := h
    refine ⟨_, pss_cons (ps_asg (pv 0) (pg_tup (by rfl) (pgs_cons (pg_name (i := 1) scPlain.nd rfl (.inl rfl)) (pgs_cons (pg_name (i := 2) scPlain.nd rfl (.inl rfl)) pgs_nil))))
      (pss_one (ps_ret (pe_tup (pa_cons (pe_callTy call_tuple_of (by rfl) T.tuple (by decide +kernel) (pa_cons (pe_lc (own := [("condition", 3)]) (g := gName 3) (tt := tYes) rfl scPlain.nd (pi_tup (pv 1)) (blkOk_by (own := [("condition", 3)]) (N := ["rule", "conditions", "keep", "condition"]) (sc := defScope sPlain) (by decide +kernel))
          (fun _ _ _ _ _ => pg_name (i := 3) scPlain.nd rfl (Or.inl rfl)) (fun _ _ _ _ _ => pts_nil) (fun _ _ _ _ _ => pe_callTy (T := "tuple") (r := rTupOf K) call_tuple_of (by rfl) T.tuple (by decide +kernel) (pa_cons (pv 3) pa_nil))) pa_nil))
        (pa_cons (pe_callTy call_tuple_of (by rfl) T.tuple (by decide +kernel) (pa_cons (pv 2) pa_nil)) pa_nil))))), ?_⟩
    obtain ⟨a, us, rfl, ha, kus⟩ := kv.tupI'
    cases kus with
    | @cons vc _ _ _ kc kus =>
      cases kus with
      | @cons vk _ _ _ kk kus =>
        cases kus with
        | nil =>
          obtain ⟨ac, ws, rfl, hac, kws⟩ := kc.tupI'
          refine ⟨_, rfl, a, _, rfl, st_of ha, rfl, _, _, rfl, _, _, rfl, rfl, ?_⟩
          cases k with
          | tuple ks =>
            have hl := kws.length
            dsimp only
            refine s_retP (D := .tuple [.tuple cs, .tuple ks]) (ep_tup (epa_cons (ep_tupOf (K := K) (fun p ys H Q hs hq => ⟨p, ys, rfl, .inl ⟨hs, hq⟩⟩) (ep_L (xs := ws) ?_ kws)) (epa_cons (ep_tupId (K := K) (fun p ys H Q hs hq => ⟨p, ys, rfl, .inr ⟨hs, hq⟩⟩) (ep_v (ev_var rfl) kk)) epa_nil)) (by simp)) fun v H1 e1 k1 => q v H1 e1 k1
            have := el_lcT (K := K) (σ := [some (.ref a), some (.ref ac), some vk, none]) (H := H) (tl := tVar 1) (j := 3) (vs := [3]) (t := tYes) (te := tCB (rTupOf K) (tCons (tVar 3) tNil)) (fun _ => true) (fun i => ws.getD i .non) (ev_var rfl) (st_of hac) (by omega) (fun _ => rfl) (fun i x H4 e4 hx => fun H5 e5 Q5 q5 => q5 H5 (Ex.refl _)) (fun i x H4 e4 hx _ => by
              obtain ⟨dd, hd, kd⟩ := kws.get2 hx
              have hdt := hcs dd (List.mem_of_getElem? hd)
              have : ws.getD i .non = x := by rw [List.getD_eq_getElem?_getD, hx]; rfl
              rw [this]
              cases dd with
              | tuple es =>
                obtain ⟨ax, xs, rfl, hax, _⟩ := (kd.ex e4).tupI'
                exact ev_tupId (K := K) (fun p ys H Q hs hq => ⟨p, ys, rfl, .inr ⟨hs, hq⟩⟩) (ev_var rfl) hax
              | _ => cases hdt)
            rw [given_one] at this
            exact this
          | _ => cases hk
end
end Dt

namespace Dt
open PySem L2 Evl Dg LamR LamX StX ClX
open Dr (StAt SameB)
/-- the style's object at x: its base, its rules -/
def StyAt (H : Hp) (C x : Addr) (β : Nat) (Ds : List PyData) : Prop := ∃ dx t, H x = some (.ins C dx [("stored_base", .int (β : Int)), ("stored_rules", .ref t)]) ∧ Pt H (.ref t) (.tuple Ds)
theorem StyAt.extN {H H' : Hp} {C x : Addr} {β : Nat} {Ds : List PyData} (h : StyAt H C x β Ds) (e : ExtN H H') : StyAt H' C x β Ds := let ⟨dx, t, h1, h2⟩ := h; ⟨dx, t, e _ _ h1 (by simp), h2.extN e⟩
theorem StyAt.ex {H H' : Hp} {C x : Addr} {β : Nat} {Ds : List PyData} (h : StyAt H C x β Ds) (e : Ex H H') : StyAt H' C x β Ds := h.extN (ExtN.of e)
theorem StyAt.same {H H' : Hp} {p c l : Addr} {n : Nat} {a : Int} {C x : Addr} {β : Nat} {Ds : List PyData} (S : StAt H p c l n a) (h : StyAt H C x β Ds) (e : SameB H H' p l) (k : noLs Ds = true) : StyAt H' C x β Ds := by
  obtain ⟨dx, t, h1, h2⟩ := h
  obtain ⟨ls, hl, _⟩ := S.l
  exact ⟨dx, t, e _ _ h1 (ne_of h1 S.d (by intro z; cases z)) (ne_of h1 hl (by intro z; cases z)), h2.tk (tupK_same S e) (by rw [noL]; exact k)⟩
section
variable {P : Program} {w : World} {K : PySem.W.Frag} {mg : Str → Option Value} {base : Heap} {ca : Nat → Addr} {fnb frl fnr fpl : Addr} {C : Addr}
def spInit (K : PySem.W.Frag) (C : Addr) (ca : Nat → Addr) : Sp := fun vs H Q E => ∃ (x t dx : Addr) (vb : V) (rs : List V) (Ds : List PyData) (b : Bool), vs = [.ref x, vb, .ref t] ∧ H x = some (.ins C dx []) ∧ H t = some (.tup rs) ∧ PtAll H rs Ds ∧ Bs K H vb b ∧
  (b = false → Leaves (ca 1) "value" vb H E) ∧ (b = true → ∃ β : Nat, vb = .int β ∧ 2 ≤ β ∧ β ≤ 10 ∧ Due ca H E (dueD β Ds) (∀ (t2 : Addr) (H' : Hp), (∀ b o, H b = some o → b ≠ x → H' b = some o) → H' x = some (.ins C dx [("stored_base", .int (β : Int)), ("stored_rules", .ref t2)]) → Pt H' (.ref t2) (.tuple Ds) → Q .non H'))
theorem scInit : FnScope ["self", "base", "rules", "rule"] ["self", "base", "rules"] (defScope sInit) := ⟨rfl, rfl, rfl, by decide +kernel, rfl, by decide +kernel, by decide +kernel⟩
def spInitR (K : PySem.W.Frag) (C : Addr) (ca : Nat → Addr) : Sp := fun vs H Q E => ∃ ws rest, vs = ws ++ rest ∧ ws.length = 2 ∧ rest.length ≤ sizeLine ∧ ∀ p, H p = Option.none → spInit K C ca (ws ++ [V.ref p]) (upd H p (.tup rest)) Q E
theorem ok_init {f : Addr} {oc kV doc pm cdv ct : Value} {od an : Option Addr} {osl : Array (Option Value)} {fdn fdr fdp : FuncData} (lk : K.lookup f = some ⟨oc, od, .func (PySem.W.fnOf "__init__" "Style.__init__" (defArgs sInit) (defBody sInit) (defScope sInit) .none kV doc pm an cdv ct), osl⟩) (hcd : PySem.W.codeIn K cdv "Style.__init__" = true)
    (cl : Cls K C) (n1 : NoAttr K C "stored_base") (n2 : NoAttr K C "stored_rules") (GN : FnOk P w K mg base (L2.CX P w) 6 fnb fdn ["base"] (spNeed (Bs K) (ca 1))) (bN : Binds K fdn ["base"] [])
    (GR : FnOk P w K mg base (L2.CX P w) 6 fnr fdr ["base", "rules"] (spNeedRules ca)) (bR : Binds K fdr ["base", "rules"] []) (GP : FnOk P w K mg base CX0 6 fpl fdp ["rule"] spPlain) (bP : Binds K fdp ["rule"] []) (T : TxY K mg fnb frl fnr fpl ca) :
    FnR P w K mg base (L2.CX P w) 7 f (spInitR K C ca) := by
  refine fn_star (k := 6) (ps := ["self", "base"]) (pv := "rules") (sp := spInit K C ca) lk hcd scInit cxUp (bind_star2 (B := fun l => bindArgs (PySem.W.fnOf "__init__" "Style.__init__" (defArgs sInit) (defBody sInit) (defScope sInit) .none kV doc pm an cdv ct) ⟨l, []⟩) (p1 := "self") (p2 := "base") (pv := "rules") (fun a b => rfl) (fun a b r rs => rfl)) (fun A outer s H vs Q E hr h => ?_)
  obtain ⟨x, t, dx, vb, rs, Ds, b, rfl, hx, ht, ka, kb, l1, hq⟩ := h
  refine ⟨_, pss_cons (ps_expr (pe_callS GN hr (by rfl) T.needB T.kNB bN (fun σ => passAt (takes_of rfl rfl rfl rfl) σ) (pa_cons (pv 1) pa_nil)))
    (pss_cons (ps_expr (pe_callS GR hr (by rfl) T.needR T.kNR bR (fun σ => passAt (takes_of rfl rfl rfl rfl) σ) (pa_cons (pv 1) (pa_cons (pv 2) pa_nil))))
    (pss_cons (ps_fld (pv 0) (pv 1) rfl)
    (pss_one (ps_fld (pv 0) (pe_callTy (T := "tuple") (r := rTupOf K) call_tuple_of (by rfl) T.tuple (by decide +kernel) (pa_cons (pe_lc (own := [("rule", 3)]) (g := gName 3) (tt := tYes) rfl scInit.nd (pi_tup (pv 2)) (blkOk_by (own := [("rule", 3)]) (N := ["self", "base", "rules", "rule"]) (sc := defScope sInit) (by decide +kernel))
      (fun _ _ _ _ _ => pg_name (i := 3) scInit.nd rfl (Or.inl rfl)) (fun _ _ _ _ _ => pts_nil) (fun _ _ _ _ _ => pe_call GP hr (by rfl) T.plain T.kPl bP .nil pass0 (pa_cons (pv 3) pa_nil))) pa_nil)) rfl)))), ?_⟩
  refine ⟨_, rfl, vb, b, rfl, kb, fun hb H1 e1 => ?_, fun hb => l1 hb⟩
  obtain ⟨β, rfl, b2, b10, due⟩ := hq hb
  refine ⟨_, rfl, _, rfl, β, t, rs, Ds, rfl, b2, b10, e1 _ _ ht, ka.ex e1, ⟨fun pl hp => (due.bad pl hp).go e1, fun hn H2 e2 => ?_⟩⟩
  have e12 := e1.trans e2
  obtain ⟨hlen, hall, _⟩ := due_none hn
  have hnl := rules_noL hall
  have hl := ka.length
  refine ⟨_, rfl, _, rfl, x, C, dx, [], rfl, e12 _ _ hx, cl, n1, by decide, ?_⟩
  dsimp only [putF]
  have kx0 : ∀ b o, H b = some o → b ≠ x → (upd H2 x (.ins C dx [("stored_base", .int (β : Int))])) b = some o := fun b o h hb => by
    rw [upd_ne hb]
    exact e12 _ _ h
  have txt : t ≠ x := ne_of ht hx (by intro z; cases z)
  refine ⟨_, rfl, t, rfl, ⟨rs, st_of (kx0 _ _ ht txt)⟩, fun Dl nDl => ?_⟩
  have nDx : Dl ≠ x := fun z => by
    rw [z, upd_same] at nDl
    cases nDl
  have nDH : H Dl = none := by
    cases hz : H Dl with
    | none => rfl
    | some o => exact absurd (nDl.symm.trans (kx0 _ _ hz nDx)) (by simp)
  refine lc_tup (xs := rs) (fun j H' => ∃ ws, H' Dl = some (.lst ws) ∧ PtAll H' ws (Ds.take j) ∧ (∀ b o, H b = some o → b ≠ x → H' b = some o) ∧ H' x = some (.ins C dx [("stored_base", .int (β : Int))]))
    ⟨[], upd_same, .nil, fun b o h hb => by rw [upd_ne (ne_of_none h nDH)]; exact kx0 b o h hb, by rw [upd_ne nDx.symm]; exact upd_same⟩ (fun i H' _ hI => st_of (hI.choose_spec.2.2.1 _ _ ht txt)) (fun i y H4 hy hI => ?_) (fun H4 hI => ?_)
  · obtain ⟨ws, hD, kw, kx, hx4⟩ := hI
    obtain ⟨dd, hdd, kd⟩ := ka.get2 hy
    have hi : i < rs.length := (List.getElem?_eq_some_iff.mp hy).1
    have hrd : ruleB β dd = true := List.all_eq_true.mp hall dd (List.mem_of_getElem? hdd)
    have tk4 : TupK H H4 := fun a xs h => kx a _ h (ne_of h hx (by intro z; cases z))
    obtain ⟨cs, k, rfl, hc3, hcs, hks⟩ := rule_inv hrd
    refine ⟨rfl, ?_⟩
    rw [show (tYes : TT) = fun _ H Q => Q true H from rfl]
    dsimp only
    rw [if_pos rfl]
    refine ⟨_, rfl, y, cs, k, rfl, kd.tk tk4 (rule_noL hrd), fun c hc => (cond_noL (hcs c hc)).2, (keep_noL hks).2, hc3, fun v' H5 e5 k5 => ⟨ws, e5 _ _ hD, ?_, ws ++ [v'], upd_same, ?_, fun b o h hb => ?_, ?_⟩⟩
    · rw [kw.length, List.length_take, sizeLine_eq]
      omega
    · rw [List.take_add_one, hdd]
      have tk5 : TupK H4 (upd H5 Dl (.lst (ws ++ [v']))) := (tupK_ex e5).trans (tupK_upd (e5 _ _ hD))
      exact (kw.tk tk5 (rules_noL (by
        refine List.all_eq_true.mpr fun d hd => List.all_eq_true.mp hall d (List.mem_of_mem_take hd)))).app (.cons (k5.tk (tupK_upd (e5 _ _ hD)) (rule_noL hrd)) .nil)
    · rw [upd_ne (ne_of_none h nDH)]
      exact e5 _ _ (kx b o h hb)
    · rw [upd_ne nDx.symm]
      exact e5 _ _ hx4
  · obtain ⟨ws, hD, kw, kx, hx4⟩ := hI
    rw [hl, List.take_length] at kw
    refine ⟨Dl, ws, rfl, .inl ⟨SqL.of hD, fun t2 nt2 => ?_⟩⟩
    have e5 := Ex.new (o := .tup ws) nt2
    refine ⟨_, rfl, x, C, dx, _, rfl, e5 _ _ hx4, cl, n2, (by simp), ?_⟩
    have hx5 := e5 _ _ hx4
    refine due.ok hn t2 _ (fun b o h hb => ?_) upd_same ?_
    · rw [upd_ne hb]
      exact e5 _ _ (kx b o h hb)
    · have k2 : Pt (upd H4 t2 (.tup ws)) (.ref t2) (.tuple Ds) := .tup upd_same (kw.ex e5)
      refine k2.tk (fun a xs h => ?_) (by rw [noL]; exact hnl)
      rw [upd_ne (ne_of h hx5 (by intro z; cases z))]
      exact h
/-- what Style.of asks of its rules -/
def dueO (β : Nat) : PyData → Option PyData
  | .tuple ds => dueD β ds
  | .list ds => dueD β ds
  | _ => some .none
def seqD : PyData → List PyData
  | .tuple ds => ds
  | .list ds => ds
  | _ => []
def isQ : PyData → Bool
  | .tuple _ => true
  | .list _ => true
  | _ => false
theorem kit_list (d : PyData) : kitB (tyN d) "list" = some (match d with | .list _ => true | _ => false) := by
  cases d <;> simp only [tyN] <;> decide +kernel
theorem kit_seq (d : PyData) : PySem.W.kitAny K (.type (tyN d)) [.type "list", .type "tuple"] = some (isQ d) := by
  have h1 := kit_ty (K := K) (kit_list d)
  have h2 := kit_ty (K := K) (kit_tup d)
  cases d <;> simp only [PySem.W.kitAny, h1, h2, isQ, isT]
def spOfS (K : PySem.W.Frag) (C : Addr) (ca : Nat → Addr) : Sp := fun vs H Q E => ∃ (vb v : V) (d : PyData) (b : Bool), vs = [.ref C, vb, v] ∧ Bs K H vb b ∧ Pt H v d ∧ (seqD d).length ≤ 100000 ∧
  (b = false → Leaves (ca 1) "value" vb H E) ∧ (b = true → ∃ β : Nat, vb = .int β ∧ 2 ≤ β ∧ β ≤ 10 ∧ Due ca H E (dueO β d) (∀ (x : Addr) (H' : Hp), Ex H H' → StyAt H' C x β (seqD d) → Q (.ref x) H'))
theorem scOfS : FnScope ["cls", "base", "rules"] ["cls", "base", "rules"] (defScope sOfS) := ⟨rfl, rfl, rfl, by decide +kernel, rfl, by decide +kernel, by decide +kernel⟩
theorem ok_ofS {f fi : Addr} {fd fdn : FuncData} (F : Fun K "of" "Style.of" sOfS f fd) (M : Mk K C fi) (GI : FnR P w K mg base (L2.CX P w) 7 fi (spInitR K C ca)) (GN : FnOk P w K mg base (L2.CX P w) 8 fnb fdn ["base"] (spNeed (Bs K) (ca 1))) (bN : Binds K fdn ["base"] [])
    (M5 : Mks P K mg (ca 5) ["place"]) (T : TxY K mg fnb frl fnr fpl ca) : FnOk P w K mg base (L2.CX P w) 9 f fd ["cls", "base", "rules"] (spOfS K C ca) := by
  refine F.okX scOfS (fun vs H Q E h => ?_) (fun cdv A outer s H vs Q E hr h => ?_)
  · obtain ⟨vb, v, d, b, rfl, _⟩ := h
    rfl
  · obtain ⟨vb, v, d, b, rfl, kb, kv, hsz, l1, hq⟩ := h
    refine ⟨_, pss_cons (ps_expr (pe_callS GN hr (by rfl) T.needB T.kNB bN (fun σ => passAt (takes_of rfl rfl rfl rfl) σ) (pa_cons (pv 1) pa_nil)))
      (pss_cons (ps_if (pt_not (pt_val (pe_callB call_isiT (by rfl) T.isi (by decide +kernel) (pa_cons (pv 2) (pa_cons (pe_tup (pa_cons (pe_bltn (by rfl) T.list (by decide +kernel) (v := .ty "list") rfl) (pa_cons (pe_bltn (by rfl) T.tuple (by decide +kernel) (v := .ty "tuple") rfl) pa_nil))) pa_nil)))))
        (pss_one (ps_raise rfl (takes_of rfl rfl rfl rfl) (pmk_mks M5 T.sup hr (by simp) (pa_cons pe_non pa_nil) (by rfl) T.badRule))) pss_nil)
      (pss_one (ps_ret (pe_makeLS (i := 0) M GI hr rfl (.inl rfl) (fun pins σ H s e s' I c => passAt (takes_of rfl rfl rfl rfl) σ pins H s e s' I c) (pa_cons (pv 1) (pa_star (pv 2) pa_nil)))))), ?_⟩
    refine ⟨_, rfl, vb, b, rfl, kb, fun hb H1 e1 => ?_, fun hb => l1 hb⟩
    obtain ⟨β, rfl, b2, b10, due⟩ := hq hb
    have k1 := kv.ex e1
    dsimp only
    refine q_when (b := !isQ d) (et_not (et_B (fun H2 e2 Q2 q2 => ⟨_, rfl, (by show (2:Nat) ≤ sizeLine; rw [sizeLine_eq]; omega), fun tp ntp => ⟨v, tp, _, _, [.type "list", .type "tuple"], isQ d, rfl, upd_same, .cons (.ty "list") (.cons (.ty "tuple") .nil), tyx_ex (Ex.new ntp) (k1.ex e2).ty, kit_seq d, q2 _ (Ex.new ntp)⟩⟩))) (fun z H2 e2 => ?_) (fun z H2 e2 => ?_)
    · have hd : dueO β d = some .none := by
        have : isQ d = false := by simpa using z
        cases d <;> first | rfl | cases this
      exact ⟨rfl, fun dd hdd => ((due.bad _ hd).go (e1.trans e2)) H2 dd (Ex.refl _) hdd⟩
    · have e12 := e1.trans e2
      have k2 := kv.ex e12
      have key : ∃ a vs, v = .ref a ∧ (SqT K H2 a vs ∨ SqL K H2 a vs) ∧ PtAll H2 vs (seqD d) ∧ dueO β d = dueD β (seqD d) := by
        have hq' : isQ d = true := by simpa using z
        cases k2 with
        | tup hs ha => exact ⟨_, _, rfl, .inl (st_of hs), ha, rfl⟩
        | lst hs ha => exact ⟨_, _, rfl, .inr (sq_of hs), ha, rfl⟩
        | _ => cases hq'
      obtain ⟨a, us, rfl, hs, kus, hdue⟩ := key
      have hl := kus.length
      refine ⟨rfl, _, rfl, _, rfl, a, us, rfl, hs, fun x dx hx hdx hne => ?_⟩
      refine ⟨[.ref x, .int β], us ++ [], rfl, rfl, ?_, fun p hp => ?_⟩
      · rw [List.append_nil, hl, sizeLine_eq]
        omega
      have eA : Ex H2 (upd (upd H2 dx (.own x)) x (.ins C dx [])) := (Ex.new hdx).trans (Ex.new (by rw [upd_ne (Ne.symm hne)]; exact hx))
      have eB := Ex.new (o := .tup (us ++ [])) hp
      have eAB := eA.trans eB
      refine ⟨x, p, dx, .int β, us ++ [], seqD d, true, rfl, eB _ _ upd_same, upd_same, (List.append_nil us).symm ▸ kus.ex eAB, bs_yes b2 b10, (fun z => nomatch z), fun _ => ⟨β, rfl, b2, b10, ⟨fun pl hpl => ((due.bad pl (hdue.trans hpl)).go (e12.trans eAB)), fun hn t2 H' kx hx' k' => ⟨rfl, ?_⟩⟩⟩⟩
      refine due.ok (hdue.trans hn) x H' (fun b o h => ?_) ⟨dx, t2, hx', k'⟩
      exact kx b o (eAB _ _ (e12 _ _ h)) (ne_of_none (e12 _ _ h) hx)
end
end Dt

/-! k06: what is told of a range, as data. -/
namespace Evl
open PySem L2
theorem s_tup {ta : TA} {vs : List V} {D : Ends} {σ : St} {H : Hp} (h : EvA ta σ H vs) (hz : vs.length ≤ sizeLine) (k : ∀ t H1, Ex H H1 → H t = none → H1 t = some (.tup vs) → D.rt (.ref t) H1) : tRet (tTup ta) D σ H :=
  h H (Ex.refl H) _ fun H1 e1 => ⟨hz, fun t nt => k t _ (e1.trans (Ex.new nt)) (fresh_back e1 nt) upd_same⟩
end Evl
namespace Dg
open PySem L2 Evl TL
theorem near_ex {β : Nat} (hb : 2 ≤ β) (d : Nat) : ∃ k, NearIs β d k := by
  have h0 : d ≤ β ^ d := Nat.le_of_lt (Nat.lt_of_lt_of_le Nat.lt_two_pow_self (Nat.pow_le_pow_left hb d))
  have key : ∀ n : Nat, d ≤ β ^ n → ∃ k, NearIs β d k := by
    intro n
    induction n using Nat.strongRecOn with
    | _ n ih =>
      intro h
      by_cases hx : ∃ j, j < n ∧ d ≤ β ^ j
      · obtain ⟨j, hj, hd⟩ := hx
        exact ih j hj hd
      · exact ⟨n, h, fun j hj => Nat.lt_of_not_le fun hd => hx ⟨j, hj, hd⟩⟩
  exact key d h0
open Classical in
noncomputable def neaN (β d : Nat) : Nat := if h : ∃ k, NearIs β d k then Classical.choose h else 0
theorem neaN_is {β : Nat} (hb : 2 ≤ β) (d : Nat) : NearIs β d (neaN β d) := by
  unfold neaN
  rw [dif_pos (near_ex hb d)]
  exact Classical.choose_spec (near_ex hb d)
theorem neaN_eq {β d k : Nat} (h : NearIs β d k) : neaN β d = k := by
  have e : ∃ k, NearIs β d k := ⟨k, h⟩
  unfold neaN
  rw [dif_pos e]
  exact (Classical.choose_spec e).uniq h
theorem neaN_le {β d i : Nat} (hb : 2 ≤ β) : neaN β d ≤ i ↔ d ≤ β ^ i := by
  have n := neaN_is hb d
  constructor
  · intro h
    exact Nat.le_trans n.1 (Nat.pow_le_pow_right (by omega) h)
  · intro h
    rcases Nat.lt_or_ge i (neaN β d) with z | z
    · exact absurd (n.2 i z) (by omega)
    · exact z
open Classical in
noncomputable def chgN (β f s : Nat) : Nat := if h : ∃ m, ChgIs β f s m then Classical.choose h else 0
theorem chgN_eq {β f s m : Nat} (h : ChgIs β f s m) : chgN β f s = m := by
  have e : ∃ m, ChgIs β f s m := ⟨m, h⟩
  unfold chgN
  rw [dif_pos e]
  exact (Classical.choose_spec e).uniq h
/-- the last two digits -/
def enD (β f : Nat) : Str := cutS (digs β f) (some (-2)) none
/-- what facts_of tells -/
noncomputable def fctV (β f s : Nat) : List V := [.int ((dl β f).length : Int), .int ((dl β s).length : Int), .int (chgN β f s : Int), .int (neaN β (s - f) : Int), .str (enD β f)]
/-- what is refused of two values, and what is due of a range -/
structure RngQ (ca : Nat → Addr) (v u : V) (b c : Bool) (H : Hp) (E : XK) (G : Nat → Nat → Prop) : Prop where
  bad : (b && c) = false → LeavesP (ca 4) v u H E
  ok : (b && c) = true → (∃ i j : Int, v = .int i ∧ u = .int j ∧ j ≤ i ∧ LeavesP (ca 4) v u H E) ∨ ∃ f s : Nat, v = .int f ∧ u = .int s ∧ 1 ≤ f ∧ f < s ∧ s < 2 ^ 50000 ∧ G f s
theorem RngQ.map {ca : Nat → Addr} {v u : V} {b c : Bool} {H H' : Hp} {E : XK} {G G' : Nat → Nat → Prop} (R : RngQ ca v u b c H E G) (e : Ex H H') (h : ∀ f s : Nat, v = .int (f : Int) → u = .int (s : Int) → 1 ≤ f → f < s → s < 2 ^ 50000 → G f s → G' f s) : RngQ ca v u b c H' E G' :=
  ⟨fun z => (R.bad z).go e, fun z => by
    rcases R.ok z with ⟨i, j, h1, h2, h3, l⟩ | ⟨f, s, h1, h2, h3, h4, h5, g⟩
    · exact .inl ⟨i, j, h1, h2, h3, l.go e⟩
    · exact .inr ⟨f, s, h1, h2, h3, h4, h5, h f s h1 h2 h3 h4 h5 g⟩⟩
section
variable {K : PySem.W.Frag} {σ : St} {H : Hp} {t0 t1 t2 : TE} {E : St → XK} {β f s n : Nat} {ca : Nat → Addr}
theorem nm_yes (h : 1 ≤ n) : Nm K H (.int n) true := by
  rw [← decide_eq_true (p := (1 : Int) ≤ (n : Int)) (by omega)]
  exact .int n
theorem ev_digP (b2 : 2 ≤ β) (b10 : β ≤ 10) (n1 : 1 ≤ n) (nz : n < 2 ^ 50000) (h0 : Ev t0 σ H (.int β)) (h1 : Ev t1 σ H (.int n)) : Ev (tCallS (spDigits K ca) E (tCons t0 (tCons t1 tNil))) σ H (.str (digs β n)) := fun H1 e Q q =>
  h0 H1 e _ fun H2 e2 => h1 H2 (e.trans e2) _ fun H3 e3 => ⟨.int β, .int n, true, true, rfl, Dt.bs_yes b2 b10, nm_yes n1, (fun z => nomatch z), (fun _ z => nomatch z), fun _ _ => ⟨β, n, rfl, rfl, b2, b10, n1, nz, fun H4 e4 => q H4 ((e2.trans e3).trans e4)⟩⟩
theorem ev_lenP (b2 : 2 ≤ β) (b10 : β ≤ 10) (n1 : 1 ≤ n) (nz : n < 2 ^ 50000) (h0 : Ev t0 σ H (.int β)) (h1 : Ev t1 σ H (.int n)) : Ev (tCallS (spLength K ca) E (tCons t0 (tCons t1 tNil))) σ H (.int ((dl β n).length : Int)) := fun H1 e Q q =>
  h0 H1 e _ fun H2 e2 => h1 H2 (e.trans e2) _ fun H3 e3 => ⟨.int β, .int n, true, true, rfl, Dt.bs_yes b2 b10, nm_yes n1, (fun z => nomatch z), (fun _ z => nomatch z), fun _ _ => ⟨β, n, rfl, rfl, b2, b10, n1, nz, fun H4 e4 => q H4 ((e2.trans e3).trans e4)⟩⟩
theorem ev_rng {R : Nat → Nat → Nat → Nat → Prop} {z : Nat} (b2 : 2 ≤ β) (b10 : β ≤ 10) (f1 : 1 ≤ f) (hfs : f < s) (hz : ∀ m, R β f s m → z = m) (h0 : Ev t0 σ H (.int β)) (h1 : Ev t1 σ H (.int f)) (h2 : Ev t2 σ H (.int s)) :
    Ev (tCallS (spRng K ca R) E (tCons t0 (tCons t1 (tCons t2 tNil)))) σ H (.int (z : Int)) := fun H1 e Q q =>
  h0 H1 e _ fun H2 e2 => h1 H2 (e.trans e2) _ fun H3 e3 => h2 H3 ((e.trans e2).trans e3) _ fun H4 e4 => ⟨.int β, .int f, .int s, true, true, true, rfl, Dt.bs_yes b2 b10, nm_yes f1, nm_yes (Nat.le_of_lt (Nat.lt_of_le_of_lt f1 hfs)), (fun z => nomatch z), (fun _ z => nomatch z), fun _ _ => ⟨β, f, s, rfl, b2, b10, .inr ⟨rfl, rfl, hfs, fun m hm H5 e5 => by
    rw [← hz m hm]
    exact q H5 (((e2.trans e3).trans e4).trans e5)⟩⟩⟩
end
abbrev sFacts : Stmt := top 48
structure TxFa (K : PySem.W.Frag) (mg : Str → Option Value) (fnr fdg fne fle fch : Addr) : Prop where
  needR : mg "need_range" = some (.ref fnr)
  kNR : PySem.W.keepIn K (.ref fnr) = true
  digits : mg "digits" = some (.ref fdg)
  kDg : PySem.W.keepIn K (.ref fdg) = true
  near : mg "near" = some (.ref fne)
  kNe : PySem.W.keepIn K (.ref fne) = true
  length : mg "length" = some (.ref fle)
  kLe : PySem.W.keepIn K (.ref fle) = true
  changed : mg "changed" = some (.ref fch)
  kCh : PySem.W.keepIn K (.ref fch) = true
  len : mg "len" = none
  mend : ∃ t, mg "MOST_ENDING" = some (.int 2 t)
theorem z5 : 5 ≤ sizeLine := by rw [sizeLine_eq]; decide
section
variable {P : Program} {w : World} {K : PySem.W.Frag} {mg : Str → Option Value} {base : Heap} {ca : Nat → Addr} {fnr fdg fne fle fch : Addr}
def spFacts (K : PySem.W.Frag) (ca : Nat → Addr) : Sp := fun vs H Q E => ∃ (β : Nat) (v u : V) (b c : Bool), vs = [.int β, v, u] ∧ 2 ≤ β ∧ β ≤ 10 ∧ Nm K H v b ∧ Nm K H u c ∧ RngQ ca v u b c H E fun f s => ∀ t H', Ex H H' → H' t = some (.tup (fctV β f s)) → Q (.ref t) H'
theorem scFacts : FnScope ["base", "first", "second", "written", "gap"] ["base", "first", "second"] (defScope sFacts) := ⟨rfl, rfl, rfl, by decide +kernel, rfl, by decide +kernel, by decide +kernel⟩
theorem ok_facts {f : Addr} {fd fd1 fd2 fd3 fd4 fd5 : FuncData} (F : Fun K "facts_of" "facts_of" sFacts f fd) (GR : FnOk P w K mg base (L2.CX P w) 5 fnr fd1 ["first", "second"] (spNeedR K ca)) (bR : Binds K fd1 ["first", "second"] [])
    (GD : FnOk P w K mg base (L2.CX P w) 5 fdg fd2 ["base", "number"] (spDigits K ca)) (bD : Binds K fd2 ["base", "number"] []) (GN : FnOk P w K mg base (L2.CX P w) 5 fne fd3 ["base", "first", "second"] (spRng K ca fun β f s m => NearIs β (s - f) m)) (bN : Binds K fd3 ["base", "first", "second"] [])
    (GL : FnOk P w K mg base (L2.CX P w) 5 fle fd4 ["base", "number"] (spLength K ca)) (bL : Binds K fd4 ["base", "number"] []) (GC : FnOk P w K mg base (L2.CX P w) 5 fch fd5 ["base", "first", "second"] (spRng K ca ChgIs)) (bC : Binds K fd5 ["base", "first", "second"] [])
    (T : TxFa K mg fnr fdg fne fle fch) : FnOk P w K mg base (L2.CX P w) 6 f fd ["base", "first", "second"] (spFacts K ca) := by
  refine F.okX scFacts (fun vs H Q E h => ?_) (fun cdv A outer s H vs Q E hr h => ?_)
  · obtain ⟨_, _, _, _, _, rfl, _⟩ := h
    rfl
  · obtain ⟨β, v, u, b, c, rfl, b2, b10, kb, kc, R⟩ := h
    obtain ⟨tm, hm⟩ := T.mend
    refine ⟨_, pss_cons (ps_expr (pe_callS GR hr (by rfl) T.needR T.kNR bR (fun σ => passAt (takes_of rfl rfl rfl rfl) σ) (pa_cons (pv 1) (pa_cons (pv 2) pa_nil))))
      (pss_cons (ps_set (i := 3) scFacts.nd rfl (.inl rfl) (pe_callS GD hr (by rfl) T.digits T.kDg bD (fun σ => passAt (takes_of rfl rfl rfl rfl) σ) (pa_cons (pv 0) (pa_cons (pv 1) pa_nil))))
      (pss_cons (ps_set (i := 4) scFacts.nd rfl (.inl rfl) (pe_callS GN hr (by rfl) T.near T.kNe bN (fun σ => passAt (takes_of rfl rfl rfl rfl) σ) (pa_cons (pv 0) (pa_cons (pv 1) (pa_cons (pv 2) pa_nil)))))
      (pss_one (ps_ret (pe_tup (pa_cons (pe_callB call_len_str (by rfl) T.len (by decide +kernel) (pa_cons (pv 3) pa_nil))
        (pa_cons (pe_callS GL hr (by rfl) T.length T.kLe bL (fun σ => passAt (takes_of rfl rfl rfl rfl) σ) (pa_cons (pv 0) (pa_cons (pv 2) pa_nil)))
        (pa_cons (pe_callS GC hr (by rfl) T.changed T.kCh bC (fun σ => passAt (takes_of rfl rfl rfl rfl) σ) (pa_cons (pv 0) (pa_cons (pv 1) (pa_cons (pv 2) pa_nil))))
        (pa_cons (pv 4) (pa_cons (pe_slice sl_str (pv 3) (po_some (pe_un un_neg (pe_glob (by rfl) hm (v := .int 2) ⟨_, rfl⟩))) po_none) pa_nil)))))))))), ?_⟩
    refine ⟨_, rfl, _, rfl, v, u, b, c, rfl, kb, kc, R.bad, fun z => ?_⟩
    rcases R.ok z with ⟨i, j, rfl, rfl, hij, lt⟩ | ⟨f, s, rfl, rfl, f1, hfs, s2, q⟩
    · exact ⟨i, j, rfl, rfl, fun _ => lt, fun z => absurd hij (Int.not_le.mpr z)⟩
    · have f2 : f < 2 ^ 50000 := Nat.lt_trans hfs s2
      have s1 : 1 ≤ s := Nat.le_of_lt (Nat.lt_of_le_of_lt f1 hfs)
      refine ⟨f, s, rfl, rfl, fun z => absurd z (Int.not_le.mpr (Int.ofNat_lt.mpr hfs)), fun _ H1 e1 => ?_⟩
      refine q_asg (ev_digP b2 b10 f1 f2 (ev_var rfl) (ev_var rfl)) fun H2 e2 => ?_
      refine q_asg (v := .int (neaN β (s - f) : Int)) (ev_rng b2 b10 f1 hfs (fun m hm => neaN_eq hm) (ev_var rfl) (ev_var rfl) (ev_var rfl)) fun H3 e3 => ?_
      have lf : (digs β f).length ≤ 100000 := Nat.le_trans (digs_le (n := f) b2 f2) (by decide)
      refine s_tup (vs := fctV β f s) ?_ z5 fun t H4 e4 nt ht => q t H4 (((e1.trans e2).trans e3).trans e4) ht
      refine ea_cons (ev_is (ev_lenX (K := K) (x := digs β f) (ev_var rfl) lf) (by rw [digs_len])) ?_
      refine ea_cons (ev_lenP b2 b10 s1 s2 (ev_var rfl) (ev_var rfl)) ?_
      refine ea_cons (ev_rng (z := chgN β f s) b2 b10 f1 hfs (fun m hm => chgN_eq hm) (ev_var rfl) (ev_var rfl) (ev_var rfl)) ?_
      refine ea_cons (ev_var rfl) ?_
      exact ea_cons (ev_cutS (ev_var rfl) (eo_some (ev_un ev_c ru_neg)) eo_none lf) ea_nil
end
end Dg

/-! k06: the rule that writes a range, and how much it keeps. -/
namespace Dt
open PySem L2 Evl Dg LamR LamX StX ClX TL
open Dr (StAt SameB)
/-- whether a condition holds -/
noncomputable def holdsD (β f s : Nat) : PyData → Bool
  | .tuple [.str _, .str x] => Txt.endswith (enD β f) x
  | .tuple [.str _, .int i] => decide ((neaN β (s - f) : Int) ≤ i)
  | .tuple [.str w, .int i, e] => decide (i ≤ (if w = "length" then ((dl β f).length : Int) else (chgN β f s : Int))) && (isN e || decide ((if w = "length" then ((dl β f).length : Int) else (chgN β f s : Int)) ≤ intD e))
  | _ => false
noncomputable def appl (β f s : Nat) (d : PyData) : Bool := (tupD (at_ 0 d)).all (holdsD β f s)
/-- the number of the first rule that applies -/
noncomputable def firstD (β f s : Nat) (Ds : List PyData) : Nat := (Ds.take (Ds.length - 1)).findIdx (appl β f s)
/-- how many digits a rule keeps -/
noncomputable def keepN (β f s : Nat) : PyData → Nat
  | .tuple [.str _] => (dl β s).length
  | .tuple [.str w, .int i] => if w = "changed" then min (max (chgN β f s) i.toNat) (dl β s).length else min i.toNat (dl β s).length
  | _ => 0
noncomputable def keptD (β f s : Nat) (Ds : List PyData) : Nat := keepN β f s (at_ 1 (Ds.getD (firstD β f s Ds) .none))
theorem firstD_lt {β f s : Nat} {Ds : List PyData} (h : 1 ≤ Ds.length) : firstD β f s Ds < Ds.length := by
  have := List.findIdx_le_length (xs := Ds.take (Ds.length - 1)) (p := appl β f s)
  rw [List.length_take] at this
  unfold firstD
  omega
abbrev sHolds : Stmt := top 49
abbrev sFirst : Stmt := top 50
abbrev sMany : Stmt := top 51
abbrev sWritten : Stmt := top 52
structure TxW (K : PySem.W.Frag) (mg : Str → Option Value) (fho ffi fma : Addr) : Prop where
  holds : mg "holds" = some (.ref fho)
  kHo : PySem.W.keepIn K (.ref fho) = true
  first : mg "first_applying" = some (.ref ffi)
  kFi : PySem.W.keepIn K (.ref ffi) = true
  many : mg "many_kept" = some (.ref fma)
  kMa : PySem.W.keepIn K (.ref fma) = true
  len : mg "len" = none
  range : mg "range" = none
  all : mg "all" = none
  min : mg "min" = none
  max : mg "max" = none
section
variable {P : Program} {w : World} {K : PySem.W.Frag} {mg : Str → Option Value} {base : Heap} {ca : Nat → Addr} {fho ffi fma : Addr}
def spHolds : Sp := fun vs H Q _ => ∃ (v : V) (t : Addr) (D : PyData) (β f s : Nat), vs = [v, .ref t] ∧ Pt H v D ∧ CondS β D ∧ H t = some (.tup (fctV β f s)) ∧ RetV (.bl (holdsD β f s D)) H Q
abbrev nHolds : List Str := ["condition", "facts", "first_length", "second_length", "change", "gap", "ending", "word", "size"]
theorem scHolds : FnScope nHolds ["condition", "facts"] (defScope sHolds) := ⟨rfl, rfl, rfl, by decide +kernel, rfl, by decide +kernel, by decide +kernel⟩
theorem ok_holds {f : Addr} {fd : FuncData} (F : Fun K "holds" "holds" sHolds f fd) : FnOk P w K mg base CX0 1 f fd ["condition", "facts"] spHolds := by
  refine F.ok scHolds (fun vs H Q E h => ?_) (fun cdv A outer s H vs Q E hr h => ?_)
  · obtain ⟨_, _, _, _, _, _, rfl, _⟩ := h
    rfl
  · obtain ⟨v, t, D, β, f, s, rfl, k, hc, ht, q⟩ := h
    refine ⟨_, pss_cons (ps_asg (pv 1) (pg_tup (by rfl) (pgs_cons (pg_name (i := 2) scHolds.nd rfl (.inl rfl)) (pgs_cons (pg_name (i := 3) scHolds.nd rfl (.inl rfl)) (pgs_cons (pg_name (i := 4) scHolds.nd rfl (.inl rfl)) (pgs_cons (pg_name (i := 5) scHolds.nd rfl (.inl rfl)) (pgs_cons (pg_name (i := 6) scHolds.nd rfl (.inl rfl)) pgs_nil)))))))
      (pss_cons (ps_set (i := 7) scHolds.nd rfl (.inl rfl) (pe_ix ix_tup (pv 0) pe_int (fun _ _ => rfl)))
      (pss_cons (ps_if (pt_cmpR op_eq (pv 7) pe_str (nomark _)) (pss_one (ps_ret (pe_m1 PySem.F.slot_str_endswith PySem.F.type_str_endswith mt_endswith (pv 6) (pe_ix ix_tup (pv 0) pe_int (fun _ _ => rfl))))) pss_nil)
      (pss_cons (ps_if (pt_cmpR op_eq (pv 7) pe_str (nomark _)) (pss_one (ps_ret (pe_cmpR op_le (pv 5) (pe_ix ix_tup (pv 0) pe_int (fun _ _ => rfl)) (nomark _)))) pss_nil)
      (pss_cons (ps_set (i := 8) scHolds.nd rfl (.inl rfl) (pe_ifExp (pt_cmpR op_eq (pv 7) pe_str (nomark _)) (pv 2) (pv 4)))
      (pss_one (ps_ret (pe_and (pe_cmpR op_le (pe_ix ix_tup (pv 0) pe_int (fun _ _ => rfl)) (pv 8) (nomark _)) (pe_one (pe_or (pe_cmpR op_isN (pe_ix ix_tup (pv 0) pe_int (fun _ _ => rfl)) pe_non (nomark _)) (pe_one (pe_cmpR op_le (pv 8) (pe_ix ix_tup (pv 0) pe_int (fun _ _ => rfl)) (nomark _)))))))))))), ?_⟩
    have k' : ∃ ds, D = .tuple ds := by cases hc <;> exact ⟨_, rfl⟩
    obtain ⟨ds, rfl⟩ := k'
    obtain ⟨a, us, rfl, ha, ka⟩ := k.tupI'
    refine ⟨_, rfl, t, _, rfl, st_of ht, rfl, _, _, rfl, _, _, rfl, _, _, rfl, _, _, rfl, _, _, rfl, rfl, ?_⟩
    cases hc with
    | ends x hx =>
      obtain ⟨u0, u1, rfl⟩ : ∃ u0 u1, us = [u0, u1] := by
        match us, ka.length with
        | [u0, u1], _ => exact ⟨_, _, rfl⟩
      cases ka with
      | cons k0 ka =>
        cases ka with
        | cons k1 _ =>
          cases k0
          cases k1
          refine q_asg (v := .str "ends") (ev_at (K := K) (i := 0) (ev_var rfl) ha rfl) fun H1 e1 => ?_
          refine q_when (b := true) (et_test (ev_is (ev_op (ev_var rfl) ev_c (rv_eq rfl)) (by rw [decide_eq_true rfl]))) (fun z H2 e2 => ?_) (fun z => nomatch z)
          exact ⟨_, rfl, ⟨_, rfl⟩, ev_at (K := K) (i := 1) (ev_var rfl) (e2 _ _ (e1 _ _ ha)) rfl H2 (Ex.refl H2) _ fun H3 e3 => ⟨_, _, rfl, rfl, q H3 ((e1.trans e2).trans e3)⟩⟩
    | near i h0 h6 =>
      obtain ⟨u0, u1, rfl⟩ : ∃ u0 u1, us = [u0, u1] := by
        match us, ka.length with
        | [u0, u1], _ => exact ⟨_, _, rfl⟩
      cases ka with
      | cons k0 ka =>
        cases ka with
        | cons k1 _ =>
          cases k0
          cases k1
          refine q_asg (v := .str "near") (ev_at (K := K) (i := 0) (ev_var rfl) ha rfl) fun H1 e1 => ?_
          refine q_when (b := false) (et_test (ev_is (ev_op (ev_var rfl) ev_c (rv_eq rfl)) (by rw [decide_eq_false (by decide +kernel)]))) (fun z => nomatch z) (fun z H2 e2 => ?_)
          refine q_when (b := true) (et_test (ev_is (ev_op (ev_var rfl) ev_c (rv_eq rfl)) (by rw [decide_eq_true rfl]))) (fun z H3 e3 => ?_) (fun z => nomatch z)
          have e13 := (e1.trans e2).trans e3
          exact s_ret (ev_op (ev_var rfl) (ev_at (K := K) (i := 1) (ev_var rfl) (e13 _ _ ha) rfl) rv_I0) fun H4 e4 => q H4 (e13.trans e4)
    | len w hw i h1 h6 e he =>
      obtain ⟨u0, u1, u2, rfl⟩ : ∃ u0 u1 u2, us = [u0, u1, u2] := by
        match us, ka.length with
        | [u0, u1, u2], _ => exact ⟨_, _, _, rfl⟩
      cases ka with
      | cons k0 ka =>
        cases ka with
        | cons k1 ka =>
          cases ka with
          | cons k2 _ =>
            cases k0
            cases k1
            have n1 : w ≠ "ends" := by rcases hw with rfl | rfl <;> decide +kernel
            have n2 : w ≠ "near" := by rcases hw with rfl | rfl <;> decide +kernel
            refine q_asg (v := .str w) (ev_at (K := K) (i := 0) (ev_var rfl) ha rfl) fun H1 e1 => ?_
            refine q_when (b := false) (et_test (ev_is (ev_op (ev_var rfl) ev_c (rv_eq rfl)) (by rw [decide_eq_false (fun z => n1 (by injection z))]))) (fun z => nomatch z) (fun z H2 e2 => ?_)
            refine q_when (b := false) (et_test (ev_is (ev_op (ev_var rfl) ev_c (rv_eq rfl)) (by rw [decide_eq_false (fun z => n2 (by injection z))]))) (fun z => nomatch z) (fun z H3 e3 => ?_)
            have e13 := (e1.trans e2).trans e3
            obtain ⟨sz, hsz⟩ : ∃ sz : Int, sz = if w = "length" then ((dl β f).length : Int) else (chgN β f s : Int) := ⟨_, rfl⟩
            refine q_asg (v := .int sz) (ev_if (b := decide (w = "length")) (et_test (ev_is (ev_op (ev_var rfl) ev_c (rv_eq rfl)) (by
                congr 1
                exact decide_eq_decide.mpr ⟨fun z => by injection z, fun z => by rw [z]⟩))) (fun z => ?_) (fun z => ?_)) fun H4 e4 => ?_
            · rw [hsz, if_pos (of_decide_eq_true z)]
              exact ev_var rfl
            · rw [hsz, if_neg (of_decide_eq_false z)]
              exact ev_var rfl
            have e14 := e13.trans e4
            have ha4 := e14 _ _ ha
            have q' : RetV (.bl (decide (i ≤ sz) && (isN e || decide (sz ≤ intD e)))) H Q := by
              rw [hsz]
              exact q
            refine s_ret (ev_andV (ev_op (ev_at (K := K) (i := 1) (ev_var rfl) ha4 rfl) (ev_var rfl) rv_I0) fun _ => ev_orV (a := isN e) (ev_op (y := .non) (ev_at (K := K) (i := 2) (ev_var rfl) ha4 rfl) ev_c fun H5 e5 Q5 k5 => ⟨rfl, by rw [(k2.ex (e14.trans e5)).isN]; exact k5 _ (Ex.refl _)⟩) fun z => ?_) fun H5 e5 => q' H5 (e14.trans e5)
            rcases he with rfl | ⟨j, rfl, hj, hj6⟩
            · cases z
            · cases k2
              exact ev_op (ev_var rfl) (ev_at (K := K) (i := 2) (ev_var rfl) ha4 rfl) rv_I0
/-! ### the first that applies -/
/-- rules of a style -/
def RowS (β : Nat) (Ds : List PyData) : Prop := 1 ≤ Ds.length ∧ Ds.length ≤ 8 ∧ Ds.all (ruleB β) = true
theorem RowS.at {β : Nat} {Ds : List PyData} (h : RowS β Ds) {i : Nat} {d : PyData} (hd : Ds[i]? = some d) : ∃ cs k, d = .tuple [.tuple cs, k] ∧ cs.length ≤ 3 ∧ (∀ c ∈ cs, CondS β c) ∧ KeepS k := rule_inv (List.all_eq_true.mp h.2.2 d (List.mem_of_getElem? hd))
/-- the conditions and the keep of a rule that lies there -/
theorem Pt.rule {H : Hp} {v k : _} {cs : List PyData} (h : Pt H v (.tuple [.tuple cs, k])) : ∃ a ac ws vk, v = .ref a ∧ H a = some (.tup [.ref ac, vk]) ∧ H ac = some (.tup ws) ∧ PtAll H ws cs ∧ Pt H vk k := by
  obtain ⟨a, us, rfl, ha, ka⟩ := h.tupI'
  cases ka with
  | cons k0 ka =>
    cases ka with
    | cons k1 kz =>
      cases kz
      obtain ⟨ac, ws, rfl, hac, kw⟩ := k0.tupI'
      exact ⟨a, ac, ws, _, rfl, ha, hac, kw, k1⟩
def spFirst : Sp := fun vs H Q _ => ∃ (r t : Addr) (rs : List V) (Ds : List PyData) (β f s : Nat), vs = [.ref r, .ref t] ∧ H r = some (.tup rs) ∧ PtAll H rs Ds ∧ RowS β Ds ∧ H t = some (.tup (fctV β f s)) ∧ RetV (.int (firstD β f s Ds : Int)) H Q
abbrev nFirst : List Str := ["rules", "facts", "last", "number", "condition"]
theorem scFirst : FnScope nFirst ["rules", "facts"] (defScope sFirst) := ⟨rfl, rfl, rfl, by decide +kernel, rfl, by decide +kernel, by decide +kernel⟩
theorem ok_first {f : Addr} {fd fdh : FuncData} (F : Fun K "first_applying" "first_applying" sFirst f fd) (GH : FnOk P w K mg base CX0 1 fho fdh ["condition", "facts"] spHolds) (bH : Binds K fdh ["condition", "facts"] []) (T : TxW K mg fho ffi fma) :
    FnOk P w K mg base CX0 2 f fd ["rules", "facts"] spFirst := by
  refine F.ok scFirst (fun vs H Q E h => ?_) (fun cdv A outer s H vs Q E hr h => ?_)
  · obtain ⟨_, _, _, _, _, _, _, rfl, _⟩ := h
    rfl
  · obtain ⟨r, t, rs, Ds, β, f, s, rfl, hrs, ka, good, ht, q⟩ := h
    refine ⟨_, pss_cons (ps_set (i := 2) scFirst.nd rfl (.inl rfl) (pe_op op_sub (pe_callB call_len_seq (by rfl) T.len (by decide +kernel) (pa_cons (pv 0) pa_nil)) pe_int))
      (pss_cons (ps_for PassesOwn.never rfl (pi_range1 (by rfl) T.range (pa_cons (pv 2) pa_nil)) (pg_name (i := 3) scFirst.nd rfl (.inl rfl))
        (pss_one (ps_if (pt_val (pe_callB (cr_all rfl) (by rfl) T.all (by decide +kernel) (pa_cons (pe_lc (own := [("condition", 4)]) (g := gName 4) (tt := tYes) rfl scFirst.nd (pi_tup (pe_ix ix_tup (pe_ix ix_tup (pv 0) (pv 3) (fun _ _ => rfl)) pe_int (fun _ _ => rfl))) (blkOk_by (own := [("condition", 4)]) (N := nFirst) (sc := defScope sFirst) (by decide +kernel)) (fun _ _ _ _ _ => pg_name (i := 4) scFirst.nd rfl (Or.inl rfl)) (fun _ _ _ _ _ => pts_nil)
            (fun _ _ _ _ _ => pe_call GH hr (by rfl) T.holds T.kHo bH .nil pass0 (pa_cons (pv 4) (pa_cons (pv 1) pa_nil)))) pa_nil))) (pss_one (ps_ret (pv 3))) pss_nil)))
      (pss_one (ps_ret (pv 2)))), ?_⟩
    have hl := ka.length
    have h1 := good.1
    refine q_asg (v := .int ((Ds.length - 1 : Nat) : Int)) (ev_is (ev_op (ev_lenT (K := K) (ev_var rfl) hrs) ev_c rv_I0) (by
      congr 1
      show (rs.length : Int) - 1 = _
      omega)) fun H1 e1 => ?_
    refine q_forR1 (n := ((Ds.length - 1 : Nat) : Int)) (ea_cons (ev_var rfl) ea_nil) (by have := good.2.1; omega) (fun i σ H' => Ex H H' ∧ (∃ x3, σ = [some (.ref r), some (.ref t), some (.int ((Ds.length - 1 : Nat) : Int)), x3, none]) ∧ ∀ j d, j < i → Ds[j]? = some d → appl β f s d = false)
      (fun H2 e2 => ⟨e1.trans e2, ⟨none, rfl⟩, fun j d hj _ => absurd hj (Nat.not_lt_zero j)⟩) (fun i σ H2 hi ⟨e2, ⟨x3, hσ⟩, hne⟩ => ?_) (fun σ H2 ⟨e2, ⟨x3, hσ⟩, hne⟩ => ?_)
    · subst hσ
      have hi2 : i < Ds.length - 1 := by omega
      obtain ⟨d, hd⟩ : ∃ d, Ds[i]? = some d := ⟨_, List.getElem?_eq_getElem (by omega)⟩
      obtain ⟨u, hu, ku⟩ := ka.get hd
      obtain ⟨cs, k, rfl, hc3, hcs, hks⟩ := good.at hd
      obtain ⟨au, ac, ws, vk, rfl, hau, hac, kws, kk⟩ := (ku.ex e2).rule
      have hrs2 := e2 _ _ hrs
      have ht2 := e2 _ _ ht
      have hcl := kws.length
      have eC : Ev (tOp (rIxT K) (tOp (rIxT K) (tVar 0) (tVar 3)) (tC (.int ((0 : Nat) : Int)))) [some (.ref r), some (.ref t), some (.int ((Ds.length - 1 : Nat) : Int)), some (.int (i : Int)), none] H2 (.ref ac) := ev_at (K := K) (i := 0) (ev_op (ev_var rfl) (ev_var rfl) (rv_ixT (st_of hrs2) (atI_nat hu))) hau rfl
      have eL : EvL (tLc (iTup K (tOp (rIxT K) (tOp (rIxT K) (tVar 0) (tVar 3)) (tC (.int ((0 : Nat) : Int))))) (gName 4) tYes (tCall spHolds [] E0 (tCons (tVar 4) (tCons (tVar 1) tNil))) [4]) [some (.ref r), some (.ref t), some (.int ((Ds.length - 1 : Nat) : Int)), some (.int (i : Int)), none] H2 ((cs.map (holdsD β f s)).map V.bl) := by
        rw [List.map_map, ← given_all cs (V.bl ∘ holdsD β f s) .non, ← hcl]
        refine el_lcT (fun _ => true) _ eC (st_of hac) (by omega) (fun _ => rfl) (fun i x H4 e4 hx => fun H5 e5 Q5 q5 => q5 H5 (Ex.refl _)) (fun i x H4 e4 hx _ => ?_)
        obtain ⟨dd, hd', kd'⟩ := kws.get2 hx
        rw [hd']
        exact ev_call (ea_cons (ev_var rfl) (ea_cons (ev_var rfl) ea_nil)) fun H5 e5 Q5 q5 E5 => ⟨x, t, dd, β, f, s, rfl, (kd'.ex e4).ex e5, hcs dd (List.mem_of_getElem? hd'), e5 _ _ (e4 _ _ ht2), fun H6 e6 => q5 H6 e6⟩
      refine s_when (b := appl β f s (.tuple [.tuple cs, k])) (et_B (ev_is (ev_allL eL) (by rw [List.all_map]; rfl))) (fun z H3 e3 => ?_) (fun z H3 e3 => ?_)
      · have hf : firstD β f s Ds = i := by
          unfold firstD
          rw [List.findIdx_eq (by rw [List.length_take]; omega)]
          refine ⟨?_, fun j hj => ?_⟩
          · rw [List.getElem_take]
            rw [List.getElem?_eq_getElem (by omega)] at hd
            injection hd with hd
            rw [hd]
            exact z
          · rw [List.getElem_take]
            exact hne j _ hj (List.getElem?_eq_getElem (by omega))
        rw [hf] at q
        exact ⟨_, rfl, q H3 (e2.trans e3)⟩
      · refine ⟨e2.trans e3, ⟨_, rfl⟩, fun j d' hj hd' => ?_⟩
        rcases Nat.lt_or_ge j i with y | y
        · exact hne j d' y hd'
        · have : j = i := by omega
          subst this
          rw [hd] at hd'
          injection hd' with hd'
          rw [← hd']
          exact z
    · subst hσ
      have hf : firstD β f s Ds = Ds.length - 1 := by
        unfold firstD
        rw [List.findIdx_eq_length.mpr, List.length_take]
        · omega
        · intro x hx
          obtain ⟨j, hj, e⟩ := List.mem_take_iff_getElem.mp hx
          exact hne j x (by omega) (by rw [← e]; exact List.getElem?_eq_getElem (by omega))
      rw [hf] at q
      exact ⟨_, rfl, q H2 e2⟩
/-! ### how many -/
def spMany : Sp := fun vs H Q _ => ∃ (v : V) (t : Addr) (D : PyData) (β f s : Nat), vs = [v, .ref t] ∧ Pt H v D ∧ KeepS D ∧ H t = some (.tup (fctV β f s)) ∧ RetV (.int (keepN β f s D : Int)) H Q
abbrev nMany : List Str := ["keep", "facts", "first_length", "second_length", "change", "gap", "ending"]
theorem scMany : FnScope nMany ["keep", "facts"] (defScope sMany) := ⟨rfl, rfl, rfl, by decide +kernel, rfl, by decide +kernel, by decide +kernel⟩
theorem ok_many {f : Addr} {fd : FuncData} (F : Fun K "many_kept" "many_kept" sMany f fd) (T : TxW K mg fho ffi fma) : FnOk P w K mg base CX0 1 f fd ["keep", "facts"] spMany := by
  refine F.ok scMany (fun vs H Q E h => ?_) (fun cdv A outer s H vs Q E hr h => ?_)
  · obtain ⟨_, _, _, _, _, _, rfl, _⟩ := h
    rfl
  · obtain ⟨v, t, D, β, f, s, rfl, k, hc, ht, q⟩ := h
    refine ⟨_, pss_cons (ps_asg (pv 1) (pg_tup (by rfl) (pgs_cons (pg_name (i := 2) scMany.nd rfl (.inl rfl)) (pgs_cons (pg_name (i := 3) scMany.nd rfl (.inl rfl)) (pgs_cons (pg_name (i := 4) scMany.nd rfl (.inl rfl)) (pgs_cons (pg_name (i := 5) scMany.nd rfl (.inl rfl)) (pgs_cons (pg_name (i := 6) scMany.nd rfl (.inl rfl)) pgs_nil)))))))
      (pss_cons (ps_if (pt_cmpR op_eq (pe_ix ix_tup (pv 0) pe_int (fun _ _ => rfl)) pe_str (nomark _)) (pss_one (ps_ret (pv 3))) pss_nil)
      (pss_cons (ps_if (pt_cmpR op_eq (pe_ix ix_tup (pv 0) pe_int (fun _ _ => rfl)) pe_str (nomark _)) (pss_one (ps_ret (pe_callB (call_min2 (by rfl)) (by rfl) T.min (by decide +kernel) (pa_cons (pe_callB (call_max2 (by rfl)) (by rfl) T.max (by decide +kernel) (pa_cons (pv 4) (pa_cons (pe_ix ix_tup (pv 0) pe_int (fun _ _ => rfl)) pa_nil))) (pa_cons (pv 3) pa_nil))))) pss_nil)
      (pss_one (ps_ret (pe_callB (call_min2 (by rfl)) (by rfl) T.min (by decide +kernel) (pa_cons (pe_ix ix_tup (pv 0) pe_int (fun _ _ => rfl)) (pa_cons (pv 3) pa_nil))))))), ?_⟩
    have k' : ∃ ds, D = .tuple ds := by cases hc <;> exact ⟨_, rfl⟩
    obtain ⟨ds, rfl⟩ := k'
    obtain ⟨a, us, rfl, ha, ka⟩ := k.tupI'
    refine ⟨_, rfl, t, _, rfl, st_of ht, rfl, _, _, rfl, _, _, rfl, _, _, rfl, _, _, rfl, _, _, rfl, rfl, ?_⟩
    have minI : ∀ (x y : Nat), (if (y : Int) < (x : Int) then (y : Int) else (x : Int)) = ((min x y : Nat) : Int) := fun x y => by
      rcases Nat.lt_or_ge y x with z | z
      · rw [if_pos (by omega), Nat.min_eq_right (Nat.le_of_lt z)]
      · rw [if_neg (by omega), Nat.min_eq_left z]
    have maxI : ∀ (x y : Nat), (if (y : Int) > (x : Int) then (y : Int) else (x : Int)) = ((max x y : Nat) : Int) := fun x y => by
      rcases Nat.lt_or_ge x y with z | z
      · rw [if_pos (by omega), Nat.max_eq_right (Nat.le_of_lt z)]
      · rw [if_neg (by omega), Nat.max_eq_left z]
    cases hc with
    | all =>
      obtain ⟨u0, rfl⟩ : ∃ u0, us = [u0] := by
        match us, ka.length with
        | [u0], _ => exact ⟨_, rfl⟩
      cases ka with
      | cons k0 _ =>
        cases k0
        refine q_when (b := true) (et_test (ev_is (ev_op (ev_at (K := K) (i := 0) (ev_var rfl) ha rfl) ev_c (rv_eq rfl)) (by rw [decide_eq_true rfl]))) (fun z H2 e2 => ?_) (fun z => nomatch z)
        exact ⟨_, rfl, q H2 e2⟩
    | size w hw i h1 h6 =>
      obtain ⟨u0, u1, rfl⟩ : ∃ u0 u1, us = [u0, u1] := by
        match us, ka.length with
        | [u0, u1], _ => exact ⟨_, _, rfl⟩
      cases ka with
      | cons k0 ka =>
        cases ka with
        | cons k1 _ =>
          cases k0
          cases k1
          obtain ⟨ι, rfl⟩ : ∃ ι : Nat, i = (ι : Int) := ⟨i.toNat, by omega⟩
          refine q_when (b := false) (et_test (ev_is (ev_op (ev_at (K := K) (i := 0) (ev_var rfl) ha rfl) ev_c (rv_eq rfl)) (by rw [decide_eq_false (fun z => by rcases hw with rfl | rfl <;> exact absurd z (by decide +kernel))]))) (fun z => nomatch z) (fun z H2 e2 => ?_)
          have ha2 := e2 _ _ ha
          refine q_when (b := decide (w = "changed")) (et_test (ev_is (ev_op (ev_at (K := K) (i := 0) (ev_var rfl) ha2 rfl) ev_c (rv_eq rfl)) (by
            congr 1
            exact decide_eq_decide.mpr ⟨fun z => by injection z, fun z => by rw [z]⟩))) (fun z H3 e3 => ?_) (fun z H3 e3 => ?_)
          · have hk : keepN β f s (.tuple [.str w, .int (ι : Int)]) = min (max (chgN β f s) ι) (dl β s).length := by
              show (if w = "changed" then _ else _) = _
              rw [if_pos (of_decide_eq_true z)]
              rfl
            rw [hk] at q
            refine ⟨_, rfl, ev_at (K := K) (i := 1) (ev_var rfl) (e3 _ _ ha2) rfl H3 (Ex.refl H3) _ fun H4 e4 => ⟨_, _, rfl, ?_⟩⟩
            rw [maxI]
            refine ⟨_, rfl, _, _, rfl, ?_⟩
            rw [minI]
            exact q H4 ((e2.trans e3).trans e4)
          · have hk : keepN β f s (.tuple [.str w, .int (ι : Int)]) = min ι (dl β s).length := by
              show (if w = "changed" then _ else _) = _
              rw [if_neg (of_decide_eq_false z)]
              rfl
            rw [hk] at q
            refine ev_at (K := K) (i := 1) (ev_var rfl) (e3 _ _ ha2) rfl H3 (Ex.refl H3) _ fun H4 e4 => ⟨_, rfl, _, _, rfl, ?_⟩
            rw [minI]
            exact q H4 ((e2.trans e3).trans e4)
/-! ### both -/
def spWritten : Sp := fun vs H Q _ => ∃ (r t : Addr) (rs : List V) (Ds : List PyData) (β f s : Nat), vs = [.ref r, .ref t] ∧ H r = some (.tup rs) ∧ PtAll H rs Ds ∧ RowS β Ds ∧ H t = some (.tup (fctV β f s)) ∧ ∀ p H', Ex H H' → H' p = some (.tup [.int (firstD β f s Ds : Int), .int (keptD β f s Ds : Int)]) → Q (.ref p) H'
theorem scWritten : FnScope ["rules", "facts", "number"] ["rules", "facts"] (defScope sWritten) := ⟨rfl, rfl, rfl, by decide +kernel, rfl, by decide +kernel, by decide +kernel⟩
theorem ok_written {f : Addr} {fd fd1 fd2 : FuncData} (F : Fun K "written" "written" sWritten f fd) (G1 : FnOk P w K mg base CX0 2 ffi fd1 ["rules", "facts"] spFirst) (b1 : Binds K fd1 ["rules", "facts"] []) (G2 : FnOk P w K mg base CX0 2 fma fd2 ["keep", "facts"] spMany) (b2 : Binds K fd2 ["keep", "facts"] []) (T : TxW K mg fho ffi fma) :
    FnOk P w K mg base CX0 3 f fd ["rules", "facts"] spWritten := by
  refine F.ok scWritten (fun vs H Q E h => ?_) (fun cdv A outer s H vs Q E hr h => ?_)
  · obtain ⟨_, _, _, _, _, _, _, rfl, _⟩ := h
    rfl
  · obtain ⟨r, t, rs, Ds, β, f, s, rfl, hrs, ka, good, ht, q⟩ := h
    refine ⟨_, pss_cons (ps_set (i := 2) scWritten.nd rfl (.inl rfl) (pe_call G1 hr (by rfl) T.first T.kFi b1 .nil pass0 (pa_cons (pv 0) (pa_cons (pv 1) pa_nil))))
      (pss_one (ps_ret (pe_tup (pa_cons (pv 2) (pa_cons (pe_call G2 hr (by rfl) T.many T.kMa b2 .nil pass0 (pa_cons (pe_ix ix_tup (pe_ix ix_tup (pv 0) (pv 2) (fun _ _ => rfl)) pe_int (fun _ _ => rfl)) (pa_cons (pv 1) pa_nil))) pa_nil))))), ?_⟩
    have hlt := firstD_lt (β := β) (f := f) (s := s) good.1
    obtain ⟨d, hd⟩ : ∃ d, Ds[firstD β f s Ds]? = some d := ⟨_, List.getElem?_eq_getElem hlt⟩
    obtain ⟨u, hu, ku⟩ := ka.get hd
    obtain ⟨cs, k, rfl, hc3, hcs, hks⟩ := good.at hd
    obtain ⟨au, ac, ws, vk, rfl, hau, hac, kws, kk⟩ := ku.rule
    have hk : keptD β f s Ds = keepN β f s k := by
      unfold keptD
      rw [List.getD_eq_getElem?_getD, hd]
      rfl
    rw [hk] at q
    refine q_asg (v := .int (firstD β f s Ds : Int)) (ev_call (ea_cons (ev_var rfl) (ea_cons (ev_var rfl) ea_nil)) fun H1 e1 Q1 q1 E1 => ⟨r, t, rs, Ds, β, f, s, rfl, e1 _ _ hrs, ka.ex e1, good, e1 _ _ ht, fun H2 e2 => q1 H2 e2⟩) fun H1 e1 => ?_
    refine s_tup (vs := [.int (firstD β f s Ds : Int), .int (keepN β f s k : Int)]) (ea_cons (ev_var rfl) (ea_cons ?_ ea_nil)) (by show (2:Nat) ≤ sizeLine; rw [sizeLine_eq]; omega) fun p H4 e4 np hp => q p H4 (e1.trans e4) hp
    exact ev_call (ea_cons (ev_at (K := K) (i := 1) (ev_op (ev_var rfl) (ev_var rfl) (rv_ixT (st_of (e1 _ _ hrs)) (atI_nat hu))) (e1 _ _ hau) rfl) (ea_cons (ev_var rfl) ea_nil)) fun H2 e2 Q2 q2 E2 => ⟨vk, t, k, β, f, s, rfl, kk.ex (e1.trans e2), hks, (e1.trans e2) _ _ ht, fun H3 e3 => q2 H3 e3⟩
end
end Dt

/-! k06: a style's own methods. -/
namespace Dt
open PySem L2 Evl Dg LamR LamX StX ClX TL
open Dr (StAt SameB)
abbrev sRuleOf : Stmt := inClass clStyle 4
abbrev sKeptOf : Stmt := inClass clStyle 5
abbrev sTailOf : Stmt := inClass clStyle 6
abbrev sCallOf : Stmt := inClass clStyle 7
theorem lk_rules (b r : V) : ([(("stored_base" : Str), b), ("stored_rules", r)]).lookup ("stored_rules" : Str) = some r := by
  have h : (("stored_rules" : Str) == "stored_base") = false := by decide +kernel
  simp [List.lookup, h]
theorem lk_base (b r : V) : ([(("stored_base" : Str), b), ("stored_rules", r)]).lookup ("stored_base" : Str) = some b := by simp [List.lookup]
theorem lk_none {m : Str} (b r : V) (h1 : (m == "stored_base") = false) (h2 : (m == "stored_rules") = false) : ([(("stored_base" : Str), b), ("stored_rules", r)]).lookup m = none := by simp [List.lookup, h1, h2]
noncomputable def tailD (β f s : Nat) (Ds : List PyData) : Str := cutS (digs β s) (some (-(keptD β f s Ds : Int))) none
noncomputable def formD (β f s : Nat) (Ds : List PyData) : Str := (digs β f ++ "-") ++ tailD β f s Ds
structure TxM (K : PySem.W.Frag) (mg : Str → Option Value) (fwr ffa fdg C : Addr) : Prop where
  written : mg "written" = some (.ref fwr)
  kWr : PySem.W.keepIn K (.ref fwr) = true
  facts : mg "facts_of" = some (.ref ffa)
  kFa : PySem.W.keepIn K (.ref ffa) = true
  digits : mg "digits" = some (.ref fdg)
  kDg : PySem.W.keepIn K (.ref fdg) = true
  cl : Cls K C
  nB : NoAttr K C "stored_base"
  nR : NoAttr K C "stored_rules"
section
variable {P : Program} {w : World} {K : PySem.W.Frag} {mg : Str → Option Value} {base : Heap} {ca : Nat → Addr} {fwr ffa fdg C : Addr}
/-- a style's method of a range -/
def spM (K : PySem.W.Frag) (C : Addr) (ca : Nat → Addr) (G : Nat → Nat → Nat → List PyData → V) : Sp := fun vs H Q E => ∃ (x : Addr) (β : Nat) (Ds : List PyData) (v u : V) (b c : Bool), vs = [.ref x, v, u] ∧ StyAt H C x β Ds ∧ 2 ≤ β ∧ β ≤ 10 ∧ RowS β Ds ∧ Nm K H v b ∧ Nm K H u c ∧ RngQ ca v u b c H E fun f s => RetV (G β f s Ds) H Q
theorem spM_len {G : Nat → Nat → Nat → List PyData → V} {vs : List V} {H : Hp} {Q : VK} {E : XK} (h : spM K C ca G vs H Q E) : vs.length = 3 := by
  obtain ⟨_, _, _, _, _, _, _, rfl, _⟩ := h
  rfl
theorem ev_rulesF {σ : St} {H : Hp} {x dx t : Addr} {b : V} (cl : Cls K C) (n : NoAttr K C "stored_rules") (h0 : σ[0]? = some (some (.ref x))) (hx : H x = some (.ins C dx [("stored_base", b), ("stored_rules", .ref t)])) : Ev (tFld K (tVar 0) "stored_rules") σ H (.ref t) := fun H1 e Q q =>
  ⟨_, h0, x, C, dx, _, .ref t, rfl, e _ _ hx, cl, n, lk_rules _ _, q H1 (Ex.refl H1)⟩
theorem ev_baseF {σ : St} {H : Hp} {x dx : Addr} {b r : V} (cl : Cls K C) (n : NoAttr K C "stored_base") (h0 : σ[0]? = some (some (.ref x))) (hx : H x = some (.ins C dx [("stored_base", b), ("stored_rules", r)])) : Ev (tFld K (tVar 0) "stored_base") σ H b := fun H1 e Q q =>
  ⟨_, h0, x, C, dx, _, b, rfl, e _ _ hx, cl, n, lk_base _ _, q H1 (Ex.refl H1)⟩
theorem scRuleOf : FnScope ["self", "first", "second"] ["self", "first", "second"] (defScope sRuleOf) := ⟨rfl, rfl, rfl, by decide +kernel, rfl, by decide +kernel, by decide +kernel⟩
theorem scKeptOf : FnScope ["self", "first", "second"] ["self", "first", "second"] (defScope sKeptOf) := ⟨rfl, rfl, rfl, by decide +kernel, rfl, by decide +kernel, by decide +kernel⟩
theorem scTailOf : FnScope ["self", "first", "second", "many"] ["self", "first", "second"] (defScope sTailOf) := ⟨rfl, rfl, rfl, by decide +kernel, rfl, by decide +kernel, by decide +kernel⟩
theorem scCallOf : FnScope ["self", "first", "second", "behind"] ["self", "first", "second"] (defScope sCallOf) := ⟨rfl, rfl, rfl, by decide +kernel, rfl, by decide +kernel, by decide +kernel⟩
theorem ok_keptOf {f : Addr} {fd fd1 fd2 : FuncData} (F : Fun K "kept" "Style.kept" sKeptOf f fd) (GW : FnOk P w K mg base CX0 6 fwr fd1 ["rules", "facts"] spWritten) (bW : Binds K fd1 ["rules", "facts"] [])
    (GF : FnOk P w K mg base (L2.CX P w) 6 ffa fd2 ["base", "first", "second"] (spFacts K ca)) (bF : Binds K fd2 ["base", "first", "second"] []) (T : TxM K mg fwr ffa fdg C) : FnOk P w K mg base (L2.CX P w) 7 f fd ["self", "first", "second"] (spM K C ca fun β f s Ds => .int (keptD β f s Ds : Int)) := by
  refine F.okX scKeptOf (fun vs H Q E h => spM_len h) (fun cdv A outer s H vs Q E hr h => ?_)
  obtain ⟨x, β, Ds, v, u, b, c, rfl, ⟨dx, tr, hx, kr⟩, b2, b10, good, kb, kc, R⟩ := h
  obtain ⟨tr', rs, e, hrs, ka⟩ := kr.tupI'
  cases e
  refine ⟨_, pss_one (ps_ret (pe_ix ix_tup (pe_call GW hr (by rfl) T.written T.kWr bW .nil pass0 (pa_cons (pe_fld (pv 0) rfl) (pa_cons (pe_callS GF hr (by rfl) T.facts T.kFa bF (fun σ => passAt (takes_of rfl rfl rfl rfl) σ) (pa_cons (pe_fld (pv 0) rfl) (pa_cons (pv 1) (pa_cons (pv 2) pa_nil)))) pa_nil))) pe_int (fun _ _ => rfl))), ?_⟩
  refine ⟨_, rfl, x, C, dx, _, .ref tr, rfl, hx, T.cl, T.nR, lk_rules _ _, _, rfl, x, C, dx, _, .int β, rfl, hx, T.cl, T.nB, lk_base _ _, _, rfl, _, rfl, β, v, u, b, c, rfl, b2, b10, kb, kc, R.map (Ex.refl H) fun f s hv hu f1 hfs s2 g t H3 e3 ht => ?_⟩
  have e13 := e3
  exact ⟨tr, t, rs, Ds, β, f, s, rfl, e13 _ _ hrs, ka.ex e13, good, ht, fun p H4 e4 hp => ⟨p, _, _, _, rfl, rfl, st_of hp, atI_nat (j := 1) rfl, g H4 (e13.trans e4)⟩⟩
theorem ok_tailOf {f fk : Addr} {fd fd1 fd2 : FuncData} (F : Fun K "tail" "Style.tail" sTailOf f fd) (mK : Meth K C "kept" fk) (GK : FnOk P w K mg base (L2.CX P w) 7 fk fd1 ["self", "first", "second"] (spM K C ca fun β f s Ds => .int (keptD β f s Ds : Int))) (bK : Binds K fd1 ["self", "first", "second"] [])
    (GD : FnOk P w K mg base (L2.CX P w) 7 fdg fd2 ["base", "number"] (spDigits K ca)) (bD : Binds K fd2 ["base", "number"] []) (T : TxM K mg fwr ffa fdg C) : FnOk P w K mg base (L2.CX P w) 8 f fd ["self", "first", "second"] (spM K C ca fun β f s Ds => .str (tailD β f s Ds)) := by
  refine F.okX scTailOf (fun vs H Q E h => spM_len h) (fun cdv A outer s H vs Q E hr h => ?_)
  obtain ⟨x, β, Ds, v, u, b, c, rfl, ⟨dx, tr, hx, kr⟩, b2, b10, good, kb, kc, R⟩ := h
  refine ⟨_, pss_cons (ps_set (i := 3) scTailOf.nd rfl (.inl rfl) (pe_meth (pv 0) T.cl mK GK hr bK .nil (fun pins s H st e s' I c => passAt (takes_of rfl rfl rfl rfl) s pins H st e s' I c) (pa_cons (pv 1) (pa_cons (pv 2) pa_nil))))
    (pss_one (ps_ret (pe_slice sl_str (pe_callS GD hr (by rfl) T.digits T.kDg bD (fun σ => passAt (takes_of rfl rfl rfl rfl) σ) (pa_cons (pe_fld (pv 0) rfl) (pa_cons (pv 2) pa_nil))) (po_some (pe_un un_neg (pv 3))) po_none))), ?_⟩
  refine ⟨_, rfl, x, dx, _, rfl, hx, lk_none _ _ (by decide +kernel) (by decide +kernel), _, rfl, _, rfl, x, β, Ds, v, u, b, c, rfl, ⟨dx, tr, hx, kr⟩, b2, b10, good, kb, kc, R.map (Ex.refl H) fun f s hv hu f1 hfs s2 g H1 e1 => ?_⟩
  subst hv hu
  have ls : (digs β s).length ≤ 100000 := Nat.le_trans (digs_le (n := s) b2 s2) (by decide)
  exact s_ret (ev_cutS (ev_digP b2 b10 (Nat.le_of_lt (Nat.lt_of_le_of_lt f1 hfs)) s2 (ev_baseF T.cl T.nB rfl (e1 _ _ hx)) (ev_var rfl)) (eo_some (ev_un (ev_var rfl) ru_neg)) eo_none ls) fun H2 e2 => g H2 (e1.trans e2)
theorem len_append (x y : Str) : (x ++ y).length = x.length + y.length := by
  rw [len_t, len_t, len_t, tl_append, List.length_append]
theorem cut_len (x : Str) (lo hi : Option Int) : (cutS x lo hi).length ≤ x.length := by
  rw [len_t (cutS x lo hi)]
  show (((x.cps.toList.drop _).take _).toArray).toList.length ≤ x.cps.size
  rw [List.length_take, List.length_drop, Array.length_toList]
  omega
theorem ok_callOf {f ft : Addr} {fd fd1 fd2 : FuncData} (F : Fun K "__call__" "Style.__call__" sCallOf f fd) (mT : Meth K C "tail" ft) (GT : FnOk P w K mg base (L2.CX P w) 8 ft fd1 ["self", "first", "second"] (spM K C ca fun β f s Ds => .str (tailD β f s Ds))) (bT : Binds K fd1 ["self", "first", "second"] [])
    (GD : FnOk P w K mg base (L2.CX P w) 8 fdg fd2 ["base", "number"] (spDigits K ca)) (bD : Binds K fd2 ["base", "number"] []) (T : TxM K mg fwr ffa fdg C) : FnOk P w K mg base (L2.CX P w) 9 f fd ["self", "first", "second"] (spM K C ca fun β f s Ds => .str (formD β f s Ds)) := by
  refine F.okX scCallOf (fun vs H Q E h => spM_len h) (fun cdv A outer s H vs Q E hr h => ?_)
  obtain ⟨x, β, Ds, v, u, b, c, rfl, ⟨dx, tr, hx, kr⟩, b2, b10, good, kb, kc, R⟩ := h
  refine ⟨_, pss_cons (ps_set (i := 3) scCallOf.nd rfl (.inl rfl) (pe_meth (pv 0) T.cl mT GT hr bT .nil (fun pins s H st e s' I c => passAt (takes_of rfl rfl rfl rfl) s pins H st e s' I c) (pa_cons (pv 1) (pa_cons (pv 2) pa_nil))))
    (pss_one (ps_ret (pe_op op_add_str (pe_op op_add_str (pe_callS GD hr (by rfl) T.digits T.kDg bD (fun σ => passAt (takes_of rfl rfl rfl rfl) σ) (pa_cons (pe_fld (pv 0) rfl) (pa_cons (pv 1) pa_nil))) pe_str) (pv 3)))), ?_⟩
  refine ⟨_, rfl, x, dx, _, rfl, hx, lk_none _ _ (by decide +kernel) (by decide +kernel), _, rfl, _, rfl, x, β, Ds, v, u, b, c, rfl, ⟨dx, tr, hx, kr⟩, b2, b10, good, kb, kc, R.map (Ex.refl H) fun f s hv hu f1 hfs s2 g H1 e1 => ?_⟩
  subst hv hu
  have lf : (digs β f).length ≤ 50000 := digs_le (n := f) b2 (Nat.lt_trans hfs s2)
  have ls : (tailD β f s Ds).length ≤ 50000 := Nat.le_trans (cut_len _ _ _) (digs_le (n := s) b2 s2)
  have one : ("-" : Str).length = 1 := by decide
  have f2 := Nat.lt_trans hfs s2
  clear R
  refine ev_digP b2 b10 f1 f2 (ev_baseF T.cl T.nB rfl (e1 _ _ hx)) (ev_var rfl) H1 (Ex.refl H1) _ fun H2 e2 => ⟨_, _, rfl, rfl, ?_, _, rfl, _, _, rfl, rfl, ?_, g H2 (e1.trans e2)⟩
  · clear f2 s2
    rw [sizeLine_eq, one]
    omega
  · clear f2 s2
    show (digs β f ++ "-").length + (tailD β f s Ds).length ≤ sizeLine
    rw [sizeLine_eq, len_append, one]
    omega
end
end Dt

/-! k08: completed, fewest, is_right, with what they refuse. -/
namespace Dg
open PySem L2 Evl TL
/-- the fewest digits that a reader needs -/
noncomputable def fewN (r : Str) (β f s : Nat) : Nat := if r = "replace" then chgN β f s else max (neaN β (s - f)) 1
end Dg
namespace Dt
open PySem L2 Evl Dg LamR LamX StX ClX TL
open Dr (StAt SameB)
abbrev sFewK : Stmt := top 60
abbrev sFewest : Stmt := top 61
abbrev sIsRight : Stmt := top 62
structure TxE (K : PySem.W.Frag) (mg : Str → Option Value) (fnr fnb ffa ffk ffe C : Addr) : Prop where
  needRd : mg "need_reader" = some (.ref fnr)
  kNR : PySem.W.keepIn K (.ref fnr) = true
  needB : mg "need_base" = some (.ref fnb)
  kNB : PySem.W.keepIn K (.ref fnb) = true
  facts : mg "facts_of" = some (.ref ffa)
  kFa : PySem.W.keepIn K (.ref ffa) = true
  fewK : mg "fewest_kept" = some (.ref ffk)
  kFk : PySem.W.keepIn K (.ref ffk) = true
  few : mg "fewest" = some (.ref ffe)
  kFe : PySem.W.keepIn K (.ref ffe) = true
  max : mg "max" = none
  cl : Cls K C
  nB : NoAttr K C "stored_base"
section
variable {P : Program} {w : World} {K : PySem.W.Frag} {mg : Str → Option Value} {base : Heap} {ca : Nat → Addr} {fi fnum ff fnb fnn fra fbe fwo fnr frp ar ffa ffk ffe C : Addr}
theorem maxI (x y : Nat) : (if (y : Int) > (x : Int) then (y : Int) else (x : Int)) = ((max x y : Nat) : Int) := by
  rcases Nat.lt_or_ge x y with z | z
  · rw [if_pos (by omega), Nat.max_eq_right (Nat.le_of_lt z)]
  · rw [if_neg (by omega), Nat.max_eq_left z]
theorem ev_max2 {σ : St} {H : Hp} {ta tb : TE} {x y : Nat} (ha : Ev ta σ H (.int x)) (hb : Ev tb σ H (.int y)) : Ev (tCB (fun xs H Q => ∃ i j, xs = [.int i, .int j] ∧ Q (.int (if j > i then j else i)) H) (tCons ta (tCons tb tNil))) σ H (.int ((max x y : Nat) : Int)) :=
  ev_cb (ea_cons ha (ea_cons hb ea_nil)) fun H1 e Q q => ⟨_, _, rfl, by
    rw [maxI]
    exact q _ (Ex.refl _)⟩
abbrev isRd (r : Str) : Prop := r = "next" ∨ r = "replace"
def spFewK : Sp := fun vs H Q _ => ∃ (r : Str) (t : Addr) (β f s : Nat), vs = [.str r, .ref t] ∧ isRd r ∧ H t = some (.tup (fctV β f s)) ∧ RetV (.int (fewN r β f s : Int)) H Q
abbrev nFewK : List Str := ["reader", "facts", "first_length", "second_length", "change", "gap", "ending"]
theorem scFewK : FnScope nFewK ["reader", "facts"] (defScope sFewK) := ⟨rfl, rfl, rfl, by decide +kernel, rfl, by decide +kernel, by decide +kernel⟩
theorem ok_fewK {f : Addr} {fd : FuncData} (F : Fun K "fewest_kept" "fewest_kept" sFewK f fd) (mX : mg "max" = none) : FnOk P w K mg base CX0 1 f fd ["reader", "facts"] spFewK := by
  refine F.ok scFewK (fun vs H Q E h => ?_) (fun cdv A outer s H vs Q E hr h => ?_)
  · obtain ⟨_, _, _, _, _, rfl, _⟩ := h
    rfl
  · obtain ⟨r, t, β, f, s, rfl, hrd, ht, q⟩ := h
    refine ⟨_, pss_cons (ps_asg (pv 1) (pg_tup (by rfl) (pgs_cons (pg_name (i := 2) scFewK.nd rfl (.inl rfl)) (pgs_cons (pg_name (i := 3) scFewK.nd rfl (.inl rfl)) (pgs_cons (pg_name (i := 4) scFewK.nd rfl (.inl rfl)) (pgs_cons (pg_name (i := 5) scFewK.nd rfl (.inl rfl)) (pgs_cons (pg_name (i := 6) scFewK.nd rfl (.inl rfl)) pgs_nil)))))))
      (pss_one (ps_ret (pe_ifExp (pt_cmpR op_eq (pv 0) pe_str (nomark _)) (pv 4) (pe_callB (call_max2 (by rfl)) (by rfl) mX (by decide +kernel) (pa_cons (pv 5) (pa_cons pe_int pa_nil)))))), ?_⟩
    refine ⟨_, rfl, t, _, rfl, st_of ht, rfl, _, _, rfl, _, _, rfl, _, _, rfl, _, _, rfl, _, _, rfl, rfl, ?_⟩
    refine s_ret (v := .int (fewN r β f s : Int)) (ev_if (b := decide (r = "replace")) (et_test (ev_is (ev_op (ev_var rfl) ev_c (rv_eq rfl)) (by
      congr 1
      exact decide_eq_decide.mpr ⟨fun z => by injection z, fun z => by rw [z]⟩))) (fun z => ?_) (fun z => ?_)) fun H1 e1 => q H1 e1
    · unfold fewN
      rw [if_pos (of_decide_eq_true z)]
      exact ev_var rfl
    · unfold fewN
      rw [if_neg (of_decide_eq_false z)]
      exact ev_max2 (y := 1) (ev_var rfl) ev_c
/-- whether a value is a reader -/
inductive Rdr (K : PySem.W.Frag) (H : Hp) : V → Bool → Prop
  | str (r : Str) : Rdr K H (.str r) (decide (isRd r))
  | oth {v : V} (t : Tx K H v none) : Rdr K H v false
theorem Rdr.ex {H H' : Hp} {v : V} {b : Bool} (e : Ex H H') (k : Rdr K H v b) : Rdr K H' v b := by
  cases k with
  | str r => exact .str r
  | oth t => exact .oth (t.ex e)
theorem Rdr.inv {H : Hp} {v : V} (k : Rdr K H v true) : ∃ r : Str, v = .str r ∧ isRd r := by
  generalize hb : true = b at k
  cases k with
  | str r => exact ⟨r, rfl, of_decide_eq_true hb.symm⟩
  | oth t => cases hb
theorem in_rd (r : Str) : inV (.str r) [.str "replace", .str "next"] = decide (isRd r) := by
  have e : inV (.str r) [.str "replace", .str "next"] = ((("replace" : Str) == r) || ((("next" : Str) == r) || false)) := rfl
  rw [e, Bool.or_false]
  have h1 : (("replace" : Str) == r) = decide (r = "replace") := by
    by_cases h : r = "replace"
    · rw [h, decide_eq_true rfl]
      exact beq_self_eq_true _
    · rw [decide_eq_false h]
      exact beq_eq_false_iff_ne.mpr (Ne.symm h)
  have h2 : (("next" : Str) == r) = decide (r = "next") := by
    by_cases h : r = "next"
    · rw [h, decide_eq_true rfl]
      exact beq_self_eq_true _
    · rw [decide_eq_false h]
      exact beq_eq_false_iff_ne.mpr (Ne.symm h)
  rw [h1, h2]
  by_cases a : r = "replace" <;> by_cases b : r = "next" <;> simp [isRd, a, b]
theorem ok_needRdR {f : Addr} {fd : FuncData} (F : Fun K "need_reader" "need_reader" sNeedRd f fd) (T : TxP K mg fi fnum ff fnb fnn fra fbe fwo fnr frp ar) (M : Mks P K mg (ca 6) ["value"]) (gC : mg "BadReader" = some (.ref (ca 6))) : FnOk P w K mg base (L2.CX P w) 2 f fd ["reader"] (spNeed (Rdr K) (ca 6)) := by
  refine F.okX scNeedRd (fun vs H Q E h => ?_) (fun cdv A outer s H vs Q E hr h => ?_)
  · obtain ⟨_, _, rfl, _⟩ := h
    rfl
  · obtain ⟨v, b, rfl, k, qy, qn⟩ := h
    refine ⟨_, pss_one (ps_if (PW.pt (pw_or (pt_not (pt_val (pe_callB call_isi (by rfl) T.isi (by decide +kernel) (pa_cons (pv 0) (pa_cons (pe_bltn (by rfl) T.str (by decide +kernel) (v := .ty "str") rfl) pa_nil))))) (pw_or1 (pt_cmpR op_notIn_seq (pv 0) (pe_glob (by rfl) T.readers (v := .ref ar) rfl) (by rfl)))))
      (pss_one (ps_raise rfl (takes_of rfl rfl rfl rfl) (pmk_mks M T.sup hr (by simp) (pa_cons (pv 0) pa_nil) (by rfl) gC))) pss_nil), ?_⟩
    cases k with
    | str r =>
      refine s_when (b := !decide (isRd r)) (et_is (et_or (a := false) (b := !decide (isRd r)) (et_is (et_not (et_B (ev_isi (r := true) (ev_var rfl) (.base (.str r)) (by decide +kernel)))) rfl) fun _ => et_is (et_test (ev_op (ev_var rfl) ev_c (rv_niT (T.rd H) rfl rfl))) (by rw [in_rd])) (by simp)) (fun z H1 e => ?_) (fun z H1 e => qy (by rw [Bool.not_eq_false'] at z; exact z) H1 e)
      exact ⟨_, rfl, rfl, fun d hd => qn (by rw [Bool.not_eq_true'] at z; exact z) H1 d e hd⟩
    | oth t =>
      cases t with
      | oth t h =>
        refine s_when (b := true) (et_is (et_or (b := true) (et_not (et_B (ev_isi (ev_var rfl) t h))) fun z => nomatch z) (by simp)) (fun z H1 e => ?_) (fun z => nomatch z)
        exact ⟨_, rfl, rfl, fun d hd => qn rfl H1 d e hd⟩
def spComplR (K : PySem.W.Frag) (ca : Nat → Addr) : Sp := fun vs H Q E => ∃ (vr vb vn vt : V) (a b c : Bool) (o : Option Str), vs = [vr, vb, vn, vt] ∧ Rdr K H vr a ∧ Bs K H vb b ∧ Nm K H vn c ∧ Tx K H vt o ∧ (∀ x, o = some x → x.length ≤ sizeLine) ∧ (a = false → Leaves (ca 6) "value" vr H E) ∧ (a = true → b = false → Leaves (ca 1) "value" vb H E) ∧ (a = true → b = true → c = false → Leaves (ca 2) "value" vn H E) ∧
  (a = true → b = true → c = true → ∃ (r : Str) (β f : Nat), vr = .str r ∧ vb = .int β ∧ vn = .int f ∧ isRd r ∧ 2 ≤ β ∧ β ≤ 10 ∧ 1 ≤ f ∧ (figsO β 1000 o = false → Leaves (ca 3) "value" vt H E) ∧ ∀ x, o = some x → isFigs β 1000 x = true → vt = .str x → RetV (cmpl r f ((β ^ x.length : Nat) : Int) (numF β (tl x)) (zeroAt x)) H Q)
theorem ok_complR {f : Addr} {fd fdr fdw fdb fdn fdd fdf fdp fdh : FuncData} (F : Fun K "completed" "completed" sCompleted f fd) (GR : FnOk P w K mg base CX0 3 fra fdr ["base", "exponent"] spRaisedP) (bR : Binds K fdr ["base", "exponent"] []) (GW : FnOk P w K mg base CX0 3 fwo fdw ["base", "figures"] spWorth) (bW : Binds K fdw ["base", "figures"] [])
    (GB : FnOk P w K mg base (L2.CX P w) 3 fnb fdb ["base"] (spNeed (Bs K) (ca 1))) (bB : Binds K fdb ["base"] []) (GN : FnOk P w K mg base (L2.CX P w) 3 fnn fdn ["number"] (spNeed (Nm K) (ca 2))) (bN : Binds K fdn ["number"] []) (GD : FnOk P w K mg base (L2.CX P w) 3 fnr fdd ["reader"] (spNeed (Rdr K) (ca 6))) (bD : Binds K fdd ["reader"] [])
    (GF : FnOk P w K mg base CX0 3 ff fdf ["base", "value", "most"] (spIsFig K)) (bF : Binds K fdf ["base", "value", "most"] []) (GP : FnOk P w K mg base CX0 3 frp fdp ["base", "first", "tail"] spReplaced) (bP : Binds K fdp ["base", "first", "tail"] []) (GH : FnOk P w K mg base CX0 3 fbe fdh ["number", "remainder", "step"] spBehind) (bH : Binds K fdh ["number", "remainder", "step"] [])
    (T : TxP K mg fi fnum ff fnb fnn fra fbe fwo fnr frp ar) (M : Mks P K mg (ca 3) ["value"]) (gC : mg "BadDigits" = some (.ref (ca 3))) : FnOk P w K mg base (L2.CX P w) 4 f fd ["reader", "base", "first", "tail"] (spComplR K ca) := by
  refine F.okX scCompl (fun vs H Q E h => ?_) (fun cdv A outer s H vs Q E hr h => ?_)
  · obtain ⟨_, _, _, _, _, _, _, _, rfl, _⟩ := h
    rfl
  · obtain ⟨vr, vb, vn, vt, a, b, c, o, rfl, ka, kb, kc, ko, hz, l1, l2, l3, hq⟩ := h
    obtain ⟨t4, hm⟩ := T.many
    refine ⟨_, pss_cons (ps_expr (pe_callS GD hr (by rfl) T.needRd T.kNR bD (fun σ => passAt (takes_of rfl rfl rfl rfl) σ) (pa_cons (pv 0) pa_nil)))
      (pss_cons (ps_expr (pe_callS GB hr (by rfl) T.needB T.kNB bB (fun σ => passAt (takes_of rfl rfl rfl rfl) σ) (pa_cons (pv 1) pa_nil)))
      (pss_cons (ps_expr (pe_callS GN hr (by rfl) T.needN T.kNN bN (fun σ => passAt (takes_of rfl rfl rfl rfl) σ) (pa_cons (pv 2) pa_nil)))
      (pss_cons (ps_if (pt_not (pt_val (pe_call GF hr (by rfl) T.isFig T.kFig bF .nil pass0 (pa_cons (pv 1) (pa_cons (pv 3) (pa_cons (pe_glob (by rfl) hm (v := .int 1000) ⟨_, rfl⟩) pa_nil)))))) (pss_one (ps_raise rfl (takes_of rfl rfl rfl rfl) (pmk_mks M T.sup hr (by simp) (pa_cons (pv 3) pa_nil) (by rfl) gC))) pss_nil)
      (pss_cons (ps_if (pt_cmpR op_eq (pv 0) pe_str (nomark _)) (pss_one (ps_ret (pe_call GP hr (by rfl) T.repl T.kRp bP .nil pass0 (pa_cons (pv 1) (pa_cons (pv 2) (pa_cons (pv 3) pa_nil)))))) pss_nil)
      (pss_one (ps_ret (pe_call GH hr (by rfl) T.behind T.kBe bH .nil pass0 (pa_cons (pv 2) (pa_cons (pe_call GW hr (by rfl) T.worth T.kWo bW .nil pass0 (pa_cons (pv 1) (pa_cons (pv 3) pa_nil))) (pa_cons (pe_call GR hr (by rfl) T.raised T.kRa bR .nil pass0 (pa_cons (pv 1) (pa_cons (pe_callB call_len_str (by rfl) T.len (by decide +kernel) (pa_cons (pv 3) pa_nil)) pa_nil))) pa_nil)))))))))), ?_⟩
    refine ⟨_, rfl, vr, a, rfl, ka, fun ha H1 e1 => ?_, l1⟩
    refine ⟨_, rfl, vb, b, rfl, kb.ex e1, fun hb H2 e2 => ?_, fun hb => (l2 ha hb).go e1⟩
    refine ⟨_, rfl, vn, c, rfl, kc.ex (e1.trans e2), fun hc H3 e3 => ?_, fun hc => (l3 ha hb hc).go (e1.trans e2)⟩
    obtain ⟨r, β, f, rfl, rfl, rfl, hrd, b2, b10, f1, l4, q⟩ := hq ha hb hc
    have e13 := (e1.trans e2).trans e3
    dsimp only
    refine q_when (b := !figsO β 1000 o) (et_is (et_not (et_B (ev_call (z := .bl (figsO β 1000 o)) (ea_cons (ev_var rfl) (ea_cons (ev_var rfl) (ea_cons ev_c ea_nil))) fun H4 e4 Q4 q4 E4 => ⟨β, 1000, vt, o, rfl, b2, b10, by decide, (ko.ex e13).ex e4, hz, fun H5 e5 => q4 H5 e5⟩))) rfl) (fun z H4 e4 => ?_) (fun z H4 e4 => ?_)
    · exact ⟨_, rfl, rfl, fun d hd => l4 (by simpa using z) H4 d (e13.trans e4) hd⟩
    · have e14 := e13.trans e4
      have z' : figsO β 1000 o = true := by simpa using z
      obtain ⟨x, rfl, hx⟩ : ∃ x, o = some x ∧ isFigs β 1000 x = true := by
        cases o with
        | none => cases z'
        | some x => exact ⟨x, rfl, z'⟩
      have hvt : vt = .str x := by
        generalize ho : some x = o at ko
        cases ko with
        | str y =>
          injection ho with ho
          rw [ho]
        | oth t h => cases ho
      subst hvt
      have q := q x rfl hx rfl
      obtain ⟨x1, x2, hc'⟩ := fig_all hx
      refine q_when (b := decide (V.str r = V.str "replace")) (et_test (ev_op (ev_var rfl) ev_c (rv_eq rfl))) (fun z H5 e5 => ?_) (fun z H5 e5 => ?_)
      · have hz : r = "replace" := by
          have := of_decide_eq_true z
          injection this
        refine s_ret (ev_call (z := cmpl r f ((β ^ x.length : Nat) : Int) (numF β (tl x)) (zeroAt x)) (ea_cons (ev_var rfl) (ea_cons (ev_var rfl) (ea_cons (ev_var rfl) ea_nil))) fun H1 e Q q E => ⟨β, f, x, rfl, b2, b10, hx, fun H2 e2 => ?_⟩) fun H6 e6 => q H6 ((e14.trans e5).trans e6)
        have := q H2 e2
        unfold cmpl at this
        rw [if_pos hz] at this
        exact this
      · have hz : ¬ r = "replace" := fun y => by
          have := of_decide_eq_false z
          exact this (by rw [y])
        obtain ⟨S, hS⟩ : ∃ S : Nat, S = β ^ x.length := ⟨_, rfl⟩
        have s0 : 0 < S := by
          rw [hS]
          exact Nat.pow_pos (by omega)
        refine s_ret (ev_call (z := .int (nxtI f (S : Int) (numF β (tl x)))) (vs := [.int f, .int (numF β (tl x)), .int (S : Int)]) (ea_cons (ev_var rfl) (ea_cons (ev_worth (ev_var rfl) (ev_var rfl) b2 b10 hc') (ea_cons (by rw [hS]; exact ev_raisedP (ev_var rfl) (ev_lenX (K := K) (ev_var rfl) (by omega)) b2 b10 (by omega)) ea_nil))) fun H1 e Q q E => ⟨f, numF β (tl x), S, rfl, by omega, fun H2 e2 => q H2 e2⟩) fun H6 e6 => ?_
        have := q H6 ((e14.trans e5).trans e6)
        unfold cmpl at this
        rw [if_neg hz] at this
        rw [hS]
        exact this
def spFewestR (K : PySem.W.Frag) (ca : Nat → Addr) : Sp := fun vs H Q E => ∃ (vr vb v u : V) (a b c d : Bool), vs = [vr, vb, v, u] ∧ Rdr K H vr a ∧ Bs K H vb b ∧ Nm K H v c ∧ Nm K H u d ∧ (a = false → Leaves (ca 6) "value" vr H E) ∧ (a = true → b = false → Leaves (ca 1) "value" vb H E) ∧
  (a = true → b = true → ∃ (r : Str) (β : Nat), vr = .str r ∧ vb = .int β ∧ isRd r ∧ 2 ≤ β ∧ β ≤ 10 ∧ RngQ ca v u c d H E fun f s => RetV (.int (fewN r β f s : Int)) H Q)
theorem scFewest : FnScope ["reader", "base", "first", "second"] ["reader", "base", "first", "second"] (defScope sFewest) := ⟨rfl, rfl, rfl, by decide +kernel, rfl, by decide +kernel, by decide +kernel⟩
theorem ok_fewestR {f : Addr} {fd fd1 fd2 fd3 fd4 : FuncData} (F : Fun K "fewest" "fewest" sFewest f fd) (G1 : FnOk P w K mg base (L2.CX P w) 6 fnr fd1 ["reader"] (spNeed (Rdr K) (ca 6))) (b1 : Binds K fd1 ["reader"] []) (G2 : FnOk P w K mg base (L2.CX P w) 6 fnb fd2 ["base"] (spNeed (Bs K) (ca 1))) (b2 : Binds K fd2 ["base"] [])
    (G3 : FnOk P w K mg base (L2.CX P w) 6 ffa fd3 ["base", "first", "second"] (spFacts K ca)) (b3 : Binds K fd3 ["base", "first", "second"] []) (G4 : FnOk P w K mg base CX0 6 ffk fd4 ["reader", "facts"] spFewK) (b4 : Binds K fd4 ["reader", "facts"] []) (T : TxE K mg fnr fnb ffa ffk ffe C) :
    FnOk P w K mg base (L2.CX P w) 7 f fd ["reader", "base", "first", "second"] (spFewestR K ca) := by
  refine F.okX scFewest (fun vs H Q E h => ?_) (fun cdv A outer s H vs Q E hr h => ?_)
  · obtain ⟨_, _, _, _, _, _, _, _, rfl, _⟩ := h
    rfl
  · obtain ⟨vr, vb, v, u, a, b, c, d, rfl, ka, kb, kc, kd, l1, l2, hq⟩ := h
    refine ⟨_, pss_cons (ps_expr (pe_callS G1 hr (by rfl) T.needRd T.kNR b1 (fun σ => passAt (takes_of rfl rfl rfl rfl) σ) (pa_cons (pv 0) pa_nil)))
      (pss_cons (ps_expr (pe_callS G2 hr (by rfl) T.needB T.kNB b2 (fun σ => passAt (takes_of rfl rfl rfl rfl) σ) (pa_cons (pv 1) pa_nil)))
      (pss_one (ps_ret (pe_call G4 hr (by rfl) T.fewK T.kFk b4 .nil pass0 (pa_cons (pv 0) (pa_cons (pe_callS G3 hr (by rfl) T.facts T.kFa b3 (fun σ => passAt (takes_of rfl rfl rfl rfl) σ) (pa_cons (pv 1) (pa_cons (pv 2) (pa_cons (pv 3) pa_nil)))) pa_nil)))))), ?_⟩
    refine ⟨_, rfl, vr, a, rfl, ka, fun ha H1 e1 => ?_, l1⟩
    refine ⟨_, rfl, vb, b, rfl, kb.ex e1, fun hb H2 e2 => ?_, fun hb => (l2 ha hb).go e1⟩
    obtain ⟨r, β, rfl, rfl, hrd, b2', b10, R⟩ := hq ha hb
    have e12 := e1.trans e2
    exact ⟨_, rfl, _, rfl, _, rfl, _, rfl, β, v, u, c, d, rfl, b2', b10, kc.ex e12, kd.ex e12, R.map e12 fun f s hv hu f1 hfs s2 q t H3 e3 ht => ⟨r, t, β, f, s, rfl, hrd, ht, fun H4 e4 => q H4 ((e12.trans e3).trans e4)⟩⟩
def spIsRightR (K : PySem.W.Frag) (C : Addr) (ca : Nat → Addr) : Sp := fun vs H Q E => ∃ (x : Addr) (vr v u : V) (a c d : Bool) (β : Nat) (Ds : List PyData), vs = [.ref x, vr, v, u] ∧ StyAt H C x β Ds ∧ 2 ≤ β ∧ β ≤ 10 ∧ RowS β Ds ∧ Rdr K H vr a ∧ Nm K H v c ∧ Nm K H u d ∧ (a = false → Leaves (ca 6) "value" vr H E) ∧
  (a = true → ∃ r : Str, vr = .str r ∧ isRd r ∧ RngQ ca v u c d H E fun f s => RetV (.bl (decide (fewN r β f s ≤ keptD β f s Ds))) H Q)
theorem scIsRight : FnScope ["style", "reader", "first", "second"] ["style", "reader", "first", "second"] (defScope sIsRight) := ⟨rfl, rfl, rfl, by decide +kernel, rfl, by decide +kernel, by decide +kernel⟩
theorem ok_isRightR {f fk pb gb : Addr} {fd fd1 fd2 fd3 fd4 : FuncData} (F : Fun K "is_right" "is_right" sIsRight f fd) (G1 : FnOk P w K mg base (L2.CX P w) 8 fnr fd1 ["reader"] (spNeed (Rdr K) (ca 6))) (b1 : Binds K fd1 ["reader"] []) (mK : Meth K C "kept" fk)
    (G2 : FnOk P w K mg base (L2.CX P w) 8 fk fd2 ["self", "first", "second"] (spM K C ca fun β f s Ds => .int (keptD β f s Ds : Int))) (b2 : Binds K fd2 ["self", "first", "second"] []) (G3 : FnOk P w K mg base (L2.CX P w) 8 ffe fd3 ["reader", "base", "first", "second"] (spFewestR K ca)) (b3 : Binds K fd3 ["reader", "base", "first", "second"] [])
    (pB : PropOf K C "base" pb gb) (G4 : FnOk P w K mg base CX0 7 gb fd4 ["self"] (getSp C "stored_base")) (b4 : Binds K fd4 ["self"] []) (T : TxE K mg fnr fnb ffa ffk ffe C) : FnOk P w K mg base (L2.CX P w) 9 f fd ["style", "reader", "first", "second"] (spIsRightR K C ca) := by
  refine F.okX scIsRight (fun vs H Q E h => ?_) (fun cdv A outer s H vs Q E hr h => ?_)
  · obtain ⟨_, _, _, _, _, _, _, _, _, rfl, _⟩ := h
    rfl
  · obtain ⟨x, vr, v, u, a, c, d, β, Ds, rfl, ⟨dx, tr, hx, kr⟩, b2', b10, good, ka, kc, kd, l1, hq⟩ := h
    refine ⟨_, pss_cons (ps_expr (pe_callS G1 hr (by rfl) T.needRd T.kNR b1 (fun σ => passAt (takes_of rfl rfl rfl rfl) σ) (pa_cons (pv 1) pa_nil)))
      (pss_one (ps_ret (pe_cmpR op_ge (pe_meth (pv 0) T.cl mK G2 hr b2 .nil (fun pins s H st e s' I c => passAt (takes_of rfl rfl rfl rfl) s pins H st e s' I c) (pa_cons (pv 2) (pa_cons (pv 3) pa_nil)))
        (pe_callS G3 hr (by rfl) T.few T.kFe b3 (fun σ => passAt (takes_of rfl rfl rfl rfl) σ) (pa_cons (pv 1) (pa_cons (pe_prop (pv 0) T.cl pB G4 hr b4 .nil pass0 rfl) (pa_cons (pv 2) (pa_cons (pv 3) pa_nil))))) (nomark _)))), ?_⟩
    refine ⟨_, rfl, vr, a, rfl, ka, fun ha H1 e1 => ?_, l1⟩
    obtain ⟨r, rfl, hrd, R⟩ := hq ha
    have hx1 := e1 _ _ hx
    refine ⟨_, rfl, x, dx, _, rfl, hx1, lk_none _ _ (by decide +kernel) (by decide +kernel), _, rfl, _, rfl, x, β, Ds, v, u, c, d, rfl, ⟨dx, tr, hx1, kr.ex e1⟩, b2', b10, good, kc.ex e1, kd.ex e1, R.map e1 fun f s hv hu f1 hfs s2 q H2 e2 => ?_⟩
    subst hv hu
    have hx2 := e2 _ _ hx1
    refine ⟨_, rfl, _, rfl, x, dx, _, rfl, hx2, x, dx, _, .int β, rfl, hx2, lk_base _ _, _, rfl, _, rfl, .str r, .int β, .int f, .int s, true, true, true, true, rfl, ?_, bs_yes b2' b10, nm_yes f1, nm_yes (Nat.le_of_lt (Nat.lt_of_le_of_lt f1 hfs)), (fun z => nomatch z), (fun _ z => nomatch z), fun _ _ => ⟨r, β, rfl, rfl, hrd, b2', b10, ⟨(fun z => nomatch z), fun _ => .inr ⟨f, s, rfl, rfl, f1, hfs, s2, fun H3 e3 => ⟨_, _, rfl, rfl, ?_⟩⟩⟩⟩⟩
    · have := Rdr.str (K := K) (H := H2) r
      rw [decide_eq_true hrd] at this
      exact this
    · have e : decide ((keptD β f s Ds : Int) ≥ (fewN r β f s : Int)) = decide (fewN r β f s ≤ keptD β f s Ds) := decide_eq_decide.mpr ⟨fun h => by omega, fun h => by omega⟩
      have q' := q H3 ((e1.trans e2).trans e3)
      rw [← e] at q'
      exact q'
end
end Dt

/-! Rules as they are shown, laid and cut. -/
namespace Dt
open PySem L2 Evl Dg LamR LamX TL
open Dr (StAt SameB)
/-! Data that stands in the written form -/
mutual
/-- no dict in it -/
def noK : PyData → Bool
  | .list ds => noKs ds
  | .dict _ => false
  | .tuple ds => noKs ds
  | _ => true
def noKs : List PyData → Bool
  | [] => true
  | d :: ds => noK d && noKs ds
end
mutual
theorem noL_K : ∀ {d : PyData}, noL d = true → noK d = true
  | .none, _ => rfl
  | .bool _, _ => rfl
  | .int _, _ => rfl
  | .str _, _ => rfl
  | .tuple ds, h => by
    rw [noK]
    exact noLs_K (by rw [noL] at h; exact h)
  | .list _, h => by rw [noL] at h; cases h
  | .dict _, h => by rw [noL] at h; cases h
theorem noLs_K : ∀ {ds : List PyData}, noLs ds = true → noKs ds = true
  | [], _ => rfl
  | d :: ds, h => by
    rw [noLs, Bool.and_eq_true] at h
    rw [noKs, noL_K h.1, noLs_K h.2]
    rfl
end
mutual
theorem Pt.dp {K : PySem.W.Frag} {H : Hp} : ∀ {v : V} {d : PyData}, Pt H v d → noK d = true → Dp K H v d
  | _, .none, h, _ => by cases h; exact .non
  | _, .bool _, h, _ => by cases h; exact .bl _
  | _, .int _, h, _ => by cases h; exact .int _
  | _, .str _, h, _ => by cases h with | str _ _ => exact .str _
  | _, .tuple ds, h, k => by
    cases h with
    | tup hs ha => exact .tup (st_of hs) (PtAll.dp ha (by rw [noK] at k; exact k))
  | _, .list ds, h, k => by
    cases h with
    | lst hs ha => exact .lst (sq_of hs) (PtAll.dp ha (by rw [noK] at k; exact k))
  | _, .dict _, _, k => by rw [noK] at k; cases k
theorem PtAll.dp {K : PySem.W.Frag} {H : Hp} : ∀ {vs : List V} {ds : List PyData}, PtAll H vs ds → noKs ds = true → DpAll K H vs ds
  | _, [], h, _ => by cases h; exact .nil
  | _, d :: ds, h, k => by
    cases h with
    | cons h1 h2 =>
      rw [noKs, Bool.and_eq_true] at k
      exact .cons (Pt.dp h1 k.1) (PtAll.dp h2 k.2)
end
theorem PtAll.drop {H : Hp} : ∀ {vs : List V} {ds : List PyData}, PtAll H vs ds → ∀ n : Nat, PtAll H (vs.drop n) (ds.drop n)
  | _, [], h, n => by
    cases h
    rw [List.drop_nil, List.drop_nil]
    exact .nil
  | _, d :: ds, h, n => by
    cases h with
    | cons h1 h2 =>
      cases n with
      | zero => exact .cons h1 h2
      | succ n => exact PtAll.drop h2 n
def cutD (ds : List PyData) (lo hi : Option Int) : List PyData := (ds.drop (HT.sIx ds.length 0 lo)).take (HT.sIx ds.length ds.length hi - HT.sIx ds.length 0 lo)
theorem mem_cut {ds : List PyData} {lo hi : Option Int} {d : PyData} (h : d ∈ cutD ds lo hi) : d ∈ ds := List.mem_of_mem_drop (List.mem_of_mem_take h)
theorem len_cut (ds : List PyData) (lo hi : Option Int) : (cutD ds lo hi).length ≤ ds.length := by
  unfold cutD
  rw [List.length_take, List.length_drop]
  omega
theorem cut_whole {ds : List PyData} {lo hi : Option Int} (h : HT.sIx ds.length 0 lo = 0 ∧ HT.sIx ds.length ds.length hi = ds.length) : cutD ds lo hi = ds := by
  unfold cutD
  rw [h.1, h.2, List.drop_zero, Nat.sub_zero, List.take_length]
theorem PtAll.cut {H : Hp} {vs : List V} {ds : List PyData} (h : PtAll H vs ds) (lo hi : Option Int) : PtAll H (cutV vs lo hi) (cutD ds lo hi) := by
  unfold cutV cutD
  rw [h.length]
  exact (h.drop _).take _
section
variable {K : PySem.W.Frag} {H : Hp} {Q : VK}
theorem rd_sl {a : Addr} {xs : List V} {Ds : List PyData} {lo hi : Option Int} (h : H a = some (.tup xs)) (ka : PtAll H xs Ds) (k : ∀ b H' ys, Ex H H' → H' b = some (.tup ys) → PtAll H' ys (cutD Ds lo hi) → Q (.ref b) H') : rSlA K (.ref a) lo hi H Q := by
  refine ⟨a, xs, rfl, st_of h, fun hw => ?_, fun hw p hp => ?_⟩
  · rw [ka.length] at hw
    exact k a H xs (Ex.refl H) h (by rw [cut_whole hw]; exact ka)
  · exact k p _ _ (Ex.new hp) upd_same ((ka.cut lo hi).ex (Ex.new hp))
theorem rd_cat {a b : Addr} {xs ys : List V} {Ds Es : List PyData} (ha : H a = some (.tup xs)) (hb : H b = some (.tup ys)) (ka : PtAll H xs Ds) (kb : PtAll H ys Es) (hl : Ds.length + Es.length ≤ 100000) (k : ∀ c H' zs, Ex H H' → H' c = some (.tup zs) → PtAll H' zs (Ds ++ Es) → Q (.ref c) H') : rCatA K (.ref a) (.ref b) H Q := by
  refine ⟨a, b, xs, ys, rfl, rfl, st_of ha, st_of hb, sz_of (by rw [ka.length, kb.length]; exact hl), fun hx => ?_, fun hx hy => ?_, fun hx hy p hp => ?_⟩
  · have : Ds = [] := by
      have := ka.length
      rw [hx] at this
      exact List.length_eq_zero_iff.mp this.symm
    subst this
    exact k b H ys (Ex.refl H) hb kb
  · have : Es = [] := by
      have := kb.length
      rw [hy] at this
      exact List.length_eq_zero_iff.mp this.symm
    subst this
    rw [List.append_nil] at k
    exact k a H xs (Ex.refl H) ha ka
  · exact k p _ _ (Ex.new hp) upd_same ((ka.app kb).ex (Ex.new hp))
end
/-! small: what is shown of a rule -/
structure Ts (d : PyData) (m n : Nat) : Prop where
  p : plainD d
  c : cap d ≤ m
  e : d.depth ≤ n
  l : d.canLay0 = true
theorem ts_int {i : Int} (h : i.natAbs < 2 ^ 64) : Ts (.int i) 1921 0 := ⟨by
  show i.natAbs.log2 < 1920
  by_cases hz : i.natAbs = 0
  · rw [hz]; decide
  · exact Nat.lt_of_lt_of_le ((Nat.log2_lt hz).mpr h) (by decide), by simp [cap], by simp [PyData.depth], rfl⟩
theorem figs1 : ∀ c < 10, (PyData.str ⟨#[48 + c]⟩).canLay0 = true := by decide +kernel
theorem figs2 : ∀ c < 10, ∀ d < 10, (PyData.str ⟨#[48 + c, 48 + d]⟩).canLay0 = true := by decide +kernel
theorem figs_cases {β : Nat} {x : Str} (b10 : β ≤ 10) (h : isFigs β 2 x = true) : (∃ c, c < 10 ∧ x = ⟨#[48 + c]⟩) ∨ ∃ c d, c < 10 ∧ d < 10 ∧ x = ⟨#[48 + c, 48 + d]⟩ := by
  unfold isFigs at h
  rw [Bool.and_eq_true, Bool.and_eq_true] at h
  obtain ⟨⟨h1, h2⟩, h3⟩ := h
  have h1 := of_decide_eq_true h1
  have h2 := of_decide_eq_true h2
  obtain ⟨⟨l⟩⟩ := x
  have hl : (Str.length ⟨⟨l⟩⟩) = l.length := rfl
  rw [hl] at h1 h2
  have h3 : l.all (fun c => decide (48 ≤ c ∧ c < 48 + β)) = true := h3
  match l, h1, h2, h3 with
  | [a], _, _, h3 =>
    simp only [List.all_cons, List.all_nil, Bool.and_true, decide_eq_true_eq] at h3
    exact .inl ⟨a - 48, by omega, by rw [show 48 + (a - 48) = a by omega]⟩
  | [a, b], _, _, h3 =>
    simp only [List.all_cons, List.all_nil, Bool.and_true, Bool.and_eq_true, decide_eq_true_eq] at h3
    exact .inr ⟨a - 48, b - 48, by omega, by omega, by rw [show 48 + (a - 48) = a by omega, show 48 + (b - 48) = b by omega]⟩
theorem ts_figs {β : Nat} {x : Str} (b10 : β ≤ 10) (h : isFigs β 2 x = true) : Ts (.str x) 22 0 := by
  rcases figs_cases b10 h with ⟨c, hc, rfl⟩ | ⟨c, d, hc, hd, rfl⟩
  · exact ⟨fun e he => by
      have : e = 48 + c := by simpa using he
      rw [this]
      exact Nat.lt_of_lt_of_le (show 48 + c < 58 by omega) (by decide), by simp [cap, Str.length], by simp [PyData.depth], figs1 c hc⟩
  · exact ⟨fun e he => by
      have : e = 48 + c ∨ e = 48 + d := by simpa using he
      rcases this with rfl | rfl
      · exact Nat.lt_of_lt_of_le (show 48 + c < 58 by omega) (by decide)
      · exact Nat.lt_of_lt_of_le (show 48 + d < 58 by omega) (by decide), by simp [cap, Str.length], by simp [PyData.depth], figs2 c hc d hd⟩
theorem ts_word {w : Str} (h : w = "ends" ∨ w = "near" ∨ w = "length" ∨ w = "changed" ∨ w = "all" ∨ w = "last") : Ts (.str w) 72 0 := by
  have one : ∀ {w : Str}, (∀ c ∈ w.cps.toList, c < 16 ^ 8) → w.length ≤ 7 → (PyData.str w).canLay0 = true → Ts (.str w) 72 0 := fun h1 h2 h3 => ⟨h1, by simp only [cap]; omega, by simp [PyData.depth], h3⟩
  rcases h with rfl | rfl | rfl | rfl | rfl | rfl <;> exact one (by decide) (by decide) (by decide +kernel)
theorem ts_non : Ts .none 4 0 := ⟨trivial, by simp [cap], by simp [PyData.depth], rfl⟩
theorem Ts.up {d : PyData} {m m' n n' : Nat} (t : Ts d m n) (h : m ≤ m') (k : n ≤ n') : Ts d m' n' := ⟨t.p, Nat.le_trans t.c h, Nat.le_trans t.e k, t.l⟩
inductive TsAll (m n : Nat) : List PyData → Prop
  | nil : TsAll m n []
  | cons {d : PyData} {ds : List PyData} : Ts d m n → TsAll m n ds → TsAll m n (d :: ds)
theorem TsAll.tup {m n : Nat} {ds : List PyData} (h : TsAll m n ds) : Ts (.tuple ds) (ds.length * (m + 2) + 4) (n + 1) := by
  have key : plainAll ds ∧ capAll ds ≤ ds.length * (m + 2) ∧ PyData.depthAll ds ≤ n ∧ PyData.canLayAll0 ds = true := by
    induction h with
    | nil => exact ⟨trivial, Nat.zero_le _, Nat.zero_le _, rfl⟩
    | cons h t ih =>
      obtain ⟨a, b, c, d⟩ := ih
      refine ⟨⟨h.p, a⟩, ?_, ?_, ?_⟩
      · have := h.c
        simp only [capAll, List.length_cons, Nat.add_mul]
        omega
      · have := h.e
        simp only [PyData.depthAll]
        omega
      · simp only [PyData.canLayAll0, h.l, d, Bool.and_self]
  obtain ⟨a, b, c, d⟩ := key
  exact ⟨a, by simp only [cap]; omega, by simp only [PyData.depth]; omega, by simpa only [PyData.canLay0] using d⟩
theorem tsAll_of {m n : Nat} : ∀ {ds : List PyData}, (∀ d ∈ ds, Ts d m n) → TsAll m n ds
  | [], _ => .nil
  | d :: ds, h => .cons (h d List.mem_cons_self) (tsAll_of fun e he => h e (List.mem_cons_of_mem _ he))
theorem ts_cond {β : Nat} {d : PyData} (b10 : β ≤ 10) (h : CondS β d) : Ts d 6000 1 := by
  cases h with
  | ends x hx => exact (TsAll.tup (m := 1921) (n := 0) (.cons ((ts_word (.inl rfl)).up (by decide) (by decide)) (.cons ((ts_figs b10 hx).up (by decide) (by decide)) .nil))).up (by simp) (by decide)
  | near i h0 h6 => exact (TsAll.tup (m := 1921) (n := 0) (.cons ((ts_word (.inr (.inl rfl))).up (by decide) (by decide)) (.cons (ts_int (by omega)) .nil))).up (by simp) (by decide)
  | len w hw i h1 h6 e he =>
    have tw : Ts (.str w) 72 0 := ts_word (by rcases hw with rfl | rfl <;> simp)
    have te : Ts e 1921 0 := by
      rcases he with rfl | ⟨j, rfl, _, _⟩
      · exact ts_non.up (by decide) (by decide)
      · exact ts_int (by omega)
    exact (TsAll.tup (m := 1921) (n := 0) (.cons (tw.up (by decide) (by decide)) (.cons (ts_int (by omega)) (.cons te .nil)))).up (by simp) (by decide)
theorem ts_keep {d : PyData} (h : KeepS d) : Ts d 6000 1 := by
  cases h with
  | all => exact (TsAll.tup (m := 1921) (n := 0) (.cons ((ts_word (by simp)).up (by decide) (by decide)) .nil)).up (by decide) (by decide)
  | size w hw i h1 h6 =>
    have tw : Ts (.str w) 72 0 := ts_word (by rcases hw with rfl | rfl <;> simp)
    exact (TsAll.tup (m := 1921) (n := 0) (.cons (tw.up (by decide) (by decide)) (.cons (ts_int (by omega)) .nil))).up (by simp) (by decide)
theorem ts_conds {β : Nat} {cs : List PyData} (b10 : β ≤ 10) (h3 : cs.length ≤ 3) (h : ∀ c ∈ cs, CondS β c) : Ts (.tuple cs) 20000 2 := (TsAll.tup (m := 6000) (n := 1) (tsAll_of fun c hc => ts_cond b10 (h c hc))).up (by omega) (by decide)
theorem ts_rule {β : Nat} {d : PyData} (b10 : β ≤ 10) (h : ruleB β d = true) : Ts d 50000 3 := by
  obtain ⟨cs, k, rfl, h3, hc, hk⟩ := rule_inv h
  exact (TsAll.tup (m := 20000) (n := 2) (.cons (ts_conds b10 h3 hc) (.cons ((ts_keep hk).up (by decide) (by decide)) .nil))).up (by simp) (by decide)
theorem ts_rules {β : Nat} {ds : List PyData} (b10 : β ≤ 10) (h : ds.all (ruleB β) = true) (hl : ds.length ≤ 20) : Ts (.tuple ds) 1100000 4 :=
  (TsAll.tup (m := 50000) (n := 3) (tsAll_of fun d hd => ts_rule b10 (List.all_eq_true.mp h d hd))).up (by omega) (by decide)
theorem Ts.shaped {d : PyData} {m n : Nat} (t : Ts d m n) (h : n ≤ 60) : SeqAt.shaped d = true := Bool.and_eq_true_iff.mpr ⟨t.l, decide_eq_true (by have := t.e; omega)⟩
theorem eqv_none (cs : List PyData) : PyData.eqv (.tuple cs) (.tuple []) = decide (cs = []) := by
  cases cs with
  | nil => simp [PyData.eqv, PyData.eqvAll]
  | cons n ns => simp [PyData.eqv, PyData.eqvAll]
end Dt

namespace Told
open PySem L2 Evl LamR LamX
abbrev stR : Stmt := PySem.Challenge.pw_shortspans_k08_tails_by_hand.main.body.getD 68 (.Pass ⟨0, 0, 0, 0⟩)
def wdN : Nat → Str
  | 1 => "base"
  | 2 => "number"
  | 3 => "digits"
  | 4 => "range"
  | 5 => "rule"
  | 6 => "reader"
  | 7 => "manner"
  | 8 => "entry"
  | 9 => "name"
  | 10 => "text"
  | 11 => "other"
  | 12 => "many"
  | 13 => "missing"
  | _ => "nothing"
def fdN : Nat → Str
  | 5 => "place"
  | 8 => "place"
  | 12 => "most"
  | 13 => "name"
  | _ => "value"
/-- an exception of the class with number n, with its dict; what is told of it behind its word -/
def Says (ca : Nat → Addr) (H : Hp) (cls : Value) (d : Option Addr) (n : Nat) (vs : List V) : Prop :=
  cls = .ref (ca n) ∧ 1 ≤ n ∧ n ≤ 14 ∧ (((n = 11 ∨ n = 14) ∧ d = none ∧ vs = []) ∨ (n = 10 ∧ ∃ dd a b, d = some dd ∧ H dd = some (.xd [("word", b), ("line", a)]) ∧ vs = [a, b]) ∨
    (n ≠ 10 ∧ n ≠ 11 ∧ n ≠ 14 ∧ ∃ dd v, d = some dd ∧ H dd = some (.xd [(fdN n, v)]) ∧ vs = [v]))
/-- what _law_raised makes of a lambda's reading; fl: its own list, ahead of the call -/
def TTold (ca : Nat → Addr) : (XK → Hp → VK → Prop) → Hp → VK → Prop := fun tl H Q => ∀ fl, H fl = none →
  tl (fun cls d H' => H' fl = some (.lst []) ∧ ∃ n vs, Says ca H' cls d n vs ∧ ∀ rt H2, H' rt = none → (∀ b o, H' b = some o → b ≠ fl → H2 b = some o) → H2 rt = some (.tup (.str (wdN n) :: vs)) → Q (.ref rt) H2)
    (upd H fl (.lst [])) (fun v H' => H' fl = some (.lst []) ∧ ∀ rt H2, H' rt = none → Ex H' H2 → H2 rt = some (.tup []) → Q (.ref rt) H2)
structure TxT (mg : Str → Option Value) (ca : Nat → Addr) : Prop where
  own : ∀ i, i < 15 → mg (Toy.nmN i) = some (.ref (ca i))
  isi : mg "isinstance" = none
  len : mg "len" = none
/-- what the classes' rows say -/
structure RwT (K : PySem.W.Frag) (ca : Nat → Addr) : Prop where
  xc : ∀ i, 1 ≤ i → i ≤ 14 → XcC K (ca i)
  kit : ∀ n i, 1 ≤ n → n ≤ 14 → 1 ≤ i → i ≤ 14 → PySem.W.kitOne K (.ref (ca n)) (.ref (ca i)) = some (decide (i = n))
  exm : ∀ n, 1 ≤ n → n ≤ 14 → PySem.W.exmAny K (.ref (ca n)) [.ref (ca 0), .ref (ca 12), .ref (ca 13), .ref (ca 14)] = some true
  no : ∀ i, 1 ≤ i → i ≤ 14 → i ≠ 10 → i ≠ 11 → i ≠ 14 → PySem.W.findIn K (.ref (ca i)) (fdN i) = some none
  line : PySem.W.findIn K (.ref (ca 10)) "line" = some none
  word : PySem.W.findIn K (.ref (ca 10)) "word" = some none
theorem scR : FnScope ["asked", "caught", "found", "e"] ["asked"] (defScope stR) := ⟨rfl, rfl, rfl, by decide +kernel, rfl, by decide +kernel, by decide +kernel⟩
/-- behind the first i of the fourteen questions -/
def Mid (f a fl : Addr) (H3 : Hp) (n : Nat) (vs : List V) (i : Nat) : St → Hp → Prop := fun σ H2 => σ = [some (.ref f), some (.ref a), some (.ref fl), none] ∧ (∀ b o, H3 b = some o → b ≠ fl → H2 b = some o) ∧
  ((i < n ∧ H2 fl = some (.lst [])) ∨ (n ≤ i ∧ ∃ rt, H3 rt = none ∧ H2 fl = some (.lst [.ref rt]) ∧ H2 rt = some (.tup (.str (wdN n) :: vs))))
theorem mid_step {K : PySem.W.Frag} {ca : Nat → Addr} {f a fl : Addr} {H3 H2 : Hp} {n i : Nat} {vs : List V} {d : Option Addr} {te : TE} {D : Ends} {σ : St} (R : RwT K ca) (n1 : 1 ≤ n) (n14 : n ≤ 14) (i1 : 1 ≤ i) (i14 : i ≤ 14) (x : Toy.ExAt H3 a (ca n) d) (afl : a ≠ fl)
    (dfl : ∀ dd, d = some dd → dd ≠ fl) (hte : i = n → ∀ H2 : Hp, (∀ b o, H3 b = some o → b ≠ fl → H2 b = some o) → EvU te [some (.ref f), some (.ref a), some (.ref fl), none] H2 (.str (wdN n) :: vs)) (m : Mid f a fl H3 n vs (i - 1) σ H2) :
    tIfS (tB (tCB (rIsX K) (tCons (tVar 1) (tCons (tC (.ref (ca i))) tNil)))) (tDrop (tBM K "list" rAppend (tVar 2) (tCons te tNil))) tNext { D with nx := Mid f a fl H3 n vs i } σ H2 := by
  obtain ⟨rfl, kp, alt⟩ := m
  refine s_when (b := decide (i = n)) (et_B (ev_cb (ea_cons (ev_var rfl) (ea_cons ev_c ea_nil)) fun H4 e4 Q q => ⟨a, ca n, d, .ref (ca i), _, _, rfl, .own _, e4 _ _ (kp _ _ x.1 afl), fun dx z => ?_, R.xc n n1 n14, R.kit n i n1 n14 i1 i14, q _ (Ex.refl _)⟩)) (fun z H4 e4 => ?_) (fun z H4 e4 => ?_)
  · obtain ⟨fs, h⟩ := x.2 dx z
    exact ⟨fs, e4 _ _ (kp _ _ h (dfl dx z))⟩
  · have hin := of_decide_eq_true z
    rcases alt with ⟨_, hf⟩ | ⟨z2, _⟩
    · refine s_appU (e4 _ _ hf) (ev_var rfl) (hte hin H4 fun b o e nb => e4 _ _ (kp b o e nb)) (by simp) fun p H5 hp e5 h5 => ?_
      have pf : p ≠ fl := fun z => by
        rw [z, e4 _ _ hf] at hp
        cases hp
      refine ⟨rfl, fun b o e nb => ?_, .inr ⟨by omega, p, ?_, upd_same, ?_⟩⟩
      · rw [upd_ne nb]
        exact e5 _ _ (e4 _ _ (kp b o e nb))
      · cases q : H3 p with
        | none => rfl
        | some o =>
          have := e4 _ _ (kp p o q pf)
          rw [this] at hp
          cases hp
      · rw [upd_ne pf]
        exact h5
    · omega
  · have hin : ¬ i = n := of_decide_eq_false z
    refine ⟨rfl, fun b o e nb => e4 _ _ (kp b o e nb), ?_⟩
    rcases alt with ⟨z2, hf⟩ | ⟨z2, rt, h1, h2, h3⟩
    · exact .inl ⟨by omega, e4 _ _ hf⟩
    · exact .inr ⟨by omega, rt, h1, e4 _ _ h2, e4 _ _ h3⟩
section
variable {X : Cx} {q : Str} {g : Addr} {cdg : Value} {ca : Nat → Addr}
theorem raised_gives (T : TxT X.mg ca) (R : RwT X.K ca) : GivesR X ["asked", "caught", "found", "e"] "_law_raised" (defScope stR) g cdg (defBody stR) "asked" q (TTold ca) := by
  intro f c' s H Q tl act hc h
  let X0 : Cx := (cxOf C8.CX0 X.prog X.w X.K X.mg X.base ["asked", "caught", "found", "e"] "_law_raised" (defScope stR) g cdg X.A X.stack s H C8.E0).nox
  refine ⟨_, (pss_cons (ps_par (i := 1) (j := 2) (by rfl) scR.nd rfl rfl (by decide) rfl rfl (pa_cons pe_non (pa_cons (pe_lst pa_nil) pa_nil)) (by rfl)) (pss_cons (ps_try_asT (X := X0) (i := 3) (tb := fun W D σ H => σ[0]? = some (some (V.ref f)) ∧ H c' = some (CodeO c' q) ∧ ∃ (E : XK) (Q' : VK), (∀ cls d H', E cls d H' → W cls d σ H') ∧ (∀ v H', Q' v H' → D.nx σ H') ∧ tl E H Q') rfl rfl scR.nd rfl rfl (.cons (by rfl) (T.own 0 (by decide)) (by decide) (.cons (by rfl) (T.own 12 (by decide)) (by decide) (.cons (by rfl) (T.own 13 (by decide)) (by decide) (.cons (by rfl) (T.own 14 (by decide)) (by decide) .nil)))) rfl L2.takes0 (fun W pn xe tk _ => ⟨fun pins s' σ H' D I h' => (pss_one (ps_expr (act W pn xe _ _ tk))).run pins s' σ H' D I (show tDrop (fun σZ HZ Q => σZ[0]? = some (some (V.ref f)) ∧ HZ c' = some (CodeO c' q) ∧ ∃ (E : XK) (Q' : VK), (∀ cls d H', E cls d H' → W cls d σZ H') ∧ (∀ v H', Q' v H' → Q v H') ∧ tl E HZ Q') D σ H' from h')⟩) (fun a oe cls d pn hz hf => pss_one (ps_set (i := 1) scR.nd rfl (.inl rfl) (pv 3)))) (pss_cons (ps_if (pt_cmpR op_isN (pv 1) pe_non (nomark _)) (pss_one (ps_ret (pe_tup pa_nil))) pss_nil) (pss_cut (ps_if (pt_val (pe_callB call_isX (by rfl) T.isi (by decide +kernel) (pa_cons (pv 1) (pa_cons (pe_glob (by rfl) (T.own 1 (by decide)) (v := .ref (ca 1)) rfl) pa_nil)))) (pss_one (ps_expr (pe_bm PySem.F.plainAttrs_list PySem.F.slot_list_append PySem.F.type_list_append mt_append (pv 2) (pa_cons (pe_tup (pa_cons pe_str (pa_cons (pe_xfT (pv 1)) pa_nil))) pa_nil)))) pss_nil) (pss_cut (ps_if (pt_val (pe_callB call_isX (by rfl) T.isi (by decide +kernel) (pa_cons (pv 1) (pa_cons (pe_glob (by rfl) (T.own 2 (by decide)) (v := .ref (ca 2)) rfl) pa_nil)))) (pss_one (ps_expr (pe_bm PySem.F.plainAttrs_list PySem.F.slot_list_append PySem.F.type_list_append mt_append (pv 2) (pa_cons (pe_tup (pa_cons pe_str (pa_cons (pe_xfT (pv 1)) pa_nil))) pa_nil)))) pss_nil) (pss_cut (ps_if (pt_val (pe_callB call_isX (by rfl) T.isi (by decide +kernel) (pa_cons (pv 1) (pa_cons (pe_glob (by rfl) (T.own 3 (by decide)) (v := .ref (ca 3)) rfl) pa_nil)))) (pss_one (ps_expr (pe_bm PySem.F.plainAttrs_list PySem.F.slot_list_append PySem.F.type_list_append mt_append (pv 2) (pa_cons (pe_tup (pa_cons pe_str (pa_cons (pe_xfT (pv 1)) pa_nil))) pa_nil)))) pss_nil) (pss_cut (ps_if (pt_val (pe_callB call_isX (by rfl) T.isi (by decide +kernel) (pa_cons (pv 1) (pa_cons (pe_glob (by rfl) (T.own 4 (by decide)) (v := .ref (ca 4)) rfl) pa_nil)))) (pss_one (ps_expr (pe_bm PySem.F.plainAttrs_list PySem.F.slot_list_append PySem.F.type_list_append mt_append (pv 2) (pa_cons (pe_tup (pa_cons pe_str (pa_cons (pe_xfT (pv 1)) pa_nil))) pa_nil)))) pss_nil) (pss_cut (ps_if (pt_val (pe_callB call_isX (by rfl) T.isi (by decide +kernel) (pa_cons (pv 1) (pa_cons (pe_glob (by rfl) (T.own 5 (by decide)) (v := .ref (ca 5)) rfl) pa_nil)))) (pss_one (ps_expr (pe_bm PySem.F.plainAttrs_list PySem.F.slot_list_append PySem.F.type_list_append mt_append (pv 2) (pa_cons (pe_tup (pa_cons pe_str (pa_cons (pe_xfT (pv 1)) pa_nil))) pa_nil)))) pss_nil) (pss_cut (ps_if (pt_val (pe_callB call_isX (by rfl) T.isi (by decide +kernel) (pa_cons (pv 1) (pa_cons (pe_glob (by rfl) (T.own 6 (by decide)) (v := .ref (ca 6)) rfl) pa_nil)))) (pss_one (ps_expr (pe_bm PySem.F.plainAttrs_list PySem.F.slot_list_append PySem.F.type_list_append mt_append (pv 2) (pa_cons (pe_tup (pa_cons pe_str (pa_cons (pe_xfT (pv 1)) pa_nil))) pa_nil)))) pss_nil) (pss_cut (ps_if (pt_val (pe_callB call_isX (by rfl) T.isi (by decide +kernel) (pa_cons (pv 1) (pa_cons (pe_glob (by rfl) (T.own 7 (by decide)) (v := .ref (ca 7)) rfl) pa_nil)))) (pss_one (ps_expr (pe_bm PySem.F.plainAttrs_list PySem.F.slot_list_append PySem.F.type_list_append mt_append (pv 2) (pa_cons (pe_tup (pa_cons pe_str (pa_cons (pe_xfT (pv 1)) pa_nil))) pa_nil)))) pss_nil) (pss_cut (ps_if (pt_val (pe_callB call_isX (by rfl) T.isi (by decide +kernel) (pa_cons (pv 1) (pa_cons (pe_glob (by rfl) (T.own 8 (by decide)) (v := .ref (ca 8)) rfl) pa_nil)))) (pss_one (ps_expr (pe_bm PySem.F.plainAttrs_list PySem.F.slot_list_append PySem.F.type_list_append mt_append (pv 2) (pa_cons (pe_tup (pa_cons pe_str (pa_cons (pe_xfT (pv 1)) pa_nil))) pa_nil)))) pss_nil) (pss_cut (ps_if (pt_val (pe_callB call_isX (by rfl) T.isi (by decide +kernel) (pa_cons (pv 1) (pa_cons (pe_glob (by rfl) (T.own 9 (by decide)) (v := .ref (ca 9)) rfl) pa_nil)))) (pss_one (ps_expr (pe_bm PySem.F.plainAttrs_list PySem.F.slot_list_append PySem.F.type_list_append mt_append (pv 2) (pa_cons (pe_tup (pa_cons pe_str (pa_cons (pe_xfT (pv 1)) pa_nil))) pa_nil)))) pss_nil) (pss_cut (ps_if (pt_val (pe_callB call_isX (by rfl) T.isi (by decide +kernel) (pa_cons (pv 1) (pa_cons (pe_glob (by rfl) (T.own 10 (by decide)) (v := .ref (ca 10)) rfl) pa_nil)))) (pss_one (ps_expr (pe_bm PySem.F.plainAttrs_list PySem.F.slot_list_append PySem.F.type_list_append mt_append (pv 2) (pa_cons (pe_tup (pa_cons pe_str (pa_cons (pe_xfT (pv 1)) (pa_cons (pe_xfT (pv 1)) pa_nil)))) pa_nil)))) pss_nil) (pss_cut (ps_if (pt_val (pe_callB call_isX (by rfl) T.isi (by decide +kernel) (pa_cons (pv 1) (pa_cons (pe_glob (by rfl) (T.own 11 (by decide)) (v := .ref (ca 11)) rfl) pa_nil)))) (pss_one (ps_expr (pe_bm PySem.F.plainAttrs_list PySem.F.slot_list_append PySem.F.type_list_append mt_append (pv 2) (pa_cons (pe_tup (pa_cons pe_str pa_nil)) pa_nil)))) pss_nil) (pss_cut (ps_if (pt_val (pe_callB call_isX (by rfl) T.isi (by decide +kernel) (pa_cons (pv 1) (pa_cons (pe_glob (by rfl) (T.own 12 (by decide)) (v := .ref (ca 12)) rfl) pa_nil)))) (pss_one (ps_expr (pe_bm PySem.F.plainAttrs_list PySem.F.slot_list_append PySem.F.type_list_append mt_append (pv 2) (pa_cons (pe_tup (pa_cons pe_str (pa_cons (pe_xfT (pv 1)) pa_nil))) pa_nil)))) pss_nil) (pss_cut (ps_if (pt_val (pe_callB call_isX (by rfl) T.isi (by decide +kernel) (pa_cons (pv 1) (pa_cons (pe_glob (by rfl) (T.own 13 (by decide)) (v := .ref (ca 13)) rfl) pa_nil)))) (pss_one (ps_expr (pe_bm PySem.F.plainAttrs_list PySem.F.slot_list_append PySem.F.type_list_append mt_append (pv 2) (pa_cons (pe_tup (pa_cons pe_str (pa_cons (pe_xfT (pv 1)) pa_nil))) pa_nil)))) pss_nil) (pss_cut (ps_if (pt_val (pe_callB call_isX (by rfl) T.isi (by decide +kernel) (pa_cons (pv 1) (pa_cons (pe_glob (by rfl) (T.own 14 (by decide)) (v := .ref (ca 14)) rfl) pa_nil)))) (pss_one (ps_expr (pe_bm PySem.F.plainAttrs_list PySem.F.slot_list_append PySem.F.type_list_append mt_append (pv 2) (pa_cons (pe_tup (pa_cons pe_str pa_nil)) pa_nil)))) pss_nil) (pss_one (ps_ret (pe_ifExp (pt_cmpR op_eq (pe_callB call_len_seq (by rfl) T.len (by decide +kernel) (pa_cons (pv 2) pa_nil)) pe_int (nomark _)) (pe_ix ix_list (pv 2) pe_int (fun _ _ => rfl)) (pe_tup (pa_cons pe_str (pa_cons (pe_callB call_len_seq (by rfl) T.len (by decide +kernel) (pa_cons (pv 2) pa_nil)) pa_nil))))))))))))))))))))))), ?_⟩
  have z0 : (0 : Nat) ≤ sizeLine := Nat.zero_le _
  refine ⟨z0, fun fl hfl => ⟨_, _, rfl, ?_⟩⟩
  refine ⟨rfl, (Ex.new hfl) _ _ hc, _, _, ?hW, ?hQ, h fl hfl⟩
  case hQ =>
    rintro v H' ⟨ex, k⟩
    refine ⟨_, rfl, rfl, _, rfl, ite2 (fun _ => ?_) (fun z => absurd rfl z)⟩
    exact ⟨z0, fun rt hrt => k rt _ hrt (Ex.new hrt) upd_same⟩
  case hW =>
    rintro cls d H' ⟨ex, n, vs, ⟨rfl, n1, n14, S⟩, k⟩
    refine ⟨true, R.exm n n1 n14, fun _ a ha => ?_, fun z => nomatch z⟩
    refine ⟨_, rfl, ?_⟩
    refine ⟨_, rfl, rfl, _, rfl, ite2 (fun z => absurd (of_decide_eq_true z) (fun z => nomatch z)) (fun _ => ?_)⟩
    have xH := Ex.new (o := exv a (.ref (ca n)) d) ha
    have hflH : H' fl = some (.lst []) := ex
    have afl : a ≠ fl := fun z => by
      rw [z, hflH] at ha
      cases ha
    have dfl : ∀ dd fs, H' dd = some (.xd fs) → dd ≠ fl := fun dd fs e z => by
      rw [z, hflH] at e
      cases e
    have XA : Toy.ExAt (upd H' a (exv a (.ref (ca n)) d)) a (ca n) d ∧ ∀ dd, d = some dd → dd ≠ fl := by
      rcases S with ⟨_, rfl, _⟩ | ⟨_, dd, va, vb, rfl, hd, _⟩ | ⟨_, _, _, dd, v, rfl, hd, _⟩
      · exact ⟨⟨upd_same, fun _ z => nomatch z⟩, fun _ z => nomatch z⟩
      · exact ⟨⟨upd_same, fun dx z => by cases z; exact ⟨_, xH _ _ hd⟩⟩, fun dx z => by cases z; exact dfl _ _ hd⟩
      · exact ⟨⟨upd_same, fun dx z => by cases z; exact ⟨_, xH _ _ hd⟩⟩, fun dx z => by cases z; exact dfl _ _ hd⟩
    obtain ⟨XA, dfl'⟩ := XA
    have m0 : Mid f a fl (upd H' a (exv a (.ref (ca n)) d)) n vs 0 [some (.ref f), some (.ref a), some (.ref fl), none] (upd H' a (exv a (.ref (ca n)) d)) := ⟨rfl, fun b o e _ => e, .inl ⟨n1, xH _ _ hflH⟩⟩
    generalize upd H' a (exv a (.ref (ca n)) d) = H3 at XA m0 xH ⊢
    have one : ∀ i, i = n → i ≠ 10 → i ≠ 11 → i ≠ 14 → ∀ H2 : Hp, (∀ b o, H3 b = some o → b ≠ fl → H2 b = some o) → EvU (tTup (tCons (tC (.str (wdN i))) (tCons (tXfT X.K (fdN i) (tVar 1)) tNil))) [some (.ref f), some (.ref a), some (.ref fl), none] H2 (.str (wdN n) :: vs) := by
      rintro i rfl z10 z11 z14 H2 kp
      rcases S with ⟨z | z, _⟩ | ⟨z, _⟩ | ⟨_, _, _, dd, v, rfl, hd, rfl⟩
      · exact absurd z z11
      · exact absurd z z14
      · exact absurd z z10
      · refine eu_tup (ea_cons ev_c (ea_cons ?_ ea_nil)) (by simp)
        exact Toy.ev_xf (ev_var rfl) (C := ca i) (d := dd) ⟨kp _ _ XA.1 afl, fun dx z => by cases z; exact ⟨_, kp _ _ (xH _ _ hd) (dfl _ _ hd)⟩⟩ (kp _ _ (xH _ _ hd) (dfl _ _ hd)) (R.xc i n1 n14) (R.no i n1 n14 z10 z11 z14) (by simp [List.lookup])
    have ten : 10 = n → ∀ H2 : Hp, (∀ b o, H3 b = some o → b ≠ fl → H2 b = some o) → EvU (tTup (tCons (tC (.str "text")) (tCons (tXfT X.K "line" (tVar 1)) (tCons (tXfT X.K "word" (tVar 1)) tNil)))) [some (.ref f), some (.ref a), some (.ref fl), none] H2 (.str (wdN n) :: vs) := by
      rintro rfl H2 kp
      rcases S with ⟨z | z, _⟩ | ⟨_, dd, va, vb, rfl, hd, rfl⟩ | ⟨z, _⟩
      · omega
      · omega
      · have xa : Toy.ExAt H2 a (ca 10) (some dd) := ⟨kp _ _ XA.1 afl, fun dx z => by cases z; exact ⟨_, kp _ _ (xH _ _ hd) (dfl _ _ hd)⟩⟩
        have hh := kp _ _ (xH _ _ hd) (dfl _ _ hd)
        exact eu_tup (ea_cons ev_c (ea_cons (Toy.ev_xf (ev_var rfl) xa hh (R.xc 10 n1 n14) R.line rfl) (ea_cons (Toy.ev_xf (ev_var rfl) xa hh (R.xc 10 n1 n14) R.word rfl) ea_nil))) (by simp)
      · exact absurd rfl z
    have none_ : ∀ i, i = n → (i = 11 ∨ i = 14) → ∀ H2 : Hp, (∀ b o, H3 b = some o → b ≠ fl → H2 b = some o) → EvU (tTup (tCons (tC (.str (wdN i))) tNil)) [some (.ref f), some (.ref a), some (.ref fl), none] H2 (.str (wdN n) :: vs) := by
      rintro i rfl zi H2 kp
      rcases S with ⟨_, _, rfl⟩ | ⟨z, _⟩ | ⟨_, z2, z3, _⟩
      · exact eu_tup (ea_cons ev_c ea_nil) (by simp)
      · omega
      · omega
    refine q_cut (mid_step (i := 1) R n1 n14 (by decide) (by decide) XA afl dfl' (fun z => one 1 z (by decide) (by decide) (by decide)) m0) (fun σ1 H1' m1 => ?_)
    refine q_cut (mid_step (i := 2) R n1 n14 (by decide) (by decide) XA afl dfl' (fun z => one 2 z (by decide) (by decide) (by decide)) m1) (fun σ2 H2' m2 => ?_)
    refine q_cut (mid_step (i := 3) R n1 n14 (by decide) (by decide) XA afl dfl' (fun z => one 3 z (by decide) (by decide) (by decide)) m2) (fun σ3 H3' m3 => ?_)
    refine q_cut (mid_step (i := 4) R n1 n14 (by decide) (by decide) XA afl dfl' (fun z => one 4 z (by decide) (by decide) (by decide)) m3) (fun σ4 H4' m4 => ?_)
    refine q_cut (mid_step (i := 5) R n1 n14 (by decide) (by decide) XA afl dfl' (fun z => one 5 z (by decide) (by decide) (by decide)) m4) (fun σ5 H5' m5 => ?_)
    refine q_cut (mid_step (i := 6) R n1 n14 (by decide) (by decide) XA afl dfl' (fun z => one 6 z (by decide) (by decide) (by decide)) m5) (fun σ6 H6' m6 => ?_)
    refine q_cut (mid_step (i := 7) R n1 n14 (by decide) (by decide) XA afl dfl' (fun z => one 7 z (by decide) (by decide) (by decide)) m6) (fun σ7 H7' m7 => ?_)
    refine q_cut (mid_step (i := 8) R n1 n14 (by decide) (by decide) XA afl dfl' (fun z => one 8 z (by decide) (by decide) (by decide)) m7) (fun σ8 H8' m8 => ?_)
    refine q_cut (mid_step (i := 9) R n1 n14 (by decide) (by decide) XA afl dfl' (fun z => one 9 z (by decide) (by decide) (by decide)) m8) (fun σ9 H9' m9 => ?_)
    refine q_cut (mid_step (i := 10) R n1 n14 (by decide) (by decide) XA afl dfl' (fun z => ten z) m9) (fun σ10 H10' m10 => ?_)
    refine q_cut (mid_step (i := 11) R n1 n14 (by decide) (by decide) XA afl dfl' (fun z => none_ 11 z (by decide)) m10) (fun σ11 H11' m11 => ?_)
    refine q_cut (mid_step (i := 12) R n1 n14 (by decide) (by decide) XA afl dfl' (fun z => one 12 z (by decide) (by decide) (by decide)) m11) (fun σ12 H12' m12 => ?_)
    refine q_cut (mid_step (i := 13) R n1 n14 (by decide) (by decide) XA afl dfl' (fun z => one 13 z (by decide) (by decide) (by decide)) m12) (fun σ13 H13' m13 => ?_)
    refine q_cut (mid_step (i := 14) R n1 n14 (by decide) (by decide) XA afl dfl' (fun z => none_ 14 z (by decide)) m13) (fun σ14 H14' m14 => ?_)
    obtain ⟨rfl, kp, alt⟩ := m14
    rcases alt with ⟨z, _⟩ | ⟨_, rt, h1, h2, h3⟩
    · omega
    · refine s_ret (v := .ref rt) (ev_if (b := true) (et_is (et_test (ev_op (ev_len (ev_var rfl) (sq_of h2)) ev_c (rv_eq rfl))) (decide_eq_true rfl)) (fun _ => ev_op (ev_var rfl) ev_c (rv_ixL (sq_of h2) (atI_nat (j := 0) rfl))) (fun z => nomatch z)) fun H6 e6 => ?_
      exact k rt H6 (fresh_back xH h1) (fun b o e nb => e6 _ _ (kp b o (xH b o e) nb)) (e6 _ _ h3)
end
end Told

/-! What lies at an address of the written part, told by the part itself. -/
namespace L2
open PySem PySem.Spec PyProof.Rows ExM
open PySem (cStatics)
open PySem.W (Frag findIn typeIn keepIn subIn nsIn codeIn ksFn ks_superIn excTail)
/-! what lies at an address of the written part -/
def oO (K : Frag) (a : Addr) : Obj := (K.lookup a).getD default
def fO (K : Frag) (a : Addr) : FuncData := match (oO K a).data with
  | .func fd => fd
  | _ => default
def cO (K : Frag) (a : Addr) : ClassData := match (oO K a).data with
  | .cls cd => cd
  | _ => default
def vO (K : Frag) (a : Addr) : Array Value := match (oO K a).data with
  | .fields vs => vs
  | _ => #[]
def sO (v : Option Value) : Str × Tok := match v with
  | some (.str x t) => (x, t)
  | _ => default
def slO (K : Frag) (a : Addr) (i : Nat) : Option Value := ((oO K a).slots[i]?).getD none
theorem cfs_mkO {K : Frag} {prog : Program} {C f cc cda : Addr} {qual : Str} {params : Arguments} {body : List Stmt} {scope : Scope} {bmB : List Value} {B newId initId : String}
    (lc : K.lookup C = some (excClassObj (cO K C).name (cO K C).qualname C (cO K C).ns (cO K C).bases (cO K C).mro.tail true (cO K C).slotNames (cO K C).subclasses (cO K C).abstract (cO K C).collection (oO K C).dict (slO K C 0) (slO K C 1) (slO K C 2) (slO K C 3) (slO K C 5) newId))
    (iC : findIn K (.ref C) "__init__" = some (some (.ref f)))
    (lf : K.lookup f = some ⟨(oO K f).cls, (oO K f).dict, .func (ksFn "__init__" qual params body scope .none (fO K f).kwdefaults (fO K f).doc (fO K f).pyModule (fO K f).annotations (.ref cda) (fO K f).closureTuple cc), (oO K f).slots⟩)
    (lcd : K.lookup cda = some ⟨(oO K cda).cls, (oO K cda).dict, .fields (vO K cda), (oO K cda).slots⟩) (lcc : K.lookup cc = some ⟨(oO K cc).cls, (oO K cc).dict, .cell (some (.ref C)), (oO K cc).slots⟩)
    (sa : findIn K (.ref C) "__setattr__" = some (some (.builtin "object.__setattr__"))) (tF : typeIn K (.ref f) = some (.type "function")) (kC : keepIn K (.ref C) = true) (exC : subIn K (.ref C) (.type "BaseException") = some true) (bC : subIn K (.ref C) (.type B) = some true)
    (tyC : typeIn K (.ref C) = some (.type "type")) (op : nsIn K cStatics "thirdparty.any" = some none) (cf : codeIn K (.ref cda) qual = true)
    (al : ks_superIn K C C "__init__" = some (some (.builtin initId))) (tl : excTail bmB (cO K C).mro.tail = true) (v2 : (vO K cda)[2]? = some (.str (sO (vO K cda)[2]?).1 (sO (vO K cda)[2]?).2)) (hf : ((prog.main.file : Str) == (sO (vO K cda)[2]?).1) = true) (top : (prog.main.scope.names.lookup ("super" : Str)).isSome = false) :
    Cfs K prog C f cc cda qual params body scope bmB B newId initId :=
  cfs_mk lc iC lf lcd lcc sa tF kC exC bC tyC op cf al tl v2 hf top
end L2
namespace L2
open PySem
/-- a def as the top has written it -/
def fdX (K : PySem.W.Frag) (name : Str) (st : Stmt) (f : Addr) : FuncData := PySem.W.fnOf name name (defArgs st) (defBody st) (defScope st) .none (fO K f).kwdefaults (fO K f).doc (fO K f).pyModule (fO K f).annotations (fO K f).code (fO K f).closureTuple
end L2

section
open PySem PySem.W PyProof.Rows
set_option maxRecDepth 100000
set_option maxHeartbeats 0
open_top hd08 for PySem.Challenge.rw_shortspans_k08_tails_by_hand
end
/-! k08: what the top has written, at its addresses. -/
namespace KH08
open PySem L2 Evl ExM Dg Dt
abbrev P08 : Program := PySem.Challenge.pw_shortspans_k08_tails_by_hand
noncomputable abbrev K08 : Params → PySem.W.Frag := hd08.heap_39
def ca08 : Nat → Addr
  | 0 => 31
  | 1 => 53
  | 2 => 74
  | 3 => 95
  | 4 => 116
  | 5 => 137
  | 6 => 158
  | 7 => 179
  | 8 => 200
  | 9 => 221
  | 10 => 242
  | 11 => 263
  | 12 => 284
  | 13 => 306
  | 14 => 328
  | _ => 0
section
variable (p : Params) {mg : Str → Option Value}
theorem cfs1 : Cfs (K08 p) P08 53 50 38 49 "BadBase.__init__" (defArgs (inClass (top 3) 0)) (defBody (inClass (top 3) 0)) (defScope (inClass (top 3) 0)) [.type "ValueError", .type "Exception", .type "BaseException", .type "object"] "ValueError" "ValueError.__new__" "ValueError.__init__" :=
  cfs_mkO (by kernel_rfl) (by kernel_rfl) (by kernel_rfl) (by kernel_rfl) (by kernel_rfl) (by kernel_rfl) (by kernel_rfl) (by kernel_rfl) (by kernel_rfl) (by kernel_rfl) (by kernel_rfl) (by kernel_rfl) (by kernel_rfl) (by kernel_rfl) (by kernel_rfl) (by kernel_rfl) (by kernel_rfl) (by kernel_rfl)
theorem mk1 : Mks P08 (K08 p) mg 53 ["value"] :=
  mks_one (cfs1 p) base_VE rfl rfl rfl ⟨rfl, by decide +kernel, by decide +kernel, rfl, rfl, ⟨_, rfl, rfl⟩, by decide +kernel⟩ (fun L cd => ⟨rfl, _, rfl⟩) (by kernel_rfl)
    (fun a v h x kV doc pm an cdv ct => match h with | .pos _ => by kernel_rfl | .kw1 => by kernel_rfl)
theorem cfs2 : Cfs (K08 p) P08 74 71 59 70 "BadNumber.__init__" (defArgs (inClass (top 4) 0)) (defBody (inClass (top 4) 0)) (defScope (inClass (top 4) 0)) [.type "ValueError", .type "Exception", .type "BaseException", .type "object"] "ValueError" "ValueError.__new__" "ValueError.__init__" :=
  cfs_mkO (by kernel_rfl) (by kernel_rfl) (by kernel_rfl) (by kernel_rfl) (by kernel_rfl) (by kernel_rfl) (by kernel_rfl) (by kernel_rfl) (by kernel_rfl) (by kernel_rfl) (by kernel_rfl) (by kernel_rfl) (by kernel_rfl) (by kernel_rfl) (by kernel_rfl) (by kernel_rfl) (by kernel_rfl) (by kernel_rfl)
theorem mk2 : Mks P08 (K08 p) mg 74 ["value"] :=
  mks_one (cfs2 p) base_VE rfl rfl rfl ⟨rfl, by decide +kernel, by decide +kernel, rfl, rfl, ⟨_, rfl, rfl⟩, by decide +kernel⟩ (fun L cd => ⟨rfl, _, rfl⟩) (by kernel_rfl)
    (fun a v h x kV doc pm an cdv ct => match h with | .pos _ => by kernel_rfl | .kw1 => by kernel_rfl)
theorem cfs3 : Cfs (K08 p) P08 95 92 80 91 "BadDigits.__init__" (defArgs (inClass (top 5) 0)) (defBody (inClass (top 5) 0)) (defScope (inClass (top 5) 0)) [.type "ValueError", .type "Exception", .type "BaseException", .type "object"] "ValueError" "ValueError.__new__" "ValueError.__init__" :=
  cfs_mkO (by kernel_rfl) (by kernel_rfl) (by kernel_rfl) (by kernel_rfl) (by kernel_rfl) (by kernel_rfl) (by kernel_rfl) (by kernel_rfl) (by kernel_rfl) (by kernel_rfl) (by kernel_rfl) (by kernel_rfl) (by kernel_rfl) (by kernel_rfl) (by kernel_rfl) (by kernel_rfl) (by kernel_rfl) (by kernel_rfl)
theorem mk3 : Mks P08 (K08 p) mg 95 ["value"] :=
  mks_one (cfs3 p) base_VE rfl rfl rfl ⟨rfl, by decide +kernel, by decide +kernel, rfl, rfl, ⟨_, rfl, rfl⟩, by decide +kernel⟩ (fun L cd => ⟨rfl, _, rfl⟩) (by kernel_rfl)
    (fun a v h x kV doc pm an cdv ct => match h with | .pos _ => by kernel_rfl | .kw1 => by kernel_rfl)
theorem cfs4 : Cfs (K08 p) P08 116 113 101 112 "BadRange.__init__" (defArgs (inClass (top 6) 0)) (defBody (inClass (top 6) 0)) (defScope (inClass (top 6) 0)) [.type "ValueError", .type "Exception", .type "BaseException", .type "object"] "ValueError" "ValueError.__new__" "ValueError.__init__" :=
  cfs_mkO (by kernel_rfl) (by kernel_rfl) (by kernel_rfl) (by kernel_rfl) (by kernel_rfl) (by kernel_rfl) (by kernel_rfl) (by kernel_rfl) (by kernel_rfl) (by kernel_rfl) (by kernel_rfl) (by kernel_rfl) (by kernel_rfl) (by kernel_rfl) (by kernel_rfl) (by kernel_rfl) (by kernel_rfl) (by kernel_rfl)
theorem mk4 : Mks P08 (K08 p) mg 116 ["value"] :=
  mks_one (cfs4 p) base_VE rfl rfl rfl ⟨rfl, by decide +kernel, by decide +kernel, rfl, rfl, ⟨_, rfl, rfl⟩, by decide +kernel⟩ (fun L cd => ⟨rfl, _, rfl⟩) (by kernel_rfl)
    (fun a v h x kV doc pm an cdv ct => match h with | .pos _ => by kernel_rfl | .kw1 => by kernel_rfl)
theorem cfs5 : Cfs (K08 p) P08 137 134 122 133 "BadRule.__init__" (defArgs (inClass (top 7) 0)) (defBody (inClass (top 7) 0)) (defScope (inClass (top 7) 0)) [.type "ValueError", .type "Exception", .type "BaseException", .type "object"] "ValueError" "ValueError.__new__" "ValueError.__init__" :=
  cfs_mkO (by kernel_rfl) (by kernel_rfl) (by kernel_rfl) (by kernel_rfl) (by kernel_rfl) (by kernel_rfl) (by kernel_rfl) (by kernel_rfl) (by kernel_rfl) (by kernel_rfl) (by kernel_rfl) (by kernel_rfl) (by kernel_rfl) (by kernel_rfl) (by kernel_rfl) (by kernel_rfl) (by kernel_rfl) (by kernel_rfl)
theorem mk5 : Mks P08 (K08 p) mg 137 ["place"] :=
  mks_one (cfs5 p) base_VE rfl rfl rfl ⟨rfl, by decide +kernel, by decide +kernel, rfl, rfl, ⟨_, rfl, rfl⟩, by decide +kernel⟩ (fun L cd => ⟨rfl, _, rfl⟩) (by kernel_rfl)
    (fun a v h x kV doc pm an cdv ct => match h with | .pos _ => by kernel_rfl | .kw1 => by kernel_rfl)
theorem cfs6 : Cfs (K08 p) P08 158 155 143 154 "BadReader.__init__" (defArgs (inClass (top 8) 0)) (defBody (inClass (top 8) 0)) (defScope (inClass (top 8) 0)) [.type "ValueError", .type "Exception", .type "BaseException", .type "object"] "ValueError" "ValueError.__new__" "ValueError.__init__" :=
  cfs_mkO (by kernel_rfl) (by kernel_rfl) (by kernel_rfl) (by kernel_rfl) (by kernel_rfl) (by kernel_rfl) (by kernel_rfl) (by kernel_rfl) (by kernel_rfl) (by kernel_rfl) (by kernel_rfl) (by kernel_rfl) (by kernel_rfl) (by kernel_rfl) (by kernel_rfl) (by kernel_rfl) (by kernel_rfl) (by kernel_rfl)
theorem mk6 : Mks P08 (K08 p) mg 158 ["value"] :=
  mks_one (cfs6 p) base_VE rfl rfl rfl ⟨rfl, by decide +kernel, by decide +kernel, rfl, rfl, ⟨_, rfl, rfl⟩, by decide +kernel⟩ (fun L cd => ⟨rfl, _, rfl⟩) (by kernel_rfl)
    (fun a v h x kV doc pm an cdv ct => match h with | .pos _ => by kernel_rfl | .kw1 => by kernel_rfl)
theorem cfs7 : Cfs (K08 p) P08 179 176 164 175 "BadManner.__init__" (defArgs (inClass (top 9) 0)) (defBody (inClass (top 9) 0)) (defScope (inClass (top 9) 0)) [.type "ValueError", .type "Exception", .type "BaseException", .type "object"] "ValueError" "ValueError.__new__" "ValueError.__init__" :=
  cfs_mkO (by kernel_rfl) (by kernel_rfl) (by kernel_rfl) (by kernel_rfl) (by kernel_rfl) (by kernel_rfl) (by kernel_rfl) (by kernel_rfl) (by kernel_rfl) (by kernel_rfl) (by kernel_rfl) (by kernel_rfl) (by kernel_rfl) (by kernel_rfl) (by kernel_rfl) (by kernel_rfl) (by kernel_rfl) (by kernel_rfl)
theorem mk7 : Mks P08 (K08 p) mg 179 ["value"] :=
  mks_one (cfs7 p) base_VE rfl rfl rfl ⟨rfl, by decide +kernel, by decide +kernel, rfl, rfl, ⟨_, rfl, rfl⟩, by decide +kernel⟩ (fun L cd => ⟨rfl, _, rfl⟩) (by kernel_rfl)
    (fun a v h x kV doc pm an cdv ct => match h with | .pos _ => by kernel_rfl | .kw1 => by kernel_rfl)
theorem cfs8 : Cfs (K08 p) P08 200 197 185 196 "BadEntry.__init__" (defArgs (inClass (top 10) 0)) (defBody (inClass (top 10) 0)) (defScope (inClass (top 10) 0)) [.type "ValueError", .type "Exception", .type "BaseException", .type "object"] "ValueError" "ValueError.__new__" "ValueError.__init__" :=
  cfs_mkO (by kernel_rfl) (by kernel_rfl) (by kernel_rfl) (by kernel_rfl) (by kernel_rfl) (by kernel_rfl) (by kernel_rfl) (by kernel_rfl) (by kernel_rfl) (by kernel_rfl) (by kernel_rfl) (by kernel_rfl) (by kernel_rfl) (by kernel_rfl) (by kernel_rfl) (by kernel_rfl) (by kernel_rfl) (by kernel_rfl)
theorem mk8 : Mks P08 (K08 p) mg 200 ["place"] :=
  mks_one (cfs8 p) base_VE rfl rfl rfl ⟨rfl, by decide +kernel, by decide +kernel, rfl, rfl, ⟨_, rfl, rfl⟩, by decide +kernel⟩ (fun L cd => ⟨rfl, _, rfl⟩) (by kernel_rfl)
    (fun a v h x kV doc pm an cdv ct => match h with | .pos _ => by kernel_rfl | .kw1 => by kernel_rfl)
theorem cfs9 : Cfs (K08 p) P08 221 218 206 217 "BadName.__init__" (defArgs (inClass (top 11) 0)) (defBody (inClass (top 11) 0)) (defScope (inClass (top 11) 0)) [.type "ValueError", .type "Exception", .type "BaseException", .type "object"] "ValueError" "ValueError.__new__" "ValueError.__init__" :=
  cfs_mkO (by kernel_rfl) (by kernel_rfl) (by kernel_rfl) (by kernel_rfl) (by kernel_rfl) (by kernel_rfl) (by kernel_rfl) (by kernel_rfl) (by kernel_rfl) (by kernel_rfl) (by kernel_rfl) (by kernel_rfl) (by kernel_rfl) (by kernel_rfl) (by kernel_rfl) (by kernel_rfl) (by kernel_rfl) (by kernel_rfl)
theorem mk9 : Mks P08 (K08 p) mg 221 ["value"] :=
  mks_one (cfs9 p) base_VE rfl rfl rfl ⟨rfl, by decide +kernel, by decide +kernel, rfl, rfl, ⟨_, rfl, rfl⟩, by decide +kernel⟩ (fun L cd => ⟨rfl, _, rfl⟩) (by kernel_rfl)
    (fun a v h x kV doc pm an cdv ct => match h with | .pos _ => by kernel_rfl | .kw1 => by kernel_rfl)
theorem cfs10 : Cfs (K08 p) P08 242 239 227 238 "BadText.__init__" (defArgs (inClass (top 12) 0)) (defBody (inClass (top 12) 0)) (defScope (inClass (top 12) 0)) [.type "ValueError", .type "Exception", .type "BaseException", .type "object"] "ValueError" "ValueError.__new__" "ValueError.__init__" :=
  cfs_mkO (by kernel_rfl) (by kernel_rfl) (by kernel_rfl) (by kernel_rfl) (by kernel_rfl) (by kernel_rfl) (by kernel_rfl) (by kernel_rfl) (by kernel_rfl) (by kernel_rfl) (by kernel_rfl) (by kernel_rfl) (by kernel_rfl) (by kernel_rfl) (by kernel_rfl) (by kernel_rfl) (by kernel_rfl) (by kernel_rfl)
theorem cfs11 : Cfs (K08 p) P08 263 260 248 259 "OtherBase.__init__" (defArgs (inClass (top 13) 0)) (defBody (inClass (top 13) 0)) (defScope (inClass (top 13) 0)) [.type "ValueError", .type "Exception", .type "BaseException", .type "object"] "ValueError" "ValueError.__new__" "ValueError.__init__" :=
  cfs_mkO (by kernel_rfl) (by kernel_rfl) (by kernel_rfl) (by kernel_rfl) (by kernel_rfl) (by kernel_rfl) (by kernel_rfl) (by kernel_rfl) (by kernel_rfl) (by kernel_rfl) (by kernel_rfl) (by kernel_rfl) (by kernel_rfl) (by kernel_rfl) (by kernel_rfl) (by kernel_rfl) (by kernel_rfl) (by kernel_rfl)
theorem cfs12 : Cfs (K08 p) P08 284 281 269 280 "TooMany.__init__" (defArgs (inClass (top 14) 0)) (defBody (inClass (top 14) 0)) (defScope (inClass (top 14) 0)) [.type "OverflowError", .type "ArithmeticError", .type "Exception", .type "BaseException", .type "object"] "OverflowError" "OverflowError.__new__" "OverflowError.__init__" :=
  cfs_mkO (by kernel_rfl) (by kernel_rfl) (by kernel_rfl) (by kernel_rfl) (by kernel_rfl) (by kernel_rfl) (by kernel_rfl) (by kernel_rfl) (by kernel_rfl) (by kernel_rfl) (by kernel_rfl) (by kernel_rfl) (by kernel_rfl) (by kernel_rfl) (by kernel_rfl) (by kernel_rfl) (by kernel_rfl) (by kernel_rfl)
theorem mk12 : Mks P08 (K08 p) mg 284 ["most"] :=
  mks_one (cfs12 p) base_OE rfl rfl rfl ⟨rfl, by decide +kernel, by decide +kernel, rfl, rfl, ⟨_, rfl, rfl⟩, by decide +kernel⟩ (fun L cd => ⟨rfl, _, rfl⟩) (by kernel_rfl)
    (fun a v h x kV doc pm an cdv ct => match h with | .pos _ => by kernel_rfl | .kw1 => by kernel_rfl)
theorem cfs13 : Cfs (K08 p) P08 306 303 291 302 "Missing.__init__" (defArgs (inClass (top 15) 0)) (defBody (inClass (top 15) 0)) (defScope (inClass (top 15) 0)) [.type "KeyError", .type "LookupError", .type "Exception", .type "BaseException", .type "object"] "KeyError" "LookupError.__new__" "KeyError.__init__" :=
  cfs_mkO (by kernel_rfl) (by kernel_rfl) (by kernel_rfl) (by kernel_rfl) (by kernel_rfl) (by kernel_rfl) (by kernel_rfl) (by kernel_rfl) (by kernel_rfl) (by kernel_rfl) (by kernel_rfl) (by kernel_rfl) (by kernel_rfl) (by kernel_rfl) (by kernel_rfl) (by kernel_rfl) (by kernel_rfl) (by kernel_rfl)
theorem mk13 : Mks P08 (K08 p) mg 306 ["name"] :=
  mks_one (cfs13 p) base_KE rfl rfl rfl ⟨rfl, by decide +kernel, by decide +kernel, rfl, rfl, ⟨_, rfl, rfl⟩, by decide +kernel⟩ (fun L cd => ⟨rfl, _, rfl⟩) (by kernel_rfl)
    (fun a v h x kV doc pm an cdv ct => match h with | .pos _ => by kernel_rfl | .kw1 => by kernel_rfl)
theorem cfs14 : Cfs (K08 p) P08 328 325 313 324 "NothingLeft.__init__" (defArgs (inClass (top 16) 0)) (defBody (inClass (top 16) 0)) (defScope (inClass (top 16) 0)) [.type "RuntimeError", .type "Exception", .type "BaseException", .type "object"] "RuntimeError" "RuntimeError.__new__" "RuntimeError.__init__" :=
  cfs_mkO (by kernel_rfl) (by kernel_rfl) (by kernel_rfl) (by kernel_rfl) (by kernel_rfl) (by kernel_rfl) (by kernel_rfl) (by kernel_rfl) (by kernel_rfl) (by kernel_rfl) (by kernel_rfl) (by kernel_rfl) (by kernel_rfl) (by kernel_rfl) (by kernel_rfl) (by kernel_rfl) (by kernel_rfl) (by kernel_rfl)
theorem rwT08 : Told.RwT (K08 p) ca08 where
  xc := fun i h1 h14 => by
    have c : i = 1 ∨ i = 2 ∨ i = 3 ∨ i = 4 ∨ i = 5 ∨ i = 6 ∨ i = 7 ∨ i = 8 ∨ i = 9 ∨ i = 10 ∨ i = 11 ∨ i = 12 ∨ i = 13 ∨ i = 14 := by omega
    rcases c with rfl | rfl | rfl | rfl | rfl | rfl | rfl | rfl | rfl | rfl | rfl | rfl | rfl | rfl
    · exact xcB_ok (show xcB (K08 p) 53 = true by kernel_rfl)
    · exact xcB_ok (show xcB (K08 p) 74 = true by kernel_rfl)
    · exact xcB_ok (show xcB (K08 p) 95 = true by kernel_rfl)
    · exact xcB_ok (show xcB (K08 p) 116 = true by kernel_rfl)
    · exact xcB_ok (show xcB (K08 p) 137 = true by kernel_rfl)
    · exact xcB_ok (show xcB (K08 p) 158 = true by kernel_rfl)
    · exact xcB_ok (show xcB (K08 p) 179 = true by kernel_rfl)
    · exact xcB_ok (show xcB (K08 p) 200 = true by kernel_rfl)
    · exact xcB_ok (show xcB (K08 p) 221 = true by kernel_rfl)
    · exact xcB_ok (show xcB (K08 p) 242 = true by kernel_rfl)
    · exact xcB_ok (show xcB (K08 p) 263 = true by kernel_rfl)
    · exact xcB_ok (show xcB (K08 p) 284 = true by kernel_rfl)
    · exact xcB_ok (show xcB (K08 p) 306 = true by kernel_rfl)
    · exact xcB_ok (show xcB (K08 p) 328 = true by kernel_rfl)
  kit := fun n i n1 n14 i1 i14 => by
    have h : ((List.range 14).all fun n => (List.range 14).all fun i => decide (PySem.W.kitOne (K08 p) (.ref (ca08 (n + 1))) (.ref (ca08 (i + 1))) = some (decide (i + 1 = n + 1)))) = true := by kernel_rfl
    have h1 := List.all_eq_true.mp h (n - 1) (List.mem_range.mpr (by omega))
    have h2 := of_decide_eq_true (List.all_eq_true.mp h1 (i - 1) (List.mem_range.mpr (by omega)))
    rw [show n - 1 + 1 = n by omega, show i - 1 + 1 = i by omega] at h2
    exact h2
  exm := fun n n1 n14 => by
    have h : ((List.range 14).all fun n => decide (PySem.W.exmAny (K08 p) (.ref (ca08 (n + 1))) [.ref (ca08 0), .ref (ca08 12), .ref (ca08 13), .ref (ca08 14)] = some true)) = true := by kernel_rfl
    have h2 := of_decide_eq_true (List.all_eq_true.mp h (n - 1) (List.mem_range.mpr (by omega)))
    rw [show n - 1 + 1 = n by omega] at h2
    exact h2
  no := fun i i1 i14 z10 z11 z14 => by
    have c : i = 1 ∨ i = 2 ∨ i = 3 ∨ i = 4 ∨ i = 5 ∨ i = 6 ∨ i = 7 ∨ i = 8 ∨ i = 9 ∨ i = 10 ∨ i = 11 ∨ i = 12 ∨ i = 13 ∨ i = 14 := by omega
    rcases c with rfl | rfl | rfl | rfl | rfl | rfl | rfl | rfl | rfl | rfl | rfl | rfl | rfl | rfl
    · exact (show PySem.W.findIn (K08 p) (.ref 53) "value" = some none by kernel_rfl)
    · exact (show PySem.W.findIn (K08 p) (.ref 74) "value" = some none by kernel_rfl)
    · exact (show PySem.W.findIn (K08 p) (.ref 95) "value" = some none by kernel_rfl)
    · exact (show PySem.W.findIn (K08 p) (.ref 116) "value" = some none by kernel_rfl)
    · exact (show PySem.W.findIn (K08 p) (.ref 137) "place" = some none by kernel_rfl)
    · exact (show PySem.W.findIn (K08 p) (.ref 158) "value" = some none by kernel_rfl)
    · exact (show PySem.W.findIn (K08 p) (.ref 179) "value" = some none by kernel_rfl)
    · exact (show PySem.W.findIn (K08 p) (.ref 200) "place" = some none by kernel_rfl)
    · exact (show PySem.W.findIn (K08 p) (.ref 221) "value" = some none by kernel_rfl)
    · exact absurd rfl z10
    · exact absurd rfl z11
    · exact (show PySem.W.findIn (K08 p) (.ref 284) "most" = some none by kernel_rfl)
    · exact (show PySem.W.findIn (K08 p) (.ref 306) "name" = some none by kernel_rfl)
    · exact absurd rfl z14
  line := (show PySem.W.findIn (K08 p) (.ref 242) "line" = some none by kernel_rfl)
  word := (show PySem.W.findIn (K08 p) (.ref 242) "word" = some none by kernel_rfl)
theorem kp_is_integer : PySem.W.keepIn (K08 p) (.ref 338) = true := by kernel_rfl
theorem fn_is_integer : Fun (K08 p) "is_integer" "is_integer" (top 21) 338 (fdX (K08 p) "is_integer" (top 21) 338) :=
  fun_mk (st := top 21) (show (K08 p).lookup 338 = some ⟨(oO (K08 p) 338).cls, (oO (K08 p) 338).dict, .func (fdX (K08 p) "is_integer" (top 21) 338), (oO (K08 p) 338).slots⟩ by kernel_rfl) (show PySem.W.codeIn (K08 p) (fO (K08 p) 338).code "is_integer" = true by kernel_rfl) (kp_is_integer p)
theorem bd_is_integer : Binds (K08 p) (fdX (K08 p) "is_integer" (top 21) 338) ["value"] [] := (fn_is_integer p).binds (ps := ["value"]) fun _ _ _ _ _ _ us hl => match us, hl with | [_], _ => rfl
theorem kp_is_number : PySem.W.keepIn (K08 p) (.ref 345) = true := by kernel_rfl
theorem fn_is_number : Fun (K08 p) "is_number" "is_number" (top 22) 345 (fdX (K08 p) "is_number" (top 22) 345) :=
  fun_mk (st := top 22) (show (K08 p).lookup 345 = some ⟨(oO (K08 p) 345).cls, (oO (K08 p) 345).dict, .func (fdX (K08 p) "is_number" (top 22) 345), (oO (K08 p) 345).slots⟩ by kernel_rfl) (show PySem.W.codeIn (K08 p) (fO (K08 p) 345).code "is_number" = true by kernel_rfl) (kp_is_number p)
theorem bd_is_number : Binds (K08 p) (fdX (K08 p) "is_number" (top 22) 345) ["value"] [] := (fn_is_number p).binds (ps := ["value"]) fun _ _ _ _ _ _ us hl => match us, hl with | [_], _ => rfl
theorem kp_is_figures : PySem.W.keepIn (K08 p) (.ref 350) = true := by kernel_rfl
theorem fn_is_figures : Fun (K08 p) "is_figures" "is_figures" (top 23) 350 (fdX (K08 p) "is_figures" (top 23) 350) :=
  fun_mk (st := top 23) (show (K08 p).lookup 350 = some ⟨(oO (K08 p) 350).cls, (oO (K08 p) 350).dict, .func (fdX (K08 p) "is_figures" (top 23) 350), (oO (K08 p) 350).slots⟩ by kernel_rfl) (show PySem.W.codeIn (K08 p) (fO (K08 p) 350).code "is_figures" = true by kernel_rfl) (kp_is_figures p)
theorem bd_is_figures : Binds (K08 p) (fdX (K08 p) "is_figures" (top 23) 350) ["base", "value", "most"] [] := (fn_is_figures p).binds (ps := ["base", "value", "most"]) fun _ _ _ _ _ _ us hl => match us, hl with | [_, _, _], _ => rfl
theorem kp_need_base : PySem.W.keepIn (K08 p) (.ref 357) = true := by kernel_rfl
theorem fn_need_base : Fun (K08 p) "need_base" "need_base" (top 24) 357 (fdX (K08 p) "need_base" (top 24) 357) :=
  fun_mk (st := top 24) (show (K08 p).lookup 357 = some ⟨(oO (K08 p) 357).cls, (oO (K08 p) 357).dict, .func (fdX (K08 p) "need_base" (top 24) 357), (oO (K08 p) 357).slots⟩ by kernel_rfl) (show PySem.W.codeIn (K08 p) (fO (K08 p) 357).code "need_base" = true by kernel_rfl) (kp_need_base p)
theorem bd_need_base : Binds (K08 p) (fdX (K08 p) "need_base" (top 24) 357) ["base"] [] := (fn_need_base p).binds (ps := ["base"]) fun _ _ _ _ _ _ us hl => match us, hl with | [_], _ => rfl
theorem kp_need_number : PySem.W.keepIn (K08 p) (.ref 364) = true := by kernel_rfl
theorem fn_need_number : Fun (K08 p) "need_number" "need_number" (top 25) 364 (fdX (K08 p) "need_number" (top 25) 364) :=
  fun_mk (st := top 25) (show (K08 p).lookup 364 = some ⟨(oO (K08 p) 364).cls, (oO (K08 p) 364).dict, .func (fdX (K08 p) "need_number" (top 25) 364), (oO (K08 p) 364).slots⟩ by kernel_rfl) (show PySem.W.codeIn (K08 p) (fO (K08 p) 364).code "need_number" = true by kernel_rfl) (kp_need_number p)
theorem bd_need_number : Binds (K08 p) (fdX (K08 p) "need_number" (top 25) 364) ["number"] [] := (fn_need_number p).binds (ps := ["number"]) fun _ _ _ _ _ _ us hl => match us, hl with | [_], _ => rfl
theorem kp_need_range : PySem.W.keepIn (K08 p) (.ref 371) = true := by kernel_rfl
theorem fn_need_range : Fun (K08 p) "need_range" "need_range" (top 26) 371 (fdX (K08 p) "need_range" (top 26) 371) :=
  fun_mk (st := top 26) (show (K08 p).lookup 371 = some ⟨(oO (K08 p) 371).cls, (oO (K08 p) 371).dict, .func (fdX (K08 p) "need_range" (top 26) 371), (oO (K08 p) 371).slots⟩ by kernel_rfl) (show PySem.W.codeIn (K08 p) (fO (K08 p) 371).code "need_range" = true by kernel_rfl) (kp_need_range p)
theorem bd_need_range : Binds (K08 p) (fdX (K08 p) "need_range" (top 26) 371) ["first", "second"] [] := (fn_need_range p).binds (ps := ["first", "second"]) fun _ _ _ _ _ _ us hl => match us, hl with | [_, _], _ => rfl
theorem kp_raised : PySem.W.keepIn (K08 p) (.ref 378) = true := by kernel_rfl
theorem fn_raised : Fun (K08 p) "raised" "raised" (top 27) 378 (fdX (K08 p) "raised" (top 27) 378) :=
  fun_mk (st := top 27) (show (K08 p).lookup 378 = some ⟨(oO (K08 p) 378).cls, (oO (K08 p) 378).dict, .func (fdX (K08 p) "raised" (top 27) 378), (oO (K08 p) 378).slots⟩ by kernel_rfl) (show PySem.W.codeIn (K08 p) (fO (K08 p) 378).code "raised" = true by kernel_rfl) (kp_raised p)
theorem bd_raised : Binds (K08 p) (fdX (K08 p) "raised" (top 27) 378) ["base", "exponent"] [] := (fn_raised p).binds (ps := ["base", "exponent"]) fun _ _ _ _ _ _ us hl => match us, hl with | [_, _], _ => rfl
theorem kp_behind : PySem.W.keepIn (K08 p) (.ref 385) = true := by kernel_rfl
theorem fn_behind : Fun (K08 p) "behind" "behind" (top 28) 385 (fdX (K08 p) "behind" (top 28) 385) :=
  fun_mk (st := top 28) (show (K08 p).lookup 385 = some ⟨(oO (K08 p) 385).cls, (oO (K08 p) 385).dict, .func (fdX (K08 p) "behind" (top 28) 385), (oO (K08 p) 385).slots⟩ by kernel_rfl) (show PySem.W.codeIn (K08 p) (fO (K08 p) 385).code "behind" = true by kernel_rfl) (kp_behind p)
theorem bd_behind : Binds (K08 p) (fdX (K08 p) "behind" (top 28) 385) ["number", "remainder", "step"] [] := (fn_behind p).binds (ps := ["number", "remainder", "step"]) fun _ _ _ _ _ _ us hl => match us, hl with | [_, _, _], _ => rfl
theorem kp_worth : PySem.W.keepIn (K08 p) (.ref 392) = true := by kernel_rfl
theorem fn_worth : Fun (K08 p) "worth" "worth" (top 29) 392 (fdX (K08 p) "worth" (top 29) 392) :=
  fun_mk (st := top 29) (show (K08 p).lookup 392 = some ⟨(oO (K08 p) 392).cls, (oO (K08 p) 392).dict, .func (fdX (K08 p) "worth" (top 29) 392), (oO (K08 p) 392).slots⟩ by kernel_rfl) (show PySem.W.codeIn (K08 p) (fO (K08 p) 392).code "worth" = true by kernel_rfl) (kp_worth p)
theorem bd_worth : Binds (K08 p) (fdX (K08 p) "worth" (top 29) 392) ["base", "figures"] [] := (fn_worth p).binds (ps := ["base", "figures"]) fun _ _ _ _ _ _ us hl => match us, hl with | [_, _], _ => rfl
theorem kp_digits : PySem.W.keepIn (K08 p) (.ref 399) = true := by kernel_rfl
theorem fn_digits : Fun (K08 p) "digits" "digits" (top 30) 399 (fdX (K08 p) "digits" (top 30) 399) :=
  fun_mk (st := top 30) (show (K08 p).lookup 399 = some ⟨(oO (K08 p) 399).cls, (oO (K08 p) 399).dict, .func (fdX (K08 p) "digits" (top 30) 399), (oO (K08 p) 399).slots⟩ by kernel_rfl) (show PySem.W.codeIn (K08 p) (fO (K08 p) 399).code "digits" = true by kernel_rfl) (kp_digits p)
theorem bd_digits : Binds (K08 p) (fdX (K08 p) "digits" (top 30) 399) ["base", "number"] [] := (fn_digits p).binds (ps := ["base", "number"]) fun _ _ _ _ _ _ us hl => match us, hl with | [_, _], _ => rfl
theorem kp_length : PySem.W.keepIn (K08 p) (.ref 406) = true := by kernel_rfl
theorem fn_length : Fun (K08 p) "length" "length" (top 31) 406 (fdX (K08 p) "length" (top 31) 406) :=
  fun_mk (st := top 31) (show (K08 p).lookup 406 = some ⟨(oO (K08 p) 406).cls, (oO (K08 p) 406).dict, .func (fdX (K08 p) "length" (top 31) 406), (oO (K08 p) 406).slots⟩ by kernel_rfl) (show PySem.W.codeIn (K08 p) (fO (K08 p) 406).code "length" = true by kernel_rfl) (kp_length p)
theorem bd_length : Binds (K08 p) (fdX (K08 p) "length" (top 31) 406) ["base", "number"] [] := (fn_length p).binds (ps := ["base", "number"]) fun _ _ _ _ _ _ us hl => match us, hl with | [_, _], _ => rfl
theorem kp_changed : PySem.W.keepIn (K08 p) (.ref 413) = true := by kernel_rfl
theorem fn_changed : Fun (K08 p) "changed" "changed" (top 32) 413 (fdX (K08 p) "changed" (top 32) 413) :=
  fun_mk (st := top 32) (show (K08 p).lookup 413 = some ⟨(oO (K08 p) 413).cls, (oO (K08 p) 413).dict, .func (fdX (K08 p) "changed" (top 32) 413), (oO (K08 p) 413).slots⟩ by kernel_rfl) (show PySem.W.codeIn (K08 p) (fO (K08 p) 413).code "changed" = true by kernel_rfl) (kp_changed p)
theorem bd_changed : Binds (K08 p) (fdX (K08 p) "changed" (top 32) 413) ["base", "first", "second"] [] := (fn_changed p).binds (ps := ["base", "first", "second"]) fun _ _ _ _ _ _ us hl => match us, hl with | [_, _, _], _ => rfl
theorem kp_near : PySem.W.keepIn (K08 p) (.ref 420) = true := by kernel_rfl
theorem fn_near : Fun (K08 p) "near" "near" (top 33) 420 (fdX (K08 p) "near" (top 33) 420) :=
  fun_mk (st := top 33) (show (K08 p).lookup 420 = some ⟨(oO (K08 p) 420).cls, (oO (K08 p) 420).dict, .func (fdX (K08 p) "near" (top 33) 420), (oO (K08 p) 420).slots⟩ by kernel_rfl) (show PySem.W.codeIn (K08 p) (fO (K08 p) 420).code "near" = true by kernel_rfl) (kp_near p)
theorem bd_near : Binds (K08 p) (fdX (K08 p) "near" (top 33) 420) ["base", "first", "second"] [] := (fn_near p).binds (ps := ["base", "first", "second"]) fun _ _ _ _ _ _ us hl => match us, hl with | [_, _, _], _ => rfl
theorem kp_is_size : PySem.W.keepIn (K08 p) (.ref 427) = true := by kernel_rfl
theorem fn_is_size : Fun (K08 p) "is_size" "is_size" (top 39) 427 (fdX (K08 p) "is_size" (top 39) 427) :=
  fun_mk (st := top 39) (show (K08 p).lookup 427 = some ⟨(oO (K08 p) 427).cls, (oO (K08 p) 427).dict, .func (fdX (K08 p) "is_size" (top 39) 427), (oO (K08 p) 427).slots⟩ by kernel_rfl) (show PySem.W.codeIn (K08 p) (fO (K08 p) 427).code "is_size" = true by kernel_rfl) (kp_is_size p)
theorem bd_is_size : Binds (K08 p) (fdX (K08 p) "is_size" (top 39) 427) ["value", "least"] [] := (fn_is_size p).binds (ps := ["value", "least"]) fun _ _ _ _ _ _ us hl => match us, hl with | [_, _], _ => rfl
theorem kp_are_bounds : PySem.W.keepIn (K08 p) (.ref 434) = true := by kernel_rfl
theorem fn_are_bounds : Fun (K08 p) "are_bounds" "are_bounds" (top 40) 434 (fdX (K08 p) "are_bounds" (top 40) 434) :=
  fun_mk (st := top 40) (show (K08 p).lookup 434 = some ⟨(oO (K08 p) 434).cls, (oO (K08 p) 434).dict, .func (fdX (K08 p) "are_bounds" (top 40) 434), (oO (K08 p) 434).slots⟩ by kernel_rfl) (show PySem.W.codeIn (K08 p) (fO (K08 p) 434).code "are_bounds" = true by kernel_rfl) (kp_are_bounds p)
theorem bd_are_bounds : Binds (K08 p) (fdX (K08 p) "are_bounds" (top 40) 434) ["least", "most"] [] := (fn_are_bounds p).binds (ps := ["least", "most"]) fun _ _ _ _ _ _ us hl => match us, hl with | [_, _], _ => rfl
theorem kp_begins : PySem.W.keepIn (K08 p) (.ref 441) = true := by kernel_rfl
theorem fn_begins : Fun (K08 p) "begins" "begins" (top 41) 441 (fdX (K08 p) "begins" (top 41) 441) :=
  fun_mk (st := top 41) (show (K08 p).lookup 441 = some ⟨(oO (K08 p) 441).cls, (oO (K08 p) 441).dict, .func (fdX (K08 p) "begins" (top 41) 441), (oO (K08 p) 441).slots⟩ by kernel_rfl) (show PySem.W.codeIn (K08 p) (fO (K08 p) 441).code "begins" = true by kernel_rfl) (kp_begins p)
theorem bd_begins : Binds (K08 p) (fdX (K08 p) "begins" (top 41) 441) ["value", "word", "many"] [] := (fn_begins p).binds (ps := ["value", "word", "many"]) fun _ _ _ _ _ _ us hl => match us, hl with | [_, _, _], _ => rfl
theorem kp_is_condition : PySem.W.keepIn (K08 p) (.ref 448) = true := by kernel_rfl
theorem fn_is_condition : Fun (K08 p) "is_condition" "is_condition" (top 42) 448 (fdX (K08 p) "is_condition" (top 42) 448) :=
  fun_mk (st := top 42) (show (K08 p).lookup 448 = some ⟨(oO (K08 p) 448).cls, (oO (K08 p) 448).dict, .func (fdX (K08 p) "is_condition" (top 42) 448), (oO (K08 p) 448).slots⟩ by kernel_rfl) (show PySem.W.codeIn (K08 p) (fO (K08 p) 448).code "is_condition" = true by kernel_rfl) (kp_is_condition p)
theorem bd_is_condition : Binds (K08 p) (fdX (K08 p) "is_condition" (top 42) 448) ["base", "value"] [] := (fn_is_condition p).binds (ps := ["base", "value"]) fun _ _ _ _ _ _ us hl => match us, hl with | [_, _], _ => rfl
theorem kp_is_keep : PySem.W.keepIn (K08 p) (.ref 455) = true := by kernel_rfl
theorem fn_is_keep : Fun (K08 p) "is_keep" "is_keep" (top 43) 455 (fdX (K08 p) "is_keep" (top 43) 455) :=
  fun_mk (st := top 43) (show (K08 p).lookup 455 = some ⟨(oO (K08 p) 455).cls, (oO (K08 p) 455).dict, .func (fdX (K08 p) "is_keep" (top 43) 455), (oO (K08 p) 455).slots⟩ by kernel_rfl) (show PySem.W.codeIn (K08 p) (fO (K08 p) 455).code "is_keep" = true by kernel_rfl) (kp_is_keep p)
theorem bd_is_keep : Binds (K08 p) (fdX (K08 p) "is_keep" (top 43) 455) ["value"] [] := (fn_is_keep p).binds (ps := ["value"]) fun _ _ _ _ _ _ us hl => match us, hl with | [_], _ => rfl
theorem kp_is_rule : PySem.W.keepIn (K08 p) (.ref 460) = true := by kernel_rfl
theorem fn_is_rule : Fun (K08 p) "is_rule" "is_rule" (top 44) 460 (fdX (K08 p) "is_rule" (top 44) 460) :=
  fun_mk (st := top 44) (show (K08 p).lookup 460 = some ⟨(oO (K08 p) 460).cls, (oO (K08 p) 460).dict, .func (fdX (K08 p) "is_rule" (top 44) 460), (oO (K08 p) 460).slots⟩ by kernel_rfl) (show PySem.W.codeIn (K08 p) (fO (K08 p) 460).code "is_rule" = true by kernel_rfl) (kp_is_rule p)
theorem bd_is_rule : Binds (K08 p) (fdX (K08 p) "is_rule" (top 44) 460) ["base", "value"] [] := (fn_is_rule p).binds (ps := ["base", "value"]) fun _ _ _ _ _ _ us hl => match us, hl with | [_, _], _ => rfl
theorem kp_need_rules : PySem.W.keepIn (K08 p) (.ref 467) = true := by kernel_rfl
theorem fn_need_rules : Fun (K08 p) "need_rules" "need_rules" (top 45) 467 (fdX (K08 p) "need_rules" (top 45) 467) :=
  fun_mk (st := top 45) (show (K08 p).lookup 467 = some ⟨(oO (K08 p) 467).cls, (oO (K08 p) 467).dict, .func (fdX (K08 p) "need_rules" (top 45) 467), (oO (K08 p) 467).slots⟩ by kernel_rfl) (show PySem.W.codeIn (K08 p) (fO (K08 p) 467).code "need_rules" = true by kernel_rfl) (kp_need_rules p)
theorem bd_need_rules : Binds (K08 p) (fdX (K08 p) "need_rules" (top 45) 467) ["base", "rules"] [] := (fn_need_rules p).binds (ps := ["base", "rules"]) fun _ _ _ _ _ _ us hl => match us, hl with | [_, _], _ => rfl
theorem kp_plain_rule : PySem.W.keepIn (K08 p) (.ref 479) = true := by kernel_rfl
theorem fn_plain_rule : Fun (K08 p) "plain_rule" "plain_rule" (top 47) 479 (fdX (K08 p) "plain_rule" (top 47) 479) :=
  fun_mk (st := top 47) (show (K08 p).lookup 479 = some ⟨(oO (K08 p) 479).cls, (oO (K08 p) 479).dict, .func (fdX (K08 p) "plain_rule" (top 47) 479), (oO (K08 p) 479).slots⟩ by kernel_rfl) (show PySem.W.codeIn (K08 p) (fO (K08 p) 479).code "plain_rule" = true by kernel_rfl) (kp_plain_rule p)
theorem bd_plain_rule : Binds (K08 p) (fdX (K08 p) "plain_rule" (top 47) 479) ["rule"] [] := (fn_plain_rule p).binds (ps := ["rule"]) fun _ _ _ _ _ _ us hl => match us, hl with | [_], _ => rfl
theorem kp_facts_of : PySem.W.keepIn (K08 p) (.ref 486) = true := by kernel_rfl
theorem fn_facts_of : Fun (K08 p) "facts_of" "facts_of" (top 48) 486 (fdX (K08 p) "facts_of" (top 48) 486) :=
  fun_mk (st := top 48) (show (K08 p).lookup 486 = some ⟨(oO (K08 p) 486).cls, (oO (K08 p) 486).dict, .func (fdX (K08 p) "facts_of" (top 48) 486), (oO (K08 p) 486).slots⟩ by kernel_rfl) (show PySem.W.codeIn (K08 p) (fO (K08 p) 486).code "facts_of" = true by kernel_rfl) (kp_facts_of p)
theorem bd_facts_of : Binds (K08 p) (fdX (K08 p) "facts_of" (top 48) 486) ["base", "first", "second"] [] := (fn_facts_of p).binds (ps := ["base", "first", "second"]) fun _ _ _ _ _ _ us hl => match us, hl with | [_, _, _], _ => rfl
theorem kp_holds : PySem.W.keepIn (K08 p) (.ref 493) = true := by kernel_rfl
theorem fn_holds : Fun (K08 p) "holds" "holds" (top 49) 493 (fdX (K08 p) "holds" (top 49) 493) :=
  fun_mk (st := top 49) (show (K08 p).lookup 493 = some ⟨(oO (K08 p) 493).cls, (oO (K08 p) 493).dict, .func (fdX (K08 p) "holds" (top 49) 493), (oO (K08 p) 493).slots⟩ by kernel_rfl) (show PySem.W.codeIn (K08 p) (fO (K08 p) 493).code "holds" = true by kernel_rfl) (kp_holds p)
theorem bd_holds : Binds (K08 p) (fdX (K08 p) "holds" (top 49) 493) ["condition", "facts"] [] := (fn_holds p).binds (ps := ["condition", "facts"]) fun _ _ _ _ _ _ us hl => match us, hl with | [_, _], _ => rfl
theorem kp_first_applying : PySem.W.keepIn (K08 p) (.ref 498) = true := by kernel_rfl
theorem fn_first_applying : Fun (K08 p) "first_applying" "first_applying" (top 50) 498 (fdX (K08 p) "first_applying" (top 50) 498) :=
  fun_mk (st := top 50) (show (K08 p).lookup 498 = some ⟨(oO (K08 p) 498).cls, (oO (K08 p) 498).dict, .func (fdX (K08 p) "first_applying" (top 50) 498), (oO (K08 p) 498).slots⟩ by kernel_rfl) (show PySem.W.codeIn (K08 p) (fO (K08 p) 498).code "first_applying" = true by kernel_rfl) (kp_first_applying p)
theorem bd_first_applying : Binds (K08 p) (fdX (K08 p) "first_applying" (top 50) 498) ["rules", "facts"] [] := (fn_first_applying p).binds (ps := ["rules", "facts"]) fun _ _ _ _ _ _ us hl => match us, hl with | [_, _], _ => rfl
theorem kp_many_kept : PySem.W.keepIn (K08 p) (.ref 505) = true := by kernel_rfl
theorem fn_many_kept : Fun (K08 p) "many_kept" "many_kept" (top 51) 505 (fdX (K08 p) "many_kept" (top 51) 505) :=
  fun_mk (st := top 51) (show (K08 p).lookup 505 = some ⟨(oO (K08 p) 505).cls, (oO (K08 p) 505).dict, .func (fdX (K08 p) "many_kept" (top 51) 505), (oO (K08 p) 505).slots⟩ by kernel_rfl) (show PySem.W.codeIn (K08 p) (fO (K08 p) 505).code "many_kept" = true by kernel_rfl) (kp_many_kept p)
theorem bd_many_kept : Binds (K08 p) (fdX (K08 p) "many_kept" (top 51) 505) ["keep", "facts"] [] := (fn_many_kept p).binds (ps := ["keep", "facts"]) fun _ _ _ _ _ _ us hl => match us, hl with | [_, _], _ => rfl
theorem kp_written : PySem.W.keepIn (K08 p) (.ref 512) = true := by kernel_rfl
theorem fn_written : Fun (K08 p) "written" "written" (top 52) 512 (fdX (K08 p) "written" (top 52) 512) :=
  fun_mk (st := top 52) (show (K08 p).lookup 512 = some ⟨(oO (K08 p) 512).cls, (oO (K08 p) 512).dict, .func (fdX (K08 p) "written" (top 52) 512), (oO (K08 p) 512).slots⟩ by kernel_rfl) (show PySem.W.codeIn (K08 p) (fO (K08 p) 512).code "written" = true by kernel_rfl) (kp_written p)
theorem bd_written : Binds (K08 p) (fdX (K08 p) "written" (top 52) 512) ["rules", "facts"] [] := (fn_written p).binds (ps := ["rules", "facts"]) fun _ _ _ _ _ _ us hl => match us, hl with | [_, _], _ => rfl
theorem kp_need_reader : PySem.W.keepIn (K08 p) (.ref 649) = true := by kernel_rfl
theorem fn_need_reader : Fun (K08 p) "need_reader" "need_reader" (top 57) 649 (fdX (K08 p) "need_reader" (top 57) 649) :=
  fun_mk (st := top 57) (show (K08 p).lookup 649 = some ⟨(oO (K08 p) 649).cls, (oO (K08 p) 649).dict, .func (fdX (K08 p) "need_reader" (top 57) 649), (oO (K08 p) 649).slots⟩ by kernel_rfl) (show PySem.W.codeIn (K08 p) (fO (K08 p) 649).code "need_reader" = true by kernel_rfl) (kp_need_reader p)
theorem bd_need_reader : Binds (K08 p) (fdX (K08 p) "need_reader" (top 57) 649) ["reader"] [] := (fn_need_reader p).binds (ps := ["reader"]) fun _ _ _ _ _ _ us hl => match us, hl with | [_], _ => rfl
theorem kp_replaced : PySem.W.keepIn (K08 p) (.ref 656) = true := by kernel_rfl
theorem fn_replaced : Fun (K08 p) "replaced" "replaced" (top 58) 656 (fdX (K08 p) "replaced" (top 58) 656) :=
  fun_mk (st := top 58) (show (K08 p).lookup 656 = some ⟨(oO (K08 p) 656).cls, (oO (K08 p) 656).dict, .func (fdX (K08 p) "replaced" (top 58) 656), (oO (K08 p) 656).slots⟩ by kernel_rfl) (show PySem.W.codeIn (K08 p) (fO (K08 p) 656).code "replaced" = true by kernel_rfl) (kp_replaced p)
theorem bd_replaced : Binds (K08 p) (fdX (K08 p) "replaced" (top 58) 656) ["base", "first", "tail"] [] := (fn_replaced p).binds (ps := ["base", "first", "tail"]) fun _ _ _ _ _ _ us hl => match us, hl with | [_, _, _], _ => rfl
theorem kp_completed : PySem.W.keepIn (K08 p) (.ref 663) = true := by kernel_rfl
theorem fn_completed : Fun (K08 p) "completed" "completed" (top 59) 663 (fdX (K08 p) "completed" (top 59) 663) :=
  fun_mk (st := top 59) (show (K08 p).lookup 663 = some ⟨(oO (K08 p) 663).cls, (oO (K08 p) 663).dict, .func (fdX (K08 p) "completed" (top 59) 663), (oO (K08 p) 663).slots⟩ by kernel_rfl) (show PySem.W.codeIn (K08 p) (fO (K08 p) 663).code "completed" = true by kernel_rfl) (kp_completed p)
theorem bd_completed : Binds (K08 p) (fdX (K08 p) "completed" (top 59) 663) ["reader", "base", "first", "tail"] [] := (fn_completed p).binds (ps := ["reader", "base", "first", "tail"]) fun _ _ _ _ _ _ us hl => match us, hl with | [_, _, _, _], _ => rfl
theorem kp_fewest_kept : PySem.W.keepIn (K08 p) (.ref 670) = true := by kernel_rfl
theorem fn_fewest_kept : Fun (K08 p) "fewest_kept" "fewest_kept" (top 60) 670 (fdX (K08 p) "fewest_kept" (top 60) 670) :=
  fun_mk (st := top 60) (show (K08 p).lookup 670 = some ⟨(oO (K08 p) 670).cls, (oO (K08 p) 670).dict, .func (fdX (K08 p) "fewest_kept" (top 60) 670), (oO (K08 p) 670).slots⟩ by kernel_rfl) (show PySem.W.codeIn (K08 p) (fO (K08 p) 670).code "fewest_kept" = true by kernel_rfl) (kp_fewest_kept p)
theorem bd_fewest_kept : Binds (K08 p) (fdX (K08 p) "fewest_kept" (top 60) 670) ["reader", "facts"] [] := (fn_fewest_kept p).binds (ps := ["reader", "facts"]) fun _ _ _ _ _ _ us hl => match us, hl with | [_, _], _ => rfl
theorem kp_fewest : PySem.W.keepIn (K08 p) (.ref 677) = true := by kernel_rfl
theorem fn_fewest : Fun (K08 p) "fewest" "fewest" (top 61) 677 (fdX (K08 p) "fewest" (top 61) 677) :=
  fun_mk (st := top 61) (show (K08 p).lookup 677 = some ⟨(oO (K08 p) 677).cls, (oO (K08 p) 677).dict, .func (fdX (K08 p) "fewest" (top 61) 677), (oO (K08 p) 677).slots⟩ by kernel_rfl) (show PySem.W.codeIn (K08 p) (fO (K08 p) 677).code "fewest" = true by kernel_rfl) (kp_fewest p)
theorem bd_fewest : Binds (K08 p) (fdX (K08 p) "fewest" (top 61) 677) ["reader", "base", "first", "second"] [] := (fn_fewest p).binds (ps := ["reader", "base", "first", "second"]) fun _ _ _ _ _ _ us hl => match us, hl with | [_, _, _, _], _ => rfl
theorem kp_is_right : PySem.W.keepIn (K08 p) (.ref 684) = true := by kernel_rfl
theorem fn_is_right : Fun (K08 p) "is_right" "is_right" (top 62) 684 (fdX (K08 p) "is_right" (top 62) 684) :=
  fun_mk (st := top 62) (show (K08 p).lookup 684 = some ⟨(oO (K08 p) 684).cls, (oO (K08 p) 684).dict, .func (fdX (K08 p) "is_right" (top 62) 684), (oO (K08 p) 684).slots⟩ by kernel_rfl) (show PySem.W.codeIn (K08 p) (fO (K08 p) 684).code "is_right" = true by kernel_rfl) (kp_is_right p)
theorem bd_is_right : Binds (K08 p) (fdX (K08 p) "is_right" (top 62) 684) ["style", "reader", "first", "second"] [] := (fn_is_right p).binds (ps := ["style", "reader", "first", "second"]) fun _ _ _ _ _ _ us hl => match us, hl with | [_, _, _, _], _ => rfl
theorem kp_l_mixed : PySem.W.keepIn (K08 p) (.ref 691) = true := by kernel_rfl
theorem fn_l_mixed : Fun (K08 p) "_law_mixed" "_law_mixed" (top 64) 691 (fdX (K08 p) "_law_mixed" (top 64) 691) :=
  fun_mk (st := top 64) (show (K08 p).lookup 691 = some ⟨(oO (K08 p) 691).cls, (oO (K08 p) 691).dict, .func (fdX (K08 p) "_law_mixed" (top 64) 691), (oO (K08 p) 691).slots⟩ by kernel_rfl) (show PySem.W.codeIn (K08 p) (fO (K08 p) 691).code "_law_mixed" = true by kernel_rfl) (kp_l_mixed p)
theorem bd_l_mixed : Binds (K08 p) (fdX (K08 p) "_law_mixed" (top 64) 691) ["cell", "k"] [] := (fn_l_mixed p).binds (ps := ["cell", "k"]) fun _ _ _ _ _ _ us hl => match us, hl with | [_, _], _ => rfl
theorem kp_l_begin : PySem.W.keepIn (K08 p) (.ref 696) = true := by kernel_rfl
theorem fn_l_begin : Fun (K08 p) "_law_begin" "_law_begin" (top 65) 696 (fdX (K08 p) "_law_begin" (top 65) 696) :=
  fun_mk (st := top 65) (show (K08 p).lookup 696 = some ⟨(oO (K08 p) 696).cls, (oO (K08 p) 696).dict, .func (fdX (K08 p) "_law_begin" (top 65) 696), (oO (K08 p) 696).slots⟩ by kernel_rfl) (show PySem.W.codeIn (K08 p) (fO (K08 p) 696).code "_law_begin" = true by kernel_rfl) (kp_l_begin p)
theorem bd_l_begin : Binds (K08 p) (fdX (K08 p) "_law_begin" (top 65) 696) ["script"] [] := (fn_l_begin p).binds (ps := ["script"]) fun _ _ _ _ _ _ us hl => match us, hl with | [_], _ => rfl
theorem kp_l_draw : PySem.W.keepIn (K08 p) (.ref 703) = true := by kernel_rfl
theorem fn_l_draw : Fun (K08 p) "_law_draw" "_law_draw" (top 66) 703 (fdX (K08 p) "_law_draw" (top 66) 703) :=
  fun_mk (st := top 66) (show (K08 p).lookup 703 = some ⟨(oO (K08 p) 703).cls, (oO (K08 p) 703).dict, .func (fdX (K08 p) "_law_draw" (top 66) 703), (oO (K08 p) 703).slots⟩ by kernel_rfl) (show PySem.W.codeIn (K08 p) (fO (K08 p) 703).code "_law_draw" = true by kernel_rfl) (kp_l_draw p)
theorem bd_l_draw : Binds (K08 p) (fdX (K08 p) "_law_draw" (top 66) 703) ["state", "many"] [] := (fn_l_draw p).binds (ps := ["state", "many"]) fun _ _ _ _ _ _ us hl => match us, hl with | [_, _], _ => rfl
theorem kp_l_of : PySem.W.keepIn (K08 p) (.ref 710) = true := by kernel_rfl
theorem fn_l_of : Fun (K08 p) "_law_of" "_law_of" (top 67) 710 (fdX (K08 p) "_law_of" (top 67) 710) :=
  fun_mk (st := top 67) (show (K08 p).lookup 710 = some ⟨(oO (K08 p) 710).cls, (oO (K08 p) 710).dict, .func (fdX (K08 p) "_law_of" (top 67) 710), (oO (K08 p) 710).slots⟩ by kernel_rfl) (show PySem.W.codeIn (K08 p) (fO (K08 p) 710).code "_law_of" = true by kernel_rfl) (kp_l_of p)
theorem bd_l_of : Binds (K08 p) (fdX (K08 p) "_law_of" (top 67) 710) ["state", "some"] [] := (fn_l_of p).binds (ps := ["state", "some"]) fun _ _ _ _ _ _ us hl => match us, hl with | [_, _], _ => rfl
theorem kp_l_raised : PySem.W.keepIn (K08 p) (.ref 717) = true := by kernel_rfl
theorem fn_l_raised : Fun (K08 p) "_law_raised" "_law_raised" (top 68) 717 (fdX (K08 p) "_law_raised" (top 68) 717) :=
  fun_mk (st := top 68) (show (K08 p).lookup 717 = some ⟨(oO (K08 p) 717).cls, (oO (K08 p) 717).dict, .func (fdX (K08 p) "_law_raised" (top 68) 717), (oO (K08 p) 717).slots⟩ by kernel_rfl) (show PySem.W.codeIn (K08 p) (fO (K08 p) 717).code "_law_raised" = true by kernel_rfl) (kp_l_raised p)
theorem bd_l_raised : Binds (K08 p) (fdX (K08 p) "_law_raised" (top 68) 717) ["asked"] [] := (fn_l_raised p).binds (ps := ["asked"]) fun _ _ _ _ _ _ us hl => match us, hl with | [_], _ => rfl
theorem kp_l_hand_rows : PySem.W.keepIn (K08 p) (.ref 724) = true := by kernel_rfl
theorem fn_l_hand_rows : Fun (K08 p) "_law_hand_rows" "_law_hand_rows" (top 69) 724 (fdX (K08 p) "_law_hand_rows" (top 69) 724) :=
  fun_mk (st := top 69) (show (K08 p).lookup 724 = some ⟨(oO (K08 p) 724).cls, (oO (K08 p) 724).dict, .func (fdX (K08 p) "_law_hand_rows" (top 69) 724), (oO (K08 p) 724).slots⟩ by kernel_rfl) (show PySem.W.codeIn (K08 p) (fO (K08 p) 724).code "_law_hand_rows" = true by kernel_rfl) (kp_l_hand_rows p)
theorem bd_l_hand_rows : Binds (K08 p) (fdX (K08 p) "_law_hand_rows" (top 69) 724) [] [] := (fn_l_hand_rows p).binds (ps := []) fun _ _ _ _ _ _ us hl => match us, hl with | [], _ => rfl
theorem kp_law : PySem.W.keepIn (K08 p) (.ref 731) = true := by kernel_rfl
theorem fn_law : Fun (K08 p) "law" "law" (top 70) 731 (fdX (K08 p) "law" (top 70) 731) :=
  fun_mk (st := top 70) (show (K08 p).lookup 731 = some ⟨(oO (K08 p) 731).cls, (oO (K08 p) 731).dict, .func (fdX (K08 p) "law" (top 70) 731), (oO (K08 p) 731).slots⟩ by kernel_rfl) (show PySem.W.codeIn (K08 p) (fO (K08 p) 731).code "law" = true by kernel_rfl) (kp_law p)
theorem bd_law : Binds (K08 p) (fdX (K08 p) "law" (top 70) 731) ["script"] [] := (fn_law p).binds (ps := ["script"]) fun _ _ _ _ _ _ us hl => match us, hl with | [_], _ => rfl
theorem mkS : Mk (K08 p) 637 524 := ⟨by kernel_rfl, by kernel_rfl, by kernel_rfl, by kernel_rfl⟩
theorem clS : Cls (K08 p) 637 := ⟨by kernel_rfl, by kernel_rfl, by kernel_rfl, by kernel_rfl⟩
theorem naB : NoAttr (K08 p) 637 "stored_base" := (show PySem.W.findIn (K08 p) (.ref 637) "stored_base" = some none by kernel_rfl)
theorem naR : NoAttr (K08 p) 637 "stored_rules" := (show PySem.W.findIn (K08 p) (.ref 637) "stored_rules" = some none by kernel_rfl)
theorem lkInit : (K08 p).lookup 524 = some ⟨(oO (K08 p) 524).cls, (oO (K08 p) 524).dict, .func (PySem.W.fnOf "__init__" "Style.__init__" (defArgs sInit) (defBody sInit) (defScope sInit) .none (fO (K08 p) 524).kwdefaults (fO (K08 p) 524).doc (fO (K08 p) 524).pyModule (fO (K08 p) 524).annotations (fO (K08 p) 524).code (fO (K08 p) 524).closureTuple), (oO (K08 p) 524).slots⟩ := by kernel_rfl
theorem cdInit : PySem.W.codeIn (K08 p) (fO (K08 p) 524).code "Style.__init__" = true := by kernel_rfl
theorem prB : PropOf (K08 p) 637 "base" 542 541 := ⟨by kernel_rfl, by kernel_rfl, by kernel_rfl, ⟨((PySem.W.recIn (K08 p) 542 "property").getD []).tail, by kernel_rfl⟩⟩
abbrev sGetB : Stmt := inClass clStyle 2
theorem lkB : (K08 p).lookup 541 = some ⟨(oO (K08 p) 541).cls, (oO (K08 p) 541).dict, .func (PySem.W.fnOf "base" "Style.base" (defArgs sGetB) (defBody sGetB) (defScope sGetB) .none (fO (K08 p) 541).kwdefaults (fO (K08 p) 541).doc (fO (K08 p) 541).pyModule (fO (K08 p) 541).annotations (fO (K08 p) 541).code (fO (K08 p) 541).closureTuple), (oO (K08 p) 541).slots⟩ := by kernel_rfl
theorem cdB : PySem.W.codeIn (K08 p) (fO (K08 p) 541).code "Style.base" = true := by kernel_rfl
theorem scGetB : FnScope ["self"] ["self"] (defScope sGetB) := ⟨rfl, rfl, rfl, by decide +kernel, rfl, by decide +kernel, by decide +kernel⟩
noncomputable abbrev fdB (p : Params) : FuncData := PySem.W.fnOf "base" "Style.base" (defArgs sGetB) (defBody sGetB) (defScope sGetB) .none (fO (K08 p) 541).kwdefaults (fO (K08 p) 541).doc (fO (K08 p) 541).pyModule (fO (K08 p) 541).annotations (fO (K08 p) 541).code (fO (K08 p) 541).closureTuple
theorem kpB : PySem.W.keepIn (K08 p) (.ref 541) = true := by kernel_rfl
theorem bdB : Binds (K08 p) (fdB p) ["self"] [] := (Fun.mk ⟨_, _, _, _, _, _, _, _, _, rfl, lkB p, cdB p⟩ (kpB p) : Fun (K08 p) "base" "Style.base" sGetB 541 (fdB p)).binds (ps := ["self"]) fun _ _ _ _ _ _ us hl => match us, hl with | [_], _ => rfl
noncomputable abbrev fdKeptOf (p : Params) : FuncData := PySem.W.fnOf "kept" "Style.kept" (defArgs sKeptOf) (defBody sKeptOf) (defScope sKeptOf) .none (fO (K08 p) 564).kwdefaults (fO (K08 p) 564).doc (fO (K08 p) 564).pyModule (fO (K08 p) 564).annotations (fO (K08 p) 564).code (fO (K08 p) 564).closureTuple
theorem fnKeptOf : Fun (K08 p) "kept" "Style.kept" sKeptOf 564 (fdKeptOf p) := ⟨⟨_, _, _, _, _, _, _, _, _, rfl, (show (K08 p).lookup 564 = some ⟨(oO (K08 p) 564).cls, (oO (K08 p) 564).dict, .func (PySem.W.fnOf "kept" "Style.kept" (defArgs sKeptOf) (defBody sKeptOf) (defScope sKeptOf) .none (fO (K08 p) 564).kwdefaults (fO (K08 p) 564).doc (fO (K08 p) 564).pyModule (fO (K08 p) 564).annotations (fO (K08 p) 564).code (fO (K08 p) 564).closureTuple), (oO (K08 p) 564).slots⟩ by kernel_rfl), by kernel_rfl⟩, by kernel_rfl⟩
theorem bdKeptOf : Binds (K08 p) (fdKeptOf p) ["self", "first", "second"] [] := (fnKeptOf p).binds (ps := ["self", "first", "second"]) fun _ _ _ _ _ _ us hl => match us, hl with | [_, _, _], _ => rfl
theorem mtKeptOf : Meth (K08 p) 637 "kept" 564 := ⟨by kernel_rfl, by kernel_rfl, by kernel_rfl⟩
end
end KH08

/-! k08: the rows by hand. -/
namespace Dt
open PySem L2 Evl Dg LamR LamX StX ClX TL
open Dr (StAt SameB)
abbrev sHand : Stmt := top 69
abbrev hp0 : List PyData := [.tuple [.int 10, .int 1234, .str "7", .int 1237, .int 1237], .tuple [.int 10, .int 1234, .str "1", .none, .int 1241], .tuple [.int 10, .int 1234, .str "4", .none, .int 1244]]
abbrev hp1 : List PyData := [.tuple [.int 10, .int 1234, .str "1300", .int 1300, .int 1300], .tuple [.int 10, .int 1234, .str "1200", .none, .int 11200], .tuple [.int 10, .int 1234, .str "0200", .none, .int 10200]]
abbrev hp2 : List PyData := [.tuple [.int 10, .int 96, .str "117", .int 117, .int 117], .tuple [.int 10, .int 96, .str "4", .none, .int 104], .tuple [.int 10, .int 96, .str "04", .none, .int 104]]
abbrev hp3 : List PyData := [.tuple [.int 10, .int 99, .str "00", .none, .int 100], .tuple [.int 10, .int 99, .str "00100", .none, .int 100], .tuple [.int 10, .int 199, .str "0", .none, .int 200]]
abbrev hp4 : List PyData := [.tuple [.int 10, .int 100, .str "09", .int 109, .int 109], .tuple [.int 10, .int 100, .str "0", .none, .int 110], .tuple [.int 10, .int 100, .str "00", .none, .int 200]]
abbrev hp5 : List PyData := [.tuple [.int 2, .int 5, .str "1", .none, .int 7], .tuple [.int 2, .int 5, .str "10", .int 6, .int 6], .tuple [.int 2, .int 5, .str "0", .none, .int 6], .tuple [.int 2, .int 1, .str "10", .int 2, .int 2]]
abbrev hp6 : List PyData := [.tuple [.int 10, .int 1, .str "1000000", .int 1000000, .int 1000000], .tuple [.int 4, .int 63, .str "3", .none, .int 67], .tuple [.int 10, .int 123, .str "0123", .none, .int 10123]]
abbrev hp7 : List PyData := [.tuple [.int 10, .int 5, .str "05", .none, .int 105], .tuple [.int 10, .int 7, .str "8", .int 8, .int 8], .tuple [.int 10, .int 9, .str "9", .none, .int 19], .tuple [.int 3, .int 8, .str "100", .int 9, .int 9]]
def handD : List PyData := (((((((hp0 ++ hp1) ++ hp2) ++ hp3) ++ hp4) ++ hp5) ++ hp6) ++ hp7)
def handL : List (Nat × Nat × Str × Option Nat × Nat) := [(10, 1234, "7", some 1237, 1237), (10, 1234, "1", none, 1241), (10, 1234, "4", none, 1244), (10, 1234, "1300", some 1300, 1300), (10, 1234, "1200", none, 11200), (10, 1234, "0200", none, 10200), (10, 96, "117", some 117, 117), (10, 96, "4", none, 104), (10, 96, "04", none, 104), (10, 99, "00", none, 100), (10, 99, "00100", none, 100), (10, 199, "0", none, 200), (10, 100, "09", some 109, 109), (10, 100, "0", none, 110), (10, 100, "00", none, 200), (2, 5, "1", none, 7), (2, 5, "10", some 6, 6), (2, 5, "0", none, 6), (2, 1, "10", some 2, 2), (10, 1, "1000000", some 1000000, 1000000), (4, 63, "3", none, 67), (10, 123, "0123", none, 10123), (10, 5, "05", none, 105), (10, 7, "8", some 8, 8), (10, 9, "9", none, 19), (3, 8, "100", some 9, 9)]
def oD : Option Nat → PyData
  | none => .none
  | some i => .int (i : Int)
def oV : Option Nat → V
  | none => .non
  | some i => .int (i : Int)
def rowD (q : Nat × Nat × Str × Option Nat × Nat) : PyData := .tuple [.int (q.1 : Int), .int (q.2.1 : Int), .str q.2.2.1, oD q.2.2.2.1, .int (q.2.2.2.2 : Int)]
theorem hand_map : handD = handL.map rowD := rfl
theorem hand_ok : ∀ q ∈ handL, 2 ≤ q.1 ∧ q.1 ≤ 10 ∧ 1 ≤ q.2.1 ∧ isFigs q.1 1000 q.2.2.1 = true ∧ q.2.2.1.length ≤ 100 ∧ cmpl "replace" (q.2.1 : Int) ((q.1 ^ q.2.2.1.length : Nat) : Int) (numF q.1 (tl q.2.2.1) : Int) (zeroAt q.2.2.1) = oV q.2.2.2.1 ∧ cmpl "next" (q.2.1 : Int) ((q.1 ^ q.2.2.1.length : Nat) : Int) (numF q.1 (tl q.2.2.1) : Int) (zeroAt q.2.2.1) = .int (q.2.2.2.2 : Int) ∧ q.2.2.2.2 ≤ 10000000 ∧ (∀ i ∈ q.2.2.2.1, i ≤ 10000000) := by decide +kernel
section
variable {P : Program} {w : World} {K : PySem.W.Frag} {mg : Str → Option Value} {base : Heap}
def spHand : Sp := fun vs H Q _ => vs = [] ∧ ∀ v H', Ex H H' → Pt H' v (.list handD) → Q v H'
theorem scHand : FnScope ["rows"] [] (defScope sHand) := ⟨rfl, rfl, rfl, by decide +kernel, rfl, by decide +kernel, by decide +kernel⟩
theorem ok_hand {f : Addr} {fd : FuncData} (F : Fun K "_law_hand_rows" "_law_hand_rows" sHand f fd) : FnOk P w K mg base CX0 1 f fd [] spHand := by
  refine F.ok scHand (fun vs H Q E h => ?_) (fun cdv A outer s H vs Q E hr h => ?_)
  · obtain ⟨rfl, _⟩ := h
    rfl
  · obtain ⟨rfl, q⟩ := h
    refine ⟨_, (pss_cons (ps_set (i := 0) scHand.nd rfl (.inl rfl) (pe_lst (pa_cons (pe_tup (pa_cons pe_int (pa_cons pe_int (pa_cons pe_str (pa_cons pe_int (pa_cons pe_int pa_nil)))))) (pa_cons (pe_tup (pa_cons pe_int (pa_cons pe_int (pa_cons pe_str (pa_cons pe_non (pa_cons pe_int pa_nil)))))) (pa_cons (pe_tup (pa_cons pe_int (pa_cons pe_int (pa_cons pe_str (pa_cons pe_non (pa_cons pe_int pa_nil)))))) pa_nil))))) (pss_cons (ps_set (i := 0) scHand.nd rfl (.inl rfl) (pe_op op_cat (pv 0) (pe_lst (pa_cons (pe_tup (pa_cons pe_int (pa_cons pe_int (pa_cons pe_str (pa_cons pe_int (pa_cons pe_int pa_nil)))))) (pa_cons (pe_tup (pa_cons pe_int (pa_cons pe_int (pa_cons pe_str (pa_cons pe_non (pa_cons pe_int pa_nil)))))) (pa_cons (pe_tup (pa_cons pe_int (pa_cons pe_int (pa_cons pe_str (pa_cons pe_non (pa_cons pe_int pa_nil)))))) pa_nil)))))) (pss_cons (ps_set (i := 0) scHand.nd rfl (.inl rfl) (pe_op op_cat (pv 0) (pe_lst (pa_cons (pe_tup (pa_cons pe_int (pa_cons pe_int (pa_cons pe_str (pa_cons pe_int (pa_cons pe_int pa_nil)))))) (pa_cons (pe_tup (pa_cons pe_int (pa_cons pe_int (pa_cons pe_str (pa_cons pe_non (pa_cons pe_int pa_nil)))))) (pa_cons (pe_tup (pa_cons pe_int (pa_cons pe_int (pa_cons pe_str (pa_cons pe_non (pa_cons pe_int pa_nil)))))) pa_nil)))))) (pss_cons (ps_set (i := 0) scHand.nd rfl (.inl rfl) (pe_op op_cat (pv 0) (pe_lst (pa_cons (pe_tup (pa_cons pe_int (pa_cons pe_int (pa_cons pe_str (pa_cons pe_non (pa_cons pe_int pa_nil)))))) (pa_cons (pe_tup (pa_cons pe_int (pa_cons pe_int (pa_cons pe_str (pa_cons pe_non (pa_cons pe_int pa_nil)))))) (pa_cons (pe_tup (pa_cons pe_int (pa_cons pe_int (pa_cons pe_str (pa_cons pe_non (pa_cons pe_int pa_nil)))))) pa_nil)))))) (pss_cons (ps_set (i := 0) scHand.nd rfl (.inl rfl) (pe_op op_cat (pv 0) (pe_lst (pa_cons (pe_tup (pa_cons pe_int (pa_cons pe_int (pa_cons pe_str (pa_cons pe_int (pa_cons pe_int pa_nil)))))) (pa_cons (pe_tup (pa_cons pe_int (pa_cons pe_int (pa_cons pe_str (pa_cons pe_non (pa_cons pe_int pa_nil)))))) (pa_cons (pe_tup (pa_cons pe_int (pa_cons pe_int (pa_cons pe_str (pa_cons pe_non (pa_cons pe_int pa_nil)))))) pa_nil)))))) (pss_cons (ps_set (i := 0) scHand.nd rfl (.inl rfl) (pe_op op_cat (pv 0) (pe_lst (pa_cons (pe_tup (pa_cons pe_int (pa_cons pe_int (pa_cons pe_str (pa_cons pe_non (pa_cons pe_int pa_nil)))))) (pa_cons (pe_tup (pa_cons pe_int (pa_cons pe_int (pa_cons pe_str (pa_cons pe_int (pa_cons pe_int pa_nil)))))) (pa_cons (pe_tup (pa_cons pe_int (pa_cons pe_int (pa_cons pe_str (pa_cons pe_non (pa_cons pe_int pa_nil)))))) (pa_cons (pe_tup (pa_cons pe_int (pa_cons pe_int (pa_cons pe_str (pa_cons pe_int (pa_cons pe_int pa_nil)))))) pa_nil))))))) (pss_cons (ps_set (i := 0) scHand.nd rfl (.inl rfl) (pe_op op_cat (pv 0) (pe_lst (pa_cons (pe_tup (pa_cons pe_int (pa_cons pe_int (pa_cons pe_str (pa_cons pe_int (pa_cons pe_int pa_nil)))))) (pa_cons (pe_tup (pa_cons pe_int (pa_cons pe_int (pa_cons pe_str (pa_cons pe_non (pa_cons pe_int pa_nil)))))) (pa_cons (pe_tup (pa_cons pe_int (pa_cons pe_int (pa_cons pe_str (pa_cons pe_non (pa_cons pe_int pa_nil)))))) pa_nil)))))) (pss_one (ps_ret (pe_op op_cat (pv 0) (pe_lst (pa_cons (pe_tup (pa_cons pe_int (pa_cons pe_int (pa_cons pe_str (pa_cons pe_non (pa_cons pe_int pa_nil)))))) (pa_cons (pe_tup (pa_cons pe_int (pa_cons pe_int (pa_cons pe_str (pa_cons pe_int (pa_cons pe_int pa_nil)))))) (pa_cons (pe_tup (pa_cons pe_int (pa_cons pe_int (pa_cons pe_str (pa_cons pe_non (pa_cons pe_int pa_nil)))))) (pa_cons (pe_tup (pa_cons pe_int (pa_cons pe_int (pa_cons pe_str (pa_cons pe_int (pa_cons pe_int pa_nil)))))) pa_nil))))))))))))))), ?_⟩
    refine q_asgP (D := .list hp0) (ep_lst (epa_cons (ep_tup (epa_cons ep_int (epa_cons ep_int (epa_cons (ep_str (by decide)) (epa_cons ep_int (epa_cons ep_int epa_nil))))) (by simp)) (epa_cons (ep_tup (epa_cons ep_int (epa_cons ep_int (epa_cons (ep_str (by decide)) (epa_cons ep_non (epa_cons ep_int epa_nil))))) (by simp)) (epa_cons (ep_tup (epa_cons ep_int (epa_cons ep_int (epa_cons (ep_str (by decide)) (epa_cons ep_non (epa_cons ep_int epa_nil))))) (by simp)) epa_nil))) (by simp)) fun v0 H0 e0 k0 => ?_
    refine q_asgP (D := .list (hp0 ++ hp1)) (ep_cat (ep_v (ev_var rfl) k0) (ep_lst (epa_cons (ep_tup (epa_cons ep_int (epa_cons ep_int (epa_cons (ep_str (by decide)) (epa_cons ep_int (epa_cons ep_int epa_nil))))) (by simp)) (epa_cons (ep_tup (epa_cons ep_int (epa_cons ep_int (epa_cons (ep_str (by decide)) (epa_cons ep_non (epa_cons ep_int epa_nil))))) (by simp)) (epa_cons (ep_tup (epa_cons ep_int (epa_cons ep_int (epa_cons (ep_str (by decide)) (epa_cons ep_non (epa_cons ep_int epa_nil))))) (by simp)) epa_nil))) (by simp)) (by decide)) fun v1 H1 e1 k1 => ?_
    refine q_asgP (D := .list ((hp0 ++ hp1) ++ hp2)) (ep_cat (ep_v (ev_var rfl) k1) (ep_lst (epa_cons (ep_tup (epa_cons ep_int (epa_cons ep_int (epa_cons (ep_str (by decide)) (epa_cons ep_int (epa_cons ep_int epa_nil))))) (by simp)) (epa_cons (ep_tup (epa_cons ep_int (epa_cons ep_int (epa_cons (ep_str (by decide)) (epa_cons ep_non (epa_cons ep_int epa_nil))))) (by simp)) (epa_cons (ep_tup (epa_cons ep_int (epa_cons ep_int (epa_cons (ep_str (by decide)) (epa_cons ep_non (epa_cons ep_int epa_nil))))) (by simp)) epa_nil))) (by simp)) (by decide)) fun v2 H2 e2 k2 => ?_
    refine q_asgP (D := .list (((hp0 ++ hp1) ++ hp2) ++ hp3)) (ep_cat (ep_v (ev_var rfl) k2) (ep_lst (epa_cons (ep_tup (epa_cons ep_int (epa_cons ep_int (epa_cons (ep_str (by decide)) (epa_cons ep_non (epa_cons ep_int epa_nil))))) (by simp)) (epa_cons (ep_tup (epa_cons ep_int (epa_cons ep_int (epa_cons (ep_str (by decide)) (epa_cons ep_non (epa_cons ep_int epa_nil))))) (by simp)) (epa_cons (ep_tup (epa_cons ep_int (epa_cons ep_int (epa_cons (ep_str (by decide)) (epa_cons ep_non (epa_cons ep_int epa_nil))))) (by simp)) epa_nil))) (by simp)) (by decide)) fun v3 H3 e3 k3 => ?_
    refine q_asgP (D := .list ((((hp0 ++ hp1) ++ hp2) ++ hp3) ++ hp4)) (ep_cat (ep_v (ev_var rfl) k3) (ep_lst (epa_cons (ep_tup (epa_cons ep_int (epa_cons ep_int (epa_cons (ep_str (by decide)) (epa_cons ep_int (epa_cons ep_int epa_nil))))) (by simp)) (epa_cons (ep_tup (epa_cons ep_int (epa_cons ep_int (epa_cons (ep_str (by decide)) (epa_cons ep_non (epa_cons ep_int epa_nil))))) (by simp)) (epa_cons (ep_tup (epa_cons ep_int (epa_cons ep_int (epa_cons (ep_str (by decide)) (epa_cons ep_non (epa_cons ep_int epa_nil))))) (by simp)) epa_nil))) (by simp)) (by decide)) fun v4 H4 e4 k4 => ?_
    refine q_asgP (D := .list (((((hp0 ++ hp1) ++ hp2) ++ hp3) ++ hp4) ++ hp5)) (ep_cat (ep_v (ev_var rfl) k4) (ep_lst (epa_cons (ep_tup (epa_cons ep_int (epa_cons ep_int (epa_cons (ep_str (by decide)) (epa_cons ep_non (epa_cons ep_int epa_nil))))) (by simp)) (epa_cons (ep_tup (epa_cons ep_int (epa_cons ep_int (epa_cons (ep_str (by decide)) (epa_cons ep_int (epa_cons ep_int epa_nil))))) (by simp)) (epa_cons (ep_tup (epa_cons ep_int (epa_cons ep_int (epa_cons (ep_str (by decide)) (epa_cons ep_non (epa_cons ep_int epa_nil))))) (by simp)) (epa_cons (ep_tup (epa_cons ep_int (epa_cons ep_int (epa_cons (ep_str (by decide)) (epa_cons ep_int (epa_cons ep_int epa_nil))))) (by simp)) epa_nil)))) (by simp)) (by decide)) fun v5 H5 e5 k5 => ?_
    refine q_asgP (D := .list ((((((hp0 ++ hp1) ++ hp2) ++ hp3) ++ hp4) ++ hp5) ++ hp6)) (ep_cat (ep_v (ev_var rfl) k5) (ep_lst (epa_cons (ep_tup (epa_cons ep_int (epa_cons ep_int (epa_cons (ep_str (by decide)) (epa_cons ep_int (epa_cons ep_int epa_nil))))) (by simp)) (epa_cons (ep_tup (epa_cons ep_int (epa_cons ep_int (epa_cons (ep_str (by decide)) (epa_cons ep_non (epa_cons ep_int epa_nil))))) (by simp)) (epa_cons (ep_tup (epa_cons ep_int (epa_cons ep_int (epa_cons (ep_str (by decide)) (epa_cons ep_non (epa_cons ep_int epa_nil))))) (by simp)) epa_nil))) (by simp)) (by decide)) fun v6 H6 e6 k6 => ?_
    exact s_retP (D := .list handD) (ep_cat (ep_v (ev_var rfl) k6) (ep_lst (epa_cons (ep_tup (epa_cons ep_int (epa_cons ep_int (epa_cons (ep_str (by decide)) (epa_cons ep_non (epa_cons ep_int epa_nil))))) (by simp)) (epa_cons (ep_tup (epa_cons ep_int (epa_cons ep_int (epa_cons (ep_str (by decide)) (epa_cons ep_int (epa_cons ep_int epa_nil))))) (by simp)) (epa_cons (ep_tup (epa_cons ep_int (epa_cons ep_int (epa_cons (ep_str (by decide)) (epa_cons ep_non (epa_cons ep_int epa_nil))))) (by simp)) (epa_cons (ep_tup (epa_cons ep_int (epa_cons ep_int (epa_cons (ep_str (by decide)) (epa_cons ep_int (epa_cons ep_int epa_nil))))) (by simp)) epa_nil)))) (by simp)) (by decide)) fun v H' e k => q v H' (((((((e0.trans e1).trans e2).trans e3).trans e4).trans e5).trans e6).trans e) k
end
end Dt

namespace KH08
open PySem L2 Evl ExM Dg Dt
def tkO (v : Option (Option Value)) : Tok := match v with
  | some (some (.int _ t)) => t
  | some (some (.str _ t)) => t
  | _ => default
def itO (K : PySem.W.Frag) (a : Addr) : Array Value := match (oO K a).data with
  | .seq v _ => v
  | _ => #[]
def epO (K : PySem.W.Frag) (a : Addr) : Nat := match (oO K a).data with
  | .seq _ n => n
  | _ => 0
def tkI (K : PySem.W.Frag) (a : Addr) (i : Nat) : Tok := tkO (some (itO K a)[i]?)
theorem rd08 (p : Params) : ∀ H : Hp, SqT (K08 p) H 642 [.str "replace", .str "next"] := fun H => by
  refine .inr ⟨oO (K08 p) 642, #[.str "replace" (tkI (K08 p) 642 0), .str "next" (tkI (K08 p) 642 1)], epO (K08 p) 642, ?_, ?_, ?_, ?_, ?_⟩
  · exact (show (K08 p).lookup 642 = some (oO (K08 p) 642) by kernel_rfl)
  · exact (show (oO (K08 p) 642).cls = .type "tuple" by kernel_rfl)
  · exact (show (oO (K08 p) 642).data = .seq #[.str "replace" (tkI (K08 p) 642 0), .str "next" (tkI (K08 p) 642 1)] (epO (K08 p) 642) by kernel_rfl)
  · show (2 : Nat) ≤ sizeLine
    rw [sizeLine_eq]
    omega
  · exact .cons ⟨_, rfl⟩ (.cons ⟨_, rfl⟩ .nil)
section
variable {w : World} {mg : Str → Option Value} {h base : Heap} (X : (K08 w.params).In h) (G : h.Ns mainGlobals mg)
include X G
theorem txR : TxR (K08 w.params) mg 338 357 350 427 434 441 448 455 where
  isi := PySem.W.mg_none_of X G (show PySem.W.nsIn (K08 w.params) mainGlobals "isinstance" = some none by kernel_rfl)
  int := PySem.W.mg_none_of X G (show PySem.W.nsIn (K08 w.params) mainGlobals "int" = some none by kernel_rfl)
  bool := PySem.W.mg_none_of X G (show PySem.W.nsIn (K08 w.params) mainGlobals "bool" = some none by kernel_rfl)
  str := PySem.W.mg_none_of X G (show PySem.W.nsIn (K08 w.params) mainGlobals "str" = some none by kernel_rfl)
  len := PySem.W.mg_none_of X G (show PySem.W.nsIn (K08 w.params) mainGlobals "len" = some none by kernel_rfl)
  sup := PySem.W.mg_none_of X G (show PySem.W.nsIn (K08 w.params) mainGlobals "super" = some none by kernel_rfl)
  fig := (by
    obtain ⟨t, e⟩ : ∃ t, PySem.W.nsIn (K08 w.params) mainGlobals "FIGURES" = some (some (.str "0123456789" t)) := ⟨tkO (PySem.W.nsIn (K08 w.params) mainGlobals "FIGURES"), by kernel_rfl⟩
    exact ⟨t, PySem.W.mg_of X G e⟩)
  least := (by
    obtain ⟨t, e⟩ : ∃ t, PySem.W.nsIn (K08 w.params) mainGlobals "LEAST_BASE" = some (some (.int 2 t)) := ⟨tkO (PySem.W.nsIn (K08 w.params) mainGlobals "LEAST_BASE"), by kernel_rfl⟩
    exact ⟨t, PySem.W.mg_of X G e⟩)
  most := (by
    obtain ⟨t, e⟩ : ∃ t, PySem.W.nsIn (K08 w.params) mainGlobals "MOST_BASE" = some (some (.int 10 t)) := ⟨tkO (PySem.W.nsIn (K08 w.params) mainGlobals "MOST_BASE"), by kernel_rfl⟩
    exact ⟨t, PySem.W.mg_of X G e⟩)
  isInt := PySem.W.mg_of X G (show PySem.W.nsIn (K08 w.params) mainGlobals "is_integer" = some (some (.ref 338)) by kernel_rfl)
  kInt := kp_is_integer _
  needB := PySem.W.mg_of X G (show PySem.W.nsIn (K08 w.params) mainGlobals "need_base" = some (some (.ref 357)) by kernel_rfl)
  kNB := kp_need_base _
  isFig := PySem.W.mg_of X G (show PySem.W.nsIn (K08 w.params) mainGlobals "is_figures" = some (some (.ref 350)) by kernel_rfl)
  kFig := kp_is_figures _
  size := PySem.W.mg_of X G (show PySem.W.nsIn (K08 w.params) mainGlobals "is_size" = some (some (.ref 427)) by kernel_rfl)
  kSz := kp_is_size _
  bounds := PySem.W.mg_of X G (show PySem.W.nsIn (K08 w.params) mainGlobals "are_bounds" = some (some (.ref 434)) by kernel_rfl)
  kBd := kp_are_bounds _
  begins := PySem.W.mg_of X G (show PySem.W.nsIn (K08 w.params) mainGlobals "begins" = some (some (.ref 441)) by kernel_rfl)
  kBg := kp_begins _
  cond := PySem.W.mg_of X G (show PySem.W.nsIn (K08 w.params) mainGlobals "is_condition" = some (some (.ref 448)) by kernel_rfl)
  kCd := kp_is_condition _
  keep := PySem.W.mg_of X G (show PySem.W.nsIn (K08 w.params) mainGlobals "is_keep" = some (some (.ref 455)) by kernel_rfl)
  kKp := kp_is_keep _
  tuple := PySem.W.mg_none_of X G (show PySem.W.nsIn (K08 w.params) mainGlobals "tuple" = some none by kernel_rfl)
  all := PySem.W.mg_none_of X G (show PySem.W.nsIn (K08 w.params) mainGlobals "all" = some none by kernel_rfl)
  msize := (by
    obtain ⟨t, e⟩ : ∃ t, PySem.W.nsIn (K08 w.params) mainGlobals "MOST_SIZE" = some (some (.int 6 t)) := ⟨tkO (PySem.W.nsIn (K08 w.params) mainGlobals "MOST_SIZE"), by kernel_rfl⟩
    exact ⟨t, PySem.W.mg_of X G e⟩)
  mconds := (by
    obtain ⟨t, e⟩ : ∃ t, PySem.W.nsIn (K08 w.params) mainGlobals "MOST_CONDITIONS" = some (some (.int 3 t)) := ⟨tkO (PySem.W.nsIn (K08 w.params) mainGlobals "MOST_CONDITIONS"), by kernel_rfl⟩
    exact ⟨t, PySem.W.mg_of X G e⟩)
  mend := (by
    obtain ⟨t, e⟩ : ∃ t, PySem.W.nsIn (K08 w.params) mainGlobals "MOST_ENDING" = some (some (.int 2 t)) := ⟨tkO (PySem.W.nsIn (K08 w.params) mainGlobals "MOST_ENDING"), by kernel_rfl⟩
    exact ⟨t, PySem.W.mg_of X G e⟩)
theorem txY : TxY (K08 w.params) mg 357 460 467 479 ca08 where
  needB := PySem.W.mg_of X G (show PySem.W.nsIn (K08 w.params) mainGlobals "need_base" = some (some (.ref 357)) by kernel_rfl)
  kNB := kp_need_base _
  rule := PySem.W.mg_of X G (show PySem.W.nsIn (K08 w.params) mainGlobals "is_rule" = some (some (.ref 460)) by kernel_rfl)
  kRl := kp_is_rule _
  needR := PySem.W.mg_of X G (show PySem.W.nsIn (K08 w.params) mainGlobals "need_rules" = some (some (.ref 467)) by kernel_rfl)
  kNR := kp_need_rules _
  plain := PySem.W.mg_of X G (show PySem.W.nsIn (K08 w.params) mainGlobals "plain_rule" = some (some (.ref 479)) by kernel_rfl)
  kPl := kp_plain_rule _
  badRule := PySem.W.mg_of X G (show PySem.W.nsIn (K08 w.params) mainGlobals "BadRule" = some (some (.ref 137)) by kernel_rfl)
  len := PySem.W.mg_none_of X G (show PySem.W.nsIn (K08 w.params) mainGlobals "len" = some none by kernel_rfl)
  tuple := PySem.W.mg_none_of X G (show PySem.W.nsIn (K08 w.params) mainGlobals "tuple" = some none by kernel_rfl)
  enum := PySem.W.mg_none_of X G (show PySem.W.nsIn (K08 w.params) mainGlobals "enumerate" = some none by kernel_rfl)
  isi := PySem.W.mg_none_of X G (show PySem.W.nsIn (K08 w.params) mainGlobals "isinstance" = some none by kernel_rfl)
  sup := PySem.W.mg_none_of X G (show PySem.W.nsIn (K08 w.params) mainGlobals "super" = some none by kernel_rfl)
  list := PySem.W.mg_none_of X G (show PySem.W.nsIn (K08 w.params) mainGlobals "list" = some none by kernel_rfl)
  mrules := (by
    obtain ⟨t, e⟩ : ∃ t, PySem.W.nsIn (K08 w.params) mainGlobals "MOST_RULES" = some (some (.int 8 t)) := ⟨tkO (PySem.W.nsIn (K08 w.params) mainGlobals "MOST_RULES"), by kernel_rfl⟩
    exact ⟨t, PySem.W.mg_of X G e⟩)
theorem txO : Dr.TxO (K08 w.params) mg 691 703 where
  int := PySem.W.mg_none_of X G (show PySem.W.nsIn (K08 w.params) mainGlobals "int" = some none by kernel_rfl)
  len := PySem.W.mg_none_of X G (show PySem.W.nsIn (K08 w.params) mainGlobals "len" = some none by kernel_rfl)
  list := PySem.W.mg_none_of X G (show PySem.W.nsIn (K08 w.params) mainGlobals "list" = some none by kernel_rfl)
  mixed := PySem.W.mg_of X G (show PySem.W.nsIn (K08 w.params) mainGlobals "_law_mixed" = some (some (.ref 691)) by kernel_rfl)
  kMixed := kp_l_mixed _
  draw := PySem.W.mg_of X G (show PySem.W.nsIn (K08 w.params) mainGlobals "_law_draw" = some (some (.ref 703)) by kernel_rfl)
  kDraw := kp_l_draw _
theorem txT : Told.TxT mg ca08 where
  own := fun i hi => by
    have c : i = 0 ∨ i = 1 ∨ i = 2 ∨ i = 3 ∨ i = 4 ∨ i = 5 ∨ i = 6 ∨ i = 7 ∨ i = 8 ∨ i = 9 ∨ i = 10 ∨ i = 11 ∨ i = 12 ∨ i = 13 ∨ i = 14 := by omega
    rcases c with rfl | rfl | rfl | rfl | rfl | rfl | rfl | rfl | rfl | rfl | rfl | rfl | rfl | rfl | rfl
    · exact PySem.W.mg_of X G (show PySem.W.nsIn (K08 w.params) mainGlobals "SpanError" = some (some (.ref 31)) by kernel_rfl)
    · exact PySem.W.mg_of X G (show PySem.W.nsIn (K08 w.params) mainGlobals "BadBase" = some (some (.ref 53)) by kernel_rfl)
    · exact PySem.W.mg_of X G (show PySem.W.nsIn (K08 w.params) mainGlobals "BadNumber" = some (some (.ref 74)) by kernel_rfl)
    · exact PySem.W.mg_of X G (show PySem.W.nsIn (K08 w.params) mainGlobals "BadDigits" = some (some (.ref 95)) by kernel_rfl)
    · exact PySem.W.mg_of X G (show PySem.W.nsIn (K08 w.params) mainGlobals "BadRange" = some (some (.ref 116)) by kernel_rfl)
    · exact PySem.W.mg_of X G (show PySem.W.nsIn (K08 w.params) mainGlobals "BadRule" = some (some (.ref 137)) by kernel_rfl)
    · exact PySem.W.mg_of X G (show PySem.W.nsIn (K08 w.params) mainGlobals "BadReader" = some (some (.ref 158)) by kernel_rfl)
    · exact PySem.W.mg_of X G (show PySem.W.nsIn (K08 w.params) mainGlobals "BadManner" = some (some (.ref 179)) by kernel_rfl)
    · exact PySem.W.mg_of X G (show PySem.W.nsIn (K08 w.params) mainGlobals "BadEntry" = some (some (.ref 200)) by kernel_rfl)
    · exact PySem.W.mg_of X G (show PySem.W.nsIn (K08 w.params) mainGlobals "BadName" = some (some (.ref 221)) by kernel_rfl)
    · exact PySem.W.mg_of X G (show PySem.W.nsIn (K08 w.params) mainGlobals "BadText" = some (some (.ref 242)) by kernel_rfl)
    · exact PySem.W.mg_of X G (show PySem.W.nsIn (K08 w.params) mainGlobals "OtherBase" = some (some (.ref 263)) by kernel_rfl)
    · exact PySem.W.mg_of X G (show PySem.W.nsIn (K08 w.params) mainGlobals "TooMany" = some (some (.ref 284)) by kernel_rfl)
    · exact PySem.W.mg_of X G (show PySem.W.nsIn (K08 w.params) mainGlobals "Missing" = some (some (.ref 306)) by kernel_rfl)
    · exact PySem.W.mg_of X G (show PySem.W.nsIn (K08 w.params) mainGlobals "NothingLeft" = some (some (.ref 328)) by kernel_rfl)
  isi := PySem.W.mg_none_of X G (show PySem.W.nsIn (K08 w.params) mainGlobals "isinstance" = some none by kernel_rfl)
  len := PySem.W.mg_none_of X G (show PySem.W.nsIn (K08 w.params) mainGlobals "len" = some none by kernel_rfl)
theorem mgStyle : mg "Style" = some (.ref 637) := PySem.W.mg_of X G (show PySem.W.nsIn (K08 w.params) mainGlobals "Style" = some (some (.ref 637)) by kernel_rfl)
theorem f_isInt : FnOk P08 w (K08 w.params) mg base CX0 1 338 (fdX (K08 w.params) "is_integer" (top 21) 338) ["value"] (spIsInt (K08 w.params)) := ok_isInt (fn_is_integer _) (txR X G).toTxG
theorem f_isFig : FnOk P08 w (K08 w.params) mg base CX0 1 350 (fdX (K08 w.params) "is_figures" (top 23) 350) ["base", "value", "most"] (spIsFig (K08 w.params)) := ok_isFig (fn_is_figures _) (txR X G).toTxG (txR X G).all
theorem f_needB : FnOk P08 w (K08 w.params) mg base (L2.CX P08 w) 2 357 (fdX (K08 w.params) "need_base" (top 24) 357) ["base"] (spNeed (Bs (K08 w.params)) (ca08 1)) := ok_needB (ca := ca08) (fn_need_base _) (f_isInt X G) (bd_is_integer _) (txR X G).toTxI (mk1 _) (PySem.W.mg_of X G (show PySem.W.nsIn (K08 w.params) mainGlobals "BadBase" = some (some (.ref 53)) by kernel_rfl))
theorem f_size : FnOk P08 w (K08 w.params) mg base CX0 2 427 (fdX (K08 w.params) "is_size" (top 39) 427) ["value", "least"] spSize := ok_size (fn_is_size _) (f_isInt X G) (bd_is_integer _) (txR X G).toTxI (txR X G).msize
theorem f_bounds : FnOk P08 w (K08 w.params) mg base CX0 3 434 (fdX (K08 w.params) "are_bounds" (top 40) 434) ["least", "most"] spBounds := ok_bounds (fn_are_bounds _) (f_size X G) (bd_is_size _) (txR X G)
theorem f_begins : FnOk P08 w (K08 w.params) mg base CX0 1 441 (fdX (K08 w.params) "begins" (top 41) 441) ["value", "word", "many"] spBegins := ok_begins (fn_begins _) (txR X G)
theorem f_cond : FnOk P08 w (K08 w.params) mg base CX0 4 448 (fdX (K08 w.params) "is_condition" (top 42) 448) ["base", "value"] spCond := ok_cond (fn_is_condition _) ((f_isFig X G).mono (by decide)) (bd_is_figures _) ((f_size X G).mono (by decide)) (bd_is_size _) (f_bounds X G) (bd_are_bounds _) ((f_begins X G).mono (by decide)) (bd_begins _) (txR X G)
theorem f_keep : FnOk P08 w (K08 w.params) mg base CX0 3 455 (fdX (K08 w.params) "is_keep" (top 43) 455) ["value"] spKeep := ok_keep (fn_is_keep _) (f_size X G) (bd_is_size _) ((f_begins X G).mono (by decide)) (bd_begins _) (txR X G)
theorem f_rule : FnOk P08 w (K08 w.params) mg base (L2.CX P08 w) 5 460 (fdX (K08 w.params) "is_rule" (top 44) 460) ["base", "value"] (spRule (K08 w.params) ca08) := ok_rule (ca := ca08) (fn_is_rule _) ((f_needB X G).mono (by decide)) (bd_need_base _) (f_cond X G) (bd_is_condition _) ((f_keep X G).mono (by decide)) (bd_is_keep _) (txR X G)
theorem f_needR : FnOk P08 w (K08 w.params) mg base (L2.CX P08 w) 6 467 (fdX (K08 w.params) "need_rules" (top 45) 467) ["base", "rules"] (spNeedRules ca08) := ok_needRules (ca := ca08) (fn_need_rules _) (f_rule X G) (bd_is_rule _) (mk5 _) (txY X G)
theorem f_plain : FnOk P08 w (K08 w.params) mg base CX0 1 479 (fdX (K08 w.params) "plain_rule" (top 47) 479) ["rule"] spPlain := ok_plain (fn_plain_rule _) (txY X G)
theorem f_init : FnR P08 w (K08 w.params) mg base (L2.CX P08 w) 7 524 (spInitR (K08 w.params) 637 ca08) := ok_init (ca := ca08) (lkInit _) (cdInit _) (clS _) (naB _) (naR _) ((f_needB X G).mono (by decide)) (bd_need_base _) (f_needR X G) (bd_need_rules _) ((f_plain X G).mono (by decide)) (bd_plain_rule _) (txY X G)
theorem f_base : FnOk P08 w (K08 w.params) mg base CX0 1 541 (fdB w.params) ["self"] (getSp 637 "stored_base") := fn_getter (N := ["self"]) (lkB _) (cdB _) scGetB rfl rfl (clS _) (naB _)
theorem f_mixed : FnOk P08 w (K08 w.params) mg base CX0 1 691 (fdX (K08 w.params) "_law_mixed" (top 64) 691) ["cell", "k"] Dr.spMixed := Dr.ok_mixed (fn_l_mixed _) (txO X G).toTxB
theorem f_begin : FnOk P08 w (K08 w.params) mg base CX0 1 696 (fdX (K08 w.params) "_law_begin" (top 65) 696) ["script"] (Dr.spBegin (K08 w.params)) := Dr.ok_begin (fn_l_begin _) (txO X G).toTxB
theorem f_draw : FnOk P08 w (K08 w.params) mg base CX0 2 703 (fdX (K08 w.params) "_law_draw" (top 66) 703) ["state", "many"] Dr.spDraw := Dr.ok_draw (fn_l_draw _) (fn_l_mixed _) (bd_l_mixed _) (txO X G).toTxD
theorem f_of : FnOk P08 w (K08 w.params) mg base CX0 3 710 (fdX (K08 w.params) "_law_of" (top 67) 710) ["state", "some"] Dr.spOf := Dr.ok_of (fdm := fdX (K08 w.params) "_law_mixed" (top 64) 691) (fn_l_of _) (f_draw X G) (bd_l_draw _) (txO X G)
theorem txF : TxF (K08 w.params) mg 338 345 357 364 399 where
  toTxI := (txR X G).toTxI
  isNum := PySem.W.mg_of X G (show PySem.W.nsIn (K08 w.params) mainGlobals "is_number" = some (some (.ref 345)) by kernel_rfl)
  kNum := kp_is_number _
  needB := PySem.W.mg_of X G (show PySem.W.nsIn (K08 w.params) mainGlobals "need_base" = some (some (.ref 357)) by kernel_rfl)
  kNB := kp_need_base _
  needN := PySem.W.mg_of X G (show PySem.W.nsIn (K08 w.params) mainGlobals "need_number" = some (some (.ref 364)) by kernel_rfl)
  kNN := kp_need_number _
  digits := PySem.W.mg_of X G (show PySem.W.nsIn (K08 w.params) mainGlobals "digits" = some (some (.ref 399)) by kernel_rfl)
  kDg := kp_digits _
  divmod := PySem.W.mg_none_of X G (show PySem.W.nsIn (K08 w.params) mainGlobals "divmod" = some none by kernel_rfl)
theorem txF3 : TxF3 (K08 w.params) mg 338 345 357 371 where
  toTxI := (txR X G).toTxI
  isNum := PySem.W.mg_of X G (show PySem.W.nsIn (K08 w.params) mainGlobals "is_number" = some (some (.ref 345)) by kernel_rfl)
  kNum := kp_is_number _
  needB := PySem.W.mg_of X G (show PySem.W.nsIn (K08 w.params) mainGlobals "need_base" = some (some (.ref 357)) by kernel_rfl)
  kNB := kp_need_base _
  needR := PySem.W.mg_of X G (show PySem.W.nsIn (K08 w.params) mainGlobals "need_range" = some (some (.ref 371)) by kernel_rfl)
  kNR := kp_need_range _
theorem txFa : TxFa (K08 w.params) mg 371 399 420 406 413 where
  needR := PySem.W.mg_of X G (show PySem.W.nsIn (K08 w.params) mainGlobals "need_range" = some (some (.ref 371)) by kernel_rfl)
  kNR := kp_need_range _
  digits := PySem.W.mg_of X G (show PySem.W.nsIn (K08 w.params) mainGlobals "digits" = some (some (.ref 399)) by kernel_rfl)
  kDg := kp_digits _
  near := PySem.W.mg_of X G (show PySem.W.nsIn (K08 w.params) mainGlobals "near" = some (some (.ref 420)) by kernel_rfl)
  kNe := kp_near _
  length := PySem.W.mg_of X G (show PySem.W.nsIn (K08 w.params) mainGlobals "length" = some (some (.ref 406)) by kernel_rfl)
  kLe := kp_length _
  changed := PySem.W.mg_of X G (show PySem.W.nsIn (K08 w.params) mainGlobals "changed" = some (some (.ref 413)) by kernel_rfl)
  kCh := kp_changed _
  len := PySem.W.mg_none_of X G (show PySem.W.nsIn (K08 w.params) mainGlobals "len" = some none by kernel_rfl)
  mend := (by
    obtain ⟨t, e⟩ : ∃ t, PySem.W.nsIn (K08 w.params) mainGlobals "MOST_ENDING" = some (some (.int 2 t)) := ⟨tkO (PySem.W.nsIn (K08 w.params) mainGlobals "MOST_ENDING"), by kernel_rfl⟩
    exact ⟨t, PySem.W.mg_of X G e⟩)
theorem txW : TxW (K08 w.params) mg 493 498 505 where
  holds := PySem.W.mg_of X G (show PySem.W.nsIn (K08 w.params) mainGlobals "holds" = some (some (.ref 493)) by kernel_rfl)
  kHo := kp_holds _
  first := PySem.W.mg_of X G (show PySem.W.nsIn (K08 w.params) mainGlobals "first_applying" = some (some (.ref 498)) by kernel_rfl)
  kFi := kp_first_applying _
  many := PySem.W.mg_of X G (show PySem.W.nsIn (K08 w.params) mainGlobals "many_kept" = some (some (.ref 505)) by kernel_rfl)
  kMa := kp_many_kept _
  len := PySem.W.mg_none_of X G (show PySem.W.nsIn (K08 w.params) mainGlobals "len" = some none by kernel_rfl)
  range := PySem.W.mg_none_of X G (show PySem.W.nsIn (K08 w.params) mainGlobals "range" = some none by kernel_rfl)
  all := PySem.W.mg_none_of X G (show PySem.W.nsIn (K08 w.params) mainGlobals "all" = some none by kernel_rfl)
  min := PySem.W.mg_none_of X G (show PySem.W.nsIn (K08 w.params) mainGlobals "min" = some none by kernel_rfl)
  max := PySem.W.mg_none_of X G (show PySem.W.nsIn (K08 w.params) mainGlobals "max" = some none by kernel_rfl)
theorem txM : TxM (K08 w.params) mg 512 486 399 637 where
  written := PySem.W.mg_of X G (show PySem.W.nsIn (K08 w.params) mainGlobals "written" = some (some (.ref 512)) by kernel_rfl)
  kWr := kp_written _
  facts := PySem.W.mg_of X G (show PySem.W.nsIn (K08 w.params) mainGlobals "facts_of" = some (some (.ref 486)) by kernel_rfl)
  kFa := kp_facts_of _
  digits := PySem.W.mg_of X G (show PySem.W.nsIn (K08 w.params) mainGlobals "digits" = some (some (.ref 399)) by kernel_rfl)
  kDg := kp_digits _
  cl := clS _
  nB := naB _
  nR := naR _
theorem txP : TxP (K08 w.params) mg 338 345 350 357 364 378 385 392 649 656 642 where
  toTxI := (txR X G).toTxI
  range := PySem.W.mg_none_of X G (show PySem.W.nsIn (K08 w.params) mainGlobals "range" = some none by kernel_rfl)
  many := (by
    obtain ⟨t, e⟩ : ∃ t, PySem.W.nsIn (K08 w.params) mainGlobals "MOST_TAIL" = some (some (.int 1000 t)) := ⟨tkO (PySem.W.nsIn (K08 w.params) mainGlobals "MOST_TAIL"), by kernel_rfl⟩
    exact ⟨t, PySem.W.mg_of X G e⟩)
  isNum := PySem.W.mg_of X G (show PySem.W.nsIn (K08 w.params) mainGlobals "is_number" = some (some (.ref 345)) by kernel_rfl)
  kNum := kp_is_number _
  isFig := PySem.W.mg_of X G (show PySem.W.nsIn (K08 w.params) mainGlobals "is_figures" = some (some (.ref 350)) by kernel_rfl)
  kFig := kp_is_figures _
  needB := PySem.W.mg_of X G (show PySem.W.nsIn (K08 w.params) mainGlobals "need_base" = some (some (.ref 357)) by kernel_rfl)
  kNB := kp_need_base _
  needN := PySem.W.mg_of X G (show PySem.W.nsIn (K08 w.params) mainGlobals "need_number" = some (some (.ref 364)) by kernel_rfl)
  kNN := kp_need_number _
  raised := PySem.W.mg_of X G (show PySem.W.nsIn (K08 w.params) mainGlobals "raised" = some (some (.ref 378)) by kernel_rfl)
  kRa := kp_raised _
  behind := PySem.W.mg_of X G (show PySem.W.nsIn (K08 w.params) mainGlobals "behind" = some (some (.ref 385)) by kernel_rfl)
  kBe := kp_behind _
  worth := PySem.W.mg_of X G (show PySem.W.nsIn (K08 w.params) mainGlobals "worth" = some (some (.ref 392)) by kernel_rfl)
  kWo := kp_worth _
  needRd := PySem.W.mg_of X G (show PySem.W.nsIn (K08 w.params) mainGlobals "need_reader" = some (some (.ref 649)) by kernel_rfl)
  kNR := kp_need_reader _
  repl := PySem.W.mg_of X G (show PySem.W.nsIn (K08 w.params) mainGlobals "replaced" = some (some (.ref 656)) by kernel_rfl)
  kRp := kp_replaced _
  readers := PySem.W.mg_of X G (show PySem.W.nsIn (K08 w.params) mainGlobals "READERS" = some (some (.ref 642)) by kernel_rfl)
  rd := rd08 _
theorem txE : TxE (K08 w.params) mg 649 357 486 670 677 637 where
  needRd := PySem.W.mg_of X G (show PySem.W.nsIn (K08 w.params) mainGlobals "need_reader" = some (some (.ref 649)) by kernel_rfl)
  kNR := kp_need_reader _
  needB := PySem.W.mg_of X G (show PySem.W.nsIn (K08 w.params) mainGlobals "need_base" = some (some (.ref 357)) by kernel_rfl)
  kNB := kp_need_base _
  facts := PySem.W.mg_of X G (show PySem.W.nsIn (K08 w.params) mainGlobals "facts_of" = some (some (.ref 486)) by kernel_rfl)
  kFa := kp_facts_of _
  fewK := PySem.W.mg_of X G (show PySem.W.nsIn (K08 w.params) mainGlobals "fewest_kept" = some (some (.ref 670)) by kernel_rfl)
  kFk := kp_fewest_kept _
  few := PySem.W.mg_of X G (show PySem.W.nsIn (K08 w.params) mainGlobals "fewest" = some (some (.ref 677)) by kernel_rfl)
  kFe := kp_fewest _
  max := PySem.W.mg_none_of X G (show PySem.W.nsIn (K08 w.params) mainGlobals "max" = some none by kernel_rfl)
  cl := clS _
  nB := naB _
theorem f_isNum : FnOk P08 w (K08 w.params) mg base CX0 2 345 (fdX (K08 w.params) "is_number" (top 22) 345) ["value"] (spIsNum (K08 w.params)) := ok_isNum (fn_is_number _) (f_isInt X G) (bd_is_integer _) (txR X G).toTxI
theorem f_needN : FnOk P08 w (K08 w.params) mg base (L2.CX P08 w) 3 364 (fdX (K08 w.params) "need_number" (top 25) 364) ["number"] (spNeed (Nm (K08 w.params)) (ca08 2)) := ok_needN (ca := ca08) (fn_need_number _) (f_isNum X G) (bd_is_number _) (PySem.W.mg_of X G (show PySem.W.nsIn (K08 w.params) mainGlobals "is_number" = some (some (.ref 345)) by kernel_rfl)) (kp_is_number _) (txR X G).toTxG (mk2 _) (PySem.W.mg_of X G (show PySem.W.nsIn (K08 w.params) mainGlobals "BadNumber" = some (some (.ref 74)) by kernel_rfl))
theorem f_needRg : FnOk P08 w (K08 w.params) mg base (L2.CX P08 w) 3 371 (fdX (K08 w.params) "need_range" (top 26) 371) ["first", "second"] (spNeedR (K08 w.params) ca08) := ok_needR (ca := ca08) (fn_need_range _) (f_isNum X G) (bd_is_number _) (txF3 X G) (mk4 _) (PySem.W.mg_of X G (show PySem.W.nsIn (K08 w.params) mainGlobals "BadRange" = some (some (.ref 116)) by kernel_rfl))
theorem f_digits : FnOk P08 w (K08 w.params) mg base (L2.CX P08 w) 4 399 (fdX (K08 w.params) "digits" (top 30) 399) ["base", "number"] (spDigits (K08 w.params) ca08) := ok_digits (ca := ca08) (fn_digits _) ((f_needB X G).mono (by decide)) (bd_need_base _) (f_needN X G) (bd_need_number _) (txF X G)
theorem f_length : FnOk P08 w (K08 w.params) mg base (L2.CX P08 w) 5 406 (fdX (K08 w.params) "length" (top 31) 406) ["base", "number"] (spLength (K08 w.params) ca08) := ok_length (ca := ca08) (fn_length _) (f_digits X G) (bd_digits _) (txF X G)
theorem f_changed : FnOk P08 w (K08 w.params) mg base (L2.CX P08 w) 4 413 (fdX (K08 w.params) "changed" (top 32) 413) ["base", "first", "second"] (spRng (K08 w.params) ca08 ChgIs) := ok_changed (ca := ca08) (fn_changed _) ((f_needB X G).mono (by decide)) (bd_need_base _) (f_needRg X G) (bd_need_range _) (txF3 X G)
theorem f_near : FnOk P08 w (K08 w.params) mg base (L2.CX P08 w) 4 420 (fdX (K08 w.params) "near" (top 33) 420) ["base", "first", "second"] (spRng (K08 w.params) ca08 fun β f s m => NearIs β (s - f) m) := ok_near (ca := ca08) (fn_near _) ((f_needB X G).mono (by decide)) (bd_need_base _) (f_needRg X G) (bd_need_range _) (txF3 X G)
theorem f_facts : FnOk P08 w (K08 w.params) mg base (L2.CX P08 w) 6 486 (fdX (K08 w.params) "facts_of" (top 48) 486) ["base", "first", "second"] (spFacts (K08 w.params) ca08) := ok_facts (ca := ca08) (fn_facts_of _) ((f_needRg X G).mono (by decide)) (bd_need_range _) ((f_digits X G).mono (by decide)) (bd_digits _) ((f_near X G).mono (by decide)) (bd_near _) (f_length X G) (bd_length _) ((f_changed X G).mono (by decide)) (bd_changed _) (txFa X G)
theorem f_holds : FnOk P08 w (K08 w.params) mg base CX0 1 493 (fdX (K08 w.params) "holds" (top 49) 493) ["condition", "facts"] spHolds := ok_holds (fn_holds _)
theorem f_first : FnOk P08 w (K08 w.params) mg base CX0 2 498 (fdX (K08 w.params) "first_applying" (top 50) 498) ["rules", "facts"] spFirst := ok_first (fn_first_applying _) (f_holds X G) (bd_holds _) (txW X G)
theorem f_many : FnOk P08 w (K08 w.params) mg base CX0 1 505 (fdX (K08 w.params) "many_kept" (top 51) 505) ["keep", "facts"] spMany := ok_many (fn_many_kept _) (txW X G)
theorem f_written : FnOk P08 w (K08 w.params) mg base CX0 3 512 (fdX (K08 w.params) "written" (top 52) 512) ["rules", "facts"] spWritten := ok_written (fn_written _) (f_first X G) (bd_first_applying _) ((f_many X G).mono (by decide)) (bd_many_kept _) (txW X G)
theorem f_keptOf : FnOk P08 w (K08 w.params) mg base (L2.CX P08 w) 7 564 (fdKeptOf w.params) ["self", "first", "second"] (spM (K08 w.params) 637 ca08 fun β f s Ds =>  .int (keptD β f s Ds : Int)) := ok_keptOf (ca := ca08) (fnKeptOf _) ((f_written X G).mono (by decide)) (bd_written _) (f_facts X G) (bd_facts_of _) (txM X G)
theorem f_needRd : FnOk P08 w (K08 w.params) mg base (L2.CX P08 w) 2 649 (fdX (K08 w.params) "need_reader" (top 57) 649) ["reader"] (spNeed (Rdr (K08 w.params)) (ca08 6)) := ok_needRdR (ca := ca08) (fn_need_reader _) (txP X G) (mk6 _) (PySem.W.mg_of X G (show PySem.W.nsIn (K08 w.params) mainGlobals "BadReader" = some (some (.ref 158)) by kernel_rfl))
theorem f_raised : FnOk P08 w (K08 w.params) mg base CX0 1 378 (fdX (K08 w.params) "raised" (top 27) 378) ["base", "exponent"] spRaisedP := ok_raisedP (fn_raised _) (PySem.W.mg_none_of X G (show PySem.W.nsIn (K08 w.params) mainGlobals "range" = some none by kernel_rfl))
theorem f_behind : FnOk P08 w (K08 w.params) mg base CX0 1 385 (fdX (K08 w.params) "behind" (top 28) 385) ["number", "remainder", "step"] spBehind := ok_behind (fn_behind _)
theorem f_worth : FnOk P08 w (K08 w.params) mg base CX0 1 392 (fdX (K08 w.params) "worth" (top 29) 392) ["base", "figures"] spWorth := ok_worth (fn_worth _) (PySem.W.mg_none_of X G (show PySem.W.nsIn (K08 w.params) mainGlobals "int" = some none by kernel_rfl))
theorem f_replaced : FnOk P08 w (K08 w.params) mg base CX0 2 656 (fdX (K08 w.params) "replaced" (top 58) 656) ["base", "first", "tail"] spReplaced := ok_replaced (fn_replaced _) (f_raised X G) (bd_raised _) (f_worth X G) (bd_worth _) (txP X G)
theorem f_compl : FnOk P08 w (K08 w.params) mg base (L2.CX P08 w) 4 663 (fdX (K08 w.params) "completed" (top 59) 663) ["reader", "base", "first", "tail"] (spComplR (K08 w.params) ca08) := ok_complR (ca := ca08) (fn_completed _) ((f_raised X G).mono (by decide)) (bd_raised _) ((f_worth X G).mono (by decide)) (bd_worth _) ((f_needB X G).mono (by decide)) (bd_need_base _) (f_needN X G) (bd_need_number _) ((f_needRd X G).mono (by decide)) (bd_need_reader _) ((f_isFig X G).mono (by decide)) (bd_is_figures _) ((f_replaced X G).mono (by decide)) (bd_replaced _) ((f_behind X G).mono (by decide)) (bd_behind _) (txP X G) (mk3 _) (PySem.W.mg_of X G (show PySem.W.nsIn (K08 w.params) mainGlobals "BadDigits" = some (some (.ref 95)) by kernel_rfl))
theorem f_fewK : FnOk P08 w (K08 w.params) mg base CX0 1 670 (fdX (K08 w.params) "fewest_kept" (top 60) 670) ["reader", "facts"] spFewK := ok_fewK (fn_fewest_kept _) (PySem.W.mg_none_of X G (show PySem.W.nsIn (K08 w.params) mainGlobals "max" = some none by kernel_rfl))
theorem f_fewest : FnOk P08 w (K08 w.params) mg base (L2.CX P08 w) 7 677 (fdX (K08 w.params) "fewest" (top 61) 677) ["reader", "base", "first", "second"] (spFewestR (K08 w.params) ca08) := ok_fewestR (ca := ca08) (fn_fewest _) ((f_needRd X G).mono (by decide)) (bd_need_reader _) ((f_needB X G).mono (by decide)) (bd_need_base _) (f_facts X G) (bd_facts_of _) ((f_fewK X G).mono (by decide)) (bd_fewest_kept _) (txE X G)
theorem f_isRight : FnOk P08 w (K08 w.params) mg base (L2.CX P08 w) 9 684 (fdX (K08 w.params) "is_right" (top 62) 684) ["style", "reader", "first", "second"] (spIsRightR (K08 w.params) 637 ca08) := ok_isRightR (ca := ca08) (fn_is_right _) ((f_needRd X G).mono (by decide)) (bd_need_reader _) (mtKeptOf _) ((f_keptOf X G).mono (by decide)) (bdKeptOf _) ((f_fewest X G).mono (by decide)) (bd_fewest _) (prB _) ((f_base X G).mono (by decide)) (bdB _) (txE X G)
theorem f_hand : FnOk P08 w (K08 w.params) mg base CX0 1 724 (fdX (K08 w.params) "_law_hand_rows" (top 69) 724) [] spHand := ok_hand (fn_l_hand_rows _)
end
end KH08

/-! k08: the law's context, the things that it passes, what a refused call is read as. -/
namespace KH08
open PySem L2 Evl ExM Dg LamR LamX Told
open Dr (StAt)
abbrev sLaw : Stmt := top 70
abbrev nLaw : List Str := ["script", "state", "base", "first", "tail", "one", "other", "told", "style", "turn", "word", "bad", "no_base", "odd", "wrong", "due", "figure"]
theorem scLaw : FnScope nLaw ["script"] (defScope sLaw) := ⟨rfl, rfl, rfl, by decide +kernel, rfl, by decide +kernel, by decide +kernel⟩
def inLaw (i : Nat) : Stmt := (defBody sLaw).getD i (.Pass ⟨0, 0, 0, 0⟩)
/-- a statement of the law's loop, by its place -/
def inLoop (i : Nat) : Stmt := match inLaw 4 with
  | .For _ _ b _ _ => b.getD i (.Pass ⟨0, 0, 0, 0⟩)
  | s => s
noncomputable abbrev XL (w : World) (mg : Str → Option Value) (base : Heap) (c : Addr) (A : Around) (outer : List Env) (s : Shared) (H : Hp) (E : XK) : Cx := (cxOf CX0 P08 w (K08 w.params) mg base nLaw "law" (defScope sLaw) 731 (.ref c) A outer s H E).nox
/-- a thing that the law passes -/
inductive Pv (H : Hp) : V → PyData → Prop
  | non : Pv H .non .none
  | bl (b : Bool) : Pv H (.bl b) (.bool b)
  | int (i : Int) : Pv H (.int i) (.int i)
  | str (x : Str) : Pv H (.str x) (.str x)
  | tup {a : Addr} {is : List Int} : H a = some (.tup (is.map V.int)) → Pv H (.ref a) (.tuple (is.map PyData.int))
  | lst {a : Addr} {is : List Int} : H a = some (.lst (is.map V.int)) → Pv H (.ref a) (.list (is.map PyData.int))
  | tupS {a : Addr} {x : Str} : H a = some (.tup [.str x]) → Pv H (.ref a) (.tuple [.str x])
  | lstS {a : Addr} {x : Str} : H a = some (.lst [.str x]) → Pv H (.ref a) (.list [.str x])
  | pair {a : Addr} {v u : V} {d e : PyData} : H a = some (.tup [v, u]) → Pv H v d → Pv H u e → Pv H (.ref a) (.tuple [d, e])
theorem Pv.extN {H H' : Hp} {v : V} {d : PyData} (h : Pv H v d) (e : ExtN H H') : Pv H' v d := by
  induction h with
  | non => exact .non
  | bl b => exact .bl b
  | int i => exact .int i
  | str x => exact .str x
  | tup h => exact .tup (e _ _ h (by simp))
  | lst h => exact .lst (e _ _ h (by simp))
  | tupS h => exact .tupS (e _ _ h (by simp))
  | lstS h => exact .lstS (e _ _ h (by simp))
  | pair h _ _ i1 i2 => exact .pair (e _ _ h (by simp)) i1 i2
theorem Pv.ex {H H' : Hp} {v : V} {d : PyData} (h : Pv H v d) (e : Ex H H') : Pv H' v d := h.extN (ExtN.of e)
section
variable {K : PySem.W.Frag} {H : Hp} {v : V} {d : PyData}
theorem dpAll_ints : ∀ is : List Int, DpAll K H (is.map V.int) (is.map PyData.int)
  | [] => .nil
  | i :: is => .cons (.int i) (dpAll_ints is)
theorem Pv.dp (h : Pv H v d) : Dp K H v d := by
  induction h with
  | non => exact .non
  | bl b => exact .bl b
  | int i => exact .int i
  | str x => exact .str x
  | tup h => exact .tup (st_of h) (dpAll_ints _)
  | lst h => exact .lst (sq_of h) (dpAll_ints _)
  | tupS h => exact .tup (st_of h) (.cons (.str _) .nil)
  | lstS h => exact .lst (sq_of h) (.cons (.str _) .nil)
  | pair h _ _ i1 i2 => exact .tup (st_of h) (.cons i1 (.cons i2 .nil))
theorem Pv.dj (h : Pv H v d) : Dj K H v d := .di (.dp h.dp)
/-- no int -/
def isI : PyData → Bool
  | .int _ => true
  | _ => false
theorem Pv.kn (h : Pv H v d) (n : isI d = false) : Kn K H v false := by
  cases h with
  | non => exact .oth (x := false) (y := false) (.base .non) (by decide) (by decide) rfl
  | bl b => exact .oth (x := true) (y := true) (.base (.bl b)) (by decide) (by decide) rfl
  | int i => cases n
  | str x => exact .oth (x := false) (y := false) (.base (.str x)) (by decide) (by decide) rfl
  | tup h => exact .oth (x := false) (y := false) (.base (.tup h)) (by decide) (by decide) rfl
  | lst h => exact .oth (x := false) (y := false) (.base (.lst h)) (by decide) (by decide) rfl
  | tupS h => exact .oth (x := false) (y := false) (.base (.tup h)) (by decide) (by decide) rfl
  | lstS h => exact .oth (x := false) (y := false) (.base (.lst h)) (by decide) (by decide) rfl
  | pair h _ _ => exact .oth (x := false) (y := false) (.base (.tup h)) (by decide) (by decide) rfl
/-- no base -/
def noB : PyData → Bool
  | .int i => !(decide (2 ≤ i) && decide (i ≤ 10))
  | _ => true
/-- no number -/
def noN : PyData → Bool
  | .int i => !decide (1 ≤ i)
  | _ => true
theorem Pv.bs (h : Pv H v d) (n : noB d = true) : Bs K H v false := by
  cases hd : isI d with
  | false => exact .oth (h.kn hd)
  | true =>
    cases h with
    | int i =>
      have e : (decide (2 ≤ i) && decide (i ≤ 10)) = false := by
        cases z : (decide (2 ≤ i) && decide (i ≤ 10)) with
        | false => rfl
        | true =>
          rw [noB, z] at n
          cases n
      rw [← e]
      exact .int i
    | _ => cases hd
theorem Pv.nm (h : Pv H v d) : Nm K H v (!noN d) := by
  cases hd : isI d with
  | false =>
    have e : (!noN d) = false := by
      cases d <;> first | rfl | cases hd
    rw [e]
    exact .oth (h.kn hd)
  | true =>
    cases h with
    | int i =>
      have e : (!noN (.int i)) = decide (1 ≤ i) := by simp [noN]
      rw [e]
      exact .int i
    | _ => cases hd
end
/-- small data: shown in two thousand signs at most -/
structure Sq (d : PyData) : Prop where
  a : d.showable = true
  b : d.shown.length ≤ 3950
  c : d.depth ≤ 2
theorem sq_plain {d : PyData} (h : plainD d) (hc : cap d ≤ 3950) (c : d.depth ≤ 2) : Sq d := ⟨(shown_cap d h).1, Nat.le_trans (shown_cap d h).2 hc, c⟩
theorem Sq.pair {x : Str} {d : PyData} (hx : (PyData.str x).shown.length ≤ 30) (s : Sq d) : Sm (.tuple [.str x, d]) := by
  refine ⟨?_, ?_, ?_⟩
  · simp [PyData.showable, PyData.showableAll, s.a]
  · have h := join_cap [(PyData.str x).shown, d.shown]
    have e1 : (("(" : Str)).length = 1 := by decide
    have e2 : ((")" : Str)).length = 1 := by decide
    have hs := s.b
    have e3 : (PyData.tuple [.str x, d]).shown = ("(" : Str) ++ Str.join ", " [(PyData.str x).shown, d.shown] ++ (")" : Str) := by
      simp only [PyData.shown, PyData.shownAll, PySem.tupleText]
      rfl
    rw [e3, strLen_append, strLen_append]
    simp only [List.map_cons, List.map_nil, List.sum_cons, List.sum_nil] at h
    omega
  · have := s.c
    simp only [PyData.depth, PyData.depthAll]
    omega
/-- the drawer stands, and so do the tables -/
structure Lw (T : List (Addr × Str)) (p c l : Addr) (n : Nat) (a : Int) (H : Hp) : Prop where
  s : StAt H p c l n a
  t : Tabs T H
section
variable {T : List (Addr × Str)} {p c l : Addr} {n : Nat} {a b : Int} {H H' : Hp}
theorem stAt_extN (S : StAt H p c l n a) (e : ExtN H H') : StAt H' p c l n a :=
  ⟨e _ _ S.d (by simp), let ⟨cs, h, k⟩ := S.c; ⟨cs, e _ _ h (by simp), k⟩, let ⟨ls, h, k⟩ := S.l; ⟨ls, e _ _ h (by simp), k⟩, S.n0, S.n1, S.a0⟩
theorem Lw.ex (L : Lw T p c l n a H) (e : Ex H H') : Lw T p c l n a H' := ⟨L.s.ex e, L.t.ext e⟩
theorem Lw.extN (W : Lw T p c l n a H) (e : ExtN H H') (t : Tabs T H') : Lw T p c l n a H' := ⟨stAt_extN W.s e, t⟩
theorem tabs_same (S : StAt H p c l n a) (t : Tabs T H) (e : Dr.SameB H H' p l) : Tabs T H' := fun q hq => by
  obtain ⟨ls, hl, _⟩ := S.l
  obtain ⟨ps, h1, h2, h3⟩ := t q hq
  refine ⟨ps, e _ _ h1 (ne_of h1 S.d (by intro z; cases z)) (ne_of h1 hl (by intro z; cases z)), h2, fun pos cv hc => ?_⟩
  obtain ⟨co, e1, e2⟩ := h3 pos cv hc
  exact ⟨co, e1, e _ _ e2 (ne_of e2 S.d (by intro z; cases z)) (ne_of e2 hl (by intro z; cases z))⟩
theorem Lw.same (L : Lw T p c l n a H) (S : StAt H' p c l n b) (e : Dr.SameB H H' p l) : Lw T p c l n b H' := ⟨S, tabs_same L.s L.t e⟩
theorem Lw.off (L : Lw T p c l n a H) {x : Addr} (h : H x = none) : x ≠ p ∧ x ≠ l := by
  obtain ⟨ls, hl, _⟩ := L.s.l
  exact ⟨(ne_of_none L.s.d h).symm, (ne_of_none hl h).symm⟩
end
/-- what stands when one empty list goes on to be filled -/
def KeepsA (A : List V → Hp → Prop) : Prop := ∀ vs H H2 fl, A vs H → H fl = some (.lst []) → (∀ b o, H b = some o → b ≠ fl → H2 b = some o) → A vs H2
section
variable {K : PySem.W.Frag} {ca : Nat → Addr} {T : List (Addr × Str)} {t : XK → TE} {σ : St} {H : Hp} {Q : VK} {n : Nat} {A : List V → Hp → Prop}
/-- the lambda raises: the word and what the exception holds stand in a new tuple -/
theorem rd_raisedA (hT : Tabs T H) (kA : KeepsA A) (call : ∀ H1, ExtN H H1 → ∀ HZ, Ex H1 HZ → ∀ (E : XK) (Q' : VK), (∀ cls d H2 vs, Ex HZ H2 → Says ca H2 cls d n vs → A vs H2 → E cls d H2) → t E σ HZ Q')
    (k : ∀ vs rt H2, ExtN H H2 → Tabs T H2 → A vs H2 → H2 rt = some (.tup (.str (wdN n) :: vs)) → Q (.ref rt) H2) : tLam T (TTold ca) t σ H Q :=
  ⟨hT, fun H1 e1 T1 fl hfl => call H1 e1 _ (Ex.new hfl) _ _ fun cls d H2 vs e2 S a => ⟨e2 _ _ upd_same, n, vs, S, fun rt H3 _ kp h3 => by
    have all : ∀ b o, H1 b = some o → H3 b = some o := fun b o e => kp b o (e2 b o ((Ex.new hfl) b o e)) (ne_of_none e hfl)
    exact k vs rt H3 (fun b o e nt => all b o (e1 b o e nt)) (T1.ext all) (kA vs H2 H3 fl a (e2 _ _ upd_same) kp) h3⟩⟩
theorem says_one {H : Hp} {d : Addr} {i : Nat} {v : V} (i1 : 1 ≤ i) (i14 : i ≤ 14) (z10 : i ≠ 10) (z11 : i ≠ 11) (z14 : i ≠ 14) (h : H d = some (.xd [(fdN i, v)])) : Says ca H (.ref (ca i)) (some d) i [v] :=
  ⟨rfl, i1, i14, .inr (.inr ⟨z10, z11, z14, d, v, rfl, h, rfl⟩)⟩
/-- the value itself -/
def Is1 (v : V) : List V → Hp → Prop := fun vs _ => vs = [v]
theorem is1_keeps (v : V) : KeepsA (Is1 v) := fun _ _ _ _ h _ _ => h
theorem leaves_of {HZ : Hp} {E : XK} {i : Nat} {v : V} (i1 : 1 ≤ i) (i14 : i ≤ 14) (z10 : i ≠ 10) (z11 : i ≠ 11) (z14 : i ≠ 14) (hf : fdN i = "value") (hE : ∀ cls d H2 vs, Ex HZ H2 → Says ca H2 cls d i vs → Is1 v vs H2 → E cls d H2) : Leaves (ca i) "value" v HZ E := fun H2 d e hd =>
  hE _ _ _ [v] (e.trans (Ex.new hd)) (says_one i1 i14 z10 z11 z14 (by rw [hf]; exact upd_same)) rfl
/-- a pair of that data -/
def IsP (D : PyData) : List V → Hp → Prop := fun vs H => ∃ t v u d e, D = .tuple [d, e] ∧ vs = [.ref t] ∧ H t = some (.tup [v, u]) ∧ Pv H v d ∧ Pv H u e
theorem Pv.fill {H H2 : Hp} {fl : Addr} {v : V} {d : PyData} (h : Pv H v d) (hd : d ≠ .list []) (hd2 : ∀ x y, d ≠ .tuple [x, y]) (hf : H fl = some (.lst [])) (kp : ∀ b o, H b = some o → b ≠ fl → H2 b = some o) : Pv H2 v d := by
  cases h with
  | non => exact .non
  | bl b => exact .bl b
  | int i => exact .int i
  | str x => exact .str x
  | tup h => exact .tup (kp _ _ h (fun z => by rw [z, hf] at h; cases h))
  | @lst a is h =>
    refine .lst (kp _ _ h (fun z => hd ?_))
    rw [z, hf] at h
    have : is.map V.int = [] := by
      injection h with h
      injection h with h
      exact h.symm
    rw [List.map_eq_nil_iff.mp this]
    rfl
  | tupS h => exact .tupS (kp _ _ h (fun z => by rw [z, hf] at h; cases h))
  | lstS h => exact .lstS (kp _ _ h (fun z => by rw [z, hf] at h; cases h))
  | pair h _ _ => exact absurd rfl (hd2 _ _)
theorem isP_keeps {d e : PyData} (h1 : d ≠ .list []) (h2 : ∀ x y, d ≠ .tuple [x, y]) (h3 : e ≠ .list []) (h4 : ∀ x y, e ≠ .tuple [x, y]) : KeepsA (IsP (.tuple [d, e])) := fun vs H H2 fl ⟨t, v, u, d', e', hD, hv, ht, pv, pu⟩ hf kp => by
  injection hD with hD
  injection hD with hD1 hD
  injection hD with hD2 _
  subst hD1 hD2
  exact ⟨t, v, u, _, _, rfl, hv, kp _ _ ht (fun z => by rw [z, hf] at ht; cases ht), pv.fill h1 h2 hf kp, pu.fill h3 h4 hf kp⟩
theorem leavesP_of {HZ : Hp} {E : XK} {v u : V} {d e : PyData} (pv : Pv HZ v d) (pu : Pv HZ u e) (hE : ∀ cls d' H2 vs, Ex HZ H2 → Says ca H2 cls d' 4 vs → IsP (.tuple [d, e]) vs H2 → E cls d' H2) : LeavesP (ca 4) v u HZ E := fun H2 t x ex ht hx =>
  hE _ _ _ [.ref t] (ex.trans (Ex.new hx)) (says_one (by decide) (by decide) (by decide) (by decide) (by decide) upd_same) ⟨t, v, u, d, e, rfl, rfl, (Ex.new hx) _ _ ht, pv.ex (ex.trans (Ex.new hx)), pu.ex (ex.trans (Ex.new hx))⟩
theorem IsP.pv {D : PyData} {vs : List V} {H : Hp} (h : IsP D vs H) : ∃ v, vs = [v] ∧ Pv H v D := by
  obtain ⟨t, v, u, d, e, rfl, rfl, ht, pv, pu⟩ := h
  exact ⟨_, rfl, .pair ht pv pu⟩
end
end KH08

namespace L2
open PySem PySem.Spec PyProof.Rows
theorem fold_sign (c : Nat) : ∀ (n : Nat) (a : Array Nat), (List.replicate n #[c]).foldl (· ++ ·) a = a ++ (List.replicate n c).toArray
  | 0, a => by simp
  | n + 1, a => by
    rw [List.replicate_succ, List.foldl_cons, fold_sign c n, List.replicate_succ]
    apply Array.toList_inj.mp
    simp
/-- a text of one sign times a number -/
theorem op_repS {X : Cx} : OpR X (binaryOp .Mult) (fun x y H Q => ∃ c n : Nat, x = .str ⟨#[c]⟩ ∧ y = .int (n : Int) ∧ 2 ≤ n ∧ n ≤ 100000 ∧ Q (.str ⟨(List.replicate n c).toArray⟩) H) := by
  intro pins s σ H x y v u Q I rx ry h
  obtain ⟨c, n, rfl, rfl, n2, nz, q⟩ := h
  obtain ⟨t, rfl⟩ := rx
  obtain ⟨t', rfl⟩ := ry
  have l1 : (⟨#[c]⟩ : Str).length = 1 := rfl
  refine P.mul_str ?_ (fun _ _ => ?_) (fun _ _ => ?_) ?_
  · rw [decide_eq_false (by omega), decide_eq_false (by omega)]
    rfl
  · rw [l1]
    have : (1 : Int) ≤ (2 ^ 63 - 1) / (n : Int) := by
      rw [Int.le_ediv_iff_mul_le (by omega)]
      omega
    omega
  · rw [l1]
    unfold PySem.Builtin.Str.tooLong
    apply decide_eq_false
    rw [show (1 * (n : Int).toNat) = n by omega]
    have := sizeLine_eq
    omega
  · rw [if_neg (by omega), if_neg (by rw [l1]; simp; omega)]
    rw [show (n : Int).toNat = n by omega, fold_sign]
    refine ⟨?_, .str _, H, I.tok _, ⟨_, rfl⟩, ?_⟩
    · show (#[] ++ (List.replicate n c).toArray).size ≤ sizeLine
      rw [sizeLine_eq]
      simp
      omega
    · simpa using q
end L2

namespace KH08
open PySem L2 Evl ExM Dg Dt LamR LamX Told TL StX ClX
open Dr (StAt SameB)
structure TxL (mg : Str → Option Value) : Prop where
  of : mg "_law_of" = some (.ref 710)
  hand : mg "_law_hand_rows" = some (.ref 724)
  begin : mg "_law_begin" = some (.ref 696)
  raised : mg "_law_raised" = some (.ref 717)
  compl : mg "completed" = some (.ref 663)
  few : mg "fewest" = some (.ref 677)
  isR : mg "is_right" = some (.ref 684)
  repr : mg "repr" = none
  range : mg "range" = none
  min : mg "min" = none
theorem lk08 (p : Params) : (K08 p).lookup 717 = some ⟨(oO (K08 p) 717).cls, (oO (K08 p) 717).dict, .func (fdX (K08 p) "_law_raised" (top 68) 717), (oO (K08 p) 717).slots⟩ := by kernel_rfl
theorem hcd08 (p : Params) : PySem.W.codeIn (K08 p) (fO (K08 p) 717).code "_law_raised" = true := by kernel_rfl
structure Rm (w : World) (mg : Str → Option Value) (base : Heap) (c : Addr) (A : Around) (outer : List Env) (s : Shared) (H : Hp) (E : XK) (P : Addr) (T : List (Addr × Str)) : Prop where
  hr : RoomG 14 (XL w mg base c A outer s H E).A
  hu64 : (XL w mg base c A outer s H E).A.units + 64 < cLine
  TB : TabB base mg c P
  hT : (P, ("law.<locals>.<lambda>" : Str)) ∈ T
  hu : ∀ p ∈ T, p.1 = P → p.2 = ("law.<locals>.<lambda>" : Str)
/-- what is no reader, what no figures of base 10 -/
theorem fold_len (q : Nat) : ∀ (cs : List Nat) (acc : Array Nat), (∀ c ∈ cs, (Builtin.Str.reprChar q c).length ≤ 1) → (cs.foldl (fun out c => out ++ (Builtin.Str.reprChar q c).toArray) acc).size ≤ acc.size + cs.length
  | [], acc, _ => by simp
  | c :: cs, acc, h => by
    have h1 := h c (List.mem_cons_self ..)
    have h2 := fold_len q cs (acc ++ (Builtin.Str.reprChar q c).toArray) fun x hx => h x (List.mem_cons_of_mem _ hx)
    rw [List.foldl_cons, List.length_cons]
    rw [Array.size_append] at h2
    simp only [List.size_toArray] at h2
    omega
theorem quote_two (x : Str) : reprQuote x = 39 ∨ reprQuote x = 34 := by
  unfold reprQuote
  split
  · exact .inr rfl
  · exact .inl rfl
theorem sq_ones {n : Nat} (h : n ≤ 3900) : Sq (.str ⟨(List.replicate n 49).toArray⟩) := by
  refine ⟨by simp [PyData.showable], ?_, by simp [PyData.depth]⟩
  simp only [PyData.shown]
  obtain ⟨q, hq⟩ : ∃ q, q = reprQuote ⟨(List.replicate n 49).toArray⟩ := ⟨_, rfl⟩
  have h1 : (Builtin.Str.reprChar q 49).length ≤ 1 := by
    rcases quote_two ⟨(List.replicate n 49).toArray⟩ with z | z
    · rw [hq, z]
      decide +kernel
    · rw [hq, z]
      decide +kernel
  show (reprText _).cps.size ≤ 3950
  unfold reprText
  rw [← hq]
  have h2 := fold_len q (List.replicate n 49) #[q] fun c hc => by
    rw [List.eq_of_mem_replicate hc]
    exact h1
  have h3 : (Array.foldl (fun out c => out ++ (Builtin.Str.reprChar q c).toArray) #[q] (List.replicate n 49).toArray) = (List.replicate n 49).foldl (fun out c => out ++ (Builtin.Str.reprChar q c).toArray) #[q] := by rw [← Array.foldl_toList]
  rw [Array.size_push, h3]
  rw [List.length_replicate] at h2
  have : (#[q] : Array Nat).size = 1 := rfl
  omega
def noR : PyData → Bool
  | .str x => !decide (isRd x)
  | _ => true
def noF : PyData → Bool
  | .str x => !isFigs 10 1000 x
  | _ => true
def shF : PyData → Bool
  | .str x => decide (x.length ≤ 2000)
  | _ => true
theorem Pv.rdr {K : PySem.W.Frag} {H : Hp} {v : V} {d : PyData} (h : Pv H v d) (n : noR d = true) : Rdr K H v false := by
  cases h with
  | str x =>
    have e : decide (isRd x) = false := by
      have : (!decide (isRd x)) = true := n
      simpa using this
    rw [← e]
    exact .str x
  | non => exact .oth (.oth (.base .non) (by decide))
  | bl b => exact .oth (.oth (.base (.bl b)) (by decide))
  | int i => exact .oth (.oth (.base (.int i)) (by decide))
  | tup h => exact .oth (.oth (.base (.tup h)) (by decide))
  | lst h => exact .oth (.oth (.base (.lst h)) (by decide))
  | tupS h => exact .oth (.oth (.base (.tup h)) (by decide))
  | lstS h => exact .oth (.oth (.base (.lst h)) (by decide))
  | pair h _ _ => exact .oth (.oth (.base (.tup h)) (by decide))
theorem Pv.txF {K : PySem.W.Frag} {H : Hp} {v : V} {d : PyData} (h : Pv H v d) (n : noF d = true) (l : shF d = true) : ∃ o, Tx K H v o ∧ (∀ x, o = some x → x.length ≤ sizeLine) ∧ figsO 10 1000 o = false ∧ ∀ x, o = some x → isFigs 10 1000 x = true → False := by
  have no : ∀ {v}, Tx K H v none → ∃ o, Tx K H v o ∧ (∀ x, o = some x → x.length ≤ sizeLine) ∧ figsO 10 1000 o = false ∧ ∀ x, o = some x → isFigs 10 1000 x = true → False := fun t => ⟨none, t, (fun x e => by cases e), rfl, (fun x e => by cases e)⟩
  cases h with
  | str x =>
    have e : isFigs 10 1000 x = false := by
      have : (!isFigs 10 1000 x) = true := n
      simpa using this
    have el : x.length ≤ 2000 := of_decide_eq_true l
    exact ⟨some x, .str x, fun y h => by
      cases h
      exact Nat.le_trans el (by rw [sizeLine_eq]; decide), e, fun y h hf => by
      cases h
      rw [e] at hf
      cases hf⟩
  | non => exact no (.oth (.base .non) (by decide))
  | bl b => exact no (.oth (.base (.bl b)) (by decide))
  | int i => exact no (.oth (.base (.int i)) (by decide))
  | tup h => exact no (.oth (.base (.tup h)) (by decide))
  | lst h => exact no (.oth (.base (.lst h)) (by decide))
  | tupS h => exact no (.oth (.base (.tup h)) (by decide))
  | lstS h => exact no (.oth (.base (.lst h)) (by decide))
  | pair h _ _ => exact no (.oth (.base (.tup h)) (by decide))
theorem rdr_yes {K : PySem.W.Frag} {H : Hp} {r : Str} (h : isRd r) : Rdr K H (.str r) true := by
  rw [← decide_eq_true h]
  exact .str r
theorem wd_len {n : Nat} (h1 : 1 ≤ n) (h3 : n ≤ 6) : (PyData.str (wdN n)).shown.length ≤ 30 := by
  have cc : n = 1 ∨ n = 2 ∨ n = 3 ∨ n = 4 ∨ n = 5 ∨ n = 6 := by omega
  rcases cc with rfl | rfl | rfl | rfl | rfl | rfl <;> decide +kernel
theorem pl_int {n : Nat} (h : n < 2 ^ 1000) : plainD (.int (n : Int)) := by
  show (n : Int).natAbs.log2 < 1920
  rw [Int.natAbs_natCast]
  rcases Nat.eq_zero_or_pos n with z | z
  · rw [z]
    decide
  · exact Nat.lt_of_lt_of_le ((Nat.log2_lt (by omega)).mpr h) (by decide)
theorem pl_i {i : Int} (h : i.natAbs < 2 ^ 64) : plainD (.int i) := by
  show i.natAbs.log2 < 1920
  by_cases hz : i.natAbs = 0
  · rw [hz]; decide
  · exact Nat.lt_of_lt_of_le ((Nat.log2_lt hz).mpr h) (by decide)
theorem pl_str {x : Str} (h : ∀ c ∈ x.cps.toList, c < 16 ^ 8) : plainD (.str x) := h
theorem sq_pair {d e : PyData} (h1 : plainD d) (h2 : plainD e) (c : cap d + cap e ≤ 3900) (k1 : d.depth ≤ 0) (k2 : e.depth ≤ 0) : Sq (.tuple [d, e]) :=
  sq_plain ⟨h1, h2, trivial⟩ (by simp only [cap, capAll]; omega) (by simp only [PyData.depth, PyData.depthAll]; omega)
theorem dep_int (i : Int) : (PyData.int i).depth ≤ 0 := by simp [PyData.depth]
theorem stAt_upd {H : Hp} {p c l x : Addr} {n : Nat} {a : Int} {o : HO} (S : StAt H p c l n a) (h : x ≠ p ∧ x ≠ c ∧ x ≠ l) : StAt (upd H x o) p c l n a :=
  ⟨by rw [upd_ne h.1.symm]; exact S.d, let ⟨cs, k, z⟩ := S.c; ⟨cs, by rw [upd_ne h.2.1.symm]; exact k, z⟩, let ⟨ls, k, z⟩ := S.l; ⟨ls, by rw [upd_ne h.2.2.symm]; exact k, z⟩, S.n0, S.n1, S.a0⟩
/-- lists that begin with an address are none of the drawer's -/
theorem ref_off {H : Hp} {p c l x r : Addr} {n : Nat} {a : Int} {vs : List V} (S : StAt H p c l n a) (h : H x = some (.lst (.ref r :: vs))) : x ≠ p ∧ x ≠ c ∧ x ≠ l := by
  obtain ⟨cs, hc, _⟩ := S.c
  obtain ⟨ls, hl, _⟩ := S.l
  have no : ∀ is : List Int, HO.lst (is.map V.int) ≠ .lst (.ref r :: vs) := fun is z => by
    injection z with z
    cases is <;> cases z
  refine ⟨ne_of h S.d (by intro z; cases z), fun z => ?_, fun z => ?_⟩
  · rw [z, hc] at h
    injection h with h
    exact no _ h
  · rw [z, hl] at h
    injection h with h
    exact no _ h
theorem tabs_upd {T : List (Addr × Str)} {H : Hp} {x : Addr} {ys zs : List V} (t : Tabs T H) (h : H x = some (.lst ys)) : Tabs T (upd H x (.lst zs)) := fun q hq => by
  obtain ⟨ps, h1, h2, h3⟩ := t q hq
  refine ⟨ps, (by rw [upd_ne (ne_of h1 h (by intro z; cases z))]; exact h1), h2, fun pos cv hc => ?_⟩
  obtain ⟨co, e1, e2⟩ := h3 pos cv hc
  exact ⟨co, e1, by rw [upd_ne (ne_of e2 h (by intro z; cases z))]; exact e2⟩
theorem lw_upd {T : List (Addr × Str)} {H : Hp} {p c l x r : Addr} {n : Nat} {a : Int} {vs zs : List V} (W : Lw T p c l n a H) (h : H x = some (.lst (.ref r :: vs))) : Lw T p c l n a (upd H x (.lst zs)) := ⟨stAt_upd W.s (ref_off W.s h), tabs_upd W.t h⟩
theorem Pv.updL {H : Hp} {x r : Addr} {vs zs : List V} {v : V} {d : PyData} (k : Pv H v d) (h : H x = some (.lst (.ref r :: vs))) : Pv (upd H x (.lst zs)) v d := by
  induction k with
  | non => exact .non
  | bl b => exact .bl b
  | int i => exact .int i
  | str x => exact .str x
  | tup k => exact .tup (by rw [upd_ne (ne_of k h (by intro z; cases z))]; exact k)
  | @lst a is k =>
    refine .lst (is := is) ?_
    rw [upd_ne (fun z => ?_)]
    · exact k
    · rw [z, h] at k
      injection k with k
      injection k with k
      cases is <;> cases k
  | tupS k => exact .tupS (by rw [upd_ne (ne_of k h (by intro z; cases z))]; exact k)
  | @lstS a y k =>
    refine .lstS ?_
    rw [upd_ne (fun z => ?_)]
    · exact k
    · rw [z, h] at k
      injection k with k
      injection k with k
      cases k
  | pair k _ _ i1 i2 => exact .pair (by rw [upd_ne (ne_of k h (by intro z; cases z))]; exact k) i1 i2
/-- Style(.., ..) by its positional promise: what is passed behind the base -/
theorem rd_mk {K : PySem.W.Frag} {C : Addr} {ca : Nat → Addr} {H : Hp} {Q : VK} {E : XK} {β : Nat} {rs : List V} {Ds : List PyData} (b2 : 2 ≤ β) (b10 : β ≤ 10) (kr : PtAll H rs Ds) (h20 : rs.length ≤ 100) (hD : Due ca H E (dueD β Ds) (∀ x H', Ex H H' → StyAt H' C x β Ds → Q (.ref x) H')) :
    ∀ x dx, H x = Option.none → H dx = Option.none → dx ≠ x → spInitR K C ca (V.ref x :: (.int (β : Int) :: rs)) (upd (upd H dx (.own x)) x (.ins C dx [])) (fun v H2 => v = .non ∧ Q (.ref x) H2) E := fun x dx hx hdx hne => by
  refine ⟨[.ref x, .int β], rs, rfl, rfl, by rw [sizeLine_eq]; omega, fun p hp => ?_⟩
  have eA : Ex H (upd (upd H dx (.own x)) x (.ins C dx [])) := (Ex.new hdx).trans (Ex.new (by rw [upd_ne (Ne.symm hne)]; exact hx))
  have eB := Ex.new (o := .tup rs) hp
  have eAB := eA.trans eB
  refine ⟨x, p, dx, .int β, rs, Ds, true, rfl, eB _ _ upd_same, upd_same, kr.ex eAB, bs_yes b2 b10, (fun z => nomatch z), fun _ => ⟨β, rfl, b2, b10, ⟨fun pl hpl => (hD.bad pl hpl).go eAB, fun hn t2 H' kx hx' k' => ⟨rfl, ?_⟩⟩⟩⟩
  refine hD.ok hn x H' (fun b o h => ?_) ⟨dx, t2, hx', k'⟩
  exact kx b o (eAB _ _ h) (ne_of_none h hx)
theorem rd_makeP {K : PySem.W.Frag} {C : Addr} {ca : Nat → Addr} {σ : St} {H : Hp} {t : TA} {Q : VK} {E : XK} {β : Nat} {Ds : List PyData} (h : EvPA t σ H (.int (β : Int) :: Ds)) (b2 : 2 ≤ β) (b10 : β ≤ 10) (hl : Ds.length ≤ 100) (hd : dueD β Ds = none) (q : ∀ x H', Ex H H' → StyAt H' C x β Ds → Q (.ref x) H') : tMakeR C (spInitR K C ca) E t σ H Q :=
  h H (Ex.refl H) _ fun vs H2 e2 ks => by
    cases ks with
    | cons k0 kr =>
      cases k0
      exact rd_mk b2 b10 kr (by rw [kr.length]; exact hl) ⟨fun pl hp => (by rw [hd] at hp; cases hp), fun _ x H' e sty => q x H' (e2.trans e) sty⟩
/-- a thing that stays where only the drawer goes on -/
structure Thing (H : Hp) (p l : Addr) (v : V) (d : PyData) : Prop where
  k : ∀ H', SameB H H' p l → Pv H' v d
  s : Sq d
theorem Thing.same {H H' : Hp} {p l : Addr} {v : V} {d : PyData} (t : Thing H p l v d) (e : SameB H H' p l) : Thing H' p l v d := ⟨fun H2 e2 => t.k H2 (sameB_trans e e2), t.s⟩
theorem Thing.pv {H : Hp} {p l : Addr} {v : V} {d : PyData} (t : Thing H p l v d) : Pv H v d := t.k H fun _ _ h _ _ => h
/-- what was told so far -/
inductive TAll (H : Hp) : List Addr → List PyData → Prop
  | nil : TAll H [] []
  | cons {r : Addr} {rs : List Addr} {w : Str} {b : V} {d : PyData} {Ds : List PyData} : H r = some (.tup [.str w, b]) → Pv H b d → TAll H rs Ds → TAll H (r :: rs) (.tuple [.str w, d] :: Ds)
theorem TAll.extN {H H' : Hp} {rs : List Addr} {Ds : List PyData} (t : TAll H rs Ds) (e : ExtN H H') : TAll H' rs Ds := by
  induction t with
  | nil => exact .nil
  | cons h k _ ih => exact .cons (e _ _ h (by simp)) (k.extN e) ih
theorem TAll.updL {H : Hp} {x r : Addr} {vs zs : List V} {rs : List Addr} {Ds : List PyData} (t : TAll H rs Ds) (h : H x = some (.lst (.ref r :: vs))) : TAll (upd H x (.lst zs)) rs Ds := by
  induction t with
  | nil => exact .nil
  | cons g k _ ih => exact .cons (by rw [upd_ne (ne_of g h (by intro z; cases z))]; exact g) (k.updL h) ih
theorem TAll.snoc {H : Hp} {rs : List Addr} {Ds : List PyData} {q : Addr} {w : Str} {b : V} {d : PyData} (t : TAll H rs Ds) (h : H q = some (.tup [.str w, b])) (k : Pv H b d) : TAll H (rs ++ [q]) (Ds ++ [.tuple [.str w, d]]) := by
  induction t with
  | nil => exact .cons h k .nil
  | cons g k' _ ih => exact .cons g k' ih
theorem TAll.dj {K : PySem.W.Frag} {H : Hp} {rs : List Addr} {Ds : List PyData} (t : TAll H rs Ds) : DjAll K H (rs.map V.ref) Ds := by
  induction t with
  | nil => exact .nil
  | cons g k _ ih => exact .cons (.pair (st_of g) k.dj) ih
structure ToldB (H : Hp) (tp : Addr) (rs : List Addr) (Ds : List PyData) : Prop where
  l : H tp = some (.lst (rs.map V.ref))
  k : TAll H rs Ds
theorem ToldB.extN {H H' : Hp} {tp r : Addr} {rs : List Addr} {Ds : List PyData} (t : ToldB H tp (r :: rs) Ds) (e : ExtN H H') : ToldB H' tp (r :: rs) Ds := ⟨e _ _ t.l (by simp), t.k.extN e⟩
theorem ToldB.app {H : Hp} {tp r q : Addr} {rs : List Addr} {Ds : List PyData} {w : Str} {b : V} {d : PyData} (t : ToldB H tp (r :: rs) Ds) (h : H q = some (.tup [.str w, b])) (pv : Pv H b d) : ToldB (upd H tp (.lst ((r :: rs).map V.ref ++ [.ref q]))) tp (r :: rs ++ [q]) (Ds ++ [.tuple [.str w, d]]) := by
  have hl : H tp = some (.lst (.ref r :: rs.map V.ref)) := t.l
  exact ⟨by rw [upd_same, List.map_append]; rfl, (t.k.snoc h pv).updL hl⟩
/-- the style -/
def stD : List PyData := [.tuple [.tuple [], .tuple [.str "last", .int 1]]]
theorem st_due : dueD 10 stD = none := by decide +kernel
theorem st_row : RowS 10 stD := ⟨by decide, by decide, by decide +kernel⟩
theorem sty_updL {H : Hp} {x y : Addr} {ys zs : List V} (R : StyAt H 637 x 10 stD) (h : H y = some (.lst ys)) : StyAt (upd H y (.lst zs)) 637 x 10 stD := by
  obtain ⟨dx, t, h1, h2⟩ := R
  exact ⟨dx, t, by rw [upd_ne (ne_of h1 h (by intro z; cases z))]; exact h1, h2.tk (tupK_upd h) (by decide +kernel)⟩
/-- the values of a turn -/
structure Vals (H : Hp) (x : Addr) (r : Str) (vb vn vo vw : V) (db dn dO dw : PyData) : Prop where
  rd : isRd r
  st : StyAt H 637 x 10 stD
  b : Pv H vb db
  n : Pv H vn dn
  o : Pv H vo dO
  w : Pv H vw dw
  nb : noR db = true
  nn : noB dn = true
  no : noN dO = true
  nw : noF dw = true
  lw : shF dw = true
  sb : Sq db
  sn : Sq dn
  so : Sq dO
  sw : Sq dw
  o1 : dO ≠ .list []
  o2 : ∀ x y, dO ≠ .tuple [x, y]
  so2 : Sq (.tuple [dO, .int 9])
  so3 : Sq (.tuple [.int 9, dO])
theorem Vals.extN {H H' : Hp} {x : Addr} {r : Str} {vb vn vo vw : V} {db dn dO dw : PyData} (v : Vals H x r vb vn vo vw db dn dO dw) (e : ExtN H H') : Vals H' x r vb vn vo vw db dn dO dw := ⟨v.rd, v.st.extN e, v.b.extN e, v.n.extN e, v.o.extN e, v.w.extN e, v.nb, v.nn, v.no, v.nw, v.lw, v.sb, v.sn, v.so, v.sw, v.o1, v.o2, v.so2, v.so3⟩
theorem Vals.updL {H : Hp} {y q : Addr} {ys zs : List V} {x : Addr} {r : Str} {vb vn vo vw : V} {db dn dO dw : PyData} (v : Vals H x r vb vn vo vw db dn dO dw) (h : H y = some (.lst (.ref q :: ys))) : Vals (upd H y (.lst zs)) x r vb vn vo vw db dn dO dw := ⟨v.rd, sty_updL v.st h, v.b.updL h, v.n.updL h, v.o.updL h, v.w.updL h, v.nb, v.nn, v.no, v.nw, v.lw, v.sb, v.sn, v.so, v.sw, v.o1, v.o2, v.so2, v.so3⟩
theorem one_fig {x : Str} (h : ∀ c ∈ x.cps.toList, c < 16 ^ 8) (h2 : x.length ≤ 390) : Sq (.str x) := sq_plain (pl_str h) (by simp only [cap]; omega) (by simp [PyData.depth])
section
variable {w : World} {mg : Str → Option Value} {h base : Heap} (X : (K08 w.params).In h) (G : h.Ns mainGlobals mg) {c : Addr} {A : Around} {outer : List Env} {s : Shared} {H0 : Hp} {E0 : XK} {P : Addr} {T : List (Addr × Str)} (R : Rm w mg base c A outer s H0 E0 P T) (L : TxL mg)
include X G R L
theorem row0 : ∃ t, PS (XL w mg base c A outer s H0 E0) (inLoop 0) t ∧ ∀ (D : Ends) (H : Hp) (sc p cc l : Addr) (n : Nat) (a : Int) (x2 x3 x4 x5 x6 x7 x8 x9 x10 x11 x12 x13 x14 x15 x16 : Option V), l ≠ cc → a + 2 < 2 ^ 39 → Lw T p cc l n a H →
    (∀ (r : Str) (H' : Hp), isRd r → SameB H H' p l → Lw T p cc l n (a + 1) H' → D.nx [some (.ref sc), some (.ref p), x2, x3, x4, x5, x6, x7, x8, x9, some (.str r), x11, x12, x13, x14, x15, x16] H') → t D [some (.ref sc), some (.ref p), x2, x3, x4, x5, x6, x7, x8, x9, x10, x11, x12, x13, x14, x15, x16] H := by
  obtain ⟨hr, hu64, TB, hT, hu⟩ := R
  refine ⟨_, (ps_set (i := 10) scLaw.nd rfl (.inr rfl) (pe_call (f_of X G) (hr.r.mono (by decide)) (by rfl) L.of (kp_l_of _) (bd_l_of _) .nil pass0 (pa_cons (pv 1) (pa_cons (pe_lst (pa_cons pe_str (pa_cons pe_str pa_nil))) pa_nil)))), fun D H sc p cc l n a x2 x3 x4 x5 x6 x7 x8 x9 x10 x11 x12 x13 x14 x15 x16 nlc ha W q => ?_⟩
  refine ⟨_, rfl, (by show (2:Nat) ≤ sizeLine; rw [sizeLine_eq]; omega), fun so nso => ?_⟩
  have az := Ex.new (o := .lst [.str "replace", .str "next"]) nso
  have Wz := W.ex az
  have oz := W.off nso
  refine ⟨p, cc, l, so, n, _, _, rfl, Wz.s, nlc, by omega, upd_same, oz.1, oz.2, (by show 0 < 2; decide), (by show 2 < 1073741824; decide), fun i v H1 hv S1 sb1 nn1 => ?_⟩
  have W1 := Wz.same S1 sb1
  have hi : i < 2 := (List.getElem?_eq_some_iff.mp hv).1
  have cc : i = 0 ∨ i = 1 := by omega
  have sb := sameB_trans (sameB_ex (p := p) (l := l) az) sb1
  rcases cc with rfl | rfl <;> cases hv
  · exact q _ H1 (.inr rfl) sb W1
  · exact q _ H1 (.inl rfl) sb W1
theorem row1 : ∃ t, PS (XL w mg base c A outer s H0 E0) (inLoop 1) t ∧ ∀ (D : Ends) (H : Hp) (sc p cc l : Addr) (n : Nat) (a : Int) (x2 x3 x4 x5 x6 x7 x8 x9 x10 x11 x12 x13 x14 x15 x16 : Option V), l ≠ cc → a + 2 < 2 ^ 39 → Lw T p cc l n a H →
    (∀ (v : V) (d : PyData) (H' : Hp), Thing H' p l v d → noR d = true → SameB H H' p l → Lw T p cc l n (a + 1) H' → D.nx [some (.ref sc), some (.ref p), x2, x3, x4, x5, x6, x7, x8, x9, x10, some (v), x12, x13, x14, x15, x16] H') → t D [some (.ref sc), some (.ref p), x2, x3, x4, x5, x6, x7, x8, x9, x10, x11, x12, x13, x14, x15, x16] H := by
  obtain ⟨hr, hu64, TB, hT, hu⟩ := R
  refine ⟨_, (ps_set (i := 11) scLaw.nd rfl (.inr rfl) (pe_call (f_of X G) (hr.r.mono (by decide)) (by rfl) L.of (kp_l_of _) (bd_l_of _) .nil pass0 (pa_cons (pv 1) (pa_cons (pe_lst (pa_cons pe_non (pa_cons pe_str (pa_cons pe_str (pa_cons pe_int (pa_cons pe_bl (pa_cons (pe_tup (pa_cons pe_str pa_nil)) (pa_cons (pe_lst (pa_cons pe_str pa_nil)) (pa_cons pe_str pa_nil))))))))) pa_nil)))), fun D H sc p cc l n a x2 x3 x4 x5 x6 x7 x8 x9 x10 x11 x12 x13 x14 x15 x16 nlc ha W q => ?_⟩
  refine ⟨_, rfl, (by show (1:Nat) ≤ sizeLine; rw [sizeLine_eq]; omega), fun i5 n5 => ⟨(by show (1:Nat) ≤ sizeLine; rw [sizeLine_eq]; omega), fun i6 n6 => ⟨(by show (8:Nat) ≤ sizeLine; rw [sizeLine_eq]; omega), fun so nso => ?_⟩⟩⟩
  have a5 := Ex.new (o := .tup [.str "next"]) n5
  have W5 := W.ex a5
  have o5 := W.off n5
  have a6 := Ex.new (o := .lst [.str "next"]) n6
  have W6 := W5.ex a6
  have o6 := W5.off n6
  have az := Ex.new (o := .lst [.non, .str "Next", .str "", .int 5, .bl true, .ref i5, .ref i6, .str "replace "]) nso
  have Wz := W6.ex az
  have oz := W6.off nso
  have g5 := (a6.trans az) _ _ (show _ = some (HO.tup [.str "next"]) from upd_same)
  have g6 := az _ _ (show _ = some (HO.lst [.str "next"]) from upd_same)
  refine ⟨p, cc, l, so, n, _, _, rfl, Wz.s, nlc, by omega, upd_same, oz.1, oz.2, (by show 0 < 8; decide), (by show 8 < 1073741824; decide), fun i v H1 hv S1 sb1 nn1 => ?_⟩
  have W1 := Wz.same S1 sb1
  have sb2 : ∀ H', SameB H1 H' p l → SameB _ H' p l := fun H' e => sameB_trans sb1 e
  have key : ∃ d, Thing H1 p l v d ∧ noR d = true := by
    have hi : i < 8 := (List.getElem?_eq_some_iff.mp hv).1
    have cc : i = 0 ∨ i = 1 ∨ i = 2 ∨ i = 3 ∨ i = 4 ∨ i = 5 ∨ i = 6 ∨ i = 7 := by omega
    rcases cc with rfl | rfl | rfl | rfl | rfl | rfl | rfl | rfl <;> cases hv
    · exact ⟨.none, ⟨fun H' sb => .non, (sq_plain trivial (by simp [cap]) (by simp [PyData.depth]))⟩, by decide +kernel⟩
    · exact ⟨.str "Next", ⟨fun H' sb => .str _, ⟨by decide +kernel, by decide +kernel, by decide +kernel⟩⟩, by decide +kernel⟩
    · exact ⟨.str "", ⟨fun H' sb => .str _, ⟨by decide +kernel, by decide +kernel, by decide +kernel⟩⟩, by decide +kernel⟩
    · exact ⟨.int 5, ⟨fun H' sb => .int _, (sq_plain (pl_i (by decide)) (by simp [cap]) (by simp [PyData.depth]))⟩, by decide +kernel⟩
    · exact ⟨.bool true, ⟨fun H' sb => .bl _, (sq_plain trivial (by simp [cap]) (by simp [PyData.depth]))⟩, by decide +kernel⟩
    · exact ⟨.tuple [.str "next"], ⟨fun H' sb => .tupS (sb2 H' sb _ _ (g5) o5.1 o5.2), ⟨by decide +kernel, by decide +kernel, by decide +kernel⟩⟩, by decide +kernel⟩
    · exact ⟨.list [.str "next"], ⟨fun H' sb => .lstS (sb2 H' sb _ _ (g6) o6.1 o6.2), ⟨by decide +kernel, by decide +kernel, by decide +kernel⟩⟩, by decide +kernel⟩
    · exact ⟨.str "replace ", ⟨fun H' sb => .str _, ⟨by decide +kernel, by decide +kernel, by decide +kernel⟩⟩, by decide +kernel⟩
  obtain ⟨d, th, hc⟩ := key
  exact q v d H1 th hc (sameB_trans (sameB_ex ((a5.trans a6).trans az)) sb1) W1
theorem row3 : ∃ t, PS (XL w mg base c A outer s H0 E0) (inLoop 3) t ∧ ∀ (D : Ends) (H : Hp) (sc p cc l : Addr) (n : Nat) (a : Int) (x2 x3 x4 x5 x6 x7 x8 x9 x10 x11 x12 x13 x14 x15 x16 : Option V), l ≠ cc → a + 2 < 2 ^ 39 → Lw T p cc l n a H →
    (∀ (v : V) (d : PyData) (H' : Hp), Thing H' p l v d → (noF d = true ∧ shF d = true) → SameB H H' p l → Lw T p cc l n (a + 1) H' → D.nx [some (.ref sc), some (.ref p), x2, x3, x4, x5, x6, x7, x8, x9, x10, x11, x12, x13, some (v), x15, x16] H') → t D [some (.ref sc), some (.ref p), x2, x3, x4, x5, x6, x7, x8, x9, x10, x11, x12, x13, x14, x15, x16] H := by
  obtain ⟨hr, hu64, TB, hT, hu⟩ := R
  refine ⟨_, (ps_set (i := 14) scLaw.nd rfl (.inr rfl) (pe_call (f_of X G) (hr.r.mono (by decide)) (by rfl) L.of (kp_l_of _) (bd_l_of _) .nil pass0 (pa_cons (pv 1) (pa_cons (pe_lst (pa_cons pe_non (pa_cons pe_str (pa_cons pe_int (pa_cons pe_str (pa_cons pe_str (pa_cons pe_str (pa_cons (pe_tup (pa_cons pe_str pa_nil)) (pa_cons (pe_lst (pa_cons pe_str pa_nil)) (pa_cons (pe_op op_repS pe_str pe_int) (pa_cons pe_bl (pa_cons pe_str (pa_cons pe_str pa_nil))))))))))))) pa_nil)))), fun D H sc p cc l n a x2 x3 x4 x5 x6 x7 x8 x9 x10 x11 x12 x13 x14 x15 x16 nlc ha W q => ?_⟩
  refine ⟨_, rfl, (by show (1:Nat) ≤ sizeLine; rw [sizeLine_eq]; omega), fun i6 n6 => ⟨(by show (1:Nat) ≤ sizeLine; rw [sizeLine_eq]; omega), fun i7 n7 => ⟨49, 1001, rfl, rfl, by decide, by decide, (by show (12:Nat) ≤ sizeLine; rw [sizeLine_eq]; omega), fun so nso => ?_⟩⟩⟩
  have a6 := Ex.new (o := .tup [.str "1"]) n6
  have W6 := W.ex a6
  have o6 := W.off n6
  have a7 := Ex.new (o := .lst [.str "1"]) n7
  have W7 := W6.ex a7
  have o7 := W6.off n7
  have az := Ex.new (o := .lst [.non, .str "", .int 7, .str "a", .str "1 ", .str "-1", .ref i6, .ref i7, .str ⟨(List.replicate 1001 49).toArray⟩, .bl true, .str "12.", .str "+5"]) nso
  have Wz := W7.ex az
  have oz := W7.off nso
  have g6 := (a7.trans az) _ _ (show _ = some (HO.tup [.str "1"]) from upd_same)
  have g7 := az _ _ (show _ = some (HO.lst [.str "1"]) from upd_same)
  refine ⟨p, cc, l, so, n, _, _, rfl, Wz.s, nlc, by omega, upd_same, oz.1, oz.2, (by show 0 < 12; decide), (by show 12 < 1073741824; decide), fun i v H1 hv S1 sb1 nn1 => ?_⟩
  have W1 := Wz.same S1 sb1
  have sb2 : ∀ H', SameB H1 H' p l → SameB _ H' p l := fun H' e => sameB_trans sb1 e
  have key : ∃ d, Thing H1 p l v d ∧ (noF d = true ∧ shF d = true) := by
    have hi : i < 12 := (List.getElem?_eq_some_iff.mp hv).1
    have cc : i = 0 ∨ i = 1 ∨ i = 2 ∨ i = 3 ∨ i = 4 ∨ i = 5 ∨ i = 6 ∨ i = 7 ∨ i = 8 ∨ i = 9 ∨ i = 10 ∨ i = 11 := by omega
    rcases cc with rfl | rfl | rfl | rfl | rfl | rfl | rfl | rfl | rfl | rfl | rfl | rfl <;> cases hv
    · exact ⟨.none, ⟨fun H' sb => .non, (sq_plain trivial (by simp [cap]) (by simp [PyData.depth]))⟩, by decide +kernel, by decide +kernel⟩
    · exact ⟨.str "", ⟨fun H' sb => .str _, ⟨by decide +kernel, by decide +kernel, by decide +kernel⟩⟩, by decide +kernel, by decide +kernel⟩
    · exact ⟨.int 7, ⟨fun H' sb => .int _, (sq_plain (pl_i (by decide)) (by simp [cap]) (by simp [PyData.depth]))⟩, by decide +kernel, by decide +kernel⟩
    · exact ⟨.str "a", ⟨fun H' sb => .str _, ⟨by decide +kernel, by decide +kernel, by decide +kernel⟩⟩, by decide +kernel, by decide +kernel⟩
    · exact ⟨.str "1 ", ⟨fun H' sb => .str _, ⟨by decide +kernel, by decide +kernel, by decide +kernel⟩⟩, by decide +kernel, by decide +kernel⟩
    · exact ⟨.str "-1", ⟨fun H' sb => .str _, ⟨by decide +kernel, by decide +kernel, by decide +kernel⟩⟩, by decide +kernel, by decide +kernel⟩
    · exact ⟨.tuple [.str "1"], ⟨fun H' sb => .tupS (sb2 H' sb _ _ (g6) o6.1 o6.2), ⟨by decide +kernel, by decide +kernel, by decide +kernel⟩⟩, by decide +kernel, by decide +kernel⟩
    · exact ⟨.list [.str "1"], ⟨fun H' sb => .lstS (sb2 H' sb _ _ (g7) o7.1 o7.2), ⟨by decide +kernel, by decide +kernel, by decide +kernel⟩⟩, by decide +kernel, by decide +kernel⟩
    · exact ⟨.str ⟨(List.replicate 1001 49).toArray⟩, ⟨fun H' sb => .str _, (sq_ones (n := 1001) (by decide))⟩, by decide +kernel, by decide +kernel⟩
    · exact ⟨.bool true, ⟨fun H' sb => .bl _, (sq_plain trivial (by simp [cap]) (by simp [PyData.depth]))⟩, by decide +kernel, by decide +kernel⟩
    · exact ⟨.str "12.", ⟨fun H' sb => .str _, ⟨by decide +kernel, by decide +kernel, by decide +kernel⟩⟩, by decide +kernel, by decide +kernel⟩
    · exact ⟨.str "+5", ⟨fun H' sb => .str _, ⟨by decide +kernel, by decide +kernel, by decide +kernel⟩⟩, by decide +kernel, by decide +kernel⟩
  obtain ⟨d, th, hc⟩ := key
  exact q v d H1 th hc (sameB_trans (sameB_ex ((a6.trans a7).trans az)) sb1) W1
end
end KH08

namespace KH08
open PySem L2 Evl ExM Dg Dt LamR LamX Told TL StX ClX
open Dr (StAt SameB)
section
variable {w : World} {mg : Str → Option Value} {h base : Heap} (X : (K08 w.params).In h) (G : h.Ns mainGlobals mg) {c : Addr} {A : Around} {outer : List Env} {s : Shared} {H0 : Hp} {E0 : XK} {P : Addr} {T : List (Addr × Str)} (R : Rm w mg base c A outer s H0 E0 P T) (L : TxL mg)
include X G R L
theorem row2 : ∃ t, PS (XL w mg base c A outer s H0 E0) (inLoop 2) t ∧ ∀ (D : Ends) (H : Hp) (sc p cc l : Addr) (n : Nat) (a : Int) (x2 x3 x4 x5 x6 x7 x8 x9 x10 x11 x12 x13 x14 x15 x16 : Option V), l ≠ cc → a + 4 < 2 ^ 39 → Lw T p cc l n a H →
    (∀ (v u : V) (d e : PyData) (H' : Hp), Thing H' p l v d → noB d = true → Thing H' p l u e → (noN e = true ∧ e ≠ .list [] ∧ (∀ x y, e ≠ .tuple [x, y]) ∧ Sq (.tuple [e, .int 9]) ∧ Sq (.tuple [.int 9, e])) → SameB H H' p l → Lw T p cc l n (a + 1 + 1) H' → D.nx [some (.ref sc), some (.ref p), x2, x3, x4, x5, x6, x7, x8, x9, x10, x11, some (v), some (u), x14, x15, x16] H') → t D [some (.ref sc), some (.ref p), x2, x3, x4, x5, x6, x7, x8, x9, x10, x11, x12, x13, x14, x15, x16] H := by
  obtain ⟨hr, hu64, TB, hT, hu⟩ := R
  refine ⟨_, (ps_asg (pe_tup (pa_cons (pe_call (f_of X G) (hr.r.mono (by decide)) (by rfl) L.of (kp_l_of _) (bd_l_of _) .nil pass0 (pa_cons (pv 1) (pa_cons (pe_lst (pa_cons pe_non (pa_cons pe_int (pa_cons pe_int (pa_cons pe_bl (pa_cons pe_str pa_nil)))))) pa_nil))) (pa_cons (pe_call (f_of X G) (hr.r.mono (by decide)) (by rfl) L.of (kp_l_of _) (bd_l_of _) .nil pass0 (pa_cons (pv 1) (pa_cons (pe_lst (pa_cons pe_non (pa_cons pe_int (pa_cons (pe_un un_neg pe_int) (pa_cons pe_bl (pa_cons pe_str (pa_cons (pe_tup (pa_cons pe_int pa_nil)) (pa_cons (pe_lst (pa_cons pe_int pa_nil)) pa_nil)))))))) pa_nil))) pa_nil))) (pg_tup (by rfl) (pgs_cons (pg_name (i := 12) scLaw.nd rfl (.inr rfl)) (pgs_cons (pg_name (i := 13) scLaw.nd rfl (.inr rfl)) pgs_nil)))), fun D H sc p cc l n a x2 x3 x4 x5 x6 x7 x8 x9 x10 x11 x12 x13 x14 x15 x16 nlc ha W q => ?_⟩
  refine ⟨_, rfl, (by show (5:Nat) ≤ sizeLine; rw [sizeLine_eq]; omega), fun so nso => ?_⟩
  have az := Ex.new (o := .lst [.non, .int 1, .int 11, .bl true, .str "2"]) nso
  have Wz := W.ex az
  have oz := W.off nso
  refine ⟨p, cc, l, so, n, _, _, rfl, Wz.s, nlc, by omega, upd_same, oz.1, oz.2, (by show 0 < 5; decide), (by show 5 < 1073741824; decide), fun i v H1 hv S1 sb1 nn1 => ?_⟩
  have W1 := Wz.same S1 sb1
  have sb2 : ∀ H', SameB H1 H' p l → SameB _ H' p l := fun H' e => sameB_trans sb1 e
  have key : ∃ d, Thing H1 p l v d ∧ noB d = true := by
    have hi : i < 5 := (List.getElem?_eq_some_iff.mp hv).1
    have cc : i = 0 ∨ i = 1 ∨ i = 2 ∨ i = 3 ∨ i = 4 := by omega
    rcases cc with rfl | rfl | rfl | rfl | rfl <;> cases hv
    · exact ⟨.none, ⟨fun H' sb => .non, (sq_plain trivial (by simp [cap]) (by simp [PyData.depth]))⟩, by decide +kernel⟩
    · exact ⟨.int 1, ⟨fun H' sb => .int _, (sq_plain (pl_i (by decide)) (by simp [cap]) (by simp [PyData.depth]))⟩, by decide +kernel⟩
    · exact ⟨.int 11, ⟨fun H' sb => .int _, (sq_plain (pl_i (by decide)) (by simp [cap]) (by simp [PyData.depth]))⟩, by decide +kernel⟩
    · exact ⟨.bool true, ⟨fun H' sb => .bl _, (sq_plain trivial (by simp [cap]) (by simp [PyData.depth]))⟩, by decide +kernel⟩
    · exact ⟨.str "2", ⟨fun H' sb => .str _, ⟨by decide +kernel, by decide +kernel, by decide +kernel⟩⟩, by decide +kernel⟩
  obtain ⟨d, th, hc⟩ := key
  refine ⟨_, rfl, _, rfl, (by show (1:Nat) ≤ sizeLine; rw [sizeLine_eq]; omega), fun i5 n5 => ⟨(by show (1:Nat) ≤ sizeLine; rw [sizeLine_eq]; omega), fun i6 n6 => ⟨(by show (7:Nat) ≤ sizeLine; rw [sizeLine_eq]; omega), fun soq nsoq => ?_⟩⟩⟩
  have a5 := Ex.new (o := .tup [.int 7]) n5
  have W5 := W1.ex a5
  have o5 := W1.off n5
  have a6 := Ex.new (o := .lst [.int 7]) n6
  have W6 := W5.ex a6
  have o6 := W5.off n6
  have azq := Ex.new (o := .lst [.non, .int 0, .int (-4), .bl true, .str "7", .ref i5, .ref i6]) nsoq
  have Wzq := W6.ex azq
  have ozq := W6.off nsoq
  have g5 := (a6.trans azq) _ _ (show _ = some (HO.tup [.int 7]) from upd_same)
  have g6 := azq _ _ (show _ = some (HO.lst [.int 7]) from upd_same)
  refine ⟨p, cc, l, soq, n, _, _, rfl, Wzq.s, nlc, by omega, upd_same, ozq.1, ozq.2, (by show 0 < 7; decide), (by show 7 < 1073741824; decide), fun iq vq H1q hvq S1q sb1q nn1q => ?_⟩
  have W1q := Wzq.same S1q sb1q
  have sb2q : ∀ H', SameB H1q H' p l → SameB _ H' p l := fun H' e => sameB_trans sb1q e
  have keyq : ∃ d, Thing H1q p l vq d ∧ (noN d = true ∧ d ≠ .list [] ∧ (∀ x y, d ≠ .tuple [x, y]) ∧ Sq (.tuple [d, .int 9]) ∧ Sq (.tuple [.int 9, d])) := by
    have hiq : iq < 7 := (List.getElem?_eq_some_iff.mp hvq).1
    have cc : iq = 0 ∨ iq = 1 ∨ iq = 2 ∨ iq = 3 ∨ iq = 4 ∨ iq = 5 ∨ iq = 6 := by omega
    rcases cc with rfl | rfl | rfl | rfl | rfl | rfl | rfl <;> cases hvq
    · exact ⟨.none, ⟨fun H' sb => .non, (sq_plain trivial (by simp [cap]) (by simp [PyData.depth]))⟩, by decide +kernel, by simp, by simp, sq_plain ⟨trivial, pl_i (by decide), trivial⟩ (by simp [cap, capAll]; try decide) (by simp [PyData.depth, PyData.depthAll]), sq_plain ⟨pl_i (by decide), trivial, trivial⟩ (by simp [cap, capAll]; try decide) (by simp [PyData.depth, PyData.depthAll])⟩
    · exact ⟨.int 0, ⟨fun H' sb => .int _, (sq_plain (pl_i (by decide)) (by simp [cap]) (by simp [PyData.depth]))⟩, by decide +kernel, by simp, by simp, sq_plain ⟨(pl_i (by decide)), pl_i (by decide), trivial⟩ (by simp [cap, capAll]; try decide) (by simp [PyData.depth, PyData.depthAll]), sq_plain ⟨pl_i (by decide), (pl_i (by decide)), trivial⟩ (by simp [cap, capAll]; try decide) (by simp [PyData.depth, PyData.depthAll])⟩
    · exact ⟨.int (-4), ⟨fun H' sb => .int _, (sq_plain (pl_i (by decide)) (by simp [cap]) (by simp [PyData.depth]))⟩, by decide +kernel, by simp, by simp, sq_plain ⟨(pl_i (by decide)), pl_i (by decide), trivial⟩ (by simp [cap, capAll]; try decide) (by simp [PyData.depth, PyData.depthAll]), sq_plain ⟨pl_i (by decide), (pl_i (by decide)), trivial⟩ (by simp [cap, capAll]; try decide) (by simp [PyData.depth, PyData.depthAll])⟩
    · exact ⟨.bool true, ⟨fun H' sb => .bl _, (sq_plain trivial (by simp [cap]) (by simp [PyData.depth]))⟩, by decide +kernel, by simp, by simp, sq_plain ⟨trivial, pl_i (by decide), trivial⟩ (by simp [cap, capAll]; try decide) (by simp [PyData.depth, PyData.depthAll]), sq_plain ⟨pl_i (by decide), trivial, trivial⟩ (by simp [cap, capAll]; try decide) (by simp [PyData.depth, PyData.depthAll])⟩
    · exact ⟨.str "7", ⟨fun H' sb => .str _, ⟨by decide +kernel, by decide +kernel, by decide +kernel⟩⟩, by decide +kernel, by simp, by simp, sq_plain ⟨(pl_str (by decide)), pl_i (by decide), trivial⟩ (by simp [cap, capAll]; try decide) (by simp [PyData.depth, PyData.depthAll]), sq_plain ⟨pl_i (by decide), (pl_str (by decide)), trivial⟩ (by simp [cap, capAll]; try decide) (by simp [PyData.depth, PyData.depthAll])⟩
    · exact ⟨.tuple [.int 7], ⟨fun H' sb => .tup (is := [7]) (sb2q H' sb _ _ (g5) o5.1 o5.2), ⟨by decide +kernel, by decide +kernel, by decide +kernel⟩⟩, by decide +kernel, by simp, by simp, sq_plain ⟨⟨(pl_i (by decide)), trivial⟩, pl_i (by decide), trivial⟩ (by simp [cap, capAll]; try decide) (by simp [PyData.depth, PyData.depthAll]), sq_plain ⟨pl_i (by decide), ⟨(pl_i (by decide)), trivial⟩, trivial⟩ (by simp [cap, capAll]; try decide) (by simp [PyData.depth, PyData.depthAll])⟩
    · exact ⟨.list [.int 7], ⟨fun H' sb => .lst (is := [7]) (sb2q H' sb _ _ (g6) o6.1 o6.2), ⟨by decide +kernel, by decide +kernel, by decide +kernel⟩⟩, by decide +kernel, by simp, by simp, sq_plain ⟨⟨(pl_i (by decide)), trivial⟩, pl_i (by decide), trivial⟩ (by simp [cap, capAll]; try decide) (by simp [PyData.depth, PyData.depthAll]), sq_plain ⟨pl_i (by decide), ⟨(pl_i (by decide)), trivial⟩, trivial⟩ (by simp [cap, capAll]; try decide) (by simp [PyData.depth, PyData.depthAll])⟩
  obtain ⟨e, thq, hcq⟩ := keyq
  refine ⟨(by show (2:Nat) ≤ sizeLine; rw [sizeLine_eq]; omega), fun tt ntt => ⟨tt, _, rfl, st_of upd_same, rfl, _, _, rfl, _, _, rfl, rfl, ?_⟩⟩
  have et := Ex.new (o := .tup [v, vq]) ntt
  have sba := sameB_trans (sameB_ex (p := p) (l := l) az) sb1
  have sbb := sameB_trans (sameB_ex (p := p) (l := l) ((a5.trans a6).trans azq)) sb1q
  exact q v vq d e _ (th.same (sameB_trans sbb (sameB_ex et))) hc (thq.same (sameB_ex et)) hcq (sameB_trans (sameB_trans sba sbb) (sameB_ex et)) (W1q.ex et)
theorem row4 : ∃ t, PS (XL w mg base c A outer s H0 E0) (inLoop 4) t ∧ ∀ (D : Ends) (H : Hp) (sc p cc l : Addr) (n : Nat) (a : Int) (x2 x3 x4 x5 x6 x7 x8 x9 x10 x11 x12 x13 x14 x15 x16 : Option V) (x : Addr) (r : Str) (vb vn vo vw : V) (db dn dO dw : PyData), Lw T p cc l n a H → Vals H x r vb vn vo vw db dn dO dw → x8 = some (.ref x) → x10 = some (.str r) → x11 = some vb → x12 = some vn → x13 = some vo → x14 = some vw →
    (∀ (tp r1 : Addr) (H' : Hp), Vals H' x r vb vn vo vw db dn dO dw → Lw T p cc l n a H' → ToldB H' tp [r1] [.tuple [.str "reader", db]] → D.nx [some (.ref sc), some (.ref p), x2, x3, x4, x5, x6, some (.ref tp), x8, x9, x10, x11, x12, x13, x14, x15, x16] H') → t D [some (.ref sc), some (.ref p), x2, x3, x4, x5, x6, x7, x8, x9, x10, x11, x12, x13, x14, x15, x16] H := by
  obtain ⟨hr, hu64, TB, hT, hu⟩ := R
  refine ⟨_, (ps_set (i := 7) scLaw.nd rfl (.inl rfl) (pe_lst (pa_cons (pe_lamcallR (k := 10) (T := T) (by rfl) L.raised (kp_l_raised _) (lk08 _) (hcd08 _) (bd_l_raised _) Told.scR rfl (.inl rfl) (Told.raised_gives (ca := ca08) (txT X G) (rwT08 _)) TB rfl hT hu (hr.r.mono (by decide)) (lamN_by (show lamNB (defScope sLaw) _ nLaw = true by decide +kernel)) (by rfl) (fun _ _ _ _ _ => by rfl) (fun A outer s H E f c' hr' => (pe_callS (f_compl X G) (hr'.mono (by decide)) (by rfl) L.compl (kp_completed _) (bd_completed _) (fun σ => passAt (takes_of rfl rfl rfl rfl) σ) (pa_cons (pv 11) (pa_cons (pv 12) (pa_cons (pv 13) (pa_cons (pv 14) pa_nil))))))) pa_nil))), fun D H sc p cc l n a x2 x3 x4 x5 x6 x7 x8 x9 x10 x11 x12 x13 x14 x15 x16 x r vb vn vo vw db dn dO dw W V h8 h10 h11 h12 h13 h14 q => ?_⟩
  subst h8 h10 h11 h12 h13 h14
  refine rd_raisedA (n := 6) (A := Is1 vb) W.t (is1_keeps _) (fun K0 f0 HZ eZ E Q' hE => by
    obtain ⟨o, ho, hz, hf, hc⟩ := (V.w.extN (f0.trans (ExtN.of eZ))).txF (K := K08 w.params) V.nw V.lw
    exact ⟨_, rfl, _, rfl, _, rfl, _, rfl, vb, vn, vo, vw, false, false, !noN dO, o, rfl, (V.b.extN (f0.trans (ExtN.of eZ))).rdr V.nb, (V.n.extN (f0.trans (ExtN.of eZ))).bs V.nn, (V.o.extN (f0.trans (ExtN.of eZ))).nm, ho, hz, fun _ => leaves_of (by decide) (by decide) (by decide) (by decide) (by decide) rfl hE, (fun z => nomatch z), (fun z => nomatch z), fun z => nomatch z⟩) fun vs1 r1 H1 e1 T1 a1 g1 => ?_
  have a1' : vs1 = [vb] := a1
  subst a1'
  refine ⟨(by show (1:Nat) ≤ sizeLine; rw [sizeLine_eq]; omega), fun tp ntp => ?_⟩
  have en := Ex.new (o := .lst [.ref r1]) ntp
  have all := e1.trans (ExtN.of en)
  refine q tp r1 _ (V.extN all) ((W.extN e1 T1).ex en) ⟨upd_same, .cons (w := "reader") (en _ _ g1) (V.b.extN all) (.nil)⟩
theorem row5 : ∃ t, PS (XL w mg base c A outer s H0 E0) (inLoop 5) t ∧ ∀ (D : Ends) (H : Hp) (sc p cc l : Addr) (n : Nat) (a : Int) (x2 x3 x4 x5 x6 x7 x8 x9 x10 x11 x12 x13 x14 x15 x16 : Option V) (tp r1 : Addr) (x : Addr) (r : Str) (vb vn vo vw : V) (db dn dO dw : PyData), Lw T p cc l n a H → Vals H x r vb vn vo vw db dn dO dw → x8 = some (.ref x) → x10 = some (.str r) → x11 = some vb → x12 = some vn → x13 = some vo → x14 = some vw → ToldB H tp [r1] [.tuple [.str "reader", db]] → x7 = some (.ref tp) →
    (∀ (r2 : Addr) (H' : Hp), Vals H' x r vb vn vo vw db dn dO dw → Lw T p cc l n a H' → ToldB H' tp [r1, r2] [.tuple [.str "reader", db], .tuple [.str "base", dn]] → D.nx [some (.ref sc), some (.ref p), x2, x3, x4, x5, x6, x7, x8, x9, x10, x11, x12, x13, x14, x15, x16] H') → t D [some (.ref sc), some (.ref p), x2, x3, x4, x5, x6, x7, x8, x9, x10, x11, x12, x13, x14, x15, x16] H := by
  obtain ⟨hr, hu64, TB, hT, hu⟩ := R
  refine ⟨_, (ps_expr (pe_bm PySem.F.plainAttrs_list PySem.F.slot_list_append PySem.F.type_list_append mt_append (pv 7) (pa_cons (pe_lamcallR (k := 10) (T := T) (by rfl) L.raised (kp_l_raised _) (lk08 _) (hcd08 _) (bd_l_raised _) Told.scR rfl (.inl rfl) (Told.raised_gives (ca := ca08) (txT X G) (rwT08 _)) TB rfl hT hu (hr.r.mono (by decide)) (lamN_by (show lamNB (defScope sLaw) _ nLaw = true by decide +kernel)) (by rfl) (fun _ _ _ _ _ => by rfl) (fun A outer s H E f c' hr' => (pe_callS (f_compl X G) (hr'.mono (by decide)) (by rfl) L.compl (kp_completed _) (bd_completed _) (fun σ => passAt (takes_of rfl rfl rfl rfl) σ) (pa_cons (pv 10) (pa_cons (pv 12) (pa_cons (pv 13) (pa_cons (pv 14) pa_nil))))))) pa_nil))), fun D H sc p cc l n a x2 x3 x4 x5 x6 x7 x8 x9 x10 x11 x12 x13 x14 x15 x16 tp r1 x r vb vn vo vw db dn dO dw W V h8 h10 h11 h12 h13 h14 to h7 q => ?_⟩
  subst h8 h10 h11 h12 h13 h14
  subst h7
  refine ⟨_, rfl, .inl ⟨rfl, _, SqL.of to.l⟩, ?_⟩
  refine rd_raisedA (n := 1) (A := Is1 vn) W.t (is1_keeps _) (fun K0 f0 HZ eZ E Q' hE => by
    obtain ⟨o, ho, hz, hf, hc⟩ := (V.w.extN (f0.trans (ExtN.of eZ))).txF (K := K08 w.params) V.nw V.lw
    exact ⟨_, rfl, _, rfl, _, rfl, _, rfl, .str r, vn, vo, vw, true, false, !noN dO, o, rfl, rdr_yes V.rd, (V.n.extN (f0.trans (ExtN.of eZ))).bs V.nn, (V.o.extN (f0.trans (ExtN.of eZ))).nm, ho, hz, (fun z => nomatch z), fun _ _ => leaves_of (by decide) (by decide) (by decide) (by decide) (by decide) rfl hE, (fun _ z => nomatch z), fun _ z => nomatch z⟩) fun vs1 rn H1 xe T1 a1 g1 => ?_
  have to1 := to.extN xe
  have a1' : vs1 = [vn] := a1
  subst a1'
  have pb := V.n.extN xe
  refine ⟨tp, _, _, rfl, rfl, to1.l, (by show (1:Nat) < sizeLine; rw [sizeLine_eq]; omega), ?_⟩
  exact q rn _ ((V.extN xe).updL to1.l) (lw_upd (W.extN xe T1) to1.l) (to1.app (w := "base") g1 pb)
theorem row6 : ∃ t, PS (XL w mg base c A outer s H0 E0) (inLoop 6) t ∧ ∀ (D : Ends) (H : Hp) (sc p cc l : Addr) (n : Nat) (a : Int) (x2 x3 x4 x5 x6 x7 x8 x9 x10 x11 x12 x13 x14 x15 x16 : Option V) (tp r1 r2 : Addr) (x : Addr) (r : Str) (vb vn vo vw : V) (db dn dO dw : PyData), Lw T p cc l n a H → Vals H x r vb vn vo vw db dn dO dw → x8 = some (.ref x) → x10 = some (.str r) → x11 = some vb → x12 = some vn → x13 = some vo → x14 = some vw → ToldB H tp [r1, r2] [.tuple [.str "reader", db], .tuple [.str "base", dn]] → x7 = some (.ref tp) →
    (∀ (r3 : Addr) (H' : Hp), Vals H' x r vb vn vo vw db dn dO dw → Lw T p cc l n a H' → ToldB H' tp [r1, r2, r3] [.tuple [.str "reader", db], .tuple [.str "base", dn], .tuple [.str "number", dO]] → D.nx [some (.ref sc), some (.ref p), x2, x3, x4, x5, x6, x7, x8, x9, x10, x11, x12, x13, x14, x15, x16] H') → t D [some (.ref sc), some (.ref p), x2, x3, x4, x5, x6, x7, x8, x9, x10, x11, x12, x13, x14, x15, x16] H := by
  obtain ⟨hr, hu64, TB, hT, hu⟩ := R
  refine ⟨_, (ps_expr (pe_bm PySem.F.plainAttrs_list PySem.F.slot_list_append PySem.F.type_list_append mt_append (pv 7) (pa_cons (pe_lamcallR (k := 10) (T := T) (by rfl) L.raised (kp_l_raised _) (lk08 _) (hcd08 _) (bd_l_raised _) Told.scR rfl (.inl rfl) (Told.raised_gives (ca := ca08) (txT X G) (rwT08 _)) TB rfl hT hu (hr.r.mono (by decide)) (lamN_by (show lamNB (defScope sLaw) _ nLaw = true by decide +kernel)) (by rfl) (fun _ _ _ _ _ => by rfl) (fun A outer s H E f c' hr' => (pe_callS (f_compl X G) (hr'.mono (by decide)) (by rfl) L.compl (kp_completed _) (bd_completed _) (fun σ => passAt (takes_of rfl rfl rfl rfl) σ) (pa_cons (pv 10) (pa_cons pe_int (pa_cons (pv 13) (pa_cons (pv 14) pa_nil))))))) pa_nil))), fun D H sc p cc l n a x2 x3 x4 x5 x6 x7 x8 x9 x10 x11 x12 x13 x14 x15 x16 tp r1 r2 x r vb vn vo vw db dn dO dw W V h8 h10 h11 h12 h13 h14 to h7 q => ?_⟩
  subst h8 h10 h11 h12 h13 h14
  subst h7
  refine ⟨_, rfl, .inl ⟨rfl, _, SqL.of to.l⟩, ?_⟩
  refine rd_raisedA (n := 2) (A := Is1 vo) W.t (is1_keeps _) (fun K0 f0 HZ eZ E Q' hE => by
    obtain ⟨o, ho, hz, hf, hc⟩ := (V.w.extN (f0.trans (ExtN.of eZ))).txF (K := K08 w.params) V.nw V.lw
    exact ⟨_, rfl, _, rfl, _, rfl, .str r, .int 10, vo, vw, true, true, !noN dO, o, rfl, rdr_yes V.rd, bs_yes (β := 10) (by decide) (by decide), (V.o.extN (f0.trans (ExtN.of eZ))).nm, ho, hz, (fun z => nomatch z), (fun _ z => nomatch z), fun _ _ _ => leaves_of (by decide) (by decide) (by decide) (by decide) (by decide) rfl hE, fun _ _ z => (by rw [V.no] at z; cases z)⟩) fun vs1 rn H1 xe T1 a1 g1 => ?_
  have to1 := to.extN xe
  have a1' : vs1 = [vo] := a1
  subst a1'
  have pb := V.o.extN xe
  refine ⟨tp, _, _, rfl, rfl, to1.l, (by show (2:Nat) < sizeLine; rw [sizeLine_eq]; omega), ?_⟩
  exact q rn _ ((V.extN xe).updL to1.l) (lw_upd (W.extN xe T1) to1.l) (to1.app (w := "number") g1 pb)
theorem row7 : ∃ t, PS (XL w mg base c A outer s H0 E0) (inLoop 7) t ∧ ∀ (D : Ends) (H : Hp) (sc p cc l : Addr) (n : Nat) (a : Int) (x2 x3 x4 x5 x6 x7 x8 x9 x10 x11 x12 x13 x14 x15 x16 : Option V) (tp r1 r2 r3 : Addr) (x : Addr) (r : Str) (vb vn vo vw : V) (db dn dO dw : PyData), Lw T p cc l n a H → Vals H x r vb vn vo vw db dn dO dw → x8 = some (.ref x) → x10 = some (.str r) → x11 = some vb → x12 = some vn → x13 = some vo → x14 = some vw → ToldB H tp [r1, r2, r3] [.tuple [.str "reader", db], .tuple [.str "base", dn], .tuple [.str "number", dO]] → x7 = some (.ref tp) →
    (∀ (r4 : Addr) (H' : Hp), Vals H' x r vb vn vo vw db dn dO dw → Lw T p cc l n a H' → ToldB H' tp [r1, r2, r3, r4] [.tuple [.str "reader", db], .tuple [.str "base", dn], .tuple [.str "number", dO], .tuple [.str "digits", dw]] → D.nx [some (.ref sc), some (.ref p), x2, x3, x4, x5, x6, x7, x8, x9, x10, x11, x12, x13, x14, x15, x16] H') → t D [some (.ref sc), some (.ref p), x2, x3, x4, x5, x6, x7, x8, x9, x10, x11, x12, x13, x14, x15, x16] H := by
  obtain ⟨hr, hu64, TB, hT, hu⟩ := R
  refine ⟨_, (ps_expr (pe_bm PySem.F.plainAttrs_list PySem.F.slot_list_append PySem.F.type_list_append mt_append (pv 7) (pa_cons (pe_lamcallR (k := 10) (T := T) (by rfl) L.raised (kp_l_raised _) (lk08 _) (hcd08 _) (bd_l_raised _) Told.scR rfl (.inl rfl) (Told.raised_gives (ca := ca08) (txT X G) (rwT08 _)) TB rfl hT hu (hr.r.mono (by decide)) (lamN_by (show lamNB (defScope sLaw) _ nLaw = true by decide +kernel)) (by rfl) (fun _ _ _ _ _ => by rfl) (fun A outer s H E f c' hr' => (pe_callS (f_compl X G) (hr'.mono (by decide)) (by rfl) L.compl (kp_completed _) (bd_completed _) (fun σ => passAt (takes_of rfl rfl rfl rfl) σ) (pa_cons (pv 10) (pa_cons pe_int (pa_cons pe_int (pa_cons (pv 14) pa_nil))))))) pa_nil))), fun D H sc p cc l n a x2 x3 x4 x5 x6 x7 x8 x9 x10 x11 x12 x13 x14 x15 x16 tp r1 r2 r3 x r vb vn vo vw db dn dO dw W V h8 h10 h11 h12 h13 h14 to h7 q => ?_⟩
  subst h8 h10 h11 h12 h13 h14
  subst h7
  refine ⟨_, rfl, .inl ⟨rfl, _, SqL.of to.l⟩, ?_⟩
  refine rd_raisedA (n := 3) (A := Is1 vw) W.t (is1_keeps _) (fun K0 f0 HZ eZ E Q' hE => by
    obtain ⟨o, ho, hz, hf, hc⟩ := (V.w.extN (f0.trans (ExtN.of eZ))).txF (K := K08 w.params) V.nw V.lw
    exact ⟨_, rfl, _, rfl, .str r, .int 10, .int 5, vw, true, true, true, o, rfl, rdr_yes V.rd, bs_yes (β := 10) (by decide) (by decide), nm_yes (n := 5) (by decide), ho, hz, (fun z => nomatch z), (fun _ z => nomatch z), (fun _ _ z => nomatch z), fun _ _ _ => ⟨r, 10, 5, rfl, rfl, rfl, V.rd, by decide, by decide, by decide, fun _ => leaves_of (by decide) (by decide) (by decide) (by decide) (by decide) rfl hE, fun x hx hf' _ => (hc x hx hf').elim⟩⟩) fun vs1 rn H1 xe T1 a1 g1 => ?_
  have to1 := to.extN xe
  have a1' : vs1 = [vw] := a1
  subst a1'
  have pb := V.w.extN xe
  refine ⟨tp, _, _, rfl, rfl, to1.l, (by show (3:Nat) < sizeLine; rw [sizeLine_eq]; omega), ?_⟩
  exact q rn _ ((V.extN xe).updL to1.l) (lw_upd (W.extN xe T1) to1.l) (to1.app (w := "digits") g1 pb)
theorem row9 : ∃ t, PS (XL w mg base c A outer s H0 E0) (inLoop 9) t ∧ ∀ (D : Ends) (H : Hp) (sc p cc l : Addr) (n : Nat) (a : Int) (x2 x3 x4 x5 x6 x7 x8 x9 x10 x11 x12 x13 x14 x15 x16 : Option V) (x : Addr) (r : Str) (vb vn vo vw : V) (db dn dO dw : PyData), Lw T p cc l n a H → Vals H x r vb vn vo vw db dn dO dw → x8 = some (.ref x) → x10 = some (.str r) → x11 = some vb → x12 = some vn → x13 = some vo → x14 = some vw →
    (∀ (tp r1 r2 : Addr) (H' : Hp), Vals H' x r vb vn vo vw db dn dO dw → Lw T p cc l n a H' → ToldB H' tp [r1, r2] [.tuple [.str "reader", db], .tuple [.str "base", dn]] → D.nx [some (.ref sc), some (.ref p), x2, x3, x4, x5, x6, some (.ref tp), x8, x9, x10, x11, x12, x13, x14, x15, x16] H') → t D [some (.ref sc), some (.ref p), x2, x3, x4, x5, x6, x7, x8, x9, x10, x11, x12, x13, x14, x15, x16] H := by
  obtain ⟨hr, hu64, TB, hT, hu⟩ := R
  refine ⟨_, (ps_set (i := 7) scLaw.nd rfl (.inl rfl) (pe_lst (pa_cons (pe_lamcallR (k := 10) (T := T) (by rfl) L.raised (kp_l_raised _) (lk08 _) (hcd08 _) (bd_l_raised _) Told.scR rfl (.inl rfl) (Told.raised_gives (ca := ca08) (txT X G) (rwT08 _)) TB rfl hT hu (hr.r.mono (by decide)) (lamN_by (show lamNB (defScope sLaw) _ nLaw = true by decide +kernel)) (by rfl) (fun _ _ _ _ _ => by rfl) (fun A outer s H E f c' hr' => (pe_callS (f_fewest X G) (hr'.mono (by decide)) (by rfl) L.few (kp_fewest _) (bd_fewest _) (fun σ => passAt (takes_of rfl rfl rfl rfl) σ) (pa_cons (pv 11) (pa_cons (pv 12) (pa_cons pe_int (pa_cons pe_int pa_nil))))))) (pa_cons (pe_lamcallD (k := 10) (T := T) (y := "y") (n := 0) (by rfl) L.raised (kp_l_raised _) (lk08 _) (hcd08 _) (bd_l_raised _) Told.scR rfl (.inl rfl) (Told.raised_gives (ca := ca08) (txT X G) (rwT08 _)) TB rfl hT hu (hr.r.mono (by decide)) (lamN_by (show lamNB (defScope sLaw) _ nLaw = true by decide +kernel)) (by rfl) (by rfl) (by rfl) (fun _ _ _ _ _ _ _ _ => ⟨_, by rfl, by rfl⟩) (fun A outer s H E f c' hr' => (pe_callS (f_fewest X G) (hr'.mono (by decide)) (by rfl) L.few (kp_fewest _) (bd_fewest _) (fun σ => passAt (takes_of rfl rfl rfl rfl) σ) (pa_cons (pv 10) (pa_cons (pv 12) (pa_cons pe_int (pa_cons pe_int pa_nil))))))) pa_nil)))), fun D H sc p cc l n a x2 x3 x4 x5 x6 x7 x8 x9 x10 x11 x12 x13 x14 x15 x16 x r vb vn vo vw db dn dO dw W V h8 h10 h11 h12 h13 h14 q => ?_⟩
  subst h8 h10 h11 h12 h13 h14
  refine rd_raisedA (n := 6) (A := Is1 vb) W.t (is1_keeps _) (fun K0 f0 HZ eZ E Q' hE => ⟨_, rfl, _, rfl, vb, vn, .int 5, .int 5, false, false, true, true, rfl, (V.b.extN (f0.trans (ExtN.of eZ))).rdr V.nb, (V.n.extN (f0.trans (ExtN.of eZ))).bs V.nn, nm_yes (n := 5) (by decide), nm_yes (n := 5) (by decide), fun _ => leaves_of (by decide) (by decide) (by decide) (by decide) (by decide) rfl hE, (fun z => nomatch z), fun z => nomatch z⟩) fun vs1 r1 H1 e1 T1 a1 g1 => ?_
  have a1' : vs1 = [vb] := a1
  subst a1'
  refine rd_raisedA (n := 1) (A := Is1 vn) T1 (is1_keeps _) (fun K1 f1 HZ eZ E Q' hE => ⟨_, rfl, _, rfl, .str r, vn, .int 5, .int 5, true, false, true, true, rfl, rdr_yes V.rd, (V.n.extN ((e1.trans f1).trans (ExtN.of eZ))).bs V.nn, nm_yes (n := 5) (by decide), nm_yes (n := 5) (by decide), (fun z => nomatch z), fun _ _ => leaves_of (by decide) (by decide) (by decide) (by decide) (by decide) rfl hE, fun _ z => nomatch z⟩) fun vs2 r2 H2 e2 T2 a2 g2 => ?_
  have a2' : vs2 = [vn] := a2
  subst a2'
  refine ⟨(by show (2:Nat) ≤ sizeLine; rw [sizeLine_eq]; omega), fun tp ntp => ?_⟩
  have en := Ex.new (o := .lst [.ref r1, .ref r2]) ntp
  have all := (e1.trans e2).trans (ExtN.of en)
  refine q tp r1 r2 _ (V.extN all) ((W.extN (e1.trans e2) T2).ex en) ⟨upd_same, .cons (w := "reader") (en _ _ (e2 _ _ g1 (by simp))) (V.b.extN all) (.cons (w := "base") (en _ _ g2) (V.n.extN all) (.nil))⟩
theorem row10 : ∃ t, PS (XL w mg base c A outer s H0 E0) (inLoop 10) t ∧ ∀ (D : Ends) (H : Hp) (sc p cc l : Addr) (n : Nat) (a : Int) (x2 x3 x4 x5 x6 x7 x8 x9 x10 x11 x12 x13 x14 x15 x16 : Option V) (tp r1 r2 : Addr) (x : Addr) (r : Str) (vb vn vo vw : V) (db dn dO dw : PyData), Lw T p cc l n a H → Vals H x r vb vn vo vw db dn dO dw → x8 = some (.ref x) → x10 = some (.str r) → x11 = some vb → x12 = some vn → x13 = some vo → x14 = some vw → ToldB H tp [r1, r2] [.tuple [.str "reader", db], .tuple [.str "base", dn]] → x7 = some (.ref tp) →
    (∀ (r3 : Addr) (H' : Hp), Vals H' x r vb vn vo vw db dn dO dw → Lw T p cc l n a H' → ToldB H' tp [r1, r2, r3] [.tuple [.str "reader", db], .tuple [.str "base", dn], .tuple [.str "range", .tuple [dO, .int 9]]] → D.nx [some (.ref sc), some (.ref p), x2, x3, x4, x5, x6, x7, x8, x9, x10, x11, x12, x13, x14, x15, x16] H') → t D [some (.ref sc), some (.ref p), x2, x3, x4, x5, x6, x7, x8, x9, x10, x11, x12, x13, x14, x15, x16] H := by
  obtain ⟨hr, hu64, TB, hT, hu⟩ := R
  refine ⟨_, (ps_expr (pe_bm PySem.F.plainAttrs_list PySem.F.slot_list_append PySem.F.type_list_append mt_append (pv 7) (pa_cons (pe_lamcallR (k := 10) (T := T) (by rfl) L.raised (kp_l_raised _) (lk08 _) (hcd08 _) (bd_l_raised _) Told.scR rfl (.inl rfl) (Told.raised_gives (ca := ca08) (txT X G) (rwT08 _)) TB rfl hT hu (hr.r.mono (by decide)) (lamN_by (show lamNB (defScope sLaw) _ nLaw = true by decide +kernel)) (by rfl) (fun _ _ _ _ _ => by rfl) (fun A outer s H E f c' hr' => (pe_callS (f_fewest X G) (hr'.mono (by decide)) (by rfl) L.few (kp_fewest _) (bd_fewest _) (fun σ => passAt (takes_of rfl rfl rfl rfl) σ) (pa_cons (pv 10) (pa_cons pe_int (pa_cons (pv 13) (pa_cons pe_int pa_nil))))))) pa_nil))), fun D H sc p cc l n a x2 x3 x4 x5 x6 x7 x8 x9 x10 x11 x12 x13 x14 x15 x16 tp r1 r2 x r vb vn vo vw db dn dO dw W V h8 h10 h11 h12 h13 h14 to h7 q => ?_⟩
  subst h8 h10 h11 h12 h13 h14
  subst h7
  refine ⟨_, rfl, .inl ⟨rfl, _, SqL.of to.l⟩, ?_⟩
  refine rd_raisedA (n := 4) (A := IsP (.tuple [dO, .int 9])) W.t (isP_keeps V.o1 V.o2 (by simp) (by simp)) (fun K0 f0 HZ eZ E Q' hE => ⟨_, rfl, _, rfl, .str r, .int 10, vo, .int 9, true, true, !noN dO, true, rfl, rdr_yes V.rd, bs_yes (β := 10) (by decide) (by decide), (V.o.extN (f0.trans (ExtN.of eZ))).nm, nm_yes (n := 9) (by decide), (fun z => nomatch z), (fun _ z => nomatch z), fun _ _ => ⟨r, 10, rfl, rfl, V.rd, by decide, by decide, ⟨fun _ => leavesP_of (V.o.extN (f0.trans (ExtN.of eZ))) (.int 9) hE, fun z => (by rw [V.no] at z; cases z)⟩⟩⟩) fun vs1 rn H1 xe T1 a1 g1 => ?_
  have to1 := to.extN xe
  obtain ⟨b1, rfl, pb⟩ := a1.pv
  refine ⟨tp, _, _, rfl, rfl, to1.l, (by show (2:Nat) < sizeLine; rw [sizeLine_eq]; omega), ?_⟩
  exact q rn _ ((V.extN xe).updL to1.l) (lw_upd (W.extN xe T1) to1.l) (to1.app (w := "range") g1 pb)
theorem row11 : ∃ t, PS (XL w mg base c A outer s H0 E0) (inLoop 11) t ∧ ∀ (D : Ends) (H : Hp) (sc p cc l : Addr) (n : Nat) (a : Int) (x2 x3 x4 x5 x6 x7 x8 x9 x10 x11 x12 x13 x14 x15 x16 : Option V) (tp r1 r2 r3 : Addr) (x : Addr) (r : Str) (vb vn vo vw : V) (db dn dO dw : PyData), Lw T p cc l n a H → Vals H x r vb vn vo vw db dn dO dw → x8 = some (.ref x) → x10 = some (.str r) → x11 = some vb → x12 = some vn → x13 = some vo → x14 = some vw → ToldB H tp [r1, r2, r3] [.tuple [.str "reader", db], .tuple [.str "base", dn], .tuple [.str "range", .tuple [dO, .int 9]]] → x7 = some (.ref tp) →
    (∀ (r4 : Addr) (H' : Hp), Vals H' x r vb vn vo vw db dn dO dw → Lw T p cc l n a H' → ToldB H' tp [r1, r2, r3, r4] [.tuple [.str "reader", db], .tuple [.str "base", dn], .tuple [.str "range", .tuple [dO, .int 9]], .tuple [.str "reader", db]] → D.nx [some (.ref sc), some (.ref p), x2, x3, x4, x5, x6, x7, x8, x9, x10, x11, x12, x13, x14, x15, x16] H') → t D [some (.ref sc), some (.ref p), x2, x3, x4, x5, x6, x7, x8, x9, x10, x11, x12, x13, x14, x15, x16] H := by
  obtain ⟨hr, hu64, TB, hT, hu⟩ := R
  refine ⟨_, (ps_expr (pe_bm PySem.F.plainAttrs_list PySem.F.slot_list_append PySem.F.type_list_append mt_append (pv 7) (pa_cons (pe_lamcallR (k := 10) (T := T) (by rfl) L.raised (kp_l_raised _) (lk08 _) (hcd08 _) (bd_l_raised _) Told.scR rfl (.inl rfl) (Told.raised_gives (ca := ca08) (txT X G) (rwT08 _)) TB rfl hT hu (hr.r.mono (by decide)) (lamN_by (show lamNB (defScope sLaw) _ nLaw = true by decide +kernel)) (by rfl) (fun _ _ _ _ _ => by rfl) (fun A outer s H E f c' hr' => (pe_callS (f_isRight X G) (hr'.mono (by decide)) (by rfl) L.isR (kp_is_right _) (bd_is_right _) (fun σ => passAt (takes_of rfl rfl rfl rfl) σ) (pa_cons (pv 8) (pa_cons (pv 11) (pa_cons pe_int (pa_cons pe_int pa_nil))))))) pa_nil))), fun D H sc p cc l n a x2 x3 x4 x5 x6 x7 x8 x9 x10 x11 x12 x13 x14 x15 x16 tp r1 r2 r3 x r vb vn vo vw db dn dO dw W V h8 h10 h11 h12 h13 h14 to h7 q => ?_⟩
  subst h8 h10 h11 h12 h13 h14
  subst h7
  refine ⟨_, rfl, .inl ⟨rfl, _, SqL.of to.l⟩, ?_⟩
  refine rd_raisedA (n := 6) (A := Is1 vb) W.t (is1_keeps _) (fun K0 f0 HZ eZ E Q' hE => ⟨_, rfl, _, rfl, x, vb, .int 5, .int 5, false, true, true, 10, stD, rfl, V.st.extN (f0.trans (ExtN.of eZ)), by decide, by decide, st_row, (V.b.extN (f0.trans (ExtN.of eZ))).rdr V.nb, nm_yes (n := 5) (by decide), nm_yes (n := 5) (by decide), fun _ => leaves_of (by decide) (by decide) (by decide) (by decide) (by decide) rfl hE, fun z => nomatch z⟩) fun vs1 rn H1 xe T1 a1 g1 => ?_
  have to1 := to.extN xe
  have a1' : vs1 = [vb] := a1
  subst a1'
  have pb := V.b.extN xe
  refine ⟨tp, _, _, rfl, rfl, to1.l, (by show (3:Nat) < sizeLine; rw [sizeLine_eq]; omega), ?_⟩
  exact q rn _ ((V.extN xe).updL to1.l) (lw_upd (W.extN xe T1) to1.l) (to1.app (w := "reader") g1 pb)
theorem row12 : ∃ t, PS (XL w mg base c A outer s H0 E0) (inLoop 12) t ∧ ∀ (D : Ends) (H : Hp) (sc p cc l : Addr) (n : Nat) (a : Int) (x2 x3 x4 x5 x6 x7 x8 x9 x10 x11 x12 x13 x14 x15 x16 : Option V) (tp r1 r2 r3 r4 : Addr) (x : Addr) (r : Str) (vb vn vo vw : V) (db dn dO dw : PyData), Lw T p cc l n a H → Vals H x r vb vn vo vw db dn dO dw → x8 = some (.ref x) → x10 = some (.str r) → x11 = some vb → x12 = some vn → x13 = some vo → x14 = some vw → ToldB H tp [r1, r2, r3, r4] [.tuple [.str "reader", db], .tuple [.str "base", dn], .tuple [.str "range", .tuple [dO, .int 9]], .tuple [.str "reader", db]] → x7 = some (.ref tp) →
    (∀ (r5 : Addr) (H' : Hp), Vals H' x r vb vn vo vw db dn dO dw → Lw T p cc l n a H' → ToldB H' tp [r1, r2, r3, r4, r5] [.tuple [.str "reader", db], .tuple [.str "base", dn], .tuple [.str "range", .tuple [dO, .int 9]], .tuple [.str "reader", db], .tuple [.str "range", .tuple [.int 9, dO]]] → D.nx [some (.ref sc), some (.ref p), x2, x3, x4, x5, x6, x7, x8, x9, x10, x11, x12, x13, x14, x15, x16] H') → t D [some (.ref sc), some (.ref p), x2, x3, x4, x5, x6, x7, x8, x9, x10, x11, x12, x13, x14, x15, x16] H := by
  obtain ⟨hr, hu64, TB, hT, hu⟩ := R
  refine ⟨_, (ps_expr (pe_bm PySem.F.plainAttrs_list PySem.F.slot_list_append PySem.F.type_list_append mt_append (pv 7) (pa_cons (pe_lamcallR (k := 10) (T := T) (by rfl) L.raised (kp_l_raised _) (lk08 _) (hcd08 _) (bd_l_raised _) Told.scR rfl (.inl rfl) (Told.raised_gives (ca := ca08) (txT X G) (rwT08 _)) TB rfl hT hu (hr.r.mono (by decide)) (lamN_by (show lamNB (defScope sLaw) _ nLaw = true by decide +kernel)) (by rfl) (fun _ _ _ _ _ => by rfl) (fun A outer s H E f c' hr' => (pe_callS (f_isRight X G) (hr'.mono (by decide)) (by rfl) L.isR (kp_is_right _) (bd_is_right _) (fun σ => passAt (takes_of rfl rfl rfl rfl) σ) (pa_cons (pv 8) (pa_cons (pv 10) (pa_cons pe_int (pa_cons (pv 13) pa_nil))))))) pa_nil))), fun D H sc p cc l n a x2 x3 x4 x5 x6 x7 x8 x9 x10 x11 x12 x13 x14 x15 x16 tp r1 r2 r3 r4 x r vb vn vo vw db dn dO dw W V h8 h10 h11 h12 h13 h14 to h7 q => ?_⟩
  subst h8 h10 h11 h12 h13 h14
  subst h7
  refine ⟨_, rfl, .inl ⟨rfl, _, SqL.of to.l⟩, ?_⟩
  refine rd_raisedA (n := 4) (A := IsP (.tuple [.int 9, dO])) W.t (isP_keeps (by simp) (by simp) V.o1 V.o2) (fun K0 f0 HZ eZ E Q' hE => ⟨_, rfl, _, rfl, _, rfl, x, .str r, .int 9, vo, true, true, !noN dO, 10, stD, rfl, V.st.extN (f0.trans (ExtN.of eZ)), by decide, by decide, st_row, rdr_yes V.rd, nm_yes (n := 9) (by decide), (V.o.extN (f0.trans (ExtN.of eZ))).nm, (fun z => nomatch z), fun _ => ⟨r, rfl, V.rd, ⟨fun _ => leavesP_of (.int 9) (V.o.extN (f0.trans (ExtN.of eZ))) hE, fun z => (by rw [V.no] at z; cases z)⟩⟩⟩) fun vs1 rn H1 xe T1 a1 g1 => ?_
  have to1 := to.extN xe
  obtain ⟨b1, rfl, pb⟩ := a1.pv
  refine ⟨tp, _, _, rfl, rfl, to1.l, (by show (4:Nat) < sizeLine; rw [sizeLine_eq]; omega), ?_⟩
  exact q rn _ ((V.extN xe).updL to1.l) (lw_upd (W.extN xe T1) to1.l) (to1.app (w := "range") g1 pb)
end
end KH08

namespace KH08
open PySem L2 Evl ExM Dg Dt LamR LamX Told TL StX ClX
open Dr (StAt SameB)
theorem sm_sz {d : PyData} (s : Sm d) : d.showable = true ∧ d.shown.length ≤ sizeLine ∧ d.depth ≤ 60 := ⟨s.a, Nat.le_trans s.b (by rw [sizeLine_eq]; decide), Nat.le_trans s.c (by decide)⟩
theorem tl_tup2 (a b : PyData) : tl (PyData.tuple [a, b]).shown = 40 :: (tl a.shown ++ (44 :: 32 :: (tl b.shown ++ [41]))) := by
  have e : (PyData.tuple [a, b]).shown = ("(" : Str) ++ (a.shown ++ ", " ++ b.shown) ++ (")" : Str) := by
    simp only [PyData.shown, PyData.shownAll, PySem.tupleText]
    rfl
  rw [e]
  simp only [tl_append]
  have e1 : tl ("(" : Str) = [40] := by decide
  have e2 : tl (")" : Str) = [41] := by decide
  have e3 : tl (", " : Str) = [44, 32] := by decide
  rw [e1, e2]
  show [40] ++ (tl a.shown ++ tl (", " : Str) ++ tl b.shown) ++ [41] = _
  rw [e3]
  simp
theorem tl_tup0 : tl (PyData.tuple []).shown = [40, 41] := by decide +kernel
theorem off3 {H : Hp} {p c l x : Addr} {n : Nat} {a : Int} (S : StAt H p c l n a) (h : H x = none) : x ≠ p ∧ x ≠ c ∧ x ≠ l := by
  obtain ⟨ls, hls, _⟩ := S.l
  obtain ⟨cs, hcs, _⟩ := S.c
  exact ⟨(ne_of_none S.d h).symm, (ne_of_none hcs h).symm, (ne_of_none hls h).symm⟩
theorem emp_ok : (PyData.tuple []).showable = true ∧ (PyData.tuple []).shown.length ≤ sizeLine ∧ (PyData.tuple []).depth ≤ 60 := ⟨by decide +kernel, Nat.le_trans (show (PyData.tuple []).shown.length ≤ 2 by decide +kernel) (by rw [sizeLine_eq]; decide), by decide +kernel⟩
theorem ten_pos {ρ : Nat} (h : ρ < 10) : isFigs 10 1000 (("1" : Str) ++ ⟨(List.replicate 999 (48 + ρ)).toArray⟩) = true ∧ (("1" : Str) ++ ⟨(List.replicate 999 (48 + ρ)).toArray⟩ : Str).length = 1000 ∧ ∀ r, cmpl r 5 ((10 ^ 1000 : Nat) : Int) (numF 10 (tl (("1" : Str) ++ ⟨(List.replicate 999 (48 + ρ)).toArray⟩)) : Int) (zeroAt (("1" : Str) ++ ⟨(List.replicate 999 (48 + ρ)).toArray⟩)) ≠ .non := by
  have one : tl ("1" : Str) = [49] := by decide
  have tlx : tl (("1" : Str) ++ ⟨(List.replicate 999 (48 + ρ)).toArray⟩) = 49 :: List.replicate 999 (48 + ρ) := by
    rw [tl_append, one]
    show [49] ++ ((List.replicate 999 (48 + ρ)).toArray).toList = _
    simp
  have lx : (("1" : Str) ++ ⟨(List.replicate 999 (48 + ρ)).toArray⟩ : Str).length = 1000 := by
    rw [len_t, tlx, List.length_cons, List.length_replicate]
  refine ⟨?_, lx, fun r => ?_⟩
  · unfold isFigs
    rw [lx, tlx]
    refine Bool.and_eq_true_iff.mpr ⟨by decide, List.all_eq_true.mpr fun c hc => decide_eq_true ?_⟩
    rcases List.mem_cons.mp hc with z | z
    · omega
    · have := List.eq_of_mem_replicate z
      omega
  · unfold cmpl
    split
    · have hz : zeroAt (("1" : Str) ++ ⟨(List.replicate 999 (48 + ρ)).toArray⟩) = false := by
        unfold zeroAt
        rw [tlx]
        rfl
      have hv : 1 * 10 ^ 999 ≤ numF 10 (tl (("1" : Str) ++ ⟨(List.replicate 999 (48 + ρ)).toArray⟩)) := by
        rw [tlx, numF_cons, List.length_replicate]
        exact Nat.le_add_right _ _
      have big : 10 < 1 * 10 ^ 999 := by
        rw [Nat.one_mul]
        exact Nat.lt_of_lt_of_le (by decide : 10 < 10 ^ 2) (Nat.pow_le_pow_right (by decide) (by decide))
      have big2 : 10 < 10 ^ 1000 := Nat.lt_of_lt_of_le (by decide : 10 < 10 ^ 2) (Nat.pow_le_pow_right (by decide) (by decide))
      generalize numF 10 (tl (("1" : Str) ++ ⟨(List.replicate 999 (48 + ρ)).toArray⟩)) = v at hv ⊢
      generalize 1 * 10 ^ 999 = y at hv big
      generalize 10 ^ 1000 = S at big2 ⊢
      unfold rplV
      rw [hz, Bool.and_false, if_neg (by decide)]
      have hm : (5 : Int) % (S : Int) = 5 := Int.emod_eq_of_lt (by decide) (by omega)
      rw [hm, if_pos (decide_eq_true (by omega))]
      intro z
      cases z
    · intro z
      cases z
section
variable {w : World} {mg : Str → Option Value} {h base : Heap} (X : (K08 w.params).In h) (G : h.Ns mainGlobals mg) {c : Addr} {A : Around} {outer : List Env} {s : Shared} {H0 : Hp} {E0 : XK} {P : Addr} {T : List (Addr × Str)} (R : Rm w mg base c A outer s H0 E0 P T) (L : TxL mg)
include X G R L
theorem row8 : ∃ t, PS (XL w mg base c A outer s H0 E0) (inLoop 8) t ∧ ∀ (D : Ends) (H : Hp) (sc p cc l : Addr) (n : Nat) (a : Int) (x2 x3 x4 x5 x6 x7 x8 x9 x10 x11 x12 x13 x14 x15 x16 : Option V) (tp r1 r2 r3 r4 : Addr) (x : Addr) (r : Str) (vb vn vo vw : V) (db dn dO dw : PyData), Lw T p cc l n a H → Vals H x r vb vn vo vw db dn dO dw → x8 = some (.ref x) → x10 = some (.str r) → x11 = some vb → x12 = some vn → x13 = some vo → x14 = some vw → ToldB H tp [r1, r2, r3, r4] [.tuple [.str "reader", db], .tuple [.str "base", dn], .tuple [.str "number", dO], .tuple [.str "digits", dw]] → x7 = some (.ref tp) → (∀ (H' : Hp), Ex H H' → D.nx [some (.ref sc), some (.ref p), x2, x3, x4, x5, x6, x7, x8, x9, x10, x11, x12, x13, x14, x15, x16] H') → t D [some (.ref sc), some (.ref p), x2, x3, x4, x5, x6, x7, x8, x9, x10, x11, x12, x13, x14, x15, x16] H := by
  obtain ⟨hr, hu64, TB, hT, hu⟩ := R
  refine ⟨_, (ps_if (pt_cmpR op_ne (pe_callB (call_reprK hr.g hu64) (by rfl) L.repr (by decide +kernel) (pa_cons (pv 7) pa_nil)) (pe_callB (call_reprK hr.g hu64) (by rfl) L.repr (by decide +kernel) (pa_cons (pe_lst (pa_cons (pe_tup (pa_cons pe_str (pa_cons (pv 11) pa_nil))) (pa_cons (pe_tup (pa_cons pe_str (pa_cons (pv 12) pa_nil))) (pa_cons (pe_tup (pa_cons pe_str (pa_cons (pv 13) pa_nil))) (pa_cons (pe_tup (pa_cons pe_str (pa_cons (pv 14) pa_nil))) pa_nil))))) pa_nil)) (nomark _)) (pss_one (ps_ret pe_bl)) pss_nil), fun D H sc p cc l n a x2 x3 x4 x5 x6 x7 x8 x9 x10 x11 x12 x13 x14 x15 x16 tp r1 r2 r3 r4 x r vb vn vo vw db dn dO dw W V h8 h10 h11 h12 h13 h14 to h7 q => ?_⟩
  subst h8 h10 h11 h12 h13 h14
  subst h7
  obtain ⟨y1, y2, y3⟩ := SmAll.list (.cons (V.sb.pair (x := "reader") (wd_len (n := 6) (by decide) (by decide))) (.cons (V.sn.pair (x := "base") (wd_len (n := 1) (by decide) (by decide))) (.cons (V.so.pair (x := "number") (wd_len (n := 2) (by decide) (by decide))) (.cons (V.sw.pair (x := "digits") (wd_len (n := 3) (by decide) (by decide))) .nil)))) (by simp)
  refine ⟨_, rfl, tp, _, [.tuple [.str "reader", db], .tuple [.str "base", dn], .tuple [.str "number", dO], .tuple [.str "digits", dw]], rfl, sq_of to.l, to.k.dj, y1, y2, y3, _, rfl, (by show (2:Nat) ≤ sizeLine; rw [sizeLine_eq]; omega), fun t1 n1 => ⟨_, rfl, (by show (2:Nat) ≤ sizeLine; rw [sizeLine_eq]; omega), fun t2 n2 => ⟨_, rfl, (by show (2:Nat) ≤ sizeLine; rw [sizeLine_eq]; omega), fun t3 n3 => ⟨_, rfl, (by show (2:Nat) ≤ sizeLine; rw [sizeLine_eq]; omega), fun t4 n4 => ⟨(by show (4:Nat) ≤ sizeLine; rw [sizeLine_eq]; omega), fun lq nlq => ?_⟩⟩⟩⟩⟩
  have f1 := Ex.new (o := .tup [.str "reader", vb]) n1
  have f2 := Ex.new (o := .tup [.str "base", vn]) n2
  have f3 := Ex.new (o := .tup [.str "number", vo]) n3
  have f4 := Ex.new (o := .tup [.str "digits", vw]) n4
  have f5 := Ex.new (o := .lst [.ref t1, .ref t2, .ref t3, .ref t4]) nlq
  have f45 := f4.trans f5
  have f35 := f3.trans f45
  have f25 := f2.trans f35
  have f15 := f1.trans f25
  have ta : TAll _ [t1, t2, t3, t4] [.tuple [.str "reader", db], .tuple [.str "base", dn], .tuple [.str "number", dO], .tuple [.str "digits", dw]] := .cons (f25 _ _ upd_same) (V.b.ex f15) (.cons (f35 _ _ upd_same) (V.n.ex f15) (.cons (f45 _ _ upd_same) (V.o.ex f15) (.cons (f5 _ _ upd_same) (V.w.ex f15) .nil)))
  refine ⟨lq, _, [.tuple [.str "reader", db], .tuple [.str "base", dn], .tuple [.str "number", dO], .tuple [.str "digits", dw]], rfl, sq_of upd_same, ta.dj, y1, y2, y3, rfl, _, rfl, ?_⟩
  rw [decide_eq_true rfl]
  exact q _ f15
theorem row13 : ∃ t, PS (XL w mg base c A outer s H0 E0) (inLoop 13) t ∧ ∀ (D : Ends) (H : Hp) (sc p cc l : Addr) (n : Nat) (a : Int) (x2 x3 x4 x5 x6 x7 x8 x9 x10 x11 x12 x13 x14 x15 x16 : Option V) (x : Addr) (r : Str) (vb vn vo vw : V) (db dn dO dw : PyData), Lw T p cc l n a H → Vals H x r vb vn vo vw db dn dO dw → x8 = some (.ref x) → x10 = some (.str r) → x11 = some vb → x12 = some vn → x13 = some vo → x14 = some vw → (∀ (lq t1 t2 t3 t4 t5 : Addr) (H' : Hp), Ex H H' → ToldB H' lq [t1, t2, t3, t4, t5] [.tuple [.str "reader", db], .tuple [.str "base", dn], .tuple [.str "range", .tuple [dO, .int 9]], .tuple [.str "reader", db], .tuple [.str "range", .tuple [.int 9, dO]]] → D.nx [some (.ref sc), some (.ref p), x2, x3, x4, x5, x6, x7, x8, x9, x10, x11, x12, x13, x14, some (.ref lq), x16] H') → t D [some (.ref sc), some (.ref p), x2, x3, x4, x5, x6, x7, x8, x9, x10, x11, x12, x13, x14, x15, x16] H := by
  obtain ⟨hr, hu64, TB, hT, hu⟩ := R
  refine ⟨_, (ps_set (i := 15) scLaw.nd rfl (.inl rfl) (pe_lst (pa_cons (pe_tup (pa_cons pe_str (pa_cons (pv 11) pa_nil))) (pa_cons (pe_tup (pa_cons pe_str (pa_cons (pv 12) pa_nil))) (pa_cons (pe_tup (pa_cons pe_str (pa_cons (pe_tup (pa_cons (pv 13) (pa_cons pe_int pa_nil))) pa_nil))) (pa_cons (pe_tup (pa_cons pe_str (pa_cons (pv 11) pa_nil))) (pa_cons (pe_tup (pa_cons pe_str (pa_cons (pe_tup (pa_cons pe_int (pa_cons (pv 13) pa_nil))) pa_nil))) pa_nil))))))), fun D H sc p cc l n a x2 x3 x4 x5 x6 x7 x8 x9 x10 x11 x12 x13 x14 x15 x16 x r vb vn vo vw db dn dO dw W V h8 h10 h11 h12 h13 h14 q => ?_⟩
  subst h8 h10 h11 h12 h13 h14
  refine ⟨_, rfl, (by show (2:Nat) ≤ sizeLine; rw [sizeLine_eq]; omega), fun t1 n1 => ⟨_, rfl, (by show (2:Nat) ≤ sizeLine; rw [sizeLine_eq]; omega), fun t2 n2 => ⟨_, rfl, (by show (2:Nat) ≤ sizeLine; rw [sizeLine_eq]; omega), fun u3 m3 => ⟨(by show (2:Nat) ≤ sizeLine; rw [sizeLine_eq]; omega), fun t3 n3 => ⟨_, rfl, (by show (2:Nat) ≤ sizeLine; rw [sizeLine_eq]; omega), fun t4 n4 => ⟨_, rfl, (by show (2:Nat) ≤ sizeLine; rw [sizeLine_eq]; omega), fun u5 m5 => ⟨(by show (2:Nat) ≤ sizeLine; rw [sizeLine_eq]; omega), fun t5 n5 => ⟨(by show (5:Nat) ≤ sizeLine; rw [sizeLine_eq]; omega), fun lq nlq => ?_⟩⟩⟩⟩⟩⟩⟩⟩
  have f1 := Ex.new (o := .tup [.str "reader", vb]) n1
  have f2 := Ex.new (o := .tup [.str "base", vn]) n2
  have f3 := Ex.new (o := .tup [vo, .int 9]) m3
  have f4 := Ex.new (o := .tup [.str "range", .ref u3]) n3
  have f5 := Ex.new (o := .tup [.str "reader", vb]) n4
  have f6 := Ex.new (o := .tup [.int 9, vo]) m5
  have f7 := Ex.new (o := .tup [.str "range", .ref u5]) n5
  have f8 := Ex.new (o := .lst [.ref t1, .ref t2, .ref t3, .ref t4, .ref t5]) nlq
  have c7 := f7.trans f8
  have c6 := f6.trans c7
  have c5 := f5.trans c6
  have c4 := f4.trans c5
  have c3 := f3.trans c4
  have c2 := f2.trans c3
  have c1 := f1.trans c2
  refine q lq t1 t2 t3 t4 t5 _ c1 ⟨upd_same, ?_⟩
  exact .cons (c2 _ _ upd_same) (V.b.ex c1) (.cons (c3 _ _ upd_same) (V.n.ex c1) (.cons (c5 _ _ upd_same) (.pair (c4 _ _ upd_same) (V.o.ex c1) (.int 9)) (.cons (c6 _ _ upd_same) (V.b.ex c1) (.cons (f8 _ _ upd_same) (.pair (c7 _ _ upd_same) (.int 9) (V.o.ex c1)) .nil))))
theorem row14 : ∃ t, PS (XL w mg base c A outer s H0 E0) (inLoop 14) t ∧ ∀ (D : Ends) (H : Hp) (sc p cc l : Addr) (n : Nat) (a : Int) (x2 x3 x4 x5 x6 x7 x8 x9 x10 x11 x12 x13 x14 x15 x16 : Option V) (tp lq r1 r2 r3 r4 r5 t1 t2 t3 t4 t5 : Addr) (x : Addr) (r : Str) (vb vn vo vw : V) (db dn dO dw : PyData), Lw T p cc l n a H → Vals H x r vb vn vo vw db dn dO dw → x8 = some (.ref x) → x10 = some (.str r) → x11 = some vb → x12 = some vn → x13 = some vo → x14 = some vw → ToldB H tp [r1, r2, r3, r4, r5] [.tuple [.str "reader", db], .tuple [.str "base", dn], .tuple [.str "range", .tuple [dO, .int 9]], .tuple [.str "reader", db], .tuple [.str "range", .tuple [.int 9, dO]]] → ToldB H lq [t1, t2, t3, t4, t5] [.tuple [.str "reader", db], .tuple [.str "base", dn], .tuple [.str "range", .tuple [dO, .int 9]], .tuple [.str "reader", db], .tuple [.str "range", .tuple [.int 9, dO]]] → x7 = some (.ref tp) → x15 = some (.ref lq) → (∀ (H' : Hp), Ex H H' → D.nx [some (.ref sc), some (.ref p), x2, x3, x4, x5, x6, x7, x8, x9, x10, x11, x12, x13, x14, x15, x16] H') → t D [some (.ref sc), some (.ref p), x2, x3, x4, x5, x6, x7, x8, x9, x10, x11, x12, x13, x14, x15, x16] H := by
  obtain ⟨hr, hu64, TB, hT, hu⟩ := R
  refine ⟨_, (ps_if (pt_cmpR op_ne (pe_callB (call_reprK hr.g hu64) (by rfl) L.repr (by decide +kernel) (pa_cons (pv 7) pa_nil)) (pe_callB (call_reprK hr.g hu64) (by rfl) L.repr (by decide +kernel) (pa_cons (pv 15) pa_nil)) (nomark _)) (pss_one (ps_ret pe_bl)) pss_nil), fun D H sc p cc l n a x2 x3 x4 x5 x6 x7 x8 x9 x10 x11 x12 x13 x14 x15 x16 tp lq r1 r2 r3 r4 r5 t1 t2 t3 t4 t5 x r vb vn vo vw db dn dO dw W V h8 h10 h11 h12 h13 h14 to tq h7 h15 q => ?_⟩
  subst h8 h10 h11 h12 h13 h14
  subst h7 h15
  obtain ⟨y1, y2, y3⟩ := SmAll.list (.cons (V.sb.pair (x := "reader") (wd_len (n := 6) (by decide) (by decide))) (.cons (V.sn.pair (x := "base") (wd_len (n := 1) (by decide) (by decide))) (.cons (V.so2.pair (x := "range") (wd_len (n := 4) (by decide) (by decide))) (.cons (V.sb.pair (x := "reader") (wd_len (n := 6) (by decide) (by decide))) (.cons (V.so3.pair (x := "range") (wd_len (n := 4) (by decide) (by decide))) .nil))))) (by simp)
  refine ⟨_, rfl, tp, _, [.tuple [.str "reader", db], .tuple [.str "base", dn], .tuple [.str "range", .tuple [dO, .int 9]], .tuple [.str "reader", db], .tuple [.str "range", .tuple [.int 9, dO]]], rfl, sq_of to.l, to.k.dj, y1, y2, y3, _, rfl, lq, _, [.tuple [.str "reader", db], .tuple [.str "base", dn], .tuple [.str "range", .tuple [dO, .int 9]], .tuple [.str "reader", db], .tuple [.str "range", .tuple [.int 9, dO]]], rfl, sq_of tq.l, tq.k.dj, y1, y2, y3, rfl, _, rfl, ?_⟩
  rw [decide_eq_true rfl]
  exact q _ (Ex.refl _)
theorem row15 : ∃ t, PS (XL w mg base c A outer s H0 E0) (inLoop 15) t ∧ ∀ (D : Ends) (H : Hp) (sc p cc l : Addr) (n : Nat) (a : Int) (x2 x3 x4 x5 x6 x7 x8 x9 x10 x11 x12 x13 x14 x15 x16 : Option V), l ≠ cc → a + 2 < 2 ^ 39 → Lw T p cc l n a H →
    (∀ (ρ : Nat) (H' : Hp), ρ < 10 → SameB H H' p l → Lw T p cc l n (a + 1) H' → D.nx [some (.ref sc), some (.ref p), x2, x3, x4, x5, x6, x7, x8, x9, x10, x11, x12, x13, x14, x15, some (.str ⟨#[48 + ρ]⟩)] H') → t D [some (.ref sc), some (.ref p), x2, x3, x4, x5, x6, x7, x8, x9, x10, x11, x12, x13, x14, x15, x16] H := by
  obtain ⟨hr, hu64, TB, hT, hu⟩ := R
  refine ⟨_, (ps_set (i := 16) scLaw.nd rfl (.inl rfl) (pe_ix ix_str pe_str (pe_call (f_draw X G) (hr.r.mono (by decide)) (by rfl) (txO X G).draw (kp_l_draw _) (bd_l_draw _) .nil pass0 (pa_cons (pv 1) (pa_cons pe_int pa_nil))) (fun _ _ => rfl))), fun D H sc p cc l n a x2 x3 x4 x5 x6 x7 x8 x9 x10 x11 x12 x13 x14 x15 x16 nlc ha W q => ?_⟩
  refine rd_draw (p := p) rfl ev_c W.s nlc (by omega) (by decide) (by decide) fun r H1 hr1 S1 sb1 => ?_
  exact ⟨_, _, 48 + r, rfl, rfl, by decide, figs_at (by omega), q r H1 (by omega) sb1 (W.same S1 sb1)⟩
theorem row16 : ∃ t, PS (XL w mg base c A outer s H0 E0) (inLoop 16) t ∧ ∀ (D : Ends) (H : Hp) (sc p cc l : Addr) (n : Nat) (a : Int) (x2 x3 x4 x5 x6 x7 x8 x9 x10 x11 x12 x13 x14 x15 x16 : Option V) (r : Str), l ≠ cc → a + 2 < 2 ^ 39 → Lw T p cc l n a H → isRd r → x10 = some (.str r) →
    (∀ (H' : Hp), (∀ b o, H b = some o → (∀ ps, o ≠ .tbl ps) → b ≠ p → b ≠ l → H' b = some o) → Lw T p cc l n (a + 1) H' → D.nx [some (.ref sc), some (.ref p), x2, x3, x4, x5, x6, x7, x8, x9, x10, x11, x12, x13, x14, x15, x16] H') → t D [some (.ref sc), some (.ref p), x2, x3, x4, x5, x6, x7, x8, x9, x10, x11, x12, x13, x14, x15, x16] H := by
  obtain ⟨hr, hu64, TB, hT, hu⟩ := R
  refine ⟨_, (ps_if (pt_cmpR op_eq (pe_callB (call_reprJ hr.g hu64) (by rfl) L.repr (by decide +kernel) (pa_cons (pe_lamcallR (k := 10) (T := T) (by rfl) L.raised (kp_l_raised _) (lk08 _) (hcd08 _) (bd_l_raised _) Told.scR rfl (.inl rfl) (Told.raised_gives (ca := ca08) (txT X G) (rwT08 _)) TB rfl hT hu (hr.r.mono (by decide)) (lamN_by (show lamNB (defScope sLaw) _ nLaw = true by decide +kernel)) (by rfl) (fun _ _ _ _ _ => by rfl) (fun A outer s H E f c' hr' => (pe_callS (f_compl X G) (hr'.mono (by decide)) (by rfl) L.compl (kp_completed _) (bd_completed _) (fun σ => passAt (takes_of rfl rfl rfl rfl) σ) (pa_cons (pv 10) (pa_cons pe_int (pa_cons pe_int (pa_cons (pe_op op_add_str pe_str (pe_ix ix_str pe_str (pe_op op_add pe_int (pe_call (f_draw X G) (hr'.mono (by decide)) (by rfl) (txO X G).draw (kp_l_draw _) (bd_l_draw _) .nil pass0 (pa_cons (pv 1) (pa_cons pe_int pa_nil)))) (fun _ _ => rfl))) pa_nil))))))) pa_nil)) (pe_callB (call_reprJ hr.g hu64) (by rfl) L.repr (by decide +kernel) (pa_cons (pe_tup pa_nil) pa_nil)) (nomark _)) (pss_one (ps_ret pe_bl)) pss_nil), fun D H sc p cc l n a x2 x3 x4 x5 x6 x7 x8 x9 x10 x11 x12 x13 x14 x15 x16 r nlc ha W hrd h10 q => ?_⟩
  subst h10
  refine ⟨W.t, fun H1 e1 T1 fl hfl => ?_⟩
  have ef := Ex.new (o := .lst []) hfl
  have WZ := (W.extN e1 T1).ex ef
  have ofl := (W.extN e1 T1).off hfl
  have ofl3 := off3 (W.extN e1 T1).s hfl
  refine ⟨_, rfl, rd_draw (p := p) rfl ev_c WZ.s nlc (by omega) (by decide) (by decide) fun ρ H2 hρ S2 sb2 => ?_⟩
  have W2 := WZ.same S2 sb2
  have g2 : H2 fl = some (.lst []) := sb2 _ _ upd_same ofl.1 ofl.2
  have one : (("1" : Str)).length = 1 := by decide
  have two : ((⟨#[48 + (3 + ρ)]⟩ : Str)).length = 1 := rfl
  refine ⟨_, _, rfl, rfl, _, _, 48 + (3 + ρ), rfl, rfl, by decide, ?_, _, _, rfl, rfl, (by rw [one, two, sizeLine_eq]; omega), ?_⟩
  · have := figs_at (d := 3 + ρ) (by omega)
    rw [show ((3 + ρ : Nat) : Int) = 3 + (ρ : Int) by omega] at this
    exact this
  have bad : figsO 3 1000 (some (("1" : Str) ++ ⟨#[48 + (3 + ρ)]⟩)) = false := by
    show isFigs 3 1000 _ = false
    unfold isFigs
    have tlx : tl (("1" : Str) ++ ⟨#[48 + (3 + ρ)]⟩) = [49, 48 + (3 + ρ)] := by
      rw [tl_append]
      have : tl ("1" : Str) = [49] := by decide
      rw [this]
      rfl
    rw [tlx]
    have : decide (48 ≤ 48 + (3 + ρ) ∧ 48 + (3 + ρ) < 48 + 3) = false := decide_eq_false (by omega)
    rw [List.all_cons, List.all_cons, this, Bool.false_and, Bool.and_false, Bool.and_false]
  have lx : (("1" : Str) ++ ⟨#[48 + (3 + ρ)]⟩ : Str).length = 2 := by rw [len_append, one, two]
  generalize hY : (("1" : Str) ++ ⟨#[48 + (3 + ρ)]⟩) = Y at bad lx ⊢
  refine ⟨.str r, .int 3, .int 5, .str Y, true, true, true, some Y, rfl, rdr_yes hrd, bs_yes (β := 3) (by decide) (by decide), nm_yes (n := 5) (by decide), .str _, (fun x h => by injection h with h; rw [← h, lx, sizeLine_eq]; omega), (fun z => nomatch z), (fun _ z => nomatch z), (fun _ _ z => nomatch z), fun _ _ _ => ⟨r, 3, 5, rfl, rfl, rfl, hrd, by decide, by decide, by decide, fun _ => ?_, fun x h hf _ => ?_⟩⟩
  · intro H3 d e3 hd
    have en := Ex.new (o := .xd [("value", .str Y)]) hd
    have e23 := e3.trans en
    have W3 := W2.ex e23
    refine ⟨e23 _ _ g2, 3, [.str Y], says_one (by decide) (by decide) (by decide) (by decide) (by decide) upd_same, fun rt H4 nrt kp h4 => ?_⟩
    have W4 : Lw T p cc l n (a + 1) H4 := by
      obtain ⟨S3, T3⟩ := W3
      have o1 : p ≠ fl := fun z => ofl3.1 z.symm
      obtain ⟨cs, hc, kc⟩ := S3.c
      obtain ⟨ls, hl, kl⟩ := S3.l
      refine ⟨⟨kp _ _ S3.d o1, ⟨cs, kp _ _ hc (fun z => ofl3.2.1 z.symm), kc⟩, ⟨ls, kp _ _ hl (fun z => ofl3.2.2 z.symm), kl⟩, S3.n0, S3.n1, S3.a0⟩, fun Q hQ => ?_⟩
      obtain ⟨ps, h1, h2, h3⟩ := T3 Q hQ
      have gfl := e23 _ _ g2
      refine ⟨ps, kp _ _ h1 (ne_of h1 gfl (by intro z; cases z)), h2, fun pos cv hc' => ?_⟩
      obtain ⟨co, c1, c2⟩ := h3 pos cv hc'
      exact ⟨co, c1, kp _ _ c2 (ne_of c2 gfl (by intro z; cases z))⟩
    have sm : Sm (.tuple [.str "digits", .str Y]) := Sq.pair (x := "digits") (wd_len (n := 3) (by decide) (by decide)) (one_fig (fun c hc => by
      have hc' : c ∈ tl Y := hc
      rw [← hY, tl_append] at hc'
      have e8 : (16 : Nat) ^ 8 = 4294967296 := by decide
      rcases List.mem_append.mp hc' with z | z
      · have : tl ("1" : Str) = [49] := by decide
        rw [this] at z
        have := List.mem_singleton.mp z
        omega
      · have : tl (⟨#[48 + (3 + ρ)]⟩ : Str) = [48 + (3 + ρ)] := rfl
        rw [this] at z
        have := List.mem_singleton.mp z
        omega) (by rw [lx]; decide))
    obtain ⟨y1, y2, y3⟩ := sm_sz sm
    refine ⟨.ref rt, .tuple [.str "digits", .str Y], rfl, .pair (st_of h4) (Pv.dj (.str _)), y1, y2, y3, (by show (0:Nat) ≤ sizeLine; rw [sizeLine_eq]; omega), fun t0 nt0 => ?_⟩
    have e5 := Ex.new (o := .tup []) nt0
    refine ⟨.ref t0, .tuple [], rfl, .di (.dp (.tup (st_of upd_same) .nil)), emp_ok.1, emp_ok.2.1, emp_ok.2.2, rfl, _, rfl, ?_⟩
    have ne : decide (V.str (PyData.tuple [.str "digits", .str Y]).shown = V.str (PyData.tuple []).shown) = false := decide_eq_false fun z => by
      injection z with z
      have z2 := congrArg tl z
      rw [tl_tup2, tl_tup0] at z2
      have z3 := congrArg List.length z2
      rw [List.length_cons, List.length_append, List.length_cons, List.length_cons, List.length_append] at z3
      simp only [List.length_cons, List.length_nil] at z3
      omega
    rw [ne]
    exact q _ (fun b o hb hn h1 h2 => e5 _ _ (kp b o (e23 _ _ (sb2 _ _ (ef _ _ (e1 b o hb hn)) h1 h2)) (ne_of_none (e1 b o hb hn) hfl))) (W4.ex e5)
  · injection h with h
    subst h
    have b2 : isFigs 3 1000 Y = false := bad
    rw [b2] at hf
    cases hf
theorem row17 : ∃ t, PS (XL w mg base c A outer s H0 E0) (inLoop 17) t ∧ ∀ (D : Ends) (H : Hp) (sc p cc l : Addr) (n : Nat) (a : Int) (x2 x3 x4 x5 x6 x7 x8 x9 x10 x11 x12 x13 x14 x15 x16 : Option V) (r : Str) (ρ : Nat), isRd r → ρ < 10 → x10 = some (.str r) → x16 = some (.str ⟨#[48 + ρ]⟩) → (∀ (H' : Hp), Ex H H' → D.nx [some (.ref sc), some (.ref p), x2, x3, x4, x5, x6, x7, x8, x9, x10, x11, x12, x13, x14, x15, x16] H') → t D [some (.ref sc), some (.ref p), x2, x3, x4, x5, x6, x7, x8, x9, x10, x11, x12, x13, x14, x15, x16] H := by
  obtain ⟨hr, hu64, TB, hT, hu⟩ := R
  refine ⟨_, (ps_if (pt_cmpR op_isN (pe_callS (f_compl X G) (hr.r.mono (by decide)) (by rfl) L.compl (kp_completed _) (bd_completed _) (fun σ => passAt L2.takes0 σ) (pa_cons (pv 10) (pa_cons pe_int (pa_cons pe_int (pa_cons (pe_op op_add_str pe_str (pe_op op_repS (pv 16) pe_int)) pa_nil))))) pe_non (nomark _)) (pss_one (ps_ret pe_bl)) pss_nil), fun D H sc p cc l n a x2 x3 x4 x5 x6 x7 x8 x9 x10 x11 x12 x13 x14 x15 x16 r ρ hrd hρ h10 h16 q => ?_⟩
  subst h10 h16
  obtain ⟨g1, g2, g3⟩ := ten_pos hρ
  have one : (("1" : Str)).length = 1 := by decide
  have two : ((⟨(List.replicate 999 (48 + ρ)).toArray⟩ : Str)).length = 999 := by
    rw [len_t]
    show ((List.replicate 999 (48 + ρ)).toArray).toList.length = 999
    simp
  refine ⟨_, rfl, _, rfl, 48 + ρ, 999, rfl, rfl, by decide, by decide, _, _, rfl, rfl, (by rw [one, two, sizeLine_eq]; omega), ?_⟩
  generalize (("1" : Str) ++ ⟨(List.replicate 999 (48 + ρ)).toArray⟩) = Y at g1 g2 g3 ⊢
  have g3r := g3 r
  rw [← g2] at g3r
  refine ⟨.str r, .int 10, .int 5, .str Y, true, true, true, some Y, rfl, rdr_yes hrd, bs_yes (β := 10) (by decide) (by decide), nm_yes (n := 5) (by decide), .str Y, (fun x h => ?_), (fun z => nomatch z), (fun _ z => nomatch z), (fun _ _ z => nomatch z), fun _ _ _ => ⟨r, 10, 5, rfl, rfl, rfl, hrd, by decide, by decide, by decide, fun z => ?_, fun x h hf _ H1 e1 => ?_⟩⟩
  · injection h with h
    rw [← h, g2, sizeLine_eq]
    omega
  · have z' : isFigs 10 1000 Y = false := z
    rw [g1] at z'
    cases z'
  · injection h with h
    subst h
    refine ⟨rfl, _, rfl, ?_⟩
    have ne : decide (cmpl r ((5 : Nat) : Int) ((10 ^ Y.length : Nat) : Int) (numF 10 (tl Y) : Int) (zeroAt Y) = V.non) = false := decide_eq_false g3r
    rw [ne]
    exact q H1 e1
end
end KH08

namespace KH08
open PySem L2 Evl ExM Dg Dt LamR LamX Told TL StX ClX
open Dr (StAt SameB)
theorem lstI {H : Hp} {v : V} {ds : List PyData} (h : Pt H v (.list ds)) : ∃ a vs, v = .ref a ∧ H a = some (.lst vs) ∧ PtAll H vs ds := by
  cases h with
  | lst hs ha => exact ⟨_, _, rfl, hs, ha⟩
theorem pt_oD {H : Hp} {v : V} {o : Option Nat} (h : Pt H v (oD o)) : v = oV o := by
  cases o with
  | none =>
    cases h
    rfl
  | some i =>
    cases h
    rfl
theorem ev_complV {K : PySem.W.Frag} {ca : Nat → Addr} {σ : St} {H : Hp} {t0 t1 t2 t3 : TE} {E : St → XK} {r : Str} {β f : Nat} {x : Str} (hr : isRd r) (b2 : 2 ≤ β) (b10 : β ≤ 10) (f1 : 1 ≤ f) (hx : isFigs β 1000 x = true) (hl : x.length ≤ 1000) (h0 : Ev t0 σ H (.str r)) (h1 : Ev t1 σ H (.int β)) (h2 : Ev t2 σ H (.int f)) (h3 : Ev t3 σ H (.str x)) :
    Ev (tCallS (spComplR K ca) E (tCons t0 (tCons t1 (tCons t2 (tCons t3 tNil))))) σ H (cmpl r f ((β ^ x.length : Nat) : Int) (numF β (tl x)) (zeroAt x)) := fun H1 e Q q =>
  h0 H1 e _ fun H2 e2 => h1 H2 (e.trans e2) _ fun H3 e3 => h2 H3 ((e.trans e2).trans e3) _ fun H4 e4 => h3 H4 (((e.trans e2).trans e3).trans e4) _ fun H5 e5 => ⟨.str r, .int β, .int f, .str x, true, true, true, some x, rfl, rdr_yes hr, bs_yes b2 b10, nm_yes f1, .str x, (fun y h => by injection h with h; rw [← h, sizeLine_eq]; omega), (fun z => nomatch z), (fun _ z => nomatch z), (fun _ _ z => nomatch z), fun _ _ _ => ⟨r, β, f, rfl, rfl, rfl, hr, b2, b10, f1, (fun z => by have z' : isFigs β 1000 x = false := z; rw [hx] at z'; cases z'), fun y h _ _ H6 e6 => by
    injection h with h
    subst h
    exact q H6 ((((e2.trans e3).trans e4).trans e5).trans e6)⟩⟩
theorem ev_isR {K : PySem.W.Frag} {σ : St} {H : Hp} {t0 t1 t2 t3 : TE} {E : St → XK} {r : Str} {x : Addr} {f s : Nat} {b : Bool} (hr : isRd r) (f1 : 1 ≤ f) (fs : f < s) (s2 : s < 2 ^ 50000) (sty : StyAt H 637 x 10 stD) (hb : decide (fewN r 10 f s ≤ keptD 10 f s stD) = b) (h0 : Ev t0 σ H (.ref x)) (h1 : Ev t1 σ H (.str r)) (h2 : Ev t2 σ H (.int f)) (h3 : Ev t3 σ H (.int s)) :
    Ev (tCallS (spIsRightR K 637 ca08) E (tCons t0 (tCons t1 (tCons t2 (tCons t3 tNil))))) σ H (.bl b) := fun H1 e Q q =>
  h0 H1 e _ fun H2 e2 => h1 H2 (e.trans e2) _ fun H3 e3 => h2 H3 ((e.trans e2).trans e3) _ fun H4 e4 => h3 H4 (((e.trans e2).trans e3).trans e4) _ fun H5 e5 => ⟨x, .str r, .int f, .int s, true, true, true, 10, stD, rfl, sty.ex ((((e.trans e2).trans e3).trans e4).trans e5), by decide, by decide, st_row, rdr_yes hr, nm_yes f1, nm_yes (Nat.le_of_lt (Nat.lt_of_le_of_lt f1 fs)), (fun z => nomatch z), fun _ => ⟨r, rfl, hr, ⟨(fun z => nomatch z), fun _ => .inr ⟨f, s, rfl, rfl, f1, fs, s2, fun H6 e6 => by
    rw [hb]
    exact q H6 ((((e2.trans e3).trans e4).trans e5).trans e6)⟩⟩⟩⟩
theorem ev_reprKV {K : PySem.W.Frag} {σ : St} {H : Hp} {te : TE} {a : Addr} {vs : List V} {ds : List PyData} (h : Ev te σ H (.ref a)) (ha : H a = some (.lst vs)) (hd : DjAll K H vs ds) (s : SmAll ds) (hl : ds.length ≤ 100) : Ev (tCB (rReprK K) (tCons te tNil)) σ H (.str (PyData.list ds).shown) := fun H1 e Q q =>
  h H1 e _ fun H2 e2 => ⟨a, vs, ds, rfl, sq_of (e2 _ _ (e _ _ ha)), hd.ex (e.trans e2), (s.list hl).1, (s.list hl).2.1, (s.list hl).2.2, q H2 e2⟩
theorem sm_n {n : Nat} (h : n ≤ 10000000) : Sm (.int (n : Int)) := by
  have p : plainD (.int (n : Int)) := pl_int (Nat.lt_of_le_of_lt h (Nat.lt_of_lt_of_le (by decide : 10000000 < 2 ^ 30) (Nat.pow_le_pow_right (by decide) (by decide))))
  exact ⟨(shown_cap _ p).1, Nat.le_trans (shown_cap _ p).2 (by simp [cap]), by simp [PyData.depth]⟩
theorem sm_oD {o : Option Nat} (h : ∀ i ∈ o, i ≤ 10000000) : Sm (oD o) := by
  cases o with
  | none => exact ⟨by decide +kernel, by decide +kernel, by decide +kernel⟩
  | some i => exact sm_n (h i rfl)
theorem dj_oV {K : PySem.W.Frag} {H : Hp} (o : Option Nat) : Dj K H (oV o) (oD o) := by
  cases o with
  | none => exact .di (.dp .non)
  | some i => exact .di (.dp (.int _))
instance {β f s m : Nat} : Decidable (ChgIs β f s m) := by
  unfold ChgIs
  infer_instance
instance {β d k : Nat} : Decidable (NearIs β d k) := by
  unfold NearIs
  infer_instance
theorem kept1 : keptD 10 96 104 stD = 1 := by
  have h0 : firstD 10 96 104 stD = 0 := rfl
  unfold keptD
  rw [h0]
  show (if ("last" : Str) = "changed" then min (max (chgN 10 96 104) (1 : Int).toNat) (dl 10 104).length else min (1 : Int).toNat (dl 10 104).length) = 1
  rw [if_neg (by decide +kernel)]
  decide +kernel
theorem right1 : decide (fewN "next" 10 96 104 ≤ keptD 10 96 104 stD) = true := by
  have : fewN "next" 10 96 104 = 1 := by
    unfold fewN
    rw [if_neg (by decide +kernel), neaN_eq (k := 1) (by decide +kernel)]
    rfl
  rw [this, kept1]
  rfl
theorem right2 : decide (fewN "replace" 10 96 104 ≤ keptD 10 96 104 stD) = false := by
  have : fewN "replace" 10 96 104 = 3 := by
    unfold fewN
    rw [if_pos rfl, chgN_eq (m := 3) (by decide +kernel)]
  rw [this, kept1]
  rfl
theorem s104 : 104 < 2 ^ 50000 := Nat.lt_of_lt_of_le (by decide : 104 < 2 ^ 7) (Nat.pow_le_pow_right (by decide) (by decide))
theorem sty_sameN {H H' : Hp} {p c l : Addr} {n : Nat} {a : Int} {x : Addr} (S : StAt H p c l n a) (h : StyAt H 637 x 10 stD) (e : ∀ b o, H b = some o → (∀ ps, o ≠ .tbl ps) → b ≠ p → b ≠ l → H' b = some o) : StyAt H' 637 x 10 stD := by
  obtain ⟨dx, t, h1, h2⟩ := h
  obtain ⟨ls, hl, _⟩ := S.l
  refine ⟨dx, t, e _ _ h1 (by simp) (ne_of h1 S.d (by intro z; cases z)) (ne_of h1 hl (by intro z; cases z)), h2.tk (fun y ys hy => ?_) (by decide +kernel)⟩
  exact e _ _ hy (by simp) (ne_of hy S.d (by intro z; cases z)) (ne_of hy hl (by intro z; cases z))
section
variable {w : World} {mg : Str → Option Value} {h base : Heap} (X : (K08 w.params).In h) (G : h.Ns mainGlobals mg) {c : Addr} {A : Around} {outer : List Env} {s : Shared} {H0 : Hp} {E0 : XK} {P : Addr} {T : List (Addr × Str)} (R : Rm w mg base c A outer s H0 E0 P T) (L : TxL mg)
include X G R L
theorem lr1 : ∃ t, PS (XL w mg base c A outer s H0 E0) (inLaw 1) t ∧ ∀ (D : Ends) (H : Hp) (sc p cc l : Addr) (n : Nat) (a : Int) (x2 x3 x4 x5 x6 x7 x8 x9 x10 x11 x12 x13 x14 x15 x16 : Option V), (∀ (H' : Hp), Ex H H' → D.nx [some (.ref sc), some (.ref p), x2, x3, x4, x5, x6, x7, x8, x9, x10, x11, x12, x13, x14, x15, x16] H') → t D [some (.ref sc), some (.ref p), x2, x3, x4, x5, x6, x7, x8, x9, x10, x11, x12, x13, x14, x15, x16] H := by
  obtain ⟨hr, hu64, TB, hT, hu⟩ := R
  refine ⟨_, (ps_if (pt_cmpR (op_neD (show _ + 64 < cLine from hu64)) (pe_glob (by rfl) (txP X G).readers (v := .ref 642) rfl) (pe_tup (pa_cons pe_str (pa_cons pe_str pa_nil))) (nomark _)) (pss_one (ps_ret pe_bl)) pss_nil), fun D H sc p cc l n a x2 x3 x4 x5 x6 x7 x8 x9 x10 x11 x12 x13 x14 x15 x16 q => ?_⟩
  have sh : SeqAt.shaped (.tuple [.str "replace", .str "next"]) = true := by decide +kernel
  refine s_when (b := false) (et_test (ev_opU ev_c (eu_tup (vs := [.str "replace", .str "next"]) (ea_cons ev_c (ea_cons ev_c ea_nil)) (by simp)) fun p4 H4 h4 e4 => fun H5 e5 Q5 q5 => ⟨.tuple [.str "replace", .str "next"], .tuple [.str "replace", .str "next"], .tup (rd08 _ H5) (.cons (.str _) (.cons (.str _) .nil)), .tup (st_of (e5 _ _ h4)) (.cons (.str _) (.cons (.str _) .nil)), sh, sh, by
    rw [SeqAt.eqv_refl _ (Bool.and_eq_true_iff.mp sh).1]
    exact q5 _ (Ex.refl _)⟩)) (fun z => nomatch z) fun _ H' e => q H' e
theorem lr2 : ∃ t, PS (XL w mg base c A outer s H0 E0) (inLaw 2) t ∧ ∀ (D : Ends) (H : Hp) (sc p cc l : Addr) (n : Nat) (a : Int) (x2 x3 x4 x5 x6 x7 x8 x9 x10 x11 x12 x13 x14 x15 x16 : Option V), (∀ (y2 y3 y4 y5 y6 y7 : Option V) (H' : Hp), Ex H H' → D.nx [some (.ref sc), some (.ref p), y2, y3, y4, y5, y6, y7, x8, x9, x10, x11, x12, x13, x14, x15, x16] H') → t D [some (.ref sc), some (.ref p), x2, x3, x4, x5, x6, x7, x8, x9, x10, x11, x12, x13, x14, x15, x16] H := by
  obtain ⟨hr, hu64, TB, hT, hu⟩ := R
  refine ⟨_, (ps_for PassesOwn.never rfl (pi_list (pe_call0 (f_hand X G) (hr.r.mono (by decide)) (by rfl) L.hand (kp_l_hand_rows _) (bd_l_hand_rows _) .nil pass0)) (pg_tup (by rfl) (pgs_cons (pg_name (i := 2) scLaw.nd rfl (.inl rfl)) (pgs_cons (pg_name (i := 3) scLaw.nd rfl (.inl rfl)) (pgs_cons (pg_name (i := 4) scLaw.nd rfl (.inl rfl)) (pgs_cons (pg_name (i := 5) scLaw.nd rfl (.inl rfl)) (pgs_cons (pg_name (i := 6) scLaw.nd rfl (.inl rfl)) pgs_nil)))))) (pss_cons (ps_set (i := 7) scLaw.nd rfl (.inl rfl) (pe_lst (pa_cons (pe_callS (f_compl X G) (hr.r.mono (by decide)) (by rfl) L.compl (kp_completed _) (bd_completed _) (fun σ => passAt L2.takes0 σ) (pa_cons pe_str (pa_cons (pv 2) (pa_cons (pv 3) (pa_cons (pv 4) pa_nil))))) (pa_cons (pe_callS (f_compl X G) (hr.r.mono (by decide)) (by rfl) L.compl (kp_completed _) (bd_completed _) (fun σ => passAt L2.takes0 σ) (pa_cons pe_str (pa_cons (pv 2) (pa_cons (pv 3) (pa_cons (pv 4) pa_nil))))) pa_nil)))) (pss_one (ps_if (pt_cmpR op_ne (pe_callB (call_reprK hr.g hu64) (by rfl) L.repr (by decide +kernel) (pa_cons (pv 7) pa_nil)) (pe_callB (call_reprK hr.g hu64) (by rfl) L.repr (by decide +kernel) (pa_cons (pe_lst (pa_cons (pv 5) (pa_cons (pv 6) pa_nil))) pa_nil)) (nomark _)) (pss_one (ps_ret pe_bl)) pss_nil)))), fun D H sc p cc l n a x2 x3 x4 x5 x6 x7 x8 x9 x10 x11 x12 x13 x14 x15 x16 q => ?_⟩
  refine ⟨rfl, fun v H1 e1 k1 => ?_⟩
  obtain ⟨al, us, rfl, hal, kus⟩ := lstI k1
  refine ⟨al, rfl, ⟨_, sq_of hal⟩, for_list (xs := us) (fun i σ H' => (∃ y2 y3 y4 y5 y6 y7, σ = [some (.ref sc), some (.ref p), y2, y3, y4, y5, y6, y7, x8, x9, x10, x11, x12, x13, x14, x15, x16]) ∧ Ex H1 H') ⟨⟨_, _, _, _, _, _, rfl⟩, Ex.refl _⟩ (fun i σ H' _ hI => sq_of (hI.2 _ _ hal)) (fun i y σ H2 hy hI => ?_) (fun σ H2 hI => ?_)⟩
  · obtain ⟨⟨y2, y3, y4, y5, y6, y7, rfl⟩, e2⟩ := hI
    obtain ⟨d, hd, kd⟩ := kus.get2 hy
    rw [hand_map] at hd
    obtain ⟨qq, hqm, rfl⟩ := List.mem_map.mp (List.mem_of_getElem? hd)
    obtain ⟨b2, b10, f1, hx, hl, g1, g2, n1, n2⟩ := hand_ok qq hqm
    obtain ⟨β, f, x, oo, nn⟩ := qq
    obtain ⟨at_, vs5, rfl, hat, k5⟩ := (kd.ex e2).tupI'
    cases k5 with
    | cons k0 k5 =>
      cases k5 with
      | cons k1' k5 =>
        cases k5 with
        | cons k2 k5 =>
          cases k5 with
          | cons k3 k5 =>
            cases k5 with
            | cons k4 k5 =>
              cases k5
              cases k0
              cases k1'
              cases k2
              cases k4
              obtain rfl := pt_oD k3
              refine ⟨at_, _, rfl, st_of hat, rfl, _, _, rfl, _, _, rfl, _, _, rfl, _, _, rfl, _, _, rfl, rfl, ?_⟩
              dsimp only at b2 b10 f1 hx hl g1 g2 n1 n2
              refine q_asgL (xs := [oV oo, .int (nn : Int)]) (el_lst (ea_cons (ev_is (ev_complV (.inr rfl) b2 b10 f1 hx (by omega) ev_c (ev_var rfl) (ev_var rfl) (ev_var rfl)) (by rw [g1])) (ea_cons (ev_is (ev_complV (.inl rfl) b2 b10 f1 hx (by omega) ev_c (ev_var rfl) (ev_var rfl) (ev_var rfl)) (by rw [g2])) ea_nil)) (by simp)) fun tp H3 n3 e3 h3 => ?_
              have sm : SmAll [oD oo, .int (nn : Int)] := .cons (sm_oD n2) (.cons (sm_n n1) .nil)
              have dj : ∀ H, DjAll (K08 w.params) H [oV oo, .int (nn : Int)] [oD oo, .int (nn : Int)] := fun H => .cons (dj_oV oo) (.cons (.di (.dp (.int _))) .nil)
              refine s_when (b := false) (et_is (et_test (ev_op (ev_reprKV (ev_var rfl) h3 (dj _) sm (by simp)) (ev_reprK (vs := [oV oo, .int (nn : Int)]) (el_lst (ea_cons (ev_var rfl) (ea_cons (ev_var rfl) ea_nil)) (by simp)) (dj _) sm (by simp)) (rv_ne rfl))) (by rw [decide_eq_true rfl]; rfl)) (fun z => nomatch z) fun _ H4 e4 => ?_
              exact ⟨⟨_, _, _, _, _, _, rfl⟩, (e2.trans e3).trans e4⟩
  · obtain ⟨⟨y2, y3, y4, y5, y6, y7, rfl⟩, e2⟩ := hI
    exact q _ _ _ _ _ _ H2 (e1.trans e2)
theorem lr3 : ∃ t, PS (XL w mg base c A outer s H0 E0) (inLaw 3) t ∧ ∀ (D : Ends) (H : Hp) (sc p cc l : Addr) (n : Nat) (a : Int) (x2 x3 x4 x5 x6 x7 x8 x9 x10 x11 x12 x13 x14 x15 x16 : Option V), (∀ (x : Addr) (H' : Hp), Ex H H' → StyAt H' 637 x 10 stD → D.nx [some (.ref sc), some (.ref p), x2, x3, x4, x5, x6, x7, some (.ref x), x9, x10, x11, x12, x13, x14, x15, x16] H') → t D [some (.ref sc), some (.ref p), x2, x3, x4, x5, x6, x7, x8, x9, x10, x11, x12, x13, x14, x15, x16] H := by
  obtain ⟨hr, hu64, TB, hT, hu⟩ := R
  refine ⟨_, (ps_set (i := 8) scLaw.nd rfl (.inr rfl) (pe_makeR (mkS _) (f_init X G) (hr.r.mono (by decide)) (by rfl) (mgStyle X G) (fun pins σ H s e s' I c => passAt L2.takes0 σ pins H s e s' I c) (pa_cons pe_int (pa_cons (pe_tup (pa_cons (pe_tup pa_nil) (pa_cons (pe_tup (pa_cons pe_str (pa_cons pe_int pa_nil))) pa_nil))) pa_nil)))), fun D H sc p cc l n a x2 x3 x4 x5 x6 x7 x8 x9 x10 x11 x12 x13 x14 x15 x16 q => ?_⟩
  exact rd_makeP (β := 10) (Ds := stD) (epa_cons ep_int (epa_cons (ep_tup (epa_cons (ep_tup epa_nil (by simp)) (epa_cons (ep_tup (epa_cons (ep_str (by decide)) (epa_cons ep_int epa_nil)) (by simp)) epa_nil)) (by simp)) epa_nil)) (by decide) (by decide) (by decide) st_due fun x H' e sty => q x H' e sty
theorem lr5 : ∃ t, PS (XL w mg base c A outer s H0 E0) (inLaw 5) t ∧ ∀ (D : Ends) (H : Hp) (sc p cc l : Addr) (n : Nat) (a : Int) (x2 x3 x4 x5 x6 x7 x8 x9 x10 x11 x12 x13 x14 x15 x16 : Option V) (x : Addr), StyAt H 637 x 10 stD → x8 = some (.ref x) → (∀ (H' : Hp), D.rt (.bl true) H') → t D [some (.ref sc), some (.ref p), x2, x3, x4, x5, x6, x7, x8, x9, x10, x11, x12, x13, x14, x15, x16] H := by
  obtain ⟨hr, hu64, TB, hT, hu⟩ := R
  refine ⟨_, (ps_ret (pe_and (pe_cmpR op_isBl (pe_callS (f_isRight X G) (hr.r.mono (by decide)) (by rfl) L.isR (kp_is_right _) (bd_is_right _) (fun σ => passAt L2.takes0 σ) (pa_cons (pv 8) (pa_cons pe_str (pa_cons pe_int (pa_cons pe_int pa_nil))))) pe_bl (nomark _)) (pe_one (pe_cmpR op_isBl (pe_callS (f_isRight X G) (hr.r.mono (by decide)) (by rfl) L.isR (kp_is_right _) (bd_is_right _) (fun σ => passAt L2.takes0 σ) (pa_cons (pv 8) (pa_cons pe_str (pa_cons pe_int (pa_cons pe_int pa_nil))))) pe_bl (nomark _))))), fun D H sc p cc l n a x2 x3 x4 x5 x6 x7 x8 x9 x10 x11 x12 x13 x14 x15 x16 x sty h8 q => ?_⟩
  subst h8
  refine s_ret (v := .bl true) (ev_is (ev_andV (a := true) (b := true) (ev_op (ev_isR (f := 96) (s := 104) (.inl rfl) (by decide) (by decide) s104 sty right1 (ev_var rfl) ev_c ev_c ev_c) ev_c fun H1 e1 Q1 q1 => ⟨_, _, rfl, rfl, q1 H1 (Ex.refl H1)⟩) fun _ => ev_op (ev_isR (f := 96) (s := 104) (.inr rfl) (by decide) (by decide) s104 sty right2 (ev_var rfl) ev_c ev_c ev_c) ev_c fun H1 e1 Q1 q1 => ⟨_, _, rfl, rfl, q1 H1 (Ex.refl H1)⟩) rfl) fun H' _ => q H'
end
end KH08

namespace KH08
open PySem L2 Evl ExM Dg Dt LamR LamX Told TL StX ClX
open Dr (StAt SameB)
abbrev T08 : List (Addr × Str) := [(726, ("law.<locals>.<lambda>" : Str))]
def spLaw8 (K : PySem.W.Frag) : Sp := fun vs H Q _ => ∃ (a : Addr) (ns : List Int), vs = [.ref a] ∧ SqL K H a (ns.map V.int) ∧ ns.length ≤ 63 ∧ Tabs T08 H ∧ ∀ H', Q (.bl true) H'
section
variable {w : World} {mg : Str → Option Value} {h base : Heap} (X : (K08 w.params).In h) (G : h.Ns mainGlobals mg) {c : Addr} {A : Around} {outer : List Env} {s : Shared} {H0 : Hp} {E0 : XK} {P : Addr} {T : List (Addr × Str)} (R : Rm w mg base c A outer s H0 E0 P T) (L : TxL mg)
include X G R L
theorem turnR : ∃ t, PSs (XL w mg base c A outer s H0 E0) [inLoop 0, inLoop 1, inLoop 2, inLoop 3, inLoop 4, inLoop 5, inLoop 6, inLoop 7, inLoop 8, inLoop 9, inLoop 10, inLoop 11, inLoop 12, inLoop 13, inLoop 14, inLoop 15, inLoop 16, inLoop 17] t ∧ ∀ (D : Ends) (H : Hp) (sc p cc l : Addr) (n : Nat) (a : Int) (x2 x3 x4 x5 x6 x7 x8 x9 x10 x11 x12 x13 x14 x15 x16 : Option V) (x : Addr), l ≠ cc → a + 300 < 2 ^ 39 → Lw T p cc l n a H → StyAt H 637 x 10 stD → x8 = some (.ref x) →
    (∀ (y7 y10 y11 y12 y13 y14 y15 y16 : Option V) (H' : Hp), Lw T p cc l n (a + 7) H' → StyAt H' 637 x 10 stD → D.nx [some (.ref sc), some (.ref p), x2, x3, x4, x5, x6, y7, x8, x9, y10, y11, y12, y13, y14, y15, y16] H') → t D [some (.ref sc), some (.ref p), x2, x3, x4, x5, x6, x7, x8, x9, x10, x11, x12, x13, x14, x15, x16] H := by
  obtain ⟨t0, p0, q0⟩ := row0 X G R L
  obtain ⟨t1, p1, q1⟩ := row1 X G R L
  obtain ⟨t2, p2, q2⟩ := row2 X G R L
  obtain ⟨t3, p3, q3⟩ := row3 X G R L
  obtain ⟨t4, p4, q4⟩ := row4 X G R L
  obtain ⟨t5, p5, q5⟩ := row5 X G R L
  obtain ⟨t6, p6, q6⟩ := row6 X G R L
  obtain ⟨t7, p7, q7⟩ := row7 X G R L
  obtain ⟨t8, p8, q8⟩ := row8 X G R L
  obtain ⟨t9, p9, q9⟩ := row9 X G R L
  obtain ⟨t10, p10, q10⟩ := row10 X G R L
  obtain ⟨t11, p11, q11⟩ := row11 X G R L
  obtain ⟨t12, p12, q12⟩ := row12 X G R L
  obtain ⟨t13, p13, q13⟩ := row13 X G R L
  obtain ⟨t14, p14, q14⟩ := row14 X G R L
  obtain ⟨t15, p15, q15⟩ := row15 X G R L
  obtain ⟨t16, p16, q16⟩ := row16 X G R L
  obtain ⟨t17, p17, q17⟩ := row17 X G R L
  refine ⟨_, (pss_cons p0 (pss_cons p1 (pss_cons p2 (pss_cons p3 (pss_cons p4 (pss_cons p5 (pss_cons p6 (pss_cons p7 (pss_cons p8 (pss_cons p9 (pss_cons p10 (pss_cons p11 (pss_cons p12 (pss_cons p13 (pss_cons p14 (pss_cons p15 (pss_cons p16 (pss_one p17)))))))))))))))))), fun D H sc p cc l n a x2 x3 x4 x5 x6 x7 x8 x9 x10 x11 x12 x13 x14 x15 x16 x nlc ha W St h8 q => ?_⟩
  subst h8
  refine q0 _ _ _ _ _ _ _ a _ _ _ _ _ _ _ _ _ _ _ _ _ _ _ nlc (by omega) W fun r H1 hrd sb1 W1 => ?_
  refine q1 _ _ _ _ _ _ _ _ _ _ _ _ _ _ _ _ _ _ _ _ _ _ _ nlc (by omega) W1 fun vb db H2 tb nb sb2 W2 => ?_
  refine q2 _ _ _ _ _ _ _ _ _ _ _ _ _ _ _ _ _ _ _ _ _ _ _ nlc (by omega) W2 fun vn vo dn dO H3 tn nn to ⟨no, o1, o2, so2, so3⟩ sb3 W3 => ?_
  refine q3 _ _ _ _ _ _ _ _ _ _ _ _ _ _ _ _ _ _ _ _ _ _ _ nlc (by omega) W3 fun vw dw H4 tw ⟨nw, lw⟩ sb4 W4 => ?_
  have St4 : StyAt H4 637 x 10 stD := StyAt.same W.s St (sameB_trans sb1 (sameB_trans sb2 (sameB_trans sb3 sb4))) (by decide +kernel)
  have tb4 := (tb.same sb3).same sb4
  have tn4 := tn.same sb4
  have to4 := to.same sb4
  have V4 : Vals H4 x r vb vn vo vw db dn dO dw := ⟨hrd, St4, tb4.pv, tn4.pv, to4.pv, tw.pv, nb, nn, no, nw, lw, tb4.s, tn4.s, to4.s, tw.s, o1, o2, so2, so3⟩
  refine q4 _ _ _ _ _ _ _ _ _ _ _ _ _ _ _ _ _ _ _ _ _ _ _ x r vb vn vo vw db dn dO dw W4 V4 rfl rfl rfl rfl rfl rfl fun tp r1 H5 V5 W5 k5 => ?_
  refine q5 _ _ _ _ _ _ _ _ _ _ _ _ _ _ _ _ _ _ _ _ _ _ _ tp r1 x r vb vn vo vw db dn dO dw W5 V5 rfl rfl rfl rfl rfl rfl k5 rfl fun r2 H6 V6 W6 k6 => ?_
  refine q6 _ _ _ _ _ _ _ _ _ _ _ _ _ _ _ _ _ _ _ _ _ _ _ tp r1 r2 x r vb vn vo vw db dn dO dw W6 V6 rfl rfl rfl rfl rfl rfl k6 rfl fun r3 H7 V7 W7 k7 => ?_
  refine q7 _ _ _ _ _ _ _ _ _ _ _ _ _ _ _ _ _ _ _ _ _ _ _ tp r1 r2 r3 x r vb vn vo vw db dn dO dw W7 V7 rfl rfl rfl rfl rfl rfl k7 rfl fun r4 H8 V8 W8 k8 => ?_
  refine q8 _ _ _ _ _ _ _ _ _ _ _ _ _ _ _ _ _ _ _ _ _ _ _ tp r1 r2 r3 r4 x r vb vn vo vw db dn dO dw W8 V8 rfl rfl rfl rfl rfl rfl k8 rfl fun H9 e9 => ?_
  have W9 := W8.ex e9
  have V9 := V8.extN (ExtN.of e9)
  refine q9 _ _ _ _ _ _ _ _ _ _ _ _ _ _ _ _ _ _ _ _ _ _ _ x r vb vn vo vw db dn dO dw W9 V9 rfl rfl rfl rfl rfl rfl fun tq s1 s2 H10 V10 W10 k10 => ?_
  refine q10 _ _ _ _ _ _ _ _ _ _ _ _ _ _ _ _ _ _ _ _ _ _ _ tq s1 s2 x r vb vn vo vw db dn dO dw W10 V10 rfl rfl rfl rfl rfl rfl k10 rfl fun s3 H11 V11 W11 k11 => ?_
  refine q11 _ _ _ _ _ _ _ _ _ _ _ _ _ _ _ _ _ _ _ _ _ _ _ tq s1 s2 s3 x r vb vn vo vw db dn dO dw W11 V11 rfl rfl rfl rfl rfl rfl k11 rfl fun s4 H12 V12 W12 k12 => ?_
  refine q12 _ _ _ _ _ _ _ _ _ _ _ _ _ _ _ _ _ _ _ _ _ _ _ tq s1 s2 s3 s4 x r vb vn vo vw db dn dO dw W12 V12 rfl rfl rfl rfl rfl rfl k12 rfl fun s5 H13 V13 W13 k13 => ?_
  refine q13 _ _ _ _ _ _ _ _ _ _ _ _ _ _ _ _ _ _ _ _ _ _ _ x r vb vn vo vw db dn dO dw W13 V13 rfl rfl rfl rfl rfl rfl fun lq u1 u2 u3 u4 u5 H14 e14 m14 => ?_
  have W14 := W13.ex e14
  have V14 := V13.extN (ExtN.of e14)
  refine q14 _ _ _ _ _ _ _ _ _ _ _ _ _ _ _ _ _ _ _ _ _ _ _ tq lq s1 s2 s3 s4 s5 u1 u2 u3 u4 u5 x r vb vn vo vw db dn dO dw W14 V14 rfl rfl rfl rfl rfl rfl (k13.extN (ExtN.of e14)) m14 rfl rfl fun H15 e15 => ?_
  have W15 := W14.ex e15
  have S15 := V14.st.ex e15
  refine q15 _ _ _ _ _ _ _ _ _ _ _ _ _ _ _ _ _ _ _ _ _ _ _ nlc (by omega) W15 fun ρ H16 hρ sb16 W16 => ?_
  have S16 : StyAt H16 637 x 10 stD := StyAt.same W15.s S15 sb16 (by decide +kernel)
  refine q16 _ _ _ _ _ _ _ _ _ _ _ _ _ _ _ _ _ _ _ _ _ _ _ r nlc (by omega) W16 hrd rfl fun H17 kp W17 => ?_
  have S17 := sty_sameN W16.s S16 kp
  refine q17 _ _ sc p cc l n 0 _ _ _ _ _ _ _ _ _ _ _ _ _ _ _ r ρ hrd hρ rfl rfl fun H18 e18 => ?_
  have W18 := W17.ex e18
  have e7 : a + 1 + 1 + 1 + 1 + 1 + 1 + 1 = a + 7 := by omega
  rw [e7] at W18
  exact q _ _ _ _ _ _ _ _ _ W18 (S17.ex e18)
theorem lawR : ∃ t, PSs (XL w mg base c A outer s H0 E0) [inLaw 0, inLaw 1, inLaw 2, inLaw 3, inLaw 4, inLaw 5] t ∧ ∀ (D : Ends) (H : Hp) (sc : Addr) (ns : List Int), SqL (K08 w.params) H sc (ns.map V.int) → ns.length ≤ 63 → Tabs T H →
    (∀ (H' : Hp), D.rt (.bl true) H') → t D (L2.start nLaw [V.ref sc]) H := by
  obtain ⟨tT, pT, qT⟩ := turnR X G R L
  obtain ⟨t1, p1, q1⟩ := lr1 X G R L
  obtain ⟨t2, p2, q2⟩ := lr2 X G R L
  obtain ⟨t3, p3, q3⟩ := lr3 X G R L
  obtain ⟨t5, p5, q5⟩ := lr5 X G R L
  obtain ⟨hr, hu64, TB, hT, hu⟩ := R
  refine ⟨_, pss_cons (ps_set (i := 1) scLaw.nd rfl (.inr rfl) (pe_call (f_begin X G) (hr.r.mono (by decide)) (by rfl) L.begin (kp_l_begin _) (bd_l_begin _) .nil pass0 (pa_cons (pv 0) pa_nil))) (pss_cons p1 (pss_cons p2 (pss_cons p3 (pss_cons (ps_for PassesOwn.never rfl (pi_range1 (by rfl) L.range (pa_cons (pe_op op_add pe_int (pe_callB (call_min2 (by rfl)) (by rfl) L.min (by decide +kernel) (pa_cons pe_int (pa_cons (pe_callB call_len_seq (by rfl) (txT X G).len (by decide +kernel) (pa_cons (pv 0) pa_nil)) pa_nil)))) pa_nil)) (pg_name (i := 9) scLaw.nd rfl (.inl rfl)) pT) (pss_one p5))))), fun D H sc ns hS hlen hTb q => ?_⟩
  refine ⟨_, rfl, sc, ns, rfl, hS, hlen, fun p cc l n H1 sm np nl S0 nlc => ?_⟩
  dsimp only
  have W1 : Lw T p cc l n 0 H1 := ⟨S0, hTb.ext sm⟩
  refine q1 _ _ sc p cc l n 0 none none none none none none none none none none none none none none none fun H2 e2 => ?_
  refine q2 _ _ sc p cc l n 0 _ _ _ _ _ _ _ _ _ _ _ _ _ _ _ fun y2 y3 y4 y5 y6 y7 H3 e3 => ?_
  refine q3 _ _ sc p cc l n 0 _ _ _ _ _ _ _ _ _ _ _ _ _ _ _ fun x H4 e4 sty => ?_
  have e14 : Ex H1 H4 := (e2.trans e3).trans e4
  have W4 := W1.ex e14
  have eL : Ev (tCB (rLenS (K08 w.params)) (tCons (tVar 0) tNil)) [some (V.ref sc), some (V.ref p), y2, y3, y4, y5, y6, y7, some (V.ref x), none, none, none, none, none, none, none, none] H4 (.int ((ns.map V.int).length : Int)) := ev_len (ev_var rfl) (Same.seq (sm.trans e14) hS)
  obtain ⟨N, hN, hN8⟩ : ∃ N : Nat, 2 + (if ((ns.map V.int).length : Int) < 4 then ((ns.map V.int).length : Int) else 4) = (N : Int) ∧ N ≤ 6 := by
    by_cases h : ((ns.map V.int).length : Int) < 4
    · rw [if_pos h]; exact ⟨2 + (ns.map V.int).length, by omega, by omega⟩
    · rw [if_neg h]; exact ⟨6, by omega, by omega⟩
  have eA : EvA (tCons (tOp (rI0 fun i j => V.int (i + j)) (tC (V.int 2)) (tCB (fun xs H Q => ∃ i j : Int, xs = [V.int i, V.int j] ∧ Q (V.int (if j < i then j else i)) H) (tCons (tC (V.int 4)) (tCons (tCB (rLenS (K08 w.params)) (tCons (tVar 0) tNil)) tNil)))) tNil)
      [some (V.ref sc), some (V.ref p), y2, y3, y4, y5, y6, y7, some (V.ref x), none, none, none, none, none, none, none, none] H4 [V.int (N : Int)] := by
    rw [← hN]
    exact ea_cons (ev_op ev_c (ev_cb (ea_cons ev_c (ea_cons eL ea_nil)) fun H1 _ Q k => ⟨_, _, rfl, k _ (Ex.refl _)⟩) rv_I0) ea_nil
  refine q_forR1 (D := D) (n := (N : Int)) eA (by omega)
    (fun t σ H' => (∃ x2 x3 x4 x5 x6 x7 x9 x10 x11 x12 x13 x14 x15 x16, σ = [some (.ref sc), some (.ref p), x2, x3, x4, x5, x6, x7, some (.ref x), x9, x10, x11, x12, x13, x14, x15, x16]) ∧ StyAt H' 637 x 10 stD ∧ ∃ a : Int, a ≤ 7 * (t : Int) ∧ Lw T p cc l n a H')
    (fun H5 e => ⟨⟨_, _, _, _, _, _, _, _, _, _, _, _, _, _, rfl⟩, sty.ex e, 0, by omega, W4.ex e⟩) (fun t σ H5 ht ⟨⟨x2, x3, x4, x5, x6, x7, x9, x10, x11, x12, x13, x14, x15, x16, hσ⟩, sty, a, ha, W⟩ => ?_) (fun σ H5 ⟨⟨x2, x3, x4, x5, x6, x7, x9, x10, x11, x12, x13, x14, x15, x16, hσ⟩, sty, a, ha, W⟩ => ?_)
  · subst hσ
    refine qT _ _ _ _ cc l n a _ _ _ _ _ _ _ _ _ _ _ _ _ _ _ x nlc (by omega) W sty rfl fun y7 y10 y11 y12 y13 y14 y15 y16 H' W' sty' => ?_
    exact ⟨⟨_, _, _, _, _, _, _, _, _, _, _, _, _, _, rfl⟩, sty', a + 7, by omega, W'⟩
  · subst hσ
    exact q5 _ _ sc p cc l n 0 _ _ _ _ _ _ _ _ _ _ _ _ _ _ _ x sty rfl fun H9 => q H9
end
section
variable {w : World} {mg : Str → Option Value} {h base : Heap} (X : (K08 w.params).In h) (G : h.Ns mainGlobals mg)
include X G
theorem txL : TxL mg where
  of := PySem.W.mg_of X G (show PySem.W.nsIn (K08 w.params) mainGlobals "_law_of" = some (some (.ref 710)) by kernel_rfl)
  hand := PySem.W.mg_of X G (show PySem.W.nsIn (K08 w.params) mainGlobals "_law_hand_rows" = some (some (.ref 724)) by kernel_rfl)
  begin := PySem.W.mg_of X G (show PySem.W.nsIn (K08 w.params) mainGlobals "_law_begin" = some (some (.ref 696)) by kernel_rfl)
  raised := PySem.W.mg_of X G (show PySem.W.nsIn (K08 w.params) mainGlobals "_law_raised" = some (some (.ref 717)) by kernel_rfl)
  compl := PySem.W.mg_of X G (show PySem.W.nsIn (K08 w.params) mainGlobals "completed" = some (some (.ref 663)) by kernel_rfl)
  few := PySem.W.mg_of X G (show PySem.W.nsIn (K08 w.params) mainGlobals "fewest" = some (some (.ref 677)) by kernel_rfl)
  isR := PySem.W.mg_of X G (show PySem.W.nsIn (K08 w.params) mainGlobals "is_right" = some (some (.ref 684)) by kernel_rfl)
  repr := PySem.W.mg_none_of X G (show PySem.W.nsIn (K08 w.params) mainGlobals "repr" = some none by kernel_rfl)
  range := PySem.W.mg_none_of X G (show PySem.W.nsIn (K08 w.params) mainGlobals "range" = some none by kernel_rfl)
  min := PySem.W.mg_none_of X G (show PySem.W.nsIn (K08 w.params) mainGlobals "min" = some none by kernel_rfl)
theorem ok_law08 (TB : TabB base mg 730 726) : FnG P08 w (K08 w.params) mg base CX0 15 731 (PySem.W.fnOf "law" "law" (defArgs sLaw) (defBody sLaw) (defScope sLaw) .none (fO (K08 w.params) 731).kwdefaults (fO (K08 w.params) 731).doc (fO (K08 w.params) 731).pyModule (fO (K08 w.params) 731).annotations (.ref 730) (fO (K08 w.params) 731).closureTuple) ["script"] (spLaw8 (K08 w.params)) := by
  have lk : (K08 w.params).lookup 731 = some ⟨(oO (K08 w.params) 731).cls, (oO (K08 w.params) 731).dict, .func (PySem.W.fnOf "law" "law" (defArgs sLaw) (defBody sLaw) (defScope sLaw) .none (fO (K08 w.params) 731).kwdefaults (fO (K08 w.params) 731).doc (fO (K08 w.params) 731).pyModule (fO (K08 w.params) 731).annotations (.ref 730) (fO (K08 w.params) 731).closureTuple), (oO (K08 w.params) 731).slots⟩ := by kernel_rfl
  have hcd : PySem.W.codeIn (K08 w.params) (.ref 730) "law" = true := by kernel_rfl
  refine fn_ofG lk hcd scLaw (fun vs H Q E h => ?_) (fun A outer s H vs Q E hr h => ?_)
  · obtain ⟨a, ns, rfl, _⟩ := h
    rfl
  · obtain ⟨sc, ns, rfl, hS, hlen, hTb, q⟩ := h
    have hu64 : (A.deeper (PyProof.Rows.envOfC "law" (defScope sLaw) s.heap.objs.size 731 (.ref 730))).units + 64 < cLine := by have := hr.r.units; omega
    obtain ⟨t, pt, qt⟩ := lawR (A := A) (outer := outer) (s := s) (H0 := H) (E0 := E) (T := T08) X G ⟨hr, hu64, TB, List.mem_singleton.mpr rfl, fun p hp _ => by rw [List.mem_singleton.mp hp]⟩ (txL X G)
    exact ⟨t, pt.nox, qt _ _ _ ns hS hlen hTb fun H' => q H'⟩
end
end KH08

namespace KH08
open PySem L2 Evl ExM Dg LamR LamX Told
theorem walk08 {q : Program} {loose : List Str} {XP : (Str → Option Value) → Heap → Prop} {YP : World → Heap → Prop} {d : DefRec} (hdf : d.params.defaults = []) (hd : d.name = ("law" : Str)) (hY : ∀ (w : World) (h : Heap), YP w h → (K08 w.params).In h) (hT : ∀ (w : World) (h : Heap), YP w h → ∀ P ∈ ([726] : List Addr), h.get? P = some (PySem.W.tabObj #[])) :
    PySem.W.WalkO q loose XP YP PySem.Challenge.rw_shortspans_k08_tails_by_hand.row.toRowW d [] (fun f vs => PySem.call f vs) := by
  refine walk_T (l := PySem.Challenge.rw_shortspans_k08_tails_by_hand) (n := 63) (k := 15) (K := K08) (CX := fun _ => CX0) (x := "script") (cs := [(730, 726)]) (sp := fun w => spLaw8 (K08 w.params)) rfl (by decide) hdf ⟨⟨rfl, by decide, by decide⟩, rfl⟩ hY
    (fun w h Y p hp => ?_) (fun w p hp => ?_) (fun w p hp => ?_) (fun w mg fa h X G hmg => ?_) (fun w H a ns hl hT hS => ?_) fun _ _ _ _ _ z => z
  · rw [List.mem_singleton.mp hp]
    exact hT w h Y 726 (List.mem_singleton.mpr rfl)
  · rw [List.mem_singleton.mp hp]
    exact (show (K08 w.params).lookup 726 = none by kernel_rfl)
  · rw [List.mem_singleton.mp hp]
    exact (show PySem.W.codeHdIn (K08 w.params) 730 726 = true by kernel_rfl)
  · rw [hd] at hmg
    have e := hmg.symm.trans (PySem.W.mg_of X G (show PySem.W.nsIn (K08 w.params) mainGlobals "law" = some (some (.ref 731)) by kernel_rfl))
    cases e
    exact ⟨_, fun s v => .of_eq rfl, fun base X' G' TB => ok_law08 X G (TB (730, 726) (List.mem_singleton.mpr rfl))⟩
  · exact ⟨a, ns, rfl, hS, hl, fun p hp => by
      rw [List.mem_singleton.mp hp]
      exact .nil (hT (730, 726) (List.mem_singleton.mpr rfl)), fun _ => rfl⟩
end KH08
open PySem PySem.W PyProof.Rows
set_option maxRecDepth 100000 in
set_option maxHeartbeats 0 in
theorem PySem.Challenge.cw_shortspans_k08_tails_by_hand_holds : PySem.Challenge.rw_shortspans_k08_tails_by_hand.Holds := by
  refine hd08 ?_
  exact KH08.walk08 rfl rfl (fun w h Y => km_in_of Y) (fun w h Y => km_tabs_of Y)

