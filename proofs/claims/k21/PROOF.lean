import PyProof.Rows.All
import Wide.All
import OpenK.AllK
import Wide.FinOn
import HandS.ForMost
import HandS.ForExc
import KE.KExcSuper
import HandS.ExcInit
import KE.KExcIs
import HandS.IsInst
import HandS.ExcValue
import HandS.TryMany
import HandS.ExcField
import HandS.Deep
import HandS.Evl
import HandS.Lambda
import HandS.EndTab
import KE.KDflt
import KE.KRevSl
import HandS.TupAny
import HandS.Iter
import KE.GoesEnum
import HandS.Star
import HandS.ClsMeth
import HandS.CallLocal
import HandS.Property
import HandS.Wide
import HandS.SetFor
import HandS.Strs
import HandS.SlotsOwn
import KE.KOpsOwn
import HandS.Words
import HandS.Head0
import HandS.Head1
import HandS.Head2
import PyProof.StrOps2
import HandS.TupMul
import PySem.Challenge.RW_shortspans_k21_whole_stretches
set_option Elab.async false
set_option linter.all false
set_option maxRecDepth 100000
set_option maxHeartbeats 0
set_option exponentiation.threshold 100000
/-! Defs that are called where no repr is being made (so that they may call repr). -/
namespace L2
open PySem PySem.Spec PyProof.Rows
/-- room, and no guard stands around -/
structure RoomG (k : Nat) (A : Around) : Prop where
  r : Room k A
  g : A.guards = some []
theorem RoomG.mono {j k : Nat} {A : Around} (r : RoomG k A) (h : j ≤ k) : RoomG j A := ⟨r.r.mono h, r.g⟩
theorem RoomG.deeper {k : Nat} {A : Around} (r : RoomG (k + 1) A) (env : Env) : RoomG k (A.deeper env) := ⟨r.r.deeper env, r.g⟩
structure FnG (P : Program) (w : World) (K : PySem.W.Frag) (mg : Str → Option Value) (base : Heap) (CX : CXT) (k : Nat) (f : Addr) (fd : FuncData) (ps : List Str) (sp : Sp) : Prop where
  len : ∀ vs H Q E, sp vs H Q E → vs.length = ps.length
  run : ∀ (A : Around) (outer : List Env) (s : Shared) (H : Hp) (args : Args) (us : List Value) (vs : List V) (Q : VK) (E : XK), RoomG k A → Env0 P w K mg base A outer s H → BindsTo s fd args (ps.zip us) → Vals vs us → sp vs H Q E →
    codeAny (model P w) A (.call (.ref f) args) (CR CX outer P w H s Q E) s
theorem FnG.of {P : Program} {w : World} {K : PySem.W.Frag} {mg : Str → Option Value} {base : Heap} {CX : CXT} {k : Nat} {f : Addr} {fd : FuncData} {ps : List Str} {sp : Sp} (F : FnOk P w K mg base CX k f fd ps sp) : FnG P w K mg base CX k f fd ps sp :=
  ⟨F.len, fun A outer s H args us vs Q E hr => F.run A outer s H args us vs Q E hr.r⟩
theorem FnG.mono {P : Program} {w : World} {K : PySem.W.Frag} {mg : Str → Option Value} {base : Heap} {CX : CXT} {j k : Nat} {f : Addr} {fd : FuncData} {ps : List Str} {sp : Sp} (F : FnG P w K mg base CX j f fd ps sp) (h : j ≤ k) : FnG P w K mg base CX k f fd ps sp :=
  ⟨F.len, fun A outer s H args us vs Q E hr => F.run A outer s H args us vs Q E (hr.mono h)⟩
theorem FnG.imp {P : Program} {w : World} {K : PySem.W.Frag} {mg : Str → Option Value} {base : Heap} {CX : CXT} {k : Nat} {f : Addr} {fd : FuncData} {ps : List Str} {sp sp' : Sp} (F : FnG P w K mg base CX k f fd ps sp)
    (h : ∀ vs H Q E, sp' vs H Q E → sp vs H Q E) : FnG P w K mg base CX k f fd ps sp' :=
  ⟨fun vs H Q E q => F.len vs H Q E (h _ _ _ _ q), fun A outer s H args us vs Q E hr he hb hv hs => F.run A outer s H args us vs Q E hr he hb hv (h _ _ _ _ hs)⟩
section
variable {X : Cx} {CX : CXT} {k : Nat} {f C : Addr} {fd : FuncData} {ps : List Str} {sp : Sp} {dvs : List V} {ds : List Value} {E : XK} {x m : Str} {p pos apos : Pos} {e o : Expr} {es : List Expr} {ta : TE} {t : TA}
theorem run_fnG {pins : List (Addr × Obj)} {σ : St} {H : Hp} {s : Shared} {Q : VK} {us : List Value} {vs : List V} (F : FnG X.prog X.w X.K X.mg X.base CX k f fd ps sp) (hr : RoomG k X.A) (hb : Binds X.K fd ps ds) (hd : Vals dvs ds) (hx : Passes CX X E)
    (I : Inv X pins σ H s) (r : Vals vs us) (h : sp (vs ++ dvs) H Q E) : wpAny (model X.prog X.w) X.A (call (.ref f) us) (EP X pins σ Q) X.xe s := by
  have r2 : Vals (vs ++ dvs) (us ++ ds) := r.append hd
  have hl : (us ++ ds).length = ps.length := by rw [← r2.length]; exact F.len _ _ _ _ h
  refine wpAny_call (codeAny_mono (F.run X.A X.stack s H ⟨us, []⟩ (us ++ ds) (vs ++ dvs) Q E hr I.env0 (hb s us I.kIn hl) r2 h) fun r s' hq => ?_)
  cases r with
  | error e => exact hx pins σ H s e s' I hq
  | ok fl =>
    cases fl with
    | ret u => exact I.after hq
    | next => exact False.elim hq
    | brk => exact False.elim hq
    | cont => exact False.elim hq
theorem pe_callG (F : FnG X.prog X.w X.K X.mg X.base CX k f fd ps sp) (hr : RoomG k X.A) (hg : Gl X x) (hm : X.mg x = some (.ref f)) (hk : PySem.W.keepIn X.K (.ref f) = true) (hb : Binds X.K fd ps ds) (hd : Vals dvs ds) (hx : Passes CX X E)
    (ha : PA X (e :: es) t) (hdb : (x == ("__debug__" : Str)) = false := by decide) (he : starEach (e :: es) X.env = (false, eval e X.env) :: starEach es X.env := by rfl) (hpl : (backTo pos (starEach es X.env)).any (·.1) = false := by rfl) :
    PE X (.Call (.Name x p) (e :: es) [] pos) (tCall sp dvs E t) := by
  refine ⟨fun pins s σ H Q I h => ?_⟩
  refine wpAny_Call_Name_kw (ld_glob I hg hm ?_ hdb)
  refine PySem.W.callWith_K (h₀ := X.base) I.ok.mod.kin hk (thn (ha.run pos pins s σ H _ I h) fun us s1 ⟨vs, H1, I1, r, q⟩ => ⟨I1.kIn, ?_⟩) he hpl
  exact run_fnG F hr hb hd hx I1 r q
theorem pe_call0G (F : FnG X.prog X.w X.K X.mg X.base CX k f fd ps sp) (hr : RoomG k X.A) (hg : Gl X x) (hm : X.mg x = some (.ref f)) (hk : PySem.W.keepIn X.K (.ref f) = true) (hb : Binds X.K fd ps ds) (hd : Vals dvs ds) (hx : Passes CX X E)
    (hdb : (x == ("__debug__" : Str)) = false := by decide) : PE X (.Call (.Name x p) [] [] pos) (tCall sp dvs E tNil) := by
  refine ⟨fun pins s σ H Q I h => ?_⟩
  refine wpAny_Call_Name_kw (ld_glob I hg hm ?_ hdb)
  exact PySem.W.callWith_K0 I.kIn hk (run_fnG (us := []) F hr hb hd hx I .nil h)
end
theorem fn_ofG {CX : CXT} {P : Program} {w : World} {K : PySem.W.Frag} {mg : Str → Option Value} {base : Heap} {k : Nat} {f : Addr} {name qual : Str} {params : Arguments} {body : List Stmt} {scope : Scope} {dV kV doc pm cdv ct oc : Value} {an od : Option Addr}
    {osl : Array (Option Value)} {N ps : List Str} {sp : Sp} (lk : K.lookup f = some ⟨oc, od, .func (PySem.W.fnOf name qual params body scope dV kV doc pm an cdv ct), osl⟩) (hcd : PySem.W.codeIn K cdv qual = true) (S : FnScope N ps scope)
    (len : ∀ vs H Q E, sp vs H Q E → vs.length = ps.length)
    (hbody : ∀ (A : Around) (outer : List Env) (s : Shared) (H : Hp) (vs : List V) (Q : VK) (E : XK), RoomG k (A.deeper (envOfC qual scope s.heap.objs.size f cdv)) → sp vs H Q E →
      ∃ t, PSs (cxOf CX P w K mg base N qual scope f cdv A outer s H E) body t ∧ t { nx := fun _ H' => Q .non H', rt := Q } (start N vs) H) :
    FnG P w K mg base CX (k + 1) f (PySem.W.fnOf name qual params body scope dV kV doc pm an cdv ct) ps sp := by
  refine ⟨len, fun A outer s H args us vs Q E hr e0 hb r hsp => ?_⟩
  have hl := len _ _ _ _ hsp
  have KX : K.In s.heap := e0.mod.kin.keeps fun b o e => (e0.bs b o e).1
  have lim : s.heap.NoLimit := e0.mod.nolimit.keeps fun b o e => (e0.bs b o e).1
  have hkind : ∀ y ∈ ps.zip us, scope.names.lookup y.1 = some .local ∨ (scope.names.lookup y.1 = some .cell ∧ ((cellsFrom (s.heap.objs.size + 1) scope.names []).lookup y.1).isSome = true) := fun ⟨n, v⟩ hy => by
    rcases S.par n (List.of_mem_zip hy).1 with q | q
    · exact .inl q
    · exact .inr ⟨q, PySem.W.cellsFrom_some _ _ _ (.inl q)⟩
  refine codeAny_call_function hr.r.depth (KX _ _ lk) rfl S.co S.gen rfl (PySem.W.codeRec_of KX hcd) (hb _ _ _ _ ?_)
  refine wpAny_newFunctionEnv_cells S.kind hkind fun env he s1 x => ?_
  subst he
  refine ⟨lim.keeps x.toInCall.keep, codeAny_func ?_⟩
  obtain ⟨t, ht, hq⟩ := hbody A outer s H vs Q E (hr.deeper _) hsp
  have I : Inv (cxOf CX P w K mg base N qual scope f cdv A outer s H E) [] (start N vs) H s1 := inv_start S hr.r.hd e0 hl r x
  refine wpAny_mono (ht.run [] s1 (start N vs) H _ I hq) (fun fl s' hs => ?_) fun e s' hs => hs
  have fin : ∀ {σ' : St} {H' : Hp} {v : V} {u : Value}, Inv (cxOf CX P w K mg base N qual scope f cdv A outer s H E) [] σ' H' s' → RelV v u → Q v H' → CE outer P w H s Q u s' :=
    fun {σ' H' v u} J rv q => ⟨v, H', J.os, J.bare, J.base, J.hok, rv, q⟩
  cases fl with
  | ret u =>
    obtain ⟨v, σ', H', J, rv, q⟩ := hs
    exact fin J rv q
  | next =>
    obtain ⟨σ', H', J, q⟩ := hs
    exact fin (v := V.non) (u := Value.none) J rfl q
  | brk =>
    obtain ⟨_, _, _, q⟩ := hs
    exact False.elim q
  | cont =>
    obtain ⟨_, _, _, q⟩ := hs
    exact False.elim q
section
variable {P : Program} {w : World} {K : PySem.W.Frag} {mg : Str → Option Value} {base : Heap}
theorem Fun.okG {x qual : Str} {st : Stmt} {f : Addr} {fd : FuncData} {N ps : List Str} {k : Nat} {sp : Sp} (F : Fun K x qual st f fd) (S : FnScope N ps (defScope st)) (len : ∀ vs H Q E, sp vs H Q E → vs.length = ps.length)
    (hbody : ∀ (cdv : Value) (A : Around) (outer : List Env) (s : Shared) (H : Hp) (vs : List V) (Q : VK) (E : XK), RoomG k (A.deeper (envOfC qual (defScope st) s.heap.objs.size f cdv)) → sp vs H Q E →
      ∃ t, PSs (cxOf CX0 P w K mg base N qual (defScope st) f cdv A outer s H E).nox (defBody st) t ∧ t { nx := fun _ H' => Q .non H', rt := Q } (start N vs) H) : FnG P w K mg base CX0 (k + 1) f fd ps sp := by
  obtain ⟨oc, od, kV, doc, pm, an, cdv, ct, osl, rfl, lk, hcd⟩ := F.ex
  refine fn_ofG lk hcd S len fun A outer s H vs Q E hr hsp => ?_
  obtain ⟨t, h, q⟩ := hbody cdv A outer s H vs Q E hr hsp
  exact ⟨t, h.nox, q⟩
theorem Fun.okXG {x qual : Str} {st : Stmt} {f : Addr} {fd : FuncData} {N ps : List Str} {k : Nat} {sp : Sp} (F : Fun K x qual st f fd) (S : FnScope N ps (defScope st)) (len : ∀ vs H Q E, sp vs H Q E → vs.length = ps.length)
    (hbody : ∀ (cdv : Value) (A : Around) (outer : List Env) (s : Shared) (H : Hp) (vs : List V) (Q : VK) (E : XK), RoomG k (A.deeper (envOfC qual (defScope st) s.heap.objs.size f cdv)) → sp vs H Q E →
      ∃ t, PSs (cxOf (L2.CX P w) P w K mg base N qual (defScope st) f cdv A outer s H E) (defBody st) t ∧ t { nx := fun _ H' => Q .non H', rt := Q } (start N vs) H) : FnG P w K mg base (L2.CX P w) (k + 1) f fd ps sp := by
  obtain ⟨oc, od, kV, doc, pm, an, cdv, ct, osl, rfl, lk, hcd⟩ := F.ex
  exact fn_ofG lk hcd S len fun A outer s H vs Q E hr hsp => hbody cdv A outer s H vs Q E hr hsp
end
/-! ### the head -/
theorem law_callG {P : Program} {w : World} {K : PySem.W.Frag} {mg mb : Str → Option Value} {CX : CXT} {k : Nat} {fa a : Addr} {fd : FuncData} {x : Str} {sp : Sp} {s₁ : Shared} {vs : List Value} {ns : List Int}
    (KX : K.In s₁.heap) (hns : s₁.heap.Ns mainGlobals mg) (hb : s₁.heap.Ns builtinsNs mb) (hbb : ∀ x : Str, x ≠ "__name__" → mb x = bootBuiltins x) (hlim : s₁.heap.NoLimit) (hg : s₁.gens = #[])
    (ha : s₁.heap.get? a = some { cls := .type "list", data := .seq vs.toArray }) (hi : IntsAre vs ns) (hl : ns.length ≤ sizeLine) (hr : RoomG k callerA)
    (F : ∀ base : Heap, K.In base → base.Ns mainGlobals mg → FnG P w K mg base CX k fa fd [x] sp) (hbind : ∀ (s : Shared) (u : Value), BindsTo s fd ⟨[u], []⟩ [(x, u)])
    (hsp : ∀ H : Hp, Only H → SqL K H a (ns.map V.int) → sp [.ref a] H (fun v _ => v = .bl true) fun _ _ _ => False)
    (hCX : ∀ H e s', CX [] H s₁ (fun _ _ _ => False) e s' → False) :
    codeAny (model P w) callerA (.call (.ref fa) ⟨[.ref a], []⟩) (fun r s' => r = .ok (.ret (.bool true)) ∧ OldK s₁.heap s'.heap ∧ s'.os = s₁.os ∧ AllBare s'.gens) s₁ := by
  have rv := vals_ints hi
  have lenV := hi.length
  have core : ∀ H : Hp, Only H → SqL K H a (ns.map V.int) → HOk P w H s₁.heap → (∀ b, H b ≠ none → b = a) → (H a ≠ none → K.lookup a = none) →
      codeAny (model P w) callerA (.call (.ref fa) ⟨[.ref a], []⟩) (fun r s' => r = .ok (.ret (.bool true)) ∧ OldK s₁.heap s'.heap ∧ s'.os = s₁.os ∧ AllBare s'.gens) s₁ := by
    intro H hO hS hok hA hK
    have base_of : ∀ {b : Addr} {o : Obj}, s₁.heap.get? b = some o → H b = none → (hidT s₁.heap H).get? b = some o := fun e n => hidT_get e n
    have noA : ∀ {b : Addr} {o : Obj} {es : Array DictEntry} {ep : Nat}, s₁.heap.get? b = some o → o.data = .dict es ep → H b = none := fun {b o es ep} e d => by
      cases q : H b with
      | none => rfl
      | some u =>
        have e' : b = a := hA b (by rw [q]; simp)
        subst e'
        rw [ha] at e; cases e
        have d' : Data.seq vs.toArray _ = Data.dict es ep := d
        cases d'
    have nsK : ∀ {b : Addr} {m : Str → Option Value}, s₁.heap.Ns b m → (hidT s₁.heap H).Ns b m := fun {b m} ⟨o, es, ep, e, d, r⟩ => ⟨o, es, ep, base_of e (noA e d), d, r⟩
    have hKb : K.In (hidT s₁.heap H) := fun b o e => base_of (KX b o e) (by
      cases q : H b with
      | none => rfl
      | some u =>
        have e' : b = a := hA b (by rw [q]; simp)
        subst e'
        rw [hK (by rw [q]; simp)] at e; cases e)
    have hM : Mod K mg (hidT s₁.heap H) := ⟨hKb, nsK hns, ⟨mb, nsK hb, hbb⟩, let ⟨mc, h1, h2⟩ := hlim; ⟨mc, nsK h1, h2⟩⟩
    have e0 : Env0 P w K mg (hidT s₁.heap H) callerA [] s₁ H := ⟨rfl, hM, fun b o e => of_hidT e, Nat.le_of_eq (hidT_size _ _), trivial, fun b hb => absurd (show b ∈ ([] : List Addr) from hb) (by simp), hok, .of_eq hg⟩
    refine codeAny_mono ((F _ hKb (nsK hns)).run callerA [] s₁ H ⟨[.ref a], []⟩ [.ref a] [.ref a] _ _ hr e0 (hbind s₁ (.ref a)) (.cons rfl .nil) (hsp H hO hS)) fun r s' h => ?_
    cases r with
    | error e => exact (hCX H e s' h).elim
    | ok fl =>
      cases fl with
      | next => exact False.elim h
      | brk => exact False.elim h
      | cont => exact False.elim h
      | ret u =>
        obtain ⟨v, H', os, bare, un, hok', r', q⟩ := h
        have q' : v = .bl true := q
        subst q'
        obtain rfl : u = Value.bool true := r'
        refine ⟨rfl, OldK.of_keep fun b o e => ?_, os, bare⟩
        cases q : H b with
        | none => exact un.keep b o e q (by intro z; exact absurd (show b ∈ ([] : List Addr) from z) (by simp)) (by simp)
        | some u =>
          rcases hO b with z | ⟨ob, xs, z⟩
          · rw [q] at z; cases z
          · have z2 := un.frzs b ob _ z
            obtain ⟨e1, _⟩ := hok b _ z
            obtain ⟨e2, _⟩ := hok' b _ z2
            rw [e] at e1; cases e1
            exact e2
  cases hk : K.lookup a with
  | some o =>
    have e := KX a o hk
    rw [ha] at e
    cases e
    refine core (fun _ => none) (fun _ => .inl rfl) (.inr ⟨_, vs.toArray, _, hk, rfl, rfl, rfl, by rw [List.size_toArray, lenV]; exact hl, by simpa using rv⟩) (fun b u z => by have z' : (none : Option HO) = some u := z; cases z') (fun b z => absurd rfl z) fun z => absurd rfl z
  | none =>
    refine core (fun b => if b = a then some (.frz { cls := .type "list", data := .seq vs.toArray } (.lst (ns.map V.int))) else none) (fun b => ?_) (.inl (.inr ⟨{ cls := .type "list", data := .seq vs.toArray }, if_pos rfl⟩)) (fun b u z => ?_) (fun b z => ?_) fun _ => hk
    · by_cases hb : b = a
      · exact .inr ⟨_, _, if_pos hb⟩
      · exact .inl (if_neg hb)
    · by_cases hb : b = a
      · have z' := (if_pos hb).symm.trans z
        cases z'
        subst hb
        exact ⟨ha, by rw [List.length_map]; exact hl, vs, _, rv, ha⟩
      · have z' := (if_neg hb).symm.trans z
        cases z'
    · by_cases hb : b = a
      · exact hb
      · exact absurd (if_neg hb) z
theorem walk_ofG {l : PySem.W.OpenLaw} {n k : Nat} {q : Program} {loose : List Str} {XP : (Str → Option Value) → Heap → Prop} {YP : World → Heap → Prop} {d : DefRec} {K : Params → PySem.W.Frag} {CX : World → CXT} {sp : World → Sp} {x : Str}
    (hn : l.most = some n) (hn2 : n ≤ sizeLine) (hdf : d.params.defaults = []) (hr : RoomG k callerA)
    (hY : ∀ (w : World) (h : Heap), YP w h → (K w.params).In h)
    (F : ∀ (w : World) (mg : Str → Option Value) (fa : Addr) (h : Heap), (K w.params).In h → h.Ns mainGlobals mg → mg d.name = some (.ref fa) →
      ∃ fd : FuncData, (∀ (s : Shared) (u : Value), BindsTo s fd ⟨[u], []⟩ [(x, u)]) ∧
        ∀ base : Heap, (K w.params).In base → base.Ns mainGlobals mg → FnG l.prog w (K w.params) mg base (CX w) k fa fd [x] (sp w))
    (hsp : ∀ (w : World) (H : Hp) (a : Addr) (ns : List Int), ns.length ≤ n → Only H → SqL (K w.params) H a (ns.map V.int) → sp w [.ref a] H (fun v _ => v = .bl true) fun _ _ _ => False)
    (hCX : ∀ (w : World) (H : Hp) (s : Shared) (e : Value) (s' : Shared), CX w [] H s (fun _ _ _ => False) e s' → False) :
    PySem.W.WalkO q loose XP YP l.row.toRowW d [] (fun f vs => PySem.call f vs) := by
  refine Att.attach_call hn hdf fun w s₀ s₁ mg mb fa o pm cd doc a vs ns G Y ho hd hcd hmg hobj hints hlen hg => ?_
  have KX := hY w _ Y
  obtain ⟨fd, hb, hF⟩ := F w mg fa _ KX G.T.g hmg
  exact law_callG KX G.T.g G.T.b G.T.builtins G.T.nolimit hg hobj hints (Nat.le_trans hlen hn2) hr hF hb (fun H hO hS => hsp w H a ns hlen hO hS) fun H e s' => hCX w H s₁ e s'
end L2

/-! An own exception class whose __init__ says super().__init__(text) and then stores its arguments: made. -/
namespace ExM
open PySem PySem.W PySem.Calls PyProof.Rows

/-- what stands around a body's globals -/
structure GlobAt (h : Heap) (mg : Str → Option Value) : Prop where
  g : h.Ns mainGlobals mg
  b : ∃ mb, h.Ns builtinsNs mb ∧ mb "super" = some (.type "super")
  s : mg "super" = none
  lim : h.NoLimit
theorem GlobAt.keeps {h h' : Heap} {mg : Str → Option Value} (x : GlobAt h mg) (k : ∀ b o, h.get? b = some o → h'.get? b = some o) : GlobAt h' mg :=
  ⟨x.g.keeps k, let ⟨mb, a, c⟩ := x.b; ⟨mb, a.keeps k, c⟩, x.s, x.lim.keeps k⟩

/-- what the library tells of a built-in __init__ that is the base's -/
structure InF (B i : String) : Prop where
  entry : entryFor table i = some Builtin.«BaseException.__init__»
  kind : builtinKind i = some .slot
  row : Manifest.signature? i = some ⟨.positional, "*", B, .self, [⟨"args", .varPos, false⟩]⟩
  noStar : (B != "*") = true
  plain : plainId i = true
  sup : KxsFacts B i
/-- what the written part says of the class at C and of its __init__ at f (its __class__ cell at cc) -/
structure Ini (K : Frag) (prog : Program) (C f cc : Addr) (qual : Str) (params : Arguments) (body : List Stmt) (scope : Scope) (bmB : List Value) (B newId initId : String) : Prop where
  cls : ∃ nm q N bs bm sn sub ab col dd k0 k1 k2 k3 k5, K.lookup C = some (excClassObj nm q C N bs bm true sn sub ab col dd k0 k1 k2 k3 k5 newId) ∧ excTail bmB bm = true
  new : ∃ Bn initN bmN, ExcBaseFacts Bn newId initN bmN ∧ bmB.contains (.type Bn) = true ∧ bmB.contains (.type "AttributeError") = false ∧ bmB.contains (.type "NameError") = false
  ini : InF B initId
  pass : ∀ self, refuseLoop self "__setattr__" bmB = pure ()
  obj : bmB.contains (.type "object") = true
  sa : findIn K (.ref C) "__setattr__" = some (some (.builtin "object.__setattr__"))
  iC : findIn K (.ref C) "__init__" = some (some (.ref f))
  tF : typeIn K (.ref f) = some (.type "function")
  kC : keepIn K (.ref C) = true
  exC : subIn K (.ref C) (.type "BaseException") = some true
  bC : subIn K (.ref C) (.type B) = some true
  tyC : typeIn K (.ref C) = some (.type "type")
  op : nsIn K cStatics "thirdparty.any" = some none
  al : ks_superIn K C C "__init__" = some (some (.builtin initId))
  fn : ∃ (oc : Value) (od : Option Addr) (kV doc pm : Value) (an : Option Addr) (cda : Addr) (ct : Value) (osl : Array (Option Value)),
    K.lookup f = some ⟨oc, od, .func (ksFn "__init__" qual params body scope .none kV doc pm an (.ref cda) ct cc), osl⟩ ∧ codeIn K (.ref cda) qual = true ∧
    ∃ ccl cdd vs ccs file tf, K.lookup cda = some ⟨ccl, cdd, .fields vs, ccs⟩ ∧ vs[2]? = some (.str file tf) ∧ ((prog.main.file : Str) == file) = true
  cell : ∃ cl cld csl, K.lookup cc = some ⟨cl, cld, .cell (some (.ref C)), csl⟩
  top : (prog.main.scope.names.lookup ("super" : Str)).isSome = false
  sS : scope.names.lookup ("super" : Str) = some .globalImplicit
  sC : scope.names.lookup ("__class__" : Str) = some .free
  sk : scope.kind = .function

section
variable {prog : Program} {w : World} {A : Around} {E : Value → Shared → Prop} {h : Heap} {g : Array GenState} {d : Drawn} {t : Nat} {os : OsState}
variable {K : Frag} {mg : Str → Option Value} {C f cc x L : Addr} {qual : Str} {params : Arguments} {body : List Stmt} {scope : Scope} {bmB : List Value} {B newId initId : String}

theorem Ini.cd (T : Ini K prog C f cc qual params body scope bmB B newId initId) : ∃ cd : ClassData, clsIn K C = some cd ∧ (∃ bm, cd.mro = .ref C :: bm ∧ excTail bmB bm = true) ∧ cd.hasDict = true := by
  obtain ⟨nm, q, N, bs, bm, sn, sub, ab, col, dd, k0, k1, k2, k3, k5, hC, hbm⟩ := T.cls
  exact ⟨{ name := nm, bases := bs, mro := .ref C :: bm, ns := N, qualname := q, hasDict := true, slotNames := sn, subclasses := sub, abstract := ab, collection := col, hasDel := false }, by unfold clsIn; rw [hC] <;> rfl, ⟨bm, rfl, hbm⟩, rfl⟩

/-- super() in the body, self at x, an exception of C without a dict -/
theorem super_made (T : Ini K prog C f cc qual params body scope bmB B newId initId) {cda : Addr} {oc : Value} {od : Option Addr} {kV doc pm ct : Value} {an : Option Addr} {osl : Array (Option Value)} {m : Str → Option Value} {ox : Obj}
    (hf : K.lookup f = some ⟨oc, od, .func (ksFn "__init__" qual params body scope .none kV doc pm an (.ref cda) ct cc), osl⟩)
    (hcda : ∃ ccl cdd vs ccs file tf, K.lookup cda = some ⟨ccl, cdd, .fields vs, ccs⟩ ∧ vs[2]? = some (.str file tf) ∧ ((prog.main.file : Str) == file) = true)
    {ar : Arg} (hp : (params.posonlyargs ++ params.args).head? = some ar) (hka : scope.names.lookup ar.arg = some .local) (X : K.In h) (G : GlobAt h mg) (hn : h.Ns L m) (hv : m ar.arg = some (.ref x)) (hx : h.get? x = some ox) (hc : ox.cls = .ref C) (hd : ∀ c, ox.data ≠ .cls c)
    {bd : List Stmt} {p0 p1 : Pos} {whole : Sem Value} {Q : Value → Shared → Prop}
    (hq : ∀ h', h'.get? h.objs.size = some (ks_superObj C x C) → (∀ b o, h.get? b = some o → h'.get? b = some o) → Q (.ref h.objs.size) ⟨h', g, d, t, os⟩) :
    _root_.PySem.wpAt (model prog w) A (.func bd (ksEnv qual scope L f (.ref cda) cc)) (attributeBase (.Call (.Name "super" p0) [] [] p1) "__init__" (ksEnv qual scope L f (.ref cda) cc) whole) Q E ⟨h, g, d, t, os⟩ := by
  obtain ⟨ccl, cdd, vs, ccs, file, tf, hcode, hvs, hfile⟩ := hcda
  obtain ⟨cl, cld, csl, hcell⟩ := T.cell
  obtain ⟨cd, hcd, ⟨bm, hm, hbm⟩, hh⟩ := T.cd
  obtain ⟨oD, hD1, hD2⟩ : ∃ oD, h.get? C = some oD ∧ oD.data = .cls cd := by
    unfold clsIn at hcd
    split at hcd
    · rename_i c0 d0 cd' sl ho
      cases hcd
      exact ⟨_, X _ _ ho, rfl⟩
    · cases hcd
  have hsub : Looks (model prog w) h (isSubtype (.ref C) (.ref C)) true := looks_mroIn X (by unfold mroIn; rw [hcd, Option.bind_some, hm]; simp)
  obtain ⟨mb, hb, hbs⟩ := G.b
  refine ks_wpAt_super_base (env := ksEnv qual scope L f (.ref cda) cc) T.sS T.sC (by decide) rfl (X _ _ hf) rfl hp rfl (X _ _ hcode) rfl hvs hfile T.top ?_
  refine ks_loadName_global T.sk T.sS (loadGlobal_builtin (env := ksEnv qual scope L f (.ref cda) cc) G.g G.s hb hbs ⟨rfl, ?_⟩)
  refine wpAny_loadName_free T.sk T.sC rfl ⟨_, X _ _ hcell, rfl⟩ ?_
  refine wpAny_loadName_local T.sk hka hn hv ?_
  refine ks_wpAny_isType_cls hD1 hD2 ⟨rfl, ?_⟩
  exact ks_wpAny_call_super hD1 hD2 hx hc hd hsub fun h' e k => hq h' e k

theorem check_bound {M : Model} {B i newId : String} (F : InF B i) {nm q : Str} {C N e : Addr} {oe : Obj} {bs bm : List Value} {hdct : Bool} {sn : List Str} {sub : List Value} {ab : Bool} {col : Option Bool} {dd : Option Addr} {k0 k1 k2 k3 k5 : Option Value} {rest : List Value} {Q : Unit → Shared → Prop}
    (hC : h.get? C = some (excClassObj nm q C N bs bm hdct sn sub ab col dd k0 k1 k2 k3 k5 newId)) (he : h.get? e = some oe) (hcls : oe.cls = .ref C) (hq : Q () ⟨h, g, d, t, os⟩) : wpAny M A (checkBoundCall i ⟨.ref e :: rest, []⟩) Q E ⟨h, g, d, t, os⟩ := by
  have hshort := F.noStar
  simp only [checkBoundCall, F.kind, F.row]
  repeat (first | (with_reducible refine wpAny_loadPart_at he ?_; rw [hcls]) | with_reducible refine wpAny_loadPart_at hC ?_ | wp_step)
  refine wpAny_onRaise ?_
  rw [show ∀ (a b : String) (n : Nat), Bind.check ⟨.positional, "*", B, .self, [⟨"args", .varPos, false⟩]⟩ a b n (List.map (fun x => x.fst) ({ pos := Value.ref e :: rest } : Args).kw) = pure () from
    fun a b n => check_star_args _ _ _ _ _ _]
  exact wpAny_pure hq
/-- the bound __init__ of the built-in base, called: the exception's args are laid anew -/
theorem bound_called (T : Ini K prog C f cc qual params body scope bmB B newId initId) {u t0 : Addr} {dv : Option Addr} {rest : List Value} {Q : Value → Shared → Prop} (X : K.In h)
    (hx : h.get? x = some (excObj C t0 dv .none)) (hu : h.get? u = some (kxs_mw initId x)) (hz : rest.length ≤ sizeLine)
    (hq : ∀ h' t1, (∀ b o, b ≠ x → h.get? b = some o → h'.get? b = some o) → h'.get? x = some (excObj C t1 dv .none) → Q .none ⟨h', g, d, t, os⟩) :
    wpAny (model prog w) A (call (.ref u) rest) Q E ⟨h, g, d, t, os⟩ := by
  obtain ⟨nm, q, N, bs, bm, sn, sub, ab, col, dd, k0, k1, k2, k3, k5, hC, hbm⟩ := T.cls
  have FB := T.ini
  refine wpAny_call (codeAny_of_tree ?_)
  show wpAny _ A.in1 (callAny (.ref u) ⟨rest, []⟩) _ _ _
  simp only [callAny]
  refine wpAny_bind (wpAny_load hu ?_)
  simp only [kxs_mw, show (Value.type "method-wrapper" == Value.type "method" || Value.type "method-wrapper" == Value.type "builtin_function_or_method" || Value.type "method-wrapper" == Value.type "method-wrapper") = true by decide, if_true]
  refine KFB.if_so (by decide) ?_
  refine wpAny_bind (check_bound FB (X _ _ hC) hx rfl ?_)
  refine wpAny_bind (wpAny_pure (wpAny_pure ?_))
  refine ⟨plainId_quiet FB.plain _, codeAny_builtin FB.entry ?_⟩
  exact exc_init_tree (cls := .ref C) (t0 := t0) (dv := dv) (c2 := .none) (c3 := .none) (b4 := .bool false) hx hz fun h' k e' _ => hq h' _ k e'

/-- the statement super().__init__(text) -/
theorem super_said (T : Ini K prog C f cc qual params body scope bmB B newId initId) {cda : Addr} {oc : Value} {od : Option Addr} {kV doc pm ct : Value} {an : Option Addr} {osl : Array (Option Value)} {m : Str → Option Value} {t0 : Addr}
    (hf : K.lookup f = some ⟨oc, od, .func (ksFn "__init__" qual params body scope .none kV doc pm an (.ref cda) ct cc), osl⟩)
    (hcda : ∃ ccl cdd vs ccs file tf, K.lookup cda = some ⟨ccl, cdd, .fields vs, ccs⟩ ∧ vs[2]? = some (.str file tf) ∧ ((prog.main.file : Str) == file) = true)
    {ar : Arg} (hp : (params.posonlyargs ++ params.args).head? = some ar) (hka : scope.names.lookup ar.arg = some .local) (X : K.In h) (G : GlobAt h mg) (hn : h.Ns L m) (hv : m ar.arg = some (.ref x)) (hx : h.get? x = some (excObj C t0 none .none)) (hxL : x ≠ L) (hxK : K.lookup x = none)
    {bd : List Stmt} {p0 p1 p2 p3 p4 p5 : Pos} {msg : Str} {j : Nat} {Q : Flow → Shared → Prop}
    (hq : ∀ h' tk t1, (∀ b o, b ≠ x → h.get? b = some o → h'.get? b = some o) → h'.get? x = some (excObj C t1 none .none) → Q .next ⟨h', g, d, tk, os⟩)
    (hi : interactive (ksEnv qual scope L f (.ref cda) cc) = false) {pl : Sem Bool}
    (hev : eval (.Call (.Attribute (.Call (.Name "super" p0) [] [] p1) "__init__" p2) [.Constant (.str msg) j p3] [] p4) (ksEnv qual scope L f (.ref cda) cc) = (do
      let ov ← attributeBase (.Call (.Name "super" p0) [] [] p1) "__init__" (ksEnv qual scope L f (.ref cda) cc) (eval (.Call (.Name "super" p0) [] [] p1) (ksEnv qual scope L f (.ref cda) cc))
      standAt p2.atName
      let (fx, first) ← holding [ov] (getMethod ov "__init__" pl)
      callWith p4 fx first (backTo p4 (starEach [.Constant (.str msg) j p3] (ksEnv qual scope L f (.ref cda) cc))) [])) :
    _root_.PySem.wpAt (model prog w) A (.func bd (ksEnv qual scope L f (.ref cda) cc))
      (exec (.Expr (.Call (.Attribute (.Call (.Name "super" p0) [] [] p1) "__init__" p2) [.Constant (.str msg) j p3] [] p4) p5) (ksEnv qual scope L f (.ref cda) cc)) Q E ⟨h, g, d, t, os⟩ := by
  refine ks_wpAt_Expr_any ?_ hi rfl
  refine ks_wpAt_MethodCall ?_ hev
  refine super_made T hf hcda hp hka X G hn hv hx rfl (fun c z => by cases z) fun h1 e1 k1 => ?_
  have X1 : K.In h1 := X.keeps k1
  have hx1 := k1 _ _ hx
  obtain ⟨cd, hcd, ⟨bm, hm, hbm⟩, hh⟩ := T.cd
  have I1 : InstAt h1 x (excObj C t0 none .none) C none := ⟨hx1, rfl, rfl, trivial⟩
  have hI : Looks (model prog w) h1 (isInstance (.ref x) (.type B)) true := I1.type.andThen (looks_subIn X1 T.bC)
  have hal : alongIn K "__init__" ((cd.mro.dropWhile (· != .ref C)).drop 1) = some (some (.builtin initId)) := by
    have z := T.al
    unfold ks_superIn at z
    rw [hcd] at z
    exact z
  refine kxs_getMethod T.ini.sup e1 (looks_opaque X1 T.op) (l₀ := cd.mro) (fun A Q E s k q => wpAny_bind ((looks_clsIn X1 hcd) A _ E s k (wpAny_pure q))) rfl X1 hal hI (ks_ne X1 I1 hcd) (by decide) ?_
  have k2 : ∀ b o, h1.get? b = some o → (h1.push (kxs_mw initId x)).get? b = some o := fun b o e => Heap.get?_push_of_some _ e
  have hu : (h1.push (kxs_mw initId x)).get? h1.objs.size = some (kxs_mw initId x) := Heap.get?_push_at rfl rfl
  refine kxs_callWith (i := initId) (x := x) rfl (evalArgs_plain ?_)
  show wpAny _ _ (spliced ((false, eval (.Constant (.str msg) j p3) _) :: backTo p4 (starEach [] _))) _ _ _
  refine Calls.spliced_cons (Calls.Constant_str ?_)
  refine Calls.spliced_nil ⟨hu, ?_⟩
  refine bound_called T (X1.keeps k2) (k2 _ _ hx1) hu (by rw [sizeLine_eq]; exact (by decide : 1 ≤ 16777216)) fun h3 t1 k3 e3 => ?_
  exact hq h3 _ t1 (fun b o hb e => k3 b o hb (k2 b o (k1 b o e))) e3

/-- what a new exception with one dict is: the class at C, its dict at dx -/
structure Own (h h' : Heap) (x C dx : Addr) (m : Str → Option Value) : Prop where
  keep : ∀ b o, b ≠ x → h.get? b = some o → h'.get? b = some o
  obj : ∃ t1, h'.get? x = some (excObj C t1 (some dx) .none)
  dbig : h.objs.size ≤ dx
  dne : dx ≠ x
  ns : h'.Ns1 dx m

section
open Builtin Builtin.ObjectAttr
/-- the built-in store at such an exception -/
theorem store_walk (T : Ini K prog C f cc qual params body scope bmB B newId initId) {name : Str} {tk : Tok} {v : Value} {ox : Obj} {od : Option Obj} {R : Result → Shared → Prop}
    (X : K.In h) (I : InstAt h x ox C od) (ha : findIn K (.ref C) name = some none)
    (hq : wpAny (model prog w) A.in1 (storeInOwnDict (.ref x) (.ref C) (.str name tk) name v false)
      (fun fin s' => match fin with | .done f => R (.ok f) s' | .again c' => c'.quiet = true ∧ codeAny (model prog w) A c' R s') (fun e s' => R (.error e) s') ⟨h, g, d, t, os⟩) :
    codeAny (model prog w) A (.call (.builtin "object.__setattr__") ⟨[.ref x, .str name tk, v], []⟩) R ⟨h, g, d, t, os⟩ := by
  obtain ⟨cd, hcd, ⟨bm, hm, hbm⟩, hh⟩ := T.cd
  have SF := F.store_object
  have hpass : refuseLoop (.ref x) "__setattr__" cd.mro = pure () := by
    rw [hm, refuseLoop_ref]
    exact excTail_pass _ (T.pass _) bm hbm
  have hob : cd.mro.contains (.type "object") = true := by
    rw [hm, List.contains_cons, excTail_contains "object" bm hbm]
    exact Bool.or_eq_true_iff.mpr (.inr (T.obj))
  have sub : Looks (model prog w) h (isInstance (.ref x) (.type "object")) true := I.type.andThen (looks_mroIn X (by unfold mroIn; rw [hcd, Option.bind_some, if_neg (by rw [hm]; exact Bool.false_ne_true), hob]))
  refine codeAny_call_builtin SF.slot.plain SF.entry (@check_slot (model prog w) _ _ ⟨h, g, d, t, os⟩ "object.__setattr__" "object" "__setattr__" (.ref x) [.str name tk, v] [] _ SF.kind SF.split sub (SF.args (.ref x) (.str name tk) v) ?_)
  have hmr : Looks (model prog w) h (mroOf (.ref C)) cd.mro := (looks_clsIn X hcd).andThen .now
  have L3 : Looks (model prog w) h (storeTaker? none) none := .now
  rw [osa_eq, refuse_eq]
  refine wpAny_bind (wpAny_bind (I.type.at (wpAny_bind (hmr.at ?_))))
  rw [hpass]
  exact wpAny_pure (wpAny_bind (I.type.at (wpAny_bind ((looks_findIn X ha).at (wpAny_bind (L3.at hq))))))
/-- self.name = v, the first one -/
theorem store_first (T : Ini K prog C f cc qual params body scope bmB B newId initId) {name : Str} {v : Value} {fv : Array Value} {Q : Unit → Shared → Prop}
    (X : K.In h) (hx : h.get? x = some { cls := .ref C, data := .fields fv }) (ha : findIn K (.ref C) name = some none)
    (hq : ∀ h' tk' dx, (∀ b o, b ≠ x → h.get? b = some o → h'.get? b = some o) → h.objs.size ≤ dx → dx ≠ x → h'.get? x = some { cls := .ref C, dict := some dx, data := .fields fv } →
      h'.Ns1 dx (fun y => if y = name then some v else none) → Q () ⟨h', g, d, tk', os⟩) :
    wpAny (model prog w) A (setAttr (.ref x) name v) Q E ⟨h, g, d, t, os⟩ := by
  obtain ⟨cd, hcd, ⟨bm, hm, hbm⟩, hh⟩ := T.cd
  have I : InstAt h x { cls := .ref C, data := .fields fv } C none := ⟨hx, rfl, rfl, trivial⟩
  have hxs : x ≠ h.objs.size := Nat.ne_of_lt (Heap.lt_size hx)
  have hcls : Looks (model prog w) h (classData C) cd := looks_clsIn X hcd
  refine set_plain X I T.sa (store_walk T X I ha ?_)
  obtain ⟨nm, bs, mro, ns, qn, hd, sn, sb, ab, col, del⟩ := cd
  dsimp only at hh
  subst hh
  unfold storeInOwnDict ownDictForStores
  repeat (first | with_reducible refine HandSPX.store_in_new ?_ ?_ | with_reducible refine wpAny_loadPart_at hx ?_ | with_reducible refine hcls.at ?_ | wp_step)
  · exact ⟨_, #[], _, (Heap.get?_update_ne _ _ _ _ hxs.symm).trans (Heap.get?_push_at rfl rfl), rfl, fun e he => absurd he (by simp), fun _ => rfl⟩
  · intro h' tk' hn' hs
    have hx₁ : (h.push { cls := .type "dict", data := .dict #[] }).get? x = some { cls := .ref C, data := .fields fv } := Heap.get?_push_of_some _ hx
    refine hq h' tk' h.objs.size (fun b o hb ho => ?_) (Nat.le_refl _) hxs.symm ?_ hn'
    · exact (hs.2 b (Nat.ne_of_lt (Heap.lt_size ho))).trans ((Heap.get?_update_ne _ _ _ _ hb).trans (Heap.get?_push_of_some _ ho))
    · exact (hs.2 x hxs).trans (Heap.get?_update_self _ hx₁ rfl)
/-- a further one -/
theorem store_more (T : Ini K prog C f cc qual params body scope bmB B newId initId) {dx : Addr} {name : Str} {v : Value} {fv : Array Value} {m0 : Str → Option Value} {nl : List Str} {Q : Unit → Shared → Prop}
    (X : K.In h) (hx : h.get? x = some { cls := .ref C, dict := some dx, data := .fields fv }) (hns : h.Ns1 dx m0) (hw : Within m0 nl) (hz : nl.length ≤ 1000) (ha : findIn K (.ref C) name = some none)
    (hq : ∀ h' tk', (∀ b o, b ≠ dx → h.get? b = some o → h'.get? b = some o) → h'.Ns1 dx (fun y => if y = name then some v else m0 y) → Q () ⟨h', g, d, tk', os⟩) :
    wpAny (model prog w) A (setAttr (.ref x) name v) Q E ⟨h, g, d, t, os⟩ := by
  obtain ⟨cd, hcd, ⟨bm, hm, hbm⟩, hh⟩ := T.cd
  obtain ⟨oD, esD, epD, hoD, hdD, _⟩ := hns.count hw
  have I : InstAt h x { cls := .ref C, dict := some dx, data := .fields fv } C (some oD) := ⟨hx, rfl, rfl, hoD⟩
  have hcls : Looks (model prog w) h (classData C) cd := looks_clsIn X hcd
  refine set_plain X I T.sa (store_walk T X I ha ?_)
  obtain ⟨nm, bs, mro, ns, qn, hd, sn, sb, ab, col, del⟩ := cd
  dsimp only at hh
  subst hh
  unfold storeInOwnDict ownDictForStores
  repeat (first | with_reducible refine OEX.store_in_old hns hw hz ?_ | with_reducible refine wpAny_loadPart_at hx ?_ | with_reducible refine hcls.at ?_ | wp_step)
  intro h' tk' hn' hs
  exact hq h' tk' (fun b o hb ho => (hs.2 b hb).trans ho) hn'
end

end
end ExM

/-! Own exceptions called with keywords; own exceptions over KeyError (whose __new__ is LookupError's). -/
namespace ExM
open PySem PySem.W PySem.Calls
section
variable {M : Model} {prog : Program} {w : World} {A : Around} {E : Value → Shared → Prop} {R : Result → Shared → Prop} {h : Heap} {g : Array GenState} {d : Drawn} {t : Nat} {os : OsState}
variable {nm q : Str} {C N : Addr} {bs bm bmN : List Value} {hdct : Bool} {sn : List Str} {sub : List Value} {ab : Bool} {col : Option Bool} {dd : Option Addr} {k0 k1 k2 k3 k5 : Option Value} {Bn newId initN : String}
/-- what the class's mro says of the built-in that makes its instances -/
structure NewM (C : Addr) (bm : List Value) (Bn : String) : Prop where
  hb : (Value.ref C :: bm).contains (.type Bn) = true
  ha : (Value.ref C :: bm).contains (.type "AttributeError") = false
  hn : (Value.ref C :: bm).contains (.type "NameError") = false
theorem check_newK (F : ExcBaseFacts Bn newId initN bmN) (m : NewM C bm Bn) {rest : List Value} {kw : List (Str × Value)} {Q : Unit → Shared → Prop}
    (hC : h.get? C = some (excClassObj nm q C N bs bm hdct sn sub ab col dd k0 k1 k2 k3 k5 newId)) (hq : Q () ⟨h, g, d, t, os⟩) : wpAny M A (checkBuiltinCall newId ⟨.ref C :: rest, kw⟩) Q E ⟨h, g, d, t, os⟩ := by
  have hcont := m.hb
  have hstar := F.noStar
  simp only [checkBuiltinCall, F.newKind, F.newSplit, F.newRow]
  repeat (first | refine wpAny_loadPart_at hC ?_ | (refine wpAny_isSubtype_exc hC ?_; rw [hcont]) | refine wpAny_staticBase_exc hC ?_ | refine wpAny_madeBy_exc hC ?_ | simp only [bne_self_eq_false, Bool.false_eq_true, if_false] | wp_step)
  exact hq
theorem newK (F : ExcBaseFacts Bn newId initN bmN) (m : NewM C bm Bn) {rest : List Value} {kw : List (Str × Value)}
    (hC : h.get? C = some (excClassObj nm q C N bs bm hdct sn sub ab col dd k0 k1 k2 k3 k5 newId))
    (hq : R (.ok (.ret (.ref (h.objs.size + 1)))) ⟨(h.push { cls := .type "tuple", data := .seq rest.toArray }).push
      { cls := .ref C, data := .fields #[.ref h.objs.size, .none, .none, .none, .bool false, .none] }, g, d, t, os⟩) (hrest : rest.length ≤ sizeLine) :
    codeAny (model prog w) A (.builtin newId ⟨.ref C :: rest, kw⟩) R ⟨h, g, d, t, os⟩ := by
  have hends := F.ends
  have hcB := m.hb
  have hcA := m.ha
  have hcN := m.hn
  refine codeAny_builtinAt F.entry ?_
  unfold Builtin.«BaseException.__new__»
  refine wpAt_bind ?_
  show wpAt _ _ _ (stack >>= _) _ _ _
  refine wpAt_bind (wpAt_stack fun p below => wpAt_of_wpAny ?_)
  wp_walk
  refine wpAt_of_wpAny ?_
  rw [F.owner]
  repeat (first | with_reducible refine wpAny_madeHere_exc F.canon hC ?_ | with_reducible refine wpAny_loadPart_at hC ?_ | (with_reducible refine wpAny_isSubtype_exc hC ?_; first | rw [hcB] | rw [hcA] | rw [hcN]) | wp_step)
  show R _ _
  rw [Heap.size_push]
  exact hq
theorem type_callK (F : ExcBaseFacts Bn newId initN bmN) (m : NewM C bm Bn) {rest : List Value} {kw : List (Str × Value)} {fI : Addr} {Q : Fin → Shared → Prop}
    (hC : h.get? C = some (excClassObj nm q C N bs bm hdct sn sub ab col dd k0 k1 k2 k3 k5 newId))
    (hi : W.Looks (model prog w) h (typeLookup (.ref C) "__init__") (some (.ref fI))) (hb : ∀ self, W.Looks (model prog w) h (bindSpecial (.ref fI) self) (.ref fI, [self])) (hrest : rest.length ≤ sizeLine)
    (hq : codeAny (model prog w) A (.call (.ref fI) ⟨.ref (h.objs.size + 1) :: rest, kw⟩)
      (fun r s' => match r with | .ok (.ret v) => v = .none ∧ Q (.done (.ret (.ref (h.objs.size + 1)))) s' | .ok _ => False | .error e => E e s')
      ⟨(h.push (W.kdv_tup rest)).push (HandSPX.excO C h.objs.size), g, d, t, os⟩) :
    wpAny (model prog w) A (Builtin.«type.__call__» ⟨.ref C :: rest, kw⟩) Q E ⟨h, g, d, t, os⟩ := by
  repeat (first | with_reducible refine wpAny_loadPart_at hC ?_ | with_reducible refine wpAny_madeBy_exc hC ?_ | wp_step)
  refine codeAny_call_builtin_code (Code.quiet_builtin _ F.quiet) (check_newK F m hC ?_)
  refine newK F m hC ?_ hrest
  show wpAny _ _ _ _ _ _
  have k : ∀ b o, h.get? b = some o → ((h.push (W.kdv_tup rest)).push (HandSPX.excO C h.objs.size)).get? b = some o := fun b o e => Heap.get?_push_of_some _ (Heap.get?_push_of_some _ e)
  have hC₁ := k _ _ hC
  have hget : ((h.push (W.kdv_tup rest)).push (HandSPX.excO C h.objs.size)).get? (h.objs.size + 1) = some (HandSPX.excO C h.objs.size) := by heap_get
  have hcC : (Value.ref C :: bm).contains (.ref C) = true := by simp
  have i1 := hi.keeps k
  have b1 := (hb (.ref (h.objs.size + 1))).keeps k
  unfold isInstance
  repeat (first | with_reducible refine wpAny_loadPart_at hget ?_ | (with_reducible refine wpAny_isSubtype_exc hC₁ ?_; rw [hcC]) | wp_step)
  show wpAny _ _ (typeLookup (.ref C) _) _ _ _
  refine i1.at ?_
  refine wpAny_holding (wpAny_bind (b1.at ?_))
  refine wpAny_bind (wpAny_call (codeAny_mono hq fun r s' z => ?_))
  rcases r with e | (v | _ | _ | _) <;> first | exact z | exact z.elim | skip
  obtain ⟨rfl, z⟩ := z
  first
    | exact wpAny_pure (wpAny_pure z)
    | (wp_walk; exact z)
theorem check_typeK {rest : List Value} {kw : List (Str × Value)} {Q : Unit → Shared → Prop} (hC : h.get? C = some (excClassObj nm q C N bs bm hdct sn sub ab col dd k0 k1 k2 k3 k5 newId))
    (hq : Q () ⟨h, g, d, t, os⟩) : wpAny M A (checkBuiltinCall "type.__call__" ⟨.ref C :: rest, kw⟩) Q E ⟨h, g, d, t, os⟩ := by
  have f3 := tc_sub
  have hT : (⟨h, g, d, t, os⟩ : Shared).TypeIs (.ref C) "type" := ⟨_, hC, rfl⟩
  simp only [checkBuiltinCall, tc_kind, tc_split]
  repeat (any_goals (first | assumption | with_reducible refine wpAny_loadPart_at hC ?_ | with_reducible refine wpAny_onRaise ?_ | with_reducible refine wpAny_map ?_ | wp_step))
theorem call_K (F : ExcBaseFacts Bn newId initN bmN) (m : NewM C bm Bn) {rest : List Value} {kw : List (Str × Value)} {fI : Addr}
    (hC : h.get? C = some (excClassObj nm q C N bs bm hdct sn sub ab col dd k0 k1 k2 k3 k5 newId))
    (hi : W.Looks (model prog w) h (typeLookup (.ref C) "__init__") (some (.ref fI))) (hb : ∀ self, W.Looks (model prog w) h (bindSpecial (.ref fI) self) (.ref fI, [self])) (hrest : rest.length ≤ sizeLine)
    (hq : codeAny (model prog w) (A.under (.builtin "type.__call__" ⟨.ref C :: rest, kw⟩)) (.call (.ref fI) ⟨.ref (h.objs.size + 1) :: rest, kw⟩) (W.InitBack (h.objs.size + 1) R)
      ⟨(h.push (W.kdv_tup rest)).push (HandSPX.excO C h.objs.size), g, d, t, os⟩) :
    codeAny (model prog w) A (.call (.ref C) ⟨rest, kw⟩) R ⟨h, g, d, t, os⟩ := by
  have f1 := tc_lookup
  have f2 := tc_bind (.ref C)
  have hTy : (⟨h, g, d, t, os⟩ : Shared).TypeIs (.ref C) "type" := ⟨_, hC, rfl⟩
  refine codeAny_of_tree ?_
  show wpAny _ _ (callAny (.ref C) _) _ _ _
  repeat (any_goals (first | assumption | with_reducible refine wpAny_loadPart_at hC ?_ | wp_step))
  refine ⟨rfl, ?_⟩
  refine codeAny_call_builtin_at (Code.quiet_builtin _ (by decide +kernel)) entry_typeCall (check_typeK hC (type_callK F m hC hi hb hrest ?_))
  refine codeAny_mono hq fun r s' z => ?_
  rcases r with e | (v | _ | _ | _) <;> exact z
end
end ExM

namespace ExM
open PySem PySem.W PySem.Calls PyProof.Rows
section
variable {prog : Program} {w : World} {A : Around} {E : Value → Shared → Prop} {s : Shared}
variable {K : Frag} {mg : Str → Option Value} {C f cc x L : Addr} {qual : Str} {scope : Scope} {bmB : List Value} {B newId initId : String}

abbrev supSt (msg : Str) (j : Nat) (p0 p1 p2 p3 p4 p5 : Pos) : Stmt := .Expr (.Call (.Attribute (.Call (.Name "super" p0) [] [] p1) "__init__" p2) [.Constant (.str msg) j p3] [] p4) p5
abbrev putSt (fld : Str) (q1 q2 q3 q4 : Pos) : Stmt := .Assign [.Attribute (.Name "self" q1) fld q2] (.Name fld q3) q4
/-- what is computed of the scope -/
structure Sc (scope : Scope) (params : Arguments) (flds : List Str) : Prop where
  self : scope.names.lookup ("self" : Str) = some .local
  fl : ∀ y ∈ flds, scope.names.lookup y = some .local
  nc : ∀ y ∈ scope.names, y.2 ≠ .cell
  co : scope.isCoroutine = false
  gen : scope.isGenerator = false
  hd : ∃ ar, (params.posonlyargs ++ params.args).head? = some ar ∧ ar.arg = "self"
  nd : ∀ y ∈ flds, y ≠ "self" ∧ (y == ("__debug__" : Str)) = false
/-- super().__init__ is evaluated so -/
def Ev (qual : Str) (scope : Scope) (f cc : Addr) (msg : Str) (j : Nat) (p0 p1 p2 p3 p4 : Pos) : Prop := ∀ (L : Addr) (cd : Value), interactive (ksEnv qual scope L f cd cc) = false ∧ ∃ pl : Sem Bool,
  eval (.Call (.Attribute (.Call (.Name "super" p0) [] [] p1) "__init__" p2) [.Constant (.str msg) j p3] [] p4) (ksEnv qual scope L f cd cc) = (do
      let ov ← attributeBase (.Call (.Name "super" p0) [] [] p1) "__init__" (ksEnv qual scope L f cd cc) (eval (.Call (.Name "super" p0) [] [] p1) (ksEnv qual scope L f cd cc))
      standAt p2.atName
      let (fx, first) ← holding [ov] (getMethod ov "__init__" pl)
      callWith p4 fx first (backTo p4 (starEach [.Constant (.str msg) j p3] (ksEnv qual scope L f cd cc))) [])

theorem ld_local {M : Model} {cd : Value} {m : Str → Option Value} {y : Str} {pos : Pos} {v : Value} {Q : Value → Shared → Prop} (hn : s.heap.Ns L m) (hv : m y = some v) (hk : scope.kind = .function) (hl : scope.names.lookup y = some .local) (hd : (y == ("__debug__" : Str)) = false) (h : Q v s) :
    wpAny M A (eval (.Name y pos) (ksEnv qual scope L f cd cc)) Q E s := wpAny_Name (wpAny_loadName_local hk hl hn hv h) hd

variable {params : Arguments} {msg fld : Str} {j : Nat} {p0 p1 p2 p3 p4 p5 q1 q2 q3 q4 : Pos}
/-- __init__ of one field, run on a fresh exception -/
theorem init_one (T : Ini K prog C f cc qual params [supSt msg j p0 p1 p2 p3 p4 p5, putSt fld q1 q2 q3 q4] scope bmB B newId initId) (S : Sc scope params [fld]) (V : Ev qual scope f cc msg j p0 p1 p2 p3 p4) (hno : findIn K (.ref C) fld = some none)
    {t0 : Addr} {v : Value} {args : Args} {R : Result → Shared → Prop} (X : K.In s.heap) (G : GlobAt s.heap mg) (hx : s.heap.get? x = some (excObj C t0 none .none)) (hxK : K.lookup x = none) (hroom : A.depth < recursionLimit)
    (hb : ∀ (kV doc pm : Value) (an : Option Addr) (cdv ct : Value), BindsTo s (ksFn "__init__" qual params [supSt msg j p0 p1 p2 p3 p4 p5, putSt fld q1 q2 q3 q4] scope .none kV doc pm an cdv ct cc) args [(("self" : Str), .ref x), (fld, v)])
    (hq : ∀ h' tk dx, Own s.heap h' x C dx (fun y => if y = fld then some v else none) → R (.ok (.ret .none)) { s with heap := h', toks := tk }) :
    codeAny (model prog w) A (.call (.ref f) args) R s := by
  obtain ⟨oc, od, kV, doc, pm, an, cda, ct, osl, ho, hcd, hcda⟩ := T.fn
  obtain ⟨ar, har, hself⟩ := S.hd
  have hfn := S.nd fld (by simp)
  obtain ⟨hp, g, d, t, os⟩ := s
  refine ks_codeAny_call_defAt (fd := ksFn "__init__" qual params [supSt msg j p0 p1 p2 p3 p4 p5, putSt fld q1 q2 q3 q4] scope .none kV doc pm an (.ref cda) ct cc) (body := [supSt msg j p0 p1 p2 p3 p4 p5, putSt fld q1 q2 q3 q4]) hroom (X _ _ ho) rfl G.lim (codeRec_of X hcd) rfl (hb _ _ _ _ _ _) S.nc
    (fun y hy => ?_) (fun h0 hns k0 => ?_) S.co S.gen T.sk
  · rcases List.mem_cons.mp hy with rfl | hy
    · exact S.self
    · rcases List.mem_cons.mp hy with rfl | hy
      · exact S.fl _ (by simp)
      · exact absurd hy (by simp)
  have X0 : K.In h0 := X.keeps k0
  have G0 := G.keeps k0
  have hx0 := k0 _ _ hx
  have hxL : x ≠ hp.objs.size := Nat.ne_of_lt (Heap.lt_size hx)
  have m1 : (fun y => ([(("self" : Str), Value.ref x), (fld, v)] : List (Str × Value)).reverse.lookup y) "self" = some (Value.ref x) := by
    have e : (("self" : Str) == fld) = false := by simpa using fun z => hfn.1 z.symm
    simp [List.lookup, e]
  have m2 : (fun y => ([(("self" : Str), Value.ref x), (fld, v)] : List (Str × Value)).reverse.lookup y) fld = some v := by simp [List.lookup]
  obtain ⟨hin, pl, hev⟩ := V hp.objs.size (.ref cda)
  refine ks_wpAt_execs_cons ?_
  refine super_said T (g := g) (d := d) (os := os) (t := t + [(("self" : Str), Value.ref x), (fld, v)].length) ho hcda har (by rw [hself]; exact S.self) X0 G0 hns (by rw [hself]; exact m1) hx0 hxL hxK (fun h1 tk1 t1 k1 e1 => ?_) hin hev
  refine _root_.PySem.wpAt_of_wpAny ?_
  have X1 : K.In h1 := fun b o e => k1 b o (fun z => by rw [z, hxK] at e; cases e) (X0 b o e)
  have hns1 : h1.Ns hp.objs.size (fun y => ([(("self" : Str), Value.ref x), (fld, v)] : List (Str × Value)).reverse.lookup y) := by
    obtain ⟨o, es, ep, a, b⟩ := hns
    exact ⟨o, es, ep, k1 _ _ (Ne.symm hxL) a, b⟩
  refine wpAny_execs_cons (plainObj_wpAny_Assign_Attribute ?_)
  refine ld_local hns1 m2 T.sk (S.fl _ (by simp)) hfn.2 (ld_local hns1 m1 T.sk S.self (by decide) ?_)
  refine store_first T X1 e1 hno fun h2 tk2 dx k2 dn dne e2 n2 => ?_
  refine wpAny_execs_nil ?_
  have hz : hp.objs.size ≤ h1.objs.size := by
    obtain ⟨o, es, ep, a, b⟩ := hns1
    exact Nat.le_of_lt (Heap.lt_size a)
  exact hq h2 tk2 dx ⟨fun b o hb e => k2 b o hb (k1 b o hb (k0 b o e)), ⟨t1, e2⟩, Nat.le_trans hz dn, dne, n2⟩

/-- __init__ without a field -/
theorem init_none (T : Ini K prog C f cc qual params [supSt msg j p0 p1 p2 p3 p4 p5] scope bmB B newId initId) (S : Sc scope params []) (V : Ev qual scope f cc msg j p0 p1 p2 p3 p4)
    {t0 : Addr} {args : Args} {R : Result → Shared → Prop} (X : K.In s.heap) (G : GlobAt s.heap mg) (hx : s.heap.get? x = some (excObj C t0 none .none)) (hxK : K.lookup x = none) (hroom : A.depth < recursionLimit)
    (hb : ∀ (kV doc pm : Value) (an : Option Addr) (cdv ct : Value), BindsTo s (ksFn "__init__" qual params [supSt msg j p0 p1 p2 p3 p4 p5] scope .none kV doc pm an cdv ct cc) args [(("self" : Str), .ref x)])
    (hq : ∀ h' tk t1, (∀ b o, b ≠ x → s.heap.get? b = some o → h'.get? b = some o) → h'.get? x = some (excObj C t1 none .none) → R (.ok (.ret .none)) { s with heap := h', toks := tk }) :
    codeAny (model prog w) A (.call (.ref f) args) R s := by
  obtain ⟨oc, od, kV, doc, pm, an, cda, ct, osl, ho, hcd, hcda⟩ := T.fn
  obtain ⟨ar, har, hself⟩ := S.hd
  obtain ⟨hp, g, d, t, os⟩ := s
  refine ks_codeAny_call_defAt (fd := ksFn "__init__" qual params [supSt msg j p0 p1 p2 p3 p4 p5] scope .none kV doc pm an (.ref cda) ct cc) (body := [supSt msg j p0 p1 p2 p3 p4 p5]) hroom (X _ _ ho) rfl G.lim (codeRec_of X hcd) rfl (hb _ _ _ _ _ _) S.nc
    (fun y hy => ?_) (fun h0 hns k0 => ?_) S.co S.gen T.sk
  · rcases List.mem_cons.mp hy with rfl | hy
    · exact S.self
    · exact absurd hy (by simp)
  have hx0 := k0 _ _ hx
  have hxL : x ≠ hp.objs.size := Nat.ne_of_lt (Heap.lt_size hx)
  have m1 : (fun y => ([(("self" : Str), Value.ref x)] : List (Str × Value)).reverse.lookup y) "self" = some (Value.ref x) := by simp [List.lookup]
  obtain ⟨hin, pl, hev⟩ := V hp.objs.size (.ref cda)
  refine ks_wpAt_execs_cons ?_
  refine super_said T (g := g) (d := d) (os := os) (t := t + [(("self" : Str), Value.ref x)].length) ho hcda har (by rw [hself]; exact S.self) (X.keeps k0) (G.keeps k0) hns (by rw [hself]; exact m1) hx0 hxL hxK (fun h1 tk1 t1 k1 e1 => ?_) hin hev
  refine _root_.PySem.wpAt_of_wpAny (wpAny_execs_nil ?_)
  exact hq h1 tk1 t1 (fun b o hb e => k1 b o hb (k0 b o e)) e1
variable {fld2 : Str} {r1 r2 r3 r4 : Pos}
/-- __init__ of two fields -/
theorem init_two (T : Ini K prog C f cc qual params [supSt msg j p0 p1 p2 p3 p4 p5, putSt fld q1 q2 q3 q4, putSt fld2 r1 r2 r3 r4] scope bmB B newId initId) (S : Sc scope params [fld, fld2]) (V : Ev qual scope f cc msg j p0 p1 p2 p3 p4) (hno : findIn K (.ref C) fld = some none)
    (hno2 : findIn K (.ref C) fld2 = some none) (hff : fld ≠ fld2)
    {t0 : Addr} {v v2 : Value} {args : Args} {R : Result → Shared → Prop} (X : K.In s.heap) (G : GlobAt s.heap mg) (hx : s.heap.get? x = some (excObj C t0 none .none)) (hxK : K.lookup x = none) (hroom : A.depth < recursionLimit)
    (hb : ∀ (kV doc pm : Value) (an : Option Addr) (cdv ct : Value), BindsTo s (ksFn "__init__" qual params [supSt msg j p0 p1 p2 p3 p4 p5, putSt fld q1 q2 q3 q4, putSt fld2 r1 r2 r3 r4] scope .none kV doc pm an cdv ct cc) args [(("self" : Str), .ref x), (fld, v), (fld2, v2)])
    (hq : ∀ h' tk dx, Own s.heap h' x C dx (fun y => if y = fld2 then some v2 else if y = fld then some v else none) → R (.ok (.ret .none)) { s with heap := h', toks := tk }) :
    codeAny (model prog w) A (.call (.ref f) args) R s := by
  obtain ⟨oc, od, kV, doc, pm, an, cda, ct, osl, ho, hcd, hcda⟩ := T.fn
  obtain ⟨ar, har, hself⟩ := S.hd
  have hf1 := S.nd fld (by simp)
  have hf2 := S.nd fld2 (by simp)
  obtain ⟨hp, g, d, t, os⟩ := s
  refine ks_codeAny_call_defAt (fd := ksFn "__init__" qual params [supSt msg j p0 p1 p2 p3 p4 p5, putSt fld q1 q2 q3 q4, putSt fld2 r1 r2 r3 r4] scope .none kV doc pm an (.ref cda) ct cc)
    (body := [supSt msg j p0 p1 p2 p3 p4 p5, putSt fld q1 q2 q3 q4, putSt fld2 r1 r2 r3 r4]) hroom (X _ _ ho) rfl G.lim (codeRec_of X hcd) rfl (hb _ _ _ _ _ _) S.nc
    (fun y hy => ?_) (fun h0 hns k0 => ?_) S.co S.gen T.sk
  · rcases List.mem_cons.mp hy with rfl | hy
    · exact S.self
    · rcases List.mem_cons.mp hy with rfl | hy
      · exact S.fl _ (by simp)
      · rcases List.mem_cons.mp hy with rfl | hy
        · exact S.fl _ (by simp)
        · exact absurd hy (by simp)
  have X0 : K.In h0 := X.keeps k0
  have hx0 := k0 _ _ hx
  have hxL : x ≠ hp.objs.size := Nat.ne_of_lt (Heap.lt_size hx)
  have e1' : (("self" : Str) == fld) = false := by simpa using fun z => hf1.1 z.symm
  have e2' : (("self" : Str) == fld2) = false := by simpa using fun z => hf2.1 z.symm
  have e3' : (fld == fld2) = false := by simpa using hff
  have m1 : (fun y => ([(("self" : Str), Value.ref x), (fld, v), (fld2, v2)] : List (Str × Value)).reverse.lookup y) "self" = some (Value.ref x) := by simp [List.lookup, e1', e2']
  have m2 : (fun y => ([(("self" : Str), Value.ref x), (fld, v), (fld2, v2)] : List (Str × Value)).reverse.lookup y) fld = some v := by simp [List.lookup, e3']
  have m3 : (fun y => ([(("self" : Str), Value.ref x), (fld, v), (fld2, v2)] : List (Str × Value)).reverse.lookup y) fld2 = some v2 := by simp [List.lookup]
  obtain ⟨hin, pl, hev⟩ := V hp.objs.size (.ref cda)
  refine ks_wpAt_execs_cons ?_
  refine super_said T (g := g) (d := d) (os := os) (t := t + [(("self" : Str), Value.ref x), (fld, v), (fld2, v2)].length) ho hcda har (by rw [hself]; exact S.self) X0 (G.keeps k0) hns (by rw [hself]; exact m1) hx0 hxL hxK (fun h1 tk1 t1 k1 e1 => ?_) hin hev
  refine _root_.PySem.wpAt_of_wpAny ?_
  have X1 : K.In h1 := fun b o e => k1 b o (fun z => by rw [z, hxK] at e; cases e) (X0 b o e)
  have hns1 : h1.Ns hp.objs.size (fun y => ([(("self" : Str), Value.ref x), (fld, v), (fld2, v2)] : List (Str × Value)).reverse.lookup y) := by
    obtain ⟨o, es, ep, a, b⟩ := hns
    exact ⟨o, es, ep, k1 _ _ (Ne.symm hxL) a, b⟩
  refine wpAny_execs_cons (plainObj_wpAny_Assign_Attribute ?_)
  refine ld_local hns1 m2 T.sk (S.fl _ (by simp)) hf1.2 (ld_local hns1 m1 T.sk S.self (by decide) ?_)
  refine store_first T X1 e1 hno fun h2 tk2 dx k2 dn dne e2 n2 => ?_
  have X2 : K.In h2 := fun b o e => k2 b o (fun z => by rw [z, hxK] at e; cases e) (X1 b o e)
  have hz : hp.objs.size < h1.objs.size := by
    obtain ⟨o, es, ep, a, b⟩ := hns1
    exact Heap.lt_size a
  have hns2 : h2.Ns hp.objs.size (fun y => ([(("self" : Str), Value.ref x), (fld, v), (fld2, v2)] : List (Str × Value)).reverse.lookup y) := by
    obtain ⟨o, es, ep, a, b⟩ := hns1
    exact ⟨o, es, ep, k2 _ _ (Ne.symm hxL) a, b⟩
  refine wpAny_execs_cons (plainObj_wpAny_Assign_Attribute ?_)
  refine ld_local hns2 m3 T.sk (S.fl _ (by simp)) hf2.2 (ld_local hns2 m1 T.sk S.self (by decide) ?_)
  have hw : Within (fun y => if y = fld then some v else none) [fld] := Within.cons fld v Within.nil
  refine store_more T X2 e2 n2 hw (show 1 ≤ 1000 by decide) hno2 fun h3 tk3 k3 n3 => ?_
  refine wpAny_execs_nil ?_
  have nd : ∀ {b : Addr} {o : Obj}, h1.get? b = some o → b ≠ dx := fun {b o} e => Nat.ne_of_lt (Nat.lt_of_lt_of_le (Heap.lt_size e) dn)
  exact hq h3 tk3 dx ⟨fun b o hb e => k3 b o (nd (k1 b o hb (k0 b o e))) (k2 b o hb (k1 b o hb (k0 b o e))), ⟨t1, k3 _ _ (Ne.symm dne) e2⟩, Nat.le_trans (Nat.le_of_lt hz) dn, dne, n3⟩

/-- a made exception: all that stood stands -/
structure Made (h h' : Heap) (e C : Addr) (d : Option Addr) (m : Str → Option Value) : Prop where
  keep : ∀ b o, h.get? b = some o → h'.get? b = some o
  new : h.objs.size ≤ e
  obj : ∃ t1, h'.get? e = some (excObj C t1 d .none)
  dict : ∀ dx, d = some dx → h.objs.size ≤ dx ∧ dx ≠ e ∧ h'.Ns1 dx m
theorem call_made {us : List Value} {kw : List (Str × Value)} {body : List Stmt} (T : Ini K prog C f cc qual params body scope bmB B newId initId) (X : K.In s.heap) (hz : us.length ≤ sizeLine) {R : Result → Shared → Prop} {dopt : Option Addr → Prop} {m : Str → Option Value}
    (hrun : ∀ (h0 : Heap), (∀ b o, s.heap.get? b = some o → h0.get? b = some o) → h0.objs.size = s.heap.objs.size + 2 → K.lookup (s.heap.objs.size + 1) = none → h0.get? (s.heap.objs.size + 1) = some (excObj C s.heap.objs.size none .none) →
      ∀ R' : Result → Shared → Prop, (∀ h' tk d, dopt d → (∀ b o, b ≠ s.heap.objs.size + 1 → h0.get? b = some o → h'.get? b = some o) → (∃ t1, h'.get? (s.heap.objs.size + 1) = some (excObj C t1 d .none)) →
          (∀ dx, d = some dx → h0.objs.size ≤ dx ∧ dx ≠ s.heap.objs.size + 1 ∧ h'.Ns1 dx m) → R' (.ok (.ret .none)) { s with heap := h', toks := tk }) →
        codeAny (model prog w) (A.under (.builtin "type.__call__" ⟨.ref C :: us, kw⟩)) (.call (.ref f) ⟨.ref (s.heap.objs.size + 1) :: us, kw⟩) R' { s with heap := h0 })
    (hq : ∀ h' tk e d, dopt d → Made s.heap h' e C d m → R (.ok (.ret (.ref e))) { s with heap := h', toks := tk }) :
    codeAny (model prog w) A (.call (.ref C) ⟨us, kw⟩) R s := by
  obtain ⟨nm, q, N, bs, bm, sn, sub, ab, col, dd, k0, k1, k2, k3, k5, hC, hbm⟩ := T.cls
  obtain ⟨Bn, initN, bmN, FB, c1, c2, c3⟩ := T.new
  have M : NewM C bm Bn := ⟨by rw [List.contains_cons, excTail_contains Bn bm hbm, c1, Bool.or_true], by rw [List.contains_cons, excTail_contains "AttributeError" bm hbm, c2]; rfl, by rw [List.contains_cons, excTail_contains "NameError" bm hbm, c3]; rfl⟩
  obtain ⟨hp, g, dr, tk, os⟩ := s
  have k : ∀ b o, hp.get? b = some o → ((hp.push (kdv_tup us)).push (HandSPX.excO C hp.objs.size)).get? b = some o := fun b o e => Heap.get?_push_of_some _ (Heap.get?_push_of_some _ e)
  have hget : ((hp.push (kdv_tup us)).push (HandSPX.excO C hp.objs.size)).get? (hp.objs.size + 1) = some (HandSPX.excO C hp.objs.size) := by heap_get
  have hnx : K.lookup (hp.objs.size + 1) = none := by
    cases e : K.lookup (hp.objs.size + 1) with
    | none => rfl
    | some o => exact absurd (Nat.lt_of_succ_lt (Heap.lt_size (X _ _ e))) (Nat.lt_irrefl _)
  have hsz : ((hp.push (kdv_tup us)).push (HandSPX.excO C hp.objs.size)).objs.size = hp.objs.size + 2 := by rw [Heap.size_push, Heap.size_push]
  refine call_K FB M (X _ _ hC) (looks_findIn X T.iC) (fun self => bind_fn X self T.tF) hz ?_
  refine hrun _ k hsz hnx hget _ fun h' tk' d hd k' hx' hdict => ?_
  refine ⟨rfl, hq h' tk' (hp.objs.size + 1) d hd ⟨fun b o e => k' b o (Nat.ne_of_lt (Nat.lt_succ_of_lt (Heap.lt_size e))) (k b o e), Nat.le_succ _, hx', fun dx e => ?_⟩⟩
  obtain ⟨a, b, c⟩ := hdict dx e
  rw [hsz] at a
  exact ⟨Nat.le_trans (Nat.le_add_right _ 2) a, b, c⟩
/-- how the arguments are given: by place, or by the fields' names -/
inductive ArgOk : List Str → Args → List Value → Prop
  | pos {flds : List Str} {us : List Value} (h : us.length = flds.length) : ArgOk flds ⟨us, []⟩ us
  | kw1 {f : Str} {v : Value} : ArgOk [f] ⟨[], [(f, v)]⟩ [v]
  | kw2 {f f2 : Str} {v v2 : Value} : ArgOk [f, f2] ⟨[], [(f2, v2), (f, v)]⟩ [v, v2]
theorem ArgOk.pz {flds : List Str} {a : Args} {us : List Value} (h : ArgOk flds a us) (hf : flds.length ≤ 2) : a.pos.length ≤ sizeLine := by
  rw [sizeLine_eq]
  cases h with
  | pos h => show us.length ≤ _; omega
  | kw1 => exact Nat.zero_le _
  | kw2 => exact Nat.zero_le _
theorem ArgOk.len {flds : List Str} {a : Args} {us : List Value} (h : ArgOk flds a us) : us.length = flds.length := by
  cases h with
  | pos h => exact h
  | kw1 => rfl
  | kw2 => rfl
theorem made_one (T : Ini K prog C f cc qual params [supSt msg j p0 p1 p2 p3 p4 p5, putSt fld q1 q2 q3 q4] scope bmB B newId initId) (S : Sc scope params [fld]) (V : Ev qual scope f cc msg j p0 p1 p2 p3 p4) (hno : findIn K (.ref C) fld = some none)
    {a : Args} {v : Value} {R : Result → Shared → Prop} (ha : ArgOk [fld] a [v]) (X : K.In s.heap) (G : GlobAt s.heap mg) (hroom : A.depth + 1 < recursionLimit)
    (hb : ∀ (s' : Shared) (x : Addr) (kV doc pm : Value) (an : Option Addr) (cdv ct : Value), BindsTo s' (ksFn "__init__" qual params [supSt msg j p0 p1 p2 p3 p4 p5, putSt fld q1 q2 q3 q4] scope .none kV doc pm an cdv ct cc) ⟨.ref x :: a.pos, a.kw⟩ [(("self" : Str), .ref x), (fld, v)])
    (hq : ∀ h' tk e d, Made s.heap h' e C (some d) (fun y => if y = fld then some v else none) → R (.ok (.ret (.ref e))) { s with heap := h', toks := tk }) :
    codeAny (model prog w) A (.call (.ref C) a) R s := by
  refine call_made (us := a.pos) (kw := a.kw) (dopt := fun d => ∃ dx, d = some dx) (m := fun y => if y = fld then some v else none) T X (ha.pz (show 1 ≤ 2 by decide)) (fun h0 k0 hsz hnx hx R' hR => ?_) (fun h' tk e d ⟨dx, hd⟩ M => by subst hd; exact hq h' tk e dx M)
  refine init_one T S V hno (s := { s with heap := h0 }) (X.keeps k0) (G.keeps k0) hx hnx ?_ (fun _ _ _ _ _ _ => hb _ _ _ _ _ _ _ _) fun h' tk dx O => ?_
  · show A.depth + 1 < recursionLimit
    exact hroom
  · exact hR h' tk (some dx) ⟨dx, rfl⟩ O.keep O.obj fun dy e => by cases e; exact ⟨O.dbig, O.dne, O.ns⟩
theorem made_two (T : Ini K prog C f cc qual params [supSt msg j p0 p1 p2 p3 p4 p5, putSt fld q1 q2 q3 q4, putSt fld2 r1 r2 r3 r4] scope bmB B newId initId) (S : Sc scope params [fld, fld2]) (V : Ev qual scope f cc msg j p0 p1 p2 p3 p4) (hno : findIn K (.ref C) fld = some none)
    (hno2 : findIn K (.ref C) fld2 = some none) (hff : fld ≠ fld2) {a : Args} {v v2 : Value} {R : Result → Shared → Prop} (ha : ArgOk [fld, fld2] a [v, v2]) (X : K.In s.heap) (G : GlobAt s.heap mg) (hroom : A.depth + 1 < recursionLimit)
    (hb : ∀ (s' : Shared) (x : Addr) (kV doc pm : Value) (an : Option Addr) (cdv ct : Value), BindsTo s' (ksFn "__init__" qual params [supSt msg j p0 p1 p2 p3 p4 p5, putSt fld q1 q2 q3 q4, putSt fld2 r1 r2 r3 r4] scope .none kV doc pm an cdv ct cc) ⟨.ref x :: a.pos, a.kw⟩ [(("self" : Str), .ref x), (fld, v), (fld2, v2)])
    (hq : ∀ h' tk e d, Made s.heap h' e C (some d) (fun y => if y = fld2 then some v2 else if y = fld then some v else none) → R (.ok (.ret (.ref e))) { s with heap := h', toks := tk }) :
    codeAny (model prog w) A (.call (.ref C) a) R s := by
  refine call_made (us := a.pos) (kw := a.kw) (dopt := fun d => ∃ dx, d = some dx) (m := fun y => if y = fld2 then some v2 else if y = fld then some v else none) T X (ha.pz (show 2 ≤ 2 by decide)) (fun h0 k0 hsz hnx hx R' hR => ?_) (fun h' tk e d ⟨dx, hd⟩ M => by subst hd; exact hq h' tk e dx M)
  refine init_two T S V hno hno2 hff (s := { s with heap := h0 }) (X.keeps k0) (G.keeps k0) hx hnx ?_ (fun _ _ _ _ _ _ => hb _ _ _ _ _ _ _ _) fun h' tk dx O => ?_
  · show A.depth + 1 < recursionLimit
    exact hroom
  · exact hR h' tk (some dx) ⟨dx, rfl⟩ O.keep O.obj fun dy e => by cases e; exact ⟨O.dbig, O.dne, O.ns⟩
theorem made_none (T : Ini K prog C f cc qual params [supSt msg j p0 p1 p2 p3 p4 p5] scope bmB B newId initId) (S : Sc scope params []) (V : Ev qual scope f cc msg j p0 p1 p2 p3 p4)
    {a : Args} {R : Result → Shared → Prop} (ha : ArgOk [] a []) (X : K.In s.heap) (G : GlobAt s.heap mg) (hroom : A.depth + 1 < recursionLimit)
    (hb : ∀ (s' : Shared) (x : Addr) (kV doc pm : Value) (an : Option Addr) (cdv ct : Value), BindsTo s' (ksFn "__init__" qual params [supSt msg j p0 p1 p2 p3 p4 p5] scope .none kV doc pm an cdv ct cc) ⟨.ref x :: a.pos, a.kw⟩ [(("self" : Str), .ref x)])
    (hq : ∀ h' tk e, Made s.heap h' e C none (fun _ => none) → R (.ok (.ret (.ref e))) { s with heap := h', toks := tk }) :
    codeAny (model prog w) A (.call (.ref C) a) R s := by
  refine call_made (us := a.pos) (kw := a.kw) (dopt := fun d => d = none) (m := fun _ => none) T X (ha.pz (by decide)) (fun h0 k0 hsz hnx hx R' hR => ?_) (fun h' tk e d hd M => by subst hd; exact hq h' tk e M)
  refine init_none T S V (s := { s with heap := h0 }) (X.keeps k0) (G.keeps k0) hx hnx ?_ (fun _ _ _ _ _ _ => hb _ _ _ _ _ _ _ _) fun h' tk t1 kk e1 => ?_
  · show A.depth + 1 < recursionLimit
    exact hroom
  · exact hR h' tk none rfl kk ⟨t1, e1⟩ fun dy e => by cases e
end
end ExM

/-! Own exceptions as values: made, raised, caught by a clause over a tuple of classes, kept, asked. -/
namespace L2
open PySem PySem.Spec PyProof.Rows ExM

/-- at e: an exception of the class cls, its own dict d -/
def exv (e : Addr) (cls : Value) (d : Option Addr) : HO := .ext fun h => ∃ (oe : Obj) (vs : Array Value), h.get? e = some oe ∧ Zc cls d oe ∧ oe.data = .fields vs
theorem exv_ok {P : Program} {w : World} {H : Hp} {h : Heap} {e : Addr} {cls : Value} {d : Option Addr} {oe : Obj} {vs : Array Value} (he : h.get? e = some oe) (hz : Zc cls d oe) (hd : oe.data = .fields vs) : ObjOk P w H h e (exv e cls d) :=
  ⟨⟨oe, vs, he, hz, hd⟩, ⟨oe, he⟩, fun _ _ ⟨o, v, q, r⟩ k => ⟨o, v, k o q, r⟩⟩
theorem exv_at {P : Program} {w : World} {H : Hp} {h : Heap} {e : Addr} {cls : Value} {d : Option Addr} (hok : HOk P w H h) (he : H e = some (exv e cls d)) : ∃ (oe : Obj) (vs : Array Value), h.get? e = some oe ∧ Zc cls d oe ∧ oe.data = .fields vs := by
  have x : ObjOk P w H h e (.ext fun h => ∃ (oe : Obj) (vs : Array Value), h.get? e = some oe ∧ Zc cls d oe ∧ oe.data = .fields vs) := hok e _ he
  exact x.1

/-- calling the class at C with as many values as fields makes an exception that holds them (the last field first) -/
structure Mks (prog : Program) (K : PySem.W.Frag) (mg : Str → Option Value) (C : Addr) (flds : List Str) : Prop where
  call : ∀ (w : World) (A : Around) (s : Shared) (a : Args) (us : List Value) (R : Result → Shared → Prop), ArgOk flds a us → K.In s.heap → GlobAt s.heap mg → A.depth + 1 < recursionLimit →
    (∀ h' tk e d m, Made s.heap h' e C d m → (flds = [] ↔ d = none) → (∀ f, m f = (flds.zip us).reverse.lookup f) → R (.ok (.ret (.ref e))) { s with heap := h', toks := tk }) → codeAny (model prog w) A (.call (.ref C) a) R s
  kC : PySem.W.keepIn K (.ref C) = true
  exC : PySem.W.subIn K (.ref C) (.type "BaseException") = some true
  tyC : PySem.W.typeIn K (.ref C) = some (.type "type")

abbrev PV : Str × V → Str × Value → Prop := fun p q => p.1 = q.1 ∧ RelV p.2 q.2
theorem relO_look : ∀ {ps : List (Str × V)} {qs : List (Str × Value)}, Paired PV ps qs → ∀ f, RelO (ps.lookup f) (qs.lookup f)
  | _, _, .nil, _ => True.intro
  | _, _, .cons (a := p) (b := q) r t, f => by
    obtain ⟨g, v⟩ := p
    obtain ⟨g', u⟩ := q
    obtain ⟨e, r⟩ := r
    dsimp only at e r
    subst e
    by_cases h : f = g
    · subst h
      simp only [List.lookup, beq_self_eq_true]
      exact r
    · have e : (f == g) = false := by simpa using h
      simpa [List.lookup, e] using relO_look t f
theorem pv_zip : ∀ {fs : List Str} {vs : List V} {us : List Value}, Vals vs us → Paired PV (fs.zip vs) (fs.zip us)
  | [], _, _, _ => by simpa using Paired.nil
  | _ :: _, _, _, .nil => by simpa using Paired.nil
  | _ :: _, _, _, .cons r t => .cons ⟨rfl, r⟩ (pv_zip t)
theorem paired_app {α β : Type} {F : α → β → Prop} : ∀ {a : List α} {b : List β} {c : List α} {d : List β}, Paired F a b → Paired F c d → Paired F (a ++ c) (b ++ d)
  | _, _, _, _, .nil, s => s
  | _, _, _, _, .cons r t, s => .cons r (paired_app t s)
theorem paired_rev {α β : Type} {F : α → β → Prop} : ∀ {a : List α} {b : List β}, Paired F a b → Paired F a.reverse b.reverse
  | _, _, .nil => .nil
  | _, _, .cons r t => by
    rw [List.reverse_cons, List.reverse_cons]
    exact paired_app (paired_rev t) (.cons r .nil)
theorem relO_rev {fs : List Str} {vs : List V} {us : List Value} (r : Vals vs us) (hl : vs.length = fs.length) (f : Str) : RelO ((fs.zip vs).reverse.lookup f) ((fs.zip us).reverse.lookup f) := relO_look (paired_rev (pv_zip r)) f

section
variable {X : Cx} {pins : List (Addr × Obj)} {σ : St} {H : Hp} {s : Shared}
theorem Inv.globAt (I : Inv X pins σ H s) (hs : X.mg "super" = none) : GlobAt s.heap X.mg := by
  obtain ⟨mb, h1, h2⟩ := I.mod.blt
  exact ⟨I.mod.glob.keeps I.bk, ⟨mb, h1.keeps I.bk, (h2 "super" (by decide)).trans (by decide +kernel)⟩, hs, I.nolimit⟩
end

section
variable {X : Cx} {C : Addr} {x : Str} {flds : List Str} {es : List Expr} {e : Expr} {ta : TA} {p pos : Pos} {k : Nat}
/-- C(e, ..) for a raise: its dict alone is told -/
def tMks (C : Addr) (flds : List Str) (ta : TA) : St → Hp → XK → Prop := fun σ H Q => ta σ H fun vs H1 => vs.length = flds.length ∧ ∀ d, H1 d = none → Q (.ref C) (some d) (upd H1 d (.xd (flds.zip vs).reverse))
theorem pmk_mks (T : Mks X.prog X.K X.mg C flds) (hs : X.mg "super" = none) (hr : Room k X.A) (hne : flds ≠ []) (ha : PA X (e :: es) ta) (hg : Gl X x) (hm : X.mg x = some (.ref C)) (hdb : (x == ("__debug__" : Str)) = false := by decide)
    (he : starEach (e :: es) X.env = (false, eval e X.env) :: starEach es X.env := by rfl) (hpl : (backTo pos (starEach es X.env)).any (·.1) = false := by rfl) :
    PMk X (.Call (.Name x p) (e :: es) [] pos) (tMks C flds ta) := by
  intro pins s σ H Q I h
  refine wpAny_Call_Name_kw (ld_glob I hg hm ?_ hdb)
  refine PySem.W.callWith_K (h₀ := X.base) I.ok.mod.kin T.kC (thn (ha.run pos pins s σ H _ I h) fun us s1 ⟨vs, H1, I1, r1, hl, q1⟩ => ⟨I1.kIn, ?_⟩) he hpl
  show wpAny _ _ (call (.ref C) us) _ _ _
  have hlu : us.length = flds.length := r1.length.symm.trans hl
  refine wpAny_call (T.call _ _ _ _ us _ (.pos hlu) I1.kIn (I1.globAt hs) (by have := hr.dp; omega) fun h' tk' e d m M hd hmm => ?_)
  show MkP X pins σ Q (.ref e) _
  obtain ⟨d, rfl⟩ : ∃ dd, d = some dd := by
    cases d with
    | none => exact absurd (hd.mpr rfl) hne
    | some dd => exact ⟨dd, rfl⟩
  obtain ⟨t1, hoe⟩ := M.obj
  obtain ⟨db, dne, hns⟩ := M.dict d rfl
  obtain ⟨hp, g, dr, tk, os⟩ := s1
  obtain ⟨G, g1, g2⟩ := restrict h' fun b => decide (b ≠ e)
  have gk : ∀ b, b ≠ e → G.get? b = h'.get? b := fun b hb => g1 b (decide_eq_true hb)
  have ge : G.get? e = none := g2 e (by simp)
  have old : ∀ b o, hp.get? b = some o → G.get? b = some o := fun b o q => (gk b (Nat.ne_of_lt (Nat.lt_of_lt_of_le (Heap.lt_size q) M.new))).trans (M.keep b o q)
  have ob : ObjOk X.prog X.w (upd H1 d (.xd (flds.zip vs).reverse)) G d (.xd (flds.zip vs).reverse) :=
    ⟨_, hns.at (fun o q => (gk d dne).trans q), fun f => by rw [hmm f]; exact relO_rev r1 hl f⟩
  have J : Inv X pins σ (upd H1 d (.xd (flds.zip vs).reverse)) ⟨G, g, dr, tk', os⟩ := I1.laid (t' := tk') old db ob
  refine ⟨e, _, _, ⟨G, g, dr, tk', os⟩, _, .ref C, some d, rfl, J, fun b o q => ?_, ge, hoe, ⟨rfl, rfl⟩, rfl, rfl, ?_, rfl, I1.bare, raises_own T.exC T.tyC, q1 d (I1.hok.fresh db)⟩
  · by_cases hb : b = e
    · rw [hb, ge] at q
      cases q
    · exact (gk b hb).symm.trans q
  · rw [upd_ne (Ne.symm dne)]
    exact I1.hok.fresh M.new
/-- C() for a raise -/
theorem pmk_mks0 (T : Mks X.prog X.K X.mg C []) (hs : X.mg "super" = none) (hr : Room k X.A) (hg : Gl X x) (hm : X.mg x = some (.ref C)) (hdb : (x == ("__debug__" : Str)) = false := by decide) :
    PMk X (.Call (.Name x p) [] [] pos) (fun σ H Q => Q (.ref C) none H) := by
  intro pins s σ H Q I h
  refine wpAny_Call_Name_kw (ld_glob I hg hm ?_ hdb)
  refine PySem.W.callWith_K0 I.kIn T.kC ?_
  refine wpAny_call (T.call _ _ _ _ [] _ (.pos rfl) I.kIn (I.globAt hs) (by have := hr.dp; omega) fun h' tk' e d m M hd hmm => ?_)
  show MkP X pins σ Q (.ref e) _
  obtain rfl : d = none := hd.mp rfl
  obtain ⟨t1, hoe⟩ := M.obj
  have na : H e = none := I.hok.fresh M.new
  have nn : s.heap.get? e = none := by
    cases q : s.heap.get? e with
    | none => rfl
    | some o => exact absurd (Nat.lt_of_lt_of_le (Heap.lt_size q) M.new) (Nat.lt_irrefl _)
  exact ⟨e, _, _, s, _, .ref C, none, rfl, I, M.keep, nn, hoe, ⟨rfl, rfl⟩, rfl, rfl, na, rfl, I.bare, raises_own T.exC T.tyC, h⟩
/-- C(e, ..) as a value: the exception is kept -/
def tMkv (C : Addr) (flds : List Str) (ta : TA) : TE := fun σ H Q => ta σ H fun vs H1 => vs.length = flds.length ∧ ∀ e d, H1 e = none → H1 d = none → d ≠ e → Q (.ref e) (upd (upd H1 d (.xd (flds.zip vs).reverse)) e (exv e (.ref C) (some d)))
theorem pe_mkv (T : Mks X.prog X.K X.mg C flds) (hs : X.mg "super" = none) (hr : Room k X.A) (hne : flds ≠ []) (ha : PA X (e :: es) ta) (hg : Gl X x) (hm : X.mg x = some (.ref C)) (hdb : (x == ("__debug__" : Str)) = false := by decide)
    (he : starEach (e :: es) X.env = (false, eval e X.env) :: starEach es X.env := by rfl) (hpl : (backTo pos (starEach es X.env)).any (·.1) = false := by rfl) :
    PE X (.Call (.Name x p) (e :: es) [] pos) (tMkv C flds ta) := by
  refine ⟨fun pins s σ H Q I h => ?_⟩
  refine wpAny_Call_Name_kw (ld_glob I hg hm ?_ hdb)
  refine PySem.W.callWith_K (h₀ := X.base) I.ok.mod.kin T.kC (thn (ha.run pos pins s σ H _ I h) fun us s1 ⟨vs, H1, I1, r1, hl, q1⟩ => ⟨I1.kIn, ?_⟩) he hpl
  show wpAny _ _ (call (.ref C) us) _ _ _
  have hlu : us.length = flds.length := r1.length.symm.trans hl
  refine wpAny_call (T.call _ _ _ _ us _ (.pos hlu) I1.kIn (I1.globAt hs) (by have := hr.dp; omega) fun h' tk' e d m M hd hmm => ?_)
  obtain ⟨d, rfl⟩ : ∃ dd, d = some dd := by
    cases d with
    | none => exact absurd (hd.mpr rfl) hne
    | some dd => exact ⟨dd, rfl⟩
  obtain ⟨t1, hoe⟩ := M.obj
  obtain ⟨db, dne, hns⟩ := M.dict d rfl
  obtain ⟨hp, g, dr, tk, os⟩ := s1
  obtain ⟨G, g1, g2⟩ := restrict h' fun b => decide (b ≠ e)
  have gk : ∀ b, b ≠ e → G.get? b = h'.get? b := fun b hb => g1 b (decide_eq_true hb)
  have ge : G.get? e = none := g2 e (by simp)
  have gs : ∀ b o, G.get? b = some o → h'.get? b = some o := fun b o q => by
    by_cases hb : b = e
    · rw [hb, ge] at q
      cases q
    · exact (gk b hb).symm.trans q
  have old : ∀ b o, hp.get? b = some o → G.get? b = some o := fun b o q => (gk b (Nat.ne_of_lt (Nat.lt_of_lt_of_le (Heap.lt_size q) M.new))).trans (M.keep b o q)
  have ob : ObjOk X.prog X.w (upd H1 d (.xd (flds.zip vs).reverse)) G d (.xd (flds.zip vs).reverse) :=
    ⟨_, hns.at (fun o q => (gk d dne).trans q), fun f => by rw [hmm f]; exact relO_rev r1 hl f⟩
  have J : Inv X pins σ (upd H1 d (.xd (flds.zip vs).reverse)) ⟨G, g, dr, tk', os⟩ := I1.laid (t' := tk') old db ob
  have ne1 : H1 e = none := I1.hok.fresh M.new
  have ne2 : (upd H1 d (.xd (flds.zip vs).reverse)) e = none := by
    rw [upd_ne (Ne.symm dne)]
    exact ne1
  exact ⟨.ref e, _, J.laidN (t' := tk') gs ge ne2 (exv_ok hoe ⟨rfl, rfl⟩ rfl), rfl, q1 e d ne1 (I1.hok.fresh db) dne⟩
theorem pe_mkv0 (T : Mks X.prog X.K X.mg C []) (hs : X.mg "super" = none) (hr : Room k X.A) (hg : Gl X x) (hm : X.mg x = some (.ref C)) (hdb : (x == ("__debug__" : Str)) = false := by decide) :
    PE X (.Call (.Name x p) [] [] pos) (fun σ H Q => ∀ e, H e = none → Q (.ref e) (upd H e (exv e (.ref C) none))) := by
  refine ⟨fun pins s σ H Q I h => ?_⟩
  refine wpAny_Call_Name_kw (ld_glob I hg hm ?_ hdb)
  refine PySem.W.callWith_K0 I.kIn T.kC ?_
  refine wpAny_call (T.call _ _ _ _ [] _ (.pos rfl) I.kIn (I.globAt hs) (by have := hr.dp; omega) fun h' tk' e d m M hd hmm => ?_)
  obtain rfl : d = none := hd.mp rfl
  obtain ⟨t1, hoe⟩ := M.obj
  have na : H e = none := I.hok.fresh M.new
  exact ⟨.ref e, _, I.laid (t' := tk') M.keep M.new (exv_ok hoe ⟨rfl, rfl⟩ rfl), rfl, h e na⟩
/-- C(f = e) -/
def tMkvK (C : Addr) (flds : List Str) (g : List V → List V) (ta : TA) : TE := fun σ H Q => ta σ H fun vs H1 => vs.length = flds.length ∧ ∀ e d, H1 e = none → H1 d = none → d ≠ e → Q (.ref e) (upd (upd H1 d (.xd (flds.zip (g vs)).reverse)) e (exv e (.ref C) (some d)))
theorem mkv_end {pins : List (Addr × Obj)} {σ : St} {H1 : Hp} {Q : VK} {s1 : Shared} {a : Args} {us : List Value} {vs : List V} (T : Mks X.prog X.K X.mg C flds) (hs : X.mg "super" = none) (hr : Room k X.A) (hne : flds ≠ []) (I1 : Inv X pins σ H1 s1) (r1 : Vals vs us) (ha : ArgOk flds a us)
    (q1 : ∀ e d, H1 e = none → H1 d = none → d ≠ e → Q (.ref e) (upd (upd H1 d (.xd (flds.zip vs).reverse)) e (exv e (.ref C) (some d)))) :
    wpAny (model X.prog X.w) X.A (call (.ref C) a.pos a.kw) (EP X pins σ Q) X.xe s1 := by
  have hl : vs.length = flds.length := r1.length.trans ha.len
  refine wpAny_call (T.call _ _ _ _ us _ ha I1.kIn (I1.globAt hs) (by have := hr.dp; omega) fun h' tk' e d m M hd hmm => ?_)
  obtain ⟨d, rfl⟩ : ∃ dd, d = some dd := by
    cases d with
    | none => exact absurd (hd.mpr rfl) hne
    | some dd => exact ⟨dd, rfl⟩
  obtain ⟨t1, hoe⟩ := M.obj
  obtain ⟨db, dne, hns⟩ := M.dict d rfl
  obtain ⟨hp, g, dr, tk, os⟩ := s1
  obtain ⟨G, g1, g2⟩ := restrict h' fun b => decide (b ≠ e)
  have gk : ∀ b, b ≠ e → G.get? b = h'.get? b := fun b hb => g1 b (decide_eq_true hb)
  have ge : G.get? e = none := g2 e (by simp)
  have gs : ∀ b o, G.get? b = some o → h'.get? b = some o := fun b o q => by
    by_cases hb : b = e
    · rw [hb, ge] at q
      cases q
    · exact (gk b hb).symm.trans q
  have old : ∀ b o, hp.get? b = some o → G.get? b = some o := fun b o q => (gk b (Nat.ne_of_lt (Nat.lt_of_lt_of_le (Heap.lt_size q) M.new))).trans (M.keep b o q)
  have ob : ObjOk X.prog X.w (upd H1 d (.xd (flds.zip vs).reverse)) G d (.xd (flds.zip vs).reverse) :=
    ⟨_, hns.at (fun o q => (gk d dne).trans q), fun f => by rw [hmm f]; exact relO_rev r1 hl f⟩
  have J : Inv X pins σ (upd H1 d (.xd (flds.zip vs).reverse)) ⟨G, g, dr, tk', os⟩ := I1.laid (t' := tk') old db ob
  have ne1 : H1 e = none := I1.hok.fresh M.new
  have ne2 : (upd H1 d (.xd (flds.zip vs).reverse)) e = none := by
    rw [upd_ne (Ne.symm dne)]
    exact ne1
  exact ⟨.ref e, _, J.laidN (t' := tk') gs ge ne2 (exv_ok hoe ⟨rfl, rfl⟩ rfl), rfl, q1 e d ne1 (I1.hok.fresh db) dne⟩
end
end L2

namespace L2
open PySem PySem.Spec PyProof.Rows ExM
section
variable {X : Cx} {pins : List (Addr × Obj)} {σ : St} {H : Hp} {s : Shared}
/-- a pinned object that was not there at the entry is tracked from now on -/
theorem Inv.track {a : Addr} {oe : Obj} {o : HO} (I : Inv X ((a, oe) :: pins) σ H s) (n0 : X.s_0.heap.get? a = none) (hp : ∀ p ∈ X.pn ++ pins, p.1 ≠ a) (hk : ∀ v, oe.data ≠ .cell v) (new : ObjOk X.prog X.w (upd H a o) s.heap a o) : Inv X pins σ (upd H a o) s := by
  obtain ⟨ea, na, nL, nF, _⟩ := I.pin (a, oe) (List.mem_append_right _ List.mem_cons_self)
  dsimp only at ea na nL nF
  have sub : ∀ p ∈ X.pn ++ pins, p ∈ X.pn ++ (a, oe) :: pins := fun p hp => (List.mem_append.mp hp).elim (List.mem_append_left _) fun z => List.mem_append_right _ (List.mem_cons_of_mem _ z)
  have old : ∀ b u, X.s_0.heap.get? b = some u → b ≠ a := fun b u e z => by
    rw [z, n0] at e
    cases e
  refine ⟨I.ok, I.os, I.bare, ⟨I.base.keep, I.base.slot, fun b u e n hx => ?_, I.base.there, fun b xs e => ?_, fun b u v e => ?_, fun b ps e => ?_⟩, I.loc, I.cell, ?_, fun x c e => ?_, fun p h => ?_, fun b u e => ?_, I.len⟩
  · rw [upd_ne (old b u e)]
    exact I.base.free b u e n hx
  · have q := I.base.tups b xs e
    rw [upd_ne (ne_of_none q na)]
    exact q
  · have q := I.base.frzs b u v e
    rw [upd_ne (ne_of_none q na)]
    exact q
  · obtain ⟨m, q⟩ := I.base.tbls b ps e
    exact ⟨m, by rw [upd_ne (ne_of_none q na)]; exact q⟩
  · rw [upd_ne (Ne.symm nL)]
    exact I.free
  · have hc : c ≠ a := fun z => by
      obtain ⟨v, oc, hoc, hd⟩ := I.cell x c e
      rw [z, ea] at hoc
      cases hoc
      exact hk v hd
    rw [upd_ne hc]
    exact I.freeC x c e
  · obtain ⟨e, n, ne, nf, d⟩ := I.pin p (sub p h)
    exact ⟨e, by rw [upd_ne (hp p h)]; exact n, ne, nf, d⟩
  · by_cases hb : b = a
    · subst hb
      rw [upd_same] at e
      cases e
      exact new
    · rw [upd_ne hb] at e
      exact (I.hok b u e).stay (fun _ _ _ q => q) (fun c q => by rw [upd_ne (ne_of_none q na)]; exact q) fun c xs q => by rw [upd_ne (ne_of_none q na)]; exact q
end

/-- what the clause 'except (c1, .., c4) as n' wishes: behind the suite the exception is an object that is kept -/
def wAsT (K : PySem.W.Frag) (cs : List Value) (i : Nat) (ts : Addr → Value → Option Addr → TS) (Wout : WX) (D : Ends) : WX := fun cls d σ H =>
  ∃ b, PySem.W.exmAny K cls cs = some b ∧ (b = true → ∀ a, H a = none → ts a cls d { nx := fun σ' H' => D.nx (σ'.set i none) (upd H' a (exv a cls d)), rt := fun _ _ => False } (σ.set i (some (.ref a))) H) ∧
    (b = false → Wout cls d σ H)
/-- a global class, as an expression of a clause -/
inductive NamesT (X : Cx) : List Expr → List Value → Prop
  | nil : NamesT X [] []
  | cons {x : Str} {c : Addr} {np : Pos} {es : List Expr} {cs : List Value} (hg : Gl X x) (hm : X.mg x = some (.ref c)) (hd : (x == ("__debug__" : Str)) = false) (r : NamesT X es cs) : NamesT X (.Name x np :: es) (.ref c :: cs)
theorem NamesT.run {X : Cx} {pins : List (Addr × Obj)} {σ : St} {H : Hp} {s : Shared} {A : Around} {E : Value → Shared → Prop} {pos : Pos} (hk : X.env.scope.kind = .function) (hgl : s.heap.Ns X.env.globals X.mg) : ∀ {es : List Expr} {cs : List Value}, NamesT X es cs → ∀ {Q : List Value → Shared → Prop}, Q cs s →
    wpAny (model X.prog X.w) A (spliced (backTo pos (starEach es X.env))) Q E s
  | _, _, .nil, _, q => Calls.spliced_nil q
  | _, _, .cons (x := x) (c := c) (np := np) (es := es) hg hm hd r, Q, q => by
    rw [show starEach (.Name x np :: es) X.env = (false, eval (.Name x np) X.env) :: starEach es X.env from rfl]
    show wpAny _ _ (spliced ((false, eval (.Name x np) X.env) :: backTo pos (starEach es X.env))) _ _ s
    refine Calls.spliced_cons (Calls.Name_function_global hk hg (Calls.loadGlobal_global hgl hm ?_) hd)
    exact NamesT.run (pins := pins) (σ := σ) (H := H) hk hgl r q
section
variable {X : Cx} {n : Str} {i kx : Nat} {body suite : List Stmt} {b₀ : Stmt} {tpos pos pos' : Pos} {es : List Expr} {c1 c2 c3 c4 : Value} {tb : WX → TS} {ts : Addr → Value → Option Addr → TS} {Wout : WX}
theorem ps_try_asT (hs : X.stack = X.env :: X.outer) (hf : X.env.frame = some X.env.locals) (hN : X.N.Nodup) (hi : X.N[i]? = some n) (hln : X.env.kindOf n = some .local) (hc : NamesT X es [c1, c2, c3, c4]) (hex : X.ex = []) (tk : Takes X Wout)
    (hb : ∀ (W : WX) (pn : List (Addr × Obj)) (xe : Value → Shared → Prop), Takes (X.tr pn xe) W → PassesOwn (model X.prog X.w) X.A X.env xe → PSs (X.tr pn xe) body (tb W))
    (hsu : ∀ (a : Addr) (oe : Obj) (cls : Value) (d : Option Addr) (pn : List (Addr × Obj)), Zc cls d oe → (∃ vs, oe.data = .fields vs) → PSs (X.suite a ((a, oe) :: pn)) (b₀ :: suite) (ts a cls d)) :
    PS X (.Try body [.ExceptHandler (some (.Tuple es kx tpos)) (some n) (b₀ :: suite) pos'] [] [] pos) (fun D σ H => tb (wAsT X.K [c1, c2, c3, c4] i ts Wout D) D σ H) := by
  refine ⟨fun pins s σ H D I h => ?_⟩
  have ok := I.ok
  have hfr : X.A.frames = some (X.env :: X.outer) := by rw [ok.frames, hs]
  refine wpAny_Try_except (wpAny_mono ((hb (wAsT X.K [c1, c2, c3, c4] i ts Wout D) (X.pn ++ pins) (fun e s₁ => wpAny (model X.prog X.w) X.A (noteFrame e X.env) (fun _ s₂ => wpAny (model X.prog X.w) X.A (setFlight e none) (fun _ s₃ =>
    wpAny (model X.prog X.w) X.A (handleBy e X.env [.ExceptHandler (some (.Tuple es kx tpos)) (some n) (b₀ :: suite) pos']) (SP X pins D) X.xe s₃) X.xe s₂) X.xe s₁) (fun u s' xx => ?_) PassesOwn.looking).run [] s σ H D (I.toTry _) h) (fun f s1 hsp => ?_) (fun e s1 he => he))
  · obtain ⟨a, B, sI, pins', σ', H', cls, d, rfl, J', nb, up, sky, na, os, ag, b, hb1, hyes, hno⟩ := xx
    have J : Inv X pins σ' H' sI := J'.ofTry ok
    have sky' : Sky B (X.env :: X.outer) a (Zc cls d) X.env.locals s'.heap := by rw [← hs]; exact sky
    show wpAny (model X.prog X.w) X.A (noteFrame (.ref a) X.env) _ _ _
    refine Sky.land Zc.steady hfr hf sky' fun h3 fl3 up3 => ?_
    have J3 : Inv X pins σ' H' { s' with heap := h3 } := J.landed nb fl3.1 (up.trans up3) os ag
    obtain ⟨oe3, vs3, he3, hz3, hd3⟩ := fl3.there
    have nfr : a ∉ frs (X.env :: X.outer) := fun hm => by
      obtain ⟨_, o', e', hnf⟩ := fl3.2.2.1.mem hm
      rw [he3] at e'
      cases e'
      exact hnf _ hd3
    have nL : a ≠ X.env.locals := fun z => nfr (List.mem_filterMap.mpr ⟨X.env, List.mem_cons_self, by rw [hf, z]⟩)
    have nF : a ∉ X.fs := fun hm => by
      obtain ⟨e, he, q⟩ := List.mem_filterMap.mp hm
      exact nfr (List.mem_filterMap.mpr ⟨e, List.mem_cons_of_mem _ he, q⟩)
    have aB : B.get? a = none := fl3.2.1
    have aI : sI.heap.get? a = none := by
      cases q : sI.heap.get? a with
      | none => rfl
      | some o =>
        have z := nb a o q (by rw [hs]; exact nfr)
        rw [aB] at z
        cases z
    have a0 : X.s_0.heap.get? a = none := by
      cases q : X.s_0.heap.get? a with
      | none => rfl
      | some o =>
        obtain ⟨o', z⟩ := J.base.there a o q (by rw [hex]; exact fun z => nomatch z)
        rw [aI] at z
        cases z
    have apn : ∀ p ∈ X.pn ++ pins, p.1 ≠ a := fun p hp z => by
      obtain ⟨e, _⟩ := J.pin p hp
      rw [z, aI] at e
      cases e
    refine wpAny_handleBy_cons (codeAny_handlers_test ?_) (by intro q; cases q)
    have LT : ∀ {g : Heap}, g.get? a = some oe3 → PySem.W.Looks (model X.prog X.w) g (typeOf (.ref a)) cls := fun {g} e A Q E s k q => wpAny_typeOf_ref (k _ _ e) (by rw [hz3.1]; exact q)
    refine wpAny_Tuple_spliced (NamesT.run (pins := pins) (σ := σ') (H := H') ok.kind (by rw [ok.glob]; exact J3.mod.glob.keeps J3.bk) hc ⟨by rw [sizeLine_eq]; exact (by decide : 4 ≤ 16777216), ?_⟩)
    have kT : ∀ b o, h3.get? b = some o → (h3.push { cls := .type "tuple", data := .seq [c1, c2, c3, c4].toArray }).get? b = some o := fun b o e => Heap.get?_push_of_some _ e
    have LM := PySem.W.exm_tup4 (M := model X.prog X.w) (J3.kIn.keeps kT) (LT (kT _ _ he3)) (Heap.get?_push_size h3 rfl) hb1
    refine LM.here ?_
    have fl3' : HandSPX.FlyingZ B (X.env :: X.outer) a (Zc cls d) (h3.push { cls := .type "tuple", data := .seq [c1, c2, c3, c4].toArray }) := by
      obtain ⟨f1, f2, f3, oe, vs, T, oT, tts, e1, e2, e3, e4, e5, e6, e7, e8, e9⟩ := fl3
      exact ⟨fun b o e => kT b o (f1 b o e), f2, f3.of_keeps fun b o e _ => ⟨o, kT b o e, rfl⟩, oe, vs, T, oT, tts, kT _ _ e1, e2, e3, e4, e5, e6, kT _ _ e7, e8, e9⟩
    have upT : h3.UpToSlots (h3.push { cls := .type "tuple", data := .seq [c1, c2, c3, c4].toArray }) := Heap.UpToSlots.of_keeps kT
    cases b with
    | true =>
      refine codeAny_handlers_suite_as ?_
      refine HandSPX.lands_againZ fl3' fun h4 fl4 up4 => ?_
      have J4 : Inv X pins σ' H' { s' with heap := h4 } := J.landed nb fl4.1 (((up.trans up3).trans upT).trans up4) os ag
      obtain ⟨oe4, vs4, he4, hz4, hd4⟩ := fl4.there
      have S4 := J4.suite he4 hd4 na nL nF
      refine store_ok (X := X.suite a ((a, oe4) :: (X.pn ++ pins))) (v := .ref a) S4 hN hi (.inl hln) rfl (fun s5 S5 => ?_) (.inr hln)
      refine wpAny_mono ((hsu a oe4 cls d (X.pn ++ pins) hz4 ⟨_, hd4⟩).run [] s5 _ H' _ S5 (hyes rfl a na)) (fun f s6 hsp => ?_) (fun _ _ z => False.elim z)
      have back : ∀ {σ6 : St} {H6 : Hp}, Inv (X.suite a ((a, oe4) :: (X.pn ++ pins))) [] σ6 H6 s6 → Inv X ((a, oe4) :: pins) σ6 H6 s6 := fun {σ6 H6} S6 =>
        ⟨ok, S6.os, S6.bare, S6.base, S6.loc, S6.cell, S6.free, S6.freeC, fun p hp => S6.pin p (by
          rcases List.mem_append.mp hp with z | z
          · exact List.mem_append_left _ (List.mem_cons_of_mem _ (List.mem_append_left _ z))
          · rcases List.mem_cons.mp z with z | z
            · rw [z]
              exact List.mem_append_left _ List.mem_cons_self
            · exact List.mem_append_left _ (List.mem_cons_of_mem _ (List.mem_append_right _ z))), S6.hok, S6.len⟩
      cases f with
      | next =>
        obtain ⟨σ6, H6, S6, q6⟩ := hsp
        refine gone_ok (back S6) hN hi hln fun s7 J7 => ?_
        have e7 := (J7.pin (a, oe4) (List.mem_append_right _ List.mem_cons_self)).1
        exact ⟨_, _, J7.track a0 apn (fun v z => by rw [hd4] at z; cases z) (exv_ok e7 hz4 hd4), q6⟩
      | brk =>
        obtain ⟨σ6, H6, S6, q6⟩ := hsp
        exact False.elim q6
      | cont =>
        obtain ⟨σ6, H6, S6, q6⟩ := hsp
        exact False.elim q6
      | ret u =>
        obtain ⟨v6, σ6, H6, S6, r6, q6⟩ := hsp
        exact False.elim q6
    | false =>
      show wpAny _ X.A (handleBy (.ref a) X.env []) _ _ _
      refine wpAny_handleBy_nil ?_
      obtain ⟨k1, k2, k3, oe, vs, T, oT, ts', he, hz, hd, h1, hr⟩ := id fl3'
      unfold PySem.passOn
      refine wpAny_bind (wpAny_field he hd h1 ?_)
      rw [if_neg (show ¬ ((Value.ref T == Value.none) = true) from by simp)]
      have fin : wpAny (model X.prog X.w) X.A (setFlight (.ref a) X.env.frame) (fun _ s4 => wpAny (model X.prog X.w) X.A (throw (.ref a) : Sem Flow) (SP X pins D) X.xe s4) X.xe { s' with heap := h3.push { cls := .type "tuple", data := .seq [c1, c2, c3, c4].toArray } } := by
        rw [hf]
        refine HandSPX.setFlight_upZ fl3' fun h4 hh4 up4 => wpAny_throw (tk _ _ ?_)
        exact ⟨a, B, sI, pins, σ', H', cls, d, rfl, J, nb, ((up.trans up3).trans upT).trans up4, .inr (.inr (by rw [hs]; exact hh4)), na, os, ag, hno rfl⟩
      first
        | exact wpAny_bind (wpAny_pure (wpAny_bind fin))
        | exact wpAny_bind fin
  · cases f with
    | next =>
      obtain ⟨σ', H', J', q⟩ := hsp
      exact wpAny_execs_nil ⟨σ', H', J'.ofTry ok, q⟩
    | brk =>
      obtain ⟨σ', H', J', q⟩ := hsp
      exact ⟨σ', H', J'.ofTry ok, q⟩
    | cont =>
      obtain ⟨σ', H', J', q⟩ := hsp
      exact ⟨σ', H', J'.ofTry ok, q⟩
    | ret u =>
      obtain ⟨v, σ', H', J', r, q⟩ := hsp
      exact ⟨v, σ', H', J'.ofTry ok, r, q⟩
end
end L2

namespace L2
open PySem PySem.Spec PyProof.Rows ExM
/-- what an own exception class must say, so that its instances are asked rightly -/
structure XcC (K : PySem.W.Frag) (C : Addr) : Prop where
  ga : PySem.W.findIn K (.ref C) "__getattribute__" = some (some (.builtin "BaseException.__getattribute__"))
  gg : PySem.W.findIn K (.ref C) "__getattr__" = some none
  exC : PySem.W.subIn K (.ref C) (.type "BaseException") = some true
  hd : PySem.W.hasDictIn K C = true
  ha : PySem.W.findIn K (.ref C) "__class__" = some (some (.builtin "object.__class__"))
  hn : PySem.W.specialIn K (.builtin "object.__class__") "__get__" = some (some (.builtin "getset_descriptor.__get__"))
  ht : PySem.W.takesIn K (.builtin "object.__class__") = some true
  hm : PySem.W.mroIn K C (.type "object") = some true
def xcB (K : PySem.W.Frag) (C : Addr) : Bool := decide (PySem.W.findIn K (.ref C) "__getattribute__" = some (some (.builtin "BaseException.__getattribute__"))) && (decide (PySem.W.findIn K (.ref C) "__getattr__" = some none) &&
  (decide (PySem.W.subIn K (.ref C) (.type "BaseException") = some true) && (PySem.W.hasDictIn K C && (decide (PySem.W.findIn K (.ref C) "__class__" = some (some (.builtin "object.__class__"))) &&
  (decide (PySem.W.specialIn K (.builtin "object.__class__") "__get__" = some (some (.builtin "getset_descriptor.__get__"))) && (decide (PySem.W.takesIn K (.builtin "object.__class__") = some true) && decide (PySem.W.mroIn K C (.type "object") = some true)))))))
theorem xcB_ok {K : PySem.W.Frag} {C : Addr} (h : xcB K C = true) : XcC K C := by
  obtain ⟨h1, h⟩ := Bool.and_eq_true_iff.mp h
  obtain ⟨h2, h⟩ := Bool.and_eq_true_iff.mp h
  obtain ⟨h3, h⟩ := Bool.and_eq_true_iff.mp h
  obtain ⟨h4, h⟩ := Bool.and_eq_true_iff.mp h
  obtain ⟨h5, h⟩ := Bool.and_eq_true_iff.mp h
  obtain ⟨h6, h⟩ := Bool.and_eq_true_iff.mp h
  obtain ⟨h7, h8⟩ := Bool.and_eq_true_iff.mp h
  exact ⟨of_decide_eq_true h1, of_decide_eq_true h2, of_decide_eq_true h3, h4, of_decide_eq_true h5, of_decide_eq_true h6, of_decide_eq_true h7, of_decide_eq_true h8⟩
section
variable {X : Cx} {pins : List (Addr × Obj)} {σ : St} {H : Hp} {s : Shared}
theorem exv_inst (I : Inv X pins σ H s) {a C : Addr} {d : Option Addr} (ha : H a = some (exv a (.ref C) d)) (hd : ∀ dx, d = some dx → ∃ o, s.heap.get? dx = some o) : ∃ oe od, PySem.W.InstAt s.heap a oe C od ∧ (d = none → od = none) ∧ ∀ dx, d = some dx → od = s.heap.get? dx := by
  obtain ⟨oe, vs, h1, hz, h2⟩ := exv_at I.hok ha
  obtain ⟨oc, od, oda, osl⟩ := oe
  obtain ⟨z1, z2⟩ := hz
  dsimp only at z1 z2 h2
  subst z1 z2 h2
  cases od with
  | none => exact ⟨_, none, ⟨h1, rfl, rfl, trivial⟩, fun _ => rfl, fun _ z => by cases z⟩
  | some dx =>
    obtain ⟨o, ho⟩ := hd dx rfl
    exact ⟨_, some o, ⟨h1, rfl, rfl, ho⟩, fun z => by (cases z), fun dy z => by cases z; exact ho.symm⟩
theorem isIn_some {K : PySem.W.Frag} {C : Addr} (h : PySem.W.hasDictIn K C = true) : (PySem.W.clsIn K C).isSome = true := by
  obtain ⟨cd, hc, _⟩ := PySem.W.any_some h
  rw [hc]
  rfl
end
/-- isinstance(e, c), e a kept exception -/
def rIsX (K : PySem.W.Frag) : List V → Hp → VK → Prop := fun xs H Q => ∃ (a C : Addr) (d : Option Addr) (c : V) (u : Value) (b : Bool), xs = [.ref a, c] ∧ ClsV c u ∧ H a = some (exv a (.ref C) d) ∧ (∀ dx, d = some dx → ∃ fs, H dx = some (.xd fs)) ∧ XcC K C ∧ PySem.W.kitOne K (.ref C) u = some b ∧ Q (.bl b) H
theorem call_isX {X : Cx} : CallR X (.builtin "isinstance") (rIsX X.K) := by
  intro pins s σ H xs us Q I r h
  obtain ⟨a, C, d, c, u, b, rfl, k, ha, hd, T, e, q⟩ := h
  obtain ⟨u1, u2, rfl, r1, r2⟩ := vals2 r
  have e2 := k.eq r2
  subst e2
  cases (show u1 = Value.ref a from r1)
  obtain ⟨oe, od, J, _⟩ := exv_inst I ha fun dx z => by
    obtain ⟨fs, hf⟩ := hd dx z
    obtain ⟨mA, ⟨o, _, _, ho, _⟩, _⟩ := (show ObjOk X.prog X.w H s.heap dx (.xd fs) from I.hok dx _ hf)
    exact ⟨o, ho⟩
  exact PySem.W.kia_one (PySem.W.kitx_exc (isIn_some T.hd) T.ga T.gg T.exC T.ha T.hn T.ht T.hm) I.kIn J e (fun z => nomatch z) fun tk => ⟨.bl b, H, I.tok tk, rfl, q⟩
/-- e.f, e a kept exception -/
def tXfT (K : PySem.W.Frag) (f : Str) (te : TE) : TE := fun σ H Q => te σ H fun x H1 => ∃ (a C dd : Addr) (fs : List (Str × V)) (v : V), x = .ref a ∧ H1 a = some (exv a (.ref C) (some dd)) ∧ H1 dd = some (.xd fs) ∧ XcC K C ∧ PySem.W.findIn K (.ref C) f = some none ∧ fs.lookup f = some v ∧ Q v H1
theorem pe_xfT {X : Cx} {e : Expr} {te : TE} {pos : Pos} {n : Str} (he : PE X e te) (hb : attributeBase e n X.env (eval e X.env) = eval e X.env := by rfl) : PE X (.Attribute e n pos) (tXfT X.K n te) := by
  refine ⟨fun pins s σ H Q I h => ?_⟩
  refine attr_of hb (thn (he.run pins s σ H _ I h) fun u s1 ⟨x, H1, I1, rx, a, C, dd, fs, v, ex, ea, ed, T, hno, l, q⟩ => ?_)
  subst ex
  obtain rfl : u = Value.ref a := rx
  have hx : ObjOk X.prog X.w H1 s1.heap dd (.xd fs) := I1.hok dd _ ed
  obtain ⟨mA, hns, hr⟩ := hx
  obtain ⟨od, ho, hl⟩ := lookIn_ns hns
  obtain ⟨u, hu, ru⟩ := RelO.some_of (v := v) (o := mA n) (by rw [← l]; exact hr n)
  obtain ⟨oe, od', J, _, hod⟩ := exv_inst I1 ea fun dx z => by cases z; exact ⟨od, ho⟩
  have e1 : od' = some od := (hod dd rfl).trans ho
  subst e1
  exact HandSPX.exc_get I1.kIn J T.ga T.gg T.exC (PySem.W.findObj_own T.hd hno rfl (by rw [hl, hu])) (handed_of ru) ⟨v, H1, I1.tok _, ru, q⟩
end L2

/-! repr of data. -/
namespace L2
open PySem PySem.Spec PyProof.Rows

theorem guards_in1 {A : Around} (h : A.guards = some []) : A.in1.guards = some [] := h
/-! data without a dict holds none -/
mutual
theorem Dp.noDict {K : PySem.W.Frag} {H : Hp} : ∀ {v : V} {d : PyData}, Dp K H v d → d.hasDict = false
  | _, .none, _ => by simp only [PyData.hasDict]
  | _, .bool _, _ => by simp only [PyData.hasDict]
  | _, .int _, _ => by simp only [PyData.hasDict]
  | _, .str _, _ => by simp only [PyData.hasDict]
  | _, .list ds, h => by
    cases h with
    | lst hs ha =>
      simp only [PyData.hasDict]
      exact DpAll.noDict ha
  | _, .tuple ds, h => by
    cases h with
    | tup hs ha =>
      simp only [PyData.hasDict]
      exact DpAll.noDict ha
  | _, .dict _, h => by cases h
theorem DpAll.noDict {K : PySem.W.Frag} {H : Hp} : ∀ {vs : List V} {ds : List PyData}, DpAll K H vs ds → PyData.hasDictAll ds = false
  | _, [], _ => by simp only [PyData.hasDictAll]
  | _, d :: ds, h => by
    cases h with
    | cons h1 h2 => simp only [PyData.hasDictAll, Dp.noDict h1, DpAll.noDict h2, Bool.or_self]
end
/-- repr(v), v data that is read -/
def rRepr (K : PySem.W.Frag) : List V → Hp → VK → Prop := fun xs H Q => ∃ v d, xs = [v] ∧ Dp K H v d ∧ d.showable = true ∧ d.shown.length ≤ sizeLine ∧ d.depth ≤ 60 ∧ Q (.str d.shown) H
theorem call_repr {X : Cx} (hg : X.A.guards = some []) (hu : X.A.units + 64 < cLine) : CallR X (.builtin "repr") (rRepr X.K) := by
  intro pins s σ H xs us Q I r h
  obtain ⟨v, d, rfl, hd, hs, hz, hdp, q⟩ := h
  cases r with
  | @cons _ u _ us r1 r2 =>
    cases r2
    show wpAny _ _ (call (.builtin "repr") [u]) _ _ _
    obtain ⟨as, rd⟩ := Dp.reads I d v u hd r1
    have nd := Dp.noDict hd
    cases rd with
    | none => exact P.repr_of_none ⟨.str _, H, I.tok _, ⟨_, rfl⟩, by simpa [PyData.shown] using q⟩
    | bool b => exact P.repr_of_bool ⟨.str _, H, I.tok _, ⟨_, rfl⟩, by simpa [PyData.shown] using q⟩
    | int i t => exact P.repr_of_int (by simpa [PyData.showable] using hs) ⟨.str _, H, I.tok _, ⟨_, rfl⟩, by simpa [PyData.shown] using q⟩
    | str x t => exact P.repr_of_str ⟨.str _, H, I.tok _, ⟨_, rfl⟩, by simpa [PyData.shown] using q⟩ (by simpa [PyData.shown] using hz)
    | list h1 h2 h3 h4 =>
      exact repr_of_reads' (.list h1 h2 h3 h4) hs (fun z => by rw [nd] at z; cases z) hg (by omega) (fun _ _ e => e) (fun h' u tk k => ⟨.str _, H, I.kept (t' := tk) k, ⟨_, rfl⟩, q⟩) hz
    | tuple h1 h2 h3 h4 =>
      exact repr_of_reads' (.tuple h1 h2 h3 h4) hs (fun z => by rw [nd] at z; cases z) hg (by omega) (fun _ _ e => e) (fun h' u tk k => ⟨.str _, H, I.kept (t' := tk) k, ⟨_, rfl⟩, q⟩) hz
    | dict => cases hd

/-! ### how long a repr may be -/
mutual
def cap : PyData → Nat
  | .none => 4
  | .bool _ => 5
  | .int _ => 1921
  | .str x => 10 * x.length + 2
  | .list xs | .tuple xs => capAll xs + 4
  | .dict _ => 0
def capAll : List PyData → Nat
  | [] => 0
  | x :: xs => cap x + 2 + capAll xs
end
mutual
/-- every sign of every text is one that a repr writes in ten signs at most; ints have a repr -/
def plainD : PyData → Prop
  | .none | .bool _ => True
  | .int i => i.natAbs.log2 < 1920
  | .str x => ∀ c ∈ x.cps.toList, c < 16 ^ 8
  | .list xs | .tuple xs => plainAll xs
  | .dict _ => False
def plainAll : List PyData → Prop
  | [] => True
  | x :: xs => plainD x ∧ plainAll xs
end
theorem textFrom_cap : ∀ (ts : List Str) (k : Nat) (acc : Str), (textFrom k acc ts).length ≤ acc.length + (ts.map fun t => t.length + 2).sum
  | [], k, acc => by simp [textFrom]
  | t :: r, k, acc => by
    have ih := textFrom_cap r (k + 1) (acc ++ (if k > 0 then ", " else "" : String) ++ t)
    have e : (acc ++ ((if k > 0 then ", " else "" : String) : Str) ++ t).length ≤ acc.length + 2 + t.length := by
      rw [strLen_append, strLen_append]
      have : ((if k > 0 then ", " else "" : String) : Str).length ≤ 2 := by split <;> decide
      omega
    simp only [textFrom, List.map_cons, List.sum_cons]
    omega
theorem piled_cap : ∀ ts : List Str, piled ts = (ts.map fun t => t.length + 2).sum
  | [] => rfl
  | t :: r => by simp [piled, piled_cap r]
theorem join_cap (ts : List Str) : (Str.join ", " ts).length ≤ (ts.map fun t => t.length + 2).sum := by
  by_cases h : ts = []
  · subst h
    show Str.empty.length ≤ _
    exact Nat.le_of_eq (show Str.empty.length = 0 by decide)
  · have := join_length_add ts h
    rw [piled_cap] at this
    omega
mutual
theorem shown_cap : ∀ d : PyData, plainD d → d.showable = true ∧ d.shown.length ≤ cap d
  | .none, _ => ⟨by simp [PyData.showable], by simp only [PyData.shown, cap]; decide⟩
  | .bool b, _ => ⟨by simp [PyData.showable], by simp only [PyData.shown, cap]; cases b <;> decide⟩
  | .int i, h => by
    have h' : i.natAbs.log2 < 1920 := by simpa [plainD] using h
    refine ⟨by simp [PyData.showable, h'], ?_⟩
    simp only [PyData.shown, cap]
    have := int_text_length_le (a := i) (k := 1920) (by decide) h'
    rw [PySem.ofString_length]
    omega
  | .str x, h => by
    have h' : ∀ c ∈ x.cps.toList, c < 16 ^ 8 := by simpa [plainD] using h
    exact ⟨by simp [PyData.showable], by simp only [PyData.shown, cap]; exact StrLaws.reprText_len x h'⟩
  | .list xs, h => by
    have h' : plainAll xs := by simpa [plainD] using h
    obtain ⟨a, b⟩ := shown_capAll xs h'
    refine ⟨by simpa [PyData.showable] using a, ?_⟩
    simp only [PyData.shown, cap, listText]
    rw [strLen_append]
    have := textFrom_cap (PyData.shownAll xs) 0 "["
    have e1 : (("[" : Str)).length = 1 := by decide
    have e2 : (("]" : Str)).length = 1 := by decide
    omega
  | .tuple xs, h => by
    have h' : plainAll xs := by simpa [plainD] using h
    obtain ⟨a, b⟩ := shown_capAll xs h'
    refine ⟨by simpa [PyData.showable] using a, ?_⟩
    simp only [PyData.shown, cap, tupleText]
    rw [strLen_append, strLen_append]
    have := join_cap (PyData.shownAll xs)
    have e1 : (("(" : Str)).length = 1 := by decide
    have e2 : (((if (PyData.shownAll xs).length == 1 then ",)" else ")" : String) : Str)).length ≤ 2 := by split <;> decide
    omega
  | .dict _, h => by simp [plainD] at h
theorem shown_capAll : ∀ ds : List PyData, plainAll ds → PyData.showableAll ds = true ∧ ((PyData.shownAll ds).map fun t => t.length + 2).sum ≤ capAll ds
  | [], _ => ⟨by simp [PyData.showableAll], by simp [PyData.shownAll, capAll]⟩
  | d :: ds, h => by
    have h' : plainD d ∧ plainAll ds := by simpa [plainAll] using h
    obtain ⟨a, b⟩ := shown_cap d h'.1
    obtain ⟨c, e⟩ := shown_capAll ds h'.2
    refine ⟨by simp [PyData.showableAll, a, c], ?_⟩
    simp only [PyData.shownAll, capAll, List.map_cons, List.sum_cons]
    omega
end
/-- repr(v) as a rule: its wants in one -/
def rReprP (K : PySem.W.Frag) : List V → Hp → VK → Prop := fun xs H Q => ∃ v d, xs = [v] ∧ Dp K H v d ∧ plainD d ∧ cap d ≤ 16777216 ∧ d.depth ≤ 60 ∧ Q (.str d.shown) H
theorem call_reprP {X : Cx} (hg : X.A.guards = some []) (hu : X.A.units + 64 < cLine) : CallR X (.builtin "repr") (rReprP X.K) := by
  intro pins s σ H xs us Q I r h
  obtain ⟨v, d, e, hd, hp, hz, hdp, q⟩ := h
  obtain ⟨a, b⟩ := shown_cap d hp
  exact call_repr hg hu pins s σ H xs us Q I r ⟨v, d, e, hd, a, by rw [sizeLine_eq]; omega, hdp, q⟩
end L2

/-! Own exceptions: keywords; what the four built-in bases are; the class as the top has made it. -/
namespace L2
open PySem PySem.Spec PyProof.Rows ExM
section
variable {X : Cx} {C : Addr} {x f f2 : Str} {e e2 : Expr} {te te2 : TE} {p pos kp kp2 : Pos} {k : Nat}
/-- C(f = e) -/
theorem pe_mkvK1 (T : Mks X.prog X.K X.mg C [f]) (hs : X.mg "super" = none) (hr : Room k X.A) (he : PE X e te) (hg : Gl X x) (hm : X.mg x = some (.ref C)) (hdb : (x == ("__debug__" : Str)) = false := by decide)
    (hall : (backToKw pos (keywordEach [⟨some f, e, kp⟩] X.env)).all (·.1.isSome) = true := by rfl) (hks : (backToKw pos (keywordEach [⟨some f, e, kp⟩] X.env)).filterMap (·.1) = [f] := by rfl)
    (hpl : ((backTo pos (starEach [] X.env)).any (·.1) || (backToKw pos (keywordEach [⟨some f, e, kp⟩] X.env)).any (·.1.isNone)) = false := by rfl) :
    PE X (.Call (.Name x p) [] [⟨some f, e, kp⟩] pos) (tMkv C [f] (tCons te tNil)) := by
  refine ⟨fun pins s σ H Q I h => ?_⟩
  refine wpAny_Call_Name_kw (ld_glob I hg hm ?_ hdb)
  refine PySem.W.callWith_KW0 (h₀ := X.base) I.ok.mod.kin T.kC hall ?_ hpl
  refine thn ((pk_cons (nm := some f) (kpos := kp) he pk_nil).run pos pins s σ H _ I h) fun us s1 ⟨vs, H1, I1, r1, hl, q1⟩ => ⟨I1.kIn, ?_⟩
  rw [hks]
  cases r1 with
  | nil => exact absurd hl (by simp)
  | @cons v u vs' us' r1 r2 =>
    cases r2 with
    | nil => exact mkv_end (a := ⟨[], [(f, u)]⟩) T hs hr (by simp) I1 (.cons r1 .nil) .kw1 q1
    | cons _ _ => exact absurd hl (by simp)
/-- C(f2 = e2, f = e), the fields being f, f2 -/
def tMkv2 (C : Addr) (f f2 : Str) (ta : TA) : TE := fun σ H Q => ta σ H fun vs H1 => ∃ a b, vs = [b, a] ∧ ∀ e d, H1 e = none → H1 d = none → d ≠ e → Q (.ref e) (upd (upd H1 d (.xd [(f2, b), (f, a)])) e (exv e (.ref C) (some d)))
theorem pe_mkvK2 (T : Mks X.prog X.K X.mg C [f, f2]) (hs : X.mg "super" = none) (hr : Room k X.A) (he2 : PE X e2 te2) (he : PE X e te) (hg : Gl X x) (hm : X.mg x = some (.ref C)) (hdb : (x == ("__debug__" : Str)) = false := by decide)
    (hall : (backToKw pos (keywordEach [⟨some f2, e2, kp2⟩, ⟨some f, e, kp⟩] X.env)).all (·.1.isSome) = true := by rfl) (hks : (backToKw pos (keywordEach [⟨some f2, e2, kp2⟩, ⟨some f, e, kp⟩] X.env)).filterMap (·.1) = [f2, f] := by rfl)
    (hpl : ((backTo pos (starEach [] X.env)).any (·.1) || (backToKw pos (keywordEach [⟨some f2, e2, kp2⟩, ⟨some f, e, kp⟩] X.env)).any (·.1.isNone)) = false := by rfl) :
    PE X (.Call (.Name x p) [] [⟨some f2, e2, kp2⟩, ⟨some f, e, kp⟩] pos) (tMkv2 C f f2 (tCons te2 (tCons te tNil))) := by
  refine ⟨fun pins s σ H Q I h => ?_⟩
  refine wpAny_Call_Name_kw (ld_glob I hg hm ?_ hdb)
  refine PySem.W.callWith_KW0 (h₀ := X.base) I.ok.mod.kin T.kC hall ?_ hpl
  refine thn ((pk_cons (nm := some f2) (kpos := kp2) he2 (pk_cons (nm := some f) (kpos := kp) he pk_nil)).run pos pins s σ H _ I h) fun us s1 ⟨vs, H1, I1, r1, a, b, ev, q1⟩ => ⟨I1.kIn, ?_⟩
  rw [hks]
  subst ev
  obtain ⟨u1, u2, rfl, r1, r2⟩ := vals2 r1
  exact mkv_end (a := ⟨[], [(f2, u1), (f, u2)]⟩) T hs hr (by simp) I1 (.cons r2 (.cons r1 .nil)) .kw2 q1
end
end L2
namespace ExM
open PySem PySem.W PySem.Calls PyProof.Rows
/-- what the library tells of a built-in base: its __new__ (perhaps its own base's), its __init__ -/
structure BaseF (bmB : List Value) (B newId initId : String) : Prop where
  new : ∃ Bn initN bmN, ExcBaseFacts Bn newId initN bmN ∧ bmB.contains (.type Bn) = true ∧ bmB.contains (.type "AttributeError") = false ∧ bmB.contains (.type "NameError") = false
  ini : InF B initId
  pass : ∀ self, refuseLoop self "__setattr__" bmB = pure ()
  obj : bmB.contains (.type "object") = true
theorem inF_of {B newId i : String} (F : ExcCallFacts B newId i) (K : KxsFacts B i) : InF B i := ⟨F.initEntry, F.initKind, F.initRow, F.noStar, F.init.plain, K⟩
theorem base_VE : BaseF [.type "ValueError", .type "Exception", .type "BaseException", .type "object"] "ValueError" "ValueError.__new__" "ValueError.__init__" :=
  ⟨⟨_, _, _, F.excBase_ValueError, by decide +kernel, by decide +kernel, by decide +kernel⟩, inF_of F.excBase_ValueError.toExcCallFacts kxs_ValueError, F.store_ValueError.passes, by decide +kernel⟩
theorem base_OE : BaseF [.type "OverflowError", .type "ArithmeticError", .type "Exception", .type "BaseException", .type "object"] "OverflowError" "OverflowError.__new__" "OverflowError.__init__" :=
  ⟨⟨_, _, _, F.excBase_OverflowError, by decide +kernel, by decide +kernel, by decide +kernel⟩, inF_of F.excBase_OverflowError.toExcCallFacts kxs_OverflowError, F.store_OverflowError.passes, by decide +kernel⟩
theorem base_RE : BaseF [.type "RuntimeError", .type "Exception", .type "BaseException", .type "object"] "RuntimeError" "RuntimeError.__new__" "RuntimeError.__init__" :=
  ⟨⟨_, _, _, F.excBase_RuntimeError, by decide +kernel, by decide +kernel, by decide +kernel⟩, inF_of F.excBase_RuntimeError.toExcCallFacts kxs_RuntimeError, F.store_RuntimeError.passes, by decide +kernel⟩
theorem kxs_KE : KxsFacts "KeyError" "KeyError.__init__" := ⟨by show builtinType _ = _; rw [builtinType_eq_fast]; kernel_rfl, by first | kernel_rfl | rfl⟩
theorem base_KE : BaseF [.type "KeyError", .type "LookupError", .type "Exception", .type "BaseException", .type "object"] "KeyError" "LookupError.__new__" "KeyError.__init__" :=
  ⟨⟨_, _, _, F.excBase_LookupError, by decide +kernel, by decide +kernel, by decide +kernel⟩,
    ⟨entryFor_alias (id' := "BaseException.__init__") (by rw [fastTable_eq_tree]; kernel_rfl) (by first | rfl | decide +kernel) (by decide +kernel) (by rw [fastTable_eq_tree]; kernel_rfl), by kernel_rfl, by kernel_rfl, by decide +kernel, by decide +kernel, kxs_KE⟩,
    fun self => by kernel_rfl, by decide +kernel⟩
end ExM

namespace L2
open PySem PySem.Spec PyProof.Rows ExM
open PySem (cStatics)
open PySem.W (Frag findIn typeIn keepIn subIn nsIn codeIn ksFn ks_superIn excTail)
/-- what k_is finds of a class and its __init__ -/
structure Cfs (K : Frag) (prog : Program) (C f cc cda : Addr) (qual : Str) (params : Arguments) (body : List Stmt) (scope : Scope) (bmB : List Value) (B newId initId : String) : Prop where
  cls : ∃ nm q N bs bm sn sub ab col dd k0 k1 k2 k3 k5, K.lookup C = some (excClassObj nm q C N bs bm true sn sub ab col dd k0 k1 k2 k3 k5 newId) ∧ excTail bmB bm = true
  sa : findIn K (.ref C) "__setattr__" = some (some (.builtin "object.__setattr__"))
  iC : findIn K (.ref C) "__init__" = some (some (.ref f))
  tF : typeIn K (.ref f) = some (.type "function")
  kC : keepIn K (.ref C) = true
  exC : subIn K (.ref C) (.type "BaseException") = some true
  bC : subIn K (.ref C) (.type B) = some true
  tyC : typeIn K (.ref C) = some (.type "type")
  op : nsIn K cStatics "thirdparty.any" = some none
  al : ks_superIn K C C "__init__" = some (some (.builtin initId))
  lf : ∃ (oc : Value) (od : Option Addr) (kV doc pm : Value) (an : Option Addr) (ct : Value) (osl : Array (Option Value)), K.lookup f = some ⟨oc, od, .func (ksFn "__init__" qual params body scope .none kV doc pm an (.ref cda) ct cc), osl⟩
  cf : codeIn K (.ref cda) qual = true
  lcd : ∃ ccl cdd vs ccs file tf, K.lookup cda = some ⟨ccl, cdd, .fields vs, ccs⟩ ∧ vs[2]? = some (.str file tf) ∧ ((prog.main.file : Str) == file) = true
  cell : ∃ cl cld csl, K.lookup cc = some ⟨cl, cld, .cell (some (.ref C)), csl⟩
  top : (prog.main.scope.names.lookup ("super" : Str)).isSome = false
theorem cfs_mk {K : Frag} {prog : Program} {C f cc cda : Addr} {qual : Str} {params : Arguments} {body : List Stmt} {scope : Scope} {bmB : List Value} {B newId initId : String}
    {nm q : Str} {N : Addr} {bs bm : List Value} {sn : List Str} {sub : List Value} {ab : Bool} {col : Option Bool} {dd : Option Addr} {k0 k1 k2 k3 k5 : Option Value} {oc kV doc pm ct : Value} {od an : Option Addr} {osl : Array (Option Value)}
    {ccl : Value} {cdd : Option Addr} {vs : Array Value} {ccs : Array (Option Value)} {file : Str} {tf : Tok} {cl : Value} {cld : Option Addr} {csl : Array (Option Value)}
    (lc : K.lookup C = some (excClassObj nm q C N bs bm true sn sub ab col dd k0 k1 k2 k3 k5 newId)) (iC : findIn K (.ref C) "__init__" = some (some (.ref f)))
    (lf : K.lookup f = some ⟨oc, od, .func (ksFn "__init__" qual params body scope .none kV doc pm an (.ref cda) ct cc), osl⟩) (lcd : K.lookup cda = some ⟨ccl, cdd, .fields vs, ccs⟩) (lcc : K.lookup cc = some ⟨cl, cld, .cell (some (.ref C)), csl⟩)
    (sa : findIn K (.ref C) "__setattr__" = some (some (.builtin "object.__setattr__"))) (tF : typeIn K (.ref f) = some (.type "function")) (kC : keepIn K (.ref C) = true) (exC : subIn K (.ref C) (.type "BaseException") = some true) (bC : subIn K (.ref C) (.type B) = some true)
    (tyC : typeIn K (.ref C) = some (.type "type")) (op : nsIn K cStatics "thirdparty.any" = some none) (cf : codeIn K (.ref cda) qual = true)
    (al : ks_superIn K C C "__init__" = some (some (.builtin initId))) (tl : excTail bmB bm = true) (v2 : vs[2]? = some (.str file tf)) (hf : ((prog.main.file : Str) == file) = true) (top : (prog.main.scope.names.lookup ("super" : Str)).isSome = false) :
    Cfs K prog C f cc cda qual params body scope bmB B newId initId :=
  ⟨⟨_, _, _, _, _, _, _, _, _, _, _, _, _, _, _, lc, tl⟩, sa, iC, tF, kC, exC, bC, tyC, op, al, ⟨_, _, _, _, _, _, _, _, lf⟩, cf, ⟨_, _, _, _, _, _, lcd, v2, hf⟩, ⟨_, _, _, lcc⟩, top⟩
section
variable {K : Frag} {prog : Program} {mg : Str → Option Value} {C f cc cda : Addr} {qual : Str} {params : Arguments} {body : List Stmt} {scope : Scope} {bmB : List Value} {B newId initId : String} {msg fld fld2 : Str} {j : Nat} {p0 p1 p2 p3 p4 p5 q1 q2 q3 q4 r1 r2 r3 r4 : Pos}
theorem Cfs.ini (F : Cfs K prog C f cc cda qual params body scope bmB B newId initId) (b : BaseF bmB B newId initId) (hs : scope.names.lookup ("super" : Str) = some .globalImplicit) (hc : scope.names.lookup ("__class__" : Str) = some .free) (hk : scope.kind = .function) :
    Ini K prog C f cc qual params body scope bmB B newId initId := by
  obtain ⟨oc, od, kV, doc, pm, an, ct, osl, lf⟩ := F.lf
  exact ⟨F.cls, b.new, b.ini, b.pass, b.obj, F.sa, F.iC, F.tF, F.kC, F.exC, F.bC, F.tyC, F.op, F.al, ⟨oc, od, kV, doc, pm, an, cda, ct, osl, lf, F.cf, F.lcd⟩, F.cell, F.top, hs, hc, hk⟩
theorem mks_one (F : Cfs K prog C f cc cda qual params [supSt msg j p0 p1 p2 p3 p4 p5, putSt fld q1 q2 q3 q4] scope bmB B newId initId) (b : BaseF bmB B newId initId) (hs : scope.names.lookup ("super" : Str) = some .globalImplicit) (hc : scope.names.lookup ("__class__" : Str) = some .free) (hk : scope.kind = .function)
    (S : Sc scope params [fld]) (V : Ev qual scope f cc msg j p0 p1 p2 p3 p4) (hno : findIn K (.ref C) fld = some none)
    (hb : ∀ (a : Args) (v : Value), ArgOk [fld] a [v] → ∀ (x : Addr) (kV doc pm : Value) (an : Option Addr) (cdv ct : Value), bindArgs (ksFn "__init__" qual params [supSt msg j p0 p1 p2 p3 p4 p5, putSt fld q1 q2 q3 q4] scope .none kV doc pm an cdv ct cc) ⟨.ref x :: a.pos, a.kw⟩ = pure [(("self" : Str), .ref x), (fld, v)]) :
    Mks prog K mg C [fld] where
  kC := F.kC
  exC := F.exC
  tyC := F.tyC
  call := fun w A s a us R ha X G hd hq => by
    obtain ⟨v, rfl⟩ : ∃ v, us = [v] := by
      have z := ha.len
      match us, z with
      | [v], _ => exact ⟨v, rfl⟩
    refine made_one (F.ini b hs hc hk) S V hno ha X G hd (fun s' x kV doc pm an cdv ct => .of_eq (hb a v ha x kV doc pm an cdv ct)) fun h' tk e d M => hq h' tk e (some d) _ M (by simp) fun y => ?_
    by_cases h : y = fld
    · subst h
      simp
    · have e : (y == fld) = false := by simpa using h
      simp [h, List.lookup, e]
theorem mks_none (F : Cfs K prog C f cc cda qual params [supSt msg j p0 p1 p2 p3 p4 p5] scope bmB B newId initId) (b : BaseF bmB B newId initId) (hs : scope.names.lookup ("super" : Str) = some .globalImplicit) (hc : scope.names.lookup ("__class__" : Str) = some .free) (hk : scope.kind = .function)
    (S : Sc scope params []) (V : Ev qual scope f cc msg j p0 p1 p2 p3 p4)
    (hb : ∀ (x : Addr) (kV doc pm : Value) (an : Option Addr) (cdv ct : Value), bindArgs (ksFn "__init__" qual params [supSt msg j p0 p1 p2 p3 p4 p5] scope .none kV doc pm an cdv ct cc) ⟨[.ref x], []⟩ = pure [(("self" : Str), .ref x)]) :
    Mks prog K mg C [] where
  kC := F.kC
  exC := F.exC
  tyC := F.tyC
  call := fun w A s a us R ha X G hd hq => by
    have ea : a = ⟨[], []⟩ ∧ us = [] := by
      cases ha with
      | pos h =>
        have z := List.length_eq_zero_iff.mp h
        subst z
        exact ⟨rfl, rfl⟩
    obtain ⟨rfl, rfl⟩ := ea
    exact made_none (F.ini b hs hc hk) S V ha X G hd (fun s' x kV doc pm an cdv ct => .of_eq (hb x kV doc pm an cdv ct)) fun h' tk e M => hq h' tk e none _ M (by simp) fun y => by simp
theorem mks_two (F : Cfs K prog C f cc cda qual params [supSt msg j p0 p1 p2 p3 p4 p5, putSt fld q1 q2 q3 q4, putSt fld2 r1 r2 r3 r4] scope bmB B newId initId) (b : BaseF bmB B newId initId) (hs : scope.names.lookup ("super" : Str) = some .globalImplicit) (hc : scope.names.lookup ("__class__" : Str) = some .free) (hk : scope.kind = .function)
    (S : Sc scope params [fld, fld2]) (V : Ev qual scope f cc msg j p0 p1 p2 p3 p4) (hno : findIn K (.ref C) fld = some none) (hno2 : findIn K (.ref C) fld2 = some none) (hff : fld ≠ fld2)
    (hb : ∀ (a : Args) (v v2 : Value), ArgOk [fld, fld2] a [v, v2] → ∀ (x : Addr) (kV doc pm : Value) (an : Option Addr) (cdv ct : Value), bindArgs (ksFn "__init__" qual params [supSt msg j p0 p1 p2 p3 p4 p5, putSt fld q1 q2 q3 q4, putSt fld2 r1 r2 r3 r4] scope .none kV doc pm an cdv ct cc) ⟨.ref x :: a.pos, a.kw⟩ = pure [(("self" : Str), .ref x), (fld, v), (fld2, v2)]) :
    Mks prog K mg C [fld, fld2] where
  kC := F.kC
  exC := F.exC
  tyC := F.tyC
  call := fun w A s a us R ha X G hd hq => by
    obtain ⟨v, v2, rfl⟩ : ∃ v v2, us = [v, v2] := by
      have z := ha.len
      match us, z with
      | [v, v2], _ => exact ⟨v, v2, rfl⟩
    refine made_two (F.ini b hs hc hk) S V hno hno2 hff ha X G hd (fun s' x kV doc pm an cdv ct => .of_eq (hb a v v2 ha x kV doc pm an cdv ct)) fun h' tk e d M => hq h' tk e (some d) _ M (by simp) fun y => ?_
    by_cases h2 : y = fld2
    · subst h2
      simp
    · have e2 : (y == fld2) = false := by simpa using h2
      by_cases h : y = fld
      · subst h
        simp [List.lookup, e2, h2]
      · have e : (y == fld) = false := by simpa using h
        simp [h, h2, List.lookup, e, e2]
end
end L2

namespace L2
open PySem PySem.Spec PyProof.Rows ExM
/-- what the clause 'except c as n' wishes: behind the suite the exception is an object that is kept -/
def wAs1T (K : PySem.W.Frag) (c : Value) (i : Nat) (ts : Addr → Value → Option Addr → TS) (Wout : WX) (D : Ends) : WX := fun cls d σ H =>
  ∃ b, PySem.W.exmOne K cls c = some b ∧ (b = true → ∀ a, H a = none → ts a cls d { nx := fun σ' H' => D.nx (σ'.set i none) (upd H' a (exv a cls d)), rt := fun _ _ => False } (σ.set i (some (.ref a))) H) ∧
    (b = false → Wout cls d σ H)
section
variable {X : Cx} {x n : Str} {i : Nat} {body suite : List Stmt} {b₀ : Stmt} {np pos pos' : Pos} {c : Value} {tb : WX → TS} {ts : Addr → Value → Option Addr → TS} {Wout : WX}
theorem ps_try_as1T (hs : X.stack = X.env :: X.outer) (hf : X.env.frame = some X.env.locals) (hN : X.N.Nodup) (hi : X.N[i]? = some n) (hln : X.env.kindOf n = some .local) (hc : Names X x c) (hex : X.ex = []) (tk : Takes X Wout)
    (hb : ∀ (W : WX) (pn : List (Addr × Obj)) (xe : Value → Shared → Prop), Takes (X.tr pn xe) W → PassesOwn (model X.prog X.w) X.A X.env xe → PSs (X.tr pn xe) body (tb W))
    (hsu : ∀ (a : Addr) (oe : Obj) (cls : Value) (d : Option Addr) (pn : List (Addr × Obj)), Zc cls d oe → (∃ vs, oe.data = .fields vs) → PSs (X.suite a ((a, oe) :: pn)) (b₀ :: suite) (ts a cls d)) :
    PS X (.Try body [.ExceptHandler (some (.Name x np)) (some n) (b₀ :: suite) pos'] [] [] pos) (fun D σ H => tb (wAs1T X.K c i ts Wout D) D σ H) := by
  refine ⟨fun pins s σ H D I h => ?_⟩
  have ok := I.ok
  have hfr : X.A.frames = some (X.env :: X.outer) := by rw [ok.frames, hs]
  refine wpAny_Try_except (wpAny_mono ((hb (wAs1T X.K c i ts Wout D) (X.pn ++ pins) (fun e s₁ => wpAny (model X.prog X.w) X.A (noteFrame e X.env) (fun _ s₂ => wpAny (model X.prog X.w) X.A (setFlight e none) (fun _ s₃ =>
    wpAny (model X.prog X.w) X.A (handleBy e X.env [.ExceptHandler (some (.Name x np)) (some n) (b₀ :: suite) pos']) (SP X pins D) X.xe s₃) X.xe s₂) X.xe s₁) (fun u s' xx => ?_) PassesOwn.looking).run [] s σ H D (I.toTry _) h) (fun f s1 hsp => ?_) (fun e s1 he => he))
  · obtain ⟨a, B, sI, pins', σ', H', cls, d, rfl, J', nb, up, sky, na, os, ag, b, hb1, hyes, hno⟩ := xx
    have J : Inv X pins σ' H' sI := J'.ofTry ok
    have sky' : Sky B (X.env :: X.outer) a (Zc cls d) X.env.locals s'.heap := by rw [← hs]; exact sky
    show wpAny (model X.prog X.w) X.A (noteFrame (.ref a) X.env) _ _ _
    refine Sky.land Zc.steady hfr hf sky' fun h3 fl3 up3 => ?_
    have J3 : Inv X pins σ' H' { s' with heap := h3 } := J.landed nb fl3.1 (up.trans up3) os ag
    obtain ⟨oe3, vs3, he3, hz3, hd3⟩ := fl3.there
    have nfr : a ∉ frs (X.env :: X.outer) := fun hm => by
      obtain ⟨_, o', e', hnf⟩ := fl3.2.2.1.mem hm
      rw [he3] at e'
      cases e'
      exact hnf _ hd3
    have nL : a ≠ X.env.locals := fun z => nfr (List.mem_filterMap.mpr ⟨X.env, List.mem_cons_self, by rw [hf, z]⟩)
    have nF : a ∉ X.fs := fun hm => by
      obtain ⟨e, he, q⟩ := List.mem_filterMap.mp hm
      exact nfr (List.mem_filterMap.mpr ⟨e, List.mem_cons_of_mem _ he, q⟩)
    have aB : B.get? a = none := fl3.2.1
    have aI : sI.heap.get? a = none := by
      cases q : sI.heap.get? a with
      | none => rfl
      | some o =>
        have z := nb a o q (by rw [hs]; exact nfr)
        rw [aB] at z
        cases z
    have a0 : X.s_0.heap.get? a = none := by
      cases q : X.s_0.heap.get? a with
      | none => rfl
      | some o =>
        obtain ⟨o', z⟩ := J.base.there a o q (by rw [hex]; exact fun z => nomatch z)
        rw [aI] at z
        cases z
    have apn : ∀ p ∈ X.pn ++ pins, p.1 ≠ a := fun p hp z => by
      obtain ⟨e, _⟩ := J.pin p hp
      rw [z, aI] at e
      cases e
    refine wpAny_handleBy_cons (codeAny_handlers_test ?_) (by intro q; cases q)
    have S3 := J3.suite he3 hd3 na nL nF
    have LT : PySem.W.Looks (model X.prog X.w) h3 (typeOf (.ref a)) cls := fun A Q E s k q => wpAny_typeOf_ref (k _ _ he3) (by rw [hz3.1]; exact q)
    have LM := PySem.W.exm_one (M := model X.prog X.w) (J3.kIn) LT hb1
    have test : ∀ {Q : Value → Shared → Prop} {E : Value → Shared → Prop}, Q c { s' with heap := h3 } → wpAny (model X.prog X.w) (X.A.mark (some (.ref a))) (eval (.Name x np) X.env) Q E { s' with heap := h3 } := fun {Q E} q => by
      obtain ⟨hg, hdbg, hm | ⟨hm, hv, hnn⟩⟩ := hc
      · exact ld_glob (X := X.suite a ((a, oe3) :: (X.pn ++ pins))) S3 hg hm q hdbg
      · exact ld_blt (X := X.suite a ((a, oe3) :: (X.pn ++ pins))) S3 hg hm hv q hnn hdbg
    refine test (LM.here ?_)
    cases b with
    | true =>
      refine codeAny_handlers_suite_as ?_
      refine HandSPX.lands_againZ fl3 fun h4 fl4 up4 => ?_
      have J4 : Inv X pins σ' H' { s' with heap := h4 } := J.landed nb fl4.1 ((up.trans up3).trans up4) os ag
      obtain ⟨oe4, vs4, he4, hz4, hd4⟩ := fl4.there
      have S4 := J4.suite he4 hd4 na nL nF
      refine store_ok (X := X.suite a ((a, oe4) :: (X.pn ++ pins))) (v := .ref a) S4 hN hi (.inl hln) rfl (fun s5 S5 => ?_) (.inr hln)
      refine wpAny_mono ((hsu a oe4 cls d (X.pn ++ pins) hz4 ⟨_, hd4⟩).run [] s5 _ H' _ S5 (hyes rfl a na)) (fun f s6 hsp => ?_) (fun _ _ z => False.elim z)
      have back : ∀ {σ6 : St} {H6 : Hp}, Inv (X.suite a ((a, oe4) :: (X.pn ++ pins))) [] σ6 H6 s6 → Inv X ((a, oe4) :: pins) σ6 H6 s6 := fun {σ6 H6} S6 =>
        ⟨ok, S6.os, S6.bare, S6.base, S6.loc, S6.cell, S6.free, S6.freeC, fun p hp => S6.pin p (by
          rcases List.mem_append.mp hp with z | z
          · exact List.mem_append_left _ (List.mem_cons_of_mem _ (List.mem_append_left _ z))
          · rcases List.mem_cons.mp z with z | z
            · rw [z]
              exact List.mem_append_left _ List.mem_cons_self
            · exact List.mem_append_left _ (List.mem_cons_of_mem _ (List.mem_append_right _ z))), S6.hok, S6.len⟩
      cases f with
      | next =>
        obtain ⟨σ6, H6, S6, q6⟩ := hsp
        refine gone_ok (back S6) hN hi hln fun s7 J7 => ?_
        have e7 := (J7.pin (a, oe4) (List.mem_append_right _ List.mem_cons_self)).1
        exact ⟨_, _, J7.track a0 apn (fun v z => by rw [hd4] at z; cases z) (exv_ok e7 hz4 hd4), q6⟩
      | brk =>
        obtain ⟨σ6, H6, S6, q6⟩ := hsp
        exact False.elim q6
      | cont =>
        obtain ⟨σ6, H6, S6, q6⟩ := hsp
        exact False.elim q6
      | ret u =>
        obtain ⟨v6, σ6, H6, S6, r6, q6⟩ := hsp
        exact False.elim q6
    | false =>
      show wpAny _ X.A (handleBy (.ref a) X.env []) _ _ _
      refine wpAny_handleBy_nil ?_
      obtain ⟨k1, k2, k3, oe, vs, T, oT, ts', he, hz, hd, h1, hr⟩ := id fl3
      unfold PySem.passOn
      refine wpAny_bind (wpAny_field he hd h1 ?_)
      rw [if_neg (show ¬ ((Value.ref T == Value.none) = true) from by simp)]
      have fin : wpAny (model X.prog X.w) X.A (setFlight (.ref a) X.env.frame) (fun _ s4 => wpAny (model X.prog X.w) X.A (throw (.ref a) : Sem Flow) (SP X pins D) X.xe s4) X.xe { s' with heap := h3 } := by
        rw [hf]
        refine HandSPX.setFlight_upZ fl3 fun h4 hh4 up4 => wpAny_throw (tk _ _ ?_)
        exact ⟨a, B, sI, pins, σ', H', cls, d, rfl, J, nb, (up.trans up3).trans up4, .inr (.inr (by rw [hs]; exact hh4)), na, os, ag, hno rfl⟩
      first
        | exact wpAny_bind (wpAny_pure (wpAny_bind fin))
        | exact wpAny_bind fin
  · cases f with
    | next =>
      obtain ⟨σ', H', J', q⟩ := hsp
      exact wpAny_execs_nil ⟨σ', H', J'.ofTry ok, q⟩
    | brk =>
      obtain ⟨σ', H', J', q⟩ := hsp
      exact ⟨σ', H', J'.ofTry ok, q⟩
    | cont =>
      obtain ⟨σ', H', J', q⟩ := hsp
      exact ⟨σ', H', J'.ofTry ok, q⟩
    | ret u =>
      obtain ⟨v, σ', H', J', r, q⟩ := hsp
      exact ⟨v, σ', H', J'.ofTry ok, r, q⟩
end
end L2

/-! repr of data that may be a small dict, and of lists of such. -/
namespace L2
open PySem PySem.Spec PyProof.Rows
/-- data without a dict, or a dict of one int under a text -/
inductive Di (K : PySem.W.Frag) (H : Hp) : V → PyData → Prop
  | dp {v : V} {d : PyData} : Dp K H v d → Di K H v d
  | dic {a : Addr} {k : Str} {i : Int} : H a = some (.dK [(Sum.inr k, .int i)]) → Di K H (.ref a) (.dict [(.str k, .int i)])
inductive DiAll (K : PySem.W.Frag) (H : Hp) : List V → List PyData → Prop
  | nil : DiAll K H [] []
  | cons {v : V} {vs : List V} {d : PyData} {ds : List PyData} : Di K H v d → DiAll K H vs ds → DiAll K H (v :: vs) (d :: ds)
inductive ReadsI (h : Heap) : List Value → List PyData → Prop
  | nil : ReadsI h [] []
  | cons {v : Value} {vs : List Value} {d : PyData} {ds : List PyData} {as : List Addr} : Reads h v d as → (d.hasDict = true → sysModules ∉ as) → ReadsI h vs ds → ReadsI h (v :: vs) (d :: ds)
theorem ReadsI.all {h : Heap} : ∀ {vs : List Value} {ds : List PyData}, ReadsI h vs ds → ∃ as, ReadsAll h vs ds as
  | _, _, .nil => ⟨_, .nil⟩
  | _, _, .cons r _ t => let ⟨_, q⟩ := t.all; ⟨_, .cons r q⟩
theorem ReadsI.repr {prog : Program} {w : World} {h₀ : Heap} : ∀ {vs : List Value} {ds : List PyData}, ReadsI h₀ vs ds → PyData.showableAll ds = true → (∀ t ∈ PyData.shownAll ds, t.length ≤ sizeLine) →
    ∃ bs, ReadAtMost h₀ (PyData.depthAll ds) bs ∧ ReprAllK prog w bs h₀ (PyData.depthAll ds) vs (PyData.shownAll ds)
  | _, _, .nil, _, _ => ⟨[], (fun _ h => nomatch h), by simp only [PyData.shownAll]; exact .nil⟩
  | _, _, .cons (d := d) (ds := ds) r m t, hs, hz => by
    have hs' : d.showable = true ∧ PyData.showableAll ds = true := by simpa [PyData.showableAll] using hs
    obtain ⟨b1, hb1, k1⟩ := ReprK.of_reads (prog := prog) (w := w) r hs'.1 m (hz _ (by simp only [PyData.shownAll]; exact List.mem_cons_self ..))
    obtain ⟨b2, hb2, k2⟩ := ReadsI.repr (prog := prog) (w := w) t hs'.2 (fun t ht => hz t (by simp only [PyData.shownAll]; exact List.mem_cons_of_mem _ ht))
    have l1 : d.depth ≤ PyData.depthAll (d :: ds) := by simp only [PyData.depthAll]; omega
    have l2 : PyData.depthAll ds ≤ PyData.depthAll (d :: ds) := by simp only [PyData.depthAll]; omega
    refine ⟨b1 ++ b2, (hb1.mono l1).append (hb2.mono l2), ?_⟩
    simp only [PyData.depthAll, PyData.shownAll]
    have k1' : ReprK prog w b1 h₀ d.depth _ _ := k1
    exact .cons ((k1'.more fun b hb => List.mem_append_left _ hb).level_le (Nat.le_max_left _ _)) (k2.more_le (fun b hb => List.mem_append_right _ hb) (Nat.le_max_right _ _))
section
variable {X : Cx} {pins : List (Addr × Obj)} {σ : St} {H : Hp} {s : Shared}
theorem Di.reads (I : Inv X pins σ H s) {d : PyData} {v : V} {u : Value} (h : Di X.K H v d) (r : RelV v u) : ∃ as, Reads s.heap u d as ∧ (d.hasDict = true → sysModules ∉ as) := by
  cases h with
  | dp h =>
    obtain ⟨as, q⟩ := Dp.reads I d v u h r
    exact ⟨as, q, fun z => by rw [Dp.noDict h] at z; cases z⟩
  | @dic a k i hs =>
    cases r
    obtain ⟨_, hne, vs, rel, o, es, ep, ho, ⟨hx, _, _⟩, hd, _, hp, _⟩ := dk_of I.hok hs
    cases rel with
    | @cons _ q _ qs r1 r2 =>
      cases r2
      obtain ⟨qk, qv⟩ := q
      obtain ⟨e1, rv⟩ := r1
      dsimp only at e1 rv
      subst e1
      cases es with
      | mk es =>
      cases hp with
      | @cons e _ es' _ hk hv' hp' =>
        cases hp'
        rcases keyIs_shape (show keyIs (Sum.inr k) e.key = true from hk) with ⟨_, _, e2, _⟩ | ⟨y, t, e2, e3⟩
        · cases e2
        · cases e2
          dsimp only at hv'
          obtain ⟨tt, rfl⟩ := rv
          refine ⟨_, Reads.dict ho hx hd (kvs := [(.str k, .int i)]) (as := [] ++ []) (bs := [] ++ []) ?_ ?_, fun _ h => ?_⟩
          · exact .cons (by dsimp only; rw [e3]; exact .str _ _) .nil
          · exact .cons (by dsimp only; rw [hv']; exact .int _ _) .nil
          · simp only [List.append_nil, List.mem_cons, List.not_mem_nil, or_false] at h
            rw [← h] at hne
            exact absurd hne (by decide)
theorem DiAll.reads (I : Inv X pins σ H s) : ∀ {ds : List PyData} {vs : List V} {us : List Value}, DiAll X.K H vs ds → Vals vs us → ReadsI s.heap us ds
  | [], _, _, h, r => by
    cases h
    cases r
    exact .nil
  | d :: ds, _, _, h, r => by
    cases h with
    | cons h1 h2 =>
      cases r with
      | cons r1 r2 =>
        obtain ⟨as, q, m⟩ := Di.reads I h1 r1
        exact .cons q m (DiAll.reads I h2 r2)
end
/-- repr(v) -/
def rRepr1 (K : PySem.W.Frag) : List V → Hp → VK → Prop := fun xs H Q => ∃ v d, xs = [v] ∧ Di K H v d ∧ d.showable = true ∧ d.shown.length ≤ sizeLine ∧ d.depth ≤ 60 ∧ Q (.str d.shown) H
/-- repr(xs), xs a list of such -/
def rReprL (K : PySem.W.Frag) : List V → Hp → VK → Prop := fun xs H Q => ∃ a vs ds, xs = [.ref a] ∧ SqL K H a vs ∧ DiAll K H vs ds ∧ (PyData.list ds).showable = true ∧ (PyData.list ds).shown.length ≤ sizeLine ∧ PyData.depthAll ds ≤ 60 ∧ Q (.str (PyData.list ds).shown) H
theorem call_repr1 {X : Cx} (hg : X.A.guards = some []) (hu : X.A.units + 64 < cLine) : CallR X (.builtin "repr") (rRepr1 X.K) := by
  intro pins s σ H xs us Q I r h
  obtain ⟨v, d, rfl, hd, hs, hz, hdp, q⟩ := h
  cases r with
  | @cons _ u _ us r1 r2 =>
    cases r2
    show wpAny _ _ (call (.builtin "repr") [u]) _ _ _
    obtain ⟨as, rd, hm⟩ := Di.reads I hd r1
    cases rd with
    | none => exact P.repr_of_none ⟨.str _, H, I.tok _, ⟨_, rfl⟩, by simpa [PyData.shown] using q⟩
    | bool b => exact P.repr_of_bool ⟨.str _, H, I.tok _, ⟨_, rfl⟩, by simpa [PyData.shown] using q⟩
    | int i t => exact P.repr_of_int (by simpa [PyData.showable] using hs) ⟨.str _, H, I.tok _, ⟨_, rfl⟩, by simpa [PyData.shown] using q⟩
    | str x t => exact P.repr_of_str ⟨.str _, H, I.tok _, ⟨_, rfl⟩, by simpa [PyData.shown] using q⟩ (by simpa [PyData.shown] using hz)
    | list h1 h2 h3 h4 =>
      exact repr_of_reads' (.list h1 h2 h3 h4) hs hm hg (by omega) (fun _ _ e => e) (fun h' u tk k => ⟨.str _, H, I.kept (t' := tk) k, ⟨_, rfl⟩, q⟩) hz
    | tuple h1 h2 h3 h4 =>
      exact repr_of_reads' (.tuple h1 h2 h3 h4) hs hm hg (by omega) (fun _ _ e => e) (fun h' u tk k => ⟨.str _, H, I.kept (t' := tk) k, ⟨_, rfl⟩, q⟩) hz
    | dict h1 h2 h3 h4 h5 =>
      exact repr_of_reads' (.dict h1 h2 h3 h4 h5) hs hm hg (by omega) (fun _ _ e => e) (fun h' u tk k => ⟨.str _, H, I.kept (t' := tk) k, ⟨_, rfl⟩, q⟩) hz
theorem call_reprL {X : Cx} (hg : X.A.guards = some []) (hu : X.A.units + 64 < cLine) : CallR X (.builtin "repr") (rReprL X.K) := by
  intro pins s σ H xs us Q I r h
  obtain ⟨a, vs, ds, rfl, hS, hd, hs, hz, hdp, q⟩ := h
  cases r with
  | @cons _ u _ us r1 r2 =>
    cases r2
    cases r1
    show wpAny _ _ (call (.builtin "repr") [.ref a]) _ _ _
    obtain ⟨its, rv, ⟨o, n, h1, h2, _, h3⟩, _⟩ := I.list hS
    have RI := DiAll.reads I hd rv
    obtain ⟨as, h4⟩ := RI.all
    have hz' : (listText (PyData.shownAll ds)).length ≤ sizeLine := by simpa only [PyData.shown] using hz
    obtain ⟨bs, hb, hk⟩ := RI.repr (prog := X.prog) (w := X.w) (by simpa [PyData.showable] using hs) (fun t ht => Nat.le_trans (listText_mem_le ht) hz')
    have h4' : ReadsAll s.heap its.toArray.toList ds as := by simpa using h4
    have hna : a ∉ bs := not_mem_of_deeper (.list h1 h2 h3 h4') (by simp only [PyData.depth]; omega) hb
    have fin : ∀ {h' u tk}, (∀ b o, s.heap.get? b = some o → h'.get? b = some o) → EP X pins σ Q (.str (PyData.list ds).shown u) { s with heap := h', toks := tk } := fun {h' u tk} k => ⟨.str _, H, I.kept (t' := tk) k, ⟨_, rfl⟩, q⟩
    refine call_repr_slot (by omega) ⟨o, h1, h2⟩ F.slot_list_repr.toG ?_
    cases its with
    | nil =>
      cases h4
      have e : (PyData.list []).shown = ("[]" : Str) := by simp only [PyData.shown, PyData.shownAll, listText_nil]
      refine call_list_repr_empty ⟨o, h1, h2⟩ h1 h3 ⟨_, _, rfl, ?_⟩
      rw [← e]
      exact fin fun _ _ e => e
    | cons x l =>
      refine call_list_reprK h1 h2 h3 hna (by simpa using hk.length_eq) (fun i y e => hk.item i y (by simpa using e)) hg (fun b _ => Clear.nil b) (by show X.A.units + 1 + _ < _; omega) (fun _ _ e => e) (fun h' u tk k => ⟨_, _, rfl, ?_⟩) hz'
      have := fin (h' := h') (u := u) (tk := tk) k
      simpa only [PyData.shown] using this
end L2

/-! General readings (any law): data that is small, made exceptions, texts that are compared. -/
namespace L2
open PySem PySem.Spec PyProof.Rows Evl
section
variable {K : PySem.W.Frag} {σ : L2.St} {H : Hp} {ta tb : TE}
/-- xs + ys, both lists tracked: a new list -/
theorem el_cat {l : Addr} {xs ys : List V} (ha : Ev ta σ H (.ref l)) (hl : H l = some (.lst xs)) (hb : EvL tb σ H ys) (hz : xs.length + ys.length ≤ 100000) : EvL (tOp rCat ta tb) σ H (xs ++ ys) := fun H1 e Q q =>
  ha H1 e _ fun H2 e2 => hb H2 (e.trans e2) _ fun b H3 hb0 e3 hb3 => ⟨l, b, xs, ys, rfl, rfl, e3 _ _ (e2 _ _ (e _ _ hl)), hb3, sz_of hz, fun p hp => q p _ (fresh_back (e2.trans e3) hp) ((e2.trans e3).trans (Ex.new hp)) upd_same⟩
end
end L2
namespace L2
open PySem PySem.Spec PyProof.Rows Evl
mutual
theorem Dp.ex {K : PySem.W.Frag} {H H' : Hp} (e : Ex H H') : ∀ {v : V} {d : PyData}, Dp K H v d → Dp K H' v d
  | _, .none, h => by cases h; exact .non
  | _, .bool _, h => by cases h; exact .bl _
  | _, .int _, h => by cases h; exact .int _
  | _, .str _, h => by cases h; exact .str _
  | _, .list ds, h => by
    cases h with
    | lst hs ha => exact .lst (ex_l e hs) (DpAll.ex e ha)
  | _, .tuple ds, h => by
    cases h with
    | tup hs ha => exact .tup (ex_t e hs) (DpAll.ex e ha)
  | _, .dict _, h => by cases h
theorem DpAll.ex {K : PySem.W.Frag} {H H' : Hp} (e : Ex H H') : ∀ {vs : List V} {ds : List PyData}, DpAll K H vs ds → DpAll K H' vs ds
  | _, [], h => by cases h; exact .nil
  | _, d :: ds, h => by
    cases h with
    | cons h1 h2 => exact .cons (Dp.ex e h1) (DpAll.ex e h2)
end
theorem Di.ex {K : PySem.W.Frag} {H H' : Hp} (e : Ex H H') {v : V} {d : PyData} : Di K H v d → Di K H' v d
  | .dp h => .dp (h.ex e)
  | .dic h => .dic (e _ _ h)
theorem DiAll.ex {K : PySem.W.Frag} {H H' : Hp} (e : Ex H H') : ∀ {vs : List V} {ds : List PyData}, DiAll K H vs ds → DiAll K H' vs ds
  | _, _, .nil => .nil
  | _, _, .cons h t => .cons (h.ex e) (t.ex e)
/-- small data: shown in four thousand signs at most -/
structure Sm (d : PyData) : Prop where
  a : d.showable = true
  b : d.shown.length ≤ 4000
  c : d.depth ≤ 3
inductive SmAll : List PyData → Prop
  | nil : SmAll []
  | cons {d : PyData} {ds : List PyData} : Sm d → SmAll ds → SmAll (d :: ds)
theorem SmAll.show : ∀ {ds : List PyData}, SmAll ds → PyData.showableAll ds = true ∧ ((PyData.shownAll ds).map fun t => t.length + 2).sum ≤ 4002 * ds.length ∧ PyData.depthAll ds ≤ 3
  | _, .nil => ⟨by simp [PyData.showableAll], by simp [PyData.shownAll], by simp [PyData.depthAll]⟩
  | _, .cons (d := d) (ds := ds) h t => by
    obtain ⟨a, b, c⟩ := t.show
    refine ⟨by simp [PyData.showableAll, h.a, a], ?_, ?_⟩
    · simp only [PyData.shownAll, List.map_cons, List.sum_cons, List.length_cons]
      have := h.b
      omega
    · simp only [PyData.depthAll]
      have := h.c
      omega
theorem SmAll.list {ds : List PyData} (h : SmAll ds) (hl : ds.length ≤ 100) : (PyData.list ds).showable = true ∧ (PyData.list ds).shown.length ≤ sizeLine ∧ PyData.depthAll ds ≤ 60 := by
  obtain ⟨a, b, c⟩ := h.show
  refine ⟨by simpa [PyData.showable] using a, ?_, by omega⟩
  simp only [PyData.shown, listText]
  rw [strLen_append, sizeLine_eq]
  have := textFrom_cap (PyData.shownAll ds) 0 "["
  have e1 : (("[" : Str)).length = 1 := by decide
  have e2 : (("]" : Str)).length = 1 := by decide
  omega
section
variable {K : PySem.W.Frag} {σ : L2.St} {H : Hp} {ta tb te : TE}
theorem ev_repr1 {v : V} {d : PyData} (h : Ev te σ H v) (hd : Di K H v d) (s : Sm d) : Ev (tCB (rRepr1 K) (tCons te tNil)) σ H (.str d.shown) :=
  ev_cb (ea_cons h ea_nil) fun H1 e Q q => ⟨v, d, rfl, hd.ex e, s.a, Nat.le_trans s.b (by rw [sizeLine_eq]; omega), Nat.le_trans s.c (by decide), q H1 (Ex.refl H1)⟩
theorem ev_reprL {vs : List V} {ds : List PyData} (h : EvL te σ H vs) (hd : DiAll K H vs ds) (s : SmAll ds) (hl : ds.length ≤ 100) : Ev (tCB (rReprL K) (tCons te tNil)) σ H (.str (PyData.list ds).shown) := fun H1 e Q q =>
  h H1 e _ fun p H2 hp e2 h2 => ⟨p, vs, ds, rfl, sq_of h2, hd.ex (e.trans e2), (s.list hl).1, (s.list hl).2.1, (s.list hl).2.2, q H2 e2⟩
theorem ev_reprV {a : Addr} {vs : List V} {ds : List PyData} (h : Ev te σ H (.ref a)) (ha : H a = some (.lst vs)) (hd : DiAll K H vs ds) (s : SmAll ds) (hl : ds.length ≤ 100) : Ev (tCB (rReprL K) (tCons te tNil)) σ H (.str (PyData.list ds).shown) := fun H1 e Q q =>
  h H1 e _ fun H2 e2 => ⟨a, vs, ds, rfl, sq_of (e2 _ _ (e _ _ ha)), hd.ex (e.trans e2), (s.list hl).1, (s.list hl).2.1, (s.list hl).2.2, q H2 e2⟩
/-- two equal texts are not unlike -/
theorem ev_neS {z : Str} (ha : Ev ta σ H (.str z)) (hb : Ev tb σ H (.str z)) : EvT (tTest (tOp rNe ta tb)) σ H false :=
  et_test (ev_is (ev_op ha hb (rv_ne rfl)) (by simp))
/-- xs * k: a new list -/
theorem el_rep {xs : List V} {k : Int} (ha : EvL ta σ H xs) (hb : ∀ H1, Ev tb σ H1 (.int k)) (h0 : 0 ≤ k ∧ k ≤ 100) (hz : xs.length ≤ 100) : EvL (tOp rRep ta tb) σ H (List.replicate k.toNat xs).flatten := fun H1 e Q q =>
  ha H1 e _ fun l H2 hl e2 h2 => hb H2 H2 (Ex.refl _) _ fun H3 e3 => ⟨l, k, xs, rfl, rfl, e3 _ _ h2, by omega, by omega, by
    have : k.toNat ≤ 100 := by omega
    have : xs.length * k.toNat ≤ 100 * 100 := Nat.mul_le_mul hz this
    rw [sizeLine_eq]; omega, fun p hp => q p _ (fresh_back (e2.trans e3) hp) ((e2.trans e3).trans (Ex.new hp)) upd_same⟩
end
end L2
namespace Toy
open PySem L2 Evl
def nmN : Nat → Str
  | 0 => "SpanError" | 1 => "BadBase" | 2 => "BadNumber" | 3 => "BadDigits" | 4 => "BadRange" | 5 => "BadRule" | 6 => "BadReader" | 7 => "BadManner" | 8 => "BadEntry" | 9 => "BadName"
  | 10 => "BadText" | 11 => "OtherBase" | 12 => "TooMany" | 13 => "Missing" | _ => "NothingLeft"
/-- an exception that is kept at e, of the class at C -/
def ExAt (H : Hp) (e C : Addr) (d : Option Addr) : Prop := H e = some (exv e (.ref C) d) ∧ ∀ dx, d = some dx → ∃ fs, H dx = some (.xd fs)
theorem ExAt.ex {H H' : Hp} {e C : Addr} {d : Option Addr} (x : ExAt H e C d) (k : Ex H H') : ExAt H' e C d := ⟨k _ _ x.1, fun dx z => let ⟨fs, h⟩ := x.2 dx z; ⟨fs, k _ _ h⟩⟩
section
variable {K : PySem.W.Frag}
/-- e.f as a reading -/
theorem ev_xf {σ : St} {H : Hp} {f : Str} {te : TE} {e C d : Addr} {fs : List (Str × V)} {v : V} (h : Ev te σ H (.ref e)) (x : ExAt H e C (some d)) (hd : H d = some (.xd fs)) (T : XcC K C) (no : PySem.W.findIn K (.ref C) f = some none) (l : fs.lookup f = some v) :
    Ev (tXfT K f te) σ H v := fun H1 k Q q => h H1 k _ fun H2 k2 => ⟨e, C, d, fs, v, rfl, (x.ex (k.trans k2)).1, k2 _ _ (k _ _ hd), T, no, l, q H2 k2⟩
end
theorem shaped_bls (bs : List Bool) : SeqAt.shaped (.list (bs.map PyData.bool)) = true := by
  have lay : ∀ bs : List Bool, PyData.canLayAll0 (bs.map PyData.bool) = true := fun bs => by
    induction bs with
    | nil => rfl
    | cons n ns ih => simp only [List.map_cons, PyData.canLayAll0, PyData.canLay0, ih, Bool.and_self]
  have dep : ∀ bs : List Bool, PyData.depthAll (bs.map PyData.bool) ≤ 1 := fun bs => by
    induction bs with
    | nil => simp [PyData.depthAll]
    | cons n ns ih => simp only [List.map_cons, PyData.depthAll, PyData.depth]; omega
  have h := dep bs
  refine Bool.and_eq_true_iff.mpr ⟨?_, decide_eq_true ?_⟩
  · simpa only [PyData.canLay0] using lay bs
  · simp only [PyData.depth]
    omega
theorem dpAll_bls {K : PySem.W.Frag} {H : Hp} : ∀ bs : List Bool, DpAll K H (bs.map V.bl) (bs.map PyData.bool)
  | [] => .nil
  | b :: bs => .cons (.bl b) (dpAll_bls bs)
/-- two lists of the same truths are not unlike -/
theorem et_neB {K : PySem.W.Frag} {σ : St} {H : Hp} {ta tb : TE} {bs : List Bool} (ha : EvL ta σ H (bs.map V.bl)) (hb : EvL tb σ H (bs.map V.bl)) : EvT (tTest (tOp (rNeD K) ta tb)) σ H false :=
  et_test (ev_opLL ha hb fun p q H1 hp hq e => fun H2 e2 Q k => ⟨_, _, .lst (sq_of (e2 _ _ hp)) (dpAll_bls bs), .lst (sq_of (e2 _ _ hq)) (dpAll_bls bs), shaped_bls bs, shaped_bls bs, by
    rw [SeqAt.eqv_refl _ (Bool.and_eq_true_iff.mp (shaped_bls bs)).1]
    exact k _ (Ex.refl _)⟩)
/-- an exception of the class at C with one field -/
def Made1 (H : Hp) (e C : Addr) (f : Str) (v : V) : Prop := ∃ d, ExAt H e C (some d) ∧ H d = some (.xd [(f, v)])
theorem Made1.ex {H H' : Hp} {e C : Addr} {f : Str} {v : V} (x : Made1 H e C f v) (k : Ex H H') : Made1 H' e C f v := let ⟨d, a, b⟩ := x; ⟨d, a.ex k, k _ _ b⟩
def EvM (te : TE) (σ : St) (H : Hp) (C : Addr) (f : Str) (v : V) : Prop := ∀ H1, Ex H H1 → ∀ Q : VK, (∀ e H2, H1 e = none → Ex H1 H2 → Made1 H2 e C f v → Q (.ref e) H2) → te σ H1 Q
theorem em_mk {σ : St} {H : Hp} {te : TE} {C : Addr} {f : Str} {v : V} (h : Ev te σ H v) : EvM (tMkv C [f] (tCons te tNil)) σ H C f v := fun H1 e Q q =>
  h H1 e _ fun H2 e2 => ⟨rfl, fun x d hx hd hne => by
    have hx' : (upd H2 d (.xd [(f, v)])) x = none := by
      rw [upd_ne (Ne.symm hne)]
      exact hx
    exact q x _ (fresh_back e2 hx) (e2.trans ((Ex.new hd).trans (Ex.new hx'))) ⟨d, ⟨upd_same, fun dx z => by cases z; exact ⟨_, (Ex.new hx') _ _ upd_same⟩⟩, (Ex.new hx') _ _ upd_same⟩⟩
theorem ev_xfM {K : PySem.W.Frag} {σ : St} {H : Hp} {te : TE} {C : Addr} {f : Str} {v : V} (h : EvM te σ H C f v) (T : XcC K C) (no : PySem.W.findIn K (.ref C) f = some none) : Ev (tXfT K f te) σ H v := fun H1 k Q q =>
  h H1 k _ fun e H2 he e2 ⟨d, x, hd⟩ => ⟨e, C, d, _, v, rfl, x.1, hd, T, no, by simp [List.lookup], q H2 e2⟩
/-- a value of the law: data that is small -/
def Val (K : PySem.W.Frag) (H : Hp) (v : V) : Prop := ∃ d, Di K H v d ∧ Sm d
theorem sm_int {i : Int} (h : i.natAbs < 2 ^ 200) : Sm (.int i) := by
  have hl : i.natAbs.log2 < 1920 := by
    by_cases hz : i.natAbs = 0
    · rw [hz]; decide
    · exact Nat.lt_of_lt_of_le ((Nat.log2_lt hz).mpr h) (by decide)
  obtain ⟨a, b⟩ := shown_cap (.int i) (by simpa [plainD] using hl)
  exact ⟨a, Nat.le_trans b (by simp [cap]), by simp [PyData.depth]⟩
theorem Val.ex {K : PySem.W.Frag} {H H' : Hp} {v : V} (x : Val K H v) (e : Ex H H') : Val K H' v := let ⟨d, a, b⟩ := x; ⟨d, a.ex e, b⟩
theorem et_andF {σ : St} {H : Hp} {t u : TT} {a : Bool} (h1 : EvT t σ H a) (h2 : a = true → EvT u σ H false) : EvT (tAnd t u) σ H false := et_is (et_and h1 h2) (by simp)
theorem mk_at {H : Hp} {x d C : Addr} {f : Str} {v : V} (hx : H x = none) (hd : H d = none) (hne : d ≠ x) : Ex H (upd (upd H d (.xd [(f, v)])) x (exv x (.ref C) (some d))) ∧ Made1 (upd (upd H d (.xd [(f, v)])) x (exv x (.ref C) (some d))) x C f v := by
  have hx' : (upd H d (.xd [(f, v)])) x = none := by
    rw [upd_ne (Ne.symm hne)]
    exact hx
  exact ⟨(Ex.new hd).trans (Ex.new hx'), d, ⟨upd_same, fun dx z => by cases z; exact ⟨_, (Ex.new hx') _ _ upd_same⟩⟩, (Ex.new hx') _ _ upd_same⟩
theorem any_end {A : Hp → Prop} {G : Hp → Prop} {Hf : Hp} (a : A Hf) (k : ∀ Hf, A Hf → G Hf) : G Hf := k Hf a
theorem mk2_at {H : Hp} {x d C : Addr} {f f2 : Str} {a b : V} (hx : H x = none) (hd : H d = none) (hne : d ≠ x) : Ex H (upd (upd H d (.xd [(f2, b), (f, a)])) x (exv x (.ref C) (some d))) ∧ ExAt (upd (upd H d (.xd [(f2, b), (f, a)])) x (exv x (.ref C) (some d))) x C (some d) ∧ (upd (upd H d (.xd [(f2, b), (f, a)])) x (exv x (.ref C) (some d))) d = some (.xd [(f2, b), (f, a)]) := by
  have hx' : (upd H d (.xd [(f2, b), (f, a)])) x = none := by
    rw [upd_ne (Ne.symm hne)]
    exact hx
  exact ⟨(Ex.new hd).trans (Ex.new hx'), ⟨upd_same, fun dx z => by cases z; exact ⟨_, (Ex.new hx') _ _ upd_same⟩⟩, (Ex.new hx') _ _ upd_same⟩
end Toy

namespace Dr
open PySem L2
def top (i : Nat) : Stmt := PySem.Challenge.pw_shortspans_k21_whole_stretches.main.body.getD i (.Pass ⟨0, 0, 0, 0⟩)
abbrev sMixed : Stmt := top 57
abbrev sBegin : Stmt := top 58
abbrev sDraw : Stmt := top 59
abbrev sOf : Stmt := top 60
/-- the built-ins that the draws name -/
structure TxB (mg : Str → Option Value) : Prop where
  int : mg "int" = none
  len : mg "len" = none
  list : mg "list" = none
section
variable {P : Program} {w : World} {K : PySem.W.Frag} {mg : Str → Option Value} {base : Heap}
def spMixed : Sp := fun vs H Q _ => ∃ c k : Int, vs = [.int c, .int k] ∧ 0 ≤ k ∧ k < 2 ^ 40 ∧ ∀ r : Int, 0 ≤ r → r < 2147483629 → Q (.int r) H
theorem scMixed : FnScope ["cell", "k"] ["cell", "k"] (defScope sMixed) := ⟨rfl, rfl, rfl, by decide +kernel, rfl, by decide +kernel, by decide +kernel⟩
theorem ok_mixed {f : Addr} {fd : FuncData} (F : Fun K "_law_mixed" "_law_mixed" sMixed f fd) (T : TxB mg) : FnOk P w K mg base CX0 1 f fd ["cell", "k"] spMixed := by
  refine F.ok scMixed (fun vs H Q E h => ?_) (fun cdv A outer s H vs Q E hr h => ?_)
  · obtain ⟨c, k, rfl, _⟩ := h
    rfl
  · obtain ⟨c, k, rfl, h0, h1, q⟩ := h
    refine ⟨_, pss_cons (ps_set (i := 0) scMixed.nd rfl (.inl rfl) (pe_op op_mod (pe_callTy call_int1 (by rfl) T.int (by decide +kernel) (pa_cons (pv 0) pa_nil)) pe_int))
      (pss_one (ps_ret (pe_op op_mod (pe_op op_mul (pe_op op_mod (pe_op op_add (pe_op op_add (pe_op op_mul (pv 0) (pe_op op_add pe_int (pe_op op_mul (pe_op op_mul pe_int (pv 1)) (pv 1)))) (pe_op op_mul pe_int (pv 1))) pe_int) pe_int) pe_int) pe_int))), ?_⟩
    have e0 : (0 : Int) < 2147483647 := by decide
    have e1 : (0 : Int) < 2147483629 := by decide
    have a0 := Int.emod_nonneg c (Int.ne_of_gt e0)
    have a1 := Int.emod_lt_of_pos c e0
    refine ⟨_, rfl, .inl ⟨_, rfl, _, _, rfl, rfl, e0, ?_⟩⟩
    refine ⟨_, rfl, _, rfl, _, _, rfl, rfl, .inl ⟨by decide, by decide⟩, _, rfl, _, _, rfl, rfl, .inl ⟨by omega, by omega⟩, _, _, rfl, rfl, _, _, rfl, rfl, .inl ⟨by omega, by omega⟩, _, rfl, _, _, rfl, rfl, .inl ⟨by decide, by decide⟩, _, _, rfl, rfl, _, _, rfl, rfl, _, _, rfl, rfl, e0, _, _, rfl, rfl, .inl ⟨?_, ?_⟩, _, _, rfl, rfl, e1, ?_⟩
    · exact Int.lt_of_lt_of_le (by decide) (Int.emod_nonneg _ (Int.ne_of_gt e0))
    · exact Int.lt_trans (Int.emod_lt_of_pos _ e0) (by decide)
    · exact q _ (Int.emod_nonneg _ (Int.ne_of_gt e1)) (Int.emod_lt_of_pos _ e1)
end
end Dr
namespace Dr
open PySem L2
/-- the drawer's state: at p, its cells at c, what is left of the great ones at l; a draws were made -/
structure StAt (H : Hp) (p c l : Addr) (n : Nat) (a : Int) : Prop where
  d : H p = some (.dK [(Sum.inr "cells", .ref c), (Sum.inr "lefts", .ref l), (Sum.inr "at", .int a)])
  c : ∃ cs : List Int, H c = some (.lst (cs.map V.int)) ∧ cs.length = n
  l : ∃ ls : List Int, H l = some (.lst (ls.map V.int)) ∧ ls.length = n
  n0 : 0 < n
  n1 : n ≤ 63
  a0 : 0 ≤ a
theorem StAt.ne {H : Hp} {p c l : Addr} {n : Nat} {a : Int} (S : StAt H p c l n a) : p ≠ c ∧ p ≠ l := by
  obtain ⟨cs, hc, _⟩ := S.c
  obtain ⟨ls, hl, _⟩ := S.l
  exact ⟨ne_of S.d hc (by intro z; cases z), ne_of S.d hl (by intro z; cases z)⟩
/-- all that was tracked stands, but for the drawer's own dict and list -/
def SameB (H H' : Hp) (p l : Addr) : Prop := ∀ b o, H b = some o → b ≠ p → b ≠ l → H' b = some o
section
variable {P : Program} {w : World} {K : PySem.W.Frag} {mg : Str → Option Value} {base : Heap}
def spBegin (K : PySem.W.Frag) : Sp := fun vs H Q _ => ∃ (s : Addr) (ns : List Int), vs = [.ref s] ∧ SqL K H s (ns.map V.int) ∧ ns.length ≤ 63 ∧
  ∀ (p c l : Addr) (n : Nat) (H' : Hp), Same H H' → H p = none → H l = none → StAt H' p c l n 0 → l ≠ c → Q (.ref p) H'
theorem scBegin : FnScope ["script", "cells", "cell"] ["script"] (defScope sBegin) := ⟨rfl, rfl, rfl, by decide +kernel, rfl, by decide +kernel, by decide +kernel⟩
abbrev kC : Key := Sum.inr ("cells" : Str)
abbrev kL : Key := Sum.inr ("lefts" : Str)
abbrev kA : Key := Sum.inr ("at" : Str)
theorem k12 : ¬ kC = kL := by decide +kernel
theorem k13 : ¬ kC = kA := by decide +kernel
theorem k23 : ¬ kL = kA := by decide +kernel
abbrev dk3 (a b c : V) : List (Key × V) := [(kC, a), (kL, b), (kA, c)]
theorem merge3 (a b c : V) : mergeK [] (dk3 a b c) = dk3 a b c := by
  have d12 : decide (kC = kL) = false := decide_eq_false k12
  have d13 : decide (kC = kA) = false := decide_eq_false k13
  have d23 : decide (kL = kA) = false := decide_eq_false k23
  simp only [mergeK, List.foldl_cons, List.foldl_nil, putK, List.any_nil, Bool.false_eq_true, if_false, List.nil_append, List.any_cons, d12, d13, d23, Bool.or_false, List.cons_append]
theorem put_at (a b c z : V) : putK (dk3 a b c) kA z = dk3 a b z := by
  have d13 : decide (kC = kA) = false := decide_eq_false k13
  have d23 : decide (kL = kA) = false := decide_eq_false k23
  simp only [putK, List.any_cons, List.any_nil, d13, d23, Bool.false_or, Bool.or_false, decide_true, if_true, List.map_cons, List.map_nil, if_neg k13, if_neg k23]
theorem val_cells (a b c : V) : valV (dk3 a b c) kC = some a := valV_pos rfl
theorem val_lefts (a b c : V) : valV (dk3 a b c) kL = some b := (valV_neg k12).trans (valV_pos rfl)
theorem val_at (a b c : V) : valV (dk3 a b c) kA = some c := (valV_neg k13).trans ((valV_neg k23).trans (valV_pos rfl))
theorem lay_ints : ∀ ns : List Int, PyData.canLayAll0 (ns.map PyData.int) = true
  | [] => rfl
  | n :: ns => by
    simp only [List.map_cons, PyData.canLayAll0, PyData.canLay0, lay_ints ns, Bool.and_self]
theorem depth_ints : ∀ ns : List Int, PyData.depthAll (ns.map PyData.int) ≤ 1
  | [] => by simp [PyData.depthAll]
  | n :: ns => by
    have := depth_ints ns
    simp only [List.map_cons, PyData.depthAll, PyData.depth]
    omega
theorem shaped_ints (ns : List Int) : SeqAt.shaped (.list (ns.map PyData.int)) = true := by
  have h := depth_ints ns
  refine Bool.and_eq_true_iff.mpr ⟨?_, decide_eq_true ?_⟩
  · simpa only [PyData.canLay0] using lay_ints ns
  · simp only [PyData.depth]
    omega
theorem eqv_nil (ns : List Int) : PyData.eqv (.list (ns.map .int)) (.list []) = decide (ns = []) := by
  cases ns with
  | nil => simp [PyData.eqv, PyData.eqvAll]
  | cons n ns => simp [PyData.eqv, PyData.eqvAll]
theorem dpAll_ints {K : PySem.W.Frag} {H : Hp} : ∀ ns : List Int, DpAll K H (ns.map V.int) (ns.map PyData.int)
  | [] => .nil
  | n :: ns => .cons (.int n) (dpAll_ints ns)
theorem ok_begin {f : Addr} {fd : FuncData} (F : Fun K "_law_begin" "_law_begin" sBegin f fd) (T : TxB mg) : FnOk P w K mg base CX0 1 f fd ["script"] (spBegin K) := by
  refine F.ok scBegin (fun vs H Q E h => ?_) (fun cdv A outer s H vs Q E hr h => ?_)
  · obtain ⟨s, ns, rfl, _⟩ := h
    rfl
  · obtain ⟨sc, ns, rfl, hS, hlen, q⟩ := h
    refine ⟨_, pss_cons (ps_set (i := 1) scBegin.nd rfl (.inl rfl) (pe_ifExp (pt_cmpR (op_neD hr.units) (pv 0) (pe_lst pa_nil) (nomark _)) (pe_callTy call_list_of (by rfl) T.list (by decide +kernel) (pa_cons (pv 0) pa_nil)) (pe_lst (pa_cons pe_int pa_nil))))
      (pss_one (ps_ret (pe_disp (pps_cons pe_str (pv 1) (pps_cons pe_str (pe_lc (own := [("cell", 2)]) (g := gName 2) (tt := tYes) rfl scBegin.nd (pi_list (pv 1)) (blkOk_by (N := ["script", "cells", "cell"]) (sc := defScope sBegin) (by decide +kernel))
        (fun _ _ _ _ _ => pg_name (i := 2) scBegin.nd rfl (Or.inl rfl)) (fun _ _ _ _ _ => pts_nil) (fun _ _ _ _ _ => pe_ifExp (pt_cmpR op_ge (pv 2) (pe_op op_pow pe_int pe_int) (nomark _)) (pv 2) pe_int)) (pps_cons pe_str pe_int pps_nil))) (by rfl) (by rfl) (fun z => by cases z) (by decide)))), ?_⟩
    refine ⟨_, rfl, (by show (0:Nat) ≤ sizeLine; rw [sizeLine_eq]; omega), fun p0 np0 => ?_⟩
    refine ⟨.list (ns.map .int), .list [], .lst ((Same.seq (fun b o e => by rw [upd_ne (ne_of_none e np0)]; exact e) hS)) (dpAll_ints ns), .lst (SqL.of upd_same) .nil, shaped_ints ns, by decide +kernel, ?_⟩
    rw [eqv_nil]
    have sp0 : Same H (upd H p0 (.lst [])) := fun b o e => by
      rw [upd_ne (ne_of_none e np0)]
      exact e
    have sel : ∃ b : Bool, (!decide (ns = [])) = b ∧ ∀ G : Addr → Hp → Prop, (∀ (c : Addr) (H1 : Hp) (xs : List Int), xs ≠ [] → xs.length ≤ 63 → Same H H1 → H1 c = some (.lst (xs.map V.int)) → G c H1) →
        (b = true → ∀ c, (upd H p0 (.lst [])) c = none → G c (upd (upd H p0 (.lst [])) c (.lst (ns.map V.int)))) ∧ (b = false → ∀ c, (upd H p0 (.lst [])) c = none → G c (upd (upd H p0 (.lst [])) c (.lst [V.int 0]))) := by
      refine ⟨_, rfl, fun G g => ⟨fun hb c nc => ?_, fun hb c nc => ?_⟩⟩
      · refine g c _ ns (fun z => by rw [decide_eq_true z] at hb; cases hb) hlen (fun b o e => ?_) upd_same
        rw [upd_ne (ne_of_none e (sp0.free nc))]
        exact sp0 b o e
      · refine g c _ [0] (by simp) (by decide) (fun b o e => ?_) upd_same
        rw [upd_ne (ne_of_none e (sp0.free nc))]
        exact sp0 b o e
    obtain ⟨b, hb, sel⟩ := sel
    refine ⟨b, by rw [hb], ?_⟩
    have fin : ∀ (c : Addr) (H1 : Hp) (xs : List Int), xs ≠ [] → xs.length ≤ 63 → Same H H1 → H1 c = some (.lst (xs.map V.int)) → (fun (x : V) (H1 : Hp) =>
      gName 1 x (L2.start ["script", "cells", "cell"] [V.ref sc]) H1
        ({ nx := tRet (tDisp [(tC (V.str "cells"), tVar 1), (tC (V.str "lefts"), tLc (iList K (tVar 1)) (gName 2) tYes
                        (tIf (tTest (tOp (rI0 fun i j => V.bl (decide (j ≤ i))) (tVar 2) (tOp (rI CPow fun i j => V.int (i ^ j.toNat)) (tC (V.int 10)) (tC (V.int 18))))) (tVar 2) (tC (V.int 0)))
                        (List.map (fun x => x.2) ([(("cell" : Str), 2)] : List (Str × Nat)))), (tC (V.str "at"), tC (V.int 0))]) { nx := fun x H' => Q V.non H', rt := Q }, rt := Q } : Ends).nx) (V.ref c) H1 := by
      intro c H1 xs hx hl s1 hc
      show ∀ p, H1 p = none → _
      intro p np
      have npc : c ≠ p := ne_of_none hc np
      have sp : Same H1 (upd H1 p (.dK [])) := fun b o e => by
        rw [upd_ne (ne_of_none e np)]
        exact e
      refine ⟨_, rfl, _, rfl, c, rfl, ⟨_, SqL.of (sp _ _ hc)⟩, fun D nD => lc_list (K := K) (a := c) (xs := xs.map V.int) (fun i H2 => ∃ ls : List Int, H2 D = some (.lst (ls.map V.int)) ∧ ls.length = i ∧ Same (upd H1 p (.dK [])) H2) ?_ ?_ ?_ ?_⟩
      · exact ⟨[], upd_same, rfl, fun b o e => by rw [upd_ne (ne_of_none e nD)]; exact e⟩
      · rintro i H2 _ ⟨ls, _, _, s2⟩
        exact SqL.of (s2 _ _ (sp _ _ hc))
      · rintro i x H2 hi ⟨ls, hD, hn, s2⟩
        rw [List.getElem?_map] at hi
        obtain ⟨z, hz, rfl⟩ := Option.map_eq_some_iff.mp hi
        have hlt : i < xs.length := (List.getElem?_eq_some_iff.mp hz).1
        have stp : ∀ y : Int, ∃ acc, H2 D = some (.lst acc) ∧ acc.length < sizeLine ∧ ∃ ls : List Int, (upd H2 D (.lst (acc ++ [V.int y]))) D = some (.lst (ls.map V.int)) ∧ ls.length = i + 1 ∧ Same (upd H1 p (.dK [])) (upd H2 D (.lst (acc ++ [V.int y]))) := fun y =>
          ⟨_, hD, by rw [List.length_map, sizeLine_eq]; omega, ls ++ [y], by rw [upd_same, List.map_append]; rfl, by rw [List.length_append, hn]; rfl, fun b o e => by rw [upd_ne (ne_of_none e nD)]; exact s2 b o e⟩
        refine ⟨rfl, ?_⟩
        rw [show (tYes : TT) = fun _ H Q => Q true H from rfl]
        dsimp only
        rw [if_pos rfl]
        refine ⟨_, rfl, _, _, rfl, rfl, ⟨by decide, by decide, by decide⟩, _, _, rfl, rfl, _, rfl, ?_⟩
        refine ite2 (fun _ => ?_) (fun _ => ?_)
        · exact ⟨_, rfl, stp z⟩
        · exact stp 0
      · rintro H2 ⟨ls, hD, hn, s2⟩
        rw [List.length_map] at hn
        have hp2 : H2 p = some (.dK []) := s2 _ _ upd_same
        have npD : D ≠ p := fun z => by
          rw [z, upd_same] at nD
          cases nD
        have ncD : D ≠ c := fun z => by
          rw [z, upd_ne npc, hc] at nD
          cases nD
        refine ⟨hp2, [(Sum.inr "cells", .ref c), (Sum.inr "lefts", .ref D), (Sum.inr "at", .int 0)], rfl, by show 3 ≤ 15; decide, ?_⟩
        have nDH : H D = none := by
          rw [upd_ne npD] at nD
          exact s1.free nD
        have hm := merge3 (V.ref c) (V.ref D) (V.int 0)
        refine q p c D xs.length _ (fun b o e => ?_) (s1.free np) nDH ⟨by rw [upd_same, hm], ⟨xs, by rw [upd_ne npc]; exact s2 _ _ (sp _ _ hc), rfl⟩, ⟨ls, by rw [upd_ne npD]; exact hD, hn⟩, List.length_pos_iff.mpr hx, hl, Int.le_refl 0⟩ ncD
        rw [upd_ne (ne_of_none e (s1.free np))]
        exact s2 _ _ (sp _ _ (s1 _ _ e))
    cases b with
    | true => exact iteT ⟨_, rfl, sc, _, rfl, .inl (Same.seq sp0 hS), fun c nc => (sel _ fin).1 rfl c nc⟩
    | false => exact iteF ⟨by show 1 ≤ sizeLine; rw [sizeLine_eq]; omega, fun c nc => (sel _ fin).2 rfl c nc⟩
end
end Dr
namespace Dr
open PySem L2
structure TxD (K : PySem.W.Frag) (mg : Str → Option Value) (fm : Addr) : Prop extends TxB mg where
  mixed : mg "_law_mixed" = some (.ref fm)
  kMixed : PySem.W.keepIn K (.ref fm) = true
section
variable {P : Program} {w : World} {K : PySem.W.Frag} {mg : Str → Option Value} {base : Heap}
def spDraw : Sp := fun vs H Q _ => ∃ (p c l : Addr) (n : Nat) (a m : Int), vs = [.ref p, .int m] ∧ StAt H p c l n a ∧ l ≠ c ∧ a < 2 ^ 39 ∧ 0 < m ∧ m < 1073741824 ∧
  ∀ (r : Int) (H' : Hp), 0 ≤ r → r < m → StAt H' p c l n (a + 1) → SameB H H' p l → (∀ b, H b = none → H' b = none) → Q (.int r) H'
theorem scDraw : FnScope ["state", "many", "at", "place", "left", "number"] ["state", "many"] (defScope sDraw) := ⟨rfl, rfl, rfl, by decide +kernel, rfl, by decide +kernel, by decide +kernel⟩
theorem ok_draw {f fm : Addr} {fd fdm : FuncData} (F : Fun K "_law_draw" "_law_draw" sDraw f fd) (FM : Fun K "_law_mixed" "_law_mixed" sMixed fm fdm) (bM : Binds K fdm ["cell", "k"] []) (T : TxD K mg fm) : FnOk P w K mg base CX0 2 f fd ["state", "many"] spDraw := by
  have GM : FnOk P w K mg base CX0 1 fm fdm ["cell", "k"] spMixed := ok_mixed FM T.toTxB
  refine F.ok scDraw (fun vs H Q E h => ?_) (fun cdv A outer s H vs Q E hr h => ?_)
  · obtain ⟨p, c, l, n, a, m, rfl, _⟩ := h
    rfl
  · obtain ⟨p, c, l, n, a, m, rfl, S, nlc, ha, m0, m1, q⟩ := h
    have hu := hu_of hr
    have hix : ∀ {X : Cx}, X.A.units + 1 < cLine → X.A.units + 1 < cLine := fun h => h
    refine ⟨_, pss_cons (ps_set (i := 2) scDraw.nd rfl (.inl rfl) (pe_dget hu (pv 0) pe_str (fun _ _ => rfl)))
      (pss_cons (ps_dput hu (pv 0) pe_str (pe_op op_add (pv 2) pe_int) rfl)
      (pss_cons (ps_set (i := 3) scDraw.nd rfl (.inl rfl) (pe_op op_mod (pe_callTy call_int1 (by rfl) T.int (by decide +kernel) (pa_cons (pv 2) pa_nil)) (pe_callB call_len_seq (by rfl) T.len (by decide +kernel) (pa_cons (pe_dget hu (pv 0) pe_str (fun _ _ => rfl)) pa_nil))))
      (pss_cons (ps_set (i := 4) scDraw.nd rfl (.inl rfl) (pe_ix ix_list (pe_dget hu (pv 0) pe_str (fun _ _ => rfl)) (pv 3) (fun _ _ => rfl)))
      (pss_cons (ps_if (pt_cmpR op_gt (pv 4) pe_int (nomark _))
        (pss_cons (ps_asg (pe_op op_fdiv (pv 4) (pv 1)) (pg_sub (pe_dget hu (pv 0) pe_str (fun _ _ => rfl)) (pv 3) set_list))
          (pss_one (ps_ret (pe_op op_mod (pe_callTy call_int1 (by rfl) T.int (by decide +kernel) (pa_cons (pv 4) pa_nil)) (pv 1))))) pss_nil)
      (pss_cons (ps_set (i := 5) scDraw.nd rfl (.inl rfl) (pe_call GM hr (by rfl) T.mixed T.kMixed bM .nil pass0 (pa_cons (pe_call GM hr (by rfl) T.mixed T.kMixed bM .nil pass0 (pa_cons (pe_ix ix_list (pe_dget hu (pv 0) pe_str (fun _ _ => rfl)) (pv 3) (fun _ _ => rfl)) (pa_cons (pv 2) pa_nil))) (pa_cons (pe_op op_add pe_int (pv 2)) pa_nil))))
      (pss_one (ps_ret (pe_op op_mod (pe_op op_fdiv (pe_callTy call_int1 (by rfl) T.int (by decide +kernel) (pa_cons (pe_op op_add (pe_op op_mul (pv 5) pe_int) (pe_call GM hr (by rfl) T.mixed T.kMixed bM .nil pass0 (pa_cons (pv 5) (pa_cons (pe_op op_add pe_int (pv 2)) pa_nil)))) pa_nil)) pe_int) (pv 1))))))))), ?_⟩
    obtain ⟨cs, hc, hcn⟩ := S.c
    obtain ⟨ls, hl, hln⟩ := S.l
    obtain ⟨npc, npl⟩ := S.ne
    have n0 := S.n0
    have a0 := S.a0
    refine ⟨_, rfl, p, _, rfl, DGet.k (k := kA) S.d, ?_⟩
    -- state['at'] = at + 1
    obtain ⟨H1, eH1⟩ : ∃ H1, H1 = upd H p (.dK (dk3 (.ref c) (.ref l) (.int (a + 1)))) := ⟨_, rfl⟩
    have dp : DPut H p (kV kA) (.int (a + 1)) H1 := by
      rw [eH1, ← put_at (.ref c) (.ref l) (.int a)]
      exact DPut.k (k := kA) S.d (by show 3 < sizeLine; rw [PySem.sizeLine_eq]; omega)
    refine ⟨_, rfl, _, _, rfl, rfl, _, rfl, p, H1, rfl, dp, ?_⟩
    have hp1 : H1 p = some (.dK (dk3 (.ref c) (.ref l) (.int (a + 1)))) := by rw [eH1, upd_same]
    have hc1 : H1 c = some (.lst (cs.map V.int)) := by rw [eH1, upd_ne npc.symm]; exact hc
    have hl1 : H1 l = some (.lst (ls.map V.int)) := by rw [eH1, upd_ne npl.symm]; exact hl
    have sb1 : SameB H H1 p l := fun b o e h1 h2 => by rw [eH1, upd_ne h1]; exact e
    have nn1 : ∀ b, H b = none → H1 b = none := fun b e => by
      rw [eH1, upd_ne (fun z => by rw [z, S.d] at e; cases e)]
      exact e
    -- spot
    have np : (0 : Int) < ((cs.map V.int).length : Int) := by rw [List.length_map, hcn]; omega
    refine ⟨_, rfl, .inl ⟨_, rfl, _, rfl, p, _, rfl, DGet.k (k := kC) hp1, c, _, rfl, .inl (SqL.of hc1), _, _, rfl, rfl, np, ?_⟩⟩
    have eN : ((cs.map V.int).length : Int) = (n : Int) := by rw [List.length_map, hcn]
    rw [eN]
    obtain ⟨k, hk, hkn⟩ : ∃ k : Nat, a % (n : Int) = (k : Int) ∧ k < n := by
      have h1 := Int.emod_nonneg a (show (n : Int) ≠ 0 by omega)
      have h2 := Int.emod_lt_of_pos a (show (0 : Int) < n by omega)
      exact ⟨(a % n).toNat, by omega, by omega⟩
    rw [show ((fun i j : Int => V.int (i % j)) a (n : Int)) = V.int (k : Int) from congrArg V.int hk]
    obtain ⟨x, hx⟩ : ∃ x, ls[k]? = some x := ⟨ls[k]'(by omega), by simp [show k < ls.length by omega]⟩
    obtain ⟨y, hy⟩ : ∃ y, cs[k]? = some y := ⟨cs[k]'(by omega), by simp [show k < cs.length by omega]⟩
    have hx' : (ls.map V.int)[k]? = some (V.int x) := by rw [List.getElem?_map, hx]; rfl
    have hy' : (cs.map V.int)[k]? = some (V.int y) := by rw [List.getElem?_map, hy]; rfl
    refine ⟨_, rfl, p, _, rfl, DGet.k (k := kL) hp1, _, rfl, l, _, _, _, rfl, rfl, SqL.of hl1, atI_nat hx', ?_⟩
    refine ⟨_, rfl, _, _, rfl, rfl, _, rfl, ?_⟩
    refine ite2 (fun _ => ?_) (fun _ => ?_)
    · -- a great one is used up
      refine ⟨_, rfl, _, rfl, _, _, rfl, rfl, ⟨m0, m1⟩, _, rfl, p, _, rfl, DGet.k (k := kL) hp1, _, rfl, l, _, _, k, rfl, rfl, hl1, ?_, ?_⟩
      · unfold ixN
        rw [if_pos (by omega), if_pos (by rw [List.length_map]; omega)]
        simp
      refine ⟨_, rfl, .inl ⟨_, rfl, _, rfl, _, _, rfl, rfl, m0, ?_⟩⟩
      refine q _ _ (Int.emod_nonneg _ (by omega)) (Int.emod_lt_of_pos _ m0) ⟨?_, ⟨cs, ?_, hcn⟩, ⟨ls.set k (x / m), ?_, by rw [List.length_set]; exact hln⟩, n0, S.n1, by omega⟩ (fun b o e h1 h2 => ?_) fun b e => ?_
      · rw [upd_ne npl]; exact hp1
      · rw [upd_ne nlc.symm]; exact hc1
      · rw [upd_same, List.map_set]
      · rw [upd_ne h2]; exact sb1 b o e h1 h2
      · rw [upd_ne (fun z => by rw [z, hl] at e; cases e)]; exact nn1 b e
    · -- number
      have r0 : ∀ {z : Int}, 0 ≤ z → z < 2147483629 → -(2 ^ 64) < z ∧ z < 2 ^ 64 := fun {z} h1 h2 => ⟨by omega, by omega⟩
      refine ⟨_, rfl, p, _, rfl, DGet.k (k := kC) hp1, _, rfl, c, _, _, _, rfl, rfl, SqL.of hc1, atI_nat hy', _, rfl, y, a, rfl, a0, by omega, fun z1 z10 z11 => ?_⟩
      refine ⟨_, rfl, _, _, rfl, rfl, z1, 40 + a, rfl, by omega, by omega, fun z2 z20 z21 => ?_⟩
      refine ⟨_, rfl, _, _, rfl, rfl, .inl (r0 z20 z21), _, rfl, _, rfl, _, _, rfl, rfl, z2, 7 + a, rfl, by omega, by omega, fun z3 z30 z31 => ?_⟩
      refine ⟨_, _, rfl, rfl, .inl ⟨_, rfl, _, _, rfl, rfl, ⟨by decide, by decide⟩, _, rfl, _, _, rfl, rfl, m0, ?_⟩⟩
      exact q _ _ (Int.emod_nonneg _ (by omega)) (Int.emod_lt_of_pos _ m0) ⟨hp1, ⟨cs, hc1, hcn⟩, ⟨ls, hl1, hln⟩, n0, S.n1, by omega⟩ sb1 nn1
end
end Dr
namespace Dr
open PySem L2
structure TxO (K : PySem.W.Frag) (mg : Str → Option Value) (fm fdr : Addr) : Prop extends TxD K mg fm where
  draw : mg "_law_draw" = some (.ref fdr)
  kDraw : PySem.W.keepIn K (.ref fdr) = true
section
variable {P : Program} {w : World} {K : PySem.W.Frag} {mg : Str → Option Value} {base : Heap}
def spOf : Sp := fun vs H Q _ => ∃ (p c l so : Addr) (n : Nat) (a : Int) (xs : List V), vs = [.ref p, .ref so] ∧ StAt H p c l n a ∧ l ≠ c ∧ a < 2 ^ 39 ∧ H so = some (.lst xs) ∧ so ≠ p ∧ so ≠ l ∧ 0 < xs.length ∧ xs.length < 1073741824 ∧
  ∀ (i : Nat) (v : V) (H' : Hp), xs[i]? = some v → StAt H' p c l n (a + 1) → SameB H H' p l → (∀ b, H b = none → H' b = none) → Q v H'
theorem scOf : FnScope ["state", "some"] ["state", "some"] (defScope sOf) := ⟨rfl, rfl, rfl, by decide +kernel, rfl, by decide +kernel, by decide +kernel⟩
theorem ok_of {f fm fdr : Addr} {fd fdm fdd : FuncData} (F : Fun K "_law_of" "_law_of" sOf f fd) (GD : FnOk P w K mg base CX0 2 fdr fdd ["state", "many"] spDraw) (bD : Binds K fdd ["state", "many"] []) (T : TxO K mg fm fdr) : FnOk P w K mg base CX0 3 f fd ["state", "some"] spOf := by
  refine F.ok scOf (fun vs H Q E h => ?_) (fun cdv A outer s H vs Q E hr h => ?_)
  · obtain ⟨p, c, l, so, n, a, xs, rfl, _⟩ := h
    rfl
  · obtain ⟨p, c, l, so, n, a, xs, rfl, S, nlc, ha, hso, n1, n2, x0, x1, q⟩ := h
    refine ⟨_, pss_one (ps_ret (pe_ix ix_list (pv 1) (pe_call GD hr (by rfl) T.draw T.kDraw bD .nil pass0 (pa_cons (pv 0) (pa_cons (pe_callB call_len_seq (by rfl) T.len (by decide +kernel) (pa_cons (pv 1) pa_nil)) pa_nil))) (fun _ _ => rfl))), ?_⟩
    refine ⟨_, rfl, _, rfl, _, rfl, so, _, rfl, .inl (SqL.of hso), p, c, l, n, a, _, rfl, S, nlc, ha, by omega, by omega, fun r H' r0 r1 S' sb nn => ?_⟩
    obtain ⟨k, hk⟩ : ∃ k : Nat, r = (k : Int) := ⟨r.toNat, by omega⟩
    subst hk
    obtain ⟨v, hv⟩ : ∃ v, xs[k]? = some v := ⟨xs[k]'(by omega), by simp [show k < xs.length by omega]⟩
    exact ⟨so, xs, k, v, rfl, rfl, SqL.of (sb so _ hso n1 n2), atI_nat hv, q k v H' hv S' sb nn⟩
end
end Dr
namespace Dr
open PySem L2 Evl
theorem StAt.ex {H H' : Hp} {p c l : Addr} {n : Nat} {a : Int} (S : StAt H p c l n a) (e : Ex H H') : StAt H' p c l n a :=
  ⟨e _ _ S.d, let ⟨cs, h, k⟩ := S.c; ⟨cs, e _ _ h, k⟩, let ⟨ls, h, k⟩ := S.l; ⟨ls, e _ _ h, k⟩, S.n0, S.n1, S.a0⟩
end Dr

/-! f(lambda: e) and f(lambda at=0: e), f a def that keeps what the lambda raises. -/
namespace LamR
open PySem PySem.Spec PyProof.Rows L2 LamX
open PySem.W (kdv_obj kdv_fn kdv_tup)
/-- a lambda's names: captured ones, globals, and names of its own that the def around has not -/
structure LamN (sc scope : Scope) (N : List Str) : Prop where
  kind : scope.kind = .function
  co : scope.isCoroutine = false
  gen : scope.isGenerator = false
  cell : ∀ y ∈ scope.names, y.2 ≠ .cell
  own : ∀ y ∈ scope.names, y.2 = .local → y.1 ∉ N
  free : ∀ y ∈ scope.names, y.2 = .free → sc.names.lookup y.1 = some .cell ∨ sc.names.lookup y.1 = some .free
def lamNB (sc scope : Scope) (N : List Str) : Bool :=
  decide (scope.kind = .function) && (!scope.isCoroutine && (!scope.isGenerator && ((scope.names.all fun y => !decide (y.2 = .cell)) && ((scope.names.all fun y => !decide (y.2 = .local) || !N.contains y.1) &&
    (scope.names.all fun y => !decide (y.2 = .free) || (decide (sc.names.lookup y.1 = some .cell) || decide (sc.names.lookup y.1 = some .free)))))))
theorem lamN_by {sc scope : Scope} {N : List Str} (h : lamNB sc scope N = true) : LamN sc scope N := by
  unfold lamNB at h
  simp only [Bool.and_eq_true, Bool.or_eq_true, Bool.not_eq_true', decide_eq_true_eq, decide_eq_false_iff_not, List.all_eq_true] at h
  obtain ⟨h1, h2, h3, h4, h5, h6⟩ := h
  refine ⟨h1, h2, h3, h4, fun y hy e => ?_, fun y hy e => ?_⟩
  · rcases h5 y hy with z | z
    · exact absurd e z
    · simpa using z
  · rcases h6 y hy with z | z
    · exact absurd e z
    · exact z
theorem LamN.has {X : Cx} {scope : Scope} {N : List Str} (L : LamN X.env.scope scope N) (ok : X.Ok) : ∀ y ∈ scope.names, y.2 = .free → ∃ c, X.env.cells.lookup y.1 = some c := fun y hy e => by
  rcases L.free y hy e with k | k
  · exact ok.has _ (.inl k)
  · exact ok.has _ (.inr k)
section
variable {X : Cx} {pins : List (Addr × Obj)} {σ : L2.St} {H HZ : Hp} {s s1 : Shared}
theorem lam_startR {A : Around} {outer : List Env} {E : XK} {scope : Scope} {f c' : Addr} {h₁ : Heap} {tk : Nat} {mL : Str → Option Value} (I : Inv X pins σ H s) (L : LamN X.env.scope scope X.N) (e0 : Env0 X.prog X.w X.K X.mg X.base A outer s1 HZ) (hd : A.handled = none)
    (un : Un (frs X.stack) [] H HZ s.heap s1.heap) (hns : h₁.Ns s1.heap.objs.size mL) (kp : ∀ b o, s1.heap.get? b = some o → h₁.get? b = some o) :
    Inv (lamCx X A outer s1 HZ E scope f c') [] σ HZ { s1 with heap := h₁, toks := tk } := by
  have hfree := L.has I.ok
  have cm : ∀ {y c}, (cloFrom X.env.cells scope.names []).lookup y = some c → X.env.cells.lookup y = some c := fun {y c} e => by
    rcases cloFrom_mem (PySem.mem_of_lookup e) with hm | ⟨h1, h2⟩
    · exact absurd hm (by simp)
    · obtain ⟨c1, hc⟩ := hfree _ h1 rfl
      have hc : X.env.cells.lookup y = some c1 := hc
      have e2 : c = c1 := by
        rw [h2, hc] <;> rfl
      rw [e2, hc]
  have look : ∀ {y}, scope.names.lookup y = some .free → ∃ c, (cloFrom X.env.cells scope.names []).lookup y = some c := fun {y} hl =>
    mem_lookup (cloFrom_has (cells := X.env.cells) (acc := []) (show (y, NameKind.free) ∈ scope.names from PySem.mem_of_lookup hl))
  have cellK : ∀ {c : Addr} {v : Option Value}, H c = none → s.heap.IsCell c v → h₁.IsCell c v := fun {c v} n ⟨o, ho, hd⟩ =>
    let ⟨_, q⟩ := un.any ho n (by simp)
    ⟨_, kp _ _ q, hd⟩
  have noA : ∀ b : Addr, b ∉ (lamCx X A outer s1 HZ E scope f c').ex := fun b z => absurd (show b ∈ ([] : List Addr) from z) (by simp)
  have visC : ∀ {y}, scope.names.lookup y ≠ some .cell := fun {y} k => L.cell _ (PySem.mem_of_lookup k) rfl
  refine ⟨⟨e0.mod, L.kind, rfl, rfl, Nat.le_refl _, fun y z c e1 e2 => I.ok.inj y z c (cm e1) (cm e2), fun y hy => ?_, fun y c z _ => Bool.noConfusion (show false = true from z), fun _ => hd, Around.frames_deeper e0.frames, .inr ⟨rfl, rfl⟩, fun b z => absurd z (noA b), e0.bs, e0.bsz, fun b _ _ => noA b,
      fun b z => absurd z (noA b), e0.funs, e0.frf⟩,
    rfl, e0.bare, Un.kept kp, ⟨_, hns, fun i y v e1 e2 e3 => ?_⟩, fun y c e => ?_, e0.hok.fresh (Nat.le_refl _), fun y c e => ?_, fun q hq => absurd (show q ∈ ([] : List (Addr × Obj)) from hq) (by simp), e0.hok.kept kp, I.len⟩
  · have hy : scope.names.lookup y = some .cell ∨ scope.names.lookup y = some .free := hy
    rcases hy with hy | hy
    · exact absurd hy visC
    · exact look hy
  · have e3 : Vis scope y := e3
    rcases e3 with k | k | k
    · exact absurd (List.mem_of_getElem? e1) (L.own _ (PySem.mem_of_lookup k) rfl)
    · exact absurd k visC
    · obtain ⟨m, hn, hl⟩ := I.loc
      obtain ⟨w', r, q⟩ := hl i y v e1 e2 (.inr (L.free _ (PySem.mem_of_lookup k) rfl))
      obtain ⟨c2, h2⟩ := look k
      refine ⟨w', r, .inr ⟨.inr k, c2, h2, ?_⟩⟩
      have c1 := cm h2
      rcases q with ⟨k', _⟩ | ⟨_, c3, e', z⟩
      · have k' : X.env.scope.names.lookup y = some .local := k'
        rcases L.free _ (PySem.mem_of_lookup k) rfl with k2 | k2 <;> rw [show X.env.scope.names.lookup y = _ from k2] at k' <;> cases k'
      · rw [c1] at e'
        cases e'
        exact cellK (I.freeC y _ c1) z
  · obtain ⟨w', z⟩ := I.cell y c (cm e)
    exact ⟨w', cellK (I.freeC y c (cm e)) z⟩
  · obtain ⟨v, o, ho, hd⟩ := I.cell y c (cm e)
    exact un.free c o ho (I.freeC y c (cm e)) (by simp)
/-- x(), in the def that got the lambda; what it raises is what that def's own wish takes, at its names as they are -/
theorem pe_actR {CXg : CXT} {Eg : XK} {Ng : List Str} {qg : Str} {sg : Scope} {g f c' : Addr} {cdg dV doc pm ctv : Value} {params : Arguments} {body : Expr} {scope : Scope} {k i : Nat} {a : Str} {pn : List (Addr × Obj)} {xe : Value → Shared → Prop} {W : WX} {tb : XK → TE} {p1 p2 : Pos} {binds : List (Str × Value)}
    (I : Inv X pins σ H s) (L : LamN X.env.scope scope X.N) (hf : s.heap.get? f = some (kdv_obj "<lambda>" (X.env.qual ++ "<lambda>") params (.expr body) scope (cloFrom X.env.cells scope.names []) dV doc pm c' ctv)) (hfn : H f = none) (hfr : f ∉ frs X.stack)
    (hbind : ∀ s1 : Shared, (∀ b o, s.heap.get? b = some o → H b = none → b ∉ frs X.stack → s1.heap.get? b = some o) → BindsTo s1 (kdv_fn "<lambda>" (X.env.qual ++ "<lambda>") params (.expr body) scope (cloFrom X.env.cells scope.names []) dV doc pm (.ref c') ctv) ⟨[], []⟩ binds)
    (hloc : ∀ y ∈ binds, scope.names.lookup y.1 = some .local)
    (tk : Takes ((cxOf CXg X.prog X.w X.K X.mg X.base Ng qg sg g cdg X.A X.stack s H Eg).tr pn xe) W) (hr : Room (k + 1) (X.A.deeper (envOfC qg sg s.heap.objs.size g cdg)))
    (hbody : ∀ (A : Around) (outer : List Env) (s : Shared) (H : Hp) (E : XK), Room k (A.deeper (lamEnv X scope s.heap.objs.size f c')) → PE (lamCx X A outer s H E scope f c') body (tb E))
    (hN : Ng[i]? = some a) (hv : Vis sg a) (hd : (a == ("__debug__" : Str)) = false := by decide) (hcd : (a == ("__classdict__" : Str)) = false := by decide) :
    PE ((cxOf CXg X.prog X.w X.K X.mg X.base Ng qg sg g cdg X.A X.stack s H Eg).tr pn xe) (.Call (.Name a p1) [] [] p2)
      (fun σZ HZ Q => σZ[i]? = some (some (.ref f)) ∧ HZ c' = some (CodeO c' (X.env.qual ++ "<lambda>")) ∧ ∃ (E : XK) (Q' : VK), (∀ cls d H', E cls d H' → W cls d σZ H') ∧ (∀ v H', Q' v H' → Q v H') ∧ tb E σ HZ Q') := by
  refine ⟨fun pinsZ sZ σZ HZ Q IZ h => ?_⟩
  obtain ⟨hs, hc, E, Q', hW, hQ, ht⟩ := h
  refine wpAny_Call_Name_kw (thn ((pe_var (pos := p1) (i := i) hN hv hd hcd).run pinsZ sZ σZ HZ (fun v H1 => v = .ref f ∧ H1 = HZ) IZ ⟨.ref f, hs, rfl, rfl⟩) fun u s1 ⟨v, H1, I1, r1, ev, eH⟩ => ?_)
  subst ev
  rw [eH] at I1
  obtain rfl : u = Value.ref f := r1
  have un : Un (frs X.stack) [] H HZ s.heap s1.heap := I1.base
  have keep : ∀ b o, s.heap.get? b = some o → H b = none → b ∉ frs X.stack → s1.heap.get? b = some o := fun b o e n nf => un.keep b o e n nf (fun z => absurd (show b ∈ ([] : List Addr) from z) (by simp))
  have of1 := keep f _ hf hfn hfr
  refine PySem.W.callWith_F0 ⟨_, _, _, _, of1⟩ ?_
  obtain ⟨⟨oc, vs, t, hoc, hdc, hvc⟩, _, _⟩ := I1.hok c' _ hc
  have rc : codeAny (model X.prog X.w) (X.A.deeper (envOfC qg sg s.heap.objs.size g cdg)) (.call (.ref f) ⟨[], []⟩) (CR (L2.CX X.prog X.w) (envOfC qg sg s.heap.objs.size g cdg :: X.stack) X.prog X.w HZ s1 Q E) s1 := by
    refine PySem.W.kla_callFunE hr.depth of1 rfl L.co L.gen rfl ⟨c', oc, vs, t, rfl, hoc, hdc, hvc⟩ (hbind s1 keep _ _ _ _ ?_)
    refine wpAny_newFunctionEnv L.cell hloc (fun h₁ hns hsb => ⟨I1.nolimit.fresh _ hsb, ?_⟩) L.kind
    show codeAny _ _ (.expr body (lamEnv X scope s1.heap.objs.size f c')) _ _
    have kp : ∀ b o, s1.heap.get? b = some o → h₁.get? b = some o := fun b o e => hsb.extBut b o (Nat.ne_of_lt (Heap.lt_size e)) (Heap.get?_push_of_some _ e)
    have J : Inv (lamCx X (X.A.deeper (envOfC qg sg s.heap.objs.size g cdg)) (envOfC qg sg s.heap.objs.size g cdg :: X.stack) s1 HZ E scope f c') [] σ HZ { s1 with heap := h₁, toks := s1.toks + binds.length } :=
      lam_startR I L I1.env0 hr.hd un hns kp
    exact PySem.W.kla_codeExpr (wpAny_mono ((hbody _ _ s1 HZ E (hr.deeper _)).run [] _ _ HZ Q' J ht) (fun v s' ⟨w', H', J', rv, q⟩ => ⟨w', H', J'.os, J'.bare, J'.base, J'.hok, rv, hQ _ _ q⟩) fun e s' hq => hq)
  refine wpAny_call (codeAny_mono rc fun r s' hq => ?_)
  cases r with
  | error e => exact tk e s' (XE.of_call I1 hW hq)
  | ok fl =>
    cases fl with
    | ret u => exact I1.after hq
    | next => exact False.elim hq
    | brk => exact False.elim hq
    | cont => exact False.elim hq
end
end LamR

namespace LamR
open PySem PySem.Spec PyProof.Rows L2 LamX
open PySem.W (kdv_obj kdv_fn kdv_tup)
section
variable {X : Cx} {pins : List (Addr × Obj)} {σ : L2.St} {H : Hp} {s : Shared}
/-- the lambda with one int as a default is made -/
theorem lam_makeD {T : List (Addr × Str)} {c P : Addr} {params : Arguments} {body : Expr} {scope : Scope} {pos cp : Pos} {j : Nat} {n : Int} {E : Value → Shared → Prop} {Q : Value → Shared → Prop} (I : Inv X pins σ H s) (TB : TabB X.base X.mg c P) (hcode : X.env.code = .ref c)
    (hm : (P, X.env.qual ++ "<lambda>") ∈ T) (hu : ∀ p ∈ T, p.1 = P → p.2 = X.env.qual ++ "<lambda>") (hT : Tabs T H) (hdef : params.defaults = [.Constant (.int n) j cp]) (hk0 : params.kw_defaults = []) (hfree : ∀ y ∈ scope.names, y.2 = .free → ∃ c, X.env.cells.lookup y.1 = some c)
    (hE : E = X.xe)
    (h : ∀ (f c' T₀ : Addr) (tk : Tok) (doc pm ctv : Value) (H1 : Hp) (s' : Shared), Inv X pins σ H1 s' → ExtN H H1 → Tabs T H1 →
      s'.heap.get? f = some (kdv_obj "<lambda>" (X.env.qual ++ "<lambda>") params (.expr body) scope (cloFrom X.env.cells scope.names []) (.ref T₀) doc pm c' ctv) → H1 f = none → f ∉ frs X.stack → H1 c' = some (CodeO c' (X.env.qual ++ "<lambda>")) →
      s'.heap.get? T₀ = some (kdv_tup [.int n tk]) → H1 T₀ = none → T₀ ∉ frs X.stack → Q (.ref f) s') :
    wpAny (model X.prog X.w) X.A (eval (.Lambda params body scope pos) X.env) Q E s := by
  subst hE
  obtain ⟨ps, hP, ht, ha⟩ := hT _ hm
  refine PySem.W.kdv_lam (by rw [hdef]; rfl) hk0 ?_
  rw [hdef]
  refine PySem.W.kdv_all1 (wpAny_Constant_int (PySem.W.kdv_all0 ?_))
  generalize hs1 : ({ s with toks := s.toks + 1 } : Shared) = s1
  have I1 : Inv X pins σ H s1 := by
    rw [← hs1]
    exact I.tok _
  generalize s.toks = tk
  rw [makeFunction_eq]
  simp only [List.zip_nil_right, List.filterMap_nil, List.isEmpty_nil, if_true, pure_bind, List.isEmpty_cons, Bool.false_eq_true, if_false]
  refine wpAny_bind (wpAny_newTextTuple ?_)
  obtain ⟨T₀, hT0⟩ : ∃ T₀, T₀ = s1.heap.objs.size := ⟨_, rfl⟩
  rw [← hT0]
  have n0 : H T₀ = none := I1.hok.fresh (Nat.le_of_eq hT0.symm)
  have g0 : (s1.heap.push (kdv_tup [.int n tk])).get? T₀ = some (kdv_tup [.int n tk]) := by
    rw [hT0]
    exact Heap.get?_push_size _ rfl
  have I2 : Inv X pins σ H { s1 with heap := s1.heap.push (kdv_tup [.int n tk]) } := I1.kept (t' := s1.toks) fun b o e => Heap.get?_push_of_some _ e
  have nofr : ∀ f, s1.heap.objs.size ≤ f → f ∉ frs X.stack := fun f hf z => by
    rcases List.mem_cons.mp (I1.stkSub _ z) with e | e
    · have h1 := I1.lt
      rw [← e] at h1
      exact Nat.lt_irrefl _ (Nat.lt_of_lt_of_le h1 hf)
    · exact I1.nofs hf e
  have f0 : T₀ ∉ frs X.stack := nofr _ (Nat.le_of_eq hT0.symm)
  have sz2 : (s1.heap.push (kdv_tup [.int n tk])).objs.size = T₀ + 1 := by rw [Heap.size_push, hT0]
  generalize hs2 : ({ s1 with heap := s1.heap.push (kdv_tup [.int n tk]) } : Shared) = s2 at I2 ⊢
  have hh2 : s2.heap = s1.heap.push (kdv_tup [.int n tk]) := by rw [← hs2]
  rw [← hh2] at g0 sz2
  have bP : s2.heap.BuiltinsAt X.mg P := TB.bm.keeps I2.bk
  have hP' : s2.heap.get? P = some { cls := .none, data := .fields ps } := I2.hok P _ hP
  cases hc : codeAmong pos ps.toList with
  | none =>
    refine PySem.W.kdv_makeTail (mg := X.mg) (c := c) (P := P) (ps := ps) (closure_ok hfree) I2.ok.glob (I2.mod.glob.keeps I2.bk) hcode (TB.code.keeps I2.bk) hP' ht hc TB.gP bP fun c' ctv doc h' tk' hx hge hlt hrec htb => ?_
    obtain ⟨c2, oc, vs, t, e2, hoc, hd, hv⟩ := hrec
    cases e2
    have hsz : s2.heap.objs.size ≤ h'.objs.size := Nat.le_trans hge (Nat.le_of_lt hlt)
    have nC : H c' = none := I2.hok.fresh hge
    have I3 := inv_table (t' := tk') (more := #[rawInt pos.line, rawInt pos.col, .ref c']) (h' := h'.push (kdv_obj "<lambda>" (X.env.qual ++ "<lambda>") params (.expr body) scope (cloFrom X.env.cells scope.names []) (.ref T₀) doc ((X.mg "__name__").getD .none) c' ctv)) I2 hP
      (fun b o hb e => Heap.get?_push_of_some _ (hx b o hb e)) (Heap.get?_push_of_some _ htb) hge ⟨oc, vs, t, Heap.get?_push_of_some _ hoc, hd, hv⟩
    have hE : ExtN H (upd (upd H P (.tbl (ps ++ #[rawInt pos.line, rawInt pos.col, .ref c']))) c' (CodeO c' (X.env.qual ++ "<lambda>"))) := fun b o e nt => by
      rw [upd_ne (ne_of_none e nC), upd_ne (fun z => nt ps (Option.some.inj (e.symm.trans (by rw [z]; exact hP))))]
      exact e
    have eL : (ps ++ #[rawInt pos.line, rawInt pos.col, .ref c']).toList = ps.toList ++ [rawInt pos.line, rawInt pos.col, .ref c'] := by simp
    have T0P : T₀ ≠ P := fun z => by
      rw [z, hP] at n0
      cases n0
    have T0c : T₀ ≠ c' := fun z => by omega
    refine h h'.objs.size c' T₀ tk doc ((X.mg "__name__").getD .none) ctv _ _ I3 hE (fun p hp => ?_) (Heap.get?_push_size _ rfl) ?_ (nofr _ (by omega)) upd_same (Heap.get?_push_of_some _ (hx _ _ T0P g0)) ?_ f0
    · by_cases hb : p.1 = P
      · rw [hu p hp hb, hb]
        refine ⟨_, by rw [upd_ne (ne_of_none hP nC), upd_same], by rw [eL]; exact PySem.TriplesOk_snoc _ _ _ _ ht, fun p' cv hcv => ?_⟩
        rw [eL] at hcv
        rcases among_app _ ht hcv with z | z
        · obtain ⟨c0, e1, e2⟩ := ha p' cv z
          exact ⟨c0, e1, hE _ _ e2 codeO_ne⟩
        · exact ⟨c', z, upd_same⟩
      · obtain ⟨ps', a1, a2, a3⟩ := hT p hp
        refine ⟨ps', by rw [upd_ne (ne_of_none a1 nC), upd_ne hb]; exact a1, a2, fun p' cv hcv => ?_⟩
        obtain ⟨c0, e1, e2⟩ := a3 p' cv hcv
        exact ⟨c0, e1, hE _ _ e2 codeO_ne⟩
    · have n1 : h'.objs.size ≠ c' := Nat.ne_of_gt hlt
      have n2 : h'.objs.size ≠ P := Nat.ne_of_gt (Nat.lt_of_lt_of_le (Heap.lt_size hP') hsz)
      rw [upd_ne n1, upd_ne n2]
      exact I2.hok.fresh hsz
    · rw [upd_ne T0c, upd_ne T0P]
      exact n0
  | some cv =>
    obtain ⟨c', e, hco⟩ := ha pos cv hc
    subst e
    refine PySem.W.kdv_makeTailHit (mg := X.mg) (c := c) (P := P) (ps := ps) (closure_ok hfree) I2.ok.glob (I2.mod.glob.keeps I2.bk) hcode (TB.code.keeps I2.bk) hP' ht hc bP fun ctv doc h' tk' hx hsz => ?_
    have I3 : Inv X pins σ H { s2 with heap := h'.push (kdv_obj "<lambda>" (X.env.qual ++ "<lambda>") params (.expr body) scope (cloFrom X.env.cells scope.names []) (.ref T₀) doc ((X.mg "__name__").getD .none) c' ctv), toks := tk' } := I2.kept fun b o e => Heap.get?_push_of_some _ (hx b o e)
    exact h h'.objs.size c' T₀ tk doc ((X.mg "__name__").getD .none) ctv H _ I3 (ExtN.refl H) hT (Heap.get?_push_size _ rfl) (I2.hok.fresh hsz) (nofr _ (by omega)) hco (Heap.get?_push_of_some _ (hx _ _ g0)) n0 f0
end
end LamR

namespace LamR
open PySem PySem.Spec PyProof.Rows L2 LamX
open PySem.W (kdv_obj kdv_fn kdv_tup)
/-- the def that calls what it got; TT: what it makes of the lambda's reading -/
def GivesR (X : Cx) (Ng : List Str) (x : Str) (sg : Scope) (g : Addr) (cdg : Value) (bg : List Stmt) (a : Str) (q : Str) (TT : (XK → Hp → VK → Prop) → Hp → VK → Prop) : Prop :=
  ∀ (f c' : Addr) (s : Shared) (H : Hp) (Q : VK) (tl : XK → Hp → VK → Prop),
    (∀ (W : WX) (pn : List (Addr × Obj)) (xe : Value → Shared → Prop) (p1 p2 : Pos), Takes ((cxOf C8.CX0 X.prog X.w X.K X.mg X.base Ng x sg g cdg X.A X.stack s H C8.E0).tr pn xe) W →
      PE ((cxOf C8.CX0 X.prog X.w X.K X.mg X.base Ng x sg g cdg X.A X.stack s H C8.E0).tr pn xe) (.Call (.Name a p1) [] [] p2) (fun σZ HZ Q => σZ[0]? = some (some (.ref f)) ∧ HZ c' = some (CodeO c' q) ∧ ∃ (E : XK) (Q' : VK), (∀ cls d H', E cls d H' → W cls d σZ H') ∧ (∀ v H', Q' v H' → Q v H') ∧ tl E HZ Q')) →
    H c' = some (CodeO c' q) → TT tl H Q →
    ∃ t, PSs (cxOf C8.CX0 X.prog X.w X.K X.mg X.base Ng x sg g cdg X.A X.stack s H C8.E0).nox bg t ∧ t { nx := fun _ H' => Q .non H', rt := Q } (L2.start Ng [.ref f]) H
section
variable {X : Cx} {T : List (Addr × Str)} {TT : (XK → Hp → VK → Prop) → Hp → VK → Prop} {x a : Str} {g c P : Addr} {k : Nat} {pg : Arguments} {bg : List Stmt} {sg : Scope} {dV kV doc pm cdv ct oc : Value} {an od : Option Addr} {osl : Array (Option Value)} {Ng : List Str}
    {params : Arguments} {body : Expr} {scope : Scope} {t : XK → TE} {p lpos pos : Pos}
/-- behind the lambda's making: the def is called -/
theorem lam_endR {pins : List (Addr × Obj)} {σ : L2.St} {H1 : Hp} {s' : Shared} {Q : VK} {f c' : Addr} {dL docL pmL ctL : Value} {binds : List (Str × Value)}
    (hk : PySem.W.keepIn X.K (.ref g) = true) (lk : X.K.lookup g = some ⟨oc, od, .func (PySem.W.fnOf x x pg bg sg dV kV doc pm an cdv ct), osl⟩) (hcg : PySem.W.codeIn X.K cdv x = true) (hb : L2.Binds X.K (PySem.W.fnOf x x pg bg sg dV kV doc pm an cdv ct) [a] []) (Sg : FnScope Ng [a] sg) (hNg : Ng[0]? = some a) (hva : Vis sg a)
    (hG : GivesR X Ng x sg g cdv bg a (X.env.qual ++ "<lambda>") TT) (hr : Room (k + 2) X.A) (L : LamN X.env.scope scope X.N)
    (hbody : ∀ (A : Around) (outer : List Env) (s : Shared) (H : Hp) (E : XK) (f c' : Addr), Room k (A.deeper (lamEnv X scope s.heap.objs.size f c')) → PE (lamCx X A outer s H E scope f c') body (t E))
    (I1 : Inv X pins σ H1 s') (hf : s'.heap.get? f = some (kdv_obj "<lambda>" (X.env.qual ++ "<lambda>") params (.expr body) scope (cloFrom X.env.cells scope.names []) dL docL pmL c' ctL)) (hfn : H1 f = none) (hfr : f ∉ frs X.stack) (hco : H1 c' = some (CodeO c' (X.env.qual ++ "<lambda>")))
    (hbind : ∀ s1 : Shared, (∀ b o, s'.heap.get? b = some o → H1 b = none → b ∉ frs X.stack → s1.heap.get? b = some o) → BindsTo s1 (kdv_fn "<lambda>" (X.env.qual ++ "<lambda>") params (.expr body) scope (cloFrom X.env.cells scope.names []) dL docL pmL (.ref c') ctL) ⟨[], []⟩ binds)
    (hloc : ∀ y ∈ binds, scope.names.lookup y.1 = some .local) (h : TT (fun E H' Q' => t E σ H' Q') H1 Q)
    (hd : (a == ("__debug__" : Str)) = false := by decide) (hcd : (a == ("__classdict__" : Str)) = false := by decide) :
    wpAny (model X.prog X.w) X.A (call (.ref g) [.ref f]) (EP X pins σ Q) X.xe s' := by
  have rc : codeAny (model X.prog X.w) X.A (.call (.ref g) ⟨[.ref f], []⟩) (CR C8.CX0 X.stack X.prog X.w H1 s' Q C8.E0) s' := by
    refine run_ofS (N := Ng) (ps := [a]) (us := [.ref f]) (vs := [.ref f]) lk hcg Sg hr I1.env0 (hb s' [.ref f] I1.kIn rfl) (.cons rfl .nil) rfl fun hr' => ?_
    obtain ⟨t', ht', hq'⟩ := hG f c' s' H1 Q (fun E H' Q' => t E σ H' Q') (fun W pn xe p1 p2 tk => pe_actR (i := 0) I1 L hf hfn hfr hbind hloc tk hr' (fun A outer s H E hr2 => hbody A outer s H E f c' hr2) hNg hva hd hcd) hco h
    exact ⟨t', ht'.nox, hq'⟩
  refine wpAny_call (codeAny_mono rc fun r s2 hq => ?_)
  cases r with
  | error e => exact (show False from hq).elim
  | ok fl =>
    cases fl with
    | ret u => exact I1.after hq
    | next => exact False.elim hq
    | brk => exact False.elim hq
    | cont => exact False.elim hq
/-- x(lambda: body) -/
theorem pe_lamcallR (hg : Gl X x) (hm : X.mg x = some (.ref g)) (hk : PySem.W.keepIn X.K (.ref g) = true)
    (lk : X.K.lookup g = some ⟨oc, od, .func (PySem.W.fnOf x x pg bg sg dV kV doc pm an cdv ct), osl⟩) (hcg : PySem.W.codeIn X.K cdv x = true) (hb : L2.Binds X.K (PySem.W.fnOf x x pg bg sg dV kV doc pm an cdv ct) [a] []) (Sg : FnScope Ng [a] sg) (hNg : Ng[0]? = some a) (hva : Vis sg a)
    (hG : GivesR X Ng x sg g cdv bg a (X.env.qual ++ "<lambda>") TT)
    (TB : TabB X.base X.mg c P) (hcode : X.env.code = .ref c) (hmT : (P, X.env.qual ++ "<lambda>") ∈ T) (hu : ∀ p ∈ T, p.1 = P → p.2 = X.env.qual ++ "<lambda>") (hr : Room (k + 2) X.A) (L : LamN X.env.scope scope X.N) (hdef : defaultsOf params X.env = ([], []))
    (hbind : ∀ (q : Str) (cl : List (Str × Addr)) (pm cv ctv : Value), bindArgs (PySem.W.kla_fn "<lambda>" q params body scope cl pm cv ctv) ⟨[], []⟩ = pure [])
    (hbody : ∀ (A : Around) (outer : List Env) (s : Shared) (H : Hp) (E : XK) (f c' : Addr), Room k (A.deeper (lamEnv X scope s.heap.objs.size f c')) → PE (lamCx X A outer s H E scope f c') body (t E))
    (hdb : (x == ("__debug__" : Str)) = false := by decide) (hd : (a == ("__debug__" : Str)) = false := by decide) (hcd : (a == ("__classdict__" : Str)) = false := by decide) :
    PE X (.Call (.Name x p) [.Lambda params body scope lpos] [] pos) (tLam T TT t) := by
  refine ⟨fun pins s σ H Q I ⟨hT, h⟩ => ?_⟩
  refine wpAny_Call_Name_kw (ld_glob I hg hm ?_ hdb)
  refine PySem.W.callWith_K (h₀ := X.base) I.ok.mod.kin hk ?_ (by rfl) (by rfl)
  show wpAny _ _ (spliced ((false, eval (.Lambda params body scope lpos) X.env) :: backTo pos (starEach [] X.env))) _ _ s
  refine Calls.spliced_cons (lam_make2 I TB hcode hmT hu hT hdef (L.has I.ok) fun f c' pm' ctv H1 s' I1 eN T1 hf hfn hfr hco => ?_)
  exact Calls.spliced_nil ⟨I1.kIn, lam_endR (binds := []) (dL := .none) (docL := .none) hk lk hcg hb Sg hNg hva hG hr L hbody I1 hf hfn hfr hco (fun s1 _ => .of_eq (hbind _ _ _ _ _)) (fun y hy => absurd hy (by simp)) (h H1 eN T1) hd hcd⟩
/-- x(lambda y=n: body) -/
theorem pe_lamcallD {y : Str} {n : Int} {j : Nat} {cp : Pos} (hg : Gl X x) (hm : X.mg x = some (.ref g)) (hk : PySem.W.keepIn X.K (.ref g) = true)
    (lk : X.K.lookup g = some ⟨oc, od, .func (PySem.W.fnOf x x pg bg sg dV kV doc pm an cdv ct), osl⟩) (hcg : PySem.W.codeIn X.K cdv x = true) (hb : L2.Binds X.K (PySem.W.fnOf x x pg bg sg dV kV doc pm an cdv ct) [a] []) (Sg : FnScope Ng [a] sg) (hNg : Ng[0]? = some a) (hva : Vis sg a)
    (hG : GivesR X Ng x sg g cdv bg a (X.env.qual ++ "<lambda>") TT)
    (TB : TabB X.base X.mg c P) (hcode : X.env.code = .ref c) (hmT : (P, X.env.qual ++ "<lambda>") ∈ T) (hu : ∀ p ∈ T, p.1 = P → p.2 = X.env.qual ++ "<lambda>") (hr : Room (k + 2) X.A) (L : LamN X.env.scope scope X.N)
    (hdef : params.defaults = [.Constant (.int n) j cp]) (hk0 : params.kw_defaults = []) (hyl : scope.names.lookup y = some .local)
    (hbind : ∀ (q : Str) (cl : List (Str × Addr)) (T₀ : Addr) (doc pm cv ctv u : Value), ∃ k : Option (Array Value) → Sem (List (Str × Value)), bindArgs (kdv_fn "<lambda>" q params (.expr body) scope cl (.ref T₀) doc pm cv ctv) ⟨[], []⟩ = seqItems? (.ref T₀) >>= k ∧ k (some #[u]) = pure [(y, u)])
    (hbody : ∀ (A : Around) (outer : List Env) (s : Shared) (H : Hp) (E : XK) (f c' : Addr), Room k (A.deeper (lamEnv X scope s.heap.objs.size f c')) → PE (lamCx X A outer s H E scope f c') body (t E))
    (hdb : (x == ("__debug__" : Str)) = false := by decide) (hd : (a == ("__debug__" : Str)) = false := by decide) (hcd : (a == ("__classdict__" : Str)) = false := by decide) :
    PE X (.Call (.Name x p) [.Lambda params body scope lpos] [] pos) (tLam T TT t) := by
  refine ⟨fun pins s σ H Q I ⟨hT, h⟩ => ?_⟩
  refine wpAny_Call_Name_kw (ld_glob I hg hm ?_ hdb)
  refine PySem.W.callWith_K (h₀ := X.base) I.ok.mod.kin hk ?_ (by rfl) (by rfl)
  show wpAny _ _ (spliced ((false, eval (.Lambda params body scope lpos) X.env) :: backTo pos (starEach [] X.env))) _ _ s
  refine Calls.spliced_cons (lam_makeD I TB hcode hmT hu hT hdef hk0 (L.has I.ok) rfl fun f c' T₀ tk doc' pm' ctv H1 s' I1 eN T1 hf hfn hfr hco g0 n0 f0 => ?_)
  refine Calls.spliced_nil ⟨I1.kIn, lam_endR (binds := [(y, .int n tk)]) hk lk hcg hb Sg hNg hva hG hr L hbody I1 hf hfn hfr hco (fun s1 kp => ?_) (fun z hz => ?_) (h H1 eN T1) hd hcd⟩
  · obtain ⟨kk, e1, e2⟩ := hbind (X.env.qual ++ "<lambda>") (cloFrom X.env.cells scope.names []) T₀ doc' pm' (.ref c') ctv (.int n tk)
    exact BindsTo.of_defaults rfl (kp _ _ g0 n0 f0) rfl e1 e2
  · rw [List.mem_singleton.mp hz]
    exact hyl
end
end LamR

/-! k02: what the program's own defs tell. -/
namespace Dg
open PySem L2 Evl
def top (i : Nat) : Stmt := PySem.Challenge.pw_shortspans_k21_whole_stretches.main.body.getD i (.Pass ⟨0, 0, 0, 0⟩)
abbrev sIsInt : Stmt := top 21
abbrev sIsNum : Stmt := top 22
abbrev sIsFig : Stmt := top 23
abbrev sNeedB : Stmt := top 24
abbrev sNeedN : Stmt := top 25
abbrev sDigits : Stmt := top 28

abbrev sLength : Stmt := top 29
abbrev sNeedR : Stmt := top 26
abbrev sChanged : Stmt := top 30
abbrev sNear : Stmt := top 31
structure TxG (mg : Str → Option Value) : Prop where
  isi : mg "isinstance" = none
  int : mg "int" = none
  bool : mg "bool" = none
  str : mg "str" = none
  len : mg "len" = none
  sup : mg "super" = none
  fig : ∃ t, mg "FIGURES" = some (.str "0123456789" t)
  least : ∃ t, mg "LEAST_BASE" = some (.int 2 t)
  most : ∃ t, mg "MOST_BASE" = some (.int 10 t)
structure TxI (K : PySem.W.Frag) (mg : Str → Option Value) (fi : Addr) : Prop extends TxG mg where
  isInt : mg "is_integer" = some (.ref fi)
  kInt : PySem.W.keepIn K (.ref fi) = true
/-- whether a value is an integer -/
inductive Kn (K : PySem.W.Frag) (H : Hp) : V → Bool → Prop
  | int (i : Int) : Kn K H (.int i) true
  | oth {v : V} {a : String} {x y : Bool} (t : TyX K H v (.type a)) (h1 : kitB a "int" = some x) (h2 : kitB a "bool" = some y) (h : (x && !y) = false) : Kn K H v false
/-- whether a value is a number -/
inductive Nm (K : PySem.W.Frag) (H : Hp) : V → Bool → Prop
  | int (i : Int) : Nm K H (.int i) (decide (1 ≤ i))
  | oth {v : V} (h : Kn K H v false) : Nm K H v false
/-- whether a value is a base -/
inductive Bs (K : PySem.W.Frag) (H : Hp) : V → Bool → Prop
  | int (i : Int) : Bs K H (.int i) (decide (2 ≤ i) && decide (i ≤ 10))
  | oth {v : V} (h : Kn K H v false) : Bs K H v false
theorem tyx_ex {K : PySem.W.Frag} {H H' : Hp} {v : V} {a : String} (e : Ex H H') (t : TyX K H v (.type a)) : TyX K H' v (.type a) := by
  cases t with
  | base b =>
    cases b with
    | non => exact .base .non
    | bl x => exact .base (.bl x)
    | int i => exact .base (.int i)
    | str x => exact .base (.str x)
    | flt x => exact .base (.flt x)
    | lst h => exact .base (.lst (e _ _ h))
    | frz h => exact .base (.frz (e _ _ h))
    | tup h => exact .base (.tup (e _ _ h))
    | dK h => exact .base (.dK (e _ _ h))
    | dT h => exact .base (.dT (e _ _ h))
  | byt b => exact .byt b
  | set h => exact .set (e _ _ h)
  | kList h c => exact .kList h c
  | kTuple h c => exact .kTuple h c
  | kDict h c => exact .kDict h c
  | fTuple h => exact .fTuple (e _ _ h)
  | fDict h => exact .fDict (e _ _ h)
theorem Kn.ex {K : PySem.W.Frag} {H H' : Hp} {v : V} {b : Bool} (e : Ex H H') (k : Kn K H v b) : Kn K H' v b := by
  cases k with
  | int i => exact .int i
  | oth t h1 h2 h => exact .oth (tyx_ex e t) h1 h2 h
theorem Nm.ex {K : PySem.W.Frag} {H H' : Hp} {v : V} {b : Bool} (e : Ex H H') (k : Nm K H v b) : Nm K H' v b := by
  cases k with
  | int i => exact .int i
  | oth h => exact .oth (h.ex e)
theorem Bs.ex {K : PySem.W.Frag} {H H' : Hp} {v : V} {b : Bool} (e : Ex H H') (k : Bs K H v b) : Bs K H' v b := by
  cases k with
  | int i => exact .int i
  | oth h => exact .oth (h.ex e)
/-- the exception C(f = v) leaves -/
def Leaves (C : Addr) (f : Str) (v : V) (H : Hp) (E : XK) : Prop := ∀ H2 d, Ex H H2 → H2 d = none → E (.ref C) (some d) (upd H2 d (.xd [(f, v)]))
theorem Leaves.go {C : Addr} {f : Str} {v : V} {H H' : Hp} {E : XK} (l : Leaves C f v H E) (e : Ex H H') : Leaves C f v H' E := fun H2 d e2 hd => l H2 d (e.trans e2) hd
section
variable {P : Program} {w : World} {K : PySem.W.Frag} {mg : Str → Option Value} {base : Heap} {ca : Nat → Addr}
theorem ev_isi {σ : St} {H : Hp} {te : TE} {v : V} {a b : String} {r : Bool} (h : Ev te σ H v) (t : TyX K H v (.type a)) (k : kitB a b = some r) : Ev (tCB (rIsi K) (tCons te (tCons (tC (.ty b)) tNil))) σ H (.bl r) :=
  ev_cb (ea_cons h (ea_cons ev_c ea_nil)) fun H1 e Q q => ⟨v, .ty b, .type a, .type b, r, rfl, .ty b, tyx_ex e t, kit_ty k, q _ (Ex.refl _)⟩
def spIsInt (K : PySem.W.Frag) : Sp := fun vs H Q _ => ∃ v b, vs = [v] ∧ Kn K H v b ∧ RetV (.bl b) H Q
theorem scIsInt : FnScope ["value"] ["value"] (defScope sIsInt) := ⟨rfl, rfl, rfl, by decide +kernel, rfl, by decide +kernel, by decide +kernel⟩
theorem ok_isInt {f : Addr} {fd : FuncData} (F : Fun K "is_integer" "is_integer" sIsInt f fd) (T : TxG mg) : FnOk P w K mg base CX0 1 f fd ["value"] (spIsInt K) := by
  refine F.ok scIsInt (fun vs H Q E h => ?_) (fun cdv A outer s H vs Q E hr h => ?_)
  · obtain ⟨v, b, rfl, _⟩ := h
    rfl
  · obtain ⟨v, b, rfl, k, q⟩ := h
    refine ⟨_, pss_one (ps_ret (pe_and (pe_callB call_isi (by rfl) T.isi (by decide +kernel) (pa_cons (pv 0) (pa_cons (pe_bltn (by rfl) T.int (by decide +kernel) (v := .ty "int") rfl) pa_nil)))
      (pe_one (pe_not (pe_callB call_isi (by rfl) T.isi (by decide +kernel) (pa_cons (pv 0) (pa_cons (pe_bltn (by rfl) T.bool (by decide +kernel) (v := .ty "bool") rfl) pa_nil))))))), ?_⟩
    cases k with
    | int i => exact s_ret (ev_andV (ev_isi (ev_var rfl) (.base (.int i)) (r := true) (by decide +kernel)) (fun _ => ev_notV (ev_isi (ev_var rfl) (.base (.int i)) (r := false) (by decide +kernel)))) fun H1 e => q H1 e
    | oth t h1 h2 hx => exact s_ret (ev_is (ev_andV (ev_isi (ev_var rfl) t h1) (fun _ => ev_notV (ev_isi (ev_var rfl) t h2))) (by rw [hx])) fun H1 e => q H1 e
def spIsNum (K : PySem.W.Frag) : Sp := fun vs H Q _ => ∃ v b, vs = [v] ∧ Nm K H v b ∧ RetV (.bl b) H Q
theorem scIsNum : FnScope ["value"] ["value"] (defScope sIsNum) := ⟨rfl, rfl, rfl, by decide +kernel, rfl, by decide +kernel, by decide +kernel⟩
theorem ev_callI {σ : St} {H : Hp} {te : TE} {v : V} {b : Bool} (h : Ev te σ H v) (k : Kn K H v b) : Ev (tCall (spIsInt K) [] E0 (tCons te tNil)) σ H (.bl b) :=
  ev_call (ea_cons h ea_nil) fun H1 e Q q E => ⟨v, b, rfl, k.ex e, fun H2 e2 => q H2 e2⟩
theorem ok_isNum {f fi : Addr} {fd fdi : FuncData} (F : Fun K "is_number" "is_number" sIsNum f fd) (GI : FnOk P w K mg base CX0 1 fi fdi ["value"] (spIsInt K)) (bI : Binds K fdi ["value"] []) (T : TxI K mg fi) : FnOk P w K mg base CX0 2 f fd ["value"] (spIsNum K) := by
  refine F.ok scIsNum (fun vs H Q E h => ?_) (fun cdv A outer s H vs Q E hr h => ?_)
  · obtain ⟨v, b, rfl, _⟩ := h
    rfl
  · obtain ⟨v, b, rfl, k, q⟩ := h
    refine ⟨_, pss_one (ps_ret (pe_and (pe_call GI hr (by rfl) T.isInt T.kInt bI .nil pass0 (pa_cons (pv 0) pa_nil)) (pe_one (pe_cmpR op_ge (pv 0) pe_int (nomark _))))), ?_⟩
    cases k with
    | int i => exact s_ret (ev_is (ev_andV (ev_callI (ev_var rfl) (.int i)) (fun _ => ev_op (ev_var rfl) ev_c rv_I0)) (by simp)) fun H1 e => q H1 e
    | oth h => exact s_ret (ev_is (ev_andV (b := false) (ev_callI (ev_var rfl) h) (fun z => nomatch z)) (by simp)) fun H1 e => q H1 e
/-- need_base, need_number: nothing, or the exception -/
def spNeed (J : Hp → V → Bool → Prop) (C : Addr) : Sp := fun vs H Q E => ∃ v b, vs = [v] ∧ J H v b ∧ (b = true → RetV .non H Q) ∧ (b = false → Leaves C "value" v H E)
theorem scNeedB : FnScope ["base"] ["base"] (defScope sNeedB) := ⟨rfl, rfl, rfl, by decide +kernel, rfl, by decide +kernel, by decide +kernel⟩
theorem scNeedN : FnScope ["number"] ["number"] (defScope sNeedN) := ⟨rfl, rfl, rfl, by decide +kernel, rfl, by decide +kernel, by decide +kernel⟩
theorem ok_needN {f fn : Addr} {fd fdn : FuncData} (F : Fun K "need_number" "need_number" sNeedN f fd) (GN : FnOk P w K mg base CX0 2 fn fdn ["value"] (spIsNum K)) (bN : Binds K fdn ["value"] []) (gN : mg "is_number" = some (.ref fn)) (kN : PySem.W.keepIn K (.ref fn) = true) (T : TxG mg)
    (M : Mks P K mg (ca 2) ["value"]) (gC : mg "BadNumber" = some (.ref (ca 2))) : FnOk P w K mg base (L2.CX P w) 3 f fd ["number"] (spNeed (Nm K) (ca 2)) := by
  refine F.okX scNeedN (fun vs H Q E h => ?_) (fun cdv A outer s H vs Q E hr h => ?_)
  · obtain ⟨v, b, rfl, _⟩ := h
    rfl
  · obtain ⟨v, b, rfl, k, qy, qn⟩ := h
    refine ⟨_, pss_one (ps_if (pt_not (pt_val (pe_call GN hr (by rfl) gN kN bN .nil pass0 (pa_cons (pv 0) pa_nil)))) (pss_one (ps_raise rfl (takes_of rfl rfl rfl rfl) (pmk_mks M T.sup hr (by simp) (pa_cons (pv 0) pa_nil) (by rfl) gC))) pss_nil), ?_⟩
    refine s_when (b := !b) (et_not (et_B (ev_call (ea_cons (ev_var rfl) ea_nil) fun H1 e Q q E => ⟨v, b, rfl, k.ex e, fun H2 e2 => q H2 e2⟩))) (fun z H1 e => ?_) (fun z H1 e => qy (by simpa using z) H1 e)
    exact ⟨_, rfl, rfl, fun d hd => qn (by simpa using z) H1 d e hd⟩
end
end Dg

namespace L2
open PySem PySem.Spec PyProof.Rows
section
variable {X : Cx} {e : Expr} {te : TE} {p2 p3 p4 pos : Pos} {j : Nat}
/-- xs[::-1] of a list: a new one -/
def tBack (K : PySem.W.Frag) (te : TE) : TE := fun σ H Q => te σ H fun x H2 => ∃ a xs, x = .ref a ∧ SqL K H2 a xs ∧ ∀ p, H2 p = none → Q (.ref p) (upd H2 p (.lst xs.reverse))
theorem vals_reverse : ∀ {xs : List V} {us : List Value}, Vals xs us → Vals xs.reverse us.reverse
  | _, _, .nil => .nil
  | _, _, .cons r t => by
    rw [List.reverse_cons, List.reverse_cons]
    exact (vals_reverse t).append (.cons r .nil)
theorem pe_back (he : PE X e te) : PE X (.Subscript e (.Slice none none (some (.UnaryOp .USub (.Constant (.int 1) j p3) p4)) p2) pos) (tBack X.K te) := by
  refine ⟨fun pins s σ H Q I h => ?_⟩
  refine Subscript_ (thn (he.run pins s σ H _ I h) fun v s1 ⟨x, H1, I1, r1, a, xs, ex, hx, q⟩ => ?_)
  subst ex
  obtain rfl : v = Value.ref a := r1
  refine wpAny_Slice ?_
  rw [evalPart_none]
  refine wpAny_pure (wpAny_pure ?_)
  rw [evalPart_some]
  refine thn ((pe_un (pos := p4) un_neg (pe_int (X := X) (i := 1) (j := j) (pos := p3))).run pins s1 σ H1 (fun y H2 => y = .int (-1) ∧ H2 = H1) I1 ⟨1, rfl, rfl, rfl⟩) fun vu s3 ⟨y, H3, I3, r3, ey, eH⟩ => ?_
  subst ey
  rw [eH] at I3
  obtain ⟨tk, rfl⟩ := r3
  have I4 : Inv X pins σ H1 { s3 with heap := s3.heap.push { cls := .type "slice", data := .fields #[.none, .none, .int (-1) tk] } } := I3.kept (t' := s3.toks) fun b ob q => Heap.get?_push_of_some _ q
  obtain ⟨its, r, ht, hz⟩ := I4.list hx
  show wpAny (model X.prog X.w) X.A (subscriptTail e (.Slice none none (some (.UnaryOp .USub (.Constant (.int 1) j p3) p4)) p2) (.ref a) (.ref s3.heap.objs.size)) (EP X pins σ Q) X.xe { s3 with heap := s3.heap.push { cls := .type "slice", data := .fields #[.none, .none, .int (-1) tk] } }
  refine tail_any (ops := _) ht.isList.typeIs slot_list_getitem.lookup ?_ (by with_unfolding_all rfl)
  refine wpAny_getItem_list_slice ht.isList (Heap.IsSliceOf.new ..) .none .none (.int _ _) (by simp) ?_ (by rw [List.size_toArray, ← r.length]; exact hz)
  rw [PySem.W.krv_pick]
  refine ⟨.ref _, _, I4.laid (t' := s3.toks) (o := .lst xs.reverse) (fun b ob q => Heap.get?_push_of_some _ q) (Nat.le_refl _) ?_, rfl, q _ (I4.hok.fresh (Nat.le_refl _))⟩
  exact ⟨by rw [List.length_reverse]; exact hz, its.reverse, 0, vals_reverse r, Heap.get?_push_size _ rfl⟩
end
end L2

namespace Evl
open PySem L2
/-- a <= b <= c of whole numbers -/
theorem ev_chI {σ : St} {H : Hp} {ta tb tc : TE} {a b c : Int} (ha : Ev ta σ H (.int a)) (hb : Ev tb σ H (.int b)) (hc : Ev tc σ H (.int c)) :
    Ev (tChain (rI0 fun i j => .bl (decide (i ≤ j))) (rI0 fun i j => .bl (decide (i ≤ j))) ta tb tc) σ H (.bl (decide (a ≤ b) && decide (b ≤ c))) := fun H1 e Q q =>
  ha H1 e _ fun H2 e2 => hb H2 (e.trans e2) _ fun H3 e3 => ⟨a, b, rfl, rfl, _, rfl, by
    by_cases h : a ≤ b
    · rw [if_pos (decide_eq_true h)]
      exact hc H3 ((e.trans e2).trans e3) _ fun H4 e4 => ⟨b, c, rfl, rfl, by
        have z := q H4 ((e2.trans e3).trans e4)
        rw [decide_eq_true h, Bool.true_and] at z
        exact z⟩
    · rw [if_neg (by simpa using h)]
      have z := q H3 (e2.trans e3)
      rw [decide_eq_false h, Bool.false_and] at z
      exact z⟩
end Evl
namespace Dg
open PySem L2 Evl
/-- the digits of a number, the last one first -/
def dlF (b : Nat) : Nat → Nat → List Nat
  | 0, _ => []
  | k + 1, n => if n = 0 then [] else n % b :: dlF b k (n / b)
def dl (b n : Nat) : List Nat := dlF b n n
theorem dlF_fuel {b : Nat} (hb : 2 ≤ b) : ∀ k n : Nat, n ≤ k → dlF b k n = dl b n := by
  have key : ∀ k n m : Nat, n ≤ k → n ≤ m → dlF b k n = dlF b m n := by
    intro k
    induction k with
    | zero =>
      intro n m h1 h2
      have : n = 0 := by omega
      subst this
      cases m <;> simp [dlF]
    | succ k ih =>
      intro n m h1 h2
      by_cases hn : n = 0
      · subst hn
        cases m <;> simp [dlF]
      · cases m with
        | zero => omega
        | succ m =>
          have hlt : n / b < n := Nat.div_lt_self (by omega) (by omega)
          simp only [dlF, if_neg hn]
          rw [ih (n / b) m (by omega) (by omega)]
  exact fun k n h => key k n n h (Nat.le_refl _)
theorem dl_zero (b : Nat) : dl b 0 = [] := rfl
theorem dl_step {b n : Nat} (hb : 2 ≤ b) (hn : 0 < n) : dl b n = n % b :: dl b (n / b) := by
  obtain ⟨k, rfl⟩ : ∃ k, n = k + 1 := ⟨n - 1, by omega⟩
  have hlt : (k + 1) / b < k + 1 := Nat.div_lt_self (by omega) (by omega)
  show dlF b (k + 1) (k + 1) = _
  simp only [dlF, if_neg (by omega : ¬ k + 1 = 0)]
  rw [dlF_fuel hb k _ (by omega)]
theorem dl_lt {b : Nat} (hb : 2 ≤ b) : ∀ n : Nat, ∀ d ∈ dl b n, d < b := by
  intro n
  induction n using Nat.strongRecOn with
  | ind n ih =>
    intro d hd
    by_cases hn : n = 0
    · subst hn; exact absurd hd (by simp [dl_zero])
    · rw [dl_step hb (by omega)] at hd
      rcases List.mem_cons.mp hd with rfl | h
      · exact Nat.mod_lt _ (by omega)
      · exact ih _ (Nat.div_lt_self (by omega) (by omega)) d h
theorem dl_len {b : Nat} (hb : 2 ≤ b) : ∀ k n : Nat, n < 2 ^ k → (dl b n).length ≤ k := by
  intro k
  induction k with
  | zero =>
    intro n h
    have : n = 0 := by simpa using h
    subst this
    simp [dl_zero]
  | succ k ih =>
    intro n h
    by_cases hn : n = 0
    · subst hn; simp [dl_zero]
    · rw [dl_step hb (by omega), List.length_cons]
      have : n / b < 2 ^ k := by
        have h1 : n / b ≤ n / 2 := Nat.div_le_div_left hb (by decide)
        have h2 : n / 2 < 2 ^ k := by
          rw [Nat.div_lt_iff_lt_mul (by decide)]
          rw [Nat.pow_succ] at h
          exact h
        omega
      have := ih _ this
      omega
/-- a figure -/
def fig (d : Nat) : Str := ⟨#[48 + d]⟩
theorem figs_at {d : Nat} (h : d < 10) : atI ("0123456789" : Str).cps.toList (d : Int) = some (48 + d) := by
  have c : d = 0 ∨ d = 1 ∨ d = 2 ∨ d = 3 ∨ d = 4 ∨ d = 5 ∨ d = 6 ∨ d = 7 ∨ d = 8 ∨ d = 9 := by omega
  rcases c with rfl | rfl | rfl | rfl | rfl | rfl | rfl | rfl | rfl | rfl <;> decide +kernel
/-- what digits tells -/
def digs (b n : Nat) : Str := Txt.join "" (((dl b n).map fig).reverse)
structure TxF (K : PySem.W.Frag) (mg : Str → Option Value) (fi fnum fnb fnn fdg : Addr) : Prop extends TxI K mg fi where
  isNum : mg "is_number" = some (.ref fnum)
  kNum : PySem.W.keepIn K (.ref fnum) = true
  needB : mg "need_base" = some (.ref fnb)
  kNB : PySem.W.keepIn K (.ref fnb) = true
  needN : mg "need_number" = some (.ref fnn)
  kNN : PySem.W.keepIn K (.ref fnn) = true
  digits : mg "digits" = some (.ref fdg)
  kDg : PySem.W.keepIn K (.ref fdg) = true
  divmod : mg "divmod" = none
section
variable {P : Program} {w : World} {K : PySem.W.Frag} {mg : Str → Option Value} {base : Heap} {ca : Nat → Addr} {fi fnum fnb fnn fdg : Addr}
theorem ok_needB {f : Addr} {fd fdi : FuncData} (F : Fun K "need_base" "need_base" sNeedB f fd) (GI : FnOk P w K mg base CX0 1 fi fdi ["value"] (spIsInt K)) (bI : Binds K fdi ["value"] []) (T : TxI K mg fi)
    (M : Mks P K mg (ca 1) ["value"]) (gC : mg "BadBase" = some (.ref (ca 1))) : FnOk P w K mg base (L2.CX P w) 2 f fd ["base"] (spNeed (Bs K) (ca 1)) := by
  refine F.okX scNeedB (fun vs H Q E h => ?_) (fun cdv A outer s H vs Q E hr h => ?_)
  · obtain ⟨v, b, rfl, _⟩ := h
    rfl
  · obtain ⟨v, b, rfl, k, qy, qn⟩ := h
    obtain ⟨t1, hl⟩ := T.least
    obtain ⟨t2, hm⟩ := T.most
    refine ⟨_, pss_one (ps_if (PW.pt (pw_or (pt_not (pt_val (pe_call GI hr (by rfl) T.isInt T.kInt bI .nil pass0 (pa_cons (pv 0) pa_nil)))) (pw_or1 (pt_not (pt_chain op_le op_le (pe_glob (by rfl) hl (v := .int 2) ⟨_, rfl⟩) (pv 0) (pe_glob (by rfl) hm (v := .int 10) ⟨_, rfl⟩))))))
      (pss_one (ps_raise rfl (takes_of rfl rfl rfl rfl) (pmk_mks M T.sup hr (by simp) (pa_cons (pv 0) pa_nil) (by rfl) gC))) pss_nil), ?_⟩
    cases k with
    | int i =>
      refine s_when (b := !(decide (2 ≤ i) && decide (i ≤ 10))) (et_is (et_or (et_not (et_B (ev_callI (ev_var rfl) (.int i)))) fun _ => et_not (et_test (ev_chI ev_c (ev_var rfl) ev_c))) (by simp)) (fun z H1 e => ?_) (fun z H1 e => qy (by simpa using z) H1 e)
      exact ⟨_, rfl, rfl, fun d hd => qn (by rw [Bool.not_eq_true'] at z; exact z) H1 d e hd⟩
    | oth h =>
      refine s_when (b := true) (et_is (et_or (b := true) (et_not (et_B (ev_callI (ev_var rfl) h))) fun z => nomatch z) (by simp)) (fun z H1 e => ?_) (fun z => nomatch z)
      exact ⟨_, rfl, rfl, fun d hd => qn rfl H1 d e hd⟩
/-- digits(base, number) -/
def spDigits (K : PySem.W.Frag) (ca : Nat → Addr) : Sp := fun vs H Q E => ∃ vb vn b c, vs = [vb, vn] ∧ Bs K H vb b ∧ Nm K H vn c ∧ (b = false → Leaves (ca 1) "value" vb H E) ∧ (b = true → c = false → Leaves (ca 2) "value" vn H E) ∧
  (b = true → c = true → ∃ β n : Nat, vb = .int β ∧ vn = .int n ∧ 2 ≤ β ∧ β ≤ 10 ∧ 1 ≤ n ∧ n < 2 ^ 50000 ∧ RetV (.str (digs β n)) H Q)
theorem scDigits : FnScope ["base", "number", "figures", "figure"] ["base", "number"] (defScope sDigits) := ⟨rfl, rfl, rfl, by decide +kernel, rfl, by decide +kernel, by decide +kernel⟩
theorem ok_digits {f : Addr} {fd fdb fdn : FuncData} (F : Fun K "digits" "digits" sDigits f fd) (GB : FnOk P w K mg base (L2.CX P w) 3 fnb fdb ["base"] (spNeed (Bs K) (ca 1))) (bB : Binds K fdb ["base"] [])
    (GN : FnOk P w K mg base (L2.CX P w) 3 fnn fdn ["number"] (spNeed (Nm K) (ca 2))) (bN : Binds K fdn ["number"] []) (T : TxF K mg fi fnum fnb fnn fdg) : FnOk P w K mg base (L2.CX P w) 4 f fd ["base", "number"] (spDigits K ca) := by
  refine F.okX scDigits (fun vs H Q E h => ?_) (fun cdv A outer s H vs Q E hr h => ?_)
  · obtain ⟨v, _, _, _, rfl, _⟩ := h
    rfl
  · obtain ⟨vb, vn, b, c, rfl, kb, kn, l1, l2, hq⟩ := h
    obtain ⟨t1, hf⟩ := T.fig
    refine ⟨_, pss_cons (ps_expr (pe_callS GB hr (by rfl) T.needB T.kNB bB (fun σ => passAt (takes_of rfl rfl rfl rfl) σ) (pa_cons (pv 0) pa_nil)))
      (pss_cons (ps_expr (pe_callS GN hr (by rfl) T.needN T.kNN bN (fun σ => passAt (takes_of rfl rfl rfl rfl) σ) (pa_cons (pv 1) pa_nil)))
      (pss_cons (ps_set (i := 2) scDigits.nd rfl (.inl rfl) (pe_lst pa_nil))
      (pss_cons (ps_while (passes_of rfl) (pt_cmpR op_gt (pv 1) pe_int (nomark _))
        (pss_cons (ps_asg (pe_callB call_divmod (by rfl) T.divmod (by decide +kernel) (pa_cons (pv 1) (pa_cons (pv 0) pa_nil))) (pg_tup (by rfl) (pgs_cons (pg_name (i := 1) scDigits.nd rfl (.inl rfl)) (pgs_cons (pg_name (i := 3) scDigits.nd rfl (.inl rfl)) pgs_nil))))
          (pss_one (ps_expr (pe_bm PySem.F.plainAttrs_list PySem.F.slot_list_append PySem.F.type_list_append mt_append (pv 2) (pa_cons (pe_ix ix_str (pe_glob (by rfl) hf (v := .str "0123456789") ⟨_, rfl⟩) (pv 3) (fun _ _ => rfl)) pa_nil))))))
      (pss_one (ps_ret (pe_join pe_str (pe_back (pv 2)))))))), ?_⟩
    refine ⟨_, rfl, vb, b, rfl, kb, fun hb H1 e1 => ?_, fun hb => ?_⟩
    · refine ⟨_, rfl, vn, c, rfl, kn.ex e1, fun hc H2 e2 => ?_, fun hc => (l2 hb hc).go e1⟩
      obtain ⟨β, n, rfl, rfl, b2, b10, n1, nz, q⟩ := hq hb hc
      refine ⟨Nat.zero_le _, fun fl hfl => ?_⟩
      refine q_while (fun m σ' H' => ∃ (done : List Nat) (x3 : Option V), σ' = [some (.int β), some (.int (m : Int)), some (.ref fl), x3] ∧ H' fl = some (.lst (done.map fun d => V.str (fig d))) ∧ done ++ dl β m = dl β n ∧ Ex H2 H') n
        ⟨[], none, rfl, upd_same, rfl, Ex.new hfl⟩ (fun m σ' H' ⟨done, x3, hσ, hL, hd, ex⟩ => ⟨decide ((0 : Int) < (m : Int)), ?_, fun z H4 e4 => ?_, fun z H4 e4 => ?_⟩)
      · subst hσ
        exact et_test (ev_op (ev_var rfl) ev_c rv_I0)
      · subst hσ
        have m0 : 0 < m := by
          have := of_decide_eq_true z
          omega
        refine ⟨fun σ2 H5 => σ2 = [some (.int β), some (.int ((m / β : Nat) : Int)), some (.ref fl), some (.int ((m % β : Nat) : Int))] ∧ H5 fl = some (.lst ((done ++ [m % β]).map fun d => V.str (fig d))) ∧ Ex H2 H5, fun σ2 H5 ⟨a, b, c⟩ => ⟨m / β, Nat.div_lt_self m0 (by omega), done ++ [m % β], _, a, b, ?_, c⟩, ?_⟩
        · rw [List.append_assoc, List.singleton_append, ← dl_step (by omega) m0]
          exact hd
        · have hlt : m % β < 10 := Nat.lt_of_lt_of_le (Nat.mod_lt _ (by omega)) b10
          refine ⟨_, rfl, _, rfl, (m : Int), (β : Int), rfl, ⟨by omega, by omega⟩, fun p hp => ⟨p, _, rfl, st_of upd_same, rfl, _, _, rfl, _, _, rfl, rfl, ?_⟩⟩
          have hfl4 := (Ex.new (o := .tup [.int ((m : Int) / (β : Int)), .int ((m : Int) % (β : Int))]) hp) _ _ (e4 _ _ hL)
          refine s_app hfl4 (ev_var rfl) (ev_op (σ := [some (.int β), some (.int ((m / β : Nat) : Int)), some (.ref fl), some (.int ((m % β : Nat) : Int))]) ev_c (ev_var rfl) (rv_ixS (by decide) (figs_at hlt))) ?_ fun H5 e5 => ⟨rfl, ?_, ?_⟩
          · rw [List.length_map]
            have h1 := congrArg List.length hd
            rw [List.length_append] at h1
            have hz := dl_len b2 50000 n nz
            clear nz
            omega
          · rw [upd_same, List.map_append]
            rfl
          · exact ((ex.trans e4).trans ((Ex.new hp).trans e5)).mut hfl
      · subst hσ
        have m0 : m = 0 := by
          have := of_decide_eq_false z
          omega
        subst m0
        rw [dl_zero, List.append_nil] at hd
        subst hd
        refine ⟨⟨_, rfl⟩, _, rfl, fl, _, rfl, sq_of (e4 _ _ hL), fun p hp => ⟨"", p, ((dl β n).map fig).reverse, rfl, rfl, .inl (sq_of ?_), ?_, ?_⟩⟩
        · rw [upd_same, List.map_reverse, List.map_map]
          rfl
        · have h1 : ∀ l : List Nat, ((l.map fig).map (·.length)).sum = l.length := fun l => by
            induction l with
            | nil => rfl
            | cons d l ih =>
              simp only [List.map_cons, List.sum_cons, List.length_cons, ih]
              have : (fig d).length = 1 := rfl
              omega
          have hz := dl_len b2 50000 n nz
          clear nz
          rw [← List.map_reverse, h1, List.length_reverse]
          have e0 : ("" : Str).length = 0 := by decide
          rw [e0, Nat.mul_zero]
          omega
        · exact q _ (((e1.trans e2).trans ex).trans (e4.trans (Ex.new hp)))
    · exact l1 hb
end
end Dg

namespace Evl
open PySem L2
/-- a comprehension over the signs of a text -/
theorem el_lcS {x : Str} {σ : St} {H : Hp} {tl : TE} {te : TE} {j : Nat} {vs : List Nat} (v : Nat → V) (h : Ev tl σ H (.str x)) (hz : x.length ≤ 40000) (hw : ∀ y, wipe ((wipe σ vs).set j (some y)) vs = wipe σ vs)
    (he : ∀ (i c : Nat) H1, Ex H H1 → x.cps[i]? = some c → Ev te ((wipe σ vs).set j (some (.str ⟨#[c]⟩))) H1 (v c)) :
    EvL (tLc (iStr tl) (gName j) tYes te vs) σ H (x.cps.toList.map v) := fun H0 e Q q => h H0 e _ fun H1 e1 => ⟨x, rfl, fun D hD => by
  have sz : x.cps.toList.length = x.cps.size := Array.length_toList
  refine ⟨fun i m H' => m = x.cps.size - i ∧ i ≤ x.cps.size ∧ H' D = some (.lst ((x.cps.toList.take i).map v)) ∧ Ex H1 H', ⟨x.cps.size, by simp, Nat.zero_le _, by simp [upd_same], Ex.new hD⟩, ?_⟩
  rintro i m H' ⟨rfl, hi, hL, ex⟩
  by_cases hlt : i < x.cps.size
  · refine .inr ⟨hlt, fun H2 => H2 D = some (.lst ((x.cps.toList.take (i + 1)).map v)) ∧ Ex H1 H2, fun H2 ⟨a, b⟩ => ⟨x.cps.size - (i + 1), by omega, rfl, hlt, a, b⟩, fun y H2 hy => ?_⟩
    obtain ⟨rfl, c, hc, rfl⟩ := hy
    refine ⟨hw _, ?_⟩
    rw [show (tYes : TT) = fun _ H Q => Q true H from rfl]
    dsimp only
    rw [if_pos rfl]
    refine he i c H2 ((e.trans e1).trans ex) hc H2 (Ex.refl _) _ fun H4 e4 => ⟨_, e4 _ _ hL, ?_, ?_, ?_⟩
    · rw [List.length_map, List.length_take, sizeLine_eq]
      have : x.cps.size ≤ 40000 := hz
      omega
    · rw [upd_same, List.take_add_one, List.map_append]
      have : x.cps.toList[i]? = some c := by rw [Array.getElem?_toList]; exact hc
      rw [this]
      rfl
    · exact (ex.trans e4).mut hD
  · have e3 : i = x.cps.size := by omega
    subst e3
    refine .inl ⟨Nat.le_refl _, q D H' (fresh_back e1 hD) (e1.trans ex) ?_⟩
    rw [List.take_of_length_le (by rw [sz]; exact Nat.le_refl _)] at hL
    exact hL⟩
end Evl
namespace Dg
open PySem L2 Evl TL
theorem joinL_nil : ∀ ls : List (List Nat), joinL [] ls = ls.flatten
  | [] => rfl
  | [p] => by simp [joinL]
  | p :: q :: r => by simp [joinL, joinL_nil (q :: r)]
theorem flat_one : ∀ l : List Nat, (l.map fun d => [48 + d]).flatten = l.map (48 + ·)
  | [] => rfl
  | d :: l => by simp [flat_one l]
theorem tl_digs (b n : Nat) : tl (digs b n) = (dl b n).reverse.map (48 + ·) := by
  unfold digs
  rw [join_eq, tl_join]
  show joinL [] _ = _
  rw [joinL_nil, List.map_reverse, List.map_map]
  have e : (tl ∘ fig) = fun d => [48 + d] := funext fun d => rfl
  rw [e, ← List.map_reverse, flat_one]
theorem digs_len (b n : Nat) : (digs b n).length = (dl b n).length := by
  show (digs b n).cps.size = _
  rw [← Array.length_toList, show (digs b n).cps.toList = tl (digs b n) from rfl, tl_digs, List.length_map, List.length_reverse]
/-- whether a value is a text of 1 to so many digits of a base -/
def isFigs (β m : Nat) (x : Str) : Bool := (decide (1 ≤ x.length) && decide (x.length ≤ m)) && (tl x).all fun c => decide (48 ≤ c ∧ c < 48 + β)
def figsO (β m : Nat) : Option Str → Bool
  | some x => isFigs β m x
  | none => false
inductive Tx (K : PySem.W.Frag) (H : Hp) : V → Option Str → Prop
  | str (x : Str) : Tx K H (.str x) (some x)
  | oth {v : V} {a : String} (t : TyX K H v (.type a)) (h : kitB a "str" = some false) : Tx K H v none
theorem Tx.ex {K : PySem.W.Frag} {H H' : Hp} {v : V} {b : Option Str} (e : Ex H H') (k : Tx K H v b) : Tx K H' v b := by
  cases k with
  | str x => exact .str x
  | oth t h => exact .oth (tyx_ex e t) h
theorem cut_figs {β : Nat} (h2 : 2 ≤ β) (h10 : β ≤ 10) (c : Nat) : decide (c ∈ (cutS "0123456789" none (some (β : Int))).cps.toList) = decide (48 ≤ c ∧ c < 48 + β) := by
  have e : (cutS "0123456789" none (some (β : Int))).cps.toList = (List.range β).map (48 + ·) := by
    have cc : β = 2 ∨ β = 3 ∨ β = 4 ∨ β = 5 ∨ β = 6 ∨ β = 7 ∨ β = 8 ∨ β = 9 ∨ β = 10 := by omega
    rcases cc with rfl | rfl | rfl | rfl | rfl | rfl | rfl | rfl | rfl <;> decide +kernel
  rw [e]
  apply decide_eq_decide.mpr
  rw [List.mem_map]
  constructor
  · rintro ⟨a, ha, rfl⟩
    have := List.mem_range.mp ha
    omega
  · rintro ⟨a, b⟩
    exact ⟨c - 48, List.mem_range.mpr (by omega), by omega⟩
section
variable {P : Program} {w : World} {K : PySem.W.Frag} {mg : Str → Option Value} {base : Heap} {ca : Nat → Addr} {fi fnum fnb fnn fdg : Addr}
theorem ev_allL {σ : St} {H : Hp} {te : TE} {bs : List Bool} (h : EvL te σ H (bs.map V.bl)) : Ev (tCB (rAll K) (tCons te tNil)) σ H (.bl (bs.all id)) := fun H1 e Q q =>
  h H1 e _ fun p H2 hp e2 h2 => ⟨p, bs, rfl, sq_of h2, q H2 e2⟩
/-- length(base, number) -/
def spLength (K : PySem.W.Frag) (ca : Nat → Addr) : Sp := fun vs H Q E => ∃ vb vn b c, vs = [vb, vn] ∧ Bs K H vb b ∧ Nm K H vn c ∧ (b = false → Leaves (ca 1) "value" vb H E) ∧ (b = true → c = false → Leaves (ca 2) "value" vn H E) ∧
  (b = true → c = true → ∃ β n : Nat, vb = .int β ∧ vn = .int n ∧ 2 ≤ β ∧ β ≤ 10 ∧ 1 ≤ n ∧ n < 2 ^ 50000 ∧ RetV (.int (dl β n).length) H Q)
theorem scLength : FnScope ["base", "number"] ["base", "number"] (defScope sLength) := ⟨rfl, rfl, rfl, by decide +kernel, rfl, by decide +kernel, by decide +kernel⟩
theorem ok_length {f : Addr} {fd fdd : FuncData} (F : Fun K "length" "length" sLength f fd) (GD : FnOk P w K mg base (L2.CX P w) 4 fdg fdd ["base", "number"] (spDigits K ca)) (bD : Binds K fdd ["base", "number"] []) (T : TxF K mg fi fnum fnb fnn fdg) :
    FnOk P w K mg base (L2.CX P w) 5 f fd ["base", "number"] (spLength K ca) := by
  refine F.okX scLength (fun vs H Q E h => ?_) (fun cdv A outer s H vs Q E hr h => ?_)
  · obtain ⟨v, _, _, _, rfl, _⟩ := h
    rfl
  · obtain ⟨vb, vn, b, c, rfl, kb, kn, l1, l2, hq⟩ := h
    refine ⟨_, pss_one (ps_ret (pe_callB call_len_str (by rfl) T.len (by decide +kernel) (pa_cons (pe_callS GD hr (by rfl) T.digits T.kDg bD (fun σ => passAt (takes_of rfl rfl rfl rfl) σ) (pa_cons (pv 0) (pa_cons (pv 1) pa_nil))) pa_nil))), ?_⟩
    refine ⟨_, rfl, _, rfl, vb, vn, b, c, rfl, kb, kn, l1, l2, fun hb hc => ?_⟩
    obtain ⟨β, n, rfl, rfl, b2, b10, n1, nz, q⟩ := hq hb hc
    refine ⟨β, n, rfl, rfl, b2, b10, n1, nz, fun H1 e1 => ⟨_, rfl, ?_, ?_⟩⟩
    · rw [digs_len, sizeLine_eq]
      have hz := dl_len b2 50000 n nz
      clear nz q
      omega
    · rw [digs_len]
      exact q H1 e1
/-- is_figures(base, value, most) -/
def spIsFig (K : PySem.W.Frag) : Sp := fun vs H Q _ => ∃ (β m : Nat) (v : V) (o : Option Str), vs = [.int β, v, .int m] ∧ 2 ≤ β ∧ β ≤ 10 ∧ m ≤ 40000 ∧ Tx K H v o ∧ (∀ x, o = some x → x.length ≤ sizeLine) ∧ RetV (.bl (figsO β m o)) H Q
theorem scIsFig : FnScope ["base", "value", "most", "figure"] ["base", "value", "most"] (defScope sIsFig) := ⟨rfl, rfl, rfl, by decide +kernel, rfl, by decide +kernel, by decide +kernel⟩
theorem ok_isFig {f : Addr} {fd : FuncData} (F : Fun K "is_figures" "is_figures" sIsFig f fd) (T : TxG mg) (mA : mg "all" = none) : FnOk P w K mg base CX0 1 f fd ["base", "value", "most"] (spIsFig K) := by
  refine F.ok scIsFig (fun vs H Q E h => ?_) (fun cdv A outer s H vs Q E hr h => ?_)
  · obtain ⟨_, _, _, _, rfl, _⟩ := h
    rfl
  · obtain ⟨β, m, v, o, rfl, b2, b10, hm, k, hz, q⟩ := h
    obtain ⟨t1, hf⟩ := T.fig
    refine ⟨_, pss_cons (ps_if (PW.pt (pw_or (pt_not (pt_val (pe_callB call_isi (by rfl) T.isi (by decide +kernel) (pa_cons (pv 1) (pa_cons (pe_bltn (by rfl) T.str (by decide +kernel) (v := .ty "str") rfl) pa_nil))))) (pw_or1 (pt_not (pt_chain op_le op_le pe_int (pe_callB call_len_str (by rfl) T.len (by decide +kernel) (pa_cons (pv 1) pa_nil)) (pv 2)))))) (pss_one (ps_ret pe_bl)) pss_nil)
      (pss_one (ps_ret (pe_callB (cr_all rfl) (by rfl) mA (by decide +kernel) (pa_cons (pe_lc (own := [("figure", 3)]) (g := gName 3) (tt := tYes) rfl scIsFig.nd (pi_str (pv 1)) (blkOk_by (own := [("figure", 3)]) (N := ["base", "value", "most", "figure"]) (sc := defScope sIsFig) (by decide +kernel)) (fun _ _ _ _ _ => pg_name (i := 3) scIsFig.nd rfl (Or.inl rfl)) (fun _ _ _ _ _ => pts_nil)
        (fun _ _ _ _ _ => pe_cmpR op_in_sign (pv 3) (pe_slice (sl_str) (pe_glob (by rfl) hf (v := .str "0123456789") ⟨_, rfl⟩) po_none (po_some (pv 0))) (by rfl))) pa_nil)))), ?_⟩
    cases k with
    | oth t h =>
      exact q_when (b := true) (et_is (et_or (b := true) (et_not (et_B (ev_isi (ev_var rfl) t h))) fun z => nomatch z) (by simp)) (fun z H1 e => q H1 e) (fun z => nomatch z)
    | str x =>
      have hx := hz x rfl
      have eT : Ev (tCB (fun xs H Q => ∃ z : Str, xs = [.str z] ∧ z.length ≤ sizeLine ∧ Q (.int z.length) H) (tCons (tVar 1) tNil)) (L2.start ["base", "value", "most", "figure"] [.int β, .str x, .int m]) H (.int (x.length : Int)) :=
        ev_cb (ea_cons (ev_var rfl) ea_nil) fun H1 e Q q => ⟨x, rfl, hx, q _ (Ex.refl _)⟩
      refine q_when (b := !(decide ((1 : Int) ≤ (x.length : Int)) && decide ((x.length : Int) ≤ (m : Int)))) (et_is (et_or (et_not (et_B (ev_isi (r := true) (ev_var rfl) (.base (.str x)) (by decide +kernel)))) fun _ => et_not (et_test (ev_chI ev_c eT (ev_var rfl)))) (by simp)) (fun z H1 e => ?_) (fun z H1 e => ?_)
      · have e0 : isFigs β m x = false := by
          rw [Bool.not_eq_true'] at z
          unfold isFigs
          have : (decide (1 ≤ x.length) && decide (x.length ≤ m)) = false := by
            rw [← z]
            congr 1 <;> exact decide_eq_decide.mpr (by omega)
          rw [this, Bool.false_and]
        have q' := q
        dsimp only [figsO] at q'
        rw [e0] at q'
        exact q' H1 e
      · have z' : (decide ((1 : Int) ≤ (x.length : Int)) && decide ((x.length : Int) ≤ (m : Int))) = true := by simpa using z
        have hlen : x.length ≤ 40000 := by
          have := of_decide_eq_true (Bool.and_eq_true_iff.mp z').2
          omega
        have e1 : isFigs β m x = ((tl x).map fun c => decide (48 ≤ c ∧ c < 48 + β)).all id := by
          unfold isFigs
          have : (decide (1 ≤ x.length) && decide (x.length ≤ m)) = true := by
            rw [← z']
            congr 1 <;> exact decide_eq_decide.mpr (by omega)
          rw [this, Bool.true_and, List.all_map]
          rfl
        have q' := q
        dsimp only [figsO] at q'
        rw [e1] at q'
        refine s_ret (ev_allL (bs := (tl x).map fun c => decide (48 ≤ c ∧ c < 48 + β)) ?_) fun H2 e2 => q' H2 (e.trans e2)
        rw [List.map_map]
        refine el_lcS (v := fun c => V.bl (decide (48 ≤ c ∧ c < 48 + β))) (ev_var rfl) hlen (fun _ => rfl) (fun i c H2 e2 hc => ?_)
        refine ev_is (ev_op (ev_var rfl) (y := .str (cutS "0123456789" none (some (β : Int)))) (fun H3 e3 Q q => ⟨_, rfl, _, rfl, _, rfl, by decide, q H3 (Ex.refl _)⟩) (z := .bl (decide (c ∈ (cutS "0123456789" none (some (β : Int))).cps.toList))) (fun H3 e3 Q q => ⟨c, _, rfl, rfl, q H3 (Ex.refl _)⟩)) ?_
        rw [cut_figs b2 b10]
end
end Dg

/-! Things as data: what lies at the heap is that data; what a rule is, of data. -/
namespace Dt
open PySem L2 Evl Dg LamR LamX
open Dr (StAt SameB)
mutual
/-- the thing is that data, as the heap stands; texts are short -/
inductive Pt (H : Hp) : V → PyData → Prop
  | non : Pt H .non .none
  | bl (b : Bool) : Pt H (.bl b) (.bool b)
  | int (i : Int) : Pt H (.int i) (.int i)
  | str (x : Str) (h : x.length ≤ 3000) : Pt H (.str x) (.str x)
  | tup {a : Addr} {vs : List V} {ds : List PyData} : H a = some (.tup vs) → PtAll H vs ds → Pt H (.ref a) (.tuple ds)
  | lst {a : Addr} {vs : List V} {ds : List PyData} : H a = some (.lst vs) → PtAll H vs ds → Pt H (.ref a) (.list ds)
  | nil {a : Addr} : H a = some (.dK []) → Pt H (.ref a) (.dict [])
inductive PtAll (H : Hp) : List V → List PyData → Prop
  | nil : PtAll H [] []
  | cons {v : V} {d : PyData} {vs : List V} {ds : List PyData} : Pt H v d → PtAll H vs ds → PtAll H (v :: vs) (d :: ds)
end
mutual
theorem Pt.extN {H H' : Hp} (e : ExtN H H') : ∀ {v : V} {d : PyData}, Pt H v d → Pt H' v d
  | _, .none, h => by cases h; exact .non
  | _, .bool _, h => by cases h; exact .bl _
  | _, .int _, h => by cases h; exact .int _
  | _, .str _, h => by cases h with | str _ z => exact .str _ z
  | _, .tuple ds, h => by
    cases h with
    | tup hs ha => exact .tup (e _ _ hs (by simp)) (PtAll.extN e ha)
  | _, .list ds, h => by
    cases h with
    | lst hs ha => exact .lst (e _ _ hs (by simp)) (PtAll.extN e ha)
  | _, .dict _, h => by
    cases h with
    | nil hs => exact .nil (e _ _ hs (by simp))
theorem PtAll.extN {H H' : Hp} (e : ExtN H H') : ∀ {vs : List V} {ds : List PyData}, PtAll H vs ds → PtAll H' vs ds
  | _, [], h => by cases h; exact .nil
  | _, d :: ds, h => by
    cases h with
    | cons h1 h2 => exact .cons (Pt.extN e h1) (PtAll.extN e h2)
end
theorem Pt.ex {H H' : Hp} (e : Ex H H') {v : V} {d : PyData} (h : Pt H v d) : Pt H' v d := h.extN (ExtN.of e)
theorem PtAll.ex {H H' : Hp} (e : Ex H H') {vs : List V} {ds : List PyData} (h : PtAll H vs ds) : PtAll H' vs ds := h.extN (ExtN.of e)
def isI : PyData → Bool
  | .int _ => true
  | _ => false
mutual
/-- no list in it is a row of integers alone -/
def okD : PyData → Bool
  | .list ds => !(ds.all isI && !ds.isEmpty) && okDs ds
  | .tuple ds => okDs ds
  | _ => true
def okDs : List PyData → Bool
  | [] => true
  | d :: ds => okD d && okDs ds
end
theorem PtAll.ints {H : Hp} : ∀ {is : List Int} {ds : List PyData}, PtAll H (is.map V.int) ds → ds.all isI = true ∧ ds.length = is.length
  | [], ds, h => by
    cases h
    exact ⟨rfl, rfl⟩
  | i :: is, ds, h => by
    cases h with
    | cons h1 h2 =>
      obtain ⟨a, b⟩ := PtAll.ints h2
      cases h1
      exact ⟨by simp [isI, a], by simp [b]⟩
mutual
theorem Pt.same {H H' : Hp} {p c l : Addr} {n : Nat} {a : Int} (S : StAt H p c l n a) (e : SameB H H' p l) : ∀ {v : V} {d : PyData}, Pt H v d → okD d = true → Pt H' v d
  | _, .none, h, _ => by cases h; exact .non
  | _, .bool _, h, _ => by cases h; exact .bl _
  | _, .int _, h, _ => by cases h; exact .int _
  | _, .str _, h, _ => by cases h with | str _ z => exact .str _ z
  | _, .tuple ds, h, k => by
    cases h with
    | tup hs ha =>
      obtain ⟨ls, hl, _⟩ := S.l
      exact .tup (e _ _ hs (ne_of hs S.d (by intro z; cases z)) (ne_of hs hl (by intro z; cases z))) (PtAll.same S e ha (by rw [okD] at k; exact k))
  | _, .list ds, h, k => by
    cases h with
    | @lst a vs _ hs ha =>
      obtain ⟨ls, hl, hn⟩ := S.l
      rw [okD, Bool.and_eq_true] at k
      refine .lst (e _ _ hs (ne_of hs S.d (by intro z; cases z)) (fun z => ?_)) (PtAll.same S e ha k.2)
      rw [z, hl] at hs
      have hv : vs = ls.map V.int := by
        injection hs with hs
        injection hs with hs
        exact hs.symm
      rw [hv] at ha
      obtain ⟨q1, q2⟩ := PtAll.ints ha
      have n0 := S.n0
      have : ds.isEmpty = false := by
        cases ds with
        | nil =>
          rw [List.length_nil] at q2
          omega
        | cons _ _ => rfl
      rw [q1, this] at k
      exact absurd k.1 (by decide)
  | _, .dict _, h, _ => by
    cases h with
    | nil hs =>
      obtain ⟨ls, hl, _⟩ := S.l
      refine .nil (e _ _ hs (fun z => ?_) (ne_of hs hl (by intro z; cases z)))
      rw [z, S.d] at hs
      injection hs with hs
      injection hs with hs
      cases hs
theorem PtAll.same {H H' : Hp} {p c l : Addr} {n : Nat} {a : Int} (S : StAt H p c l n a) (e : SameB H H' p l) : ∀ {vs : List V} {ds : List PyData}, PtAll H vs ds → okDs ds = true → PtAll H' vs ds
  | _, [], h, _ => by cases h; exact .nil
  | _, d :: ds, h, k => by
    cases h with
    | cons h1 h2 =>
      rw [okDs, Bool.and_eq_true] at k
      exact .cons (Pt.same S e h1 k.1) (PtAll.same S e h2 k.2)
end
theorem PtAll.length {H : Hp} : ∀ {vs : List V} {ds : List PyData}, PtAll H vs ds → vs.length = ds.length
  | _, [], h => by cases h; rfl
  | _, d :: ds, h => by
    cases h with
    | cons h1 h2 => rw [List.length_cons, List.length_cons, PtAll.length h2]
theorem PtAll.get {H : Hp} : ∀ {vs : List V} {ds : List PyData}, PtAll H vs ds → ∀ {i : Nat} {d : PyData}, ds[i]? = some d → ∃ v, vs[i]? = some v ∧ Pt H v d
  | _, [], h, i, d, hd => by simp at hd
  | _, d :: ds, h, i, d', hd => by
    cases h with
    | cons h1 h2 =>
      cases i with
      | zero =>
        simp only [List.getElem?_cons_zero, Option.some.injEq] at hd
        subst hd
        exact ⟨_, rfl, h1⟩
      | succ i =>
        simp only [List.getElem?_cons_succ] at hd
        obtain ⟨v, hv, k⟩ := PtAll.get h2 hd
        exact ⟨v, by simpa using hv, k⟩
theorem PtAll.get2 {H : Hp} : ∀ {vs : List V} {ds : List PyData}, PtAll H vs ds → ∀ {i : Nat} {v : V}, vs[i]? = some v → ∃ d, ds[i]? = some d ∧ Pt H v d
  | _, [], h, i, v, hv => by
    cases h
    simp at hv
  | _, d :: ds, h, i, v', hv => by
    cases h with
    | cons h1 h2 =>
      cases i with
      | zero =>
        simp only [List.getElem?_cons_zero, Option.some.injEq] at hv
        subst hv
        exact ⟨_, rfl, h1⟩
      | succ i =>
        simp only [List.getElem?_cons_succ] at hv
        obtain ⟨d, hd, k⟩ := PtAll.get2 h2 hv
        exact ⟨d, by simpa using hd, k⟩
theorem PtAll.app {H : Hp} : ∀ {vs : List V} {ds : List PyData}, PtAll H vs ds → ∀ {ws : List V} {es : List PyData}, PtAll H ws es → PtAll H (vs ++ ws) (ds ++ es)
  | _, [], h, ws, es, k => by cases h; exact k
  | _, d :: ds, h, ws, es, k => by
    cases h with
    | cons h1 h2 => exact .cons h1 (PtAll.app h2 k)
theorem PtAll.take {H : Hp} : ∀ {vs : List V} {ds : List PyData}, PtAll H vs ds → ∀ n : Nat, PtAll H (vs.take n) (ds.take n)
  | _, [], h, n => by
    cases h
    rw [List.take_nil, List.take_nil]
    exact .nil
  | _, d :: ds, h, n => by
    cases h with
    | cons h1 h2 =>
      cases n with
      | zero => exact .nil
      | succ n =>
        rw [List.take_succ_cons, List.take_succ_cons]
        exact .cons h1 (PtAll.take h2 n)
/-- its type -/
def tyN : PyData → String
  | .none => "NoneType"
  | .bool _ => "bool"
  | .int _ => "int"
  | .str _ => "str"
  | .tuple _ => "tuple"
  | .list _ => "list"
  | .dict _ => "dict"
def isT : PyData → Bool
  | .tuple _ => true
  | _ => false
def isS : PyData → Bool
  | .str _ => true
  | _ => false
section
variable {K : PySem.W.Frag} {H : Hp} {v : V} {d : PyData}
theorem Pt.ty (h : Pt H v d) : TyX K H v (.type (tyN d)) := by
  cases h with
  | non => exact .base .non
  | bl b => exact .base (.bl b)
  | int i => exact .base (.int i)
  | str x _ => exact .base (.str x)
  | tup h _ => exact .base (.tup h)
  | lst h _ => exact .base (.lst h)
  | nil h => exact .base (.dK h)
theorem kit_tup (d : PyData) : kitB (tyN d) "tuple" = some (isT d) := by
  cases d <;> simp only [tyN, isT] <;> decide +kernel
theorem kit_str (d : PyData) : kitB (tyN d) "str" = some (isS d) := by
  cases d <;> simp only [tyN, isS] <;> decide +kernel
theorem Pt.kn (h : Pt H v d) : Kn K H v (isI d) := by
  have t : TyX K H v (.type (tyN d)) := h.ty
  cases h with
  | int i => exact .int i
  | non => exact .oth (x := false) (y := false) t (by show kitB "NoneType" "int" = _; decide +kernel) (by show kitB "NoneType" "bool" = _; decide +kernel) rfl
  | bl b => exact .oth (x := true) (y := true) t (by show kitB "bool" "int" = _; decide +kernel) (by show kitB "bool" "bool" = _; decide +kernel) rfl
  | str x _ => exact .oth (x := false) (y := false) t (by show kitB "str" "int" = _; decide +kernel) (by show kitB "str" "bool" = _; decide +kernel) rfl
  | tup h _ => exact .oth (x := false) (y := false) t (by show kitB "tuple" "int" = _; decide +kernel) (by show kitB "tuple" "bool" = _; decide +kernel) rfl
  | lst h _ => exact .oth (x := false) (y := false) t (by show kitB "list" "int" = _; decide +kernel) (by show kitB "list" "bool" = _; decide +kernel) rfl
  | nil h => exact .oth (x := false) (y := false) t (by show kitB "dict" "int" = _; decide +kernel) (by show kitB "dict" "bool" = _; decide +kernel) rfl
def txtD : PyData → Option Str
  | .str x => some x
  | _ => none
theorem Pt.tx (h : Pt H v d) : Tx K H v (txtD d) ∧ ∀ x, txtD d = some x → x.length ≤ sizeLine := by
  have t : TyX K H v (.type (tyN d)) := h.ty
  have k := kit_str d
  cases h with
  | str x z => exact ⟨.str x, fun y e => by
      cases e
      exact Nat.le_trans z (by rw [sizeLine_eq]; decide)⟩
  | non => exact ⟨.oth t k, fun y e => by cases e⟩
  | bl b => exact ⟨.oth t k, fun y e => by cases e⟩
  | int i => exact ⟨.oth t k, fun y e => by cases e⟩
  | tup h _ => exact ⟨.oth t k, fun y e => by cases e⟩
  | lst h _ => exact ⟨.oth t k, fun y e => by cases e⟩
  | nil h => exact ⟨.oth t k, fun y e => by cases e⟩
theorem ev_isiT {σ : St} {te : TE} (h : Ev te σ H v) (k : Pt H v d) : Ev (tCB (rIsi K) (tCons te (tCons (tC (.ty "tuple")) tNil))) σ H (.bl (isT d)) := ev_isi h k.ty (kit_tup d)
theorem ev_isiS {σ : St} {te : TE} (h : Ev te σ H v) (k : Pt H v d) : Ev (tCB (rIsi K) (tCons te (tCons (tC (.ty "str")) tNil))) σ H (.bl (isS d)) := ev_isi h k.ty (kit_str d)
end
/-- an integer from a least one to 6 -/
def sizeB (l : Int) : PyData → Bool
  | .int i => decide (l ≤ i) && decide (i ≤ 6)
  | _ => false
def intD : PyData → Int
  | .int i => i
  | _ => 0
def isN : PyData → Bool
  | .none => true
  | _ => false
def boundsB (a b : PyData) : Bool := sizeB 1 a && (isN b || sizeB (intD a) b)
def tupD : PyData → List PyData
  | .tuple ds => ds
  | _ => []
def eqS (w : Str) : PyData → Bool
  | .str x => decide (x = w)
  | _ => false
def begB (d : PyData) (w : Str) (n : Nat) : Bool := isT d && (decide ((tupD d).length = n) && eqS w ((tupD d).headD .none))
def at_ (i : Nat) (d : PyData) : PyData := (tupD d).getD i .none
def condB (β : Nat) (d : PyData) : Bool :=
  if begB d "ends" 2 = true then figsO β 2 (txtD (at_ 1 d)) else if begB d "near" 2 = true then sizeB 0 (at_ 1 d) else if (begB d "length" 3 || begB d "changed" 3) = true then boundsB (at_ 1 d) (at_ 2 d) else false
def keepB (d : PyData) : Bool := if (begB d "changed" 2 || begB d "last" 2) = true then sizeB 1 (at_ 1 d) else begB d "all" 1
def ruleB (β : Nat) (d : PyData) : Bool := isT d && (decide ((tupD d).length = 2) && (isT (at_ 0 d) && (decide ((tupD (at_ 0 d)).length ≤ 3) && ((tupD (at_ 0 d)).all (condB β) && keepB (at_ 1 d)))))
end Dt

/-! What the program's defs tell of data. -/
namespace Evl
open PySem L2
/-- a comprehension over a tuple -/
theorem el_lcT {K : PySem.W.Frag} {σ : St} {H : Hp} {t : TT} {te : TE} {a : Addr} {xs : List V} {tl : TE} {j : Nat} {vs : List Nat} (f : Nat → Bool) (v : Nat → V) (h : Ev tl σ H (.ref a)) (hx : SqT K H a xs) (hz : xs.length ≤ 40000) (hw : ∀ x, wipe ((wipe σ vs).set j (some x)) vs = wipe σ vs)
    (ht : ∀ (i : Nat) (x : V) H1, Ex H H1 → xs[i]? = some x → EvT t ((wipe σ vs).set j (some x)) H1 (f i)) (he : ∀ (i : Nat) (x : V) H1, Ex H H1 → xs[i]? = some x → f i = true → Ev te ((wipe σ vs).set j (some x)) H1 (v i)) :
    EvL (tLc (iTup K tl) (gName j) t te vs) σ H (given xs.length f v) := fun H0 e Q q => h H0 e _ fun H1 e1 => ⟨a, rfl, ⟨xs, ex_t (e.trans e1) hx⟩, fun Dl hD =>
  lc_tup (xs := xs) (Cw H1 f v Dl) ⟨hD, Ex.new hD, upd_same⟩ (fun i H' _ p => ex_t ((e.trans e1).trans p.2.1) hx) (fun i x H' hi p => ⟨hw x, cw_turn p (by have := (List.getElem?_eq_some_iff.mp hi).1; omega) (ht i x H1 (e.trans e1) hi) (fun hf => he i x H1 (e.trans e1) hi hf)⟩)
    (fun H' p => q Dl H' (fresh_back e1 p.1) (e1.trans p.2.1) p.2.2)⟩
theorem given_all {α : Type} (xs : List α) (g : α → V) (z : V) : given xs.length (fun _ => true) (fun i => match xs[i]? with | some x => g x | none => z) = xs.map g := by
  unfold given
  have e : (List.range xs.length).filter (fun _ => true) = List.range xs.length := List.filter_eq_self.mpr fun _ _ => rfl
  rw [e]
  apply List.ext_getElem?
  intro i
  rw [List.getElem?_map, List.getElem?_map]
  by_cases h : i < xs.length
  · have h1 : (List.range xs.length)[i]? = some i := by
      rw [List.getElem?_range h]
    rw [h1]
    simp [List.getElem?_eq_getElem h]
  · have h1 : (List.range xs.length)[i]? = none := List.getElem?_eq_none_iff.mpr (by rw [List.length_range]; omega)
    have h2 : xs[i]? = none := List.getElem?_eq_none_iff.mpr (by omega)
    rw [h1, h2]
    rfl
end Evl
namespace Dt
open PySem L2 Evl Dg LamR LamX
open Dr (StAt SameB)
abbrev sSize : Stmt := top 37
abbrev sBounds : Stmt := top 38
abbrev sBegins : Stmt := top 39
abbrev sCond : Stmt := top 40
abbrev sKeep : Stmt := top 41
abbrev sRule : Stmt := top 42
section
variable {K : PySem.W.Frag} {H : Hp} {v : V} {d : PyData}
theorem Pt.isN (h : Pt H v d) : decide (v = V.non) = Dt.isN d := by
  cases h <;> first | rfl | exact decide_eq_false (fun z => by cases z)
theorem sizeB_int {l : Int} (h : sizeB l d = true) (k : Pt H v d) : v = .int (intD d) := by
  cases k <;> first | rfl | cases h
/-- where it begins so, each of its places is there -/
theorem Pt.beg {w : Str} {n : Nat} (k : Pt H v d) (h : begB d w n = true) : ∃ a vs, v = .ref a ∧ H a = some (.tup vs) ∧ vs.length = n ∧ ∀ i, i < n → ∃ u, vs[i]? = some u ∧ Pt H u (at_ i d) := by
  unfold begB at h
  rw [Bool.and_eq_true, Bool.and_eq_true] at h
  obtain ⟨h1, h2, _⟩ := h
  cases k with
  | @tup a vs ds hs ha =>
    have hl : ds.length = n := of_decide_eq_true h2
    refine ⟨a, vs, rfl, hs, by rw [ha.length, hl], fun i hi => ?_⟩
    have hd : ds[i]? = some (at_ i (.tuple ds)) := by
      unfold at_ tupD
      rw [List.getD_eq_getElem?_getD, List.getElem?_eq_getElem (by omega)]
      rfl
    exact ha.get hd
  | _ => cases h1
end
section
variable {P : Program} {w : World} {K : PySem.W.Frag} {mg : Str → Option Value} {base : Heap} {ca : Nat → Addr}
def spSize : Sp := fun vs H Q _ => ∃ v d l, vs = [v, .int l] ∧ Pt H v d ∧ RetV (.bl (sizeB l d)) H Q
theorem scSize : FnScope ["value", "least"] ["value", "least"] (defScope sSize) := ⟨rfl, rfl, rfl, by decide +kernel, rfl, by decide +kernel, by decide +kernel⟩
theorem ok_size {f fi : Addr} {fd fdi : FuncData} (F : Fun K "is_size" "is_size" sSize f fd) (GI : FnOk P w K mg base CX0 1 fi fdi ["value"] (spIsInt K)) (bI : Binds K fdi ["value"] []) (T : TxI K mg fi) (hM : ∃ t, mg "MOST_SIZE" = some (.int 6 t)) :
    FnOk P w K mg base CX0 2 f fd ["value", "least"] spSize := by
  refine F.ok scSize (fun vs H Q E h => ?_) (fun cdv A outer s H vs Q E hr h => ?_)
  · obtain ⟨v, d, l, rfl, _⟩ := h
    rfl
  · obtain ⟨v, d, l, rfl, k, q⟩ := h
    obtain ⟨t, hm⟩ := hM
    refine ⟨_, pss_one (ps_ret (pe_and (pe_call GI hr (by rfl) T.isInt T.kInt bI .nil pass0 (pa_cons (pv 0) pa_nil)) (pe_one (pe_chain op_le op_le (pv 1) (pv 0) (pe_glob (by rfl) hm (v := .int 6) ⟨_, rfl⟩))))), ?_⟩
    have kn := k.kn (K := K)
    cases hd : isI d with
    | true =>
      cases k with
      | int i => exact s_ret (ev_is (ev_andV (ev_callI (ev_var rfl) (.int i)) (fun _ => ev_chI (ev_var rfl) (ev_var rfl) ev_c)) (by simp [sizeB])) fun H1 e => q H1 e
      | _ => cases hd
    | false =>
      have e : sizeB l d = false := by cases d <;> first | rfl | cases hd
      rw [e] at q
      rw [hd] at kn
      exact s_ret (ev_is (ev_andV (b := false) (ev_callI (ev_var rfl) kn) (fun z => nomatch z)) (by simp)) fun H1 e => q H1 e
theorem ev_size {σ : St} {H : Hp} {ta tb : TE} {v : V} {d : PyData} {l : Int} (ha : Ev ta σ H v) (hb : Ev tb σ H (.int l)) (k : Pt H v d) : Ev (tCall spSize [] E0 (tCons ta (tCons tb tNil))) σ H (.bl (sizeB l d)) :=
  ev_call (ea_cons ha (ea_cons hb ea_nil)) fun H1 e Q q E => ⟨v, d, l, rfl, k.ex e, fun H2 e2 => q H2 e2⟩
structure TxR (K : PySem.W.Frag) (mg : Str → Option Value) (fi fb ff fs fbd fbg fc fk : Addr) : Prop extends TxI K mg fi where
  needB : mg "need_base" = some (.ref fb)
  kNB : PySem.W.keepIn K (.ref fb) = true
  isFig : mg "is_figures" = some (.ref ff)
  kFig : PySem.W.keepIn K (.ref ff) = true
  size : mg "is_size" = some (.ref fs)
  kSz : PySem.W.keepIn K (.ref fs) = true
  bounds : mg "are_bounds" = some (.ref fbd)
  kBd : PySem.W.keepIn K (.ref fbd) = true
  begins : mg "begins" = some (.ref fbg)
  kBg : PySem.W.keepIn K (.ref fbg) = true
  cond : mg "is_condition" = some (.ref fc)
  kCd : PySem.W.keepIn K (.ref fc) = true
  keep : mg "is_keep" = some (.ref fk)
  kKp : PySem.W.keepIn K (.ref fk) = true
  tuple : mg "tuple" = none
  all : mg "all" = none
  msize : ∃ t, mg "MOST_SIZE" = some (.int 6 t)
  mconds : ∃ t, mg "MOST_CONDITIONS" = some (.int 3 t)
  mend : ∃ t, mg "MOST_ENDING" = some (.int 2 t)
variable {fi fb ff fs fbd fbg fc fk : Addr}
def spBounds : Sp := fun vs H Q _ => ∃ va vb a b, vs = [va, vb] ∧ Pt H va a ∧ Pt H vb b ∧ RetV (.bl (boundsB a b)) H Q
theorem scBounds : FnScope ["least", "most"] ["least", "most"] (defScope sBounds) := ⟨rfl, rfl, rfl, by decide +kernel, rfl, by decide +kernel, by decide +kernel⟩
theorem ok_bounds {f : Addr} {fd fds : FuncData} (F : Fun K "are_bounds" "are_bounds" sBounds f fd) (GS : FnOk P w K mg base CX0 2 fs fds ["value", "least"] spSize) (bS : Binds K fds ["value", "least"] []) (T : TxR K mg fi fb ff fs fbd fbg fc fk) :
    FnOk P w K mg base CX0 3 f fd ["least", "most"] spBounds := by
  refine F.ok scBounds (fun vs H Q E h => ?_) (fun cdv A outer s H vs Q E hr h => ?_)
  · obtain ⟨va, vb, a, b, rfl, _⟩ := h
    rfl
  · obtain ⟨va, vb, a, b, rfl, ka, kb, q⟩ := h
    refine ⟨_, pss_one (ps_ret (pe_and (pe_call GS hr (by rfl) T.size T.kSz bS .nil pass0 (pa_cons (pv 0) (pa_cons pe_int pa_nil)))
      (pe_one (pe_or (pe_cmpR op_isN (pv 1) pe_non (nomark _)) (pe_one (pe_call GS hr (by rfl) T.size T.kSz bS .nil pass0 (pa_cons (pv 1) (pa_cons (pv 0) pa_nil)))))))), ?_⟩
    refine s_ret (ev_andV (ev_size (ev_var rfl) ev_c ka) fun z => ev_orV (a := Dt.isN b) (ev_op (y := .non) (ev_var rfl) ev_c fun H1 e Q k => ⟨rfl, by rw [kb.isN]; exact k _ (Ex.refl _)⟩) fun _ => ?_) fun H1 e => q H1 e
    have hi := sizeB_int z ka
    subst hi
    exact ev_size (ev_var rfl) (ev_var rfl) kb
theorem ev_bounds {σ : St} {H : Hp} {ta tb : TE} {va vb : V} {a b : PyData} (ha : Ev ta σ H va) (hb : Ev tb σ H vb) (ka : Pt H va a) (kb : Pt H vb b) : Ev (tCall spBounds [] E0 (tCons ta (tCons tb tNil))) σ H (.bl (boundsB a b)) :=
  ev_call (ea_cons ha (ea_cons hb ea_nil)) fun H1 e Q q E => ⟨va, vb, a, b, rfl, ka.ex e, kb.ex e, fun H2 e2 => q H2 e2⟩
def spBegins : Sp := fun vs H Q _ => ∃ v d w n, vs = [v, .str w, .int ((n : Nat) : Int)] ∧ 1 ≤ n ∧ Pt H v d ∧ RetV (.bl (begB d w n)) H Q
theorem scBegins : FnScope ["value", "word", "many"] ["value", "word", "many"] (defScope sBegins) := ⟨rfl, rfl, rfl, by decide +kernel, rfl, by decide +kernel, by decide +kernel⟩
theorem ev_lenT {σ : St} {H : Hp} {te : TE} {a : Addr} {vs : List V} (h : Ev te σ H (.ref a)) (ht : H a = some (.tup vs)) : Ev (tCB (rLenS K) (tCons te tNil)) σ H (.int (vs.length : Int)) :=
  ev_cb (ea_cons h ea_nil) fun H1 e Q q => ⟨a, vs, rfl, .inr (st_of (e _ _ ht)), q _ (Ex.refl _)⟩
theorem ev_at {σ : St} {H : Hp} {te : TE} {a : Addr} {vs : List V} {i : Nat} {u : V} (h : Ev te σ H (.ref a)) (ht : H a = some (.tup vs)) (hu : vs[i]? = some u) : Ev (tOp (rIxT K) te (tC (.int (i : Int)))) σ H u :=
  ev_op h ev_c (rv_ixT (st_of ht) (atI_nat hu))
theorem ok_begins {f : Addr} {fd : FuncData} (F : Fun K "begins" "begins" sBegins f fd) (T : TxR K mg fi fb ff fs fbd fbg fc fk) : FnOk P w K mg base CX0 1 f fd ["value", "word", "many"] spBegins := by
  refine F.ok scBegins (fun vs H Q E h => ?_) (fun cdv A outer s H vs Q E hr h => ?_)
  · obtain ⟨v, d, w, n, rfl, _⟩ := h
    rfl
  · obtain ⟨v, d, x, n, rfl, n1, k, q⟩ := h
    refine ⟨_, pss_cons (ps_if (PW.pt (pw_or (pt_not (pt_val (pe_callB call_isi (by rfl) T.isi (by decide +kernel) (pa_cons (pv 0) (pa_cons (pe_bltn (by rfl) T.tuple (by decide +kernel) (v := .ty "tuple") rfl) pa_nil)))))
        (pw_or1 (pt_cmpR op_ne (pe_callB call_len_seq (by rfl) T.len (by decide +kernel) (pa_cons (pv 0) pa_nil)) (pv 2) (nomark _))))) (pss_one (ps_ret pe_bl)) pss_nil)
      (pss_one (ps_ret (pe_and (pe_callB call_isi (by rfl) T.isi (by decide +kernel) (pa_cons (pe_ix ix_tup (pv 0) pe_int (fun _ _ => rfl)) (pa_cons (pe_bltn (by rfl) T.str (by decide +kernel) (v := .ty "str") rfl) pa_nil)))
        (pe_one (pe_cmpR op_eq (pe_ix ix_tup (pv 0) pe_int (fun _ _ => rfl)) (pv 1) (nomark _)))))), ?_⟩
    cases hT : isT d with
    | false =>
      have e0 : begB d x n = false := by unfold begB; rw [hT]; rfl
      rw [e0] at q
      exact q_when (b := true) (et_is (et_or (b := true) (et_not (et_B (ev_is (w := .bl false) (ev_isiT (ev_var rfl) k) (by rw [hT])))) fun z => nomatch z) (by simp)) (fun z H1 e => q H1 e) (fun z => nomatch z)
    | true =>
      cases k with
      | @tup a us ds hs ha =>
        have hl := ha.length
        refine q_when (b := !decide (ds.length = n)) (et_is (et_or (et_not (et_B (ev_isiT (d := .tuple ds) (ev_var rfl) (.tup hs ha)))) fun _ => et_test (ev_op (ev_lenT (ev_var rfl) hs) (ev_var rfl) (rv_ne rfl))) (by
          simp only [isT, Bool.not_true, Bool.false_or]
          congr 1
          refine decide_eq_decide.mpr ⟨fun z => ?_, fun z => ?_⟩
          · injection z with z
            omega
          · rw [show (us.length : Int) = (n : Int) by omega])) (fun z H1 e => ?_) (fun z H1 e => ?_)
        · have e0 : begB (.tuple ds) x n = false := by
            unfold begB tupD
            rw [Bool.not_eq_true'] at z
            rw [z]
            simp
          rw [e0] at q
          exact q H1 e
        · have z' : ds.length = n := by simpa using z
          cases ds with
          | nil =>
            rw [List.length_nil] at z'
            omega
          | cons d0 ds =>
            cases ha with
            | @cons u0 _ us _ k0 kr =>
              have hs1 := e _ _ hs
              have k1 := k0.ex e
              have e0 : begB (.tuple (d0 :: ds)) x n = (isS d0 && eqS x d0) := by
                unfold begB
                show (isT _ && (decide ((d0 :: ds).length = n) && eqS x d0)) = _
                rw [decide_eq_true z']
                cases d0 <;> simp [isT, isS, eqS]
              rw [e0] at q
              cases hS : isS d0 with
              | false =>
                rw [hS] at q
                exact s_ret (ev_is (ev_andV (b := false) (ev_is (w := .bl false) (ev_isiS (ev_at (i := 0) (ev_var rfl) hs1 rfl) k1) (by rw [hS])) (fun z => nomatch z)) (by simp)) fun H2 e2 => q H2 (e.trans e2)
              | true =>
                cases k0 with
                | str y hy =>
                  refine s_ret (ev_andV (ev_isiS (d := .str y) (ev_at (i := 0) (ev_var rfl) hs1 rfl) k1) (fun _ => ev_is (ev_op (ev_at (i := 0) (ev_var rfl) hs1 rfl) (ev_var rfl) (rv_eq rfl)) (w := .bl (decide (y = x))) ?_)) fun H2 e2 => q H2 (e.trans e2)
                  congr 1
                  refine decide_eq_decide.mpr ⟨fun z => ?_, fun z => ?_⟩
                  · injection z
                  · rw [z]
                | _ => cases hS
      | _ => cases hT
theorem ev_beg {σ : St} {H : Hp} {te : TE} {v : V} {d : PyData} {x : Str} {n : Nat} (h : Ev te σ H v) (k : Pt H v d) (n1 : 1 ≤ n) : Ev (tCall spBegins [] E0 (tCons te (tCons (tC (.str x)) (tCons (tC (.int (n : Int))) tNil)))) σ H (.bl (begB d x n)) :=
  ev_call (ea_cons h (ea_cons ev_c (ea_cons ev_c ea_nil))) fun H1 e Q q E => ⟨v, d, x, n, rfl, n1, k.ex e, fun H2 e2 => q H2 e2⟩
def spCond : Sp := fun vs H Q _ => ∃ (β : Nat) (v : V) (d : PyData), vs = [.int β, v] ∧ 2 ≤ β ∧ β ≤ 10 ∧ Pt H v d ∧ RetV (.bl (condB β d)) H Q
theorem scCond : FnScope ["base", "value"] ["base", "value"] (defScope sCond) := ⟨rfl, rfl, rfl, by decide +kernel, rfl, by decide +kernel, by decide +kernel⟩
theorem ok_cond {f : Addr} {fd fdf fds fdb fdg : FuncData} (F : Fun K "is_condition" "is_condition" sCond f fd) (GF : FnOk P w K mg base CX0 3 ff fdf ["base", "value", "most"] (spIsFig K)) (bF : Binds K fdf ["base", "value", "most"] [])
    (GS : FnOk P w K mg base CX0 3 fs fds ["value", "least"] spSize) (bS : Binds K fds ["value", "least"] []) (GB : FnOk P w K mg base CX0 3 fbd fdb ["least", "most"] spBounds) (bB : Binds K fdb ["least", "most"] [])
    (GG : FnOk P w K mg base CX0 3 fbg fdg ["value", "word", "many"] spBegins) (bG : Binds K fdg ["value", "word", "many"] []) (T : TxR K mg fi fb ff fs fbd fbg fc fk) :
    FnOk P w K mg base CX0 4 f fd ["base", "value"] spCond := by
  refine F.ok scCond (fun vs H Q E h => ?_) (fun cdv A outer s H vs Q E hr h => ?_)
  · obtain ⟨β, v, d, rfl, _⟩ := h
    rfl
  · obtain ⟨β, v, d, rfl, b2, b10, k, q⟩ := h
    obtain ⟨t, hm⟩ := T.mend
    refine ⟨_, pss_cons (ps_if (pt_val (pe_call GG hr (by rfl) T.begins T.kBg bG .nil pass0 (pa_cons (pv 1) (pa_cons pe_str (pa_cons pe_int pa_nil)))))
        (pss_one (ps_ret (pe_call GF hr (by rfl) T.isFig T.kFig bF .nil pass0 (pa_cons (pv 0) (pa_cons (pe_ix ix_tup (pv 1) pe_int (fun _ _ => rfl)) (pa_cons (pe_glob (by rfl) hm (v := .int 2) ⟨_, rfl⟩) pa_nil)))))) pss_nil)
      (pss_cons (ps_if (pt_val (pe_call GG hr (by rfl) T.begins T.kBg bG .nil pass0 (pa_cons (pv 1) (pa_cons pe_str (pa_cons pe_int pa_nil)))))
        (pss_one (ps_ret (pe_call GS hr (by rfl) T.size T.kSz bS .nil pass0 (pa_cons (pe_ix ix_tup (pv 1) pe_int (fun _ _ => rfl)) (pa_cons pe_int pa_nil))))) pss_nil)
      (pss_cons (ps_if (PW.pt (pw_or (pt_val (pe_call GG hr (by rfl) T.begins T.kBg bG .nil pass0 (pa_cons (pv 1) (pa_cons pe_str (pa_cons pe_int pa_nil))))) (pw_or1 (pt_val (pe_call GG hr (by rfl) T.begins T.kBg bG .nil pass0 (pa_cons (pv 1) (pa_cons pe_str (pa_cons pe_int pa_nil))))))))
        (pss_one (ps_ret (pe_call GB hr (by rfl) T.bounds T.kBd bB .nil pass0 (pa_cons (pe_ix ix_tup (pv 1) pe_int (fun _ _ => rfl)) (pa_cons (pe_ix ix_tup (pv 1) pe_int (fun _ _ => rfl)) pa_nil))))) pss_nil)
      (pss_one (ps_ret pe_bl)))), ?_⟩
    refine q_when (b := begB d "ends" 2) (et_B (ev_beg (n := 2) (ev_var rfl) k (by decide))) (fun z H1 e => ?_) (fun z H1 e => ?_)
    · have e0 : condB β d = figsO β 2 (txtD (at_ 1 d)) := by unfold condB; rw [if_pos z]
      rw [e0] at q
      obtain ⟨a, us, rfl, hs, _, hi⟩ := k.beg z
      obtain ⟨u, hu, ku⟩ := hi 1 (by decide)
      have k1 := (ku.ex e).tx (K := K)
      exact s_ret (ev_call (ea_cons (ev_var rfl) (ea_cons (ev_at (i := 1) (ev_var rfl) (e _ _ hs) hu) (ea_cons ev_c ea_nil))) fun H2 e2 Q2 q2 E2 => ⟨β, 2, u, _, rfl, b2, b10, by decide, k1.1.ex e2, k1.2, fun H3 e3 => q2 H3 e3⟩) fun H2 e2 => q H2 (e.trans e2)
    · have k1 := k.ex e
      refine q_when (b := begB d "near" 2) (et_B (ev_beg (n := 2) (ev_var rfl) k1 (by decide))) (fun z2 H2 e2 => ?_) (fun z2 H2 e2 => ?_)
      · have e0 : condB β d = sizeB 0 (at_ 1 d) := by unfold condB; rw [if_neg (by rw [z]; decide), if_pos z2]
        rw [e0] at q
        obtain ⟨a, us, rfl, hs, _, hi⟩ := (k1.ex e2).beg z2
        obtain ⟨u, hu, ku⟩ := hi 1 (by decide)
        exact s_ret (ev_size (ev_at (i := 1) (ev_var rfl) hs hu) ev_c ku) fun H3 e3 => q H3 ((e.trans e2).trans e3)
      · have k2 := k1.ex e2
        refine q_when (b := (begB d "length" 3 || begB d "changed" 3)) (et_or (et_B (ev_beg (n := 3) (ev_var rfl) k2 (by decide))) fun _ => et_B (ev_beg (n := 3) (ev_var rfl) k2 (by decide))) (fun z3 H3 e3 => ?_) (fun z3 H3 e3 => ?_)
        · have e0 : condB β d = boundsB (at_ 1 d) (at_ 2 d) := by unfold condB; rw [if_neg (by rw [z]; decide), if_neg (by rw [z2]; decide), if_pos z3]
          rw [e0] at q
          have key : ∃ a us, v = .ref a ∧ H3 a = some (.tup us) ∧ us.length = 3 ∧ ∀ i, i < 3 → ∃ u, us[i]? = some u ∧ Pt H3 u (at_ i d) := by
            rcases Bool.or_eq_true_iff.mp z3 with y | y
            · exact (k2.ex e3).beg y
            · exact (k2.ex e3).beg y
          obtain ⟨a, us, rfl, hs, _, hi⟩ := key
          obtain ⟨u, hu, ku⟩ := hi 1 (by decide)
          obtain ⟨u2, hu2, ku2⟩ := hi 2 (by decide)
          exact s_ret (ev_bounds (ev_at (i := 1) (ev_var rfl) hs hu) (ev_at (i := 2) (ev_var rfl) hs hu2) ku ku2) fun H4 e4 => q H4 (((e.trans e2).trans e3).trans e4)
        · have e0 : condB β d = false := by unfold condB; rw [if_neg (by rw [z]; decide), if_neg (by rw [z2]; decide), if_neg (by rw [z3]; decide)]
          rw [e0] at q
          exact s_ret ev_c fun H4 e4 => q H4 (((e.trans e2).trans e3).trans e4)
def spKeep : Sp := fun vs H Q _ => ∃ v d, vs = [v] ∧ Pt H v d ∧ RetV (.bl (keepB d)) H Q
theorem scKeep : FnScope ["value"] ["value"] (defScope sKeep) := ⟨rfl, rfl, rfl, by decide +kernel, rfl, by decide +kernel, by decide +kernel⟩
theorem ok_keep {f : Addr} {fd fds fdg : FuncData} (F : Fun K "is_keep" "is_keep" sKeep f fd) 
    (GS : FnOk P w K mg base CX0 2 fs fds ["value", "least"] spSize) (bS : Binds K fds ["value", "least"] [])
    (GG : FnOk P w K mg base CX0 2 fbg fdg ["value", "word", "many"] spBegins) (bG : Binds K fdg ["value", "word", "many"] []) (T : TxR K mg fi fb ff fs fbd fbg fc fk) :
    FnOk P w K mg base CX0 3 f fd ["value"] spKeep := by
  refine F.ok scKeep (fun vs H Q E h => ?_) (fun cdv A outer s H vs Q E hr h => ?_)
  · obtain ⟨v, d, rfl, _⟩ := h
    rfl
  · obtain ⟨v, d, rfl, k, q⟩ := h
    refine ⟨_, pss_cons (ps_if (PW.pt (pw_or (pt_val (pe_call GG hr (by rfl) T.begins T.kBg bG .nil pass0 (pa_cons (pv 0) (pa_cons pe_str (pa_cons pe_int pa_nil))))) (pw_or1 (pt_val (pe_call GG hr (by rfl) T.begins T.kBg bG .nil pass0 (pa_cons (pv 0) (pa_cons pe_str (pa_cons pe_int pa_nil))))))))
        (pss_one (ps_ret (pe_call GS hr (by rfl) T.size T.kSz bS .nil pass0 (pa_cons (pe_ix ix_tup (pv 0) pe_int (fun _ _ => rfl)) (pa_cons pe_int pa_nil))))) pss_nil)
      (pss_one (ps_ret (pe_call GG hr (by rfl) T.begins T.kBg bG .nil pass0 (pa_cons (pv 0) (pa_cons pe_str (pa_cons pe_int pa_nil)))))), ?_⟩
    refine q_when (b := (begB d "changed" 2 || begB d "last" 2)) (et_or (et_B (ev_beg (n := 2) (ev_var rfl) k (by decide))) fun _ => et_B (ev_beg (n := 2) (ev_var rfl) k (by decide))) (fun z H1 e => ?_) (fun z H1 e => ?_)
    · have e0 : keepB d = sizeB 1 (at_ 1 d) := by unfold keepB; rw [if_pos z]
      rw [e0] at q
      have key : ∃ a us, v = .ref a ∧ H1 a = some (.tup us) ∧ us.length = 2 ∧ ∀ i, i < 2 → ∃ u, us[i]? = some u ∧ Pt H1 u (at_ i d) := by
        rcases Bool.or_eq_true_iff.mp z with y | y
        · exact (k.ex e).beg y
        · exact (k.ex e).beg y
      obtain ⟨a, us, rfl, hs, _, hi⟩ := key
      obtain ⟨u, hu, ku⟩ := hi 1 (by decide)
      exact s_ret (ev_size (ev_at (i := 1) (ev_var rfl) hs hu) ev_c ku) fun H3 e3 => q H3 (e.trans e3)
    · have e0 : keepB d = begB d "all" 1 := by unfold keepB; rw [if_neg (by rw [z]; decide)]
      rw [e0] at q
      exact s_ret (ev_beg (n := 1) (ev_var rfl) (k.ex e) (by decide)) fun H3 e3 => q H3 (e.trans e3)
def spRule (K : PySem.W.Frag) (ca : Nat → Addr) : Sp := fun vs H Q E => ∃ vb v d b, vs = [vb, v] ∧ Bs K H vb b ∧ Pt H v d ∧ (b = false → Leaves (ca 1) "value" vb H E) ∧ (b = true → ∃ β : Nat, vb = .int β ∧ 2 ≤ β ∧ β ≤ 10 ∧ RetV (.bl (ruleB β d)) H Q)
theorem scRule : FnScope ["base", "value", "conditions", "keep", "condition"] ["base", "value"] (defScope sRule) := ⟨rfl, rfl, rfl, by decide +kernel, rfl, by decide +kernel, by decide +kernel⟩
theorem ok_rule {f : Addr} {fd fdn fdc fdk : FuncData} (F : Fun K "is_rule" "is_rule" sRule f fd) (GN : FnOk P w K mg base (L2.CX P w) 4 fb fdn ["base"] (spNeed (Bs K) (ca 1))) (bN : Binds K fdn ["base"] [])
    (GC : FnOk P w K mg base CX0 4 fc fdc ["base", "value"] spCond) (bC : Binds K fdc ["base", "value"] []) (GK : FnOk P w K mg base CX0 4 fk fdk ["value"] spKeep) (bK : Binds K fdk ["value"] []) (T : TxR K mg fi fb ff fs fbd fbg fc fk) :
    FnOk P w K mg base (L2.CX P w) 5 f fd ["base", "value"] (spRule K ca) := by
  refine F.okX scRule (fun vs H Q E h => ?_) (fun cdv A outer s H vs Q E hr h => ?_)
  · obtain ⟨vb, v, d, b, rfl, _⟩ := h
    rfl
  · obtain ⟨vb, v, d, b, rfl, kb, k, l1, hq⟩ := h
    obtain ⟨t, hm⟩ := T.mconds
    refine ⟨_, pss_cons (ps_expr (pe_callS GN hr (by rfl) T.needB T.kNB bN (fun σ => passAt (takes_of rfl rfl rfl rfl) σ) (pa_cons (pv 0) pa_nil)))
      (pss_cons (ps_if (PW.pt (pw_or (pt_not (pt_val (pe_callB call_isi (by rfl) T.isi (by decide +kernel) (pa_cons (pv 1) (pa_cons (pe_bltn (by rfl) T.tuple (by decide +kernel) (v := .ty "tuple") rfl) pa_nil)))))
        (pw_or1 (pt_cmpR op_ne (pe_callB call_len_seq (by rfl) T.len (by decide +kernel) (pa_cons (pv 1) pa_nil)) pe_int (nomark _))))) (pss_one (ps_ret pe_bl)) pss_nil)
      (pss_cons (ps_asg (pv 1) (pg_tup (by rfl) (pgs_cons (pg_name (i := 2) scRule.nd rfl (.inl rfl)) (pgs_cons (pg_name (i := 3) scRule.nd rfl (.inl rfl)) pgs_nil))))
      (pss_cons (ps_if (PW.pt (pw_or (pt_not (pt_val (pe_callB call_isi (by rfl) T.isi (by decide +kernel) (pa_cons (pv 2) (pa_cons (pe_bltn (by rfl) T.tuple (by decide +kernel) (v := .ty "tuple") rfl) pa_nil)))))
        (pw_or1 (pt_cmpR op_gt (pe_callB call_len_seq (by rfl) T.len (by decide +kernel) (pa_cons (pv 2) pa_nil)) (pe_glob (by rfl) hm (v := .int 3) ⟨_, rfl⟩) (nomark _))))) (pss_one (ps_ret pe_bl)) pss_nil)
      (pss_one (ps_ret (pe_and (pe_callB (cr_all rfl) (by rfl) T.all (by decide +kernel) (pa_cons (pe_lc (own := [("condition", 4)]) (g := gName 4) (tt := tYes) rfl scRule.nd (pi_tup (pv 2)) (blkOk_by (own := [("condition", 4)]) (N := ["base", "value", "conditions", "keep", "condition"]) (sc := defScope sRule) (by decide +kernel))
          (fun _ _ _ _ _ => pg_name (i := 4) scRule.nd rfl (Or.inl rfl)) (fun _ _ _ _ _ => pts_nil)
          (fun _ _ _ _ _ => pe_call GC hr (by rfl) T.cond T.kCd bC .nil pass0 (pa_cons (pv 0) (pa_cons (pv 4) pa_nil)))) pa_nil))
        (pe_one (pe_call GK hr (by rfl) T.keep T.kKp bK .nil pass0 (pa_cons (pv 3) pa_nil))))))))), ?_⟩
    refine ⟨_, rfl, vb, b, rfl, kb, fun hb H1 e1 => ?_, fun hb => l1 hb⟩
    obtain ⟨β, rfl, b2, b10, q⟩ := hq hb
    have k1 := k.ex e1
    cases hT : isT d with
    | false =>
      have e0 : ruleB β d = false := by unfold ruleB; rw [hT]; rfl
      rw [e0] at q
      exact q_when (b := true) (et_is (et_or (b := true) (et_not (et_B (ev_is (w := .bl false) (ev_isiT (ev_var rfl) k1) (by rw [hT])))) fun z => nomatch z) (by simp)) (fun z H2 e => q H2 (e1.trans e)) (fun z => nomatch z)
    | true =>
      cases k1 with
      | @tup a us ds hs ha =>
        have hl := ha.length
        refine q_when (b := !decide (ds.length = 2)) (et_is (et_or (et_not (et_B (ev_isiT (d := .tuple ds) (ev_var rfl) (.tup hs ha)))) fun _ => et_test (ev_op (ev_lenT (ev_var rfl) hs) ev_c (rv_ne rfl))) (by
          simp only [isT, Bool.not_true, Bool.false_or]
          congr 1
          refine decide_eq_decide.mpr ⟨fun z => ?_, fun z => ?_⟩
          · injection z with z
            omega
          · rw [show (us.length : Int) = 2 by omega])) (fun z H2 e2 => ?_) (fun z H2 e2 => ?_)
        · have e0 : ruleB β (.tuple ds) = false := by
            unfold ruleB tupD
            rw [Bool.not_eq_true'] at z
            simp only [z]
            simp
          rw [e0] at q
          exact q H2 (e1.trans e2)
        · have z' : ds.length = 2 := by simpa using z
          match ds, us, ha, z' with
          | [cd, kd], _, .cons (v := vc) kc (.cons (v := vk) kk .nil), _ =>
            have hs2 := e2 _ _ hs
            have kc2 := kc.ex e2
            have kk2 := kk.ex e2
            have e0 : ruleB β (.tuple [cd, kd]) = (isT cd && (decide ((tupD cd).length ≤ 3) && ((tupD cd).all (condB β) && keepB kd))) := rfl
            rw [e0] at q
            refine ⟨_, rfl, a, _, rfl, st_of hs2, rfl, _, _, rfl, _, _, rfl, rfl, ?_⟩
            cases hC : isT cd with
            | false =>
              rw [hC] at q
              exact q_when (b := true) (et_is (et_or (b := true) (et_not (et_B (ev_is (w := .bl false) (ev_isiT (ev_var rfl) kc2) (by rw [hC])))) fun z => nomatch z) (by simp)) (fun z H3 e => q H3 ((e1.trans e2).trans e)) (fun z => nomatch z)
            | true =>
              cases kc2 with
              | @tup ac ws cs hcs hca =>
                have hcl := hca.length
                refine q_when (b := !decide (cs.length ≤ 3)) (et_is (et_or (et_not (et_B (ev_isiT (d := .tuple cs) (ev_var rfl) (.tup hcs hca)))) fun _ => et_test (ev_op (ev_lenT (ev_var rfl) hcs) ev_c rv_I0)) (by
                  simp only [isT, Bool.not_true, Bool.false_or]
                  by_cases h : cs.length ≤ 3
                  · rw [decide_eq_true h, decide_eq_false (by omega)]
                    rfl
                  · rw [decide_eq_false h, decide_eq_true (by omega)]
                    rfl)) (fun z3 H3 e3 => ?_) (fun z3 H3 e3 => ?_)
                · rw [Bool.not_eq_true'] at z3
                  unfold tupD at q
                  simp only [z3, Bool.false_and, Bool.and_false] at q
                  exact q H3 ((e1.trans e2).trans e3)
                · have z4 : cs.length ≤ 3 := by simpa using z3
                  unfold tupD at q
                  simp only [decide_eq_true z4, isT, Bool.true_and] at q
                  have eL : EvL (tLc (iTup K (tVar 2)) (gName 4) tYes (tCall spCond [] E0 (tCons (tVar 0) (tCons (tVar 4) tNil))) [4]) [some (.int β), some (.ref a), some (.ref ac), some vk, none] H3 ((cs.map (condB β)).map V.bl) := by
                    rw [List.map_map, ← given_all cs (V.bl ∘ condB β) .non, ← hcl]
                    refine el_lcT (fun _ => true) _ (ev_var rfl) (st_of (e3 _ _ hcs)) (by omega) (fun _ => rfl) (fun i x H4 e4 hx => fun H5 e5 Q5 q5 => q5 H5 (Ex.refl _)) (fun i x H4 e4 hx _ => ?_)
                    obtain ⟨dd, hd, kd'⟩ := hca.get2 hx
                    rw [hd]
                    exact ev_call (ea_cons (ev_var rfl) (ea_cons (ev_var rfl) ea_nil)) fun H5 e5 Q5 q5 E5 => ⟨β, x, dd, rfl, b2, b10, (kd'.ex (e3.trans e4)).ex e5, fun H6 e6 => q5 H6 e6⟩
                  refine s_ret (ev_andV (ev_is (ev_allL eL) (w := .bl (cs.all (condB β))) (by rw [List.all_map]; rfl)) fun _ => ev_call (ea_cons (ev_var rfl) ea_nil) fun H5 e5 Q5 q5 E5 => ⟨vk, kd, rfl, (kk2.ex e3).ex e5, fun H6 e6 => q5 H6 e6⟩) fun H4 e4 => q H4 (((e1.trans e2).trans e3).trans e4)
              | _ => cases hC
      | _ => cases hT
end
end Dt

/-! Displays as data; the law's drawn rules. -/
namespace Dt
open PySem L2 Evl Dg LamR LamX
open Dr (StAt SameB)
/-- a value that is that data -/
def EvP (te : TE) (σ : St) (H : Hp) (D : PyData) : Prop := ∀ H1, Ex H H1 → ∀ Q : VK, (∀ v H2, Ex H1 H2 → Pt H2 v D → Q v H2) → te σ H1 Q
def EvPA (ta : TA) (σ : St) (H : Hp) (Ds : List PyData) : Prop := ∀ H1, Ex H H1 → ∀ Q : List V → Hp → Prop, (∀ vs H2, Ex H1 H2 → PtAll H2 vs Ds → Q vs H2) → ta σ H1 Q
section
variable {K : PySem.W.Frag} {σ : St} {H : Hp} {te ta tb : TE} {D E : PyData} {Ds Es : List PyData}
theorem ep_c {v : V} (h : ∀ H, Pt H v D) : EvP (tC v) σ H D := fun H1 _ _ q => q v H1 (Ex.refl H1) (h H1)
theorem ep_v {v : V} (h : Ev te σ H v) (k : Pt H v D) : EvP te σ H D := fun H1 e Q q => h H1 e Q fun H2 e2 => q v H2 e2 (k.ex (e.trans e2))
theorem ep_non : EvP (tC .non) σ H .none := ep_c fun _ => .non
theorem ep_bl {b : Bool} : EvP (tC (.bl b)) σ H (.bool b) := ep_c fun _ => .bl b
theorem ep_int {i : Int} : EvP (tC (.int i)) σ H (.int i) := ep_c fun _ => .int i
theorem ep_str {x : Str} (h : x.length ≤ 3000) : EvP (tC (.str x)) σ H (.str x) := ep_c fun _ => .str x h
theorem epa_nil : EvPA tNil σ H [] := fun H1 _ _ q => q [] H1 (Ex.refl H1) .nil
theorem epa_cons {tr : TA} (h : EvP te σ H D) (hr : EvPA tr σ H Ds) : EvPA (tCons te tr) σ H (D :: Ds) := fun H1 e _ q =>
  h H1 e _ fun v H2 e2 k => hr H2 (e.trans e2) _ fun vs H3 e3 ks => q (v :: vs) H3 (e2.trans e3) (.cons (k.ex e3) ks)
theorem ep_tup {ta : TA} (h : EvPA ta σ H Ds) (hl : Ds.length ≤ 100000) : EvP (tTup ta) σ H (.tuple Ds) := fun H1 e _ q =>
  h H1 e _ fun vs H2 e2 ks => ⟨sz_of (by rw [ks.length]; exact hl), fun p hp => q (.ref p) _ (e2.trans (Ex.new hp)) (.tup upd_same (ks.ex (Ex.new hp)))⟩
theorem ep_lst {ta : TA} (h : EvPA ta σ H Ds) (hl : Ds.length ≤ 100000) : EvP (tLst ta) σ H (.list Ds) := fun H1 e _ q =>
  h H1 e _ fun vs H2 e2 ks => ⟨sz_of (by rw [ks.length]; exact hl), fun p hp => q (.ref p) _ (e2.trans (Ex.new hp)) (.lst upd_same (ks.ex (Ex.new hp)))⟩
theorem ep_cat (ha : EvP ta σ H (.list Ds)) (hb : EvP tb σ H (.list Es)) (hl : Ds.length + Es.length ≤ 100000) : EvP (tOp rCat ta tb) σ H (.list (Ds ++ Es)) := fun H1 e _ q =>
  ha H1 e _ fun v H2 e2 k => hb H2 (e.trans e2) _ fun w H3 e3 k3 => by
    cases k with
    | @lst a vs _ ha hv =>
      cases k3 with
      | @lst b ws _ hb hw =>
        exact ⟨a, b, vs, ws, rfl, rfl, e3 _ _ ha, hb, sz_of (by rw [hv.length, hw.length]; exact hl), fun p hp => q (.ref p) _ ((e2.trans e3).trans (Ex.new hp)) (.lst upd_same (((hv.ex e3).app hw).ex (Ex.new hp)))⟩
theorem ep_if {t : TT} {b : Bool} (h : EvT t σ H b) (h1 : b = true → EvP ta σ H D) (h2 : b = false → EvP tb σ H D) : EvP (tIf t ta tb) σ H D := fun H1 e Q q => h H1 e _ fun H2 e2 => by
  cases b with
  | true => exact iteT (h1 rfl H2 (e.trans e2) _ fun v H3 e3 k => q v H3 (e2.trans e3) k)
  | false => exact iteF (h2 rfl H2 (e.trans e2) _ fun v H3 e3 k => q v H3 (e2.trans e3) k)
theorem s_retP {DD : Ends} (h : EvP te σ H D) (k : ∀ v H1, Ex H H1 → Pt H1 v D → DD.rt v H1) : tRet te DD σ H := h H (Ex.refl H) _ k
theorem s_asgP {DD : Ends} {i : Nat} (h : EvP te σ H D) (k : ∀ v H1, Ex H H1 → Pt H1 v D → DD.nx (σ.set i (some v)) H1) : tAsg te (gName i) DD σ H := h H (Ex.refl H) _ fun v H1 e kk => k v H1 e kk
theorem q_asgP {DD : Ends} {tz : TS} {i : Nat} (h : EvP te σ H D) (k : ∀ v H1, Ex H H1 → Pt H1 v D → tz DD (σ.set i (some v)) H1) : tSeq (tAsg te (gName i)) tz DD σ H := s_asgP (DD := { DD with nx := tz DD }) h k
end
theorem sameB_trans {H H1 H2 : Hp} {p l : Addr} (a : SameB H H1 p l) (b : SameB H1 H2 p l) : SameB H H2 p l := fun x o h h1 h2 => b x o (a x o h h1 h2) h1 h2
theorem sameB_ex {H H1 : Hp} {p l : Addr} (e : Ex H H1) : SameB H H1 p l := fun x o h _ _ => e x o h
mutual
/-- tuples and what is plain alone -/
def noL : PyData → Bool
  | .list _ => false
  | .dict _ => false
  | .tuple ds => noLs ds
  | _ => true
def noLs : List PyData → Bool
  | [] => true
  | d :: ds => noL d && noLs ds
end
mutual
theorem noL_ok : ∀ {d : PyData}, noL d = true → okD d = true
  | .none, _ => rfl
  | .bool _, _ => rfl
  | .int _, _ => rfl
  | .str _, _ => rfl
  | .tuple ds, h => by
    rw [okD]
    exact noLs_ok (by rw [noL] at h; exact h)
  | .list _, h => by rw [noL] at h; cases h
  | .dict _, h => by rw [noL] at h; cases h
theorem noLs_ok : ∀ {ds : List PyData}, noLs ds = true → okDs ds = true
  | [], _ => rfl
  | d :: ds, h => by
    rw [noLs, Bool.and_eq_true] at h
    rw [okDs, noL_ok h.1, noLs_ok h.2]
    rfl
end
theorem noLs_app : ∀ {ds es : List PyData}, noLs ds = true → noLs es = true → noLs (ds ++ es) = true
  | [], _, _, k => k
  | d :: ds, es, h, k => by
    rw [noLs, Bool.and_eq_true] at h
    show (noL d && noLs (ds ++ es)) = true
    rw [h.1, noLs_app h.2 k]
    rfl
/-- tuples stay -/
def TupK (H H' : Hp) : Prop := ∀ a xs, H a = some (.tup xs) → H' a = some (.tup xs)
theorem TupK.trans {H H1 H2 : Hp} (a : TupK H H1) (b : TupK H1 H2) : TupK H H2 := fun x xs h => b x xs (a x xs h)
theorem tupK_ex {H H' : Hp} (e : Ex H H') : TupK H H' := fun a xs h => e _ _ h
theorem tupK_same {H H' : Hp} {p c l : Addr} {n : Nat} {a : Int} (S : StAt H p c l n a) (e : SameB H H' p l) : TupK H H' := fun x xs h => by
  obtain ⟨ls, hl, _⟩ := S.l
  exact e _ _ h (ne_of h S.d (by intro z; cases z)) (ne_of h hl (by intro z; cases z))
theorem tupK_upd {H : Hp} {x : Addr} {ys zs : List V} (h : H x = some (.lst ys)) : TupK H (upd H x (.lst zs)) := fun a xs ha => by
  rw [upd_ne (ne_of ha h (by intro z; cases z))]
  exact ha
mutual
theorem Pt.tk {H H' : Hp} (e : TupK H H') : ∀ {v : V} {d : PyData}, Pt H v d → noL d = true → Pt H' v d
  | _, .none, h, _ => by cases h; exact .non
  | _, .bool _, h, _ => by cases h; exact .bl _
  | _, .int _, h, _ => by cases h; exact .int _
  | _, .str _, h, _ => by cases h with | str _ z => exact .str _ z
  | _, .tuple ds, h, k => by
    cases h with
    | tup hs ha => exact .tup (e _ _ hs) (PtAll.tk e ha (by rw [noL] at k; exact k))
  | _, .list _, _, k => by rw [noL] at k; cases k
  | _, .dict _, _, k => by rw [noL] at k; cases k
theorem PtAll.tk {H H' : Hp} (e : TupK H H') : ∀ {vs : List V} {ds : List PyData}, PtAll H vs ds → noLs ds = true → PtAll H' vs ds
  | _, [], h, _ => by cases h; exact .nil
  | _, d :: ds, h, k => by
    cases h with
    | cons h1 h2 =>
      rw [noLs, Bool.and_eq_true] at k
      exact .cons (Pt.tk e h1 k.1) (PtAll.tk e h2 k.2)
end
theorem off_of {H : Hp} {p c l x : Addr} {n : Nat} {a : Int} (S : StAt H p c l n a) (h : H x = none) : x ≠ p ∧ x ≠ l := by
  obtain ⟨ls, hls, _⟩ := S.l
  exact ⟨(ne_of_none S.d h).symm, (ne_of_none hls h).symm⟩
/-- one draw -/
theorem rd_draw {σ : St} {H : Hp} {te : TE} {Q : VK} {p c l : Addr} {n : Nat} {a m : Int} (h0 : σ[0]? = some (some (.ref p))) (hm : Ev te σ H (.int m)) (S : StAt H p c l n a) (nlc : l ≠ c) (ha : a < 2 ^ 39) (m0 : 0 < m) (m1 : m < 1073741824)
    (k : ∀ (r : Nat) (H' : Hp), (r : Int) < m → StAt H' p c l n (a + 1) → SameB H H' p l → Q (.int (r : Int)) H') : tCall Dr.spDraw [] E0 (tCons (tVar 0) (tCons te tNil)) σ H Q :=
  ⟨_, h0, hm H (Ex.refl H) _ fun H2 e2 => ⟨p, c, l, n, a, m, rfl, S.ex e2, nlc, ha, m0, m1, fun r H' r0 r1 S' sb nn => by
    obtain ⟨ρ, rfl⟩ : ∃ ρ : Nat, r = ρ := ⟨r.toNat, by omega⟩
    exact k ρ H' r1 S' (sameB_trans (sameB_ex e2) sb)⟩⟩
/-! what small data is, of rules -/
theorem beg2 (x w : Str) (d : PyData) : begB (.tuple [.str x, d]) w 2 = decide (x = w) := by simp [begB, isT, tupD, eqS]
theorem beg3 (x w : Str) (d e : PyData) : begB (.tuple [.str x, d, e]) w 3 = decide (x = w) := by simp [begB, isT, tupD, eqS]
theorem beg23 (x w : Str) (d : PyData) : begB (.tuple [.str x, d]) w 3 = false := by simp [begB, isT, tupD, eqS]
theorem beg32 (x w : Str) (d e : PyData) : begB (.tuple [.str x, d, e]) w 2 = false := by simp [begB, isT, tupD, eqS]
theorem keep_chg {s : Int} (h1 : 1 ≤ s) (h2 : s ≤ 6) : keepB (.tuple [.str "changed", .int s]) = true := by
  unfold keepB
  rw [beg2, decide_eq_true rfl]
  simp [at_, tupD, sizeB, h1, h2]
theorem keep_last {s : Int} (h1 : 1 ≤ s) (h2 : s ≤ 6) : keepB (.tuple [.str "last", .int s]) = true := by
  unfold keepB
  rw [beg2, beg2, decide_eq_true (p := ("last" : Str) = "last") rfl]
  simp [at_, tupD, sizeB, h1, h2]
theorem cond_ends {β : Nat} {x : Str} (h : isFigs β 2 x = true) : condB β (.tuple [.str "ends", .str x]) = true := by
  unfold condB
  rw [beg2, decide_eq_true rfl]
  simpa [at_, tupD, txtD, figsO] using h
theorem cond_near {β : Nat} {i : Int} (h1 : 0 ≤ i) (h2 : i ≤ 6) : condB β (.tuple [.str "near", .int i]) = true := by
  unfold condB
  rw [beg2, beg2, decide_eq_false (p := ("near" : Str) = "ends") (by decide +kernel), decide_eq_true (p := ("near" : Str) = "near") rfl]
  simp [at_, tupD, sizeB, h1, h2]
theorem cond_len {β : Nat} {x : Str} {i : Int} {d : PyData} (hx : x = "length" ∨ x = "changed") (h1 : 1 ≤ i) (h2 : i ≤ 6) (hd : d = .none ∨ ∃ j : Int, d = .int j ∧ i ≤ j ∧ j ≤ 6) : condB β (.tuple [.str x, .int i, d]) = true := by
  unfold condB
  rw [beg32, beg32, beg3, beg3]
  have e : (decide (x = "length") || decide (x = "changed")) = true := by
    rcases hx with rfl | rfl
    · rw [decide_eq_true rfl]; rfl
    · rw [decide_eq_true (p := ("changed" : Str) = "changed") rfl, Bool.or_true]
  rw [e]
  rcases hd with rfl | ⟨j, rfl, h3, h4⟩
  · simp [at_, tupD, boundsB, sizeB, intD, isN, h1, h2]
  · simp [at_, tupD, boundsB, sizeB, intD, isN, h1, h2, h3, h4]
theorem rule_mk {β : Nat} {cs : List PyData} {k : PyData} : ruleB β (.tuple [.tuple cs, k]) = (decide (cs.length ≤ 3) && (cs.all (condB β) && keepB k)) := rfl
abbrev sLCond : Stmt := top 68
abbrev sLKeep : Stmt := top 69
abbrev sLRules : Stmt := top 70
section
variable {P : Program} {w : World} {K : PySem.W.Frag} {mg : Str → Option Value} {base : Heap} {fm fdr : Addr}
def spLKeep : Sp := fun vs H Q _ => ∃ (p c l : Addr) (n m : Nat) (a : Int), vs = [.ref p, .int m] ∧ StAt H p c l n a ∧ l ≠ c ∧ a < 2 ^ 39 - 100 ∧ 1 ≤ m ∧ m ≤ 6 ∧
  ∀ (v : V) (d : PyData) (H' : Hp), keepB d = true → noL d = true → Pt H' v d → StAt H' p c l n (a + 2) → SameB H H' p l → Q v H'
theorem scLKeep : FnScope ["state", "most", "word", "size"] ["state", "most"] (defScope sLKeep) := ⟨rfl, rfl, rfl, by decide +kernel, rfl, by decide +kernel, by decide +kernel⟩
theorem ok_lkeep {f : Addr} {fd fdd : FuncData} (F : Fun K "_law_keep" "_law_keep" sLKeep f fd) (GD : FnOk P w K mg base CX0 2 fdr fdd ["state", "many"] Dr.spDraw) (bD : Binds K fdd ["state", "many"] []) (T : Dr.TxO K mg fm fdr) :
    FnOk P w K mg base CX0 3 f fd ["state", "most"] spLKeep := by
  refine F.ok scLKeep (fun vs H Q E h => ?_) (fun cdv A outer s H vs Q E hr h => ?_)
  · obtain ⟨p, c, l, n, m, a, rfl, _⟩ := h
    rfl
  · obtain ⟨p, c, l, n, m, a, rfl, S, nlc, ha, m1, m6, q⟩ := h
    refine ⟨_, pss_cons (ps_par (i := 2) (j := 3) (by rfl) scLKeep.nd rfl rfl (by decide) rfl rfl (pa_cons (pe_ix ix_list (pe_lst (pa_cons pe_str (pa_cons pe_str (pa_cons pe_str (pa_cons pe_str pa_nil))))) (pe_call GD hr (by rfl) T.draw T.kDraw bD .nil pass0 (pa_cons (pv 0) (pa_cons pe_int pa_nil))) (fun _ _ => rfl))
        (pa_cons (pe_op op_add pe_int (pe_call GD hr (by rfl) T.draw T.kDraw bD .nil pass0 (pa_cons (pv 0) (pa_cons (pv 1) pa_nil)))) pa_nil)) (by rfl))
      (pss_one (ps_ret (pe_ifExp (pt_cmpR op_eq (pv 2) pe_str (nomark _)) (pe_tup (pa_cons (pv 2) pa_nil)) (pe_tup (pa_cons (pv 2) (pa_cons (pv 3) pa_nil)))))), ?_⟩
    refine ⟨(by show (4:Nat) ≤ sizeLine; rw [sizeLine_eq]; omega), fun lr nlr => ?_⟩
    have e0 := Ex.new (o := .lst [.str "all", .str "changed", .str "last", .str "last"]) nlr
    have S0 := S.ex e0
    have hl : lr ≠ p ∧ lr ≠ l := by
      obtain ⟨ls, hls, _⟩ := S.l
      exact ⟨(ne_of_none S.d nlr).symm, (ne_of_none hls nlr).symm⟩
    refine rd_draw (p := p) rfl ev_c S0 nlc (by omega) (by decide) (by decide) fun r H1 hr1 S1 sb1 => ?_
    have g1 : H1 lr = some (.lst [.str "all", .str "changed", .str "last", .str "last"]) := sb1 _ _ upd_same hl.1 hl.2
    have key : ∃ x : Str, ([V.str "all", .str "changed", .str "last", .str "last"])[r]? = some (.str x) ∧ (x = "all" ∨ x = "changed" ∨ x = "last") := by
      have cc : r = 0 ∨ r = 1 ∨ r = 2 ∨ r = 3 := by omega
      rcases cc with rfl | rfl | rfl | rfl
      · exact ⟨_, rfl, .inl rfl⟩
      · exact ⟨_, rfl, .inr (.inl rfl)⟩
      · exact ⟨_, rfl, .inr (.inr rfl)⟩
      · exact ⟨_, rfl, .inr (.inr rfl)⟩
    obtain ⟨x, hx, hcase⟩ := key
    refine ⟨lr, _, _, _, rfl, rfl, SqL.of g1, atI_nat hx, ?_⟩
    refine rd_draw (p := p) rfl (ev_var rfl) S1 nlc (by omega) (by omega) (by omega) fun r2 H2 hr2 S2 sb2 => ?_
    refine ⟨_, _, rfl, rfl, _, _, rfl, ?_⟩
    have sb3 := sameB_trans (sameB_trans (sameB_ex e0) sb1) sb2
    have fin : ∀ d, keepB d = true → noL d = true → ∀ v H', Ex H2 H' → Pt H' v d → Q v H' := fun d kd od v H' e k => q v d H' kd od k (by
      have := S2.ex e
      rw [show a + 1 + 1 = a + 2 by omega] at this
      exact this) (sameB_trans sb3 (sameB_ex e))
    rcases hcase with rfl | rfl | rfl
    · refine s_retP (D := .tuple [.str "all"]) (ep_if (b := true) (et_test (ev_is (ev_op (ev_var rfl) ev_c (rv_eq rfl)) (by rw [decide_eq_true rfl]))) (fun _ => ep_tup (epa_cons (ep_v (ev_var rfl) (.str _ (by decide))) epa_nil) (by decide)) (fun z => nomatch z)) fun v H' e k => fin _ (by decide +kernel) (by decide +kernel) v H' e k
    · refine s_retP (D := .tuple [.str "changed", .int (1 + (r2 : Int))]) (ep_if (b := false) (et_test (ev_is (ev_op (ev_var rfl) ev_c (rv_eq rfl)) (by rw [decide_eq_false (by decide +kernel)]))) (fun z => nomatch z) (fun _ => ep_tup (epa_cons (ep_v (ev_var rfl) (.str _ (by decide))) (epa_cons (ep_v (ev_var rfl) (.int _)) epa_nil)) (by simp))) fun v H' e k => fin _ (keep_chg (by omega) (by omega)) rfl v H' e k
    · refine s_retP (D := .tuple [.str "last", .int (1 + (r2 : Int))]) (ep_if (b := false) (et_test (ev_is (ev_op (ev_var rfl) ev_c (rv_eq rfl)) (by rw [decide_eq_false (by decide +kernel)]))) (fun z => nomatch z) (fun _ => ep_tup (epa_cons (ep_v (ev_var rfl) (.str _ (by decide))) (epa_cons (ep_v (ev_var rfl) (.int _)) epa_nil)) (by simp))) fun v H' e k => fin _ (keep_last (by omega) (by omega)) rfl v H' e k
end
end Dt

/-! The law's drawn conditions. -/
namespace Dt
open PySem L2 Evl Dg LamR LamX TL
open Dr (StAt SameB)
theorem fig_at {r : Nat} (h : r < 10) : ("0123456789" : Str).cps.toList[r]? = some (48 + r) := by
  have cc : r = 0 ∨ r = 1 ∨ r = 2 ∨ r = 3 ∨ r = 4 ∨ r = 5 ∨ r = 6 ∨ r = 7 ∨ r = 8 ∨ r = 9 := by omega
  rcases cc with rfl | rfl | rfl | rfl | rfl | rfl | rfl | rfl | rfl | rfl <;> decide +kernel
section
variable {P : Program} {w : World} {K : PySem.W.Frag} {mg : Str → Option Value} {base : Heap} {fm fdr : Addr}
def spLCond : Sp := fun vs H Q _ => ∃ (p c l : Addr) (n β m : Nat) (a : Int), vs = [.ref p, .int β, .int m] ∧ StAt H p c l n a ∧ l ≠ c ∧ a < 2 ^ 39 - 100 ∧ 2 ≤ β ∧ β ≤ 10 ∧ 1 ≤ m ∧ m ≤ 6 ∧
  ∀ (v : V) (d : PyData) (H' : Hp) (b : Int), condB β d = true → noL d = true → Pt H' v d → a ≤ b → b ≤ a + 10 → StAt H' p c l n b → SameB H H' p l → Q v H'
theorem scLCond : FnScope ["state", "base", "most", "way", "least", "top", "text", "k"] ["state", "base", "most"] (defScope sLCond) := ⟨rfl, rfl, rfl, by decide +kernel, rfl, by decide +kernel, by decide +kernel⟩
theorem ok_lcond {f : Addr} {fd fdd : FuncData} (F : Fun K "_law_condition" "_law_condition" sLCond f fd) (GD : FnOk P w K mg base CX0 2 fdr fdd ["state", "many"] Dr.spDraw) (bD : Binds K fdd ["state", "many"] []) (T : Dr.TxO K mg fm fdr) (mR : mg "range" = none) (mM : mg "min" = none) :
    FnOk P w K mg base CX0 3 f fd ["state", "base", "most"] spLCond := by
  refine F.ok scLCond (fun vs H Q E h => ?_) (fun cdv A outer s H vs Q E hr h => ?_)
  · obtain ⟨p, c, l, n, β, m, a, rfl, _⟩ := h
    rfl
  · obtain ⟨p, c, l, n, β, m, a, rfl, S, nlc, ha, b2, b10, m1, m6, q⟩ := h
    refine ⟨_, pss_cons (ps_par (i := 3) (j := 4) (by rfl) scLCond.nd rfl rfl (by decide) rfl rfl (pa_cons (pe_call GD hr (by rfl) T.draw T.kDraw bD .nil pass0 (pa_cons (pv 0) (pa_cons pe_int pa_nil))) (pa_cons (pe_op op_add pe_int (pe_call GD hr (by rfl) T.draw T.kDraw bD .nil pass0 (pa_cons (pv 0) (pa_cons (pv 2) pa_nil)))) pa_nil)) (by rfl))
      (pss_cons (ps_set (i := 5) scLCond.nd rfl (.inl rfl) (pe_ix ix_list (pe_lst (pa_cons pe_non (pa_cons (pe_op op_add (pv 4) (pe_call GD hr (by rfl) T.draw T.kDraw bD .nil pass0 (pa_cons (pv 0) (pa_cons (pe_op op_add (pe_op op_sub (pv 2) (pv 4)) pe_int) pa_nil)))) pa_nil))) (pe_call GD hr (by rfl) T.draw T.kDraw bD .nil pass0 (pa_cons (pv 0) (pa_cons pe_int pa_nil))) (fun _ _ => rfl)))
      (pss_cons (ps_if (pt_cmpR op_eq (pv 3) pe_int (nomark _))
        (pss_cons (ps_set (i := 6) scLCond.nd rfl (.inl rfl) pe_str)
        (pss_cons (ps_for PassesOwn.never rfl (pi_range1 (by rfl) mR (pa_cons (pe_op op_add pe_int (pe_call GD hr (by rfl) T.draw T.kDraw bD .nil pass0 (pa_cons (pv 0) (pa_cons (pe_callB (call_min2 (by rfl)) (by rfl) mM (by decide +kernel) (pa_cons pe_int (pa_cons (pv 2) pa_nil))) pa_nil)))) pa_nil)) (pg_name (i := 7) scLCond.nd rfl (.inl rfl))
          (pss_one (ps_set (i := 6) scLCond.nd rfl (.inl rfl) (pe_op op_add_str (pv 6) (pe_ix ix_str pe_str (pe_call GD hr (by rfl) T.draw T.kDraw bD .nil pass0 (pa_cons (pv 0) (pa_cons (pv 1) pa_nil))) (fun _ _ => rfl))))))
        (pss_one (ps_ret (pe_tup (pa_cons pe_str (pa_cons (pv 6) pa_nil))))))) pss_nil)
      (pss_cons (ps_if (pt_cmpR op_eq (pv 3) pe_int (nomark _)) (pss_one (ps_ret (pe_tup (pa_cons pe_str (pa_cons (pe_op op_sub (pv 4) (pe_call GD hr (by rfl) T.draw T.kDraw bD .nil pass0 (pa_cons (pv 0) (pa_cons pe_int pa_nil)))) pa_nil))))) pss_nil)
      (pss_one (ps_ret (pe_tup (pa_cons (pe_ix ix_list (pe_lst (pa_cons pe_str (pa_cons pe_str pa_nil))) (pe_op op_sub (pv 3) pe_int) (fun _ _ => rfl)) (pa_cons (pv 4) (pa_cons (pv 5) pa_nil))))))))), ?_⟩
    refine rd_draw (p := p) rfl ev_c S nlc (by omega) (by decide) (by decide) fun r H1 hr1 S1 sb1 => ?_
    refine rd_draw (p := p) rfl (ev_var rfl) S1 nlc (by omega) (by omega) (by omega) fun r2 H2 hr2 S2 sb2 => ?_
    refine ⟨_, _, rfl, rfl, _, _, rfl, ?_⟩
    refine ⟨_, rfl, rd_draw (p := p) rfl (ev_op (ev_op (ev_var rfl) (ev_var rfl) rv_I0) ev_c rv_I0) S2 nlc (by omega) (by omega) (by omega) fun r3 H3 hr3 S3 sb3 => ⟨_, _, rfl, rfl, (by show (2:Nat) ≤ sizeLine; rw [sizeLine_eq]; omega), fun lr nlr => ?_⟩⟩
    have e3 := Ex.new (o := .lst [.non, .int (1 + (r2 : Int) + (r3 : Int))]) nlr
    have o3 := off_of S3 nlr
    refine rd_draw (p := p) rfl ev_c (S3.ex e3) nlc (by omega) (by decide) (by decide) fun r4 H4 hr4 S4 sb4 => ?_
    have g4 : H4 lr = some (.lst [.non, .int (1 + (r2 : Int) + (r3 : Int))]) := sb4 _ _ upd_same o3.1 o3.2
    have key : ∃ (z : V) (d : PyData), ([V.non, .int (1 + (r2 : Int) + (r3 : Int))])[r4]? = some z ∧ (∀ H', Pt H' z d) ∧ noL d = true ∧ (d = .none ∨ ∃ j : Int, d = .int j ∧ (1 + (r2 : Int)) ≤ j ∧ j ≤ 6) := by
      have cc : r4 = 0 ∨ r4 = 1 := by omega
      rcases cc with rfl | rfl
      · exact ⟨_, _, rfl, fun _ => .non, rfl, .inl rfl⟩
      · exact ⟨_, _, rfl, fun _ => .int _, rfl, .inr ⟨_, rfl, by omega, by omega⟩⟩
    obtain ⟨z, dz, hz, kz, nz, cz⟩ := key
    refine ⟨lr, _, _, _, rfl, rfl, SqL.of g4, atI_nat hz, ?_⟩
    have sb := sameB_trans (sameB_trans (sameB_trans (sameB_trans sb1 sb2) sb3) (sameB_ex e3)) sb4
    have et : ∀ (k : Nat) (H' : Hp), EvT (tTest (tOp rEq (tVar 3) (tC (.int (k : Int))))) [some (.ref p), some (.int β), some (.int m), some (.int (r : Int)), some (.int (1 + (r2 : Int))), some z, none, none] H' (decide (r = k)) := fun k H' =>
      et_test (ev_is (ev_op (ev_var rfl) ev_c (rv_eq rfl)) (by
        congr 1
        refine decide_eq_decide.mpr ⟨fun y => ?_, fun y => by rw [y]⟩
        injection y with y
        omega))
    refine q_when (et 0 H4) (fun z0 H5 e5 => ?_) (fun z0 H5 e5 => ?_)
    · -- ends
      refine q_asg ev_c fun H6 e6 => ?_
      have S6 := (S4.ex e5).ex e6
      have sb6 := sameB_trans (sameB_trans sb (sameB_ex e5)) (sameB_ex e6)
      refine rd_draw (p := p) (te := _) rfl (ev_cb (ea_cons ev_c (ea_cons (ev_var rfl) ea_nil)) fun H1 _ Q k => ⟨_, _, rfl, k _ (Ex.refl _)⟩) S6 nlc (by omega) (by split <;> omega) (by split <;> omega) fun r5 H7 hr5 S7 sb7 => ?_
      have r52 : r5 < 2 := by
        have := hr5
        split at this <;> omega
      refine ⟨_, _, rfl, rfl, _, rfl, by omega, by omega, ?_⟩
      rw [show (1 + (r5 : Int)).toNat = 1 + r5 by omega]
      refine for_range (n := 1 + r5) (fun i σ' H' => ∃ (t : Str) (x7 : Option V) (b : Int), σ' = [some (.ref p), some (.int β), some (.int m), some (.int (r : Int)), some (.int (1 + (r2 : Int))), some z, some (.str t), x7] ∧ t.length = i ∧ ((tl t).all fun c => decide (48 ≤ c ∧ c < 48 + β)) = true ∧
        b = a + 5 + i ∧ StAt H' p c l n b ∧ SameB H H' p l) ⟨"", _, a + 5, rfl, rfl, rfl, (by omega), (by rw [show a + 5 = a + 1 + 1 + 1 + 1 + 1 by omega]; exact S7), sameB_trans sb6 sb7⟩ (fun i σ' H' hi hI => ?_) (fun σ' H' hI => ?_)
      · obtain ⟨t, x7, b, rfl, ht, hf, rfl, S', sb'⟩ := hI
        refine ⟨_, rfl, rd_draw (p := p) rfl (ev_var rfl) S' nlc (by omega) (by omega) (by omega) fun r6 H8 hr6 S8 sb8 => ?_⟩
        refine ⟨_, _, 48 + r6, rfl, rfl, by decide, atI_nat (fig_at (by omega)), _, _, rfl, rfl, ?_, ?_⟩
        · rw [ht, show (Str.length ⟨#[48 + r6]⟩) = 1 from rfl, sizeLine_eq]
          omega
        · refine ⟨_, _, _, rfl, ?_, ?_, rfl, (by rw [show a + 5 + ((i + 1 : Nat) : Int) = a + 5 + (i : Int) + 1 by omega]; exact S8), sameB_trans sb' sb8⟩
          · rw [TL.len_tl, tl_append, List.length_append, ← TL.len_tl, ht]
            rfl
          · rw [tl_append, List.all_append, hf]
            show (decide (48 ≤ 48 + r6 ∧ 48 + r6 < 48 + β) && true) = true
            rw [decide_eq_true ⟨by omega, by omega⟩]
            rfl
      · obtain ⟨t, x7, b, rfl, ht, hf, rfl, S', sb'⟩ := hI
        refine s_retP (D := .tuple [.str "ends", .str t]) (ep_tup (epa_cons (ep_str (by decide)) (epa_cons (ep_v (ev_var rfl) (.str t (by omega))) epa_nil)) (by simp)) fun v H9 e9 k9 => ?_
        refine q v _ H9 _ (cond_ends ?_) rfl k9 (by omega) (by omega) (S'.ex e9) (sameB_trans sb' (sameB_ex e9))
        unfold isFigs
        rw [hf, decide_eq_true (by omega), decide_eq_true (by omega)]
        rfl
    · have S5 := S4.ex e5
      have sb5 := sameB_trans sb (sameB_ex e5)
      refine q_when (et 1 H5) (fun z1 H6 e6 => ?_) (fun z1 H6 e6 => ?_)
      · -- near
        refine ⟨_, rfl, rd_draw (p := p) rfl ev_c (S5.ex e6) nlc (by omega) (by decide) (by decide) fun r5 H7 hr5 S7 sb7 => ⟨_, _, rfl, rfl, (by show (2:Nat) ≤ sizeLine; rw [sizeLine_eq]; omega), fun tp ntp => ?_⟩⟩
        have e7 := Ex.new (o := .tup [.str "near", .int (1 + (r2 : Int) - (r5 : Int))]) ntp
        refine q _ (.tuple [.str "near", .int (1 + (r2 : Int) - (r5 : Int))]) _ _ (cond_near (by omega) (by omega)) rfl (.tup upd_same (.cons (.str _ (by decide)) (.cons (.int _) .nil))) (by omega) (by omega) (S7.ex e7) (sameB_trans (sameB_trans (sameB_trans sb5 (sameB_ex e6)) sb7) (sameB_ex e7))
      · -- length, changed
        have hrr : r = 2 ∨ r = 3 := by
          have y0 : ¬ r = 0 := of_decide_eq_false z0
          have y1 : ¬ r = 1 := of_decide_eq_false z1
          omega
        have hx : ∃ x : Str, (x = "length" ∨ x = "changed") ∧ ([V.str "length", .str "changed"])[r - 2]? = some (.str x) ∧ x.length ≤ 3000 := by
          rcases hrr with rfl | rfl
          · exact ⟨_, .inl rfl, rfl, by decide⟩
          · exact ⟨_, .inr rfl, rfl, by decide⟩
        obtain ⟨x, hx1, hx2, hx3⟩ := hx
        refine s_retP (D := .tuple [.str x, .int (1 + (r2 : Int)), dz]) (ep_tup (epa_cons (ep_v (ev_opL1 (el_lst (ea_cons ev_c (ea_cons ev_c ea_nil)) (by simp)) (fun H7 e7 => ev_op (ev_var rfl) ev_c rv_I0) fun p7 H7 h7 e7 => rv_ixL (sq_of h7) (by
            show atI _ ((r : Int) - 2) = _
            rw [show (r : Int) - 2 = ((r - 2 : Nat) : Int) by omega]
            exact atI_nat hx2)) (.str x hx3)) (epa_cons (ep_v (ev_var rfl) (.int _)) (epa_cons (ep_v (ev_var rfl) (kz _)) epa_nil))) (by simp)) fun v H9 e9 k9 => ?_
        refine q v _ H9 _ (cond_len hx1 (by omega) (by omega) cz) ?_ k9 (by omega) (by omega) ((S5.ex e6).ex e9) (sameB_trans (sameB_trans sb5 (sameB_ex e6)) (sameB_ex e9))
        show (true && (true && (noL dz && true))) = true
        rw [nz]
        rfl
end
end Dt

/-! The law's drawn rules. -/
namespace Dt
open PySem L2 Evl Dg LamR LamX TL
open Dr (StAt SameB)
section
variable {P : Program} {w : World} {K : PySem.W.Frag} {mg : Str → Option Value} {base : Heap} {fm fdr flc flk : Addr}
theorem stAt_upd {H : Hp} {p c l x : Addr} {n : Nat} {a : Int} {o : HO} (S : StAt H p c l n a) (h : x ≠ p ∧ x ≠ c ∧ x ≠ l) : StAt (upd H x o) p c l n a :=
  ⟨by rw [upd_ne h.1.symm]; exact S.d, let ⟨cs, k, z⟩ := S.c; ⟨cs, by rw [upd_ne h.2.1.symm]; exact k, z⟩, let ⟨ls, k, z⟩ := S.l; ⟨ls, by rw [upd_ne h.2.2.symm]; exact k, z⟩, S.n0, S.n1, S.a0⟩
theorem off3 {H : Hp} {p c l x : Addr} {n : Nat} {a : Int} (S : StAt H p c l n a) (h : H x = none) : x ≠ p ∧ x ≠ c ∧ x ≠ l := by
  obtain ⟨ls, hls, _⟩ := S.l
  obtain ⟨cs, hcs, _⟩ := S.c
  exact ⟨(ne_of_none S.d h).symm, (ne_of_none hcs h).symm, (ne_of_none hls h).symm⟩
theorem sameB_upd {H H' : Hp} {p l x : Addr} {o : HO} (e : SameB H H' p l) (h : H x = none) : SameB H (upd H' x o) p l := fun b u hb h1 h2 => by
  rw [upd_ne (ne_of_none hb h)]
  exact e b u hb h1 h2
/-- rules as a law draws them: so many with conditions, and a last one -/
def Rls (β : Nat) (Ds : List PyData) : Prop := ∃ Es k, Ds = Es ++ [.tuple [.tuple [], k]] ∧ keepB k = true ∧ Es.all (ruleB β) = true
theorem Rls.all {β : Nat} {Ds : List PyData} (h : Rls β Ds) : Ds.all (ruleB β) = true := by
  obtain ⟨Es, k, rfl, hk, he⟩ := h
  rw [List.all_append, he]
  show (ruleB β (.tuple [.tuple [], k]) && true) = true
  rw [rule_mk, hk]
  rfl
def spLRules : Sp := fun vs H Q _ => ∃ (p c l : Addr) (n β m y : Nat) (a : Int), vs = [.ref p, .int β, .int m, .int y] ∧ StAt H p c l n a ∧ l ≠ c ∧ a < 2 ^ 39 - 10000 ∧ 2 ≤ β ∧ β ≤ 10 ∧ 1 ≤ m ∧ m ≤ 6 ∧ y ≤ 8 ∧
  ∀ (v : V) (Ds : List PyData) (H' : Hp) (b : Int), Rls β Ds → Ds.length ≤ y + 1 → noLs Ds = true → Pt H' v (.tuple Ds) → a ≤ b → b ≤ a + 1000 → StAt H' p c l n b → SameB H H' p l → Q v H'
theorem scLRules : FnScope ["state", "base", "most", "many", "found", "k", "some", "j"] ["state", "base", "most", "many"] (defScope sLRules) := ⟨rfl, rfl, rfl, by decide +kernel, rfl, by decide +kernel, by decide +kernel⟩
theorem Pt.tupI {H : Hp} {v : V} {ds : List PyData} (h : Pt H v (.tuple ds)) : ∃ a vs, v = .ref a ∧ H a = some (.tup vs) ∧ PtAll H vs ds := by
  cases h with
  | tup hs ha => exact ⟨_, _, rfl, hs, ha⟩
theorem ok_lrules {f : Addr} {fd fdd fdc fdk : FuncData} (F : Fun K "_law_rules" "_law_rules" sLRules f fd) (GD : FnOk P w K mg base CX0 3 fdr fdd ["state", "many"] Dr.spDraw) (bD : Binds K fdd ["state", "many"] []) (T : Dr.TxO K mg fm fdr)
    (GC : FnOk P w K mg base CX0 3 flc fdc ["state", "base", "most"] spLCond) (bC : Binds K fdc ["state", "base", "most"] []) (gC : mg "_law_condition" = some (.ref flc)) (kC : PySem.W.keepIn K (.ref flc) = true)
    (GK : FnOk P w K mg base CX0 3 flk fdk ["state", "most"] spLKeep) (bK : Binds K fdk ["state", "most"] []) (gK : mg "_law_keep" = some (.ref flk)) (kK : PySem.W.keepIn K (.ref flk) = true) (mR : mg "range" = none) (mT : mg "tuple" = none) :
    FnOk P w K mg base CX0 4 f fd ["state", "base", "most", "many"] spLRules := by
  refine F.ok scLRules (fun vs H Q E h => ?_) (fun cdv A outer s H vs Q E hr h => ?_)
  · obtain ⟨p, c, l, n, β, m, y, a, rfl, _⟩ := h
    rfl
  · obtain ⟨p, c, l, n, β, m, y, a, rfl, S, nlc, ha, b2, b10, m1, m6, y8, q⟩ := h
    refine ⟨_, pss_cons (ps_set (i := 4) scLRules.nd rfl (.inl rfl) (pe_lst pa_nil))
      (pss_cons (ps_for PassesOwn.never rfl (pi_range1 (by rfl) mR (pa_cons (pe_call GD hr (by rfl) T.draw T.kDraw bD .nil pass0 (pa_cons (pv 0) (pa_cons (pe_op op_add (pv 3) pe_int) pa_nil))) pa_nil)) (pg_name (i := 5) scLRules.nd rfl (.inl rfl))
        (pss_cons (ps_set (i := 6) scLRules.nd rfl (.inl rfl) (pe_callTy call_tuple_of (by rfl) mT (by decide +kernel) (pa_cons (pe_lc (own := [("j", 7)]) (g := gName 7) (tt := tYes) rfl scLRules.nd (pi_range1 (by rfl) mR (pa_cons (pe_ix ix_list (pe_lst (pa_cons pe_int (pa_cons pe_int (pa_cons pe_int (pa_cons pe_int (pa_cons pe_int (pa_cons pe_int (pa_cons pe_int pa_nil)))))))) (pe_call GD hr (by rfl) T.draw T.kDraw bD .nil pass0 (pa_cons (pv 0) (pa_cons pe_int pa_nil))) (fun _ _ => rfl)) pa_nil))
            (blkOk_by (own := [("j", 7)]) (N := ["state", "base", "most", "many", "found", "k", "some", "j"]) (sc := defScope sLRules) (by decide +kernel)) (fun _ _ _ _ _ => pg_name (i := 7) scLRules.nd rfl (Or.inl rfl)) (fun _ _ _ _ _ => pts_nil)
            (fun _ _ _ _ _ => pe_call GC hr (by rfl) gC kC bC .nil pass0 (pa_cons (pv 0) (pa_cons (pv 1) (pa_cons (pv 2) pa_nil))))) pa_nil)))
        (pss_one (ps_expr (pe_bm PySem.F.plainAttrs_list PySem.F.slot_list_append PySem.F.type_list_append mt_append (pv 4) (pa_cons (pe_tup (pa_cons (pv 6) (pa_cons (pe_call GK hr (by rfl) gK kK bK .nil pass0 (pa_cons (pv 0) (pa_cons (pv 2) pa_nil))) pa_nil))) pa_nil))))))
      (pss_one (ps_ret (pe_op op_catA (pe_callTy call_tuple_of (by rfl) mT (by decide +kernel) (pa_cons (pv 4) pa_nil)) (pe_tup (pa_cons (pe_tup (pa_cons (pe_tup pa_nil) (pa_cons (pe_call GK hr (by rfl) gK kK bK .nil pass0 (pa_cons (pv 0) (pa_cons (pv 2) pa_nil))) pa_nil))) pa_nil)))))), ?_⟩
    refine ⟨(Nat.zero_le _), fun fl nfl => ?_⟩
    have e0 := Ex.new (o := .lst []) nfl
    have ofl := off_of S nfl
    have ofl3 := off3 S nfl
    refine rd_draw (p := p) rfl (ev_op (ev_var rfl) ev_c rv_I0) (S.ex e0) nlc (by omega) (by omega) (by omega) fun r H1 hr1 S1 sb1 => ?_
    have hr8 : r ≤ y := by omega
    have sb01 := sameB_trans (sameB_ex (p := p) (l := l) e0) sb1
    have f1 : H1 fl = some (.lst []) := sb1 _ _ upd_same ofl.1 ofl.2
    refine ⟨_, rfl, by omega, by omega, ?_⟩
    rw [show ((r : Nat) : Int).toNat = r by omega]
    refine for_range (n := r) (fun i σ' H' => ∃ (x5 x6 : Option V) (us : List V) (Es : List PyData) (b : Int), σ' = [some (.ref p), some (.int β), some (.int m), some (.int y), some (.ref fl), x5, x6, none] ∧ H' fl = some (.lst us) ∧ Es.length = i ∧ PtAll H' us Es ∧ Es.all (ruleB β) = true ∧ noLs Es = true ∧
      a ≤ b ∧ b ≤ a + 1 + 50 * i ∧ StAt H' p c l n b ∧ SameB H H' p l) ⟨_, _, [], [], a + 1, rfl, f1, rfl, .nil, rfl, rfl, by omega, by omega, S1, sb01⟩ (fun i σ' H2 hi hI => ?_) (fun σ' H2 hI => ?_)
    · -- one more rule
      obtain ⟨x5, x6, us, Es, b, rfl, hfl, hn, ks, kR, kN, ab, ba, S2, sb2⟩ := hI
      refine ⟨(by show (7:Nat) ≤ sizeLine; rw [sizeLine_eq]; omega), fun lr nlr => ?_⟩
      have e3 := Ex.new (o := .lst [.int 1, .int 1, .int 1, .int 2, .int 2, .int 3, .int 0]) nlr
      have o3 := off_of S2 nlr
      refine rd_draw (p := p) rfl ev_c (S2.ex e3) nlc (by omega) (by decide) (by decide) fun r4 H4 hr4 S4 sb4 => ?_
      have g4 : H4 lr = some (.lst [.int 1, .int 1, .int 1, .int 2, .int 2, .int 3, .int 0]) := sb4 _ _ upd_same o3.1 o3.2
      have key : ∃ z : Nat, ([V.int 1, .int 1, .int 1, .int 2, .int 2, .int 3, .int 0])[r4]? = some (.int (z : Int)) ∧ z ≤ 3 := by
        have cc : r4 = 0 ∨ r4 = 1 ∨ r4 = 2 ∨ r4 = 3 ∨ r4 = 4 ∨ r4 = 5 ∨ r4 = 6 := by omega
        rcases cc with rfl | rfl | rfl | rfl | rfl | rfl | rfl
        · exact ⟨1, rfl, by decide⟩
        · exact ⟨1, rfl, by decide⟩
        · exact ⟨1, rfl, by decide⟩
        · exact ⟨2, rfl, by decide⟩
        · exact ⟨2, rfl, by decide⟩
        · exact ⟨3, rfl, by decide⟩
        · exact ⟨0, rfl, by decide⟩
      obtain ⟨z, hz, z3⟩ := key
      refine ⟨lr, _, _, _, rfl, rfl, SqL.of g4, atI_nat hz, _, rfl, by omega, by omega, fun Dl nDl => ?_⟩
      rw [show ((z : Nat) : Int).toNat = z by omega]
      have e5 := Ex.new (o := .lst []) nDl
      have oD := off_of S4 nDl
      have tk4 : TupK H2 H4 := (tupK_ex e3).trans (tupK_same (S2.ex e3) sb4)
      have f4 : H4 fl = some (.lst us) := sb4 _ _ (e3 _ _ hfl) ofl.1 ofl.2
      have oD3 := off3 S4 nDl
      have nD0 : H Dl = none := by
        cases hz0 : H Dl with
        | none => rfl
        | some o => exact absurd (nDl.symm.trans (sameB_trans (sameB_trans sb2 (sameB_ex e3)) sb4 _ _ hz0 oD.1 oD.2)) (by simp)
      have nDf : Dl ≠ fl := (ne_of_none f4 nDl).symm
      have sb24 := sameB_trans (sameB_trans sb2 (sameB_ex e3)) sb4
      refine lc_range (lo := 0) (n := z) (fun j H' => ∃ (ws : List V) (Cs : List PyData) (b' : Int), H' Dl = some (.lst ws) ∧ Cs.length = j ∧ PtAll H' ws Cs ∧ Cs.all (condB β) = true ∧ noLs Cs = true ∧ b + 1 ≤ b' ∧ b' ≤ b + 1 + 10 * j ∧ StAt H' p c l n b' ∧ SameB H H' p l ∧ H' fl = some (.lst us) ∧ TupK H2 H')
        ⟨[], [], b + 1, upd_same, rfl, .nil, rfl, rfl, by omega, by omega, S4.ex e5, sameB_trans sb24 (sameB_ex e5), e5 _ _ f4, tk4.trans (tupK_ex e5)⟩ (fun j H5 hj hJ => ?_) (fun H5 hJ => ?_)
      · obtain ⟨ws, Cs, b', hD, hCl, kC', cC, nC, c1, c2, S5, sb5, f5, t5⟩ := hJ
        refine ⟨rfl, ?_⟩
        rw [show (tYes : TT) = fun _ H Q => Q true H from rfl]
        dsimp only
        rw [if_pos rfl]
        refine ⟨_, rfl, _, rfl, _, rfl, p, c, l, n, β, m, b', rfl, S5, nlc, by omega, b2, b10, m1, m6, fun v d H6 b6 cd nl kd d1 d2 S6 sb6 => ?_⟩
        have hD6 : H6 Dl = some (.lst ws) := sb6 _ _ hD oD.1 oD.2
        have t6 := tupK_same S5 sb6
        refine ⟨ws, hD6, by rw [kC'.length, hCl, sizeLine_eq]; omega, ws ++ [v], Cs ++ [d], b6, upd_same, by rw [List.length_append, hCl]; rfl, ((kC'.tk (t6.trans (tupK_upd hD6)) nC).app (.cons (kd.tk (tupK_upd hD6) nl) .nil)), ?_, ?_, by omega, by omega, ?_, ?_, ?_, (t5.trans t6).trans (tupK_upd hD6)⟩
        · rw [List.all_append, cC]
          show (condB β d && true) = true
          rw [cd]
          rfl
        · exact noLs_app nC (by show (noL d && true) = true; rw [nl]; rfl)
        · exact stAt_upd S6 oD3
        · exact sameB_upd (sameB_trans sb5 sb6) nD0
        · rw [upd_ne nDf.symm]
          exact sb6 _ _ f5 ofl.1 ofl.2
      · obtain ⟨ws, Cs, b', hD, hCl, kC', cC, nC, c1, c2, S5, sb5, f5, t5⟩ := hJ
        refine ⟨Dl, ws, rfl, .inl ⟨SqL.of hD, fun tp ntp => ?_⟩⟩
        have e6 := Ex.new (o := .tup ws) ntp
        have pc : Pt (upd H5 tp (.tup ws)) (.ref tp) (.tuple Cs) := .tup upd_same (kC'.ex e6)
        refine ⟨_, rfl, .inl ⟨rfl, _, SqL.of (e6 _ _ f5)⟩, ?_⟩
        refine ⟨_, rfl, _, rfl, _, rfl, p, c, l, n, m, b', rfl, S5.ex e6, nlc, by omega, m1, m6, fun v d H6 kd nd kv S6 sb6 => ⟨(by show (2:Nat) ≤ sizeLine; rw [sizeLine_eq]; omega), fun t2 nt2 => ?_⟩⟩
        have e7 := Ex.new (o := .tup [.ref tp, v]) nt2
        have t6 : TupK H5 (upd H6 t2 (.tup [.ref tp, v])) := ((tupK_ex e6).trans (tupK_same (S5.ex e6) sb6)).trans (tupK_ex e7)
        have f6 : (upd H6 t2 (.tup [.ref tp, v])) fl = some (.lst us) := e7 _ _ (sb6 _ _ (e6 _ _ f5) ofl.1 ofl.2)
        have pr : Pt (upd H6 t2 (.tup [.ref tp, v])) (.ref t2) (.tuple [.tuple Cs, d]) := .tup upd_same (.cons ((pc.same (S5.ex e6) sb6 (by rw [okD]; exact noLs_ok nC)).ex e7) (.cons (kv.ex e7) .nil))
        have nr : noL (.tuple [.tuple Cs, d]) = true := by
          show (noLs Cs && (noL d && true)) = true
          rw [nC, nd]
          rfl
        refine ⟨fl, us, _, rfl, rfl, f6, by rw [ks.length, hn, sizeLine_eq]; omega, _, _, us ++ [.ref t2], Es ++ [.tuple [.tuple Cs, d]], b' + 2, rfl, upd_same, by rw [List.length_append, hn]; rfl, ?_, ?_, ?_, by omega, by omega, stAt_upd (S6.ex e7) ofl3, sameB_upd (sameB_trans (sameB_trans (sameB_trans sb5 (sameB_ex e6)) sb6) (sameB_ex e7)) nfl⟩
        · exact (ks.tk ((t5.trans t6).trans (tupK_upd f6)) kN).app (.cons (pr.tk (tupK_upd f6) nr) .nil)
        · rw [List.all_append, kR]
          show (ruleB β (.tuple [.tuple Cs, d]) && true) = true
          rw [rule_mk, cC, kd, decide_eq_true (by omega)]
          rfl
        · exact noLs_app kN (by show (noL _ && true) = true; rw [nr]; rfl)
    · obtain ⟨x5, x6, us, Es, b, rfl, hfl, hn, ks, kR, kN, ab, ba, S2, sb2⟩ := hI
      refine ⟨_, rfl, fl, us, rfl, .inl ⟨SqL.of hfl, fun tp ntp => ?_⟩⟩
      have e3 := Ex.new (o := .tup us) ntp
      refine ⟨(by show (0:Nat) ≤ sizeLine; exact Nat.zero_le _), fun tn ntn => ?_⟩
      have e4 := Ex.new (o := .tup []) ntn
      refine ⟨_, rfl, _, rfl, p, c, l, n, m, b, rfl, (S2.ex e3).ex e4, nlc, by omega, m1, m6, fun v d H6 kd nd kv S6 sb6 => ⟨(by show (2:Nat) ≤ sizeLine; rw [sizeLine_eq]; omega), fun t2 nt2 => ⟨(by show (1:Nat) ≤ sizeLine; rw [sizeLine_eq]; omega), fun t3 nt3 => ?_⟩⟩⟩
      have e7 := Ex.new (o := .tup [.ref tn, v]) nt2
      have e8 := Ex.new (o := .tup [.ref t2]) nt3
      have S34 := (S2.ex e3).ex e4
      have t36 : TupK H2 H6 := ((tupK_ex e3).trans (tupK_ex e4)).trans (tupK_same S34 sb6)
      have e78 := e7.trans e8
      have gtp : H6 tp = some (.tup us) := tupK_same S34 sb6 _ _ (e4 _ _ upd_same)
      have gtn : H6 tn = some (.tup []) := tupK_same S34 sb6 _ _ upd_same
      have kl : Pt (upd (upd H6 t2 (.tup [.ref tn, v])) t3 (.tup [.ref t2])) (.ref t2) (.tuple [.tuple [], d]) := .tup (e8 _ _ upd_same) (.cons (.tup (e78 _ _ gtn) .nil) (.cons (kv.ex e78) .nil))
      have ks8 : PtAll (upd (upd H6 t2 (.tup [.ref tn, v])) t3 (.tup [.ref t2])) us Es := ks.tk (t36.trans (tupK_ex e78)) kN
      have sb8 := sameB_trans (sameB_trans (sameB_trans (sameB_trans sb2 (sameB_ex e3)) (sameB_ex e4)) sb6) (sameB_ex e78)
      have nl : noLs (Es ++ [.tuple [.tuple [], d]]) = true := noLs_app kN (by show ((true && (noL d && true)) && true) = true; rw [nd]; rfl)
      have hlen : (Es ++ [PyData.tuple [.tuple [], d]]).length ≤ y + 1 := by
        rw [List.length_append, hn]
        show r + 1 ≤ y + 1
        omega
      refine ⟨tp, t3, us, [.ref t2], rfl, rfl, st_of (e78 _ _ gtp), st_of upd_same, by rw [ks.length, hn, sizeLine_eq]; simp only [List.length_cons, List.length_nil]; omega, fun hz => ?_, fun _ z => (by simp at z), fun hz _ t9 nt9 => ?_⟩
      · have he : Es = [] := by
          have := ks.length
          rw [hz] at this
          exact List.length_eq_zero_iff.mp this.symm
        subst he
        refine q _ [.tuple [.tuple [], d]] _ (b + 2) ⟨[], d, rfl, kd, rfl⟩ hlen nl (.tup upd_same (.cons kl .nil)) (by omega) (by omega) (S6.ex e78) sb8
      · have e9 := Ex.new (o := .tup (us ++ [.ref t2])) nt9
        exact q _ _ _ (b + 2) ⟨Es, d, rfl, kd, kR⟩ hlen nl (.tup upd_same ((ks8.app (.cons kl .nil)).ex e9)) (by omega) (by omega) ((S6.ex e78).ex e9) (sameB_trans sb8 (sameB_ex e9))
end
end Dt

/-! k02: the law's own helpers. -/
namespace Dg
open PySem L2 Evl TL Dr
abbrev sLDigits : Stmt := top 62
abbrev sLPower : Stmt := top 63
/-- the text of digits, the last one first -/
def ofD (l : List Nat) : Str := ⟨(l.reverse.map (48 + ·)).toArray⟩
theorem str_ext {x y : Str} (h : tl x = tl y) : x = y := by
  cases x
  cases y
  congr 1
  exact Array.toList_inj.mp h
theorem digs_eq (b n : Nat) : digs b n = ofD (dl b n) := str_ext (by rw [tl_digs]; rfl)
theorem ofD_snoc (l : List Nat) (d : Nat) : (⟨#[48 + d]⟩ : Str) ++ ofD l = ofD (l ++ [d]) := str_ext (by
  show (#[48 + d] ++ (l.reverse.map (48 + ·)).toArray).toList = _
  simp [ofD])
theorem ofD_len (l : List Nat) : (ofD l).length = l.length := by
  show (ofD l).cps.size = _
  simp [ofD]
theorem dl_lenB {b : Nat} (hb : 2 ≤ b) : ∀ k n : Nat, n < b ^ k → (dl b n).length ≤ k
  | 0, n, h => by
    have : n = 0 := by
      rw [Nat.pow_zero] at h
      omega
    subst this
    simp [dl_zero]
  | k + 1, n, h => by
    rcases Nat.eq_zero_or_pos n with h0 | h0
    · subst h0
      simp [dl_zero]
    · rw [dl_step hb h0, List.length_cons]
      have := dl_lenB hb k (n / b) (by
        rw [Nat.pow_succ] at h
        exact Nat.div_lt_of_lt_mul (by rw [Nat.mul_comm]; exact h))
      omega
section
variable {P : Program} {w : World} {K : PySem.W.Frag} {mg : Str → Option Value} {base : Heap}
def spLDigits : Sp := fun vs H Q _ => ∃ β n : Nat, vs = [.int β, .int n] ∧ 2 ≤ β ∧ β ≤ 10 ∧ n < 2 ^ 50000 ∧ RetV (.str (digs β n)) H Q
theorem scLDigits : FnScope ["base", "number", "found"] ["base", "number"] (defScope sLDigits) := ⟨rfl, rfl, rfl, by decide +kernel, rfl, by decide +kernel, by decide +kernel⟩
theorem ok_ldigits {f : Addr} {fd : FuncData} (F : Fun K "_law_digits" "_law_digits" sLDigits f fd) (mI : mg "int" = none) : FnOk P w K mg base CX0 1 f fd ["base", "number"] spLDigits := by
  refine F.ok scLDigits (fun vs H Q E h => ?_) (fun cdv A outer s H vs Q E hr h => ?_)
  · obtain ⟨_, _, rfl, _⟩ := h
    rfl
  · obtain ⟨β, n, rfl, b2, b10, nz, q⟩ := h
    refine ⟨_, pss_cons (ps_set (i := 2) scLDigits.nd rfl (.inl rfl) pe_str) (pss_cons (ps_while PassesOwn.never (pt_cmpR op_gt (pv 1) pe_int (nomark _))
        (pss_cons (ps_set (i := 2) scLDigits.nd rfl (.inl rfl) (pe_op op_add_str (pe_ix ix_str pe_str (pe_op op_mod (pe_callTy call_int1 (by rfl) mI (by decide +kernel) (pa_cons (pv 1) pa_nil)) (pv 0)) (fun _ _ => rfl)) (pv 2)))
          (pss_one (ps_set (i := 1) scLDigits.nd rfl (.inl rfl) (pe_op op_fdiv (pv 1) (pv 0))))))
      (pss_one (ps_ret (pv 2)))), ?_⟩
    refine q_asg (v := .str "") ev_c fun H1 e1 => ?_
    refine q_while (fun m σ' H' => ∃ done : List Nat, σ' = [some (.int β), some (.int (m : Int)), some (.str (ofD done))] ∧ done ++ dl β m = dl β n ∧ Ex H H') n
      ⟨[], rfl, rfl, e1⟩ (fun m σ' H' ⟨done, hσ, hd, ex⟩ => ⟨decide ((0 : Int) < (m : Int)), ?_, fun z H4 e4 => ?_, fun z H4 e4 => ?_⟩)
    · subst hσ
      exact et_test (ev_op (ev_var rfl) ev_c rv_I0)
    · subst hσ
      have m0 : 0 < m := by
        have := of_decide_eq_true z
        omega
      refine ⟨fun σ2 H5 => σ2 = [some (.int β), some (.int ((m / β : Nat) : Int)), some (.str (ofD (done ++ [m % β])))] ∧ Ex H H5, fun σ2 H5 ⟨a, c⟩ => ⟨m / β, Nat.div_lt_self m0 (by omega), done ++ [m % β], a, ?_, c⟩, ?_⟩
      · rw [List.append_assoc, List.singleton_append, ← dl_step (by omega) m0]
        exact hd
      · have hlt : m % β < 10 := Nat.lt_of_lt_of_le (Nat.mod_lt _ (by omega)) b10
        refine ⟨_, rfl, .inl ⟨_, rfl, _, rfl, _, _, rfl, rfl, by show (0 : Int) < (β : Int); omega, _, _, 48 + m % β, rfl, rfl, by decide, figs_at hlt, _, rfl, _, _, rfl, rfl, ?_, _, rfl, _, rfl, _, _, rfl, rfl, ⟨by omega, by omega⟩, ?_⟩⟩
        · rw [ofD_len, sizeLine_eq]
          have h1 := congrArg List.length hd
          rw [List.length_append] at h1
          have hz := dl_len b2 50000 n nz
          clear nz q
          have : (⟨#[48 + m % β]⟩ : Str).length = 1 := rfl
          omega
        · refine ⟨?_, ex.trans e4⟩
          rw [ofD_snoc]
          rfl
    · subst hσ
      have m0 : m = 0 := by
        have := of_decide_eq_false z
        omega
      subst m0
      rw [dl_zero, List.append_nil] at hd
      subst hd
      refine ⟨_, rfl, ?_⟩
      rw [← digs_eq]
      exact q _ (ex.trans e4)
def spLPower : Sp := fun vs H Q _ => ∃ β k : Nat, vs = [.int β, .int k] ∧ 2 ≤ β ∧ β ≤ 10 ∧ k ≤ 100000 ∧ RetV (.int ((β ^ k : Nat) : Int)) H Q
theorem scLPower : FnScope ["base", "many", "found", "turn"] ["base", "many"] (defScope sLPower) := ⟨rfl, rfl, rfl, by decide +kernel, rfl, by decide +kernel, by decide +kernel⟩
theorem ok_lpower {f : Addr} {fd : FuncData} (F : Fun K "_law_power" "_law_power" sLPower f fd) (mR : mg "range" = none) : FnOk P w K mg base CX0 1 f fd ["base", "many"] spLPower := by
  refine F.ok scLPower (fun vs H Q E h => ?_) (fun cdv A outer s H vs Q E hr h => ?_)
  · obtain ⟨_, _, rfl, _⟩ := h
    rfl
  · obtain ⟨β, k, rfl, b2, b10, kz, q⟩ := h
    refine ⟨_, pss_cons (ps_set (i := 2) scLPower.nd rfl (.inl rfl) pe_int) (pss_cons (ps_for PassesOwn.never rfl (pi_range1 (by rfl) mR (pa_cons (pv 1) pa_nil)) (pg_name (i := 3) scLPower.nd rfl (.inl rfl))
        (pss_one (ps_set (i := 2) scLPower.nd rfl (.inl rfl) (pe_op op_mul (pv 2) (pv 0)))))
      (pss_one (ps_ret (pv 2)))), ?_⟩
    refine q_asg (v := .int 1) ev_c fun H1 e1 => ?_
    refine q_forR1 (n := (k : Int)) (ea_cons (ev_var rfl) ea_nil) (by omega) (fun i σ H' => Ex H H' ∧ ∃ x3, σ = [some (.int β), some (.int (k : Int)), some (.int ((β ^ i : Nat) : Int)), x3]) (fun H2 e2 => ⟨e1.trans e2, none, rfl⟩)
      (fun i σ H2 hi ⟨e2, x3, hσ⟩ => ?_) (fun σ H2 ⟨e2, x3, hσ⟩ => ?_)
    · subst hσ
      refine ⟨_, rfl, _, rfl, _, _, rfl, rfl, .inr ⟨by omega, by omega⟩, e2, some (.int (i : Int)), ?_⟩
      rw [Nat.pow_succ]
      simp
    · subst hσ
      exact ⟨_, rfl, q _ e2⟩
end
end Dg

/-! k03: need_range, changed, near. -/
namespace Dg
open PySem L2 Evl TL
/-- how many digits are changed -/
def ChgIs (β f s m : Nat) : Prop := f / β ^ m = s / β ^ m ∧ ∀ j < m, f / β ^ j ≠ s / β ^ j
theorem ChgIs.uniq {β f s m m' : Nat} (h : ChgIs β f s m) (h' : ChgIs β f s m') : m = m' := by
  rcases Nat.lt_trichotomy m m' with z | z | z
  · exact absurd h.1 (h'.2 m z)
  · exact z
  · exact absurd h'.1 (h.2 m' z)
/-- the least exponent -/
def NearIs (β d k : Nat) : Prop := d ≤ β ^ k ∧ ∀ j < k, β ^ j < d
theorem NearIs.uniq {β d k k' : Nat} (h : NearIs β d k) (h' : NearIs β d k') : k = k' := by
  rcases Nat.lt_trichotomy k k' with z | z | z
  · exact absurd h.1 (Nat.not_le.mpr (h'.2 k z))
  · exact z
  · exact absurd h'.1 (Nat.not_le.mpr (h.2 k' z))
/-- C((v, u)) leaves -/
def LeavesP (C : Addr) (v u : V) (H : Hp) (E : XK) : Prop := ∀ H2 t d, Ex H H2 → H2 t = some (.tup [v, u]) → H2 d = none → E (.ref C) (some d) (upd H2 d (.xd [("value", .ref t)]))
structure TxF3 (K : PySem.W.Frag) (mg : Str → Option Value) (fi fnum fnb fnr : Addr) : Prop extends TxI K mg fi where
  isNum : mg "is_number" = some (.ref fnum)
  kNum : PySem.W.keepIn K (.ref fnum) = true
  needB : mg "need_base" = some (.ref fnb)
  kNB : PySem.W.keepIn K (.ref fnb) = true
  needR : mg "need_range" = some (.ref fnr)
  kNR : PySem.W.keepIn K (.ref fnr) = true
section
variable {P : Program} {w : World} {K : PySem.W.Frag} {mg : Str → Option Value} {base : Heap} {ca : Nat → Addr} {fi fnum fnb fnr : Addr}
def spNeedR (K : PySem.W.Frag) (ca : Nat → Addr) : Sp := fun vs H Q E => ∃ v u b c, vs = [v, u] ∧ Nm K H v b ∧ Nm K H u c ∧ ((b && c) = false → LeavesP (ca 4) v u H E) ∧
  ((b && c) = true → ∃ i j : Int, v = .int i ∧ u = .int j ∧ (j ≤ i → LeavesP (ca 4) v u H E) ∧ (i < j → RetV .non H Q))
theorem scNeedR : FnScope ["first", "second"] ["first", "second"] (defScope sNeedR) := ⟨rfl, rfl, rfl, by decide +kernel, rfl, by decide +kernel, by decide +kernel⟩
theorem ok_needR {f : Addr} {fd fdn : FuncData} (F : Fun K "need_range" "need_range" sNeedR f fd) (GN : FnOk P w K mg base CX0 2 fnum fdn ["value"] (spIsNum K)) (bN : Binds K fdn ["value"] []) (T : TxF3 K mg fi fnum fnb fnr)
    (M : Mks P K mg (ca 4) ["value"]) (gC : mg "BadRange" = some (.ref (ca 4))) : FnOk P w K mg base (L2.CX P w) 3 f fd ["first", "second"] (spNeedR K ca) := by
  refine F.okX scNeedR (fun vs H Q E h => ?_) (fun cdv A outer s H vs Q E hr h => ?_)
  · obtain ⟨v, u, _, _, rfl, _⟩ := h
    rfl
  · obtain ⟨v, u, b, c, rfl, kb, kc, l1, l2⟩ := h
    refine ⟨_, pss_one (ps_if (PW.pt (pw_or (pt_not (pt_val (pe_call GN hr (by rfl) T.isNum T.kNum bN .nil pass0 (pa_cons (pv 0) pa_nil)))) (pw_or (pt_not (pt_val (pe_call GN hr (by rfl) T.isNum T.kNum bN .nil pass0 (pa_cons (pv 1) pa_nil)))) (pw_or1 (pt_cmpR op_ge (pv 0) (pv 1) (nomark _))))))
      (pss_one (ps_raise rfl (takes_of rfl rfl rfl rfl) (pmk_mks M T.sup hr (by simp) (pa_cons (pe_tup (pa_cons (pv 0) (pa_cons (pv 1) pa_nil))) pa_nil) (by rfl) gC))) pss_nil), ?_⟩
    have raise : LeavesP (ca 4) v u H E → ∀ H2, Ex H H2 → tMks (ca 4) ["value"] (tCons (tTup (tCons (tVar 0) (tCons (tVar 1) tNil))) tNil) (L2.start ["first", "second"] [v, u]) H2 (fun cls d H' => E cls d H') := fun lt H2 e2 =>
      ⟨_, rfl, _, rfl, by show (2 : Nat) ≤ sizeLine; rw [sizeLine_eq]; omega, fun t nt => ⟨rfl, fun d hd => lt _ t d (e2.trans (Ex.new nt)) upd_same hd⟩⟩
    have e1 : ∀ {te : TE} {x : V} {r : Bool}, Ev te (L2.start ["first", "second"] [v, u]) H x → Nm K H x r → Ev (tCall (spIsNum K) [] E0 (tCons te tNil)) (L2.start ["first", "second"] [v, u]) H (.bl r) := fun h k =>
      ev_call (ea_cons h ea_nil) fun H1 e Q q E => ⟨_, _, rfl, k.ex e, fun H2 e2 => q H2 e2⟩
    cases hb : (b && c) with
    | false =>
      refine s_when (b := true) (et_is (et_or (et_not (et_B (e1 (ev_var rfl) kb))) fun z => et_or (b := true) (et_not (et_B (e1 (ev_var rfl) kc))) fun y => ?_) ?_) (fun z H2 e2 => raise (l1 hb) H2 e2) (fun z => nomatch z)
      · cases b <;> cases c <;> simp_all
      · cases b <;> cases c <;> simp_all
    | true =>
      obtain ⟨i, j, rfl, rfl, l3, l4⟩ := l2 hb
      have hbb : b = true ∧ c = true := by cases b <;> cases c <;> simp_all
      refine s_when (b := decide (i ≥ j)) (et_is (et_or (et_not (et_B (e1 (ev_var rfl) kb))) fun z => et_or (et_not (et_B (e1 (ev_var rfl) kc))) fun y => et_test (ev_op (ev_var rfl) (ev_var rfl) rv_I0)) ?_) (fun z H2 e2 => raise (l3 (of_decide_eq_true z)) H2 e2) (fun z H2 e2 => l4 (by have := of_decide_eq_false z; omega) H2 e2)
      rw [hbb.1, hbb.2]
      simp
/-- changed, near: the base first, then the range -/
def spRng (K : PySem.W.Frag) (ca : Nat → Addr) (R : Nat → Nat → Nat → Nat → Prop) : Sp := fun vs H Q E => ∃ vb v u a b c, vs = [vb, v, u] ∧ Bs K H vb a ∧ Nm K H v b ∧ Nm K H u c ∧ (a = false → Leaves (ca 1) "value" vb H E) ∧ (a = true → (b && c) = false → LeavesP (ca 4) v u H E) ∧
  (a = true → (b && c) = true → ∃ (β f s : Nat), vb = .int β ∧ 2 ≤ β ∧ β ≤ 10 ∧ ((∃ i j : Int, v = .int i ∧ u = .int j ∧ j ≤ i ∧ LeavesP (ca 4) v u H E) ∨ (v = .int f ∧ u = .int s ∧ f < s ∧ ∀ m, R β f s m → RetV (.int m) H Q)))
abbrev nChg : List Str := ["base", "first", "second", "many"]
theorem scChanged : FnScope nChg ["base", "first", "second"] (defScope sChanged) := ⟨rfl, rfl, rfl, by decide +kernel, rfl, by decide +kernel, by decide +kernel⟩
theorem LeavesP.go {C : Addr} {v u : V} {H H' : Hp} {E : XK} (l : LeavesP C v u H E) (e : Ex H H') : LeavesP C v u H' E := fun H2 t d e2 ht hd => l H2 t d (e.trans e2) ht hd
theorem ok_changed {f : Addr} {fd fdb fdr : FuncData} (F : Fun K "changed" "changed" sChanged f fd) (GB : FnOk P w K mg base (L2.CX P w) 3 fnb fdb ["base"] (spNeed (Bs K) (ca 1))) (bB : Binds K fdb ["base"] [])
    (GR : FnOk P w K mg base (L2.CX P w) 3 fnr fdr ["first", "second"] (spNeedR K ca)) (bR : Binds K fdr ["first", "second"] []) (T : TxF3 K mg fi fnum fnb fnr) : FnOk P w K mg base (L2.CX P w) 4 f fd ["base", "first", "second"] (spRng K ca ChgIs) := by
  refine F.okX scChanged (fun vs H Q E h => ?_) (fun cdv A outer s H vs Q E hr h => ?_)
  · obtain ⟨_, _, _, _, _, _, rfl, _⟩ := h
    rfl
  · obtain ⟨vb, v, u, a, b, c, rfl, ka, kb, kc, l1, l2, hq⟩ := h
    refine ⟨_, pss_cons (ps_expr (pe_callS GB hr (by rfl) T.needB T.kNB bB (fun σ => passAt (takes_of rfl rfl rfl rfl) σ) (pa_cons (pv 0) pa_nil)))
      (pss_cons (ps_expr (pe_callS GR hr (by rfl) T.needR T.kNR bR (fun σ => passAt (takes_of rfl rfl rfl rfl) σ) (pa_cons (pv 1) (pa_cons (pv 2) pa_nil))))
      (pss_cons (ps_set (i := 3) scChanged.nd rfl (.inl rfl) pe_int)
      (pss_cons (ps_while (passes_of rfl) (pt_cmpR op_ne (pv 1) (pv 2) (nomark _))
        (pss_cons (ps_par (i := 1) (j := 2) (by rfl) scChanged.nd rfl rfl (by decide) rfl rfl (pa_cons (pe_op op_fdiv (pv 1) (pv 0)) (pa_cons (pe_op op_fdiv (pv 2) (pv 0)) pa_nil)) (by rfl)) (pss_one (ps_set (i := 3) scChanged.nd rfl (.inl rfl) (pe_op op_add (pv 3) pe_int)))))
      (pss_one (ps_ret (pv 3)))))), ?_⟩
    refine ⟨_, rfl, vb, a, rfl, ka, fun ha H1 e1 => ?_, fun ha => l1 ha⟩
    refine ⟨_, rfl, _, rfl, v, u, b, c, rfl, kb.ex e1, kc.ex e1, fun z => (l2 ha z).go e1, fun z => ?_⟩
    obtain ⟨β, f, s, rfl, b2, b10, alt⟩ := hq ha z
    rcases alt with ⟨i, j, rfl, rfl, hij, lt⟩ | ⟨rfl, rfl, hfs, q⟩
    · exact ⟨i, j, rfl, rfl, fun _ => lt.go e1, fun z => by omega⟩
    · refine ⟨f, s, rfl, rfl, fun z => by omega, fun _ H2 e2 => ?_⟩
      refine q_asg (v := .int 0) ev_c fun H3 e3 => ?_
      refine q_while (fun n σ' H' => Ex H H' ∧ ∃ i f' s' : Nat, σ' = [some (.int β), some (.int f'), some (.int s'), some (.int (i : Int))] ∧ f' = f / β ^ i ∧ s' = s / β ^ i ∧ n = f' + s' ∧ ∀ j < i, f / β ^ j ≠ s / β ^ j) (f + s)
        ⟨(e1.trans e2).trans e3, 0, f, s, rfl, by simp, by simp, rfl, fun j hj => absurd hj (Nat.not_lt_zero j)⟩ (fun n σ' H' ⟨ex, i, f', s', hσ, hf, hs, hn, hne⟩ => ⟨!decide (V.int (f' : Int) = V.int (s' : Int)), ?_, fun z H4 e4 => ?_, fun z H4 e4 => ?_⟩)
      · subst hσ
        exact et_test (ev_op (ev_var rfl) (ev_var rfl) (rv_ne rfl))
      · subst hσ
        have zne : f' ≠ s' := fun y => by
          rw [y] at z
          simp at z
        have lt1 : f' / β + s' / β < f' + s' := by
          rcases Nat.eq_zero_or_pos f' with y | y
          · have y2 : 0 < s' := by omega
            have := Nat.div_lt_self y2 (show 1 < β by omega)
            have := Nat.div_le_self f' β
            omega
          · have := Nat.div_lt_self y (show 1 < β by omega)
            have := Nat.div_le_self s' β
            omega
        refine ⟨fun σ2 H5 => Ex H H5 ∧ σ2 = [some (.int β), some (.int ((f' / β : Nat) : Int)), some (.int ((s' / β : Nat) : Int)), some (.int ((i + 1 : Nat) : Int))], fun σ2 H5 ⟨ex5, a⟩ => ⟨f' / β + s' / β, by omega, ex5, i + 1, f' / β, s' / β, a, by rw [Nat.pow_succ, ← Nat.div_div_eq_div_mul, ← hf], by rw [Nat.pow_succ, ← Nat.div_div_eq_div_mul, ← hs], rfl, fun j hj => ?_⟩, ?_⟩
        · rcases Nat.lt_or_ge j i with y | y
          · exact hne j y
          · have : j = i := by omega
            subst this
            rw [← hf, ← hs]
            exact zne
        · refine ⟨_, rfl, _, rfl, _, _, rfl, rfl, ⟨by omega, by omega⟩, _, rfl, _, rfl, _, _, rfl, rfl, ⟨by omega, by omega⟩, _, _, rfl, ?_⟩
          refine s_asg (i := 3) (v := .int ((i : Int) + 1)) (ev_op (ev_var rfl) ev_c rv_I0) fun H6 e6 => ⟨(ex.trans e4).trans e6, ?_⟩
          rfl
      · subst hσ
        have zeq : f' = s' := by
          have : V.int (f' : Int) = V.int (s' : Int) := by simpa using z
          injection this with this
          omega
        exact ⟨_, rfl, q i ⟨by rw [← hf, ← hs]; exact zeq, hne⟩ H4 (ex.trans e4)⟩
abbrev nNear : List Str := ["base", "first", "second", "exponent", "power"]
theorem scNear : FnScope nNear ["base", "first", "second"] (defScope sNear) := ⟨rfl, rfl, rfl, by decide +kernel, rfl, by decide +kernel, by decide +kernel⟩
theorem ok_near {f : Addr} {fd fdb fdr : FuncData} (F : Fun K "near" "near" sNear f fd) (GB : FnOk P w K mg base (L2.CX P w) 3 fnb fdb ["base"] (spNeed (Bs K) (ca 1))) (bB : Binds K fdb ["base"] [])
    (GR : FnOk P w K mg base (L2.CX P w) 3 fnr fdr ["first", "second"] (spNeedR K ca)) (bR : Binds K fdr ["first", "second"] []) (T : TxF3 K mg fi fnum fnb fnr) : FnOk P w K mg base (L2.CX P w) 4 f fd ["base", "first", "second"] (spRng K ca fun β f s m => NearIs β (s - f) m) := by
  refine F.okX scNear (fun vs H Q E h => ?_) (fun cdv A outer s H vs Q E hr h => ?_)
  · obtain ⟨_, _, _, _, _, _, rfl, _⟩ := h
    rfl
  · obtain ⟨vb, v, u, a, b, c, rfl, ka, kb, kc, l1, l2, hq⟩ := h
    refine ⟨_, pss_cons (ps_expr (pe_callS GB hr (by rfl) T.needB T.kNB bB (fun σ => passAt (takes_of rfl rfl rfl rfl) σ) (pa_cons (pv 0) pa_nil)))
      (pss_cons (ps_expr (pe_callS GR hr (by rfl) T.needR T.kNR bR (fun σ => passAt (takes_of rfl rfl rfl rfl) σ) (pa_cons (pv 1) (pa_cons (pv 2) pa_nil))))
      (pss_cons (ps_set (i := 3) scNear.nd rfl (.inl rfl) pe_int)
      (pss_cons (ps_set (i := 4) scNear.nd rfl (.inl rfl) pe_int)
      (pss_cons (ps_while (passes_of rfl) (pt_cmpR op_lt (pv 4) (pe_op op_sub (pv 2) (pv 1)) (nomark _))
        (pss_cons (ps_set (i := 4) scNear.nd rfl (.inl rfl) (pe_op op_mul (pv 4) (pv 0))) (pss_one (ps_set (i := 3) scNear.nd rfl (.inl rfl) (pe_op op_add (pv 3) pe_int)))))
      (pss_one (ps_ret (pv 3))))))), ?_⟩
    refine ⟨_, rfl, vb, a, rfl, ka, fun ha H1 e1 => ?_, fun ha => l1 ha⟩
    refine ⟨_, rfl, _, rfl, v, u, b, c, rfl, kb.ex e1, kc.ex e1, fun z => (l2 ha z).go e1, fun z => ?_⟩
    obtain ⟨β, f, s, rfl, b2, b10, alt⟩ := hq ha z
    rcases alt with ⟨i, j, rfl, rfl, hij, lt⟩ | ⟨rfl, rfl, hfs, q⟩
    · exact ⟨i, j, rfl, rfl, fun _ => lt.go e1, fun z => by omega⟩
    · refine ⟨f, s, rfl, rfl, fun z => by omega, fun _ H2 e2 => ?_⟩
      refine q_asg (v := .int 0) ev_c fun H3 e3 => ?_
      refine q_asg (v := .int 1) ev_c fun H3 e3' => ?_
      refine q_while (fun n σ' H' => Ex H H' ∧ ∃ i g : Nat, σ' = [some (.int β), some (.int f), some (.int s), some (.int (i : Int)), some (.int (g : Int))] ∧ g = β ^ i ∧ n = (s - f) - g ∧ ∀ j < i, β ^ j < s - f) ((s - f) - 1)
        ⟨((e1.trans e2).trans e3).trans e3', 0, 1, rfl, by simp, rfl, fun j hj => absurd hj (Nat.not_lt_zero j)⟩ (fun n σ' H' ⟨ex, i, g, hσ, hg, hn, hne⟩ => ⟨decide ((g : Int) < (s : Int) - (f : Int)), ?_, fun z H4 e4 => ?_, fun z H4 e4 => ?_⟩)
      · subst hσ
        exact et_test (ev_op (ev_var rfl) (ev_op (ev_var rfl) (ev_var rfl) rv_I0) rv_I0)
      · subst hσ
        have zlt := of_decide_eq_true z
        have g1 : 1 ≤ g := by
          rw [hg]
          exact Nat.one_le_pow _ _ (by omega)
        have g2 : g < g * β := by
          have : g * 2 ≤ g * β := Nat.mul_le_mul_left _ b2
          omega
        refine ⟨fun σ2 H5 => Ex H H5 ∧ σ2 = [some (.int β), some (.int f), some (.int s), some (.int ((i + 1 : Nat) : Int)), some (.int ((g * β : Nat) : Int))], fun σ2 H5 ⟨ex5, a⟩ => ⟨(s - f) - g * β, by omega, ex5, i + 1, g * β, a, by rw [Nat.pow_succ, ← hg], rfl, fun j hj => ?_⟩, ?_⟩
        · rcases Nat.lt_or_ge j i with y | y
          · exact hne j y
          · have : j = i := by omega
            subst this
            rw [← hg]
            omega
        · refine q_asg (v := .int ((g : Int) * (β : Int))) (ev_op (ev_var rfl) (ev_var rfl) (rv_I (.inr ⟨by omega, by omega⟩))) fun H5 e5 => ?_
          refine s_asg (i := 3) (v := .int ((i : Int) + 1)) (ev_op (ev_var rfl) ev_c rv_I0) fun H6 e6 => ⟨((ex.trans e4).trans e5).trans e6, ?_⟩
          rw [← Int.natCast_mul]
          rfl
      · subst hσ
        have zge := of_decide_eq_false z
        exact ⟨_, rfl, q i ⟨by rw [← hg]; omega, hne⟩ H4 (ex.trans e4)⟩
end
end Dg

/-! k03: digits and what is changed, as lists. -/
namespace Dg
open PySem L2 Evl TL
theorem dl_inj {β : Nat} (hb : 2 ≤ β) : ∀ a b : Nat, dl β a = dl β b → a = b := by
  intro a
  induction a using Nat.strongRecOn with
  | _ a ih =>
    intro b h
    rcases Nat.eq_zero_or_pos a with z | z
    · rcases Nat.eq_zero_or_pos b with y | y
      · omega
      · rw [z, dl_zero, dl_step hb y] at h
        cases h
    · rcases Nat.eq_zero_or_pos b with y | y
      · rw [y, dl_zero, dl_step hb z] at h
        cases h
      · rw [dl_step hb z, dl_step hb y] at h
        injection h with h1 h2
        have := ih (a / β) (Nat.div_lt_self z (by omega)) _ h2
        have e1 := Nat.div_add_mod a β
        have e2 := Nat.div_add_mod b β
        rw [← e1, ← e2, this, h1]
theorem dl_drop {β : Nat} (hb : 2 ≤ β) : ∀ m n : Nat, dl β (n / β ^ m) = (dl β n).drop m
  | 0, n => by simp
  | m + 1, n => by
    rw [Nat.pow_succ, ← Nat.div_div_eq_div_mul]
    rw [show m + 1 = m + 1 from rfl, ← List.drop_drop, ← dl_drop hb m n]
    rcases Nat.eq_zero_or_pos (n / β ^ m) with z | z
    · rw [z]
      simp [dl_zero]
    · rw [dl_step hb z]
      rfl
theorem dl_mono {β : Nat} (hb : 2 ≤ β) {f s : Nat} (h : f ≤ s) : (dl β f).length ≤ (dl β s).length := by
  have h1 : (dl β (s / β ^ (dl β s).length)) = [] := by
    rw [dl_drop hb]
    simp
  have h2 : s / β ^ (dl β s).length = 0 := dl_inj hb _ _ (by rw [h1, dl_zero])
  have h3 : f / β ^ (dl β s).length = 0 := by
    have y := Nat.div_le_div_right (c := β ^ (dl β s).length) h
    rw [h2] at y
    exact Nat.le_zero.mp y
  have h4 : dl β (f / β ^ (dl β s).length) = [] := by rw [h3, dl_zero]
  rw [dl_drop hb] at h4
  exact List.drop_eq_nil_iff.mp h4
/-- what the tops of equal length tell -/
theorem chg_same {β f s k : Nat} (hb : 2 ≤ β) (hl : (dl β f).length = (dl β s).length) (hk : k < (dl β f).length) (h1 : (dl β f).reverse.take k = (dl β s).reverse.take k) (h2 : (dl β f).reverse.take (k + 1) ≠ (dl β s).reverse.take (k + 1)) : ChgIs β f s ((dl β s).length - k) := by
  have key : ∀ j, (dl β f).drop ((dl β f).length - j) = ((dl β f).reverse.take j).reverse := fun j => by
    rw [← List.reverse_reverse (dl β f)]
    rw [List.drop_reverse]
    simp only [List.reverse_reverse, List.length_reverse]
    congr 1
    rcases Nat.le_total j (dl β f).length with y | y
    · congr 1
      omega
    · rw [show (dl β f).length - j = 0 by omega]
      rw [List.take_of_length_le (by simp), List.take_of_length_le (by simpa using y)]
  have key2 : ∀ j, (dl β s).drop ((dl β s).length - j) = ((dl β s).reverse.take j).reverse := fun j => by
    rw [← List.reverse_reverse (dl β s)]
    rw [List.drop_reverse]
    simp only [List.reverse_reverse, List.length_reverse]
    congr 1
    rcases Nat.le_total j (dl β s).length with y | y
    · congr 1
      omega
    · rw [show (dl β s).length - j = 0 by omega]
      rw [List.take_of_length_le (by simp), List.take_of_length_le (by simpa using y)]
  have hne : f / β ^ ((dl β s).length - k - 1) ≠ s / β ^ ((dl β s).length - k - 1) := fun e => by
    have e2 : (dl β f).drop ((dl β s).length - k - 1) = (dl β s).drop ((dl β s).length - k - 1) := by rw [← dl_drop hb, ← dl_drop hb, e]
    rw [show (dl β s).length - k - 1 = (dl β s).length - (k + 1) by omega] at e2
    rw [key2, ← hl, key] at e2
    exact h2 (List.reverse_inj.mp e2)
  refine ⟨dl_inj hb _ _ ?_, fun j hj e => hne ?_⟩
  · rw [dl_drop hb, dl_drop hb, key2, ← hl, key, h1]
  · have e3 : ∀ n, n / β ^ ((dl β s).length - k - 1) = n / β ^ j / β ^ ((dl β s).length - k - 1 - j) := fun n => by
      rw [Nat.div_div_eq_div_mul, ← Nat.pow_add, show j + ((dl β s).length - k - 1 - j) = (dl β s).length - k - 1 by omega]
    rw [e3, e3, e]
theorem chg_diff {β f s : Nat} (hb : 2 ≤ β) (hl : (dl β f).length < (dl β s).length) : ChgIs β f s (dl β s).length := by
  refine ⟨dl_inj hb _ _ ?_, fun j hj e => ?_⟩
  · rw [dl_drop hb, dl_drop hb, List.drop_of_length_le (by omega), List.drop_of_length_le (Nat.le_refl _)]
  · have e2 : (dl β f).drop ((dl β s).length - 1) = (dl β s).drop ((dl β s).length - 1) := by
      rw [← dl_drop hb, ← dl_drop hb]
      have e3 : ∀ n, n / β ^ ((dl β s).length - 1) = n / β ^ j / β ^ ((dl β s).length - 1 - j) := fun n => by
        rw [Nat.div_div_eq_div_mul, ← Nat.pow_add, show j + ((dl β s).length - 1 - j) = (dl β s).length - 1 by omega]
      rw [e3, e3, e]
    have e4 := congrArg List.length e2
    rw [List.length_drop, List.length_drop] at e4
    omega
theorem chg_pos {β f s m : Nat} (h : f < s) (c : ChgIs β f s m) : 0 < m := by
  rcases Nat.eq_zero_or_pos m with z | z
  · subst z
    have := c.1
    simp at this
    omega
  · exact z
theorem chg_len {β f s m : Nat} (hb : 2 ≤ β) (h : f < s) (c : ChgIs β f s m) : m ≤ (dl β s).length := by
  rcases Nat.lt_or_ge (dl β s).length m with z | z
  · refine absurd ?_ (c.2 _ z)
    refine dl_inj hb _ _ ?_
    rw [dl_drop hb, dl_drop hb, List.drop_of_length_le (dl_mono hb (Nat.le_of_lt h)), List.drop_of_length_le (Nat.le_refl _)]
  · exact z
theorem near_chg {β f s m k : Nat} (hb : 2 ≤ β) (h : f < s) (c : ChgIs β f s m) (n : NearIs β (s - f) k) : k ≤ m := by
  rcases Nat.lt_or_ge m k with z | z
  · have h1 : β ^ m < s - f := n.2 m z
    have h2 : f / β ^ m = s / β ^ m := c.1
    have p : 0 < β ^ m := Nat.pow_pos (by omega)
    have e1 := Nat.div_add_mod f (β ^ m)
    have e2 := Nat.div_add_mod s (β ^ m)
    have l2 := Nat.mod_lt s p
    rw [h2] at e1
    generalize β ^ m * (s / β ^ m) = y at e1 e2
    generalize f % β ^ m = r1 at e1
    generalize s % β ^ m = r2 at e2 l2
    omega
  · exact z
theorem near_len {β d k : Nat} (hb : 2 ≤ β) {z : Nat} (hd : d < 2 ^ z) (n : NearIs β d k) : k ≤ z := by
  rcases Nat.lt_or_ge z k with y | y
  · have h1 : β ^ z < d := n.2 z y
    have h2 : 2 ^ z ≤ β ^ z := Nat.pow_le_pow_left hb z
    omega
  · exact y
theorem tl_cut1 (x : Str) : tl (cutS x none (some 1)) = (tl x).take 1 := by
  show (((x.cps.toList.drop (HT.sIx x.length 0 none)).take (HT.sIx x.length x.length (some 1) - HT.sIx x.length 0 none)).toArray).toList = x.cps.toList.take 1
  have h : x.length = x.cps.toList.length := Array.length_toList.symm
  rw [HT.sIx_none, show ((1 : Int)) = ((1 : Nat) : Int) from rfl, HT.sIx_nat, h]
  cases x.cps.toList with
  | nil => rfl
  | cons a l => simp
theorem tl_cut2 (x : Str) : tl (cutS x (some 1) none) = (tl x).drop 1 := by
  show (((x.cps.toList.drop (HT.sIx x.length 0 (some 1))).take (HT.sIx x.length x.length none - HT.sIx x.length 0 (some 1))).toArray).toList = x.cps.toList.drop 1
  have h : x.length = x.cps.toList.length := Array.length_toList.symm
  rw [HT.sIx_none, show ((1 : Int)) = ((1 : Nat) : Int) from rfl, HT.sIx_nat, h]
  cases x.cps.toList with
  | nil => rfl
  | cons a l => simp
end Dg

/-! The end of a law whose defs make lambdas and call repr. -/
namespace LamR
open PySem PySem.Spec PyProof.Rows L2 LamX
/-- a table of code objects, still empty -/
abbrev bare : Obj := { cls := .none, data := .fields #[] }
/-- what is known where the law is called; cs: code objects with their tables -/
structure HeadAt (K : PySem.W.Frag) (mg mb : Str → Option Value) (cs : List (Addr × Addr)) (s : Shared) : Prop where
  kin : K.In s.heap
  glob : s.heap.Ns mainGlobals mg
  blt : s.heap.Ns builtinsNs mb
  boot : ∀ x : Str, x ≠ "__name__" → mb x = bootBuiltins x
  lim : s.heap.NoLimit
  gens : s.gens = #[]
  tab : ∀ p ∈ cs, s.heap.get? p.2 = some bare
  off : ∀ p ∈ cs, K.lookup p.2 = none
  cod : ∀ p ∈ cs, PySem.W.CodeHd s.heap p.1 p.2
  bmod : ∃ (m : Addr) (o : Obj), mg "__builtins__" = some (.ref m) ∧ m ≠ builtinsNs ∧ s.heap.get? m = some o ∧ o.cls = .type "module" ∧ o.dict = some builtinsNs ∧ o.data = .plain
/-- what is followed: the tables, and the script where the written part has it not -/
structure Hid (K : PySem.W.Frag) (cs : List (Addr × Addr)) (a : Addr) (H : Hp) : Prop where
  only : ∀ b, H b ≠ none → b = a ∨ ∃ p ∈ cs, b = p.2
  mine : H a = none ∨ (K.lookup a = none ∧ ∃ o xs, H a = some (.frz o (.lst xs)))
  tabs : ∀ p ∈ cs, H p.2 = some (.tbl #[])
section
variable {P : Program} {w : World} {K : PySem.W.Frag} {mg mb : Str → Option Value} {cs : List (Addr × Addr)} {s : Shared} {a : Addr} {H : Hp} {vs : List Value}
/-- neither a list nor an empty row of fields: it is not followed -/
theorem Hid.out (h : Hid K cs a H) (D : HeadAt K mg mb cs s) (ha : s.heap.get? a = some { cls := .type "list", data := .seq vs.toArray }) {b : Addr} {o : Obj} (e : s.heap.get? b = some o) (nl : ∀ us n, o.data ≠ .seq us n) (nf : o.data ≠ .fields #[]) : H b = none := by
  by_cases z : H b = none
  · exact z
  · exfalso
    rcases h.only b z with q | ⟨p, hp, q⟩ <;> subst q
    · cases ha.symm.trans e
      exact nl _ _ rfl
    · cases (D.tab p hp).symm.trans e
      exact nf rfl
theorem Hid.stays (h : Hid K cs a H) (D : HeadAt K mg mb cs s) (ha : s.heap.get? a = some { cls := .type "list", data := .seq vs.toArray }) {b : Addr} {o : Obj} (e : s.heap.get? b = some o) (nl : ∀ us n, o.data ≠ .seq us n) (nf : o.data ≠ .fields #[]) : (hidT s.heap H).get? b = some o := hidT_get e (h.out D ha e nl nf)
theorem Hid.names (h : Hid K cs a H) (D : HeadAt K mg mb cs s) (ha : s.heap.get? a = some { cls := .type "list", data := .seq vs.toArray }) {b : Addr} {m : Str → Option Value} (n : s.heap.Ns b m) : (hidT s.heap H).Ns b m := by
  obtain ⟨o, es, ep, e, d, r⟩ := n
  refine ⟨o, es, ep, h.stays D ha e (fun us n z => ?_) (fun z => ?_), d, r⟩ <;> cases d.symm.trans z
theorem Hid.frag (h : Hid K cs a H) (D : HeadAt K mg mb cs s) : K.In (hidT s.heap H) := fun b o e => by
  refine hidT_get (D.kin b o e) ?_
  by_cases z : H b = none
  · exact z
  · exfalso
    rcases h.only b z with q | ⟨p, hp, q⟩ <;> subst q
    · rcases h.mine with y | ⟨y, _⟩
      · exact z y
      · cases y.symm.trans e
    · cases (D.off p hp).symm.trans e
theorem Hid.table (h : Hid K cs a H) (D : HeadAt K mg mb cs s) (ha : s.heap.get? a = some { cls := .type "list", data := .seq vs.toArray }) : ∀ p ∈ cs, TabB (hidT s.heap H) mg p.1 p.2 := fun p hp => by
  have tp := D.tab p hp
  have gl := D.glob
  refine ⟨?_, ?_, fun z => ?_⟩
  · obtain ⟨o, us, file, tf, flags, tg, inF, text, tt, e1, k1, k2, k3, rest⟩ := D.cod p hp
    refine ⟨o, us, file, tf, flags, tg, inF, text, tt, h.stays D ha e1 (fun vs n z => ?_) (fun z => ?_), k1, k2, k3, rest⟩
    · cases k2.symm.trans z
    · cases k2.symm.trans z
      simp at k3
  · obtain ⟨m, o, y1, y2, y3, y4, y5, y6⟩ := D.bmod
    refine ⟨m, o, y1, y2, fun q => ?_, fun q => ?_, h.stays D ha y3 (fun vs n z => ?_) (fun z => ?_), y4, y5, y6⟩
    · obtain ⟨o', es, ep, e', d', _⟩ := gl
      subst q
      cases y3.symm.trans e'
      cases y6.symm.trans d'
    · subst q
      cases y3.symm.trans tp
      cases y6
    · cases y6.symm.trans z
    · cases y6.symm.trans z
  · obtain ⟨o', es, ep, e', d', _⟩ := gl
    rw [z] at e'
    cases tp.symm.trans e'
    cases d'
/-- the call of the law, at what is followed -/
theorem call_at {CX : CXT} {k : Nat} {fa : Addr} {fd : FuncData} {x : Str} {sp : Sp} (h : Hid K cs a H) (D : HeadAt K mg mb cs s) (ha : s.heap.get? a = some { cls := .type "list", data := .seq vs.toArray }) (ok : HOk P w H s.heap) (hr : RoomG k callerA)
    (F : ∀ base : Heap, K.In base → base.Ns mainGlobals mg → (∀ p ∈ cs, TabB base mg p.1 p.2) → FnG P w K mg base CX k fa fd [x] sp) (hb : BindsTo s fd ⟨[.ref a], []⟩ [(x, .ref a)]) (hsp : sp [.ref a] H (fun v _ => v = .bl true) fun _ _ _ => False) (hCX : ∀ e s', CX [] H s (fun _ _ _ => False) e s' → False) :
    codeAny (model P w) callerA (.call (.ref fa) ⟨[.ref a], []⟩) (fun r s' => r = .ok (.ret (.bool true)) ∧ OldK s.heap s'.heap ∧ s'.os = s.os ∧ AllBare s'.gens) s := by
  have fr := h.frag D
  have gl := h.names D ha D.glob
  obtain ⟨mc, lim1, lim2⟩ := D.lim
  have env : Env0 P w K mg (hidT s.heap H) callerA [] s H :=
    ⟨rfl, ⟨fr, gl, ⟨mb, h.names D ha D.blt, D.boot⟩, ⟨mc, h.names D ha lim1, lim2⟩⟩, fun b o e => of_hidT e, Nat.le_of_eq (hidT_size _ _), trivial, fun b z => absurd (show b ∈ ([] : List Addr) from z) (by simp), ok, .of_eq D.gens⟩
  refine codeAny_mono ((F _ fr gl (h.table D ha)).run callerA [] s H ⟨[.ref a], []⟩ [.ref a] [.ref a] _ _ hr env hb (.cons rfl .nil) hsp) fun r s' hq => ?_
  match r, hq with
  | .error e, hq => exact (hCX e s' hq).elim
  | .ok (.ret u), ⟨v, H', os, gens, un, ok', rel, q⟩ =>
    have q : v = .bl true := q
    subst q
    have rel : u = Value.bool true := rel
    subst rel
    -- what was there is there still, but for the tables, which may have grown
    have old : ∀ b o, (∀ p ∈ cs, b ≠ p.2) → s.heap.get? b = some o → s'.heap.get? b = some o := fun b o nb e => by
      by_cases z : H b = none
      · exact un.keep b o e z (fun y => absurd (show b ∈ ([] : List Addr) from y) (by simp)) (by simp)
      · rcases h.only b z with y | ⟨p, hp, y⟩
        · subst y
          rcases h.mine with y | ⟨_, ob, xs, y⟩
          · exact (z y).elim
          · have g1 := (ok b _ y).1
            have g2 := (ok' b _ (un.frzs b ob _ y)).1
            cases e.symm.trans g1
            exact g2
        · exact (nb p hp y).elim
    have more : ∀ p ∈ cs, ∃ us : Array Value, s'.heap.get? p.2 = some { cls := .none, data := .fields us } := fun p hp =>
      let ⟨us, y⟩ := un.tbls p.2 #[] (h.tabs p hp)
      ⟨_, ok' p.2 _ y⟩
    refine ⟨rfl, ⟨fun b o e => ?_, fun b o e => ?_⟩, os, gens⟩
    · by_cases y : ∃ p ∈ cs, b = p.2
      · obtain ⟨p, hp, rfl⟩ := y
        obtain ⟨us, g⟩ := more p hp
        have tp := D.tab p hp
        cases tp.symm.trans e
        exact .inr (.inl ⟨((D.cod p hp).tab tp).isCodeTable, rfl, #[], us, rfl, by rw [Array.empty_append]; exact g⟩)
      · exact .inl (old b o (fun p hp z => y ⟨p, hp, z⟩) e)
    · by_cases y : ∃ p ∈ cs, b = p.2
      · obtain ⟨p, hp, rfl⟩ := y
        obtain ⟨us, g⟩ := more p hp
        exact ⟨_, g⟩
      · exact ⟨o, old b o (fun p hp z => y ⟨p, hp, z⟩) e⟩
  | .ok .next, hq => exact False.elim hq
  | .ok .brk, hq => exact False.elim hq
  | .ok .cont, hq => exact False.elim hq
/-- the script is followed as a list that stays, or stands in the written part -/
theorem call_law {CX : CXT} {k : Nat} {fa : Addr} {fd : FuncData} {x : Str} {sp : Sp} {ns : List Int} (D : HeadAt K mg mb cs s) (ha : s.heap.get? a = some { cls := .type "list", data := .seq vs.toArray }) (hi : IntsAre vs ns) (hl : ns.length ≤ sizeLine) (hr : RoomG k callerA)
    (F : ∀ base : Heap, K.In base → base.Ns mainGlobals mg → (∀ p ∈ cs, TabB base mg p.1 p.2) → FnG P w K mg base CX k fa fd [x] sp) (hb : ∀ u : Value, BindsTo s fd ⟨[u], []⟩ [(x, u)])
    (hsp : ∀ H : Hp, (∀ p ∈ cs, H p.2 = some (.tbl #[])) → SqL K H a (ns.map V.int) → sp [.ref a] H (fun v _ => v = .bl true) fun _ _ _ => False) (hCX : ∀ H e s', CX [] H s (fun _ _ _ => False) e s' → False) :
    codeAny (model P w) callerA (.call (.ref fa) ⟨[.ref a], []⟩) (fun r s' => r = .ok (.ret (.bool true)) ∧ OldK s.heap s'.heap ∧ s'.os = s.os ∧ AllBare s'.gens) s := by
  have rel := vals_ints hi
  have na : ∀ p ∈ cs, p.2 ≠ a := fun p hp z => by
    have tp := D.tab p hp
    rw [z] at tp
    cases ha.symm.trans tp
  have tabled : ∀ b, (∃ p ∈ cs, b = p.2) → s.heap.get? b = some bare := fun b ⟨p, hp, z⟩ => by
    rw [z]
    exact D.tab p hp
  classical
  let own : Option HO := if K.lookup a = none then some (.frz { cls := .type "list", data := .seq vs.toArray } (.lst (ns.map V.int))) else none
  let H : Hp := fun b => if b = a then own else if ∃ p ∈ cs, b = p.2 then some (.tbl #[]) else none
  have Ha : H a = own := if_pos rfl
  have Ht : ∀ p ∈ cs, H p.2 = some (.tbl #[]) := fun p hp => (if_neg (na p hp)).trans (if_pos ⟨p, hp, rfl⟩)
  have Hid0 : Hid K cs a H := by
    refine ⟨fun b z => ?_, ?_, Ht⟩
    · by_cases y : b = a
      · exact .inl y
      · by_cases y2 : ∃ p ∈ cs, b = p.2
        · exact .inr y2
        · exact (z ((if_neg y).trans (if_neg y2))).elim
    · rw [Ha]
      by_cases y : K.lookup a = none
      · exact .inr ⟨y, _, _, if_pos y⟩
      · exact .inl (if_neg y)
  have seq : SqL K H a (ns.map V.int) := by
    cases y : K.lookup a with
    | none => exact .inl (.inr ⟨_, Ha.trans (if_pos y)⟩)
    | some o =>
      cases (D.kin a o y).symm.trans ha
      exact .inr ⟨_, vs.toArray, _, y, rfl, rfl, rfl, by rw [List.size_toArray, hi.length]; exact hl, by simpa using rel⟩
  have ok : HOk P w H s.heap := fun b u z => by
    by_cases y : b = a
    · subst y
      rw [Ha] at z
      by_cases y2 : K.lookup b = none
      · cases (if_pos y2).symm.trans z
        exact ⟨ha, by rw [List.length_map]; exact hl, vs, _, rel, ha⟩
      · cases (if_neg y2).symm.trans z
    · by_cases y2 : ∃ p ∈ cs, b = p.2
      · cases ((if_neg y).trans (if_pos y2)).symm.trans z
        exact tabled b y2
      · cases ((if_neg y).trans (if_neg y2)).symm.trans z
  exact call_at Hid0 D ha ok hr F (hb _) (hsp H Ht seq) fun e s' => hCX H e s'
end
/-- the whole walk -/
theorem walk_T {l : PySem.W.OpenLaw} {n k : Nat} {q : Program} {loose : List Str} {XP : (Str → Option Value) → Heap → Prop} {YP : World → Heap → Prop} {d : DefRec} {K : Params → PySem.W.Frag} {CX : World → CXT} {x : Str} {cs : List (Addr × Addr)} {sp : World → Sp}
    (hn : l.most = some n) (hn2 : n ≤ sizeLine) (hdf : d.params.defaults = []) (hr : RoomG k callerA) (hY : ∀ (w : World) (h : Heap), YP w h → (K w.params).In h)
    (hT : ∀ (w : World) (h : Heap), YP w h → ∀ p ∈ cs, h.get? p.2 = some bare) (nT : ∀ w : World, ∀ p ∈ cs, (K w.params).lookup p.2 = none) (hC : ∀ w : World, ∀ p ∈ cs, PySem.W.codeHdIn (K w.params) p.1 p.2 = true)
    (F : ∀ (w : World) (mg : Str → Option Value) (fa : Addr) (h : Heap), (K w.params).In h → h.Ns mainGlobals mg → mg d.name = some (.ref fa) → ∃ fd : FuncData, (∀ (s : Shared) (u : Value), BindsTo s fd ⟨[u], []⟩ [(x, u)]) ∧
      ∀ base : Heap, (K w.params).In base → base.Ns mainGlobals mg → (∀ p ∈ cs, TabB base mg p.1 p.2) → FnG l.prog w (K w.params) mg base (CX w) k fa fd [x] (sp w))
    (hsp : ∀ (w : World) (H : Hp) (a : Addr) (ns : List Int), ns.length ≤ n → (∀ p ∈ cs, H p.2 = some (.tbl #[])) → SqL (K w.params) H a (ns.map V.int) → sp w [.ref a] H (fun v _ => v = .bl true) fun _ _ _ => False)
    (hCX : ∀ (w : World) (H : Hp) (s : Shared) (e : Value) (s' : Shared), CX w [] H s (fun _ _ _ => False) e s' → False) :
    PySem.W.WalkO q loose XP YP l.row.toRowW d [] (fun f vs => PySem.call f vs) := by
  refine Att.attach_call hn hdf fun w s₀ s₁ mg mb fa o pm cd doc a vs ns G Y _ _ _ hmg hobj hints hlen hg => ?_
  have kin := hY w _ Y
  obtain ⟨fd, hb, hF⟩ := F w mg fa _ kin G.T.g hmg
  exact call_law ⟨kin, G.T.g, G.T.b, G.T.builtins, G.T.nolimit, hg, hT w _ Y, nT w, fun p hp => PySem.W.codeHd_of_K kin (hC w p hp), G.T.bmain⟩ hobj hints (Nat.le_trans hlen hn2) hr hF (hb s₁) (fun H hH hS => hsp w H a ns hlen hH hS) fun H e s' => hCX w H s₁ e s'
end LamR

/-! enumerate over a tuple. -/
namespace PySem
open Sem (wp)
theorem meets_enumerate_newB1 {v : Value} {o : Obj} {H : Heap → Prop} (B : Begins v o H) :
    Meets (Builtin.«enumerate.__new__» ⟨[.type "enumerate", v], []⟩) (fun _ R s => H s.heap ∧
      R (.ok (.ret (.ref (s.heap.push o).objs.size))) { s with heap := (s.heap.push o).push { cls := .type "enumerate", data := .fields #[.none, .bool false, .ref s.heap.objs.size, rawInt 0, .none, .none] } }) :=
  .of_wp fun prog w A R s h => by
    obtain ⟨hp, g, d, tk, os⟩ := s; obtain ⟨h1, h⟩ := h
    have hsub := sub_enumerate
    have q1 : ∀ {A' : Around} {E : Value → Shared → Prop} {Q : Value → Shared → Prop}, Q (.ref hp.objs.size) ⟨hp.push o, g, d, tk, os⟩ → wpAny (model prog w) A' (pyIter v) Q E ⟨hp, g, d, tk, os⟩ :=
      fun q => B.iter prog w _ _ ⟨hp, g, d, tk, os⟩ _ h1 q
    wp_walk using q1
    refine wpAny_stack_any fun st => wpAny_pure ?_
    split
    · rename_i c _ _ _ _ _
      cases (c == Value.type "enumerate")
      · wp_walk using q1
        exact ⟨_, rfl, h⟩
      · wp_walk using q1
        exact ⟨_, rfl, h⟩
    · wp_walk using q1
      exact ⟨_, rfl, h⟩
section
variable {prog : Program} {w : World} {A : Around} {E : Value → Shared → Prop} {s : Shared}
theorem call_enumerate_tuple {l : Addr} {items : Array Value} {Q : Value → Shared → Prop} (hL : s.heap.IsTuple l items)
    (h : ∀ h', IsEnum h' (s.heap.objs.size + 1) s.heap.objs.size 0 .none → h'.IsTupleIter s.heap.objs.size l 0 → h'.objs.size = s.heap.objs.size + 2 →
      (∀ b o, s.heap.get? b = some o → h'.get? b = some o) → Q (.ref (s.heap.objs.size + 1)) { s with heap := h' }) :
    wpAny (model prog w) A (call (.type "enumerate") [.ref l]) Q E s := by
  refine callType_new F.called_enumerate (by decide) (F.typeCall_enumerate_1 _) (F.newCall_enumerate_1 _) (fun obj => F.args_object_init_2 obj _) F.entry_enumerate_new
    (meets_enumerate_newB1 (begins_tuple l items)) ⟨hL, ?_⟩
  have hz : (s.heap.push { cls := .type "tuple_iterator", data := .fields #[.ref l, .int 0 0] }).objs.size = s.heap.objs.size + 1 := Heap.size_push ..
  show _ ∧ _
  rw [hz]
  have he : IsEnum ((s.heap.push { cls := .type "tuple_iterator", data := .fields #[.ref l, .int 0 0] }).push
      { cls := .type "enumerate", data := .fields #[.none, .bool false, .ref s.heap.objs.size, rawInt 0, .none, .none] }) (s.heap.objs.size + 1) s.heap.objs.size 0 .none := by
    have := Heap.get?_push_size (s.heap.push { cls := .type "tuple_iterator", data := .fields #[.ref l, .int 0 0] })
      (o := { cls := .type "enumerate", data := .fields #[.none, .bool false, .ref s.heap.objs.size, rawInt 0, .none, .none] }) rfl
    rw [hz] at this; exact this
  refine ⟨⟨_, he, rfl⟩, h _ he ⟨_, Heap.get?_push_of_some _ (Heap.get?_push_size _ rfl), rfl, rfl⟩ (by rw [Heap.size_push, hz]) fun b o x => Heap.get?_push_of_some _ (Heap.get?_push_of_some _ x)⟩
end
end PySem
namespace L2
open PySem PySem.Spec PyProof.Rows
/-- the tuple at a at each turn, each item in a new pair -/
def IteT (K : PySem.W.Frag) (a : Addr) : It :=
  ⟨fun i H => ∃ (xs : List V) (x : V), SqT K H a xs ∧ xs[i]? = some x, fun i H v H' => ∃ T x, v = .ref T ∧ H T = none ∧ H' = upd H T (.tup [.int (i : Nat), x]) ∧ ∀ xs, SqT K H a xs → xs[i]? = some x, fun i H => ∃ xs : List V, SqT K H a xs ∧ xs.length = i⟩
theorem turn_enumT {P : Program} {w : World} {K : PySem.W.Frag} {elts : List Expr} {kk : Nat} {tpos : Pos} (a e it : Addr) :
    Turn P w K (.Tuple elts kk tpos) (IteT K a) [e, it] e (fun i h => (∃ old, IsEnum h e it ((i : Nat) : Int) old) ∧ h.IsTupleIter it a i ∧ e ≠ it) where
  mem := by simp
  obj := fun i h st b hb => by
    obtain ⟨⟨old, he⟩, ⟨o, ho, hc, hd⟩, _⟩ := st
    have e' : b = e ∨ b = it := by simpa using hb
    rcases e' with z | z
    · rw [z]; exact ⟨_, he, fun v q => nomatch q⟩
    · rw [z]; exact ⟨o, ho, fun v q => by rw [hd] at q; cases q⟩
  keep := fun i h h' st k => let ⟨⟨old, he⟩, hi, hne⟩ := st; ⟨⟨old, k e (by simp) _ he⟩, hi.at fun o q => k it (by simp) o q, hne⟩
  item := by
    intro X hP hw hK hc i pins s σ H E I hf st hg
    subst hP hw hK
    obtain ⟨⟨old, he⟩, hit, hne⟩ := st
    obtain ⟨xs, x, hq, hx⟩ := hg
    obtain ⟨its, rv, p, hz⟩ := I.tuple hq
    have pt : s.heap.IsTuple a its.toArray := p
    obtain ⟨u, hu, ru⟩ := rv.get hx
    have hel : e < s.heap.objs.size := Heap.lt_size he
    have hil : it < s.heap.objs.size := by obtain ⟨_, q, _⟩ := hit; exact Heap.lt_size q
    have hae : e ≠ a := fun z => by
      obtain ⟨o, ho, hc', _⟩ := id pt
      rw [← z] at ho
      cases ho.symm.trans he
      exact absurd hc' (by show ¬ (Value.type "enumerate" = .type "tuple"); decide +kernel)
    have hai : a ≠ it := fun z => by
      obtain ⟨o, ho, hc', _⟩ := id pt
      obtain ⟨o2, ho2, hc2, _⟩ := id hit
      rw [z] at ho
      cases ho.symm.trans ho2
      exact absurd (hc'.symm.trans hc2) (by decide +kernel)
    have hlt : i < its.toArray.size := by
      have := (List.getElem?_eq_some_iff.mp hu).1
      simpa using this
    have hcm : X.A.in1.handled = none := I.ok.hd hc
    refine wpAny_pyNext_enum_itemD (Draws.tuple hcm it a hai its.toArray) he ⟨hit, pt⟩ hlt hne (by simp [hne, hae]) fun x' h' tk hPx ho st' hT hsz hk => ?_
    have exu : x' = u := by
      have : its[i]? = some x' := by simpa using hPx
      rw [hu] at this
      exact (Option.some.inj this).symm
    subst exu
    obtain ⟨hit', _⟩ := st'
    refine ⟨_, rfl, wpAny_letOwnedTupleGo_enum (s := { s with heap := h', toks := tk + 1 }) ho fun h'' he' sb => ?_⟩
    have hT2 : h''.get? s.heap.objs.size = some { cls := .type "tuple", data := .seq #[.int i tk, x'] } := (sb.2 _ (Nat.ne_of_gt hel)).trans hT
    have new : ObjOk X.prog X.w (upd H s.heap.objs.size (.tup [.int (i : Nat), x])) h'' s.heap.objs.size (.tup [.int (i : Nat), x]) :=
      ⟨by show 2 ≤ sizeLine; decide, [.int i tk, x'], .cons ⟨_, rfl⟩ (.cons ru .nil), ⟨_, hT2, rfl, _, rfl⟩⟩
    have I1 : Inv X pins σ (upd H s.heap.objs.size (.tup [.int (i : Nat), x])) { s with heap := h'', toks := tk + 1 } :=
      I.turnedNew (ch := [e, it]) (fun b ob hb q => (sb.2 b (fun z => hb (by simp [z]))).trans (hk b ob (fun z => hb (by simp [z])) (fun z => hb (by simp [z])) q)) hf (Nat.le_refl _) new
    refine ⟨.ref s.heap.objs.size, _, I1, rfl, ⟨_, x, rfl, I.hok.fresh (Nat.le_refl _), rfl, fun ys hy => by rw [I.tuple_inj hy hq]; exact hx⟩, ⟨⟨x', ?_⟩, hit'.at fun o q => (sb.2 it (Ne.symm hne)).trans q, hne⟩, fun b hb => ?_⟩
    · have e1 : ((i + 1 : Nat) : Int) = (i : Int) + 1 := by omega
      rw [e1]; exact he'
    · have hb' : b < s.heap.objs.size := by
        have e' : b = e ∨ b = it := by simpa using hb
        rcases e' with z | z
        · rw [z]; exact hel
        · rw [z]; exact hil
      rw [upd_ne (Nat.ne_of_lt hb')]
      exact (hf b hb).1
  done := by
    intro X hP hw hK hc i pins s σ H E I hf st hg
    subst hP hw hK
    obtain ⟨⟨old, he⟩, hit, hne⟩ := st
    obtain ⟨xs, hq, hx⟩ := hg
    obtain ⟨its, rv, p, hz⟩ := I.tuple hq
    have pt : s.heap.IsTuple a its.toArray := p
    obtain ⟨f0, f1, f2, f3, f4, f5⟩ := hf it (by simp)
    have hl := rv.length
    have hai : a ≠ it := fun z => by
      obtain ⟨o, ho, hc', _⟩ := id pt
      obtain ⟨o2, ho2, hc2, _⟩ := id hit
      rw [z] at ho
      cases ho.symm.trans ho2
      exact absurd (hc'.symm.trans hc2) (by decide +kernel)
    have hcm : X.A.in1.handled = none := I.ok.hd hc
    have hi : i = its.toArray.size := by
      rw [← hx, hl]
      simp
    subst hi
    exact wpAny_pyNext_enum_endD (Draws.tuple hcm it a hai its.toArray) he ⟨hit, pt⟩ fun h' eb => ⟨rfl, I.turned (t' := s.toks) (fun b o hb q => eb b o hb q) f0 f1 f3 f4 f5⟩
  self := fun A i s Q E st h => let ⟨⟨_, he⟩, _⟩ := st; wpAny_pyIter_enum he h
def iEnumT (K : PySem.W.Frag) (ta : TA) : TI := fun σ H R => ta σ H fun vs H1 => ∃ a xs, vs = [.ref a] ∧ SqT K H1 a xs ∧ R (IteT K a) H1
theorem pi_enumT {X : Cx} {e : Expr} {ta : TA} {p pos tpos : Pos} {elts : List Expr} {kk : Nat} (hg : Gl X "enumerate") (hm : X.mg "enumerate" = none) (ha : PA X [e] ta) (hs : starEach [e] X.env = [(false, eval e X.env)] := by rfl) :
    PI X (.Tuple elts kk tpos) (.Call (.Name "enumerate" p) [e] [] pos) (iEnumT X.K ta) := by
  refine ⟨fun pins s σ H R I h => ?_⟩
  refine Call_ (ld_blt I hg hm boot_enumerate (PyProof.Rows.callWith_type1 (thn (ha.run pos pins s σ H _ I h) fun us s1 ⟨vs, H1, I1, r1, q1⟩ => ?_) hs rfl))
  obtain ⟨a, xs, ex, hq, q⟩ := q1
  subst ex
  cases r1 with
  | cons r rr =>
    cases rr
    cases r
    obtain ⟨its, rv, p', hz⟩ := I1.tuple hq
    refine call_enumerate_tuple (show s1.heap.IsTuple a its.toArray from p') fun h' he hit hsz hk => wpAny_pyIter_enum he ?_
    have I2 : Inv X pins σ H1 { s1 with heap := h' } := I1.kept (t' := s1.toks) hk
    refine ⟨s1.heap.objs.size + 1, [s1.heap.objs.size + 1, s1.heap.objs.size], _, _, H1, rfl, I2, turn_enumT a (s1.heap.objs.size + 1) s1.heap.objs.size, ⟨⟨.none, he⟩, hit, Nat.succ_ne_self _⟩, fun b hb => ?_, q⟩
    have e' : b = s1.heap.objs.size + 1 ∨ b = s1.heap.objs.size := by simpa using hb
    have hle : s1.heap.objs.size ≤ b := by
      rcases e' with z | z
      · rw [z]; exact Nat.le_add_right _ _
      · rw [z]; exact Nat.le_refl _
    exact I1.fpOk hle (I1.hok.fresh hle)
theorem for_enumT {K : PySem.W.Frag} {a : Addr} {xs : List V} {g : TG} {tb : TS} {D : Ends} {σ : St} {H : Hp} (Pv : Nat → St → Hp → Prop) (h0 : Pv 0 σ H) (hl : ∀ i σ H, i ≤ xs.length → Pv i σ H → SqT K H a xs)
    (hs : ∀ i x T σ H, xs[i]? = some x → Pv i σ H → H T = none → g (.ref T) σ (upd H T (.tup [.int (i : Nat), x])) fun σ2 H2 => tb { D with nx := Pv (i + 1), ct := Pv (i + 1), bk := D.nx } σ2 H2) (hd : ∀ σ H, Pv xs.length σ H → D.nx σ H) :
    ∃ W : Nat → Nat → St → Hp → Prop, (∃ m, W 0 m σ H) ∧ ∀ i m σ H, W i m σ H →
      ((IteT K a).stop i H ∧ D.nx σ H) ∨ ((IteT K a).go i H ∧ ∃ N : St → Hp → Prop, (∀ σ' H', N σ' H' → ∃ m', m' < m ∧ W (i + 1) m' σ' H') ∧ ∀ x H', (IteT K a).yld i H x H' → g x σ H' fun σ2 H2 => tb { D with nx := N, ct := N, bk := D.nx } σ2 H2) := by
  refine ⟨fun i m σ H => m = xs.length - i ∧ i ≤ xs.length ∧ Pv i σ H, ⟨xs.length, by simp, Nat.zero_le _, h0⟩, ?_⟩
  rintro i m σ H ⟨rfl, hi, p⟩
  have q := hl i σ H hi p
  by_cases hlt : i < xs.length
  · refine .inr ⟨⟨xs, xs[i], q, by simp [hlt]⟩, Pv (i + 1), fun σ' H' p' => ⟨xs.length - (i + 1), by omega, rfl, hlt, p'⟩, fun x H' y => ?_⟩
    obtain ⟨T, z, rfl, hT, rfl, hz⟩ := y
    exact hs i z T σ H (hz xs q) p hT
  · have e : i = xs.length := by omega
    subst e
    exact .inl ⟨⟨xs, q, rfl⟩, hd σ H p⟩
end L2

/-! A class that a local name holds, called with a starred argument. -/
namespace L2
open PySem PySem.Spec PyProof.Rows StX ClX
section
variable {X : Cx} {CX : CXT} {k i : Nat} {f C : Addr} {sp : Sp} {E : XK} {x : Str} {e fe : Expr} {es : List Expr} {te tf : TE} {t : TA} {p pos : Pos}
theorem pe_makeLS (M : Mk X.K C f) (F : FnR X.prog X.w X.K X.mg X.base CX k f sp) (hr : Room (k + 1) X.A) (hN : X.N[i]? = some x) (hv : Vis X.env.scope x) (hx : Passes CX X E) (ha : PA X (e :: es) t)
    (hdb : (x == ("__debug__" : Str)) = false := by decide) (hcd : (x == ("__classdict__" : Str)) = false := by decide)
    (he : starEach (e :: es) X.env = (false, eval e X.env) :: starEach es X.env := by rfl) (hst : (backTo pos (starEach es X.env)).any (·.1) = true := by rfl) : PE X (.Call (.Name x p) (e :: es) [] pos) (fun σ H Q => σ[i]? = some (some (.ref C)) ∧ tMakeR C sp E t σ H Q) := by
  refine ⟨fun pins s σ H Q I h => ?_⟩
  obtain ⟨hs, ht⟩ := h
  refine wpAny_Call_Name_kw (thn ((pe_var (pos := p) hN hv hdb hcd).run pins s σ H (fun v H1 => v = .ref C ∧ H1 = H) I ⟨.ref C, hs, rfl, rfl⟩) fun u s1 ⟨v, H1, I1, r1, q1⟩ => ?_)
  obtain ⟨rfl, rfl⟩ := q1
  cases r1
  refine PySem.W.callWith_S2 (h₀ := X.base) I.ok.mod.kin M.kp (thn (ha.run pos pins s1 σ _ _ I1 ht) fun us s2 ⟨vs, H2, I2, r, q⟩ => ⟨I2.kIn, ?_⟩) he hst
  exact run_makeR M F hr hx I2 r q
/-- .. the class by its own name -/
theorem pe_makeRS (M : Mk X.K C f) (F : FnR X.prog X.w X.K X.mg X.base CX k f sp) (hr : Room (k + 1) X.A) (hg : Gl X x) (hm : X.mg x = some (.ref C)) (hx : Passes CX X E) (ha : PA X (e :: es) t) (hdb : (x == ("__debug__" : Str)) = false := by decide)
    (he : starEach (e :: es) X.env = (false, eval e X.env) :: starEach es X.env := by rfl) (hst : (backTo pos (starEach es X.env)).any (·.1) = true := by rfl) : PE X (.Call (.Name x p) (e :: es) [] pos) (tMakeR C sp E t) := by
  refine ⟨fun pins s σ H Q I h => ?_⟩
  refine wpAny_Call_Name_kw (ld_glob I hg hm ?_ hdb)
  refine PySem.W.callWith_S2 (h₀ := X.base) I.ok.mod.kin M.kp (thn (ha.run pos pins s σ H _ I h) fun us s1 ⟨vs, H1, I1, r, q⟩ => ⟨I1.kIn, ?_⟩) he hst
  exact run_makeR M F hr hx I1 r q
end
end L2

/-! Styles: what is due of rules, and what the program's defs tell. -/
namespace Evl
open PySem L2
theorem given_one (xs : List V) : given xs.length (fun _ => true) (fun i => xs.getD i V.non) = xs := by
  unfold given
  have e : (List.range xs.length).filter (fun _ => true) = List.range xs.length := List.filter_eq_self.mpr fun _ _ => rfl
  rw [e]
  apply List.ext_getElem?
  intro i
  rw [List.getElem?_map]
  by_cases h : i < xs.length
  · rw [List.getElem?_range h]
    simp [List.getElem?_eq_getElem h]
  · have h1 : (List.range xs.length)[i]? = none := List.getElem?_eq_none_iff.mpr (by rw [List.length_range]; omega)
    have h2 : xs[i]? = none := List.getElem?_eq_none_iff.mpr (by omega)
    rw [h1, h2]
    rfl
end Evl
namespace Dt
open PySem L2 Evl Dg LamR LamX
open Dr (StAt SameB)
/-! the shapes of what is a condition, a keep, a rule -/
theorem beg_inv {d : PyData} {w : Str} {n : Nat} (h : begB d w n = true) : ∃ ds, d = .tuple ds ∧ ds.length = n ∧ eqS w (ds.headD .none) = true := by
  unfold begB at h
  rw [Bool.and_eq_true, Bool.and_eq_true] at h
  obtain ⟨h1, h2, h3⟩ := h
  cases d with
  | tuple ds => exact ⟨ds, rfl, of_decide_eq_true h2, h3⟩
  | _ => cases h1
theorem eqS_inv {w : Str} {d : PyData} (h : eqS w d = true) : d = .str w := by
  cases d with
  | str x =>
    have e : x = w := of_decide_eq_true h
    rw [e]
  | _ => cases h
theorem beg2_inv {d : PyData} {w : Str} (h : begB d w 2 = true) : ∃ u, d = .tuple [.str w, u] := by
  obtain ⟨ds, rfl, hl, h3⟩ := beg_inv h
  match ds, hl with
  | [a, b], _ =>
    have := eqS_inv h3
    exact ⟨b, by rw [show a = .str w from this]⟩
theorem beg3_inv {d : PyData} {w : Str} (h : begB d w 3 = true) : ∃ u v, d = .tuple [.str w, u, v] := by
  obtain ⟨ds, rfl, hl, h3⟩ := beg_inv h
  match ds, hl with
  | [a, b, c], _ =>
    have := eqS_inv h3
    exact ⟨b, c, by rw [show a = .str w from this]⟩
theorem size_inv {l : Int} {d : PyData} (h : sizeB l d = true) : ∃ i : Int, d = .int i ∧ l ≤ i ∧ i ≤ 6 := by
  cases d with
  | int i =>
    unfold sizeB at h
    rw [Bool.and_eq_true] at h
    exact ⟨i, rfl, of_decide_eq_true h.1, of_decide_eq_true h.2⟩
  | _ => cases h
theorem bounds_inv {a b : PyData} (h : boundsB a b = true) : ∃ i : Int, a = .int i ∧ 1 ≤ i ∧ i ≤ 6 ∧ (b = .none ∨ ∃ j : Int, b = .int j ∧ i ≤ j ∧ j ≤ 6) := by
  unfold boundsB at h
  rw [Bool.and_eq_true, Bool.or_eq_true] at h
  obtain ⟨h1, h2⟩ := h
  obtain ⟨i, rfl, h3, h4⟩ := size_inv h1
  refine ⟨i, rfl, h3, h4, ?_⟩
  rcases h2 with h2 | h2
  · cases b with
    | none => exact .inl rfl
    | _ => cases h2
  · exact .inr (size_inv h2)
inductive CondS (β : Nat) : PyData → Prop
  | ends (x : Str) (h : isFigs β 2 x = true) : CondS β (.tuple [.str "ends", .str x])
  | near (i : Int) (h0 : 0 ≤ i) (h6 : i ≤ 6) : CondS β (.tuple [.str "near", .int i])
  | len (w : Str) (hw : w = "length" ∨ w = "changed") (i : Int) (h1 : 1 ≤ i) (h6 : i ≤ 6) (e : PyData) (he : e = .none ∨ ∃ j : Int, e = .int j ∧ i ≤ j ∧ j ≤ 6) : CondS β (.tuple [.str w, .int i, e])
theorem cond_inv {β : Nat} {d : PyData} (h : condB β d = true) : CondS β d := by
  unfold condB at h
  cases h1 : begB d "ends" 2 with
  | true =>
    rw [h1, if_pos rfl] at h
    obtain ⟨u, rfl⟩ := beg2_inv h1
    have h' : figsO β 2 (txtD u) = true := h
    cases u with
    | str x => exact .ends x h'
    | _ => cases h'
  | false =>
    rw [h1, if_neg (by decide)] at h
    cases h2 : begB d "near" 2 with
    | true =>
      rw [h2, if_pos rfl] at h
      obtain ⟨u, rfl⟩ := beg2_inv h2
      obtain ⟨i, e, a, b⟩ := size_inv (d := u) h
      rw [e]
      exact .near i a b
    | false =>
      rw [h2, if_neg (by decide)] at h
      cases h3 : (begB d "length" 3 || begB d "changed" 3) with
      | true =>
        rw [h3, if_pos rfl] at h
        rcases Bool.or_eq_true_iff.mp h3 with h4 | h4
        · obtain ⟨u, v, rfl⟩ := beg3_inv h4
          obtain ⟨i, e, a, b, c⟩ := bounds_inv (a := u) (b := v) h
          rw [e]
          exact .len _ (.inl rfl) i a b v c
        · obtain ⟨u, v, rfl⟩ := beg3_inv h4
          obtain ⟨i, e, a, b, c⟩ := bounds_inv (a := u) (b := v) h
          rw [e]
          exact .len _ (.inr rfl) i a b v c
      | false =>
        rw [h3, if_neg (by decide)] at h
        cases h
inductive KeepS : PyData → Prop
  | all : KeepS (.tuple [.str "all"])
  | size (w : Str) (hw : w = "changed" ∨ w = "last") (i : Int) (h1 : 1 ≤ i) (h6 : i ≤ 6) : KeepS (.tuple [.str w, .int i])
theorem keep_inv {d : PyData} (h : keepB d = true) : KeepS d := by
  unfold keepB at h
  cases h1 : (begB d "changed" 2 || begB d "last" 2) with
  | true =>
    rw [h1, if_pos rfl] at h
    rcases Bool.or_eq_true_iff.mp h1 with h4 | h4
    · obtain ⟨u, rfl⟩ := beg2_inv h4
      obtain ⟨i, e, a, b⟩ := size_inv (d := u) h
      rw [e]
      exact .size _ (.inl rfl) i a b
    · obtain ⟨u, rfl⟩ := beg2_inv h4
      obtain ⟨i, e, a, b⟩ := size_inv (d := u) h
      rw [e]
      exact .size _ (.inr rfl) i a b
  | false =>
    rw [h1, if_neg (by decide)] at h
    obtain ⟨ds, rfl, hl, h3⟩ := beg_inv h
    match ds, hl with
    | [a], _ =>
      have := eqS_inv h3
      rw [show a = .str "all" from this]
      exact .all
theorem rule_inv {β : Nat} {d : PyData} (h : ruleB β d = true) : ∃ cs k, d = .tuple [.tuple cs, k] ∧ cs.length ≤ 3 ∧ (∀ c ∈ cs, CondS β c) ∧ KeepS k := by
  unfold ruleB at h
  rw [Bool.and_eq_true, Bool.and_eq_true, Bool.and_eq_true, Bool.and_eq_true, Bool.and_eq_true] at h
  obtain ⟨h1, h2, h3, h4, h5, h6⟩ := h
  cases d with
  | tuple ds =>
    have hl : ds.length = 2 := of_decide_eq_true h2
    match ds, hl with
    | [c, k], _ =>
      have h3' : isT c = true := h3
      cases c with
      | tuple cs => exact ⟨cs, k, rfl, of_decide_eq_true h4, fun c hc => cond_inv (List.all_eq_true.mp h5 c hc), keep_inv h6⟩
      | _ => cases h3'
  | _ => cases h1
theorem cond_noL {β : Nat} {d : PyData} (h : CondS β d) : noL d = true ∧ isT d = true := by
  cases h with
  | ends x h => exact ⟨rfl, rfl⟩
  | near i h0 h6 => exact ⟨rfl, rfl⟩
  | len w hw i h1 h6 e he =>
    rcases he with rfl | ⟨j, rfl, _, _⟩ <;> exact ⟨rfl, rfl⟩
theorem keep_noL {d : PyData} (h : KeepS d) : noL d = true ∧ isT d = true := by
  cases h <;> exact ⟨rfl, rfl⟩
theorem noLs_all : ∀ {ds : List PyData}, (∀ d ∈ ds, noL d = true) → noLs ds = true
  | [], _ => rfl
  | d :: ds, h => by
    rw [noLs, h d List.mem_cons_self, noLs_all fun e he => h e (List.mem_cons_of_mem _ he)]
    rfl
theorem rule_noL {β : Nat} {d : PyData} (h : ruleB β d = true) : noL d = true := by
  obtain ⟨cs, k, rfl, _, hc, hk⟩ := rule_inv h
  show (noLs cs && (noL k && true)) = true
  rw [noLs_all fun c h => (cond_noL (hc c h)).1, (keep_noL hk).1]
  rfl
theorem rules_noL {β : Nat} {ds : List PyData} (h : ds.all (ruleB β) = true) : noLs ds = true := noLs_all fun d hd => rule_noL (List.all_eq_true.mp h d hd)
/-! what is due of a row of rules -/
def badAt (β : Nat) : List PyData → Nat → Option Nat
  | [], _ => none
  | d :: ds, k => if ruleB β d = true then badAt β ds (k + 1) else some k
theorem badAt_all {β : Nat} : ∀ {ds : List PyData} {k : Nat}, ds.all (ruleB β) = true → badAt β ds k = none
  | [], _, _ => rfl
  | d :: ds, k, h => by
    rw [List.all_cons, Bool.and_eq_true] at h
    unfold badAt
    rw [if_pos h.1]
    exact badAt_all h.2
theorem badAt_none {β : Nat} : ∀ {ds : List PyData} {k : Nat}, badAt β ds k = none → ds.all (ruleB β) = true
  | [], _, _ => rfl
  | d :: ds, k, h => by
    unfold badAt at h
    by_cases hd : ruleB β d = true
    · rw [if_pos hd] at h
      rw [List.all_cons, hd, badAt_none h]
      rfl
    · rw [if_neg hd] at h
      cases h
theorem badAt_at {β : Nat} : ∀ {i : Nat} {ds : List PyData} {k : Nat} {d : PyData}, (ds.take i).all (ruleB β) = true → ds[i]? = some d → ruleB β d = false → badAt β ds k = some (k + i)
  | _, [], _, _, _, h, _ => by simp at h
  | 0, e :: ds, k, d, _, h, hd => by
    simp only [List.getElem?_cons_zero, Option.some.injEq] at h
    subst h
    unfold badAt
    rw [if_neg (by rw [hd]; decide)]
    rfl
  | i + 1, e :: ds, k, d, ha, h, hd => by
    rw [List.take_succ_cons, List.all_cons, Bool.and_eq_true] at ha
    unfold badAt
    rw [if_pos ha.1]
    simp only [List.getElem?_cons_succ] at h
    rw [badAt_at ha.2 h hd]
    congr 1
    omega
/-- the last one has conditions -/
def lastC (ds : List PyData) : Bool := decide (0 < (tupD (at_ 0 (ds.getLastD .none))).length)
/-- none: nothing is wrong; else the place -/
def dueD (β : Nat) (ds : List PyData) : Option PyData :=
  if 1 ≤ ds.length ∧ ds.length ≤ 8 then (match badAt β ds 0 with
    | some k => some (.int (k : Int))
    | none => if lastC ds = true then some (.int ((ds.length : Int) - 1)) else none) else some .none
theorem due_len {β : Nat} {ds : List PyData} (h : ¬ (1 ≤ ds.length ∧ ds.length ≤ 8)) : dueD β ds = some .none := by unfold dueD; rw [if_neg h]
theorem due_bad {β : Nat} {ds : List PyData} {i : Nat} {d : PyData} (h : 1 ≤ ds.length ∧ ds.length ≤ 8) (ha : (ds.take i).all (ruleB β) = true) (hi : ds[i]? = some d) (hd : ruleB β d = false) : dueD β ds = some (.int (i : Int)) := by
  unfold dueD
  rw [if_pos h, badAt_at ha hi hd, Nat.zero_add]
theorem due_last {β : Nat} {ds : List PyData} (h : 1 ≤ ds.length ∧ ds.length ≤ 8) (ha : ds.all (ruleB β) = true) : dueD β ds = if lastC ds = true then some (.int ((ds.length : Int) - 1)) else none := by
  unfold dueD
  rw [if_pos h, badAt_all ha]
theorem due_none {β : Nat} {ds : List PyData} (h : dueD β ds = none) : (1 ≤ ds.length ∧ ds.length ≤ 8) ∧ ds.all (ruleB β) = true ∧ lastC ds = false := by
  unfold dueD at h
  by_cases h1 : 1 ≤ ds.length ∧ ds.length ≤ 8
  · rw [if_pos h1] at h
    cases hb : badAt β ds 0 with
    | some k =>
      rw [hb] at h
      cases h
    | none =>
      rw [hb] at h
      refine ⟨h1, badAt_none hb, ?_⟩
      cases hl : lastC ds with
      | false => rfl
      | true =>
        rw [hl] at h
        cases h
  · rw [if_neg h1] at h
    cases h
def plV : PyData → V
  | .int i => .int i
  | _ => .non
/-- the refusal, or going on -/
structure Due (ca : Nat → Addr) (H : Hp) (E : XK) (o : Option PyData) (G : Prop) : Prop where
  bad : ∀ pl, o = some pl → Leaves (ca 5) "place" (plV pl) H E
  ok : o = none → G
end Dt

namespace Dt
open PySem L2 Evl Dg LamR LamX StX ClX
open Dr (StAt SameB)
abbrev sNeedRules : Stmt := top 43
abbrev sPlain : Stmt := top 45
abbrev clStyle : Stmt := top 51
abbrev sInit : Stmt := inClass clStyle 0
abbrev sOfS : Stmt := inClass clStyle 1
abbrev rTupOf (K : PySem.W.Frag) : List V → Hp → VK → Prop := fun xs H Q => ∃ p ys, xs = [V.ref p] ∧ ((SqL K H p ys ∧ ∀ l, H l = none → Q (V.ref l) (upd H l (.tup ys))) ∨ (SqT K H p ys ∧ Q (V.ref p) H))
section
variable {K : PySem.W.Frag} {σ : St} {H : Hp} {t0 t1 te : TE} {E : St → XK} {β : Nat} {D : PyData} {ca : Nat → Addr}
theorem bs_yes (b2 : 2 ≤ β) (b10 : β ≤ 10) : Bs K H (.int β) true := by
  have e : (decide ((2 : Int) ≤ (β : Int)) && decide ((β : Int) ≤ 10)) = true := by
    rw [decide_eq_true (by omega), decide_eq_true (by omega)]
    rfl
  rw [← e]
  exact .int β
theorem ev_rule (b2 : 2 ≤ β) (b10 : β ≤ 10) (h0 : Ev t0 σ H (.int β)) (h1 : EvP t1 σ H D) : Ev (tCallS (spRule K ca) E (tCons t0 (tCons t1 tNil))) σ H (.bl (ruleB β D)) := fun H1 e Q q =>
  h0 H1 e _ fun H2 e2 => h1 H2 (e.trans e2) _ fun v H3 e3 k => ⟨.int β, v, D, true, rfl, bs_yes b2 b10, k, (fun z => nomatch z), fun _ => ⟨β, rfl, b2, b10, fun H4 e4 => q H4 ((e2.trans e3).trans e4)⟩⟩
theorem ep_tupOf {r : List V → Hp → VK → Prop} (hr : ∀ (p : Addr) (ys : List V) (H : Hp) (Q : VK), SqL K H p ys → (∀ l, H l = none → Q (.ref l) (upd H l (.tup ys))) → r [.ref p] H Q) {Ds : List PyData} (h : EvP t0 σ H (.list Ds)) : EvP (tCB r (tCons t0 tNil)) σ H (.tuple Ds) := fun H1 e Q q =>
  h H1 e _ fun v H2 e2 k => by
    cases k with
    | @lst a vs _ ha hv => exact hr a vs H2 _ (sq_of ha) fun l hl => q (.ref l) _ (e2.trans (Ex.new hl)) (.tup upd_same (hv.ex (Ex.new hl)))
theorem ep_tupId {r : List V → Hp → VK → Prop} (hr : ∀ (p : Addr) (ys : List V) (H : Hp) (Q : VK), SqT K H p ys → Q (.ref p) H → r [.ref p] H Q) {Ds : List PyData} (h : EvP t0 σ H (.tuple Ds)) : EvP (tCB r (tCons t0 tNil)) σ H (.tuple Ds) := fun H1 e Q q =>
  h H1 e _ fun v H2 e2 k => by
    cases k with
    | @tup a vs _ ha hv => exact hr a vs H2 _ (st_of ha) (q (.ref a) _ e2 (.tup ha hv))
theorem ev_tupId {r : List V → Hp → VK → Prop} (hr : ∀ (p : Addr) (ys : List V) (H : Hp) (Q : VK), SqT K H p ys → Q (.ref p) H → r [.ref p] H Q) {a : Addr} {vs : List V} (h : Ev t0 σ H (.ref a)) (ha : H a = some (.tup vs)) : Ev (tCB r (tCons t0 tNil)) σ H (.ref a) := fun H1 e Q q =>
  h H1 e _ fun H2 e2 => hr a vs H2 _ (st_of (e2 _ _ (e _ _ ha))) (q _ e2)
theorem ep_L {xs : List V} {ds : List PyData} (h : EvL t0 σ H xs) (k : PtAll H xs ds) : EvP t0 σ H (.list ds) := fun H1 e Q q => h H1 e _ fun p H2 hp e2 h2 => q (.ref p) H2 e2 (.lst h2 (k.ex (e.trans e2)))
end
theorem Pt.tupI' {H : Hp} {v : V} {ds : List PyData} (h : Pt H v (.tuple ds)) : ∃ a vs, v = .ref a ∧ H a = some (.tup vs) ∧ PtAll H vs ds := by
  cases h with
  | tup hs ha => exact ⟨_, _, rfl, hs, ha⟩
structure TxY (K : PySem.W.Frag) (mg : Str → Option Value) (fnb frl fnr fpl : Addr) (ca : Nat → Addr) : Prop where
  needB : mg "need_base" = some (.ref fnb)
  kNB : PySem.W.keepIn K (.ref fnb) = true
  rule : mg "is_rule" = some (.ref frl)
  kRl : PySem.W.keepIn K (.ref frl) = true
  needR : mg "need_rules" = some (.ref fnr)
  kNR : PySem.W.keepIn K (.ref fnr) = true
  plain : mg "plain_rule" = some (.ref fpl)
  kPl : PySem.W.keepIn K (.ref fpl) = true
  badRule : mg "BadRule" = some (.ref (ca 5))
  len : mg "len" = none
  tuple : mg "tuple" = none
  enum : mg "enumerate" = none
  isi : mg "isinstance" = none
  sup : mg "super" = none
  list : mg "list" = none
  mrules : ∃ t, mg "MOST_RULES" = some (.int 8 t)
section
variable {P : Program} {w : World} {K : PySem.W.Frag} {mg : Str → Option Value} {base : Heap} {ca : Nat → Addr} {fnb frl fnr fpl : Addr}
def spNeedRules (ca : Nat → Addr) : Sp := fun vs H Q E => ∃ (β : Nat) (t : Addr) (rs : List V) (Ds : List PyData), vs = [.int β, .ref t] ∧ 2 ≤ β ∧ β ≤ 10 ∧ H t = some (.tup rs) ∧ PtAll H rs Ds ∧ Due ca H E (dueD β Ds) (RetV .non H Q)
theorem scNeedRules : FnScope ["base", "rules", "number", "rule", "last"] ["base", "rules"] (defScope sNeedRules) := ⟨rfl, rfl, rfl, by decide +kernel, rfl, by decide +kernel, by decide +kernel⟩
theorem ok_needRules {f : Addr} {fd fdr : FuncData} (F : Fun K "need_rules" "need_rules" sNeedRules f fd) (GR : FnOk P w K mg base (L2.CX P w) 5 frl fdr ["base", "value"] (spRule K ca)) (bR : Binds K fdr ["base", "value"] []) (M : Mks P K mg (ca 5) ["place"]) (T : TxY K mg fnb frl fnr fpl ca) :
    FnOk P w K mg base (L2.CX P w) 6 f fd ["base", "rules"] (spNeedRules ca) := by
  refine F.okX scNeedRules (fun vs H Q E h => ?_) (fun cdv A outer s H vs Q E hr h => ?_)
  · obtain ⟨β, t, rs, Ds, rfl, _⟩ := h
    rfl
  · obtain ⟨β, t, rs, Ds, rfl, b2, b10, ht, ka, due⟩ := h
    obtain ⟨tm, hm⟩ := T.mrules
    refine ⟨_, pss_cons (ps_if (pt_not (pt_chain op_le op_le pe_int (pe_callB call_len_seq (by rfl) T.len (by decide +kernel) (pa_cons (pv 1) pa_nil)) (pe_glob (by rfl) hm (v := .int 8) ⟨_, rfl⟩)))
        (pss_one (ps_raise rfl (takes_of rfl rfl rfl rfl) (pmk_mks M T.sup hr (by simp) (pa_cons pe_non pa_nil) (by rfl) T.badRule))) pss_nil)
      (pss_cons (ps_for (passes_of rfl) rfl (pi_enumT (by rfl) T.enum (pa_cons (pv 1) pa_nil)) (pg_tup (by rfl) (pgs_cons (pg_name (i := 2) scNeedRules.nd rfl (.inl rfl)) (pgs_cons (pg_name (i := 3) scNeedRules.nd rfl (.inl rfl)) pgs_nil)))
        (pss_one (ps_if (pt_not (pt_val (pe_callS GR hr (by rfl) T.rule T.kRl bR (fun σ => passAt (takes_of rfl rfl rfl rfl) σ) (pa_cons (pv 0) (pa_cons (pv 3) pa_nil)))))
          (pss_one (ps_raise rfl (takes_of rfl rfl rfl rfl) (pmk_mks M T.sup hr (by simp) (pa_cons (pv 2) pa_nil) (by rfl) T.badRule))) pss_nil)))
      (pss_cons (ps_set (i := 4) scNeedRules.nd rfl (.inl rfl) (pe_op op_sub (pe_callB call_len_seq (by rfl) T.len (by decide +kernel) (pa_cons (pv 1) pa_nil)) pe_int))
      (pss_one (ps_if (pt_cmpR op_gt (pe_callB call_len_seq (by rfl) T.len (by decide +kernel) (pa_cons (pe_ix ix_tup (pe_ix ix_tup (pv 1) (pv 4) (fun _ _ => rfl)) pe_int (fun _ _ => rfl)) pa_nil)) pe_int (nomark _))
        (pss_one (ps_raise rfl (takes_of rfl rfl rfl rfl) (pmk_mks M T.sup hr (by simp) (pa_cons (pv 4) pa_nil) (by rfl) T.badRule))) pss_nil)))), ?_⟩
    have hl := ka.length
    have leaf : ∀ {pl : PyData} {v : V} {H1 : Hp}, dueD β Ds = some pl → plV pl = v → Ex H H1 → Leaves (ca 5) "place" v H1 E := fun hp hv e => hv ▸ (due.bad _ hp).go e
    refine q_when (b := !(decide (1 ≤ Ds.length) && decide (Ds.length ≤ 8))) (et_is (et_not (et_test (ev_chI ev_c (ev_lenT (K := K) (ev_var rfl) ht) ev_c))) (by
      rw [hl]
      congr 1
      congr 1 <;> exact decide_eq_decide.mpr (by omega))) (fun z H1 e1 => ?_) (fun z H1 e1 => ?_)
    · have hb : ¬ (1 ≤ Ds.length ∧ Ds.length ≤ 8) := fun ⟨a, b⟩ => by
        rw [decide_eq_true a, decide_eq_true b] at z
        cases z
      exact ⟨rfl, fun d hd => leaf (due_len hb) rfl e1 H1 d (Ex.refl _) hd⟩
    · have hb : 1 ≤ Ds.length ∧ Ds.length ≤ 8 := by
        rw [Bool.not_eq_false', Bool.and_eq_true] at z
        exact ⟨of_decide_eq_true z.1, of_decide_eq_true z.2⟩
      refine ⟨_, rfl, t, rs, rfl, st_of (e1 _ _ ht), for_enumT (xs := rs) (fun i σ' H' => (∃ x2 x3, σ' = [some (.int β), some (.ref t), x2, x3, none]) ∧ Ex H H' ∧ (Ds.take i).all (ruleB β) = true)
        ⟨⟨_, _, rfl⟩, e1, rfl⟩ (fun i σ' H' _ hI => st_of (hI.2.1 _ _ ht)) (fun i x T' σ' H' hx hI hT => ?_) (fun σ' H' hI => ?_)⟩
      · obtain ⟨⟨x2, x3, rfl⟩, e2, hg⟩ := hI
        obtain ⟨dx, hdx, kx⟩ := ka.get2 hx
        have e3 := e2.trans (Ex.new (o := .tup [.int (i : Nat), x]) hT)
        refine ⟨T', _, rfl, st_of upd_same, rfl, _, _, rfl, _, _, rfl, rfl, ?_⟩
        refine s_when (b := !ruleB β dx) (et_not (et_B (ev_rule b2 b10 (ev_var rfl) (ep_v (ev_var rfl) (kx.ex e3))))) (fun z4 H4 e4 => ?_) (fun z4 H4 e4 => ?_)
        · exact ⟨_, rfl, rfl, fun d hd => leaf (due_bad hb hg hdx (by simpa using z4)) rfl (e3.trans e4) H4 d (Ex.refl _) hd⟩
        · refine ⟨⟨_, _, rfl⟩, e3.trans e4, ?_⟩
          rw [List.take_add_one, hdx, List.all_append, hg]
          have : ruleB β dx = true := by simpa using z4
          simp [this]
      · obtain ⟨⟨x2, x3, rfl⟩, e2, hg⟩ := hI
        rw [hl, List.take_length] at hg
        have ht2 := e2 _ _ ht
        refine q_asg (ev_op (ev_lenT (K := K) (ev_var rfl) ht2) ev_c rv_I0) fun H3 e3 => ?_
        have ht3 := e3 _ _ ht2
        have hpos : Ds.length - 1 < Ds.length := by omega
        obtain ⟨dl, hdl⟩ : ∃ dl, Ds[Ds.length - 1]? = some dl := ⟨_, List.getElem?_eq_getElem hpos⟩
        obtain ⟨u, hu, ku⟩ := ka.get hdl
        have hr2 : ruleB β dl = true := List.all_eq_true.mp hg _ (List.mem_of_getElem? hdl)
        obtain ⟨cs, kk, rfl, hc3, hcs, hks⟩ := rule_inv hr2
        obtain ⟨au, us, rfl, hau, kus⟩ := ((ku.ex e2).ex e3).tupI'
        obtain ⟨uc, huc, kuc⟩ := kus.get (i := 0) rfl
        obtain ⟨ac, vcs, rfl, hac, kcs⟩ := kuc.tupI'
        have hlast : lastC Ds = decide (0 < cs.length) := by
          unfold lastC
          have : Ds.getLastD .none = .tuple [.tuple cs, kk] := by
            rw [List.getLastD_eq_getLast?, List.getLast?_eq_getElem?, hdl]
            rfl
          rw [this]
          rfl
        have elast : Ev (tOp (rIxT K) (tVar 1) (tVar 4)) [some (.int β), some (.ref t), x2, x3, some (.int ((rs.length : Int) - 1))] H3 (.ref au) := ev_op (ev_var rfl) (ev_var rfl) (rv_ixT (st_of ht3) (by
          rw [show (rs.length : Int) - 1 = ((Ds.length - 1 : Nat) : Int) by omega]
          exact atI_nat hu))
        refine s_when (b := decide (0 < cs.length)) (et_is (et_test (ev_op (ev_lenT (K := K) (ev_at (K := K) (i := 0) elast hau huc) hac) ev_c rv_I0)) (by
          rw [kcs.length]
          exact decide_eq_decide.mpr (by omega))) (fun z H4 e4 => ?_) (fun z H4 e4 => ?_)
        · refine ⟨_, rfl, rfl, fun d hd => leaf (v := .int ((rs.length : Int) - 1)) (due_last hb hg |>.trans (by rw [hlast, z]; rfl)) (by rw [hl]; rfl) ((e2.trans e3).trans e4) H4 d (Ex.refl _) hd⟩
        · exact due.ok (due_last hb hg |>.trans (by rw [hlast, z]; rfl)) H4 ((e2.trans e3).trans e4)
def spPlain : Sp := fun vs H Q _ => ∃ v cs k, vs = [v] ∧ Pt H v (.tuple [.tuple cs, k]) ∧ (∀ c ∈ cs, isT c = true) ∧ isT k = true ∧ cs.length ≤ 3 ∧ ∀ v' H', Ex H H' → Pt H' v' (.tuple [.tuple cs, k]) → Q v' H'
theorem scPlain : FnScope ["rule", "conditions", "keep", "condition"] ["rule"] (defScope sPlain) := ⟨rfl, rfl, rfl, by decide +kernel, rfl, by decide +kernel, by decide +kernel⟩
theorem ok_plain {f : Addr} {fd : FuncData} (F : Fun K "plain_rule" "plain_rule" sPlain f fd) (T : TxY K mg fnb frl fnr fpl ca) : FnOk P w K mg base CX0 1 f fd ["rule"] spPlain := by
  refine F.ok scPlain (fun vs H Q E h => ?_) (fun cdv A outer s H vs Q E hr h => ?_)
  · obtain ⟨v, cs, k, rfl, _⟩ := h
    rfl
  · obtain ⟨v, cs, k, rfl, kv, hcs, hk, hc3, q⟩ := h
    refine ⟨_, pss_cons (ps_asg (pv 0) (pg_tup (by rfl) (pgs_cons (pg_name (i := 1) scPlain.nd rfl (.inl rfl)) (pgs_cons (pg_name (i := 2) scPlain.nd rfl (.inl rfl)) pgs_nil))))
      (pss_one (ps_ret (pe_tup (pa_cons (pe_callTy call_tuple_of (by rfl) T.tuple (by decide +kernel) (pa_cons (pe_lc (own := [("condition", 3)]) (g := gName 3) (tt := tYes) rfl scPlain.nd (pi_tup (pv 1)) (blkOk_by (own := [("condition", 3)]) (N := ["rule", "conditions", "keep", "condition"]) (sc := defScope sPlain) (by decide +kernel))
          (fun _ _ _ _ _ => pg_name (i := 3) scPlain.nd rfl (Or.inl rfl)) (fun _ _ _ _ _ => pts_nil) (fun _ _ _ _ _ => pe_callTy (T := "tuple") (r := rTupOf K) call_tuple_of (by rfl) T.tuple (by decide +kernel) (pa_cons (pv 3) pa_nil))) pa_nil))
        (pa_cons (pe_callTy call_tuple_of (by rfl) T.tuple (by decide +kernel) (pa_cons (pv 2) pa_nil)) pa_nil))))), ?_⟩
    obtain ⟨a, us, rfl, ha, kus⟩ := kv.tupI'
    cases kus with
    | @cons vc _ _ _ kc kus =>
      cases kus with
      | @cons vk _ _ _ kk kus =>
        cases kus with
        | nil =>
          obtain ⟨ac, ws, rfl, hac, kws⟩ := kc.tupI'
          refine ⟨_, rfl, a, _, rfl, st_of ha, rfl, _, _, rfl, _, _, rfl, rfl, ?_⟩
          cases k with
          | tuple ks =>
            have hl := kws.length
            dsimp only
            refine s_retP (D := .tuple [.tuple cs, .tuple ks]) (ep_tup (epa_cons (ep_tupOf (K := K) (fun p ys H Q hs hq => ⟨p, ys, rfl, .inl ⟨hs, hq⟩⟩) (ep_L (xs := ws) ?_ kws)) (epa_cons (ep_tupId (K := K) (fun p ys H Q hs hq => ⟨p, ys, rfl, .inr ⟨hs, hq⟩⟩) (ep_v (ev_var rfl) kk)) epa_nil)) (by simp)) fun v H1 e1 k1 => q v H1 e1 k1
            have := el_lcT (K := K) (σ := [some (.ref a), some (.ref ac), some vk, none]) (H := H) (tl := tVar 1) (j := 3) (vs := [3]) (t := tYes) (te := tCB (rTupOf K) (tCons (tVar 3) tNil)) (fun _ => true) (fun i => ws.getD i .non) (ev_var rfl) (st_of hac) (by omega) (fun _ => rfl) (fun i x H4 e4 hx => fun H5 e5 Q5 q5 => q5 H5 (Ex.refl _)) (fun i x H4 e4 hx _ => by
              obtain ⟨dd, hd, kd⟩ := kws.get2 hx
              have hdt := hcs dd (List.mem_of_getElem? hd)
              have : ws.getD i .non = x := by rw [List.getD_eq_getElem?_getD, hx]; rfl
              rw [this]
              cases dd with
              | tuple es =>
                obtain ⟨ax, xs, rfl, hax, _⟩ := (kd.ex e4).tupI'
                exact ev_tupId (K := K) (fun p ys H Q hs hq => ⟨p, ys, rfl, .inr ⟨hs, hq⟩⟩) (ev_var rfl) hax
              | _ => cases hdt)
            rw [given_one] at this
            exact this
          | _ => cases hk
end
end Dt

namespace Dt
open PySem L2 Evl Dg LamR LamX StX ClX
open Dr (StAt SameB)
/-- the style's object at x: its base, its rules -/
def StyAt (H : Hp) (C x : Addr) (β : Nat) (Ds : List PyData) : Prop := ∃ dx t, H x = some (.ins C dx [("stored_base", .int (β : Int)), ("stored_rules", .ref t)]) ∧ Pt H (.ref t) (.tuple Ds)
theorem StyAt.extN {H H' : Hp} {C x : Addr} {β : Nat} {Ds : List PyData} (h : StyAt H C x β Ds) (e : ExtN H H') : StyAt H' C x β Ds := let ⟨dx, t, h1, h2⟩ := h; ⟨dx, t, e _ _ h1 (by simp), h2.extN e⟩
theorem StyAt.ex {H H' : Hp} {C x : Addr} {β : Nat} {Ds : List PyData} (h : StyAt H C x β Ds) (e : Ex H H') : StyAt H' C x β Ds := h.extN (ExtN.of e)
theorem StyAt.same {H H' : Hp} {p c l : Addr} {n : Nat} {a : Int} {C x : Addr} {β : Nat} {Ds : List PyData} (S : StAt H p c l n a) (h : StyAt H C x β Ds) (e : SameB H H' p l) (k : noLs Ds = true) : StyAt H' C x β Ds := by
  obtain ⟨dx, t, h1, h2⟩ := h
  obtain ⟨ls, hl, _⟩ := S.l
  exact ⟨dx, t, e _ _ h1 (ne_of h1 S.d (by intro z; cases z)) (ne_of h1 hl (by intro z; cases z)), h2.tk (tupK_same S e) (by rw [noL]; exact k)⟩
section
variable {P : Program} {w : World} {K : PySem.W.Frag} {mg : Str → Option Value} {base : Heap} {ca : Nat → Addr} {fnb frl fnr fpl : Addr} {C : Addr}
def spInit (K : PySem.W.Frag) (C : Addr) (ca : Nat → Addr) : Sp := fun vs H Q E => ∃ (x t dx : Addr) (vb : V) (rs : List V) (Ds : List PyData) (b : Bool), vs = [.ref x, vb, .ref t] ∧ H x = some (.ins C dx []) ∧ H t = some (.tup rs) ∧ PtAll H rs Ds ∧ Bs K H vb b ∧
  (b = false → Leaves (ca 1) "value" vb H E) ∧ (b = true → ∃ β : Nat, vb = .int β ∧ 2 ≤ β ∧ β ≤ 10 ∧ Due ca H E (dueD β Ds) (∀ (t2 : Addr) (H' : Hp), (∀ b o, H b = some o → b ≠ x → H' b = some o) → H' x = some (.ins C dx [("stored_base", .int (β : Int)), ("stored_rules", .ref t2)]) → Pt H' (.ref t2) (.tuple Ds) → Q .non H'))
theorem scInit : FnScope ["self", "base", "rules", "rule"] ["self", "base", "rules"] (defScope sInit) := ⟨rfl, rfl, rfl, by decide +kernel, rfl, by decide +kernel, by decide +kernel⟩
def spInitR (K : PySem.W.Frag) (C : Addr) (ca : Nat → Addr) : Sp := fun vs H Q E => ∃ ws rest, vs = ws ++ rest ∧ ws.length = 2 ∧ rest.length ≤ sizeLine ∧ ∀ p, H p = Option.none → spInit K C ca (ws ++ [V.ref p]) (upd H p (.tup rest)) Q E
theorem ok_init {f : Addr} {oc kV doc pm cdv ct : Value} {od an : Option Addr} {osl : Array (Option Value)} {fdn fdr fdp : FuncData} (lk : K.lookup f = some ⟨oc, od, .func (PySem.W.fnOf "__init__" "Style.__init__" (defArgs sInit) (defBody sInit) (defScope sInit) .none kV doc pm an cdv ct), osl⟩) (hcd : PySem.W.codeIn K cdv "Style.__init__" = true)
    (cl : Cls K C) (n1 : NoAttr K C "stored_base") (n2 : NoAttr K C "stored_rules") (GN : FnOk P w K mg base (L2.CX P w) 6 fnb fdn ["base"] (spNeed (Bs K) (ca 1))) (bN : Binds K fdn ["base"] [])
    (GR : FnOk P w K mg base (L2.CX P w) 6 fnr fdr ["base", "rules"] (spNeedRules ca)) (bR : Binds K fdr ["base", "rules"] []) (GP : FnOk P w K mg base CX0 6 fpl fdp ["rule"] spPlain) (bP : Binds K fdp ["rule"] []) (T : TxY K mg fnb frl fnr fpl ca) :
    FnR P w K mg base (L2.CX P w) 7 f (spInitR K C ca) := by
  refine fn_star (k := 6) (ps := ["self", "base"]) (pv := "rules") (sp := spInit K C ca) lk hcd scInit cxUp (bind_star2 (B := fun l => bindArgs (PySem.W.fnOf "__init__" "Style.__init__" (defArgs sInit) (defBody sInit) (defScope sInit) .none kV doc pm an cdv ct) ⟨l, []⟩) (p1 := "self") (p2 := "base") (pv := "rules") (fun a b => rfl) (fun a b r rs => rfl)) (fun A outer s H vs Q E hr h => ?_)
  obtain ⟨x, t, dx, vb, rs, Ds, b, rfl, hx, ht, ka, kb, l1, hq⟩ := h
  refine ⟨_, pss_cons (ps_expr (pe_callS GN hr (by rfl) T.needB T.kNB bN (fun σ => passAt (takes_of rfl rfl rfl rfl) σ) (pa_cons (pv 1) pa_nil)))
    (pss_cons (ps_expr (pe_callS GR hr (by rfl) T.needR T.kNR bR (fun σ => passAt (takes_of rfl rfl rfl rfl) σ) (pa_cons (pv 1) (pa_cons (pv 2) pa_nil))))
    (pss_cons (ps_fld (pv 0) (pv 1) rfl)
    (pss_one (ps_fld (pv 0) (pe_callTy (T := "tuple") (r := rTupOf K) call_tuple_of (by rfl) T.tuple (by decide +kernel) (pa_cons (pe_lc (own := [("rule", 3)]) (g := gName 3) (tt := tYes) rfl scInit.nd (pi_tup (pv 2)) (blkOk_by (own := [("rule", 3)]) (N := ["self", "base", "rules", "rule"]) (sc := defScope sInit) (by decide +kernel))
      (fun _ _ _ _ _ => pg_name (i := 3) scInit.nd rfl (Or.inl rfl)) (fun _ _ _ _ _ => pts_nil) (fun _ _ _ _ _ => pe_call GP hr (by rfl) T.plain T.kPl bP .nil pass0 (pa_cons (pv 3) pa_nil))) pa_nil)) rfl)))), ?_⟩
  refine ⟨_, rfl, vb, b, rfl, kb, fun hb H1 e1 => ?_, fun hb => l1 hb⟩
  obtain ⟨β, rfl, b2, b10, due⟩ := hq hb
  refine ⟨_, rfl, _, rfl, β, t, rs, Ds, rfl, b2, b10, e1 _ _ ht, ka.ex e1, ⟨fun pl hp => (due.bad pl hp).go e1, fun hn H2 e2 => ?_⟩⟩
  have e12 := e1.trans e2
  obtain ⟨hlen, hall, _⟩ := due_none hn
  have hnl := rules_noL hall
  have hl := ka.length
  refine ⟨_, rfl, _, rfl, x, C, dx, [], rfl, e12 _ _ hx, cl, n1, by decide, ?_⟩
  dsimp only [putF]
  have kx0 : ∀ b o, H b = some o → b ≠ x → (upd H2 x (.ins C dx [("stored_base", .int (β : Int))])) b = some o := fun b o h hb => by
    rw [upd_ne hb]
    exact e12 _ _ h
  have txt : t ≠ x := ne_of ht hx (by intro z; cases z)
  refine ⟨_, rfl, t, rfl, ⟨rs, st_of (kx0 _ _ ht txt)⟩, fun Dl nDl => ?_⟩
  have nDx : Dl ≠ x := fun z => by
    rw [z, upd_same] at nDl
    cases nDl
  have nDH : H Dl = none := by
    cases hz : H Dl with
    | none => rfl
    | some o => exact absurd (nDl.symm.trans (kx0 _ _ hz nDx)) (by simp)
  refine lc_tup (xs := rs) (fun j H' => ∃ ws, H' Dl = some (.lst ws) ∧ PtAll H' ws (Ds.take j) ∧ (∀ b o, H b = some o → b ≠ x → H' b = some o) ∧ H' x = some (.ins C dx [("stored_base", .int (β : Int))]))
    ⟨[], upd_same, .nil, fun b o h hb => by rw [upd_ne (ne_of_none h nDH)]; exact kx0 b o h hb, by rw [upd_ne nDx.symm]; exact upd_same⟩ (fun i H' _ hI => st_of (hI.choose_spec.2.2.1 _ _ ht txt)) (fun i y H4 hy hI => ?_) (fun H4 hI => ?_)
  · obtain ⟨ws, hD, kw, kx, hx4⟩ := hI
    obtain ⟨dd, hdd, kd⟩ := ka.get2 hy
    have hi : i < rs.length := (List.getElem?_eq_some_iff.mp hy).1
    have hrd : ruleB β dd = true := List.all_eq_true.mp hall dd (List.mem_of_getElem? hdd)
    have tk4 : TupK H H4 := fun a xs h => kx a _ h (ne_of h hx (by intro z; cases z))
    obtain ⟨cs, k, rfl, hc3, hcs, hks⟩ := rule_inv hrd
    refine ⟨rfl, ?_⟩
    rw [show (tYes : TT) = fun _ H Q => Q true H from rfl]
    dsimp only
    rw [if_pos rfl]
    refine ⟨_, rfl, y, cs, k, rfl, kd.tk tk4 (rule_noL hrd), fun c hc => (cond_noL (hcs c hc)).2, (keep_noL hks).2, hc3, fun v' H5 e5 k5 => ⟨ws, e5 _ _ hD, ?_, ws ++ [v'], upd_same, ?_, fun b o h hb => ?_, ?_⟩⟩
    · rw [kw.length, List.length_take, sizeLine_eq]
      omega
    · rw [List.take_add_one, hdd]
      have tk5 : TupK H4 (upd H5 Dl (.lst (ws ++ [v']))) := (tupK_ex e5).trans (tupK_upd (e5 _ _ hD))
      exact (kw.tk tk5 (rules_noL (by
        refine List.all_eq_true.mpr fun d hd => List.all_eq_true.mp hall d (List.mem_of_mem_take hd)))).app (.cons (k5.tk (tupK_upd (e5 _ _ hD)) (rule_noL hrd)) .nil)
    · rw [upd_ne (ne_of_none h nDH)]
      exact e5 _ _ (kx b o h hb)
    · rw [upd_ne nDx.symm]
      exact e5 _ _ hx4
  · obtain ⟨ws, hD, kw, kx, hx4⟩ := hI
    rw [hl, List.take_length] at kw
    refine ⟨Dl, ws, rfl, .inl ⟨SqL.of hD, fun t2 nt2 => ?_⟩⟩
    have e5 := Ex.new (o := .tup ws) nt2
    refine ⟨_, rfl, x, C, dx, _, rfl, e5 _ _ hx4, cl, n2, (by simp), ?_⟩
    have hx5 := e5 _ _ hx4
    refine due.ok hn t2 _ (fun b o h hb => ?_) upd_same ?_
    · rw [upd_ne hb]
      exact e5 _ _ (kx b o h hb)
    · have k2 : Pt (upd H4 t2 (.tup ws)) (.ref t2) (.tuple Ds) := .tup upd_same (kw.ex e5)
      refine k2.tk (fun a xs h => ?_) (by rw [noL]; exact hnl)
      rw [upd_ne (ne_of h hx5 (by intro z; cases z))]
      exact h
/-- what Style.of asks of its rules -/
def dueO (β : Nat) : PyData → Option PyData
  | .tuple ds => dueD β ds
  | .list ds => dueD β ds
  | _ => some .none
def seqD : PyData → List PyData
  | .tuple ds => ds
  | .list ds => ds
  | _ => []
def isQ : PyData → Bool
  | .tuple _ => true
  | .list _ => true
  | _ => false
theorem kit_list (d : PyData) : kitB (tyN d) "list" = some (match d with | .list _ => true | _ => false) := by
  cases d <;> simp only [tyN] <;> decide +kernel
theorem kit_seq (d : PyData) : PySem.W.kitAny K (.type (tyN d)) [.type "list", .type "tuple"] = some (isQ d) := by
  have h1 := kit_ty (K := K) (kit_list d)
  have h2 := kit_ty (K := K) (kit_tup d)
  cases d <;> simp only [PySem.W.kitAny, h1, h2, isQ, isT]
def spOfS (K : PySem.W.Frag) (C : Addr) (ca : Nat → Addr) : Sp := fun vs H Q E => ∃ (vb v : V) (d : PyData) (b : Bool), vs = [.ref C, vb, v] ∧ Bs K H vb b ∧ Pt H v d ∧ (seqD d).length ≤ 100000 ∧
  (b = false → Leaves (ca 1) "value" vb H E) ∧ (b = true → ∃ β : Nat, vb = .int β ∧ 2 ≤ β ∧ β ≤ 10 ∧ Due ca H E (dueO β d) (∀ (x : Addr) (H' : Hp), Ex H H' → StyAt H' C x β (seqD d) → Q (.ref x) H'))
theorem scOfS : FnScope ["cls", "base", "rules"] ["cls", "base", "rules"] (defScope sOfS) := ⟨rfl, rfl, rfl, by decide +kernel, rfl, by decide +kernel, by decide +kernel⟩
theorem ok_ofS {f fi : Addr} {fd fdn : FuncData} (F : Fun K "of" "Style.of" sOfS f fd) (M : Mk K C fi) (GI : FnR P w K mg base (L2.CX P w) 7 fi (spInitR K C ca)) (GN : FnOk P w K mg base (L2.CX P w) 8 fnb fdn ["base"] (spNeed (Bs K) (ca 1))) (bN : Binds K fdn ["base"] [])
    (M5 : Mks P K mg (ca 5) ["place"]) (T : TxY K mg fnb frl fnr fpl ca) : FnOk P w K mg base (L2.CX P w) 9 f fd ["cls", "base", "rules"] (spOfS K C ca) := by
  refine F.okX scOfS (fun vs H Q E h => ?_) (fun cdv A outer s H vs Q E hr h => ?_)
  · obtain ⟨vb, v, d, b, rfl, _⟩ := h
    rfl
  · obtain ⟨vb, v, d, b, rfl, kb, kv, hsz, l1, hq⟩ := h
    refine ⟨_, pss_cons (ps_expr (pe_callS GN hr (by rfl) T.needB T.kNB bN (fun σ => passAt (takes_of rfl rfl rfl rfl) σ) (pa_cons (pv 1) pa_nil)))
      (pss_cons (ps_if (pt_not (pt_val (pe_callB call_isiT (by rfl) T.isi (by decide +kernel) (pa_cons (pv 2) (pa_cons (pe_tup (pa_cons (pe_bltn (by rfl) T.list (by decide +kernel) (v := .ty "list") rfl) (pa_cons (pe_bltn (by rfl) T.tuple (by decide +kernel) (v := .ty "tuple") rfl) pa_nil))) pa_nil)))))
        (pss_one (ps_raise rfl (takes_of rfl rfl rfl rfl) (pmk_mks M5 T.sup hr (by simp) (pa_cons pe_non pa_nil) (by rfl) T.badRule))) pss_nil)
      (pss_one (ps_ret (pe_makeLS (i := 0) M GI hr rfl (.inl rfl) (fun pins σ H s e s' I c => passAt (takes_of rfl rfl rfl rfl) σ pins H s e s' I c) (pa_cons (pv 1) (pa_star (pv 2) pa_nil)))))), ?_⟩
    refine ⟨_, rfl, vb, b, rfl, kb, fun hb H1 e1 => ?_, fun hb => l1 hb⟩
    obtain ⟨β, rfl, b2, b10, due⟩ := hq hb
    have k1 := kv.ex e1
    dsimp only
    refine q_when (b := !isQ d) (et_not (et_B (fun H2 e2 Q2 q2 => ⟨_, rfl, (by show (2:Nat) ≤ sizeLine; rw [sizeLine_eq]; omega), fun tp ntp => ⟨v, tp, _, _, [.type "list", .type "tuple"], isQ d, rfl, upd_same, .cons (.ty "list") (.cons (.ty "tuple") .nil), tyx_ex (Ex.new ntp) (k1.ex e2).ty, kit_seq d, q2 _ (Ex.new ntp)⟩⟩))) (fun z H2 e2 => ?_) (fun z H2 e2 => ?_)
    · have hd : dueO β d = some .none := by
        have : isQ d = false := by simpa using z
        cases d <;> first | rfl | cases this
      exact ⟨rfl, fun dd hdd => ((due.bad _ hd).go (e1.trans e2)) H2 dd (Ex.refl _) hdd⟩
    · have e12 := e1.trans e2
      have k2 := kv.ex e12
      have key : ∃ a vs, v = .ref a ∧ (SqT K H2 a vs ∨ SqL K H2 a vs) ∧ PtAll H2 vs (seqD d) ∧ dueO β d = dueD β (seqD d) := by
        have hq' : isQ d = true := by simpa using z
        cases k2 with
        | tup hs ha => exact ⟨_, _, rfl, .inl (st_of hs), ha, rfl⟩
        | lst hs ha => exact ⟨_, _, rfl, .inr (sq_of hs), ha, rfl⟩
        | _ => cases hq'
      obtain ⟨a, us, rfl, hs, kus, hdue⟩ := key
      have hl := kus.length
      refine ⟨rfl, _, rfl, _, rfl, a, us, rfl, hs, fun x dx hx hdx hne => ?_⟩
      refine ⟨[.ref x, .int β], us ++ [], rfl, rfl, ?_, fun p hp => ?_⟩
      · rw [List.append_nil, hl, sizeLine_eq]
        omega
      have eA : Ex H2 (upd (upd H2 dx (.own x)) x (.ins C dx [])) := (Ex.new hdx).trans (Ex.new (by rw [upd_ne (Ne.symm hne)]; exact hx))
      have eB := Ex.new (o := .tup (us ++ [])) hp
      have eAB := eA.trans eB
      refine ⟨x, p, dx, .int β, us ++ [], seqD d, true, rfl, eB _ _ upd_same, upd_same, (List.append_nil us).symm ▸ kus.ex eAB, bs_yes b2 b10, (fun z => nomatch z), fun _ => ⟨β, rfl, b2, b10, ⟨fun pl hpl => ((due.bad pl (hdue.trans hpl)).go (e12.trans eAB)), fun hn t2 H' kx hx' k' => ⟨rfl, ?_⟩⟩⟩⟩
      refine due.ok (hdue.trans hn) x H' (fun b o h => ?_) ⟨dx, t2, hx', k'⟩
      exact kx b o (eAB _ _ (e12 _ _ h)) (ne_of_none (e12 _ _ h) hx)
end
end Dt

/-! repr of a word with a thing (which may be a small dict), and of lists of such. -/
namespace L2
open PySem PySem.Spec PyProof.Rows Evl
/-- what Di tells, an empty dict, or a tuple of a text and such -/
inductive Dj (K : PySem.W.Frag) (H : Hp) : V → PyData → Prop
  | di {v : V} {d : PyData} : Di K H v d → Dj K H v d
  | nil {a : Addr} : H a = some (.dK []) → Dj K H (.ref a) (.dict [])
  | pair {a : Addr} {x : Str} {v : V} {d : PyData} : SqT K H a [.str x, v] → Dj K H v d → Dj K H (.ref a) (.tuple [.str x, d])
inductive DjAll (K : PySem.W.Frag) (H : Hp) : List V → List PyData → Prop
  | nil : DjAll K H [] []
  | cons {v : V} {vs : List V} {d : PyData} {ds : List PyData} : Dj K H v d → DjAll K H vs ds → DjAll K H (v :: vs) (d :: ds)
section
variable {X : Cx} {pins : List (Addr × Obj)} {σ : St} {H : Hp} {s : Shared}
theorem Dj.reads (I : Inv X pins σ H s) {v : V} {d : PyData} (h : Dj X.K H v d) : ∀ {u : Value}, RelV v u → ∃ as, Reads s.heap u d as ∧ (d.hasDict = true → sysModules ∉ as) := by
  induction h with
  | di h => exact fun r => Di.reads I h r
  | @nil a hs =>
    intro u r
    cases r
    obtain ⟨_, hne, vs, rel, o, es, ep, ho, ⟨hx, _, _⟩, hd, _, hp, _⟩ := dk_of I.hok hs
    cases rel
    cases es with
    | mk es =>
    cases hp
    refine ⟨_, Reads.dict ho hx hd (kvs := []) (as := []) (bs := []) .nil .nil, fun _ h => ?_⟩
    simp only [List.append_nil, List.mem_cons, List.not_mem_nil, or_false] at h
    rw [← h] at hne
    exact absurd hne (by decide)
  | @pair a x v d hs hv ih =>
    intro u r
    cases r
    obtain ⟨its, rv, ⟨o, ho, hc, n, hd⟩, _⟩ := I.tuple hs
    obtain ⟨u1, u2, rfl, ⟨t, rfl⟩, r2⟩ := vals2 rv
    obtain ⟨bs, hr, hm⟩ := ih r2
    refine ⟨_, Reads.tuple ho hc hd (.cons (.str _ _) (.cons hr .nil)), fun z h => hm ?_ ?_⟩
    · simpa [PyData.hasDict, PyData.hasDictAll] using z
    · simpa using h
theorem DjAll.reads (I : Inv X pins σ H s) : ∀ {ds : List PyData} {vs : List V} {us : List Value}, DjAll X.K H vs ds → Vals vs us → ReadsI s.heap us ds
  | [], _, _, h, r => by
    cases h
    cases r
    exact .nil
  | d :: ds, _, _, h, r => by
    cases h with
    | cons h1 h2 =>
      cases r with
      | cons r1 r2 =>
        obtain ⟨as, q, m⟩ := Dj.reads I h1 r1
        exact .cons q m (DjAll.reads I h2 r2)
theorem Dj.ex {K : PySem.W.Frag} {H H' : Hp} (e : Ex H H') {v : V} {d : PyData} (h : Dj K H v d) : Dj K H' v d := by
  induction h with
  | di h => exact .di (h.ex e)
  | nil h => exact .nil (e _ _ h)
  | pair h _ ih => exact .pair (ex_t e h) ih
theorem DjAll.ex {K : PySem.W.Frag} {H H' : Hp} (e : Ex H H') : ∀ {vs : List V} {ds : List PyData}, DjAll K H vs ds → DjAll K H' vs ds
  | _, _, .nil => .nil
  | _, _, .cons h t => .cons (h.ex e) (t.ex e)
end
def rReprJ (K : PySem.W.Frag) : List V → Hp → VK → Prop := fun xs H Q => ∃ v d, xs = [v] ∧ Dj K H v d ∧ d.showable = true ∧ d.shown.length ≤ sizeLine ∧ d.depth ≤ 60 ∧ Q (.str d.shown) H
def rReprK (K : PySem.W.Frag) : List V → Hp → VK → Prop := fun xs H Q => ∃ a vs ds, xs = [.ref a] ∧ SqL K H a vs ∧ DjAll K H vs ds ∧ (PyData.list ds).showable = true ∧ (PyData.list ds).shown.length ≤ sizeLine ∧ PyData.depthAll ds ≤ 60 ∧ Q (.str (PyData.list ds).shown) H
theorem call_reprJ {X : Cx} (hg : X.A.guards = some []) (hu : X.A.units + 64 < cLine) : CallR X (.builtin "repr") (rReprJ X.K) := by
  intro pins s σ H xs us Q I r h
  obtain ⟨v, d, rfl, hd, hs, hz, hdp, q⟩ := h
  cases r with
  | @cons _ u _ us r1 r2 =>
    cases r2
    show wpAny _ _ (call (.builtin "repr") [u]) _ _ _
    obtain ⟨as, rd, hm⟩ := Dj.reads I hd r1
    cases rd with
    | none => exact P.repr_of_none ⟨.str _, H, I.tok _, ⟨_, rfl⟩, by simpa [PyData.shown] using q⟩
    | bool b => exact P.repr_of_bool ⟨.str _, H, I.tok _, ⟨_, rfl⟩, by simpa [PyData.shown] using q⟩
    | int i t => exact P.repr_of_int (by simpa [PyData.showable] using hs) ⟨.str _, H, I.tok _, ⟨_, rfl⟩, by simpa [PyData.shown] using q⟩
    | str x t => exact P.repr_of_str ⟨.str _, H, I.tok _, ⟨_, rfl⟩, by simpa [PyData.shown] using q⟩ (by simpa [PyData.shown] using hz)
    | list h1 h2 h3 h4 => exact repr_of_reads' (.list h1 h2 h3 h4) hs hm hg (by omega) (fun _ _ e => e) (fun h' u tk k => ⟨.str _, H, I.kept (t' := tk) k, ⟨_, rfl⟩, q⟩) hz
    | tuple h1 h2 h3 h4 => exact repr_of_reads' (.tuple h1 h2 h3 h4) hs hm hg (by omega) (fun _ _ e => e) (fun h' u tk k => ⟨.str _, H, I.kept (t' := tk) k, ⟨_, rfl⟩, q⟩) hz
    | dict h1 h2 h3 h4 h5 => exact repr_of_reads' (.dict h1 h2 h3 h4 h5) hs hm hg (by omega) (fun _ _ e => e) (fun h' u tk k => ⟨.str _, H, I.kept (t' := tk) k, ⟨_, rfl⟩, q⟩) hz
theorem call_reprK {X : Cx} (hg : X.A.guards = some []) (hu : X.A.units + 64 < cLine) : CallR X (.builtin "repr") (rReprK X.K) := by
  intro pins s σ H xs us Q I r h
  obtain ⟨a, vs, ds, rfl, hS, hd, hs, hz, hdp, q⟩ := h
  cases r with
  | @cons _ u _ us r1 r2 =>
    cases r2
    cases r1
    show wpAny _ _ (call (.builtin "repr") [.ref a]) _ _ _
    obtain ⟨its, rv, ⟨o, n, h1, h2, _, h3⟩, _⟩ := I.list hS
    have RI := DjAll.reads I hd rv
    obtain ⟨as, h4⟩ := RI.all
    have hz' : (listText (PyData.shownAll ds)).length ≤ sizeLine := by simpa only [PyData.shown] using hz
    obtain ⟨bs, hb, hk⟩ := RI.repr (prog := X.prog) (w := X.w) (by simpa [PyData.showable] using hs) (fun t ht => Nat.le_trans (listText_mem_le ht) hz')
    have h4' : ReadsAll s.heap its.toArray.toList ds as := by simpa using h4
    have hna : a ∉ bs := not_mem_of_deeper (.list h1 h2 h3 h4') (by simp only [PyData.depth]; omega) hb
    have fin : ∀ {h' u tk}, (∀ b o, s.heap.get? b = some o → h'.get? b = some o) → EP X pins σ Q (.str (PyData.list ds).shown u) { s with heap := h', toks := tk } := fun {h' u tk} k => ⟨.str _, H, I.kept (t' := tk) k, ⟨_, rfl⟩, q⟩
    refine call_repr_slot (by omega) ⟨o, h1, h2⟩ F.slot_list_repr.toG ?_
    cases its with
    | nil =>
      cases h4
      have e : (PyData.list []).shown = ("[]" : Str) := by simp only [PyData.shown, PyData.shownAll, listText_nil]
      refine call_list_repr_empty ⟨o, h1, h2⟩ h1 h3 ⟨_, _, rfl, ?_⟩
      rw [← e]
      exact fin fun _ _ e => e
    | cons x l =>
      refine call_list_reprK h1 h2 h3 hna (by simpa using hk.length_eq) (fun i y e => hk.item i y (by simpa using e)) hg (fun b _ => Clear.nil b) (by show X.A.units + 1 + _ < _; omega) (fun _ _ e => e) (fun h' u tk k => ⟨_, _, rfl, ?_⟩) hz'
      have := fin (h' := h') (u := u) (tk := tk) k
      simpa only [PyData.shown] using this
section
variable {K : PySem.W.Frag} {σ : L2.St} {H : Hp} {te : TE}
theorem ev_reprJ {v : V} {d : PyData} (h : Ev te σ H v) (hd : Dj K H v d) (s : Sm d) : Ev (tCB (rReprJ K) (tCons te tNil)) σ H (.str d.shown) :=
  ev_cb (ea_cons h ea_nil) fun H1 e Q q => ⟨v, d, rfl, hd.ex e, s.a, Nat.le_trans s.b (by rw [sizeLine_eq]; omega), Nat.le_trans s.c (by decide), q H1 (Ex.refl H1)⟩
theorem ev_reprK {vs : List V} {ds : List PyData} (h : EvL te σ H vs) (hd : DjAll K H vs ds) (s : SmAll ds) (hl : ds.length ≤ 100) : Ev (tCB (rReprK K) (tCons te tNil)) σ H (.str (PyData.list ds).shown) := fun H1 e Q q =>
  h H1 e _ fun p H2 hp e2 h2 => ⟨p, vs, ds, rfl, sq_of h2, hd.ex (e.trans e2), (s.list hl).1, (s.list hl).2.1, (s.list hl).2.2, q H2 e2⟩
end
end L2

/-! k03: the law's own helpers. -/
namespace Evl
open PySem L2
theorem s_par {i j : Nat} {ta : TA} {v w : V} {D : Ends} {σ : St} {H : Hp} (h : EvA ta σ H [v, w]) (k : ∀ H1, Ex H H1 → D.nx ((σ.set i (some v)).set j (some w)) H1) : tPar i j ta D σ H := h H (Ex.refl H) _ fun H1 e => ⟨v, w, rfl, k H1 e⟩
theorem q_par {i j : Nat} {ta : TA} {v w : V} {D : Ends} {tz : TS} {σ : St} {H : Hp} (h : EvA ta σ H [v, w]) (k : ∀ H1, Ex H H1 → tz D ((σ.set i (some v)).set j (some w)) H1) : tSeq (tPar i j ta) tz D σ H := s_par (D := { D with nx := tz D }) h k
end Evl
namespace Dg
open PySem L2 Evl TL
open Dr (StAt SameB spDraw)
abbrev sLChg : Stmt := top 64
theorem len_t (x : Str) : x.length = (tl x).length := by
  show x.cps.size = _
  exact Array.length_toList.symm
structure TxH (K : PySem.W.Frag) (mg : Str → Option Value) (fld flp : Addr) : Prop where
  len : mg "len" = none
  ldig : mg "_law_digits" = some (.ref fld)
  kLd : PySem.W.keepIn K (.ref fld) = true
  lpow : mg "_law_power" = some (.ref flp)
  kLp : PySem.W.keepIn K (.ref flp) = true
section
variable {P : Program} {w : World} {K : PySem.W.Frag} {mg : Str → Option Value} {base : Heap} {fld flp : Addr}
theorem ev_digL {σ : St} {H : Hp} {ta tb : TE} {E : XK} {β n : Nat} (ha : Ev ta σ H (.int β)) (hb : Ev tb σ H (.int n)) (b2 : 2 ≤ β) (b10 : β ≤ 10) (n2 : n < 2 ^ 50000) : Ev (tCall spLDigits [] E (tCons ta (tCons tb tNil))) σ H (.str (digs β n)) :=
  ev_call (ea_cons ha (ea_cons hb ea_nil)) fun H1 e Q q E => ⟨β, n, rfl, b2, b10, n2, fun H2 e2 => q H2 e2⟩
theorem ev_powL {σ : St} {H : Hp} {ta tb : TE} {E : XK} {β k : Nat} (ha : Ev ta σ H (.int β)) (hb : Ev tb σ H (.int k)) (b2 : 2 ≤ β) (b10 : β ≤ 10) (k2 : k ≤ 100000) : Ev (tCall spLPower [] E (tCons ta (tCons tb tNil))) σ H (.int ((β ^ k : Nat) : Int)) :=
  ev_call (ea_cons ha (ea_cons hb ea_nil)) fun H1 e Q q E => ⟨β, k, rfl, b2, b10, k2, fun H2 e2 => q H2 e2⟩
theorem ev_lenX {K : PySem.W.Frag} {σ : St} {H : Hp} {te : TE} {x : Str} (h : Ev te σ H (.str x)) (hz : x.length ≤ 100000) : Ev (tCB (fun xs H Q => ∃ z, xs = [.str z] ∧ z.length ≤ sizeLine ∧ Q (.int z.length) H) (tCons te tNil)) σ H (.int x.length) := fun H1 e Q q =>
  h H1 e _ fun H2 e2 => ⟨x, rfl, sz_of hz, q H2 e2⟩
theorem ev_cutS {σ : St} {H : Hp} {te : TE} {tl th : TO} {x : Str} {lo hi : Option Int} (h : Ev te σ H (.str x)) (h1 : EvO tl σ H lo) (h2 : EvO th σ H hi) (hz : x.length ≤ 100000) : Ev (tSl rSlS te tl th) σ H (.str (cutS x lo hi)) := fun H1 e Q q =>
  h H1 e _ fun H2 e2 => h1 H2 (e.trans e2) _ fun H3 e3 => h2 H3 ((e.trans e2).trans e3) _ fun H4 e4 => ⟨x, rfl, sz_of hz, q H4 ((e2.trans e3).trans e4)⟩
theorem digs_le {β n : Nat} (b2 : 2 ≤ β) (n2 : n < 2 ^ 50000) : (digs β n).length ≤ 50000 := by
  rw [digs_len]
  exact dl_lenB b2 50000 n (Nat.lt_of_lt_of_le n2 (Nat.pow_le_pow_left b2 _))
def spLChg : Sp := fun vs H Q _ => ∃ β f s : Nat, vs = [.int β, .int f, .int s] ∧ 2 ≤ β ∧ β ≤ 10 ∧ f < s ∧ s < 2 ^ 50000 ∧ ∀ m, ChgIs β f s m → RetV (.int m) H Q
abbrev nLChg : List Str := ["base", "first", "second", "one", "other"]
theorem scLChg : FnScope nLChg ["base", "first", "second"] (defScope sLChg) := ⟨rfl, rfl, rfl, by decide +kernel, rfl, by decide +kernel, by decide +kernel⟩
theorem ok_lchg {f : Addr} {fd fdd : FuncData} (F : Fun K "_law_changed" "_law_changed" sLChg f fd) (GD : FnOk P w K mg base CX0 1 fld fdd ["base", "number"] spLDigits) (bD : Binds K fdd ["base", "number"] []) (T : TxH K mg fld flp) :
    FnOk P w K mg base CX0 2 f fd ["base", "first", "second"] spLChg := by
  refine F.ok scLChg (fun vs H Q E h => ?_) (fun cdv A outer s H vs Q E hr h => ?_)
  · obtain ⟨_, _, _, rfl, _⟩ := h
    rfl
  · obtain ⟨β, f, s, rfl, b2, b10, hfs, s2, q⟩ := h
    have f2 : f < 2 ^ 50000 := Nat.lt_trans hfs s2
    refine ⟨_, pss_cons (ps_par (i := 3) (j := 4) (by rfl) scLChg.nd rfl rfl (by decide) rfl rfl (pa_cons (pe_call GD hr (by rfl) T.ldig T.kLd bD .nil pass0 (pa_cons (pv 0) (pa_cons (pv 1) pa_nil))) (pa_cons (pe_call GD hr (by rfl) T.ldig T.kLd bD .nil pass0 (pa_cons (pv 0) (pa_cons (pv 2) pa_nil))) pa_nil)) (by rfl))
      (pss_cons (ps_while PassesOwn.never (PW.pt (pw_and (pt_cmpR op_eq (pe_callB call_len_str (by rfl) T.len (by decide +kernel) (pa_cons (pv 3) pa_nil)) (pe_callB call_len_str (by rfl) T.len (by decide +kernel) (pa_cons (pv 4) pa_nil)) (nomark _)) (pw_and1 (pt_cmpR op_eq (pe_slice sl_str (pv 3) po_none (po_some pe_int)) (pe_slice sl_str (pv 4) po_none (po_some pe_int)) (nomark _)))))
        (pss_one (ps_par (i := 3) (j := 4) (by rfl) scLChg.nd rfl rfl (by decide) rfl rfl (pa_cons (pe_slice sl_str (pv 3) (po_some pe_int) po_none) (pa_cons (pe_slice sl_str (pv 4) (po_some pe_int) po_none) pa_nil)) (by rfl))))
      (pss_one (ps_ret (pe_callB call_len_str (by rfl) T.len (by decide +kernel) (pa_cons (pv 4) pa_nil))))), ?_⟩
    have lf := digs_le (n := f) b2 f2
    have ls := digs_le (n := s) b2 s2
    refine q_par (v := .str (digs β f)) (w := .str (digs β s)) (ea_cons (ev_digL (ev_var rfl) (ev_var rfl) b2 b10 f2) (ea_cons (ev_digL (ev_var rfl) (ev_var rfl) b2 b10 s2) ea_nil)) fun H1 e1 => ?_
    have tf : tl (digs β f) = ((dl β f).reverse).map (48 + ·) := tl_digs β f
    have ts : tl (digs β s) = ((dl β s).reverse).map (48 + ·) := tl_digs β s
    refine q_while (fun n σ' H' => Ex H H' ∧ ∃ (x y : Str) (k : Nat), σ' = [some (.int β), some (.int f), some (.int s), some (.str x), some (.str y)] ∧ tl x = (((dl β f).reverse).drop k).map (48 + ·) ∧ tl y = (((dl β s).reverse).drop k).map (48 + ·) ∧
        k ≤ (dl β s).length ∧ n = (dl β s).length - k ∧ (k = 0 ∨ ((dl β f).length = (dl β s).length ∧ (dl β f).reverse.take k = (dl β s).reverse.take k))) (dl β s).length
      ⟨e1, digs β f, digs β s, 0, rfl, by rw [tf]; rfl, by rw [ts]; rfl, Nat.zero_le _, rfl, .inl rfl⟩ (fun n σ' H' ⟨ex, x, y, k, hσ, hx, hy, hk, hn, alt⟩ => ?_)
    subst hσ
    have lx : x.length = (dl β f).length - k := by
      rw [len_t, hx]
      simp
    have ly : y.length = (dl β s).length - k := by
      rw [len_t, hy]
      simp
    have zf : (dl β f).length ≤ 50000 := by rw [← digs_len]; exact lf
    have zs : (dl β s).length ≤ 50000 := by rw [← digs_len]; exact ls
    have mono := dl_mono b2 (Nat.le_of_lt hfs)
    refine ⟨decide (V.int x.length = V.int y.length) && decide (V.str (cutS x none (some 1)) = V.str (cutS y none (some 1))), et_and (et_test (ev_op (ev_lenX (K := K) (ev_var rfl) (by omega)) (ev_lenX (K := K) (ev_var rfl) (by omega)) (rv_eq rfl))) (fun _ => et_test (ev_op (ev_cutS (ev_var rfl) eo_none (eo_some ev_c) (by omega)) (ev_cutS (ev_var rfl) eo_none (eo_some ev_c) (by omega)) (rv_eq rfl))), fun z H4 e4 => ?_, fun z H4 e4 => ?_⟩
    · obtain ⟨z1, z2⟩ := Bool.and_eq_true_iff.mp z
      have z1 : x.length = y.length := by
        have := of_decide_eq_true z1
        injection this with this
        omega
      have z2 : (tl x).take 1 = (tl y).take 1 := by
        have := of_decide_eq_true z2
        injection this with this
        rw [← tl_cut1, ← tl_cut1, this]
      have inj : ∀ {l l' : List Nat}, l.map (48 + ·) = l'.map (48 + ·) → l = l' := fun {l l'} h => by
        have : (l.map (48 + ·)).map (· - 48) = (l'.map (48 + ·)).map (· - 48) := by rw [h]
        simpa [List.map_map, Function.comp_def, Nat.add_sub_cancel_left] using this
      rw [hx, hy, ← List.map_take, ← List.map_take] at z2
      have z3 := inj z2
      have heq : (dl β f).length = (dl β s).length := by
        rcases alt with y0 | y0
        · subst y0
          omega
        · exact y0.1
      have tk : (dl β f).reverse.take k = (dl β s).reverse.take k := by
        rcases alt with y0 | y0
        · subst y0
          rfl
        · exact y0.2
      have tk1 : (dl β f).reverse.take (k + 1) = (dl β s).reverse.take (k + 1) := by rw [List.take_add, List.take_add, tk, z3]
      have hlt : k < (dl β s).length := by
        rcases Nat.lt_or_ge k (dl β s).length with y0 | y0
        · exact y0
        · exfalso
          have e5 : (dl β f).reverse = (dl β s).reverse := by
            rw [List.take_of_length_le (by rw [List.length_reverse]; omega), List.take_of_length_le (by rw [List.length_reverse]; omega)] at tk
            exact tk
          have := dl_inj b2 _ _ (List.reverse_inj.mp e5)
          omega
      refine ⟨fun σ2 H5 => Ex H H5 ∧ σ2 = [some (.int β), some (.int f), some (.int s), some (.str (cutS x (some 1) none)), some (.str (cutS y (some 1) none))], fun σ2 H5 ⟨ex5, a⟩ => ⟨(dl β s).length - (k + 1), by omega, ex5, _, _, k + 1, a, ?_, ?_, hlt, rfl, .inr ⟨heq, tk1⟩⟩, ?_⟩
      · rw [tl_cut2, hx, ← List.map_drop, List.drop_drop]
      · rw [tl_cut2, hy, ← List.map_drop, List.drop_drop]
      · exact s_par (v := .str (cutS x (some 1) none)) (w := .str (cutS y (some 1) none)) (ea_cons (ev_cutS (ev_var rfl) (eo_some ev_c) eo_none (by omega)) (ea_cons (ev_cutS (ev_var rfl) (eo_some ev_c) eo_none (by omega)) ea_nil)) fun H6 e6 => ⟨(ex.trans e4).trans e6, rfl⟩
    · refine ev_lenX (K := K) (x := y) (ev_var rfl) (by omega) H4 (Ex.refl _) _ fun H6 e6 => ?_
      rw [ly]
      refine q _ ?_ H6 ((ex.trans e4).trans e6)
      by_cases y0 : (dl β f).length = (dl β s).length
      · have tk : (dl β f).reverse.take k = (dl β s).reverse.take k := by
          rcases alt with y1 | y1
          · subst y1
            rfl
          · exact y1.2
        have z2 : (tl x).take 1 ≠ (tl y).take 1 := fun e5 => by
          rw [← tl_cut1, ← tl_cut1] at e5
          have e6 := str_ext e5
          rw [e6, decide_eq_true rfl, Bool.and_true] at z
          have := of_decide_eq_false z
          apply this
          rw [lx, ly, y0]
        have hlt : k < (dl β f).length := by
          rcases Nat.lt_or_ge k (dl β f).length with y2 | y2
          · exact y2
          · exfalso
            apply z2
            rw [hx, hy, List.drop_of_length_le (by rw [List.length_reverse]; omega), List.drop_of_length_le (by rw [List.length_reverse]; omega)]
        refine chg_same b2 y0 hlt tk fun e5 => z2 ?_
        rw [List.take_add, List.take_add, tk] at e5
        rw [hx, hy, ← List.map_take, ← List.map_take, List.append_cancel_left e5]
      · rcases alt with y1 | y1
        · subst y1
          exact chg_diff b2 (by omega)
        · exact absurd y1.1 y0
def spLNear : Sp := fun vs H Q _ => ∃ β f s : Nat, vs = [.int β, .int f, .int s] ∧ 2 ≤ β ∧ β ≤ 10 ∧ f < s ∧ s < 2 ^ 50000 ∧ ∀ m, NearIs β (s - f) m → RetV (.int m) H Q
abbrev nLNear : List Str := ["base", "first", "second", "found"]
end
end Dg

/-! k06: what is told of a range, as data. -/
namespace Evl
open PySem L2
theorem s_tup {ta : TA} {vs : List V} {D : Ends} {σ : St} {H : Hp} (h : EvA ta σ H vs) (hz : vs.length ≤ sizeLine) (k : ∀ t H1, Ex H H1 → H t = none → H1 t = some (.tup vs) → D.rt (.ref t) H1) : tRet (tTup ta) D σ H :=
  h H (Ex.refl H) _ fun H1 e1 => ⟨hz, fun t nt => k t _ (e1.trans (Ex.new nt)) (fresh_back e1 nt) upd_same⟩
end Evl
namespace Dg
open PySem L2 Evl TL
theorem near_ex {β : Nat} (hb : 2 ≤ β) (d : Nat) : ∃ k, NearIs β d k := by
  have h0 : d ≤ β ^ d := Nat.le_of_lt (Nat.lt_of_lt_of_le Nat.lt_two_pow_self (Nat.pow_le_pow_left hb d))
  have key : ∀ n : Nat, d ≤ β ^ n → ∃ k, NearIs β d k := by
    intro n
    induction n using Nat.strongRecOn with
    | _ n ih =>
      intro h
      by_cases hx : ∃ j, j < n ∧ d ≤ β ^ j
      · obtain ⟨j, hj, hd⟩ := hx
        exact ih j hj hd
      · exact ⟨n, h, fun j hj => Nat.lt_of_not_le fun hd => hx ⟨j, hj, hd⟩⟩
  exact key d h0
open Classical in
noncomputable def neaN (β d : Nat) : Nat := if h : ∃ k, NearIs β d k then Classical.choose h else 0
theorem neaN_is {β : Nat} (hb : 2 ≤ β) (d : Nat) : NearIs β d (neaN β d) := by
  unfold neaN
  rw [dif_pos (near_ex hb d)]
  exact Classical.choose_spec (near_ex hb d)
theorem neaN_eq {β d k : Nat} (h : NearIs β d k) : neaN β d = k := by
  have e : ∃ k, NearIs β d k := ⟨k, h⟩
  unfold neaN
  rw [dif_pos e]
  exact (Classical.choose_spec e).uniq h
theorem neaN_le {β d i : Nat} (hb : 2 ≤ β) : neaN β d ≤ i ↔ d ≤ β ^ i := by
  have n := neaN_is hb d
  constructor
  · intro h
    exact Nat.le_trans n.1 (Nat.pow_le_pow_right (by omega) h)
  · intro h
    rcases Nat.lt_or_ge i (neaN β d) with z | z
    · exact absurd (n.2 i z) (by omega)
    · exact z
open Classical in
noncomputable def chgN (β f s : Nat) : Nat := if h : ∃ m, ChgIs β f s m then Classical.choose h else 0
theorem chgN_eq {β f s m : Nat} (h : ChgIs β f s m) : chgN β f s = m := by
  have e : ∃ m, ChgIs β f s m := ⟨m, h⟩
  unfold chgN
  rw [dif_pos e]
  exact (Classical.choose_spec e).uniq h
/-- the last two digits -/
def enD (β f : Nat) : Str := cutS (digs β f) (some (-2)) none
/-- what facts_of tells -/
noncomputable def fctV (β f s : Nat) : List V := [.int ((dl β f).length : Int), .int ((dl β s).length : Int), .int (chgN β f s : Int), .int (neaN β (s - f) : Int), .str (enD β f)]
/-- what is refused of two values, and what is due of a range -/
structure RngQ (ca : Nat → Addr) (v u : V) (b c : Bool) (H : Hp) (E : XK) (G : Nat → Nat → Prop) : Prop where
  bad : (b && c) = false → LeavesP (ca 4) v u H E
  ok : (b && c) = true → (∃ i j : Int, v = .int i ∧ u = .int j ∧ j ≤ i ∧ LeavesP (ca 4) v u H E) ∨ ∃ f s : Nat, v = .int f ∧ u = .int s ∧ 1 ≤ f ∧ f < s ∧ s < 2 ^ 50000 ∧ G f s
theorem RngQ.map {ca : Nat → Addr} {v u : V} {b c : Bool} {H H' : Hp} {E : XK} {G G' : Nat → Nat → Prop} (R : RngQ ca v u b c H E G) (e : Ex H H') (h : ∀ f s : Nat, v = .int (f : Int) → u = .int (s : Int) → 1 ≤ f → f < s → s < 2 ^ 50000 → G f s → G' f s) : RngQ ca v u b c H' E G' :=
  ⟨fun z => (R.bad z).go e, fun z => by
    rcases R.ok z with ⟨i, j, h1, h2, h3, l⟩ | ⟨f, s, h1, h2, h3, h4, h5, g⟩
    · exact .inl ⟨i, j, h1, h2, h3, l.go e⟩
    · exact .inr ⟨f, s, h1, h2, h3, h4, h5, h f s h1 h2 h3 h4 h5 g⟩⟩
section
variable {K : PySem.W.Frag} {σ : St} {H : Hp} {t0 t1 t2 : TE} {E : St → XK} {β f s n : Nat} {ca : Nat → Addr}
theorem nm_yes (h : 1 ≤ n) : Nm K H (.int n) true := by
  rw [← decide_eq_true (p := (1 : Int) ≤ (n : Int)) (by omega)]
  exact .int n
theorem ev_digP (b2 : 2 ≤ β) (b10 : β ≤ 10) (n1 : 1 ≤ n) (nz : n < 2 ^ 50000) (h0 : Ev t0 σ H (.int β)) (h1 : Ev t1 σ H (.int n)) : Ev (tCallS (spDigits K ca) E (tCons t0 (tCons t1 tNil))) σ H (.str (digs β n)) := fun H1 e Q q =>
  h0 H1 e _ fun H2 e2 => h1 H2 (e.trans e2) _ fun H3 e3 => ⟨.int β, .int n, true, true, rfl, Dt.bs_yes b2 b10, nm_yes n1, (fun z => nomatch z), (fun _ z => nomatch z), fun _ _ => ⟨β, n, rfl, rfl, b2, b10, n1, nz, fun H4 e4 => q H4 ((e2.trans e3).trans e4)⟩⟩
theorem ev_lenP (b2 : 2 ≤ β) (b10 : β ≤ 10) (n1 : 1 ≤ n) (nz : n < 2 ^ 50000) (h0 : Ev t0 σ H (.int β)) (h1 : Ev t1 σ H (.int n)) : Ev (tCallS (spLength K ca) E (tCons t0 (tCons t1 tNil))) σ H (.int ((dl β n).length : Int)) := fun H1 e Q q =>
  h0 H1 e _ fun H2 e2 => h1 H2 (e.trans e2) _ fun H3 e3 => ⟨.int β, .int n, true, true, rfl, Dt.bs_yes b2 b10, nm_yes n1, (fun z => nomatch z), (fun _ z => nomatch z), fun _ _ => ⟨β, n, rfl, rfl, b2, b10, n1, nz, fun H4 e4 => q H4 ((e2.trans e3).trans e4)⟩⟩
theorem ev_rng {R : Nat → Nat → Nat → Nat → Prop} {z : Nat} (b2 : 2 ≤ β) (b10 : β ≤ 10) (f1 : 1 ≤ f) (hfs : f < s) (hz : ∀ m, R β f s m → z = m) (h0 : Ev t0 σ H (.int β)) (h1 : Ev t1 σ H (.int f)) (h2 : Ev t2 σ H (.int s)) :
    Ev (tCallS (spRng K ca R) E (tCons t0 (tCons t1 (tCons t2 tNil)))) σ H (.int (z : Int)) := fun H1 e Q q =>
  h0 H1 e _ fun H2 e2 => h1 H2 (e.trans e2) _ fun H3 e3 => h2 H3 ((e.trans e2).trans e3) _ fun H4 e4 => ⟨.int β, .int f, .int s, true, true, true, rfl, Dt.bs_yes b2 b10, nm_yes f1, nm_yes (Nat.le_of_lt (Nat.lt_of_le_of_lt f1 hfs)), (fun z => nomatch z), (fun _ z => nomatch z), fun _ _ => ⟨β, f, s, rfl, b2, b10, .inr ⟨rfl, rfl, hfs, fun m hm H5 e5 => by
    rw [← hz m hm]
    exact q H5 (((e2.trans e3).trans e4).trans e5)⟩⟩⟩
end
abbrev sFacts : Stmt := top 46
structure TxFa (K : PySem.W.Frag) (mg : Str → Option Value) (fnr fdg fne fle fch : Addr) : Prop where
  needR : mg "need_range" = some (.ref fnr)
  kNR : PySem.W.keepIn K (.ref fnr) = true
  digits : mg "digits" = some (.ref fdg)
  kDg : PySem.W.keepIn K (.ref fdg) = true
  near : mg "near" = some (.ref fne)
  kNe : PySem.W.keepIn K (.ref fne) = true
  length : mg "length" = some (.ref fle)
  kLe : PySem.W.keepIn K (.ref fle) = true
  changed : mg "changed" = some (.ref fch)
  kCh : PySem.W.keepIn K (.ref fch) = true
  len : mg "len" = none
  mend : ∃ t, mg "MOST_ENDING" = some (.int 2 t)
theorem z5 : 5 ≤ sizeLine := by rw [sizeLine_eq]; decide
section
variable {P : Program} {w : World} {K : PySem.W.Frag} {mg : Str → Option Value} {base : Heap} {ca : Nat → Addr} {fnr fdg fne fle fch : Addr}
def spFacts (K : PySem.W.Frag) (ca : Nat → Addr) : Sp := fun vs H Q E => ∃ (β : Nat) (v u : V) (b c : Bool), vs = [.int β, v, u] ∧ 2 ≤ β ∧ β ≤ 10 ∧ Nm K H v b ∧ Nm K H u c ∧ RngQ ca v u b c H E fun f s => ∀ t H', Ex H H' → H' t = some (.tup (fctV β f s)) → Q (.ref t) H'
theorem scFacts : FnScope ["base", "first", "second", "written", "gap"] ["base", "first", "second"] (defScope sFacts) := ⟨rfl, rfl, rfl, by decide +kernel, rfl, by decide +kernel, by decide +kernel⟩
theorem ok_facts {f : Addr} {fd fd1 fd2 fd3 fd4 fd5 : FuncData} (F : Fun K "facts_of" "facts_of" sFacts f fd) (GR : FnOk P w K mg base (L2.CX P w) 5 fnr fd1 ["first", "second"] (spNeedR K ca)) (bR : Binds K fd1 ["first", "second"] [])
    (GD : FnOk P w K mg base (L2.CX P w) 5 fdg fd2 ["base", "number"] (spDigits K ca)) (bD : Binds K fd2 ["base", "number"] []) (GN : FnOk P w K mg base (L2.CX P w) 5 fne fd3 ["base", "first", "second"] (spRng K ca fun β f s m => NearIs β (s - f) m)) (bN : Binds K fd3 ["base", "first", "second"] [])
    (GL : FnOk P w K mg base (L2.CX P w) 5 fle fd4 ["base", "number"] (spLength K ca)) (bL : Binds K fd4 ["base", "number"] []) (GC : FnOk P w K mg base (L2.CX P w) 5 fch fd5 ["base", "first", "second"] (spRng K ca ChgIs)) (bC : Binds K fd5 ["base", "first", "second"] [])
    (T : TxFa K mg fnr fdg fne fle fch) : FnOk P w K mg base (L2.CX P w) 6 f fd ["base", "first", "second"] (spFacts K ca) := by
  refine F.okX scFacts (fun vs H Q E h => ?_) (fun cdv A outer s H vs Q E hr h => ?_)
  · obtain ⟨_, _, _, _, _, rfl, _⟩ := h
    rfl
  · obtain ⟨β, v, u, b, c, rfl, b2, b10, kb, kc, R⟩ := h
    obtain ⟨tm, hm⟩ := T.mend
    refine ⟨_, pss_cons (ps_expr (pe_callS GR hr (by rfl) T.needR T.kNR bR (fun σ => passAt (takes_of rfl rfl rfl rfl) σ) (pa_cons (pv 1) (pa_cons (pv 2) pa_nil))))
      (pss_cons (ps_set (i := 3) scFacts.nd rfl (.inl rfl) (pe_callS GD hr (by rfl) T.digits T.kDg bD (fun σ => passAt (takes_of rfl rfl rfl rfl) σ) (pa_cons (pv 0) (pa_cons (pv 1) pa_nil))))
      (pss_cons (ps_set (i := 4) scFacts.nd rfl (.inl rfl) (pe_callS GN hr (by rfl) T.near T.kNe bN (fun σ => passAt (takes_of rfl rfl rfl rfl) σ) (pa_cons (pv 0) (pa_cons (pv 1) (pa_cons (pv 2) pa_nil)))))
      (pss_one (ps_ret (pe_tup (pa_cons (pe_callB call_len_str (by rfl) T.len (by decide +kernel) (pa_cons (pv 3) pa_nil))
        (pa_cons (pe_callS GL hr (by rfl) T.length T.kLe bL (fun σ => passAt (takes_of rfl rfl rfl rfl) σ) (pa_cons (pv 0) (pa_cons (pv 2) pa_nil)))
        (pa_cons (pe_callS GC hr (by rfl) T.changed T.kCh bC (fun σ => passAt (takes_of rfl rfl rfl rfl) σ) (pa_cons (pv 0) (pa_cons (pv 1) (pa_cons (pv 2) pa_nil))))
        (pa_cons (pv 4) (pa_cons (pe_slice sl_str (pv 3) (po_some (pe_un un_neg (pe_glob (by rfl) hm (v := .int 2) ⟨_, rfl⟩))) po_none) pa_nil)))))))))), ?_⟩
    refine ⟨_, rfl, _, rfl, v, u, b, c, rfl, kb, kc, R.bad, fun z => ?_⟩
    rcases R.ok z with ⟨i, j, rfl, rfl, hij, lt⟩ | ⟨f, s, rfl, rfl, f1, hfs, s2, q⟩
    · exact ⟨i, j, rfl, rfl, fun _ => lt, fun z => absurd hij (Int.not_le.mpr z)⟩
    · have f2 : f < 2 ^ 50000 := Nat.lt_trans hfs s2
      have s1 : 1 ≤ s := Nat.le_of_lt (Nat.lt_of_le_of_lt f1 hfs)
      refine ⟨f, s, rfl, rfl, fun z => absurd z (Int.not_le.mpr (Int.ofNat_lt.mpr hfs)), fun _ H1 e1 => ?_⟩
      refine q_asg (ev_digP b2 b10 f1 f2 (ev_var rfl) (ev_var rfl)) fun H2 e2 => ?_
      refine q_asg (v := .int (neaN β (s - f) : Int)) (ev_rng b2 b10 f1 hfs (fun m hm => neaN_eq hm) (ev_var rfl) (ev_var rfl) (ev_var rfl)) fun H3 e3 => ?_
      have lf : (digs β f).length ≤ 100000 := Nat.le_trans (digs_le (n := f) b2 f2) (by decide)
      refine s_tup (vs := fctV β f s) ?_ z5 fun t H4 e4 nt ht => q t H4 (((e1.trans e2).trans e3).trans e4) ht
      refine ea_cons (ev_is (ev_lenX (K := K) (x := digs β f) (ev_var rfl) lf) (by rw [digs_len])) ?_
      refine ea_cons (ev_lenP b2 b10 s1 s2 (ev_var rfl) (ev_var rfl)) ?_
      refine ea_cons (ev_rng (z := chgN β f s) b2 b10 f1 hfs (fun m hm => chgN_eq hm) (ev_var rfl) (ev_var rfl) (ev_var rfl)) ?_
      refine ea_cons (ev_var rfl) ?_
      exact ea_cons (ev_cutS (ev_var rfl) (eo_some (ev_un ev_c ru_neg)) eo_none lf) ea_nil
end
end Dg

/-! k06: the rule that writes a range, and how much it keeps. -/
namespace Dt
open PySem L2 Evl Dg LamR LamX StX ClX TL
open Dr (StAt SameB)
/-- whether a condition holds -/
noncomputable def holdsD (β f s : Nat) : PyData → Bool
  | .tuple [.str _, .str x] => Txt.endswith (enD β f) x
  | .tuple [.str _, .int i] => decide ((neaN β (s - f) : Int) ≤ i)
  | .tuple [.str w, .int i, e] => decide (i ≤ (if w = "length" then ((dl β f).length : Int) else (chgN β f s : Int))) && (isN e || decide ((if w = "length" then ((dl β f).length : Int) else (chgN β f s : Int)) ≤ intD e))
  | _ => false
noncomputable def appl (β f s : Nat) (d : PyData) : Bool := (tupD (at_ 0 d)).all (holdsD β f s)
/-- the number of the first rule that applies -/
noncomputable def firstD (β f s : Nat) (Ds : List PyData) : Nat := (Ds.take (Ds.length - 1)).findIdx (appl β f s)
/-- how many digits a rule keeps -/
noncomputable def keepN (β f s : Nat) : PyData → Nat
  | .tuple [.str _] => (dl β s).length
  | .tuple [.str w, .int i] => if w = "changed" then min (max (chgN β f s) i.toNat) (dl β s).length else min i.toNat (dl β s).length
  | _ => 0
noncomputable def keptD (β f s : Nat) (Ds : List PyData) : Nat := keepN β f s (at_ 1 (Ds.getD (firstD β f s Ds) .none))
theorem firstD_lt {β f s : Nat} {Ds : List PyData} (h : 1 ≤ Ds.length) : firstD β f s Ds < Ds.length := by
  have := List.findIdx_le_length (xs := Ds.take (Ds.length - 1)) (p := appl β f s)
  rw [List.length_take] at this
  unfold firstD
  omega
abbrev sHolds : Stmt := top 47
abbrev sFirst : Stmt := top 48
abbrev sMany : Stmt := top 49
abbrev sWritten : Stmt := top 50
structure TxW (K : PySem.W.Frag) (mg : Str → Option Value) (fho ffi fma : Addr) : Prop where
  holds : mg "holds" = some (.ref fho)
  kHo : PySem.W.keepIn K (.ref fho) = true
  first : mg "first_applying" = some (.ref ffi)
  kFi : PySem.W.keepIn K (.ref ffi) = true
  many : mg "many_kept" = some (.ref fma)
  kMa : PySem.W.keepIn K (.ref fma) = true
  len : mg "len" = none
  range : mg "range" = none
  all : mg "all" = none
  min : mg "min" = none
  max : mg "max" = none
section
variable {P : Program} {w : World} {K : PySem.W.Frag} {mg : Str → Option Value} {base : Heap} {ca : Nat → Addr} {fho ffi fma : Addr}
def spHolds : Sp := fun vs H Q _ => ∃ (v : V) (t : Addr) (D : PyData) (β f s : Nat), vs = [v, .ref t] ∧ Pt H v D ∧ CondS β D ∧ H t = some (.tup (fctV β f s)) ∧ RetV (.bl (holdsD β f s D)) H Q
abbrev nHolds : List Str := ["condition", "facts", "first_length", "second_length", "change", "gap", "ending", "word", "size"]
theorem scHolds : FnScope nHolds ["condition", "facts"] (defScope sHolds) := ⟨rfl, rfl, rfl, by decide +kernel, rfl, by decide +kernel, by decide +kernel⟩
theorem ok_holds {f : Addr} {fd : FuncData} (F : Fun K "holds" "holds" sHolds f fd) : FnOk P w K mg base CX0 1 f fd ["condition", "facts"] spHolds := by
  refine F.ok scHolds (fun vs H Q E h => ?_) (fun cdv A outer s H vs Q E hr h => ?_)
  · obtain ⟨_, _, _, _, _, _, rfl, _⟩ := h
    rfl
  · obtain ⟨v, t, D, β, f, s, rfl, k, hc, ht, q⟩ := h
    refine ⟨_, pss_cons (ps_asg (pv 1) (pg_tup (by rfl) (pgs_cons (pg_name (i := 2) scHolds.nd rfl (.inl rfl)) (pgs_cons (pg_name (i := 3) scHolds.nd rfl (.inl rfl)) (pgs_cons (pg_name (i := 4) scHolds.nd rfl (.inl rfl)) (pgs_cons (pg_name (i := 5) scHolds.nd rfl (.inl rfl)) (pgs_cons (pg_name (i := 6) scHolds.nd rfl (.inl rfl)) pgs_nil)))))))
      (pss_cons (ps_set (i := 7) scHolds.nd rfl (.inl rfl) (pe_ix ix_tup (pv 0) pe_int (fun _ _ => rfl)))
      (pss_cons (ps_if (pt_cmpR op_eq (pv 7) pe_str (nomark _)) (pss_one (ps_ret (pe_m1 PySem.F.slot_str_endswith PySem.F.type_str_endswith mt_endswith (pv 6) (pe_ix ix_tup (pv 0) pe_int (fun _ _ => rfl))))) pss_nil)
      (pss_cons (ps_if (pt_cmpR op_eq (pv 7) pe_str (nomark _)) (pss_one (ps_ret (pe_cmpR op_le (pv 5) (pe_ix ix_tup (pv 0) pe_int (fun _ _ => rfl)) (nomark _)))) pss_nil)
      (pss_cons (ps_set (i := 8) scHolds.nd rfl (.inl rfl) (pe_ifExp (pt_cmpR op_eq (pv 7) pe_str (nomark _)) (pv 2) (pv 4)))
      (pss_one (ps_ret (pe_and (pe_cmpR op_le (pe_ix ix_tup (pv 0) pe_int (fun _ _ => rfl)) (pv 8) (nomark _)) (pe_one (pe_or (pe_cmpR op_isN (pe_ix ix_tup (pv 0) pe_int (fun _ _ => rfl)) pe_non (nomark _)) (pe_one (pe_cmpR op_le (pv 8) (pe_ix ix_tup (pv 0) pe_int (fun _ _ => rfl)) (nomark _)))))))))))), ?_⟩
    have k' : ∃ ds, D = .tuple ds := by cases hc <;> exact ⟨_, rfl⟩
    obtain ⟨ds, rfl⟩ := k'
    obtain ⟨a, us, rfl, ha, ka⟩ := k.tupI'
    refine ⟨_, rfl, t, _, rfl, st_of ht, rfl, _, _, rfl, _, _, rfl, _, _, rfl, _, _, rfl, _, _, rfl, rfl, ?_⟩
    cases hc with
    | ends x hx =>
      obtain ⟨u0, u1, rfl⟩ : ∃ u0 u1, us = [u0, u1] := by
        match us, ka.length with
        | [u0, u1], _ => exact ⟨_, _, rfl⟩
      cases ka with
      | cons k0 ka =>
        cases ka with
        | cons k1 _ =>
          cases k0
          cases k1
          refine q_asg (v := .str "ends") (ev_at (K := K) (i := 0) (ev_var rfl) ha rfl) fun H1 e1 => ?_
          refine q_when (b := true) (et_test (ev_is (ev_op (ev_var rfl) ev_c (rv_eq rfl)) (by rw [decide_eq_true rfl]))) (fun z H2 e2 => ?_) (fun z => nomatch z)
          exact ⟨_, rfl, ⟨_, rfl⟩, ev_at (K := K) (i := 1) (ev_var rfl) (e2 _ _ (e1 _ _ ha)) rfl H2 (Ex.refl H2) _ fun H3 e3 => ⟨_, _, rfl, rfl, q H3 ((e1.trans e2).trans e3)⟩⟩
    | near i h0 h6 =>
      obtain ⟨u0, u1, rfl⟩ : ∃ u0 u1, us = [u0, u1] := by
        match us, ka.length with
        | [u0, u1], _ => exact ⟨_, _, rfl⟩
      cases ka with
      | cons k0 ka =>
        cases ka with
        | cons k1 _ =>
          cases k0
          cases k1
          refine q_asg (v := .str "near") (ev_at (K := K) (i := 0) (ev_var rfl) ha rfl) fun H1 e1 => ?_
          refine q_when (b := false) (et_test (ev_is (ev_op (ev_var rfl) ev_c (rv_eq rfl)) (by rw [decide_eq_false (by decide +kernel)]))) (fun z => nomatch z) (fun z H2 e2 => ?_)
          refine q_when (b := true) (et_test (ev_is (ev_op (ev_var rfl) ev_c (rv_eq rfl)) (by rw [decide_eq_true rfl]))) (fun z H3 e3 => ?_) (fun z => nomatch z)
          have e13 := (e1.trans e2).trans e3
          exact s_ret (ev_op (ev_var rfl) (ev_at (K := K) (i := 1) (ev_var rfl) (e13 _ _ ha) rfl) rv_I0) fun H4 e4 => q H4 (e13.trans e4)
    | len w hw i h1 h6 e he =>
      obtain ⟨u0, u1, u2, rfl⟩ : ∃ u0 u1 u2, us = [u0, u1, u2] := by
        match us, ka.length with
        | [u0, u1, u2], _ => exact ⟨_, _, _, rfl⟩
      cases ka with
      | cons k0 ka =>
        cases ka with
        | cons k1 ka =>
          cases ka with
          | cons k2 _ =>
            cases k0
            cases k1
            have n1 : w ≠ "ends" := by rcases hw with rfl | rfl <;> decide +kernel
            have n2 : w ≠ "near" := by rcases hw with rfl | rfl <;> decide +kernel
            refine q_asg (v := .str w) (ev_at (K := K) (i := 0) (ev_var rfl) ha rfl) fun H1 e1 => ?_
            refine q_when (b := false) (et_test (ev_is (ev_op (ev_var rfl) ev_c (rv_eq rfl)) (by rw [decide_eq_false (fun z => n1 (by injection z))]))) (fun z => nomatch z) (fun z H2 e2 => ?_)
            refine q_when (b := false) (et_test (ev_is (ev_op (ev_var rfl) ev_c (rv_eq rfl)) (by rw [decide_eq_false (fun z => n2 (by injection z))]))) (fun z => nomatch z) (fun z H3 e3 => ?_)
            have e13 := (e1.trans e2).trans e3
            obtain ⟨sz, hsz⟩ : ∃ sz : Int, sz = if w = "length" then ((dl β f).length : Int) else (chgN β f s : Int) := ⟨_, rfl⟩
            refine q_asg (v := .int sz) (ev_if (b := decide (w = "length")) (et_test (ev_is (ev_op (ev_var rfl) ev_c (rv_eq rfl)) (by
                congr 1
                exact decide_eq_decide.mpr ⟨fun z => by injection z, fun z => by rw [z]⟩))) (fun z => ?_) (fun z => ?_)) fun H4 e4 => ?_
            · rw [hsz, if_pos (of_decide_eq_true z)]
              exact ev_var rfl
            · rw [hsz, if_neg (of_decide_eq_false z)]
              exact ev_var rfl
            have e14 := e13.trans e4
            have ha4 := e14 _ _ ha
            have q' : RetV (.bl (decide (i ≤ sz) && (isN e || decide (sz ≤ intD e)))) H Q := by
              rw [hsz]
              exact q
            refine s_ret (ev_andV (ev_op (ev_at (K := K) (i := 1) (ev_var rfl) ha4 rfl) (ev_var rfl) rv_I0) fun _ => ev_orV (a := isN e) (ev_op (y := .non) (ev_at (K := K) (i := 2) (ev_var rfl) ha4 rfl) ev_c fun H5 e5 Q5 k5 => ⟨rfl, by rw [(k2.ex (e14.trans e5)).isN]; exact k5 _ (Ex.refl _)⟩) fun z => ?_) fun H5 e5 => q' H5 (e14.trans e5)
            rcases he with rfl | ⟨j, rfl, hj, hj6⟩
            · cases z
            · cases k2
              exact ev_op (ev_var rfl) (ev_at (K := K) (i := 2) (ev_var rfl) ha4 rfl) rv_I0
/-! ### the first that applies -/
/-- rules of a style -/
def RowS (β : Nat) (Ds : List PyData) : Prop := 1 ≤ Ds.length ∧ Ds.length ≤ 8 ∧ Ds.all (ruleB β) = true
theorem RowS.at {β : Nat} {Ds : List PyData} (h : RowS β Ds) {i : Nat} {d : PyData} (hd : Ds[i]? = some d) : ∃ cs k, d = .tuple [.tuple cs, k] ∧ cs.length ≤ 3 ∧ (∀ c ∈ cs, CondS β c) ∧ KeepS k := rule_inv (List.all_eq_true.mp h.2.2 d (List.mem_of_getElem? hd))
/-- the conditions and the keep of a rule that lies there -/
theorem Pt.rule {H : Hp} {v k : _} {cs : List PyData} (h : Pt H v (.tuple [.tuple cs, k])) : ∃ a ac ws vk, v = .ref a ∧ H a = some (.tup [.ref ac, vk]) ∧ H ac = some (.tup ws) ∧ PtAll H ws cs ∧ Pt H vk k := by
  obtain ⟨a, us, rfl, ha, ka⟩ := h.tupI'
  cases ka with
  | cons k0 ka =>
    cases ka with
    | cons k1 kz =>
      cases kz
      obtain ⟨ac, ws, rfl, hac, kw⟩ := k0.tupI'
      exact ⟨a, ac, ws, _, rfl, ha, hac, kw, k1⟩
def spFirst : Sp := fun vs H Q _ => ∃ (r t : Addr) (rs : List V) (Ds : List PyData) (β f s : Nat), vs = [.ref r, .ref t] ∧ H r = some (.tup rs) ∧ PtAll H rs Ds ∧ RowS β Ds ∧ H t = some (.tup (fctV β f s)) ∧ RetV (.int (firstD β f s Ds : Int)) H Q
abbrev nFirst : List Str := ["rules", "facts", "last", "number", "condition"]
theorem scFirst : FnScope nFirst ["rules", "facts"] (defScope sFirst) := ⟨rfl, rfl, rfl, by decide +kernel, rfl, by decide +kernel, by decide +kernel⟩
theorem ok_first {f : Addr} {fd fdh : FuncData} (F : Fun K "first_applying" "first_applying" sFirst f fd) (GH : FnOk P w K mg base CX0 1 fho fdh ["condition", "facts"] spHolds) (bH : Binds K fdh ["condition", "facts"] []) (T : TxW K mg fho ffi fma) :
    FnOk P w K mg base CX0 2 f fd ["rules", "facts"] spFirst := by
  refine F.ok scFirst (fun vs H Q E h => ?_) (fun cdv A outer s H vs Q E hr h => ?_)
  · obtain ⟨_, _, _, _, _, _, _, rfl, _⟩ := h
    rfl
  · obtain ⟨r, t, rs, Ds, β, f, s, rfl, hrs, ka, good, ht, q⟩ := h
    refine ⟨_, pss_cons (ps_set (i := 2) scFirst.nd rfl (.inl rfl) (pe_op op_sub (pe_callB call_len_seq (by rfl) T.len (by decide +kernel) (pa_cons (pv 0) pa_nil)) pe_int))
      (pss_cons (ps_for PassesOwn.never rfl (pi_range1 (by rfl) T.range (pa_cons (pv 2) pa_nil)) (pg_name (i := 3) scFirst.nd rfl (.inl rfl))
        (pss_one (ps_if (pt_val (pe_callB (cr_all rfl) (by rfl) T.all (by decide +kernel) (pa_cons (pe_lc (own := [("condition", 4)]) (g := gName 4) (tt := tYes) rfl scFirst.nd (pi_tup (pe_ix ix_tup (pe_ix ix_tup (pv 0) (pv 3) (fun _ _ => rfl)) pe_int (fun _ _ => rfl))) (blkOk_by (own := [("condition", 4)]) (N := nFirst) (sc := defScope sFirst) (by decide +kernel)) (fun _ _ _ _ _ => pg_name (i := 4) scFirst.nd rfl (Or.inl rfl)) (fun _ _ _ _ _ => pts_nil)
            (fun _ _ _ _ _ => pe_call GH hr (by rfl) T.holds T.kHo bH .nil pass0 (pa_cons (pv 4) (pa_cons (pv 1) pa_nil)))) pa_nil))) (pss_one (ps_ret (pv 3))) pss_nil)))
      (pss_one (ps_ret (pv 2)))), ?_⟩
    have hl := ka.length
    have h1 := good.1
    refine q_asg (v := .int ((Ds.length - 1 : Nat) : Int)) (ev_is (ev_op (ev_lenT (K := K) (ev_var rfl) hrs) ev_c rv_I0) (by
      congr 1
      show (rs.length : Int) - 1 = _
      omega)) fun H1 e1 => ?_
    refine q_forR1 (n := ((Ds.length - 1 : Nat) : Int)) (ea_cons (ev_var rfl) ea_nil) (by have := good.2.1; omega) (fun i σ H' => Ex H H' ∧ (∃ x3, σ = [some (.ref r), some (.ref t), some (.int ((Ds.length - 1 : Nat) : Int)), x3, none]) ∧ ∀ j d, j < i → Ds[j]? = some d → appl β f s d = false)
      (fun H2 e2 => ⟨e1.trans e2, ⟨none, rfl⟩, fun j d hj _ => absurd hj (Nat.not_lt_zero j)⟩) (fun i σ H2 hi ⟨e2, ⟨x3, hσ⟩, hne⟩ => ?_) (fun σ H2 ⟨e2, ⟨x3, hσ⟩, hne⟩ => ?_)
    · subst hσ
      have hi2 : i < Ds.length - 1 := by omega
      obtain ⟨d, hd⟩ : ∃ d, Ds[i]? = some d := ⟨_, List.getElem?_eq_getElem (by omega)⟩
      obtain ⟨u, hu, ku⟩ := ka.get hd
      obtain ⟨cs, k, rfl, hc3, hcs, hks⟩ := good.at hd
      obtain ⟨au, ac, ws, vk, rfl, hau, hac, kws, kk⟩ := (ku.ex e2).rule
      have hrs2 := e2 _ _ hrs
      have ht2 := e2 _ _ ht
      have hcl := kws.length
      have eC : Ev (tOp (rIxT K) (tOp (rIxT K) (tVar 0) (tVar 3)) (tC (.int ((0 : Nat) : Int)))) [some (.ref r), some (.ref t), some (.int ((Ds.length - 1 : Nat) : Int)), some (.int (i : Int)), none] H2 (.ref ac) := ev_at (K := K) (i := 0) (ev_op (ev_var rfl) (ev_var rfl) (rv_ixT (st_of hrs2) (atI_nat hu))) hau rfl
      have eL : EvL (tLc (iTup K (tOp (rIxT K) (tOp (rIxT K) (tVar 0) (tVar 3)) (tC (.int ((0 : Nat) : Int))))) (gName 4) tYes (tCall spHolds [] E0 (tCons (tVar 4) (tCons (tVar 1) tNil))) [4]) [some (.ref r), some (.ref t), some (.int ((Ds.length - 1 : Nat) : Int)), some (.int (i : Int)), none] H2 ((cs.map (holdsD β f s)).map V.bl) := by
        rw [List.map_map, ← given_all cs (V.bl ∘ holdsD β f s) .non, ← hcl]
        refine el_lcT (fun _ => true) _ eC (st_of hac) (by omega) (fun _ => rfl) (fun i x H4 e4 hx => fun H5 e5 Q5 q5 => q5 H5 (Ex.refl _)) (fun i x H4 e4 hx _ => ?_)
        obtain ⟨dd, hd', kd'⟩ := kws.get2 hx
        rw [hd']
        exact ev_call (ea_cons (ev_var rfl) (ea_cons (ev_var rfl) ea_nil)) fun H5 e5 Q5 q5 E5 => ⟨x, t, dd, β, f, s, rfl, (kd'.ex e4).ex e5, hcs dd (List.mem_of_getElem? hd'), e5 _ _ (e4 _ _ ht2), fun H6 e6 => q5 H6 e6⟩
      refine s_when (b := appl β f s (.tuple [.tuple cs, k])) (et_B (ev_is (ev_allL eL) (by rw [List.all_map]; rfl))) (fun z H3 e3 => ?_) (fun z H3 e3 => ?_)
      · have hf : firstD β f s Ds = i := by
          unfold firstD
          rw [List.findIdx_eq (by rw [List.length_take]; omega)]
          refine ⟨?_, fun j hj => ?_⟩
          · rw [List.getElem_take]
            rw [List.getElem?_eq_getElem (by omega)] at hd
            injection hd with hd
            rw [hd]
            exact z
          · rw [List.getElem_take]
            exact hne j _ hj (List.getElem?_eq_getElem (by omega))
        rw [hf] at q
        exact ⟨_, rfl, q H3 (e2.trans e3)⟩
      · refine ⟨e2.trans e3, ⟨_, rfl⟩, fun j d' hj hd' => ?_⟩
        rcases Nat.lt_or_ge j i with y | y
        · exact hne j d' y hd'
        · have : j = i := by omega
          subst this
          rw [hd] at hd'
          injection hd' with hd'
          rw [← hd']
          exact z
    · subst hσ
      have hf : firstD β f s Ds = Ds.length - 1 := by
        unfold firstD
        rw [List.findIdx_eq_length.mpr, List.length_take]
        · omega
        · intro x hx
          obtain ⟨j, hj, e⟩ := List.mem_take_iff_getElem.mp hx
          exact hne j x (by omega) (by rw [← e]; exact List.getElem?_eq_getElem (by omega))
      rw [hf] at q
      exact ⟨_, rfl, q H2 e2⟩
/-! ### how many -/
def spMany : Sp := fun vs H Q _ => ∃ (v : V) (t : Addr) (D : PyData) (β f s : Nat), vs = [v, .ref t] ∧ Pt H v D ∧ KeepS D ∧ H t = some (.tup (fctV β f s)) ∧ RetV (.int (keepN β f s D : Int)) H Q
abbrev nMany : List Str := ["keep", "facts", "first_length", "second_length", "change", "gap", "ending"]
theorem scMany : FnScope nMany ["keep", "facts"] (defScope sMany) := ⟨rfl, rfl, rfl, by decide +kernel, rfl, by decide +kernel, by decide +kernel⟩
theorem ok_many {f : Addr} {fd : FuncData} (F : Fun K "many_kept" "many_kept" sMany f fd) (T : TxW K mg fho ffi fma) : FnOk P w K mg base CX0 1 f fd ["keep", "facts"] spMany := by
  refine F.ok scMany (fun vs H Q E h => ?_) (fun cdv A outer s H vs Q E hr h => ?_)
  · obtain ⟨_, _, _, _, _, _, rfl, _⟩ := h
    rfl
  · obtain ⟨v, t, D, β, f, s, rfl, k, hc, ht, q⟩ := h
    refine ⟨_, pss_cons (ps_asg (pv 1) (pg_tup (by rfl) (pgs_cons (pg_name (i := 2) scMany.nd rfl (.inl rfl)) (pgs_cons (pg_name (i := 3) scMany.nd rfl (.inl rfl)) (pgs_cons (pg_name (i := 4) scMany.nd rfl (.inl rfl)) (pgs_cons (pg_name (i := 5) scMany.nd rfl (.inl rfl)) (pgs_cons (pg_name (i := 6) scMany.nd rfl (.inl rfl)) pgs_nil)))))))
      (pss_cons (ps_if (pt_cmpR op_eq (pe_ix ix_tup (pv 0) pe_int (fun _ _ => rfl)) pe_str (nomark _)) (pss_one (ps_ret (pv 3))) pss_nil)
      (pss_cons (ps_if (pt_cmpR op_eq (pe_ix ix_tup (pv 0) pe_int (fun _ _ => rfl)) pe_str (nomark _)) (pss_one (ps_ret (pe_callB (call_min2 (by rfl)) (by rfl) T.min (by decide +kernel) (pa_cons (pe_callB (call_max2 (by rfl)) (by rfl) T.max (by decide +kernel) (pa_cons (pv 4) (pa_cons (pe_ix ix_tup (pv 0) pe_int (fun _ _ => rfl)) pa_nil))) (pa_cons (pv 3) pa_nil))))) pss_nil)
      (pss_one (ps_ret (pe_callB (call_min2 (by rfl)) (by rfl) T.min (by decide +kernel) (pa_cons (pe_ix ix_tup (pv 0) pe_int (fun _ _ => rfl)) (pa_cons (pv 3) pa_nil))))))), ?_⟩
    have k' : ∃ ds, D = .tuple ds := by cases hc <;> exact ⟨_, rfl⟩
    obtain ⟨ds, rfl⟩ := k'
    obtain ⟨a, us, rfl, ha, ka⟩ := k.tupI'
    refine ⟨_, rfl, t, _, rfl, st_of ht, rfl, _, _, rfl, _, _, rfl, _, _, rfl, _, _, rfl, _, _, rfl, rfl, ?_⟩
    have minI : ∀ (x y : Nat), (if (y : Int) < (x : Int) then (y : Int) else (x : Int)) = ((min x y : Nat) : Int) := fun x y => by
      rcases Nat.lt_or_ge y x with z | z
      · rw [if_pos (by omega), Nat.min_eq_right (Nat.le_of_lt z)]
      · rw [if_neg (by omega), Nat.min_eq_left z]
    have maxI : ∀ (x y : Nat), (if (y : Int) > (x : Int) then (y : Int) else (x : Int)) = ((max x y : Nat) : Int) := fun x y => by
      rcases Nat.lt_or_ge x y with z | z
      · rw [if_pos (by omega), Nat.max_eq_right (Nat.le_of_lt z)]
      · rw [if_neg (by omega), Nat.max_eq_left z]
    cases hc with
    | all =>
      obtain ⟨u0, rfl⟩ : ∃ u0, us = [u0] := by
        match us, ka.length with
        | [u0], _ => exact ⟨_, rfl⟩
      cases ka with
      | cons k0 _ =>
        cases k0
        refine q_when (b := true) (et_test (ev_is (ev_op (ev_at (K := K) (i := 0) (ev_var rfl) ha rfl) ev_c (rv_eq rfl)) (by rw [decide_eq_true rfl]))) (fun z H2 e2 => ?_) (fun z => nomatch z)
        exact ⟨_, rfl, q H2 e2⟩
    | size w hw i h1 h6 =>
      obtain ⟨u0, u1, rfl⟩ : ∃ u0 u1, us = [u0, u1] := by
        match us, ka.length with
        | [u0, u1], _ => exact ⟨_, _, rfl⟩
      cases ka with
      | cons k0 ka =>
        cases ka with
        | cons k1 _ =>
          cases k0
          cases k1
          obtain ⟨ι, rfl⟩ : ∃ ι : Nat, i = (ι : Int) := ⟨i.toNat, by omega⟩
          refine q_when (b := false) (et_test (ev_is (ev_op (ev_at (K := K) (i := 0) (ev_var rfl) ha rfl) ev_c (rv_eq rfl)) (by rw [decide_eq_false (fun z => by rcases hw with rfl | rfl <;> exact absurd z (by decide +kernel))]))) (fun z => nomatch z) (fun z H2 e2 => ?_)
          have ha2 := e2 _ _ ha
          refine q_when (b := decide (w = "changed")) (et_test (ev_is (ev_op (ev_at (K := K) (i := 0) (ev_var rfl) ha2 rfl) ev_c (rv_eq rfl)) (by
            congr 1
            exact decide_eq_decide.mpr ⟨fun z => by injection z, fun z => by rw [z]⟩))) (fun z H3 e3 => ?_) (fun z H3 e3 => ?_)
          · have hk : keepN β f s (.tuple [.str w, .int (ι : Int)]) = min (max (chgN β f s) ι) (dl β s).length := by
              show (if w = "changed" then _ else _) = _
              rw [if_pos (of_decide_eq_true z)]
              rfl
            rw [hk] at q
            refine ⟨_, rfl, ev_at (K := K) (i := 1) (ev_var rfl) (e3 _ _ ha2) rfl H3 (Ex.refl H3) _ fun H4 e4 => ⟨_, _, rfl, ?_⟩⟩
            rw [maxI]
            refine ⟨_, rfl, _, _, rfl, ?_⟩
            rw [minI]
            exact q H4 ((e2.trans e3).trans e4)
          · have hk : keepN β f s (.tuple [.str w, .int (ι : Int)]) = min ι (dl β s).length := by
              show (if w = "changed" then _ else _) = _
              rw [if_neg (of_decide_eq_false z)]
              rfl
            rw [hk] at q
            refine ev_at (K := K) (i := 1) (ev_var rfl) (e3 _ _ ha2) rfl H3 (Ex.refl H3) _ fun H4 e4 => ⟨_, rfl, _, _, rfl, ?_⟩
            rw [minI]
            exact q H4 ((e2.trans e3).trans e4)
/-! ### both -/
def spWritten : Sp := fun vs H Q _ => ∃ (r t : Addr) (rs : List V) (Ds : List PyData) (β f s : Nat), vs = [.ref r, .ref t] ∧ H r = some (.tup rs) ∧ PtAll H rs Ds ∧ RowS β Ds ∧ H t = some (.tup (fctV β f s)) ∧ ∀ p H', Ex H H' → H' p = some (.tup [.int (firstD β f s Ds : Int), .int (keptD β f s Ds : Int)]) → Q (.ref p) H'
theorem scWritten : FnScope ["rules", "facts", "number"] ["rules", "facts"] (defScope sWritten) := ⟨rfl, rfl, rfl, by decide +kernel, rfl, by decide +kernel, by decide +kernel⟩
theorem ok_written {f : Addr} {fd fd1 fd2 : FuncData} (F : Fun K "written" "written" sWritten f fd) (G1 : FnOk P w K mg base CX0 2 ffi fd1 ["rules", "facts"] spFirst) (b1 : Binds K fd1 ["rules", "facts"] []) (G2 : FnOk P w K mg base CX0 2 fma fd2 ["keep", "facts"] spMany) (b2 : Binds K fd2 ["keep", "facts"] []) (T : TxW K mg fho ffi fma) :
    FnOk P w K mg base CX0 3 f fd ["rules", "facts"] spWritten := by
  refine F.ok scWritten (fun vs H Q E h => ?_) (fun cdv A outer s H vs Q E hr h => ?_)
  · obtain ⟨_, _, _, _, _, _, _, rfl, _⟩ := h
    rfl
  · obtain ⟨r, t, rs, Ds, β, f, s, rfl, hrs, ka, good, ht, q⟩ := h
    refine ⟨_, pss_cons (ps_set (i := 2) scWritten.nd rfl (.inl rfl) (pe_call G1 hr (by rfl) T.first T.kFi b1 .nil pass0 (pa_cons (pv 0) (pa_cons (pv 1) pa_nil))))
      (pss_one (ps_ret (pe_tup (pa_cons (pv 2) (pa_cons (pe_call G2 hr (by rfl) T.many T.kMa b2 .nil pass0 (pa_cons (pe_ix ix_tup (pe_ix ix_tup (pv 0) (pv 2) (fun _ _ => rfl)) pe_int (fun _ _ => rfl)) (pa_cons (pv 1) pa_nil))) pa_nil))))), ?_⟩
    have hlt := firstD_lt (β := β) (f := f) (s := s) good.1
    obtain ⟨d, hd⟩ : ∃ d, Ds[firstD β f s Ds]? = some d := ⟨_, List.getElem?_eq_getElem hlt⟩
    obtain ⟨u, hu, ku⟩ := ka.get hd
    obtain ⟨cs, k, rfl, hc3, hcs, hks⟩ := good.at hd
    obtain ⟨au, ac, ws, vk, rfl, hau, hac, kws, kk⟩ := ku.rule
    have hk : keptD β f s Ds = keepN β f s k := by
      unfold keptD
      rw [List.getD_eq_getElem?_getD, hd]
      rfl
    rw [hk] at q
    refine q_asg (v := .int (firstD β f s Ds : Int)) (ev_call (ea_cons (ev_var rfl) (ea_cons (ev_var rfl) ea_nil)) fun H1 e1 Q1 q1 E1 => ⟨r, t, rs, Ds, β, f, s, rfl, e1 _ _ hrs, ka.ex e1, good, e1 _ _ ht, fun H2 e2 => q1 H2 e2⟩) fun H1 e1 => ?_
    refine s_tup (vs := [.int (firstD β f s Ds : Int), .int (keepN β f s k : Int)]) (ea_cons (ev_var rfl) (ea_cons ?_ ea_nil)) (by show (2:Nat) ≤ sizeLine; rw [sizeLine_eq]; omega) fun p H4 e4 np hp => q p H4 (e1.trans e4) hp
    exact ev_call (ea_cons (ev_at (K := K) (i := 1) (ev_op (ev_var rfl) (ev_var rfl) (rv_ixT (st_of (e1 _ _ hrs)) (atI_nat hu))) (e1 _ _ hau) rfl) (ea_cons (ev_var rfl) ea_nil)) fun H2 e2 Q2 q2 E2 => ⟨vk, t, k, β, f, s, rfl, kk.ex (e1.trans e2), hks, (e1.trans e2) _ _ ht, fun H3 e3 => q2 H3 e3⟩
end
end Dt

/-! k06: a style's own methods. -/
namespace Dt
open PySem L2 Evl Dg LamR LamX StX ClX TL
open Dr (StAt SameB)
abbrev sKeptOf : Stmt := inClass clStyle 5
abbrev sTailOf : Stmt := inClass clStyle 6
abbrev sCallOf : Stmt := inClass clStyle 7
theorem lk_rules (b r : V) : ([(("stored_base" : Str), b), ("stored_rules", r)]).lookup ("stored_rules" : Str) = some r := by
  have h : (("stored_rules" : Str) == "stored_base") = false := by decide +kernel
  simp [List.lookup, h]
theorem lk_base (b r : V) : ([(("stored_base" : Str), b), ("stored_rules", r)]).lookup ("stored_base" : Str) = some b := by simp [List.lookup]
theorem lk_none {m : Str} (b r : V) (h1 : (m == "stored_base") = false) (h2 : (m == "stored_rules") = false) : ([(("stored_base" : Str), b), ("stored_rules", r)]).lookup m = none := by simp [List.lookup, h1, h2]
noncomputable def tailD (β f s : Nat) (Ds : List PyData) : Str := cutS (digs β s) (some (-(keptD β f s Ds : Int))) none
noncomputable def formD (β f s : Nat) (Ds : List PyData) : Str := (digs β f ++ "-") ++ tailD β f s Ds
structure TxM (K : PySem.W.Frag) (mg : Str → Option Value) (fwr ffa fdg C : Addr) : Prop where
  written : mg "written" = some (.ref fwr)
  kWr : PySem.W.keepIn K (.ref fwr) = true
  facts : mg "facts_of" = some (.ref ffa)
  kFa : PySem.W.keepIn K (.ref ffa) = true
  digits : mg "digits" = some (.ref fdg)
  kDg : PySem.W.keepIn K (.ref fdg) = true
  cl : Cls K C
  nB : NoAttr K C "stored_base"
  nR : NoAttr K C "stored_rules"
section
variable {P : Program} {w : World} {K : PySem.W.Frag} {mg : Str → Option Value} {base : Heap} {ca : Nat → Addr} {fwr ffa fdg C : Addr}
/-- a style's method of a range -/
def spM (K : PySem.W.Frag) (C : Addr) (ca : Nat → Addr) (G : Nat → Nat → Nat → List PyData → V) : Sp := fun vs H Q E => ∃ (x : Addr) (β : Nat) (Ds : List PyData) (v u : V) (b c : Bool), vs = [.ref x, v, u] ∧ StyAt H C x β Ds ∧ 2 ≤ β ∧ β ≤ 10 ∧ RowS β Ds ∧ Nm K H v b ∧ Nm K H u c ∧ RngQ ca v u b c H E fun f s => RetV (G β f s Ds) H Q
theorem spM_len {G : Nat → Nat → Nat → List PyData → V} {vs : List V} {H : Hp} {Q : VK} {E : XK} (h : spM K C ca G vs H Q E) : vs.length = 3 := by
  obtain ⟨_, _, _, _, _, _, _, rfl, _⟩ := h
  rfl
theorem ev_rulesF {σ : St} {H : Hp} {x dx t : Addr} {b : V} (cl : Cls K C) (n : NoAttr K C "stored_rules") (h0 : σ[0]? = some (some (.ref x))) (hx : H x = some (.ins C dx [("stored_base", b), ("stored_rules", .ref t)])) : Ev (tFld K (tVar 0) "stored_rules") σ H (.ref t) := fun H1 e Q q =>
  ⟨_, h0, x, C, dx, _, .ref t, rfl, e _ _ hx, cl, n, lk_rules _ _, q H1 (Ex.refl H1)⟩
theorem ev_baseF {σ : St} {H : Hp} {x dx : Addr} {b r : V} (cl : Cls K C) (n : NoAttr K C "stored_base") (h0 : σ[0]? = some (some (.ref x))) (hx : H x = some (.ins C dx [("stored_base", b), ("stored_rules", r)])) : Ev (tFld K (tVar 0) "stored_base") σ H b := fun H1 e Q q =>
  ⟨_, h0, x, C, dx, _, b, rfl, e _ _ hx, cl, n, lk_base _ _, q H1 (Ex.refl H1)⟩
theorem scKeptOf : FnScope ["self", "first", "second"] ["self", "first", "second"] (defScope sKeptOf) := ⟨rfl, rfl, rfl, by decide +kernel, rfl, by decide +kernel, by decide +kernel⟩
theorem scTailOf : FnScope ["self", "first", "second", "many"] ["self", "first", "second"] (defScope sTailOf) := ⟨rfl, rfl, rfl, by decide +kernel, rfl, by decide +kernel, by decide +kernel⟩
theorem scCallOf : FnScope ["self", "first", "second", "behind"] ["self", "first", "second"] (defScope sCallOf) := ⟨rfl, rfl, rfl, by decide +kernel, rfl, by decide +kernel, by decide +kernel⟩
theorem ok_keptOf {f : Addr} {fd fd1 fd2 : FuncData} (F : Fun K "kept" "Style.kept" sKeptOf f fd) (GW : FnOk P w K mg base CX0 6 fwr fd1 ["rules", "facts"] spWritten) (bW : Binds K fd1 ["rules", "facts"] [])
    (GF : FnOk P w K mg base (L2.CX P w) 6 ffa fd2 ["base", "first", "second"] (spFacts K ca)) (bF : Binds K fd2 ["base", "first", "second"] []) (T : TxM K mg fwr ffa fdg C) : FnOk P w K mg base (L2.CX P w) 7 f fd ["self", "first", "second"] (spM K C ca fun β f s Ds => .int (keptD β f s Ds : Int)) := by
  refine F.okX scKeptOf (fun vs H Q E h => spM_len h) (fun cdv A outer s H vs Q E hr h => ?_)
  obtain ⟨x, β, Ds, v, u, b, c, rfl, ⟨dx, tr, hx, kr⟩, b2, b10, good, kb, kc, R⟩ := h
  obtain ⟨tr', rs, e, hrs, ka⟩ := kr.tupI'
  cases e
  refine ⟨_, pss_one (ps_ret (pe_ix ix_tup (pe_call GW hr (by rfl) T.written T.kWr bW .nil pass0 (pa_cons (pe_fld (pv 0) rfl) (pa_cons (pe_callS GF hr (by rfl) T.facts T.kFa bF (fun σ => passAt (takes_of rfl rfl rfl rfl) σ) (pa_cons (pe_fld (pv 0) rfl) (pa_cons (pv 1) (pa_cons (pv 2) pa_nil)))) pa_nil))) pe_int (fun _ _ => rfl))), ?_⟩
  refine ⟨_, rfl, x, C, dx, _, .ref tr, rfl, hx, T.cl, T.nR, lk_rules _ _, _, rfl, x, C, dx, _, .int β, rfl, hx, T.cl, T.nB, lk_base _ _, _, rfl, _, rfl, β, v, u, b, c, rfl, b2, b10, kb, kc, R.map (Ex.refl H) fun f s hv hu f1 hfs s2 g t H3 e3 ht => ?_⟩
  have e13 := e3
  exact ⟨tr, t, rs, Ds, β, f, s, rfl, e13 _ _ hrs, ka.ex e13, good, ht, fun p H4 e4 hp => ⟨p, _, _, _, rfl, rfl, st_of hp, atI_nat (j := 1) rfl, g H4 (e13.trans e4)⟩⟩
theorem ok_tailOf {f fk : Addr} {fd fd1 fd2 : FuncData} (F : Fun K "tail" "Style.tail" sTailOf f fd) (mK : Meth K C "kept" fk) (GK : FnOk P w K mg base (L2.CX P w) 7 fk fd1 ["self", "first", "second"] (spM K C ca fun β f s Ds => .int (keptD β f s Ds : Int))) (bK : Binds K fd1 ["self", "first", "second"] [])
    (GD : FnOk P w K mg base (L2.CX P w) 7 fdg fd2 ["base", "number"] (spDigits K ca)) (bD : Binds K fd2 ["base", "number"] []) (T : TxM K mg fwr ffa fdg C) : FnOk P w K mg base (L2.CX P w) 8 f fd ["self", "first", "second"] (spM K C ca fun β f s Ds => .str (tailD β f s Ds)) := by
  refine F.okX scTailOf (fun vs H Q E h => spM_len h) (fun cdv A outer s H vs Q E hr h => ?_)
  obtain ⟨x, β, Ds, v, u, b, c, rfl, ⟨dx, tr, hx, kr⟩, b2, b10, good, kb, kc, R⟩ := h
  refine ⟨_, pss_cons (ps_set (i := 3) scTailOf.nd rfl (.inl rfl) (pe_meth (pv 0) T.cl mK GK hr bK .nil (fun pins s H st e s' I c => passAt (takes_of rfl rfl rfl rfl) s pins H st e s' I c) (pa_cons (pv 1) (pa_cons (pv 2) pa_nil))))
    (pss_one (ps_ret (pe_slice sl_str (pe_callS GD hr (by rfl) T.digits T.kDg bD (fun σ => passAt (takes_of rfl rfl rfl rfl) σ) (pa_cons (pe_fld (pv 0) rfl) (pa_cons (pv 2) pa_nil))) (po_some (pe_un un_neg (pv 3))) po_none))), ?_⟩
  refine ⟨_, rfl, x, dx, _, rfl, hx, lk_none _ _ (by decide +kernel) (by decide +kernel), _, rfl, _, rfl, x, β, Ds, v, u, b, c, rfl, ⟨dx, tr, hx, kr⟩, b2, b10, good, kb, kc, R.map (Ex.refl H) fun f s hv hu f1 hfs s2 g H1 e1 => ?_⟩
  subst hv hu
  have ls : (digs β s).length ≤ 100000 := Nat.le_trans (digs_le (n := s) b2 s2) (by decide)
  exact s_ret (ev_cutS (ev_digP b2 b10 (Nat.le_of_lt (Nat.lt_of_le_of_lt f1 hfs)) s2 (ev_baseF T.cl T.nB rfl (e1 _ _ hx)) (ev_var rfl)) (eo_some (ev_un (ev_var rfl) ru_neg)) eo_none ls) fun H2 e2 => g H2 (e1.trans e2)
theorem len_append (x y : Str) : (x ++ y).length = x.length + y.length := by
  rw [len_t, len_t, len_t, tl_append, List.length_append]
theorem cut_len (x : Str) (lo hi : Option Int) : (cutS x lo hi).length ≤ x.length := by
  rw [len_t (cutS x lo hi)]
  show (((x.cps.toList.drop _).take _).toArray).toList.length ≤ x.cps.size
  rw [List.length_take, List.length_drop, Array.length_toList]
  omega
theorem ok_callOf {f ft : Addr} {fd fd1 fd2 : FuncData} (F : Fun K "__call__" "Style.__call__" sCallOf f fd) (mT : Meth K C "tail" ft) (GT : FnOk P w K mg base (L2.CX P w) 8 ft fd1 ["self", "first", "second"] (spM K C ca fun β f s Ds => .str (tailD β f s Ds))) (bT : Binds K fd1 ["self", "first", "second"] [])
    (GD : FnOk P w K mg base (L2.CX P w) 8 fdg fd2 ["base", "number"] (spDigits K ca)) (bD : Binds K fd2 ["base", "number"] []) (T : TxM K mg fwr ffa fdg C) : FnOk P w K mg base (L2.CX P w) 9 f fd ["self", "first", "second"] (spM K C ca fun β f s Ds => .str (formD β f s Ds)) := by
  refine F.okX scCallOf (fun vs H Q E h => spM_len h) (fun cdv A outer s H vs Q E hr h => ?_)
  obtain ⟨x, β, Ds, v, u, b, c, rfl, ⟨dx, tr, hx, kr⟩, b2, b10, good, kb, kc, R⟩ := h
  refine ⟨_, pss_cons (ps_set (i := 3) scCallOf.nd rfl (.inl rfl) (pe_meth (pv 0) T.cl mT GT hr bT .nil (fun pins s H st e s' I c => passAt (takes_of rfl rfl rfl rfl) s pins H st e s' I c) (pa_cons (pv 1) (pa_cons (pv 2) pa_nil))))
    (pss_one (ps_ret (pe_op op_add_str (pe_op op_add_str (pe_callS GD hr (by rfl) T.digits T.kDg bD (fun σ => passAt (takes_of rfl rfl rfl rfl) σ) (pa_cons (pe_fld (pv 0) rfl) (pa_cons (pv 1) pa_nil))) pe_str) (pv 3)))), ?_⟩
  refine ⟨_, rfl, x, dx, _, rfl, hx, lk_none _ _ (by decide +kernel) (by decide +kernel), _, rfl, _, rfl, x, β, Ds, v, u, b, c, rfl, ⟨dx, tr, hx, kr⟩, b2, b10, good, kb, kc, R.map (Ex.refl H) fun f s hv hu f1 hfs s2 g H1 e1 => ?_⟩
  subst hv hu
  have lf : (digs β f).length ≤ 50000 := digs_le (n := f) b2 (Nat.lt_trans hfs s2)
  have ls : (tailD β f s Ds).length ≤ 50000 := Nat.le_trans (cut_len _ _ _) (digs_le (n := s) b2 s2)
  have one : ("-" : Str).length = 1 := by decide
  have f2 := Nat.lt_trans hfs s2
  clear R
  refine ev_digP b2 b10 f1 f2 (ev_baseF T.cl T.nB rfl (e1 _ _ hx)) (ev_var rfl) H1 (Ex.refl H1) _ fun H2 e2 => ⟨_, _, rfl, rfl, ?_, _, rfl, _, _, rfl, rfl, ?_, g H2 (e1.trans e2)⟩
  · clear f2 s2
    rw [sizeLine_eq, one]
    omega
  · clear f2 s2
    show (digs β f ++ "-").length + (tailD β f s Ds).length ≤ sizeLine
    rw [sizeLine_eq, len_append, one]
    omega
end
end Dt

/-! k03: the ranges that the law draws. -/
namespace Dg
open PySem L2 Evl TL
open Dr (StAt SameB spDraw TxO)
theorem SameB.trans {H H1 H2 : Hp} {p l : Addr} (a : SameB H H1 p l) (b : SameB H1 H2 p l) : SameB H H2 p l := fun x o e n1 n2 => b x o (a x o e n1 n2) n1 n2
theorem SameB.of {H H1 : Hp} {p l : Addr} (a : Ex H H1) : SameB H H1 p l := fun x o e _ _ => a x o e
theorem log2_lt9 {x : Nat} (h : x < 2 ^ 900) : x.log2 < 900 := by
  rcases Nat.eq_zero_or_pos x with z | z
  · subst z
    decide
  · exact (Nat.log2_lt (by omega)).mpr h
section
variable {P : Program} {w : World} {K : PySem.W.Frag} {mg : Str → Option Value} {base : Heap} {fm fdr fld flp : Addr}
def spLRange : Sp := fun vs H Q _ => ∃ (p c l : Addr) (n : Nat) (a : Int) (β many : Nat), vs = [.ref p, .int β, .int many] ∧ StAt H p c l n a ∧ l ≠ c ∧ a + 1000 < 2 ^ 39 ∧ 2 ≤ β ∧ β ≤ 10 ∧ 1 ≤ many ∧ many ≤ 200 ∧
  ∀ (t : Addr) (F S : Nat) (H' : Hp) (a' : Int), 1 ≤ F → F < S → S < 2 ^ 900 → S < β ^ (many + 12) → a ≤ a' → a' ≤ a + 405 → StAt H' p c l n a' → SameB H H' p l → H' t = some (.tup [.int F, .int S]) → (t ≠ p ∧ t ≠ l) → Q (.ref t) H'
abbrev nLRange : List Str := ["state", "base", "many", "first", "k", "size", "more", "way"]
theorem StAt.off {H : Hp} {p c l : Addr} {n : Nat} {a : Int} (S : StAt H p c l n a) {x : Addr} (h : H x = none) : x ≠ p ∧ x ≠ l := by
  obtain ⟨ls, hl, _⟩ := S.l
  exact ⟨(ne_of_none S.d h).symm, (ne_of_none hl h).symm⟩
end
end Dg

/-! k06: the law's own reading of the rules. -/
namespace Dg
open PySem L2 Evl TL
theorem tl_cutN (x : Str) {k : Nat} (h : 1 ≤ k) : tl (cutS x (some (-(k : Int))) none) = (tl x).drop ((tl x).length - k) := by
  show (((x.cps.toList.drop (HT.sIx x.length 0 (some (-(k : Int))))).take (HT.sIx x.length x.length none - HT.sIx x.length 0 (some (-(k : Int))))).toArray).toList = _
  have e1 : HT.sIx x.length 0 (some (-(k : Int))) = x.length - k := by
    show (if (-(k : Int)) < 0 then ((-(k : Int)) + (x.length : Int)).toNat else min (-(k : Int)).toNat x.length) = _
    rw [if_pos (by omega)]
    omega
  have hl : x.length = (tl x).length := len_t x
  rw [HT.sIx_none, e1]
  show (((tl x).drop (x.length - k)).take (x.length - (x.length - k))) = _
  rw [hl, List.take_of_length_le (by rw [List.length_drop]; omega)]
theorem tl_cutP (x : Str) (k : Nat) : tl (cutS x (some (k : Int)) none) = (tl x).drop k := by
  show (((x.cps.toList.drop (HT.sIx x.length 0 (some (k : Int)))).take (HT.sIx x.length x.length none - HT.sIx x.length 0 (some (k : Int)))).toArray).toList = _
  have hl : x.length = (tl x).length := len_t x
  rw [HT.sIx_none, HT.sIx_nat]
  show (((tl x).drop (min k x.length)).take (x.length - min k x.length)) = _
  rw [hl, List.take_of_length_le (by rw [List.length_drop]; omega)]
  rcases Nat.le_total k (tl x).length with z | z
  · rw [Nat.min_eq_left z]
  · rw [Nat.min_eq_right z, List.drop_of_length_le (Nat.le_refl _), List.drop_of_length_le z]
theorem ends_eq (t x : Str) (h1 : 1 ≤ x.length) (h2 : x.length ≤ 2) : Txt.endswith (cutS t (some (-2)) none) x = decide (cutS t (some (-(x.length : Int))) none = x) := by
  obtain ⟨e, he⟩ : ∃ e, e = cutS t (some (-2)) none := ⟨_, rfl⟩
  have te : tl e = (tl t).drop ((tl t).length - 2) := by
    rw [he]
    exact tl_cutN t (k := 2) (by decide)
  have le : e.length = (tl e).length := len_t e
  have lx : x.length = (tl x).length := len_t x
  have l2 : (tl e).length = min 2 (tl t).length := by
    rw [te, List.length_drop]
    omega
  rw [← he]
  have tc := tl_cutN t (k := x.length) h1
  have sub : Builtin.Str.subAt e x (e.length - x.length) = decide (((tl e).drop (e.length - x.length)).take x.length = tl x) := by
    show (e.cps.extract (e.length - x.length) (e.length - x.length + x.length) == x.cps) = _
    have h3 : (e.cps.extract (e.length - x.length) (e.length - x.length + x.length)).toList = ((tl e).drop (e.length - x.length)).take x.length := by
      rw [Array.toList_extract]
      show ((tl e).drop _).take _ = _
      rw [Nat.add_sub_cancel_left]
    by_cases hh : e.cps.extract (e.length - x.length) (e.length - x.length + x.length) = x.cps
    · rw [hh, decide_eq_true (by rw [← h3, hh])]
      exact beq_self_eq_true _
    · rw [decide_eq_false (fun z => hh (Array.toList_inj.mp (by rw [h3, z])))]
      exact beq_eq_false_iff_ne.mpr hh
  unfold Txt.endswith
  rw [sub]
  by_cases hle : x.length ≤ e.length
  · rw [decide_eq_true (by omega), Bool.true_and]
    refine decide_eq_decide.mpr ?_
    have e3 : ((tl e).drop (e.length - x.length)).take x.length = (tl t).drop ((tl t).length - x.length) := by
      rw [List.take_of_length_le (by rw [List.length_drop]; omega), te, List.drop_drop]
      congr 1
      omega
    rw [e3, ← tc]
    exact ⟨fun z => str_ext z, fun z => by rw [z]⟩
  · rw [decide_eq_false (by omega), Bool.false_and]
    refine (decide_eq_false fun z => ?_).symm
    have := congrArg tl z
    rw [tc] at this
    have := congrArg List.length this
    rw [List.length_drop] at this
    omega
end Dg
namespace Dt
open PySem L2 Evl Dg LamR LamX StX ClX TL
open Dr (StAt SameB)
theorem keptD_in {β f s : Nat} {Ds : List PyData} (good : RowS β Ds) (b2 : 2 ≤ β) (s1 : 1 ≤ s) : 1 ≤ keptD β f s Ds ∧ keptD β f s Ds ≤ (dl β s).length := by
  have hl : 1 ≤ (dl β s).length := by
    rw [dl_step b2 s1, List.length_cons]
    omega
  obtain ⟨d, hd⟩ : ∃ d, Ds[firstD β f s Ds]? = some d := ⟨_, List.getElem?_eq_getElem (firstD_lt good.1)⟩
  obtain ⟨cs, k, rfl, hc3, hcs, hks⟩ := good.at hd
  have hk : keptD β f s Ds = keepN β f s k := by
    unfold keptD
    rw [List.getD_eq_getElem?_getD, hd]
    rfl
  rw [hk]
  cases hks with
  | all => exact ⟨hl, Nat.le_refl _⟩
  | size w hw i h1 h6 =>
    show 1 ≤ (if w = "changed" then min (max (chgN β f s) i.toNat) (dl β s).length else min i.toNat (dl β s).length) ∧ (if w = "changed" then min (max (chgN β f s) i.toNat) (dl β s).length else min i.toNat (dl β s).length) ≤ _
    by_cases z : w = "changed"
    · rw [if_pos z]
      omega
    · rw [if_neg z]
      omega
theorem tailD_eq {β f s : Nat} {Ds : List PyData} (good : RowS β Ds) (b2 : 2 ≤ β) (s1 : 1 ≤ s) : cutS (digs β s) (some (((digs β s).length : Int) - (keptD β f s Ds : Int))) none = tailD β f s Ds := by
  obtain ⟨h1, h2⟩ := keptD_in (f := f) good b2 s1
  rw [← digs_len] at h2
  refine str_ext ?_
  unfold tailD
  rw [tl_cutN _ h1, show ((digs β s).length : Int) - (keptD β f s Ds : Int) = (((digs β s).length - keptD β f s Ds : Nat) : Int) by omega, tl_cutP, ← len_t]
theorem tailD_len {β f s : Nat} {Ds : List PyData} (good : RowS β Ds) (b2 : 2 ≤ β) (s1 : 1 ≤ s) : (tailD β f s Ds).length = keptD β f s Ds := by
  obtain ⟨h1, h2⟩ := keptD_in (f := f) good b2 s1
  rw [← digs_len] at h2
  have e : tl (tailD β f s Ds) = (tl (digs β s)).drop ((tl (digs β s)).length - keptD β f s Ds) := tl_cutN _ h1
  rw [len_t, e, List.length_drop, ← len_t]
  omega
abbrev sLHolds : Stmt := top 65
abbrev sLRule : Stmt := top 66
abbrev sLKeptBy : Stmt := top 67
structure TxZ (K : PySem.W.Frag) (mg : Str → Option Value) (fld flp flc flh flr flb flk : Addr) : Prop extends TxH K mg fld flp where
  chg : mg "_law_changed" = some (.ref flc)
  kLc : PySem.W.keepIn K (.ref flc) = true
  lholds : mg "_law_holds" = some (.ref flh)
  kLh : PySem.W.keepIn K (.ref flh) = true
  lrule : mg "_law_rule" = some (.ref flr)
  kLr : PySem.W.keepIn K (.ref flr) = true
  lkeptBy : mg "_law_kept_by" = some (.ref flb)
  kLb : PySem.W.keepIn K (.ref flb) = true
  min : mg "min" = none
  max : mg "max" = none
/-- a range in a base -/
structure RgN (β f s : Nat) : Prop where
  b2 : 2 ≤ β
  b10 : β ≤ 10
  f1 : 1 ≤ f
  lt : f < s
  s2 : s < 2 ^ 50000
theorem RgN.s1 {β f s : Nat} (r : RgN β f s) : 1 ≤ s := Nat.le_of_lt (Nat.lt_of_le_of_lt r.f1 r.lt)
theorem RgN.f2 {β f s : Nat} (r : RgN β f s) : f < 2 ^ 50000 := Nat.lt_trans r.lt r.s2
theorem RgN.lf {β f s : Nat} (r : RgN β f s) : (digs β f).length ≤ 50000 := digs_le r.b2 r.f2
theorem RgN.ls {β f s : Nat} (r : RgN β f s) : (digs β s).length ≤ 50000 := digs_le r.b2 r.s2
section
variable {P : Program} {w : World} {K : PySem.W.Frag} {mg : Str → Option Value} {base : Heap} {ca : Nat → Addr} {fld flp flc flh flr flb flk : Addr}
theorem ev_chgL {σ : St} {H : Hp} {t0 t1 t2 : TE} {E : XK} {β f s : Nat} (r : RgN β f s) (h0 : Ev t0 σ H (.int β)) (h1 : Ev t1 σ H (.int f)) (h2 : Ev t2 σ H (.int s)) : Ev (tCall spLChg [] E (tCons t0 (tCons t1 (tCons t2 tNil)))) σ H (.int (chgN β f s : Int)) :=
  ev_call (ea_cons h0 (ea_cons h1 (ea_cons h2 ea_nil))) fun H1 e Q q E => ⟨β, f, s, rfl, r.b2, r.b10, r.lt, r.s2, fun m hm H2 e2 => by
    rw [← chgN_eq hm]
    exact q H2 e2⟩
def spLHolds : Sp := fun vs H Q _ => ∃ (v : V) (D : PyData) (β f s : Nat), vs = [.int β, v, .int f, .int s] ∧ RgN β f s ∧ Pt H v D ∧ CondS β D ∧ RetV (.bl (holdsD β f s D)) H Q
abbrev nLHolds : List Str := ["base", "condition", "first", "second", "text", "size"]
theorem scLHolds : FnScope nLHolds ["base", "condition", "first", "second"] (defScope sLHolds) := ⟨rfl, rfl, rfl, by decide +kernel, rfl, by decide +kernel, by decide +kernel⟩
theorem ok_lholds {f : Addr} {fd fd1 fd2 fd3 : FuncData} (F : Fun K "_law_holds" "_law_holds" sLHolds f fd) (GD : FnOk P w K mg base CX0 2 fld fd1 ["base", "number"] spLDigits) (bD : Binds K fd1 ["base", "number"] []) (GP : FnOk P w K mg base CX0 2 flp fd2 ["base", "many"] spLPower) (bP : Binds K fd2 ["base", "many"] [])
    (GC : FnOk P w K mg base CX0 2 flc fd3 ["base", "first", "second"] spLChg) (bC : Binds K fd3 ["base", "first", "second"] []) (T : TxZ K mg fld flp flc flh flr flb flk) : FnOk P w K mg base CX0 3 f fd ["base", "condition", "first", "second"] spLHolds := by
  refine F.ok scLHolds (fun vs H Q E h => ?_) (fun cdv A outer s H vs Q E hr h => ?_)
  · obtain ⟨_, _, _, _, _, rfl, _⟩ := h
    rfl
  · obtain ⟨v, D, β, f, s, rfl, r, k, hc, q⟩ := h
    refine ⟨_, pss_cons (ps_set (i := 4) scLHolds.nd rfl (.inl rfl) (pe_call GD hr (by rfl) T.ldig T.kLd bD .nil pass0 (pa_cons (pv 0) (pa_cons (pv 2) pa_nil))))
      (pss_cons (ps_if (pt_cmpR op_eq (pe_ix ix_tup (pv 1) pe_int (fun _ _ => rfl)) pe_str (nomark _)) (pss_one (ps_ret (pe_cmpR op_eq (pe_slice sl_str (pv 4) (po_some (pe_un un_neg (pe_callB call_len_str (by rfl) T.len (by decide +kernel) (pa_cons (pe_ix ix_tup (pv 1) pe_int (fun _ _ => rfl)) pa_nil)))) po_none) (pe_ix ix_tup (pv 1) pe_int (fun _ _ => rfl)) (nomark _)))) pss_nil)
      (pss_cons (ps_if (pt_cmpR op_eq (pe_ix ix_tup (pv 1) pe_int (fun _ _ => rfl)) pe_str (nomark _)) (pss_one (ps_ret (pe_cmpR op_le (pe_op op_sub (pv 3) (pv 2)) (pe_call GP hr (by rfl) T.lpow T.kLp bP .nil pass0 (pa_cons (pv 0) (pa_cons (pe_ix ix_tup (pv 1) pe_int (fun _ _ => rfl)) pa_nil))) (nomark _)))) pss_nil)
      (pss_cons (ps_set (i := 5) scLHolds.nd rfl (.inl rfl) (pe_ifExp (pt_cmpR op_eq (pe_ix ix_tup (pv 1) pe_int (fun _ _ => rfl)) pe_str (nomark _)) (pe_callB call_len_str (by rfl) T.len (by decide +kernel) (pa_cons (pv 4) pa_nil)) (pe_call GC hr (by rfl) T.chg T.kLc bC .nil pass0 (pa_cons (pv 0) (pa_cons (pv 2) (pa_cons (pv 3) pa_nil))))))
      (pss_one (ps_ret (pe_and (pe_cmpR op_ge (pv 5) (pe_ix ix_tup (pv 1) pe_int (fun _ _ => rfl)) (nomark _)) (pe_one (pe_or (pe_cmpR op_isN (pe_ix ix_tup (pv 1) pe_int (fun _ _ => rfl)) pe_non (nomark _)) (pe_one (pe_cmpR op_le (pv 5) (pe_ix ix_tup (pv 1) pe_int (fun _ _ => rfl)) (nomark _))))))))))), ?_⟩
    have k' : ∃ ds, D = .tuple ds := by cases hc <;> exact ⟨_, rfl⟩
    obtain ⟨ds, rfl⟩ := k'
    obtain ⟨a, us, rfl, ha0, ka0⟩ := k.tupI'
    have lf : (digs β f).length ≤ 100000 := Nat.le_trans r.lf (by decide)
    refine q_asg (ev_digL (ev_var rfl) (ev_var rfl) r.b2 r.b10 r.f2) fun H1 e1 => ?_
    have ha := e1 _ _ ha0
    have ka := ka0.ex e1
    cases hc with
    | ends x hx =>
      obtain ⟨u0, u1, rfl⟩ : ∃ u0 u1, us = [u0, u1] := by
        match us, ka0.length with
        | [u0, u1], _ => exact ⟨_, _, rfl⟩
      cases ka with
      | cons k0 ka =>
        cases ka with
        | cons k1 _ =>
          cases k0
          cases k1
          have hx2 : 1 ≤ x.length ∧ x.length ≤ 2 := by
            unfold isFigs at hx
            rw [Bool.and_eq_true, Bool.and_eq_true] at hx
            exact ⟨of_decide_eq_true hx.1.1, of_decide_eq_true hx.1.2⟩
          refine q_when (b := true) (et_test (ev_is (ev_op (ev_at (K := K) (i := 0) (ev_var rfl) ha rfl) ev_c (rv_eq rfl)) (by rw [decide_eq_true rfl]))) (fun z H2 e2 => ?_) (fun z => nomatch z)
          have ha2 := e2 _ _ ha
          have q' : RetV (.bl (decide (V.str (cutS (digs β f) (some (-(x.length : Int))) none) = V.str x))) H Q := by
            have e : holdsD β f s (.tuple [.str "ends", .str x]) = decide (V.str (cutS (digs β f) (some (-(x.length : Int))) none) = V.str x) := by
              show Txt.endswith (enD β f) x = _
              unfold enD
              rw [ends_eq _ _ hx2.1 hx2.2]
              exact decide_eq_decide.mpr ⟨fun z => by rw [z], fun z => by injection z⟩
            rw [← e]
            exact q
          exact s_ret (ev_op (ev_cutS (ev_var rfl) (eo_some (ev_un (ev_lenX (K := K) (ev_at (K := K) (i := 1) (ev_var rfl) ha2 rfl) (Nat.le_trans hx2.2 (by decide))) ru_neg)) eo_none lf) (ev_at (K := K) (i := 1) (ev_var rfl) ha2 rfl) (rv_eq rfl)) fun H3 e3 => q' H3 ((e1.trans e2).trans e3)
    | near i h0 h6 =>
      obtain ⟨u0, u1, rfl⟩ : ∃ u0 u1, us = [u0, u1] := by
        match us, ka0.length with
        | [u0, u1], _ => exact ⟨_, _, rfl⟩
      cases ka with
      | cons k0 ka =>
        cases ka with
        | cons k1 _ =>
          cases k0
          cases k1
          obtain ⟨ι, rfl⟩ : ∃ ι : Nat, i = (ι : Int) := ⟨i.toNat, by omega⟩
          refine q_when (b := false) (et_test (ev_is (ev_op (ev_at (K := K) (i := 0) (ev_var rfl) ha rfl) ev_c (rv_eq rfl)) (by rw [decide_eq_false (by decide +kernel)]))) (fun z => nomatch z) (fun z H2 e2 => ?_)
          have ha2 := e2 _ _ ha
          refine q_when (b := true) (et_test (ev_is (ev_op (ev_at (K := K) (i := 0) (ev_var rfl) ha2 rfl) ev_c (rv_eq rfl)) (by rw [decide_eq_true rfl]))) (fun z H3 e3 => ?_) (fun z => nomatch z)
          have ha3 := e3 _ _ ha2
          have q' : RetV (.bl (decide ((s : Int) - (f : Int) ≤ ((β ^ ι : Nat) : Int)))) H Q := by
            have e : holdsD β f s (.tuple [.str "near", .int (ι : Int)]) = decide ((s : Int) - (f : Int) ≤ ((β ^ ι : Nat) : Int)) := by
              show decide ((neaN β (s - f) : Int) ≤ (ι : Int)) = _
              have hn := neaN_le (d := s - f) (i := ι) r.b2
              have hlt := r.lt
              refine decide_eq_decide.mpr ⟨fun z => ?_, fun z => ?_⟩
              · have := hn.mp (by omega)
                omega
              · have := hn.mpr (by omega)
                omega
            rw [← e]
            exact q
          exact s_ret (ev_op (ev_op (ev_var rfl) (ev_var rfl) rv_I0) (ev_powL (ev_var rfl) (ev_at (K := K) (i := 1) (ev_var rfl) ha3 rfl) r.b2 r.b10 (by omega)) rv_I0) fun H4 e4 => q' H4 (((e1.trans e2).trans e3).trans e4)
    | len w hw i h1 h6 e he =>
      obtain ⟨u0, u1, u2, rfl⟩ : ∃ u0 u1 u2, us = [u0, u1, u2] := by
        match us, ka0.length with
        | [u0, u1, u2], _ => exact ⟨_, _, _, rfl⟩
      cases ka with
      | cons k0 ka =>
        cases ka with
        | cons k1 ka =>
          cases ka with
          | cons k2 _ =>
            cases k0
            cases k1
            have n1 : w ≠ "ends" := by rcases hw with rfl | rfl <;> decide +kernel
            have n2 : w ≠ "near" := by rcases hw with rfl | rfl <;> decide +kernel
            refine q_when (b := false) (et_test (ev_is (ev_op (ev_at (K := K) (i := 0) (ev_var rfl) ha rfl) ev_c (rv_eq rfl)) (by rw [decide_eq_false (fun z => n1 (by injection z))]))) (fun z => nomatch z) (fun z H2 e2 => ?_)
            have ha2 := e2 _ _ ha
            refine q_when (b := false) (et_test (ev_is (ev_op (ev_at (K := K) (i := 0) (ev_var rfl) ha2 rfl) ev_c (rv_eq rfl)) (by rw [decide_eq_false (fun z => n2 (by injection z))]))) (fun z => nomatch z) (fun z H3 e3 => ?_)
            have ha3 := e3 _ _ ha2
            have e23 := e2.trans e3
            obtain ⟨sz, hsz⟩ : ∃ sz : Int, sz = if w = "length" then ((dl β f).length : Int) else (chgN β f s : Int) := ⟨_, rfl⟩
            refine q_asg (v := .int sz) (ev_if (b := decide (w = "length")) (et_test (ev_is (ev_op (ev_at (K := K) (i := 0) (ev_var rfl) ha3 rfl) ev_c (rv_eq rfl)) (by
                congr 1
                exact decide_eq_decide.mpr ⟨fun z => by injection z, fun z => by rw [z]⟩))) (fun z => ?_) (fun z => ?_)) fun H4 e4 => ?_
            · rw [hsz, if_pos (of_decide_eq_true z)]
              exact ev_is (ev_lenX (K := K) (x := digs β f) (ev_var rfl) lf) (by rw [digs_len])
            · rw [hsz, if_neg (of_decide_eq_false z)]
              exact ev_chgL r (ev_var rfl) (ev_var rfl) (ev_var rfl)
            have e14 := (e1.trans e23).trans e4
            have e24 := e23.trans e4
            have ha4 := e24 _ _ ha
            have q' : RetV (.bl (decide (sz ≥ i) && (isN e || decide (sz ≤ intD e)))) H Q := by
              rw [hsz]
              exact q
            refine s_ret (ev_andV (ev_op (ev_var rfl) (ev_at (K := K) (i := 1) (ev_var rfl) ha4 rfl) rv_I0) fun _ => ev_orV (a := isN e) (ev_op (y := .non) (ev_at (K := K) (i := 2) (ev_var rfl) ha4 rfl) ev_c fun H5 e5 Q5 k5 => ⟨rfl, by rw [(k2.ex (e24.trans e5)).isN]; exact k5 _ (Ex.refl _)⟩) fun z => ?_) fun H5 e5 => q' H5 (e14.trans e5)
            rcases he with rfl | ⟨j, rfl, hj, hj6⟩
            · cases z
            · cases k2
              exact ev_op (ev_var rfl) (ev_at (K := K) (i := 2) (ev_var rfl) ha4 rfl) rv_I0
end
end Dt

/-! Stretches: runs of second numbers with one row each (mathematics), and where the facts of a range may change. -/
namespace Rn
variable {κ : Type} [DecidableEq κ]
/-- one more row behind the others (the last one first) -/
def push : List (Nat × κ) → Nat → κ → List (Nat × κ)
  | [], l, k => [(l, k)]
  | (l0, k0) :: r, l, k => if k0 = k then (l, k) :: r else (l, k) :: (l0, k0) :: r
theorem push_cons (l0 : Nat) (k0 : κ) (r : List (Nat × κ)) (l : Nat) (k : κ) : push ((l0, k0) :: r) l k = if k0 = k then (l, k) :: r else (l, k) :: (l0, k0) :: r := rfl
theorem push_push (acc : List (Nat × κ)) (a b : Nat) (k : κ) : push (push acc a k) b k = push acc b k := by
  cases acc with
  | nil => exact if_pos rfl
  | cons p r =>
    obtain ⟨l0, k0⟩ := p
    rw [push_cons, push_cons]
    by_cases h : k0 = k
    · rw [if_pos h, if_pos h, push_cons, if_pos rfl]
    · rw [if_neg h, if_neg h, push_cons, if_pos rfl]
/-- all rows of these numbers -/
def rows (key : Nat → κ) (acc : List (Nat × κ)) (ns : List Nat) : List (Nat × κ) := ns.foldl (fun acc s => push acc s (key s)) acc
theorem rows_app (key : Nat → κ) (acc : List (Nat × κ)) (a b : List Nat) : rows key acc (a ++ b) = rows key (rows key acc a) b := List.foldl_append ..
theorem rows_one (key : Nat → κ) (k : κ) : ∀ (n a : Nat) (acc : List (Nat × κ)), (∀ s, a < s → s ≤ a + n + 1 → key s = k) → rows key acc (List.range' (a + 1) (n + 1)) = push acc (a + n + 1) k
  | 0, a, acc, h => by
    show push acc (a + 1) (key (a + 1)) = _
    rw [h (a + 1) (by omega) (by omega)]
  | n + 1, a, acc, h => by
    have e : List.range' (a + 1) (n + 1 + 1) = (a + 1) :: List.range' (a + 1 + 1) (n + 1) := rfl
    rw [e]
    show rows key (push acc (a + 1) (key (a + 1))) (List.range' (a + 1 + 1) (n + 1)) = _
    rw [h (a + 1) (by omega) (by omega), rows_one key k n (a + 1) _ fun s h1 h2 => h s (by omega) (by omega), push_push]
    congr 1
    omega
/-- the ends of blocks in each of which the row is the same -/
inductive Blk (key : Nat → κ) : Nat → List Nat → Prop
  | nil {a : Nat} : Blk key a []
  | cons {a l : Nat} {ls : List Nat} : a < l → (∀ s, a < s → s ≤ l → key s = key l) → Blk key l ls → Blk key a (l :: ls)
theorem Blk.rows {key : Nat → κ} : ∀ {ls : List Nat} {a : Nat} (acc : List (Nat × κ)), Blk key a ls → Rn.rows key acc ls = Rn.rows key acc (List.range' (a + 1) (ls.getLastD a - a))
  | [], a, acc, _ => by
    show acc = Rn.rows key acc (List.range' (a + 1) (a - a))
    rw [Nat.sub_self]
    rfl
  | l :: ls, a, acc, h => by
    cases h with
    | cons h1 h2 h3 =>
      have le : ∀ {ls : List Nat} {a : Nat}, Blk key a ls → a ≤ ls.getLastD a := by
        intro ls
        induction ls with
        | nil => intro a _; exact Nat.le_refl _
        | cons x xs ih =>
          intro a h
          cases h with
          | cons g1 g2 g3 =>
            have := ih g3
            have e : (x :: xs).getLastD a = xs.getLastD x := by cases xs <;> rfl
            rw [e]
            omega
      have hl := le h3
      have e : (l :: ls).getLastD a = ls.getLastD l := by cases ls <;> rfl
      rw [e]
      have e2 : ls.getLastD l - a = (l - a - 1 + 1) + (ls.getLastD l - l) := by omega
      rw [e2, ← List.range'_append_1, rows_app, rows_one key (key l) (l - a - 1) a acc fun s g1 g2 => h2 s g1 (by omega)]
      show Rn.rows key (push acc l (key l)) ls = _
      rw [Blk.rows _ h3]
      have e3 : a + (l - a - 1) + 1 = l := by omega
      have e4 : a + 1 + (l - a - 1 + 1) = l + 1 := by omega
      rw [e3, e4]
/-- numbers that ascend, among them each at which the row may change -/
theorem blk_of {key : Nat → κ} {a0 m : Nat} {C : Nat → Prop} (hC : ∀ s l, a0 < s → s ≤ l → l ≤ m → key s ≠ key l → ∃ c, C c ∧ s ≤ c ∧ c < l) : ∀ {ls : List Nat} {a : Nat}, a0 ≤ a → ls.Pairwise (· < ·) → (∀ l ∈ ls, a < l ∧ l ≤ m) → (∀ c, C c → a < c → c ≤ m → c ∈ ls) → Blk key a ls
  | [], a, _, _, _, _ => .nil
  | l :: ls, a, ha, hp, hm, hc => by
    have hp' := List.pairwise_cons.mp hp
    have h1 := hm l List.mem_cons_self
    refine .cons h1.1 (fun s g1 g2 => ?_) (blk_of hC (by omega) hp'.2 (fun x hx => ⟨hp'.1 x hx, (hm x (List.mem_cons_of_mem _ hx)).2⟩) fun c g h2 h3 => ?_)
    · by_cases e : key s = key l
      · exact e
      · obtain ⟨c, g, h2, h3⟩ := hC s l (by omega) g2 h1.2 e
        rcases List.mem_cons.mp (hc c g (by omega) (by omega)) with rfl | hx
        · omega
        · have := hp'.1 c hx
          omega
    · rcases List.mem_cons.mp (hc c g (by omega) h3) with rfl | hx
      · omega
      · exact hx
theorem push_len (acc : List (Nat × κ)) (l : Nat) (k : κ) : (push acc l k).length ≤ acc.length + 1 := by
  cases acc with
  | nil => exact Nat.le_refl _
  | cons p r =>
    obtain ⟨l0, k0⟩ := p
    rw [push_cons]
    split <;> simp only [List.length_cons] <;> omega
theorem rows_len (key : Nat → κ) : ∀ (ns : List Nat) (acc : List (Nat × κ)), (rows key acc ns).length ≤ acc.length + ns.length
  | [], acc => Nat.le_refl _
  | n :: ns, acc => by
    have h := rows_len key ns (push acc n (key n))
    have h2 := push_len acc n (key n)
    show (rows key (push acc n (key n)) ns).length ≤ _
    rw [List.length_cons]
    omega
end Rn
namespace Dt
open PySem L2 Evl Dg TL
/-- the last number with this quotient -/
def cutA (β f j : Nat) : Nat := (f / β ^ j + 1) * β ^ j - 1
/-- the second numbers behind which a fact of a range with this first number may change -/
def Cut (β f m c : Nat) : Prop := ∃ j, β ^ j ≤ m ∧ (c = cutA β f j ∨ c = f + β ^ j)
theorem len_lt {β : Nat} (hb : 2 ≤ β) (n m : Nat) : (dl β n).length ≤ m ↔ n / β ^ m = 0 := by
  constructor
  · intro h
    have e := dl_drop hb m n
    rw [List.drop_eq_nil_of_le h] at e
    exact dl_inj hb _ _ (e.trans rfl)
  · intro h
    have e := dl_drop hb m n
    rw [h] at e
    have e0 : dl β 0 = [] := rfl
    rw [e0] at e
    exact List.drop_eq_nil_iff.mp e.symm
theorem cutA_lt {β f j s : Nat} (hb : 2 ≤ β) : s ≤ cutA β f j ↔ s / β ^ j ≤ f / β ^ j := by
  have p : 0 < β ^ j := Nat.pow_pos (by omega)
  unfold cutA
  have h1 : 0 < (f / β ^ j + 1) * β ^ j := Nat.mul_pos (Nat.succ_pos _) p
  constructor
  · intro h
    have : s / β ^ j < f / β ^ j + 1 := (Nat.div_lt_iff_lt_mul p).mpr (by omega)
    omega
  · intro h
    have : s < (f / β ^ j + 1) * β ^ j := (Nat.div_lt_iff_lt_mul p).mp (by omega)
    omega
/-- between two second numbers without a cut all facts are the same -/
theorem facts_same {β f s l m : Nat} (hb : 2 ≤ β) (hf : 1 ≤ f) (hfs : f < s) (hsl : s ≤ l) (hlm : l ≤ m) (no : ∀ c, Cut β f m c → s ≤ c → ¬ c < l) : (dl β s).length = (dl β l).length ∧ chgN β f s = chgN β f l ∧ neaN β (s - f) = neaN β (l - f) := by
  have a : ∀ j, f / β ^ j = s / β ^ j ↔ f / β ^ j = l / β ^ j := fun j => by
    have h1 : f / β ^ j ≤ s / β ^ j := Nat.div_le_div_right (Nat.le_of_lt hfs)
    have h2 : s / β ^ j ≤ l / β ^ j := Nat.div_le_div_right hsl
    constructor
    · intro e
      by_cases g : l ≤ cutA β f j
      · have := (cutA_lt (s := l) (f := f) (j := j) hb).mp g
        omega
      · have g1 : s ≤ cutA β f j := (cutA_lt hb).mpr (by omega)
        have p : 0 < β ^ j := Nat.pow_pos (by omega)
        have g2 : β ^ j ≤ (f / β ^ j + 1) * β ^ j := Nat.le_mul_of_pos_left _ (Nat.succ_pos _)
        have g3 : cutA β f j = (f / β ^ j + 1) * β ^ j - 1 := rfl
        exact absurd (by omega) (no _ ⟨j, by omega, .inl rfl⟩ g1)
    · intro e
      omega
  have b : ∀ j, s - f ≤ β ^ j ↔ l - f ≤ β ^ j := fun j => by
    constructor
    · intro e
      by_cases g : l - f ≤ β ^ j
      · exact g
      · exact absurd (by omega) (no (f + β ^ j) ⟨j, by omega, .inr rfl⟩ (by omega))
    · intro e
      omega
  have hc : ChgIs β f s = ChgIs β f l := funext fun k => by
    show (_ ∧ ∀ j < k, f / β ^ j ≠ s / β ^ j) = (_ ∧ ∀ j < k, f / β ^ j ≠ l / β ^ j)
    rw [propext (a k)]
    exact congrArg _ (forall_congr fun j => by rw [show (f / β ^ j ≠ s / β ^ j) = (f / β ^ j ≠ l / β ^ j) from congrArg Not (propext (a j))])
  have hn : NearIs β (s - f) = NearIs β (l - f) := funext fun k => by
    have b2 : ∀ j, (β ^ j < s - f) = (β ^ j < l - f) := fun j => by
      have := b j
      exact propext ⟨fun h => Nat.lt_of_not_le fun g => absurd (this.mpr g) (by omega), fun h => Nat.lt_of_not_le fun g => absurd (this.mp g) (by omega)⟩
    show (_ ∧ ∀ j < k, β ^ j < s - f) = (_ ∧ ∀ j < k, β ^ j < l - f)
    rw [propext (b k)]
    exact congrArg _ (forall_congr fun j => by rw [b2 j])
  refine ⟨?_, ?_, ?_⟩
  · have z : ∀ k, (dl β s).length ≤ k ↔ (dl β l).length ≤ k := fun k => by
      rw [len_lt hb, len_lt hb]
      have h1 : f / β ^ k ≤ s / β ^ k := Nat.div_le_div_right (Nat.le_of_lt hfs)
      have h2 : s / β ^ k ≤ l / β ^ k := Nat.div_le_div_right hsl
      have h3 := a k
      generalize f / β ^ k = x at *
      generalize s / β ^ k = y at *
      generalize l / β ^ k = z at *
      constructor
      · intro e
        have : x = z := h3.mp (by omega)
        omega
      · intro e
        omega
    exact Nat.le_antisymm ((z _).mpr (Nat.le_refl _)) ((z _).mp (Nat.le_refl _))
  · unfold chgN
    rw [hc]
  · unfold neaN
    rw [hn]
/-- the row of a second number: its rule, and how many digits are kept -/
noncomputable def keyS (β f : Nat) (Ds : List PyData) (s : Nat) : Nat × Nat := (firstD β f s Ds, keptD β f s Ds)
theorem holds_same {β f s l : Nat} (h1 : (dl β s).length = (dl β l).length) (h2 : chgN β f s = chgN β f l) (h3 : neaN β (s - f) = neaN β (l - f)) : holdsD β f s = holdsD β f l := by
  funext d
  unfold holdsD
  rw [h2, h3]
theorem keep_same {β f s l : Nat} (h1 : (dl β s).length = (dl β l).length) (h2 : chgN β f s = chgN β f l) : keepN β f s = keepN β f l := by
  funext d
  unfold keepN
  rw [h1, h2]
theorem key_same {β f s l : Nat} {Ds : List PyData} (h1 : (dl β s).length = (dl β l).length) (h2 : chgN β f s = chgN β f l) (h3 : neaN β (s - f) = neaN β (l - f)) : keyS β f Ds s = keyS β f Ds l := by
  have e : appl β f s = appl β f l := funext fun d => by
    unfold appl
    rw [holds_same h1 h2 h3]
  have ef : firstD β f s Ds = firstD β f l Ds := by
    unfold firstD
    rw [e]
  unfold keyS keptD
  rw [ef, keep_same h1 h2]
/-- what stands at the cuts alone tells all rows -/
theorem rows_cut {β f m : Nat} {Ds : List PyData} {ls : List Nat} (hb : 2 ≤ β) (hf : 1 ≤ f) (hfm : f < m) (hp : ls.Pairwise (· < ·)) (hm : ∀ k, k ∈ ls ↔ (f < k ∧ k ≤ m ∧ (k = m ∨ Cut β f m k))) :
    Rn.rows (keyS β f Ds) [] ls = Rn.rows (keyS β f Ds) [] (List.range' (f + 1) (m - f)) := by
  have B : Rn.Blk (keyS β f Ds) f ls := by
    have key : ∀ s l, f < s → s ≤ l → l ≤ m → keyS β f Ds s ≠ keyS β f Ds l → ∃ c, Cut β f m c ∧ s ≤ c ∧ c < l := fun s l h0 h1 h2 h3 => by
      apply Classical.byContradiction
      intro no
      obtain ⟨g1, g2, g3⟩ := facts_same hb hf h0 h1 h2 fun c hc h4 h5 => no ⟨c, hc, h4, h5⟩
      exact h3 (key_same g1 g2 g3)
    exact Rn.blk_of (m := m) key (Nat.le_refl f) hp (fun l hl => ⟨((hm l).mp hl).1, ((hm l).mp hl).2.1⟩) fun c hc h1 h2 => (hm c).mpr ⟨h1, h2, .inr hc⟩
  have hl : ls.getLastD f = m := by
    have h1 : m ∈ ls := (hm m).mpr ⟨hfm, Nat.le_refl _, .inl rfl⟩
    cases e : ls.getLast? with
    | none =>
      rw [List.getLast?_eq_none_iff.mp e] at h1
      cases h1
    | some z =>
      rw [List.getLastD_eq_getLast?, e]
      show z = m
      obtain ⟨ys, rfl⟩ := List.getLast?_eq_some_iff.mp e
      have hz := (hm z).mp (by simp)
      rcases List.mem_append.mp h1 with h | h
      · have := (List.pairwise_append.mp hp).2.2 m h z (by simp)
        omega
      · exact (List.mem_singleton.mp h).symm
  rw [B.rows, hl]
end Dt
namespace Rn
variable {κ : Type} [DecidableEq κ]
theorem push_mem {acc : List (Nat × κ)} {l : Nat} {k : κ} {r : Nat × κ} (h : r ∈ push acc l k) : r = (l, k) ∨ r ∈ acc := by
  cases acc with
  | nil => exact .inl (List.mem_singleton.mp h)
  | cons p rs =>
    obtain ⟨l0, k0⟩ := p
    rw [push_cons] at h
    split at h
    · rcases List.mem_cons.mp h with h | h
      · exact .inl h
      · exact .inr (List.mem_cons_of_mem _ h)
    · rcases List.mem_cons.mp h with h | h
      · exact .inl h
      · exact .inr h
theorem rows_mem {key : Nat → κ} {S : Nat → Prop} : ∀ {ns : List Nat} {acc : List (Nat × κ)}, (∀ r ∈ acc, r.2 = key r.1 ∧ S r.1) → (∀ n ∈ ns, S n) → ∀ r ∈ rows key acc ns, r.2 = key r.1 ∧ S r.1
  | [], _, ha, _, r, hr => ha r hr
  | n :: ns, acc, ha, hn, r, hr => rows_mem (ns := ns) (acc := push acc n (key n)) (fun q hq => (push_mem hq).elim (fun e => by rw [e]; exact ⟨rfl, hn n List.mem_cons_self⟩) (ha q)) (fun x hx => hn x (List.mem_cons_of_mem _ hx)) r hr
theorem rows_desc {key : Nat → κ} : ∀ {ns : List Nat} {acc : List (Nat × κ)}, acc.Pairwise (fun a b => b.1 < a.1) → ns.Pairwise (· < ·) → (∀ r ∈ acc, ∀ n ∈ ns, r.1 < n) → (rows key acc ns).Pairwise fun a b => b.1 < a.1
  | [], _, ha, _, _ => ha
  | n :: ns, acc, ha, hn, hb => by
    have hn' := List.pairwise_cons.mp hn
    refine rows_desc (ns := ns) (acc := push acc n (key n)) ?_ hn'.2 fun r hr x hx => (push_mem hr).elim (fun e => by rw [e]; exact hn'.1 x hx) fun h => hb r h x (List.mem_cons_of_mem _ hx)
    cases acc with
    | nil => exact List.pairwise_singleton _ _
    | cons p rs =>
      obtain ⟨l0, k0⟩ := p
      have ha' := List.pairwise_cons.mp ha
      rw [push_cons]
      split
      · exact List.pairwise_cons.mpr ⟨fun q hq => hb q (List.mem_cons_of_mem _ hq) n List.mem_cons_self, ha'.2⟩
      · exact List.pairwise_cons.mpr ⟨fun q hq => hb q hq n List.mem_cons_self, ha⟩
end Rn

namespace Evl
open PySem L2
/-- for c in x: a text, sign by sign -/
theorem s_forS {x : Str} {σ : St} {H : Hp} {te : TE} {j : Nat} {tu : TS} {D : Ends} (h : Ev te σ H (.str x)) (Pv : Nat → St → Hp → Prop) (h0 : ∀ H1, Ex H H1 → Pv 0 σ H1)
    (hs : ∀ (i c : Nat) σ' H', x.cps[i]? = some c → Pv i σ' H' → tu { D with nx := Pv (i + 1), ct := Pv (i + 1), bk := D.nx } (σ'.set j (some (.str ⟨#[c]⟩))) H') (hd : ∀ σ' H', Pv x.cps.size σ' H' → D.nx σ' H') : tFor (iStr te) (gName j) tu D σ H :=
  h H (Ex.refl H) _ fun H1 e => ⟨x, rfl, fun i m σ' H' => m = x.cps.size - i ∧ i ≤ x.cps.size ∧ Pv i σ' H', ⟨x.cps.size, by simp, Nat.zero_le _, h0 H1 e⟩, by
    rintro i m σ' H' ⟨rfl, hi, p⟩
    by_cases hlt : i < x.cps.size
    · refine .inr ⟨hlt, Pv (i + 1), fun σ2 H2 p' => ⟨x.cps.size - (i + 1), by omega, rfl, hlt, p'⟩, fun y H2 hy => ?_⟩
      obtain ⟨rfl, c, hc, rfl⟩ := hy
      exact hs i c σ' _ hc p
    · have e3 : i = x.cps.size := by omega
      subst e3
      exact .inl ⟨Nat.le_refl _, hd σ' H' p⟩⟩
end Evl
namespace Dg
open PySem L2 Evl TL
/-- the number that figures write -/
def numF (β : Nat) (cs : List Nat) : Nat := cs.foldl (fun a c => a * β + (c - 48)) 0
theorem numF_snoc (β : Nat) (cs : List Nat) (c : Nat) : numF β (cs ++ [c]) = numF β cs * β + (c - 48) := by simp [numF, List.foldl_append]
theorem int_fig {d : Nat} (h : d < 10) : PySem.intText? ⟨#[48 + d]⟩ = some (d : Int) := by
  have c : d = 0 ∨ d = 1 ∨ d = 2 ∨ d = 3 ∨ d = 4 ∨ d = 5 ∨ d = 6 ∨ d = 7 ∨ d = 8 ∨ d = 9 := by omega
  rcases c with rfl | rfl | rfl | rfl | rfl | rfl | rfl | rfl | rfl | rfl <;> decide +kernel
/-- a text of 1 to 4,000 digits of a base without a zero in front -/
def isNumeral (β : Nat) (x : Str) : Bool := isFigs β 4000 x && !decide ((tl x)[0]? = some 48)
def numO (β : Nat) : Option Str → Bool
  | some x => isNumeral β x
  | none => false
section
variable {P : Program} {w : World} {K : PySem.W.Frag} {mg : Str → Option Value} {base : Heap}
def spWorth : Sp := fun vs H Q _ => ∃ (β : Nat) (x : Str), vs = [.int β, .str x] ∧ 2 ≤ β ∧ β ≤ 10 ∧ (∀ c ∈ tl x, 48 ≤ c ∧ c < 48 + β) ∧ RetV (.int (numF β (tl x))) H Q
end
end Dg

/-! k09: readers, where nothing is refused. -/
namespace Dg
open PySem L2 Evl TL
abbrev sBehind : Stmt := top 27
/-- a statement that is not come to -/
theorem ps_no {X : Cx} {st : Stmt} : PS X st (fun _ _ _ => False) := ⟨fun _ _ _ _ _ _ h => h.elim⟩
structure TxP (K : PySem.W.Frag) (mg : Str → Option Value) (fi fnum ff fnb fnn fra fbe fwo fnr frp ar : Addr) : Prop extends TxI K mg fi where
  range : mg "range" = none
  isNum : mg "is_number" = some (.ref fnum)
  kNum : PySem.W.keepIn K (.ref fnum) = true
  isFig : mg "is_figures" = some (.ref ff)
  kFig : PySem.W.keepIn K (.ref ff) = true
  needB : mg "need_base" = some (.ref fnb)
  kNB : PySem.W.keepIn K (.ref fnb) = true
  needN : mg "need_number" = some (.ref fnn)
  kNN : PySem.W.keepIn K (.ref fnn) = true
  behind : mg "behind" = some (.ref fbe)
  kBe : PySem.W.keepIn K (.ref fbe) = true
  rd : ∀ H : Hp, SqT K H ar [.str "replace", .str "next"]
/-- what "next" tells -/
def nxtI (f S v : Int) : Int := f + 1 + (v - f - 1) % S
/-- what "replace" tells -/
def rplV (f S v : Int) (z : Bool) : V := if decide (f < S) && z then .non else if decide (f < f - f % S + v) then .int (f - f % S + v) else .non
/-- a tail begins with 0 -/
def zeroAt (x : Str) : Bool := decide ((tl x)[0]? = some 48)
theorem fig_all {β m : Nat} {x : Str} (h : isFigs β m x = true) : 1 ≤ x.length ∧ x.length ≤ m ∧ ∀ c ∈ tl x, 48 ≤ c ∧ c < 48 + β := by
  unfold isFigs at h
  obtain ⟨h1, h2⟩ := Bool.and_eq_true_iff.mp h
  obtain ⟨h3, h4⟩ := Bool.and_eq_true_iff.mp h1
  exact ⟨of_decide_eq_true h3, of_decide_eq_true h4, fun c hc => of_decide_eq_true (List.all_eq_true.mp h2 c hc)⟩
section
variable {P : Program} {w : World} {K : PySem.W.Frag} {mg : Str → Option Value} {base : Heap} {fi fnum ff fnb fnn fra fbe fwo fnr frp ar : Addr}
def spNeedBv : Sp := fun vs H Q _ => ∃ β : Nat, vs = [.int β] ∧ 2 ≤ β ∧ β ≤ 10 ∧ RetV .non H Q
theorem scNeedBv : FnScope ["base"] ["base"] (defScope sNeedB) := ⟨rfl, rfl, rfl, by decide +kernel, rfl, by decide +kernel, by decide +kernel⟩
theorem ok_needBv {f : Addr} {fd fdi : FuncData} (F : Fun K "need_base" "need_base" sNeedB f fd) (GI : FnOk P w K mg base CX0 1 fi fdi ["value"] (spIsInt K)) (bI : Binds K fdi ["value"] []) (T : TxI K mg fi) : FnOk P w K mg base CX0 2 f fd ["base"] spNeedBv := by
  refine F.ok scNeedBv (fun vs H Q E h => ?_) (fun cdv A outer s H vs Q E hr h => ?_)
  · obtain ⟨_, rfl, _⟩ := h
    rfl
  · obtain ⟨β, rfl, b2, b10, q⟩ := h
    obtain ⟨t1, hl⟩ := T.least
    obtain ⟨t2, hm⟩ := T.most
    refine ⟨_, pss_one (ps_if (PW.pt (pw_or (pt_not (pt_val (pe_call GI hr (by rfl) T.isInt T.kInt bI .nil pass0 (pa_cons (pv 0) pa_nil)))) (pw_or1 (pt_not (pt_chain op_le op_le (pe_glob (by rfl) hl (v := .int 2) ⟨_, rfl⟩) (pv 0) (pe_glob (by rfl) hm (v := .int 10) ⟨_, rfl⟩))))))
      (pss_one ps_no) pss_nil), ?_⟩
    refine s_when (b := false) (et_is (et_or (a := false) (b := false) (et_not (et_B (ev_callI (ev_var rfl) (.int β)))) fun _ => et_is (et_not (et_test (ev_chI ev_c (ev_var rfl) ev_c))) (by rw [decide_eq_true (show (2 : Int) ≤ β by omega), decide_eq_true (show (β : Int) ≤ 10 by omega)]; rfl)) rfl) (fun z => nomatch z) fun _ H1 e => q H1 e
def spNeedNv : Sp := fun vs H Q _ => ∃ n : Nat, vs = [.int n] ∧ 1 ≤ n ∧ RetV .non H Q
theorem scNeedNv : FnScope ["number"] ["number"] (defScope sNeedN) := ⟨rfl, rfl, rfl, by decide +kernel, rfl, by decide +kernel, by decide +kernel⟩
theorem ok_needNv {f : Addr} {fd fdn : FuncData} (F : Fun K "need_number" "need_number" sNeedN f fd) (GN : FnOk P w K mg base CX0 2 fnum fdn ["value"] (spIsNum K)) (bN : Binds K fdn ["value"] []) (T : TxP K mg fi fnum ff fnb fnn fra fbe fwo fnr frp ar) : FnOk P w K mg base CX0 3 f fd ["number"] spNeedNv := by
  refine F.ok scNeedNv (fun vs H Q E h => ?_) (fun cdv A outer s H vs Q E hr h => ?_)
  · obtain ⟨_, rfl, _⟩ := h
    rfl
  · obtain ⟨n, rfl, n1, q⟩ := h
    refine ⟨_, pss_one (ps_if (pt_not (pt_val (pe_call GN hr (by rfl) T.isNum T.kNum bN .nil pass0 (pa_cons (pv 0) pa_nil)))) (pss_one ps_no) pss_nil), ?_⟩
    have nm : Nm K H (.int n) true := by
      rw [← show decide ((1 : Int) ≤ n) = true from decide_eq_true (by omega)]
      exact .int _
    refine s_when (b := false) (et_is (et_not (et_B (ev_call (z := .bl true) (ea_cons (ev_var rfl) ea_nil) fun H1 e Q q E => ⟨_, true, rfl, nm.ex e, fun H2 e2 => q H2 e2⟩))) rfl) (fun z => nomatch z) fun _ H1 e => q H1 e
def spNeedRd : Sp := fun vs H Q _ => ∃ r : Str, vs = [.str r] ∧ (r = "next" ∨ r = "replace") ∧ RetV .non H Q
def spRaisedP : Sp := fun vs H Q _ => ∃ β k : Nat, vs = [.int β, .int k] ∧ 2 ≤ β ∧ β ≤ 10 ∧ k ≤ 100000 ∧ RetV (.int ((β ^ k : Nat) : Int)) H Q
def spBehind : Sp := fun vs H Q _ => ∃ f v S : Int, vs = [.int f, .int v, .int S] ∧ 0 < S ∧ RetV (.int (nxtI f S v)) H Q
theorem scBehind : FnScope ["number", "remainder", "step"] ["number", "remainder", "step"] (defScope sBehind) := ⟨rfl, rfl, rfl, by decide +kernel, rfl, by decide +kernel, by decide +kernel⟩
theorem ok_behind {f : Addr} {fd : FuncData} (F : Fun K "behind" "behind" sBehind f fd) : FnOk P w K mg base CX0 1 f fd ["number", "remainder", "step"] spBehind := by
  refine F.ok scBehind (fun vs H Q E h => ?_) (fun cdv A outer s H vs Q E hr h => ?_)
  · obtain ⟨_, _, _, rfl, _⟩ := h
    rfl
  · obtain ⟨f, v, S, rfl, s0, q⟩ := h
    refine ⟨_, pss_one (ps_ret (pe_op op_add (pe_op op_add (pv 0) pe_int) (pe_op op_mod (pe_op op_sub (pe_op op_sub (pv 1) (pv 0)) pe_int) (pv 2)))), ?_⟩
    exact s_ret (ev_op (ev_op (ev_var rfl) ev_c rv_I0) (ev_op (ev_op (ev_op (ev_var rfl) (ev_var rfl) rv_I0) ev_c rv_I0) (ev_var rfl) (rv_I s0)) rv_I0) fun H1 e => q H1 e
/-- x[0] == "0" -/
theorem ev_zero {σ : St} {H : Hp} {te : TE} {x : Str} (h : Ev te σ H (.str x)) (l1 : 1 ≤ x.length) (hz : x.length ≤ 100000) : EvT (tTest (tOp rEq (tOp rIxS te (tC (.int 0))) (tC (.str "0")))) σ H (zeroAt x) := by
  have hsz : (tl x).length = x.cps.size := Array.length_toList
  obtain ⟨c0, h0⟩ : ∃ c, (tl x)[0]? = some c := ⟨(tl x)[0]'(by rw [hsz]; exact l1), by rw [List.getElem?_eq_getElem]⟩
  refine et_is (et_test (ev_op (ev_op h ev_c (rv_ixS hz (atI_nat (j := 0) h0))) (y := .str "0") ev_c (rv_eq rfl))) ?_
  unfold zeroAt
  rw [h0]
  apply decide_eq_decide.mpr
  constructor
  · intro h
    injection h with h
    have h5 : ([c0] : List Nat) = [48] := (congrArg (fun y : Str => y.cps.toList) h).trans (by decide)
    injection h5 with h5
    rw [h5]
  · intro h
    injection h with h
    rw [h]
    rfl
theorem ev_worth {σ : St} {H : Hp} {ta tb : TE} {E : XK} {β : Nat} {x : Str} (ha : Ev ta σ H (.int β)) (hb : Ev tb σ H (.str x)) (b2 : 2 ≤ β) (b10 : β ≤ 10) (hx : ∀ c ∈ tl x, 48 ≤ c ∧ c < 48 + β) : Ev (tCall spWorth [] E (tCons ta (tCons tb tNil))) σ H (.int (numF β (tl x))) :=
  ev_call (ea_cons ha (ea_cons hb ea_nil)) fun H1 e Q q E => ⟨β, x, rfl, b2, b10, hx, fun H2 e2 => q H2 e2⟩
theorem ev_raisedP {σ : St} {H : Hp} {ta tb : TE} {E : XK} {β k : Nat} (ha : Ev ta σ H (.int β)) (hb : Ev tb σ H (.int k)) (b2 : 2 ≤ β) (b10 : β ≤ 10) (k2 : k ≤ 100000) : Ev (tCall spRaisedP [] E (tCons ta (tCons tb tNil))) σ H (.int ((β ^ k : Nat) : Int)) :=
  ev_call (ea_cons ha (ea_cons hb ea_nil)) fun H1 e Q q E => ⟨β, k, rfl, b2, b10, k2, fun H2 e2 => q H2 e2⟩
def spReplaced : Sp := fun vs H Q _ => ∃ (β f : Nat) (x : Str), vs = [.int β, .int f, .str x] ∧ 2 ≤ β ∧ β ≤ 10 ∧ isFigs β 1000 x = true ∧ RetV (rplV f ((β ^ x.length : Nat) : Int) (numF β (tl x)) (zeroAt x)) H Q
def cmpl (r : Str) (f S v : Int) (z : Bool) : V := if r = "replace" then rplV f S v z else .int (nxtI f S v)
def spCompl : Sp := fun vs H Q _ => ∃ (r : Str) (β f : Nat) (x : Str), vs = [.str r, .int β, .int f, .str x] ∧ (r = "next" ∨ r = "replace") ∧ 2 ≤ β ∧ β ≤ 10 ∧ 1 ≤ f ∧ isFigs β 1000 x = true ∧ RetV (cmpl r f ((β ^ x.length : Nat) : Int) (numF β (tl x)) (zeroAt x)) H Q
end
end Dg

/-! set(a list of ints): a set whose order is known to sorted. -/
namespace SetL
open PySem PySem.Spec PyProof.Rows L2
/-- the set as it is made -/
def newS (w : World) : Obj := { cls := .type "set", dict := none, data := .set #[] 0 (.fresh 0 0 (!w.params.followText "set-order")) }
section
variable {P : Program} {w : World} {A : Around} {E : Value → Shared → Prop} {s : Shared}
/-- what is known behind the set's own initialising -/
def Filled (w : World) (s : Shared) (ns : List Int) (r : Value) (t : Shared) : Prop := r = .none ∧ ∃ g tk c, t = { s with heap := g, toks := tk } ∧ SetR w g s.heap.objs.size (fun j => decide (j ∈ ns)) c ∧ c ≤ ns.length ∧ ∀ b o, s.heap.get? b = some o → g.get? b = some o
theorem call_setL {l : Addr} {us : Array Value} (ns : List Int) {Q : Value → Shared → Prop} (calm : A.handled = none) (isL : s.heap.IsList l us) (areI : IntsAre us.toList ns) (few : ns.length + 1 < scanBound)
    (q : ∀ (g : Heap) (tk c : Nat), SetR w g s.heap.objs.size (fun j => decide (j ∈ ns)) c → c ≤ ns.length → (∀ b o, s.heap.get? b = some o → g.get? b = some o) → Q (.ref s.heap.objs.size) { s with heap := g, toks := tk }) :
    wpAny (model P w) A (call (.type "set") [.ref l]) Q E s := by
  have sz : us.size = ns.length := (Array.length_toList (xs := us)).symm.trans (IntsAre.length areI)
  have ⟨_, _, hmro⟩ := F.called_set.mro
  have made := F.called_set.made
  have sub := F.called_set.sub
  refine wpAny_call (codeAny_of_tree (show wpAny _ _ (callAny (.type "set") _) _ _ _ from wpAny_pure ⟨Code.quiet_builtin _ (by decide +kernel), codeAny_builtin F.entry_type_call ?_⟩))
  rw [Around.under_plain (weight_type_call_type "set" [.ref l] []) rfl]
  have nt := F.called_set.notType
  have cc := F.called_set.canCreate
  have tc := F.typeCall_set_1 (.ref l)
  repeat (any_goals (first | assumption | wp_step))
  refine codeAny_mono (code_set_led1 (.ref l) (E := E) (Q₁ := fun x t => x = .ref s.heap.objs.size ∧ t = { s with heap := s.heap.push (newS w) }) ⟨rfl, rfl⟩) fun r t hr => ?_
  rcases r with e | fl
  · exact hr
  · cases fl with
    | ret x =>
      obtain ⟨rfl, rfl⟩ := hr
      have at0 : (s.heap.push (newS w)).get? s.heap.objs.size = some (newS w) := Heap.get?_push_size _ rfl
      have isS : Shared.TypeIs { s with heap := s.heap.push (newS w) } (.ref s.heap.objs.size) "set" := ⟨_, at0, rfl⟩
      have li := F.called_set.init.lookup
      have bi := F.called_set.init.bind (.ref s.heap.objs.size)
      repeat (any_goals (first | assumption | wp_step))
      refine codeAny_mono (codeAny_call_builtin (R := wants (Filled w s ns) E) F.called_set.init.plain F.entry_set_init (check_set_init_1 isS ?_)) fun r2 t2 h2 => ?_
      · obtain ⟨⟨oc, od, oda, osl⟩, ho, hc, nl, hd⟩ := isL
        simp only at hc hd
        subst hc
        subst hd
        have ho1 : (s.heap.push (newS w)).get? l = some { cls := .type "list", dict := od, data := .seq us nl, slots := osl } := Heap.get?_push_of_some _ ho
        have s1 := F.sub_list_set
        have s2 := F.sub_list_frozenset
        have nd : (Value.type "list" == Value.type "dict") = false := by decide
        have isL1 : (s.heap.push (newS w)).IsList l us := ⟨_, ho1, rfl, nl, rfl⟩
        unfold Builtin.«set.__init__» noKeywords Builtin.Frozenset.updateFrom
        generalize hz : pyIter = PI
        wp_walk
        subst hz
        refine wpAny_pyIter_list isL1 (wpAny_bind (wpAny_runValue ?_))
        have lS : l < s.heap.objs.size := Heap.lt_size ho
        have calm3 : A.in1.in1.in1.handled = none := by simp [calm]
        have neI : l ≠ (s.heap.push (newS w)).objs.size := by
          rw [Heap.size_push]
          exact Nat.ne_of_lt (Nat.lt_succ_of_lt lS)
        have nf : s.heap.objs.size ∉ [(s.heap.push (newS w)).objs.size, l] := by
          rw [Heap.size_push]
          simp only [List.mem_cons, List.not_mem_nil, or_false, not_or]
          exact ⟨Nat.ne_of_lt (Nat.lt_succ_self _), Nat.ne_of_gt lS⟩
        have val : ∀ (i : Nat) (v : Value), us[i]? = some v → ∃ k t, ns[i]? = some k ∧ v = .int k t := fun i v hv => by
          have hi : i < ns.length := sz ▸ (Array.getElem?_eq_some_iff.mp hv).1
          obtain ⟨t, e⟩ := PyProof.Rows.IntsAre.int_at areI i v (by rw [Array.getElem?_toList]; exact hv)
          exact ⟨ns[i], t, List.getElem?_eq_getElem hi, by rw [e, List.getD_eq_getElem?_getD, List.getElem?_eq_getElem hi]; rfl⟩
        have got : ((s.heap.push (newS w)).push { cls := .type "list_iterator", data := .fields #[.ref l, .int 0 0] }).get? s.heap.objs.size = some (newS w) := Heap.get?_push_of_some _ at0
        refine set_update_ints ((Walks.list calm3 _ l neI us).toS) s.heap.objs.size nf ns sz few val (us.size - 0) 0 _ (by omega) (Nat.zero_le _) ⟨⟨_, Heap.get?_push_size _ rfl, rfl, rfl⟩, isL1.push _⟩ ⟨0, Nat.le_refl 0, setR_new_at got⟩ fun t3 c3 mv hc3 R3 => ?_
        obtain ⟨g, g2, d3, tk3, o3⟩ := t3
        obtain rfl : g2 = s.gens := mv.gens
        obtain rfl : d3 = s.drawn := mv.drawn
        obtain rfl : o3 = s.os := mv.os
        show wpAny _ _ _ _ _ _
        refine wpAny_pure ?_
        show wpAny _ _ (ret Value.none) _ _ _
        rw [sz] at hc3
        refine wpAny_pure ⟨rfl, g, tk3, c3, rfl, R3, hc3, fun b o e => ?_⟩
        have b0 : b < s.heap.objs.size := Heap.lt_size e
        refine mv.heap b o ?_ (Heap.get?_push_of_some _ (Heap.get?_push_of_some _ e))
        rw [Heap.size_push]
        simp only [List.mem_cons, List.not_mem_nil, or_false, not_or]
        exact ⟨Nat.ne_of_lt b0, Nat.ne_of_lt (Nat.lt_succ_of_lt b0)⟩
      · rcases r2 with e | fl2
        · exact h2
        · cases fl2 with
          | ret r =>
            obtain ⟨rfl, g, tk, c, rfl, R3, hc3, keep⟩ := h2
            repeat (any_goals (first | assumption | wp_step))
            exact q _ _ _ R3 hc3 keep
          | _ => exact h2.elim
    | _ => exact hr.elim
end
section
variable {X : Cx}
/-- set(xs) of a list of ints -/
def rSetL (K : PySem.W.Frag) (w : World) : List V → Hp → VK → Prop := fun vs H Q => ∃ (a : Addr) (ns : List Int), vs = [V.ref a] ∧ SqL K H a (ns.map V.int) ∧ ns.length ≤ 1000 ∧ ∀ (c : Nat) (p : Addr), c ≤ ns.length → H p = none → Q (.ref p) (upd H p (SetO w p (fun j => decide (j ∈ ns)) c))
theorem cr_setL (hc : X.calm = true) : CallR X (.type "set") (rSetL X.K X.w) := by
  intro pins s σ H vs us Q I r h
  obtain ⟨a, ns, rfl, hS, hn, q⟩ := h
  rw [Vals.ref1 r]
  obtain ⟨its, rv, hl, _⟩ := I.list hS
  have hi : IntsAre its.toArray.toList ns := ints_of_vals rv
  refine call_setL ns (I.ok.hd hc) hl.isList hi (by unfold scanBound; omega) fun g tk c R hcn keep => ?_
  exact ⟨.ref _, upd H s.heap.objs.size (SetO X.w s.heap.objs.size (fun j => decide (j ∈ ns)) c), I.laid (t' := tk) keep (Nat.le_refl _) (setO_new R), rfl, q c _ hcn (I.hok.fresh (Nat.le_refl _))⟩
end
end SetL

/-! len(x), x of an own class with __len__. -/
namespace L2
open PySem PySem.Spec PyProof.Rows
section
variable {X : Cx} {k : Nat} {C g : Addr} {fd : FuncData} {ps : List Str} {sp : Sp}
theorem call_len_own (hs : PySem.W.findIn X.K (.ref C) "__len__" = some (some (.ref g))) (hf : PySem.W.isFn X.K (.ref g) = true) (F : FnOk X.prog X.w X.K X.mg X.base CX0 k g fd ps sp) (hr : Room (k + 1) X.A) (hb : Binds X.K fd ps []) :
    CallR X (.builtin "len") (fun xs H Q => ∃ a dx fs, xs = [.ref a] ∧ H a = some (.ins C dx fs) ∧ sp [.ref a] H (fun v H' => ∃ n : Nat, v = .int n ∧ n ≤ sizeLine ∧ Q (.int n) H') E0) := by
  intro pins s σ H xs us Q I r h
  obtain ⟨a, dx, fs, rfl, ha, h⟩ := h
  cases r with
  | cons r0 rr =>
    cases rr
    cases r0
    obtain ⟨mA, O, _⟩ := ins_get I.hok ha
    obtain ⟨od, J, _⟩ := O.look
    have hl : ([Value.ref a] ++ []).length = ps.length := by
      rw [← F.len _ _ _ _ h]
      rfl
    refine Calls.call_function_entry kind_len plain_len entry_len (args_len1 _) ?_
    unfold Builtin.«len»
    refine wpAny_bind (m := oneArg "len" _) (wpAny_pure ?_)
    refine wpAny_bind (m := callSpecial? (.ref a) (Str.ofString "__len__")) (PySem.W.special_fn I.kIn J hs (beq_iff_eq.mp hf) (wpAny_call (codeAny_mono (F.run X.A.in1 X.stack s H ⟨[.ref a], []⟩ [.ref a] [.ref a] _ E0 hr.in1 I.env0.in1 (by
      have := hb s [.ref a] I.kIn (by simpa using hl)
      simpa using this) (.cons rfl .nil) h) fun r s' hq => ?_)))
    cases r with
    | error er => exact False.elim hq
    | ok fl =>
      cases fl with
      | ret u =>
        obtain ⟨v, H', I3, rv, n, ev, hn, q3⟩ := I.after hq
        subst ev
        obtain ⟨t, rfl⟩ := rv
        refine wpAny_bind (wpAny_holding (wpAny_pure ?_))
        refine wpAny_bind (wpAny_letGo ?_)
        rw [sizeLine_eq] at hn
        show wpAny _ _ (if (n : Int) < 0 then _ else _) _ _ _
        rw [if_neg (by omega)]
        show wpAny _ _ (if (n : Int) ≥ 2 ^ 63 then _ else _) _ _ _
        rw [if_neg (by omega)]
        exact wpAny_bind (wpAny_mkInt (wpAny_pure ⟨_, rfl, ⟨.int n, H', I3.tok _, ⟨_, rfl⟩, q3⟩⟩))
      | next => exact False.elim hq
      | brk => exact False.elim hq
      | cont => exact False.elim hq
end
end L2

/-! Operators of an own class: ==, !=, [], in, + from the right; in, over a tuple of data. -/
namespace PySem.W
open PySem PySem.Calls PyProof.Rows Builtin
section
variable {prog : Program} {w : World} {A : Around} {E : Value → Shared → Prop} {s : Shared} {K : Frag} {x C L f : Addr} {h₀ : Heap} {m : Str → Option Value} {ox : Obj} {od : Option Obj} {b tb : Value}
theorem ono_call {Q : Value → Shared → Prop} (hu : A.in1.units < cLine) (X : K.In s.heap) (I : InstAt s.heap x ox C od) (hm : mroIn K C (.type "object") = some true) (hs : findIn K (.ref C) "__eq__" = some (some (.ref f))) (hf : isFn K (.ref f) = true)
    (h : wpAny (model prog w) A.in1 (call (.ref f) [.ref x, b]) (fun v s' => ∃ r, v = .bool r ∧ Q (.bool (!r)) s') E s) : wpAny (model prog w) A (call (.builtin "object.__ne__") [.ref x, b]) Q E s := by
  refine wpAny_call (codeAny_call_builtin F.cmp_object.ne.plain F.cmpEntry_ne (check_slot (i := "object.__ne__") (owner := "object") (n := "__ne__") (by decide +kernel) (by decide +kernel) (I.type.andThen (looks_mroIn X hm)) (F.cmpArgs_ne _ _) ?_))
  unfold Builtin.«object.__ne__»
  refine wpAny_bind (m := slotArgs "__ne__" 1 _) (wpAny_pure ?_)
  refine wpAny_bind (m := cRoomFor _ _) (wpAny_cRoomFor hu ?_)
  refine wpAny_bind (m := callSpecialIfBound? (.ref x) (Str.ofString "__eq__") _) (ifBound_K X I hs hf (wpAny_mono h (fun r s' hq => ?_) fun _ _ y => y))
  obtain ⟨r, rfl, hq⟩ := hq
  exact wpAny_bind (wpAny_truthy_bool (wpAny_pure hq))
theorem ifBound_B {M : Model} {name : Str} {id : String} {args : List Value} {Q : Option Value → Shared → Prop} (X : K.In s.heap) (I : InstAt s.heap x ox C od) (hs : findIn K (.ref C) name = some (some (.builtin id))) (hb : ∀ self, bindSpecial (.builtin id) self = pure (.builtin id, [self]))
    (h : wpAny M A (call (.builtin id) (.ref x :: args)) (fun v => Q (some v)) E s) : wpAny M A (callSpecialIfBound? (.ref x) name args) Q E s := by
  simp only [callSpecialIfBound?, bindSpecialIfBound?]
  refine wpAny_holding (wpAny_bind (wpAny_bind (wpAny_bind (I.type.here ((looks_findIn X hs).here ?_)))))
  refine wpAny_bind (wpAny_askSetting (wpAny_ite ?_))
  have fin : wpAny M A (call (.builtin id) ([.ref x] ++ args) >>= fun v => pure (some v)) Q E s := wpAny_bind (wpAny_mono h (fun v s' h' => wpAny_pure h') fun _ _ h' => h')
  split
  · exact wpAny_bind ((Looks.of_pure (hb _)).here (wpAny_pure (by exact fin)))
  · exact wpAny_tryCatch (wpAny_bind ((Looks.of_pure (hb _)).here (wpAny_pure (by exact fin))))
theorem ne_K {Q : Value → Shared → Prop} (hu : A.in1.units < cLine) (hu0 : A.units < cLine) (F₀ : Fr h₀ L s.heap m) (X₀ : K.In h₀) (I : InstAt s.heap x ox C od) (hb : Looks (model prog w) s.heap (typeOf b) tb) (hn : notFirst K C tb = true)
    (hne : findIn K (.ref C) "__ne__" = some (some (.builtin "object.__ne__"))) (hm : mroIn K C (.type "object") = some true) (hs : findIn K (.ref C) "__eq__" = some (some (.ref f))) (hf : isFn K (.ref f) = true)
    (h : wpAny (model prog w) A.in1 (call (.ref f) [.ref x, b]) (fun v s' => ∃ r, v = .bool r ∧ Q (.bool (!r)) s') E s) : wpAny (model prog w) A (richCompare .NotEq (.ref x) b) Q E s := by
  have X := X₀.keeps F₀.keep
  have one : wpAny (model prog w) A (tryCompare (.ref x) "__ne__" b) (fun r s' => ∃ v, r = some v ∧ Q v s') E s := by
    unfold tryCompare
    refine wpAny_bind (ifBound_B X I hne F.cmp_object.ne.bind (ono_call hu X I hm hs hf (wpAny_mono h (fun v s' hv => ?_) fun _ _ e => e)))
    obtain ⟨r, rfl, hq⟩ := hv
    exact ⟨r, rfl, wpAny_pure ⟨_, rfl, hq⟩⟩
  unfold richCompare
  simp only [oneThing_ref]
  refine wpAny_holding (wpAny_bind (wpAny_cRoomFor hu0 ?_))
  refine wpAny_bind (I.type.here (wpAny_bind (hb.here ?_)))
  split
  · rename_i q
    have e : subIn K tb (.ref C) = some false := by
      rcases Bool.or_eq_true_iff.mp hn with e | e
      · rw [beq_iff_eq.mp e] at q; simp at q
      · exact beq_iff_eq.mp e
    refine wpAny_bind ((looks_subIn X e).here ?_)
    simp only [Bool.false_eq_true, if_false]
    refine wpAny_bind (wpAny_mono one (fun r s' z => ?_) fun _ _ e => e)
    obtain ⟨v, rfl, hq⟩ := z
    exact wpAny_pure hq
  · refine wpAny_bind (wpAny_pure ?_)
    simp only [Bool.false_eq_true, if_false]
    refine wpAny_bind (wpAny_mono one (fun r s' z => ?_) fun _ _ e => e)
    obtain ⟨v, rfl, hq⟩ := z
    exact wpAny_pure hq
theorem fills_R {M : Model} {h : Heap} {nm : String} {cd : ClassData} {rest : List Value} (X : K.In h) (hc : clsIn K C = some cd) (hm : cd.mro = .ref C :: rest) (h0 : findIn K (.ref C) (PySem.dunder nm) = some none) (hs : findIn K (.ref C) (dunderR nm) = some (some (.ref f))) : Looks M h (fillsNumberSlot (.ref C) nm) true := by
  intro A Q E s k q
  unfold fillsNumberSlot
  refine wpAny_bind ((looks_clsIn X hc).andThen (f := fun cd => pure cd.mro) .now A _ E s k ?_)
  rw [hm, List.anyM_cons]
  refine wpAny_bind ?_
  show wpAny M A (List.anyM _ [PySem.dunder nm, dunderR nm]) _ _ _
  rw [List.anyM_cons]
  refine wpAny_bind (wpAny_bind (looks_findIn X h0 A _ E s k ?_))
  dsimp only
  refine wpAny_pure ?_
  rw [if_neg (by decide)]
  rw [List.anyM_cons]
  refine wpAny_bind (wpAny_bind (looks_findIn X hs A _ E s k ?_))
  dsimp only
  rw [if_pos (show (!ownNameWrapper (.ref f) (dunderR nm)) = true from rfl)]
  refine wpAny_pure ?_
  rw [if_pos rfl]
  refine wpAny_pure ?_
  rw [if_pos rfl]
  exact wpAny_pure q
theorem radd_K {a : Value} {fo : Option Value} {Q : Value → Shared → Prop} (F₀ : Fr h₀ L s.heap m) (X₀ : K.In h₀) (I : InstAt s.heap x ox C od) (ha : Looks (model prog w) s.heap (typeOf a) (.type "tuple")) (hc : selfFirst K C = true)
    (h0 : findIn K (.ref C) "__add__" = some none) (hs : findIn K (.ref C) "__radd__" = some (some (.ref f))) (hf : isFn K (.ref f) = true)
    (h1 : findIn K (.type "tuple") "__add__" = some fo) (hsq : isSeqSlot fo = true) (h2 : findIn K (.type "tuple") "__radd__" = some none)
    (h : wpAny (model prog w) A (call (.ref f) [.ref x, a]) (CmpBack Q) E s) : wpAny (model prog w) A (binaryOp .Add a (.ref x)) Q E s := by
  have X := X₀.keeps F₀.keep
  obtain ⟨cd, rest, hcd, hm⟩ := ksp_first hc
  have one := ksp_try X I hs hf h
  obtain ⟨hh, g, d, tt, os⟩ := s
  have L1 : Looks (model prog w) hh (typeOf (.ref x)) (.ref C) := I.type
  have L2 : Looks (model prog w) hh (typeOf a) (.type "tuple") := ha
  have L3 : Looks (model prog w) hh (fillsNumberSlot (.ref C) "add") true := fills_R (nm := "add") X hcd hm h0 hs
  have L4 : Looks (model prog w) hh (fillsNumberSlot (.type "tuple") "add") false := by
    have := ksp_fillsT (M := model prog w) (nm := "add") X h1 h2
    rw [hsq] at this
    simpa [isSeqSlot] using this
  have hne : (Value.type "tuple" == Value.ref C) = false := Bool.eq_false_iff.mpr fun q => by cases beq_iff_eq.mp q
  simp only [binaryOp, Operator.info]
  refine wpAny_holding (wpAny_bind ?_)
  unfold binaryOp1
  refine wpAny_bind (L2.at (wpAny_bind (L1.at (wpAny_bind (L4.at ?_)))))
  simp only [hne, Bool.false_eq_true, if_false]
  ksp_lk
  refine wpAny_mono one (fun r s' hr' => ?_) fun _ _ e => e
  obtain ⟨v, rfl, hq⟩ := hr'
  ksp_lk
  exact hq
end
end PySem.W
namespace L2
open PySem PySem.Spec PyProof.Rows SlX
section
variable {X : Cx} {CX : CXT} {k : Nat} {C g : Addr} {sp : Sp} {E : XK} {pins : List (Addr × Obj)} {σ : St} {H : Hp} {s : Shared}
theorem looks_ty {y : V} {u t : Value} (I : Inv X pins σ H s) (ry : RelV y u) (ty : TyX X.K H y t) : PySem.W.Looks (model X.prog X.w) s.heap (typeOf u) t := by
  obtain ⟨P, Z, hP, _⟩ := kit_of I ry ty
  exact Z.ty _ _ I.kIn hP
/-- what the own class has for its operators -/
structure OpsC (K : PySem.W.Frag) (C : Addr) : Prop where
  ne : PySem.W.findIn K (.ref C) "__ne__" = some (some (.builtin "object.__ne__"))
  mo : PySem.W.mroIn K C (.type "object") = some true
/-- x == y -/
def rEqOwn (K : PySem.W.Frag) (C : Addr) (sp : Sp) (E : XK) : R2 := fun x y H Q => ∃ a dx fs t, x = .ref a ∧ H a = some (.ins C dx fs) ∧ TyX K H y t ∧ PySem.W.notFirst K C t = true ∧ sp [x, y] H Q E
theorem op_eqOwn (hs : PySem.W.findIn X.K (.ref C) "__eq__" = some (some (.ref g))) (hf : PySem.W.isFn X.K (.ref g) = true) (F : FnR X.prog X.w X.K X.mg X.base CX k g sp) (hr : Room k X.A) (hx : Passes CX X E) : OpR X (compareOp .Eq) (rEqOwn X.K C sp E) := by
  intro pins s σ H x y v u Q I rx ry h
  obtain ⟨a, dx, fs, t, rfl, ha, ty, hn, q⟩ := h
  cases (show v = Value.ref a from rx)
  obtain ⟨mA, O, _⟩ := ins_get I.hok ha
  obtain ⟨od, J, _⟩ := O.look
  obtain ⟨m, hF⟩ := I.fr
  show wpAny _ _ (richCompare .Eq _ _) _ _ _
  refine PySem.W.cmp_K (op := .Eq) hr.units0 hF I.ok.mod.kin J (looks_ty I ry ty) hn hs hf ?_
  refine wpAny_mono (wpAny_call (run_fnR (us := [.ref a, u]) (vs := [.ref a, y]) F hr hx I (.cons rfl (.cons ry .nil)) q)) (fun w s' z => ?_) fun _ _ x => x
  obtain ⟨z', H', I', rz, qz⟩ := z
  exact cmpback rz ⟨z', H', I', rz, qz⟩
/-- x != y -/
def rNeOwn (K : PySem.W.Frag) (C : Addr) (sp : Sp) (E : XK) : R2 := fun x y H Q => ∃ a dx fs t, x = .ref a ∧ H a = some (.ins C dx fs) ∧ TyX K H y t ∧ PySem.W.notFirst K C t = true ∧ sp [x, y] H (fun v H' => ∃ r, v = .bl r ∧ Q (.bl (!r)) H') E
theorem op_neOwn (oc : OpsC X.K C) (hs : PySem.W.findIn X.K (.ref C) "__eq__" = some (some (.ref g))) (hf : PySem.W.isFn X.K (.ref g) = true) (F : FnR X.prog X.w X.K X.mg X.base CX k g sp) (hr : Room (k + 1) X.A) (hx : Passes CX X E) : OpR X (compareOp .NotEq) (rNeOwn X.K C sp E) := by
  intro pins s σ H x y v u Q I rx ry h
  obtain ⟨a, dx, fs, t, rfl, ha, ty, hn, q⟩ := h
  cases (show v = Value.ref a from rx)
  obtain ⟨mA, O, _⟩ := ins_get I.hok ha
  obtain ⟨od, J, _⟩ := O.look
  obtain ⟨m, hF⟩ := I.fr
  show wpAny _ _ (richCompare .NotEq _ _) _ _ _
  refine PySem.W.ne_K hr.in1.units0 hr.units0 hF I.ok.mod.kin J (looks_ty I ry ty) hn oc.ne oc.mo hs hf ?_
  refine wpAny_mono (wpAny_call (run_at (us := [.ref a, u]) (ws := [.ref a, y]) F hr.in1 I.env0.in1 hx I (.cons rfl (.cons ry .nil)) q)) (fun w s' z => ?_) fun _ _ x => x
  obtain ⟨z', H', I', rz, r, ez, qz⟩ := z
  subst ez
  cases (show w = Value.bool r from rz)
  exact ⟨r, rfl, .bl (!r), H', I', rfl, qz⟩
/-- x in y, y of an own class -/
def rInOwn (C : Addr) (sp : Sp) (E : XK) : R2 := fun x y H Q => ∃ a dx fs, y = .ref a ∧ H a = some (.ins C dx fs) ∧ sp [y, x] H (fun v H' => ∃ r, v = .bl r ∧ Q (.bl r) H') E
theorem op_inOwn (hs : PySem.W.findIn X.K (.ref C) "__contains__" = some (some (.ref g))) (hf : PySem.W.isFn X.K (.ref g) = true) (F : FnR X.prog X.w X.K X.mg X.base CX k g sp) (hr : Room k X.A) (hx : Passes CX X E) : OpR X (compareOp .In) (rInOwn C sp E) := by
  intro pins s σ H x y v u Q I rx ry h
  obtain ⟨a, dx, fs, rfl, ha, q⟩ := h
  cases (show u = Value.ref a from ry)
  obtain ⟨mA, O, _⟩ := ins_get I.hok ha
  obtain ⟨od, J, _⟩ := O.look
  obtain ⟨m, hF⟩ := I.fr
  refine PySem.W.in_K hF I.ok.mod.kin J hs hf ?_
  refine wpAny_mono (wpAny_call (run_fnR (us := [.ref a, v]) (vs := [.ref a, x]) F hr hx I (.cons rfl (.cons rx .nil)) q)) (fun w s' z => ?_) fun _ _ x => x
  obtain ⟨z', H', I', rz, r, ez, qz⟩ := z
  subst ez
  cases (show w = Value.bool r from rz)
  exact wpAny_truthy_bool ⟨.bl r, H', I', rfl, qz⟩
/-- x[i], x of an own class -/
def rIxOwn (C : Addr) (sp : Sp) (E : XK) : R2 := fun x y H Q => ∃ a dx fs, x = .ref a ∧ H a = some (.ins C dx fs) ∧ sp [x, y] H Q E
theorem pe_ixOwn {a b : Expr} {ta tb : TE} {pos : Pos} (hs : PySem.W.findIn X.K (.ref C) "__getitem__" = some (some (.ref g))) (hk : PySem.W.fnIn X.K g = true) (hf : PySem.W.isFn X.K (.ref g) = true) (F : FnR X.prog X.w X.K X.mg X.base CX k g sp) (hr : Room (k + 1) X.A) (hx : Passes CX X E)
    (ha : PE X a ta) (hb : PE X b tb) (hsl : ∀ v u, subscripted b true v u = runValue (.builtin "lifetime.subscript" ⟨[v, u], []⟩)) : PE X (.Subscript a b pos) (tOp (rIxOwn C sp E) ta tb) := by
  refine ⟨fun pins s σ H Q I h => ?_⟩
  refine Subscript_ (binT ha hb I h fun v u s2 x y H2 I2 rx ry q => ?_)
  obtain ⟨a1, dx, fs, rfl, ha1, q⟩ := q
  cases (show v = Value.ref a1 from rx)
  obtain ⟨mA, O, _⟩ := ins_get I2.hok ha1
  obtain ⟨od, J, _⟩ := O.look
  obtain ⟨m, hF⟩ := I2.fr
  exact PySem.W.sub_K hF I2.ok.mod.kin J hs hk hf (wpAny_call (run_at (us := [.ref a1, u]) (ws := [.ref a1, y]) F hr.in1 I2.env0.in1 hx I2 (.cons rfl (.cons ry .nil)) q)) (hsl _ _)
/-- t + x, t a tuple, x of an own class -/
def rAddOwn (K : PySem.W.Frag) (C : Addr) (sp : Sp) (E : XK) : R2 := fun x y H Q => ∃ a dx fs, y = .ref a ∧ H a = some (.ins C dx fs) ∧ TyX K H x (.type "tuple") ∧ sp [y, x] H Q E
structure RaddC (K : PySem.W.Frag) (C g : Addr) : Prop where
  sf : PySem.W.selfFirst K C = true
  a0 : PySem.W.findIn K (.ref C) "__add__" = some none
  ra : PySem.W.findIn K (.ref C) "__radd__" = some (some (.ref g))
  fn : PySem.W.isFn K (.ref g) = true
  t1 : PySem.W.findIn K (.type "tuple") "__add__" = some (some (.builtin "tuple.__add__"))
  t2 : PySem.W.findIn K (.type "tuple") "__radd__" = some none
theorem op_addOwn (rc : RaddC X.K C g) (F : FnR X.prog X.w X.K X.mg X.base CX k g sp) (hr : Room k X.A) (hx : Passes CX X E) : OpR X (binaryOp .Add) (rAddOwn X.K C sp E) := by
  intro pins s σ H x y v u Q I rx ry h
  obtain ⟨a, dx, fs, rfl, ha, ty, q⟩ := h
  cases (show u = Value.ref a from ry)
  obtain ⟨mA, O, _⟩ := ins_get I.hok ha
  obtain ⟨od, J, _⟩ := O.look
  obtain ⟨m, hF⟩ := I.fr
  refine PySem.W.radd_K hF I.ok.mod.kin J (looks_ty I rx ty) rc.sf rc.a0 rc.ra rc.fn rc.t1 (by decide +kernel) rc.t2 ?_
  refine wpAny_mono (wpAny_call (run_fnR (us := [.ref a, v]) (vs := [.ref a, x]) F hr hx I (.cons rfl (.cons rx .nil)) q)) (fun w s' z => ?_) fun _ _ x => x
  obtain ⟨z', H', I', rz, qz⟩ := z
  exact cmpback rz ⟨z', H', I', rz, qz⟩
/-- x in t, t a tuple of data -/
def rInDT (K : PySem.W.Frag) : R2 := fun x y H Q => ∃ d p xs es, y = .ref p ∧ Dp K H x d ∧ SqT K H p xs ∧ DpAll K H xs es ∧ SeqAt.shaped d = true ∧ (∀ e ∈ es, SeqAt.shaped e = true) ∧ Q (.bl (es.any fun e => PyData.eqv e d)) H
theorem room_data {A : Around} {d e : PyData} (h : SeqAt.shaped d = true) (hu : A.units + 65 < cLine) : A.in1.units + min d.depth e.depth < cLine := by
  have h1 := SeqAt.depth_of_shaped h
  have h2 : min d.depth e.depth ≤ d.depth := Nat.min_le_left _ _
  have h3 : A.in1.units ≤ A.units + 1 := by
    show A.units + 1 ≤ A.units + 1
    exact Nat.le_refl _
  omega
end
section
variable {X : Cx} {pins : List (Addr × Obj)} {σ : St} {H : Hp} {s : Shared}
theorem dp_at : ∀ {xs : List V} {us : List Value} {es : List PyData}, Vals xs us → DpAll X.K H xs es → us.length = es.length ∧ ∀ (j : Nat) (u : Value) (e : PyData), us[j]? = some u → es[j]? = some e → ∃ x, RelV x u ∧ Dp X.K H x e
  | _, _, _, .nil, .nil => ⟨rfl, fun j u e h => by simp at h⟩
  | _, _, _, .cons r t, .cons d t' => by
    obtain ⟨hl, hj⟩ := dp_at t t'
    refine ⟨by simp [hl], fun j u e h1 h2 => ?_⟩
    cases j with
    | zero =>
      simp at h1 h2
      subst h1 h2
      exact ⟨_, r, d⟩
    | succ j =>
      simp at h1 h2
      exact hj j u e h1 h2
open Classical in
theorem op_inDT (hu : X.A.units + 65 < cLine) : OpR X (compareOp .In) (rInDT X.K) := by
  intro pins s σ H x y v u Q I rx ry h
  obtain ⟨d, p, xs, es, rfl, hd, hq, hes, sd, ses, q⟩ := h
  cases ry
  obtain ⟨its, r, pl, hz⟩ := I.tuple hq
  obtain ⟨as, rd⟩ := Dp.reads I d x v hd rx
  obtain ⟨hl, hj⟩ := dp_at (H := H) (X := X) r hes
  have one : ∀ (j : Nat) (w : Value) (e : PyData), its[j]? = some w → es[j]? = some e → SeqAt.EqAt X.A.in1 s w v (PyData.eqv e d) := fun j w e h1 h2 => by
    obtain ⟨z, rz, dz⟩ := hj j w e h1 h2
    obtain ⟨bs, re⟩ := Dp.reads I e z w dz rz
    have se := ses e (List.mem_of_getElem? h2)
    exact SeqAt.eqAt_reads e d X.A.in1 s w v bs as re rd (SeqAt.canLay_of_shaped se) (SeqAt.canLay_of_shaped sd) (room_data se hu)
  refine SeqAt.in_tupleAt (fun w => decide (∃ (j : Nat) (e : PyData), its[j]? = some w ∧ es[j]? = some e ∧ PyData.eqv e d = true)) pl (fun w hw => ?_) ⟨.bl _, H, I, rfl, ?_⟩
  · obtain ⟨j, hj1, hjw⟩ := List.getElem_of_mem (by simpa using hw : w ∈ its)
    have h1 : its[j]? = some w := by rw [List.getElem?_eq_getElem hj1, hjw]
    obtain ⟨e, h2⟩ : ∃ e, es[j]? = some e := ⟨_, List.getElem?_eq_getElem (hl ▸ hj1)⟩
    by_cases hx : ∃ (j : Nat) (e : PyData), its[j]? = some w ∧ es[j]? = some e ∧ PyData.eqv e d = true
    · rw [decide_eq_true hx]
      obtain ⟨j', e', a1, a2, a3⟩ := hx
      rw [← a3]
      exact one j' w e' a1 a2
    · rw [decide_eq_false hx]
      have : PyData.eqv e d = false := by
        cases hz : PyData.eqv e d with
        | false => rfl
        | true => exact absurd ⟨j, e, h1, h2, hz⟩ hx
      rw [← this]
      exact one j w e h1 h2
  · have : (its.toArray.any fun w => decide (∃ (j : Nat) (e : PyData), its[j]? = some w ∧ es[j]? = some e ∧ PyData.eqv e d = true)) = es.any fun e => PyData.eqv e d := by
      rw [Bool.eq_iff_iff]
      simp only [List.any_toArray, List.any_eq_true, decide_eq_true_eq]
      constructor
      · rintro ⟨w, _, j, e, _, h2, h3⟩
        exact ⟨e, List.mem_of_getElem? h2, h3⟩
      · rintro ⟨e, he, h3⟩
        obtain ⟨j, hj1, hje⟩ := List.getElem_of_mem he
        have h2 : es[j]? = some e := by rw [List.getElem?_eq_getElem hj1, hje]
        have hj2 : j < its.length := hl ▸ hj1
        exact ⟨its[j], List.getElem_mem hj2, j, e, List.getElem?_eq_getElem hj2, h2, h3⟩
    rw [this]
    exact q
end
end L2

/-! lasts_of, stretches, total. -/
namespace Dt
open PySem L2 Evl Dg LamR LamX StX ClX TL
abbrev sLasts : Stmt := top 53
abbrev sStretch : Stmt := top 54
abbrev sTotal : Stmt := top 55
structure TxSt (K : PySem.W.Frag) (mg : Str → Option Value) (fbe fnn fnum fla ffa fwr fstr : Addr) : Prop where
  behind : mg "behind" = some (.ref fbe)
  kBe : PySem.W.keepIn K (.ref fbe) = true
  needN : mg "need_number" = some (.ref fnn)
  kNN : PySem.W.keepIn K (.ref fnn) = true
  isNum : mg "is_number" = some (.ref fnum)
  kNum : PySem.W.keepIn K (.ref fnum) = true
  lasts : mg "lasts_of" = some (.ref fla)
  kLa : PySem.W.keepIn K (.ref fla) = true
  facts : mg "facts_of" = some (.ref ffa)
  kFa : PySem.W.keepIn K (.ref ffa) = true
  written : mg "written" = some (.ref fwr)
  kWr : PySem.W.keepIn K (.ref fwr) = true
  stre : mg "stretches" = some (.ref fstr)
  kSt : PySem.W.keepIn K (.ref fstr) = true
  sorted : mg "sorted" = none
  set : mg "set" = none
  len : mg "len" = none
  tuple : mg "tuple" = none
  sup : mg "super" = none
theorem nxt_cut {β f j : Nat} (hb : 2 ≤ β) : nxtI (f : Int) ((β ^ j : Nat) : Int) 0 - 1 = (cutA β f j : Int) := by
  have p : 0 < β ^ j := Nat.pow_pos (by omega)
  generalize hp : β ^ j = q at *
  have h1 : 0 < (f / q + 1) * q := Nat.mul_pos (Nat.succ_pos _) p
  unfold nxtI cutA
  rw [hp]
  have e1 : (0 - (f : Int) - 1) = (((q - 1 - f % q : Nat) : Int)) + (q : Int) * (-((f / q : Nat) : Int) - 1) := by
    have h2 := Nat.div_add_mod f q
    have h3 := Nat.mod_lt f p
    have h4 : ((q - 1 - f % q : Nat) : Int) = (q : Int) - 1 - ((f % q : Nat) : Int) := by omega
    rw [h4]
    have h5 : (f : Int) = (q : Int) * ((f / q : Nat) : Int) + ((f % q : Nat) : Int) := by
      have : ((q * (f / q) + f % q : Nat) : Int) = (f : Int) := by rw [h2]
      rw [← this]
      simp
    generalize ((f / q : Nat) : Int) = a at *
    generalize ((f % q : Nat) : Int) = b at *
    rw [h5]
    have : (q : Int) * (-a - 1) = - ((q : Int) * a) - q := by
      rw [Int.mul_sub, Int.mul_neg, Int.mul_one]
    rw [this]
    omega
  rw [e1, Int.add_mul_emod_self_left]
  have h3 := Nat.mod_lt f p
  have e2 : ((q - 1 - f % q : Nat) : Int) % (q : Int) = ((q - 1 - f % q : Nat) : Int) := Int.emod_eq_of_lt (by omega) (by omega)
  rw [e2]
  have h2 := Nat.div_add_mod f q
  have e3 : (f / q + 1) * q = q * (f / q) + q := by rw [Nat.add_mul, Nat.one_mul, Nat.mul_comm]
  omega
theorem ev_chLI {σ : St} {H : Hp} {ta tb tc : TE} {a b c : Int} (ha : Ev ta σ H (.int a)) (hb : Ev tb σ H (.int b)) (hc : Ev tc σ H (.int c)) :
    Ev (tChain (rI0 fun i j => .bl (decide (i < j))) (rI0 fun i j => .bl (decide (i ≤ j))) ta tb tc) σ H (.bl (decide (a < b) && decide (b ≤ c))) := fun H1 e Q q =>
  ha H1 e _ fun H2 e2 => hb H2 (e.trans e2) _ fun H3 e3 => ⟨a, b, rfl, rfl, _, rfl, by
    by_cases h : a < b
    · rw [if_pos (decide_eq_true h)]
      exact hc H3 ((e.trans e2).trans e3) _ fun H4 e4 => ⟨b, c, rfl, rfl, by
        have := q H4 ((e2.trans e3).trans e4)
        rw [decide_eq_true h] at this
        exact this⟩
    · rw [if_neg (by rw [decide_eq_false h]; decide)]
      have := q H3 (e2.trans e3)
      rw [decide_eq_false h] at this
      exact this⟩
theorem cb1 {r : List V → Hp → VK → Prop} {t : TE} {σ : St} {H : Hp} {Q : VK} (h : t σ H fun x H1 => r [x] H1 Q) : tCB r (tCons t tNil) σ H Q := h
theorem ret1 {t : TE} {D : Ends} {σ : St} {H : Hp} (h : t σ H D.rt) : tRet t D σ H := h
theorem given_eq (xs : List Int) (p : Int → Bool) : given xs.length (fun i => p (xs.getD i 0)) (fun i => V.int (xs.getD i 0)) = (xs.filter p).map V.int := by
  have e : xs = (List.range xs.length).map (fun i => xs.getD i 0) := by
    apply List.ext_getElem
    · simp
    · intro i h1 h2
      simp [List.getD_eq_getElem?_getD, h1]
  unfold given
  conv => rhs; rw [e, List.filter_map, List.map_map]
  rfl
section
variable {P : Program} {w : World} {K : PySem.W.Frag} {mg : Str → Option Value} {base : Heap} {ca : Nat → Addr} {fbe fnn fnum fla ffa fwr fstr C : Addr}
/-- the second numbers at which the rows may end, and the last one -/
def LastsOf (β f m : Nat) (ns : List Nat) : Prop := ns.Pairwise (· < ·) ∧ (∀ k, k ∈ ns ↔ (f < k ∧ k ≤ m ∧ (k = m ∨ Cut β f m k))) ∧ ns.length ≤ 61
def spLasts : Sp := fun vs H Q _ => ∃ (β f m : Nat), vs = [.int β, .int f, .int m] ∧ 2 ≤ β ∧ β ≤ 10 ∧ 1 ≤ f ∧ f < m ∧ m < 2 ^ 30 ∧ ∀ (ns : List Nat) (p : Addr) (H' : Hp), LastsOf β f m ns → Ex H H' → H p = none → H' p = some (.lst (ns.map fun (n : Nat) => V.int (n : Int))) → Q (.ref p) H'
abbrev nLasts : List Str := ["base", "first", "most", "found", "power", "last"]
theorem scLasts : FnScope nLasts ["base", "first", "most"] (defScope sLasts) := ⟨rfl, rfl, rfl, by decide +kernel, rfl, by decide +kernel, by decide +kernel⟩
theorem ok_lasts {f : Addr} {fd fd1 : FuncData} (F : Fun K "lasts_of" "lasts_of" sLasts f fd) (GB : FnOk P w K mg base CX0 1 fbe fd1 ["number", "remainder", "step"] spBehind) (bB : Binds K fd1 ["number", "remainder", "step"] []) (T : TxSt K mg fbe fnn fnum fla ffa fwr fstr) :
    FnOk P w K mg base CX0 2 f fd ["base", "first", "most"] spLasts := by
  refine F.ok scLasts (fun vs H Q E h => ?_) (fun cdv A outer s H vs Q E hr h => ?_)
  · obtain ⟨_, _, _, rfl, _⟩ := h
    rfl
  · obtain ⟨β, f, m, rfl, b2, b10, f1, fm, m30, q⟩ := h
    refine ⟨_, pss_cons (ps_set (i := 3) scLasts.nd rfl (.inl rfl) (pe_lst (pa_cons (pv 2) pa_nil)))
      (pss_cons (ps_set (i := 4) scLasts.nd rfl (.inl rfl) pe_int)
      (pss_cons (ps_while PassesOwn.never (pt_cmpR op_le (pv 4) (pv 2) (nomark _))
        (pss_cons (ps_expr (pe_bm PySem.F.plainAttrs_list PySem.F.slot_list_extend PySem.F.type_list_extend mt_extend (pv 3) (pa_cons (pe_lst (pa_cons (pe_op op_sub (pe_call GB hr (by rfl) T.behind T.kBe bB .nil pass0 (pa_cons (pv 1) (pa_cons pe_int (pa_cons (pv 4) pa_nil)))) pe_int) (pa_cons (pe_op op_add (pv 1) (pv 4)) pa_nil))) pa_nil)))
        (pss_one (ps_set (i := 4) scLasts.nd rfl (.inl rfl) (pe_op op_mul (pv 4) (pv 0))))))
      (pss_one (ps_ret (pe_callB (id := "sorted") (cr_sortedSet rfl) (by rfl) T.sorted (by decide +kernel) (pa_cons (pe_callTy (T := "set") (SetL.cr_setL rfl) (by rfl) T.set (by decide +kernel)
        (pa_cons (pe_lc (own := [("last", 5)]) (g := gName 5) rfl scLasts.nd (pi_list (pv 3)) (blkOk_by (own := [("last", 5)]) (N := nLasts) (sc := defScope sLasts) (by decide +kernel)) (fun _ _ _ _ _ => pg_name (i := 5) scLasts.nd rfl (Or.inl rfl))
            (fun _ _ _ _ _ => pts_one (pt_chain op_lt op_le (pv 1) (pv 5) (pv 2))) (fun _ _ _ _ _ => pv 5)) pa_nil)) pa_nil)))))), ?_⟩
    refine q_asgL (xs := [V.int (m : Int)]) (el_lst (ea_cons (ev_var rfl) ea_nil) (by simp)) fun l H1 n1 e1 h1 => ?_
    refine q_asg (v := .int ((β ^ 0 : Nat) : Int)) ev_c fun H2 e2 => ?_
    have lt30 : ∀ i, β ^ i ≤ m → i < 30 := fun i h => by
      apply Nat.lt_of_not_le
      intro g
      have h1 : 2 ^ 30 ≤ 2 ^ i := Nat.pow_le_pow_right (by decide) g
      have h2 : 2 ^ i ≤ β ^ i := Nat.pow_le_pow_left b2 _
      omega
    refine q_while (fun n σ' H' => Ex H H' ∧ ∃ (i : Nat) (ks : List Int), σ' = [some (.int β), some (.int f), some (.int m), some (.ref l), some (.int ((β ^ i : Nat) : Int)), none] ∧ i ≤ 30 ∧ n = 30 - i ∧ H' l = some (.lst (ks.map V.int)) ∧ ks.length = 1 + 2 * i ∧ (∀ j < i, β ^ j ≤ m) ∧
        ∀ k, k ∈ ks ↔ (k = (m : Int) ∨ ∃ j < i, k = (cutA β f j : Int) ∨ k = ((f + β ^ j : Nat) : Int))) 30
      ⟨e1.trans e2, 0, [(m : Int)], rfl, by omega, rfl, e2 _ _ h1, rfl, fun j hj => absurd hj (Nat.not_lt_zero j), fun k => ⟨fun h => .inl (List.mem_singleton.mp h), fun h => h.elim (fun h => by rw [h]; exact List.mem_singleton.mpr rfl) fun ⟨j, hj, _⟩ => absurd hj (Nat.not_lt_zero j)⟩⟩ (fun n σ' H' ⟨ex, i, ks, hσ, hi, hn, hl, hlen, hjm, hmem⟩ => ⟨decide (((β ^ i : Nat) : Int) ≤ (m : Int)), ?_, fun z H4 e4 => ?_, fun z H4 e4 => ?_⟩)
    · subst hσ
      exact et_test (ev_op (ev_var rfl) (ev_var rfl) rv_I0)
    · subst hσ
      have z1 := of_decide_eq_true z
      have hi3 := lt30 i (by omega)
      have pw : 0 < β ^ i := Nat.pow_pos (by omega)
      have l4 := e4 _ _ hl
      have eB : Ev (tOp (rI0 fun i j => V.int (i - j)) (tCall spBehind [] E0 (tCons (tVar 1) (tCons (tC (.int 0)) (tCons (tVar 4) tNil)))) (tC (.int 1))) [some (.int β), some (.int f), some (.int m), some (.ref l), some (.int ((β ^ i : Nat) : Int)), none] H4 (.int (cutA β f i : Int)) := by
        rw [← nxt_cut b2]
        exact ev_op (ev_call (ea_cons (ev_var rfl) (ea_cons ev_c (ea_cons (ev_var rfl) ea_nil))) fun H5 e5 Q q E => ⟨_, _, _, rfl, by omega, fun H6 e6 => q H6 e6⟩) ev_c rv_I0
      have eE : EvL (tLst (tCons (tOp (rI0 fun i j => V.int (i - j)) (tCall spBehind [] E0 (tCons (tVar 1) (tCons (tC (.int 0)) (tCons (tVar 4) tNil)))) (tC (.int 1))) (tCons (tOp (rI0 fun i j => V.int (i + j)) (tVar 1) (tVar 4)) tNil))) [some (.int β), some (.int f), some (.int m), some (.ref l), some (.int ((β ^ i : Nat) : Int)), none] H4 ([(cutA β f i : Int), ((f + β ^ i : Nat) : Int)].map V.int) :=
        el_lst (ea_cons eB (ea_cons (by rw [Int.natCast_add]; exact ev_op (ev_var rfl) (ev_var rfl) rv_I0) ea_nil)) (by simp)
      refine ⟨fun σ2 H5 => Ex H H5 ∧ ∃ ks2 : List Int, σ2 = [some (.int β), some (.int f), some (.int m), some (.ref l), some (.int ((β ^ (i + 1) : Nat) : Int)), none] ∧ H5 l = some (.lst (ks2.map V.int)) ∧ ks2.length = 1 + 2 * (i + 1) ∧ (∀ j < i + 1, β ^ j ≤ m) ∧ ∀ k, k ∈ ks2 ↔ (k = (m : Int) ∨ ∃ j < i + 1, k = (cutA β f j : Int) ∨ k = ((f + β ^ j : Nat) : Int)), fun σ2 H5 ⟨ex5, ks2, a, b, c, c2, d⟩ => ⟨30 - (i + 1), by omega, ex5, i + 1, ks2, a, by omega, rfl, b, c, c2, d⟩, ?_⟩
      refine ⟨_, rfl, .inl ⟨rfl, _, sq_of l4⟩, eE H4 (Ex.refl H4) _ fun b H5 nb e5 hb => ⟨l, b, _, _, rfl, rfl, e5 _ _ l4, hb, ?_, ?_⟩⟩
      · rw [sizeLine_eq, List.length_map, List.length_map, hlen]
        simp
        omega
      have nl : H l = none := n1
      show tAsg (tOp (rI CMul fun i j => V.int (i * j)) (tVar 4) (tVar 0)) (gName 4) _ _ _
      refine s_asg (v := .int ((β ^ (i + 1) : Nat) : Int)) (ev_is (ev_op (ev_var rfl) (ev_var rfl) (rv_I (.inr ⟨by omega, by omega⟩))) (by rw [Nat.pow_succ, Int.natCast_mul])) fun H6 e6 => ⟨((ex.trans e4).trans e5).mut nl |>.trans e6, ks ++ [(cutA β f i : Int), ((f + β ^ i : Nat) : Int)], rfl, ?_, ?_, fun j hj => ?_, fun k => ?_⟩
      · rw [List.map_append]
        exact e6 _ _ upd_same
      · rw [List.length_append, hlen]
        simp
        omega
      · by_cases g : j = i
        · subst g
          omega
        · exact hjm j (by omega)
      · rw [List.mem_append, hmem]
        constructor
        · rintro ((h | ⟨j, hj, h⟩) | h)
          · exact .inl h
          · exact .inr ⟨j, by omega, h⟩
          · exact .inr ⟨i, by omega, by simpa using h⟩
        · rintro (h | ⟨j, hj, h⟩)
          · exact .inl (.inl h)
          · by_cases hji : j = i
            · subst hji
              exact .inr (by simpa using h)
            · exact .inl (.inr ⟨j, by omega, h⟩)
    · subst hσ
      have z1 : ¬ ((β ^ i : Nat) : Int) ≤ (m : Int) := of_decide_eq_false z
      have l4 := e4 _ _ hl
      have hi30 := hi
      obtain ⟨fl, hfl⟩ : ∃ fl, fl = ks.filter fun k => decide ((f : Int) < k) && decide (k ≤ (m : Int)) := ⟨_, rfl⟩
      have eL : EvL (tLc (iList K (tVar 3)) (gName 5) (tTest (tChain (rI0 fun i j => V.bl (decide (i < j))) (rI0 fun i j => V.bl (decide (i ≤ j))) (tVar 1) (tVar 5) (tVar 2))) (tVar 5) [5]) [some (.int β), some (.int f), some (.int m), some (.ref l), some (.int ((β ^ i : Nat) : Int)), none] H4 (fl.map V.int) := by
        rw [hfl, ← given_eq]
        have hx : ∀ {i : Nat} {x : V}, (ks.map V.int)[i]? = some x → x = .int (ks.getD i 0) := fun {i x} h => by
          rw [List.getElem?_map] at h
          obtain ⟨k, hk, rfl⟩ := Option.map_eq_some_iff.mp h
          rw [List.getD_eq_getElem?_getD, hk]
          rfl
        have := el_lcL (K := K) (te := tVar 5) (t := tTest (tChain (rI0 fun i j => V.bl (decide (i < j))) (rI0 fun i j => V.bl (decide (i ≤ j))) (tVar 1) (tVar 5) (tVar 2))) (j := 5) (vs := [5]) (σ := [some (.int β), some (.int f), some (.int m), some (.ref l), some (.int ((β ^ i : Nat) : Int)), none]) (tl := tVar 3) (fun i => decide ((f : Int) < ks.getD i 0) && decide (ks.getD i 0 ≤ (m : Int))) (fun i => V.int (ks.getD i 0)) (ev_var rfl) (sq_of l4) (by rw [List.length_map]; omega) (fun _ => rfl) (fun i x H5 e5 h => ?_) (fun i x H5 e5 h _ => ?_)
        · rw [List.length_map] at this
          exact this
        · rw [hx h]
          exact et_test (ev_chLI (ev_var rfl) (ev_var rfl) (ev_var rfl))
        · rw [hx h]
          exact ev_var rfl
      have hfm : ∀ k, k ∈ fl ↔ ((f : Int) < k ∧ k ≤ (m : Int) ∧ (k = (m : Int) ∨ ∃ j < i, k = (cutA β f j : Int) ∨ k = ((f + β ^ j : Nat) : Int))) := fun k => by
        rw [hfl, List.mem_filter, hmem, Bool.and_eq_true_iff, decide_eq_true_iff, decide_eq_true_iff]
        constructor
        · rintro ⟨h1, h2, h3⟩
          exact ⟨h2, h3, h1⟩
        · rintro ⟨h1, h2, h3⟩
          exact ⟨h3, h1, h2⟩
      have hfl61 : fl.length ≤ 61 := by
        rw [hfl]
        exact Nat.le_trans (List.length_filter_le _ _) (by omega)
      refine ret1 (cb1 (cb1 (eL H4 (Ex.refl H4) _ fun a H5 na e5 ha => ⟨a, fl, rfl, sq_of ha, by omega, fun c p hc hp => ⟨p, _, c, rfl, upd_same, by omega, fun js p2 hs hm hlj hp2 => ?_⟩⟩)))
      have hpos : ∀ j ∈ js, (f : Int) < j := fun j hj => ((hfm j).mp (of_decide_eq_true ((hm j).mp hj))).1
      have ejs : js.map V.int = (js.map Int.toNat).map fun (n : Nat) => V.int (n : Int) := by
        rw [List.map_map]
        refine List.map_congr_left fun j hj => ?_
        have := hpos j hj
        show V.int j = V.int (j.toNat : Int)
        rw [Int.toNat_of_nonneg (by omega)]
      have ex4 : Ex H H4 := ex.trans e4
      have pn : p2 ≠ p := fun g => by
        rw [g] at hp2
        rw [upd_same] at hp2
        cases hp2
      refine q (js.map Int.toNat) p2 _ ⟨?_, fun k => ?_, by rw [List.length_map, hlj]; omega⟩ (((ex4.trans e5).trans (Ex.new hp)).trans (Ex.new hp2)) ?_ (by rw [ejs]; exact upd_same)
      · rw [List.pairwise_map]
        exact hs.imp_of_mem fun {a b} ha hb h => by
          have := hpos a ha
          have := hpos b hb
          omega
      · rw [List.mem_map]
        have hk : (∃ a ∈ js, a.toNat = k) ↔ ((k : Int) ∈ js) := by
          constructor
          · rintro ⟨a, ha, rfl⟩
            have := hpos a ha
            rw [Int.toNat_of_nonneg (by omega)]
            exact ha
          · intro h
            exact ⟨_, h, Int.toNat_natCast k⟩
        rw [hk, hm, decide_eq_true_iff, hfm]
        constructor
        · rintro ⟨h1, h2, h3⟩
          refine ⟨by omega, by omega, ?_⟩
          rcases h3 with h3 | ⟨j, hj, h3⟩
          · exact .inl (by omega)
          · refine .inr ⟨j, ?_, ?_⟩
            · exact hjm j hj
            · rcases h3 with h3 | h3
              · exact .inl (by omega)
              · exact .inr (by omega)
        · rintro ⟨h1, h2, h3⟩
          refine ⟨by omega, by omega, ?_⟩
          rcases h3 with h3 | ⟨j, hj, h3⟩
          · exact .inl (by omega)
          · refine .inr ⟨j, ?_, ?_⟩
            · apply Nat.lt_of_not_le
              intro g
              have : β ^ i ≤ β ^ j := Nat.pow_le_pow_right (by omega) g
              omega
            · rcases h3 with h3 | h3
              · exact .inl (by omega)
              · exact .inr (by omega)
      · exact fresh_back (((ex4.trans e5).trans (Ex.new hp))) hp2
end
end Dt

/-! Rules as they are shown, laid and cut. -/
namespace Dt
open PySem L2 Evl Dg LamR LamX TL
open Dr (StAt SameB)
/-! Data that stands in the written form -/
mutual
/-- no dict in it -/
def noK : PyData → Bool
  | .list ds => noKs ds
  | .dict _ => false
  | .tuple ds => noKs ds
  | _ => true
def noKs : List PyData → Bool
  | [] => true
  | d :: ds => noK d && noKs ds
end
mutual
theorem noL_K : ∀ {d : PyData}, noL d = true → noK d = true
  | .none, _ => rfl
  | .bool _, _ => rfl
  | .int _, _ => rfl
  | .str _, _ => rfl
  | .tuple ds, h => by
    rw [noK]
    exact noLs_K (by rw [noL] at h; exact h)
  | .list _, h => by rw [noL] at h; cases h
  | .dict _, h => by rw [noL] at h; cases h
theorem noLs_K : ∀ {ds : List PyData}, noLs ds = true → noKs ds = true
  | [], _ => rfl
  | d :: ds, h => by
    rw [noLs, Bool.and_eq_true] at h
    rw [noKs, noL_K h.1, noLs_K h.2]
    rfl
end
mutual
theorem Pt.dp {K : PySem.W.Frag} {H : Hp} : ∀ {v : V} {d : PyData}, Pt H v d → noK d = true → Dp K H v d
  | _, .none, h, _ => by cases h; exact .non
  | _, .bool _, h, _ => by cases h; exact .bl _
  | _, .int _, h, _ => by cases h; exact .int _
  | _, .str _, h, _ => by cases h with | str _ _ => exact .str _
  | _, .tuple ds, h, k => by
    cases h with
    | tup hs ha => exact .tup (st_of hs) (PtAll.dp ha (by rw [noK] at k; exact k))
  | _, .list ds, h, k => by
    cases h with
    | lst hs ha => exact .lst (sq_of hs) (PtAll.dp ha (by rw [noK] at k; exact k))
  | _, .dict _, _, k => by rw [noK] at k; cases k
theorem PtAll.dp {K : PySem.W.Frag} {H : Hp} : ∀ {vs : List V} {ds : List PyData}, PtAll H vs ds → noKs ds = true → DpAll K H vs ds
  | _, [], h, _ => by cases h; exact .nil
  | _, d :: ds, h, k => by
    cases h with
    | cons h1 h2 =>
      rw [noKs, Bool.and_eq_true] at k
      exact .cons (Pt.dp h1 k.1) (PtAll.dp h2 k.2)
end
theorem PtAll.drop {H : Hp} : ∀ {vs : List V} {ds : List PyData}, PtAll H vs ds → ∀ n : Nat, PtAll H (vs.drop n) (ds.drop n)
  | _, [], h, n => by
    cases h
    rw [List.drop_nil, List.drop_nil]
    exact .nil
  | _, d :: ds, h, n => by
    cases h with
    | cons h1 h2 =>
      cases n with
      | zero => exact .cons h1 h2
      | succ n => exact PtAll.drop h2 n
def cutD (ds : List PyData) (lo hi : Option Int) : List PyData := (ds.drop (HT.sIx ds.length 0 lo)).take (HT.sIx ds.length ds.length hi - HT.sIx ds.length 0 lo)
theorem mem_cut {ds : List PyData} {lo hi : Option Int} {d : PyData} (h : d ∈ cutD ds lo hi) : d ∈ ds := List.mem_of_mem_drop (List.mem_of_mem_take h)
theorem len_cut (ds : List PyData) (lo hi : Option Int) : (cutD ds lo hi).length ≤ ds.length := by
  unfold cutD
  rw [List.length_take, List.length_drop]
  omega
theorem cut_whole {ds : List PyData} {lo hi : Option Int} (h : HT.sIx ds.length 0 lo = 0 ∧ HT.sIx ds.length ds.length hi = ds.length) : cutD ds lo hi = ds := by
  unfold cutD
  rw [h.1, h.2, List.drop_zero, Nat.sub_zero, List.take_length]
theorem PtAll.cut {H : Hp} {vs : List V} {ds : List PyData} (h : PtAll H vs ds) (lo hi : Option Int) : PtAll H (cutV vs lo hi) (cutD ds lo hi) := by
  unfold cutV cutD
  rw [h.length]
  exact (h.drop _).take _
section
variable {K : PySem.W.Frag} {H : Hp} {Q : VK}
theorem rd_sl {a : Addr} {xs : List V} {Ds : List PyData} {lo hi : Option Int} (h : H a = some (.tup xs)) (ka : PtAll H xs Ds) (k : ∀ b H' ys, Ex H H' → H' b = some (.tup ys) → PtAll H' ys (cutD Ds lo hi) → Q (.ref b) H') : rSlA K (.ref a) lo hi H Q := by
  refine ⟨a, xs, rfl, st_of h, fun hw => ?_, fun hw p hp => ?_⟩
  · rw [ka.length] at hw
    exact k a H xs (Ex.refl H) h (by rw [cut_whole hw]; exact ka)
  · exact k p _ _ (Ex.new hp) upd_same ((ka.cut lo hi).ex (Ex.new hp))
theorem rd_cat {a b : Addr} {xs ys : List V} {Ds Es : List PyData} (ha : H a = some (.tup xs)) (hb : H b = some (.tup ys)) (ka : PtAll H xs Ds) (kb : PtAll H ys Es) (hl : Ds.length + Es.length ≤ 100000) (k : ∀ c H' zs, Ex H H' → H' c = some (.tup zs) → PtAll H' zs (Ds ++ Es) → Q (.ref c) H') : rCatA K (.ref a) (.ref b) H Q := by
  refine ⟨a, b, xs, ys, rfl, rfl, st_of ha, st_of hb, sz_of (by rw [ka.length, kb.length]; exact hl), fun hx => ?_, fun hx hy => ?_, fun hx hy p hp => ?_⟩
  · have : Ds = [] := by
      have := ka.length
      rw [hx] at this
      exact List.length_eq_zero_iff.mp this.symm
    subst this
    exact k b H ys (Ex.refl H) hb kb
  · have : Es = [] := by
      have := kb.length
      rw [hy] at this
      exact List.length_eq_zero_iff.mp this.symm
    subst this
    rw [List.append_nil] at k
    exact k a H xs (Ex.refl H) ha ka
  · exact k p _ _ (Ex.new hp) upd_same ((ka.app kb).ex (Ex.new hp))
end
/-! small: what is shown of a rule -/
structure Ts (d : PyData) (m n : Nat) : Prop where
  p : plainD d
  c : cap d ≤ m
  e : d.depth ≤ n
  l : d.canLay0 = true
theorem ts_int {i : Int} (h : i.natAbs < 2 ^ 64) : Ts (.int i) 1921 0 := ⟨by
  show i.natAbs.log2 < 1920
  by_cases hz : i.natAbs = 0
  · rw [hz]; decide
  · exact Nat.lt_of_lt_of_le ((Nat.log2_lt hz).mpr h) (by decide), by simp [cap], by simp [PyData.depth], rfl⟩
theorem figs1 : ∀ c < 10, (PyData.str ⟨#[48 + c]⟩).canLay0 = true := by decide +kernel
theorem figs2 : ∀ c < 10, ∀ d < 10, (PyData.str ⟨#[48 + c, 48 + d]⟩).canLay0 = true := by decide +kernel
theorem figs_cases {β : Nat} {x : Str} (b10 : β ≤ 10) (h : isFigs β 2 x = true) : (∃ c, c < 10 ∧ x = ⟨#[48 + c]⟩) ∨ ∃ c d, c < 10 ∧ d < 10 ∧ x = ⟨#[48 + c, 48 + d]⟩ := by
  unfold isFigs at h
  rw [Bool.and_eq_true, Bool.and_eq_true] at h
  obtain ⟨⟨h1, h2⟩, h3⟩ := h
  have h1 := of_decide_eq_true h1
  have h2 := of_decide_eq_true h2
  obtain ⟨⟨l⟩⟩ := x
  have hl : (Str.length ⟨⟨l⟩⟩) = l.length := rfl
  rw [hl] at h1 h2
  have h3 : l.all (fun c => decide (48 ≤ c ∧ c < 48 + β)) = true := h3
  match l, h1, h2, h3 with
  | [a], _, _, h3 =>
    simp only [List.all_cons, List.all_nil, Bool.and_true, decide_eq_true_eq] at h3
    exact .inl ⟨a - 48, by omega, by rw [show 48 + (a - 48) = a by omega]⟩
  | [a, b], _, _, h3 =>
    simp only [List.all_cons, List.all_nil, Bool.and_true, Bool.and_eq_true, decide_eq_true_eq] at h3
    exact .inr ⟨a - 48, b - 48, by omega, by omega, by rw [show 48 + (a - 48) = a by omega, show 48 + (b - 48) = b by omega]⟩
theorem ts_figs {β : Nat} {x : Str} (b10 : β ≤ 10) (h : isFigs β 2 x = true) : Ts (.str x) 22 0 := by
  rcases figs_cases b10 h with ⟨c, hc, rfl⟩ | ⟨c, d, hc, hd, rfl⟩
  · exact ⟨fun e he => by
      have : e = 48 + c := by simpa using he
      rw [this]
      exact Nat.lt_of_lt_of_le (show 48 + c < 58 by omega) (by decide), by simp [cap, Str.length], by simp [PyData.depth], figs1 c hc⟩
  · exact ⟨fun e he => by
      have : e = 48 + c ∨ e = 48 + d := by simpa using he
      rcases this with rfl | rfl
      · exact Nat.lt_of_lt_of_le (show 48 + c < 58 by omega) (by decide)
      · exact Nat.lt_of_lt_of_le (show 48 + d < 58 by omega) (by decide), by simp [cap, Str.length], by simp [PyData.depth], figs2 c hc d hd⟩
theorem ts_word {w : Str} (h : w = "ends" ∨ w = "near" ∨ w = "length" ∨ w = "changed" ∨ w = "all" ∨ w = "last") : Ts (.str w) 72 0 := by
  have one : ∀ {w : Str}, (∀ c ∈ w.cps.toList, c < 16 ^ 8) → w.length ≤ 7 → (PyData.str w).canLay0 = true → Ts (.str w) 72 0 := fun h1 h2 h3 => ⟨h1, by simp only [cap]; omega, by simp [PyData.depth], h3⟩
  rcases h with rfl | rfl | rfl | rfl | rfl | rfl <;> exact one (by decide) (by decide) (by decide +kernel)
theorem ts_non : Ts .none 4 0 := ⟨trivial, by simp [cap], by simp [PyData.depth], rfl⟩
theorem Ts.up {d : PyData} {m m' n n' : Nat} (t : Ts d m n) (h : m ≤ m') (k : n ≤ n') : Ts d m' n' := ⟨t.p, Nat.le_trans t.c h, Nat.le_trans t.e k, t.l⟩
inductive TsAll (m n : Nat) : List PyData → Prop
  | nil : TsAll m n []
  | cons {d : PyData} {ds : List PyData} : Ts d m n → TsAll m n ds → TsAll m n (d :: ds)
theorem TsAll.tup {m n : Nat} {ds : List PyData} (h : TsAll m n ds) : Ts (.tuple ds) (ds.length * (m + 2) + 4) (n + 1) := by
  have key : plainAll ds ∧ capAll ds ≤ ds.length * (m + 2) ∧ PyData.depthAll ds ≤ n ∧ PyData.canLayAll0 ds = true := by
    induction h with
    | nil => exact ⟨trivial, Nat.zero_le _, Nat.zero_le _, rfl⟩
    | cons h t ih =>
      obtain ⟨a, b, c, d⟩ := ih
      refine ⟨⟨h.p, a⟩, ?_, ?_, ?_⟩
      · have := h.c
        simp only [capAll, List.length_cons, Nat.add_mul]
        omega
      · have := h.e
        simp only [PyData.depthAll]
        omega
      · simp only [PyData.canLayAll0, h.l, d, Bool.and_self]
  obtain ⟨a, b, c, d⟩ := key
  exact ⟨a, by simp only [cap]; omega, by simp only [PyData.depth]; omega, by simpa only [PyData.canLay0] using d⟩
theorem tsAll_of {m n : Nat} : ∀ {ds : List PyData}, (∀ d ∈ ds, Ts d m n) → TsAll m n ds
  | [], _ => .nil
  | d :: ds, h => .cons (h d List.mem_cons_self) (tsAll_of fun e he => h e (List.mem_cons_of_mem _ he))
theorem ts_cond {β : Nat} {d : PyData} (b10 : β ≤ 10) (h : CondS β d) : Ts d 6000 1 := by
  cases h with
  | ends x hx => exact (TsAll.tup (m := 1921) (n := 0) (.cons ((ts_word (.inl rfl)).up (by decide) (by decide)) (.cons ((ts_figs b10 hx).up (by decide) (by decide)) .nil))).up (by simp) (by decide)
  | near i h0 h6 => exact (TsAll.tup (m := 1921) (n := 0) (.cons ((ts_word (.inr (.inl rfl))).up (by decide) (by decide)) (.cons (ts_int (by omega)) .nil))).up (by simp) (by decide)
  | len w hw i h1 h6 e he =>
    have tw : Ts (.str w) 72 0 := ts_word (by rcases hw with rfl | rfl <;> simp)
    have te : Ts e 1921 0 := by
      rcases he with rfl | ⟨j, rfl, _, _⟩
      · exact ts_non.up (by decide) (by decide)
      · exact ts_int (by omega)
    exact (TsAll.tup (m := 1921) (n := 0) (.cons (tw.up (by decide) (by decide)) (.cons (ts_int (by omega)) (.cons te .nil)))).up (by simp) (by decide)
theorem ts_keep {d : PyData} (h : KeepS d) : Ts d 6000 1 := by
  cases h with
  | all => exact (TsAll.tup (m := 1921) (n := 0) (.cons ((ts_word (by simp)).up (by decide) (by decide)) .nil)).up (by decide) (by decide)
  | size w hw i h1 h6 =>
    have tw : Ts (.str w) 72 0 := ts_word (by rcases hw with rfl | rfl <;> simp)
    exact (TsAll.tup (m := 1921) (n := 0) (.cons (tw.up (by decide) (by decide)) (.cons (ts_int (by omega)) .nil))).up (by simp) (by decide)
theorem ts_conds {β : Nat} {cs : List PyData} (b10 : β ≤ 10) (h3 : cs.length ≤ 3) (h : ∀ c ∈ cs, CondS β c) : Ts (.tuple cs) 20000 2 := (TsAll.tup (m := 6000) (n := 1) (tsAll_of fun c hc => ts_cond b10 (h c hc))).up (by omega) (by decide)
theorem ts_rule {β : Nat} {d : PyData} (b10 : β ≤ 10) (h : ruleB β d = true) : Ts d 50000 3 := by
  obtain ⟨cs, k, rfl, h3, hc, hk⟩ := rule_inv h
  exact (TsAll.tup (m := 20000) (n := 2) (.cons (ts_conds b10 h3 hc) (.cons ((ts_keep hk).up (by decide) (by decide)) .nil))).up (by simp) (by decide)
theorem ts_rules {β : Nat} {ds : List PyData} (b10 : β ≤ 10) (h : ds.all (ruleB β) = true) (hl : ds.length ≤ 20) : Ts (.tuple ds) 1100000 4 :=
  (TsAll.tup (m := 50000) (n := 3) (tsAll_of fun d hd => ts_rule b10 (List.all_eq_true.mp h d hd))).up (by omega) (by decide)
theorem Ts.shaped {d : PyData} {m n : Nat} (t : Ts d m n) (h : n ≤ 60) : SeqAt.shaped d = true := Bool.and_eq_true_iff.mpr ⟨t.l, decide_eq_true (by have := t.e; omega)⟩
theorem eqv_none (cs : List PyData) : PyData.eqv (.tuple cs) (.tuple []) = decide (cs = []) := by
  cases cs with
  | nil => simp [PyData.eqv, PyData.eqvAll]
  | cons n ns => simp [PyData.eqv, PyData.eqvAll]
end Dt

/-! Rules that are shown alike are the same; equal ones are the same. -/
namespace Dt
open PySem L2 Evl Dg LamR LamX TL
open Dr (StAt SameB)
mutual
/-- of None, whole numbers, texts and tuples alone -/
def pl0 : PyData → Bool
  | .none => true
  | .int _ => true
  | .str _ => true
  | .tuple ds => pl0s ds
  | _ => false
def pl0s : List PyData → Bool
  | [] => true
  | d :: ds => pl0 d && pl0s ds
end
mutual
theorem eqv_eq : ∀ {d e : PyData}, pl0 d = true → pl0 e = true → PyData.eqv d e = true → d = e
  | .none, .none, _, _, _ => rfl
  | .int i, .int j, _, _, h => by
    have : i = j := by simpa [PyData.eqv] using h
    rw [this]
  | .str x, .str y, _, _, h => by
    have : x = y := by simpa [PyData.eqv] using h
    rw [this]
  | .tuple ds, .tuple es, h1, h2, h => by
    rw [pl0] at h1 h2
    rw [PyData.eqv] at h
    rw [eqvs_eq h1 h2 h]
  | .none, .int _, _, _, h => by simp [PyData.eqv] at h
  | .none, .str _, _, _, h => by simp [PyData.eqv] at h
  | .none, .tuple _, _, _, h => by simp [PyData.eqv] at h
  | .int _, .none, _, _, h => by simp [PyData.eqv] at h
  | .int _, .str _, _, _, h => by simp [PyData.eqv] at h
  | .int _, .tuple _, _, _, h => by simp [PyData.eqv] at h
  | .str _, .none, _, _, h => by simp [PyData.eqv] at h
  | .str _, .int _, _, _, h => by simp [PyData.eqv] at h
  | .str _, .tuple _, _, _, h => by simp [PyData.eqv] at h
  | .tuple _, .none, _, _, h => by simp [PyData.eqv] at h
  | .tuple _, .int _, _, _, h => by simp [PyData.eqv] at h
  | .tuple _, .str _, _, _, h => by simp [PyData.eqv] at h
  | .bool _, _, h, _, _ => by simp [pl0] at h
  | .list _, _, h, _, _ => by simp [pl0] at h
  | .dict _, _, h, _, _ => by simp [pl0] at h
  | _, .bool _, _, h, _ => by simp [pl0] at h
  | _, .list _, _, h, _ => by simp [pl0] at h
  | _, .dict _, _, h, _ => by simp [pl0] at h
theorem eqvs_eq : ∀ {ds es : List PyData}, pl0s ds = true → pl0s es = true → PyData.eqvAll ds es = true → ds = es
  | [], [], _, _, _ => rfl
  | d :: ds, e :: es, h1, h2, h => by
    rw [pl0s, Bool.and_eq_true] at h1 h2
    rw [PyData.eqvAll, Bool.and_eq_true] at h
    rw [eqv_eq h1.1 h2.1 h.1, eqvs_eq h1.2 h2.2 h.2]
  | [], _ :: _, _, _, h => by simp [PyData.eqvAll] at h
  | _ :: _, [], _, _, h => by simp [PyData.eqvAll] at h
end
mutual
theorem eqv_self : ∀ {d : PyData}, pl0 d = true → PyData.eqv d d = true
  | .none, _ => by simp [PyData.eqv]
  | .int i, _ => by simp [PyData.eqv]
  | .str x, _ => by simp [PyData.eqv]
  | .tuple ds, h => by
    rw [pl0] at h
    rw [PyData.eqv]
    exact eqvs_self h
  | .bool _, h => by simp [pl0] at h
  | .list _, h => by simp [pl0] at h
  | .dict _, h => by simp [pl0] at h
theorem eqvs_self : ∀ {ds : List PyData}, pl0s ds = true → PyData.eqvAll ds ds = true
  | [], _ => by simp [PyData.eqvAll]
  | d :: ds, h => by
    rw [pl0s, Bool.and_eq_true] at h
    rw [PyData.eqvAll, eqv_self h.1, eqvs_self h.2]
    rfl
end
theorem pl0s_all : ∀ {ds : List PyData}, (∀ d ∈ ds, pl0 d = true) → pl0s ds = true
  | [], _ => rfl
  | d :: ds, h => by
    rw [pl0s, h d List.mem_cons_self, pl0s_all fun e he => h e (List.mem_cons_of_mem _ he)]
    rfl
theorem cond_pl0 {β : Nat} {d : PyData} (h : CondS β d) : pl0 d = true := by
  cases h with
  | ends x h => rfl
  | near i h0 h6 => rfl
  | len w hw i h1 h6 e he =>
    rcases he with rfl | ⟨j, rfl, _, _⟩ <;> rfl
theorem keep_pl0 {d : PyData} (h : KeepS d) : pl0 d = true := by
  cases h <;> rfl
theorem rule_pl0 {β : Nat} {d : PyData} (h : ruleB β d = true) : pl0 d = true := by
  obtain ⟨cs, k, rfl, _, hc, hk⟩ := rule_inv h
  rw [pl0, pl0s, pl0, pl0s, pl0s, keep_pl0 hk, pl0s_all fun c h => cond_pl0 (hc c h)]
  rfl
theorem rules_pl0 {β : Nat} {ds : List PyData} (h : ds.all (ruleB β) = true) : pl0 (.tuple ds) = true := by
  rw [pl0]
  exact pl0s_all fun d hd => rule_pl0 (List.all_eq_true.mp h d hd)
/-- tuples of rules are equal where they are the same -/
theorem rules_eqv {β γ : Nat} {ds es : List PyData} (h : ds.all (ruleB β) = true) (k : es.all (ruleB γ) = true) : PyData.eqv (.tuple ds) (.tuple es) = true ↔ ds = es := by
  constructor
  · intro z
    have := eqv_eq (rules_pl0 h) (rules_pl0 k) z
    injection this with this
  · rintro rfl
    exact eqv_self (rules_pl0 k)
/-! how tuples are shown -/
theorem tl_t0 : tl (PyData.tuple []).shown = [40, 41] := by decide +kernel
theorem tl_t1 (a : PyData) : tl (PyData.tuple [a]).shown = 40 :: (tl a.shown ++ [44, 41]) := by
  have e : (PyData.tuple [a]).shown = ("(" : Str) ++ a.shown ++ (",)" : Str) := by
    simp only [PyData.shown, PyData.shownAll, PySem.tupleText]
    rfl
  rw [e]
  simp only [tl_append]
  have e1 : tl ("(" : Str) = [40] := by decide
  have e2 : tl (",)" : Str) = [44, 41] := by decide
  rw [e1, e2]
  simp
theorem tl_t2 (a b : PyData) : tl (PyData.tuple [a, b]).shown = 40 :: (tl a.shown ++ (44 :: 32 :: (tl b.shown ++ [41]))) := by
  have e : (PyData.tuple [a, b]).shown = ("(" : Str) ++ (a.shown ++ ", " ++ b.shown) ++ (")" : Str) := by
    simp only [PyData.shown, PyData.shownAll, PySem.tupleText]
    rfl
  rw [e]
  simp only [tl_append]
  have e1 : tl ("(" : Str) = [40] := by decide
  have e2 : tl (")" : Str) = [41] := by decide
  have e3 : tl (", " : Str) = [44, 32] := by decide
  rw [e1, e2]
  show [40] ++ (tl a.shown ++ tl (", " : Str) ++ tl b.shown) ++ [41] = _
  rw [e3]
  simp
theorem tl_t3 (a b c : PyData) : tl (PyData.tuple [a, b, c]).shown = 40 :: (tl a.shown ++ (44 :: 32 :: (tl b.shown ++ (44 :: 32 :: (tl c.shown ++ [41]))))) := by
  have e : (PyData.tuple [a, b, c]).shown = ("(" : Str) ++ (a.shown ++ ", " ++ (b.shown ++ ", " ++ c.shown)) ++ (")" : Str) := by
    simp only [PyData.shown, PyData.shownAll, PySem.tupleText]
    rfl
  rw [e]
  simp only [tl_append]
  have e1 : tl ("(" : Str) = [40] := by decide
  have e2 : tl (")" : Str) = [41] := by decide
  have e3 : tl (", " : Str) = [44, 32] := by decide
  rw [e1, e2]
  show [40] ++ (tl a.shown ++ tl (", " : Str) ++ (tl b.shown ++ tl (", " : Str) ++ tl c.shown)) ++ [41] = _
  rw [e3]
  simp
theorem tl_tC (c : PyData) (r : List PyData) : ∃ rest, tl (PyData.tuple (c :: r)).shown = 40 :: (tl c.shown ++ rest) := by
  have e1 : tl ("(" : Str) = [40] := by decide
  cases r with
  | nil => exact ⟨_, tl_t1 c⟩
  | cons d r =>
    refine ⟨tl (", " : Str) ++ tl (Str.join ", " (PyData.shownAll (d :: r))) ++ tl (")" : Str), ?_⟩
    have e : (PyData.tuple (c :: d :: r)).shown = ("(" : Str) ++ (c.shown ++ ", " ++ Str.join ", " (PyData.shownAll (d :: r))) ++ (")" : Str) := by
      simp only [PyData.shown, PyData.shownAll, PySem.tupleText]
      rfl
    rw [e, tl_append, tl_append, tl_append, tl_append, e1]
    simp
theorem t_ends : tl (PyData.str "ends").shown = [39, 101, 110, 100, 115, 39] := by decide +kernel
theorem t_near : tl (PyData.str "near").shown = [39, 110, 101, 97, 114, 39] := by decide +kernel
theorem t_len : tl (PyData.str "length").shown = [39, 108, 101, 110, 103, 116, 104, 39] := by decide +kernel
theorem t_chg : tl (PyData.str "changed").shown = [39, 99, 104, 97, 110, 103, 101, 100, 39] := by decide +kernel
theorem t_all : tl (PyData.str "all").shown = [39, 97, 108, 108, 39] := by decide +kernel
theorem t_last : tl (PyData.str "last").shown = [39, 108, 97, 115, 116, 39] := by decide +kernel
theorem t_non : tl PyData.none.shown = [78, 111, 110, 101] := by decide +kernel
theorem t_dig : ∀ i < 10, tl (PyData.int (i : Nat)).shown = [48 + i] := by decide +kernel
theorem t_f1 : ∀ c < 10, tl (PyData.str ⟨#[48 + c]⟩).shown = [39, 48 + c, 39] := by decide +kernel
theorem t_f2 : ∀ c < 10, ∀ d < 10, tl (PyData.str ⟨#[48 + c, 48 + d]⟩).shown = [39, 48 + c, 48 + d, 39] := by decide +kernel
/-- the conditions, with how they are shown -/
inductive CN : PyData → List Nat → Prop
  | e1 (c : Nat) (h : c < 10) : CN (.tuple [.str "ends", .str ⟨#[48 + c]⟩]) [40, 39, 101, 110, 100, 115, 39, 44, 32, 39, 48 + c, 39, 41]
  | e2 (c d : Nat) (h : c < 10) (k : d < 10) : CN (.tuple [.str "ends", .str ⟨#[48 + c, 48 + d]⟩]) [40, 39, 101, 110, 100, 115, 39, 44, 32, 39, 48 + c, 48 + d, 39, 41]
  | nr (i : Nat) (h : i ≤ 6) : CN (.tuple [.str "near", .int (i : Nat)]) [40, 39, 110, 101, 97, 114, 39, 44, 32, 48 + i, 41]
  | lN (i : Nat) (h : i ≤ 6) : CN (.tuple [.str "length", .int (i : Nat), .none]) [40, 39, 108, 101, 110, 103, 116, 104, 39, 44, 32, 48 + i, 44, 32, 78, 111, 110, 101, 41]
  | lJ (i j : Nat) (h : i ≤ 6) (k : j ≤ 6) : CN (.tuple [.str "length", .int (i : Nat), .int (j : Nat)]) [40, 39, 108, 101, 110, 103, 116, 104, 39, 44, 32, 48 + i, 44, 32, 48 + j, 41]
  | cN (i : Nat) (h : i ≤ 6) : CN (.tuple [.str "changed", .int (i : Nat), .none]) [40, 39, 99, 104, 97, 110, 103, 101, 100, 39, 44, 32, 48 + i, 44, 32, 78, 111, 110, 101, 41]
  | cJ (i j : Nat) (h : i ≤ 6) (k : j ≤ 6) : CN (.tuple [.str "changed", .int (i : Nat), .int (j : Nat)]) [40, 39, 99, 104, 97, 110, 103, 101, 100, 39, 44, 32, 48 + i, 44, 32, 48 + j, 41]
theorem cn_of {β : Nat} {d : PyData} (b10 : β ≤ 10) (h : CondS β d) : CN d (tl d.shown) := by
  cases h with
  | ends x hx =>
    rcases figs_cases b10 hx with ⟨c, hc, rfl⟩ | ⟨c, e, hc, he, rfl⟩
    · rw [tl_t2, t_ends, t_f1 c hc]
      exact .e1 c hc
    · rw [tl_t2, t_ends, t_f2 c hc e he]
      exact .e2 c e hc he
  | near i h0 h6 =>
    obtain ⟨n, rfl⟩ : ∃ n : Nat, i = (n : Int) := ⟨i.toNat, by omega⟩
    rw [tl_t2, t_near, t_dig n (by omega)]
    exact .nr n (by omega)
  | len w hw i h1 h6 e he =>
    obtain ⟨n, rfl⟩ : ∃ n : Nat, i = (n : Int) := ⟨i.toNat, by omega⟩
    rcases hw with rfl | rfl
    · rcases he with rfl | ⟨j, rfl, hij, hj⟩
      · rw [tl_t3, t_len, t_dig n (by omega), t_non]
        exact .lN n (by omega)
      · obtain ⟨m, rfl⟩ : ∃ m : Nat, j = (m : Int) := ⟨j.toNat, by omega⟩
        rw [tl_t3, t_len, t_dig n (by omega), t_dig m (by omega)]
        exact .lJ n m (by omega) (by omega)
    · rcases he with rfl | ⟨j, rfl, hij, hj⟩
      · rw [tl_t3, t_chg, t_dig n (by omega), t_non]
        exact .cN n (by omega)
      · obtain ⟨m, rfl⟩ : ∃ m : Nat, j = (m : Int) := ⟨j.toNat, by omega⟩
        rw [tl_t3, t_chg, t_dig n (by omega), t_dig m (by omega)]
        exact .cJ n m (by omega) (by omega)
theorem cn_inj {d e : PyData} {t u r r' : List Nat} (h : CN d t) (k : CN e u) (z : t ++ r = u ++ r') : d = e ∧ r = r' := by
  cases h <;> cases k <;> simp at z <;> first
    | (exfalso; omega)
    | (obtain ⟨rfl, rfl⟩ := z; exact ⟨rfl, rfl⟩)
    | (obtain ⟨rfl, rfl, rfl⟩ := z; exact ⟨rfl, rfl⟩)
    | skip
/-- the keeps, with how they are shown -/
inductive KN : PyData → List Nat → Prop
  | all : KN (.tuple [.str "all"]) [40, 39, 97, 108, 108, 39, 44, 41]
  | ch (i : Nat) (h : i ≤ 6) : KN (.tuple [.str "changed", .int (i : Nat)]) [40, 39, 99, 104, 97, 110, 103, 101, 100, 39, 44, 32, 48 + i, 41]
  | la (i : Nat) (h : i ≤ 6) : KN (.tuple [.str "last", .int (i : Nat)]) [40, 39, 108, 97, 115, 116, 39, 44, 32, 48 + i, 41]
theorem kn_of {d : PyData} (h : KeepS d) : KN d (tl d.shown) := by
  cases h with
  | all =>
    rw [tl_t1, t_all]
    exact .all
  | size w hw i h1 h6 =>
    obtain ⟨n, rfl⟩ : ∃ n : Nat, i = (n : Int) := ⟨i.toNat, by omega⟩
    rcases hw with rfl | rfl
    · rw [tl_t2, t_chg, t_dig n (by omega)]
      exact .ch n (by omega)
    · rw [tl_t2, t_last, t_dig n (by omega)]
      exact .la n (by omega)
theorem kn_inj {d e : PyData} {t u r r' : List Nat} (h : KN d t) (k : KN e u) (z : t ++ r = u ++ r') : d = e ∧ r = r' := by
  cases h <;> cases k <;> simp at z <;> first
    | (exfalso; omega)
    | (subst z; exact ⟨rfl, rfl⟩)
    | (obtain ⟨rfl, rfl⟩ := z; exact ⟨rfl, rfl⟩)
    | skip
theorem cn_head {d : PyData} {t : List Nat} (h : CN d t) : ∃ r, t = 40 :: 39 :: r := by
  cases h <;> exact ⟨_, rfl⟩
/-- the conditions' tuple: how it begins, and that it is told by how it is shown -/
theorem cs_inj {β γ : Nat} {cs es : List PyData} {r r' : List Nat} (b10 : β ≤ 10) (g10 : γ ≤ 10) (h3 : cs.length ≤ 3) (k3 : es.length ≤ 3) (h : ∀ c ∈ cs, CondS β c) (k : ∀ c ∈ es, CondS γ c) (z : tl (PyData.tuple cs).shown ++ r = tl (PyData.tuple es).shown ++ r') : cs = es ∧ r = r' := by
  have hc : ∀ c ∈ cs, CN c (tl c.shown) := fun c hc => cn_of b10 (h c hc)
  have kc : ∀ c ∈ es, CN c (tl c.shown) := fun c hc => cn_of g10 (k c hc)
  match cs, es, h3, k3, hc, kc, z with
  | [], [], _, _, _, _, z =>
    rw [tl_t0] at z
    simp at z
    exact ⟨rfl, z⟩
  | [], a :: as, _, _, _, kc, z =>
    obtain ⟨q, hq⟩ := tl_tC a as
    obtain ⟨q2, hq2⟩ := cn_head (kc a List.mem_cons_self)
    rw [tl_t0, hq, hq2] at z
    simp at z
  | a :: as, [], _, _, hc, _, z =>
    obtain ⟨q, hq⟩ := tl_tC a as
    obtain ⟨q2, hq2⟩ := cn_head (hc a List.mem_cons_self)
    rw [tl_t0, hq, hq2] at z
    simp at z
  | [a], [x], _, _, hc, kc, z =>
    rw [tl_t1, tl_t1] at z
    simp only [List.cons_append, List.append_assoc, List.cons.injEq, true_and] at z
    obtain ⟨rfl, z1⟩ := cn_inj (hc a (by simp)) (kc x (by simp)) z
    simp at z1
    exact ⟨rfl, z1⟩
  | [a], [x, y], _, _, hc, kc, z =>
    rw [tl_t1, tl_t2] at z
    simp only [List.cons_append, List.append_assoc, List.cons.injEq, true_and] at z
    obtain ⟨rfl, z1⟩ := cn_inj (hc a (by simp)) (kc x (by simp)) z
    simp at z1
  | [a], [x, y, w], _, _, hc, kc, z =>
    rw [tl_t1, tl_t3] at z
    simp only [List.cons_append, List.append_assoc, List.cons.injEq, true_and] at z
    obtain ⟨rfl, z1⟩ := cn_inj (hc a (by simp)) (kc x (by simp)) z
    simp at z1
  | [a, b], [x], _, _, hc, kc, z =>
    rw [tl_t2, tl_t1] at z
    simp only [List.cons_append, List.append_assoc, List.cons.injEq, true_and] at z
    obtain ⟨rfl, z1⟩ := cn_inj (hc a (by simp)) (kc x (by simp)) z
    simp at z1
  | [a, b], [x, y], _, _, hc, kc, z =>
    rw [tl_t2, tl_t2] at z
    simp only [List.cons_append, List.append_assoc, List.cons.injEq, true_and] at z
    obtain ⟨rfl, z1⟩ := cn_inj (hc a (by simp)) (kc x (by simp)) z
    injection z1 with _ z1
    injection z1 with _ z1
    first | simp only [List.append_assoc] at z1 | skip
    obtain ⟨rfl, z2⟩ := cn_inj (hc b (by simp)) (kc y (by simp)) z1
    simp at z2
    exact ⟨rfl, z2⟩
  | [a, b], [x, y, w], _, _, hc, kc, z =>
    rw [tl_t2, tl_t3] at z
    simp only [List.cons_append, List.append_assoc, List.cons.injEq, true_and] at z
    obtain ⟨rfl, z1⟩ := cn_inj (hc a (by simp)) (kc x (by simp)) z
    injection z1 with _ z1
    injection z1 with _ z1
    first | simp only [List.append_assoc] at z1 | skip
    obtain ⟨rfl, z2⟩ := cn_inj (hc b (by simp)) (kc y (by simp)) z1
    simp at z2
  | [a, b, c], [x], _, _, hc, kc, z =>
    rw [tl_t3, tl_t1] at z
    simp only [List.cons_append, List.append_assoc, List.cons.injEq, true_and] at z
    obtain ⟨rfl, z1⟩ := cn_inj (hc a (by simp)) (kc x (by simp)) z
    simp at z1
  | [a, b, c], [x, y], _, _, hc, kc, z =>
    rw [tl_t3, tl_t2] at z
    simp only [List.cons_append, List.append_assoc, List.cons.injEq, true_and] at z
    obtain ⟨rfl, z1⟩ := cn_inj (hc a (by simp)) (kc x (by simp)) z
    injection z1 with _ z1
    injection z1 with _ z1
    first | simp only [List.append_assoc] at z1 | skip
    obtain ⟨rfl, z2⟩ := cn_inj (hc b (by simp)) (kc y (by simp)) z1
    simp at z2
  | [a, b, c], [x, y, w], _, _, hc, kc, z =>
    rw [tl_t3, tl_t3] at z
    simp only [List.cons_append, List.append_assoc, List.cons.injEq, true_and] at z
    obtain ⟨rfl, z1⟩ := cn_inj (hc a (by simp)) (kc x (by simp)) z
    injection z1 with _ z1
    injection z1 with _ z1
    first | simp only [List.append_assoc] at z1 | skip
    obtain ⟨rfl, z2⟩ := cn_inj (hc b (by simp)) (kc y (by simp)) z1
    injection z2 with _ z2
    injection z2 with _ z2
    first | simp only [List.append_assoc] at z2 | skip
    obtain ⟨rfl, z3⟩ := cn_inj (hc c (by simp)) (kc w (by simp)) z2
    simp at z3
    exact ⟨rfl, z3⟩
  | _ :: _ :: _ :: _ :: _, _, h3, _, _, _, _ => simp at h3
  | _, _ :: _ :: _ :: _ :: _, _, k3, _, _, _ => simp at k3
theorem rule_inj {β γ : Nat} {d e : PyData} (b10 : β ≤ 10) (g10 : γ ≤ 10) (h : ruleB β d = true) (k : ruleB γ e = true) (z : d.shown = e.shown) : d = e := by
  obtain ⟨cs, q, rfl, h3, hc, hk⟩ := rule_inv h
  obtain ⟨es, u, rfl, k3, kc, kk⟩ := rule_inv k
  have z2 := congrArg tl z
  rw [tl_t2, tl_t2] at z2
  simp only [List.cons.injEq, true_and] at z2
  obtain ⟨rfl, z3⟩ := cs_inj b10 g10 h3 k3 hc kc z2
  simp only [List.cons.injEq, true_and] at z3
  obtain ⟨rfl, _⟩ := kn_inj (kn_of hk) (kn_of kk) z3
  rfl
/-- how a rule begins -/
theorem rule_head {β : Nat} {d : PyData} (b10 : β ≤ 10) (h : ruleB β d = true) : (∃ r, tl d.shown = 40 :: 40 :: 41 :: r) ∨ ∃ c t r, CN c t ∧ tl d.shown = 40 :: 40 :: (t ++ r) := by
  obtain ⟨cs, q, rfl, h3, hc, hk⟩ := rule_inv h
  rw [tl_t2]
  cases cs with
  | nil =>
    rw [tl_t0]
    exact .inl ⟨_, rfl⟩
  | cons c r =>
    obtain ⟨q2, hq⟩ := tl_tC c r
    rw [hq]
    refine .inr ⟨c, tl c.shown, q2 ++ (44 :: 32 :: (tl q.shown ++ [41])), cn_of b10 (hc c List.mem_cons_self), ?_⟩
    simp
/-- the other things that the law looks for in a style -/
def moreD : List PyData := [.tuple [.tuple [.tuple [.str "changed", .int 6, .int 6], .tuple [.str "near", .int 0]], .tuple [.str "last", .int 6]], .tuple [.tuple [.tuple [.str "near", .bool true]], .tuple [.str "all"]], .none, .tuple [], .int 5]
theorem more_no {β : Nat} {d : PyData} (b10 : β ≤ 10) (h : ruleB β d = true) : d.shown ≠ (PyData.tuple [.tuple [.tuple [.str "near", .bool true]], .tuple [.str "all"]]).shown ∧ d.shown ≠ PyData.none.shown ∧ d.shown ≠ (PyData.tuple []).shown ∧ d.shown ≠ (PyData.int 5).shown ∧ d.shown ≠ (PyData.list [.int 1]).shown := by
  have tb : tl (PyData.bool true).shown = [84, 114, 117, 101] := by decide +kernel
  have tL : ∃ r, tl (PyData.list [.int 1]).shown = 91 :: r := ⟨_, (by decide +kernel : tl (PyData.list [.int 1]).shown = 91 :: [49, 93])⟩
  have t5 : tl (PyData.int 5).shown = [53] := by decide +kernel
  refine ⟨fun z => ?_, fun z => ?_, fun z => ?_, fun z => ?_, fun z => ?_⟩ <;> have z2 := congrArg tl z <;> rcases rule_head b10 h with ⟨r, hr⟩ | ⟨c, t, r, hc, hr⟩ <;> rw [hr] at z2
  · rw [tl_t2, tl_t1, tl_t2, t_near] at z2
    simp at z2
  · rw [tl_t2, tl_t1, tl_t2, t_near, tb] at z2
    cases hc <;> simp at z2 <;> try omega
  · rw [t_non] at z2
    simp at z2
  · rw [t_non] at z2
    simp at z2
  · rw [tl_t0] at z2
    simp at z2
  · rw [tl_t0] at z2
    simp at z2
  · rw [t5] at z2
    simp at z2
  · rw [t5] at z2
    simp at z2
  · obtain ⟨q, hq⟩ := tL
    rw [hq] at z2
    simp at z2
  · obtain ⟨q, hq⟩ := tL
    rw [hq] at z2
    simp at z2
theorem more_rules {β : Nat} {d e : PyData} {ds : List PyData} (b10 : β ≤ 10) (h : ruleB β d = true) (k : ruleB β e = true) : d.shown ≠ (PyData.tuple (e :: ds)).shown := fun z => by
  have z2 := congrArg tl z
  obtain ⟨q, hq⟩ := tl_tC e ds
  rw [hq] at z2
  rcases rule_head b10 h with ⟨r, hr⟩ | ⟨c, t, r, hc, hr⟩ <;> rw [hr] at z2 <;> rcases rule_head b10 k with ⟨r2, hr2⟩ | ⟨c2, t2, r2, hc2, hr2⟩ <;> rw [hr2] at z2
  · simp at z2
  · simp at z2
  · obtain ⟨y, rfl⟩ := cn_head hc
    simp at z2
  · obtain ⟨y, rfl⟩ := cn_head hc
    obtain ⟨y2, rfl⟩ := cn_head hc2
    simp at z2
end Dt

/-! stretches, total. -/
namespace Dt
open PySem L2 Evl Dg LamR LamX StX ClX TL
abbrev Row := Nat × (Nat × Nat)
/-- a row as data -/
def rowD (r : Row) : PyData := .tuple [.int r.1, .int r.2.1, .int r.2.2]
/-- rows at the heap -/
def RwAt (H : Hp) : List V → List Row → Prop
  | [], [] => True
  | v :: vs, r :: rs => (∃ a, v = .ref a ∧ H a = some (.tup [.int r.1, .int r.2.1, .int r.2.2])) ∧ RwAt H vs rs
  | _, _ => False
theorem RwAt.len : ∀ {H : Hp} {vs : List V} {rs : List Row}, RwAt H vs rs → vs.length = rs.length
  | _, [], [], _ => rfl
  | _, [], _ :: _, h => h.elim
  | _, _ :: _, [], h => h.elim
  | _, _ :: _, _ :: _, h => by rw [List.length_cons, List.length_cons, h.2.len]
theorem RwAt.ex {H H' : Hp} (e : Ex H H') : ∀ {vs : List V} {rs : List Row}, RwAt H vs rs → RwAt H' vs rs
  | [], [], _ => trivial
  | [], _ :: _, h => h.elim
  | _ :: _, [], h => h.elim
  | _ :: _, _ :: _, ⟨⟨a, h1, h2⟩, h3⟩ => ⟨⟨a, h1, e _ _ h2⟩, h3.ex e⟩
/-- a list changes, the rows don't -/
theorem RwAt.upd {H : Hp} {l : Addr} {xs ys : List V} (hl : H l = some (.lst xs)) : ∀ {vs : List V} {rs : List Row}, RwAt H vs rs → RwAt (upd H l (.lst ys)) vs rs
  | [], [], _ => trivial
  | [], _ :: _, h => h.elim
  | _ :: _, [], h => h.elim
  | _ :: _, _ :: _, ⟨⟨a, h1, h2⟩, h3⟩ => ⟨⟨a, h1, by
      have ne : a ≠ l := fun g => by
        rw [g, hl] at h2
        cases h2
      rw [upd_ne ne]
      exact h2⟩, RwAt.upd hl h3⟩
theorem RwAt.pt {H : Hp} : ∀ {vs : List V} {rs : List Row}, RwAt H vs rs → PtAll H vs (rs.map rowD)
  | [], [], _ => .nil
  | [], _ :: _, h => h.elim
  | _ :: _, [], h => h.elim
  | _ :: _, r :: _, ⟨⟨a, h1, h2⟩, h3⟩ => by
    subst h1
    exact .cons (.tup h2 (.cons (.int _) (.cons (.int _) (.cons (.int _) .nil)))) h3.pt
theorem RwAt.get {H : Hp} : ∀ {vs : List V} {rs : List Row}, RwAt H vs rs → ∀ {i : Nat} {v : V}, vs[i]? = some v → ∃ r, rs[i]? = some r ∧ ∃ a, v = .ref a ∧ H a = some (.tup [.int r.1, .int r.2.1, .int r.2.2])
  | [], [], _, _, _, hv => nomatch hv
  | [], _ :: _, h, _, _, _ => h.elim
  | _ :: _, [], h, _, _, _ => h.elim
  | u :: vs, r :: rs, ⟨⟨a, h1, h2⟩, h3⟩, 0, v, hv => ⟨r, rfl, a, by injection hv with hv; rw [← hv, h1], h2⟩
  | u :: vs, r :: rs, ⟨_, h3⟩, i + 1, v, hv => h3.get (i := i) hv
theorem RwAt.rev {H : Hp} : ∀ {vs ws : List V} {rs ss : List Row}, RwAt H vs rs → RwAt H ws ss → RwAt H (vs.reverse ++ ws) (rs.reverse ++ ss)
  | [], _, [], _, _, h => h
  | [], _, _ :: _, _, h, _ => h.elim
  | _ :: _, _, [], _, h, _ => h.elim
  | v :: vs, ws, r :: rs, ss, ⟨h1, h2⟩, h => by
    rw [List.reverse_cons, List.reverse_cons, List.append_assoc, List.append_assoc]
    exact h2.rev (show RwAt H (v :: ws) (r :: ss) from ⟨h1, h⟩)
theorem atI_last (xs : List V) (v : V) : atI (xs ++ [v]) (-1) = some v := by
  have h1 : ixN (xs ++ [v]).length (-1) = some xs.length := by
    unfold ixN
    rw [if_neg (by decide), if_pos (by rw [List.length_append, List.length_singleton]; omega), List.length_append, List.length_singleton]
    congr 1
    omega
  unfold atI
  rw [h1]
  simp
/-- what stretches tells -/
noncomputable def strR (β f m : Nat) (Ds : List PyData) : List Row := (Rn.rows (keyS β f Ds) [] (List.range' (f + 1) (m - f))).reverse
section
variable {P : Program} {w : World} {K : PySem.W.Frag} {mg : Str → Option Value} {base : Heap} {ca : Nat → Addr} {fbe fnn fnum fla ffa fwr fstr C : Addr}
/-- a first and a last number: refused, or told -/
structure StQ (ca : Nat → Addr) (v u : V) (b c : Bool) (H : Hp) (E : XK) (G : Nat → Nat → Prop) : Prop where
  bad1 : b = false → Leaves (ca 2) "value" v H E
  bad2 : b = true → c = false → Leaves (ca 2) "value" u H E
  good : b = true → c = true → ∃ f m : Nat, v = .int (f : Int) ∧ u = .int (m : Int) ∧ 1 ≤ f ∧ (m ≤ f → Leaves (ca 2) "value" u H E) ∧ (f < m → m < 2 ^ 30 ∧ G f m)
def spStretch (K : PySem.W.Frag) (C : Addr) (ca : Nat → Addr) : Sp := fun vs H Q E => ∃ (x : Addr) (β : Nat) (Ds : List PyData) (v u : V) (b c : Bool), vs = [.ref x, v, u] ∧ StyAt H C x β Ds ∧ 2 ≤ β ∧ β ≤ 10 ∧ RowS β Ds ∧ Nm K H v b ∧ Nm K H u c ∧
  StQ ca v u b c H E fun f m => ∀ (t : Addr) (ws : List V) (H' : Hp), Ex H H' → H t = none → H' t = some (.tup ws) → RwAt H' ws (strR β f m Ds) → (strR β f m Ds).length ≤ 61 → Q (.ref t) H'
abbrev nStretch : List Str := ["style", "first", "most", "base", "rules", "found", "last", "number", "many"]
theorem scStretch : FnScope nStretch ["style", "first", "most"] (defScope sStretch) := ⟨rfl, rfl, rfl, by decide +kernel, rfl, by decide +kernel, by decide +kernel⟩
theorem ok_stretch {f pb gb pr gr : Addr} {fd fd1 fd2 fd3 fd4 fd5 fd6 fd7 : FuncData} (F : Fun K "stretches" "stretches" sStretch f fd) (G1 : FnOk P w K mg base (L2.CX P w) 8 fnn fd1 ["number"] (spNeed (Nm K) (ca 2))) (b1 : Binds K fd1 ["number"] [])
    (G2 : FnOk P w K mg base CX0 8 fnum fd2 ["value"] (spIsNum K)) (b2' : Binds K fd2 ["value"] []) (G3 : FnOk P w K mg base CX0 8 fla fd3 ["base", "first", "most"] spLasts) (b3 : Binds K fd3 ["base", "first", "most"] [])
    (G4 : FnOk P w K mg base CX0 8 fwr fd4 ["rules", "facts"] spWritten) (b4 : Binds K fd4 ["rules", "facts"] []) (G5 : FnOk P w K mg base (L2.CX P w) 8 ffa fd5 ["base", "first", "second"] (spFacts K ca)) (b5 : Binds K fd5 ["base", "first", "second"] [])
    (cl : Cls K C) (pB : PropOf K C "base" pb gb) (G6 : FnOk P w K mg base CX0 7 gb fd6 ["self"] (getSp C "stored_base")) (b6 : Binds K fd6 ["self"] []) (pR : PropOf K C "rules" pr gr) (G7 : FnOk P w K mg base CX0 7 gr fd7 ["self"] (getSp C "stored_rules")) (b7 : Binds K fd7 ["self"] [])
    (M : Mks P K mg (ca 2) ["value"]) (gC : mg "BadNumber" = some (.ref (ca 2))) (T : TxSt K mg fbe fnn fnum fla ffa fwr fstr) : FnOk P w K mg base (L2.CX P w) 9 f fd ["style", "first", "most"] (spStretch K C ca) := by
  refine F.okX scStretch (fun vs H Q E h => ?_) (fun cdv A outer s H vs Q E hr h => ?_)
  · obtain ⟨_, _, _, _, _, _, _, rfl, _⟩ := h
    rfl
  · obtain ⟨x, β, Ds, v, u, b, c, rfl, sty, b2, b10, good, kb, kc, R⟩ := h
    have hu64 : (A.deeper (PyProof.Rows.envOfC "stretches" (defScope sStretch) s.heap.objs.size f cdv)).units + 64 < cLine := by have := hr.units; omega
    refine ⟨_, pss_cons (ps_expr (pe_callS G1 hr (by rfl) T.needN T.kNN b1 (fun σ => passAt (takes_of rfl rfl rfl rfl) σ) (pa_cons (pv 1) pa_nil)))
      (pss_cons (ps_if (PW.pt (pw_or (pt_not (pt_val (pe_call G2 hr (by rfl) T.isNum T.kNum b2' .nil pass0 (pa_cons (pv 2) pa_nil)))) (pw_or1 (pt_cmpR op_le (pv 2) (pv 1) (nomark _))))) (pss_one (ps_raise rfl (takes_of rfl rfl rfl rfl) (pmk_mks M T.sup hr (by simp) (pa_cons (pv 2) pa_nil) (by rfl) gC))) pss_nil)
      (pss_cons (ps_par (i := 3) (j := 4) (by rfl) scStretch.nd rfl rfl (by decide) rfl rfl (pa_cons (pe_prop (pv 0) cl pB G6 hr b6 .nil pass0 rfl) (pa_cons (pe_prop (pv 0) cl pR G7 hr b7 .nil pass0 rfl) pa_nil)) (by rfl))
      (pss_cons (ps_set (i := 5) scStretch.nd rfl (.inl rfl) (pe_lst pa_nil))
      (pss_cons (ps_for (passes_of rfl) rfl (pi_list (pe_call G3 hr (by rfl) T.lasts T.kLa b3 .nil pass0 (pa_cons (pv 3) (pa_cons (pv 1) (pa_cons (pv 2) pa_nil))))) (pg_name (i := 6) scStretch.nd rfl (.inl rfl))
        (pss_cons (ps_asg (pe_call G4 hr (by rfl) T.written T.kWr b4 .nil pass0 (pa_cons (pv 4) (pa_cons (pe_callS G5 hr (by rfl) T.facts T.kFa b5 (fun σ => passAt (takes_of rfl rfl rfl rfl) σ) (pa_cons (pv 3) (pa_cons (pv 1) (pa_cons (pv 6) pa_nil)))) pa_nil))) (pg_tup (by rfl) (pgs_cons (pg_name (i := 7) scStretch.nd rfl (.inl rfl)) (pgs_cons (pg_name (i := 8) scStretch.nd rfl (.inl rfl)) pgs_nil))))
        (pss_cons (ps_if (PW.pt (pw_and (pt_cmpR op_gt (pe_callB (id := "len") (r := rLenS K) call_len_seq (by rfl) T.len (by decide +kernel) (pa_cons (pv 5) pa_nil)) pe_int (nomark _))
            (pw_and1 (pt_cmpR (op_eqD (show _ + 64 < cLine from hu64)) (pe_slice (r := rSlA K) sl_tupA (pe_ix (r := rIxL K) ix_list (pv 5) (pe_un un_neg pe_int) (fun _ _ => rfl)) (po_some pe_int) po_none) (pe_tup (pa_cons (pv 7) (pa_cons (pv 8) pa_nil))) (nomark _)))))
            (pss_one (ps_expr (pe_bm0 PySem.F.plainAttrs_list PySem.F.slot_list_pop PySem.F.type_list_pop mt_pop (pv 5)))) pss_nil)
        (pss_one (ps_expr (pe_bm PySem.F.plainAttrs_list PySem.F.slot_list_append PySem.F.type_list_append mt_append (pv 5) (pa_cons (pe_tup (pa_cons (pv 6) (pa_cons (pv 7) (pa_cons (pv 8) pa_nil)))) pa_nil)))))))
      (pss_one (ps_ret (pe_callTy (T := "tuple") call_tuple_of (by rfl) T.tuple (by decide +kernel) (pa_cons (pv 5) pa_nil)))))))), ?_⟩
    have NM : ∀ {H1 : Hp} {te : TE} {y : V} {r : Bool}, Ev te (L2.start nStretch [.ref x, v, u]) H1 y → Nm K H1 y r → Ev (tCall (spIsNum K) [] E0 (tCons te tNil)) (L2.start nStretch [.ref x, v, u]) H1 (.bl r) := fun h k =>
      ev_call (ea_cons h ea_nil) fun H1 e Q q E => ⟨_, _, rfl, k.ex e, fun H2 e2 => q H2 e2⟩
    refine ⟨_, rfl, v, b, rfl, kb, fun hb H1 e1 => ?_, R.bad1⟩
    have raise : Leaves (ca 2) "value" u H E → ∀ H2, Ex H H2 → tMks (ca 2) ["value"] (tCons (tVar 2) tNil) (L2.start nStretch [.ref x, v, u]) H2 (fun cls d H' => E cls d H') := fun lt H2 e2 =>
      ⟨_, rfl, rfl, fun d hd => lt _ d e2 hd⟩
    cases hc : c with
    | false =>
      subst hc
      dsimp only
      refine q_when (b := true) (et_is (et_or (a := true) (b := true) (et_not (et_B (NM (ev_var rfl) (kc.ex e1)))) fun z => nomatch z) rfl) (fun z H2 e2 => ?_) (fun z => nomatch z)
      exact raise (R.bad2 hb rfl) H2 (e1.trans e2)
    | true =>
      subst hc
      obtain ⟨f0, m, rfl, rfl, f1, l3, l4⟩ := R.good hb rfl
      dsimp only
      refine q_when (b := decide (m ≤ f0)) (et_is (et_or (a := false) (b := decide ((m : Int) ≤ (f0 : Int))) (et_not (et_B (NM (ev_var rfl) (kc.ex e1)))) fun z => et_test (ev_op (ev_var rfl) (ev_var rfl) rv_I0)) (by rw [Bool.false_or]; exact decide_eq_decide.mpr (by omega))) (fun z H2 e2 => ?_) (fun z H2 e2 => ?_)
      · exact raise (l3 (of_decide_eq_true z)) H2 (e1.trans e2)
      have hfm : f0 < m := by
        have := of_decide_eq_false z
        omega
      obtain ⟨m30, q⟩ := l4 hfm
      have m50 : m < 2 ^ 50000 := Nat.lt_trans m30 (Nat.pow_lt_pow_right (by decide) (by decide))
      have e12 := e1.trans e2
      obtain ⟨dx, tr, hx, kr⟩ := sty.ex e12
      obtain ⟨tr', rs, e, hrs, ka⟩ := kr.tupI'
      cases e
      have EB : Ev (tProp C (getSp C "stored_base") [] E0 (tVar 0)) (L2.start nStretch [.ref x, .int (f0 : Int), .int (m : Int)]) H2 (.int (β : Int)) := fun H3 e3 Q3 q3 => ⟨_, rfl, x, dx, _, rfl, e3 _ _ hx, x, dx, _, _, rfl, e3 _ _ hx, lk_base _ _, q3 H3 (Ex.refl _)⟩
      have ER : Ev (tProp C (getSp C "stored_rules") [] E0 (tVar 0)) (L2.start nStretch [.ref x, .int (f0 : Int), .int (m : Int)]) H2 (.ref tr) := fun H3 e3 Q3 q3 => ⟨_, rfl, x, dx, _, rfl, e3 _ _ hx, x, dx, _, _, rfl, e3 _ _ hx, lk_rules _ _, q3 H3 (Ex.refl _)⟩
      refine q_par (v := .int (β : Int)) (w := .ref tr) (ea_cons EB (ea_cons ER ea_nil)) fun H3 e3 => ?_
      refine q_asgL (xs := []) (el_lst ea_nil (by simp)) fun l H4 n4 e4 h4 => ?_
      have nl : H3 l = none := n4
      have hx4 := (e3.trans e4) _ _ hx
      have hrs4 := (e3.trans e4) _ _ hrs
      have ka4 := ka.ex (e3.trans e4)
      obtain ⟨key, hkey⟩ : ∃ key, key = keyS β f0 Ds := ⟨_, rfl⟩
      refine ⟨_, rfl, _, rfl, _, rfl, β, f0, m, rfl, b2, b10, f1, hfm, m30, fun ns p H5 hL e5 np hp => ⟨p, rfl, ⟨_, sq_of hp⟩, for_list (xs := ns.map fun (n : Nat) => V.int (n : Int)) (fun i σ' H' => Ex H3 H' ∧ H' p = some (.lst (ns.map fun (n : Nat) => V.int (n : Int))) ∧ ∃ (x6 x7 x8 : Option V) (vs : List V),
          σ' = [some (.ref x), some (.int (f0 : Int)), some (.int (m : Int)), some (.int (β : Int)), some (.ref tr), some (.ref l), x6, x7, x8] ∧ H' l = some (.lst vs.reverse) ∧ RwAt H' vs (Rn.rows key [] (ns.take i)))
        ⟨e4.trans e5, hp, none, none, none, [], rfl, e5 _ _ h4, trivial⟩ (fun i σ' H' _ hI => sq_of hI.2.1) (fun i n σ' H' hn hI => ?_) (fun σ' H' hI => ?_)⟩⟩
      · obtain ⟨e6, hp6, x6, x7, x8, vs, rfl, hl6, hr6⟩ := hI
        have pl : p ≠ l := fun g => by
          rw [g] at np
          rw [h4] at np
          cases np
        rw [List.getElem?_map] at hn
        obtain ⟨n, hn2, rfl⟩ := Option.map_eq_some_iff.mp hn
        clear hn
        have hn := hn2
        have hmem := (hL.2.1 n).mp (List.mem_of_getElem? hn)
        have htake : ns.take (i + 1) = ns.take i ++ [n] := by
          obtain ⟨h1, h2⟩ := List.getElem?_eq_some_iff.mp hn
          rw [← h2, List.take_append_getElem h1]
        have hlen6 : vs.length ≤ 61 := by
          rw [hr6.len]
          have := Rn.rows_len key (ns.take i) []
          have h2 : (ns.take i).length ≤ ns.length := by rw [List.length_take]; omega
          have := hL.2.2
          simp only [List.length_nil] at *
          omega
        have n50 : n < 2 ^ 50000 := Nat.lt_of_le_of_lt hmem.2.1 m50
        have hx6 := e6 _ _ (e3 _ _ hx)
        have ka6 := (ka.ex e3).ex e6
        have hrs6 := e6 _ _ (e3 _ _ hrs)
        refine ⟨_, rfl, _, rfl, _, rfl, _, rfl, β, .int (f0 : Int), .int (n : Int), true, true, rfl, b2, b10, nm_yes f1, nm_yes (by omega), ⟨(fun z => nomatch z), fun _ => .inr ⟨f0, n, rfl, rfl, f1, hmem.1, n50, fun t H7 e7 ht => ?_⟩⟩⟩
        refine ⟨tr, t, rs, Ds, β, f0, n, rfl, e7 _ _ hrs6, ka6.ex e7, good, ht, fun w8 H8 e8 hw => ⟨w8, _, rfl, st_of hw, rfl, _, _, rfl, _, _, rfl, rfl, ?_⟩⟩
        have e68 := e7.trans e8
        have ekey : key n = (firstD β f0 n Ds, keptD β f0 n Ds) := by rw [hkey]; rfl
        have hp8 := e68 _ _ hp6
        have hl8 := e68 _ _ hl6
        have hr8 := hr6.ex e68
        have e38 := e6.trans e68
        have rowsS : Rn.rows key [] (ns.take (i + 1)) = Rn.push (Rn.rows key [] (ns.take i)) n (key n) := by rw [htake, Rn.rows_app]; rfl
        generalize hacc : Rn.rows key [] (ns.take i) = acc at hr8 rowsS
        obtain ⟨k1, hk1⟩ : ∃ k1, k1 = firstD β f0 n Ds := ⟨_, rfl⟩
        obtain ⟨k2, hk2⟩ : ∃ k2, k2 = keptD β f0 n Ds := ⟨_, rfl⟩
        rw [← hk1, ← hk2] at ekey ⊢
        have app : ∀ (D : Ends) (vs2 : List V) (acc2 : List Row) (H9 : Hp), Ex H3 H9 → H9 p = some (.lst (ns.map fun (n : Nat) => V.int (n : Int))) → H9 l = some (.lst vs2.reverse) → RwAt H9 vs2 acc2 → vs2.length ≤ 61 →
            (∀ t H', Ex H3 H' → H' p = some (.lst (ns.map fun (n : Nat) => V.int (n : Int))) → H' l = some (.lst (V.ref t :: vs2).reverse) → RwAt H' (V.ref t :: vs2) ((n, key n) :: acc2) → D.nx [some (.ref x), some (.int (f0 : Int)), some (.int (m : Int)), some (.int (β : Int)), some (.ref tr), some (.ref l), some (.int (n : Int)), some (.int (k1 : Int)), some (.int (k2 : Int))] H') →
            tDrop (tBM K "list" rAppend (tVar 5) (tCons (tTup (tCons (tVar 6) (tCons (tVar 7) (tCons (tVar 8) tNil)))) tNil)) D [some (.ref x), some (.int (f0 : Int)), some (.int (m : Int)), some (.int (β : Int)), some (.ref tr), some (.ref l), some (.int (n : Int)), some (.int (k1 : Int)), some (.int (k2 : Int))] H9 := fun D vs2 acc2 H9 e9 hp9 hl9 hr9 hz9 k => by
          refine s_appU hl9 (ev_var rfl) (eu_tup (ea_cons (ev_var rfl) (ea_cons (ev_var rfl) (ea_cons (ev_var rfl) ea_nil))) (by simp)) (by rw [List.length_reverse]; omega) fun t H10 nt e10 ht => ?_
          have tl : t ≠ l := fun g => by
            rw [g, hl9] at nt
            cases nt
          refine k t _ ((e9.trans e10).mut nl) ?_ ?_ ⟨⟨t, rfl, ?_⟩, (hr9.ex e10).upd (e10 _ _ hl9)⟩
          · rw [upd_ne pl]
            exact e10 _ _ hp9
          · rw [List.reverse_cons]
            exact upd_same
          · rw [upd_ne tl, ht, ekey]
        cases acc with
        | nil =>
          have hvs : vs = [] := List.length_eq_zero_iff.mp hr8.len
          subst hvs
          refine q_when (b := false) (et_is (et_and (a := false) (b := false) (et_is (et_test (ev_op (ev_len (ev_var rfl) (sq_of hl8)) ev_c rv_I0)) rfl) fun z => nomatch z) rfl) (fun z => nomatch z) fun z H9 e9 => ?_
          refine app _ [] [] H9 (e38.trans e9) (e9 _ _ hp8) (e9 _ _ hl8) trivial (by simp) fun t H' e' hp' hl' hr' => ⟨e', hp', _, _, _, _, rfl, hl', ?_⟩
          rw [rowsS]
          exact hr'
        | cons r0 acc0 =>
          cases vs with
          | nil => exact hr8.elim
          | cons v0 vs0 =>
            obtain ⟨⟨a0, rfl, ha0⟩, hr0⟩ := hr8
            obtain ⟨l0, k0⟩ := r0
            refine q_when (b := decide (k0 = key n)) (et_is (et_and (a := true) (b := decide (k0 = key n)) (et_is (et_test (ev_op (ev_len (ev_var rfl) (sq_of hl8)) ev_c rv_I0)) ?_) fun _ => ?_) (Bool.true_and _)) (fun z H9 e9 => ?_) fun z H9 e9 => ?_
            · rw [List.length_reverse, List.length_cons]
              exact decide_eq_true (by omega)
            · intro H9 e9 Q9 q9
              have hl9 := e9 _ _ hl8
              have ha9 := e9 _ _ ha0
              have hat : atI (V.ref a0 :: vs0).reverse (-1) = some (.ref a0) := by
                rw [List.reverse_cons]
                exact atI_last _ _
              refine (ev_op (ev_var rfl) (ev_un ev_c ru_neg) (rv_ixL (sq_of hl9) hat)) H9 (Ex.refl H9) _ fun H10 e10 => (eo_some ev_c) H10 (Ex.refl H10) _ fun H11 e11 => eo_none H11 (Ex.refl H11) _ fun H12 e12 => ⟨a0, _, rfl, st_of (((e10.trans e11).trans e12) _ _ ha9), fun g => absurd g.1 (show ¬ HT.sIx 3 0 (some 1) = 0 by decide), fun _ p1 np1 => ?_⟩
              refine (eu_tup (ea_cons (ev_var rfl) (ea_cons (ev_var rfl) ea_nil)) (by simp)) _ (Ex.refl _) _ fun p2 H13 np2 e13 hp2 => ⟨.tuple [.int k0.1, .int k0.2], .tuple [.int k1, .int k2], .tup (st_of (e13 _ _ upd_same)) (.cons (.int _) (.cons (.int _) .nil)), .tup (st_of hp2) (.cons (.int _) (.cons (.int _) .nil)), rfl, rfl, _, rfl, ?_⟩
              have eb : PyData.eqv (.tuple [.int k0.1, .int k0.2]) (.tuple [.int k1, .int k2]) = decide (k0 = key n) := by
                rw [ekey]
                by_cases g : k0 = (k1, k2)
                · rw [decide_eq_true g, g]
                  exact eqv_self rfl
                · rw [decide_eq_false g]
                  cases hq : PyData.eqv (.tuple [.int k0.1, .int k0.2]) (.tuple [.int k1, .int k2]) with
                  | false => rfl
                  | true =>
                    have h := eqv_eq (d := .tuple [.int k0.1, .int k0.2]) (e := .tuple [.int k1, .int k2]) rfl rfl hq
                    simp only [PyData.tuple.injEq, List.cons.injEq, PyData.int.injEq, and_true] at h
                    exact absurd (Prod.ext (by omega) (by omega)) g
              rw [eb]
              exact q9 _ ((((e10.trans e11).trans e12).trans (Ex.new np1)).trans e13)
            · have z := of_decide_eq_true z
              have hl9 := e9 _ _ hl8
              have e39 := e38.trans e9
              refine ⟨_, rfl, .inl ⟨rfl, _, sq_of hl9⟩, l, _, .ref a0, rfl, rfl, hl9, ?_, ?_⟩
              · rw [List.reverse_cons, List.length_append]
                simp
              · dsimp only
                refine app _ vs0 acc0 _ (e39.mut nl) (by rw [upd_ne pl]; exact e9 _ _ hp8) ?_ ((hr0.ex e9).upd hl9) (by rw [List.length_cons] at hlen6; omega) fun t H' e' hp' hl' hr' => ⟨e', hp', _, _, _, _, rfl, hl', ?_⟩
                · rw [List.reverse_cons, List.dropLast_concat]
                  exact upd_same
                · rw [rowsS, Rn.push_cons, if_pos z]
                  exact hr'
            · have z := of_decide_eq_false z
              refine app _ (V.ref a0 :: vs0) ((l0, k0) :: acc0) H9 (e38.trans e9) (e9 _ _ hp8) (e9 _ _ hl8) ⟨⟨a0, rfl, e9 _ _ ha0⟩, hr0.ex e9⟩ hlen6 fun t H' e' hp' hl' hr' => ⟨e', hp', _, _, _, _, rfl, hl', ?_⟩
              rw [rowsS, Rn.push_cons, if_neg z]
              exact hr'
      · obtain ⟨e6, hp6, x6, x7, x8, vs, rfl, hl6, hr6⟩ := hI
        rw [List.length_map, List.take_length] at hr6
        dsimp only
        refine ret1 (cb1 ⟨_, rfl, l, vs.reverse, rfl, .inl ⟨sq_of hl6, fun t nt => ?_⟩⟩)
        refine q t vs.reverse _ (e12.trans ((e3.trans e6).trans (Ex.new nt))) (fresh_back (e12.trans (e3.trans e6)) nt) upd_same ?_ ?_
        all_goals have hS := rows_cut (Ds := Ds) b2 f1 hfm hL.1 hL.2.1
        · have hr7 := (hr6.ex (Ex.new (o := .tup vs.reverse) nt)).rev (ws := []) (ss := []) trivial
          rw [List.append_nil, List.append_nil, hkey, hS] at hr7
          exact hr7
        · have hlen := Rn.rows_len (keyS β f0 Ds) ns []
          rw [hS] at hlen
          unfold strR
          rw [List.length_reverse]
          have h61 := hL.2.2
          simp only [List.length_nil] at hlen
          omega
/-- the sum over rows -/
def totR : Nat → List Row → Nat
  | _, [] => 0
  | a, r :: rs => (r.1 - a) * r.2.2 + totR r.1 rs
def spTotal (K : PySem.W.Frag) (C : Addr) (ca : Nat → Addr) : Sp := fun vs H Q E => ∃ (x : Addr) (β : Nat) (Ds : List PyData) (v u : V) (b c : Bool), vs = [.ref x, v, u] ∧ StyAt H C x β Ds ∧ 2 ≤ β ∧ β ≤ 10 ∧ RowS β Ds ∧ Nm K H v b ∧ Nm K H u c ∧
  StQ ca v u b c H E fun f m => RetV (.int (totR f (strR β f m Ds) : Int)) H Q
/-- ascending rows behind a number, their digits small -/
def Asc : Nat → List Row → Prop
  | _, [] => True
  | a, r :: rs => a < r.1 ∧ r.1 < 2 ^ 30 ∧ r.2.2 ≤ 100 ∧ Asc r.1 rs
abbrev nTotal : List Str := ["style", "first", "most", "added", "ahead", "last", "number", "many"]
theorem scTotal : FnScope nTotal ["style", "first", "most"] (defScope sTotal) := ⟨rfl, rfl, rfl, by decide +kernel, rfl, by decide +kernel, by decide +kernel⟩
theorem totR_app : ∀ (rs : List Row) (a : Nat) (r : Row), totR a (rs ++ [r]) = totR a rs + (r.1 - (rs.getLastD (a, (0, 0))).1) * r.2.2
  | [], a, r => by
    show (r.1 - a) * r.2.2 + 0 = 0 + _
    rw [Nat.add_zero, Nat.zero_add]
    rfl
  | q :: rs, a, r => by
    show (q.1 - a) * q.2.2 + totR q.1 (rs ++ [r]) = (q.1 - a) * q.2.2 + totR q.1 rs + _
    rw [totR_app rs q.1 r, Nat.add_assoc]
    congr 3
    cases rs <;> rfl
theorem strR_in {β f m : Nat} {Ds : List PyData} : ∀ r ∈ strR β f m Ds, r.2 = keyS β f Ds r.1 ∧ (f < r.1 ∧ r.1 ≤ max f m) := fun r hr => Rn.rows_mem (key := keyS β f Ds) (S := fun n => f < n ∧ n ≤ max f m) (ns := List.range' (f + 1) (m - f)) (acc := []) (fun _ h => nomatch h) (fun n hn => by
    have := List.mem_range'_1.mp hn
    omega) r (List.mem_reverse.mp hr)
theorem kept_sm {β f s : Nat} {Ds : List PyData} (b2 : 2 ≤ β) (good : RowS β Ds) (s1 : 1 ≤ s) (s30 : s < 2 ^ 30) : keptD β f s Ds ≤ 30 := by
  have g5 := (keptD_in (f := f) (s := s) good b2 s1).2
  have g6 : (dl β s).length ≤ 30 := by
    rw [len_lt b2]
    have : 2 ^ 30 ≤ β ^ 30 := Nat.pow_le_pow_left b2 _
    exact Nat.div_eq_of_lt (by omega)
  omega
theorem strR_asc {β f m : Nat} {Ds : List PyData} (b2 : 2 ≤ β) (good : RowS β Ds) (f1 : 1 ≤ f) (m30 : m < 2 ^ 30) : Asc f (strR β f m Ds) := by
  have h1 : ∀ r ∈ strR β f m Ds, r.2 = keyS β f Ds r.1 ∧ (f < r.1 ∧ r.1 ≤ max f m) := fun r hr => Rn.rows_mem (key := keyS β f Ds) (S := fun n => f < n ∧ n ≤ max f m) (ns := List.range' (f + 1) (m - f)) (acc := []) (fun _ h => nomatch h) (fun n hn => by
    have := List.mem_range'_1.mp hn
    omega) r (List.mem_reverse.mp hr)
  have h2 : (strR β f m Ds).Pairwise fun a b => a.1 < b.1 := by
    unfold strR
    rw [List.pairwise_reverse]
    exact Rn.rows_desc (acc := []) List.Pairwise.nil List.pairwise_lt_range' fun _ h => nomatch h
  have h3 : ∀ (rs : List Row) (a : Nat), (∀ r ∈ rs, a < r.1) → rs.Pairwise (fun a b => a.1 < b.1) → (∀ r ∈ rs, r.1 < 2 ^ 30 ∧ r.2.2 ≤ 100) → Asc a rs := by
    intro rs
    induction rs with
    | nil => intro a _ _ _; trivial
    | cons r rs ih =>
      intro a g1 g2 g3
      have g2' := List.pairwise_cons.mp g2
      have g4 := g3 r List.mem_cons_self
      exact ⟨g1 r List.mem_cons_self, g4.1, g4.2, ih r.1 g2'.1 g2'.2 fun q hq => g3 q (List.mem_cons_of_mem _ hq)⟩
  refine h3 _ f (fun r hr => (h1 r hr).2.1) h2 fun r hr => ?_
  obtain ⟨g1, g2, g3⟩ := h1 r hr
  have g4 : r.1 < 2 ^ 30 := by
    by_cases h : f ≤ m
    · rw [Nat.max_eq_right h] at g3
      omega
    · rw [Nat.max_eq_left (by omega)] at g3
      omega
  refine ⟨g4, ?_⟩
  rw [g1]
  have g5 := (keptD_in (f := f) (s := r.1) good b2 (by omega)).2
  have g6 : (dl β r.1).length ≤ 30 := by
    rw [len_lt b2]
    have : 2 ^ 30 ≤ β ^ 30 := Nat.pow_le_pow_left b2 _
    exact Nat.div_eq_of_lt (by omega)
  show keptD β f r.1 Ds ≤ 100
  omega
theorem ok_total {f : Addr} {fd fd1 : FuncData} (F : Fun K "total" "total" sTotal f fd) (G1 : FnOk P w K mg base (L2.CX P w) 9 fstr fd1 ["style", "first", "most"] (spStretch K C ca)) (b1 : Binds K fd1 ["style", "first", "most"] []) (T : TxSt K mg fbe fnn fnum fla ffa fwr fstr) : FnOk P w K mg base (L2.CX P w) 10 f fd ["style", "first", "most"] (spTotal K C ca) := by
  refine F.okX scTotal (fun vs H Q E h => ?_) (fun cdv A outer s H vs Q E hr h => ?_)
  · obtain ⟨_, _, _, _, _, _, _, rfl, _⟩ := h
    rfl
  · obtain ⟨x, β, Ds, v, u, b, c, rfl, sty, b2, b10, good, kb, kc, R⟩ := h
    refine ⟨_, pss_cons (ps_set (i := 3) scTotal.nd rfl (.inl rfl) pe_int)
      (pss_cons (ps_set (i := 4) scTotal.nd rfl (.inl rfl) (pv 1))
      (pss_cons (ps_for (passes_of rfl) rfl (pi_tup (pe_call G1 hr (by rfl) T.stre T.kSt b1 .nil (fun pins σ H s e s' I c => passAt (takes_of rfl rfl rfl rfl) σ pins H s e s' I c) (pa_cons (pv 0) (pa_cons (pv 1) (pa_cons (pv 2) pa_nil))))) (pg_tup (by rfl) (pgs_cons (pg_name (i := 5) scTotal.nd rfl (.inl rfl)) (pgs_cons (pg_name (i := 6) scTotal.nd rfl (.inl rfl)) (pgs_cons (pg_name (i := 7) scTotal.nd rfl (.inl rfl)) pgs_nil))))
        (pss_cons (ps_set (i := 3) scTotal.nd rfl (.inl rfl) (pe_op op_add (pv 3) (pe_op op_mul (pe_op op_sub (pv 5) (pv 4)) (pv 7))))
        (pss_one (ps_set (i := 4) scTotal.nd rfl (.inl rfl) (pv 5)))))
      (pss_one (ps_ret (pv 3))))), ?_⟩
    refine q_asg (v := .int 0) ev_c fun H1 e1 => ?_
    refine q_asg (v := v) (ev_var rfl) fun H2 e2 => ?_
    have e12 := e1.trans e2
    refine ⟨_, rfl, _, rfl, _, rfl, x, β, Ds, v, u, b, c, rfl, sty.ex e12, b2, b10, good, kb.ex e12, kc.ex e12, ⟨fun h => (R.bad1 h).go e12, fun h1 h2 => (R.bad2 h1 h2).go e12, fun h1 h2 => ?_⟩⟩
    obtain ⟨f0, m, rfl, rfl, f1, l3, l4⟩ := R.good h1 h2
    refine ⟨f0, m, rfl, rfl, f1, fun g => (l3 g).go e12, fun g => ⟨(l4 g).1, fun t ws H5 e5 nt ht hw _ => ?_⟩⟩
    obtain ⟨m30, q⟩ := l4 g
    have hA := strR_asc (Ds := Ds) b2 good f1 m30
    have hlen := hw.len
    refine ⟨t, rfl, ⟨ws, st_of ht⟩, for_tup (xs := ws) (fun i σ' H' => Ex H H' ∧ ∃ (x5 x6 x7 : Option V) (a y : Nat), σ' = [some (.ref x), some (.int (f0 : Int)), some (.int (m : Int)), some (.int (a : Int)), some (.int (y : Int)), x5, x6, x7] ∧ Ex H5 H' ∧ Asc y ((strR β f0 m Ds).drop i) ∧ y < 2 ^ 30 ∧ a + totR y ((strR β f0 m Ds).drop i) = totR f0 (strR β f0 m Ds))
      ⟨e12.trans e5, none, none, none, 0, f0, rfl, Ex.refl _, hA, by omega, by rw [Nat.zero_add]; rfl⟩ (fun i σ' H' _ hI => ?_) (fun i n σ' H' hn hI => ?_) (fun σ' H' hI => ?_)⟩
    · obtain ⟨_, _, _, _, _, _, _, e6, _⟩ := hI
      exact st_of (e6 _ _ ht)
    · obtain ⟨e6, x5, x6, x7, a, y, rfl, e56, hA6, hy, hs⟩ := hI
      obtain ⟨r, hr2, tn, rfl, htn⟩ : ∃ r, (strR β f0 m Ds)[i]? = some r ∧ ∃ tn, n = .ref tn ∧ H5 tn = some (.tup [.int r.1, .int r.2.1, .int r.2.2]) := hw.get hn
      have hd : (strR β f0 m Ds).drop i = r :: (strR β f0 m Ds).drop (i + 1) := by
        obtain ⟨g1, g2⟩ := List.getElem?_eq_some_iff.mp hr2
        rw [List.drop_eq_getElem_cons g1, g2]
      rw [hd] at hA6 hs
      obtain ⟨a1, a2, a3, a4⟩ := hA6
      have hs2 : a + ((r.1 - y) * r.2.2 + totR r.1 ((strR β f0 m Ds).drop (i + 1))) = totR f0 (strR β f0 m Ds) := hs
      refine ⟨tn, _, rfl, st_of (e56 _ _ htn), rfl, _, _, rfl, _, _, rfl, _, _, rfl, rfl, ?_⟩
      have em : ((r.1 - y : Nat) : Int) * (r.2.2 : Int) = (((r.1 - y) * r.2.2 : Nat) : Int) := by rw [Int.natCast_mul]
      have es : (r.1 : Int) - (y : Int) = ((r.1 - y : Nat) : Int) := by omega
      dsimp only
      refine q_asg (v := .int ((a + (r.1 - y) * r.2.2 : Nat) : Int)) (ev_is (ev_op (ev_var rfl) (ev_op (ev_op (ev_var rfl) (ev_var rfl) rv_I0) (ev_var rfl) (rv_I (.inr ⟨by omega, by omega⟩))) rv_I0) ?_) fun H7 e7 => ?_
      · rw [es, em, Int.natCast_add]
      · refine s_asg (ev_var rfl) fun H8 e8 => ⟨(e6.trans e7).trans e8, _, _, _, a + (r.1 - y) * r.2.2, r.1, rfl, (e56.trans e7).trans e8, a4, a2, ?_⟩
        omega
    · obtain ⟨e6, x5, x6, x7, a, y, rfl, e56, hA6, hy, hs⟩ := hI
      rw [hlen, List.drop_length] at hs
      have hs : a + 0 = totR f0 (strR β f0 m Ds) := hs
      dsimp only
      refine s_ret (ev_var rfl) fun H7 e7 => ?_
      rw [show a = totR f0 (strR β f0 m Ds) by omega]
      exact q H7 (e6.trans e7)
end
end Dt

/-! k06: the law's rule, kept, tail. -/
namespace Dt
open PySem L2 Evl Dg LamR LamX StX ClX TL
open Dr (StAt SameB)
section
variable {P : Program} {w : World} {K : PySem.W.Frag} {mg : Str → Option Value} {base : Heap} {ca : Nat → Addr} {fld flp flc flh flr flb flk : Addr}
/-- the rules as data, the range -/
def RuR (H : Hp) (vr : V) (β f s : Nat) (Ds : List PyData) : Prop := RgN β f s ∧ RowS β Ds ∧ lastC Ds = false ∧ Pt H vr (.tuple Ds)
theorem RuR.ex {H H' : Hp} {vr : V} {β f s : Nat} {Ds : List PyData} (r : RuR H vr β f s Ds) (e : Ex H H') : RuR H' vr β f s Ds := ⟨r.1, r.2.1, r.2.2.1, r.2.2.2.ex e⟩
def spLRule : Sp := fun vs H Q _ => ∃ (vr : V) (Ds : List PyData) (β f s : Nat), vs = [.int β, vr, .int f, .int s] ∧ RuR H vr β f s Ds ∧ RetV (.int (firstD β f s Ds : Int)) H Q
abbrev nLRule : List Str := ["base", "rules", "first", "second", "number", "condition"]
theorem scLRule : FnScope nLRule ["base", "rules", "first", "second"] (defScope sLRule) := ⟨rfl, rfl, rfl, by decide +kernel, rfl, by decide +kernel, by decide +kernel⟩
theorem appl_last {β f s : Nat} {Ds : List PyData} (good : RowS β Ds) (hl : lastC Ds = false) {d : PyData} (hd : Ds[Ds.length - 1]? = some d) : appl β f s d = true := by
  obtain ⟨cs, k, rfl, hc3, hcs, hks⟩ := good.at hd
  have h1 : lastC Ds = decide (0 < cs.length) := by
    unfold lastC
    have : Ds.getLastD .none = .tuple [.tuple cs, k] := by
      rw [List.getLastD_eq_getLast?, List.getLast?_eq_getElem?, hd]
      rfl
    rw [this]
    rfl
  rw [hl] at h1
  have h2 := of_decide_eq_false h1.symm
  have h3 : cs = [] := List.length_eq_zero_iff.mp (by omega)
  rw [h3]
  rfl
theorem firstD_at {β f s : Nat} {Ds : List PyData} {i : Nat} (hi : i < Ds.length) (hne : ∀ j d, j < i → Ds[j]? = some d → appl β f s d = false) (h : i = Ds.length - 1 ∨ ∃ d, Ds[i]? = some d ∧ appl β f s d = true) : firstD β f s Ds = i := by
  rcases Nat.lt_or_ge i (Ds.length - 1) with y | y
  · rcases h with h | ⟨d, hd, z⟩
    · omega
    · unfold firstD
      rw [List.findIdx_eq (by rw [List.length_take]; omega)]
      refine ⟨?_, fun j hj => ?_⟩
      · rw [List.getElem_take]
        rw [List.getElem?_eq_getElem (by omega)] at hd
        injection hd with hd
        rw [hd]
        exact z
      · rw [List.getElem_take]
        exact hne j _ hj (List.getElem?_eq_getElem (by omega))
  · unfold firstD
    rw [List.findIdx_eq_length.mpr, List.length_take]
    · omega
    · intro x hx
      obtain ⟨j, hj, e⟩ := List.mem_take_iff_getElem.mp hx
      exact hne j x (by omega) (by rw [← e]; exact List.getElem?_eq_getElem (by omega))
theorem et_ne2 {σ : St} {H : Hp} {te : TE} {ns : List Int} (h : EvL te σ H (ns.map V.int)) : EvT (tTest (tOp (rNeD K) te (tLst tNil))) σ H (!decide (ns = [])) := fun H1 e1 Q q =>
  h H1 e1 _ fun p1 H2 n1 e2 h2 => el_lst (σ := σ) (H := H2) ea_nil (by simp) H2 (Ex.refl H2) _ fun p2 H3 n2 e3 h3 => ⟨.list (ns.map PyData.int), .list [], .lst (sq_of (e3 _ _ h2)) (Dr.dpAll_ints _), .lst (sq_of h3) .nil, Dr.shaped_ints _, by decide +kernel, by
    rw [Dr.eqv_nil]
    exact ⟨_, rfl, q H3 (e2.trans e3)⟩⟩
theorem ok_lrule {fa : Addr} {fd fd1 : FuncData} (F : Fun K "_law_rule" "_law_rule" sLRule fa fd) (GH : FnOk P w K mg base CX0 3 flh fd1 ["base", "condition", "first", "second"] spLHolds) (bH : Binds K fd1 ["base", "condition", "first", "second"] []) (T : TxZ K mg fld flp flc flh flr flb flk) :
    FnG P w K mg base CX0 4 fa fd ["base", "rules", "first", "second"] spLRule := by
  refine F.okG scLRule (fun vs H Q E h => ?_) (fun cdv A outer sh H vs Q E hr h => ?_)
  · obtain ⟨_, _, _, _, _, rfl, _⟩ := h
    rfl
  · obtain ⟨vr, Ds, β, f, s, rfl, ⟨r, good, hlast, kr⟩, q⟩ := h
    have hu64 : (A.deeper (PyProof.Rows.envOfC "_law_rule" (defScope sLRule) sh.heap.objs.size fa cdv)).units + 64 < cLine := by have := hr.r.units; omega
    obtain ⟨ar, rs, rfl, hrs, ka⟩ := kr.tupI'
    refine ⟨_, pss_cons (ps_set (i := 4) scLRule.nd rfl (.inl rfl) pe_int)
      (pss_cons (ps_while PassesOwn.never (pt_cmpR (op_neD (show _ + 64 < cLine from hu64)) (pe_lc (own := [("condition", 5)]) (g := gName 5) rfl scLRule.nd (pi_tup (pe_ix ix_tup (pe_ix ix_tup (pv 1) (pv 4) (fun _ _ => rfl)) pe_int (fun _ _ => rfl))) (blkOk_by (own := [("condition", 5)]) (N := nLRule) (sc := defScope sLRule) (by decide +kernel)) (fun _ _ _ _ _ => pg_name (i := 5) scLRule.nd rfl (Or.inl rfl))
            (fun _ _ _ _ _ => pts_one (pt_not (pt_val (pe_call GH hr.r (by rfl) T.lholds T.kLh bH .nil pass0 (pa_cons (pv 0) (pa_cons (pv 5) (pa_cons (pv 2) (pa_cons (pv 3) pa_nil)))))))) (fun _ _ _ _ _ => pe_int)) (pe_lst pa_nil) (nomark _))
        (pss_one (ps_set (i := 4) scLRule.nd rfl (.inl rfl) (pe_op op_add (pv 4) pe_int))))
      (pss_one (ps_ret (pv 4)))), ?_⟩
    have hl := ka.length
    have h1 := good.1
    refine q_asg (v := .int ((0 : Nat) : Int)) ev_c fun H1 e1 => ?_
    refine q_while (fun m σ' H' => Ex H H' ∧ ∃ i : Nat, σ' = [some (.int β), some (.ref ar), some (.int f), some (.int s), some (.int (i : Int)), none] ∧ i < Ds.length ∧ m = Ds.length - i ∧ ∀ j d, j < i → Ds[j]? = some d → appl β f s d = false) Ds.length
      ⟨e1, 0, rfl, by omega, rfl, fun j d hj _ => absurd hj (Nat.not_lt_zero j)⟩ (fun m σ' H2 ⟨e2, i, hσ, hi, hm, hne⟩ => ?_)
    subst hσ
    obtain ⟨d, hd⟩ : ∃ d, Ds[i]? = some d := ⟨_, List.getElem?_eq_getElem hi⟩
    obtain ⟨u, hu, ku⟩ := ka.get hd
    obtain ⟨cs, k, rfl, hc3, hcs, hks⟩ := good.at hd
    obtain ⟨au, ac, ws, vk, rfl, hau, hac, kws, kk⟩ := (ku.ex e2).rule
    have hrs2 := e2 _ _ hrs
    have hcl := kws.length
    have eC : Ev (tOp (rIxT K) (tOp (rIxT K) (tVar 1) (tVar 4)) (tC (.int ((0 : Nat) : Int)))) [some (.int β), some (.ref ar), some (.int f), some (.int s), some (.int (i : Int)), none] H2 (.ref ac) := ev_at (K := K) (i := 0) (ev_op (ev_var rfl) (ev_var rfl) (rv_ixT (st_of hrs2) (atI_nat hu))) hau rfl
    obtain ⟨ns, hns⟩ : ∃ ns : List Int, ns = ((List.range ws.length).filter fun i => !holdsD β f s (cs.getD i .none)).map fun _ => (1 : Int) := ⟨_, rfl⟩
    have eL : EvL (tLc (iTup K (tOp (rIxT K) (tOp (rIxT K) (tVar 1) (tVar 4)) (tC (.int ((0 : Nat) : Int))))) (gName 5) (tNot (tTest (tCall spLHolds [] E0 (tCons (tVar 0) (tCons (tVar 5) (tCons (tVar 2) (tCons (tVar 3) tNil))))))) (tC (.int 1)) [5]) [some (.int β), some (.ref ar), some (.int f), some (.int s), some (.int (i : Int)), none] H2 (ns.map V.int) := by
      have := el_lcT (K := K) (te := tC (.int 1)) (t := tNot (tTest (tCall spLHolds [] E0 (tCons (tVar 0) (tCons (tVar 5) (tCons (tVar 2) (tCons (tVar 3) tNil))))))) (j := 5) (vs := [5]) (fun i => !holdsD β f s (cs.getD i .none)) (fun _ => .int 1) eC (st_of hac) (by omega) (fun _ => rfl) (fun i x H4 e4 hx => ?_) (fun i x H4 e4 hx _ => ev_c)
      · unfold given at this
        rw [hns, List.map_map]
        exact this
      · obtain ⟨dd, hd', kd'⟩ := kws.get2 hx
        have : cs.getD i .none = dd := by rw [List.getD_eq_getElem?_getD, hd']; rfl
        rw [this]
        exact et_not (et_B (ev_call (ea_cons (ev_var rfl) (ea_cons (ev_var rfl) (ea_cons (ev_var rfl) (ea_cons (ev_var rfl) ea_nil)))) fun H5 e5 Q5 q5 E5 => ⟨x, dd, β, f, s, rfl, r, (kd'.ex e4).ex e5, hcs dd (List.mem_of_getElem? hd'), fun H6 e6 => q5 H6 e6⟩))
    have hap : appl β f s (.tuple [.tuple cs, k]) = decide (ns = []) := by
      show cs.all (holdsD β f s) = _
      rw [hns]
      cases hb : cs.all (holdsD β f s) with
      | true =>
        refine (decide_eq_true ?_).symm
        rw [List.map_eq_nil_iff, List.filter_eq_nil_iff]
        intro j hj
        have hj' := List.mem_range.mp hj
        have hg : cs[j]? = some (cs.getD j .none) := by
          rw [List.getD_eq_getElem?_getD, List.getElem?_eq_getElem (by omega)]
          rfl
        have := List.all_eq_true.mp hb _ (List.mem_of_getElem? hg)
        rw [this]
        decide
      | false =>
        refine (decide_eq_false fun z => ?_).symm
        rw [List.map_eq_nil_iff, List.filter_eq_nil_iff] at z
        have : cs.all (holdsD β f s) = true := List.all_eq_true.mpr fun c hc => by
          obtain ⟨j, hj, e⟩ := List.getElem_of_mem hc
          have h2 := z j (List.mem_range.mpr (by omega))
          have : cs.getD j .none = c := by rw [List.getD_eq_getElem?_getD, List.getElem?_eq_getElem hj, ← e]; rfl
          rw [this] at h2
          simpa using h2
        rw [this] at hb
        cases hb
    have eLn : EvT (tTest (tOp (rNeD K) (tLc (iTup K (tOp (rIxT K) (tOp (rIxT K) (tVar 1) (tVar 4)) (tC (.int ((0 : Nat) : Int))))) (gName 5) (tNot (tTest (tCall spLHolds [] E0 (tCons (tVar 0) (tCons (tVar 5) (tCons (tVar 2) (tCons (tVar 3) tNil))))))) (tC (.int 1)) [5]) (tLst tNil))) [some (.int β), some (.ref ar), some (.int f), some (.int s), some (.int (i : Int)), none] H2 (!decide (ns = [])) := et_ne2 eL
    refine ⟨!decide (ns = []), eLn, fun z H4 e4 => ?_, fun z H4 e4 => ?_⟩
    · have hnap : appl β f s (.tuple [.tuple cs, k]) = false := by
        rw [hap]
        simpa using z
      have hi2 : i + 1 < Ds.length := by
        rcases Nat.lt_or_ge (i + 1) Ds.length with y | y
        · exact y
        · have : i = Ds.length - 1 := by omega
          rw [this] at hd
          rw [appl_last good hlast hd] at hnap
          cases hnap
      refine ⟨fun σ2 H5 => Ex H H5 ∧ σ2 = [some (.int β), some (.ref ar), some (.int f), some (.int s), some (.int ((i + 1 : Nat) : Int)), none], fun σ2 H5 ⟨ex5, a⟩ => ⟨Ds.length - (i + 1), by omega, ex5, i + 1, a, hi2, rfl, fun j d' hj hd' => ?_⟩, s_asg (v := .int ((i : Int) + 1)) (ev_op (ev_var rfl) ev_c rv_I0) fun H5 e5 => ⟨(e2.trans e4).trans e5, rfl⟩⟩
      rcases Nat.lt_or_ge j i with y | y
      · exact hne j d' y hd'
      · have : j = i := by omega
        subst this
        rw [hd] at hd'
        injection hd' with hd'
        rw [← hd']
        exact hnap
    · have hyap : appl β f s (.tuple [.tuple cs, k]) = true := by
        rw [hap]
        simpa using z
      rw [firstD_at hi hne (.inr ⟨_, hd, hyap⟩)] at q
      exact ⟨_, rfl, q H4 (e2.trans e4)⟩
/-! ### how many digits, the tail -/
def spLKeptBy : Sp := fun vs H Q _ => ∃ (v : V) (D : PyData) (β f s : Nat), vs = [.int β, v, .int f, .int s] ∧ RgN β f s ∧ Pt H v D ∧ KeepS D ∧ RetV (.int (keepN β f s D : Int)) H Q
abbrev nLKeptBy : List Str := ["base", "keep", "first", "second", "many", "size"]
theorem scLKeptBy : FnScope nLKeptBy ["base", "keep", "first", "second"] (defScope sLKeptBy) := ⟨rfl, rfl, rfl, by decide +kernel, rfl, by decide +kernel, by decide +kernel⟩
theorem minI (x y : Nat) : (if (y : Int) < (x : Int) then (y : Int) else (x : Int)) = ((min x y : Nat) : Int) := by
  rcases Nat.lt_or_ge y x with z | z
  · rw [if_pos (by omega), Nat.min_eq_right (Nat.le_of_lt z)]
  · rw [if_neg (by omega), Nat.min_eq_left z]
theorem maxI (x y : Nat) : (if (y : Int) > (x : Int) then (y : Int) else (x : Int)) = ((max x y : Nat) : Int) := by
  rcases Nat.lt_or_ge x y with z | z
  · rw [if_pos (by omega), Nat.max_eq_right (Nat.le_of_lt z)]
  · rw [if_neg (by omega), Nat.max_eq_left z]
theorem ev_max2 {σ : St} {H : Hp} {ta tb : TE} {x y : Nat} (ha : Ev ta σ H (.int x)) (hb : Ev tb σ H (.int y)) : Ev (tCB (fun xs H Q => ∃ i j, xs = [.int i, .int j] ∧ Q (.int (if j > i then j else i)) H) (tCons ta (tCons tb tNil))) σ H (.int ((max x y : Nat) : Int)) :=
  ev_cb (ea_cons ha (ea_cons hb ea_nil)) fun H1 e Q q => ⟨_, _, rfl, by
    rw [maxI]
    exact q _ (Ex.refl _)⟩
theorem ev_min2 {σ : St} {H : Hp} {ta tb : TE} {x y : Nat} (ha : Ev ta σ H (.int x)) (hb : Ev tb σ H (.int y)) : Ev (tCB (fun xs H Q => ∃ i j, xs = [.int i, .int j] ∧ Q (.int (if j < i then j else i)) H) (tCons ta (tCons tb tNil))) σ H (.int ((min x y : Nat) : Int)) :=
  ev_cb (ea_cons ha (ea_cons hb ea_nil)) fun H1 e Q q => ⟨_, _, rfl, by
    rw [minI]
    exact q _ (Ex.refl _)⟩
theorem ok_lkeptBy {f : Addr} {fd fd1 fd3 : FuncData} (F : Fun K "_law_kept_by" "_law_kept_by" sLKeptBy f fd) (GD : FnOk P w K mg base CX0 2 fld fd1 ["base", "number"] spLDigits) (bD : Binds K fd1 ["base", "number"] [])
    (GC : FnOk P w K mg base CX0 2 flc fd3 ["base", "first", "second"] spLChg) (bC : Binds K fd3 ["base", "first", "second"] []) (T : TxZ K mg fld flp flc flh flr flb flk) : FnOk P w K mg base CX0 3 f fd ["base", "keep", "first", "second"] spLKeptBy := by
  refine F.ok scLKeptBy (fun vs H Q E h => ?_) (fun cdv A outer s H vs Q E hr h => ?_)
  · obtain ⟨_, _, _, _, _, rfl, _⟩ := h
    rfl
  · obtain ⟨v, D, β, f, s, rfl, r, k, hc, q⟩ := h
    refine ⟨_, pss_cons (ps_set (i := 4) scLKeptBy.nd rfl (.inl rfl) (pe_callB call_len_str (by rfl) T.len (by decide +kernel) (pa_cons (pe_call GD hr (by rfl) T.ldig T.kLd bD .nil pass0 (pa_cons (pv 0) (pa_cons (pv 3) pa_nil))) pa_nil)))
      (pss_cons (ps_if (pt_cmpR op_eq (pe_ix ix_tup (pv 1) pe_int (fun _ _ => rfl)) pe_str (nomark _)) (pss_one (ps_ret (pv 4))) pss_nil)
      (pss_cons (ps_set (i := 5) scLKeptBy.nd rfl (.inl rfl) (pe_ix ix_tup (pv 1) pe_int (fun _ _ => rfl)))
      (pss_cut (ps_if (pt_cmpR op_eq (pe_ix ix_tup (pv 1) pe_int (fun _ _ => rfl)) pe_str (nomark _)) (pss_one (ps_set (i := 5) scLKeptBy.nd rfl (.inl rfl) (pe_callB (call_max2 (by rfl)) (by rfl) T.max (by decide +kernel) (pa_cons (pv 5) (pa_cons (pe_call GC hr (by rfl) T.chg T.kLc bC .nil pass0 (pa_cons (pv 0) (pa_cons (pv 2) (pa_cons (pv 3) pa_nil)))) pa_nil))))) pss_nil)
      (pss_one (ps_ret (pe_callB (call_min2 (by rfl)) (by rfl) T.min (by decide +kernel) (pa_cons (pv 5) (pa_cons (pv 4) pa_nil)))))))), ?_⟩
    have k' : ∃ ds, D = .tuple ds := by cases hc <;> exact ⟨_, rfl⟩
    obtain ⟨ds, rfl⟩ := k'
    obtain ⟨a, us, rfl, ha0, ka0⟩ := k.tupI'
    have ls : (digs β s).length ≤ 100000 := Nat.le_trans r.ls (by decide)
    refine q_asg (v := .int ((dl β s).length : Int)) (ev_is (ev_lenX (K := K) (ev_digL (ev_var rfl) (ev_var rfl) r.b2 r.b10 r.s2) ls) (by rw [digs_len])) fun H1 e1 => ?_
    have ha := e1 _ _ ha0
    have ka := ka0.ex e1
    cases hc with
    | all =>
      obtain ⟨u0, rfl⟩ : ∃ u0, us = [u0] := by
        match us, ka0.length with
        | [u0], _ => exact ⟨_, rfl⟩
      cases ka with
      | cons k0 _ =>
        cases k0
        refine q_when (b := true) (et_test (ev_is (ev_op (ev_at (K := K) (i := 0) (ev_var rfl) ha rfl) ev_c (rv_eq rfl)) (by rw [decide_eq_true rfl]))) (fun z H2 e2 => ?_) (fun z => nomatch z)
        exact ⟨_, rfl, q H2 (e1.trans e2)⟩
    | size w hw i h1 h6 =>
      obtain ⟨u0, u1, rfl⟩ : ∃ u0 u1, us = [u0, u1] := by
        match us, ka0.length with
        | [u0, u1], _ => exact ⟨_, _, rfl⟩
      cases ka with
      | cons k0 ka =>
        cases ka with
        | cons k1 _ =>
          cases k0
          cases k1
          obtain ⟨ι, rfl⟩ : ∃ ι : Nat, i = (ι : Int) := ⟨i.toNat, by omega⟩
          refine q_when (b := false) (et_test (ev_is (ev_op (ev_at (K := K) (i := 0) (ev_var rfl) ha rfl) ev_c (rv_eq rfl)) (by rw [decide_eq_false (fun z => by rcases hw with rfl | rfl <;> exact absurd z (by decide +kernel))]))) (fun z => nomatch z) (fun z H2 e2 => ?_)
          have ha2 := e2 _ _ ha
          refine q_asg (v := .int (ι : Int)) (ev_at (K := K) (i := 1) (ev_var rfl) ha2 rfl) fun H3 e3 => ?_
          have ha3 := e3 _ _ ha2
          have e13 := (e1.trans e2).trans e3
          obtain ⟨sz, hsz⟩ : ∃ sz : Nat, sz = if w = "changed" then max ι (chgN β f s) else ι := ⟨_, rfl⟩
          refine q_cut (M := fun σ' H' => Ex H3 H' ∧ σ' = [some (.int β), some (.ref a), some (.int f), some (.int s), some (.int ((dl β s).length : Int)), some (.int (sz : Int))]) ?_ fun σ4 H4 hM => ?_
          · refine s_when (b := decide (w = "changed")) (et_test (ev_is (ev_op (ev_at (K := K) (i := 0) (ev_var rfl) ha3 rfl) ev_c (rv_eq rfl)) (by
              congr 1
              exact decide_eq_decide.mpr ⟨fun z => by injection z, fun z => by rw [z]⟩))) (fun z H4 e4 => ?_) (fun z H4 e4 => ?_)
            · refine s_asg (v := .int ((max ι (chgN β f s) : Nat) : Int)) (ev_max2 (ev_var rfl) (ev_chgL r (ev_var rfl) (ev_var rfl) (ev_var rfl))) fun H5 e5 => ⟨e4.trans e5, ?_⟩
              rw [hsz, if_pos (of_decide_eq_true z)]
              rfl
            · refine ⟨e4, ?_⟩
              rw [hsz, if_neg (of_decide_eq_false z)]
              rfl
          · obtain ⟨e4, rfl⟩ := hM
            have hk : keepN β f s (.tuple [.str w, .int (ι : Int)]) = min sz (dl β s).length := by
              show (if w = "changed" then min (max (chgN β f s) ι) (dl β s).length else min ι (dl β s).length) = _
              rw [hsz]
              by_cases y : w = "changed"
              · rw [if_pos y, if_pos y, Nat.max_comm]
              · rw [if_neg y, if_neg y]
            rw [hk] at q
            exact s_ret (ev_min2 (ev_var rfl) (ev_var rfl)) fun H5 e5 => q H5 ((e13.trans e4).trans e5)
def spLKept : Sp := fun vs H Q _ => ∃ (vr : V) (Ds : List PyData) (β f s : Nat), vs = [.int β, vr, .int f, .int s] ∧ RuR H vr β f s Ds ∧ RetV (.int (keptD β f s Ds : Int)) H Q
theorem ev_callGL {sp : Sp} {ta : TA} {vs : List V} {v : V} {σ : St} {H : Hp} {E : XK} (h : EvA ta σ H vs) (k : ∀ H1, Ex H H1 → ∀ Q, (∀ H2, Ex H1 H2 → Q v H2) → ∀ E, sp vs H1 Q E) : Ev (tCall sp [] E ta) σ H v := fun H1 e Q q => h H1 e _ fun H2 e2 => by
  rw [List.append_nil]
  exact k H2 (e.trans e2) _ (fun H3 e3 => q H3 (e2.trans e3)) _
def spLTail : Sp := fun vs H Q _ => ∃ (vr : V) (Ds : List PyData) (β f s : Nat), vs = [.int β, vr, .int f, .int s] ∧ RuR H vr β f s Ds ∧ RetV (.str (tailD β f s Ds)) H Q
end
end Dt

/-! The law's own stretches: one second number by another; its own sum. -/
namespace Dt
open PySem L2 Evl Dg LamR LamX StX ClX TL
abbrev sLDue : Stmt := top 71
abbrev sLSum : Stmt := top 72
structure TxLd (K : PySem.W.Frag) (mg : Str → Option Value) (flr flb fld2 fls : Addr) : Prop where
  lrule : mg "_law_rule" = some (.ref flr)
  kLr : PySem.W.keepIn K (.ref flr) = true
  lkeptBy : mg "_law_kept_by" = some (.ref flb)
  kLb : PySem.W.keepIn K (.ref flb) = true
  range : mg "range" = none
  tuple : mg "tuple" = none
theorem RwAt.dp {K : PySem.W.Frag} {H : Hp} : ∀ {vs : List V} {rs : List Row}, RwAt H vs rs → DpAll K H vs (rs.map rowD)
  | [], [], _ => .nil
  | [], _ :: _, h => h.elim
  | _ :: _, [], h => h.elim
  | _ :: _, r :: _, ⟨⟨a, h1, h2⟩, h3⟩ => by
    subst h1
    exact .cons (.tup (st_of h2) (.cons (.int _) (.cons (.int _) (.cons (.int _) .nil)))) h3.dp
/-- small rows -/
def SmR (rs : List Row) : Prop := rs.length ≤ 70 ∧ ∀ r ∈ rs, r.1 < 2 ^ 40 ∧ r.2.1 < 2 ^ 40 ∧ r.2.2 < 2 ^ 40
theorem ts_row {r : Row} (h : r.1 < 2 ^ 40 ∧ r.2.1 < 2 ^ 40 ∧ r.2.2 < 2 ^ 40) : Ts (rowD r) 5800 1 :=
  (TsAll.tup (m := 1921) (n := 0) (.cons (ts_int (by omega)) (.cons (ts_int (by omega)) (.cons (ts_int (by omega)) .nil)))).up (by show 3 * (1921 + 2) + 4 ≤ 5800; decide) (by decide)
theorem ts_rows {rs : List Row} (h : SmR rs) : Ts (.tuple (rs.map rowD)) 410000 2 :=
  (TsAll.tup (m := 5800) (n := 1) (tsAll_of fun d hd => by
    obtain ⟨r, hr, rfl⟩ := List.mem_map.mp hd
    exact ts_row (h.2 r hr))).up (by rw [List.length_map]; have := h.1; omega) (by decide)
theorem strR_sm {β f m : Nat} {Ds : List PyData} (b2 : 2 ≤ β) (good : RowS β Ds) (hfm : f < m) (m30 : m < 2 ^ 30) (hl : (strR β f m Ds).length ≤ 61) : SmR (strR β f m Ds) := by
  refine ⟨by omega, fun r hr => ?_⟩
  obtain ⟨h1, h2, h3⟩ := strR_in r hr
  rw [Nat.max_eq_right (by omega)] at h3
  have h4 := kept_sm (f := f) (s := r.1) b2 good (by omega) (by omega)
  have h5 : firstD β f r.1 Ds < Ds.length := firstD_lt good.1
  have h6 := good.2.1
  rw [h1]
  refine ⟨by omega, ?_, ?_⟩
  · show firstD β f r.1 Ds < 2 ^ 40
    omega
  · show keptD β f r.1 Ds < 2 ^ 40
    omega
theorem lay_rows : ∀ rs : List Row, PyData.canLayAll0 (rs.map rowD) = true
  | [] => rfl
  | r :: rs => by
    simp only [List.map_cons, rowD, PyData.canLayAll0, PyData.canLay0, lay_rows rs, Bool.and_self]
theorem set_last (a b : V) : ∀ xs : List V, (xs ++ [a]).set xs.length b = xs ++ [b]
  | [] => rfl
  | x :: xs => congrArg (x :: ·) (set_last a b xs)
theorem depth_rows : ∀ rs : List Row, PyData.depthAll (rs.map rowD) ≤ 1
  | [] => by decide
  | r :: rs => by
    have h := depth_rows rs
    have h1 : (rowD r).depth ≤ 1 := by
      unfold rowD
      simp only [PyData.depth, PyData.depthAll]
      decide
    simp only [List.map_cons, PyData.depthAll]
    omega
theorem shaped_rows (rs : List Row) : SeqAt.shaped (.list (rs.map rowD)) = true := by
  have h := depth_rows rs
  refine Bool.and_eq_true_iff.mpr ⟨?_, decide_eq_true ?_⟩
  · simpa only [PyData.canLay0] using lay_rows rs
  · simp only [PyData.depth]
    omega
theorem s_setI {te ta tb : TE} {σ : St} {H : Hp} {v : V} {D : Ends} {l : Addr} {xs : List V} {j : Nat} {k : Int} (hl : H l = some (.lst xs)) (h : Ev te σ H v) (ho : Ev ta σ H (.ref l)) (hi : Ev tb σ H (.int k)) (hj : ixN xs.length k = some j) (kk : ∀ H1, Ex H H1 → D.nx σ (upd H1 l (.lst (xs.set j v)))) :
    tAsg te (gSub ta tb rSetL) D σ H := h H (Ex.refl H) _ fun H1 e1 => ho H1 e1 _ fun H2 e2 => hi H2 (e1.trans e2) _ fun H3 e3 => ⟨l, xs, k, j, rfl, rfl, ((e1.trans e2).trans e3) l _ hl, hj, kk H3 ((e1.trans e2).trans e3)⟩
theorem ixN_last (n : Nat) : ixN (n + 1) (-1) = some n := by
  unfold ixN
  rw [if_neg (by decide), if_pos (by omega)]
  congr 1
  omega
section
variable {P : Program} {w : World} {K : PySem.W.Frag} {mg : Str → Option Value} {base : Heap} {flr flb fld2 fls : Addr}
def spLDue : Sp := fun vs H Q _ => ∃ (vr : V) (Ds : List PyData) (β f m : Nat), vs = [.int β, vr, .int f, .int m] ∧ 2 ≤ β ∧ β ≤ 10 ∧ RowS β Ds ∧ lastC Ds = false ∧ Pt H vr (.tuple Ds) ∧ 1 ≤ f ∧ f < m ∧ m < 99999 ∧
  ∀ (t : Addr) (ws : List V) (H' : Hp), Ex H H' → H t = none → H' t = some (.tup ws) → RwAt H' ws (strR β f m Ds) → Q (.ref t) H'
abbrev nLDue : List Str := ["base", "rules", "first", "most", "found", "second", "number", "row"]
theorem scLDue : FnScope nLDue ["base", "rules", "first", "most"] (defScope sLDue) := ⟨rfl, rfl, rfl, by decide +kernel, rfl, by decide +kernel, by decide +kernel⟩
theorem ok_ldue {f : Addr} {fd fd1 fd2 : FuncData} (F : Fun K "_law_due" "_law_due" sLDue f fd) (GR : FnG P w K mg base CX0 5 flr fd1 ["base", "rules", "first", "second"] spLRule) (bR : Binds K fd1 ["base", "rules", "first", "second"] [])
    (GK : FnOk P w K mg base CX0 5 flb fd2 ["base", "keep", "first", "second"] spLKeptBy) (bK : Binds K fd2 ["base", "keep", "first", "second"] []) (T : TxLd K mg flr flb fld2 fls) : FnG P w K mg base CX0 6 f fd ["base", "rules", "first", "most"] spLDue := by
  refine F.okG scLDue (fun vs H Q E h => ?_) (fun cdv A outer s H vs Q E hr h => ?_)
  · obtain ⟨_, _, _, _, _, rfl, _⟩ := h
    rfl
  · obtain ⟨vr, Ds, β, f0, m, rfl, b2, b10, good, hlast, kr, f1, hfm, m9, q⟩ := h
    have hu64 : (A.deeper (PyProof.Rows.envOfC "_law_due" (defScope sLDue) s.heap.objs.size f cdv)).units + 64 < cLine := by have := hr.r.units; omega
    obtain ⟨ar, rs, rfl, hrs, ka⟩ := kr.tupI'
    refine ⟨_, pss_cons (ps_set (i := 4) scLDue.nd rfl (.inl rfl) (pe_lst pa_nil))
      (pss_cons (ps_for PassesOwn.never rfl (pi_range2 (by rfl) T.range (pa_cons (pe_op op_add (pv 2) pe_int) (pa_cons (pe_op op_add (pv 3) pe_int) pa_nil))) (pg_name (i := 5) scLDue.nd rfl (.inl rfl))
        (pss_cons (ps_set (i := 6) scLDue.nd rfl (.inl rfl) (pe_callG GR hr (by rfl) T.lrule T.kLr bR .nil pass0 (pa_cons (pv 0) (pa_cons (pv 1) (pa_cons (pv 2) (pa_cons (pv 5) pa_nil))))))
        (pss_cons (ps_set (i := 7) scLDue.nd rfl (.inl rfl) (pe_tup (pa_cons (pv 5) (pa_cons (pv 6) (pa_cons (pe_call GK hr.r (by rfl) T.lkeptBy T.kLb bK .nil pass0 (pa_cons (pv 0) (pa_cons (pe_ix ix_tup (pe_ix ix_tup (pv 1) (pv 6) (fun _ _ => rfl)) pe_int (fun _ _ => rfl)) (pa_cons (pv 2) (pa_cons (pv 5) pa_nil))))) pa_nil)))))
        (pss_one (ps_if (PW.pt (pw_and (pt_cmpR (op_neD (show _ + 64 < cLine from hu64)) (pv 4) (pe_lst pa_nil) (nomark _))
            (pw_and1 (pt_cmpR (op_eqD (show _ + 64 < cLine from hu64)) (pe_slice (r := rSlA K) sl_tupA (pe_ix (r := rIxL K) ix_list (pv 4) (pe_un un_neg pe_int) (fun _ _ => rfl)) (po_some pe_int) po_none) (pe_slice (r := rSlA K) sl_tupA (pv 7) (po_some pe_int) po_none) (nomark _)))))
            (pss_one (ps_asg (pv 7) (pg_sub (pv 4) (pe_un un_neg pe_int) set_list)))
            (pss_one (ps_expr (pe_bm PySem.F.plainAttrs_list PySem.F.slot_list_append PySem.F.type_list_append mt_append (pv 4) (pa_cons (pv 7) pa_nil)))))))))
      (pss_one (ps_ret (pe_callTy (T := "tuple") call_tuple_of (by rfl) T.tuple (by decide +kernel) (pa_cons (pv 4) pa_nil))))), ?_⟩
    refine q_asgL (xs := []) (el_lst ea_nil (by simp)) fun l H1 n1 e1 h1 => ?_
    obtain ⟨key, hkey⟩ : ∃ key, key = keyS β f0 Ds := ⟨_, rfl⟩
    have nl : H l = none := n1
    refine q_forR2 (lo := (f0 : Int) + 1) (n := (m : Int) + 1) (ea_cons (ev_op (ev_var rfl) ev_c rv_I0) (ea_cons (ev_op (ev_var rfl) ev_c rv_I0) ea_nil)) (by omega)
      (fun i σ' H' => Ex H H' ∧ ∃ (x5 x6 x7 : Option V) (vs : List V), σ' = [some (.int (β : Int)), some (.ref ar), some (.int (f0 : Int)), some (.int (m : Int)), some (.ref l), x5, x6, x7] ∧ H' l = some (.lst vs.reverse) ∧ RwAt H' vs (Rn.rows key [] (List.range' (f0 + 1) i)) ∧ vs.length ≤ i)
      (fun H2 e2 => ⟨e1.trans e2, none, none, none, [], rfl, e2 _ _ h1, trivial, Nat.le_refl _⟩) (fun i σ' H2 hi ⟨e2, x5, x6, x7, vs, hσ, hl2, hr2, hle⟩ => ?_) (fun σ' H2 ⟨e2, x5, x6, x7, vs, hσ, hl2, hr2, hle⟩ => ?_)
    · subst hσ
      obtain ⟨n, hn⟩ : ∃ n, n = f0 + 1 + i := ⟨_, rfl⟩
      have en : (f0 : Int) + 1 + (i : Int) = (n : Int) := by omega
      rw [en]
      have n50 : n < 2 ^ 50000 := Nat.lt_of_lt_of_le (show n < 2 ^ 30 by omega) (Nat.pow_le_pow_right (by decide) (by decide))
      have rg : RgN β f0 n := ⟨b2, b10, f1, by omega, n50⟩
      have hru : RuR H2 (.ref ar) β f0 n Ds := ⟨rg, good, hlast, kr.ex e2⟩
      have rowsS : Rn.rows key [] (List.range' (f0 + 1) (i + 1)) = Rn.push (Rn.rows key [] (List.range' (f0 + 1) i)) n (key n) := by
        rw [List.range'_1_concat, Rn.rows_app, hn]
        rfl
      obtain ⟨k1, hk1⟩ : ∃ k1, k1 = firstD β f0 n Ds := ⟨_, rfl⟩
      obtain ⟨k2, hk2⟩ : ∃ k2, k2 = keptD β f0 n Ds := ⟨_, rfl⟩
      have ekey : key n = (k1, k2) := by rw [hkey, hk1, hk2]; rfl
      dsimp only
      refine q_asg (v := .int (k1 : Int)) (ev_callGL (ea_cons (ev_var rfl) (ea_cons (ev_var rfl) (ea_cons (ev_var rfl) (ea_cons (ev_var rfl) ea_nil)))) fun H3 e3 Q3 q3 E3 => ⟨.ref ar, Ds, β, f0, n, rfl, hru.ex e3, by rw [← hk1]; exact fun H4 e4 => q3 H4 e4⟩) fun H3 e3 => ?_
      obtain ⟨d, hd⟩ : ∃ d, Ds[k1]? = some d := ⟨_, List.getElem?_eq_getElem (by rw [hk1]; exact firstD_lt good.1)⟩
      obtain ⟨u, hu, ku⟩ := (ka.ex (e2.trans e3)).get hd
      obtain ⟨cs, k, rfl, hc3, hcs, hks⟩ := good.at hd
      obtain ⟨au, ac, ws, vk, rfl, hau, hac, kws, kk⟩ := ku.rule
      have hk : k2 = keepN β f0 n k := by
        rw [hk2]
        unfold keptD
        rw [← hk1, List.getD_eq_getElem?_getD, hd]
        rfl
      have hrs3 := (e2.trans e3) _ _ hrs
      refine q_asgU (xs := [V.int (n : Int), .int (k1 : Int), .int (k2 : Int)]) (eu_tup (ea_cons (ev_var rfl) (ea_cons (ev_var rfl) (ea_cons (x := .int (k2 : Int)) ?_ ea_nil))) (by simp)) fun t H4 nt e4 ht => ?_
      · rw [hk]
        exact ev_call (ea_cons (ev_var rfl) (ea_cons (x := vk) (ev_at (K := K) (i := 1) (ev_op (ev_var rfl) (ev_var rfl) (rv_ixT (st_of hrs3) (atI_nat hu))) hau rfl) (ea_cons (ev_var rfl) (ea_cons (ev_var rfl) ea_nil)))) fun H1 e1 Q1 q1 E1 => ⟨vk, k, β, f0, n, rfl, rg, kk.ex e1, hks, fun H2 e2 => q1 H2 e2⟩
      have e34 := e3.trans e4
      have hl4 := e34 _ _ hl2
      have hr4 := hr2.ex e34
      have e24 := e2.trans e34
      have tl : t ≠ l := fun g => by
        rw [g, e3 _ _ hl2] at nt
        cases nt
      generalize hacc : Rn.rows key [] (List.range' (f0 + 1) i) = acc at hr4 rowsS
      have LAST : ∀ {H9 : Hp} {te : TE} {a0 : Addr} {r0 : Row}, Ev te [some (.int (β : Int)), some (.ref ar), some (.int (f0 : Int)), some (.int (m : Int)), some (.ref l), some (.int (n : Int)), some (.int (k1 : Int)), some (.ref t)] H9 (.ref a0) → H9 a0 = some (.tup [.int r0.1, .int r0.2.1, .int r0.2.2]) →
          ∀ {lo hi : TO}, EvO lo [some (.int (β : Int)), some (.ref ar), some (.int (f0 : Int)), some (.int (m : Int)), some (.ref l), some (.int (n : Int)), some (.int (k1 : Int)), some (.ref t)] H9 (some 1) → EvO hi [some (.int (β : Int)), some (.ref ar), some (.int (f0 : Int)), some (.int (m : Int)), some (.ref l), some (.int (n : Int)), some (.int (k1 : Int)), some (.ref t)] H9 none →
          EvU (tSl (rSlA K) te lo hi) [some (.int (β : Int)), some (.ref ar), some (.int (f0 : Int)), some (.int (m : Int)), some (.ref l), some (.int (n : Int)), some (.int (k1 : Int)), some (.ref t)] H9 [V.int r0.2.1, V.int r0.2.2] := fun h ha _ _ hlo hhi H10 e10 Q10 q10 =>
        h H10 e10 _ fun H11 e11 => hlo H11 (e10.trans e11) _ fun H12 e12 => hhi H12 ((e10.trans e11).trans e12) _ fun H13 e13 => ⟨_, _, rfl, st_of ((((e10.trans e11).trans e12).trans e13) _ _ ha), fun g => absurd g.1 (show ¬ HT.sIx 3 0 (some 1) = 0 by decide), fun _ p1 np1 => q10 p1 _ (fresh_back ((e11.trans e12).trans e13) np1) (((e11.trans e12).trans e13).trans (Ex.new np1)) upd_same⟩
      cases acc with
      | nil =>
        have hvs : vs = [] := List.length_eq_zero_iff.mp hr4.len
        subst hvs
        refine s_if (b := false) (et_is (et_and (a := false) (b := false) ?_ fun z => nomatch z) rfl) (fun z => nomatch z) fun z H9 e9 => ?_
        · refine et_test fun H9 e9 Q9 q9 => ?_
          refine (ev_var rfl) H9 (Ex.refl H9) _ fun H10 e10 => (el_lst ea_nil (by simp)) H10 (Ex.refl H10) _ fun p2 H11 np2 e11 hp2 => ⟨.list [], .list [], .lst (sq_of ((e9.trans e10).trans e11 _ _ hl4)) .nil, .lst (sq_of hp2) .nil, by decide +kernel, by decide +kernel, ?_⟩
          exact q9 _ (e10.trans e11)
        · refine s_app (v := .ref t) (e9 _ _ hl4) (ev_var rfl) (ev_var rfl) (by simp) fun H10 e10 => ⟨(e24.trans (e9.trans e10)).mut nl, _, _, _, [V.ref t], rfl, upd_same, ?_, by simp⟩
          rw [rowsS]
          exact ⟨⟨t, rfl, by rw [upd_ne tl, (e9.trans e10) _ _ ht, ekey]⟩, trivial⟩
      | cons r0 acc0 =>
        cases vs with
        | nil => exact hr4.elim
        | cons v0 vs0 =>
          have hr4' := hr4
          obtain ⟨⟨a0, rfl, ha0⟩, hr0⟩ := hr4
          obtain ⟨l0, k0⟩ := r0
          have hle0 : vs0.length + 1 ≤ i := by rw [List.length_cons] at hle; exact hle
          have m1 : i < 99999 := by omega
          refine s_if (b := decide (k0 = key n)) (et_is (et_and (a := true) (b := decide (k0 = key n)) ?_ fun _ => ?_) (Bool.true_and _)) (fun z H9 e9 => ?_) fun z H9 e9 => ?_
          · refine et_test fun H9 e9 Q9 q9 => ?_
            have hrr := (hr4'.ex e9).rev (ws := []) (ss := []) trivial
            rw [List.append_nil, List.append_nil] at hrr
            refine (ev_var rfl) H9 (Ex.refl H9) _ fun H10 e10 => (el_lst ea_nil (by simp)) H10 (Ex.refl H10) _ fun p2 H11 np2 e11 hp2 => ⟨.list (((l0, k0) :: acc0).reverse.map rowD), .list [], .lst (sq_of ((e9.trans e10).trans e11 _ _ hl4)) (hrr.ex (e10.trans e11)).dp, .lst (sq_of hp2) .nil, shaped_rows _, by decide +kernel, ?_⟩
            have eq : PyData.eqv (.list (((l0, k0) :: acc0).reverse.map rowD)) (.list []) = false := by
              cases hz : ((l0, k0) :: acc0).reverse.map rowD with
              | nil =>
                have := congrArg List.length hz
                simp at this
              | cons d ds => simp [PyData.eqv, PyData.eqvAll]
            rw [eq]
            exact q9 _ (e10.trans e11)
          · refine et_test fun H9 e9 Q9 q9 => ?_
            have hat : atI (V.ref a0 :: vs0).reverse (-1) = some (.ref a0) := by
              rw [List.reverse_cons]
              exact atI_last _ _
            refine LAST (r0 := (l0, k0)) (ev_op (ev_var rfl) (ev_un ev_c ru_neg) (rv_ixL (sq_of (e9 _ _ hl4)) hat)) (e9 _ _ ha0) (eo_some ev_c) eo_none H9 (Ex.refl H9) _ fun p1 H10 np1 e10 hp1 => ?_
            refine LAST (r0 := (n, (k1, k2))) (ev_var rfl) ((e9.trans e10) _ _ ht) (eo_some ev_c) eo_none H10 (Ex.refl H10) _ fun p2 H11 np2 e11 hp2 => ⟨.tuple [.int k0.1, .int k0.2], .tuple [.int k1, .int k2], .tup (st_of (e11 _ _ hp1)) (.cons (.int _) (.cons (.int _) .nil)), .tup (st_of hp2) (.cons (.int _) (.cons (.int _) .nil)), rfl, rfl, ?_⟩
            have eb : PyData.eqv (.tuple [.int k0.1, .int k0.2]) (.tuple [.int k1, .int k2]) = decide (k0 = key n) := by
              rw [ekey]
              by_cases g : k0 = (k1, k2)
              · rw [decide_eq_true g, g]
                exact eqv_self rfl
              · rw [decide_eq_false g]
                cases hq : PyData.eqv (.tuple [.int k0.1, .int k0.2]) (.tuple [.int k1, .int k2]) with
                | false => rfl
                | true =>
                  have h := eqv_eq (d := .tuple [.int k0.1, .int k0.2]) (e := .tuple [.int k1, .int k2]) rfl rfl hq
                  simp only [PyData.tuple.injEq, List.cons.injEq, PyData.int.injEq, and_true] at h
                  exact absurd (Prod.ext (by omega) (by omega)) g
            rw [eb]
            exact q9 _ (e10.trans e11)
          · have z := of_decide_eq_true z
            have hl9 := e9 _ _ hl4
            refine s_setI (j := vs0.length) (v := .ref t) hl9 (ev_var rfl) (ev_var rfl) (ev_un ev_c ru_neg) (by rw [List.length_reverse, List.length_cons]; exact ixN_last _) fun H10 e10 => ⟨(e24.trans (e9.trans e10)).mut nl, _, _, _, V.ref t :: vs0, rfl, ?_, ?_, by simp only [List.length_cons]; omega⟩
            · have es : (V.ref a0 :: vs0).reverse.set vs0.length (V.ref t) = (V.ref t :: vs0).reverse := by
                rw [List.reverse_cons, List.reverse_cons]
                have := set_last (.ref a0) (.ref t) vs0.reverse
                rw [List.length_reverse] at this
                exact this
              rw [← es]
              exact upd_same
            · rw [rowsS, Rn.push_cons, if_pos z]
              exact ⟨⟨t, rfl, by rw [upd_ne tl, (e9.trans e10) _ _ ht, ekey]⟩, (RwAt.ex (e9.trans e10) hr0).upd ((e9.trans e10) _ _ hl4)⟩
          · have z := of_decide_eq_false z
            refine s_app (v := .ref t) (e9 _ _ hl4) (ev_var rfl) (ev_var rfl) (by rw [List.length_reverse, List.length_cons]; omega) fun H10 e10 => ⟨(e24.trans (e9.trans e10)).mut nl, _, _, _, V.ref t :: V.ref a0 :: vs0, rfl, by rw [List.reverse_cons (a := V.ref t)]; exact upd_same, ?_, by simp only [List.length_cons]; omega⟩
            rw [rowsS, Rn.push_cons, if_neg z]
            exact ⟨⟨t, rfl, by rw [upd_ne tl, (e9.trans e10) _ _ ht, ekey]⟩, (RwAt.ex (e9.trans e10) hr4').upd ((e9.trans e10) _ _ hl4)⟩
    · subst hσ
      have ei : ((m : Int) + 1 - ((f0 : Int) + 1)).toNat = m - f0 := by omega
      rw [ei] at hr2
      dsimp only
      refine ret1 (cb1 ⟨_, rfl, l, vs.reverse, rfl, .inl ⟨sq_of hl2, fun t nt => ?_⟩⟩)
      refine q t vs.reverse _ (e2.trans (Ex.new nt)) (fresh_back e2 nt) upd_same ?_
      have hr7 := (hr2.ex (Ex.new (o := .tup vs.reverse) nt)).rev (ws := []) (ss := []) trivial
      rw [List.append_nil, List.append_nil, hkey] at hr7
      exact hr7
def spLSum : Sp := fun vs H Q _ => ∃ (t : Addr) (ws : List V) (rs : List Row) (f : Nat), vs = [.int f, .ref t] ∧ H t = some (.tup ws) ∧ RwAt H ws rs ∧ Asc f rs ∧ f < 2 ^ 30 ∧ RetV (.int (totR f rs : Int)) H Q
abbrev nLSum : List Str := ["first", "rows", "found", "before", "last", "number", "kept"]
theorem scLSum : FnScope nLSum ["first", "rows"] (defScope sLSum) := ⟨rfl, rfl, rfl, by decide +kernel, rfl, by decide +kernel, by decide +kernel⟩
theorem ok_lsum {f : Addr} {fd : FuncData} (F : Fun K "_law_sum" "_law_sum" sLSum f fd) : FnOk P w K mg base CX0 1 f fd ["first", "rows"] spLSum := by
  refine F.ok scLSum (fun vs H Q E h => ?_) (fun cdv A outer s H vs Q E hr h => ?_)
  · obtain ⟨_, _, _, _, rfl, _⟩ := h
    rfl
  · obtain ⟨t, ws, rs, f0, rfl, ht, hw, hA, f30, q⟩ := h
    refine ⟨_, pss_cons (ps_par (i := 2) (j := 3) (by rfl) scLSum.nd rfl rfl (by decide) rfl rfl (pa_cons pe_int (pa_cons (pv 0) pa_nil)) (by rfl))
      (pss_cons (ps_for PassesOwn.never rfl (pi_tup (pv 1)) (pg_tup (by rfl) (pgs_cons (pg_name (i := 4) scLSum.nd rfl (.inl rfl)) (pgs_cons (pg_name (i := 5) scLSum.nd rfl (.inl rfl)) (pgs_cons (pg_name (i := 6) scLSum.nd rfl (.inl rfl)) pgs_nil))))
        (pss_one (ps_par (i := 2) (j := 3) (by rfl) scLSum.nd rfl rfl (by decide) rfl rfl (pa_cons (pe_op op_add (pv 2) (pe_op op_mul (pv 6) (pe_op op_sub (pv 4) (pv 3)))) (pa_cons (pv 4) pa_nil)) (by rfl))))
      (pss_one (ps_ret (pv 2)))), ?_⟩
    refine q_par (v := .int 0) (w := .int (f0 : Int)) (ea_cons ev_c (ea_cons (ev_var rfl) ea_nil)) fun H1 e1 => ?_
    have hlen := hw.len
    refine ⟨_, rfl, t, rfl, ⟨ws, st_of (e1 _ _ ht)⟩, for_tup (xs := ws) (fun i σ' H' => Ex H H' ∧ ∃ (x4 x5 x6 : Option V) (a y : Nat), σ' = [some (.int (f0 : Int)), some (.ref t), some (.int (a : Int)), some (.int (y : Int)), x4, x5, x6] ∧ Asc y (rs.drop i) ∧ y < 2 ^ 30 ∧ a + totR y (rs.drop i) = totR f0 rs)
      ⟨e1, none, none, none, 0, f0, rfl, hA, f30, by rw [Nat.zero_add]; rfl⟩ (fun i σ' H' _ hI => st_of (hI.1 _ _ ht)) (fun i n σ' H' hn hI => ?_) (fun σ' H' hI => ?_)⟩
    · obtain ⟨e6, x5, x6, x7, a, y, rfl, hA6, hy, hs⟩ := hI
      obtain ⟨r, hr2, tn, rfl, htn⟩ := hw.get hn
      have hd : rs.drop i = r :: rs.drop (i + 1) := by
        obtain ⟨g1, g2⟩ := List.getElem?_eq_some_iff.mp hr2
        rw [List.drop_eq_getElem_cons g1, g2]
      rw [hd] at hA6 hs
      obtain ⟨a1, a2, a3, a4⟩ := hA6
      have hs2 : a + ((r.1 - y) * r.2.2 + totR r.1 (rs.drop (i + 1))) = totR f0 rs := hs
      refine ⟨tn, _, rfl, st_of (e6 _ _ htn), rfl, _, _, rfl, _, _, rfl, _, _, rfl, rfl, ?_⟩
      have em : (r.2.2 : Int) * ((r.1 - y : Nat) : Int) = (((r.1 - y) * r.2.2 : Nat) : Int) := by rw [Int.natCast_mul, Int.mul_comm]
      have es : (r.1 : Int) - (y : Int) = ((r.1 - y : Nat) : Int) := by omega
      dsimp only
      refine s_par (v := .int ((a + (r.1 - y) * r.2.2 : Nat) : Int)) (w := .int (r.1 : Int)) (ea_cons (ev_is (ev_op (ev_var rfl) (ev_op (ev_var rfl) (ev_op (ev_var rfl) (ev_var rfl) rv_I0) (rv_I (.inr ⟨by omega, by omega⟩))) rv_I0) ?_) (ea_cons (ev_var rfl) ea_nil)) fun H8 e8 => ⟨e6.trans e8, _, _, _, a + (r.1 - y) * r.2.2, r.1, rfl, a4, a2, ?_⟩
      · rw [es, em, Int.natCast_add]
      · omega
    · obtain ⟨e6, x5, x6, x7, a, y, rfl, hA6, hy, hs⟩ := hI
      rw [hlen, List.drop_length] at hs
      have hs : a + 0 = totR f0 rs := hs
      dsimp only
      refine s_ret (ev_var rfl) fun H7 e7 => ?_
      rw [show a = totR f0 rs by omega]
      exact q H7 (e6.trans e7)
end
end Dt

namespace Told
open PySem L2 Evl LamR LamX
abbrev stR : Stmt := PySem.Challenge.pw_shortspans_k21_whole_stretches.main.body.getD 61 (.Pass ⟨0, 0, 0, 0⟩)
def wdN : Nat → Str
  | 1 => "base"
  | 2 => "number"
  | 3 => "digits"
  | 4 => "range"
  | 5 => "rule"
  | 6 => "reader"
  | 7 => "manner"
  | 8 => "entry"
  | 9 => "name"
  | 10 => "text"
  | 11 => "other"
  | 12 => "many"
  | 13 => "missing"
  | _ => "nothing"
def fdN : Nat → Str
  | 5 => "place"
  | 8 => "place"
  | 12 => "most"
  | 13 => "name"
  | _ => "value"
/-- an exception of the class with number n, with its dict; what is told of it behind its word -/
def Says (ca : Nat → Addr) (H : Hp) (cls : Value) (d : Option Addr) (n : Nat) (vs : List V) : Prop :=
  cls = .ref (ca n) ∧ 1 ≤ n ∧ n ≤ 14 ∧ (((n = 11 ∨ n = 14) ∧ d = none ∧ vs = []) ∨ (n = 10 ∧ ∃ dd a b, d = some dd ∧ H dd = some (.xd [("word", b), ("line", a)]) ∧ vs = [a, b]) ∨
    (n ≠ 10 ∧ n ≠ 11 ∧ n ≠ 14 ∧ ∃ dd v, d = some dd ∧ H dd = some (.xd [(fdN n, v)]) ∧ vs = [v]))
/-- what _law_raised makes of a lambda's reading; fl: its own list, ahead of the call -/
def TTold (ca : Nat → Addr) : (XK → Hp → VK → Prop) → Hp → VK → Prop := fun tl H Q => ∀ fl, H fl = none →
  tl (fun cls d H' => Ex (upd H fl (.lst [])) H' ∧ ∃ n vs, Says ca H' cls d n vs ∧ ∀ rt H2, (upd H fl (.lst [])) rt = none → (∀ b o, H' b = some o → b ≠ fl → H2 b = some o) → H2 rt = some (.tup (.str (wdN n) :: vs)) → Q (.ref rt) H2)
    (upd H fl (.lst [])) (fun v H' => Ex (upd H fl (.lst [])) H' ∧ ∀ rt H2, (upd H fl (.lst [])) rt = none → Ex H' H2 → H2 rt = some (.tup []) → Q (.ref rt) H2)
structure TxT (mg : Str → Option Value) (ca : Nat → Addr) : Prop where
  own : ∀ i, i < 15 → mg (Toy.nmN i) = some (.ref (ca i))
  isi : mg "isinstance" = none
  len : mg "len" = none
/-- what the classes' rows say -/
structure RwT (K : PySem.W.Frag) (ca : Nat → Addr) : Prop where
  xc : ∀ i, 1 ≤ i → i ≤ 14 → XcC K (ca i)
  kit : ∀ n i, 1 ≤ n → n ≤ 14 → 1 ≤ i → i ≤ 14 → PySem.W.kitOne K (.ref (ca n)) (.ref (ca i)) = some (decide (i = n))
  exm : ∀ n, 1 ≤ n → n ≤ 14 → PySem.W.exmAny K (.ref (ca n)) [.ref (ca 0), .ref (ca 12), .ref (ca 13), .ref (ca 14)] = some true
  no : ∀ i, 1 ≤ i → i ≤ 14 → i ≠ 10 → i ≠ 11 → i ≠ 14 → PySem.W.findIn K (.ref (ca i)) (fdN i) = some none
  line : PySem.W.findIn K (.ref (ca 10)) "line" = some none
  word : PySem.W.findIn K (.ref (ca 10)) "word" = some none
theorem scR : FnScope ["asked", "caught", "found", "e"] ["asked"] (defScope stR) := ⟨rfl, rfl, rfl, by decide +kernel, rfl, by decide +kernel, by decide +kernel⟩
/-- behind the first i of the fourteen questions -/
def Mid (f a fl : Addr) (H3 : Hp) (n : Nat) (vs : List V) (i : Nat) : St → Hp → Prop := fun σ H2 => σ = [some (.ref f), some (.ref a), some (.ref fl), none] ∧ (∀ b o, H3 b = some o → b ≠ fl → H2 b = some o) ∧
  ((i < n ∧ H2 fl = some (.lst [])) ∨ (n ≤ i ∧ ∃ rt, H3 rt = none ∧ H2 fl = some (.lst [.ref rt]) ∧ H2 rt = some (.tup (.str (wdN n) :: vs))))
theorem mid_step {K : PySem.W.Frag} {ca : Nat → Addr} {f a fl : Addr} {H3 H2 : Hp} {n i : Nat} {vs : List V} {d : Option Addr} {te : TE} {D : Ends} {σ : St} (R : RwT K ca) (n1 : 1 ≤ n) (n14 : n ≤ 14) (i1 : 1 ≤ i) (i14 : i ≤ 14) (x : Toy.ExAt H3 a (ca n) d) (afl : a ≠ fl)
    (dfl : ∀ dd, d = some dd → dd ≠ fl) (hte : i = n → ∀ H2 : Hp, (∀ b o, H3 b = some o → b ≠ fl → H2 b = some o) → EvU te [some (.ref f), some (.ref a), some (.ref fl), none] H2 (.str (wdN n) :: vs)) (m : Mid f a fl H3 n vs (i - 1) σ H2) :
    tIfS (tB (tCB (rIsX K) (tCons (tVar 1) (tCons (tC (.ref (ca i))) tNil)))) (tDrop (tBM K "list" rAppend (tVar 2) (tCons te tNil))) tNext { D with nx := Mid f a fl H3 n vs i } σ H2 := by
  obtain ⟨rfl, kp, alt⟩ := m
  refine s_when (b := decide (i = n)) (et_B (ev_cb (ea_cons (ev_var rfl) (ea_cons ev_c ea_nil)) fun H4 e4 Q q => ⟨a, ca n, d, .ref (ca i), _, _, rfl, .own _, e4 _ _ (kp _ _ x.1 afl), fun dx z => ?_, R.xc n n1 n14, R.kit n i n1 n14 i1 i14, q _ (Ex.refl _)⟩)) (fun z H4 e4 => ?_) (fun z H4 e4 => ?_)
  · obtain ⟨fs, h⟩ := x.2 dx z
    exact ⟨fs, e4 _ _ (kp _ _ h (dfl dx z))⟩
  · have hin := of_decide_eq_true z
    rcases alt with ⟨_, hf⟩ | ⟨z2, _⟩
    · refine s_appU (e4 _ _ hf) (ev_var rfl) (hte hin H4 fun b o e nb => e4 _ _ (kp b o e nb)) (by simp) fun p H5 hp e5 h5 => ?_
      have pf : p ≠ fl := fun z => by
        rw [z, e4 _ _ hf] at hp
        cases hp
      refine ⟨rfl, fun b o e nb => ?_, .inr ⟨by omega, p, ?_, upd_same, ?_⟩⟩
      · rw [upd_ne nb]
        exact e5 _ _ (e4 _ _ (kp b o e nb))
      · cases q : H3 p with
        | none => rfl
        | some o =>
          have := e4 _ _ (kp p o q pf)
          rw [this] at hp
          cases hp
      · rw [upd_ne pf]
        exact h5
    · omega
  · have hin : ¬ i = n := of_decide_eq_false z
    refine ⟨rfl, fun b o e nb => e4 _ _ (kp b o e nb), ?_⟩
    rcases alt with ⟨z2, hf⟩ | ⟨z2, rt, h1, h2, h3⟩
    · exact .inl ⟨by omega, e4 _ _ hf⟩
    · exact .inr ⟨by omega, rt, h1, e4 _ _ h2, e4 _ _ h3⟩
section
variable {X : Cx} {q : Str} {g : Addr} {cdg : Value} {ca : Nat → Addr}
theorem raised_gives (T : TxT X.mg ca) (R : RwT X.K ca) : GivesR X ["asked", "caught", "found", "e"] "_law_raised" (defScope stR) g cdg (defBody stR) "asked" q (TTold ca) := by
  intro f c' s H Q tl act hc h
  let X0 : Cx := (cxOf C8.CX0 X.prog X.w X.K X.mg X.base ["asked", "caught", "found", "e"] "_law_raised" (defScope stR) g cdg X.A X.stack s H C8.E0).nox
  refine ⟨_, (pss_cons (ps_par (i := 1) (j := 2) (by rfl) scR.nd rfl rfl (by decide) rfl rfl (pa_cons pe_non (pa_cons (pe_lst pa_nil) pa_nil)) (by rfl)) (pss_cons (ps_try_asT (X := X0) (i := 3) (tb := fun W D σ H => σ[0]? = some (some (V.ref f)) ∧ H c' = some (CodeO c' q) ∧ ∃ (E : XK) (Q' : VK), (∀ cls d H', E cls d H' → W cls d σ H') ∧ (∀ v H', Q' v H' → D.nx σ H') ∧ tl E H Q') rfl rfl scR.nd rfl rfl (.cons (by rfl) (T.own 0 (by decide)) (by decide) (.cons (by rfl) (T.own 12 (by decide)) (by decide) (.cons (by rfl) (T.own 13 (by decide)) (by decide) (.cons (by rfl) (T.own 14 (by decide)) (by decide) .nil)))) rfl L2.takes0 (fun W pn xe tk _ => ⟨fun pins s' σ H' D I h' => (pss_one (ps_expr (act W pn xe _ _ tk))).run pins s' σ H' D I (show tDrop (fun σZ HZ Q => σZ[0]? = some (some (V.ref f)) ∧ HZ c' = some (CodeO c' q) ∧ ∃ (E : XK) (Q' : VK), (∀ cls d H', E cls d H' → W cls d σZ H') ∧ (∀ v H', Q' v H' → Q v H') ∧ tl E HZ Q') D σ H' from h')⟩) (fun a oe cls d pn hz hf => pss_one (ps_set (i := 1) scR.nd rfl (.inl rfl) (pv 3)))) (pss_cons (ps_if (pt_cmpR op_isN (pv 1) pe_non (nomark _)) (pss_one (ps_ret (pe_tup pa_nil))) pss_nil) (pss_cut (ps_if (pt_val (pe_callB call_isX (by rfl) T.isi (by decide +kernel) (pa_cons (pv 1) (pa_cons (pe_glob (by rfl) (T.own 1 (by decide)) (v := .ref (ca 1)) rfl) pa_nil)))) (pss_one (ps_expr (pe_bm PySem.F.plainAttrs_list PySem.F.slot_list_append PySem.F.type_list_append mt_append (pv 2) (pa_cons (pe_tup (pa_cons pe_str (pa_cons (pe_xfT (pv 1)) pa_nil))) pa_nil)))) pss_nil) (pss_cut (ps_if (pt_val (pe_callB call_isX (by rfl) T.isi (by decide +kernel) (pa_cons (pv 1) (pa_cons (pe_glob (by rfl) (T.own 2 (by decide)) (v := .ref (ca 2)) rfl) pa_nil)))) (pss_one (ps_expr (pe_bm PySem.F.plainAttrs_list PySem.F.slot_list_append PySem.F.type_list_append mt_append (pv 2) (pa_cons (pe_tup (pa_cons pe_str (pa_cons (pe_xfT (pv 1)) pa_nil))) pa_nil)))) pss_nil) (pss_cut (ps_if (pt_val (pe_callB call_isX (by rfl) T.isi (by decide +kernel) (pa_cons (pv 1) (pa_cons (pe_glob (by rfl) (T.own 3 (by decide)) (v := .ref (ca 3)) rfl) pa_nil)))) (pss_one (ps_expr (pe_bm PySem.F.plainAttrs_list PySem.F.slot_list_append PySem.F.type_list_append mt_append (pv 2) (pa_cons (pe_tup (pa_cons pe_str (pa_cons (pe_xfT (pv 1)) pa_nil))) pa_nil)))) pss_nil) (pss_cut (ps_if (pt_val (pe_callB call_isX (by rfl) T.isi (by decide +kernel) (pa_cons (pv 1) (pa_cons (pe_glob (by rfl) (T.own 4 (by decide)) (v := .ref (ca 4)) rfl) pa_nil)))) (pss_one (ps_expr (pe_bm PySem.F.plainAttrs_list PySem.F.slot_list_append PySem.F.type_list_append mt_append (pv 2) (pa_cons (pe_tup (pa_cons pe_str (pa_cons (pe_xfT (pv 1)) pa_nil))) pa_nil)))) pss_nil) (pss_cut (ps_if (pt_val (pe_callB call_isX (by rfl) T.isi (by decide +kernel) (pa_cons (pv 1) (pa_cons (pe_glob (by rfl) (T.own 5 (by decide)) (v := .ref (ca 5)) rfl) pa_nil)))) (pss_one (ps_expr (pe_bm PySem.F.plainAttrs_list PySem.F.slot_list_append PySem.F.type_list_append mt_append (pv 2) (pa_cons (pe_tup (pa_cons pe_str (pa_cons (pe_xfT (pv 1)) pa_nil))) pa_nil)))) pss_nil) (pss_cut (ps_if (pt_val (pe_callB call_isX (by rfl) T.isi (by decide +kernel) (pa_cons (pv 1) (pa_cons (pe_glob (by rfl) (T.own 6 (by decide)) (v := .ref (ca 6)) rfl) pa_nil)))) (pss_one (ps_expr (pe_bm PySem.F.plainAttrs_list PySem.F.slot_list_append PySem.F.type_list_append mt_append (pv 2) (pa_cons (pe_tup (pa_cons pe_str (pa_cons (pe_xfT (pv 1)) pa_nil))) pa_nil)))) pss_nil) (pss_cut (ps_if (pt_val (pe_callB call_isX (by rfl) T.isi (by decide +kernel) (pa_cons (pv 1) (pa_cons (pe_glob (by rfl) (T.own 7 (by decide)) (v := .ref (ca 7)) rfl) pa_nil)))) (pss_one (ps_expr (pe_bm PySem.F.plainAttrs_list PySem.F.slot_list_append PySem.F.type_list_append mt_append (pv 2) (pa_cons (pe_tup (pa_cons pe_str (pa_cons (pe_xfT (pv 1)) pa_nil))) pa_nil)))) pss_nil) (pss_cut (ps_if (pt_val (pe_callB call_isX (by rfl) T.isi (by decide +kernel) (pa_cons (pv 1) (pa_cons (pe_glob (by rfl) (T.own 8 (by decide)) (v := .ref (ca 8)) rfl) pa_nil)))) (pss_one (ps_expr (pe_bm PySem.F.plainAttrs_list PySem.F.slot_list_append PySem.F.type_list_append mt_append (pv 2) (pa_cons (pe_tup (pa_cons pe_str (pa_cons (pe_xfT (pv 1)) pa_nil))) pa_nil)))) pss_nil) (pss_cut (ps_if (pt_val (pe_callB call_isX (by rfl) T.isi (by decide +kernel) (pa_cons (pv 1) (pa_cons (pe_glob (by rfl) (T.own 9 (by decide)) (v := .ref (ca 9)) rfl) pa_nil)))) (pss_one (ps_expr (pe_bm PySem.F.plainAttrs_list PySem.F.slot_list_append PySem.F.type_list_append mt_append (pv 2) (pa_cons (pe_tup (pa_cons pe_str (pa_cons (pe_xfT (pv 1)) pa_nil))) pa_nil)))) pss_nil) (pss_cut (ps_if (pt_val (pe_callB call_isX (by rfl) T.isi (by decide +kernel) (pa_cons (pv 1) (pa_cons (pe_glob (by rfl) (T.own 10 (by decide)) (v := .ref (ca 10)) rfl) pa_nil)))) (pss_one (ps_expr (pe_bm PySem.F.plainAttrs_list PySem.F.slot_list_append PySem.F.type_list_append mt_append (pv 2) (pa_cons (pe_tup (pa_cons pe_str (pa_cons (pe_xfT (pv 1)) (pa_cons (pe_xfT (pv 1)) pa_nil)))) pa_nil)))) pss_nil) (pss_cut (ps_if (pt_val (pe_callB call_isX (by rfl) T.isi (by decide +kernel) (pa_cons (pv 1) (pa_cons (pe_glob (by rfl) (T.own 11 (by decide)) (v := .ref (ca 11)) rfl) pa_nil)))) (pss_one (ps_expr (pe_bm PySem.F.plainAttrs_list PySem.F.slot_list_append PySem.F.type_list_append mt_append (pv 2) (pa_cons (pe_tup (pa_cons pe_str pa_nil)) pa_nil)))) pss_nil) (pss_cut (ps_if (pt_val (pe_callB call_isX (by rfl) T.isi (by decide +kernel) (pa_cons (pv 1) (pa_cons (pe_glob (by rfl) (T.own 12 (by decide)) (v := .ref (ca 12)) rfl) pa_nil)))) (pss_one (ps_expr (pe_bm PySem.F.plainAttrs_list PySem.F.slot_list_append PySem.F.type_list_append mt_append (pv 2) (pa_cons (pe_tup (pa_cons pe_str (pa_cons (pe_xfT (pv 1)) pa_nil))) pa_nil)))) pss_nil) (pss_cut (ps_if (pt_val (pe_callB call_isX (by rfl) T.isi (by decide +kernel) (pa_cons (pv 1) (pa_cons (pe_glob (by rfl) (T.own 13 (by decide)) (v := .ref (ca 13)) rfl) pa_nil)))) (pss_one (ps_expr (pe_bm PySem.F.plainAttrs_list PySem.F.slot_list_append PySem.F.type_list_append mt_append (pv 2) (pa_cons (pe_tup (pa_cons pe_str (pa_cons (pe_xfT (pv 1)) pa_nil))) pa_nil)))) pss_nil) (pss_cut (ps_if (pt_val (pe_callB call_isX (by rfl) T.isi (by decide +kernel) (pa_cons (pv 1) (pa_cons (pe_glob (by rfl) (T.own 14 (by decide)) (v := .ref (ca 14)) rfl) pa_nil)))) (pss_one (ps_expr (pe_bm PySem.F.plainAttrs_list PySem.F.slot_list_append PySem.F.type_list_append mt_append (pv 2) (pa_cons (pe_tup (pa_cons pe_str pa_nil)) pa_nil)))) pss_nil) (pss_one (ps_ret (pe_ifExp (pt_cmpR op_eq (pe_callB call_len_seq (by rfl) T.len (by decide +kernel) (pa_cons (pv 2) pa_nil)) pe_int (nomark _)) (pe_ix ix_list (pv 2) pe_int (fun _ _ => rfl)) (pe_tup (pa_cons pe_str (pa_cons (pe_callB call_len_seq (by rfl) T.len (by decide +kernel) (pa_cons (pv 2) pa_nil)) pa_nil))))))))))))))))))))))), ?_⟩
  have z0 : (0 : Nat) ≤ sizeLine := Nat.zero_le _
  refine ⟨z0, fun fl hfl => ⟨_, _, rfl, ?_⟩⟩
  refine ⟨rfl, (Ex.new hfl) _ _ hc, _, _, ?hW, ?hQ, h fl hfl⟩
  case hQ =>
    rintro v H' ⟨ex, k⟩
    refine ⟨_, rfl, rfl, _, rfl, ite2 (fun _ => ?_) (fun z => absurd rfl z)⟩
    exact ⟨z0, fun rt hrt => k rt _ (fresh_back ex hrt) (Ex.new hrt) upd_same⟩
  case hW =>
    rintro cls d H' ⟨ex, n, vs, ⟨rfl, n1, n14, S⟩, k⟩
    refine ⟨true, R.exm n n1 n14, fun _ a ha => ?_, fun z => nomatch z⟩
    refine ⟨_, rfl, ?_⟩
    refine ⟨_, rfl, rfl, _, rfl, ite2 (fun z => absurd (of_decide_eq_true z) (fun z => nomatch z)) (fun _ => ?_)⟩
    have xH := Ex.new (o := exv a (.ref (ca n)) d) ha
    have hflH : H' fl = some (.lst []) := ex _ _ upd_same
    have afl : a ≠ fl := fun z => by
      rw [z, hflH] at ha
      cases ha
    have dfl : ∀ dd fs, H' dd = some (.xd fs) → dd ≠ fl := fun dd fs e z => by
      rw [z, hflH] at e
      cases e
    have XA : Toy.ExAt (upd H' a (exv a (.ref (ca n)) d)) a (ca n) d ∧ ∀ dd, d = some dd → dd ≠ fl := by
      rcases S with ⟨_, rfl, _⟩ | ⟨_, dd, va, vb, rfl, hd, _⟩ | ⟨_, _, _, dd, v, rfl, hd, _⟩
      · exact ⟨⟨upd_same, fun _ z => nomatch z⟩, fun _ z => nomatch z⟩
      · exact ⟨⟨upd_same, fun dx z => by cases z; exact ⟨_, xH _ _ hd⟩⟩, fun dx z => by cases z; exact dfl _ _ hd⟩
      · exact ⟨⟨upd_same, fun dx z => by cases z; exact ⟨_, xH _ _ hd⟩⟩, fun dx z => by cases z; exact dfl _ _ hd⟩
    obtain ⟨XA, dfl'⟩ := XA
    have m0 : Mid f a fl (upd H' a (exv a (.ref (ca n)) d)) n vs 0 [some (.ref f), some (.ref a), some (.ref fl), none] (upd H' a (exv a (.ref (ca n)) d)) := ⟨rfl, fun b o e _ => e, .inl ⟨n1, xH _ _ hflH⟩⟩
    generalize upd H' a (exv a (.ref (ca n)) d) = H3 at XA m0 xH ⊢
    have one : ∀ i, i = n → i ≠ 10 → i ≠ 11 → i ≠ 14 → ∀ H2 : Hp, (∀ b o, H3 b = some o → b ≠ fl → H2 b = some o) → EvU (tTup (tCons (tC (.str (wdN i))) (tCons (tXfT X.K (fdN i) (tVar 1)) tNil))) [some (.ref f), some (.ref a), some (.ref fl), none] H2 (.str (wdN n) :: vs) := by
      rintro i rfl z10 z11 z14 H2 kp
      rcases S with ⟨z | z, _⟩ | ⟨z, _⟩ | ⟨_, _, _, dd, v, rfl, hd, rfl⟩
      · exact absurd z z11
      · exact absurd z z14
      · exact absurd z z10
      · refine eu_tup (ea_cons ev_c (ea_cons ?_ ea_nil)) (by simp)
        exact Toy.ev_xf (ev_var rfl) (C := ca i) (d := dd) ⟨kp _ _ XA.1 afl, fun dx z => by cases z; exact ⟨_, kp _ _ (xH _ _ hd) (dfl _ _ hd)⟩⟩ (kp _ _ (xH _ _ hd) (dfl _ _ hd)) (R.xc i n1 n14) (R.no i n1 n14 z10 z11 z14) (by simp [List.lookup])
    have ten : 10 = n → ∀ H2 : Hp, (∀ b o, H3 b = some o → b ≠ fl → H2 b = some o) → EvU (tTup (tCons (tC (.str "text")) (tCons (tXfT X.K "line" (tVar 1)) (tCons (tXfT X.K "word" (tVar 1)) tNil)))) [some (.ref f), some (.ref a), some (.ref fl), none] H2 (.str (wdN n) :: vs) := by
      rintro rfl H2 kp
      rcases S with ⟨z | z, _⟩ | ⟨_, dd, va, vb, rfl, hd, rfl⟩ | ⟨z, _⟩
      · omega
      · omega
      · have xa : Toy.ExAt H2 a (ca 10) (some dd) := ⟨kp _ _ XA.1 afl, fun dx z => by cases z; exact ⟨_, kp _ _ (xH _ _ hd) (dfl _ _ hd)⟩⟩
        have hh := kp _ _ (xH _ _ hd) (dfl _ _ hd)
        exact eu_tup (ea_cons ev_c (ea_cons (Toy.ev_xf (ev_var rfl) xa hh (R.xc 10 n1 n14) R.line rfl) (ea_cons (Toy.ev_xf (ev_var rfl) xa hh (R.xc 10 n1 n14) R.word rfl) ea_nil))) (by simp)
      · exact absurd rfl z
    have none_ : ∀ i, i = n → (i = 11 ∨ i = 14) → ∀ H2 : Hp, (∀ b o, H3 b = some o → b ≠ fl → H2 b = some o) → EvU (tTup (tCons (tC (.str (wdN i))) tNil)) [some (.ref f), some (.ref a), some (.ref fl), none] H2 (.str (wdN n) :: vs) := by
      rintro i rfl zi H2 kp
      rcases S with ⟨_, _, rfl⟩ | ⟨z, _⟩ | ⟨_, z2, z3, _⟩
      · exact eu_tup (ea_cons ev_c ea_nil) (by simp)
      · omega
      · omega
    refine q_cut (mid_step (i := 1) R n1 n14 (by decide) (by decide) XA afl dfl' (fun z => one 1 z (by decide) (by decide) (by decide)) m0) (fun σ1 H1' m1 => ?_)
    refine q_cut (mid_step (i := 2) R n1 n14 (by decide) (by decide) XA afl dfl' (fun z => one 2 z (by decide) (by decide) (by decide)) m1) (fun σ2 H2' m2 => ?_)
    refine q_cut (mid_step (i := 3) R n1 n14 (by decide) (by decide) XA afl dfl' (fun z => one 3 z (by decide) (by decide) (by decide)) m2) (fun σ3 H3' m3 => ?_)
    refine q_cut (mid_step (i := 4) R n1 n14 (by decide) (by decide) XA afl dfl' (fun z => one 4 z (by decide) (by decide) (by decide)) m3) (fun σ4 H4' m4 => ?_)
    refine q_cut (mid_step (i := 5) R n1 n14 (by decide) (by decide) XA afl dfl' (fun z => one 5 z (by decide) (by decide) (by decide)) m4) (fun σ5 H5' m5 => ?_)
    refine q_cut (mid_step (i := 6) R n1 n14 (by decide) (by decide) XA afl dfl' (fun z => one 6 z (by decide) (by decide) (by decide)) m5) (fun σ6 H6' m6 => ?_)
    refine q_cut (mid_step (i := 7) R n1 n14 (by decide) (by decide) XA afl dfl' (fun z => one 7 z (by decide) (by decide) (by decide)) m6) (fun σ7 H7' m7 => ?_)
    refine q_cut (mid_step (i := 8) R n1 n14 (by decide) (by decide) XA afl dfl' (fun z => one 8 z (by decide) (by decide) (by decide)) m7) (fun σ8 H8' m8 => ?_)
    refine q_cut (mid_step (i := 9) R n1 n14 (by decide) (by decide) XA afl dfl' (fun z => one 9 z (by decide) (by decide) (by decide)) m8) (fun σ9 H9' m9 => ?_)
    refine q_cut (mid_step (i := 10) R n1 n14 (by decide) (by decide) XA afl dfl' (fun z => ten z) m9) (fun σ10 H10' m10 => ?_)
    refine q_cut (mid_step (i := 11) R n1 n14 (by decide) (by decide) XA afl dfl' (fun z => none_ 11 z (by decide)) m10) (fun σ11 H11' m11 => ?_)
    refine q_cut (mid_step (i := 12) R n1 n14 (by decide) (by decide) XA afl dfl' (fun z => one 12 z (by decide) (by decide) (by decide)) m11) (fun σ12 H12' m12 => ?_)
    refine q_cut (mid_step (i := 13) R n1 n14 (by decide) (by decide) XA afl dfl' (fun z => one 13 z (by decide) (by decide) (by decide)) m12) (fun σ13 H13' m13 => ?_)
    refine q_cut (mid_step (i := 14) R n1 n14 (by decide) (by decide) XA afl dfl' (fun z => none_ 14 z (by decide)) m13) (fun σ14 H14' m14 => ?_)
    obtain ⟨rfl, kp, alt⟩ := m14
    rcases alt with ⟨z, _⟩ | ⟨_, rt, h1, h2, h3⟩
    · omega
    · refine s_ret (v := .ref rt) (ev_if (b := true) (et_is (et_test (ev_op (ev_len (ev_var rfl) (sq_of h2)) ev_c (rv_eq rfl))) (decide_eq_true rfl)) (fun _ => ev_op (ev_var rfl) ev_c (rv_ixL (sq_of h2) (atI_nat (j := 0) rfl))) (fun z => nomatch z)) fun H6 e6 => ?_
      exact k rt H6 (fresh_back (ex.trans xH) h1) (fun b o e nb => e6 _ _ (kp b o (xH b o e) nb)) (e6 _ _ h3)
end
end Told

/-! What lies at an address of the written part, told by the part itself. -/
namespace L2
open PySem PySem.Spec PyProof.Rows ExM
open PySem (cStatics)
open PySem.W (Frag findIn typeIn keepIn subIn nsIn codeIn ksFn ks_superIn excTail)
/-! what lies at an address of the written part -/
def oO (K : Frag) (a : Addr) : Obj := (K.lookup a).getD default
def fO (K : Frag) (a : Addr) : FuncData := match (oO K a).data with
  | .func fd => fd
  | _ => default
def cO (K : Frag) (a : Addr) : ClassData := match (oO K a).data with
  | .cls cd => cd
  | _ => default
def vO (K : Frag) (a : Addr) : Array Value := match (oO K a).data with
  | .fields vs => vs
  | _ => #[]
def sO (v : Option Value) : Str × Tok := match v with
  | some (.str x t) => (x, t)
  | _ => default
def slO (K : Frag) (a : Addr) (i : Nat) : Option Value := ((oO K a).slots[i]?).getD none
theorem cfs_mkO {K : Frag} {prog : Program} {C f cc cda : Addr} {qual : Str} {params : Arguments} {body : List Stmt} {scope : Scope} {bmB : List Value} {B newId initId : String}
    (lc : K.lookup C = some (excClassObj (cO K C).name (cO K C).qualname C (cO K C).ns (cO K C).bases (cO K C).mro.tail true (cO K C).slotNames (cO K C).subclasses (cO K C).abstract (cO K C).collection (oO K C).dict (slO K C 0) (slO K C 1) (slO K C 2) (slO K C 3) (slO K C 5) newId))
    (iC : findIn K (.ref C) "__init__" = some (some (.ref f)))
    (lf : K.lookup f = some ⟨(oO K f).cls, (oO K f).dict, .func (ksFn "__init__" qual params body scope .none (fO K f).kwdefaults (fO K f).doc (fO K f).pyModule (fO K f).annotations (.ref cda) (fO K f).closureTuple cc), (oO K f).slots⟩)
    (lcd : K.lookup cda = some ⟨(oO K cda).cls, (oO K cda).dict, .fields (vO K cda), (oO K cda).slots⟩) (lcc : K.lookup cc = some ⟨(oO K cc).cls, (oO K cc).dict, .cell (some (.ref C)), (oO K cc).slots⟩)
    (sa : findIn K (.ref C) "__setattr__" = some (some (.builtin "object.__setattr__"))) (tF : typeIn K (.ref f) = some (.type "function")) (kC : keepIn K (.ref C) = true) (exC : subIn K (.ref C) (.type "BaseException") = some true) (bC : subIn K (.ref C) (.type B) = some true)
    (tyC : typeIn K (.ref C) = some (.type "type")) (op : nsIn K cStatics "thirdparty.any" = some none) (cf : codeIn K (.ref cda) qual = true)
    (al : ks_superIn K C C "__init__" = some (some (.builtin initId))) (tl : excTail bmB (cO K C).mro.tail = true) (v2 : (vO K cda)[2]? = some (.str (sO (vO K cda)[2]?).1 (sO (vO K cda)[2]?).2)) (hf : ((prog.main.file : Str) == (sO (vO K cda)[2]?).1) = true) (top : (prog.main.scope.names.lookup ("super" : Str)).isSome = false) :
    Cfs K prog C f cc cda qual params body scope bmB B newId initId :=
  cfs_mk lc iC lf lcd lcc sa tF kC exC bC tyC op cf al tl v2 hf top
end L2
namespace L2
open PySem
/-- a def as the top has written it -/
def fdX (K : PySem.W.Frag) (name : Str) (st : Stmt) (f : Addr) : FuncData := PySem.W.fnOf name name (defArgs st) (defBody st) (defScope st) .none (fO K f).kwdefaults (fO K f).doc (fO K f).pyModule (fO K f).annotations (fO K f).code (fO K f).closureTuple
end L2

/-! The head by kernel runs, nothing of the top's way written out: each look at the top's end is a theorem of its own (its memory is free again behind it). The written part is taken from open_top, whose head is left open. -/
namespace HeadL
open PySem PySem.W PyProof.Rows
def withTabs (ts : List Addr) (K : Params → Frag) : Params → Frag := fun P => (ts.map fun a => (a, tabObj #[])) ++ K P
theorem lk_tabs {a : Addr} : ∀ {ts : List Addr}, a ∈ ts → (ts.map fun a => (a, tabObj #[])).lookup a = some (tabObj #[])
  | b :: ts, h => by
    rw [List.map_cons, List.lookup_cons]
    cases e : (a == b) with
    | true => rfl
    | false =>
      rcases List.mem_cons.mp h with rfl | h
      · simp at e
      · exact lk_tabs h
theorem lk_app {α : Type} {a : Addr} {r : List (Addr × α)} : ∀ {l : List (Addr × α)}, (l ++ r).lookup a = match l.lookup a with | some x => some x | none => r.lookup a
  | [] => rfl
  | p :: l => by
    rw [List.cons_append, List.lookup_cons, List.lookup_cons]
    cases e : (a == p.1) with
    | true => rfl
    | false => exact lk_app
theorem lk_none {a : Addr} : ∀ {ts : List Addr}, a ∉ ts → (ts.map fun a => (a, tabObj #[])).lookup a = none
  | [], _ => rfl
  | b :: ts, h => by
    rw [List.map_cons, List.lookup_cons]
    have h1 : (a == b) = false := by
      cases e : (a == b) with
      | false => rfl
      | true => exact absurd (by rw [beq_iff_eq.mp e]; exact List.mem_cons_self) h
    rw [h1]
    exact lk_none fun z => h (List.mem_cons_of_mem _ z)
theorem in_of {K : Params → Frag} {ts : List Addr} {w : World} {h : Heap} (Y : InK (withTabs ts K) w h) (off : ∀ a ∈ ts, (K w.params).lookup a = none) : (K w.params).In h := fun a o q => by
  refine Y a o ?_
  show ((ts.map fun a => (a, tabObj #[])) ++ K w.params).lookup a = some o
  rw [lk_app, lk_none (fun z => by rw [off a z] at q; cases q)]
  exact q
theorem tabs_of {K : Params → Frag} {ts : List Addr} {w : World} {h : Heap} (Y : InK (withTabs ts K) w h) : ∀ P ∈ ts, h.get? P = some (tabObj #[]) := fun a q => by
  refine Y a _ ?_
  show ((ts.map fun a => (a, tabObj #[])) ++ K w.params).lookup a = some _
  rw [lk_app, lk_tabs q]
/-- open_top with its head left open: the written part is made, nothing is run -/
theorem keep.{u} {p : Prop} {α : Sort u} (_ : α) (_ : True) (h : p) : p := h
theorem map3 {α β γ δ : Type} {x : Option α} {f : α → β} {g : α → γ} {h : α → δ} {a : β} {b : γ} {c : δ} (e1 : x.map f = some a) (e2 : x.map g = some b) (e3 : x.map h = some c) : x.map (fun s => (f s, g s, h s)) = some (a, b, c) := by
  cases x with
  | none => cases e1
  | some s =>
    cases e1
    cases e2
    cases e3
    rfl
/-- two parts of what is seen of the objects -/
theorem map_app {α β : Type} {x : Option α} {f g : α → List β} {a b : List β} (e1 : x.map f = some a) (e2 : x.map g = some b) : x.map (fun s => f s ++ g s) = some (a ++ b) := by
  cases x with
  | none => cases e1
  | some s =>
    cases e1
    cases e2
    rfl
open HandSHeadRun in
theorem head {r : OpenRow} {q : Program} {K : Params → Frag} {as : List Addr} {M : Nat} {loose : List PySem.Str} {d : DefRec} (ek : ∀ P, as = (K P).map (·.1))
    (run1 : ∀ (w : World) (os : OsState), (endF (stepQ (denQ tabQ) r.prog w) M r.prog w os).map (fun s => looksF r.prog (boot_heap w.params) s.abs) = some true)
    (run2 : ∀ (w : World) (os : OsState), (endF (stepQ (denQ tabQ) r.prog w) M r.prog w os).map (fun s => seenQ q loose (importedModules r.prog.main.body) (fun s => xlAt q [] s && recOk r.toRowW.records s) s.abs) = some (openGood q loose))
    (run3 : ∀ (w : World) (os : OsState), (endF (stepQ (denQ tabQ) r.prog w) M r.prog w os).map (fun s => as.map (getT s)) = some ((K w.params).map fun p => some p.2))
    (e : opening r.prog = plainProg r.prog.main.scope.names) (f : ∀ s, fenceModules? r.prog s = some s)
    (hdef : defOf q r.name = some (d, [])) (hp : r.prog.theDef r.name = some (d.params, d.body, d.scope)) (hk : kwWritten? d.params.kwonlyargs d.params.kw_defaults = some [])
    (hwr : (!r.writes || r.records.isEmpty) = true) (k1 : r.wellSaid = true) (ok : (chainsOk q && opensWell r.prog && (frees r.toRowW && r.within.isEmpty)) = true) (hb : r.prog.bare) (hw : r.toRowW.promised)
    (call : WalkO q loose (XL q []) (InK K) r.toRowW d [] fun f vs => PySem.call f vs) : r.Holds :=
  head_any (q := q) (H := kHook K as ek) (ob := fun s => as.map (getT s)) (M := M) (loose := loose) (d := d) (kwd := []) (fun s => List.map_congr_left fun a _ => getT_eq s a) e f
    (fun w os => map3 (run1 w os) (run2 w os) (run3 w os)) hdef hp hk hwr k1 ok hb hw call
end HeadL

section
open PySem PySem.W PyProof.Rows
local macro_rules | `(tactic| o_head $H) => `(tactic| refine HeadL.keep $H ?hw ?hc)
local macro_rules | `(tactic| w_witness2) => `(tactic| trivial)
open_top hd21 for PySem.Challenge.rw_shortspans_k21_whole_stretches
end

/-! k21: what the top has written, at its addresses. -/
namespace KH21
open PySem L2 Evl ExM Dg Dt StX ClX
abbrev P21 : Program := PySem.Challenge.pw_shortspans_k21_whole_stretches
noncomputable abbrev K21 : Params → PySem.W.Frag := hd21.heap_39
def ca21 : Nat → Addr
  | 0 => 31
  | 1 => 53
  | 2 => 74
  | 3 => 95
  | 4 => 116
  | 5 => 137
  | 6 => 158
  | 7 => 179
  | 8 => 200
  | 9 => 221
  | 10 => 242
  | 11 => 263
  | 12 => 284
  | 13 => 306
  | 14 => 328
  | _ => 0
section
variable (p : Params) {mg : Str → Option Value}
theorem cfs1 : Cfs (K21 p) P21 53 50 38 49 "BadBase.__init__" (defArgs (inClass (top 3) 0)) (defBody (inClass (top 3) 0)) (defScope (inClass (top 3) 0)) [.type "ValueError", .type "Exception", .type "BaseException", .type "object"] "ValueError" "ValueError.__new__" "ValueError.__init__" :=
  cfs_mkO (by kernel_rfl) (by kernel_rfl) (by kernel_rfl) (by kernel_rfl) (by kernel_rfl) (by kernel_rfl) (by kernel_rfl) (by kernel_rfl) (by kernel_rfl) (by kernel_rfl) (by kernel_rfl) (by kernel_rfl) (by kernel_rfl) (by kernel_rfl) (by kernel_rfl) (by kernel_rfl) (by kernel_rfl) (by kernel_rfl)
theorem mk1 : Mks P21 (K21 p) mg 53 ["value"] :=
  mks_one (cfs1 p) base_VE rfl rfl rfl ⟨rfl, by decide +kernel, by decide +kernel, rfl, rfl, ⟨_, rfl, rfl⟩, by decide +kernel⟩ (fun L cd => ⟨rfl, _, rfl⟩) (by kernel_rfl)
    (fun a v h x kV doc pm an cdv ct => match h with | .pos _ => by kernel_rfl | .kw1 => by kernel_rfl)
theorem cfs2 : Cfs (K21 p) P21 74 71 59 70 "BadNumber.__init__" (defArgs (inClass (top 4) 0)) (defBody (inClass (top 4) 0)) (defScope (inClass (top 4) 0)) [.type "ValueError", .type "Exception", .type "BaseException", .type "object"] "ValueError" "ValueError.__new__" "ValueError.__init__" :=
  cfs_mkO (by kernel_rfl) (by kernel_rfl) (by kernel_rfl) (by kernel_rfl) (by kernel_rfl) (by kernel_rfl) (by kernel_rfl) (by kernel_rfl) (by kernel_rfl) (by kernel_rfl) (by kernel_rfl) (by kernel_rfl) (by kernel_rfl) (by kernel_rfl) (by kernel_rfl) (by kernel_rfl) (by kernel_rfl) (by kernel_rfl)
theorem mk2 : Mks P21 (K21 p) mg 74 ["value"] :=
  mks_one (cfs2 p) base_VE rfl rfl rfl ⟨rfl, by decide +kernel, by decide +kernel, rfl, rfl, ⟨_, rfl, rfl⟩, by decide +kernel⟩ (fun L cd => ⟨rfl, _, rfl⟩) (by kernel_rfl)
    (fun a v h x kV doc pm an cdv ct => match h with | .pos _ => by kernel_rfl | .kw1 => by kernel_rfl)
theorem cfs3 : Cfs (K21 p) P21 95 92 80 91 "BadDigits.__init__" (defArgs (inClass (top 5) 0)) (defBody (inClass (top 5) 0)) (defScope (inClass (top 5) 0)) [.type "ValueError", .type "Exception", .type "BaseException", .type "object"] "ValueError" "ValueError.__new__" "ValueError.__init__" :=
  cfs_mkO (by kernel_rfl) (by kernel_rfl) (by kernel_rfl) (by kernel_rfl) (by kernel_rfl) (by kernel_rfl) (by kernel_rfl) (by kernel_rfl) (by kernel_rfl) (by kernel_rfl) (by kernel_rfl) (by kernel_rfl) (by kernel_rfl) (by kernel_rfl) (by kernel_rfl) (by kernel_rfl) (by kernel_rfl) (by kernel_rfl)
theorem mk3 : Mks P21 (K21 p) mg 95 ["value"] :=
  mks_one (cfs3 p) base_VE rfl rfl rfl ⟨rfl, by decide +kernel, by decide +kernel, rfl, rfl, ⟨_, rfl, rfl⟩, by decide +kernel⟩ (fun L cd => ⟨rfl, _, rfl⟩) (by kernel_rfl)
    (fun a v h x kV doc pm an cdv ct => match h with | .pos _ => by kernel_rfl | .kw1 => by kernel_rfl)
theorem cfs4 : Cfs (K21 p) P21 116 113 101 112 "BadRange.__init__" (defArgs (inClass (top 6) 0)) (defBody (inClass (top 6) 0)) (defScope (inClass (top 6) 0)) [.type "ValueError", .type "Exception", .type "BaseException", .type "object"] "ValueError" "ValueError.__new__" "ValueError.__init__" :=
  cfs_mkO (by kernel_rfl) (by kernel_rfl) (by kernel_rfl) (by kernel_rfl) (by kernel_rfl) (by kernel_rfl) (by kernel_rfl) (by kernel_rfl) (by kernel_rfl) (by kernel_rfl) (by kernel_rfl) (by kernel_rfl) (by kernel_rfl) (by kernel_rfl) (by kernel_rfl) (by kernel_rfl) (by kernel_rfl) (by kernel_rfl)
theorem mk4 : Mks P21 (K21 p) mg 116 ["value"] :=
  mks_one (cfs4 p) base_VE rfl rfl rfl ⟨rfl, by decide +kernel, by decide +kernel, rfl, rfl, ⟨_, rfl, rfl⟩, by decide +kernel⟩ (fun L cd => ⟨rfl, _, rfl⟩) (by kernel_rfl)
    (fun a v h x kV doc pm an cdv ct => match h with | .pos _ => by kernel_rfl | .kw1 => by kernel_rfl)
theorem cfs5 : Cfs (K21 p) P21 137 134 122 133 "BadRule.__init__" (defArgs (inClass (top 7) 0)) (defBody (inClass (top 7) 0)) (defScope (inClass (top 7) 0)) [.type "ValueError", .type "Exception", .type "BaseException", .type "object"] "ValueError" "ValueError.__new__" "ValueError.__init__" :=
  cfs_mkO (by kernel_rfl) (by kernel_rfl) (by kernel_rfl) (by kernel_rfl) (by kernel_rfl) (by kernel_rfl) (by kernel_rfl) (by kernel_rfl) (by kernel_rfl) (by kernel_rfl) (by kernel_rfl) (by kernel_rfl) (by kernel_rfl) (by kernel_rfl) (by kernel_rfl) (by kernel_rfl) (by kernel_rfl) (by kernel_rfl)
theorem mk5 : Mks P21 (K21 p) mg 137 ["place"] :=
  mks_one (cfs5 p) base_VE rfl rfl rfl ⟨rfl, by decide +kernel, by decide +kernel, rfl, rfl, ⟨_, rfl, rfl⟩, by decide +kernel⟩ (fun L cd => ⟨rfl, _, rfl⟩) (by kernel_rfl)
    (fun a v h x kV doc pm an cdv ct => match h with | .pos _ => by kernel_rfl | .kw1 => by kernel_rfl)
theorem cfs6 : Cfs (K21 p) P21 158 155 143 154 "BadReader.__init__" (defArgs (inClass (top 8) 0)) (defBody (inClass (top 8) 0)) (defScope (inClass (top 8) 0)) [.type "ValueError", .type "Exception", .type "BaseException", .type "object"] "ValueError" "ValueError.__new__" "ValueError.__init__" :=
  cfs_mkO (by kernel_rfl) (by kernel_rfl) (by kernel_rfl) (by kernel_rfl) (by kernel_rfl) (by kernel_rfl) (by kernel_rfl) (by kernel_rfl) (by kernel_rfl) (by kernel_rfl) (by kernel_rfl) (by kernel_rfl) (by kernel_rfl) (by kernel_rfl) (by kernel_rfl) (by kernel_rfl) (by kernel_rfl) (by kernel_rfl)
theorem mk6 : Mks P21 (K21 p) mg 158 ["value"] :=
  mks_one (cfs6 p) base_VE rfl rfl rfl ⟨rfl, by decide +kernel, by decide +kernel, rfl, rfl, ⟨_, rfl, rfl⟩, by decide +kernel⟩ (fun L cd => ⟨rfl, _, rfl⟩) (by kernel_rfl)
    (fun a v h x kV doc pm an cdv ct => match h with | .pos _ => by kernel_rfl | .kw1 => by kernel_rfl)
theorem cfs7 : Cfs (K21 p) P21 179 176 164 175 "BadManner.__init__" (defArgs (inClass (top 9) 0)) (defBody (inClass (top 9) 0)) (defScope (inClass (top 9) 0)) [.type "ValueError", .type "Exception", .type "BaseException", .type "object"] "ValueError" "ValueError.__new__" "ValueError.__init__" :=
  cfs_mkO (by kernel_rfl) (by kernel_rfl) (by kernel_rfl) (by kernel_rfl) (by kernel_rfl) (by kernel_rfl) (by kernel_rfl) (by kernel_rfl) (by kernel_rfl) (by kernel_rfl) (by kernel_rfl) (by kernel_rfl) (by kernel_rfl) (by kernel_rfl) (by kernel_rfl) (by kernel_rfl) (by kernel_rfl) (by kernel_rfl)
theorem mk7 : Mks P21 (K21 p) mg 179 ["value"] :=
  mks_one (cfs7 p) base_VE rfl rfl rfl ⟨rfl, by decide +kernel, by decide +kernel, rfl, rfl, ⟨_, rfl, rfl⟩, by decide +kernel⟩ (fun L cd => ⟨rfl, _, rfl⟩) (by kernel_rfl)
    (fun a v h x kV doc pm an cdv ct => match h with | .pos _ => by kernel_rfl | .kw1 => by kernel_rfl)
theorem cfs8 : Cfs (K21 p) P21 200 197 185 196 "BadEntry.__init__" (defArgs (inClass (top 10) 0)) (defBody (inClass (top 10) 0)) (defScope (inClass (top 10) 0)) [.type "ValueError", .type "Exception", .type "BaseException", .type "object"] "ValueError" "ValueError.__new__" "ValueError.__init__" :=
  cfs_mkO (by kernel_rfl) (by kernel_rfl) (by kernel_rfl) (by kernel_rfl) (by kernel_rfl) (by kernel_rfl) (by kernel_rfl) (by kernel_rfl) (by kernel_rfl) (by kernel_rfl) (by kernel_rfl) (by kernel_rfl) (by kernel_rfl) (by kernel_rfl) (by kernel_rfl) (by kernel_rfl) (by kernel_rfl) (by kernel_rfl)
theorem mk8 : Mks P21 (K21 p) mg 200 ["place"] :=
  mks_one (cfs8 p) base_VE rfl rfl rfl ⟨rfl, by decide +kernel, by decide +kernel, rfl, rfl, ⟨_, rfl, rfl⟩, by decide +kernel⟩ (fun L cd => ⟨rfl, _, rfl⟩) (by kernel_rfl)
    (fun a v h x kV doc pm an cdv ct => match h with | .pos _ => by kernel_rfl | .kw1 => by kernel_rfl)
theorem cfs9 : Cfs (K21 p) P21 221 218 206 217 "BadName.__init__" (defArgs (inClass (top 11) 0)) (defBody (inClass (top 11) 0)) (defScope (inClass (top 11) 0)) [.type "ValueError", .type "Exception", .type "BaseException", .type "object"] "ValueError" "ValueError.__new__" "ValueError.__init__" :=
  cfs_mkO (by kernel_rfl) (by kernel_rfl) (by kernel_rfl) (by kernel_rfl) (by kernel_rfl) (by kernel_rfl) (by kernel_rfl) (by kernel_rfl) (by kernel_rfl) (by kernel_rfl) (by kernel_rfl) (by kernel_rfl) (by kernel_rfl) (by kernel_rfl) (by kernel_rfl) (by kernel_rfl) (by kernel_rfl) (by kernel_rfl)
theorem mk9 : Mks P21 (K21 p) mg 221 ["value"] :=
  mks_one (cfs9 p) base_VE rfl rfl rfl ⟨rfl, by decide +kernel, by decide +kernel, rfl, rfl, ⟨_, rfl, rfl⟩, by decide +kernel⟩ (fun L cd => ⟨rfl, _, rfl⟩) (by kernel_rfl)
    (fun a v h x kV doc pm an cdv ct => match h with | .pos _ => by kernel_rfl | .kw1 => by kernel_rfl)
theorem cfs10 : Cfs (K21 p) P21 242 239 227 238 "BadText.__init__" (defArgs (inClass (top 12) 0)) (defBody (inClass (top 12) 0)) (defScope (inClass (top 12) 0)) [.type "ValueError", .type "Exception", .type "BaseException", .type "object"] "ValueError" "ValueError.__new__" "ValueError.__init__" :=
  cfs_mkO (by kernel_rfl) (by kernel_rfl) (by kernel_rfl) (by kernel_rfl) (by kernel_rfl) (by kernel_rfl) (by kernel_rfl) (by kernel_rfl) (by kernel_rfl) (by kernel_rfl) (by kernel_rfl) (by kernel_rfl) (by kernel_rfl) (by kernel_rfl) (by kernel_rfl) (by kernel_rfl) (by kernel_rfl) (by kernel_rfl)
theorem cfs11 : Cfs (K21 p) P21 263 260 248 259 "OtherBase.__init__" (defArgs (inClass (top 13) 0)) (defBody (inClass (top 13) 0)) (defScope (inClass (top 13) 0)) [.type "ValueError", .type "Exception", .type "BaseException", .type "object"] "ValueError" "ValueError.__new__" "ValueError.__init__" :=
  cfs_mkO (by kernel_rfl) (by kernel_rfl) (by kernel_rfl) (by kernel_rfl) (by kernel_rfl) (by kernel_rfl) (by kernel_rfl) (by kernel_rfl) (by kernel_rfl) (by kernel_rfl) (by kernel_rfl) (by kernel_rfl) (by kernel_rfl) (by kernel_rfl) (by kernel_rfl) (by kernel_rfl) (by kernel_rfl) (by kernel_rfl)
theorem cfs12 : Cfs (K21 p) P21 284 281 269 280 "TooMany.__init__" (defArgs (inClass (top 14) 0)) (defBody (inClass (top 14) 0)) (defScope (inClass (top 14) 0)) [.type "OverflowError", .type "ArithmeticError", .type "Exception", .type "BaseException", .type "object"] "OverflowError" "OverflowError.__new__" "OverflowError.__init__" :=
  cfs_mkO (by kernel_rfl) (by kernel_rfl) (by kernel_rfl) (by kernel_rfl) (by kernel_rfl) (by kernel_rfl) (by kernel_rfl) (by kernel_rfl) (by kernel_rfl) (by kernel_rfl) (by kernel_rfl) (by kernel_rfl) (by kernel_rfl) (by kernel_rfl) (by kernel_rfl) (by kernel_rfl) (by kernel_rfl) (by kernel_rfl)
theorem mk12 : Mks P21 (K21 p) mg 284 ["most"] :=
  mks_one (cfs12 p) base_OE rfl rfl rfl ⟨rfl, by decide +kernel, by decide +kernel, rfl, rfl, ⟨_, rfl, rfl⟩, by decide +kernel⟩ (fun L cd => ⟨rfl, _, rfl⟩) (by kernel_rfl)
    (fun a v h x kV doc pm an cdv ct => match h with | .pos _ => by kernel_rfl | .kw1 => by kernel_rfl)
theorem cfs13 : Cfs (K21 p) P21 306 303 291 302 "Missing.__init__" (defArgs (inClass (top 15) 0)) (defBody (inClass (top 15) 0)) (defScope (inClass (top 15) 0)) [.type "KeyError", .type "LookupError", .type "Exception", .type "BaseException", .type "object"] "KeyError" "LookupError.__new__" "KeyError.__init__" :=
  cfs_mkO (by kernel_rfl) (by kernel_rfl) (by kernel_rfl) (by kernel_rfl) (by kernel_rfl) (by kernel_rfl) (by kernel_rfl) (by kernel_rfl) (by kernel_rfl) (by kernel_rfl) (by kernel_rfl) (by kernel_rfl) (by kernel_rfl) (by kernel_rfl) (by kernel_rfl) (by kernel_rfl) (by kernel_rfl) (by kernel_rfl)
theorem mk13 : Mks P21 (K21 p) mg 306 ["name"] :=
  mks_one (cfs13 p) base_KE rfl rfl rfl ⟨rfl, by decide +kernel, by decide +kernel, rfl, rfl, ⟨_, rfl, rfl⟩, by decide +kernel⟩ (fun L cd => ⟨rfl, _, rfl⟩) (by kernel_rfl)
    (fun a v h x kV doc pm an cdv ct => match h with | .pos _ => by kernel_rfl | .kw1 => by kernel_rfl)
theorem cfs14 : Cfs (K21 p) P21 328 325 313 324 "NothingLeft.__init__" (defArgs (inClass (top 16) 0)) (defBody (inClass (top 16) 0)) (defScope (inClass (top 16) 0)) [.type "RuntimeError", .type "Exception", .type "BaseException", .type "object"] "RuntimeError" "RuntimeError.__new__" "RuntimeError.__init__" :=
  cfs_mkO (by kernel_rfl) (by kernel_rfl) (by kernel_rfl) (by kernel_rfl) (by kernel_rfl) (by kernel_rfl) (by kernel_rfl) (by kernel_rfl) (by kernel_rfl) (by kernel_rfl) (by kernel_rfl) (by kernel_rfl) (by kernel_rfl) (by kernel_rfl) (by kernel_rfl) (by kernel_rfl) (by kernel_rfl) (by kernel_rfl)
theorem rwT21 : Told.RwT (K21 p) ca21 where
  xc := fun i h1 h14 => by
    have c : i = 1 ∨ i = 2 ∨ i = 3 ∨ i = 4 ∨ i = 5 ∨ i = 6 ∨ i = 7 ∨ i = 8 ∨ i = 9 ∨ i = 10 ∨ i = 11 ∨ i = 12 ∨ i = 13 ∨ i = 14 := by omega
    rcases c with rfl | rfl | rfl | rfl | rfl | rfl | rfl | rfl | rfl | rfl | rfl | rfl | rfl | rfl
    · exact xcB_ok (show xcB (K21 p) 53 = true by kernel_rfl)
    · exact xcB_ok (show xcB (K21 p) 74 = true by kernel_rfl)
    · exact xcB_ok (show xcB (K21 p) 95 = true by kernel_rfl)
    · exact xcB_ok (show xcB (K21 p) 116 = true by kernel_rfl)
    · exact xcB_ok (show xcB (K21 p) 137 = true by kernel_rfl)
    · exact xcB_ok (show xcB (K21 p) 158 = true by kernel_rfl)
    · exact xcB_ok (show xcB (K21 p) 179 = true by kernel_rfl)
    · exact xcB_ok (show xcB (K21 p) 200 = true by kernel_rfl)
    · exact xcB_ok (show xcB (K21 p) 221 = true by kernel_rfl)
    · exact xcB_ok (show xcB (K21 p) 242 = true by kernel_rfl)
    · exact xcB_ok (show xcB (K21 p) 263 = true by kernel_rfl)
    · exact xcB_ok (show xcB (K21 p) 284 = true by kernel_rfl)
    · exact xcB_ok (show xcB (K21 p) 306 = true by kernel_rfl)
    · exact xcB_ok (show xcB (K21 p) 328 = true by kernel_rfl)
  kit := fun n i n1 n14 i1 i14 => by
    have h : ((List.range 14).all fun n => (List.range 14).all fun i => decide (PySem.W.kitOne (K21 p) (.ref (ca21 (n + 1))) (.ref (ca21 (i + 1))) = some (decide (i + 1 = n + 1)))) = true := by kernel_rfl
    have h1 := List.all_eq_true.mp h (n - 1) (List.mem_range.mpr (by omega))
    have h2 := of_decide_eq_true (List.all_eq_true.mp h1 (i - 1) (List.mem_range.mpr (by omega)))
    rw [show n - 1 + 1 = n by omega, show i - 1 + 1 = i by omega] at h2
    exact h2
  exm := fun n n1 n14 => by
    have h : ((List.range 14).all fun n => decide (PySem.W.exmAny (K21 p) (.ref (ca21 (n + 1))) [.ref (ca21 0), .ref (ca21 12), .ref (ca21 13), .ref (ca21 14)] = some true)) = true := by kernel_rfl
    have h2 := of_decide_eq_true (List.all_eq_true.mp h (n - 1) (List.mem_range.mpr (by omega)))
    rw [show n - 1 + 1 = n by omega] at h2
    exact h2
  no := fun i i1 i14 z10 z11 z14 => by
    have c : i = 1 ∨ i = 2 ∨ i = 3 ∨ i = 4 ∨ i = 5 ∨ i = 6 ∨ i = 7 ∨ i = 8 ∨ i = 9 ∨ i = 10 ∨ i = 11 ∨ i = 12 ∨ i = 13 ∨ i = 14 := by omega
    rcases c with rfl | rfl | rfl | rfl | rfl | rfl | rfl | rfl | rfl | rfl | rfl | rfl | rfl | rfl
    · exact (show PySem.W.findIn (K21 p) (.ref 53) "value" = some none by kernel_rfl)
    · exact (show PySem.W.findIn (K21 p) (.ref 74) "value" = some none by kernel_rfl)
    · exact (show PySem.W.findIn (K21 p) (.ref 95) "value" = some none by kernel_rfl)
    · exact (show PySem.W.findIn (K21 p) (.ref 116) "value" = some none by kernel_rfl)
    · exact (show PySem.W.findIn (K21 p) (.ref 137) "place" = some none by kernel_rfl)
    · exact (show PySem.W.findIn (K21 p) (.ref 158) "value" = some none by kernel_rfl)
    · exact (show PySem.W.findIn (K21 p) (.ref 179) "value" = some none by kernel_rfl)
    · exact (show PySem.W.findIn (K21 p) (.ref 200) "place" = some none by kernel_rfl)
    · exact (show PySem.W.findIn (K21 p) (.ref 221) "value" = some none by kernel_rfl)
    · exact absurd rfl z10
    · exact absurd rfl z11
    · exact (show PySem.W.findIn (K21 p) (.ref 284) "most" = some none by kernel_rfl)
    · exact (show PySem.W.findIn (K21 p) (.ref 306) "name" = some none by kernel_rfl)
    · exact absurd rfl z14
  line := (show PySem.W.findIn (K21 p) (.ref 242) "line" = some none by kernel_rfl)
  word := (show PySem.W.findIn (K21 p) (.ref 242) "word" = some none by kernel_rfl)
theorem kp_is_integer : PySem.W.keepIn (K21 p) (.ref 338) = true := by kernel_rfl
theorem lk_is_integer : (K21 p).lookup 338 = some ⟨(oO (K21 p) 338).cls, (oO (K21 p) 338).dict, .func (PySem.W.fnOf "is_integer" "is_integer" (defArgs (top 21)) (defBody (top 21)) (defScope (top 21)) .none (fO (K21 p) 338).kwdefaults (fO (K21 p) 338).doc (fO (K21 p) 338).pyModule (fO (K21 p) 338).annotations (fO (K21 p) 338).code (fO (K21 p) 338).closureTuple), (oO (K21 p) 338).slots⟩ := by kernel_rfl
theorem cd_is_integer : PySem.W.codeIn (K21 p) (fO (K21 p) 338).code "is_integer" = true := by kernel_rfl
noncomputable abbrev fd_is_integer (p : Params) : FuncData := PySem.W.fnOf "is_integer" "is_integer" (defArgs (top 21)) (defBody (top 21)) (defScope (top 21)) .none (fO (K21 p) 338).kwdefaults (fO (K21 p) 338).doc (fO (K21 p) 338).pyModule (fO (K21 p) 338).annotations (fO (K21 p) 338).code (fO (K21 p) 338).closureTuple
theorem fn_is_integer : Fun (K21 p) "is_integer" "is_integer" (top 21) 338 (fd_is_integer p) := ⟨⟨_, _, _, _, _, _, _, _, _, rfl, lk_is_integer p, cd_is_integer p⟩, kp_is_integer p⟩
theorem bd_is_integer : Binds (K21 p) (fd_is_integer p) ["value"] [] := (fn_is_integer p).binds (ps := ["value"]) fun _ _ _ _ _ _ us hl => match us, hl with | [_], _ => rfl
theorem kp_is_number : PySem.W.keepIn (K21 p) (.ref 345) = true := by kernel_rfl
theorem lk_is_number : (K21 p).lookup 345 = some ⟨(oO (K21 p) 345).cls, (oO (K21 p) 345).dict, .func (PySem.W.fnOf "is_number" "is_number" (defArgs (top 22)) (defBody (top 22)) (defScope (top 22)) .none (fO (K21 p) 345).kwdefaults (fO (K21 p) 345).doc (fO (K21 p) 345).pyModule (fO (K21 p) 345).annotations (fO (K21 p) 345).code (fO (K21 p) 345).closureTuple), (oO (K21 p) 345).slots⟩ := by kernel_rfl
theorem cd_is_number : PySem.W.codeIn (K21 p) (fO (K21 p) 345).code "is_number" = true := by kernel_rfl
noncomputable abbrev fd_is_number (p : Params) : FuncData := PySem.W.fnOf "is_number" "is_number" (defArgs (top 22)) (defBody (top 22)) (defScope (top 22)) .none (fO (K21 p) 345).kwdefaults (fO (K21 p) 345).doc (fO (K21 p) 345).pyModule (fO (K21 p) 345).annotations (fO (K21 p) 345).code (fO (K21 p) 345).closureTuple
theorem fn_is_number : Fun (K21 p) "is_number" "is_number" (top 22) 345 (fd_is_number p) := ⟨⟨_, _, _, _, _, _, _, _, _, rfl, lk_is_number p, cd_is_number p⟩, kp_is_number p⟩
theorem bd_is_number : Binds (K21 p) (fd_is_number p) ["value"] [] := (fn_is_number p).binds (ps := ["value"]) fun _ _ _ _ _ _ us hl => match us, hl with | [_], _ => rfl
theorem kp_is_figures : PySem.W.keepIn (K21 p) (.ref 350) = true := by kernel_rfl
theorem lk_is_figures : (K21 p).lookup 350 = some ⟨(oO (K21 p) 350).cls, (oO (K21 p) 350).dict, .func (PySem.W.fnOf "is_figures" "is_figures" (defArgs (top 23)) (defBody (top 23)) (defScope (top 23)) .none (fO (K21 p) 350).kwdefaults (fO (K21 p) 350).doc (fO (K21 p) 350).pyModule (fO (K21 p) 350).annotations (fO (K21 p) 350).code (fO (K21 p) 350).closureTuple), (oO (K21 p) 350).slots⟩ := by kernel_rfl
theorem cd_is_figures : PySem.W.codeIn (K21 p) (fO (K21 p) 350).code "is_figures" = true := by kernel_rfl
noncomputable abbrev fd_is_figures (p : Params) : FuncData := PySem.W.fnOf "is_figures" "is_figures" (defArgs (top 23)) (defBody (top 23)) (defScope (top 23)) .none (fO (K21 p) 350).kwdefaults (fO (K21 p) 350).doc (fO (K21 p) 350).pyModule (fO (K21 p) 350).annotations (fO (K21 p) 350).code (fO (K21 p) 350).closureTuple
theorem fn_is_figures : Fun (K21 p) "is_figures" "is_figures" (top 23) 350 (fd_is_figures p) := ⟨⟨_, _, _, _, _, _, _, _, _, rfl, lk_is_figures p, cd_is_figures p⟩, kp_is_figures p⟩
theorem bd_is_figures : Binds (K21 p) (fd_is_figures p) ["base", "value", "most"] [] := (fn_is_figures p).binds (ps := ["base", "value", "most"]) fun _ _ _ _ _ _ us hl => match us, hl with | [_, _, _], _ => rfl
theorem kp_need_base : PySem.W.keepIn (K21 p) (.ref 357) = true := by kernel_rfl
theorem lk_need_base : (K21 p).lookup 357 = some ⟨(oO (K21 p) 357).cls, (oO (K21 p) 357).dict, .func (PySem.W.fnOf "need_base" "need_base" (defArgs (top 24)) (defBody (top 24)) (defScope (top 24)) .none (fO (K21 p) 357).kwdefaults (fO (K21 p) 357).doc (fO (K21 p) 357).pyModule (fO (K21 p) 357).annotations (fO (K21 p) 357).code (fO (K21 p) 357).closureTuple), (oO (K21 p) 357).slots⟩ := by kernel_rfl
theorem cd_need_base : PySem.W.codeIn (K21 p) (fO (K21 p) 357).code "need_base" = true := by kernel_rfl
noncomputable abbrev fd_need_base (p : Params) : FuncData := PySem.W.fnOf "need_base" "need_base" (defArgs (top 24)) (defBody (top 24)) (defScope (top 24)) .none (fO (K21 p) 357).kwdefaults (fO (K21 p) 357).doc (fO (K21 p) 357).pyModule (fO (K21 p) 357).annotations (fO (K21 p) 357).code (fO (K21 p) 357).closureTuple
theorem fn_need_base : Fun (K21 p) "need_base" "need_base" (top 24) 357 (fd_need_base p) := ⟨⟨_, _, _, _, _, _, _, _, _, rfl, lk_need_base p, cd_need_base p⟩, kp_need_base p⟩
theorem bd_need_base : Binds (K21 p) (fd_need_base p) ["base"] [] := (fn_need_base p).binds (ps := ["base"]) fun _ _ _ _ _ _ us hl => match us, hl with | [_], _ => rfl
theorem kp_need_number : PySem.W.keepIn (K21 p) (.ref 364) = true := by kernel_rfl
theorem lk_need_number : (K21 p).lookup 364 = some ⟨(oO (K21 p) 364).cls, (oO (K21 p) 364).dict, .func (PySem.W.fnOf "need_number" "need_number" (defArgs (top 25)) (defBody (top 25)) (defScope (top 25)) .none (fO (K21 p) 364).kwdefaults (fO (K21 p) 364).doc (fO (K21 p) 364).pyModule (fO (K21 p) 364).annotations (fO (K21 p) 364).code (fO (K21 p) 364).closureTuple), (oO (K21 p) 364).slots⟩ := by kernel_rfl
theorem cd_need_number : PySem.W.codeIn (K21 p) (fO (K21 p) 364).code "need_number" = true := by kernel_rfl
noncomputable abbrev fd_need_number (p : Params) : FuncData := PySem.W.fnOf "need_number" "need_number" (defArgs (top 25)) (defBody (top 25)) (defScope (top 25)) .none (fO (K21 p) 364).kwdefaults (fO (K21 p) 364).doc (fO (K21 p) 364).pyModule (fO (K21 p) 364).annotations (fO (K21 p) 364).code (fO (K21 p) 364).closureTuple
theorem fn_need_number : Fun (K21 p) "need_number" "need_number" (top 25) 364 (fd_need_number p) := ⟨⟨_, _, _, _, _, _, _, _, _, rfl, lk_need_number p, cd_need_number p⟩, kp_need_number p⟩
theorem bd_need_number : Binds (K21 p) (fd_need_number p) ["number"] [] := (fn_need_number p).binds (ps := ["number"]) fun _ _ _ _ _ _ us hl => match us, hl with | [_], _ => rfl
theorem kp_need_range : PySem.W.keepIn (K21 p) (.ref 371) = true := by kernel_rfl
theorem lk_need_range : (K21 p).lookup 371 = some ⟨(oO (K21 p) 371).cls, (oO (K21 p) 371).dict, .func (PySem.W.fnOf "need_range" "need_range" (defArgs (top 26)) (defBody (top 26)) (defScope (top 26)) .none (fO (K21 p) 371).kwdefaults (fO (K21 p) 371).doc (fO (K21 p) 371).pyModule (fO (K21 p) 371).annotations (fO (K21 p) 371).code (fO (K21 p) 371).closureTuple), (oO (K21 p) 371).slots⟩ := by kernel_rfl
theorem cd_need_range : PySem.W.codeIn (K21 p) (fO (K21 p) 371).code "need_range" = true := by kernel_rfl
noncomputable abbrev fd_need_range (p : Params) : FuncData := PySem.W.fnOf "need_range" "need_range" (defArgs (top 26)) (defBody (top 26)) (defScope (top 26)) .none (fO (K21 p) 371).kwdefaults (fO (K21 p) 371).doc (fO (K21 p) 371).pyModule (fO (K21 p) 371).annotations (fO (K21 p) 371).code (fO (K21 p) 371).closureTuple
theorem fn_need_range : Fun (K21 p) "need_range" "need_range" (top 26) 371 (fd_need_range p) := ⟨⟨_, _, _, _, _, _, _, _, _, rfl, lk_need_range p, cd_need_range p⟩, kp_need_range p⟩
theorem bd_need_range : Binds (K21 p) (fd_need_range p) ["first", "second"] [] := (fn_need_range p).binds (ps := ["first", "second"]) fun _ _ _ _ _ _ us hl => match us, hl with | [_, _], _ => rfl
theorem kp_behind : PySem.W.keepIn (K21 p) (.ref 378) = true := by kernel_rfl
theorem lk_behind : (K21 p).lookup 378 = some ⟨(oO (K21 p) 378).cls, (oO (K21 p) 378).dict, .func (PySem.W.fnOf "behind" "behind" (defArgs (top 27)) (defBody (top 27)) (defScope (top 27)) .none (fO (K21 p) 378).kwdefaults (fO (K21 p) 378).doc (fO (K21 p) 378).pyModule (fO (K21 p) 378).annotations (fO (K21 p) 378).code (fO (K21 p) 378).closureTuple), (oO (K21 p) 378).slots⟩ := by kernel_rfl
theorem cd_behind : PySem.W.codeIn (K21 p) (fO (K21 p) 378).code "behind" = true := by kernel_rfl
noncomputable abbrev fd_behind (p : Params) : FuncData := PySem.W.fnOf "behind" "behind" (defArgs (top 27)) (defBody (top 27)) (defScope (top 27)) .none (fO (K21 p) 378).kwdefaults (fO (K21 p) 378).doc (fO (K21 p) 378).pyModule (fO (K21 p) 378).annotations (fO (K21 p) 378).code (fO (K21 p) 378).closureTuple
theorem fn_behind : Fun (K21 p) "behind" "behind" (top 27) 378 (fd_behind p) := ⟨⟨_, _, _, _, _, _, _, _, _, rfl, lk_behind p, cd_behind p⟩, kp_behind p⟩
theorem bd_behind : Binds (K21 p) (fd_behind p) ["number", "remainder", "step"] [] := (fn_behind p).binds (ps := ["number", "remainder", "step"]) fun _ _ _ _ _ _ us hl => match us, hl with | [_, _, _], _ => rfl
theorem kp_digits : PySem.W.keepIn (K21 p) (.ref 385) = true := by kernel_rfl
theorem lk_digits : (K21 p).lookup 385 = some ⟨(oO (K21 p) 385).cls, (oO (K21 p) 385).dict, .func (PySem.W.fnOf "digits" "digits" (defArgs (top 28)) (defBody (top 28)) (defScope (top 28)) .none (fO (K21 p) 385).kwdefaults (fO (K21 p) 385).doc (fO (K21 p) 385).pyModule (fO (K21 p) 385).annotations (fO (K21 p) 385).code (fO (K21 p) 385).closureTuple), (oO (K21 p) 385).slots⟩ := by kernel_rfl
theorem cd_digits : PySem.W.codeIn (K21 p) (fO (K21 p) 385).code "digits" = true := by kernel_rfl
noncomputable abbrev fd_digits (p : Params) : FuncData := PySem.W.fnOf "digits" "digits" (defArgs (top 28)) (defBody (top 28)) (defScope (top 28)) .none (fO (K21 p) 385).kwdefaults (fO (K21 p) 385).doc (fO (K21 p) 385).pyModule (fO (K21 p) 385).annotations (fO (K21 p) 385).code (fO (K21 p) 385).closureTuple
theorem fn_digits : Fun (K21 p) "digits" "digits" (top 28) 385 (fd_digits p) := ⟨⟨_, _, _, _, _, _, _, _, _, rfl, lk_digits p, cd_digits p⟩, kp_digits p⟩
theorem bd_digits : Binds (K21 p) (fd_digits p) ["base", "number"] [] := (fn_digits p).binds (ps := ["base", "number"]) fun _ _ _ _ _ _ us hl => match us, hl with | [_, _], _ => rfl
theorem kp_length : PySem.W.keepIn (K21 p) (.ref 392) = true := by kernel_rfl
theorem lk_length : (K21 p).lookup 392 = some ⟨(oO (K21 p) 392).cls, (oO (K21 p) 392).dict, .func (PySem.W.fnOf "length" "length" (defArgs (top 29)) (defBody (top 29)) (defScope (top 29)) .none (fO (K21 p) 392).kwdefaults (fO (K21 p) 392).doc (fO (K21 p) 392).pyModule (fO (K21 p) 392).annotations (fO (K21 p) 392).code (fO (K21 p) 392).closureTuple), (oO (K21 p) 392).slots⟩ := by kernel_rfl
theorem cd_length : PySem.W.codeIn (K21 p) (fO (K21 p) 392).code "length" = true := by kernel_rfl
noncomputable abbrev fd_length (p : Params) : FuncData := PySem.W.fnOf "length" "length" (defArgs (top 29)) (defBody (top 29)) (defScope (top 29)) .none (fO (K21 p) 392).kwdefaults (fO (K21 p) 392).doc (fO (K21 p) 392).pyModule (fO (K21 p) 392).annotations (fO (K21 p) 392).code (fO (K21 p) 392).closureTuple
theorem fn_length : Fun (K21 p) "length" "length" (top 29) 392 (fd_length p) := ⟨⟨_, _, _, _, _, _, _, _, _, rfl, lk_length p, cd_length p⟩, kp_length p⟩
theorem bd_length : Binds (K21 p) (fd_length p) ["base", "number"] [] := (fn_length p).binds (ps := ["base", "number"]) fun _ _ _ _ _ _ us hl => match us, hl with | [_, _], _ => rfl
theorem kp_changed : PySem.W.keepIn (K21 p) (.ref 399) = true := by kernel_rfl
theorem lk_changed : (K21 p).lookup 399 = some ⟨(oO (K21 p) 399).cls, (oO (K21 p) 399).dict, .func (PySem.W.fnOf "changed" "changed" (defArgs (top 30)) (defBody (top 30)) (defScope (top 30)) .none (fO (K21 p) 399).kwdefaults (fO (K21 p) 399).doc (fO (K21 p) 399).pyModule (fO (K21 p) 399).annotations (fO (K21 p) 399).code (fO (K21 p) 399).closureTuple), (oO (K21 p) 399).slots⟩ := by kernel_rfl
theorem cd_changed : PySem.W.codeIn (K21 p) (fO (K21 p) 399).code "changed" = true := by kernel_rfl
noncomputable abbrev fd_changed (p : Params) : FuncData := PySem.W.fnOf "changed" "changed" (defArgs (top 30)) (defBody (top 30)) (defScope (top 30)) .none (fO (K21 p) 399).kwdefaults (fO (K21 p) 399).doc (fO (K21 p) 399).pyModule (fO (K21 p) 399).annotations (fO (K21 p) 399).code (fO (K21 p) 399).closureTuple
theorem fn_changed : Fun (K21 p) "changed" "changed" (top 30) 399 (fd_changed p) := ⟨⟨_, _, _, _, _, _, _, _, _, rfl, lk_changed p, cd_changed p⟩, kp_changed p⟩
theorem bd_changed : Binds (K21 p) (fd_changed p) ["base", "first", "second"] [] := (fn_changed p).binds (ps := ["base", "first", "second"]) fun _ _ _ _ _ _ us hl => match us, hl with | [_, _, _], _ => rfl
theorem kp_near : PySem.W.keepIn (K21 p) (.ref 406) = true := by kernel_rfl
theorem lk_near : (K21 p).lookup 406 = some ⟨(oO (K21 p) 406).cls, (oO (K21 p) 406).dict, .func (PySem.W.fnOf "near" "near" (defArgs (top 31)) (defBody (top 31)) (defScope (top 31)) .none (fO (K21 p) 406).kwdefaults (fO (K21 p) 406).doc (fO (K21 p) 406).pyModule (fO (K21 p) 406).annotations (fO (K21 p) 406).code (fO (K21 p) 406).closureTuple), (oO (K21 p) 406).slots⟩ := by kernel_rfl
theorem cd_near : PySem.W.codeIn (K21 p) (fO (K21 p) 406).code "near" = true := by kernel_rfl
noncomputable abbrev fd_near (p : Params) : FuncData := PySem.W.fnOf "near" "near" (defArgs (top 31)) (defBody (top 31)) (defScope (top 31)) .none (fO (K21 p) 406).kwdefaults (fO (K21 p) 406).doc (fO (K21 p) 406).pyModule (fO (K21 p) 406).annotations (fO (K21 p) 406).code (fO (K21 p) 406).closureTuple
theorem fn_near : Fun (K21 p) "near" "near" (top 31) 406 (fd_near p) := ⟨⟨_, _, _, _, _, _, _, _, _, rfl, lk_near p, cd_near p⟩, kp_near p⟩
theorem bd_near : Binds (K21 p) (fd_near p) ["base", "first", "second"] [] := (fn_near p).binds (ps := ["base", "first", "second"]) fun _ _ _ _ _ _ us hl => match us, hl with | [_, _, _], _ => rfl
theorem kp_is_size : PySem.W.keepIn (K21 p) (.ref 413) = true := by kernel_rfl
theorem lk_is_size : (K21 p).lookup 413 = some ⟨(oO (K21 p) 413).cls, (oO (K21 p) 413).dict, .func (PySem.W.fnOf "is_size" "is_size" (defArgs (top 37)) (defBody (top 37)) (defScope (top 37)) .none (fO (K21 p) 413).kwdefaults (fO (K21 p) 413).doc (fO (K21 p) 413).pyModule (fO (K21 p) 413).annotations (fO (K21 p) 413).code (fO (K21 p) 413).closureTuple), (oO (K21 p) 413).slots⟩ := by kernel_rfl
theorem cd_is_size : PySem.W.codeIn (K21 p) (fO (K21 p) 413).code "is_size" = true := by kernel_rfl
noncomputable abbrev fd_is_size (p : Params) : FuncData := PySem.W.fnOf "is_size" "is_size" (defArgs (top 37)) (defBody (top 37)) (defScope (top 37)) .none (fO (K21 p) 413).kwdefaults (fO (K21 p) 413).doc (fO (K21 p) 413).pyModule (fO (K21 p) 413).annotations (fO (K21 p) 413).code (fO (K21 p) 413).closureTuple
theorem fn_is_size : Fun (K21 p) "is_size" "is_size" (top 37) 413 (fd_is_size p) := ⟨⟨_, _, _, _, _, _, _, _, _, rfl, lk_is_size p, cd_is_size p⟩, kp_is_size p⟩
theorem bd_is_size : Binds (K21 p) (fd_is_size p) ["value", "least"] [] := (fn_is_size p).binds (ps := ["value", "least"]) fun _ _ _ _ _ _ us hl => match us, hl with | [_, _], _ => rfl
theorem kp_are_bounds : PySem.W.keepIn (K21 p) (.ref 420) = true := by kernel_rfl
theorem lk_are_bounds : (K21 p).lookup 420 = some ⟨(oO (K21 p) 420).cls, (oO (K21 p) 420).dict, .func (PySem.W.fnOf "are_bounds" "are_bounds" (defArgs (top 38)) (defBody (top 38)) (defScope (top 38)) .none (fO (K21 p) 420).kwdefaults (fO (K21 p) 420).doc (fO (K21 p) 420).pyModule (fO (K21 p) 420).annotations (fO (K21 p) 420).code (fO (K21 p) 420).closureTuple), (oO (K21 p) 420).slots⟩ := by kernel_rfl
theorem cd_are_bounds : PySem.W.codeIn (K21 p) (fO (K21 p) 420).code "are_bounds" = true := by kernel_rfl
noncomputable abbrev fd_are_bounds (p : Params) : FuncData := PySem.W.fnOf "are_bounds" "are_bounds" (defArgs (top 38)) (defBody (top 38)) (defScope (top 38)) .none (fO (K21 p) 420).kwdefaults (fO (K21 p) 420).doc (fO (K21 p) 420).pyModule (fO (K21 p) 420).annotations (fO (K21 p) 420).code (fO (K21 p) 420).closureTuple
theorem fn_are_bounds : Fun (K21 p) "are_bounds" "are_bounds" (top 38) 420 (fd_are_bounds p) := ⟨⟨_, _, _, _, _, _, _, _, _, rfl, lk_are_bounds p, cd_are_bounds p⟩, kp_are_bounds p⟩
theorem bd_are_bounds : Binds (K21 p) (fd_are_bounds p) ["least", "most"] [] := (fn_are_bounds p).binds (ps := ["least", "most"]) fun _ _ _ _ _ _ us hl => match us, hl with | [_, _], _ => rfl
theorem kp_begins : PySem.W.keepIn (K21 p) (.ref 427) = true := by kernel_rfl
theorem lk_begins : (K21 p).lookup 427 = some ⟨(oO (K21 p) 427).cls, (oO (K21 p) 427).dict, .func (PySem.W.fnOf "begins" "begins" (defArgs (top 39)) (defBody (top 39)) (defScope (top 39)) .none (fO (K21 p) 427).kwdefaults (fO (K21 p) 427).doc (fO (K21 p) 427).pyModule (fO (K21 p) 427).annotations (fO (K21 p) 427).code (fO (K21 p) 427).closureTuple), (oO (K21 p) 427).slots⟩ := by kernel_rfl
theorem cd_begins : PySem.W.codeIn (K21 p) (fO (K21 p) 427).code "begins" = true := by kernel_rfl
noncomputable abbrev fd_begins (p : Params) : FuncData := PySem.W.fnOf "begins" "begins" (defArgs (top 39)) (defBody (top 39)) (defScope (top 39)) .none (fO (K21 p) 427).kwdefaults (fO (K21 p) 427).doc (fO (K21 p) 427).pyModule (fO (K21 p) 427).annotations (fO (K21 p) 427).code (fO (K21 p) 427).closureTuple
theorem fn_begins : Fun (K21 p) "begins" "begins" (top 39) 427 (fd_begins p) := ⟨⟨_, _, _, _, _, _, _, _, _, rfl, lk_begins p, cd_begins p⟩, kp_begins p⟩
theorem bd_begins : Binds (K21 p) (fd_begins p) ["value", "word", "many"] [] := (fn_begins p).binds (ps := ["value", "word", "many"]) fun _ _ _ _ _ _ us hl => match us, hl with | [_, _, _], _ => rfl
theorem kp_is_condition : PySem.W.keepIn (K21 p) (.ref 434) = true := by kernel_rfl
theorem lk_is_condition : (K21 p).lookup 434 = some ⟨(oO (K21 p) 434).cls, (oO (K21 p) 434).dict, .func (PySem.W.fnOf "is_condition" "is_condition" (defArgs (top 40)) (defBody (top 40)) (defScope (top 40)) .none (fO (K21 p) 434).kwdefaults (fO (K21 p) 434).doc (fO (K21 p) 434).pyModule (fO (K21 p) 434).annotations (fO (K21 p) 434).code (fO (K21 p) 434).closureTuple), (oO (K21 p) 434).slots⟩ := by kernel_rfl
theorem cd_is_condition : PySem.W.codeIn (K21 p) (fO (K21 p) 434).code "is_condition" = true := by kernel_rfl
noncomputable abbrev fd_is_condition (p : Params) : FuncData := PySem.W.fnOf "is_condition" "is_condition" (defArgs (top 40)) (defBody (top 40)) (defScope (top 40)) .none (fO (K21 p) 434).kwdefaults (fO (K21 p) 434).doc (fO (K21 p) 434).pyModule (fO (K21 p) 434).annotations (fO (K21 p) 434).code (fO (K21 p) 434).closureTuple
theorem fn_is_condition : Fun (K21 p) "is_condition" "is_condition" (top 40) 434 (fd_is_condition p) := ⟨⟨_, _, _, _, _, _, _, _, _, rfl, lk_is_condition p, cd_is_condition p⟩, kp_is_condition p⟩
theorem bd_is_condition : Binds (K21 p) (fd_is_condition p) ["base", "value"] [] := (fn_is_condition p).binds (ps := ["base", "value"]) fun _ _ _ _ _ _ us hl => match us, hl with | [_, _], _ => rfl
theorem kp_is_keep : PySem.W.keepIn (K21 p) (.ref 441) = true := by kernel_rfl
theorem lk_is_keep : (K21 p).lookup 441 = some ⟨(oO (K21 p) 441).cls, (oO (K21 p) 441).dict, .func (PySem.W.fnOf "is_keep" "is_keep" (defArgs (top 41)) (defBody (top 41)) (defScope (top 41)) .none (fO (K21 p) 441).kwdefaults (fO (K21 p) 441).doc (fO (K21 p) 441).pyModule (fO (K21 p) 441).annotations (fO (K21 p) 441).code (fO (K21 p) 441).closureTuple), (oO (K21 p) 441).slots⟩ := by kernel_rfl
theorem cd_is_keep : PySem.W.codeIn (K21 p) (fO (K21 p) 441).code "is_keep" = true := by kernel_rfl
noncomputable abbrev fd_is_keep (p : Params) : FuncData := PySem.W.fnOf "is_keep" "is_keep" (defArgs (top 41)) (defBody (top 41)) (defScope (top 41)) .none (fO (K21 p) 441).kwdefaults (fO (K21 p) 441).doc (fO (K21 p) 441).pyModule (fO (K21 p) 441).annotations (fO (K21 p) 441).code (fO (K21 p) 441).closureTuple
theorem fn_is_keep : Fun (K21 p) "is_keep" "is_keep" (top 41) 441 (fd_is_keep p) := ⟨⟨_, _, _, _, _, _, _, _, _, rfl, lk_is_keep p, cd_is_keep p⟩, kp_is_keep p⟩
theorem bd_is_keep : Binds (K21 p) (fd_is_keep p) ["value"] [] := (fn_is_keep p).binds (ps := ["value"]) fun _ _ _ _ _ _ us hl => match us, hl with | [_], _ => rfl
theorem kp_is_rule : PySem.W.keepIn (K21 p) (.ref 446) = true := by kernel_rfl
theorem lk_is_rule : (K21 p).lookup 446 = some ⟨(oO (K21 p) 446).cls, (oO (K21 p) 446).dict, .func (PySem.W.fnOf "is_rule" "is_rule" (defArgs (top 42)) (defBody (top 42)) (defScope (top 42)) .none (fO (K21 p) 446).kwdefaults (fO (K21 p) 446).doc (fO (K21 p) 446).pyModule (fO (K21 p) 446).annotations (fO (K21 p) 446).code (fO (K21 p) 446).closureTuple), (oO (K21 p) 446).slots⟩ := by kernel_rfl
theorem cd_is_rule : PySem.W.codeIn (K21 p) (fO (K21 p) 446).code "is_rule" = true := by kernel_rfl
noncomputable abbrev fd_is_rule (p : Params) : FuncData := PySem.W.fnOf "is_rule" "is_rule" (defArgs (top 42)) (defBody (top 42)) (defScope (top 42)) .none (fO (K21 p) 446).kwdefaults (fO (K21 p) 446).doc (fO (K21 p) 446).pyModule (fO (K21 p) 446).annotations (fO (K21 p) 446).code (fO (K21 p) 446).closureTuple
theorem fn_is_rule : Fun (K21 p) "is_rule" "is_rule" (top 42) 446 (fd_is_rule p) := ⟨⟨_, _, _, _, _, _, _, _, _, rfl, lk_is_rule p, cd_is_rule p⟩, kp_is_rule p⟩
theorem bd_is_rule : Binds (K21 p) (fd_is_rule p) ["base", "value"] [] := (fn_is_rule p).binds (ps := ["base", "value"]) fun _ _ _ _ _ _ us hl => match us, hl with | [_, _], _ => rfl
theorem kp_need_rules : PySem.W.keepIn (K21 p) (.ref 453) = true := by kernel_rfl
theorem lk_need_rules : (K21 p).lookup 453 = some ⟨(oO (K21 p) 453).cls, (oO (K21 p) 453).dict, .func (PySem.W.fnOf "need_rules" "need_rules" (defArgs (top 43)) (defBody (top 43)) (defScope (top 43)) .none (fO (K21 p) 453).kwdefaults (fO (K21 p) 453).doc (fO (K21 p) 453).pyModule (fO (K21 p) 453).annotations (fO (K21 p) 453).code (fO (K21 p) 453).closureTuple), (oO (K21 p) 453).slots⟩ := by kernel_rfl
theorem cd_need_rules : PySem.W.codeIn (K21 p) (fO (K21 p) 453).code "need_rules" = true := by kernel_rfl
noncomputable abbrev fd_need_rules (p : Params) : FuncData := PySem.W.fnOf "need_rules" "need_rules" (defArgs (top 43)) (defBody (top 43)) (defScope (top 43)) .none (fO (K21 p) 453).kwdefaults (fO (K21 p) 453).doc (fO (K21 p) 453).pyModule (fO (K21 p) 453).annotations (fO (K21 p) 453).code (fO (K21 p) 453).closureTuple
theorem fn_need_rules : Fun (K21 p) "need_rules" "need_rules" (top 43) 453 (fd_need_rules p) := ⟨⟨_, _, _, _, _, _, _, _, _, rfl, lk_need_rules p, cd_need_rules p⟩, kp_need_rules p⟩
theorem bd_need_rules : Binds (K21 p) (fd_need_rules p) ["base", "rules"] [] := (fn_need_rules p).binds (ps := ["base", "rules"]) fun _ _ _ _ _ _ us hl => match us, hl with | [_, _], _ => rfl
theorem kp_need_place : PySem.W.keepIn (K21 p) (.ref 460) = true := by kernel_rfl
theorem lk_need_place : (K21 p).lookup 460 = some ⟨(oO (K21 p) 460).cls, (oO (K21 p) 460).dict, .func (PySem.W.fnOf "need_place" "need_place" (defArgs (top 44)) (defBody (top 44)) (defScope (top 44)) .none (fO (K21 p) 460).kwdefaults (fO (K21 p) 460).doc (fO (K21 p) 460).pyModule (fO (K21 p) 460).annotations (fO (K21 p) 460).code (fO (K21 p) 460).closureTuple), (oO (K21 p) 460).slots⟩ := by kernel_rfl
theorem cd_need_place : PySem.W.codeIn (K21 p) (fO (K21 p) 460).code "need_place" = true := by kernel_rfl
noncomputable abbrev fd_need_place (p : Params) : FuncData := PySem.W.fnOf "need_place" "need_place" (defArgs (top 44)) (defBody (top 44)) (defScope (top 44)) .none (fO (K21 p) 460).kwdefaults (fO (K21 p) 460).doc (fO (K21 p) 460).pyModule (fO (K21 p) 460).annotations (fO (K21 p) 460).code (fO (K21 p) 460).closureTuple
theorem fn_need_place : Fun (K21 p) "need_place" "need_place" (top 44) 460 (fd_need_place p) := ⟨⟨_, _, _, _, _, _, _, _, _, rfl, lk_need_place p, cd_need_place p⟩, kp_need_place p⟩
theorem bd_need_place : Binds (K21 p) (fd_need_place p) ["number", "many"] [] := (fn_need_place p).binds (ps := ["number", "many"]) fun _ _ _ _ _ _ us hl => match us, hl with | [_, _], _ => rfl
theorem kp_plain_rule : PySem.W.keepIn (K21 p) (.ref 465) = true := by kernel_rfl
theorem lk_plain_rule : (K21 p).lookup 465 = some ⟨(oO (K21 p) 465).cls, (oO (K21 p) 465).dict, .func (PySem.W.fnOf "plain_rule" "plain_rule" (defArgs (top 45)) (defBody (top 45)) (defScope (top 45)) .none (fO (K21 p) 465).kwdefaults (fO (K21 p) 465).doc (fO (K21 p) 465).pyModule (fO (K21 p) 465).annotations (fO (K21 p) 465).code (fO (K21 p) 465).closureTuple), (oO (K21 p) 465).slots⟩ := by kernel_rfl
theorem cd_plain_rule : PySem.W.codeIn (K21 p) (fO (K21 p) 465).code "plain_rule" = true := by kernel_rfl
noncomputable abbrev fd_plain_rule (p : Params) : FuncData := PySem.W.fnOf "plain_rule" "plain_rule" (defArgs (top 45)) (defBody (top 45)) (defScope (top 45)) .none (fO (K21 p) 465).kwdefaults (fO (K21 p) 465).doc (fO (K21 p) 465).pyModule (fO (K21 p) 465).annotations (fO (K21 p) 465).code (fO (K21 p) 465).closureTuple
theorem fn_plain_rule : Fun (K21 p) "plain_rule" "plain_rule" (top 45) 465 (fd_plain_rule p) := ⟨⟨_, _, _, _, _, _, _, _, _, rfl, lk_plain_rule p, cd_plain_rule p⟩, kp_plain_rule p⟩
theorem bd_plain_rule : Binds (K21 p) (fd_plain_rule p) ["rule"] [] := (fn_plain_rule p).binds (ps := ["rule"]) fun _ _ _ _ _ _ us hl => match us, hl with | [_], _ => rfl
theorem kp_facts_of : PySem.W.keepIn (K21 p) (.ref 472) = true := by kernel_rfl
theorem lk_facts_of : (K21 p).lookup 472 = some ⟨(oO (K21 p) 472).cls, (oO (K21 p) 472).dict, .func (PySem.W.fnOf "facts_of" "facts_of" (defArgs (top 46)) (defBody (top 46)) (defScope (top 46)) .none (fO (K21 p) 472).kwdefaults (fO (K21 p) 472).doc (fO (K21 p) 472).pyModule (fO (K21 p) 472).annotations (fO (K21 p) 472).code (fO (K21 p) 472).closureTuple), (oO (K21 p) 472).slots⟩ := by kernel_rfl
theorem cd_facts_of : PySem.W.codeIn (K21 p) (fO (K21 p) 472).code "facts_of" = true := by kernel_rfl
noncomputable abbrev fd_facts_of (p : Params) : FuncData := PySem.W.fnOf "facts_of" "facts_of" (defArgs (top 46)) (defBody (top 46)) (defScope (top 46)) .none (fO (K21 p) 472).kwdefaults (fO (K21 p) 472).doc (fO (K21 p) 472).pyModule (fO (K21 p) 472).annotations (fO (K21 p) 472).code (fO (K21 p) 472).closureTuple
theorem fn_facts_of : Fun (K21 p) "facts_of" "facts_of" (top 46) 472 (fd_facts_of p) := ⟨⟨_, _, _, _, _, _, _, _, _, rfl, lk_facts_of p, cd_facts_of p⟩, kp_facts_of p⟩
theorem bd_facts_of : Binds (K21 p) (fd_facts_of p) ["base", "first", "second"] [] := (fn_facts_of p).binds (ps := ["base", "first", "second"]) fun _ _ _ _ _ _ us hl => match us, hl with | [_, _, _], _ => rfl
theorem kp_holds : PySem.W.keepIn (K21 p) (.ref 479) = true := by kernel_rfl
theorem lk_holds : (K21 p).lookup 479 = some ⟨(oO (K21 p) 479).cls, (oO (K21 p) 479).dict, .func (PySem.W.fnOf "holds" "holds" (defArgs (top 47)) (defBody (top 47)) (defScope (top 47)) .none (fO (K21 p) 479).kwdefaults (fO (K21 p) 479).doc (fO (K21 p) 479).pyModule (fO (K21 p) 479).annotations (fO (K21 p) 479).code (fO (K21 p) 479).closureTuple), (oO (K21 p) 479).slots⟩ := by kernel_rfl
theorem cd_holds : PySem.W.codeIn (K21 p) (fO (K21 p) 479).code "holds" = true := by kernel_rfl
noncomputable abbrev fd_holds (p : Params) : FuncData := PySem.W.fnOf "holds" "holds" (defArgs (top 47)) (defBody (top 47)) (defScope (top 47)) .none (fO (K21 p) 479).kwdefaults (fO (K21 p) 479).doc (fO (K21 p) 479).pyModule (fO (K21 p) 479).annotations (fO (K21 p) 479).code (fO (K21 p) 479).closureTuple
theorem fn_holds : Fun (K21 p) "holds" "holds" (top 47) 479 (fd_holds p) := ⟨⟨_, _, _, _, _, _, _, _, _, rfl, lk_holds p, cd_holds p⟩, kp_holds p⟩
theorem bd_holds : Binds (K21 p) (fd_holds p) ["condition", "facts"] [] := (fn_holds p).binds (ps := ["condition", "facts"]) fun _ _ _ _ _ _ us hl => match us, hl with | [_, _], _ => rfl
theorem kp_first_applying : PySem.W.keepIn (K21 p) (.ref 484) = true := by kernel_rfl
theorem lk_first_applying : (K21 p).lookup 484 = some ⟨(oO (K21 p) 484).cls, (oO (K21 p) 484).dict, .func (PySem.W.fnOf "first_applying" "first_applying" (defArgs (top 48)) (defBody (top 48)) (defScope (top 48)) .none (fO (K21 p) 484).kwdefaults (fO (K21 p) 484).doc (fO (K21 p) 484).pyModule (fO (K21 p) 484).annotations (fO (K21 p) 484).code (fO (K21 p) 484).closureTuple), (oO (K21 p) 484).slots⟩ := by kernel_rfl
theorem cd_first_applying : PySem.W.codeIn (K21 p) (fO (K21 p) 484).code "first_applying" = true := by kernel_rfl
noncomputable abbrev fd_first_applying (p : Params) : FuncData := PySem.W.fnOf "first_applying" "first_applying" (defArgs (top 48)) (defBody (top 48)) (defScope (top 48)) .none (fO (K21 p) 484).kwdefaults (fO (K21 p) 484).doc (fO (K21 p) 484).pyModule (fO (K21 p) 484).annotations (fO (K21 p) 484).code (fO (K21 p) 484).closureTuple
theorem fn_first_applying : Fun (K21 p) "first_applying" "first_applying" (top 48) 484 (fd_first_applying p) := ⟨⟨_, _, _, _, _, _, _, _, _, rfl, lk_first_applying p, cd_first_applying p⟩, kp_first_applying p⟩
theorem bd_first_applying : Binds (K21 p) (fd_first_applying p) ["rules", "facts"] [] := (fn_first_applying p).binds (ps := ["rules", "facts"]) fun _ _ _ _ _ _ us hl => match us, hl with | [_, _], _ => rfl
theorem kp_many_kept : PySem.W.keepIn (K21 p) (.ref 491) = true := by kernel_rfl
theorem lk_many_kept : (K21 p).lookup 491 = some ⟨(oO (K21 p) 491).cls, (oO (K21 p) 491).dict, .func (PySem.W.fnOf "many_kept" "many_kept" (defArgs (top 49)) (defBody (top 49)) (defScope (top 49)) .none (fO (K21 p) 491).kwdefaults (fO (K21 p) 491).doc (fO (K21 p) 491).pyModule (fO (K21 p) 491).annotations (fO (K21 p) 491).code (fO (K21 p) 491).closureTuple), (oO (K21 p) 491).slots⟩ := by kernel_rfl
theorem cd_many_kept : PySem.W.codeIn (K21 p) (fO (K21 p) 491).code "many_kept" = true := by kernel_rfl
noncomputable abbrev fd_many_kept (p : Params) : FuncData := PySem.W.fnOf "many_kept" "many_kept" (defArgs (top 49)) (defBody (top 49)) (defScope (top 49)) .none (fO (K21 p) 491).kwdefaults (fO (K21 p) 491).doc (fO (K21 p) 491).pyModule (fO (K21 p) 491).annotations (fO (K21 p) 491).code (fO (K21 p) 491).closureTuple
theorem fn_many_kept : Fun (K21 p) "many_kept" "many_kept" (top 49) 491 (fd_many_kept p) := ⟨⟨_, _, _, _, _, _, _, _, _, rfl, lk_many_kept p, cd_many_kept p⟩, kp_many_kept p⟩
theorem bd_many_kept : Binds (K21 p) (fd_many_kept p) ["keep", "facts"] [] := (fn_many_kept p).binds (ps := ["keep", "facts"]) fun _ _ _ _ _ _ us hl => match us, hl with | [_, _], _ => rfl
theorem kp_written : PySem.W.keepIn (K21 p) (.ref 498) = true := by kernel_rfl
theorem lk_written : (K21 p).lookup 498 = some ⟨(oO (K21 p) 498).cls, (oO (K21 p) 498).dict, .func (PySem.W.fnOf "written" "written" (defArgs (top 50)) (defBody (top 50)) (defScope (top 50)) .none (fO (K21 p) 498).kwdefaults (fO (K21 p) 498).doc (fO (K21 p) 498).pyModule (fO (K21 p) 498).annotations (fO (K21 p) 498).code (fO (K21 p) 498).closureTuple), (oO (K21 p) 498).slots⟩ := by kernel_rfl
theorem cd_written : PySem.W.codeIn (K21 p) (fO (K21 p) 498).code "written" = true := by kernel_rfl
noncomputable abbrev fd_written (p : Params) : FuncData := PySem.W.fnOf "written" "written" (defArgs (top 50)) (defBody (top 50)) (defScope (top 50)) .none (fO (K21 p) 498).kwdefaults (fO (K21 p) 498).doc (fO (K21 p) 498).pyModule (fO (K21 p) 498).annotations (fO (K21 p) 498).code (fO (K21 p) 498).closureTuple
theorem fn_written : Fun (K21 p) "written" "written" (top 50) 498 (fd_written p) := ⟨⟨_, _, _, _, _, _, _, _, _, rfl, lk_written p, cd_written p⟩, kp_written p⟩
theorem bd_written : Binds (K21 p) (fd_written p) ["rules", "facts"] [] := (fn_written p).binds (ps := ["rules", "facts"]) fun _ _ _ _ _ _ us hl => match us, hl with | [_, _], _ => rfl
theorem kp_lasts_of : PySem.W.keepIn (K21 p) (.ref 632) = true := by kernel_rfl
theorem lk_lasts_of : (K21 p).lookup 632 = some ⟨(oO (K21 p) 632).cls, (oO (K21 p) 632).dict, .func (PySem.W.fnOf "lasts_of" "lasts_of" (defArgs (top 53)) (defBody (top 53)) (defScope (top 53)) .none (fO (K21 p) 632).kwdefaults (fO (K21 p) 632).doc (fO (K21 p) 632).pyModule (fO (K21 p) 632).annotations (fO (K21 p) 632).code (fO (K21 p) 632).closureTuple), (oO (K21 p) 632).slots⟩ := by kernel_rfl
theorem cd_lasts_of : PySem.W.codeIn (K21 p) (fO (K21 p) 632).code "lasts_of" = true := by kernel_rfl
noncomputable abbrev fd_lasts_of (p : Params) : FuncData := PySem.W.fnOf "lasts_of" "lasts_of" (defArgs (top 53)) (defBody (top 53)) (defScope (top 53)) .none (fO (K21 p) 632).kwdefaults (fO (K21 p) 632).doc (fO (K21 p) 632).pyModule (fO (K21 p) 632).annotations (fO (K21 p) 632).code (fO (K21 p) 632).closureTuple
theorem fn_lasts_of : Fun (K21 p) "lasts_of" "lasts_of" (top 53) 632 (fd_lasts_of p) := ⟨⟨_, _, _, _, _, _, _, _, _, rfl, lk_lasts_of p, cd_lasts_of p⟩, kp_lasts_of p⟩
theorem bd_lasts_of : Binds (K21 p) (fd_lasts_of p) ["base", "first", "most"] [] := (fn_lasts_of p).binds (ps := ["base", "first", "most"]) fun _ _ _ _ _ _ us hl => match us, hl with | [_, _, _], _ => rfl
theorem kp_stretches : PySem.W.keepIn (K21 p) (.ref 639) = true := by kernel_rfl
theorem lk_stretches : (K21 p).lookup 639 = some ⟨(oO (K21 p) 639).cls, (oO (K21 p) 639).dict, .func (PySem.W.fnOf "stretches" "stretches" (defArgs (top 54)) (defBody (top 54)) (defScope (top 54)) .none (fO (K21 p) 639).kwdefaults (fO (K21 p) 639).doc (fO (K21 p) 639).pyModule (fO (K21 p) 639).annotations (fO (K21 p) 639).code (fO (K21 p) 639).closureTuple), (oO (K21 p) 639).slots⟩ := by kernel_rfl
theorem cd_stretches : PySem.W.codeIn (K21 p) (fO (K21 p) 639).code "stretches" = true := by kernel_rfl
noncomputable abbrev fd_stretches (p : Params) : FuncData := PySem.W.fnOf "stretches" "stretches" (defArgs (top 54)) (defBody (top 54)) (defScope (top 54)) .none (fO (K21 p) 639).kwdefaults (fO (K21 p) 639).doc (fO (K21 p) 639).pyModule (fO (K21 p) 639).annotations (fO (K21 p) 639).code (fO (K21 p) 639).closureTuple
theorem fn_stretches : Fun (K21 p) "stretches" "stretches" (top 54) 639 (fd_stretches p) := ⟨⟨_, _, _, _, _, _, _, _, _, rfl, lk_stretches p, cd_stretches p⟩, kp_stretches p⟩
theorem bd_stretches : Binds (K21 p) (fd_stretches p) ["style", "first", "most"] [] := (fn_stretches p).binds (ps := ["style", "first", "most"]) fun _ _ _ _ _ _ us hl => match us, hl with | [_, _, _], _ => rfl
theorem kp_total : PySem.W.keepIn (K21 p) (.ref 646) = true := by kernel_rfl
theorem lk_total : (K21 p).lookup 646 = some ⟨(oO (K21 p) 646).cls, (oO (K21 p) 646).dict, .func (PySem.W.fnOf "total" "total" (defArgs (top 55)) (defBody (top 55)) (defScope (top 55)) .none (fO (K21 p) 646).kwdefaults (fO (K21 p) 646).doc (fO (K21 p) 646).pyModule (fO (K21 p) 646).annotations (fO (K21 p) 646).code (fO (K21 p) 646).closureTuple), (oO (K21 p) 646).slots⟩ := by kernel_rfl
theorem cd_total : PySem.W.codeIn (K21 p) (fO (K21 p) 646).code "total" = true := by kernel_rfl
noncomputable abbrev fd_total (p : Params) : FuncData := PySem.W.fnOf "total" "total" (defArgs (top 55)) (defBody (top 55)) (defScope (top 55)) .none (fO (K21 p) 646).kwdefaults (fO (K21 p) 646).doc (fO (K21 p) 646).pyModule (fO (K21 p) 646).annotations (fO (K21 p) 646).code (fO (K21 p) 646).closureTuple
theorem fn_total : Fun (K21 p) "total" "total" (top 55) 646 (fd_total p) := ⟨⟨_, _, _, _, _, _, _, _, _, rfl, lk_total p, cd_total p⟩, kp_total p⟩
theorem bd_total : Binds (K21 p) (fd_total p) ["style", "first", "most"] [] := (fn_total p).binds (ps := ["style", "first", "most"]) fun _ _ _ _ _ _ us hl => match us, hl with | [_, _, _], _ => rfl
theorem kp_l_mixed : PySem.W.keepIn (K21 p) (.ref 653) = true := by kernel_rfl
theorem lk_l_mixed : (K21 p).lookup 653 = some ⟨(oO (K21 p) 653).cls, (oO (K21 p) 653).dict, .func (PySem.W.fnOf "_law_mixed" "_law_mixed" (defArgs (top 57)) (defBody (top 57)) (defScope (top 57)) .none (fO (K21 p) 653).kwdefaults (fO (K21 p) 653).doc (fO (K21 p) 653).pyModule (fO (K21 p) 653).annotations (fO (K21 p) 653).code (fO (K21 p) 653).closureTuple), (oO (K21 p) 653).slots⟩ := by kernel_rfl
theorem cd_l_mixed : PySem.W.codeIn (K21 p) (fO (K21 p) 653).code "_law_mixed" = true := by kernel_rfl
noncomputable abbrev fd_l_mixed (p : Params) : FuncData := PySem.W.fnOf "_law_mixed" "_law_mixed" (defArgs (top 57)) (defBody (top 57)) (defScope (top 57)) .none (fO (K21 p) 653).kwdefaults (fO (K21 p) 653).doc (fO (K21 p) 653).pyModule (fO (K21 p) 653).annotations (fO (K21 p) 653).code (fO (K21 p) 653).closureTuple
theorem fn_l_mixed : Fun (K21 p) "_law_mixed" "_law_mixed" (top 57) 653 (fd_l_mixed p) := ⟨⟨_, _, _, _, _, _, _, _, _, rfl, lk_l_mixed p, cd_l_mixed p⟩, kp_l_mixed p⟩
theorem bd_l_mixed : Binds (K21 p) (fd_l_mixed p) ["cell", "k"] [] := (fn_l_mixed p).binds (ps := ["cell", "k"]) fun _ _ _ _ _ _ us hl => match us, hl with | [_, _], _ => rfl
theorem kp_l_begin : PySem.W.keepIn (K21 p) (.ref 658) = true := by kernel_rfl
theorem lk_l_begin : (K21 p).lookup 658 = some ⟨(oO (K21 p) 658).cls, (oO (K21 p) 658).dict, .func (PySem.W.fnOf "_law_begin" "_law_begin" (defArgs (top 58)) (defBody (top 58)) (defScope (top 58)) .none (fO (K21 p) 658).kwdefaults (fO (K21 p) 658).doc (fO (K21 p) 658).pyModule (fO (K21 p) 658).annotations (fO (K21 p) 658).code (fO (K21 p) 658).closureTuple), (oO (K21 p) 658).slots⟩ := by kernel_rfl
theorem cd_l_begin : PySem.W.codeIn (K21 p) (fO (K21 p) 658).code "_law_begin" = true := by kernel_rfl
noncomputable abbrev fd_l_begin (p : Params) : FuncData := PySem.W.fnOf "_law_begin" "_law_begin" (defArgs (top 58)) (defBody (top 58)) (defScope (top 58)) .none (fO (K21 p) 658).kwdefaults (fO (K21 p) 658).doc (fO (K21 p) 658).pyModule (fO (K21 p) 658).annotations (fO (K21 p) 658).code (fO (K21 p) 658).closureTuple
theorem fn_l_begin : Fun (K21 p) "_law_begin" "_law_begin" (top 58) 658 (fd_l_begin p) := ⟨⟨_, _, _, _, _, _, _, _, _, rfl, lk_l_begin p, cd_l_begin p⟩, kp_l_begin p⟩
theorem bd_l_begin : Binds (K21 p) (fd_l_begin p) ["script"] [] := (fn_l_begin p).binds (ps := ["script"]) fun _ _ _ _ _ _ us hl => match us, hl with | [_], _ => rfl
theorem kp_l_draw : PySem.W.keepIn (K21 p) (.ref 665) = true := by kernel_rfl
theorem lk_l_draw : (K21 p).lookup 665 = some ⟨(oO (K21 p) 665).cls, (oO (K21 p) 665).dict, .func (PySem.W.fnOf "_law_draw" "_law_draw" (defArgs (top 59)) (defBody (top 59)) (defScope (top 59)) .none (fO (K21 p) 665).kwdefaults (fO (K21 p) 665).doc (fO (K21 p) 665).pyModule (fO (K21 p) 665).annotations (fO (K21 p) 665).code (fO (K21 p) 665).closureTuple), (oO (K21 p) 665).slots⟩ := by kernel_rfl
theorem cd_l_draw : PySem.W.codeIn (K21 p) (fO (K21 p) 665).code "_law_draw" = true := by kernel_rfl
noncomputable abbrev fd_l_draw (p : Params) : FuncData := PySem.W.fnOf "_law_draw" "_law_draw" (defArgs (top 59)) (defBody (top 59)) (defScope (top 59)) .none (fO (K21 p) 665).kwdefaults (fO (K21 p) 665).doc (fO (K21 p) 665).pyModule (fO (K21 p) 665).annotations (fO (K21 p) 665).code (fO (K21 p) 665).closureTuple
theorem fn_l_draw : Fun (K21 p) "_law_draw" "_law_draw" (top 59) 665 (fd_l_draw p) := ⟨⟨_, _, _, _, _, _, _, _, _, rfl, lk_l_draw p, cd_l_draw p⟩, kp_l_draw p⟩
theorem bd_l_draw : Binds (K21 p) (fd_l_draw p) ["state", "many"] [] := (fn_l_draw p).binds (ps := ["state", "many"]) fun _ _ _ _ _ _ us hl => match us, hl with | [_, _], _ => rfl
theorem kp_l_of : PySem.W.keepIn (K21 p) (.ref 672) = true := by kernel_rfl
theorem lk_l_of : (K21 p).lookup 672 = some ⟨(oO (K21 p) 672).cls, (oO (K21 p) 672).dict, .func (PySem.W.fnOf "_law_of" "_law_of" (defArgs (top 60)) (defBody (top 60)) (defScope (top 60)) .none (fO (K21 p) 672).kwdefaults (fO (K21 p) 672).doc (fO (K21 p) 672).pyModule (fO (K21 p) 672).annotations (fO (K21 p) 672).code (fO (K21 p) 672).closureTuple), (oO (K21 p) 672).slots⟩ := by kernel_rfl
theorem cd_l_of : PySem.W.codeIn (K21 p) (fO (K21 p) 672).code "_law_of" = true := by kernel_rfl
noncomputable abbrev fd_l_of (p : Params) : FuncData := PySem.W.fnOf "_law_of" "_law_of" (defArgs (top 60)) (defBody (top 60)) (defScope (top 60)) .none (fO (K21 p) 672).kwdefaults (fO (K21 p) 672).doc (fO (K21 p) 672).pyModule (fO (K21 p) 672).annotations (fO (K21 p) 672).code (fO (K21 p) 672).closureTuple
theorem fn_l_of : Fun (K21 p) "_law_of" "_law_of" (top 60) 672 (fd_l_of p) := ⟨⟨_, _, _, _, _, _, _, _, _, rfl, lk_l_of p, cd_l_of p⟩, kp_l_of p⟩
theorem bd_l_of : Binds (K21 p) (fd_l_of p) ["state", "some"] [] := (fn_l_of p).binds (ps := ["state", "some"]) fun _ _ _ _ _ _ us hl => match us, hl with | [_, _], _ => rfl
theorem kp_l_raised : PySem.W.keepIn (K21 p) (.ref 679) = true := by kernel_rfl
theorem lk_l_raised : (K21 p).lookup 679 = some ⟨(oO (K21 p) 679).cls, (oO (K21 p) 679).dict, .func (PySem.W.fnOf "_law_raised" "_law_raised" (defArgs (top 61)) (defBody (top 61)) (defScope (top 61)) .none (fO (K21 p) 679).kwdefaults (fO (K21 p) 679).doc (fO (K21 p) 679).pyModule (fO (K21 p) 679).annotations (fO (K21 p) 679).code (fO (K21 p) 679).closureTuple), (oO (K21 p) 679).slots⟩ := by kernel_rfl
theorem cd_l_raised : PySem.W.codeIn (K21 p) (fO (K21 p) 679).code "_law_raised" = true := by kernel_rfl
noncomputable abbrev fd_l_raised (p : Params) : FuncData := PySem.W.fnOf "_law_raised" "_law_raised" (defArgs (top 61)) (defBody (top 61)) (defScope (top 61)) .none (fO (K21 p) 679).kwdefaults (fO (K21 p) 679).doc (fO (K21 p) 679).pyModule (fO (K21 p) 679).annotations (fO (K21 p) 679).code (fO (K21 p) 679).closureTuple
theorem fn_l_raised : Fun (K21 p) "_law_raised" "_law_raised" (top 61) 679 (fd_l_raised p) := ⟨⟨_, _, _, _, _, _, _, _, _, rfl, lk_l_raised p, cd_l_raised p⟩, kp_l_raised p⟩
theorem bd_l_raised : Binds (K21 p) (fd_l_raised p) ["asked"] [] := (fn_l_raised p).binds (ps := ["asked"]) fun _ _ _ _ _ _ us hl => match us, hl with | [_], _ => rfl
theorem kp_l_digits : PySem.W.keepIn (K21 p) (.ref 686) = true := by kernel_rfl
theorem lk_l_digits : (K21 p).lookup 686 = some ⟨(oO (K21 p) 686).cls, (oO (K21 p) 686).dict, .func (PySem.W.fnOf "_law_digits" "_law_digits" (defArgs (top 62)) (defBody (top 62)) (defScope (top 62)) .none (fO (K21 p) 686).kwdefaults (fO (K21 p) 686).doc (fO (K21 p) 686).pyModule (fO (K21 p) 686).annotations (fO (K21 p) 686).code (fO (K21 p) 686).closureTuple), (oO (K21 p) 686).slots⟩ := by kernel_rfl
theorem cd_l_digits : PySem.W.codeIn (K21 p) (fO (K21 p) 686).code "_law_digits" = true := by kernel_rfl
noncomputable abbrev fd_l_digits (p : Params) : FuncData := PySem.W.fnOf "_law_digits" "_law_digits" (defArgs (top 62)) (defBody (top 62)) (defScope (top 62)) .none (fO (K21 p) 686).kwdefaults (fO (K21 p) 686).doc (fO (K21 p) 686).pyModule (fO (K21 p) 686).annotations (fO (K21 p) 686).code (fO (K21 p) 686).closureTuple
theorem fn_l_digits : Fun (K21 p) "_law_digits" "_law_digits" (top 62) 686 (fd_l_digits p) := ⟨⟨_, _, _, _, _, _, _, _, _, rfl, lk_l_digits p, cd_l_digits p⟩, kp_l_digits p⟩
theorem bd_l_digits : Binds (K21 p) (fd_l_digits p) ["base", "number"] [] := (fn_l_digits p).binds (ps := ["base", "number"]) fun _ _ _ _ _ _ us hl => match us, hl with | [_, _], _ => rfl
theorem kp_l_power : PySem.W.keepIn (K21 p) (.ref 693) = true := by kernel_rfl
theorem lk_l_power : (K21 p).lookup 693 = some ⟨(oO (K21 p) 693).cls, (oO (K21 p) 693).dict, .func (PySem.W.fnOf "_law_power" "_law_power" (defArgs (top 63)) (defBody (top 63)) (defScope (top 63)) .none (fO (K21 p) 693).kwdefaults (fO (K21 p) 693).doc (fO (K21 p) 693).pyModule (fO (K21 p) 693).annotations (fO (K21 p) 693).code (fO (K21 p) 693).closureTuple), (oO (K21 p) 693).slots⟩ := by kernel_rfl
theorem cd_l_power : PySem.W.codeIn (K21 p) (fO (K21 p) 693).code "_law_power" = true := by kernel_rfl
noncomputable abbrev fd_l_power (p : Params) : FuncData := PySem.W.fnOf "_law_power" "_law_power" (defArgs (top 63)) (defBody (top 63)) (defScope (top 63)) .none (fO (K21 p) 693).kwdefaults (fO (K21 p) 693).doc (fO (K21 p) 693).pyModule (fO (K21 p) 693).annotations (fO (K21 p) 693).code (fO (K21 p) 693).closureTuple
theorem fn_l_power : Fun (K21 p) "_law_power" "_law_power" (top 63) 693 (fd_l_power p) := ⟨⟨_, _, _, _, _, _, _, _, _, rfl, lk_l_power p, cd_l_power p⟩, kp_l_power p⟩
theorem bd_l_power : Binds (K21 p) (fd_l_power p) ["base", "many"] [] := (fn_l_power p).binds (ps := ["base", "many"]) fun _ _ _ _ _ _ us hl => match us, hl with | [_, _], _ => rfl
theorem kp_l_changed : PySem.W.keepIn (K21 p) (.ref 700) = true := by kernel_rfl
theorem lk_l_changed : (K21 p).lookup 700 = some ⟨(oO (K21 p) 700).cls, (oO (K21 p) 700).dict, .func (PySem.W.fnOf "_law_changed" "_law_changed" (defArgs (top 64)) (defBody (top 64)) (defScope (top 64)) .none (fO (K21 p) 700).kwdefaults (fO (K21 p) 700).doc (fO (K21 p) 700).pyModule (fO (K21 p) 700).annotations (fO (K21 p) 700).code (fO (K21 p) 700).closureTuple), (oO (K21 p) 700).slots⟩ := by kernel_rfl
theorem cd_l_changed : PySem.W.codeIn (K21 p) (fO (K21 p) 700).code "_law_changed" = true := by kernel_rfl
noncomputable abbrev fd_l_changed (p : Params) : FuncData := PySem.W.fnOf "_law_changed" "_law_changed" (defArgs (top 64)) (defBody (top 64)) (defScope (top 64)) .none (fO (K21 p) 700).kwdefaults (fO (K21 p) 700).doc (fO (K21 p) 700).pyModule (fO (K21 p) 700).annotations (fO (K21 p) 700).code (fO (K21 p) 700).closureTuple
theorem fn_l_changed : Fun (K21 p) "_law_changed" "_law_changed" (top 64) 700 (fd_l_changed p) := ⟨⟨_, _, _, _, _, _, _, _, _, rfl, lk_l_changed p, cd_l_changed p⟩, kp_l_changed p⟩
theorem bd_l_changed : Binds (K21 p) (fd_l_changed p) ["base", "first", "second"] [] := (fn_l_changed p).binds (ps := ["base", "first", "second"]) fun _ _ _ _ _ _ us hl => match us, hl with | [_, _, _], _ => rfl
theorem kp_l_holds : PySem.W.keepIn (K21 p) (.ref 707) = true := by kernel_rfl
theorem lk_l_holds : (K21 p).lookup 707 = some ⟨(oO (K21 p) 707).cls, (oO (K21 p) 707).dict, .func (PySem.W.fnOf "_law_holds" "_law_holds" (defArgs (top 65)) (defBody (top 65)) (defScope (top 65)) .none (fO (K21 p) 707).kwdefaults (fO (K21 p) 707).doc (fO (K21 p) 707).pyModule (fO (K21 p) 707).annotations (fO (K21 p) 707).code (fO (K21 p) 707).closureTuple), (oO (K21 p) 707).slots⟩ := by kernel_rfl
theorem cd_l_holds : PySem.W.codeIn (K21 p) (fO (K21 p) 707).code "_law_holds" = true := by kernel_rfl
noncomputable abbrev fd_l_holds (p : Params) : FuncData := PySem.W.fnOf "_law_holds" "_law_holds" (defArgs (top 65)) (defBody (top 65)) (defScope (top 65)) .none (fO (K21 p) 707).kwdefaults (fO (K21 p) 707).doc (fO (K21 p) 707).pyModule (fO (K21 p) 707).annotations (fO (K21 p) 707).code (fO (K21 p) 707).closureTuple
theorem fn_l_holds : Fun (K21 p) "_law_holds" "_law_holds" (top 65) 707 (fd_l_holds p) := ⟨⟨_, _, _, _, _, _, _, _, _, rfl, lk_l_holds p, cd_l_holds p⟩, kp_l_holds p⟩
theorem bd_l_holds : Binds (K21 p) (fd_l_holds p) ["base", "condition", "first", "second"] [] := (fn_l_holds p).binds (ps := ["base", "condition", "first", "second"]) fun _ _ _ _ _ _ us hl => match us, hl with | [_, _, _, _], _ => rfl
theorem kp_l_rule : PySem.W.keepIn (K21 p) (.ref 712) = true := by kernel_rfl
theorem lk_l_rule : (K21 p).lookup 712 = some ⟨(oO (K21 p) 712).cls, (oO (K21 p) 712).dict, .func (PySem.W.fnOf "_law_rule" "_law_rule" (defArgs (top 66)) (defBody (top 66)) (defScope (top 66)) .none (fO (K21 p) 712).kwdefaults (fO (K21 p) 712).doc (fO (K21 p) 712).pyModule (fO (K21 p) 712).annotations (fO (K21 p) 712).code (fO (K21 p) 712).closureTuple), (oO (K21 p) 712).slots⟩ := by kernel_rfl
theorem cd_l_rule : PySem.W.codeIn (K21 p) (fO (K21 p) 712).code "_law_rule" = true := by kernel_rfl
noncomputable abbrev fd_l_rule (p : Params) : FuncData := PySem.W.fnOf "_law_rule" "_law_rule" (defArgs (top 66)) (defBody (top 66)) (defScope (top 66)) .none (fO (K21 p) 712).kwdefaults (fO (K21 p) 712).doc (fO (K21 p) 712).pyModule (fO (K21 p) 712).annotations (fO (K21 p) 712).code (fO (K21 p) 712).closureTuple
theorem fn_l_rule : Fun (K21 p) "_law_rule" "_law_rule" (top 66) 712 (fd_l_rule p) := ⟨⟨_, _, _, _, _, _, _, _, _, rfl, lk_l_rule p, cd_l_rule p⟩, kp_l_rule p⟩
theorem bd_l_rule : Binds (K21 p) (fd_l_rule p) ["base", "rules", "first", "second"] [] := (fn_l_rule p).binds (ps := ["base", "rules", "first", "second"]) fun _ _ _ _ _ _ us hl => match us, hl with | [_, _, _, _], _ => rfl
theorem kp_l_kept_by : PySem.W.keepIn (K21 p) (.ref 719) = true := by kernel_rfl
theorem lk_l_kept_by : (K21 p).lookup 719 = some ⟨(oO (K21 p) 719).cls, (oO (K21 p) 719).dict, .func (PySem.W.fnOf "_law_kept_by" "_law_kept_by" (defArgs (top 67)) (defBody (top 67)) (defScope (top 67)) .none (fO (K21 p) 719).kwdefaults (fO (K21 p) 719).doc (fO (K21 p) 719).pyModule (fO (K21 p) 719).annotations (fO (K21 p) 719).code (fO (K21 p) 719).closureTuple), (oO (K21 p) 719).slots⟩ := by kernel_rfl
theorem cd_l_kept_by : PySem.W.codeIn (K21 p) (fO (K21 p) 719).code "_law_kept_by" = true := by kernel_rfl
noncomputable abbrev fd_l_kept_by (p : Params) : FuncData := PySem.W.fnOf "_law_kept_by" "_law_kept_by" (defArgs (top 67)) (defBody (top 67)) (defScope (top 67)) .none (fO (K21 p) 719).kwdefaults (fO (K21 p) 719).doc (fO (K21 p) 719).pyModule (fO (K21 p) 719).annotations (fO (K21 p) 719).code (fO (K21 p) 719).closureTuple
theorem fn_l_kept_by : Fun (K21 p) "_law_kept_by" "_law_kept_by" (top 67) 719 (fd_l_kept_by p) := ⟨⟨_, _, _, _, _, _, _, _, _, rfl, lk_l_kept_by p, cd_l_kept_by p⟩, kp_l_kept_by p⟩
theorem bd_l_kept_by : Binds (K21 p) (fd_l_kept_by p) ["base", "keep", "first", "second"] [] := (fn_l_kept_by p).binds (ps := ["base", "keep", "first", "second"]) fun _ _ _ _ _ _ us hl => match us, hl with | [_, _, _, _], _ => rfl
theorem kp_l_condition : PySem.W.keepIn (K21 p) (.ref 726) = true := by kernel_rfl
theorem lk_l_condition : (K21 p).lookup 726 = some ⟨(oO (K21 p) 726).cls, (oO (K21 p) 726).dict, .func (PySem.W.fnOf "_law_condition" "_law_condition" (defArgs (top 68)) (defBody (top 68)) (defScope (top 68)) .none (fO (K21 p) 726).kwdefaults (fO (K21 p) 726).doc (fO (K21 p) 726).pyModule (fO (K21 p) 726).annotations (fO (K21 p) 726).code (fO (K21 p) 726).closureTuple), (oO (K21 p) 726).slots⟩ := by kernel_rfl
theorem cd_l_condition : PySem.W.codeIn (K21 p) (fO (K21 p) 726).code "_law_condition" = true := by kernel_rfl
noncomputable abbrev fd_l_condition (p : Params) : FuncData := PySem.W.fnOf "_law_condition" "_law_condition" (defArgs (top 68)) (defBody (top 68)) (defScope (top 68)) .none (fO (K21 p) 726).kwdefaults (fO (K21 p) 726).doc (fO (K21 p) 726).pyModule (fO (K21 p) 726).annotations (fO (K21 p) 726).code (fO (K21 p) 726).closureTuple
theorem fn_l_condition : Fun (K21 p) "_law_condition" "_law_condition" (top 68) 726 (fd_l_condition p) := ⟨⟨_, _, _, _, _, _, _, _, _, rfl, lk_l_condition p, cd_l_condition p⟩, kp_l_condition p⟩
theorem bd_l_condition : Binds (K21 p) (fd_l_condition p) ["state", "base", "most"] [] := (fn_l_condition p).binds (ps := ["state", "base", "most"]) fun _ _ _ _ _ _ us hl => match us, hl with | [_, _, _], _ => rfl
theorem kp_l_keep : PySem.W.keepIn (K21 p) (.ref 733) = true := by kernel_rfl
theorem lk_l_keep : (K21 p).lookup 733 = some ⟨(oO (K21 p) 733).cls, (oO (K21 p) 733).dict, .func (PySem.W.fnOf "_law_keep" "_law_keep" (defArgs (top 69)) (defBody (top 69)) (defScope (top 69)) .none (fO (K21 p) 733).kwdefaults (fO (K21 p) 733).doc (fO (K21 p) 733).pyModule (fO (K21 p) 733).annotations (fO (K21 p) 733).code (fO (K21 p) 733).closureTuple), (oO (K21 p) 733).slots⟩ := by kernel_rfl
theorem cd_l_keep : PySem.W.codeIn (K21 p) (fO (K21 p) 733).code "_law_keep" = true := by kernel_rfl
noncomputable abbrev fd_l_keep (p : Params) : FuncData := PySem.W.fnOf "_law_keep" "_law_keep" (defArgs (top 69)) (defBody (top 69)) (defScope (top 69)) .none (fO (K21 p) 733).kwdefaults (fO (K21 p) 733).doc (fO (K21 p) 733).pyModule (fO (K21 p) 733).annotations (fO (K21 p) 733).code (fO (K21 p) 733).closureTuple
theorem fn_l_keep : Fun (K21 p) "_law_keep" "_law_keep" (top 69) 733 (fd_l_keep p) := ⟨⟨_, _, _, _, _, _, _, _, _, rfl, lk_l_keep p, cd_l_keep p⟩, kp_l_keep p⟩
theorem bd_l_keep : Binds (K21 p) (fd_l_keep p) ["state", "most"] [] := (fn_l_keep p).binds (ps := ["state", "most"]) fun _ _ _ _ _ _ us hl => match us, hl with | [_, _], _ => rfl
theorem kp_l_rules : PySem.W.keepIn (K21 p) (.ref 738) = true := by kernel_rfl
theorem lk_l_rules : (K21 p).lookup 738 = some ⟨(oO (K21 p) 738).cls, (oO (K21 p) 738).dict, .func (PySem.W.fnOf "_law_rules" "_law_rules" (defArgs (top 70)) (defBody (top 70)) (defScope (top 70)) .none (fO (K21 p) 738).kwdefaults (fO (K21 p) 738).doc (fO (K21 p) 738).pyModule (fO (K21 p) 738).annotations (fO (K21 p) 738).code (fO (K21 p) 738).closureTuple), (oO (K21 p) 738).slots⟩ := by kernel_rfl
theorem cd_l_rules : PySem.W.codeIn (K21 p) (fO (K21 p) 738).code "_law_rules" = true := by kernel_rfl
noncomputable abbrev fd_l_rules (p : Params) : FuncData := PySem.W.fnOf "_law_rules" "_law_rules" (defArgs (top 70)) (defBody (top 70)) (defScope (top 70)) .none (fO (K21 p) 738).kwdefaults (fO (K21 p) 738).doc (fO (K21 p) 738).pyModule (fO (K21 p) 738).annotations (fO (K21 p) 738).code (fO (K21 p) 738).closureTuple
theorem fn_l_rules : Fun (K21 p) "_law_rules" "_law_rules" (top 70) 738 (fd_l_rules p) := ⟨⟨_, _, _, _, _, _, _, _, _, rfl, lk_l_rules p, cd_l_rules p⟩, kp_l_rules p⟩
theorem bd_l_rules : Binds (K21 p) (fd_l_rules p) ["state", "base", "most", "many"] [] := (fn_l_rules p).binds (ps := ["state", "base", "most", "many"]) fun _ _ _ _ _ _ us hl => match us, hl with | [_, _, _, _], _ => rfl
theorem kp_l_due : PySem.W.keepIn (K21 p) (.ref 745) = true := by kernel_rfl
theorem lk_l_due : (K21 p).lookup 745 = some ⟨(oO (K21 p) 745).cls, (oO (K21 p) 745).dict, .func (PySem.W.fnOf "_law_due" "_law_due" (defArgs (top 71)) (defBody (top 71)) (defScope (top 71)) .none (fO (K21 p) 745).kwdefaults (fO (K21 p) 745).doc (fO (K21 p) 745).pyModule (fO (K21 p) 745).annotations (fO (K21 p) 745).code (fO (K21 p) 745).closureTuple), (oO (K21 p) 745).slots⟩ := by kernel_rfl
theorem cd_l_due : PySem.W.codeIn (K21 p) (fO (K21 p) 745).code "_law_due" = true := by kernel_rfl
noncomputable abbrev fd_l_due (p : Params) : FuncData := PySem.W.fnOf "_law_due" "_law_due" (defArgs (top 71)) (defBody (top 71)) (defScope (top 71)) .none (fO (K21 p) 745).kwdefaults (fO (K21 p) 745).doc (fO (K21 p) 745).pyModule (fO (K21 p) 745).annotations (fO (K21 p) 745).code (fO (K21 p) 745).closureTuple
theorem fn_l_due : Fun (K21 p) "_law_due" "_law_due" (top 71) 745 (fd_l_due p) := ⟨⟨_, _, _, _, _, _, _, _, _, rfl, lk_l_due p, cd_l_due p⟩, kp_l_due p⟩
theorem bd_l_due : Binds (K21 p) (fd_l_due p) ["base", "rules", "first", "most"] [] := (fn_l_due p).binds (ps := ["base", "rules", "first", "most"]) fun _ _ _ _ _ _ us hl => match us, hl with | [_, _, _, _], _ => rfl
theorem kp_l_sum : PySem.W.keepIn (K21 p) (.ref 752) = true := by kernel_rfl
theorem lk_l_sum : (K21 p).lookup 752 = some ⟨(oO (K21 p) 752).cls, (oO (K21 p) 752).dict, .func (PySem.W.fnOf "_law_sum" "_law_sum" (defArgs (top 72)) (defBody (top 72)) (defScope (top 72)) .none (fO (K21 p) 752).kwdefaults (fO (K21 p) 752).doc (fO (K21 p) 752).pyModule (fO (K21 p) 752).annotations (fO (K21 p) 752).code (fO (K21 p) 752).closureTuple), (oO (K21 p) 752).slots⟩ := by kernel_rfl
theorem cd_l_sum : PySem.W.codeIn (K21 p) (fO (K21 p) 752).code "_law_sum" = true := by kernel_rfl
noncomputable abbrev fd_l_sum (p : Params) : FuncData := PySem.W.fnOf "_law_sum" "_law_sum" (defArgs (top 72)) (defBody (top 72)) (defScope (top 72)) .none (fO (K21 p) 752).kwdefaults (fO (K21 p) 752).doc (fO (K21 p) 752).pyModule (fO (K21 p) 752).annotations (fO (K21 p) 752).code (fO (K21 p) 752).closureTuple
theorem fn_l_sum : Fun (K21 p) "_law_sum" "_law_sum" (top 72) 752 (fd_l_sum p) := ⟨⟨_, _, _, _, _, _, _, _, _, rfl, lk_l_sum p, cd_l_sum p⟩, kp_l_sum p⟩
theorem bd_l_sum : Binds (K21 p) (fd_l_sum p) ["first", "rows"] [] := (fn_l_sum p).binds (ps := ["first", "rows"]) fun _ _ _ _ _ _ us hl => match us, hl with | [_, _], _ => rfl
theorem kp_law : PySem.W.keepIn (K21 p) (.ref 759) = true := by kernel_rfl
theorem lk_law : (K21 p).lookup 759 = some ⟨(oO (K21 p) 759).cls, (oO (K21 p) 759).dict, .func (PySem.W.fnOf "law" "law" (defArgs (top 73)) (defBody (top 73)) (defScope (top 73)) .none (fO (K21 p) 759).kwdefaults (fO (K21 p) 759).doc (fO (K21 p) 759).pyModule (fO (K21 p) 759).annotations (fO (K21 p) 759).code (fO (K21 p) 759).closureTuple), (oO (K21 p) 759).slots⟩ := by kernel_rfl
theorem cd_law : PySem.W.codeIn (K21 p) (fO (K21 p) 759).code "law" = true := by kernel_rfl
noncomputable abbrev fd_law (p : Params) : FuncData := PySem.W.fnOf "law" "law" (defArgs (top 73)) (defBody (top 73)) (defScope (top 73)) .none (fO (K21 p) 759).kwdefaults (fO (K21 p) 759).doc (fO (K21 p) 759).pyModule (fO (K21 p) 759).annotations (fO (K21 p) 759).code (fO (K21 p) 759).closureTuple
theorem fn_law : Fun (K21 p) "law" "law" (top 73) 759 (fd_law p) := ⟨⟨_, _, _, _, _, _, _, _, _, rfl, lk_law p, cd_law p⟩, kp_law p⟩
theorem bd_law : Binds (K21 p) (fd_law p) ["script"] [] := (fn_law p).binds (ps := ["script"]) fun _ _ _ _ _ _ us hl => match us, hl with | [_], _ => rfl
theorem cl_Style : Cls (K21 p) 623 := ⟨by kernel_rfl, by kernel_rfl, by kernel_rfl, by kernel_rfl⟩
theorem na_Style_stored_base : NoAttr (K21 p) 623 "stored_base" := (show PySem.W.findIn (K21 p) (.ref 623) "stored_base" = some none by kernel_rfl)
theorem na_Style_stored_rules : NoAttr (K21 p) 623 "stored_rules" := (show PySem.W.findIn (K21 p) (.ref 623) "stored_rules" = some none by kernel_rfl)
theorem mk_Style : Mk (K21 p) 623 510 := ⟨by kernel_rfl, by kernel_rfl, by kernel_rfl, by kernel_rfl⟩
theorem kp_Style___init__ : PySem.W.keepIn (K21 p) (.ref 510) = true := by kernel_rfl
theorem lk_Style___init__ : (K21 p).lookup 510 = some ⟨(oO (K21 p) 510).cls, (oO (K21 p) 510).dict, .func (PySem.W.fnOf "__init__" "Style.__init__" (defArgs (inClass (top 51) 0)) (defBody (inClass (top 51) 0)) (defScope (inClass (top 51) 0)) .none (fO (K21 p) 510).kwdefaults (fO (K21 p) 510).doc (fO (K21 p) 510).pyModule (fO (K21 p) 510).annotations (fO (K21 p) 510).code (fO (K21 p) 510).closureTuple), (oO (K21 p) 510).slots⟩ := by kernel_rfl
theorem cd_Style___init__ : PySem.W.codeIn (K21 p) (fO (K21 p) 510).code "Style.__init__" = true := by kernel_rfl
noncomputable abbrev fd_Style___init__ (p : Params) : FuncData := PySem.W.fnOf "__init__" "Style.__init__" (defArgs (inClass (top 51) 0)) (defBody (inClass (top 51) 0)) (defScope (inClass (top 51) 0)) .none (fO (K21 p) 510).kwdefaults (fO (K21 p) 510).doc (fO (K21 p) 510).pyModule (fO (K21 p) 510).annotations (fO (K21 p) 510).code (fO (K21 p) 510).closureTuple

theorem kp_Style_of : PySem.W.keepIn (K21 p) (.ref 517) = true := by kernel_rfl
theorem lk_Style_of : (K21 p).lookup 517 = some ⟨(oO (K21 p) 517).cls, (oO (K21 p) 517).dict, .func (PySem.W.fnOf "of" "Style.of" (defArgs (inClass (top 51) 1)) (defBody (inClass (top 51) 1)) (defScope (inClass (top 51) 1)) .none (fO (K21 p) 517).kwdefaults (fO (K21 p) 517).doc (fO (K21 p) 517).pyModule (fO (K21 p) 517).annotations (fO (K21 p) 517).code (fO (K21 p) 517).closureTuple), (oO (K21 p) 517).slots⟩ := by kernel_rfl
theorem cd_Style_of : PySem.W.codeIn (K21 p) (fO (K21 p) 517).code "Style.of" = true := by kernel_rfl
noncomputable abbrev fd_Style_of (p : Params) : FuncData := PySem.W.fnOf "of" "Style.of" (defArgs (inClass (top 51) 1)) (defBody (inClass (top 51) 1)) (defScope (inClass (top 51) 1)) .none (fO (K21 p) 517).kwdefaults (fO (K21 p) 517).doc (fO (K21 p) 517).pyModule (fO (K21 p) 517).annotations (fO (K21 p) 517).code (fO (K21 p) 517).closureTuple
theorem fn_Style_of : Fun (K21 p) "of" "Style.of" (inClass (top 51) 1) 517 (fd_Style_of p) := ⟨⟨_, _, _, _, _, _, _, _, _, rfl, lk_Style_of p, cd_Style_of p⟩, kp_Style_of p⟩
theorem bd_Style_of : Binds (K21 p) (fd_Style_of p) ["cls", "base", "rules"] [] := (fn_Style_of p).binds (ps := ["cls", "base", "rules"]) fun _ _ _ _ _ _ us hl => match us, hl with | [_, _, _], _ => rfl
theorem cr_Style : ClX.CRead (K21 p) 623 (.type "type") := ⟨by kernel_rfl, by kernel_rfl⟩
theorem cm_Style_of : ClX.CMet (K21 p) 623 (.type "type") "of" 519 517 := ⟨by kernel_rfl, ⟨((PySem.W.recIn (K21 p) 519 "classmethod").getD []).tail, by kernel_rfl⟩, by kernel_rfl⟩
theorem kp_Style_base : PySem.W.keepIn (K21 p) (.ref 527) = true := by kernel_rfl
theorem lk_Style_base : (K21 p).lookup 527 = some ⟨(oO (K21 p) 527).cls, (oO (K21 p) 527).dict, .func (PySem.W.fnOf "base" "Style.base" (defArgs (inClass (top 51) 2)) (defBody (inClass (top 51) 2)) (defScope (inClass (top 51) 2)) .none (fO (K21 p) 527).kwdefaults (fO (K21 p) 527).doc (fO (K21 p) 527).pyModule (fO (K21 p) 527).annotations (fO (K21 p) 527).code (fO (K21 p) 527).closureTuple), (oO (K21 p) 527).slots⟩ := by kernel_rfl
theorem cd_Style_base : PySem.W.codeIn (K21 p) (fO (K21 p) 527).code "Style.base" = true := by kernel_rfl
noncomputable abbrev fd_Style_base (p : Params) : FuncData := PySem.W.fnOf "base" "Style.base" (defArgs (inClass (top 51) 2)) (defBody (inClass (top 51) 2)) (defScope (inClass (top 51) 2)) .none (fO (K21 p) 527).kwdefaults (fO (K21 p) 527).doc (fO (K21 p) 527).pyModule (fO (K21 p) 527).annotations (fO (K21 p) 527).code (fO (K21 p) 527).closureTuple
theorem fn_Style_base : Fun (K21 p) "base" "Style.base" (inClass (top 51) 2) 527 (fd_Style_base p) := ⟨⟨_, _, _, _, _, _, _, _, _, rfl, lk_Style_base p, cd_Style_base p⟩, kp_Style_base p⟩
theorem bd_Style_base : Binds (K21 p) (fd_Style_base p) ["self"] [] := (fn_Style_base p).binds (ps := ["self"]) fun _ _ _ _ _ _ us hl => match us, hl with | [_], _ => rfl
theorem pr_Style_base : PropOf (K21 p) 623 "base" 528 527 := ⟨by kernel_rfl, by kernel_rfl, by kernel_rfl, ⟨((PySem.W.recIn (K21 p) 528 "property").getD []).tail, by kernel_rfl⟩⟩
theorem kp_Style_rules : PySem.W.keepIn (K21 p) (.ref 535) = true := by kernel_rfl
theorem lk_Style_rules : (K21 p).lookup 535 = some ⟨(oO (K21 p) 535).cls, (oO (K21 p) 535).dict, .func (PySem.W.fnOf "rules" "Style.rules" (defArgs (inClass (top 51) 3)) (defBody (inClass (top 51) 3)) (defScope (inClass (top 51) 3)) .none (fO (K21 p) 535).kwdefaults (fO (K21 p) 535).doc (fO (K21 p) 535).pyModule (fO (K21 p) 535).annotations (fO (K21 p) 535).code (fO (K21 p) 535).closureTuple), (oO (K21 p) 535).slots⟩ := by kernel_rfl
theorem cd_Style_rules : PySem.W.codeIn (K21 p) (fO (K21 p) 535).code "Style.rules" = true := by kernel_rfl
noncomputable abbrev fd_Style_rules (p : Params) : FuncData := PySem.W.fnOf "rules" "Style.rules" (defArgs (inClass (top 51) 3)) (defBody (inClass (top 51) 3)) (defScope (inClass (top 51) 3)) .none (fO (K21 p) 535).kwdefaults (fO (K21 p) 535).doc (fO (K21 p) 535).pyModule (fO (K21 p) 535).annotations (fO (K21 p) 535).code (fO (K21 p) 535).closureTuple
theorem fn_Style_rules : Fun (K21 p) "rules" "Style.rules" (inClass (top 51) 3) 535 (fd_Style_rules p) := ⟨⟨_, _, _, _, _, _, _, _, _, rfl, lk_Style_rules p, cd_Style_rules p⟩, kp_Style_rules p⟩
theorem bd_Style_rules : Binds (K21 p) (fd_Style_rules p) ["self"] [] := (fn_Style_rules p).binds (ps := ["self"]) fun _ _ _ _ _ _ us hl => match us, hl with | [_], _ => rfl
theorem pr_Style_rules : PropOf (K21 p) 623 "rules" 536 535 := ⟨by kernel_rfl, by kernel_rfl, by kernel_rfl, ⟨((PySem.W.recIn (K21 p) 536 "property").getD []).tail, by kernel_rfl⟩⟩
theorem kp_Style_kept : PySem.W.keepIn (K21 p) (.ref 550) = true := by kernel_rfl
theorem lk_Style_kept : (K21 p).lookup 550 = some ⟨(oO (K21 p) 550).cls, (oO (K21 p) 550).dict, .func (PySem.W.fnOf "kept" "Style.kept" (defArgs (inClass (top 51) 5)) (defBody (inClass (top 51) 5)) (defScope (inClass (top 51) 5)) .none (fO (K21 p) 550).kwdefaults (fO (K21 p) 550).doc (fO (K21 p) 550).pyModule (fO (K21 p) 550).annotations (fO (K21 p) 550).code (fO (K21 p) 550).closureTuple), (oO (K21 p) 550).slots⟩ := by kernel_rfl
theorem cd_Style_kept : PySem.W.codeIn (K21 p) (fO (K21 p) 550).code "Style.kept" = true := by kernel_rfl
noncomputable abbrev fd_Style_kept (p : Params) : FuncData := PySem.W.fnOf "kept" "Style.kept" (defArgs (inClass (top 51) 5)) (defBody (inClass (top 51) 5)) (defScope (inClass (top 51) 5)) .none (fO (K21 p) 550).kwdefaults (fO (K21 p) 550).doc (fO (K21 p) 550).pyModule (fO (K21 p) 550).annotations (fO (K21 p) 550).code (fO (K21 p) 550).closureTuple
theorem fn_Style_kept : Fun (K21 p) "kept" "Style.kept" (inClass (top 51) 5) 550 (fd_Style_kept p) := ⟨⟨_, _, _, _, _, _, _, _, _, rfl, lk_Style_kept p, cd_Style_kept p⟩, kp_Style_kept p⟩
theorem bd_Style_kept : Binds (K21 p) (fd_Style_kept p) ["self", "first", "second"] [] := (fn_Style_kept p).binds (ps := ["self", "first", "second"]) fun _ _ _ _ _ _ us hl => match us, hl with | [_, _, _], _ => rfl
theorem mt_Style_kept : Meth (K21 p) 623 "kept" 550 := ⟨by kernel_rfl, by kernel_rfl, by kernel_rfl⟩
theorem at_Style_kept : PySem.W.findIn (K21 p) (.ref 623) "kept" = some (some (.ref 550)) := by kernel_rfl
theorem is_Style_kept : PySem.W.isFn (K21 p) (.ref 550) = true := by kernel_rfl
theorem fi_Style_kept : PySem.W.fnIn (K21 p) 550 = true := by kernel_rfl
theorem kp_Style_tail : PySem.W.keepIn (K21 p) (.ref 557) = true := by kernel_rfl
theorem lk_Style_tail : (K21 p).lookup 557 = some ⟨(oO (K21 p) 557).cls, (oO (K21 p) 557).dict, .func (PySem.W.fnOf "tail" "Style.tail" (defArgs (inClass (top 51) 6)) (defBody (inClass (top 51) 6)) (defScope (inClass (top 51) 6)) .none (fO (K21 p) 557).kwdefaults (fO (K21 p) 557).doc (fO (K21 p) 557).pyModule (fO (K21 p) 557).annotations (fO (K21 p) 557).code (fO (K21 p) 557).closureTuple), (oO (K21 p) 557).slots⟩ := by kernel_rfl
theorem cd_Style_tail : PySem.W.codeIn (K21 p) (fO (K21 p) 557).code "Style.tail" = true := by kernel_rfl
noncomputable abbrev fd_Style_tail (p : Params) : FuncData := PySem.W.fnOf "tail" "Style.tail" (defArgs (inClass (top 51) 6)) (defBody (inClass (top 51) 6)) (defScope (inClass (top 51) 6)) .none (fO (K21 p) 557).kwdefaults (fO (K21 p) 557).doc (fO (K21 p) 557).pyModule (fO (K21 p) 557).annotations (fO (K21 p) 557).code (fO (K21 p) 557).closureTuple
theorem fn_Style_tail : Fun (K21 p) "tail" "Style.tail" (inClass (top 51) 6) 557 (fd_Style_tail p) := ⟨⟨_, _, _, _, _, _, _, _, _, rfl, lk_Style_tail p, cd_Style_tail p⟩, kp_Style_tail p⟩
theorem bd_Style_tail : Binds (K21 p) (fd_Style_tail p) ["self", "first", "second"] [] := (fn_Style_tail p).binds (ps := ["self", "first", "second"]) fun _ _ _ _ _ _ us hl => match us, hl with | [_, _, _], _ => rfl
theorem mt_Style_tail : Meth (K21 p) 623 "tail" 557 := ⟨by kernel_rfl, by kernel_rfl, by kernel_rfl⟩
theorem at_Style_tail : PySem.W.findIn (K21 p) (.ref 623) "tail" = some (some (.ref 557)) := by kernel_rfl
theorem is_Style_tail : PySem.W.isFn (K21 p) (.ref 557) = true := by kernel_rfl
theorem fi_Style_tail : PySem.W.fnIn (K21 p) 557 = true := by kernel_rfl
theorem kp_Style___call__ : PySem.W.keepIn (K21 p) (.ref 564) = true := by kernel_rfl
theorem lk_Style___call__ : (K21 p).lookup 564 = some ⟨(oO (K21 p) 564).cls, (oO (K21 p) 564).dict, .func (PySem.W.fnOf "__call__" "Style.__call__" (defArgs (inClass (top 51) 7)) (defBody (inClass (top 51) 7)) (defScope (inClass (top 51) 7)) .none (fO (K21 p) 564).kwdefaults (fO (K21 p) 564).doc (fO (K21 p) 564).pyModule (fO (K21 p) 564).annotations (fO (K21 p) 564).code (fO (K21 p) 564).closureTuple), (oO (K21 p) 564).slots⟩ := by kernel_rfl
theorem cd_Style___call__ : PySem.W.codeIn (K21 p) (fO (K21 p) 564).code "Style.__call__" = true := by kernel_rfl
noncomputable abbrev fd_Style___call__ (p : Params) : FuncData := PySem.W.fnOf "__call__" "Style.__call__" (defArgs (inClass (top 51) 7)) (defBody (inClass (top 51) 7)) (defScope (inClass (top 51) 7)) .none (fO (K21 p) 564).kwdefaults (fO (K21 p) 564).doc (fO (K21 p) 564).pyModule (fO (K21 p) 564).annotations (fO (K21 p) 564).code (fO (K21 p) 564).closureTuple
theorem fn_Style___call__ : Fun (K21 p) "__call__" "Style.__call__" (inClass (top 51) 7) 564 (fd_Style___call__ p) := ⟨⟨_, _, _, _, _, _, _, _, _, rfl, lk_Style___call__ p, cd_Style___call__ p⟩, kp_Style___call__ p⟩
theorem bd_Style___call__ : Binds (K21 p) (fd_Style___call__ p) ["self", "first", "second"] [] := (fn_Style___call__ p).binds (ps := ["self", "first", "second"]) fun _ _ _ _ _ _ us hl => match us, hl with | [_, _, _], _ => rfl
theorem mt_Style___call__ : StX.CallO (K21 p) 623 564 := ⟨by kernel_rfl, by kernel_rfl, by kernel_rfl⟩
theorem at_Style___call__ : PySem.W.findIn (K21 p) (.ref 623) "__call__" = some (some (.ref 564)) := by kernel_rfl
theorem is_Style___call__ : PySem.W.isFn (K21 p) (.ref 564) = true := by kernel_rfl
theorem fi_Style___call__ : PySem.W.fnIn (K21 p) 564 = true := by kernel_rfl
theorem kp_Style___len__ : PySem.W.keepIn (K21 p) (.ref 571) = true := by kernel_rfl
theorem lk_Style___len__ : (K21 p).lookup 571 = some ⟨(oO (K21 p) 571).cls, (oO (K21 p) 571).dict, .func (PySem.W.fnOf "__len__" "Style.__len__" (defArgs (inClass (top 51) 8)) (defBody (inClass (top 51) 8)) (defScope (inClass (top 51) 8)) .none (fO (K21 p) 571).kwdefaults (fO (K21 p) 571).doc (fO (K21 p) 571).pyModule (fO (K21 p) 571).annotations (fO (K21 p) 571).code (fO (K21 p) 571).closureTuple), (oO (K21 p) 571).slots⟩ := by kernel_rfl
theorem cd_Style___len__ : PySem.W.codeIn (K21 p) (fO (K21 p) 571).code "Style.__len__" = true := by kernel_rfl
noncomputable abbrev fd_Style___len__ (p : Params) : FuncData := PySem.W.fnOf "__len__" "Style.__len__" (defArgs (inClass (top 51) 8)) (defBody (inClass (top 51) 8)) (defScope (inClass (top 51) 8)) .none (fO (K21 p) 571).kwdefaults (fO (K21 p) 571).doc (fO (K21 p) 571).pyModule (fO (K21 p) 571).annotations (fO (K21 p) 571).code (fO (K21 p) 571).closureTuple
theorem fn_Style___len__ : Fun (K21 p) "__len__" "Style.__len__" (inClass (top 51) 8) 571 (fd_Style___len__ p) := ⟨⟨_, _, _, _, _, _, _, _, _, rfl, lk_Style___len__ p, cd_Style___len__ p⟩, kp_Style___len__ p⟩
theorem bd_Style___len__ : Binds (K21 p) (fd_Style___len__ p) ["self"] [] := (fn_Style___len__ p).binds (ps := ["self"]) fun _ _ _ _ _ _ us hl => match us, hl with | [_], _ => rfl
theorem mt_Style___len__ : Meth (K21 p) 623 "__len__" 571 := ⟨by kernel_rfl, by kernel_rfl, by kernel_rfl⟩
theorem at_Style___len__ : PySem.W.findIn (K21 p) (.ref 623) "__len__" = some (some (.ref 571)) := by kernel_rfl
theorem is_Style___len__ : PySem.W.isFn (K21 p) (.ref 571) = true := by kernel_rfl
theorem fi_Style___len__ : PySem.W.fnIn (K21 p) 571 = true := by kernel_rfl
theorem kp_Style___getitem__ : PySem.W.keepIn (K21 p) (.ref 578) = true := by kernel_rfl
theorem lk_Style___getitem__ : (K21 p).lookup 578 = some ⟨(oO (K21 p) 578).cls, (oO (K21 p) 578).dict, .func (PySem.W.fnOf "__getitem__" "Style.__getitem__" (defArgs (inClass (top 51) 9)) (defBody (inClass (top 51) 9)) (defScope (inClass (top 51) 9)) .none (fO (K21 p) 578).kwdefaults (fO (K21 p) 578).doc (fO (K21 p) 578).pyModule (fO (K21 p) 578).annotations (fO (K21 p) 578).code (fO (K21 p) 578).closureTuple), (oO (K21 p) 578).slots⟩ := by kernel_rfl
theorem cd_Style___getitem__ : PySem.W.codeIn (K21 p) (fO (K21 p) 578).code "Style.__getitem__" = true := by kernel_rfl
noncomputable abbrev fd_Style___getitem__ (p : Params) : FuncData := PySem.W.fnOf "__getitem__" "Style.__getitem__" (defArgs (inClass (top 51) 9)) (defBody (inClass (top 51) 9)) (defScope (inClass (top 51) 9)) .none (fO (K21 p) 578).kwdefaults (fO (K21 p) 578).doc (fO (K21 p) 578).pyModule (fO (K21 p) 578).annotations (fO (K21 p) 578).code (fO (K21 p) 578).closureTuple
theorem fn_Style___getitem__ : Fun (K21 p) "__getitem__" "Style.__getitem__" (inClass (top 51) 9) 578 (fd_Style___getitem__ p) := ⟨⟨_, _, _, _, _, _, _, _, _, rfl, lk_Style___getitem__ p, cd_Style___getitem__ p⟩, kp_Style___getitem__ p⟩
theorem bd_Style___getitem__ : Binds (K21 p) (fd_Style___getitem__ p) ["self", "number"] [] := (fn_Style___getitem__ p).binds (ps := ["self", "number"]) fun _ _ _ _ _ _ us hl => match us, hl with | [_, _], _ => rfl
theorem mt_Style___getitem__ : Meth (K21 p) 623 "__getitem__" 578 := ⟨by kernel_rfl, by kernel_rfl, by kernel_rfl⟩
theorem at_Style___getitem__ : PySem.W.findIn (K21 p) (.ref 623) "__getitem__" = some (some (.ref 578)) := by kernel_rfl
theorem is_Style___getitem__ : PySem.W.isFn (K21 p) (.ref 578) = true := by kernel_rfl
theorem fi_Style___getitem__ : PySem.W.fnIn (K21 p) 578 = true := by kernel_rfl
theorem kp_Style___iter__ : PySem.W.keepIn (K21 p) (.ref 585) = true := by kernel_rfl
theorem lk_Style___iter__ : (K21 p).lookup 585 = some ⟨(oO (K21 p) 585).cls, (oO (K21 p) 585).dict, .func (PySem.W.fnOf "__iter__" "Style.__iter__" (defArgs (inClass (top 51) 10)) (defBody (inClass (top 51) 10)) (defScope (inClass (top 51) 10)) .none (fO (K21 p) 585).kwdefaults (fO (K21 p) 585).doc (fO (K21 p) 585).pyModule (fO (K21 p) 585).annotations (fO (K21 p) 585).code (fO (K21 p) 585).closureTuple), (oO (K21 p) 585).slots⟩ := by kernel_rfl
theorem cd_Style___iter__ : PySem.W.codeIn (K21 p) (fO (K21 p) 585).code "Style.__iter__" = true := by kernel_rfl
noncomputable abbrev fd_Style___iter__ (p : Params) : FuncData := PySem.W.fnOf "__iter__" "Style.__iter__" (defArgs (inClass (top 51) 10)) (defBody (inClass (top 51) 10)) (defScope (inClass (top 51) 10)) .none (fO (K21 p) 585).kwdefaults (fO (K21 p) 585).doc (fO (K21 p) 585).pyModule (fO (K21 p) 585).annotations (fO (K21 p) 585).code (fO (K21 p) 585).closureTuple
theorem fn_Style___iter__ : Fun (K21 p) "__iter__" "Style.__iter__" (inClass (top 51) 10) 585 (fd_Style___iter__ p) := ⟨⟨_, _, _, _, _, _, _, _, _, rfl, lk_Style___iter__ p, cd_Style___iter__ p⟩, kp_Style___iter__ p⟩
theorem bd_Style___iter__ : Binds (K21 p) (fd_Style___iter__ p) ["self"] [] := (fn_Style___iter__ p).binds (ps := ["self"]) fun _ _ _ _ _ _ us hl => match us, hl with | [_], _ => rfl
theorem mt_Style___iter__ : Meth (K21 p) 623 "__iter__" 585 := ⟨by kernel_rfl, by kernel_rfl, by kernel_rfl⟩
theorem at_Style___iter__ : PySem.W.findIn (K21 p) (.ref 623) "__iter__" = some (some (.ref 585)) := by kernel_rfl
theorem is_Style___iter__ : PySem.W.isFn (K21 p) (.ref 585) = true := by kernel_rfl
theorem fi_Style___iter__ : PySem.W.fnIn (K21 p) 585 = true := by kernel_rfl
theorem kp_Style___contains__ : PySem.W.keepIn (K21 p) (.ref 592) = true := by kernel_rfl
theorem lk_Style___contains__ : (K21 p).lookup 592 = some ⟨(oO (K21 p) 592).cls, (oO (K21 p) 592).dict, .func (PySem.W.fnOf "__contains__" "Style.__contains__" (defArgs (inClass (top 51) 11)) (defBody (inClass (top 51) 11)) (defScope (inClass (top 51) 11)) .none (fO (K21 p) 592).kwdefaults (fO (K21 p) 592).doc (fO (K21 p) 592).pyModule (fO (K21 p) 592).annotations (fO (K21 p) 592).code (fO (K21 p) 592).closureTuple), (oO (K21 p) 592).slots⟩ := by kernel_rfl
theorem cd_Style___contains__ : PySem.W.codeIn (K21 p) (fO (K21 p) 592).code "Style.__contains__" = true := by kernel_rfl
noncomputable abbrev fd_Style___contains__ (p : Params) : FuncData := PySem.W.fnOf "__contains__" "Style.__contains__" (defArgs (inClass (top 51) 11)) (defBody (inClass (top 51) 11)) (defScope (inClass (top 51) 11)) .none (fO (K21 p) 592).kwdefaults (fO (K21 p) 592).doc (fO (K21 p) 592).pyModule (fO (K21 p) 592).annotations (fO (K21 p) 592).code (fO (K21 p) 592).closureTuple
theorem fn_Style___contains__ : Fun (K21 p) "__contains__" "Style.__contains__" (inClass (top 51) 11) 592 (fd_Style___contains__ p) := ⟨⟨_, _, _, _, _, _, _, _, _, rfl, lk_Style___contains__ p, cd_Style___contains__ p⟩, kp_Style___contains__ p⟩
theorem bd_Style___contains__ : Binds (K21 p) (fd_Style___contains__ p) ["self", "value"] [] := (fn_Style___contains__ p).binds (ps := ["self", "value"]) fun _ _ _ _ _ _ us hl => match us, hl with | [_, _], _ => rfl
theorem mt_Style___contains__ : Meth (K21 p) 623 "__contains__" 592 := ⟨by kernel_rfl, by kernel_rfl, by kernel_rfl⟩
theorem at_Style___contains__ : PySem.W.findIn (K21 p) (.ref 623) "__contains__" = some (some (.ref 592)) := by kernel_rfl
theorem is_Style___contains__ : PySem.W.isFn (K21 p) (.ref 592) = true := by kernel_rfl
theorem fi_Style___contains__ : PySem.W.fnIn (K21 p) 592 = true := by kernel_rfl
theorem kp_Style___eq__ : PySem.W.keepIn (K21 p) (.ref 599) = true := by kernel_rfl
theorem lk_Style___eq__ : (K21 p).lookup 599 = some ⟨(oO (K21 p) 599).cls, (oO (K21 p) 599).dict, .func (PySem.W.fnOf "__eq__" "Style.__eq__" (defArgs (inClass (top 51) 12)) (defBody (inClass (top 51) 12)) (defScope (inClass (top 51) 12)) .none (fO (K21 p) 599).kwdefaults (fO (K21 p) 599).doc (fO (K21 p) 599).pyModule (fO (K21 p) 599).annotations (fO (K21 p) 599).code (fO (K21 p) 599).closureTuple), (oO (K21 p) 599).slots⟩ := by kernel_rfl
theorem cd_Style___eq__ : PySem.W.codeIn (K21 p) (fO (K21 p) 599).code "Style.__eq__" = true := by kernel_rfl
noncomputable abbrev fd_Style___eq__ (p : Params) : FuncData := PySem.W.fnOf "__eq__" "Style.__eq__" (defArgs (inClass (top 51) 12)) (defBody (inClass (top 51) 12)) (defScope (inClass (top 51) 12)) .none (fO (K21 p) 599).kwdefaults (fO (K21 p) 599).doc (fO (K21 p) 599).pyModule (fO (K21 p) 599).annotations (fO (K21 p) 599).code (fO (K21 p) 599).closureTuple
theorem fn_Style___eq__ : Fun (K21 p) "__eq__" "Style.__eq__" (inClass (top 51) 12) 599 (fd_Style___eq__ p) := ⟨⟨_, _, _, _, _, _, _, _, _, rfl, lk_Style___eq__ p, cd_Style___eq__ p⟩, kp_Style___eq__ p⟩
theorem bd_Style___eq__ : Binds (K21 p) (fd_Style___eq__ p) ["self", "other"] [] := (fn_Style___eq__ p).binds (ps := ["self", "other"]) fun _ _ _ _ _ _ us hl => match us, hl with | [_, _], _ => rfl
theorem mt_Style___eq__ : Meth (K21 p) 623 "__eq__" 599 := ⟨by kernel_rfl, by kernel_rfl, by kernel_rfl⟩
theorem at_Style___eq__ : PySem.W.findIn (K21 p) (.ref 623) "__eq__" = some (some (.ref 599)) := by kernel_rfl
theorem is_Style___eq__ : PySem.W.isFn (K21 p) (.ref 599) = true := by kernel_rfl
theorem fi_Style___eq__ : PySem.W.fnIn (K21 p) 599 = true := by kernel_rfl
theorem kp_Style___radd__ : PySem.W.keepIn (K21 p) (.ref 606) = true := by kernel_rfl
theorem lk_Style___radd__ : (K21 p).lookup 606 = some ⟨(oO (K21 p) 606).cls, (oO (K21 p) 606).dict, .func (PySem.W.fnOf "__radd__" "Style.__radd__" (defArgs (inClass (top 51) 13)) (defBody (inClass (top 51) 13)) (defScope (inClass (top 51) 13)) .none (fO (K21 p) 606).kwdefaults (fO (K21 p) 606).doc (fO (K21 p) 606).pyModule (fO (K21 p) 606).annotations (fO (K21 p) 606).code (fO (K21 p) 606).closureTuple), (oO (K21 p) 606).slots⟩ := by kernel_rfl
theorem cd_Style___radd__ : PySem.W.codeIn (K21 p) (fO (K21 p) 606).code "Style.__radd__" = true := by kernel_rfl
noncomputable abbrev fd_Style___radd__ (p : Params) : FuncData := PySem.W.fnOf "__radd__" "Style.__radd__" (defArgs (inClass (top 51) 13)) (defBody (inClass (top 51) 13)) (defScope (inClass (top 51) 13)) .none (fO (K21 p) 606).kwdefaults (fO (K21 p) 606).doc (fO (K21 p) 606).pyModule (fO (K21 p) 606).annotations (fO (K21 p) 606).code (fO (K21 p) 606).closureTuple
theorem fn_Style___radd__ : Fun (K21 p) "__radd__" "Style.__radd__" (inClass (top 51) 13) 606 (fd_Style___radd__ p) := ⟨⟨_, _, _, _, _, _, _, _, _, rfl, lk_Style___radd__ p, cd_Style___radd__ p⟩, kp_Style___radd__ p⟩
theorem bd_Style___radd__ : Binds (K21 p) (fd_Style___radd__ p) ["self", "other"] [] := (fn_Style___radd__ p).binds (ps := ["self", "other"]) fun _ _ _ _ _ _ us hl => match us, hl with | [_, _], _ => rfl
theorem mt_Style___radd__ : Meth (K21 p) 623 "__radd__" 606 := ⟨by kernel_rfl, by kernel_rfl, by kernel_rfl⟩
theorem at_Style___radd__ : PySem.W.findIn (K21 p) (.ref 623) "__radd__" = some (some (.ref 606)) := by kernel_rfl
theorem is_Style___radd__ : PySem.W.isFn (K21 p) (.ref 606) = true := by kernel_rfl
theorem fi_Style___radd__ : PySem.W.fnIn (K21 p) 606 = true := by kernel_rfl
theorem kp_Style_without : PySem.W.keepIn (K21 p) (.ref 613) = true := by kernel_rfl
theorem lk_Style_without : (K21 p).lookup 613 = some ⟨(oO (K21 p) 613).cls, (oO (K21 p) 613).dict, .func (PySem.W.fnOf "without" "Style.without" (defArgs (inClass (top 51) 14)) (defBody (inClass (top 51) 14)) (defScope (inClass (top 51) 14)) .none (fO (K21 p) 613).kwdefaults (fO (K21 p) 613).doc (fO (K21 p) 613).pyModule (fO (K21 p) 613).annotations (fO (K21 p) 613).code (fO (K21 p) 613).closureTuple), (oO (K21 p) 613).slots⟩ := by kernel_rfl
theorem cd_Style_without : PySem.W.codeIn (K21 p) (fO (K21 p) 613).code "Style.without" = true := by kernel_rfl
noncomputable abbrev fd_Style_without (p : Params) : FuncData := PySem.W.fnOf "without" "Style.without" (defArgs (inClass (top 51) 14)) (defBody (inClass (top 51) 14)) (defScope (inClass (top 51) 14)) .none (fO (K21 p) 613).kwdefaults (fO (K21 p) 613).doc (fO (K21 p) 613).pyModule (fO (K21 p) 613).annotations (fO (K21 p) 613).code (fO (K21 p) 613).closureTuple
theorem fn_Style_without : Fun (K21 p) "without" "Style.without" (inClass (top 51) 14) 613 (fd_Style_without p) := ⟨⟨_, _, _, _, _, _, _, _, _, rfl, lk_Style_without p, cd_Style_without p⟩, kp_Style_without p⟩
theorem bd_Style_without : Binds (K21 p) (fd_Style_without p) ["self", "number"] [] := (fn_Style_without p).binds (ps := ["self", "number"]) fun _ _ _ _ _ _ us hl => match us, hl with | [_, _], _ => rfl
theorem mt_Style_without : Meth (K21 p) 623 "without" 613 := ⟨by kernel_rfl, by kernel_rfl, by kernel_rfl⟩
theorem at_Style_without : PySem.W.findIn (K21 p) (.ref 623) "without" = some (some (.ref 613)) := by kernel_rfl
theorem is_Style_without : PySem.W.isFn (K21 p) (.ref 613) = true := by kernel_rfl
theorem fi_Style_without : PySem.W.fnIn (K21 p) 613 = true := by kernel_rfl
end
end KH21

namespace KH21
open PySem L2 Evl Dg Dt StX ClX
def tkO (v : Option (Option Value)) : Tok := match v with
  | some (some (.int _ t)) => t
  | some (some (.str _ t)) => t
  | _ => default
def itO (K : PySem.W.Frag) (a : Addr) : Array Value := match (oO K a).data with
  | .seq v _ => v
  | _ => #[]
def epO (K : PySem.W.Frag) (a : Addr) : Nat := match (oO K a).data with
  | .seq _ n => n
  | _ => 0
def tkI (K : PySem.W.Frag) (a : Addr) (i : Nat) : Tok := tkO (some (itO K a)[i]?)
section
variable {w : World} {mg : Str → Option Value} {h base : Heap} (X : (K21 w.params).In h) (G : h.Ns mainGlobals mg)
include X G
theorem txG : TxG mg where
  isi := PySem.W.mg_none_of X G (show PySem.W.nsIn (K21 w.params) mainGlobals "isinstance" = some none by kernel_rfl)
  int := PySem.W.mg_none_of X G (show PySem.W.nsIn (K21 w.params) mainGlobals "int" = some none by kernel_rfl)
  bool := PySem.W.mg_none_of X G (show PySem.W.nsIn (K21 w.params) mainGlobals "bool" = some none by kernel_rfl)
  str := PySem.W.mg_none_of X G (show PySem.W.nsIn (K21 w.params) mainGlobals "str" = some none by kernel_rfl)
  len := PySem.W.mg_none_of X G (show PySem.W.nsIn (K21 w.params) mainGlobals "len" = some none by kernel_rfl)
  sup := PySem.W.mg_none_of X G (show PySem.W.nsIn (K21 w.params) mainGlobals "super" = some none by kernel_rfl)
  fig := (by
    obtain ⟨t, e⟩ : ∃ t, PySem.W.nsIn (K21 w.params) mainGlobals "FIGURES" = some (some (.str "0123456789" t)) := ⟨tkO (PySem.W.nsIn (K21 w.params) mainGlobals "FIGURES"), by kernel_rfl⟩
    exact ⟨t, PySem.W.mg_of X G e⟩)
  least := (by
    obtain ⟨t, e⟩ : ∃ t, PySem.W.nsIn (K21 w.params) mainGlobals "LEAST_BASE" = some (some (.int 2 t)) := ⟨tkO (PySem.W.nsIn (K21 w.params) mainGlobals "LEAST_BASE"), by kernel_rfl⟩
    exact ⟨t, PySem.W.mg_of X G e⟩)
  most := (by
    obtain ⟨t, e⟩ : ∃ t, PySem.W.nsIn (K21 w.params) mainGlobals "MOST_BASE" = some (some (.int 10 t)) := ⟨tkO (PySem.W.nsIn (K21 w.params) mainGlobals "MOST_BASE"), by kernel_rfl⟩
    exact ⟨t, PySem.W.mg_of X G e⟩)
theorem txI : TxI (K21 w.params) mg 338 where
  toTxG := txG X G
  isInt := PySem.W.mg_of X G (show PySem.W.nsIn (K21 w.params) mainGlobals "is_integer" = some (some (.ref 338)) by kernel_rfl)
  kInt := kp_is_integer _
theorem txF : TxF (K21 w.params) mg 338 345 357 364 385 where
  toTxI := txI X G
  isNum := PySem.W.mg_of X G (show PySem.W.nsIn (K21 w.params) mainGlobals "is_number" = some (some (.ref 345)) by kernel_rfl)
  kNum := kp_is_number _
  needB := PySem.W.mg_of X G (show PySem.W.nsIn (K21 w.params) mainGlobals "need_base" = some (some (.ref 357)) by kernel_rfl)
  kNB := kp_need_base _
  needN := PySem.W.mg_of X G (show PySem.W.nsIn (K21 w.params) mainGlobals "need_number" = some (some (.ref 364)) by kernel_rfl)
  kNN := kp_need_number _
  digits := PySem.W.mg_of X G (show PySem.W.nsIn (K21 w.params) mainGlobals "digits" = some (some (.ref 385)) by kernel_rfl)
  kDg := kp_digits _
  divmod := PySem.W.mg_none_of X G (show PySem.W.nsIn (K21 w.params) mainGlobals "divmod" = some none by kernel_rfl)
theorem txB : Dr.TxB mg where
  int := PySem.W.mg_none_of X G (show PySem.W.nsIn (K21 w.params) mainGlobals "int" = some none by kernel_rfl)
  len := PySem.W.mg_none_of X G (show PySem.W.nsIn (K21 w.params) mainGlobals "len" = some none by kernel_rfl)
  list := PySem.W.mg_none_of X G (show PySem.W.nsIn (K21 w.params) mainGlobals "list" = some none by kernel_rfl)
theorem txD : Dr.TxD (K21 w.params) mg 653 where
  toTxB := txB X G
  mixed := PySem.W.mg_of X G (show PySem.W.nsIn (K21 w.params) mainGlobals "_law_mixed" = some (some (.ref 653)) by kernel_rfl)
  kMixed := kp_l_mixed _
theorem txO : Dr.TxO (K21 w.params) mg 653 665 where
  toTxD := txD X G
  draw := PySem.W.mg_of X G (show PySem.W.nsIn (K21 w.params) mainGlobals "_law_draw" = some (some (.ref 665)) by kernel_rfl)
  kDraw := kp_l_draw _
theorem txT : Told.TxT mg ca21 where
  own := fun i hi => by
    have c : i = 0 ∨ i = 1 ∨ i = 2 ∨ i = 3 ∨ i = 4 ∨ i = 5 ∨ i = 6 ∨ i = 7 ∨ i = 8 ∨ i = 9 ∨ i = 10 ∨ i = 11 ∨ i = 12 ∨ i = 13 ∨ i = 14 := by omega
    rcases c with rfl | rfl | rfl | rfl | rfl | rfl | rfl | rfl | rfl | rfl | rfl | rfl | rfl | rfl | rfl
    · exact PySem.W.mg_of X G (show PySem.W.nsIn (K21 w.params) mainGlobals "SpanError" = some (some (.ref 31)) by kernel_rfl)
    · exact PySem.W.mg_of X G (show PySem.W.nsIn (K21 w.params) mainGlobals "BadBase" = some (some (.ref 53)) by kernel_rfl)
    · exact PySem.W.mg_of X G (show PySem.W.nsIn (K21 w.params) mainGlobals "BadNumber" = some (some (.ref 74)) by kernel_rfl)
    · exact PySem.W.mg_of X G (show PySem.W.nsIn (K21 w.params) mainGlobals "BadDigits" = some (some (.ref 95)) by kernel_rfl)
    · exact PySem.W.mg_of X G (show PySem.W.nsIn (K21 w.params) mainGlobals "BadRange" = some (some (.ref 116)) by kernel_rfl)
    · exact PySem.W.mg_of X G (show PySem.W.nsIn (K21 w.params) mainGlobals "BadRule" = some (some (.ref 137)) by kernel_rfl)
    · exact PySem.W.mg_of X G (show PySem.W.nsIn (K21 w.params) mainGlobals "BadReader" = some (some (.ref 158)) by kernel_rfl)
    · exact PySem.W.mg_of X G (show PySem.W.nsIn (K21 w.params) mainGlobals "BadManner" = some (some (.ref 179)) by kernel_rfl)
    · exact PySem.W.mg_of X G (show PySem.W.nsIn (K21 w.params) mainGlobals "BadEntry" = some (some (.ref 200)) by kernel_rfl)
    · exact PySem.W.mg_of X G (show PySem.W.nsIn (K21 w.params) mainGlobals "BadName" = some (some (.ref 221)) by kernel_rfl)
    · exact PySem.W.mg_of X G (show PySem.W.nsIn (K21 w.params) mainGlobals "BadText" = some (some (.ref 242)) by kernel_rfl)
    · exact PySem.W.mg_of X G (show PySem.W.nsIn (K21 w.params) mainGlobals "OtherBase" = some (some (.ref 263)) by kernel_rfl)
    · exact PySem.W.mg_of X G (show PySem.W.nsIn (K21 w.params) mainGlobals "TooMany" = some (some (.ref 284)) by kernel_rfl)
    · exact PySem.W.mg_of X G (show PySem.W.nsIn (K21 w.params) mainGlobals "Missing" = some (some (.ref 306)) by kernel_rfl)
    · exact PySem.W.mg_of X G (show PySem.W.nsIn (K21 w.params) mainGlobals "NothingLeft" = some (some (.ref 328)) by kernel_rfl)
  isi := PySem.W.mg_none_of X G (show PySem.W.nsIn (K21 w.params) mainGlobals "isinstance" = some none by kernel_rfl)
  len := PySem.W.mg_none_of X G (show PySem.W.nsIn (K21 w.params) mainGlobals "len" = some none by kernel_rfl)
theorem txF3 : TxF3 (K21 w.params) mg 338 345 357 371 where
  toTxI := txI X G
  isNum := PySem.W.mg_of X G (show PySem.W.nsIn (K21 w.params) mainGlobals "is_number" = some (some (.ref 345)) by kernel_rfl)
  kNum := kp_is_number _
  needB := PySem.W.mg_of X G (show PySem.W.nsIn (K21 w.params) mainGlobals "need_base" = some (some (.ref 357)) by kernel_rfl)
  kNB := kp_need_base _
  needR := PySem.W.mg_of X G (show PySem.W.nsIn (K21 w.params) mainGlobals "need_range" = some (some (.ref 371)) by kernel_rfl)
  kNR := kp_need_range _
theorem txH : TxH (K21 w.params) mg 686 693 where
  len := PySem.W.mg_none_of X G (show PySem.W.nsIn (K21 w.params) mainGlobals "len" = some none by kernel_rfl)
  ldig := PySem.W.mg_of X G (show PySem.W.nsIn (K21 w.params) mainGlobals "_law_digits" = some (some (.ref 686)) by kernel_rfl)
  kLd := kp_l_digits _
  lpow := PySem.W.mg_of X G (show PySem.W.nsIn (K21 w.params) mainGlobals "_law_power" = some (some (.ref 693)) by kernel_rfl)
  kLp := kp_l_power _
theorem txR : TxR (K21 w.params) mg 338 357 350 413 420 427 434 441 where
  toTxI := txI X G
  needB := PySem.W.mg_of X G (show PySem.W.nsIn (K21 w.params) mainGlobals "need_base" = some (some (.ref 357)) by kernel_rfl)
  kNB := kp_need_base _
  isFig := PySem.W.mg_of X G (show PySem.W.nsIn (K21 w.params) mainGlobals "is_figures" = some (some (.ref 350)) by kernel_rfl)
  kFig := kp_is_figures _
  size := PySem.W.mg_of X G (show PySem.W.nsIn (K21 w.params) mainGlobals "is_size" = some (some (.ref 413)) by kernel_rfl)
  kSz := kp_is_size _
  bounds := PySem.W.mg_of X G (show PySem.W.nsIn (K21 w.params) mainGlobals "are_bounds" = some (some (.ref 420)) by kernel_rfl)
  kBd := kp_are_bounds _
  begins := PySem.W.mg_of X G (show PySem.W.nsIn (K21 w.params) mainGlobals "begins" = some (some (.ref 427)) by kernel_rfl)
  kBg := kp_begins _
  cond := PySem.W.mg_of X G (show PySem.W.nsIn (K21 w.params) mainGlobals "is_condition" = some (some (.ref 434)) by kernel_rfl)
  kCd := kp_is_condition _
  keep := PySem.W.mg_of X G (show PySem.W.nsIn (K21 w.params) mainGlobals "is_keep" = some (some (.ref 441)) by kernel_rfl)
  kKp := kp_is_keep _
  tuple := PySem.W.mg_none_of X G (show PySem.W.nsIn (K21 w.params) mainGlobals "tuple" = some none by kernel_rfl)
  all := PySem.W.mg_none_of X G (show PySem.W.nsIn (K21 w.params) mainGlobals "all" = some none by kernel_rfl)
  msize := (by
    obtain ⟨t, e⟩ : ∃ t, PySem.W.nsIn (K21 w.params) mainGlobals "MOST_SIZE" = some (some (.int 6 t)) := ⟨tkO (PySem.W.nsIn (K21 w.params) mainGlobals "MOST_SIZE"), by kernel_rfl⟩
    exact ⟨t, PySem.W.mg_of X G e⟩)
  mconds := (by
    obtain ⟨t, e⟩ : ∃ t, PySem.W.nsIn (K21 w.params) mainGlobals "MOST_CONDITIONS" = some (some (.int 3 t)) := ⟨tkO (PySem.W.nsIn (K21 w.params) mainGlobals "MOST_CONDITIONS"), by kernel_rfl⟩
    exact ⟨t, PySem.W.mg_of X G e⟩)
  mend := (by
    obtain ⟨t, e⟩ : ∃ t, PySem.W.nsIn (K21 w.params) mainGlobals "MOST_ENDING" = some (some (.int 2 t)) := ⟨tkO (PySem.W.nsIn (K21 w.params) mainGlobals "MOST_ENDING"), by kernel_rfl⟩
    exact ⟨t, PySem.W.mg_of X G e⟩)
theorem txY : TxY (K21 w.params) mg 357 446 453 465 ca21 where
  needB := PySem.W.mg_of X G (show PySem.W.nsIn (K21 w.params) mainGlobals "need_base" = some (some (.ref 357)) by kernel_rfl)
  kNB := kp_need_base _
  rule := PySem.W.mg_of X G (show PySem.W.nsIn (K21 w.params) mainGlobals "is_rule" = some (some (.ref 446)) by kernel_rfl)
  kRl := kp_is_rule _
  needR := PySem.W.mg_of X G (show PySem.W.nsIn (K21 w.params) mainGlobals "need_rules" = some (some (.ref 453)) by kernel_rfl)
  kNR := kp_need_rules _
  plain := PySem.W.mg_of X G (show PySem.W.nsIn (K21 w.params) mainGlobals "plain_rule" = some (some (.ref 465)) by kernel_rfl)
  kPl := kp_plain_rule _
  badRule := PySem.W.mg_of X G (show PySem.W.nsIn (K21 w.params) mainGlobals "BadRule" = some (some (.ref 137)) by kernel_rfl)
  len := PySem.W.mg_none_of X G (show PySem.W.nsIn (K21 w.params) mainGlobals "len" = some none by kernel_rfl)
  tuple := PySem.W.mg_none_of X G (show PySem.W.nsIn (K21 w.params) mainGlobals "tuple" = some none by kernel_rfl)
  enum := PySem.W.mg_none_of X G (show PySem.W.nsIn (K21 w.params) mainGlobals "enumerate" = some none by kernel_rfl)
  isi := PySem.W.mg_none_of X G (show PySem.W.nsIn (K21 w.params) mainGlobals "isinstance" = some none by kernel_rfl)
  sup := PySem.W.mg_none_of X G (show PySem.W.nsIn (K21 w.params) mainGlobals "super" = some none by kernel_rfl)
  list := PySem.W.mg_none_of X G (show PySem.W.nsIn (K21 w.params) mainGlobals "list" = some none by kernel_rfl)
  mrules := (by
    obtain ⟨t, e⟩ : ∃ t, PySem.W.nsIn (K21 w.params) mainGlobals "MOST_RULES" = some (some (.int 8 t)) := ⟨tkO (PySem.W.nsIn (K21 w.params) mainGlobals "MOST_RULES"), by kernel_rfl⟩
    exact ⟨t, PySem.W.mg_of X G e⟩)
theorem txFa : TxFa (K21 w.params) mg 371 385 406 392 399 where
  needR := PySem.W.mg_of X G (show PySem.W.nsIn (K21 w.params) mainGlobals "need_range" = some (some (.ref 371)) by kernel_rfl)
  kNR := kp_need_range _
  digits := PySem.W.mg_of X G (show PySem.W.nsIn (K21 w.params) mainGlobals "digits" = some (some (.ref 385)) by kernel_rfl)
  kDg := kp_digits _
  near := PySem.W.mg_of X G (show PySem.W.nsIn (K21 w.params) mainGlobals "near" = some (some (.ref 406)) by kernel_rfl)
  kNe := kp_near _
  length := PySem.W.mg_of X G (show PySem.W.nsIn (K21 w.params) mainGlobals "length" = some (some (.ref 392)) by kernel_rfl)
  kLe := kp_length _
  changed := PySem.W.mg_of X G (show PySem.W.nsIn (K21 w.params) mainGlobals "changed" = some (some (.ref 399)) by kernel_rfl)
  kCh := kp_changed _
  len := PySem.W.mg_none_of X G (show PySem.W.nsIn (K21 w.params) mainGlobals "len" = some none by kernel_rfl)
  mend := (by
    obtain ⟨t, e⟩ : ∃ t, PySem.W.nsIn (K21 w.params) mainGlobals "MOST_ENDING" = some (some (.int 2 t)) := ⟨tkO (PySem.W.nsIn (K21 w.params) mainGlobals "MOST_ENDING"), by kernel_rfl⟩
    exact ⟨t, PySem.W.mg_of X G e⟩)
theorem txW : TxW (K21 w.params) mg 479 484 491 where
  holds := PySem.W.mg_of X G (show PySem.W.nsIn (K21 w.params) mainGlobals "holds" = some (some (.ref 479)) by kernel_rfl)
  kHo := kp_holds _
  first := PySem.W.mg_of X G (show PySem.W.nsIn (K21 w.params) mainGlobals "first_applying" = some (some (.ref 484)) by kernel_rfl)
  kFi := kp_first_applying _
  many := PySem.W.mg_of X G (show PySem.W.nsIn (K21 w.params) mainGlobals "many_kept" = some (some (.ref 491)) by kernel_rfl)
  kMa := kp_many_kept _
  len := PySem.W.mg_none_of X G (show PySem.W.nsIn (K21 w.params) mainGlobals "len" = some none by kernel_rfl)
  range := PySem.W.mg_none_of X G (show PySem.W.nsIn (K21 w.params) mainGlobals "range" = some none by kernel_rfl)
  all := PySem.W.mg_none_of X G (show PySem.W.nsIn (K21 w.params) mainGlobals "all" = some none by kernel_rfl)
  min := PySem.W.mg_none_of X G (show PySem.W.nsIn (K21 w.params) mainGlobals "min" = some none by kernel_rfl)
  max := PySem.W.mg_none_of X G (show PySem.W.nsIn (K21 w.params) mainGlobals "max" = some none by kernel_rfl)
theorem txM : TxM (K21 w.params) mg 498 472 385 623 where
  written := PySem.W.mg_of X G (show PySem.W.nsIn (K21 w.params) mainGlobals "written" = some (some (.ref 498)) by kernel_rfl)
  kWr := kp_written _
  facts := PySem.W.mg_of X G (show PySem.W.nsIn (K21 w.params) mainGlobals "facts_of" = some (some (.ref 472)) by kernel_rfl)
  kFa := kp_facts_of _
  digits := PySem.W.mg_of X G (show PySem.W.nsIn (K21 w.params) mainGlobals "digits" = some (some (.ref 385)) by kernel_rfl)
  kDg := kp_digits _
  cl := cl_Style _
  nB := na_Style_stored_base _
  nR := na_Style_stored_rules _
theorem txZ : TxZ (K21 w.params) mg 686 693 700 707 712 719 0 where
  toTxH := txH X G
  chg := PySem.W.mg_of X G (show PySem.W.nsIn (K21 w.params) mainGlobals "_law_changed" = some (some (.ref 700)) by kernel_rfl)
  kLc := kp_l_changed _
  lholds := PySem.W.mg_of X G (show PySem.W.nsIn (K21 w.params) mainGlobals "_law_holds" = some (some (.ref 707)) by kernel_rfl)
  kLh := kp_l_holds _
  lrule := PySem.W.mg_of X G (show PySem.W.nsIn (K21 w.params) mainGlobals "_law_rule" = some (some (.ref 712)) by kernel_rfl)
  kLr := kp_l_rule _
  lkeptBy := PySem.W.mg_of X G (show PySem.W.nsIn (K21 w.params) mainGlobals "_law_kept_by" = some (some (.ref 719)) by kernel_rfl)
  kLb := kp_l_kept_by _
  min := PySem.W.mg_none_of X G (show PySem.W.nsIn (K21 w.params) mainGlobals "min" = some none by kernel_rfl)
  max := PySem.W.mg_none_of X G (show PySem.W.nsIn (K21 w.params) mainGlobals "max" = some none by kernel_rfl)
theorem txSt : TxSt (K21 w.params) mg 378 364 345 632 472 498 639 where
  behind := PySem.W.mg_of X G (show PySem.W.nsIn (K21 w.params) mainGlobals "behind" = some (some (.ref 378)) by kernel_rfl)
  kBe := kp_behind _
  needN := PySem.W.mg_of X G (show PySem.W.nsIn (K21 w.params) mainGlobals "need_number" = some (some (.ref 364)) by kernel_rfl)
  kNN := kp_need_number _
  isNum := PySem.W.mg_of X G (show PySem.W.nsIn (K21 w.params) mainGlobals "is_number" = some (some (.ref 345)) by kernel_rfl)
  kNum := kp_is_number _
  lasts := PySem.W.mg_of X G (show PySem.W.nsIn (K21 w.params) mainGlobals "lasts_of" = some (some (.ref 632)) by kernel_rfl)
  kLa := kp_lasts_of _
  facts := PySem.W.mg_of X G (show PySem.W.nsIn (K21 w.params) mainGlobals "facts_of" = some (some (.ref 472)) by kernel_rfl)
  kFa := kp_facts_of _
  written := PySem.W.mg_of X G (show PySem.W.nsIn (K21 w.params) mainGlobals "written" = some (some (.ref 498)) by kernel_rfl)
  kWr := kp_written _
  stre := PySem.W.mg_of X G (show PySem.W.nsIn (K21 w.params) mainGlobals "stretches" = some (some (.ref 639)) by kernel_rfl)
  kSt := kp_stretches _
  sorted := PySem.W.mg_none_of X G (show PySem.W.nsIn (K21 w.params) mainGlobals "sorted" = some none by kernel_rfl)
  set := PySem.W.mg_none_of X G (show PySem.W.nsIn (K21 w.params) mainGlobals "set" = some none by kernel_rfl)
  len := PySem.W.mg_none_of X G (show PySem.W.nsIn (K21 w.params) mainGlobals "len" = some none by kernel_rfl)
  tuple := PySem.W.mg_none_of X G (show PySem.W.nsIn (K21 w.params) mainGlobals "tuple" = some none by kernel_rfl)
  sup := PySem.W.mg_none_of X G (show PySem.W.nsIn (K21 w.params) mainGlobals "super" = some none by kernel_rfl)
theorem txLd : TxLd (K21 w.params) mg 712 719 0 0 where
  lrule := PySem.W.mg_of X G (show PySem.W.nsIn (K21 w.params) mainGlobals "_law_rule" = some (some (.ref 712)) by kernel_rfl)
  kLr := kp_l_rule _
  lkeptBy := PySem.W.mg_of X G (show PySem.W.nsIn (K21 w.params) mainGlobals "_law_kept_by" = some (some (.ref 719)) by kernel_rfl)
  kLb := kp_l_kept_by _
  range := PySem.W.mg_none_of X G (show PySem.W.nsIn (K21 w.params) mainGlobals "range" = some none by kernel_rfl)
  tuple := PySem.W.mg_none_of X G (show PySem.W.nsIn (K21 w.params) mainGlobals "tuple" = some none by kernel_rfl)
theorem sc_Style_base : FnScope ["self"] ["self"] (defScope (inClass (top 51) 2)) := ⟨rfl, rfl, rfl, by decide +kernel, rfl, by decide +kernel, by decide +kernel⟩
theorem f_Style_base : FnOk P21 w (K21 w.params) mg base CX0 1 527 (fd_Style_base w.params) ["self"] (getSp 623 "stored_base") := fn_getter (N := ["self"]) (lk_Style_base _) (cd_Style_base _) (sc_Style_base X G) rfl rfl (cl_Style _) (na_Style_stored_base _)
theorem sc_Style_rules : FnScope ["self"] ["self"] (defScope (inClass (top 51) 3)) := ⟨rfl, rfl, rfl, by decide +kernel, rfl, by decide +kernel, by decide +kernel⟩
theorem f_Style_rules : FnOk P21 w (K21 w.params) mg base CX0 1 535 (fd_Style_rules w.params) ["self"] (getSp 623 "stored_rules") := fn_getter (N := ["self"]) (lk_Style_rules _) (cd_Style_rules _) (sc_Style_rules X G) rfl rfl (cl_Style _) (na_Style_stored_rules _)
theorem mgStyle : mg "Style" = some (.ref 623) := PySem.W.mg_of X G (show PySem.W.nsIn (K21 w.params) mainGlobals "Style" = some (some (.ref 623)) by kernel_rfl)
theorem f_is_integer : FnOk P21 w (K21 w.params) mg base CX0 1 338 (fd_is_integer w.params) ["value"] (spIsInt (K21 w.params)) := Dg.ok_isInt (fn_is_integer _) (txG X G)
theorem f_is_number : FnOk P21 w (K21 w.params) mg base CX0 2 345 (fd_is_number w.params) ["value"] (spIsNum (K21 w.params)) := Dg.ok_isNum (fn_is_number _) ((f_is_integer X G).mono (by decide)) (bd_is_integer _) (txI X G)
theorem f_need_number : FnOk P21 w (K21 w.params) mg base (L2.CX P21 w) 3 364 (fd_need_number w.params) ["number"] (spNeed (Nm (K21 w.params)) (ca21 2)) := Dg.ok_needN (ca := ca21) (fn_need_number _) ((f_is_number X G).mono (by decide)) (bd_is_number _) (PySem.W.mg_of X G (show PySem.W.nsIn (K21 w.params) mainGlobals "is_number" = some (some (.ref 345)) by kernel_rfl)) (kp_is_number _) (txG X G) (mk2 _) (PySem.W.mg_of X G (show PySem.W.nsIn (K21 w.params) mainGlobals "BadNumber" = some (some (.ref 74)) by kernel_rfl))
theorem f_need_base : FnOk P21 w (K21 w.params) mg base (L2.CX P21 w) 2 357 (fd_need_base w.params) ["base"] (spNeed (Bs (K21 w.params)) (ca21 1)) := Dg.ok_needB (ca := ca21) (fn_need_base _) ((f_is_integer X G).mono (by decide)) (bd_is_integer _) (txI X G) (mk1 _) (PySem.W.mg_of X G (show PySem.W.nsIn (K21 w.params) mainGlobals "BadBase" = some (some (.ref 53)) by kernel_rfl))
theorem f_digits : FnOk P21 w (K21 w.params) mg base (L2.CX P21 w) 4 385 (fd_digits w.params) ["base", "number"] (spDigits (K21 w.params) ca21) := Dg.ok_digits (ca := ca21) (fn_digits _) ((f_need_base X G).mono (by decide)) (bd_need_base _) ((f_need_number X G).mono (by decide)) (bd_need_number _) (txF X G)
theorem f_length : FnOk P21 w (K21 w.params) mg base (L2.CX P21 w) 5 392 (fd_length w.params) ["base", "number"] (spLength (K21 w.params) ca21) := Dg.ok_length (ca := ca21) (fn_length _) ((f_digits X G).mono (by decide)) (bd_digits _) (txF X G)
theorem f_is_figures : FnOk P21 w (K21 w.params) mg base CX0 1 350 (fd_is_figures w.params) ["base", "value", "most"] (spIsFig (K21 w.params)) := Dg.ok_isFig (fn_is_figures _) (txG X G) (PySem.W.mg_none_of X G (show PySem.W.nsIn (K21 w.params) mainGlobals "all" = some none by kernel_rfl))
theorem f_l_mixed : FnOk P21 w (K21 w.params) mg base CX0 1 653 (fd_l_mixed w.params) ["cell", "k"] Dr.spMixed := Dr.ok_mixed (fn_l_mixed _) (txB X G)
theorem f_l_begin : FnOk P21 w (K21 w.params) mg base CX0 1 658 (fd_l_begin w.params) ["script"] (Dr.spBegin (K21 w.params)) := Dr.ok_begin (fn_l_begin _) (txB X G)
theorem f_l_draw : FnOk P21 w (K21 w.params) mg base CX0 2 665 (fd_l_draw w.params) ["state", "many"] Dr.spDraw := Dr.ok_draw (fn_l_draw _) (fn_l_mixed _) (bd_l_mixed _) (txD X G)
theorem f_l_of : FnOk P21 w (K21 w.params) mg base CX0 3 672 (fd_l_of w.params) ["state", "some"] Dr.spOf := Dr.ok_of (fdm := fd_l_mixed w.params) (fn_l_of _) ((f_l_draw X G).mono (by decide)) (bd_l_draw _) (txO X G)
theorem f_l_digits : FnOk P21 w (K21 w.params) mg base CX0 1 686 (fd_l_digits w.params) ["base", "number"] spLDigits := Dg.ok_ldigits (fn_l_digits _) (PySem.W.mg_none_of X G (show PySem.W.nsIn (K21 w.params) mainGlobals "int" = some none by kernel_rfl))
theorem f_l_power : FnOk P21 w (K21 w.params) mg base CX0 1 693 (fd_l_power w.params) ["base", "many"] spLPower := Dg.ok_lpower (fn_l_power _) (PySem.W.mg_none_of X G (show PySem.W.nsIn (K21 w.params) mainGlobals "range" = some none by kernel_rfl))
theorem f_need_range : FnOk P21 w (K21 w.params) mg base (L2.CX P21 w) 3 371 (fd_need_range w.params) ["first", "second"] (spNeedR (K21 w.params) ca21) := Dg.ok_needR (ca := ca21) (fn_need_range _) ((f_is_number X G).mono (by decide)) (bd_is_number _) (txF3 X G) (mk4 _) (PySem.W.mg_of X G (show PySem.W.nsIn (K21 w.params) mainGlobals "BadRange" = some (some (.ref 116)) by kernel_rfl))
theorem f_changed : FnOk P21 w (K21 w.params) mg base (L2.CX P21 w) 4 399 (fd_changed w.params) ["base", "first", "second"] (spRng (K21 w.params) ca21 ChgIs) := Dg.ok_changed (ca := ca21) (fn_changed _) ((f_need_base X G).mono (by decide)) (bd_need_base _) ((f_need_range X G).mono (by decide)) (bd_need_range _) (txF3 X G)
theorem f_near : FnOk P21 w (K21 w.params) mg base (L2.CX P21 w) 4 406 (fd_near w.params) ["base", "first", "second"] (spRng (K21 w.params) ca21 fun β f s m => NearIs β (s - f) m) := Dg.ok_near (ca := ca21) (fn_near _) ((f_need_base X G).mono (by decide)) (bd_need_base _) ((f_need_range X G).mono (by decide)) (bd_need_range _) (txF3 X G)
theorem f_l_changed : FnOk P21 w (K21 w.params) mg base CX0 2 700 (fd_l_changed w.params) ["base", "first", "second"] spLChg := Dg.ok_lchg (fn_l_changed _) ((f_l_digits X G).mono (by decide)) (bd_l_digits _) (txH X G)
theorem f_is_size : FnOk P21 w (K21 w.params) mg base CX0 2 413 (fd_is_size w.params) ["value", "least"] spSize := Dt.ok_size (fn_is_size _) ((f_is_integer X G).mono (by decide)) (bd_is_integer _) (txI X G) (by
    obtain ⟨t, e⟩ : ∃ t, PySem.W.nsIn (K21 w.params) mainGlobals "MOST_SIZE" = some (some (.int 6 t)) := ⟨tkO (PySem.W.nsIn (K21 w.params) mainGlobals "MOST_SIZE"), by kernel_rfl⟩
    exact ⟨t, PySem.W.mg_of X G e⟩)
theorem f_are_bounds : FnOk P21 w (K21 w.params) mg base CX0 3 420 (fd_are_bounds w.params) ["least", "most"] spBounds := Dt.ok_bounds (fn_are_bounds _) ((f_is_size X G).mono (by decide)) (bd_is_size _) (txR X G)
theorem f_begins : FnOk P21 w (K21 w.params) mg base CX0 1 427 (fd_begins w.params) ["value", "word", "many"] spBegins := Dt.ok_begins (fn_begins _) (txR X G)
theorem f_is_condition : FnOk P21 w (K21 w.params) mg base CX0 4 434 (fd_is_condition w.params) ["base", "value"] spCond := Dt.ok_cond (fn_is_condition _) ((f_is_figures X G).mono (by decide)) (bd_is_figures _) ((f_is_size X G).mono (by decide)) (bd_is_size _) ((f_are_bounds X G).mono (by decide)) (bd_are_bounds _) ((f_begins X G).mono (by decide)) (bd_begins _) (txR X G)
theorem f_is_keep : FnOk P21 w (K21 w.params) mg base CX0 3 441 (fd_is_keep w.params) ["value"] spKeep := Dt.ok_keep (fn_is_keep _) ((f_is_size X G).mono (by decide)) (bd_is_size _) ((f_begins X G).mono (by decide)) (bd_begins _) (txR X G)
theorem f_is_rule : FnOk P21 w (K21 w.params) mg base (L2.CX P21 w) 5 446 (fd_is_rule w.params) ["base", "value"] (spRule (K21 w.params) ca21) := Dt.ok_rule (ca := ca21) (fn_is_rule _) ((f_need_base X G).mono (by decide)) (bd_need_base _) ((f_is_condition X G).mono (by decide)) (bd_is_condition _) ((f_is_keep X G).mono (by decide)) (bd_is_keep _) (txR X G)
theorem f_l_keep : FnOk P21 w (K21 w.params) mg base CX0 3 733 (fd_l_keep w.params) ["state", "most"] spLKeep := Dt.ok_lkeep (fn_l_keep _) ((f_l_draw X G).mono (by decide)) (bd_l_draw _) (txO X G)
theorem f_l_condition : FnOk P21 w (K21 w.params) mg base CX0 3 726 (fd_l_condition w.params) ["state", "base", "most"] spLCond := Dt.ok_lcond (fn_l_condition _) ((f_l_draw X G).mono (by decide)) (bd_l_draw _) (txO X G) (PySem.W.mg_none_of X G (show PySem.W.nsIn (K21 w.params) mainGlobals "range" = some none by kernel_rfl)) (PySem.W.mg_none_of X G (show PySem.W.nsIn (K21 w.params) mainGlobals "min" = some none by kernel_rfl))
theorem f_l_rules : FnOk P21 w (K21 w.params) mg base CX0 4 738 (fd_l_rules w.params) ["state", "base", "most", "many"] spLRules := Dt.ok_lrules (fn_l_rules _) ((f_l_draw X G).mono (by decide)) (bd_l_draw _) (txO X G) ((f_l_condition X G).mono (by decide)) (bd_l_condition _) (PySem.W.mg_of X G (show PySem.W.nsIn (K21 w.params) mainGlobals "_law_condition" = some (some (.ref 726)) by kernel_rfl)) (kp_l_condition _) ((f_l_keep X G).mono (by decide)) (bd_l_keep _) (PySem.W.mg_of X G (show PySem.W.nsIn (K21 w.params) mainGlobals "_law_keep" = some (some (.ref 733)) by kernel_rfl)) (kp_l_keep _) (PySem.W.mg_none_of X G (show PySem.W.nsIn (K21 w.params) mainGlobals "range" = some none by kernel_rfl)) (PySem.W.mg_none_of X G (show PySem.W.nsIn (K21 w.params) mainGlobals "tuple" = some none by kernel_rfl))
theorem f_need_rules : FnOk P21 w (K21 w.params) mg base (L2.CX P21 w) 6 453 (fd_need_rules w.params) ["base", "rules"] (spNeedRules ca21) := Dt.ok_needRules (ca := ca21) (fn_need_rules _) ((f_is_rule X G).mono (by decide)) (bd_is_rule _) (mk5 _) (txY X G)
theorem f_plain_rule : FnOk P21 w (K21 w.params) mg base CX0 1 465 (fd_plain_rule w.params) ["rule"] spPlain := Dt.ok_plain (ca := ca21) (fn_plain_rule _) (txY X G)
theorem f_Style___init__ : FnR P21 w (K21 w.params) mg base (L2.CX P21 w) 7 510 (spInitR (K21 w.params) 623 ca21) := Dt.ok_init (ca := ca21) (lk_Style___init__ _) (cd_Style___init__ _) (cl_Style _) (na_Style_stored_base _) (na_Style_stored_rules _) ((f_need_base X G).mono (by decide)) (bd_need_base _) ((f_need_rules X G).mono (by decide)) (bd_need_rules _) ((f_plain_rule X G).mono (by decide)) (bd_plain_rule _) (txY X G)
theorem f_Style_of : FnOk P21 w (K21 w.params) mg base (L2.CX P21 w) 9 517 (fd_Style_of w.params) ["cls", "base", "rules"] (spOfS (K21 w.params) 623 ca21) := Dt.ok_ofS (ca := ca21) (fn_Style_of _) (mk_Style _) (f_Style___init__ X G) ((f_need_base X G).mono (by decide)) (bd_need_base _) (mk5 _) (txY X G)
theorem f_facts_of : FnOk P21 w (K21 w.params) mg base (L2.CX P21 w) 6 472 (fd_facts_of w.params) ["base", "first", "second"] (spFacts (K21 w.params) ca21) := Dg.ok_facts (ca := ca21) (fn_facts_of _) ((f_need_range X G).mono (by decide)) (bd_need_range _) ((f_digits X G).mono (by decide)) (bd_digits _) ((f_near X G).mono (by decide)) (bd_near _) ((f_length X G).mono (by decide)) (bd_length _) ((f_changed X G).mono (by decide)) (bd_changed _) (txFa X G)
theorem f_holds : FnOk P21 w (K21 w.params) mg base CX0 1 479 (fd_holds w.params) ["condition", "facts"] spHolds := Dt.ok_holds (fn_holds _)
theorem f_first_applying : FnOk P21 w (K21 w.params) mg base CX0 2 484 (fd_first_applying w.params) ["rules", "facts"] spFirst := Dt.ok_first (fn_first_applying _) ((f_holds X G).mono (by decide)) (bd_holds _) (txW X G)
theorem f_many_kept : FnOk P21 w (K21 w.params) mg base CX0 1 491 (fd_many_kept w.params) ["keep", "facts"] spMany := Dt.ok_many (fn_many_kept _) (txW X G)
theorem f_written : FnOk P21 w (K21 w.params) mg base CX0 3 498 (fd_written w.params) ["rules", "facts"] spWritten := Dt.ok_written (fn_written _) ((f_first_applying X G).mono (by decide)) (bd_first_applying _) ((f_many_kept X G).mono (by decide)) (bd_many_kept _) (txW X G)
theorem f_Style_kept : FnOk P21 w (K21 w.params) mg base (L2.CX P21 w) 7 550 (fd_Style_kept w.params) ["self", "first", "second"] (spM (K21 w.params) 623 ca21 fun β f s Ds => .int (keptD β f s Ds : Int)) := Dt.ok_keptOf (ca := ca21) (fn_Style_kept _) ((f_written X G).mono (by decide)) (bd_written _) ((f_facts_of X G).mono (by decide)) (bd_facts_of _) (txM X G)
theorem f_Style_tail : FnOk P21 w (K21 w.params) mg base (L2.CX P21 w) 8 557 (fd_Style_tail w.params) ["self", "first", "second"] (spM (K21 w.params) 623 ca21 fun β f s Ds => .str (tailD β f s Ds)) := Dt.ok_tailOf (ca := ca21) (fn_Style_tail _) (mt_Style_kept _) ((f_Style_kept X G).mono (by decide)) (bd_Style_kept _) ((f_digits X G).mono (by decide)) (bd_digits _) (txM X G)
theorem f_Style___call__ : FnOk P21 w (K21 w.params) mg base (L2.CX P21 w) 9 564 (fd_Style___call__ w.params) ["self", "first", "second"] (spM (K21 w.params) 623 ca21 fun β f s Ds => .str (formD β f s Ds)) := Dt.ok_callOf (ca := ca21) (fn_Style___call__ _) (mt_Style_tail _) ((f_Style_tail X G).mono (by decide)) (bd_Style_tail _) ((f_digits X G).mono (by decide)) (bd_digits _) (txM X G)
theorem f_l_holds : FnOk P21 w (K21 w.params) mg base CX0 3 707 (fd_l_holds w.params) ["base", "condition", "first", "second"] spLHolds := Dt.ok_lholds (fn_l_holds _) ((f_l_digits X G).mono (by decide)) (bd_l_digits _) ((f_l_power X G).mono (by decide)) (bd_l_power _) ((f_l_changed X G).mono (by decide)) (bd_l_changed _) (txZ X G)
theorem f_l_rule : FnG P21 w (K21 w.params) mg base CX0 4 712 (fd_l_rule w.params) ["base", "rules", "first", "second"] spLRule := Dt.ok_lrule (fn_l_rule _) ((f_l_holds X G).mono (by decide)) (bd_l_holds _) (txZ X G)
theorem f_l_kept_by : FnOk P21 w (K21 w.params) mg base CX0 3 719 (fd_l_kept_by w.params) ["base", "keep", "first", "second"] spLKeptBy := Dt.ok_lkeptBy (fn_l_kept_by _) ((f_l_digits X G).mono (by decide)) (bd_l_digits _) ((f_l_changed X G).mono (by decide)) (bd_l_changed _) (txZ X G)
theorem f_behind : FnOk P21 w (K21 w.params) mg base CX0 1 378 (fd_behind w.params) ["number", "remainder", "step"] spBehind := Dg.ok_behind (fn_behind _)
theorem f_lasts_of : FnOk P21 w (K21 w.params) mg base CX0 2 632 (fd_lasts_of w.params) ["base", "first", "most"] spLasts := Dt.ok_lasts (fn_lasts_of _) ((f_behind X G).mono (by decide)) (bd_behind _) (txSt X G)
theorem f_stretches : FnOk P21 w (K21 w.params) mg base (L2.CX P21 w) 9 639 (fd_stretches w.params) ["style", "first", "most"] (spStretch (K21 w.params) 623 ca21) := Dt.ok_stretch (ca := ca21) (fn_stretches _) ((f_need_number X G).mono (by decide)) (bd_need_number _) ((f_is_number X G).mono (by decide)) (bd_is_number _) ((f_lasts_of X G).mono (by decide)) (bd_lasts_of _) ((f_written X G).mono (by decide)) (bd_written _) ((f_facts_of X G).mono (by decide)) (bd_facts_of _) (cl_Style _) (pr_Style_base _) ((f_Style_base X G).mono (by decide)) (bd_Style_base _) (pr_Style_rules _) ((f_Style_rules X G).mono (by decide)) (bd_Style_rules _) (mk2 _) (PySem.W.mg_of X G (show PySem.W.nsIn (K21 w.params) mainGlobals "BadNumber" = some (some (.ref 74)) by kernel_rfl)) (txSt X G)
theorem f_total : FnOk P21 w (K21 w.params) mg base (L2.CX P21 w) 10 646 (fd_total w.params) ["style", "first", "most"] (spTotal (K21 w.params) 623 ca21) := Dt.ok_total (ca := ca21) (fn_total _) ((f_stretches X G).mono (by decide)) (bd_stretches _) (txSt X G)
theorem f_l_due : FnG P21 w (K21 w.params) mg base CX0 6 745 (fd_l_due w.params) ["base", "rules", "first", "most"] spLDue := Dt.ok_ldue (fn_l_due _) ((f_l_rule X G).mono (by decide)) (bd_l_rule _) ((f_l_kept_by X G).mono (by decide)) (bd_l_kept_by _) (txLd X G)
theorem f_l_sum : FnOk P21 w (K21 w.params) mg base CX0 1 752 (fd_l_sum w.params) ["first", "rows"] spLSum := Dt.ok_lsum (fn_l_sum _)
end
end KH21

namespace L2
open PySem PySem.Spec PyProof.Rows
theorem fold_sign (c : Nat) : ∀ (n : Nat) (a : Array Nat), (List.replicate n #[c]).foldl (· ++ ·) a = a ++ (List.replicate n c).toArray
  | 0, a => by simp
  | n + 1, a => by
    rw [List.replicate_succ, List.foldl_cons, fold_sign c n, List.replicate_succ]
    apply Array.toList_inj.mp
    simp
/-- a text of one sign times a number -/
theorem op_repS {X : Cx} : OpR X (binaryOp .Mult) (fun x y H Q => ∃ c n : Nat, x = .str ⟨#[c]⟩ ∧ y = .int (n : Int) ∧ 2 ≤ n ∧ n ≤ 100000 ∧ Q (.str ⟨(List.replicate n c).toArray⟩) H) := by
  intro pins s σ H x y v u Q I rx ry h
  obtain ⟨c, n, rfl, rfl, n2, nz, q⟩ := h
  obtain ⟨t, rfl⟩ := rx
  obtain ⟨t', rfl⟩ := ry
  have l1 : (⟨#[c]⟩ : Str).length = 1 := rfl
  refine P.mul_str ?_ (fun _ _ => ?_) (fun _ _ => ?_) ?_
  · rw [decide_eq_false (by omega), decide_eq_false (by omega)]
    rfl
  · rw [l1]
    have : (1 : Int) ≤ (2 ^ 63 - 1) / (n : Int) := by
      rw [Int.le_ediv_iff_mul_le (by omega)]
      omega
    omega
  · rw [l1]
    unfold PySem.Builtin.Str.tooLong
    apply decide_eq_false
    rw [show (1 * (n : Int).toNat) = n by omega]
    have := sizeLine_eq
    omega
  · rw [if_neg (by omega), if_neg (by rw [l1]; simp; omega)]
    rw [show (n : Int).toNat = n by omega, fold_sign]
    refine ⟨?_, .str _, H, I.tok _, ⟨_, rfl⟩, ?_⟩
    · show (#[] ++ (List.replicate n c).toArray).size ≤ sizeLine
      rw [sizeLine_eq]
      simp
      omega
    · simpa using q
end L2

/-! What _law_raised tells of a call that changes things: as in R1, without asking that all stays. -/
namespace Told
open PySem L2 Evl LamR LamX
/-- what _law_raised makes of a lambda's reading, whatever that changes but the own list -/
def TToldM (ca : Nat → Addr) : (XK → Hp → VK → Prop) → Hp → VK → Prop := fun tl H Q => ∀ fl, H fl = none →
  tl (fun cls d H' => H' fl = some (.lst []) ∧ ∃ n vs, Says ca H' cls d n vs ∧ ∀ rt H2, H' rt = none → (∀ b o, H' b = some o → b ≠ fl → H2 b = some o) → H2 rt = some (.tup (.str (wdN n) :: vs)) → Q (.ref rt) H2)
    (upd H fl (.lst [])) (fun v H' => H' fl = some (.lst []) ∧ ∀ rt H2, H' rt = none → Ex H' H2 → H2 rt = some (.tup []) → Q (.ref rt) H2)
section
variable {X : Cx} {q : Str} {g : Addr} {cdg : Value} {ca : Nat → Addr}
theorem raised_givesM (T : TxT X.mg ca) (R : RwT X.K ca) : GivesR X ["asked", "caught", "found", "e"] "_law_raised" (defScope stR) g cdg (defBody stR) "asked" q (TToldM ca) := by
  intro f c' s H Q tl act hc h
  let X0 : Cx := (cxOf C8.CX0 X.prog X.w X.K X.mg X.base ["asked", "caught", "found", "e"] "_law_raised" (defScope stR) g cdg X.A X.stack s H C8.E0).nox
  refine ⟨_, (pss_cons (ps_par (i := 1) (j := 2) (by rfl) scR.nd rfl rfl (by decide) rfl rfl (pa_cons pe_non (pa_cons (pe_lst pa_nil) pa_nil)) (by rfl)) (pss_cons (ps_try_asT (X := X0) (i := 3) (tb := fun W D σ H => σ[0]? = some (some (V.ref f)) ∧ H c' = some (CodeO c' q) ∧ ∃ (E : XK) (Q' : VK), (∀ cls d H', E cls d H' → W cls d σ H') ∧ (∀ v H', Q' v H' → D.nx σ H') ∧ tl E H Q') rfl rfl scR.nd rfl rfl (.cons (by rfl) (T.own 0 (by decide)) (by decide) (.cons (by rfl) (T.own 12 (by decide)) (by decide) (.cons (by rfl) (T.own 13 (by decide)) (by decide) (.cons (by rfl) (T.own 14 (by decide)) (by decide) .nil)))) rfl L2.takes0 (fun W pn xe tk _ => ⟨fun pins s' σ H' D I h' => (pss_one (ps_expr (act W pn xe _ _ tk))).run pins s' σ H' D I (show tDrop (fun σZ HZ Q => σZ[0]? = some (some (V.ref f)) ∧ HZ c' = some (CodeO c' q) ∧ ∃ (E : XK) (Q' : VK), (∀ cls d H', E cls d H' → W cls d σZ H') ∧ (∀ v H', Q' v H' → Q v H') ∧ tl E HZ Q') D σ H' from h')⟩) (fun a oe cls d pn hz hf => pss_one (ps_set (i := 1) scR.nd rfl (.inl rfl) (pv 3)))) (pss_cons (ps_if (pt_cmpR op_isN (pv 1) pe_non (nomark _)) (pss_one (ps_ret (pe_tup pa_nil))) pss_nil) (pss_cut (ps_if (pt_val (pe_callB call_isX (by rfl) T.isi (by decide +kernel) (pa_cons (pv 1) (pa_cons (pe_glob (by rfl) (T.own 1 (by decide)) (v := .ref (ca 1)) rfl) pa_nil)))) (pss_one (ps_expr (pe_bm PySem.F.plainAttrs_list PySem.F.slot_list_append PySem.F.type_list_append mt_append (pv 2) (pa_cons (pe_tup (pa_cons pe_str (pa_cons (pe_xfT (pv 1)) pa_nil))) pa_nil)))) pss_nil) (pss_cut (ps_if (pt_val (pe_callB call_isX (by rfl) T.isi (by decide +kernel) (pa_cons (pv 1) (pa_cons (pe_glob (by rfl) (T.own 2 (by decide)) (v := .ref (ca 2)) rfl) pa_nil)))) (pss_one (ps_expr (pe_bm PySem.F.plainAttrs_list PySem.F.slot_list_append PySem.F.type_list_append mt_append (pv 2) (pa_cons (pe_tup (pa_cons pe_str (pa_cons (pe_xfT (pv 1)) pa_nil))) pa_nil)))) pss_nil) (pss_cut (ps_if (pt_val (pe_callB call_isX (by rfl) T.isi (by decide +kernel) (pa_cons (pv 1) (pa_cons (pe_glob (by rfl) (T.own 3 (by decide)) (v := .ref (ca 3)) rfl) pa_nil)))) (pss_one (ps_expr (pe_bm PySem.F.plainAttrs_list PySem.F.slot_list_append PySem.F.type_list_append mt_append (pv 2) (pa_cons (pe_tup (pa_cons pe_str (pa_cons (pe_xfT (pv 1)) pa_nil))) pa_nil)))) pss_nil) (pss_cut (ps_if (pt_val (pe_callB call_isX (by rfl) T.isi (by decide +kernel) (pa_cons (pv 1) (pa_cons (pe_glob (by rfl) (T.own 4 (by decide)) (v := .ref (ca 4)) rfl) pa_nil)))) (pss_one (ps_expr (pe_bm PySem.F.plainAttrs_list PySem.F.slot_list_append PySem.F.type_list_append mt_append (pv 2) (pa_cons (pe_tup (pa_cons pe_str (pa_cons (pe_xfT (pv 1)) pa_nil))) pa_nil)))) pss_nil) (pss_cut (ps_if (pt_val (pe_callB call_isX (by rfl) T.isi (by decide +kernel) (pa_cons (pv 1) (pa_cons (pe_glob (by rfl) (T.own 5 (by decide)) (v := .ref (ca 5)) rfl) pa_nil)))) (pss_one (ps_expr (pe_bm PySem.F.plainAttrs_list PySem.F.slot_list_append PySem.F.type_list_append mt_append (pv 2) (pa_cons (pe_tup (pa_cons pe_str (pa_cons (pe_xfT (pv 1)) pa_nil))) pa_nil)))) pss_nil) (pss_cut (ps_if (pt_val (pe_callB call_isX (by rfl) T.isi (by decide +kernel) (pa_cons (pv 1) (pa_cons (pe_glob (by rfl) (T.own 6 (by decide)) (v := .ref (ca 6)) rfl) pa_nil)))) (pss_one (ps_expr (pe_bm PySem.F.plainAttrs_list PySem.F.slot_list_append PySem.F.type_list_append mt_append (pv 2) (pa_cons (pe_tup (pa_cons pe_str (pa_cons (pe_xfT (pv 1)) pa_nil))) pa_nil)))) pss_nil) (pss_cut (ps_if (pt_val (pe_callB call_isX (by rfl) T.isi (by decide +kernel) (pa_cons (pv 1) (pa_cons (pe_glob (by rfl) (T.own 7 (by decide)) (v := .ref (ca 7)) rfl) pa_nil)))) (pss_one (ps_expr (pe_bm PySem.F.plainAttrs_list PySem.F.slot_list_append PySem.F.type_list_append mt_append (pv 2) (pa_cons (pe_tup (pa_cons pe_str (pa_cons (pe_xfT (pv 1)) pa_nil))) pa_nil)))) pss_nil) (pss_cut (ps_if (pt_val (pe_callB call_isX (by rfl) T.isi (by decide +kernel) (pa_cons (pv 1) (pa_cons (pe_glob (by rfl) (T.own 8 (by decide)) (v := .ref (ca 8)) rfl) pa_nil)))) (pss_one (ps_expr (pe_bm PySem.F.plainAttrs_list PySem.F.slot_list_append PySem.F.type_list_append mt_append (pv 2) (pa_cons (pe_tup (pa_cons pe_str (pa_cons (pe_xfT (pv 1)) pa_nil))) pa_nil)))) pss_nil) (pss_cut (ps_if (pt_val (pe_callB call_isX (by rfl) T.isi (by decide +kernel) (pa_cons (pv 1) (pa_cons (pe_glob (by rfl) (T.own 9 (by decide)) (v := .ref (ca 9)) rfl) pa_nil)))) (pss_one (ps_expr (pe_bm PySem.F.plainAttrs_list PySem.F.slot_list_append PySem.F.type_list_append mt_append (pv 2) (pa_cons (pe_tup (pa_cons pe_str (pa_cons (pe_xfT (pv 1)) pa_nil))) pa_nil)))) pss_nil) (pss_cut (ps_if (pt_val (pe_callB call_isX (by rfl) T.isi (by decide +kernel) (pa_cons (pv 1) (pa_cons (pe_glob (by rfl) (T.own 10 (by decide)) (v := .ref (ca 10)) rfl) pa_nil)))) (pss_one (ps_expr (pe_bm PySem.F.plainAttrs_list PySem.F.slot_list_append PySem.F.type_list_append mt_append (pv 2) (pa_cons (pe_tup (pa_cons pe_str (pa_cons (pe_xfT (pv 1)) (pa_cons (pe_xfT (pv 1)) pa_nil)))) pa_nil)))) pss_nil) (pss_cut (ps_if (pt_val (pe_callB call_isX (by rfl) T.isi (by decide +kernel) (pa_cons (pv 1) (pa_cons (pe_glob (by rfl) (T.own 11 (by decide)) (v := .ref (ca 11)) rfl) pa_nil)))) (pss_one (ps_expr (pe_bm PySem.F.plainAttrs_list PySem.F.slot_list_append PySem.F.type_list_append mt_append (pv 2) (pa_cons (pe_tup (pa_cons pe_str pa_nil)) pa_nil)))) pss_nil) (pss_cut (ps_if (pt_val (pe_callB call_isX (by rfl) T.isi (by decide +kernel) (pa_cons (pv 1) (pa_cons (pe_glob (by rfl) (T.own 12 (by decide)) (v := .ref (ca 12)) rfl) pa_nil)))) (pss_one (ps_expr (pe_bm PySem.F.plainAttrs_list PySem.F.slot_list_append PySem.F.type_list_append mt_append (pv 2) (pa_cons (pe_tup (pa_cons pe_str (pa_cons (pe_xfT (pv 1)) pa_nil))) pa_nil)))) pss_nil) (pss_cut (ps_if (pt_val (pe_callB call_isX (by rfl) T.isi (by decide +kernel) (pa_cons (pv 1) (pa_cons (pe_glob (by rfl) (T.own 13 (by decide)) (v := .ref (ca 13)) rfl) pa_nil)))) (pss_one (ps_expr (pe_bm PySem.F.plainAttrs_list PySem.F.slot_list_append PySem.F.type_list_append mt_append (pv 2) (pa_cons (pe_tup (pa_cons pe_str (pa_cons (pe_xfT (pv 1)) pa_nil))) pa_nil)))) pss_nil) (pss_cut (ps_if (pt_val (pe_callB call_isX (by rfl) T.isi (by decide +kernel) (pa_cons (pv 1) (pa_cons (pe_glob (by rfl) (T.own 14 (by decide)) (v := .ref (ca 14)) rfl) pa_nil)))) (pss_one (ps_expr (pe_bm PySem.F.plainAttrs_list PySem.F.slot_list_append PySem.F.type_list_append mt_append (pv 2) (pa_cons (pe_tup (pa_cons pe_str pa_nil)) pa_nil)))) pss_nil) (pss_one (ps_ret (pe_ifExp (pt_cmpR op_eq (pe_callB call_len_seq (by rfl) T.len (by decide +kernel) (pa_cons (pv 2) pa_nil)) pe_int (nomark _)) (pe_ix ix_list (pv 2) pe_int (fun _ _ => rfl)) (pe_tup (pa_cons pe_str (pa_cons (pe_callB call_len_seq (by rfl) T.len (by decide +kernel) (pa_cons (pv 2) pa_nil)) pa_nil))))))))))))))))))))))), ?_⟩
  have z0 : (0 : Nat) ≤ sizeLine := Nat.zero_le _
  refine ⟨z0, fun fl hfl => ⟨_, _, rfl, ?_⟩⟩
  refine ⟨rfl, (Ex.new hfl) _ _ hc, _, _, ?hW, ?hQ, h fl hfl⟩
  case hQ =>
    rintro v H' ⟨hfl', k⟩
    refine ⟨_, rfl, rfl, _, rfl, ite2 (fun _ => ?_) (fun z => absurd rfl z)⟩
    exact ⟨z0, fun rt hrt => k rt _ hrt (Ex.new hrt) upd_same⟩
  case hW =>
    rintro cls d H' ⟨hfl', n, vs, ⟨rfl, n1, n14, S⟩, k⟩
    refine ⟨true, R.exm n n1 n14, fun _ a ha => ?_, fun z => nomatch z⟩
    refine ⟨_, rfl, ?_⟩
    refine ⟨_, rfl, rfl, _, rfl, ite2 (fun z => absurd (of_decide_eq_true z) (fun z => nomatch z)) (fun _ => ?_)⟩
    have xH := Ex.new (o := exv a (.ref (ca n)) d) ha
    have hflH : H' fl = some (.lst []) := hfl'
    have afl : a ≠ fl := fun z => by
      rw [z, hflH] at ha
      cases ha
    have dfl : ∀ dd fs, H' dd = some (.xd fs) → dd ≠ fl := fun dd fs e z => by
      rw [z, hflH] at e
      cases e
    have XA : Toy.ExAt (upd H' a (exv a (.ref (ca n)) d)) a (ca n) d ∧ ∀ dd, d = some dd → dd ≠ fl := by
      rcases S with ⟨_, rfl, _⟩ | ⟨_, dd, va, vb, rfl, hd, _⟩ | ⟨_, _, _, dd, v, rfl, hd, _⟩
      · exact ⟨⟨upd_same, fun _ z => nomatch z⟩, fun _ z => nomatch z⟩
      · exact ⟨⟨upd_same, fun dx z => by cases z; exact ⟨_, xH _ _ hd⟩⟩, fun dx z => by cases z; exact dfl _ _ hd⟩
      · exact ⟨⟨upd_same, fun dx z => by cases z; exact ⟨_, xH _ _ hd⟩⟩, fun dx z => by cases z; exact dfl _ _ hd⟩
    obtain ⟨XA, dfl'⟩ := XA
    have m0 : Mid f a fl (upd H' a (exv a (.ref (ca n)) d)) n vs 0 [some (.ref f), some (.ref a), some (.ref fl), none] (upd H' a (exv a (.ref (ca n)) d)) := ⟨rfl, fun b o e _ => e, .inl ⟨n1, xH _ _ hflH⟩⟩
    generalize upd H' a (exv a (.ref (ca n)) d) = H3 at XA m0 xH ⊢
    have one : ∀ i, i = n → i ≠ 10 → i ≠ 11 → i ≠ 14 → ∀ H2 : Hp, (∀ b o, H3 b = some o → b ≠ fl → H2 b = some o) → EvU (tTup (tCons (tC (.str (wdN i))) (tCons (tXfT X.K (fdN i) (tVar 1)) tNil))) [some (.ref f), some (.ref a), some (.ref fl), none] H2 (.str (wdN n) :: vs) := by
      rintro i rfl z10 z11 z14 H2 kp
      rcases S with ⟨z | z, _⟩ | ⟨z, _⟩ | ⟨_, _, _, dd, v, rfl, hd, rfl⟩
      · exact absurd z z11
      · exact absurd z z14
      · exact absurd z z10
      · refine eu_tup (ea_cons ev_c (ea_cons ?_ ea_nil)) (by simp)
        exact Toy.ev_xf (ev_var rfl) (C := ca i) (d := dd) ⟨kp _ _ XA.1 afl, fun dx z => by cases z; exact ⟨_, kp _ _ (xH _ _ hd) (dfl _ _ hd)⟩⟩ (kp _ _ (xH _ _ hd) (dfl _ _ hd)) (R.xc i n1 n14) (R.no i n1 n14 z10 z11 z14) (by simp [List.lookup])
    have ten : 10 = n → ∀ H2 : Hp, (∀ b o, H3 b = some o → b ≠ fl → H2 b = some o) → EvU (tTup (tCons (tC (.str "text")) (tCons (tXfT X.K "line" (tVar 1)) (tCons (tXfT X.K "word" (tVar 1)) tNil)))) [some (.ref f), some (.ref a), some (.ref fl), none] H2 (.str (wdN n) :: vs) := by
      rintro rfl H2 kp
      rcases S with ⟨z | z, _⟩ | ⟨_, dd, va, vb, rfl, hd, rfl⟩ | ⟨z, _⟩
      · omega
      · omega
      · have xa : Toy.ExAt H2 a (ca 10) (some dd) := ⟨kp _ _ XA.1 afl, fun dx z => by cases z; exact ⟨_, kp _ _ (xH _ _ hd) (dfl _ _ hd)⟩⟩
        have hh := kp _ _ (xH _ _ hd) (dfl _ _ hd)
        exact eu_tup (ea_cons ev_c (ea_cons (Toy.ev_xf (ev_var rfl) xa hh (R.xc 10 n1 n14) R.line rfl) (ea_cons (Toy.ev_xf (ev_var rfl) xa hh (R.xc 10 n1 n14) R.word rfl) ea_nil))) (by simp)
      · exact absurd rfl z
    have none_ : ∀ i, i = n → (i = 11 ∨ i = 14) → ∀ H2 : Hp, (∀ b o, H3 b = some o → b ≠ fl → H2 b = some o) → EvU (tTup (tCons (tC (.str (wdN i))) tNil)) [some (.ref f), some (.ref a), some (.ref fl), none] H2 (.str (wdN n) :: vs) := by
      rintro i rfl zi H2 kp
      rcases S with ⟨_, _, rfl⟩ | ⟨z, _⟩ | ⟨_, z2, z3, _⟩
      · exact eu_tup (ea_cons ev_c ea_nil) (by simp)
      · omega
      · omega
    refine q_cut (mid_step (i := 1) R n1 n14 (by decide) (by decide) XA afl dfl' (fun z => one 1 z (by decide) (by decide) (by decide)) m0) (fun σ1 H1' m1 => ?_)
    refine q_cut (mid_step (i := 2) R n1 n14 (by decide) (by decide) XA afl dfl' (fun z => one 2 z (by decide) (by decide) (by decide)) m1) (fun σ2 H2' m2 => ?_)
    refine q_cut (mid_step (i := 3) R n1 n14 (by decide) (by decide) XA afl dfl' (fun z => one 3 z (by decide) (by decide) (by decide)) m2) (fun σ3 H3' m3 => ?_)
    refine q_cut (mid_step (i := 4) R n1 n14 (by decide) (by decide) XA afl dfl' (fun z => one 4 z (by decide) (by decide) (by decide)) m3) (fun σ4 H4' m4 => ?_)
    refine q_cut (mid_step (i := 5) R n1 n14 (by decide) (by decide) XA afl dfl' (fun z => one 5 z (by decide) (by decide) (by decide)) m4) (fun σ5 H5' m5 => ?_)
    refine q_cut (mid_step (i := 6) R n1 n14 (by decide) (by decide) XA afl dfl' (fun z => one 6 z (by decide) (by decide) (by decide)) m5) (fun σ6 H6' m6 => ?_)
    refine q_cut (mid_step (i := 7) R n1 n14 (by decide) (by decide) XA afl dfl' (fun z => one 7 z (by decide) (by decide) (by decide)) m6) (fun σ7 H7' m7 => ?_)
    refine q_cut (mid_step (i := 8) R n1 n14 (by decide) (by decide) XA afl dfl' (fun z => one 8 z (by decide) (by decide) (by decide)) m7) (fun σ8 H8' m8 => ?_)
    refine q_cut (mid_step (i := 9) R n1 n14 (by decide) (by decide) XA afl dfl' (fun z => one 9 z (by decide) (by decide) (by decide)) m8) (fun σ9 H9' m9 => ?_)
    refine q_cut (mid_step (i := 10) R n1 n14 (by decide) (by decide) XA afl dfl' (fun z => ten z) m9) (fun σ10 H10' m10 => ?_)
    refine q_cut (mid_step (i := 11) R n1 n14 (by decide) (by decide) XA afl dfl' (fun z => none_ 11 z (by decide)) m10) (fun σ11 H11' m11 => ?_)
    refine q_cut (mid_step (i := 12) R n1 n14 (by decide) (by decide) XA afl dfl' (fun z => one 12 z (by decide) (by decide) (by decide)) m11) (fun σ12 H12' m12 => ?_)
    refine q_cut (mid_step (i := 13) R n1 n14 (by decide) (by decide) XA afl dfl' (fun z => one 13 z (by decide) (by decide) (by decide)) m12) (fun σ13 H13' m13 => ?_)
    refine q_cut (mid_step (i := 14) R n1 n14 (by decide) (by decide) XA afl dfl' (fun z => none_ 14 z (by decide)) m13) (fun σ14 H14' m14 => ?_)
    obtain ⟨rfl, kp, alt⟩ := m14
    rcases alt with ⟨z, _⟩ | ⟨_, rt, h1, h2, h3⟩
    · omega
    · refine s_ret (v := .ref rt) (ev_if (b := true) (et_is (et_test (ev_op (ev_len (ev_var rfl) (sq_of h2)) ev_c (rv_eq rfl))) (decide_eq_true rfl)) (fun _ => ev_op (ev_var rfl) ev_c (rv_ixL (sq_of h2) (atI_nat (j := 0) rfl))) (fun z => nomatch z)) fun H6 e6 => ?_
      exact k rt H6 (fresh_back xH h1) (fun b o e nb => e6 _ _ (kp b o (xH b o e) nb)) (e6 _ _ h3)
end
end Told

/-! An own object that is called, by names, its reading without the context (so that it may stand in a lambda). -/
namespace L2
open PySem PySem.Spec PyProof.Rows StX
def tCallNm (C : Addr) (sp : Sp) (E : XK) (tf : TE) (t : TA) : TE := fun σ H Q => tf σ H fun y H1 => ∃ a, y = V.ref a ∧ t σ H1 fun vs H2 => (∃ dx fs, H2 a = some (.ins C dx fs)) ∧ sp (V.ref a :: vs) H2 Q E
section
variable {X : Cx} {CX : CXT} {k : Nat} {C : Addr} {sp : Sp} {E : XK} {e fe : Expr} {es : List Expr} {pos : Pos} {g : Addr} {i j l : Nat}
theorem pe_callO3 (h0 : PE X fe (tVar i)) (c : CallO X.K C g) (F : FnR X.prog X.w X.K X.mg X.base CX k g sp) (hr : Room k X.A) (hx : Passes CX X E) (ha : PA X (e :: es) (tCons (tVar j) (tCons (tVar l) tNil)))
    (hev : eval (fe.Call (e :: es) [] pos) X.env = (do
      let fv ← eval fe X.env
      callWith pos fv [] (backTo pos (starEach (e :: es) X.env)) (backToKw pos (keywordEach [] X.env))) := by rfl)
    (he : starEach (e :: es) X.env = (false, eval e X.env) :: starEach es X.env := by rfl) (hpl : ((backTo pos (starEach es X.env)).any fun x => x.1) = false := by rfl) :
    PE X (fe.Call (e :: es) [] pos) (tCallNm C sp E (tVar i) (tCons (tVar j) (tCons (tVar l) tNil))) :=
  ⟨fun pins s σ H Q I h => (pe_callO h0 c F hr hx ha hev he hpl).run pins s σ H Q I (by
    obtain ⟨v, h1, a, h4, w1, h2, w2, h3, hi, hsp⟩ := h
    exact ⟨v, h1, a, h4, w1, h2, w2, h3, .inr hi, hsp⟩)⟩
end
end L2

/-! Data: sums, slices, items, equality, what is shown. -/
namespace Dt
open PySem L2 Evl Dg LamR LamX TL ExM
open Dr (StAt SameB)
theorem djP {K : PySem.W.Frag} {H : Hp} {v : V} {d : PyData} (h : Pt H v d) (k : noK d = true) : Dj K H v d := .di (.dp (h.dp k))
theorem ts_show {d : PyData} {m n : Nat} (t : Ts d m n) (h : m ≤ 16000000) (k : n ≤ 60) : d.showable = true ∧ d.shown.length ≤ sizeLine ∧ d.depth ≤ 60 := by
  obtain ⟨a, b⟩ := shown_cap d t.p
  have := t.c
  have := t.e
  exact ⟨a, by rw [sizeLine_eq]; omega, by omega⟩
section
variable {K : PySem.W.Frag} {σ : St} {H : Hp} {te ta tb tc to : TE} {D e d : PyData} {Ds Es : List PyData} {j : Nat}
theorem ep_catA {ta tb : TE} {Ds Es : List PyData} (ha : EvP ta σ H (.tuple Ds)) (hb : EvP tb σ H (.tuple Es)) (hl : Ds.length + Es.length ≤ 100000) : EvP (tOp (rCatA K) ta tb) σ H (.tuple (Ds ++ Es)) := fun H1 e Q q =>
  ha H1 e _ fun v1 H2 e2 k1 => hb H2 (e.trans e2) _ fun v2 H3 e3 k2 => by
    obtain ⟨a, xs, rfl, h1, ka⟩ := (k1.ex e3).tupI'
    obtain ⟨b, ys, rfl, h2, kb⟩ := k2.tupI'
    exact rd_cat h1 h2 ka kb hl fun c H4 zs e4 h4 kz => q (.ref c) H4 ((e2.trans e3).trans e4) (.tup h4 kz)
theorem EvP.mono {H' : Hp} (e : Ex H H') (h : EvP te σ H d) : EvP te σ H' d := fun H1 e1 Q q => h H1 (e.trans e1) Q q
theorem ev_neP (ha : EvP ta σ H d) (hb : EvP tb σ H e) (kd : noK d = true) (ke : noK e = true) (sd : SeqAt.shaped d = true) (se : SeqAt.shaped e = true) : Ev (tOp (rNeD K) ta tb) σ H (.bl (!PyData.eqv d e)) := fun H1 e1 Q q =>
  ha H1 e1 _ fun v H2 e2 k2 => hb H2 (e1.trans e2) _ fun u H3 e3 k3 => ⟨d, e, (k2.ex e3).dp kd, k3.dp ke, sd, se, q H3 (e2.trans e3)⟩
theorem ev_eqDP (ha : EvP ta σ H d) (hb : EvP tb σ H e) (kd : noK d = true) (ke : noK e = true) (sd : SeqAt.shaped d = true) (se : SeqAt.shaped e = true) : Ev (tOp (rEqD K) ta tb) σ H (.bl (PyData.eqv d e)) := fun H1 e1 Q q =>
  ha H1 e1 _ fun v H2 e2 k2 => hb H2 (e1.trans e2) _ fun u H3 e3 k3 => ⟨d, e, (k2.ex e3).dp kd, k3.dp ke, sd, se, q H3 (e2.trans e3)⟩
theorem ev_reprP {m n : Nat} (h : EvP te σ H d) (kn : noK d = true) (t : Ts d m n) (hm : m ≤ 16000000) (hn : n ≤ 60) : Ev (tCB (rReprJ K) (tCons te tNil)) σ H (.str d.shown) := fun H1 e Q q => by
  obtain ⟨y1, y2, y3⟩ := ts_show t hm hn
  exact h H1 e _ fun v H2 e2 k2 => ⟨v, d, rfl, djP k2 kn, y1, y2, y3, q H2 e2⟩
theorem ep_sl {tlo thi : TO} {lo hi : Option Int} (h : EvP te σ H (.tuple Ds)) (h1 : EvO tlo σ H lo) (h2 : EvO thi σ H hi) : EvP (tSl (rSlA K) te tlo thi) σ H (.tuple (cutD Ds lo hi)) := fun H1 e Q q =>
  h H1 e _ fun v H2 e2 k2 => h1 H2 (e.trans e2) _ fun H3 e3 => h2 H3 ((e.trans e2).trans e3) _ fun H4 e4 => by
    obtain ⟨a, xs, rfl, ha, ka⟩ := ((k2.ex e3).ex e4).tupI'
    exact rd_sl ha ka fun b H5 ys e5 h5 k5 => q (.ref b) H5 (((e2.trans e3).trans e4).trans e5) (.tup h5 k5)
theorem ep_ix (h : EvP te σ H (.tuple Ds)) (h2 : Ev tb σ H (.int (j : Nat))) (hd : Ds[j]? = some d) : EvP (tOp (rIxT K) te tb) σ H d := fun H1 e Q q =>
  h H1 e _ fun v H2 e2 k2 => h2 H2 (e.trans e2) _ fun H3 e3 => by
    obtain ⟨a, xs, rfl, ha, ka⟩ := (k2.ex e3).tupI'
    obtain ⟨u, hu, ku⟩ := ka.get hd
    exact ⟨a, xs, _, u, rfl, rfl, st_of ha, atI_nat hu, q u H3 (e2.trans e3) ku⟩
theorem ptAll_rep {v : V} (k : Pt H v d) : ∀ n : Nat, PtAll H (List.replicate n [v]).flatten (List.replicate n d)
  | 0 => .nil
  | n + 1 => by
    rw [List.replicate_succ, List.replicate_succ, List.flatten_cons]
    exact .cons k (ptAll_rep k n)
theorem ep_rep7 (h : EvP te σ H (.tuple [d])) : EvP (tOp (rRepT K) te (tC (.int 7))) σ H (.tuple (List.replicate 7 d)) := fun H1 e Q q =>
  h H1 e _ fun v H2 e2 k2 => by
    obtain ⟨a, xs, rfl, ha, ka⟩ := k2.tupI'
    cases ka with
    | cons k0 k1 => cases k1 with
      | nil => exact ⟨a, 7, _, rfl, rfl, st_of ha, (by simp), by decide, by decide, by simp, fun p hp => q (.ref p) _ (e2.trans (Ex.new hp)) (.tup upd_same ((ptAll_rep k0 7).ex (Ex.new hp)))⟩
end
theorem cut_lo {Ds : List PyData} {j : Nat} : cutD Ds none (some (j : Int)) = Ds.take j := by
  unfold cutD
  rw [HT.sIx_none, HT.sIx_nat, List.drop_zero, Nat.sub_zero]
  by_cases h : j ≤ Ds.length
  · rw [Nat.min_eq_left h]
  · rw [Nat.min_eq_right (by omega), List.take_of_length_le (Nat.le_refl _), List.take_of_length_le (by omega)]
theorem cut_hi {Ds : List PyData} {j : Nat} : cutD Ds (some (j : Int)) none = Ds.drop j := by
  unfold cutD
  rw [HT.sIx_none, HT.sIx_nat]
  by_cases h : j ≤ Ds.length
  · rw [Nat.min_eq_left h, List.take_of_length_le (by rw [List.length_drop]; omega)]
  · rw [Nat.min_eq_right (by omega), List.drop_of_length_le (Nat.le_refl _), List.drop_of_length_le (by omega)]
    simp
theorem set_cut {α : Type} : ∀ {Ds : List α} {j : Nat} {e : α}, j < Ds.length → Ds.take j ++ [e] ++ Ds.drop (j + 1) = Ds.set j e
  | [], _, _, h => by simp at h
  | a :: Ds, 0, e, _ => by simp
  | a :: Ds, j + 1, e, h => by
    have := set_cut (Ds := Ds) (j := j) (e := e) (by simpa using h)
    simp at this ⊢
    exact this
theorem erase_cut {α : Type} (Ds : List α) (j : Nat) : Ds.take j ++ Ds.drop (j + 1) = Ds.eraseIdx j := (List.eraseIdx_eq_take_drop_succ Ds j).symm
/-- a text's show -/
theorem ts_txt {x : Str} {n : Nat} (h1 : ∀ c ∈ tl x, c < 100) (h2 : x.length ≤ n) : plainD (.str x) ∧ cap (.str x) ≤ 10 * n + 2 := by
  refine ⟨fun c hc => ?_, ?_⟩
  · have := h1 c hc
    have e : (16 : Nat) ^ 8 = 4294967296 := by decide
    omega
  · simp only [cap]
    omega
theorem ev_reprS {K : PySem.W.Frag} {σ : St} {H : Hp} {te : TE} {x : Str} {n : Nat} (h : Ev te σ H (.str x)) (h1 : ∀ c ∈ tl x, c < 100) (h2 : x.length ≤ n) (hn : n ≤ 1000000) : Ev (tCB (rReprJ K) (tCons te tNil)) σ H (.str (PyData.str x).shown) := fun H1 e Q q => by
  obtain ⟨p, c⟩ := ts_txt h1 h2
  obtain ⟨a, b⟩ := shown_cap _ p
  exact h H1 e _ fun H2 e2 => ⟨_, .str x, rfl, .di (.dp (.str x)), a, by rw [sizeLine_eq]; omega, by simp [PyData.depth], q H2 e2⟩
end Dt

/-! Laws with lambdas: the drawer and the tables, what a refused call is read as. -/
namespace Lm
open PySem L2 Evl ExM Dg Dt LamR LamX Told TL
open Dr (StAt SameB)
/-- small data: shown in two thousand signs at most -/
structure Sq (d : PyData) : Prop where
  a : d.showable = true
  b : d.shown.length ≤ 3950
  c : d.depth ≤ 2
theorem sq_plain {d : PyData} (h : plainD d) (hc : cap d ≤ 3950) (c : d.depth ≤ 2) : Sq d := ⟨(shown_cap d h).1, Nat.le_trans (shown_cap d h).2 hc, c⟩
theorem Sq.pair {x : Str} {d : PyData} (hx : (PyData.str x).shown.length ≤ 30) (s : Sq d) : Sm (.tuple [.str x, d]) := by
  refine ⟨?_, ?_, ?_⟩
  · simp [PyData.showable, PyData.showableAll, s.a]
  · have h := join_cap [(PyData.str x).shown, d.shown]
    have e1 : (("(" : Str)).length = 1 := by decide
    have e2 : ((")" : Str)).length = 1 := by decide
    have hs := s.b
    have e3 : (PyData.tuple [.str x, d]).shown = ("(" : Str) ++ Str.join ", " [(PyData.str x).shown, d.shown] ++ (")" : Str) := by
      simp only [PyData.shown, PyData.shownAll, PySem.tupleText]
      rfl
    rw [e3, strLen_append, strLen_append]
    simp only [List.map_cons, List.map_nil, List.sum_cons, List.sum_nil] at h
    omega
  · have := s.c
    simp only [PyData.depth, PyData.depthAll]
    omega
/-- the drawer stands, and so do the tables -/
structure Lw (T : List (Addr × Str)) (p c l : Addr) (n : Nat) (a : Int) (H : Hp) : Prop where
  s : StAt H p c l n a
  t : Tabs T H
section
variable {T : List (Addr × Str)} {p c l : Addr} {n : Nat} {a b : Int} {H H' : Hp}
theorem stAt_extN (S : StAt H p c l n a) (e : ExtN H H') : StAt H' p c l n a :=
  ⟨e _ _ S.d (by simp), let ⟨cs, h, k⟩ := S.c; ⟨cs, e _ _ h (by simp), k⟩, let ⟨ls, h, k⟩ := S.l; ⟨ls, e _ _ h (by simp), k⟩, S.n0, S.n1, S.a0⟩
theorem Lw.ex (L : Lw T p c l n a H) (e : Ex H H') : Lw T p c l n a H' := ⟨L.s.ex e, L.t.ext e⟩
theorem Lw.extN (W : Lw T p c l n a H) (e : ExtN H H') (t : Tabs T H') : Lw T p c l n a H' := ⟨stAt_extN W.s e, t⟩
theorem tabs_same (S : StAt H p c l n a) (t : Tabs T H) (e : Dr.SameB H H' p l) : Tabs T H' := fun q hq => by
  obtain ⟨ls, hl, _⟩ := S.l
  obtain ⟨ps, h1, h2, h3⟩ := t q hq
  refine ⟨ps, e _ _ h1 (ne_of h1 S.d (by intro z; cases z)) (ne_of h1 hl (by intro z; cases z)), h2, fun pos cv hc => ?_⟩
  obtain ⟨co, e1, e2⟩ := h3 pos cv hc
  exact ⟨co, e1, e _ _ e2 (ne_of e2 S.d (by intro z; cases z)) (ne_of e2 hl (by intro z; cases z))⟩
theorem Lw.same (L : Lw T p c l n a H) (S : StAt H' p c l n b) (e : Dr.SameB H H' p l) : Lw T p c l n b H' := ⟨S, tabs_same L.s L.t e⟩
theorem Lw.off (L : Lw T p c l n a H) {x : Addr} (h : H x = none) : x ≠ p ∧ x ≠ l := by
  obtain ⟨ls, hl, _⟩ := L.s.l
  exact ⟨(ne_of_none L.s.d h).symm, (ne_of_none hl h).symm⟩
end
/-- what stands when one empty list goes on to be filled -/
def KeepsA (A : List V → Hp → Prop) : Prop := ∀ vs H H2 fl, A vs H → H fl = some (.lst []) → (∀ b o, H b = some o → b ≠ fl → H2 b = some o) → A vs H2
section
variable {K : PySem.W.Frag} {ca : Nat → Addr} {T : List (Addr × Str)} {t : XK → TE} {σ : St} {H : Hp} {Q : VK} {n : Nat} {A : List V → Hp → Prop}
/-- the lambda raises: the word and what the exception holds stand in a new tuple -/
theorem rd_raisedA (hT : Tabs T H) (kA : KeepsA A) (call : ∀ H1, ExtN H H1 → ∀ HZ, Ex H1 HZ → ∀ (E : XK) (Q' : VK), (∀ cls d H2 vs, Ex HZ H2 → Says ca H2 cls d n vs → A vs H2 → E cls d H2) → t E σ HZ Q')
    (k : ∀ vs rt H2, ExtN H H2 → Tabs T H2 → A vs H2 → H2 rt = some (.tup (.str (wdN n) :: vs)) → Q (.ref rt) H2) : tLam T (TTold ca) t σ H Q :=
  ⟨hT, fun H1 e1 T1 fl hfl => call H1 e1 _ (Ex.new hfl) _ _ fun cls d H2 vs e2 S a => ⟨e2, n, vs, S, fun rt H3 _ kp h3 => by
    have all : ∀ b o, H1 b = some o → H3 b = some o := fun b o e => kp b o (e2 b o ((Ex.new hfl) b o e)) (ne_of_none e hfl)
    exact k vs rt H3 (fun b o e nt => all b o (e1 b o e nt)) (T1.ext all) (kA vs H2 H3 fl a (e2 _ _ upd_same) kp) h3⟩⟩
theorem says_one {H : Hp} {d : Addr} {i : Nat} {v : V} (i1 : 1 ≤ i) (i14 : i ≤ 14) (z10 : i ≠ 10) (z11 : i ≠ 11) (z14 : i ≠ 14) (h : H d = some (.xd [(fdN i, v)])) : Says ca H (.ref (ca i)) (some d) i [v] :=
  ⟨rfl, i1, i14, .inr (.inr ⟨z10, z11, z14, d, v, rfl, h, rfl⟩)⟩
/-- the value itself -/
def Is1 (v : V) : List V → Hp → Prop := fun vs _ => vs = [v]
theorem is1_keeps (v : V) : KeepsA (Is1 v) := fun _ _ _ _ h _ _ => h
theorem leaves_of {HZ : Hp} {E : XK} {i : Nat} {v : V} (i1 : 1 ≤ i) (i14 : i ≤ 14) (z10 : i ≠ 10) (z11 : i ≠ 11) (z14 : i ≠ 14) (hf : fdN i = "value") (hE : ∀ cls d H2 vs, Ex HZ H2 → Says ca H2 cls d i vs → Is1 v vs H2 → E cls d H2) : Leaves (ca i) "value" v HZ E := fun H2 d e hd =>
  hE _ _ _ [v] (e.trans (Ex.new hd)) (says_one i1 i14 z10 z11 z14 (by rw [hf]; exact upd_same)) rfl
end
section
variable {K : PySem.W.Frag} {ca : Nat → Addr} {T : List (Addr × Str)} {t : XK → TE} {σ : St} {H : Hp} {Q : VK}
theorem leavesF_of {HZ : Hp} {E : XK} {i : Nat} {v : V} {f : Str} (i1 : 1 ≤ i) (i14 : i ≤ 14) (z10 : i ≠ 10) (z11 : i ≠ 11) (z14 : i ≠ 14) (hf : fdN i = f) (hE : ∀ cls d H2 vs, Ex HZ H2 → Says ca H2 cls d i vs → Is1 v vs H2 → E cls d H2) : Leaves (ca i) f v HZ E := fun H2 d e hd =>
  hE _ _ _ [v] (e.trans (Ex.new hd)) (says_one i1 i14 z10 z11 z14 (by rw [hf]; exact upd_same)) rfl
/-- the lambda comes back: an empty tuple -/
theorem rd_back (hT : Tabs T H) (call : ∀ H1, ExtN H H1 → ∀ HZ, Ex H1 HZ → ∀ (E : XK) (Q' : VK), (∀ v H2, Ex HZ H2 → Q' v H2) → t E σ HZ Q') (k : ∀ rt H2, ExtN H H2 → Tabs T H2 → H2 rt = some (.tup []) → Q (.ref rt) H2) : tLam T (TTold ca) t σ H Q :=
  ⟨hT, fun H1 e1 T1 fl hfl => call H1 e1 _ (Ex.new hfl) _ _ fun v H2 e2 => ⟨e2, fun rt H3 nrt e3 h3 => by
    have all : Ex H1 H3 := ((Ex.new hfl).trans e2).trans e3
    exact k rt H3 (e1.trans (ExtN.of all)) (T1.ext all) h3⟩⟩
end
theorem sm_sz {d : PyData} (s : Sm d) : d.showable = true ∧ d.shown.length ≤ sizeLine ∧ d.depth ≤ 60 := ⟨s.a, Nat.le_trans s.b (by rw [sizeLine_eq]; decide), Nat.le_trans s.c (by decide)⟩
section
variable {K : PySem.W.Frag} {ca : Nat → Addr} {T : List (Addr × Str)} {t : XK → TE} {σ : St} {H : Hp} {Q : VK}
/-- the lambda is refused: the word and the value -/
theorem rd_leafP {n : Nat} {v : V} {d : PyData} (n1 : 1 ≤ n) (n14 : n ≤ 14) (z10 : n ≠ 10) (z11 : n ≠ 11) (z14 : n ≠ 14) (hw : (wdN n).length ≤ 3000) (hT : Tabs T H) (kv : Pt H v d) (call : ∀ H1, ExtN H H1 → ∀ HZ, Ex H1 HZ → ∀ (E : XK) (Q' : VK), Leaves (ca n) (fdN n) v HZ E → t E σ HZ Q')
    (k : ∀ rt H2, ExtN H H2 → Tabs T H2 → Pt H2 (.ref rt) (.tuple [.str (wdN n), d]) → Q (.ref rt) H2) : tLam T (TTold ca) t σ H Q := by
  refine rd_raisedA (n := n) (A := Is1 v) hT (is1_keeps v) (fun H1 f1 HZ eZ E Q' hE => call H1 f1 HZ eZ E Q' ?_) fun vs1 r1 H1 x1 T1 a1 g1 => ?_
  · exact leavesF_of n1 n14 z10 z11 z14 rfl hE
  · have a1' : vs1 = [v] := a1
    subst a1'
    exact k r1 H1 x1 T1 (.tup g1 (.cons (.str _ hw) (.cons (kv.extN x1) .nil)))
/-- if repr(the refused call) != repr((word, value)): return False; it goes on -/
theorem s_told {D : Ends} {tl te : TE} {tu : TS} {w : Str} {v : V} {d : PyData} (hl : ∀ Q : VK, (∀ rt H2, ExtN H H2 → Tabs T H2 → Pt H2 (.ref rt) (.tuple [.str w, d]) → Q (.ref rt) H2) → tl σ H Q)
    (he : ∀ H2, ExtN H H2 → Ev te σ H2 v) (kv : Pt H v d) (kn : noK d = true) (sq : Sq d) (hw : (PyData.str w).shown.length ≤ 30) (hwl : w.length ≤ 3000) (k : ∀ H2, ExtN H H2 → Tabs T H2 → D.nx σ H2) :
    tIfS (tTest (tOp rNe (tCB (rReprJ K) (tCons tl tNil)) (tCB (rReprJ K) (tCons (tTup (tCons (tC (.str w)) (tCons te tNil))) tNil)))) tu tNext D σ H := by
  have sp := sq.pair (x := w) hw
  obtain ⟨y1, y2, y3⟩ := sm_sz sp
  have kk : noK (.tuple [.str w, d]) = true := by
    rw [noK, noKs, noKs, kn]
    rfl
  refine hl _ fun rt H2 x2 T2 k2 => ⟨.ref rt, .tuple [.str w, d], rfl, djP k2 kk, y1, y2, y3, he H2 x2 H2 (Ex.refl _) _ fun H3 e3 => ⟨(by show (2:Nat) ≤ sizeLine; rw [sizeLine_eq]; omega), fun t3 nt3 => ?_⟩⟩
  have f4 := Ex.new (o := .tup [.str w, v]) nt3
  refine ⟨.ref t3, .tuple [.str w, d], rfl, djP (.tup upd_same (.cons (.str _ hwl) (.cons (kv.extN ((x2.trans (ExtN.of e3)).trans (ExtN.of f4))) .nil))) kk, y1, y2, y3, rfl, _, rfl, ?_⟩
  rw [decide_eq_true rfl]
  exact k _ ((x2.trans (ExtN.of e3)).trans (ExtN.of f4)) ((T2.ext e3).ext f4)
/-- for x in a tuple of data: each turn keeps all but the tables -/
theorem s_odds {D : Ends} {te : TE} {tu : TS} {j : Nat} {ds : List PyData} (σf : Option V → St) (x0 : Option V) (hσ : ∀ x v, (σf x).set j (some v) = σf (some v)) (h : EvP te (σf x0) H (.tuple ds)) (hT : Tabs T H)
    (turn : ∀ (D' : Ends) (i : Nat) (d : PyData) (v : V) (H1 : Hp), ds[i]? = some d → ExtN H H1 → Tabs T H1 → Pt H1 v d → (∀ H2, ExtN H1 H2 → Tabs T H2 → D'.nx (σf (some v)) H2) → tu D' (σf (some v)) H1)
    (after : ∀ x H1, ExtN H H1 → Tabs T H1 → D.nx (σf x) H1) : tFor (iTup K te) (gName j) tu D (σf x0) H := by
  refine h H (Ex.refl H) _ fun v H1 e1 k1 => ?_
  obtain ⟨a, xs, rfl, ha, kx⟩ := k1.tupI'
  refine ⟨a, rfl, ⟨xs, st_of ha⟩, for_tup (xs := xs) (fun i σ' H' => (∃ x, σ' = σf x) ∧ ExtN H1 H' ∧ Tabs T H') ⟨⟨x0, rfl⟩, ExtN.refl _, hT.ext e1⟩ (fun i σ' H' _ hI => st_of (hI.2.1 _ _ ha (by simp))) (fun i x σ' H' hx hI => ?_) (fun σ' H' hI => ?_)⟩
  · obtain ⟨⟨y, rfl⟩, x2, T2⟩ := hI
    obtain ⟨d, hd, kd⟩ := kx.get2 hx
    show tu _ ((σf y).set j (some x)) H'
    rw [hσ]
    exact turn _ i d x H' hd ((ExtN.of e1).trans x2) T2 (kd.extN x2) fun H2 x3 T3 => ⟨⟨_, rfl⟩, x2.trans x3, T3⟩
  · obtain ⟨⟨y, rfl⟩, x2, T2⟩ := hI
    exact after y H' ((ExtN.of e1).trans x2) T2
end
end Lm

/-! Odd things that a law passes: none, truth values, whole numbers, texts, flat tuples and lists of whole numbers. -/
namespace Ov
open PySem L2 Evl ExM Dg LamR LamX Told
open Dr (StAt)
/-- a thing that the law passes -/
inductive Pv (H : Hp) : V → PyData → Prop
  | non : Pv H .non .none
  | bl (b : Bool) : Pv H (.bl b) (.bool b)
  | int (i : Int) : Pv H (.int i) (.int i)
  | str (x : Str) : Pv H (.str x) (.str x)
  | tup {a : Addr} {is : List Int} : H a = some (.tup (is.map V.int)) → Pv H (.ref a) (.tuple (is.map PyData.int))
  | lst {a : Addr} {is : List Int} : H a = some (.lst (is.map V.int)) → Pv H (.ref a) (.list (is.map PyData.int))
  | pair {a : Addr} {v u : V} {d e : PyData} : H a = some (.tup [v, u]) → Pv H v d → Pv H u e → Pv H (.ref a) (.tuple [d, e])
theorem Pv.extN {H H' : Hp} {v : V} {d : PyData} (h : Pv H v d) (e : ExtN H H') : Pv H' v d := by
  induction h with
  | non => exact .non
  | bl b => exact .bl b
  | int i => exact .int i
  | str x => exact .str x
  | tup h => exact .tup (e _ _ h (by simp))
  | lst h => exact .lst (e _ _ h (by simp))
  | pair h _ _ i1 i2 => exact .pair (e _ _ h (by simp)) i1 i2
theorem Pv.ex {H H' : Hp} {v : V} {d : PyData} (h : Pv H v d) (e : Ex H H') : Pv H' v d := h.extN (ExtN.of e)
section
variable {K : PySem.W.Frag} {H : Hp} {v : V} {d : PyData}
theorem dpAll_ints : ∀ is : List Int, DpAll K H (is.map V.int) (is.map PyData.int)
  | [] => .nil
  | i :: is => .cons (.int i) (dpAll_ints is)
theorem Pv.dp (h : Pv H v d) : Dp K H v d := by
  induction h with
  | non => exact .non
  | bl b => exact .bl b
  | int i => exact .int i
  | str x => exact .str x
  | tup h => exact .tup (st_of h) (dpAll_ints _)
  | lst h => exact .lst (sq_of h) (dpAll_ints _)
  | pair h _ _ i1 i2 => exact .tup (st_of h) (.cons i1 (.cons i2 .nil))
theorem Pv.dj (h : Pv H v d) : Dj K H v d := .di (.dp h.dp)
/-- no int -/
def isI : PyData → Bool
  | .int _ => true
  | _ => false
theorem Pv.kn (h : Pv H v d) (n : isI d = false) : Kn K H v false := by
  cases h with
  | non => exact .oth (x := false) (y := false) (.base .non) (by decide) (by decide) rfl
  | bl b => exact .oth (x := true) (y := true) (.base (.bl b)) (by decide) (by decide) rfl
  | int i => cases n
  | str x => exact .oth (x := false) (y := false) (.base (.str x)) (by decide) (by decide) rfl
  | tup h => exact .oth (x := false) (y := false) (.base (.tup h)) (by decide) (by decide) rfl
  | lst h => exact .oth (x := false) (y := false) (.base (.lst h)) (by decide) (by decide) rfl
  | pair h _ _ => exact .oth (x := false) (y := false) (.base (.tup h)) (by decide) (by decide) rfl
/-- no base -/
def noB : PyData → Bool
  | .int i => !(decide (2 ≤ i) && decide (i ≤ 10))
  | _ => true
/-- no number -/
def noN : PyData → Bool
  | .int i => !decide (1 ≤ i)
  | _ => true
theorem Pv.bs (h : Pv H v d) (n : noB d = true) : Bs K H v false := by
  cases hd : isI d with
  | false => exact .oth (h.kn hd)
  | true =>
    cases h with
    | int i =>
      have e : (decide (2 ≤ i) && decide (i ≤ 10)) = false := by
        cases z : (decide (2 ≤ i) && decide (i ≤ 10)) with
        | false => rfl
        | true =>
          rw [noB, z] at n
          cases n
      rw [← e]
      exact .int i
    | _ => cases hd
theorem Pv.nm (h : Pv H v d) : Nm K H v (!noN d) := by
  cases hd : isI d with
  | false =>
    have e : (!noN d) = false := by
      cases d <;> first | rfl | cases hd
    rw [e]
    exact .oth (h.kn hd)
  | true =>
    cases h with
    | int i =>
      have e : (!noN (.int i)) = decide (1 ≤ i) := by simp [noN]
      rw [e]
      exact .int i
    | _ => cases hd
end
theorem Pv.updL {H : Hp} {x r : Addr} {vs zs : List V} {v : V} {d : PyData} (k : Pv H v d) (h : H x = some (.lst (.ref r :: vs))) : Pv (upd H x (.lst zs)) v d := by
  induction k with
  | non => exact .non
  | bl b => exact .bl b
  | int i => exact .int i
  | str x => exact .str x
  | tup k => exact .tup (by rw [upd_ne (ne_of k h (by intro z; cases z))]; exact k)
  | @lst a is k =>
    refine .lst (is := is) ?_
    rw [upd_ne (fun z => ?_)]
    · exact k
    · rw [z, h] at k
      injection k with k
      injection k with k
      cases is <;> cases k
  | pair k _ _ i1 i2 => exact .pair (by rw [upd_ne (ne_of k h (by intro z; cases z))]; exact k) i1 i2
end Ov

namespace KH21
open PySem L2 Evl Dg Dt LamR LamX TL StX ClX ExM Told Lm Ov
open Dr (StAt SameB)
abbrev sLaw : Stmt := top 73
abbrev nLaw : List Str := ["script", "state", "turn", "base", "rules", "first", "k", "most", "style", "due", "one", "other", "told", "pages"]
theorem scLaw : FnScope nLaw ["script"] (defScope sLaw) := ⟨rfl, rfl, rfl, by decide +kernel, rfl, by decide +kernel, by decide +kernel⟩
def inLaw (i : Nat) : Stmt := (defBody sLaw).getD i (.Pass ⟨0, 0, 0, 0⟩)
/-- a statement of the law's loop, by its place -/
def inLoop (i : Nat) : Stmt := match inLaw 1 with
  | .For _ _ b _ _ => b.getD i (.Pass ⟨0, 0, 0, 0⟩)
  | s => s
noncomputable abbrev XL (w : World) (mg : Str → Option Value) (base : Heap) (A : Around) (outer : List Env) (s : Shared) (H : Hp) (E : XK) : Cx := (cxOf CX0 P21 w (K21 w.params) mg base nLaw "law" (defScope sLaw) 759 (.ref 758) A outer s H E).nox
structure TxL (mg : Str → Option Value) : Prop where
  l_begin : mg "_law_begin" = some (.ref 658)
  l_draw : mg "_law_draw" = some (.ref 665)
  l_due : mg "_law_due" = some (.ref 745)
  l_of : mg "_law_of" = some (.ref 672)
  l_raised : mg "_law_raised" = some (.ref 679)
  l_rules : mg "_law_rules" = some (.ref 738)
  l_sum : mg "_law_sum" = some (.ref 752)
  stretches : mg "stretches" = some (.ref 639)
  total : mg "total" = some (.ref 646)
  len : mg "len" = none
  min : mg "min" = none
  max : mg "max" = none
  range : mg "range" = none
  repr : mg "repr" = none
structure Rm (w : World) (mg : Str → Option Value) (base : Heap) (A : Around) (outer : List Env) (s : Shared) (H : Hp) (E : XK) (T : List (Addr × Str)) : Prop where
  hr : RoomG 16 (XL w mg base A outer s H E).A
  hu64 : (XL w mg base A outer s H E).A.units + 64 < cLine
  TB : TabB base mg 758 754
  hT : (754, ("law.<locals>.<lambda>" : Str)) ∈ T
  hu : ∀ p ∈ T, p.1 = 754 → p.2 = ("law.<locals>.<lambda>" : Str)
/-- the style, its rules, the numbers -/
structure Sr (H : Hp) (x : Addr) (vr : V) (β : Nat) (Ds : List PyData) : Prop where
  b2 : 2 ≤ β
  b10 : β ≤ 10
  good : RowS β Ds
  last : lastC Ds = false
  nl : noLs Ds = true
  sty : StyAt H 623 x β Ds
  k : Pt H vr (.tuple Ds)
section
variable {H H' : Hp} {x p c l : Addr} {n : Nat} {a : Int} {β : Nat} {vr : V} {Ds : List PyData}
theorem Sr.extN (R : Sr H x vr β Ds) (e : ExtN H H') : Sr H' x vr β Ds := ⟨R.b2, R.b10, R.good, R.last, R.nl, R.sty.extN e, R.k.extN e⟩
theorem Sr.ex (R : Sr H x vr β Ds) (e : Ex H H') : Sr H' x vr β Ds := R.extN (ExtN.of e)
theorem Sr.same (S : StAt H p c l n a) (R : Sr H x vr β Ds) (e : SameB H H' p l) : Sr H' x vr β Ds := ⟨R.b2, R.b10, R.good, R.last, R.nl, R.sty.same S e R.nl, R.k.same S e (by rw [okD]; exact noLs_ok R.nl)⟩
end
theorem rls_row {β : Nat} {Ds : List PyData} (h : Rls β Ds) (h8 : Ds.length ≤ 8) : RowS β Ds ∧ lastC Ds = false ∧ dueD β Ds = none := by
  have ha := h.all
  obtain ⟨Es, k, rfl, hk, he⟩ := h
  have hl : lastC (Es ++ [.tuple [.tuple [], k]]) = false := by
    unfold lastC
    rw [List.getLastD_eq_getLast?, List.getLast?_append]
    rfl
  have h1 : 1 ≤ (Es ++ [PyData.tuple [.tuple [], k]]).length := by
    rw [List.length_append]
    exact Nat.le_add_left _ _
  refine ⟨⟨h1, h8, ha⟩, hl, ?_⟩
  rw [due_last ⟨h1, h8⟩ ha, hl]
  rfl
theorem rd_drawI {σ : St} {H : Hp} {te : TE} {Q : VK} {p c l : Addr} {n i : Nat} {a m : Int} (h0 : σ[i]? = some (some (.ref p))) (hm : Ev te σ H (.int m)) (S : StAt H p c l n a) (nlc : l ≠ c) (ha : a < 2 ^ 39) (m0 : 0 < m) (m1 : m < 1073741824)
    (k : ∀ (r : Nat) (H' : Hp), (r : Int) < m → StAt H' p c l n (a + 1) → SameB H H' p l → Q (.int (r : Int)) H') : tCall Dr.spDraw [] E0 (tCons (tVar i) (tCons te tNil)) σ H Q :=
  ⟨_, h0, hm H (Ex.refl H) _ fun H2 e2 => ⟨p, c, l, n, a, m, rfl, S.ex e2, nlc, ha, m0, m1, fun r H' r0 r1 S' sb nn => by
    obtain ⟨ρ, rfl⟩ : ∃ ρ : Nat, r = ρ := ⟨r.toNat, by omega⟩
    exact k ρ H' r1 S' (sameB_trans (sameB_ex e2) sb)⟩⟩
section
variable {w : World} {mg : Str → Option Value} {h base : Heap} (X : (K21 w.params).In h) (G : h.Ns mainGlobals mg) {A : Around} {outer : List Env} {s : Shared} {H0 : Hp} {E0 : XK} {T : List (Addr × Str)} (R : Rm w mg base A outer s H0 E0 T) (L : TxL mg)
include X G R L
theorem row0 : ∃ t, PS (XL w mg base A outer s H0 E0) (inLoop 0) t ∧ ∀ (D : Ends) (H : Hp) (sc p cc l : Addr) (n : Nat) (a : Int) (x2 x3 x4 x5 x6 x7 x8 x9 x10 x11 x12 x13 : Option V) , l ≠ cc → a + 2 < 2 ^ 39 → Lw T p cc l n a H → 
    (∀ (β : Nat) (H' : Hp), 2 ≤ β → β ≤ 10 → Lw T p cc l n (a + 1) H' → D.nx [some (.ref sc), some (.ref p), x2, some (.int (β : Int)), x4, x5, x6, x7, x8, x9, x10, x11, x12, x13] H') → t D [some (.ref sc), some (.ref p), x2, x3, x4, x5, x6, x7, x8, x9, x10, x11, x12, x13] H := by
  obtain ⟨hr, hu64, TB, hT, hu⟩ := R
  refine ⟨_, (ps_set (i := 3) scLaw.nd rfl (.inl rfl) (pe_op op_add pe_int (pe_call (f_l_draw X G) (hr.r.mono (by decide)) (by rfl) L.l_draw (kp_l_draw _) (bd_l_draw _) .nil pass0 (pa_cons (pv 1) (pa_cons pe_int pa_nil))))), fun D H sc p cc l n a x2 x3 x4 x5 x6 x7 x8 x9 x10 x11 x12 x13 nlc ha W q => ?_⟩
  refine rd_drawI (p := p) rfl ev_c W.s nlc (by omega) (by decide) (by decide) fun r H1 hr1 S1 sb1 => ⟨_, _, rfl, rfl, ?_⟩
  have W1 := W.same S1 sb1
  show D.nx [some (.ref sc), some (.ref p), x2, some (.int (2 + (r : Int))), x4, x5, x6, x7, x8, x9, x10, x11, x12, x13] H1
  rw [show 2 + (r : Int) = ((2 + r : Nat) : Int) by omega]
  exact q (2 + r) H1 (by omega) (by omega) W1
theorem row1 : ∃ t, PS (XL w mg base A outer s H0 E0) (inLoop 1) t ∧ ∀ (D : Ends) (H : Hp) (sc p cc l : Addr) (n : Nat) (a : Int) (x2 x4 x5 x6 x7 x8 x9 x10 x11 x12 x13 : Option V) (β : Nat), l ≠ cc → a + 20000 < 2 ^ 39 → 2 ≤ β → β ≤ 10 → Lw T p cc l n a H → 
    (∀ (vr : V) (Ds : List PyData) (b : Int) (H' : Hp), Rls β Ds → Ds.length ≤ 5 → noLs Ds = true → Pt H' vr (.tuple Ds) → a ≤ b → b ≤ a + 1001 → Lw T p cc l n b H' → D.nx [some (.ref sc), some (.ref p), x2, some (.int (β : Int)), some (vr), some (.int ((0 : Nat) : Int)), x6, x7, x8, x9, x10, x11, x12, x13] H') → t D [some (.ref sc), some (.ref p), x2, some (.int (β : Int)), x4, x5, x6, x7, x8, x9, x10, x11, x12, x13] H := by
  obtain ⟨hr, hu64, TB, hT, hu⟩ := R
  refine ⟨_, (ps_asg (pe_tup (pa_cons (pe_call (f_l_rules X G) (hr.r.mono (by decide)) (by rfl) L.l_rules (kp_l_rules _) (bd_l_rules _) .nil pass0 (pa_cons (pv 1) (pa_cons (pv 3) (pa_cons (pe_op op_add pe_int (pe_call (f_l_draw X G) (hr.r.mono (by decide)) (by rfl) L.l_draw (kp_l_draw _) (bd_l_draw _) .nil pass0 (pa_cons (pv 1) (pa_cons pe_int pa_nil)))) (pa_cons pe_int pa_nil))))) (pa_cons pe_int pa_nil))) (pg_tup (by rfl) (pgs_cons (pg_name (i := 4) scLaw.nd rfl (.inl rfl)) (pgs_cons (pg_name (i := 5) scLaw.nd rfl (.inr rfl)) pgs_nil)))), fun D H sc p cc l n a x2 x4 x5 x6 x7 x8 x9 x10 x11 x12 x13 β nlc ha b2 b10 W q => ?_⟩
  refine ⟨_, rfl, _, rfl, ?_⟩
  refine rd_drawI (p := p) rfl ev_c W.s nlc (by omega) (by decide) (by decide) fun r H1 hr1 S1 sb1 => ⟨_, _, rfl, rfl, ?_⟩
  have W1 := W.same S1 sb1
  refine ⟨p, cc, l, n, β, 1 + r, 4, a + 1, rfl, W1.s, nlc, by omega, b2, b10, by omega, by omega, by decide, fun v Ds H2 b hR hl nl k ab ba S2 sb2 => ⟨by show (2:Nat) ≤ sizeLine; rw [sizeLine_eq]; omega, fun tt ntt => ⟨tt, _, rfl, st_of upd_same, rfl, _, _, rfl, _, _, rfl, rfl, ?_⟩⟩⟩
  have e := Ex.new (o := .tup [v, .int 0]) ntt
  exact q v Ds b _ hR hl nl (k.ex e) (by omega) (by omega) ((W1.same S2 sb2).ex e)
end
end KH21

namespace KH21
open PySem L2 Evl Dg Dt LamR LamX TL StX ClX ExM Told Lm Ov
open Dr (StAt SameB)
theorem asc_sum : ∀ {rs : List Row} {a : Nat}, Asc a rs → a < 2 ^ 30 → totR a rs + 100 * a ≤ 100 * 2 ^ 30
  | [], a, _, h => by
    show 0 + 100 * a ≤ _
    omega
  | r :: rs, a, h, ha => by
    obtain ⟨h1, h2, h3, h4⟩ := h
    have ih := asc_sum h4 h2
    show (r.1 - a) * r.2.2 + totR r.1 rs + 100 * a ≤ _
    have : (r.1 - a) * r.2.2 ≤ (r.1 - a) * 100 := Nat.mul_le_mul_left _ h3
    omega
theorem sz_ts {d : PyData} {m n : Nat} (t : Ts d m n) (hm : m ≤ 1000000) (hn : n ≤ 60) : d.showable = true ∧ d.shown.length ≤ sizeLine ∧ d.depth ≤ 60 :=
  ⟨(shown_cap d t.p).1, Nat.le_trans (shown_cap d t.p).2 (Nat.le_trans t.c (by rw [sizeLine_eq]; omega)), Nat.le_trans t.e hn⟩
/-- the numbers of a turn -/
structure Nb (F M : Nat) : Prop where
  f1 : 1 ≤ F
  lt : F < M
  m9 : M < 99999
theorem Nb.m30 {F M : Nat} (h : Nb F M) : M < 2 ^ 30 := by
  have := h.m9
  omega
theorem stQ_ok {ca : Nat → Addr} {H : Hp} {E : XK} {G : Nat → Nat → Prop} {F M : Nat} (h : Nb F M) (q : G F M) : StQ ca (.int (F : Int)) (.int (M : Int)) true true H E G :=
  ⟨(fun z => nomatch z), (fun _ z => nomatch z), fun _ _ => ⟨F, M, rfl, rfl, h.f1, fun g => absurd h.lt (by omega), fun _ => ⟨h.m30, q⟩⟩⟩
theorem RwAt.same {H H' : Hp} {p c l : Addr} {n : Nat} {a : Int} (S : StAt H p c l n a) (e : SameB H H' p l) : ∀ {vs : List V} {rs : List Row}, RwAt H vs rs → RwAt H' vs rs
  | [], [], _ => trivial
  | [], _ :: _, h => h.elim
  | _ :: _, [], h => h.elim
  | _ :: _, _ :: _, ⟨⟨a, h1, h2⟩, h3⟩ => by
    obtain ⟨ls, hl, _⟩ := S.l
    exact ⟨⟨a, h1, e _ _ h2 (ne_of h2 S.d (by intro z; cases z)) (ne_of h2 hl (by intro z; cases z))⟩, RwAt.same S e h3⟩
/-- what was due stands -/
structure Du (H : Hp) (du : Addr) (rs : List Row) : Prop where
  k : ∃ ws, H du = some (.tup ws) ∧ RwAt H ws rs
theorem Du.ex {H H' : Hp} {du : Addr} {rs : List Row} (h : Du H du rs) (e : Ex H H') : Du H' du rs := let ⟨ws, h1, h2⟩ := h.k; ⟨ws, e _ _ h1, h2.ex e⟩
theorem Du.same {H H' : Hp} {p c l du : Addr} {n : Nat} {a : Int} {rs : List Row} (h : Du H du rs) (S : StAt H p c l n a) (e : SameB H H' p l) : Du H' du rs := by
  obtain ⟨ws, h1, h2⟩ := h.k
  obtain ⟨ls, hl, _⟩ := S.l
  exact ⟨ws, e _ _ h1 (ne_of h1 S.d (by intro z; cases z)) (ne_of h1 hl (by intro z; cases z)), RwAt.same S e h2⟩
section
variable {w : World} {mg : Str → Option Value} {h base : Heap} (X : (K21 w.params).In h) (G : h.Ns mainGlobals mg) {A : Around} {outer : List Env} {s : Shared} {H0 : Hp} {E0 : XK} {T : List (Addr × Str)} (R : Rm w mg base A outer s H0 E0 T) (L : TxL mg)
include X G R L
theorem row2 : ∃ t, PS (XL w mg base A outer s H0 E0) (inLoop 2) t ∧ ∀ (D : Ends) (H : Hp) (sc p cc l : Addr) (n : Nat) (a : Int) (x2 x6 x7 x8 x9 x10 x11 x12 x13 : Option V) (β : Nat) (vr : V) (Ds : List PyData), l ≠ cc → a + 20000 < 2 ^ 39 → 2 ≤ β → β ≤ 10 → noLs Ds = true → Pt H vr (.tuple Ds) → Lw T p cc l n a H → 
    (∀ (F : Nat) (y6 : Option V) (b : Int) (H' : Hp), F < 10 ^ 4 → Pt H' vr (.tuple Ds) → a ≤ b → b ≤ a + 6 → Lw T p cc l n b H' → D.nx [some (.ref sc), some (.ref p), x2, some (.int (β : Int)), some (vr), some (.int (F : Int)), y6, x7, x8, x9, x10, x11, x12, x13] H') → t D [some (.ref sc), some (.ref p), x2, some (.int (β : Int)), some (vr), some (.int ((0 : Nat) : Int)), x6, x7, x8, x9, x10, x11, x12, x13] H := by
  obtain ⟨hr, hu64, TB, hT, hu⟩ := R
  refine ⟨_, (ps_for PassesOwn.never rfl (pi_range1 (by rfl) L.range (pa_cons (pe_op op_add pe_int (pe_call (f_l_draw X G) (hr.r.mono (by decide)) (by rfl) L.l_draw (kp_l_draw _) (bd_l_draw _) .nil pass0 (pa_cons (pv 1) (pa_cons pe_int pa_nil)))) pa_nil)) (pg_name (i := 6) scLaw.nd rfl (.inl rfl)) (pss_one (ps_set (i := 5) scLaw.nd rfl (.inr rfl) (pe_op op_add (pe_op op_mul (pv 5) (pv 3)) (pe_call (f_l_draw X G) (hr.r.mono (by decide)) (by rfl) L.l_draw (kp_l_draw _) (bd_l_draw _) .nil pass0 (pa_cons (pv 1) (pa_cons (pv 3) pa_nil))))))), fun D H sc p cc l n a x2 x6 x7 x8 x9 x10 x11 x12 x13 β vr Ds nlc ha b2 b10 nl k W q => ?_⟩
  refine rd_drawI (p := p) rfl ev_c W.s nlc (by omega) (by decide) (by decide) fun r H1 hr1 S1 sb1 => ⟨_, _, rfl, rfl, ?_⟩
  have W1 := W.same S1 sb1
  have k1 := k.same W.s sb1 (by rw [okD]; exact noLs_ok nl)
  refine ⟨((1 + r : Nat) : Int), rfl, by omega, by omega, for_range (n := 1 + r) (fun i σ H' => ∃ (F : Nat) (y6 : Option V) (b : Int), σ = [some (.ref sc), some (.ref p), x2, some (.int (β : Int)), some (vr), some (.int (F : Int)), y6, x7, x8, x9, x10, x11, x12, x13] ∧ F < β ^ i ∧ Pt H' vr (.tuple Ds) ∧ a ≤ b ∧ b ≤ a + 1 + i ∧ Lw T p cc l n b H')
    ⟨0, _, a + 1, rfl, by rw [Nat.pow_zero]; decide, k1, by omega, by omega, W1⟩ (fun i σ H1 hi hI => ?_) (fun σ H1 hI => ?_)⟩
  · obtain ⟨F, y6, b, rfl, hF, kk, ab, ba, Wb⟩ := hI
    refine ⟨_, rfl, _, rfl, _, _, rfl, rfl, .inr ⟨by omega, by omega⟩, ?_⟩
    refine rd_drawI (p := p) rfl (ev_var rfl) Wb.s nlc (by omega) (by omega) (by omega) fun r2 H2 hr2 S2 sb2 => ⟨_, _, rfl, rfl, F * β + r2, some (.int (0 + (i : Int))), b + 1, ?_, ?_, kk.same Wb.s sb2 (by rw [okD]; exact noLs_ok nl), by omega, by omega, Wb.same S2 sb2⟩
    · rw [Int.natCast_add, Int.natCast_mul]
      rfl
    · rw [Nat.pow_succ]
      have : (F + 1) * β ≤ β ^ i * β := Nat.mul_le_mul_right _ hF
      rw [Nat.add_mul] at this
      omega
  · obtain ⟨F, y6, b, rfl, hF, kk, ab, ba, Wb⟩ := hI
    have h1 : 1 + r ≤ 4 := by omega
    have h2 : β ^ (1 + r) ≤ 10 ^ 4 := Nat.le_trans (Nat.pow_le_pow_left b10 _) (Nat.pow_le_pow_right (by decide) h1)
    exact q F y6 b H1 (by omega) kk ab (by omega) Wb
theorem row3 : ∃ t, PS (XL w mg base A outer s H0 E0) (inLoop 3) t ∧ ∀ (D : Ends) (H : Hp) (sc p cc l : Addr) (n : Nat) (a : Int) (x2 x3 x4 x6 x7 x8 x9 x10 x11 x12 x13 : Option V) (F : Nat), True → 
    (∀ (H' : Hp), Ex H H' → D.nx [some (.ref sc), some (.ref p), x2, x3, x4, some (.int ((max 1 F : Nat) : Int)), x6, x7, x8, x9, x10, x11, x12, x13] H') → t D [some (.ref sc), some (.ref p), x2, x3, x4, some (.int (F : Int)), x6, x7, x8, x9, x10, x11, x12, x13] H := by
  obtain ⟨hr, hu64, TB, hT, hu⟩ := R
  refine ⟨_, (ps_set (i := 5) scLaw.nd rfl (.inr rfl) (pe_callB (id := "max") (call_max2 (by rfl)) (by rfl) L.max (by decide +kernel) (pa_cons pe_int (pa_cons (pv 5) pa_nil)))), fun D H sc p cc l n a x2 x3 x4 x6 x7 x8 x9 x10 x11 x12 x13 F _ q => ?_⟩
  exact s_asg (ev_max2 (x := 1) (y := F) ev_c (ev_var rfl)) fun H1 e1 => q H1 e1
theorem row4 : ∃ t, PS (XL w mg base A outer s H0 E0) (inLoop 4) t ∧ ∀ (D : Ends) (H : Hp) (sc p cc l : Addr) (n : Nat) (a : Int) (x2 x3 x4 x6 x7 x8 x9 x10 x11 x12 x13 : Option V) (F : Nat), l ≠ cc → a + 20000 < 2 ^ 39 → F < 10001 → Lw T p cc l n a H → 
    (∀ (M : Nat) (H' : Hp), F < M → M < 99999 → SameB H H' p l → Lw T p cc l n (a + 1 + 1) H' → D.nx [some (.ref sc), some (.ref p), x2, x3, x4, some (.int (F : Int)), x6, some (.int (M : Int)), x8, x9, x10, x11, x12, x13] H') → t D [some (.ref sc), some (.ref p), x2, x3, x4, some (.int (F : Int)), x6, x7, x8, x9, x10, x11, x12, x13] H := by
  obtain ⟨hr, hu64, TB, hT, hu⟩ := R
  refine ⟨_, (ps_set (i := 7) scLaw.nd rfl (.inl rfl) (pe_op op_add (pe_op op_add (pv 5) pe_int) (pe_call (f_l_draw X G) (hr.r.mono (by decide)) (by rfl) L.l_draw (kp_l_draw _) (bd_l_draw _) .nil pass0 (pa_cons (pv 1) (pa_cons (pe_ix (r := rIxL (K21 w.params)) ix_list (pe_lst (pa_cons pe_int (pa_cons pe_int (pa_cons pe_int pa_nil)))) (pe_call (f_l_draw X G) (hr.r.mono (by decide)) (by rfl) L.l_draw (kp_l_draw _) (bd_l_draw _) .nil pass0 (pa_cons (pv 1) (pa_cons pe_int pa_nil))) (fun _ _ => rfl)) pa_nil))))), fun D H sc p cc l n a x2 x3 x4 x6 x7 x8 x9 x10 x11 x12 x13 F nlc ha hF W q => ?_⟩
  refine ⟨_, rfl, _, _, rfl, rfl, _, rfl, by show (3:Nat) ≤ sizeLine; rw [sizeLine_eq]; omega, fun l4 n4 => ?_⟩
  have W4 := W.ex (Ex.new (o := .lst [.int 3, .int 40, .int 300]) n4)
  have e4 := Ex.new (o := .lst [.int 3, .int 40, .int 300]) n4
  have g4 : (upd H l4 (.lst [.int 3, .int 40, .int 300])) l4 = some (.lst [.int 3, .int 40, .int 300]) := upd_same
  have o4 := W.off n4
  generalize upd H l4 (.lst [.int 3, .int 40, .int 300]) = H4 at W4 g4 e4 ⊢
  refine rd_drawI (p := p) rfl ev_c W4.s nlc (by omega) (by decide) (by decide) fun r H5 r1 S5 sb5 => ?_
  have W5 := W4.same S5 sb5
  have g5 := sb5 _ _ g4 o4.1 o4.2
  obtain ⟨z, hz, z1, z2⟩ : ∃ z : Nat, ([V.int 3, .int 40, .int 300])[r]? = some (.int (z : Int)) ∧ 1 ≤ z ∧ z ≤ 300 := by
    have cc : r = 0 ∨ r = 1 ∨ r = 2 := by omega
    rcases cc with rfl | rfl | rfl
    · exact ⟨3, rfl, by omega, by omega⟩
    · exact ⟨40, rfl, by omega, by omega⟩
    · exact ⟨300, rfl, by omega, by omega⟩
  refine ⟨l4, _, _, _, rfl, rfl, SqL.of g5, atI_nat hz, p, cc, l, n, a + 1, (z : Int), rfl, W5.s, nlc, by omega, by omega, by omega, fun r2 H6 r20 r21 S6 sb6 _ => ⟨_, _, rfl, rfl, ?_⟩⟩
  obtain ⟨ρ, rfl⟩ : ∃ ρ : Nat, r2 = ρ := ⟨r2.toNat, by omega⟩
  show D.nx [some (.ref sc), some (.ref p), x2, x3, x4, some (.int (F : Int)), x6, some (.int ((F : Int) + 1 + (ρ : Int))), x8, x9, x10, x11, x12, x13] H6
  rw [show (F : Int) + 1 + (ρ : Int) = ((F + 1 + ρ : Nat) : Int) by omega]
  exact q (F + 1 + ρ) H6 (by omega) (by omega) (sameB_trans (sameB_ex e4) (sameB_trans sb5 sb6)) (W5.same S6 sb6)
theorem row5 : ∃ t, PS (XL w mg base A outer s H0 E0) (inLoop 5) t ∧ ∀ (D : Ends) (H : Hp) (sc p cc l : Addr) (n : Nat) (a : Int) (x2 x6 x8 x9 x10 x11 x12 x13 : Option V) (β F M : Nat) (vr : V) (Ds : List PyData), 2 ≤ β → β ≤ 10 → Rls β Ds → Ds.length ≤ 5 → noLs Ds = true → Pt H vr (.tuple Ds) → Nb F M → Lw T p cc l n a H → 
    (∀ (x du : Addr) (H' : Hp), Sr H' x vr β Ds → Du H' du (strR β F M Ds) → Lw T p cc l n a H' → D.nx [some (.ref sc), some (.ref p), x2, some (.int (β : Int)), some (vr), some (.int (F : Int)), x6, some (.int (M : Int)), some (.ref x), some (.ref du), x10, x11, x12, x13] H') → t D [some (.ref sc), some (.ref p), x2, some (.int (β : Int)), some (vr), some (.int (F : Int)), x6, some (.int (M : Int)), x8, x9, x10, x11, x12, x13] H := by
  obtain ⟨hr, hu64, TB, hT, hu⟩ := R
  refine ⟨_, (ps_asg (pe_tup (pa_cons (pe_cmeth (pe_glob (by rfl) (mgStyle X G) (v := .ref 623) rfl) (cr_Style _) (cm_Style_of _) ((f_Style_of X G).raw (bd_Style_of _) .nil) (hr.r.mono (by decide)) (fun pins σ H s e s' I c => passAt L2.takes0 σ pins H s e s' I c) (pa_cons (pv 3) (pa_cons (pv 4) pa_nil))) (pa_cons (pe_callG (f_l_due X G) (hr.mono (by decide)) (by rfl) L.l_due (kp_l_due _) (bd_l_due _) .nil pass0 (pa_cons (pv 3) (pa_cons (pv 4) (pa_cons (pv 5) (pa_cons (pv 7) pa_nil))))) pa_nil))) (pg_tup (by rfl) (pgs_cons (pg_name (i := 8) scLaw.nd rfl (.inr rfl)) (pgs_cons (pg_name (i := 9) scLaw.nd rfl (.inl rfl)) pgs_nil)))), fun D H sc p cc l n a x2 x6 x8 x9 x10 x11 x12 x13 β F M vr Ds b2 b10 hR h5 nl k nb W q => ?_⟩
  obtain ⟨good, hl, hd⟩ := rls_row hR (by omega)
  refine ⟨rfl, _, rfl, _, rfl, .int (β : Int), vr, .tuple Ds, true, rfl, bs_yes b2 b10, k, by show Ds.length ≤ 100000; omega, (fun z => nomatch z), fun _ => ⟨β, rfl, b2, b10, ⟨fun pl h => (by rw [show dueO β (.tuple Ds) = dueD β Ds from rfl, hd] at h; cases h), fun _ x H1 e1 sty => ?_⟩⟩⟩
  refine ⟨_, rfl, _, rfl, _, rfl, _, rfl, vr, Ds, β, F, M, rfl, b2, b10, good, hl, k.ex e1, nb.f1, nb.lt, nb.m9, fun du ws H2 e2 ndu hdu hw => ⟨by show (2:Nat) ≤ sizeLine; rw [sizeLine_eq]; omega, fun tt ntt => ⟨tt, _, rfl, st_of upd_same, rfl, _, _, rfl, _, _, rfl, rfl, ?_⟩⟩⟩
  have e3 := Ex.new (o := .tup [.ref x, .ref du]) ntt
  have e := (e1.trans e2).trans e3
  exact q x du _ ⟨b2, b10, good, hl, nl, sty.ex (e2.trans e3), k.ex e⟩ ⟨ws, e3 _ _ hdu, hw.ex e3⟩ (W.ex e)
theorem row6 : ∃ t, PS (XL w mg base A outer s H0 E0) (inLoop 6) t ∧ ∀ (D : Ends) (H : Hp) (sc p cc l : Addr) (n : Nat) (a : Int) (x2 x6 x10 x11 x12 x13 : Option V) (x du : Addr) (β F M : Nat) (vr : V) (Ds : List PyData), Nb F M → Sr H x vr β Ds → Du H du (strR β F M Ds) → 
    (∀ (H' : Hp), Ex H H' → (strR β F M Ds).length ≤ 61 → D.nx [some (.ref sc), some (.ref p), x2, some (.int (β : Int)), some (vr), some (.int (F : Int)), x6, some (.int (M : Int)), some (.ref x), some (.ref du), x10, x11, x12, x13] H') → t D [some (.ref sc), some (.ref p), x2, some (.int (β : Int)), some (vr), some (.int (F : Int)), x6, some (.int (M : Int)), some (.ref x), some (.ref du), x10, x11, x12, x13] H := by
  obtain ⟨hr, hu64, TB, hT, hu⟩ := R
  refine ⟨_, (ps_if (pt_cmpR op_ne (pe_callB (id := "repr") (r := rReprJ (K21 w.params)) (call_reprJ hr.g hu64) (by rfl) L.repr (by decide +kernel) (pa_cons (pe_call (f_stretches X G) (hr.r.mono (by decide)) (by rfl) L.stretches (kp_stretches _) (bd_stretches _) .nil (fun pins σ H s e s' I c => passAt L2.takes0 σ pins H s e s' I c) (pa_cons (pv 8) (pa_cons (pv 5) (pa_cons (pv 7) pa_nil)))) pa_nil)) (pe_callB (id := "repr") (r := rReprJ (K21 w.params)) (call_reprJ hr.g hu64) (by rfl) L.repr (by decide +kernel) (pa_cons (pv 9) pa_nil)) (nomark _)) (pss_one (ps_ret pe_bl)) pss_nil), fun D H sc p cc l n a x2 x6 x10 x11 x12 x13 x du β F M vr Ds nb St Dq q => ?_⟩
  refine ⟨_, rfl, _, rfl, _, rfl, x, β, Ds, .int (F : Int), .int (M : Int), true, true, rfl, St.sty, St.b2, St.b10, St.good, nm_yes nb.f1, nm_yes (by have := nb.f1; have := nb.lt; omega), stQ_ok nb fun tt ws H1 e1 ntt htt hw hlen => ?_⟩
  have sm := strR_sm St.b2 St.good nb.lt nb.m30 hlen
  obtain ⟨y1, y2, y3⟩ := sz_ts (ts_rows sm) (by decide) (by decide)
  obtain ⟨ws2, h1, h2⟩ := (Dq.ex e1).k
  refine ⟨.ref tt, _, rfl, .di (.dp (.tup (st_of htt) hw.dp)), y1, y2, y3, _, rfl, .ref du, _, rfl, .di (.dp (.tup (st_of h1) h2.dp)), y1, y2, y3, rfl, _, rfl, ?_⟩
  rw [decide_eq_true rfl]
  exact q H1 e1 hlen
theorem row7 : ∃ t, PS (XL w mg base A outer s H0 E0) (inLoop 7) t ∧ ∀ (D : Ends) (H : Hp) (sc p cc l : Addr) (n : Nat) (a : Int) (x2 x6 x10 x11 x12 x13 : Option V) (x du : Addr) (β F M : Nat) (vr : V) (Ds : List PyData), Nb F M → Sr H x vr β Ds → Du H du (strR β F M Ds) → 
    (∀ (H' : Hp), Ex H H' → D.nx [some (.ref sc), some (.ref p), x2, some (.int (β : Int)), some (vr), some (.int (F : Int)), x6, some (.int (M : Int)), some (.ref x), some (.ref du), x10, x11, x12, x13] H') → t D [some (.ref sc), some (.ref p), x2, some (.int (β : Int)), some (vr), some (.int (F : Int)), x6, some (.int (M : Int)), some (.ref x), some (.ref du), x10, x11, x12, x13] H := by
  obtain ⟨hr, hu64, TB, hT, hu⟩ := R
  refine ⟨_, (ps_if (pt_cmpR op_ne (pe_callB (id := "repr") (r := rReprJ (K21 w.params)) (call_reprJ hr.g hu64) (by rfl) L.repr (by decide +kernel) (pa_cons (pe_call (f_total X G) (hr.r.mono (by decide)) (by rfl) L.total (kp_total _) (bd_total _) .nil (fun pins σ H s e s' I c => passAt L2.takes0 σ pins H s e s' I c) (pa_cons (pv 8) (pa_cons (pv 5) (pa_cons (pv 7) pa_nil)))) pa_nil)) (pe_callB (id := "repr") (r := rReprJ (K21 w.params)) (call_reprJ hr.g hu64) (by rfl) L.repr (by decide +kernel) (pa_cons (pe_call (f_l_sum X G) (hr.r.mono (by decide)) (by rfl) L.l_sum (kp_l_sum _) (bd_l_sum _) .nil pass0 (pa_cons (pv 5) (pa_cons (pv 9) pa_nil))) pa_nil)) (nomark _)) (pss_one (ps_ret pe_bl)) pss_nil), fun D H sc p cc l n a x2 x6 x10 x11 x12 x13 x du β F M vr Ds nb St Dq q => ?_⟩
  have hA := strR_asc (Ds := Ds) St.b2 St.good nb.f1 nb.m30
  have hF30 : F < 2 ^ 30 := Nat.lt_trans nb.lt nb.m30
  have hs := asc_sum hA hF30
  have tsi : Ts (.int (totR F (strR β F M Ds) : Int)) 1921 0 := ts_int (by rw [Int.natAbs_natCast]; omega)
  obtain ⟨y1, y2, y3⟩ := sz_ts tsi (by decide) (by decide)
  refine ⟨_, rfl, _, rfl, _, rfl, x, β, Ds, .int (F : Int), .int (M : Int), true, true, rfl, St.sty, St.b2, St.b10, St.good, nm_yes nb.f1, nm_yes (by have := nb.f1; have := nb.lt; omega), stQ_ok nb fun H1 e1 => ?_⟩
  obtain ⟨ws2, h1, h2⟩ := (Dq.ex e1).k
  refine ⟨_, _, rfl, .di (.dp (.int _)), y1, y2, y3, _, rfl, _, rfl, du, ws2, strR β F M Ds, F, rfl, h1, h2, hA, hF30, fun H2 e2 => ⟨_, _, rfl, .di (.dp (.int _)), y1, y2, y3, rfl, _, rfl, ?_⟩⟩
  rw [decide_eq_true rfl]
  exact q H2 (e1.trans e2)
end
end KH21

namespace KH21
open PySem L2 Evl Dg Dt LamR LamX TL StX ClX ExM Told Lm Ov
open Dr (StAt SameB)
/-- an odd thing: no number, small -/
structure Od (H : Hp) (v : V) (d : PyData) : Prop where
  k : Pv H v d
  n : noN d = true
  s : Sq d
/-- the other one: no number, or the first number itself -/
structure Oe (H : Hp) (F : Nat) (v : V) (d : PyData) : Prop where
  k : Pv H v d
  n : noN d = true ∨ d = .int (F : Int)
  s : Sq d
theorem Od.extN {H H' : Hp} {v : V} {d : PyData} (o : Od H v d) (e : ExtN H H') : Od H' v d := ⟨o.k.extN e, o.n, o.s⟩
theorem Oe.extN {H H' : Hp} {F : Nat} {v : V} {d : PyData} (o : Oe H F v d) (e : ExtN H H') : Oe H' F v d := ⟨o.k.extN e, o.n, o.s⟩
theorem sq_tiny {d : PyData} (a : d.showable = true) (b : d.shown.length ≤ 3950) (c : d.depth ≤ 2) : Sq d := ⟨a, b, c⟩
/-- the first list: None, 0, -3, True, '5', (5,) -/
theorem one_ok {H : Hp} {t : Addr} {i : Nat} {v : V} (ht : H t = some (.tup [.int 5])) (h : ([V.non, .int 0, .int (-3), .bl true, .str "5", .ref t])[i]? = some v) : ∃ d, Od H v d := by
  have hi : i < 6 := (List.getElem?_eq_some_iff.mp h).1
  have cc : i = 0 ∨ i = 1 ∨ i = 2 ∨ i = 3 ∨ i = 4 ∨ i = 5 := by omega
  rcases cc with rfl | rfl | rfl | rfl | rfl | rfl <;> cases h
  · exact ⟨_, .non, rfl, sq_tiny (by decide +kernel) (by decide +kernel) (by decide +kernel)⟩
  · exact ⟨_, .int 0, rfl, sq_tiny (by decide +kernel) (by decide +kernel) (by decide +kernel)⟩
  · exact ⟨_, .int (-3), rfl, sq_tiny (by decide +kernel) (by decide +kernel) (by decide +kernel)⟩
  · exact ⟨_, .bl true, rfl, sq_tiny (by decide +kernel) (by decide +kernel) (by decide +kernel)⟩
  · exact ⟨_, .str "5", rfl, sq_tiny (by decide +kernel) (by decide +kernel) (by decide +kernel)⟩
  · exact ⟨_, .tup (is := [5]) ht, rfl, sq_tiny (by decide +kernel) (by decide +kernel) (by decide +kernel)⟩
/-- the second one: None, first, 0, -1, True, [9] -/
theorem oth_ok {H : Hp} {t : Addr} {F i : Nat} {v : V} (hF : F < 2 ^ 60) (ht : H t = some (.lst [.int 9])) (h : ([V.non, .int (F : Int), .int 0, .int (-1), .bl true, .ref t])[i]? = some v) : ∃ d, Oe H F v d := by
  have hi : i < 6 := (List.getElem?_eq_some_iff.mp h).1
  have cc : i = 0 ∨ i = 1 ∨ i = 2 ∨ i = 3 ∨ i = 4 ∨ i = 5 := by omega
  rcases cc with rfl | rfl | rfl | rfl | rfl | rfl <;> cases h
  · exact ⟨_, .non, .inl rfl, sq_tiny (by decide +kernel) (by decide +kernel) (by decide +kernel)⟩
  · have ti : Ts (.int (F : Int)) 1921 0 := ts_int (by rw [Int.natAbs_natCast]; omega)
    exact ⟨_, .int _, .inr rfl, sq_plain ti.p (Nat.le_trans ti.c (by decide)) (Nat.le_trans ti.e (by decide))⟩
  · exact ⟨_, .int 0, .inl rfl, sq_tiny (by decide +kernel) (by decide +kernel) (by decide +kernel)⟩
  · exact ⟨_, .int (-1), .inl rfl, sq_tiny (by decide +kernel) (by decide +kernel) (by decide +kernel)⟩
  · exact ⟨_, .bl true, .inl rfl, sq_tiny (by decide +kernel) (by decide +kernel) (by decide +kernel)⟩
  · exact ⟨_, .lst (is := [9]) ht, .inl rfl, sq_tiny (by decide +kernel) (by decide +kernel) (by decide +kernel)⟩
/-- refused by the first number -/
theorem stQ_one {K : PySem.W.Frag} {H : Hp} {E : XK} {G : Nat → Nat → Prop} {v u : V} {d e : PyData} (o : Od H v d) (k : Pv H u e) (l : Leaves (ca21 2) "value" v H E) : Nm K H v (!noN d) ∧ Nm K H u (!noN e) ∧ StQ ca21 v u (!noN d) (!noN e) H E G :=
  ⟨o.k.nm, k.nm, ⟨fun _ => l, fun z => (by rw [o.n] at z; cases z), fun z => (by rw [o.n] at z; cases z)⟩⟩
/-- refused by the last one -/
theorem stQ_oth {K : PySem.W.Frag} {H : Hp} {E : XK} {G : Nat → Nat → Prop} {F : Nat} {u : V} {e : PyData} (f1 : 1 ≤ F) (o : Oe H F u e) (l : Leaves (ca21 2) "value" u H E) : Nm K H (.int (F : Int)) true ∧ Nm K H u (!noN e) ∧ StQ ca21 (.int (F : Int)) u true (!noN e) H E G := by
  refine ⟨nm_yes f1, o.k.nm, ⟨(fun z => nomatch z), fun _ _ => l, fun _ z => ?_⟩⟩
  rcases o.n with h | h
  · rw [h] at z
    cases z
  · subst h
    have hk := o.k
    cases hk
    exact ⟨F, F, rfl, rfl, f1, fun _ => l, fun g => absurd g (Nat.lt_irrefl F)⟩
/-- what was told so far -/
def TA (H : Hp) (tp : Addr) (rs : List (Addr × V)) : Prop := H tp = some (.lst (rs.map fun r => V.ref r.1)) ∧ ∀ r ∈ rs, H r.1 = some (.tup [.str "number", r.2])
theorem ref_off {H : Hp} {p c l x r : Addr} {n : Nat} {a : Int} {vs : List V} (S : StAt H p c l n a) (h : H x = some (.lst (.ref r :: vs))) : x ≠ p ∧ x ≠ c ∧ x ≠ l := by
  obtain ⟨cs, hc, _⟩ := S.c
  obtain ⟨ls, hl, _⟩ := S.l
  have no : ∀ is : List Int, HO.lst (is.map V.int) ≠ .lst (.ref r :: vs) := fun is z => by
    injection z with z
    cases is <;> cases z
  refine ⟨ne_of h S.d (by intro z; cases z), fun z => ?_, fun z => ?_⟩
  · rw [z, hc] at h
    injection h with h
    exact no _ h
  · rw [z, hl] at h
    injection h with h
    exact no _ h
theorem tabs_upd {T : List (Addr × Str)} {H : Hp} {x : Addr} {ys zs : List V} (t : Tabs T H) (h : H x = some (.lst ys)) : Tabs T (upd H x (.lst zs)) := fun q hq => by
  obtain ⟨ps, h1, h2, h3⟩ := t q hq
  refine ⟨ps, (by rw [upd_ne (ne_of h1 h (by intro z; cases z))]; exact h1), h2, fun pos cv hc => ?_⟩
  obtain ⟨co, e1, e2⟩ := h3 pos cv hc
  exact ⟨co, e1, by rw [upd_ne (ne_of e2 h (by intro z; cases z))]; exact e2⟩
theorem stAt_updR {H : Hp} {p c l x : Addr} {n : Nat} {a : Int} {o : HO} (S : StAt H p c l n a) (h : x ≠ p ∧ x ≠ c ∧ x ≠ l) : StAt (upd H x o) p c l n a :=
  ⟨by rw [upd_ne (Ne.symm h.1)]; exact S.d, let ⟨cs, h1, h2⟩ := S.c; ⟨cs, by rw [upd_ne (Ne.symm h.2.1)]; exact h1, h2⟩, let ⟨ls, h1, h2⟩ := S.l; ⟨ls, by rw [upd_ne (Ne.symm h.2.2)]; exact h1, h2⟩, S.n0, S.n1, S.a0⟩
theorem lw_upd {T : List (Addr × Str)} {H : Hp} {p c l x r : Addr} {n : Nat} {a : Int} {vs zs : List V} (W : Lw T p c l n a H) (h : H x = some (.lst (.ref r :: vs))) : Lw T p c l n a (upd H x (.lst zs)) := ⟨stAt_updR W.s (ref_off W.s h), tabs_upd W.t h⟩
theorem TA.extN {H H' : Hp} {tp : Addr} {r : Addr × V} {rs : List (Addr × V)} (t : TA H tp (r :: rs)) (e : ExtN H H') : TA H' tp (r :: rs) := ⟨e _ _ t.1 (by simp), fun q hq => e _ _ (t.2 q hq) (by simp)⟩
theorem TA.app {H : Hp} {tp : Addr} {r q : Addr × V} {rs : List (Addr × V)} (t : TA H tp (r :: rs)) (h : H q.1 = some (.tup [.str "number", q.2])) : TA (upd H tp (.lst ((r :: rs).map (fun r => V.ref r.1) ++ [.ref q.1]))) tp (r :: rs ++ [q]) := by
  have hl : H tp = some (.lst (.ref r.1 :: rs.map fun r => V.ref r.1)) := t.1
  refine ⟨by rw [upd_same, List.map_append]; rfl, fun z hz => ?_⟩
  have one : ∀ z : Addr × V, H z.1 = some (.tup [.str "number", z.2]) → (upd H tp (.lst ((r :: rs).map (fun r => V.ref r.1) ++ [.ref q.1]))) z.1 = some (.tup [.str "number", z.2]) := fun z h1 => by rw [upd_ne (ne_of h1 hl (by intro z; cases z))]; exact h1
  rcases List.mem_append.mp hz with y | y
  · exact one z (t.2 z y)
  · rw [List.mem_singleton.mp y]
    exact one q h
theorem Sr.updL {H : Hp} {x y : Addr} {vr : V} {β : Nat} {Ds : List PyData} {ys zs : List V} (R : Sr H x vr β Ds) (h : H y = some (.lst ys)) : Sr (upd H y (.lst zs)) x vr β Ds := by
  obtain ⟨dx, t, h1, h2⟩ := R.sty
  exact ⟨R.b2, R.b10, R.good, R.last, R.nl, ⟨dx, t, by rw [upd_ne (ne_of h1 h (by intro z; cases z))]; exact h1, h2.tk (tupK_upd h) (by rw [noL]; exact R.nl)⟩, R.k.tk (tupK_upd h) (by rw [noL]; exact R.nl)⟩
theorem sm_num {d : PyData} (s : Sq d) : Sm (.tuple [.str "number", d]) := s.pair (x := "number") (by decide +kernel)
section
variable {w : World} {mg : Str → Option Value} {h base : Heap} (X : (K21 w.params).In h) (G : h.Ns mainGlobals mg) {A : Around} {outer : List Env} {s : Shared} {H0 : Hp} {E0 : XK} {T : List (Addr × Str)} (R : Rm w mg base A outer s H0 E0 T) (L : TxL mg)
include X G R L
theorem row8 : ∃ t, PS (XL w mg base A outer s H0 E0) (inLoop 8) t ∧ ∀ (D : Ends) (H : Hp) (sc p cc l : Addr) (n : Nat) (a : Int) (x2 x3 x4 x6 x7 x8 x9 x10 x11 x12 x13 : Option V) (F : Nat), l ≠ cc → a + 20000 < 2 ^ 39 → F < 2 ^ 60 → Lw T p cc l n a H → 
    (∀ (v u : V) (d e : PyData) (H' : Hp), SameB H H' p l → Od H' v d → Oe H' F u e → Lw T p cc l n (a + 1 + 1) H' → D.nx [some (.ref sc), some (.ref p), x2, x3, x4, some (.int (F : Int)), x6, x7, x8, x9, some (v), some (u), x12, x13] H') → t D [some (.ref sc), some (.ref p), x2, x3, x4, some (.int (F : Int)), x6, x7, x8, x9, x10, x11, x12, x13] H := by
  obtain ⟨hr, hu64, TB, hT, hu⟩ := R
  refine ⟨_, (ps_asg (pe_tup (pa_cons (pe_call (f_l_of X G) (hr.r.mono (by decide)) (by rfl) L.l_of (kp_l_of _) (bd_l_of _) .nil pass0 (pa_cons (pv 1) (pa_cons (pe_lst (pa_cons pe_non (pa_cons pe_int (pa_cons (pe_un un_neg pe_int) (pa_cons pe_bl (pa_cons pe_str (pa_cons (pe_tup (pa_cons pe_int pa_nil)) pa_nil))))))) pa_nil))) (pa_cons (pe_call (f_l_of X G) (hr.r.mono (by decide)) (by rfl) L.l_of (kp_l_of _) (bd_l_of _) .nil pass0 (pa_cons (pv 1) (pa_cons (pe_lst (pa_cons pe_non (pa_cons (pv 5) (pa_cons pe_int (pa_cons (pe_un un_neg pe_int) (pa_cons pe_bl (pa_cons (pe_lst (pa_cons pe_int pa_nil)) pa_nil))))))) pa_nil))) pa_nil))) (pg_tup (by rfl) (pgs_cons (pg_name (i := 10) scLaw.nd rfl (.inr rfl)) (pgs_cons (pg_name (i := 11) scLaw.nd rfl (.inr rfl)) pgs_nil)))), fun D H sc p cc l n a x2 x3 x4 x6 x7 x8 x9 x10 x11 x12 x13 F nlc ha hF W q => ?_⟩
  refine ⟨_, rfl, _, rfl, by show (1:Nat) ≤ sizeLine; rw [sizeLine_eq]; omega, fun t5 n5 => ⟨by show (6:Nat) ≤ sizeLine; rw [sizeLine_eq]; omega, fun l1 n1 => ?_⟩⟩
  have o5 := W.off n5
  have e5 := Ex.new (o := .tup [.int 5]) n5
  have g5 : (upd H t5 (.tup [.int 5])) t5 = some (.tup [.int 5]) := upd_same
  have W5 := W.ex e5
  generalize upd H t5 (.tup [.int 5]) = H5 at n1 g5 W5 e5 ⊢
  have o1 := W5.off n1
  have e1 := Ex.new (o := .lst [.non, .int 0, .int (-3), .bl true, .str "5", .ref t5]) n1
  have g1 : (upd H5 l1 (.lst [.non, .int 0, .int (-3), .bl true, .str "5", .ref t5])) l1 = some (.lst [.non, .int 0, .int (-3), .bl true, .str "5", .ref t5]) := upd_same
  have W1 := W5.ex e1
  have g15 := e1 _ _ g5
  generalize upd H5 l1 (.lst [.non, .int 0, .int (-3), .bl true, .str "5", .ref t5]) = H1 at g1 W1 e1 g15 ⊢
  refine ⟨p, cc, l, l1, n, a, _, rfl, W1.s, nlc, by omega, g1, o1.1, o1.2, by simp, by simp, fun i v H2 hx S2 sb2 nn2 => ?_⟩
  have W2 := W1.same S2 sb2
  refine ⟨_, rfl, _, rfl, _, rfl, by show (1:Nat) ≤ sizeLine; rw [sizeLine_eq]; omega, fun l9 n9 => ⟨by show (6:Nat) ≤ sizeLine; rw [sizeLine_eq]; omega, fun l2 n2 => ?_⟩⟩
  have o9 := W2.off n9
  have e9 := Ex.new (o := .lst [.int 9]) n9
  have g9 : (upd H2 l9 (.lst [.int 9])) l9 = some (.lst [.int 9]) := upd_same
  have W9 := W2.ex e9
  generalize upd H2 l9 (.lst [.int 9]) = H9 at n2 g9 W9 e9 ⊢
  have o2 := W9.off n2
  have e2 := Ex.new (o := .lst [.non, .int (F : Int), .int 0, .int (-1), .bl true, .ref l9]) n2
  have g2 : (upd H9 l2 (.lst [.non, .int (F : Int), .int 0, .int (-1), .bl true, .ref l9])) l2 = some (.lst [.non, .int (F : Int), .int 0, .int (-1), .bl true, .ref l9]) := upd_same
  have W3 := W9.ex e2
  have g29 := e2 _ _ g9
  generalize upd H9 l2 (.lst [.non, .int (F : Int), .int 0, .int (-1), .bl true, .ref l9]) = H3 at g2 W3 e2 g29 ⊢
  refine ⟨p, cc, l, l2, n, a + 1, _, rfl, W3.s, nlc, by omega, g2, o2.1, o2.2, by simp, by simp, fun j u H4 hy S4 sb4 nn4 => ⟨by show (2:Nat) ≤ sizeLine; rw [sizeLine_eq]; omega, fun tt ntt => ⟨tt, _, rfl, st_of upd_same, rfl, _, _, rfl, _, _, rfl, rfl, ?_⟩⟩⟩
  have W4 := W3.same S4 sb4
  obtain ⟨d, od⟩ := one_ok (sb4 _ _ ((e9.trans e2) _ _ (sb2 _ _ g15 o5.1 o5.2)) o5.1 o5.2) hx
  obtain ⟨e, oe⟩ := oth_ok hF (sb4 _ _ g29 o9.1 o9.2) hy
  have et := Ex.new (o := .tup [v, u]) ntt
  have sb : SameB H H4 p l := sameB_trans (sameB_ex (e5.trans e1)) (sameB_trans sb2 (sameB_trans (sameB_ex (e9.trans e2)) sb4))
  refine q v u d e _ (sameB_trans sb (sameB_ex et)) (Od.extN ?_ (ExtN.of et)) (oe.extN (ExtN.of et)) (W4.ex et)
  exact od
theorem row9 : ∃ t, PS (XL w mg base A outer s H0 E0) (inLoop 9) t ∧ ∀ (D : Ends) (H : Hp) (sc p cc l : Addr) (n : Nat) (a : Int) (x2 x3 x4 x6 x7 x9 x12 x13 : Option V) (x : Addr) (v u vr : V) (β F : Nat) (Ds : List PyData) (d e : PyData), 1 ≤ F → Sr H x vr β Ds → Od H v d → Oe H F u e → Lw T p cc l n a H → 
    (∀ (tp r1 r2 : Addr) (H' : Hp), ExtN H H' → Lw T p cc l n a H' → TA H' tp [(r1, v), (r2, v)] → D.nx [some (.ref sc), some (.ref p), x2, x3, x4, some (.int (F : Int)), x6, x7, some (.ref x), x9, some (v), some (u), some (.ref tp), x13] H') → t D [some (.ref sc), some (.ref p), x2, x3, x4, some (.int (F : Int)), x6, x7, some (.ref x), x9, some (v), some (u), x12, x13] H := by
  obtain ⟨hr, hu64, TB, hT, hu⟩ := R
  refine ⟨_, (ps_set (i := 12) scLaw.nd rfl (.inl rfl) (pe_lst (pa_cons (pe_lamcallR (k := 12) (T := T) (by rfl) L.l_raised (kp_l_raised _) (lk_l_raised _) (cd_l_raised _) (bd_l_raised _) Told.scR rfl (.inl rfl) (Told.raised_gives (ca := ca21) (txT X G) (rwT21 _)) TB rfl hT hu (hr.r.mono (by decide)) (lamN_by (show lamNB (defScope sLaw) _ nLaw = true by decide +kernel)) (by rfl) (fun _ _ _ _ _ => by rfl) (fun A outer s H E f c' hr' => (pe_callS (f_stretches X G) (hr'.mono (by decide)) (by rfl) L.stretches (kp_stretches _) (bd_stretches _) (fun σ => passAt (takes_of rfl rfl rfl rfl) σ) (pa_cons (pv 8) (pa_cons (pv 10) (pa_cons (pv 11) pa_nil)))))) (pa_cons (pe_lamcallD (k := 12) (T := T) (y := "y") (n := 0) (by rfl) L.l_raised (kp_l_raised _) (lk_l_raised _) (cd_l_raised _) (bd_l_raised _) Told.scR rfl (.inl rfl) (Told.raised_gives (ca := ca21) (txT X G) (rwT21 _)) TB rfl hT hu (hr.r.mono (by decide)) (lamN_by (show lamNB (defScope sLaw) _ nLaw = true by decide +kernel)) (by rfl) (by rfl) (by rfl) (fun _ _ _ _ _ _ _ _ => ⟨_, by rfl, by rfl⟩) (fun A outer s H E f c' hr' => (pe_callS (f_total X G) (hr'.mono (by decide)) (by rfl) L.total (kp_total _) (bd_total _) (fun σ => passAt (takes_of rfl rfl rfl rfl) σ) (pa_cons (pv 8) (pa_cons (pv 10) (pa_cons (pv 11) pa_nil)))))) pa_nil)))), fun D H sc p cc l n a x2 x3 x4 x6 x7 x9 x12 x13 x v u vr β F Ds d e f1 St o1 o2 W q => ?_⟩
  refine rd_raisedA (n := 2) (A := Is1 v) W.t (is1_keeps v) (fun H1 f1' HZ eZ E Q' hE => by
    have St' := (St.extN (f1'.trans (ExtN.of eZ)))
    have o1' := o1.extN (f1'.trans (ExtN.of eZ))
    have o2' := o2.extN (f1'.trans (ExtN.of eZ))
    obtain ⟨z1, z2, z3⟩ := stQ_one (K := (K21 w.params)) o1' o2'.k (leaves_of (i := 2) (by decide) (by decide) (by decide) (by decide) (by decide) rfl hE)
    exact ⟨_, rfl, _, rfl, _, rfl, x, β, Ds, v, u, _, _, rfl, St'.sty, St'.b2, St'.b10, St'.good, z1, z2, z3⟩) fun vs1 r1 H1 x1 T1 a1 g1 => ?_
  refine rd_raisedA (n := 2) (A := Is1 v) T1 (is1_keeps v) (fun H2 f2 HZ eZ E Q' hE => by
    have St' := (St.extN ((x1.trans f2).trans (ExtN.of eZ)))
    have o1' := o1.extN ((x1.trans f2).trans (ExtN.of eZ))
    have o2' := o2.extN ((x1.trans f2).trans (ExtN.of eZ))
    obtain ⟨z1, z2, z3⟩ := stQ_one (K := (K21 w.params)) o1' o2'.k (leaves_of (i := 2) (by decide) (by decide) (by decide) (by decide) (by decide) rfl hE)
    exact ⟨_, rfl, _, rfl, _, rfl, x, β, Ds, v, u, _, _, rfl, St'.sty, St'.b2, St'.b10, St'.good, z1, z2, z3⟩) fun vs2 r2 H2 x2 T2 a2 g2 => ⟨by show (2:Nat) ≤ sizeLine; rw [sizeLine_eq]; omega, fun tp ntp => ?_⟩
  have a1' : vs1 = [v] := a1
  have a2' : vs2 = [v] := a2
  subst a1' a2'
  have en := Ex.new (o := .lst [.ref r1, .ref r2]) ntp
  refine q tp r1 r2 _ ((x1.trans x2).trans (ExtN.of en)) ((W.extN (x1.trans x2) T2).ex en) ⟨upd_same, fun r hr => ?_⟩
  rcases List.mem_cons.mp hr with rfl | hr
  · exact en _ _ (x2 _ _ g1 (by simp))
  · rw [List.mem_singleton.mp hr]
    exact en _ _ g2
theorem row10 : ∃ t, PS (XL w mg base A outer s H0 E0) (inLoop 10) t ∧ ∀ (D : Ends) (H : Hp) (sc p cc l : Addr) (n : Nat) (a : Int) (x2 x3 x4 x6 x7 x9 x13 : Option V) (x : Addr) (v u vr : V) (β F : Nat) (Ds : List PyData) (d e : PyData) (tp r1 r2 : Addr), 1 ≤ F → Sr H x vr β Ds → Od H v d → Oe H F u e → Lw T p cc l n a H → TA H tp [(r1, v), (r2, v)] → 
    (∀ (rn : Addr) (H' : Hp), Lw T p cc l n a H' → Sr H' x vr β Ds → Od H' v d → Oe H' F u e → TA H' tp [(r1, v), (r2, v), (rn, u)] → D.nx [some (.ref sc), some (.ref p), x2, x3, x4, some (.int (F : Int)), x6, x7, some (.ref x), x9, some (v), some (u), some (.ref tp), x13] H') → t D [some (.ref sc), some (.ref p), x2, x3, x4, some (.int (F : Int)), x6, x7, some (.ref x), x9, some (v), some (u), some (.ref tp), x13] H := by
  obtain ⟨hr, hu64, TB, hT, hu⟩ := R
  refine ⟨_, (ps_expr (pe_bm PySem.F.plainAttrs_list PySem.F.slot_list_append PySem.F.type_list_append mt_append (pv 12) (pa_cons (pe_lamcallR (k := 12) (T := T) (by rfl) L.l_raised (kp_l_raised _) (lk_l_raised _) (cd_l_raised _) (bd_l_raised _) Told.scR rfl (.inl rfl) (Told.raised_gives (ca := ca21) (txT X G) (rwT21 _)) TB rfl hT hu (hr.r.mono (by decide)) (lamN_by (show lamNB (defScope sLaw) _ nLaw = true by decide +kernel)) (by rfl) (fun _ _ _ _ _ => by rfl) (fun A outer s H E f c' hr' => (pe_callS (f_stretches X G) (hr'.mono (by decide)) (by rfl) L.stretches (kp_stretches _) (bd_stretches _) (fun σ => passAt (takes_of rfl rfl rfl rfl) σ) (pa_cons (pv 8) (pa_cons (pv 5) (pa_cons (pv 11) pa_nil)))))) pa_nil))), fun D H sc p cc l n a x2 x3 x4 x6 x7 x9 x13 x v u vr β F Ds d e tp r1 r2 f1 St o1 o2 W ta q => ?_⟩
  refine ⟨_, rfl, .inl ⟨rfl, _, SqL.of ta.1⟩, ?_⟩
  refine rd_raisedA (n := 2) (A := Is1 u) W.t (is1_keeps u) (fun H1 f1' HZ eZ E Q' hE => by
    have St' := (St.extN (f1'.trans (ExtN.of eZ)))
    have o2' := o2.extN (f1'.trans (ExtN.of eZ))
    obtain ⟨z1, z2, z3⟩ := stQ_oth (K := (K21 w.params)) f1 o2' (leaves_of (i := 2) (by decide) (by decide) (by decide) (by decide) (by decide) rfl hE)
    exact ⟨_, rfl, _, rfl, _, rfl, x, β, Ds, .int (F : Int), u, _, _, rfl, St'.sty, St'.b2, St'.b10, St'.good, z1, z2, z3⟩) fun vs1 rn H1 xe T1 a1 g1 => ?_
  have a1' : vs1 = [u] := a1
  subst a1'
  have ta1 := ta.extN xe
  refine ⟨tp, _, _, rfl, rfl, ta1.1, by show (2:Nat) < sizeLine; rw [sizeLine_eq]; omega, ?_⟩
  exact q rn _ (lw_upd (W.extN xe T1) ta1.1) ((St.extN xe).updL ta1.1) ⟨(o1.extN xe).k.updL ta1.1, o1.n, o1.s⟩ ⟨(o2.extN xe).k.updL ta1.1, o2.n, o2.s⟩ (ta1.app (q := (rn, u)) g1)
theorem row11 : ∃ t, PS (XL w mg base A outer s H0 E0) (inLoop 11) t ∧ ∀ (D : Ends) (H : Hp) (sc p cc l : Addr) (n : Nat) (a : Int) (x2 x3 x4 x6 x7 x9 x13 : Option V) (x : Addr) (v u vr : V) (β F : Nat) (Ds : List PyData) (d e : PyData) (tp r1 r2 r3 : Addr), 1 ≤ F → Sr H x vr β Ds → Od H v d → Oe H F u e → Lw T p cc l n a H → TA H tp [(r1, v), (r2, v), (r3, u)] → 
    (∀ (rn : Addr) (H' : Hp), Lw T p cc l n a H' → Sr H' x vr β Ds → Od H' v d → Oe H' F u e → TA H' tp [(r1, v), (r2, v), (r3, u), (rn, u)] → D.nx [some (.ref sc), some (.ref p), x2, x3, x4, some (.int (F : Int)), x6, x7, some (.ref x), x9, some (v), some (u), some (.ref tp), x13] H') → t D [some (.ref sc), some (.ref p), x2, x3, x4, some (.int (F : Int)), x6, x7, some (.ref x), x9, some (v), some (u), some (.ref tp), x13] H := by
  obtain ⟨hr, hu64, TB, hT, hu⟩ := R
  refine ⟨_, (ps_expr (pe_bm PySem.F.plainAttrs_list PySem.F.slot_list_append PySem.F.type_list_append mt_append (pv 12) (pa_cons (pe_lamcallR (k := 12) (T := T) (by rfl) L.l_raised (kp_l_raised _) (lk_l_raised _) (cd_l_raised _) (bd_l_raised _) Told.scR rfl (.inl rfl) (Told.raised_gives (ca := ca21) (txT X G) (rwT21 _)) TB rfl hT hu (hr.r.mono (by decide)) (lamN_by (show lamNB (defScope sLaw) _ nLaw = true by decide +kernel)) (by rfl) (fun _ _ _ _ _ => by rfl) (fun A outer s H E f c' hr' => (pe_callS (f_total X G) (hr'.mono (by decide)) (by rfl) L.total (kp_total _) (bd_total _) (fun σ => passAt (takes_of rfl rfl rfl rfl) σ) (pa_cons (pv 8) (pa_cons (pv 5) (pa_cons (pv 11) pa_nil)))))) pa_nil))), fun D H sc p cc l n a x2 x3 x4 x6 x7 x9 x13 x v u vr β F Ds d e tp r1 r2 r3 f1 St o1 o2 W ta q => ?_⟩
  refine ⟨_, rfl, .inl ⟨rfl, _, SqL.of ta.1⟩, ?_⟩
  refine rd_raisedA (n := 2) (A := Is1 u) W.t (is1_keeps u) (fun H1 f1' HZ eZ E Q' hE => by
    have St' := (St.extN (f1'.trans (ExtN.of eZ)))
    have o2' := o2.extN (f1'.trans (ExtN.of eZ))
    obtain ⟨z1, z2, z3⟩ := stQ_oth (K := (K21 w.params)) f1 o2' (leaves_of (i := 2) (by decide) (by decide) (by decide) (by decide) (by decide) rfl hE)
    exact ⟨_, rfl, _, rfl, _, rfl, x, β, Ds, .int (F : Int), u, _, _, rfl, St'.sty, St'.b2, St'.b10, St'.good, z1, z2, z3⟩) fun vs1 rn H1 xe T1 a1 g1 => ?_
  have a1' : vs1 = [u] := a1
  subst a1'
  have ta1 := ta.extN xe
  refine ⟨tp, _, _, rfl, rfl, ta1.1, by show (3:Nat) < sizeLine; rw [sizeLine_eq]; omega, ?_⟩
  exact q rn _ (lw_upd (W.extN xe T1) ta1.1) ((St.extN xe).updL ta1.1) ⟨(o1.extN xe).k.updL ta1.1, o1.n, o1.s⟩ ⟨(o2.extN xe).k.updL ta1.1, o2.n, o2.s⟩ (ta1.app (q := (rn, u)) g1)
theorem row12 : ∃ t, PS (XL w mg base A outer s H0 E0) (inLoop 12) t ∧ ∀ (D : Ends) (H : Hp) (sc p cc l : Addr) (n : Nat) (a : Int) (x2 x3 x4 x6 x7 x9 x13 : Option V) (x : Addr) (v u vr : V) (β F : Nat) (Ds : List PyData) (d e : PyData) (tp r1 r2 r3 r4 : Addr), 1 ≤ F → Sr H x vr β Ds → Od H v d → Oe H F u e → Lw T p cc l n a H → TA H tp [(r1, v), (r2, v), (r3, u), (r4, u)] → 
    (∀ (H' : Hp), Ex H H' → D.nx [some (.ref sc), some (.ref p), x2, x3, x4, some (.int (F : Int)), x6, x7, some (.ref x), x9, some (v), some (u), some (.ref tp), x13] H') → t D [some (.ref sc), some (.ref p), x2, x3, x4, some (.int (F : Int)), x6, x7, some (.ref x), x9, some (v), some (u), some (.ref tp), x13] H := by
  obtain ⟨hr, hu64, TB, hT, hu⟩ := R
  refine ⟨_, (ps_if (pt_cmpR op_ne (pe_callB (id := "repr") (r := rReprJ (K21 w.params)) (call_reprJ hr.g hu64) (by rfl) L.repr (by decide +kernel) (pa_cons (pv 12) pa_nil)) (pe_callB (id := "repr") (r := rReprJ (K21 w.params)) (call_reprJ hr.g hu64) (by rfl) L.repr (by decide +kernel) (pa_cons (pe_op op_cat (pe_op op_rep (pe_lst (pa_cons (pe_tup (pa_cons pe_str (pa_cons (pv 10) pa_nil))) pa_nil)) pe_int) (pe_op op_rep (pe_lst (pa_cons (pe_tup (pa_cons pe_str (pa_cons (pv 11) pa_nil))) pa_nil)) pe_int)) pa_nil)) (nomark _)) (pss_one (ps_ret pe_bl)) pss_nil), fun D H sc p cc l n a x2 x3 x4 x6 x7 x9 x13 x v u vr β F Ds d e tp r1 r2 r3 r4 f1 St o1 o2 W ta q => ?_⟩
  have s1 := sm_num o1.s
  have s2 := sm_num o2.s
  obtain ⟨y1, y2, y3⟩ := SmAll.list (.cons s1 (.cons s1 (.cons s2 (.cons s2 .nil)))) (by simp)
  have dj : ∀ {HH : Hp} {r : Addr} {z : V} {c : PyData}, HH r = some (.tup [.str "number", z]) → Pv HH z c → Dp (K21 w.params) HH (.ref r) (.tuple [.str "number", c]) := fun h1 h2 => .tup (st_of h1) (.cons (.str _) (.cons h2.dp .nil))
  refine ⟨_, rfl, .ref tp, .list [.tuple [.str "number", d], .tuple [.str "number", d], .tuple [.str "number", e], .tuple [.str "number", e]], rfl, .di (.dp (.lst (sq_of ta.1) (.cons (dj (ta.2 (r1, v) (by simp)) o1.k) (.cons (dj (ta.2 (r2, v) (by simp)) o1.k) (.cons (dj (ta.2 (r3, u) (by simp)) o2.k) (.cons (dj (ta.2 (r4, u) (by simp)) o2.k) .nil)))))), y1, y2, by have := o1.s.c; have := o2.s.c; simp only [PyData.depth, PyData.depthAll]; omega, ?_⟩
  refine ⟨_, rfl, by show (2:Nat) ≤ sizeLine; rw [sizeLine_eq]; omega, fun t1 nt1 => ⟨by show (1:Nat) ≤ sizeLine; rw [sizeLine_eq]; omega, fun l1 nl1 => ⟨l1, 2, [.ref t1], rfl, rfl, upd_same, by decide, by decide, by rw [sizeLine_eq]; simp, fun p1 hp1 => ?_⟩⟩⟩
  have f1' := Ex.new (o := .tup [.str "number", v]) nt1
  have f2 := Ex.new (o := .lst [.ref t1]) nl1
  have f3 := Ex.new (o := .lst (List.replicate (Int.toNat 2) [V.ref t1]).flatten) hp1
  have g1 := (f2.trans f3) _ _ (show _ = some (.tup [.str "number", v]) from upd_same)
  have eA := (f1'.trans f2).trans f3
  have gp1 : (upd (upd (upd H t1 (.tup [.str "number", v])) l1 (.lst [.ref t1])) p1 (.lst (List.replicate (Int.toNat 2) [V.ref t1]).flatten)) p1 = some (.lst [.ref t1, .ref t1]) := upd_same
  clear f1' f2 f3
  generalize (upd (upd (upd H t1 (.tup [.str "number", v])) l1 (.lst [.ref t1])) p1 (.lst (List.replicate (Int.toNat 2) [V.ref t1]).flatten)) = HA at g1 eA gp1 ⊢
  refine ⟨_, rfl, by show (2:Nat) ≤ sizeLine; rw [sizeLine_eq]; omega, fun t2 nt2 => ⟨by show (1:Nat) ≤ sizeLine; rw [sizeLine_eq]; omega, fun l2 nl2 => ⟨l2, 2, [.ref t2], rfl, rfl, upd_same, by decide, by decide, by rw [sizeLine_eq]; simp, fun p2 hp2 => ?_⟩⟩⟩
  have f4 := Ex.new (o := .tup [.str "number", u]) nt2
  have f5 := Ex.new (o := .lst [.ref t2]) nl2
  have f6 := Ex.new (o := .lst (List.replicate (Int.toNat 2) [V.ref t2]).flatten) hp2
  have eB := (f4.trans f5).trans f6
  have g2 := (f5.trans f6) _ _ (show _ = some (.tup [.str "number", u]) from upd_same)
  have gp2 : (upd (upd (upd HA t2 (.tup [.str "number", u])) l2 (.lst [.ref t2])) p2 (.lst (List.replicate (Int.toNat 2) [V.ref t2]).flatten)) p2 = some (.lst [.ref t2, .ref t2]) := upd_same
  clear f4 f5 f6
  have hgen := hp2
  clear hgen
  generalize (upd (upd (upd HA t2 (.tup [.str "number", u])) l2 (.lst [.ref t2])) p2 (.lst (List.replicate (Int.toNat 2) [V.ref t2]).flatten)) = HB at g2 eB gp2 ⊢
  refine ⟨p1, p2, [.ref t1, .ref t1], [.ref t2, .ref t2], rfl, rfl, eB _ _ gp1, gp2, by rw [sizeLine_eq]; simp, fun p3 hp3 => ?_⟩
  have f7 := Ex.new (o := .lst ([.ref t1, .ref t1] ++ [.ref t2, .ref t2])) hp3
  have eAll := (eA.trans eB).trans f7
  have k1 := dj (f7 _ _ (eB _ _ g1)) (o1.k.ex eAll)
  have k2 := dj (f7 _ _ g2) (o2.k.ex eAll)
  refine ⟨.ref p3, .list [.tuple [.str "number", d], .tuple [.str "number", d], .tuple [.str "number", e], .tuple [.str "number", e]], rfl, .di (.dp (.lst (sq_of upd_same) (.cons k1 (.cons k1 (.cons k2 (.cons k2 .nil)))))), y1, y2, by have := o1.s.c; have := o2.s.c; simp only [PyData.depth, PyData.depthAll]; omega, rfl, _, rfl, ?_⟩
  rw [decide_eq_true rfl]
  exact q _ eAll
end
end KH21

namespace KH21
open PySem L2 Evl Dg Dt LamR LamX TL StX ClX ExM Told Lm Ov
open Dr (StAt SameB)
section
variable {w : World} {mg : Str → Option Value} {h base : Heap} (X : (K21 w.params).In h) (G : h.Ns mainGlobals mg) {A : Around} {outer : List Env} {s : Shared} {H0 : Hp} {E0 : XK} {T : List (Addr × Str)} (R : Rm w mg base A outer s H0 E0 T) (L : TxL mg)
include X G R L
theorem turnR : ∃ t, PSs (XL w mg base A outer s H0 E0) [inLoop 0, inLoop 1, inLoop 2, inLoop 3, inLoop 4, inLoop 5, inLoop 6, inLoop 7, inLoop 8, inLoop 9, inLoop 10, inLoop 11, inLoop 12] t ∧ ∀ (D : Ends) (H : Hp) (sc p cc l : Addr) (n : Nat) (a : Int) (x2 x3 x4 x5 x6 x7 x8 x9 x10 x11 x12 x13 : Option V), l ≠ cc → a + 300000 < 2 ^ 39 → Lw T p cc l n a H →
    (∀ (y3 y4 y5 y6 y7 y8 y9 y10 y11 y12 : Option V) (a' : Int) (H' : Hp), a ≤ a' → a' ≤ a + 6000 → Lw T p cc l n a' H' → D.nx [some (.ref sc), some (.ref p), x2, y3, y4, y5, y6, y7, y8, y9, y10, y11, y12, x13] H') → t D [some (.ref sc), some (.ref p), x2, x3, x4, x5, x6, x7, x8, x9, x10, x11, x12, x13] H := by
  obtain ⟨t0, p0, q0⟩ := row0 X G R L
  obtain ⟨t1, p1, q1⟩ := row1 X G R L
  obtain ⟨t2, p2, q2⟩ := row2 X G R L
  obtain ⟨t3, p3, q3⟩ := row3 X G R L
  obtain ⟨t4, p4, q4⟩ := row4 X G R L
  obtain ⟨t5, p5, q5⟩ := row5 X G R L
  obtain ⟨t6, p6, q6⟩ := row6 X G R L
  obtain ⟨t7, p7, q7⟩ := row7 X G R L
  obtain ⟨t8, p8, q8⟩ := row8 X G R L
  obtain ⟨t9, p9, q9⟩ := row9 X G R L
  obtain ⟨t10, p10, q10⟩ := row10 X G R L
  obtain ⟨t11, p11, q11⟩ := row11 X G R L
  obtain ⟨t12, p12, q12⟩ := row12 X G R L
  refine ⟨_, (pss_cons p0 (pss_cons p1 (pss_cons p2 (pss_cons p3 (pss_cons p4 (pss_cons p5 (pss_cons p6 (pss_cons p7 (pss_cons p8 (pss_cons p9 (pss_cons p10 (pss_cons p11 (pss_one p12))))))))))))), fun D H sc p cc l n a x2 x3 x4 x5 x6 x7 x8 x9 x10 x11 x12 x13 nlc ha W q => ?_⟩
  refine q0 _ _ sc p cc l n a _ _ _ _ _ _ _ _ _ _ _ _ nlc (by omega) W fun β H1 b2 b10 W => ?_
  refine q1 _ _ sc p cc l n _ _ _ _ _ _ _ _ _ _ _ _ β nlc (by omega) b2 b10 W fun vr Ds bb H2 hR h5 nl k ab ba W => ?_
  refine q2 _ _ sc p cc l n _ _ _ _ _ _ _ _ _ _ β vr Ds nlc (by omega) b2 b10 nl k W fun F y6 b3 H3 hF k ab3 ba3 W => ?_
  refine q3 _ _ sc p cc l n a _ _ _ _ _ _ _ _ _ _ _ F trivial fun H4 e4 => ?_
  have W := W.ex e4
  have k := k.ex e4
  have fm : 1 ≤ max 1 F ∧ max 1 F < 10001 := by omega
  generalize max 1 F = F at fm ⊢
  refine q4 _ _ sc p cc l n _ _ _ _ _ _ _ _ _ _ _ _ F nlc (by omega) fm.2 W fun M H5 hM m9 sb5 W5 => ?_
  have k5 := k.same W.s sb5 (by rw [okD]; exact noLs_ok nl)
  have nb : Nb F M := ⟨fm.1, hM, m9⟩
  refine q5 _ _ sc p cc l n _ _ _ _ _ _ _ _ _ β F M vr Ds b2 b10 hR h5 nl k5 nb W5 fun x du H6 St Dq W6 => ?_
  refine q6 _ _ sc p cc l n a _ _ _ _ _ _ x du β F M vr Ds nb St Dq fun H7 e7 h61 => ?_
  have W7 := W6.ex e7
  have St7 := St.ex e7
  have Dq7 := Dq.ex e7
  refine q7 _ _ sc p cc l n a _ _ _ _ _ _ x du β F M vr Ds nb St7 Dq7 fun H8 e8 => ?_
  have W8 := W7.ex e8
  have St8 := St7.ex e8
  refine q8 _ _ sc p cc l n _ _ _ _ _ _ _ _ _ _ _ _ F nlc (by omega) (by omega) W8 fun v u d e H9 sb9 o1 o2 W9 => ?_
  have St9 := St8.same W8.s sb9
  refine q9 _ _ sc p cc l n _ _ _ _ _ _ _ _ _ x v u vr β F Ds d e fm.1 St9 o1 o2 W9 fun tp r1 r2 H10 x10 W10 ta => ?_
  refine q10 _ _ sc p cc l n _ _ _ _ _ _ _ _ x v u vr β F Ds d e tp r1 r2 fm.1 (St9.extN x10) (o1.extN x10) (o2.extN x10) W10 ta fun r3 H11 W11 St11 o11 p11 ta => ?_
  refine q11 _ _ sc p cc l n _ _ _ _ _ _ _ _ x v u vr β F Ds d e tp r1 r2 r3 fm.1 St11 o11 p11 W11 ta fun r4 H12 W12 St12 o12 p12 ta => ?_
  refine q12 _ _ sc p cc l n _ _ _ _ _ _ _ _ x v u vr β F Ds d e tp r1 r2 r3 r4 fm.1 St12 o12 p12 W12 ta fun H13 e13 => ?_
  exact q _ _ _ _ _ _ _ _ _ _ _ _ (by omega) (by omega) (W12.ex e13)
end
end KH21

/-! A style made of things by hand (for laws without entries' texts). -/
namespace Dt
open PySem L2 Evl Dg LamR LamX TL StX ClX
open Dr (StAt SameB)
/-- Style(.., ..) by its positional promise: what is passed behind the base -/
theorem rd_mkQ {K : PySem.W.Frag} {C : Addr} {ca : Nat → Addr} {H : Hp} {Q : VK} {E : XK} {β : Nat} {rs : List V} {Ds : List PyData} (b2 : 2 ≤ β) (b10 : β ≤ 10) (kr : PtAll H rs Ds) (h20 : rs.length ≤ 100) (hD : Due ca H E (dueD β Ds) (∀ x H', Ex H H' → StyAt H' C x β Ds → Q (.ref x) H')) :
    ∀ x dx, H x = Option.none → H dx = Option.none → dx ≠ x → spInitR K C ca (V.ref x :: (.int (β : Int) :: rs)) (upd (upd H dx (.own x)) x (.ins C dx [])) (fun v H2 => v = .non ∧ Q (.ref x) H2) E := fun x dx hx hdx hne => by
  refine ⟨[.ref x, .int β], rs, rfl, rfl, by rw [sizeLine_eq]; omega, fun p hp => ?_⟩
  have eA : Ex H (upd (upd H dx (.own x)) x (.ins C dx [])) := (Ex.new hdx).trans (Ex.new (by rw [upd_ne (Ne.symm hne)]; exact hx))
  have eB := Ex.new (o := .tup rs) hp
  have eAB := eA.trans eB
  refine ⟨x, p, dx, .int β, rs, Ds, true, rfl, eB _ _ upd_same, upd_same, kr.ex eAB, bs_yes b2 b10, (fun z => nomatch z), fun _ => ⟨β, rfl, b2, b10, ⟨fun pl hpl => (hD.bad pl hpl).go eAB, fun hn t2 H' kx hx' k' => ⟨rfl, ?_⟩⟩⟩⟩
  refine hD.ok hn x H' (fun b o h => ?_) ⟨dx, t2, hx', k'⟩
  exact kx b o (eAB _ _ h) (ne_of_none h hx)
theorem rd_makeQ {K : PySem.W.Frag} {C : Addr} {ca : Nat → Addr} {σ : St} {H : Hp} {t : TA} {Q : VK} {E : XK} {β : Nat} {Ds : List PyData} (h : EvPA t σ H (.int (β : Int) :: Ds)) (b2 : 2 ≤ β) (b10 : β ≤ 10) (hl : Ds.length ≤ 100) (hd : dueD β Ds = none) (q : ∀ x H', Ex H H' → StyAt H' C x β Ds → Q (.ref x) H') : tMakeR C (spInitR K C ca) E t σ H Q :=
  h H (Ex.refl H) _ fun vs H2 e2 ks => by
    cases ks with
    | cons k0 kr =>
      cases k0
      exact rd_mkQ b2 b10 kr (by rw [kr.length]; exact hl) ⟨fun pl hp => (by rw [hd] at hp; cases hp), fun _ x H' e sty => q x H' (e2.trans e) sty⟩
end Dt

namespace KH21
open PySem L2 Evl Dg Dt LamR LamX TL StX ClX ExM Told Lm Ov
open Dr (StAt SameB)
def pgD : List PyData := [.tuple [.tuple [.tuple [.str "ends", .str "00"]], .tuple [.str "all"]], .tuple [.tuple [.tuple [.str "length", .int 1, .int 2]], .tuple [.str "all"]], .tuple [.tuple [], .tuple [.str "changed", .int 2]]]
theorem pg_due : dueD 10 pgD = none := by decide +kernel
theorem pg_row : RowS 10 pgD := ⟨by decide, by decide, by decide +kernel⟩
/-! the rows, worked out -/
def holdsC (l1 ch ne : Nat) (en : Str) : PyData → Bool
  | .tuple [.str _, .str x] => Txt.endswith en x
  | .tuple [.str _, .int i] => decide ((ne : Int) ≤ i)
  | .tuple [.str w, .int i, e] => decide (i ≤ (if w = "length" then (l1 : Int) else (ch : Int))) && (isN e || decide ((if w = "length" then (l1 : Int) else (ch : Int)) ≤ intD e))
  | _ => false
def keepC (ch l2 : Nat) : PyData → Nat
  | .tuple [.str _] => l2
  | .tuple [.str w, .int i] => if w = "changed" then min (max ch i.toNat) l2 else min i.toNat l2
  | _ => 0
theorem holdsD_C (β f s : Nat) : holdsD β f s = holdsC (dl β f).length (chgN β f s) (neaN β (s - f)) (enD β f) := by
  funext d
  unfold holdsD holdsC
  rfl
theorem keepN_C (β f s : Nat) : keepN β f s = keepC (chgN β f s) (dl β s).length := by
  funext d
  unfold keepN keepC
  rfl
def firstC (β f ch ne : Nat) (Ds : List PyData) : Nat := (Ds.take (Ds.length - 1)).findIdx fun d => (tupD (at_ 0 d)).all (holdsC (dl β f).length ch ne (enD β f))
theorem key_C {β f s ch ne : Nat} {Ds : List PyData} (hc : ChgIs β f s ch) (hn : NearIs β (s - f) ne) : keyS β f Ds s = (firstC β f ch ne Ds, keepC ch (dl β s).length (at_ 1 (Ds.getD (firstC β f ch ne Ds) .none))) := by
  have h1 : firstD β f s Ds = firstC β f ch ne Ds := by
    unfold firstD firstC appl
    rw [holdsD_C, chgN_eq hc, neaN_eq hn]
  unfold keyS keptD
  rw [h1, keepN_C, chgN_eq hc]
instance {β f s m : Nat} : Decidable (ChgIs β f s m) := by
  unfold ChgIs
  infer_instance
instance {β d k : Nat} : Decidable (NearIs β d k) := by
  unfold NearIs
  infer_instance
theorem key1196 : keyS 10 1195 pgD 1196 = (2, 2) := by
  rw [key_C (ch := 1) (ne := 0) (by decide +kernel) (by decide +kernel)]
  decide +kernel
theorem key1199 : keyS 10 1195 pgD 1199 = (2, 2) := by
  rw [key_C (ch := 1) (ne := 1) (by decide +kernel) (by decide +kernel)]
  decide +kernel
theorem key1205 : keyS 10 1195 pgD 1205 = (2, 3) := by
  rw [key_C (ch := 3) (ne := 1) (by decide +kernel) (by decide +kernel)]
  decide +kernel
theorem key1295 : keyS 10 1195 pgD 1295 = (2, 3) := by
  rw [key_C (ch := 3) (ne := 2) (by decide +kernel) (by decide +kernel)]
  decide +kernel
theorem key1999 : keyS 10 1195 pgD 1999 = (2, 3) := by
  rw [key_C (ch := 3) (ne := 3) (by decide +kernel) (by decide +kernel)]
  decide +kernel
theorem key2100 : keyS 10 1195 pgD 2100 = (2, 4) := by
  rw [key_C (ch := 4) (ne := 3) (by decide +kernel) (by decide +kernel)]
  decide +kernel
theorem cut_pg (k : Nat) : k ∈ [1196, 1199, 1205, 1295, 1999, 2100] ↔ (1195 < k ∧ k ≤ 2100 ∧ (k = 2100 ∨ Cut 10 1195 2100 k)) := by
  constructor
  · intro h
    have cc : k = 1196 ∨ k = 1199 ∨ k = 1205 ∨ k = 1295 ∨ k = 1999 ∨ k = 2100 := by simpa using h
    rcases cc with rfl | rfl | rfl | rfl | rfl | rfl
    · exact ⟨by decide, by decide, .inr ⟨0, by decide, .inr (by decide)⟩⟩
    · exact ⟨by decide, by decide, .inr ⟨1, by decide, .inl (by decide)⟩⟩
    · exact ⟨by decide, by decide, .inr ⟨1, by decide, .inr (by decide)⟩⟩
    · exact ⟨by decide, by decide, .inr ⟨2, by decide, .inr (by decide)⟩⟩
    · exact ⟨by decide, by decide, .inr ⟨3, by decide, .inl (by decide)⟩⟩
    · exact ⟨by decide, by decide, .inl rfl⟩
  · rintro ⟨h1, h2, h3⟩
    rcases h3 with rfl | ⟨j, hj, h3⟩
    · decide
    · have j4 : j < 4 := by
        apply Nat.lt_of_not_le
        intro g
        have : 10 ^ 4 ≤ 10 ^ j := Nat.pow_le_pow_right (by decide) g
        omega
      have cc : j = 0 ∨ j = 1 ∨ j = 2 ∨ j = 3 := by omega
      have a0 : cutA 10 1195 0 = 1195 := by decide
      have a1 : cutA 10 1195 1 = 1199 := by decide
      have a2 : cutA 10 1195 2 = 1199 := by decide
      have a3 : cutA 10 1195 3 = 1999 := by decide
      rcases cc with rfl | rfl | rfl | rfl
      · rw [a0] at h3
        have : k = 1196 := by omega
        subst this
        decide
      · rw [a1] at h3
        rcases h3 with rfl | rfl <;> decide
      · rw [a2] at h3
        rcases h3 with rfl | rfl <;> decide
      · rw [a3] at h3
        have : k = 1999 := by omega
        subst this
        decide
theorem str_pg : strR 10 1195 2100 pgD = [(1199, (2, 2)), (1999, (2, 3)), (2100, (2, 4))] := by
  have h := rows_cut (β := 10) (f := 1195) (m := 2100) (Ds := pgD) (ls := [1196, 1199, 1205, 1295, 1999, 2100]) (by decide) (by decide) (by decide) (by decide) cut_pg
  unfold strR
  rw [← h]
  unfold Rn.rows
  simp only [List.foldl_cons, List.foldl_nil, key1196, key1199, key1205, key1295, key1999, key2100]
  decide +kernel
theorem nb_pg : Nb 1195 2100 := ⟨by decide, by decide, by decide⟩
section
variable {w : World} {mg : Str → Option Value} {h base : Heap} (X : (K21 w.params).In h) (G : h.Ns mainGlobals mg) {A : Around} {outer : List Env} {s : Shared} {H0 : Hp} {E0 : XK} {T : List (Addr × Str)} (R : Rm w mg base A outer s H0 E0 T) (L : TxL mg)
include X G R L
theorem end2 : ∃ t, PS (XL w mg base A outer s H0 E0) (inLaw 2) t ∧ ∀ (D : Ends) (H : Hp) (sc p cc l : Addr) (n : Nat) (a : Int) (x2 x3 x4 x5 x6 x7 x8 x9 x10 x11 x12 x13 : Option V) , 
    (∀ (x : Addr) (H' : Hp), StyAt H' 623 x 10 pgD → D.nx [some (.ref sc), some (.ref p), x2, x3, x4, x5, x6, x7, x8, x9, x10, x11, x12, some (.ref x)] H') → t D [some (.ref sc), some (.ref p), x2, x3, x4, x5, x6, x7, x8, x9, x10, x11, x12, x13] H := by
  obtain ⟨hr, hu64, TB, hT, hu⟩ := R
  refine ⟨_, (ps_set (i := 13) scLaw.nd rfl (.inl rfl) (pe_makeR (mk_Style _) (f_Style___init__ X G) (hr.r.mono (by decide)) (by rfl) (mgStyle X G) (fun pins σ H s e s' I c => passAt L2.takes0 σ pins H s e s' I c) (pa_cons pe_int (pa_cons (pe_tup (pa_cons (pe_tup (pa_cons (pe_tup (pa_cons pe_str (pa_cons pe_str pa_nil))) pa_nil)) (pa_cons (pe_tup (pa_cons pe_str pa_nil)) pa_nil))) (pa_cons (pe_tup (pa_cons (pe_tup (pa_cons (pe_tup (pa_cons pe_str (pa_cons pe_int (pa_cons pe_int pa_nil)))) pa_nil)) (pa_cons (pe_tup (pa_cons pe_str pa_nil)) pa_nil))) (pa_cons (pe_tup (pa_cons (pe_tup pa_nil) (pa_cons (pe_tup (pa_cons pe_str (pa_cons pe_int pa_nil))) pa_nil))) pa_nil)))))), fun D H sc p cc l n a x2 x3 x4 x5 x6 x7 x8 x9 x10 x11 x12 x13 q => ?_⟩
  exact rd_makeQ (β := 10) (Ds := pgD) (epa_cons ep_int (epa_cons (ep_tup (epa_cons (ep_tup (epa_cons (ep_tup (epa_cons (ep_str (by decide)) (epa_cons (ep_str (by decide)) epa_nil)) (by simp)) epa_nil) (by simp)) (epa_cons (ep_tup (epa_cons (ep_str (by decide)) epa_nil) (by simp)) epa_nil)) (by simp)) (epa_cons (ep_tup (epa_cons (ep_tup (epa_cons (ep_tup (epa_cons (ep_str (by decide)) (epa_cons ep_int (epa_cons ep_int epa_nil))) (by simp)) epa_nil) (by simp)) (epa_cons (ep_tup (epa_cons (ep_str (by decide)) epa_nil) (by simp)) epa_nil)) (by simp)) (epa_cons (ep_tup (epa_cons (ep_tup epa_nil (by simp)) (epa_cons (ep_tup (epa_cons (ep_str (by decide)) (epa_cons ep_int epa_nil)) (by simp)) epa_nil)) (by simp)) epa_nil)))) (by decide) (by decide) (by decide) pg_due fun x H' e sty => q x H' sty
theorem end3 : ∃ t, PS (XL w mg base A outer s H0 E0) (inLaw 3) t ∧ ∀ (D : Ends) (H : Hp) (sc p cc l : Addr) (n : Nat) (a : Int) (x2 x3 x4 x5 x6 x7 x8 x9 x10 x11 x12 : Option V) (x : Addr), StyAt H 623 x 10 pgD → 
    (∀ (H' : Hp), StyAt H' 623 x 10 pgD → D.nx [some (.ref sc), some (.ref p), x2, x3, x4, x5, x6, x7, x8, x9, x10, x11, x12, some (.ref x)] H') → t D [some (.ref sc), some (.ref p), x2, x3, x4, x5, x6, x7, x8, x9, x10, x11, x12, some (.ref x)] H := by
  obtain ⟨hr, hu64, TB, hT, hu⟩ := R
  refine ⟨_, (ps_if (pt_cmpR (op_neD (show _ + 64 < cLine from hu64)) (pe_call (f_stretches X G) (hr.r.mono (by decide)) (by rfl) L.stretches (kp_stretches _) (bd_stretches _) .nil (fun pins σ H s e s' I c => passAt L2.takes0 σ pins H s e s' I c) (pa_cons (pv 13) (pa_cons pe_int (pa_cons pe_int pa_nil)))) (pe_tup (pa_cons (pe_tup (pa_cons pe_int (pa_cons pe_int (pa_cons pe_int pa_nil)))) (pa_cons (pe_tup (pa_cons pe_int (pa_cons pe_int (pa_cons pe_int pa_nil)))) (pa_cons (pe_tup (pa_cons pe_int (pa_cons pe_int (pa_cons pe_int pa_nil)))) pa_nil)))) (nomark _)) (pss_one (ps_ret pe_bl)) pss_nil), fun D H sc p cc l n a x2 x3 x4 x5 x6 x7 x8 x9 x10 x11 x12 x sty q => ?_⟩
  refine ⟨_, rfl, x, 10, pgD, .int ((1195 : Nat) : Int), .int ((2100 : Nat) : Int), true, true, rfl, sty, by decide, by decide, pg_row, nm_yes (by decide), nm_yes (by decide), stQ_ok nb_pg fun tt ws H1 e1 ntt htt hw hlen => ?_⟩
  rw [str_pg] at hw
  refine (ep_tup (epa_cons (ep_tup (epa_cons ep_int (epa_cons ep_int (epa_cons ep_int epa_nil))) (by simp)) (epa_cons (ep_tup (epa_cons ep_int (epa_cons ep_int (epa_cons ep_int epa_nil))) (by simp)) (epa_cons (ep_tup (epa_cons ep_int (epa_cons ep_int (epa_cons ep_int epa_nil))) (by simp)) epa_nil))) (by simp)) H1 (Ex.refl H1) _ fun v H2 e2 k2 => ⟨.tuple [.tuple [.int 1199, .int 2, .int 2], .tuple [.int 1999, .int 2, .int 3], .tuple [.int 2100, .int 2, .int 4]], .tuple [.tuple [.int 1199, .int 2, .int 2], .tuple [.int 1999, .int 2, .int 3], .tuple [.int 2100, .int 2, .int 4]], .tup (st_of (e2 _ _ htt)) (hw.ex e2).dp, k2.dp rfl, by decide +kernel, by decide +kernel, _, rfl, ?_⟩
  have eb : (!PyData.eqv (.tuple [.tuple [.int 1199, .int 2, .int 2], .tuple [.int 1999, .int 2, .int 3], .tuple [.int 2100, .int 2, .int 4]]) (.tuple [.tuple [.int 1199, .int 2, .int 2], .tuple [.int 1999, .int 2, .int 3], .tuple [.int 2100, .int 2, .int 4]])) = false := by decide +kernel
  rw [eb]
  exact q H2 (sty.ex (e1.trans e2))
theorem end4 : ∃ t, PS (XL w mg base A outer s H0 E0) (inLaw 4) t ∧ ∀ (D : Ends) (H : Hp) (sc p cc l : Addr) (n : Nat) (a : Int) (x2 x3 x4 x5 x6 x7 x8 x9 x10 x11 x12 : Option V) (x : Addr), StyAt H 623 x 10 pgD → 
    (∀ (H' : Hp), D.rt (.bl true) H') → t D [some (.ref sc), some (.ref p), x2, x3, x4, x5, x6, x7, x8, x9, x10, x11, x12, some (.ref x)] H := by
  obtain ⟨hr, hu64, TB, hT, hu⟩ := R
  refine ⟨_, (ps_ret (pe_cmpR op_eq (pe_call (f_total X G) (hr.r.mono (by decide)) (by rfl) L.total (kp_total _) (bd_total _) .nil (fun pins σ H s e s' I c => passAt L2.takes0 σ pins H s e s' I c) (pa_cons (pv 13) (pa_cons pe_int (pa_cons pe_int pa_nil)))) pe_int (nomark _))), fun D H sc p cc l n a x2 x3 x4 x5 x6 x7 x8 x9 x10 x11 x12 x sty q => ?_⟩
  refine ⟨_, rfl, x, 10, pgD, .int ((1195 : Nat) : Int), .int ((2100 : Nat) : Int), true, true, rfl, sty, by decide, by decide, pg_row, nm_yes (by decide), nm_yes (by decide), stQ_ok nb_pg fun H1 e1 => ?_⟩
  have et : totR 1195 (strR 10 1195 2100 pgD) = 2812 := by
    rw [str_pg]
    decide
  rw [et]
  refine ⟨rfl, ?_⟩
  rw [decide_eq_true (show V.int ((2812 : Nat) : Int) = V.int 2812 from rfl)]
  exact q H1
end
end KH21

/-! k21: the addresses of the written part, and what the runs are asked. -/
namespace HR21
open PySem PySem.W PyProof.Rows HandSHeadRun
abbrev R : OpenRow := OpenLaw.row PySem.Challenge.rw_shortspans_k21_whole_stretches
noncomputable abbrev K : Params → Frag := HeadL.withTabs [754] hd21.heap_39
abbrev M : Nat := 20100
def as0 : List Addr := [754, 2, 3, 15, 17, 18, 20, 21, 22, 29, 30, 31, 32, 35, 38, 43, 44, 46, 47, 49, 50, 51, 52, 53, 56, 59, 64, 65, 67, 68, 70, 71, 72, 73, 74, 77, 80, 85, 86, 88, 89, 91, 92, 93, 94, 95, 98, 101, 106, 107, 109, 110, 112, 113, 114, 115, 116, 119, 122, 127, 128, 130, 131, 133, 134, 135, 136, 137, 140, 143, 148, 149, 151, 152, 154, 155, 156, 157, 158, 161, 164, 169, 170, 172, 173, 175, 176, 177, 178, 179, 182, 185, 190, 191, 193, 194, 196, 197, 198, 199, 200, 203, 206, 211, 212, 214, 215, 217, 218, 219, 220, 221, 224, 227, 232, 233, 235, 236, 238, 239, 240, 241, 242, 245, 248, 253, 254, 256, 257, 259, 260, 261, 262, 263, 266, 269, 274, 275, 277, 278, 280, 281, 282, 283, 284, 285, 288, 291, 296, 297, 299, 300, 302, 303, 304, 305, 306, 307, 310, 313, 318, 319, 321, 322, 324, 325, 326, 327, 328, 329, 332, 334, 335, 337, 338, 339, 341, 342, 344, 345, 346, 349, 350, 351, 353, 354, 356, 357, 358, 360, 361, 363, 364, 365, 367, 368, 370, 371, 372, 374, 375, 377, 378, 379, 381, 382, 384, 385, 386, 388, 389, 391, 392, 393, 395, 396, 398, 399, 400, 402, 403, 405, 406, 407, 409, 410, 412, 413, 414, 416, 417, 419, 420, 421, 423, 424, 426, 427, 428, 430, 431, 433, 434, 435, 437, 438, 440, 441, 442, 445, 446, 447, 449, 450, 452, 453, 454, 456, 457, 459, 460, 461, 464, 465, 466, 468, 469, 471, 472, 473, 475, 476, 478, 479, 480, 483, 484, 485, 487, 488, 490, 491, 492, 494, 495, 497, 498, 506, 509, 510, 511, 513, 514, 516, 517, 518, 519, 520, 521, 523, 524, 526, 527, 528, 529, 531, 532, 534, 535, 536, 537, 539, 540, 542, 543, 544, 546, 547, 549, 550, 551, 553, 554, 556, 557, 558, 560, 561, 563, 564, 565, 567, 568, 570, 571, 572, 574, 575, 577, 578, 579, 581, 582, 584, 585, 586, 588, 589, 591, 592, 593, 595, 596, 598, 599, 600, 602, 603, 605, 606, 607, 609, 610, 612, 613, 614, 616, 617, 619, 620, 621, 622, 623, 624, 625, 628, 631, 632, 633, 635, 636, 638, 639, 640, 642, 643, 645, 646, 647, 649, 650, 652, 653, 654, 657, 658, 659, 661, 662, 664, 665, 666, 668, 669, 671, 672, 673, 675, 676, 678, 679, 680, 682, 683, 685, 686, 687, 689, 690, 692, 693, 694, 696, 697, 699, 700, 701, 703, 704, 706, 707, 708, 711, 712, 713, 715, 716, 718, 719, 720, 722, 723, 725, 726, 727, 729, 730, 732, 733, 734, 737, 738, 739, 741, 742, 744, 745, 746, 748, 749, 751, 752, 753, 755, 756, 758, 759]
def as : List Addr := as0
theorem ek (P : Params) : as = (K P).map (·.1) := by kernel_rfl
noncomputable abbrev runs (w : World) (os : OsState) : Option SharedT := endF (stepQ (denQ tabQ) R.prog w) M R.prog w os
def names : List PySem.Str := (["_wall", "SpanError", "BadBase", "BadNumber", "BadDigits", "BadRange", "BadRule", "BadReader", "BadManner", "BadEntry", "BadName", "BadText", "OtherBase", "TooMany", "Missing", "NothingLeft", "FIGURES", "LEAST_BASE", "MOST_BASE", "is_integer", "is_number", "is_figures", "need_base", "need_number", "need_range", "behind", "digits", "length", "changed", "near"] : List PySem.Str) ++ (["MOST_RULES", "MOST_CONDITIONS", "MOST_SIZE", "MOST_ENDING", "is_size", "are_bounds", "begins", "is_condition", "is_keep", "is_rule", "need_rules", "need_place", "plain_rule", "facts_of", "holds", "first_applying", "many_kept", "written", "Style", "lasts_of", "stretches", "total", "_law_mixed", "_law_begin", "_law_draw", "_law_of", "_law_raised", "_law_digits", "_law_power", "_law_changed"] : List PySem.Str) ++ (["_law_holds", "_law_rule", "_law_kept_by", "_law_condition", "_law_keep", "_law_rules", "_law_due", "_law_sum"] : List PySem.Str)
end HR21

namespace HR21
open PySem PySem.W PyProof.Rows HandSHeadRun
theorem run (w : World) (os : OsState) : (runs w os).map (fun s => (looksF R.prog (boot_heap w.params) s.abs, seenQ (view R.prog [73]) names (importedModules R.prog.main.body) (fun s => xlAt (view R.prog [73]) [] s && recOk R.toRowW.records s) s.abs, as.map (getT s))) = some (true, openGood (view R.prog [73]) names, (K w.params).map fun p => some p.2) := by kernel_rfl
theorem head (call : WalkO (view R.prog [73]) names (XL (view R.prog [73]) []) (InK K) R.toRowW (topDef R.prog 73) [] fun f vs => PySem.call f vs) : PySem.Challenge.rw_shortspans_k21_whole_stretches.Holds := by
  w_on; o_law
  refine head_any (r := R) (q := view R.prog [73]) (H := kHook K as ek) (ob := fun s => as.map (getT s)) (M := M) (loose := names) (d := topDef R.prog 73) (kwd := []) (fun s => List.map_congr_left fun a _ => getT_eq s a)
    (by kernel_rfl) (fun s => by kernel_rfl) run (by kernel_rfl) (by kernel_rfl) (by kernel_rfl) (by rfl) (by first | assumption | decide +kernel) (by decide +kernel) ⟨rfl, rfl, rfl, rfl, rfl, by decide +kernel⟩ ?hw call
  case hw => w_witness2
end HR21

namespace KH21
open PySem L2 Evl Dg Dt LamR LamX TL StX ClX ExM Told Lm Ov
open Dr (StAt SameB)
abbrev T21 : List (Addr × Str) := [(754, "law.<locals>.<lambda>")]
section
variable {w : World} {mg : Str → Option Value} {h base : Heap} (X : (K21 w.params).In h) (G : h.Ns mainGlobals mg) {A : Around} {outer : List Env} {s : Shared} {H0 : Hp} {E0 : XK} {T : List (Addr × Str)} (R : Rm w mg base A outer s H0 E0 T) (L : TxL mg)
include X G R L
theorem lawR : ∃ t, PSs (XL w mg base A outer s H0 E0) [inLaw 0, inLaw 1, inLaw 2, inLaw 3, inLaw 4] t ∧ ∀ (D : Ends) (H : Hp) (sc : Addr) (ns : List Int), SqL (K21 w.params) H sc (ns.map V.int) → ns.length ≤ 63 → Tabs T H →
    (∀ (H' : Hp), D.rt (.bl true) H') → t D (L2.start nLaw [V.ref sc]) H := by
  obtain ⟨tT, pT, qT⟩ := turnR X G R L
  obtain ⟨t2, p2, q2⟩ := end2 X G R L
  obtain ⟨t3, p3, q3⟩ := end3 X G R L
  obtain ⟨t4, p4, q4⟩ := end4 X G R L
  obtain ⟨hr, hu64, TB, hT, hu⟩ := R
  refine ⟨_, pss_cons (ps_set (i := 1) scLaw.nd rfl (.inl rfl) (pe_call (f_l_begin X G) (hr.r.mono (by decide)) (by rfl) L.l_begin (kp_l_begin _) (bd_l_begin _) .nil pass0 (pa_cons (pv 0) pa_nil))) (pss_cons (ps_for PassesOwn.never rfl (pi_range1 (by rfl) L.range (pa_cons (pe_op op_add pe_int (pe_callB (call_min2 (by rfl)) (by rfl) L.min (by decide +kernel) (pa_cons pe_int (pa_cons (pe_callB call_len_seq (by rfl) L.len (by decide +kernel) (pa_cons (pv 0) pa_nil)) pa_nil)))) pa_nil)) (pg_name (i := 2) scLaw.nd rfl (.inl rfl)) pT) (pss_cons p2 (pss_cons p3 (pss_one p4)))), fun D H sc ns hS hlen hTb q => ?_⟩
  refine ⟨_, rfl, sc, ns, rfl, hS, hlen, fun p cc l n H1 sm np nl S0 nlc => ?_⟩
  dsimp only
  have eL : Ev (tCB (rLenS (K21 w.params)) (tCons (tVar 0) tNil)) ((L2.start nLaw [V.ref sc]).set 1 (some (.ref p))) H1 (.int ((ns.map V.int).length : Int)) := ev_len (ev_var rfl) (Same.seq sm hS)
  obtain ⟨N, hN, hN8⟩ : ∃ N : Nat, 2 + (if ((ns.map V.int).length : Int) < 3 then ((ns.map V.int).length : Int) else 3) = (N : Int) ∧ N ≤ 5 := by
    by_cases h : ((ns.map V.int).length : Int) < 3
    · rw [if_pos h]; exact ⟨2 + (ns.map V.int).length, by omega, by omega⟩
    · rw [if_neg h]; exact ⟨5, by omega, by omega⟩
  have eA : EvA (tCons (tOp (rI0 fun i j => V.int (i + j)) (tC (V.int 2)) (tCB (fun xs H Q => ∃ i j : Int, xs = [V.int i, V.int j] ∧ Q (V.int (if j < i then j else i)) H) (tCons (tC (V.int 3)) (tCons (tCB (rLenS (K21 w.params)) (tCons (tVar 0) tNil)) tNil)))) tNil)
      ((L2.start nLaw [V.ref sc]).set 1 (some (.ref p))) H1 [V.int (N : Int)] := by
    rw [← hN]
    exact ea_cons (ev_op ev_c (ev_cb (ea_cons ev_c (ea_cons eL ea_nil)) fun H1 _ Q k => ⟨_, _, rfl, k _ (Ex.refl _)⟩) rv_I0) ea_nil
  refine q_forR1 (D := D) (n := (N : Int)) eA (by omega)
    (fun t σ H' => (∃ y2 y3 y4 y5 y6 y7 y8 y9 y10 y11 y12 y13, σ = [some (.ref sc), some (.ref p), y2, y3, y4, y5, y6, y7, y8, y9, y10, y11, y12, y13]) ∧ ∃ (a : Int), a ≤ 6000 * (t : Int) ∧ Lw T p cc l n a H')
    (fun H3 e => ⟨⟨_, _, _, _, _, _, _, _, _, _, _, _, rfl⟩, 0, by omega, Lw.ex (⟨S0, hTb.ext sm⟩ : Lw T p cc l n 0 H1) e⟩) (fun t σ H3 ht ⟨⟨y2, y3, y4, y5, y6, y7, y8, y9, y10, y11, y12, y13, hσ⟩, a, ha, W⟩ => ?_) (fun σ H3 ⟨⟨y2, y3, y4, y5, y6, y7, y8, y9, y10, y11, y12, y13, hσ⟩, a, ha, W⟩ => ?_)
  · subst hσ
    refine qT _ _ sc p cc l n a _ _ _ _ _ _ _ _ _ _ _ _ nlc (by omega) W fun z3 z4 z5 z6 z7 z8 z9 z10 z11 z12 b H4 ab ba L4 => ?_
    exact ⟨⟨_, _, _, _, _, _, _, _, _, _, _, _, rfl⟩, b, by omega, L4⟩
  · subst hσ
    refine q2 _ _ sc p cc l n a _ _ _ _ _ _ _ _ _ _ _ _ fun x H4 sty => ?_
    refine q3 _ _ sc p cc l n a _ _ _ _ _ _ _ _ _ _ _ x sty fun H5 sty => ?_
    exact q4 _ _ sc p cc l n a _ _ _ _ _ _ _ _ _ _ _ x sty fun H6 => q H6
end
def spLaw21 (K : PySem.W.Frag) : Sp := fun vs H Q _ => ∃ (a : Addr) (ns : List Int), vs = [.ref a] ∧ SqL K H a (ns.map V.int) ∧ ns.length ≤ 63 ∧ Tabs T21 H ∧ ∀ H', Q (.bl true) H'
section
variable {w : World} {mg : Str → Option Value} {h base : Heap} (X : (K21 w.params).In h) (G : h.Ns mainGlobals mg)
include X G
theorem txL : TxL mg where
  l_begin := PySem.W.mg_of X G (show PySem.W.nsIn (K21 w.params) mainGlobals "_law_begin" = some (some (.ref 658)) by kernel_rfl)
  l_draw := PySem.W.mg_of X G (show PySem.W.nsIn (K21 w.params) mainGlobals "_law_draw" = some (some (.ref 665)) by kernel_rfl)
  l_due := PySem.W.mg_of X G (show PySem.W.nsIn (K21 w.params) mainGlobals "_law_due" = some (some (.ref 745)) by kernel_rfl)
  l_of := PySem.W.mg_of X G (show PySem.W.nsIn (K21 w.params) mainGlobals "_law_of" = some (some (.ref 672)) by kernel_rfl)
  l_raised := PySem.W.mg_of X G (show PySem.W.nsIn (K21 w.params) mainGlobals "_law_raised" = some (some (.ref 679)) by kernel_rfl)
  l_rules := PySem.W.mg_of X G (show PySem.W.nsIn (K21 w.params) mainGlobals "_law_rules" = some (some (.ref 738)) by kernel_rfl)
  l_sum := PySem.W.mg_of X G (show PySem.W.nsIn (K21 w.params) mainGlobals "_law_sum" = some (some (.ref 752)) by kernel_rfl)
  stretches := PySem.W.mg_of X G (show PySem.W.nsIn (K21 w.params) mainGlobals "stretches" = some (some (.ref 639)) by kernel_rfl)
  total := PySem.W.mg_of X G (show PySem.W.nsIn (K21 w.params) mainGlobals "total" = some (some (.ref 646)) by kernel_rfl)
  len := PySem.W.mg_none_of X G (show PySem.W.nsIn (K21 w.params) mainGlobals "len" = some none by kernel_rfl)
  min := PySem.W.mg_none_of X G (show PySem.W.nsIn (K21 w.params) mainGlobals "min" = some none by kernel_rfl)
  max := PySem.W.mg_none_of X G (show PySem.W.nsIn (K21 w.params) mainGlobals "max" = some none by kernel_rfl)
  range := PySem.W.mg_none_of X G (show PySem.W.nsIn (K21 w.params) mainGlobals "range" = some none by kernel_rfl)
  repr := PySem.W.mg_none_of X G (show PySem.W.nsIn (K21 w.params) mainGlobals "repr" = some none by kernel_rfl)
theorem ok_law21 (TB : TabB base mg 758 754) : FnG P21 w (K21 w.params) mg base CX0 17 759 (PySem.W.fnOf "law" "law" (defArgs sLaw) (defBody sLaw) (defScope sLaw) .none (fO (K21 w.params) 759).kwdefaults (fO (K21 w.params) 759).doc (fO (K21 w.params) 759).pyModule (fO (K21 w.params) 759).annotations (.ref 758) (fO (K21 w.params) 759).closureTuple) ["script"] (spLaw21 (K21 w.params)) := by
  have lk : (K21 w.params).lookup 759 = some ⟨(oO (K21 w.params) 759).cls, (oO (K21 w.params) 759).dict, .func (PySem.W.fnOf "law" "law" (defArgs sLaw) (defBody sLaw) (defScope sLaw) .none (fO (K21 w.params) 759).kwdefaults (fO (K21 w.params) 759).doc (fO (K21 w.params) 759).pyModule (fO (K21 w.params) 759).annotations (.ref 758) (fO (K21 w.params) 759).closureTuple), (oO (K21 w.params) 759).slots⟩ := by kernel_rfl
  have hcd : PySem.W.codeIn (K21 w.params) (.ref 758) "law" = true := by kernel_rfl
  refine fn_ofG lk hcd scLaw (fun vs H Q E h => ?_) (fun A outer s H vs Q E hr h => ?_)
  · obtain ⟨a, ns, rfl, _⟩ := h
    rfl
  · obtain ⟨sc, ns, rfl, hS, hlen, hTb, q⟩ := h
    have hu64 : (A.deeper (PyProof.Rows.envOfC "law" (defScope sLaw) s.heap.objs.size 759 (.ref 758))).units + 64 < cLine := by have := hr.r.units; omega
    obtain ⟨t, pt, qt⟩ := lawR (A := A) (outer := outer) (s := s) (H0 := H) (E0 := E) (T := T21) X G ⟨hr, hu64, TB, by simp, fun p hp hq => by
      have cc : p = (754, ("law.<locals>.<lambda>" : Str)) := by simpa using hp
      rcases cc with rfl
      rfl⟩ (txL X G)
    exact ⟨t, pt.nox, qt _ _ _ ns hS hlen hTb fun H' => q H'⟩
end
end KH21
open PySem PySem.W PyProof.Rows L2 LamR LamX Told
theorem KH21.walk21 {q : Program} {loose : List Str} {XP : (Str → Option Value) → Heap → Prop} {YP : World → Heap → Prop} {d : DefRec} (hdf : d.params.defaults = []) (hd : d.name = ("law" : Str)) (hY : ∀ (w : World) (h : Heap), YP w h → (KH21.K21 w.params).In h) (hT : ∀ (w : World) (h : Heap), YP w h → ∀ P ∈ ([754] : List Addr), h.get? P = some (PySem.W.tabObj #[])) :
    PySem.W.WalkO q loose XP YP PySem.Challenge.rw_shortspans_k21_whole_stretches.row.toRowW d [] (fun f vs => PySem.call f vs) := by
  have one : ∀ p ∈ ([(758, 754)] : List (Addr × Addr)), p = (758, 754) := fun p hp => by simpa using hp
  refine walk_T (l := PySem.Challenge.rw_shortspans_k21_whole_stretches) (n := 63) (k := 17) (K := KH21.K21) (CX := fun _ => CX0) (x := "script") (cs := [(758, 754)]) (sp := fun w => KH21.spLaw21 (KH21.K21 w.params)) rfl (by decide) hdf ⟨⟨rfl, by decide, by decide⟩, rfl⟩ hY
    (fun w h Y p hp => ?_) (fun w p hp => ?_) (fun w p hp => ?_) (fun w mg fa h X G hmg => ?_) (fun w H a ns hl hT hS => ?_) fun _ _ _ _ _ z => z
  · rcases one p hp with rfl
    exact hT w h Y 754 (by simp)
  · rcases one p hp with rfl
    exact (show (KH21.K21 w.params).lookup 754 = none by kernel_rfl)
  · rcases one p hp with rfl
    exact (show PySem.W.codeHdIn (KH21.K21 w.params) 758 754 = true by kernel_rfl)
  · rw [hd] at hmg
    have e := hmg.symm.trans (PySem.W.mg_of X G (show PySem.W.nsIn (KH21.K21 w.params) mainGlobals "law" = some (some (.ref 759)) by kernel_rfl))
    cases e
    exact ⟨_, fun s v => .of_eq rfl, fun base X' G' TB => KH21.ok_law21 X G (TB (758, 754) (by simp))⟩
  · refine ⟨a, ns, rfl, hS, hl, fun p hp => ?_, fun _ => rfl⟩
    have cc : p = (754, ("law.<locals>.<lambda>" : Str)) := by simpa using hp
    rcases cc with rfl
    exact .nil (hT (758, 754) (by simp))
set_option maxRecDepth 100000 in
set_option maxHeartbeats 0 in
theorem PySem.Challenge.cw_shortspans_k21_whole_stretches_holds : PySem.Challenge.rw_shortspans_k21_whole_stretches.Holds := by
  refine HR21.head ?_
  exact KH21.walk21 (by kernel_rfl) (by kernel_rfl) (fun w h Y => HeadL.in_of Y fun a ha => by
    obtain rfl : a = 754 := by simpa using ha
    kernel_rfl) (fun w h Y => HeadL.tabs_of Y)

