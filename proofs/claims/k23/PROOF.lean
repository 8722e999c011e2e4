import PyProof.Rows.All
import Wide.All
import OpenK.AllK
import Wide.FinOn
import HandS.ForMost
import HandS.ForExc
import KE.KExcSuper
import HandS.ExcInit
import KE.KExcIs
import HandS.IsInst
import HandS.ExcValue
import HandS.TryMany
import HandS.ExcField
import HandS.Deep
import HandS.Evl
import HandS.Lambda
import HandS.EndTab
import KE.KDflt
import KE.KRevSl
import HandS.TupAny
import HandS.Iter
import KE.GoesEnum
import HandS.Star
import HandS.ClsMeth
import HandS.CallLocal
import HandS.Property
import HandS.TupMul
import HandS.SlotsOwn
import KE.KOpsOwn
import HandS.Flow
import HandS.Wide
import HandS.Style
import HandS.List
import HandS.Small
import HandS.DictComp
import HandS.Walk
import HandS.Defaults
import HandS.Words
import HandS.Head0
import HandS.Head1
import HandS.Head2
import PyProof.StrOps2
import PySem.Challenge.RW_shortspans_k23_entries_checked
set_option Elab.async false
set_option linter.all false
set_option maxRecDepth 100000
set_option maxHeartbeats 0
set_option exponentiation.threshold 100000
/-! Defs that are called where no repr is being made (so that they may call repr). -/
namespace L2
open PySem PySem.Spec PyProof.Rows
/-- room, and no guard stands around -/
structure RoomG (k : Nat) (A : Around) : Prop where
  r : Room k A
  g : A.guards = some []
theorem RoomG.mono {j k : Nat} {A : Around} (r : RoomG k A) (h : j ≤ k) : RoomG j A := ⟨r.r.mono h, r.g⟩
theorem RoomG.deeper {k : Nat} {A : Around} (r : RoomG (k + 1) A) (env : Env) : RoomG k (A.deeper env) := ⟨r.r.deeper env, r.g⟩
structure FnG (P : Program) (w : World) (K : PySem.W.Frag) (mg : Str → Option Value) (base : Heap) (CX : CXT) (k : Nat) (f : Addr) (fd : FuncData) (ps : List Str) (sp : Sp) : Prop where
  len : ∀ vs H Q E, sp vs H Q E → vs.length = ps.length
  run : ∀ (A : Around) (outer : List Env) (s : Shared) (H : Hp) (args : Args) (us : List Value) (vs : List V) (Q : VK) (E : XK), RoomG k A → Env0 P w K mg base A outer s H → BindsTo s fd args (ps.zip us) → Vals vs us → sp vs H Q E →
    codeAny (model P w) A (.call (.ref f) args) (CR CX outer P w H s Q E) s
theorem FnG.of {P : Program} {w : World} {K : PySem.W.Frag} {mg : Str → Option Value} {base : Heap} {CX : CXT} {k : Nat} {f : Addr} {fd : FuncData} {ps : List Str} {sp : Sp} (F : FnOk P w K mg base CX k f fd ps sp) : FnG P w K mg base CX k f fd ps sp :=
  ⟨F.len, fun A outer s H args us vs Q E hr => F.run A outer s H args us vs Q E hr.r⟩
theorem FnG.mono {P : Program} {w : World} {K : PySem.W.Frag} {mg : Str → Option Value} {base : Heap} {CX : CXT} {j k : Nat} {f : Addr} {fd : FuncData} {ps : List Str} {sp : Sp} (F : FnG P w K mg base CX j f fd ps sp) (h : j ≤ k) : FnG P w K mg base CX k f fd ps sp :=
  ⟨F.len, fun A outer s H args us vs Q E hr => F.run A outer s H args us vs Q E (hr.mono h)⟩
theorem FnG.imp {P : Program} {w : World} {K : PySem.W.Frag} {mg : Str → Option Value} {base : Heap} {CX : CXT} {k : Nat} {f : Addr} {fd : FuncData} {ps : List Str} {sp sp' : Sp} (F : FnG P w K mg base CX k f fd ps sp)
    (h : ∀ vs H Q E, sp' vs H Q E → sp vs H Q E) : FnG P w K mg base CX k f fd ps sp' :=
  ⟨fun vs H Q E q => F.len vs H Q E (h _ _ _ _ q), fun A outer s H args us vs Q E hr he hb hv hs => F.run A outer s H args us vs Q E hr he hb hv (h _ _ _ _ hs)⟩
section
variable {X : Cx} {CX : CXT} {k : Nat} {f C : Addr} {fd : FuncData} {ps : List Str} {sp : Sp} {dvs : List V} {ds : List Value} {E : XK} {x m : Str} {p pos apos : Pos} {e o : Expr} {es : List Expr} {ta : TE} {t : TA}
theorem run_fnG {pins : List (Addr × Obj)} {σ : St} {H : Hp} {s : Shared} {Q : VK} {us : List Value} {vs : List V} (F : FnG X.prog X.w X.K X.mg X.base CX k f fd ps sp) (hr : RoomG k X.A) (hb : Binds X.K fd ps ds) (hd : Vals dvs ds) (hx : Passes CX X E)
    (I : Inv X pins σ H s) (r : Vals vs us) (h : sp (vs ++ dvs) H Q E) : wpAny (model X.prog X.w) X.A (call (.ref f) us) (EP X pins σ Q) X.xe s := by
  have r2 : Vals (vs ++ dvs) (us ++ ds) := r.append hd
  have hl : (us ++ ds).length = ps.length := by rw [← r2.length]; exact F.len _ _ _ _ h
  refine wpAny_call (codeAny_mono (F.run X.A X.stack s H ⟨us, []⟩ (us ++ ds) (vs ++ dvs) Q E hr I.env0 (hb s us I.kIn hl) r2 h) fun r s' hq => ?_)
  cases r with
  | error e => exact hx pins σ H s e s' I hq
  | ok fl =>
    cases fl with
    | ret u => exact I.after hq
    | next => exact False.elim hq
    | brk => exact False.elim hq
    | cont => exact False.elim hq
theorem pe_callG (F : FnG X.prog X.w X.K X.mg X.base CX k f fd ps sp) (hr : RoomG k X.A) (hg : Gl X x) (hm : X.mg x = some (.ref f)) (hk : PySem.W.keepIn X.K (.ref f) = true) (hb : Binds X.K fd ps ds) (hd : Vals dvs ds) (hx : Passes CX X E)
    (ha : PA X (e :: es) t) (hdb : (x == ("__debug__" : Str)) = false := by decide) (he : starEach (e :: es) X.env = (false, eval e X.env) :: starEach es X.env := by rfl) (hpl : (backTo pos (starEach es X.env)).any (·.1) = false := by rfl) :
    PE X (.Call (.Name x p) (e :: es) [] pos) (tCall sp dvs E t) := by
  refine ⟨fun pins s σ H Q I h => ?_⟩
  refine wpAny_Call_Name_kw (ld_glob I hg hm ?_ hdb)
  refine PySem.W.callWith_K (h₀ := X.base) I.ok.mod.kin hk (thn (ha.run pos pins s σ H _ I h) fun us s1 ⟨vs, H1, I1, r, q⟩ => ⟨I1.kIn, ?_⟩) he hpl
  exact run_fnG F hr hb hd hx I1 r q
theorem pe_call0G (F : FnG X.prog X.w X.K X.mg X.base CX k f fd ps sp) (hr : RoomG k X.A) (hg : Gl X x) (hm : X.mg x = some (.ref f)) (hk : PySem.W.keepIn X.K (.ref f) = true) (hb : Binds X.K fd ps ds) (hd : Vals dvs ds) (hx : Passes CX X E)
    (hdb : (x == ("__debug__" : Str)) = false := by decide) : PE X (.Call (.Name x p) [] [] pos) (tCall sp dvs E tNil) := by
  refine ⟨fun pins s σ H Q I h => ?_⟩
  refine wpAny_Call_Name_kw (ld_glob I hg hm ?_ hdb)
  exact PySem.W.callWith_K0 I.kIn hk (run_fnG (us := []) F hr hb hd hx I .nil h)
end
theorem fn_ofG {CX : CXT} {P : Program} {w : World} {K : PySem.W.Frag} {mg : Str → Option Value} {base : Heap} {k : Nat} {f : Addr} {name qual : Str} {params : Arguments} {body : List Stmt} {scope : Scope} {dV kV doc pm cdv ct oc : Value} {an od : Option Addr}
    {osl : Array (Option Value)} {N ps : List Str} {sp : Sp} (lk : K.lookup f = some ⟨oc, od, .func (PySem.W.fnOf name qual params body scope dV kV doc pm an cdv ct), osl⟩) (hcd : PySem.W.codeIn K cdv qual = true) (S : FnScope N ps scope)
    (len : ∀ vs H Q E, sp vs H Q E → vs.length = ps.length)
    (hbody : ∀ (A : Around) (outer : List Env) (s : Shared) (H : Hp) (vs : List V) (Q : VK) (E : XK), RoomG k (A.deeper (envOfC qual scope s.heap.objs.size f cdv)) → sp vs H Q E →
      ∃ t, PSs (cxOf CX P w K mg base N qual scope f cdv A outer s H E) body t ∧ t { nx := fun _ H' => Q .non H', rt := Q } (start N vs) H) :
    FnG P w K mg base CX (k + 1) f (PySem.W.fnOf name qual params body scope dV kV doc pm an cdv ct) ps sp := by
  refine ⟨len, fun A outer s H args us vs Q E hr e0 hb r hsp => ?_⟩
  have hl := len _ _ _ _ hsp
  have KX : K.In s.heap := e0.mod.kin.keeps fun b o e => (e0.bs b o e).1
  have lim : s.heap.NoLimit := e0.mod.nolimit.keeps fun b o e => (e0.bs b o e).1
  have hkind : ∀ y ∈ ps.zip us, scope.names.lookup y.1 = some .local ∨ (scope.names.lookup y.1 = some .cell ∧ ((cellsFrom (s.heap.objs.size + 1) scope.names []).lookup y.1).isSome = true) := fun ⟨n, v⟩ hy => by
    rcases S.par n (List.of_mem_zip hy).1 with q | q
    · exact .inl q
    · exact .inr ⟨q, PySem.W.cellsFrom_some _ _ _ (.inl q)⟩
  refine codeAny_call_function hr.r.depth (KX _ _ lk) rfl S.co S.gen rfl (PySem.W.codeRec_of KX hcd) (hb _ _ _ _ ?_)
  refine wpAny_newFunctionEnv_cells S.kind hkind fun env he s1 x => ?_
  subst he
  refine ⟨lim.keeps x.toInCall.keep, codeAny_func ?_⟩
  obtain ⟨t, ht, hq⟩ := hbody A outer s H vs Q E (hr.deeper _) hsp
  have I : Inv (cxOf CX P w K mg base N qual scope f cdv A outer s H E) [] (start N vs) H s1 := inv_start S hr.r.hd e0 hl r x
  refine wpAny_mono (ht.run [] s1 (start N vs) H _ I hq) (fun fl s' hs => ?_) fun e s' hs => hs
  have fin : ∀ {σ' : St} {H' : Hp} {v : V} {u : Value}, Inv (cxOf CX P w K mg base N qual scope f cdv A outer s H E) [] σ' H' s' → RelV v u → Q v H' → CE outer P w H s Q u s' :=
    fun {σ' H' v u} J rv q => ⟨v, H', J.os, J.bare, J.base, J.hok, rv, q⟩
  cases fl with
  | ret u =>
    obtain ⟨v, σ', H', J, rv, q⟩ := hs
    exact fin J rv q
  | next =>
    obtain ⟨σ', H', J, q⟩ := hs
    exact fin (v := V.non) (u := Value.none) J rfl q
  | brk =>
    obtain ⟨_, _, _, q⟩ := hs
    exact False.elim q
  | cont =>
    obtain ⟨_, _, _, q⟩ := hs
    exact False.elim q
section
variable {P : Program} {w : World} {K : PySem.W.Frag} {mg : Str → Option Value} {base : Heap}
theorem Fun.okG {x qual : Str} {st : Stmt} {f : Addr} {fd : FuncData} {N ps : List Str} {k : Nat} {sp : Sp} (F : Fun K x qual st f fd) (S : FnScope N ps (defScope st)) (len : ∀ vs H Q E, sp vs H Q E → vs.length = ps.length)
    (hbody : ∀ (cdv : Value) (A : Around) (outer : List Env) (s : Shared) (H : Hp) (vs : List V) (Q : VK) (E : XK), RoomG k (A.deeper (envOfC qual (defScope st) s.heap.objs.size f cdv)) → sp vs H Q E →
      ∃ t, PSs (cxOf CX0 P w K mg base N qual (defScope st) f cdv A outer s H E).nox (defBody st) t ∧ t { nx := fun _ H' => Q .non H', rt := Q } (start N vs) H) : FnG P w K mg base CX0 (k + 1) f fd ps sp := by
  obtain ⟨oc, od, kV, doc, pm, an, cdv, ct, osl, rfl, lk, hcd⟩ := F.ex
  refine fn_ofG lk hcd S len fun A outer s H vs Q E hr hsp => ?_
  obtain ⟨t, h, q⟩ := hbody cdv A outer s H vs Q E hr hsp
  exact ⟨t, h.nox, q⟩
theorem Fun.okXG {x qual : Str} {st : Stmt} {f : Addr} {fd : FuncData} {N ps : List Str} {k : Nat} {sp : Sp} (F : Fun K x qual st f fd) (S : FnScope N ps (defScope st)) (len : ∀ vs H Q E, sp vs H Q E → vs.length = ps.length)
    (hbody : ∀ (cdv : Value) (A : Around) (outer : List Env) (s : Shared) (H : Hp) (vs : List V) (Q : VK) (E : XK), RoomG k (A.deeper (envOfC qual (defScope st) s.heap.objs.size f cdv)) → sp vs H Q E →
      ∃ t, PSs (cxOf (L2.CX P w) P w K mg base N qual (defScope st) f cdv A outer s H E) (defBody st) t ∧ t { nx := fun _ H' => Q .non H', rt := Q } (start N vs) H) : FnG P w K mg base (L2.CX P w) (k + 1) f fd ps sp := by
  obtain ⟨oc, od, kV, doc, pm, an, cdv, ct, osl, rfl, lk, hcd⟩ := F.ex
  exact fn_ofG lk hcd S len fun A outer s H vs Q E hr hsp => hbody cdv A outer s H vs Q E hr hsp
end
/-! ### the head -/
theorem law_callG {P : Program} {w : World} {K : PySem.W.Frag} {mg mb : Str → Option Value} {CX : CXT} {k : Nat} {fa a : Addr} {fd : FuncData} {x : Str} {sp : Sp} {s₁ : Shared} {vs : List Value} {ns : List Int}
    (KX : K.In s₁.heap) (hns : s₁.heap.Ns mainGlobals mg) (hb : s₁.heap.Ns builtinsNs mb) (hbb : ∀ x : Str, x ≠ "__name__" → mb x = bootBuiltins x) (hlim : s₁.heap.NoLimit) (hg : s₁.gens = #[])
    (ha : s₁.heap.get? a = some { cls := .type "list", data := .seq vs.toArray }) (hi : IntsAre vs ns) (hl : ns.length ≤ sizeLine) (hr : RoomG k callerA)
    (F : ∀ base : Heap, K.In base → base.Ns mainGlobals mg → FnG P w K mg base CX k fa fd [x] sp) (hbind : ∀ (s : Shared) (u : Value), BindsTo s fd ⟨[u], []⟩ [(x, u)])
    (hsp : ∀ H : Hp, Only H → SqL K H a (ns.map V.int) → sp [.ref a] H (fun v _ => v = .bl true) fun _ _ _ => False)
    (hCX : ∀ H e s', CX [] H s₁ (fun _ _ _ => False) e s' → False) :
    codeAny (model P w) callerA (.call (.ref fa) ⟨[.ref a], []⟩) (fun r s' => r = .ok (.ret (.bool true)) ∧ OldK s₁.heap s'.heap ∧ s'.os = s₁.os ∧ AllBare s'.gens) s₁ := by
  have rv := vals_ints hi
  have lenV := hi.length
  have core : ∀ H : Hp, Only H → SqL K H a (ns.map V.int) → HOk P w H s₁.heap → (∀ b, H b ≠ none → b = a) → (H a ≠ none → K.lookup a = none) →
      codeAny (model P w) callerA (.call (.ref fa) ⟨[.ref a], []⟩) (fun r s' => r = .ok (.ret (.bool true)) ∧ OldK s₁.heap s'.heap ∧ s'.os = s₁.os ∧ AllBare s'.gens) s₁ := by
    intro H hO hS hok hA hK
    have base_of : ∀ {b : Addr} {o : Obj}, s₁.heap.get? b = some o → H b = none → (hidT s₁.heap H).get? b = some o := fun e n => hidT_get e n
    have noA : ∀ {b : Addr} {o : Obj} {es : Array DictEntry} {ep : Nat}, s₁.heap.get? b = some o → o.data = .dict es ep → H b = none := fun {b o es ep} e d => by
      cases q : H b with
      | none => rfl
      | some u =>
        have e' : b = a := hA b (by rw [q]; simp)
        subst e'
        rw [ha] at e; cases e
        have d' : Data.seq vs.toArray _ = Data.dict es ep := d
        cases d'
    have nsK : ∀ {b : Addr} {m : Str → Option Value}, s₁.heap.Ns b m → (hidT s₁.heap H).Ns b m := fun {b m} ⟨o, es, ep, e, d, r⟩ => ⟨o, es, ep, base_of e (noA e d), d, r⟩
    have hKb : K.In (hidT s₁.heap H) := fun b o e => base_of (KX b o e) (by
      cases q : H b with
      | none => rfl
      | some u =>
        have e' : b = a := hA b (by rw [q]; simp)
        subst e'
        rw [hK (by rw [q]; simp)] at e; cases e)
    have hM : Mod K mg (hidT s₁.heap H) := ⟨hKb, nsK hns, ⟨mb, nsK hb, hbb⟩, let ⟨mc, h1, h2⟩ := hlim; ⟨mc, nsK h1, h2⟩⟩
    have e0 : Env0 P w K mg (hidT s₁.heap H) callerA [] s₁ H := ⟨rfl, hM, fun b o e => of_hidT e, Nat.le_of_eq (hidT_size _ _), trivial, fun b hb => absurd (show b ∈ ([] : List Addr) from hb) (by simp), hok, .of_eq hg⟩
    refine codeAny_mono ((F _ hKb (nsK hns)).run callerA [] s₁ H ⟨[.ref a], []⟩ [.ref a] [.ref a] _ _ hr e0 (hbind s₁ (.ref a)) (.cons rfl .nil) (hsp H hO hS)) fun r s' h => ?_
    cases r with
    | error e => exact (hCX H e s' h).elim
    | ok fl =>
      cases fl with
      | next => exact False.elim h
      | brk => exact False.elim h
      | cont => exact False.elim h
      | ret u =>
        obtain ⟨v, H', os, bare, un, hok', r', q⟩ := h
        have q' : v = .bl true := q
        subst q'
        obtain rfl : u = Value.bool true := r'
        refine ⟨rfl, OldK.of_keep fun b o e => ?_, os, bare⟩
        cases q : H b with
        | none => exact un.keep b o e q (by intro z; exact absurd (show b ∈ ([] : List Addr) from z) (by simp)) (by simp)
        | some u =>
          rcases hO b with z | ⟨ob, xs, z⟩
          · rw [q] at z; cases z
          · have z2 := un.frzs b ob _ z
            obtain ⟨e1, _⟩ := hok b _ z
            obtain ⟨e2, _⟩ := hok' b _ z2
            rw [e] at e1; cases e1
            exact e2
  cases hk : K.lookup a with
  | some o =>
    have e := KX a o hk
    rw [ha] at e
    cases e
    refine core (fun _ => none) (fun _ => .inl rfl) (.inr ⟨_, vs.toArray, _, hk, rfl, rfl, rfl, by rw [List.size_toArray, lenV]; exact hl, by simpa using rv⟩) (fun b u z => by have z' : (none : Option HO) = some u := z; cases z') (fun b z => absurd rfl z) fun z => absurd rfl z
  | none =>
    refine core (fun b => if b = a then some (.frz { cls := .type "list", data := .seq vs.toArray } (.lst (ns.map V.int))) else none) (fun b => ?_) (.inl (.inr ⟨{ cls := .type "list", data := .seq vs.toArray }, if_pos rfl⟩)) (fun b u z => ?_) (fun b z => ?_) fun _ => hk
    · by_cases hb : b = a
      · exact .inr ⟨_, _, if_pos hb⟩
      · exact .inl (if_neg hb)
    · by_cases hb : b = a
      · have z' := (if_pos hb).symm.trans z
        cases z'
        subst hb
        exact ⟨ha, by rw [List.length_map]; exact hl, vs, _, rv, ha⟩
      · have z' := (if_neg hb).symm.trans z
        cases z'
    · by_cases hb : b = a
      · exact hb
      · exact absurd (if_neg hb) z
theorem walk_ofG {l : PySem.W.OpenLaw} {n k : Nat} {q : Program} {loose : List Str} {XP : (Str → Option Value) → Heap → Prop} {YP : World → Heap → Prop} {d : DefRec} {K : Params → PySem.W.Frag} {CX : World → CXT} {sp : World → Sp} {x : Str}
    (hn : l.most = some n) (hn2 : n ≤ sizeLine) (hdf : d.params.defaults = []) (hr : RoomG k callerA)
    (hY : ∀ (w : World) (h : Heap), YP w h → (K w.params).In h)
    (F : ∀ (w : World) (mg : Str → Option Value) (fa : Addr) (h : Heap), (K w.params).In h → h.Ns mainGlobals mg → mg d.name = some (.ref fa) →
      ∃ fd : FuncData, (∀ (s : Shared) (u : Value), BindsTo s fd ⟨[u], []⟩ [(x, u)]) ∧
        ∀ base : Heap, (K w.params).In base → base.Ns mainGlobals mg → FnG l.prog w (K w.params) mg base (CX w) k fa fd [x] (sp w))
    (hsp : ∀ (w : World) (H : Hp) (a : Addr) (ns : List Int), ns.length ≤ n → Only H → SqL (K w.params) H a (ns.map V.int) → sp w [.ref a] H (fun v _ => v = .bl true) fun _ _ _ => False)
    (hCX : ∀ (w : World) (H : Hp) (s : Shared) (e : Value) (s' : Shared), CX w [] H s (fun _ _ _ => False) e s' → False) :
    PySem.W.WalkO q loose XP YP l.row.toRowW d [] (fun f vs => PySem.call f vs) := by
  refine Att.attach_call hn hdf fun w s₀ s₁ mg mb fa o pm cd doc a vs ns G Y ho hd hcd hmg hobj hints hlen hg => ?_
  have KX := hY w _ Y
  obtain ⟨fd, hb, hF⟩ := F w mg fa _ KX G.T.g hmg
  exact law_callG KX G.T.g G.T.b G.T.builtins G.T.nolimit hg hobj hints (Nat.le_trans hlen hn2) hr hF hb (fun H hO hS => hsp w H a ns hlen hO hS) fun H e s' => hCX w H s₁ e s'
end L2

/-! An own exception class whose __init__ says super().__init__(text) and then stores its arguments: made. -/
namespace ExM
open PySem PySem.W PySem.Calls PyProof.Rows

/-- what stands around a body's globals -/
structure GlobAt (h : Heap) (mg : Str → Option Value) : Prop where
  g : h.Ns mainGlobals mg
  b : ∃ mb, h.Ns builtinsNs mb ∧ mb "super" = some (.type "super")
  s : mg "super" = none
  lim : h.NoLimit
theorem GlobAt.keeps {h h' : Heap} {mg : Str → Option Value} (x : GlobAt h mg) (k : ∀ b o, h.get? b = some o → h'.get? b = some o) : GlobAt h' mg :=
  ⟨x.g.keeps k, let ⟨mb, a, c⟩ := x.b; ⟨mb, a.keeps k, c⟩, x.s, x.lim.keeps k⟩

/-- what the library tells of a built-in __init__ that is the base's -/
structure InF (B i : String) : Prop where
  entry : entryFor table i = some Builtin.«BaseException.__init__»
  kind : builtinKind i = some .slot
  row : Manifest.signature? i = some ⟨.positional, "*", B, .self, [⟨"args", .varPos, false⟩]⟩
  noStar : (B != "*") = true
  plain : plainId i = true
  sup : KxsFacts B i
/-- what the written part says of the class at C and of its __init__ at f (its __class__ cell at cc) -/
structure Ini (K : Frag) (prog : Program) (C f cc : Addr) (qual : Str) (params : Arguments) (body : List Stmt) (scope : Scope) (bmB : List Value) (B newId initId : String) : Prop where
  cls : ∃ nm q N bs bm sn sub ab col dd k0 k1 k2 k3 k5, K.lookup C = some (excClassObj nm q C N bs bm true sn sub ab col dd k0 k1 k2 k3 k5 newId) ∧ excTail bmB bm = true
  new : ∃ Bn initN bmN, ExcBaseFacts Bn newId initN bmN ∧ bmB.contains (.type Bn) = true ∧ bmB.contains (.type "AttributeError") = false ∧ bmB.contains (.type "NameError") = false
  ini : InF B initId
  pass : ∀ self, refuseLoop self "__setattr__" bmB = pure ()
  obj : bmB.contains (.type "object") = true
  sa : findIn K (.ref C) "__setattr__" = some (some (.builtin "object.__setattr__"))
  iC : findIn K (.ref C) "__init__" = some (some (.ref f))
  tF : typeIn K (.ref f) = some (.type "function")
  kC : keepIn K (.ref C) = true
  exC : subIn K (.ref C) (.type "BaseException") = some true
  bC : subIn K (.ref C) (.type B) = some true
  tyC : typeIn K (.ref C) = some (.type "type")
  op : nsIn K cStatics "thirdparty.any" = some none
  al : ks_superIn K C C "__init__" = some (some (.builtin initId))
  fn : ∃ (oc : Value) (od : Option Addr) (kV doc pm : Value) (an : Option Addr) (cda : Addr) (ct : Value) (osl : Array (Option Value)),
    K.lookup f = some ⟨oc, od, .func (ksFn "__init__" qual params body scope .none kV doc pm an (.ref cda) ct cc), osl⟩ ∧ codeIn K (.ref cda) qual = true ∧
    ∃ ccl cdd vs ccs file tf, K.lookup cda = some ⟨ccl, cdd, .fields vs, ccs⟩ ∧ vs[2]? = some (.str file tf) ∧ ((prog.main.file : Str) == file) = true
  cell : ∃ cl cld csl, K.lookup cc = some ⟨cl, cld, .cell (some (.ref C)), csl⟩
  top : (prog.main.scope.names.lookup ("super" : Str)).isSome = false
  sS : scope.names.lookup ("super" : Str) = some .globalImplicit
  sC : scope.names.lookup ("__class__" : Str) = some .free
  sk : scope.kind = .function

section
variable {prog : Program} {w : World} {A : Around} {E : Value → Shared → Prop} {h : Heap} {g : Array GenState} {d : Drawn} {t : Nat} {os : OsState}
variable {K : Frag} {mg : Str → Option Value} {C f cc x L : Addr} {qual : Str} {params : Arguments} {body : List Stmt} {scope : Scope} {bmB : List Value} {B newId initId : String}

theorem Ini.cd (T : Ini K prog C f cc qual params body scope bmB B newId initId) : ∃ cd : ClassData, clsIn K C = some cd ∧ (∃ bm, cd.mro = .ref C :: bm ∧ excTail bmB bm = true) ∧ cd.hasDict = true := by
  obtain ⟨nm, q, N, bs, bm, sn, sub, ab, col, dd, k0, k1, k2, k3, k5, hC, hbm⟩ := T.cls
  exact ⟨{ name := nm, bases := bs, mro := .ref C :: bm, ns := N, qualname := q, hasDict := true, slotNames := sn, subclasses := sub, abstract := ab, collection := col, hasDel := false }, by unfold clsIn; rw [hC] <;> rfl, ⟨bm, rfl, hbm⟩, rfl⟩

/-- super() in the body, self at x, an exception of C without a dict -/
theorem super_made (T : Ini K prog C f cc qual params body scope bmB B newId initId) {cda : Addr} {oc : Value} {od : Option Addr} {kV doc pm ct : Value} {an : Option Addr} {osl : Array (Option Value)} {m : Str → Option Value} {ox : Obj}
    (hf : K.lookup f = some ⟨oc, od, .func (ksFn "__init__" qual params body scope .none kV doc pm an (.ref cda) ct cc), osl⟩)
    (hcda : ∃ ccl cdd vs ccs file tf, K.lookup cda = some ⟨ccl, cdd, .fields vs, ccs⟩ ∧ vs[2]? = some (.str file tf) ∧ ((prog.main.file : Str) == file) = true)
    {ar : Arg} (hp : (params.posonlyargs ++ params.args).head? = some ar) (hka : scope.names.lookup ar.arg = some .local) (X : K.In h) (G : GlobAt h mg) (hn : h.Ns L m) (hv : m ar.arg = some (.ref x)) (hx : h.get? x = some ox) (hc : ox.cls = .ref C) (hd : ∀ c, ox.data ≠ .cls c)
    {bd : List Stmt} {p0 p1 : Pos} {whole : Sem Value} {Q : Value → Shared → Prop}
    (hq : ∀ h', h'.get? h.objs.size = some (ks_superObj C x C) → (∀ b o, h.get? b = some o → h'.get? b = some o) → Q (.ref h.objs.size) ⟨h', g, d, t, os⟩) :
    _root_.PySem.wpAt (model prog w) A (.func bd (ksEnv qual scope L f (.ref cda) cc)) (attributeBase (.Call (.Name "super" p0) [] [] p1) "__init__" (ksEnv qual scope L f (.ref cda) cc) whole) Q E ⟨h, g, d, t, os⟩ := by
  obtain ⟨ccl, cdd, vs, ccs, file, tf, hcode, hvs, hfile⟩ := hcda
  obtain ⟨cl, cld, csl, hcell⟩ := T.cell
  obtain ⟨cd, hcd, ⟨bm, hm, hbm⟩, hh⟩ := T.cd
  obtain ⟨oD, hD1, hD2⟩ : ∃ oD, h.get? C = some oD ∧ oD.data = .cls cd := by
    unfold clsIn at hcd
    split at hcd
    · rename_i c0 d0 cd' sl ho
      cases hcd
      exact ⟨_, X _ _ ho, rfl⟩
    · cases hcd
  have hsub : Looks (model prog w) h (isSubtype (.ref C) (.ref C)) true := looks_mroIn X (by unfold mroIn; rw [hcd, Option.bind_some, hm]; simp)
  obtain ⟨mb, hb, hbs⟩ := G.b
  refine ks_wpAt_super_base (env := ksEnv qual scope L f (.ref cda) cc) T.sS T.sC (by decide) rfl (X _ _ hf) rfl hp rfl (X _ _ hcode) rfl hvs hfile T.top ?_
  refine ks_loadName_global T.sk T.sS (loadGlobal_builtin (env := ksEnv qual scope L f (.ref cda) cc) G.g G.s hb hbs ⟨rfl, ?_⟩)
  refine wpAny_loadName_free T.sk T.sC rfl ⟨_, X _ _ hcell, rfl⟩ ?_
  refine wpAny_loadName_local T.sk hka hn hv ?_
  refine ks_wpAny_isType_cls hD1 hD2 ⟨rfl, ?_⟩
  exact ks_wpAny_call_super hD1 hD2 hx hc hd hsub fun h' e k => hq h' e k

theorem check_bound {M : Model} {B i newId : String} (F : InF B i) {nm q : Str} {C N e : Addr} {oe : Obj} {bs bm : List Value} {hdct : Bool} {sn : List Str} {sub : List Value} {ab : Bool} {col : Option Bool} {dd : Option Addr} {k0 k1 k2 k3 k5 : Option Value} {rest : List Value} {Q : Unit → Shared → Prop}
    (hC : h.get? C = some (excClassObj nm q C N bs bm hdct sn sub ab col dd k0 k1 k2 k3 k5 newId)) (he : h.get? e = some oe) (hcls : oe.cls = .ref C) (hq : Q () ⟨h, g, d, t, os⟩) : wpAny M A (checkBoundCall i ⟨.ref e :: rest, []⟩) Q E ⟨h, g, d, t, os⟩ := by
  have hshort := F.noStar
  simp only [checkBoundCall, F.kind, F.row]
  repeat (first | (with_reducible refine wpAny_loadPart_at he ?_; rw [hcls]) | with_reducible refine wpAny_loadPart_at hC ?_ | wp_step)
  refine wpAny_onRaise ?_
  rw [show ∀ (a b : String) (n : Nat), Bind.check ⟨.positional, "*", B, .self, [⟨"args", .varPos, false⟩]⟩ a b n (List.map (fun x => x.fst) ({ pos := Value.ref e :: rest } : Args).kw) = pure () from
    fun a b n => check_star_args _ _ _ _ _ _]
  exact wpAny_pure hq
/-- the bound __init__ of the built-in base, called: the exception's args are laid anew -/
theorem bound_called (T : Ini K prog C f cc qual params body scope bmB B newId initId) {u t0 : Addr} {dv : Option Addr} {rest : List Value} {Q : Value → Shared → Prop} (X : K.In h)
    (hx : h.get? x = some (excObj C t0 dv .none)) (hu : h.get? u = some (kxs_mw initId x)) (hz : rest.length ≤ sizeLine)
    (hq : ∀ h' t1, (∀ b o, b ≠ x → h.get? b = some o → h'.get? b = some o) → h'.get? x = some (excObj C t1 dv .none) → Q .none ⟨h', g, d, t, os⟩) :
    wpAny (model prog w) A (call (.ref u) rest) Q E ⟨h, g, d, t, os⟩ := by
  obtain ⟨nm, q, N, bs, bm, sn, sub, ab, col, dd, k0, k1, k2, k3, k5, hC, hbm⟩ := T.cls
  have FB := T.ini
  refine wpAny_call (codeAny_of_tree ?_)
  show wpAny _ A.in1 (callAny (.ref u) ⟨rest, []⟩) _ _ _
  simp only [callAny]
  refine wpAny_bind (wpAny_load hu ?_)
  simp only [kxs_mw, show (Value.type "method-wrapper" == Value.type "method" || Value.type "method-wrapper" == Value.type "builtin_function_or_method" || Value.type "method-wrapper" == Value.type "method-wrapper") = true by decide, if_true]
  refine KFB.if_so (by decide) ?_
  refine wpAny_bind (check_bound FB (X _ _ hC) hx rfl ?_)
  refine wpAny_bind (wpAny_pure (wpAny_pure ?_))
  refine ⟨plainId_quiet FB.plain _, codeAny_builtin FB.entry ?_⟩
  exact exc_init_tree (cls := .ref C) (t0 := t0) (dv := dv) (c2 := .none) (c3 := .none) (b4 := .bool false) hx hz fun h' k e' _ => hq h' _ k e'

/-- the statement super().__init__(text) -/
theorem super_said (T : Ini K prog C f cc qual params body scope bmB B newId initId) {cda : Addr} {oc : Value} {od : Option Addr} {kV doc pm ct : Value} {an : Option Addr} {osl : Array (Option Value)} {m : Str → Option Value} {t0 : Addr}
    (hf : K.lookup f = some ⟨oc, od, .func (ksFn "__init__" qual params body scope .none kV doc pm an (.ref cda) ct cc), osl⟩)
    (hcda : ∃ ccl cdd vs ccs file tf, K.lookup cda = some ⟨ccl, cdd, .fields vs, ccs⟩ ∧ vs[2]? = some (.str file tf) ∧ ((prog.main.file : Str) == file) = true)
    {ar : Arg} (hp : (params.posonlyargs ++ params.args).head? = some ar) (hka : scope.names.lookup ar.arg = some .local) (X : K.In h) (G : GlobAt h mg) (hn : h.Ns L m) (hv : m ar.arg = some (.ref x)) (hx : h.get? x = some (excObj C t0 none .none)) (hxL : x ≠ L) (hxK : K.lookup x = none)
    {bd : List Stmt} {p0 p1 p2 p3 p4 p5 : Pos} {msg : Str} {j : Nat} {Q : Flow → Shared → Prop}
    (hq : ∀ h' tk t1, (∀ b o, b ≠ x → h.get? b = some o → h'.get? b = some o) → h'.get? x = some (excObj C t1 none .none) → Q .next ⟨h', g, d, tk, os⟩)
    (hi : interactive (ksEnv qual scope L f (.ref cda) cc) = false) {pl : Sem Bool}
    (hev : eval (.Call (.Attribute (.Call (.Name "super" p0) [] [] p1) "__init__" p2) [.Constant (.str msg) j p3] [] p4) (ksEnv qual scope L f (.ref cda) cc) = (do
      let ov ← attributeBase (.Call (.Name "super" p0) [] [] p1) "__init__" (ksEnv qual scope L f (.ref cda) cc) (eval (.Call (.Name "super" p0) [] [] p1) (ksEnv qual scope L f (.ref cda) cc))
      standAt p2.atName
      let (fx, first) ← holding [ov] (getMethod ov "__init__" pl)
      callWith p4 fx first (backTo p4 (starEach [.Constant (.str msg) j p3] (ksEnv qual scope L f (.ref cda) cc))) [])) :
    _root_.PySem.wpAt (model prog w) A (.func bd (ksEnv qual scope L f (.ref cda) cc))
      (exec (.Expr (.Call (.Attribute (.Call (.Name "super" p0) [] [] p1) "__init__" p2) [.Constant (.str msg) j p3] [] p4) p5) (ksEnv qual scope L f (.ref cda) cc)) Q E ⟨h, g, d, t, os⟩ := by
  refine ks_wpAt_Expr_any ?_ hi rfl
  refine ks_wpAt_MethodCall ?_ hev
  refine super_made T hf hcda hp hka X G hn hv hx rfl (fun c z => by cases z) fun h1 e1 k1 => ?_
  have X1 : K.In h1 := X.keeps k1
  have hx1 := k1 _ _ hx
  obtain ⟨cd, hcd, ⟨bm, hm, hbm⟩, hh⟩ := T.cd
  have I1 : InstAt h1 x (excObj C t0 none .none) C none := ⟨hx1, rfl, rfl, trivial⟩
  have hI : Looks (model prog w) h1 (isInstance (.ref x) (.type B)) true := I1.type.andThen (looks_subIn X1 T.bC)
  have hal : alongIn K "__init__" ((cd.mro.dropWhile (· != .ref C)).drop 1) = some (some (.builtin initId)) := by
    have z := T.al
    unfold ks_superIn at z
    rw [hcd] at z
    exact z
  refine kxs_getMethod T.ini.sup e1 (looks_opaque X1 T.op) (l₀ := cd.mro) (fun A Q E s k q => wpAny_bind ((looks_clsIn X1 hcd) A _ E s k (wpAny_pure q))) rfl X1 hal hI (ks_ne X1 I1 hcd) (by decide) ?_
  have k2 : ∀ b o, h1.get? b = some o → (h1.push (kxs_mw initId x)).get? b = some o := fun b o e => Heap.get?_push_of_some _ e
  have hu : (h1.push (kxs_mw initId x)).get? h1.objs.size = some (kxs_mw initId x) := Heap.get?_push_at rfl rfl
  refine kxs_callWith (i := initId) (x := x) rfl (evalArgs_plain ?_)
  show wpAny _ _ (spliced ((false, eval (.Constant (.str msg) j p3) _) :: backTo p4 (starEach [] _))) _ _ _
  refine Calls.spliced_cons (Calls.Constant_str ?_)
  refine Calls.spliced_nil ⟨hu, ?_⟩
  refine bound_called T (X1.keeps k2) (k2 _ _ hx1) hu (by rw [sizeLine_eq]; exact (by decide : 1 ≤ 16777216)) fun h3 t1 k3 e3 => ?_
  exact hq h3 _ t1 (fun b o hb e => k3 b o hb (k2 b o (k1 b o e))) e3

/-- what a new exception with one dict is: the class at C, its dict at dx -/
structure Own (h h' : Heap) (x C dx : Addr) (m : Str → Option Value) : Prop where
  keep : ∀ b o, b ≠ x → h.get? b = some o → h'.get? b = some o
  obj : ∃ t1, h'.get? x = some (excObj C t1 (some dx) .none)
  dbig : h.objs.size ≤ dx
  dne : dx ≠ x
  ns : h'.Ns1 dx m

section
open Builtin Builtin.ObjectAttr
/-- the built-in store at such an exception -/
theorem store_walk (T : Ini K prog C f cc qual params body scope bmB B newId initId) {name : Str} {tk : Tok} {v : Value} {ox : Obj} {od : Option Obj} {R : Result → Shared → Prop}
    (X : K.In h) (I : InstAt h x ox C od) (ha : findIn K (.ref C) name = some none)
    (hq : wpAny (model prog w) A.in1 (storeInOwnDict (.ref x) (.ref C) (.str name tk) name v false)
      (fun fin s' => match fin with | .done f => R (.ok f) s' | .again c' => c'.quiet = true ∧ codeAny (model prog w) A c' R s') (fun e s' => R (.error e) s') ⟨h, g, d, t, os⟩) :
    codeAny (model prog w) A (.call (.builtin "object.__setattr__") ⟨[.ref x, .str name tk, v], []⟩) R ⟨h, g, d, t, os⟩ := by
  obtain ⟨cd, hcd, ⟨bm, hm, hbm⟩, hh⟩ := T.cd
  have SF := F.store_object
  have hpass : refuseLoop (.ref x) "__setattr__" cd.mro = pure () := by
    rw [hm, refuseLoop_ref]
    exact excTail_pass _ (T.pass _) bm hbm
  have hob : cd.mro.contains (.type "object") = true := by
    rw [hm, List.contains_cons, excTail_contains "object" bm hbm]
    exact Bool.or_eq_true_iff.mpr (.inr (T.obj))
  have sub : Looks (model prog w) h (isInstance (.ref x) (.type "object")) true := I.type.andThen (looks_mroIn X (by unfold mroIn; rw [hcd, Option.bind_some, if_neg (by rw [hm]; exact Bool.false_ne_true), hob]))
  refine codeAny_call_builtin SF.slot.plain SF.entry (@check_slot (model prog w) _ _ ⟨h, g, d, t, os⟩ "object.__setattr__" "object" "__setattr__" (.ref x) [.str name tk, v] [] _ SF.kind SF.split sub (SF.args (.ref x) (.str name tk) v) ?_)
  have hmr : Looks (model prog w) h (mroOf (.ref C)) cd.mro := (looks_clsIn X hcd).andThen .now
  have L3 : Looks (model prog w) h (storeTaker? none) none := .now
  rw [osa_eq, refuse_eq]
  refine wpAny_bind (wpAny_bind (I.type.at (wpAny_bind (hmr.at ?_))))
  rw [hpass]
  exact wpAny_pure (wpAny_bind (I.type.at (wpAny_bind ((looks_findIn X ha).at (wpAny_bind (L3.at hq))))))
/-- self.name = v, the first one -/
theorem store_first (T : Ini K prog C f cc qual params body scope bmB B newId initId) {name : Str} {v : Value} {fv : Array Value} {Q : Unit → Shared → Prop}
    (X : K.In h) (hx : h.get? x = some { cls := .ref C, data := .fields fv }) (ha : findIn K (.ref C) name = some none)
    (hq : ∀ h' tk' dx, (∀ b o, b ≠ x → h.get? b = some o → h'.get? b = some o) → h.objs.size ≤ dx → dx ≠ x → h'.get? x = some { cls := .ref C, dict := some dx, data := .fields fv } →
      h'.Ns1 dx (fun y => if y = name then some v else none) → Q () ⟨h', g, d, tk', os⟩) :
    wpAny (model prog w) A (setAttr (.ref x) name v) Q E ⟨h, g, d, t, os⟩ := by
  obtain ⟨cd, hcd, ⟨bm, hm, hbm⟩, hh⟩ := T.cd
  have I : InstAt h x { cls := .ref C, data := .fields fv } C none := ⟨hx, rfl, rfl, trivial⟩
  have hxs : x ≠ h.objs.size := Nat.ne_of_lt (Heap.lt_size hx)
  have hcls : Looks (model prog w) h (classData C) cd := looks_clsIn X hcd
  refine set_plain X I T.sa (store_walk T X I ha ?_)
  obtain ⟨nm, bs, mro, ns, qn, hd, sn, sb, ab, col, del⟩ := cd
  dsimp only at hh
  subst hh
  unfold storeInOwnDict ownDictForStores
  repeat (first | with_reducible refine HandSPX.store_in_new ?_ ?_ | with_reducible refine wpAny_loadPart_at hx ?_ | with_reducible refine hcls.at ?_ | wp_step)
  · exact ⟨_, #[], _, (Heap.get?_update_ne _ _ _ _ hxs.symm).trans (Heap.get?_push_at rfl rfl), rfl, fun e he => absurd he (by simp), fun _ => rfl⟩
  · intro h' tk' hn' hs
    have hx₁ : (h.push { cls := .type "dict", data := .dict #[] }).get? x = some { cls := .ref C, data := .fields fv } := Heap.get?_push_of_some _ hx
    refine hq h' tk' h.objs.size (fun b o hb ho => ?_) (Nat.le_refl _) hxs.symm ?_ hn'
    · exact (hs.2 b (Nat.ne_of_lt (Heap.lt_size ho))).trans ((Heap.get?_update_ne _ _ _ _ hb).trans (Heap.get?_push_of_some _ ho))
    · exact (hs.2 x hxs).trans (Heap.get?_update_self _ hx₁ rfl)
/-- a further one -/
theorem store_more (T : Ini K prog C f cc qual params body scope bmB B newId initId) {dx : Addr} {name : Str} {v : Value} {fv : Array Value} {m0 : Str → Option Value} {nl : List Str} {Q : Unit → Shared → Prop}
    (X : K.In h) (hx : h.get? x = some { cls := .ref C, dict := some dx, data := .fields fv }) (hns : h.Ns1 dx m0) (hw : Within m0 nl) (hz : nl.length ≤ 1000) (ha : findIn K (.ref C) name = some none)
    (hq : ∀ h' tk', (∀ b o, b ≠ dx → h.get? b = some o → h'.get? b = some o) → h'.Ns1 dx (fun y => if y = name then some v else m0 y) → Q () ⟨h', g, d, tk', os⟩) :
    wpAny (model prog w) A (setAttr (.ref x) name v) Q E ⟨h, g, d, t, os⟩ := by
  obtain ⟨cd, hcd, ⟨bm, hm, hbm⟩, hh⟩ := T.cd
  obtain ⟨oD, esD, epD, hoD, hdD, _⟩ := hns.count hw
  have I : InstAt h x { cls := .ref C, dict := some dx, data := .fields fv } C (some oD) := ⟨hx, rfl, rfl, hoD⟩
  have hcls : Looks (model prog w) h (classData C) cd := looks_clsIn X hcd
  refine set_plain X I T.sa (store_walk T X I ha ?_)
  obtain ⟨nm, bs, mro, ns, qn, hd, sn, sb, ab, col, del⟩ := cd
  dsimp only at hh
  subst hh
  unfold storeInOwnDict ownDictForStores
  repeat (first | with_reducible refine OEX.store_in_old hns hw hz ?_ | with_reducible refine wpAny_loadPart_at hx ?_ | with_reducible refine hcls.at ?_ | wp_step)
  intro h' tk' hn' hs
  exact hq h' tk' (fun b o hb ho => (hs.2 b hb).trans ho) hn'
end

end
end ExM

/-! Own exceptions called with keywords; own exceptions over KeyError (whose __new__ is LookupError's). -/
namespace ExM
open PySem PySem.W PySem.Calls
section
variable {M : Model} {prog : Program} {w : World} {A : Around} {E : Value → Shared → Prop} {R : Result → Shared → Prop} {h : Heap} {g : Array GenState} {d : Drawn} {t : Nat} {os : OsState}
variable {nm q : Str} {C N : Addr} {bs bm bmN : List Value} {hdct : Bool} {sn : List Str} {sub : List Value} {ab : Bool} {col : Option Bool} {dd : Option Addr} {k0 k1 k2 k3 k5 : Option Value} {Bn newId initN : String}
/-- what the class's mro says of the built-in that makes its instances -/
structure NewM (C : Addr) (bm : List Value) (Bn : String) : Prop where
  hb : (Value.ref C :: bm).contains (.type Bn) = true
  ha : (Value.ref C :: bm).contains (.type "AttributeError") = false
  hn : (Value.ref C :: bm).contains (.type "NameError") = false
theorem check_newK (F : ExcBaseFacts Bn newId initN bmN) (m : NewM C bm Bn) {rest : List Value} {kw : List (Str × Value)} {Q : Unit → Shared → Prop}
    (hC : h.get? C = some (excClassObj nm q C N bs bm hdct sn sub ab col dd k0 k1 k2 k3 k5 newId)) (hq : Q () ⟨h, g, d, t, os⟩) : wpAny M A (checkBuiltinCall newId ⟨.ref C :: rest, kw⟩) Q E ⟨h, g, d, t, os⟩ := by
  have hcont := m.hb
  have hstar := F.noStar
  simp only [checkBuiltinCall, F.newKind, F.newSplit, F.newRow]
  repeat (first | refine wpAny_loadPart_at hC ?_ | (refine wpAny_isSubtype_exc hC ?_; rw [hcont]) | refine wpAny_staticBase_exc hC ?_ | refine wpAny_madeBy_exc hC ?_ | simp only [bne_self_eq_false, Bool.false_eq_true, if_false] | wp_step)
  exact hq
theorem newK (F : ExcBaseFacts Bn newId initN bmN) (m : NewM C bm Bn) {rest : List Value} {kw : List (Str × Value)}
    (hC : h.get? C = some (excClassObj nm q C N bs bm hdct sn sub ab col dd k0 k1 k2 k3 k5 newId))
    (hq : R (.ok (.ret (.ref (h.objs.size + 1)))) ⟨(h.push { cls := .type "tuple", data := .seq rest.toArray }).push
      { cls := .ref C, data := .fields #[.ref h.objs.size, .none, .none, .none, .bool false, .none] }, g, d, t, os⟩) (hrest : rest.length ≤ sizeLine) :
    codeAny (model prog w) A (.builtin newId ⟨.ref C :: rest, kw⟩) R ⟨h, g, d, t, os⟩ := by
  have hends := F.ends
  have hcB := m.hb
  have hcA := m.ha
  have hcN := m.hn
  refine codeAny_builtinAt F.entry ?_
  unfold Builtin.«BaseException.__new__»
  refine wpAt_bind ?_
  show wpAt _ _ _ (stack >>= _) _ _ _
  refine wpAt_bind (wpAt_stack fun p below => wpAt_of_wpAny ?_)
  wp_walk
  refine wpAt_of_wpAny ?_
  rw [F.owner]
  repeat (first | with_reducible refine wpAny_madeHere_exc F.canon hC ?_ | with_reducible refine wpAny_loadPart_at hC ?_ | (with_reducible refine wpAny_isSubtype_exc hC ?_; first | rw [hcB] | rw [hcA] | rw [hcN]) | wp_step)
  show R _ _
  rw [Heap.size_push]
  exact hq
theorem type_callK (F : ExcBaseFacts Bn newId initN bmN) (m : NewM C bm Bn) {rest : List Value} {kw : List (Str × Value)} {fI : Addr} {Q : Fin → Shared → Prop}
    (hC : h.get? C = some (excClassObj nm q C N bs bm hdct sn sub ab col dd k0 k1 k2 k3 k5 newId))
    (hi : W.Looks (model prog w) h (typeLookup (.ref C) "__init__") (some (.ref fI))) (hb : ∀ self, W.Looks (model prog w) h (bindSpecial (.ref fI) self) (.ref fI, [self])) (hrest : rest.length ≤ sizeLine)
    (hq : codeAny (model prog w) A (.call (.ref fI) ⟨.ref (h.objs.size + 1) :: rest, kw⟩)
      (fun r s' => match r with | .ok (.ret v) => v = .none ∧ Q (.done (.ret (.ref (h.objs.size + 1)))) s' | .ok _ => False | .error e => E e s')
      ⟨(h.push (W.kdv_tup rest)).push (HandSPX.excO C h.objs.size), g, d, t, os⟩) :
    wpAny (model prog w) A (Builtin.«type.__call__» ⟨.ref C :: rest, kw⟩) Q E ⟨h, g, d, t, os⟩ := by
  repeat (first | with_reducible refine wpAny_loadPart_at hC ?_ | with_reducible refine wpAny_madeBy_exc hC ?_ | wp_step)
  refine codeAny_call_builtin_code (Code.quiet_builtin _ F.quiet) (check_newK F m hC ?_)
  refine newK F m hC ?_ hrest
  show wpAny _ _ _ _ _ _
  have k : ∀ b o, h.get? b = some o → ((h.push (W.kdv_tup rest)).push (HandSPX.excO C h.objs.size)).get? b = some o := fun b o e => Heap.get?_push_of_some _ (Heap.get?_push_of_some _ e)
  have hC₁ := k _ _ hC
  have hget : ((h.push (W.kdv_tup rest)).push (HandSPX.excO C h.objs.size)).get? (h.objs.size + 1) = some (HandSPX.excO C h.objs.size) := by heap_get
  have hcC : (Value.ref C :: bm).contains (.ref C) = true := by simp
  have i1 := hi.keeps k
  have b1 := (hb (.ref (h.objs.size + 1))).keeps k
  unfold isInstance
  repeat (first | with_reducible refine wpAny_loadPart_at hget ?_ | (with_reducible refine wpAny_isSubtype_exc hC₁ ?_; rw [hcC]) | wp_step)
  show wpAny _ _ (typeLookup (.ref C) _) _ _ _
  refine i1.at ?_
  refine wpAny_holding (wpAny_bind (b1.at ?_))
  refine wpAny_bind (wpAny_call (codeAny_mono hq fun r s' z => ?_))
  rcases r with e | (v | _ | _ | _) <;> first | exact z | exact z.elim | skip
  obtain ⟨rfl, z⟩ := z
  first
    | exact wpAny_pure (wpAny_pure z)
    | (wp_walk; exact z)
theorem check_typeK {rest : List Value} {kw : List (Str × Value)} {Q : Unit → Shared → Prop} (hC : h.get? C = some (excClassObj nm q C N bs bm hdct sn sub ab col dd k0 k1 k2 k3 k5 newId))
    (hq : Q () ⟨h, g, d, t, os⟩) : wpAny M A (checkBuiltinCall "type.__call__" ⟨.ref C :: rest, kw⟩) Q E ⟨h, g, d, t, os⟩ := by
  have f3 := tc_sub
  have hT : (⟨h, g, d, t, os⟩ : Shared).TypeIs (.ref C) "type" := ⟨_, hC, rfl⟩
  simp only [checkBuiltinCall, tc_kind, tc_split]
  repeat (any_goals (first | assumption | with_reducible refine wpAny_loadPart_at hC ?_ | with_reducible refine wpAny_onRaise ?_ | with_reducible refine wpAny_map ?_ | wp_step))
theorem call_K (F : ExcBaseFacts Bn newId initN bmN) (m : NewM C bm Bn) {rest : List Value} {kw : List (Str × Value)} {fI : Addr}
    (hC : h.get? C = some (excClassObj nm q C N bs bm hdct sn sub ab col dd k0 k1 k2 k3 k5 newId))
    (hi : W.Looks (model prog w) h (typeLookup (.ref C) "__init__") (some (.ref fI))) (hb : ∀ self, W.Looks (model prog w) h (bindSpecial (.ref fI) self) (.ref fI, [self])) (hrest : rest.length ≤ sizeLine)
    (hq : codeAny (model prog w) (A.under (.builtin "type.__call__" ⟨.ref C :: rest, kw⟩)) (.call (.ref fI) ⟨.ref (h.objs.size + 1) :: rest, kw⟩) (W.InitBack (h.objs.size + 1) R)
      ⟨(h.push (W.kdv_tup rest)).push (HandSPX.excO C h.objs.size), g, d, t, os⟩) :
    codeAny (model prog w) A (.call (.ref C) ⟨rest, kw⟩) R ⟨h, g, d, t, os⟩ := by
  have f1 := tc_lookup
  have f2 := tc_bind (.ref C)
  have hTy : (⟨h, g, d, t, os⟩ : Shared).TypeIs (.ref C) "type" := ⟨_, hC, rfl⟩
  refine codeAny_of_tree ?_
  show wpAny _ _ (callAny (.ref C) _) _ _ _
  repeat (any_goals (first | assumption | with_reducible refine wpAny_loadPart_at hC ?_ | wp_step))
  refine ⟨rfl, ?_⟩
  refine codeAny_call_builtin_at (Code.quiet_builtin _ (by decide +kernel)) entry_typeCall (check_typeK hC (type_callK F m hC hi hb hrest ?_))
  refine codeAny_mono hq fun r s' z => ?_
  rcases r with e | (v | _ | _ | _) <;> exact z
end
end ExM

namespace ExM
open PySem PySem.W PySem.Calls PyProof.Rows
section
variable {prog : Program} {w : World} {A : Around} {E : Value → Shared → Prop} {s : Shared}
variable {K : Frag} {mg : Str → Option Value} {C f cc x L : Addr} {qual : Str} {scope : Scope} {bmB : List Value} {B newId initId : String}

abbrev supSt (msg : Str) (j : Nat) (p0 p1 p2 p3 p4 p5 : Pos) : Stmt := .Expr (.Call (.Attribute (.Call (.Name "super" p0) [] [] p1) "__init__" p2) [.Constant (.str msg) j p3] [] p4) p5
abbrev putSt (fld : Str) (q1 q2 q3 q4 : Pos) : Stmt := .Assign [.Attribute (.Name "self" q1) fld q2] (.Name fld q3) q4
/-- what is computed of the scope -/
structure Sc (scope : Scope) (params : Arguments) (flds : List Str) : Prop where
  self : scope.names.lookup ("self" : Str) = some .local
  fl : ∀ y ∈ flds, scope.names.lookup y = some .local
  nc : ∀ y ∈ scope.names, y.2 ≠ .cell
  co : scope.isCoroutine = false
  gen : scope.isGenerator = false
  hd : ∃ ar, (params.posonlyargs ++ params.args).head? = some ar ∧ ar.arg = "self"
  nd : ∀ y ∈ flds, y ≠ "self" ∧ (y == ("__debug__" : Str)) = false
/-- super().__init__ is evaluated so -/
def Ev (qual : Str) (scope : Scope) (f cc : Addr) (msg : Str) (j : Nat) (p0 p1 p2 p3 p4 : Pos) : Prop := ∀ (L : Addr) (cd : Value), interactive (ksEnv qual scope L f cd cc) = false ∧ ∃ pl : Sem Bool,
  eval (.Call (.Attribute (.Call (.Name "super" p0) [] [] p1) "__init__" p2) [.Constant (.str msg) j p3] [] p4) (ksEnv qual scope L f cd cc) = (do
      let ov ← attributeBase (.Call (.Name "super" p0) [] [] p1) "__init__" (ksEnv qual scope L f cd cc) (eval (.Call (.Name "super" p0) [] [] p1) (ksEnv qual scope L f cd cc))
      standAt p2.atName
      let (fx, first) ← holding [ov] (getMethod ov "__init__" pl)
      callWith p4 fx first (backTo p4 (starEach [.Constant (.str msg) j p3] (ksEnv qual scope L f cd cc))) [])

theorem ld_local {M : Model} {cd : Value} {m : Str → Option Value} {y : Str} {pos : Pos} {v : Value} {Q : Value → Shared → Prop} (hn : s.heap.Ns L m) (hv : m y = some v) (hk : scope.kind = .function) (hl : scope.names.lookup y = some .local) (hd : (y == ("__debug__" : Str)) = false) (h : Q v s) :
    wpAny M A (eval (.Name y pos) (ksEnv qual scope L f cd cc)) Q E s := wpAny_Name (wpAny_loadName_local hk hl hn hv h) hd

variable {params : Arguments} {msg fld : Str} {j : Nat} {p0 p1 p2 p3 p4 p5 q1 q2 q3 q4 : Pos}
/-- __init__ of one field, run on a fresh exception -/
theorem init_one (T : Ini K prog C f cc qual params [supSt msg j p0 p1 p2 p3 p4 p5, putSt fld q1 q2 q3 q4] scope bmB B newId initId) (S : Sc scope params [fld]) (V : Ev qual scope f cc msg j p0 p1 p2 p3 p4) (hno : findIn K (.ref C) fld = some none)
    {t0 : Addr} {v : Value} {args : Args} {R : Result → Shared → Prop} (X : K.In s.heap) (G : GlobAt s.heap mg) (hx : s.heap.get? x = some (excObj C t0 none .none)) (hxK : K.lookup x = none) (hroom : A.depth < recursionLimit)
    (hb : ∀ (kV doc pm : Value) (an : Option Addr) (cdv ct : Value), BindsTo s (ksFn "__init__" qual params [supSt msg j p0 p1 p2 p3 p4 p5, putSt fld q1 q2 q3 q4] scope .none kV doc pm an cdv ct cc) args [(("self" : Str), .ref x), (fld, v)])
    (hq : ∀ h' tk dx, Own s.heap h' x C dx (fun y => if y = fld then some v else none) → R (.ok (.ret .none)) { s with heap := h', toks := tk }) :
    codeAny (model prog w) A (.call (.ref f) args) R s := by
  obtain ⟨oc, od, kV, doc, pm, an, cda, ct, osl, ho, hcd, hcda⟩ := T.fn
  obtain ⟨ar, har, hself⟩ := S.hd
  have hfn := S.nd fld (by simp)
  obtain ⟨hp, g, d, t, os⟩ := s
  refine ks_codeAny_call_defAt (fd := ksFn "__init__" qual params [supSt msg j p0 p1 p2 p3 p4 p5, putSt fld q1 q2 q3 q4] scope .none kV doc pm an (.ref cda) ct cc) (body := [supSt msg j p0 p1 p2 p3 p4 p5, putSt fld q1 q2 q3 q4]) hroom (X _ _ ho) rfl G.lim (codeRec_of X hcd) rfl (hb _ _ _ _ _ _) S.nc
    (fun y hy => ?_) (fun h0 hns k0 => ?_) S.co S.gen T.sk
  · rcases List.mem_cons.mp hy with rfl | hy
    · exact S.self
    · rcases List.mem_cons.mp hy with rfl | hy
      · exact S.fl _ (by simp)
      · exact absurd hy (by simp)
  have X0 : K.In h0 := X.keeps k0
  have G0 := G.keeps k0
  have hx0 := k0 _ _ hx
  have hxL : x ≠ hp.objs.size := Nat.ne_of_lt (Heap.lt_size hx)
  have m1 : (fun y => ([(("self" : Str), Value.ref x), (fld, v)] : List (Str × Value)).reverse.lookup y) "self" = some (Value.ref x) := by
    have e : (("self" : Str) == fld) = false := by simpa using fun z => hfn.1 z.symm
    simp [List.lookup, e]
  have m2 : (fun y => ([(("self" : Str), Value.ref x), (fld, v)] : List (Str × Value)).reverse.lookup y) fld = some v := by simp [List.lookup]
  obtain ⟨hin, pl, hev⟩ := V hp.objs.size (.ref cda)
  refine ks_wpAt_execs_cons ?_
  refine super_said T (g := g) (d := d) (os := os) (t := t + [(("self" : Str), Value.ref x), (fld, v)].length) ho hcda har (by rw [hself]; exact S.self) X0 G0 hns (by rw [hself]; exact m1) hx0 hxL hxK (fun h1 tk1 t1 k1 e1 => ?_) hin hev
  refine _root_.PySem.wpAt_of_wpAny ?_
  have X1 : K.In h1 := fun b o e => k1 b o (fun z => by rw [z, hxK] at e; cases e) (X0 b o e)
  have hns1 : h1.Ns hp.objs.size (fun y => ([(("self" : Str), Value.ref x), (fld, v)] : List (Str × Value)).reverse.lookup y) := by
    obtain ⟨o, es, ep, a, b⟩ := hns
    exact ⟨o, es, ep, k1 _ _ (Ne.symm hxL) a, b⟩
  refine wpAny_execs_cons (plainObj_wpAny_Assign_Attribute ?_)
  refine ld_local hns1 m2 T.sk (S.fl _ (by simp)) hfn.2 (ld_local hns1 m1 T.sk S.self (by decide) ?_)
  refine store_first T X1 e1 hno fun h2 tk2 dx k2 dn dne e2 n2 => ?_
  refine wpAny_execs_nil ?_
  have hz : hp.objs.size ≤ h1.objs.size := by
    obtain ⟨o, es, ep, a, b⟩ := hns1
    exact Nat.le_of_lt (Heap.lt_size a)
  exact hq h2 tk2 dx ⟨fun b o hb e => k2 b o hb (k1 b o hb (k0 b o e)), ⟨t1, e2⟩, Nat.le_trans hz dn, dne, n2⟩

/-- __init__ without a field -/
theorem init_none (T : Ini K prog C f cc qual params [supSt msg j p0 p1 p2 p3 p4 p5] scope bmB B newId initId) (S : Sc scope params []) (V : Ev qual scope f cc msg j p0 p1 p2 p3 p4)
    {t0 : Addr} {args : Args} {R : Result → Shared → Prop} (X : K.In s.heap) (G : GlobAt s.heap mg) (hx : s.heap.get? x = some (excObj C t0 none .none)) (hxK : K.lookup x = none) (hroom : A.depth < recursionLimit)
    (hb : ∀ (kV doc pm : Value) (an : Option Addr) (cdv ct : Value), BindsTo s (ksFn "__init__" qual params [supSt msg j p0 p1 p2 p3 p4 p5] scope .none kV doc pm an cdv ct cc) args [(("self" : Str), .ref x)])
    (hq : ∀ h' tk t1, (∀ b o, b ≠ x → s.heap.get? b = some o → h'.get? b = some o) → h'.get? x = some (excObj C t1 none .none) → R (.ok (.ret .none)) { s with heap := h', toks := tk }) :
    codeAny (model prog w) A (.call (.ref f) args) R s := by
  obtain ⟨oc, od, kV, doc, pm, an, cda, ct, osl, ho, hcd, hcda⟩ := T.fn
  obtain ⟨ar, har, hself⟩ := S.hd
  obtain ⟨hp, g, d, t, os⟩ := s
  refine ks_codeAny_call_defAt (fd := ksFn "__init__" qual params [supSt msg j p0 p1 p2 p3 p4 p5] scope .none kV doc pm an (.ref cda) ct cc) (body := [supSt msg j p0 p1 p2 p3 p4 p5]) hroom (X _ _ ho) rfl G.lim (codeRec_of X hcd) rfl (hb _ _ _ _ _ _) S.nc
    (fun y hy => ?_) (fun h0 hns k0 => ?_) S.co S.gen T.sk
  · rcases List.mem_cons.mp hy with rfl | hy
    · exact S.self
    · exact absurd hy (by simp)
  have hx0 := k0 _ _ hx
  have hxL : x ≠ hp.objs.size := Nat.ne_of_lt (Heap.lt_size hx)
  have m1 : (fun y => ([(("self" : Str), Value.ref x)] : List (Str × Value)).reverse.lookup y) "self" = some (Value.ref x) := by simp [List.lookup]
  obtain ⟨hin, pl, hev⟩ := V hp.objs.size (.ref cda)
  refine ks_wpAt_execs_cons ?_
  refine super_said T (g := g) (d := d) (os := os) (t := t + [(("self" : Str), Value.ref x)].length) ho hcda har (by rw [hself]; exact S.self) (X.keeps k0) (G.keeps k0) hns (by rw [hself]; exact m1) hx0 hxL hxK (fun h1 tk1 t1 k1 e1 => ?_) hin hev
  refine _root_.PySem.wpAt_of_wpAny (wpAny_execs_nil ?_)
  exact hq h1 tk1 t1 (fun b o hb e => k1 b o hb (k0 b o e)) e1
variable {fld2 : Str} {r1 r2 r3 r4 : Pos}
/-- __init__ of two fields -/
theorem init_two (T : Ini K prog C f cc qual params [supSt msg j p0 p1 p2 p3 p4 p5, putSt fld q1 q2 q3 q4, putSt fld2 r1 r2 r3 r4] scope bmB B newId initId) (S : Sc scope params [fld, fld2]) (V : Ev qual scope f cc msg j p0 p1 p2 p3 p4) (hno : findIn K (.ref C) fld = some none)
    (hno2 : findIn K (.ref C) fld2 = some none) (hff : fld ≠ fld2)
    {t0 : Addr} {v v2 : Value} {args : Args} {R : Result → Shared → Prop} (X : K.In s.heap) (G : GlobAt s.heap mg) (hx : s.heap.get? x = some (excObj C t0 none .none)) (hxK : K.lookup x = none) (hroom : A.depth < recursionLimit)
    (hb : ∀ (kV doc pm : Value) (an : Option Addr) (cdv ct : Value), BindsTo s (ksFn "__init__" qual params [supSt msg j p0 p1 p2 p3 p4 p5, putSt fld q1 q2 q3 q4, putSt fld2 r1 r2 r3 r4] scope .none kV doc pm an cdv ct cc) args [(("self" : Str), .ref x), (fld, v), (fld2, v2)])
    (hq : ∀ h' tk dx, Own s.heap h' x C dx (fun y => if y = fld2 then some v2 else if y = fld then some v else none) → R (.ok (.ret .none)) { s with heap := h', toks := tk }) :
    codeAny (model prog w) A (.call (.ref f) args) R s := by
  obtain ⟨oc, od, kV, doc, pm, an, cda, ct, osl, ho, hcd, hcda⟩ := T.fn
  obtain ⟨ar, har, hself⟩ := S.hd
  have hf1 := S.nd fld (by simp)
  have hf2 := S.nd fld2 (by simp)
  obtain ⟨hp, g, d, t, os⟩ := s
  refine ks_codeAny_call_defAt (fd := ksFn "__init__" qual params [supSt msg j p0 p1 p2 p3 p4 p5, putSt fld q1 q2 q3 q4, putSt fld2 r1 r2 r3 r4] scope .none kV doc pm an (.ref cda) ct cc)
    (body := [supSt msg j p0 p1 p2 p3 p4 p5, putSt fld q1 q2 q3 q4, putSt fld2 r1 r2 r3 r4]) hroom (X _ _ ho) rfl G.lim (codeRec_of X hcd) rfl (hb _ _ _ _ _ _) S.nc
    (fun y hy => ?_) (fun h0 hns k0 => ?_) S.co S.gen T.sk
  · rcases List.mem_cons.mp hy with rfl | hy
    · exact S.self
    · rcases List.mem_cons.mp hy with rfl | hy
      · exact S.fl _ (by simp)
      · rcases List.mem_cons.mp hy with rfl | hy
        · exact S.fl _ (by simp)
        · exact absurd hy (by simp)
  have X0 : K.In h0 := X.keeps k0
  have hx0 := k0 _ _ hx
  have hxL : x ≠ hp.objs.size := Nat.ne_of_lt (Heap.lt_size hx)
  have e1' : (("self" : Str) == fld) = false := by simpa using fun z => hf1.1 z.symm
  have e2' : (("self" : Str) == fld2) = false := by simpa using fun z => hf2.1 z.symm
  have e3' : (fld == fld2) = false := by simpa using hff
  have m1 : (fun y => ([(("self" : Str), Value.ref x), (fld, v), (fld2, v2)] : List (Str × Value)).reverse.lookup y) "self" = some (Value.ref x) := by simp [List.lookup, e1', e2']
  have m2 : (fun y => ([(("self" : Str), Value.ref x), (fld, v), (fld2, v2)] : List (Str × Value)).reverse.lookup y) fld = some v := by simp [List.lookup, e3']
  have m3 : (fun y => ([(("self" : Str), Value.ref x), (fld, v), (fld2, v2)] : List (Str × Value)).reverse.lookup y) fld2 = some v2 := by simp [List.lookup]
  obtain ⟨hin, pl, hev⟩ := V hp.objs.size (.ref cda)
  refine ks_wpAt_execs_cons ?_
  refine super_said T (g := g) (d := d) (os := os) (t := t + [(("self" : Str), Value.ref x), (fld, v), (fld2, v2)].length) ho hcda har (by rw [hself]; exact S.self) X0 (G.keeps k0) hns (by rw [hself]; exact m1) hx0 hxL hxK (fun h1 tk1 t1 k1 e1 => ?_) hin hev
  refine _root_.PySem.wpAt_of_wpAny ?_
  have X1 : K.In h1 := fun b o e => k1 b o (fun z => by rw [z, hxK] at e; cases e) (X0 b o e)
  have hns1 : h1.Ns hp.objs.size (fun y => ([(("self" : Str), Value.ref x), (fld, v), (fld2, v2)] : List (Str × Value)).reverse.lookup y) := by
    obtain ⟨o, es, ep, a, b⟩ := hns
    exact ⟨o, es, ep, k1 _ _ (Ne.symm hxL) a, b⟩
  refine wpAny_execs_cons (plainObj_wpAny_Assign_Attribute ?_)
  refine ld_local hns1 m2 T.sk (S.fl _ (by simp)) hf1.2 (ld_local hns1 m1 T.sk S.self (by decide) ?_)
  refine store_first T X1 e1 hno fun h2 tk2 dx k2 dn dne e2 n2 => ?_
  have X2 : K.In h2 := fun b o e => k2 b o (fun z => by rw [z, hxK] at e; cases e) (X1 b o e)
  have hz : hp.objs.size < h1.objs.size := by
    obtain ⟨o, es, ep, a, b⟩ := hns1
    exact Heap.lt_size a
  have hns2 : h2.Ns hp.objs.size (fun y => ([(("self" : Str), Value.ref x), (fld, v), (fld2, v2)] : List (Str × Value)).reverse.lookup y) := by
    obtain ⟨o, es, ep, a, b⟩ := hns1
    exact ⟨o, es, ep, k2 _ _ (Ne.symm hxL) a, b⟩
  refine wpAny_execs_cons (plainObj_wpAny_Assign_Attribute ?_)
  refine ld_local hns2 m3 T.sk (S.fl _ (by simp)) hf2.2 (ld_local hns2 m1 T.sk S.self (by decide) ?_)
  have hw : Within (fun y => if y = fld then some v else none) [fld] := Within.cons fld v Within.nil
  refine store_more T X2 e2 n2 hw (show 1 ≤ 1000 by decide) hno2 fun h3 tk3 k3 n3 => ?_
  refine wpAny_execs_nil ?_
  have nd : ∀ {b : Addr} {o : Obj}, h1.get? b = some o → b ≠ dx := fun {b o} e => Nat.ne_of_lt (Nat.lt_of_lt_of_le (Heap.lt_size e) dn)
  exact hq h3 tk3 dx ⟨fun b o hb e => k3 b o (nd (k1 b o hb (k0 b o e))) (k2 b o hb (k1 b o hb (k0 b o e))), ⟨t1, k3 _ _ (Ne.symm dne) e2⟩, Nat.le_trans (Nat.le_of_lt hz) dn, dne, n3⟩

/-- a made exception: all that stood stands -/
structure Made (h h' : Heap) (e C : Addr) (d : Option Addr) (m : Str → Option Value) : Prop where
  keep : ∀ b o, h.get? b = some o → h'.get? b = some o
  new : h.objs.size ≤ e
  obj : ∃ t1, h'.get? e = some (excObj C t1 d .none)
  dict : ∀ dx, d = some dx → h.objs.size ≤ dx ∧ dx ≠ e ∧ h'.Ns1 dx m
theorem call_made {us : List Value} {kw : List (Str × Value)} {body : List Stmt} (T : Ini K prog C f cc qual params body scope bmB B newId initId) (X : K.In s.heap) (hz : us.length ≤ sizeLine) {R : Result → Shared → Prop} {dopt : Option Addr → Prop} {m : Str → Option Value}
    (hrun : ∀ (h0 : Heap), (∀ b o, s.heap.get? b = some o → h0.get? b = some o) → h0.objs.size = s.heap.objs.size + 2 → K.lookup (s.heap.objs.size + 1) = none → h0.get? (s.heap.objs.size + 1) = some (excObj C s.heap.objs.size none .none) →
      ∀ R' : Result → Shared → Prop, (∀ h' tk d, dopt d → (∀ b o, b ≠ s.heap.objs.size + 1 → h0.get? b = some o → h'.get? b = some o) → (∃ t1, h'.get? (s.heap.objs.size + 1) = some (excObj C t1 d .none)) →
          (∀ dx, d = some dx → h0.objs.size ≤ dx ∧ dx ≠ s.heap.objs.size + 1 ∧ h'.Ns1 dx m) → R' (.ok (.ret .none)) { s with heap := h', toks := tk }) →
        codeAny (model prog w) (A.under (.builtin "type.__call__" ⟨.ref C :: us, kw⟩)) (.call (.ref f) ⟨.ref (s.heap.objs.size + 1) :: us, kw⟩) R' { s with heap := h0 })
    (hq : ∀ h' tk e d, dopt d → Made s.heap h' e C d m → R (.ok (.ret (.ref e))) { s with heap := h', toks := tk }) :
    codeAny (model prog w) A (.call (.ref C) ⟨us, kw⟩) R s := by
  obtain ⟨nm, q, N, bs, bm, sn, sub, ab, col, dd, k0, k1, k2, k3, k5, hC, hbm⟩ := T.cls
  obtain ⟨Bn, initN, bmN, FB, c1, c2, c3⟩ := T.new
  have M : NewM C bm Bn := ⟨by rw [List.contains_cons, excTail_contains Bn bm hbm, c1, Bool.or_true], by rw [List.contains_cons, excTail_contains "AttributeError" bm hbm, c2]; rfl, by rw [List.contains_cons, excTail_contains "NameError" bm hbm, c3]; rfl⟩
  obtain ⟨hp, g, dr, tk, os⟩ := s
  have k : ∀ b o, hp.get? b = some o → ((hp.push (kdv_tup us)).push (HandSPX.excO C hp.objs.size)).get? b = some o := fun b o e => Heap.get?_push_of_some _ (Heap.get?_push_of_some _ e)
  have hget : ((hp.push (kdv_tup us)).push (HandSPX.excO C hp.objs.size)).get? (hp.objs.size + 1) = some (HandSPX.excO C hp.objs.size) := by heap_get
  have hnx : K.lookup (hp.objs.size + 1) = none := by
    cases e : K.lookup (hp.objs.size + 1) with
    | none => rfl
    | some o => exact absurd (Nat.lt_of_succ_lt (Heap.lt_size (X _ _ e))) (Nat.lt_irrefl _)
  have hsz : ((hp.push (kdv_tup us)).push (HandSPX.excO C hp.objs.size)).objs.size = hp.objs.size + 2 := by rw [Heap.size_push, Heap.size_push]
  refine call_K FB M (X _ _ hC) (looks_findIn X T.iC) (fun self => bind_fn X self T.tF) hz ?_
  refine hrun _ k hsz hnx hget _ fun h' tk' d hd k' hx' hdict => ?_
  refine ⟨rfl, hq h' tk' (hp.objs.size + 1) d hd ⟨fun b o e => k' b o (Nat.ne_of_lt (Nat.lt_succ_of_lt (Heap.lt_size e))) (k b o e), Nat.le_succ _, hx', fun dx e => ?_⟩⟩
  obtain ⟨a, b, c⟩ := hdict dx e
  rw [hsz] at a
  exact ⟨Nat.le_trans (Nat.le_add_right _ 2) a, b, c⟩
/-- how the arguments are given: by place, or by the fields' names -/
inductive ArgOk : List Str → Args → List Value → Prop
  | pos {flds : List Str} {us : List Value} (h : us.length = flds.length) : ArgOk flds ⟨us, []⟩ us
  | kw1 {f : Str} {v : Value} : ArgOk [f] ⟨[], [(f, v)]⟩ [v]
  | kw2 {f f2 : Str} {v v2 : Value} : ArgOk [f, f2] ⟨[], [(f2, v2), (f, v)]⟩ [v, v2]
theorem ArgOk.pz {flds : List Str} {a : Args} {us : List Value} (h : ArgOk flds a us) (hf : flds.length ≤ 2) : a.pos.length ≤ sizeLine := by
  rw [sizeLine_eq]
  cases h with
  | pos h => show us.length ≤ _; omega
  | kw1 => exact Nat.zero_le _
  | kw2 => exact Nat.zero_le _
theorem ArgOk.len {flds : List Str} {a : Args} {us : List Value} (h : ArgOk flds a us) : us.length = flds.length := by
  cases h with
  | pos h => exact h
  | kw1 => rfl
  | kw2 => rfl
theorem made_one (T : Ini K prog C f cc qual params [supSt msg j p0 p1 p2 p3 p4 p5, putSt fld q1 q2 q3 q4] scope bmB B newId initId) (S : Sc scope params [fld]) (V : Ev qual scope f cc msg j p0 p1 p2 p3 p4) (hno : findIn K (.ref C) fld = some none)
    {a : Args} {v : Value} {R : Result → Shared → Prop} (ha : ArgOk [fld] a [v]) (X : K.In s.heap) (G : GlobAt s.heap mg) (hroom : A.depth + 1 < recursionLimit)
    (hb : ∀ (s' : Shared) (x : Addr) (kV doc pm : Value) (an : Option Addr) (cdv ct : Value), BindsTo s' (ksFn "__init__" qual params [supSt msg j p0 p1 p2 p3 p4 p5, putSt fld q1 q2 q3 q4] scope .none kV doc pm an cdv ct cc) ⟨.ref x :: a.pos, a.kw⟩ [(("self" : Str), .ref x), (fld, v)])
    (hq : ∀ h' tk e d, Made s.heap h' e C (some d) (fun y => if y = fld then some v else none) → R (.ok (.ret (.ref e))) { s with heap := h', toks := tk }) :
    codeAny (model prog w) A (.call (.ref C) a) R s := by
  refine call_made (us := a.pos) (kw := a.kw) (dopt := fun d => ∃ dx, d = some dx) (m := fun y => if y = fld then some v else none) T X (ha.pz (show 1 ≤ 2 by decide)) (fun h0 k0 hsz hnx hx R' hR => ?_) (fun h' tk e d ⟨dx, hd⟩ M => by subst hd; exact hq h' tk e dx M)
  refine init_one T S V hno (s := { s with heap := h0 }) (X.keeps k0) (G.keeps k0) hx hnx ?_ (fun _ _ _ _ _ _ => hb _ _ _ _ _ _ _ _) fun h' tk dx O => ?_
  · show A.depth + 1 < recursionLimit
    exact hroom
  · exact hR h' tk (some dx) ⟨dx, rfl⟩ O.keep O.obj fun dy e => by cases e; exact ⟨O.dbig, O.dne, O.ns⟩
theorem made_two (T : Ini K prog C f cc qual params [supSt msg j p0 p1 p2 p3 p4 p5, putSt fld q1 q2 q3 q4, putSt fld2 r1 r2 r3 r4] scope bmB B newId initId) (S : Sc scope params [fld, fld2]) (V : Ev qual scope f cc msg j p0 p1 p2 p3 p4) (hno : findIn K (.ref C) fld = some none)
    (hno2 : findIn K (.ref C) fld2 = some none) (hff : fld ≠ fld2) {a : Args} {v v2 : Value} {R : Result → Shared → Prop} (ha : ArgOk [fld, fld2] a [v, v2]) (X : K.In s.heap) (G : GlobAt s.heap mg) (hroom : A.depth + 1 < recursionLimit)
    (hb : ∀ (s' : Shared) (x : Addr) (kV doc pm : Value) (an : Option Addr) (cdv ct : Value), BindsTo s' (ksFn "__init__" qual params [supSt msg j p0 p1 p2 p3 p4 p5, putSt fld q1 q2 q3 q4, putSt fld2 r1 r2 r3 r4] scope .none kV doc pm an cdv ct cc) ⟨.ref x :: a.pos, a.kw⟩ [(("self" : Str), .ref x), (fld, v), (fld2, v2)])
    (hq : ∀ h' tk e d, Made s.heap h' e C (some d) (fun y => if y = fld2 then some v2 else if y = fld then some v else none) → R (.ok (.ret (.ref e))) { s with heap := h', toks := tk }) :
    codeAny (model prog w) A (.call (.ref C) a) R s := by
  refine call_made (us := a.pos) (kw := a.kw) (dopt := fun d => ∃ dx, d = some dx) (m := fun y => if y = fld2 then some v2 else if y = fld then some v else none) T X (ha.pz (show 2 ≤ 2 by decide)) (fun h0 k0 hsz hnx hx R' hR => ?_) (fun h' tk e d ⟨dx, hd⟩ M => by subst hd; exact hq h' tk e dx M)
  refine init_two T S V hno hno2 hff (s := { s with heap := h0 }) (X.keeps k0) (G.keeps k0) hx hnx ?_ (fun _ _ _ _ _ _ => hb _ _ _ _ _ _ _ _) fun h' tk dx O => ?_
  · show A.depth + 1 < recursionLimit
    exact hroom
  · exact hR h' tk (some dx) ⟨dx, rfl⟩ O.keep O.obj fun dy e => by cases e; exact ⟨O.dbig, O.dne, O.ns⟩
theorem made_none (T : Ini K prog C f cc qual params [supSt msg j p0 p1 p2 p3 p4 p5] scope bmB B newId initId) (S : Sc scope params []) (V : Ev qual scope f cc msg j p0 p1 p2 p3 p4)
    {a : Args} {R : Result → Shared → Prop} (ha : ArgOk [] a []) (X : K.In s.heap) (G : GlobAt s.heap mg) (hroom : A.depth + 1 < recursionLimit)
    (hb : ∀ (s' : Shared) (x : Addr) (kV doc pm : Value) (an : Option Addr) (cdv ct : Value), BindsTo s' (ksFn "__init__" qual params [supSt msg j p0 p1 p2 p3 p4 p5] scope .none kV doc pm an cdv ct cc) ⟨.ref x :: a.pos, a.kw⟩ [(("self" : Str), .ref x)])
    (hq : ∀ h' tk e, Made s.heap h' e C none (fun _ => none) → R (.ok (.ret (.ref e))) { s with heap := h', toks := tk }) :
    codeAny (model prog w) A (.call (.ref C) a) R s := by
  refine call_made (us := a.pos) (kw := a.kw) (dopt := fun d => d = none) (m := fun _ => none) T X (ha.pz (by decide)) (fun h0 k0 hsz hnx hx R' hR => ?_) (fun h' tk e d hd M => by subst hd; exact hq h' tk e M)
  refine init_none T S V (s := { s with heap := h0 }) (X.keeps k0) (G.keeps k0) hx hnx ?_ (fun _ _ _ _ _ _ => hb _ _ _ _ _ _ _ _) fun h' tk t1 kk e1 => ?_
  · show A.depth + 1 < recursionLimit
    exact hroom
  · exact hR h' tk none rfl kk ⟨t1, e1⟩ fun dy e => by cases e
end
end ExM

/-! Own exceptions as values: made, raised, caught by a clause over a tuple of classes, kept, asked. -/
namespace L2
open PySem PySem.Spec PyProof.Rows ExM

/-- at e: an exception of the class cls, its own dict d -/
def exv (e : Addr) (cls : Value) (d : Option Addr) : HO := .ext fun h => ∃ (oe : Obj) (vs : Array Value), h.get? e = some oe ∧ Zc cls d oe ∧ oe.data = .fields vs
theorem exv_ok {P : Program} {w : World} {H : Hp} {h : Heap} {e : Addr} {cls : Value} {d : Option Addr} {oe : Obj} {vs : Array Value} (he : h.get? e = some oe) (hz : Zc cls d oe) (hd : oe.data = .fields vs) : ObjOk P w H h e (exv e cls d) :=
  ⟨⟨oe, vs, he, hz, hd⟩, ⟨oe, he⟩, fun _ _ ⟨o, v, q, r⟩ k => ⟨o, v, k o q, r⟩⟩
theorem exv_at {P : Program} {w : World} {H : Hp} {h : Heap} {e : Addr} {cls : Value} {d : Option Addr} (hok : HOk P w H h) (he : H e = some (exv e cls d)) : ∃ (oe : Obj) (vs : Array Value), h.get? e = some oe ∧ Zc cls d oe ∧ oe.data = .fields vs := by
  have x : ObjOk P w H h e (.ext fun h => ∃ (oe : Obj) (vs : Array Value), h.get? e = some oe ∧ Zc cls d oe ∧ oe.data = .fields vs) := hok e _ he
  exact x.1

/-- calling the class at C with as many values as fields makes an exception that holds them (the last field first) -/
structure Mks (prog : Program) (K : PySem.W.Frag) (mg : Str → Option Value) (C : Addr) (flds : List Str) : Prop where
  call : ∀ (w : World) (A : Around) (s : Shared) (a : Args) (us : List Value) (R : Result → Shared → Prop), ArgOk flds a us → K.In s.heap → GlobAt s.heap mg → A.depth + 1 < recursionLimit →
    (∀ h' tk e d m, Made s.heap h' e C d m → (flds = [] ↔ d = none) → (∀ f, m f = (flds.zip us).reverse.lookup f) → R (.ok (.ret (.ref e))) { s with heap := h', toks := tk }) → codeAny (model prog w) A (.call (.ref C) a) R s
  kC : PySem.W.keepIn K (.ref C) = true
  exC : PySem.W.subIn K (.ref C) (.type "BaseException") = some true
  tyC : PySem.W.typeIn K (.ref C) = some (.type "type")

abbrev PV : Str × V → Str × Value → Prop := fun p q => p.1 = q.1 ∧ RelV p.2 q.2
theorem relO_look : ∀ {ps : List (Str × V)} {qs : List (Str × Value)}, Paired PV ps qs → ∀ f, RelO (ps.lookup f) (qs.lookup f)
  | _, _, .nil, _ => True.intro
  | _, _, .cons (a := p) (b := q) r t, f => by
    obtain ⟨g, v⟩ := p
    obtain ⟨g', u⟩ := q
    obtain ⟨e, r⟩ := r
    dsimp only at e r
    subst e
    by_cases h : f = g
    · subst h
      simp only [List.lookup, beq_self_eq_true]
      exact r
    · have e : (f == g) = false := by simpa using h
      simpa [List.lookup, e] using relO_look t f
theorem pv_zip : ∀ {fs : List Str} {vs : List V} {us : List Value}, Vals vs us → Paired PV (fs.zip vs) (fs.zip us)
  | [], _, _, _ => by simpa using Paired.nil
  | _ :: _, _, _, .nil => by simpa using Paired.nil
  | _ :: _, _, _, .cons r t => .cons ⟨rfl, r⟩ (pv_zip t)
theorem paired_app {α β : Type} {F : α → β → Prop} : ∀ {a : List α} {b : List β} {c : List α} {d : List β}, Paired F a b → Paired F c d → Paired F (a ++ c) (b ++ d)
  | _, _, _, _, .nil, s => s
  | _, _, _, _, .cons r t, s => .cons r (paired_app t s)
theorem paired_rev {α β : Type} {F : α → β → Prop} : ∀ {a : List α} {b : List β}, Paired F a b → Paired F a.reverse b.reverse
  | _, _, .nil => .nil
  | _, _, .cons r t => by
    rw [List.reverse_cons, List.reverse_cons]
    exact paired_app (paired_rev t) (.cons r .nil)
theorem relO_rev {fs : List Str} {vs : List V} {us : List Value} (r : Vals vs us) (hl : vs.length = fs.length) (f : Str) : RelO ((fs.zip vs).reverse.lookup f) ((fs.zip us).reverse.lookup f) := relO_look (paired_rev (pv_zip r)) f

section
variable {X : Cx} {pins : List (Addr × Obj)} {σ : St} {H : Hp} {s : Shared}
theorem Inv.globAt (I : Inv X pins σ H s) (hs : X.mg "super" = none) : GlobAt s.heap X.mg := by
  obtain ⟨mb, h1, h2⟩ := I.mod.blt
  exact ⟨I.mod.glob.keeps I.bk, ⟨mb, h1.keeps I.bk, (h2 "super" (by decide)).trans (by decide +kernel)⟩, hs, I.nolimit⟩
end

section
variable {X : Cx} {C : Addr} {x : Str} {flds : List Str} {es : List Expr} {e : Expr} {ta : TA} {p pos : Pos} {k : Nat}
/-- C(e, ..) for a raise: its dict alone is told -/
def tMks (C : Addr) (flds : List Str) (ta : TA) : St → Hp → XK → Prop := fun σ H Q => ta σ H fun vs H1 => vs.length = flds.length ∧ ∀ d, H1 d = none → Q (.ref C) (some d) (upd H1 d (.xd (flds.zip vs).reverse))
theorem pmk_mks (T : Mks X.prog X.K X.mg C flds) (hs : X.mg "super" = none) (hr : Room k X.A) (hne : flds ≠ []) (ha : PA X (e :: es) ta) (hg : Gl X x) (hm : X.mg x = some (.ref C)) (hdb : (x == ("__debug__" : Str)) = false := by decide)
    (he : starEach (e :: es) X.env = (false, eval e X.env) :: starEach es X.env := by rfl) (hpl : (backTo pos (starEach es X.env)).any (·.1) = false := by rfl) :
    PMk X (.Call (.Name x p) (e :: es) [] pos) (tMks C flds ta) := by
  intro pins s σ H Q I h
  refine wpAny_Call_Name_kw (ld_glob I hg hm ?_ hdb)
  refine PySem.W.callWith_K (h₀ := X.base) I.ok.mod.kin T.kC (thn (ha.run pos pins s σ H _ I h) fun us s1 ⟨vs, H1, I1, r1, hl, q1⟩ => ⟨I1.kIn, ?_⟩) he hpl
  show wpAny _ _ (call (.ref C) us) _ _ _
  have hlu : us.length = flds.length := r1.length.symm.trans hl
  refine wpAny_call (T.call _ _ _ _ us _ (.pos hlu) I1.kIn (I1.globAt hs) (by have := hr.dp; omega) fun h' tk' e d m M hd hmm => ?_)
  show MkP X pins σ Q (.ref e) _
  obtain ⟨d, rfl⟩ : ∃ dd, d = some dd := by
    cases d with
    | none => exact absurd (hd.mpr rfl) hne
    | some dd => exact ⟨dd, rfl⟩
  obtain ⟨t1, hoe⟩ := M.obj
  obtain ⟨db, dne, hns⟩ := M.dict d rfl
  obtain ⟨hp, g, dr, tk, os⟩ := s1
  obtain ⟨G, g1, g2⟩ := restrict h' fun b => decide (b ≠ e)
  have gk : ∀ b, b ≠ e → G.get? b = h'.get? b := fun b hb => g1 b (decide_eq_true hb)
  have ge : G.get? e = none := g2 e (by simp)
  have old : ∀ b o, hp.get? b = some o → G.get? b = some o := fun b o q => (gk b (Nat.ne_of_lt (Nat.lt_of_lt_of_le (Heap.lt_size q) M.new))).trans (M.keep b o q)
  have ob : ObjOk X.prog X.w (upd H1 d (.xd (flds.zip vs).reverse)) G d (.xd (flds.zip vs).reverse) :=
    ⟨_, hns.at (fun o q => (gk d dne).trans q), fun f => by rw [hmm f]; exact relO_rev r1 hl f⟩
  have J : Inv X pins σ (upd H1 d (.xd (flds.zip vs).reverse)) ⟨G, g, dr, tk', os⟩ := I1.laid (t' := tk') old db ob
  refine ⟨e, _, _, ⟨G, g, dr, tk', os⟩, _, .ref C, some d, rfl, J, fun b o q => ?_, ge, hoe, ⟨rfl, rfl⟩, rfl, rfl, ?_, rfl, I1.bare, raises_own T.exC T.tyC, q1 d (I1.hok.fresh db)⟩
  · by_cases hb : b = e
    · rw [hb, ge] at q
      cases q
    · exact (gk b hb).symm.trans q
  · rw [upd_ne (Ne.symm dne)]
    exact I1.hok.fresh M.new
/-- C() for a raise -/
theorem pmk_mks0 (T : Mks X.prog X.K X.mg C []) (hs : X.mg "super" = none) (hr : Room k X.A) (hg : Gl X x) (hm : X.mg x = some (.ref C)) (hdb : (x == ("__debug__" : Str)) = false := by decide) :
    PMk X (.Call (.Name x p) [] [] pos) (fun σ H Q => Q (.ref C) none H) := by
  intro pins s σ H Q I h
  refine wpAny_Call_Name_kw (ld_glob I hg hm ?_ hdb)
  refine PySem.W.callWith_K0 I.kIn T.kC ?_
  refine wpAny_call (T.call _ _ _ _ [] _ (.pos rfl) I.kIn (I.globAt hs) (by have := hr.dp; omega) fun h' tk' e d m M hd hmm => ?_)
  show MkP X pins σ Q (.ref e) _
  obtain rfl : d = none := hd.mp rfl
  obtain ⟨t1, hoe⟩ := M.obj
  have na : H e = none := I.hok.fresh M.new
  have nn : s.heap.get? e = none := by
    cases q : s.heap.get? e with
    | none => rfl
    | some o => exact absurd (Nat.lt_of_lt_of_le (Heap.lt_size q) M.new) (Nat.lt_irrefl _)
  exact ⟨e, _, _, s, _, .ref C, none, rfl, I, M.keep, nn, hoe, ⟨rfl, rfl⟩, rfl, rfl, na, rfl, I.bare, raises_own T.exC T.tyC, h⟩
/-- C(e, ..) as a value: the exception is kept -/
def tMkv (C : Addr) (flds : List Str) (ta : TA) : TE := fun σ H Q => ta σ H fun vs H1 => vs.length = flds.length ∧ ∀ e d, H1 e = none → H1 d = none → d ≠ e → Q (.ref e) (upd (upd H1 d (.xd (flds.zip vs).reverse)) e (exv e (.ref C) (some d)))
theorem pe_mkv (T : Mks X.prog X.K X.mg C flds) (hs : X.mg "super" = none) (hr : Room k X.A) (hne : flds ≠ []) (ha : PA X (e :: es) ta) (hg : Gl X x) (hm : X.mg x = some (.ref C)) (hdb : (x == ("__debug__" : Str)) = false := by decide)
    (he : starEach (e :: es) X.env = (false, eval e X.env) :: starEach es X.env := by rfl) (hpl : (backTo pos (starEach es X.env)).any (·.1) = false := by rfl) :
    PE X (.Call (.Name x p) (e :: es) [] pos) (tMkv C flds ta) := by
  refine ⟨fun pins s σ H Q I h => ?_⟩
  refine wpAny_Call_Name_kw (ld_glob I hg hm ?_ hdb)
  refine PySem.W.callWith_K (h₀ := X.base) I.ok.mod.kin T.kC (thn (ha.run pos pins s σ H _ I h) fun us s1 ⟨vs, H1, I1, r1, hl, q1⟩ => ⟨I1.kIn, ?_⟩) he hpl
  show wpAny _ _ (call (.ref C) us) _ _ _
  have hlu : us.length = flds.length := r1.length.symm.trans hl
  refine wpAny_call (T.call _ _ _ _ us _ (.pos hlu) I1.kIn (I1.globAt hs) (by have := hr.dp; omega) fun h' tk' e d m M hd hmm => ?_)
  obtain ⟨d, rfl⟩ : ∃ dd, d = some dd := by
    cases d with
    | none => exact absurd (hd.mpr rfl) hne
    | some dd => exact ⟨dd, rfl⟩
  obtain ⟨t1, hoe⟩ := M.obj
  obtain ⟨db, dne, hns⟩ := M.dict d rfl
  obtain ⟨hp, g, dr, tk, os⟩ := s1
  obtain ⟨G, g1, g2⟩ := restrict h' fun b => decide (b ≠ e)
  have gk : ∀ b, b ≠ e → G.get? b = h'.get? b := fun b hb => g1 b (decide_eq_true hb)
  have ge : G.get? e = none := g2 e (by simp)
  have gs : ∀ b o, G.get? b = some o → h'.get? b = some o := fun b o q => by
    by_cases hb : b = e
    · rw [hb, ge] at q
      cases q
    · exact (gk b hb).symm.trans q
  have old : ∀ b o, hp.get? b = some o → G.get? b = some o := fun b o q => (gk b (Nat.ne_of_lt (Nat.lt_of_lt_of_le (Heap.lt_size q) M.new))).trans (M.keep b o q)
  have ob : ObjOk X.prog X.w (upd H1 d (.xd (flds.zip vs).reverse)) G d (.xd (flds.zip vs).reverse) :=
    ⟨_, hns.at (fun o q => (gk d dne).trans q), fun f => by rw [hmm f]; exact relO_rev r1 hl f⟩
  have J : Inv X pins σ (upd H1 d (.xd (flds.zip vs).reverse)) ⟨G, g, dr, tk', os⟩ := I1.laid (t' := tk') old db ob
  have ne1 : H1 e = none := I1.hok.fresh M.new
  have ne2 : (upd H1 d (.xd (flds.zip vs).reverse)) e = none := by
    rw [upd_ne (Ne.symm dne)]
    exact ne1
  exact ⟨.ref e, _, J.laidN (t' := tk') gs ge ne2 (exv_ok hoe ⟨rfl, rfl⟩ rfl), rfl, q1 e d ne1 (I1.hok.fresh db) dne⟩
theorem pe_mkv0 (T : Mks X.prog X.K X.mg C []) (hs : X.mg "super" = none) (hr : Room k X.A) (hg : Gl X x) (hm : X.mg x = some (.ref C)) (hdb : (x == ("__debug__" : Str)) = false := by decide) :
    PE X (.Call (.Name x p) [] [] pos) (fun σ H Q => ∀ e, H e = none → Q (.ref e) (upd H e (exv e (.ref C) none))) := by
  refine ⟨fun pins s σ H Q I h => ?_⟩
  refine wpAny_Call_Name_kw (ld_glob I hg hm ?_ hdb)
  refine PySem.W.callWith_K0 I.kIn T.kC ?_
  refine wpAny_call (T.call _ _ _ _ [] _ (.pos rfl) I.kIn (I.globAt hs) (by have := hr.dp; omega) fun h' tk' e d m M hd hmm => ?_)
  obtain rfl : d = none := hd.mp rfl
  obtain ⟨t1, hoe⟩ := M.obj
  have na : H e = none := I.hok.fresh M.new
  exact ⟨.ref e, _, I.laid (t' := tk') M.keep M.new (exv_ok hoe ⟨rfl, rfl⟩ rfl), rfl, h e na⟩
/-- C(f = e) -/
def tMkvK (C : Addr) (flds : List Str) (g : List V → List V) (ta : TA) : TE := fun σ H Q => ta σ H fun vs H1 => vs.length = flds.length ∧ ∀ e d, H1 e = none → H1 d = none → d ≠ e → Q (.ref e) (upd (upd H1 d (.xd (flds.zip (g vs)).reverse)) e (exv e (.ref C) (some d)))
theorem mkv_end {pins : List (Addr × Obj)} {σ : St} {H1 : Hp} {Q : VK} {s1 : Shared} {a : Args} {us : List Value} {vs : List V} (T : Mks X.prog X.K X.mg C flds) (hs : X.mg "super" = none) (hr : Room k X.A) (hne : flds ≠ []) (I1 : Inv X pins σ H1 s1) (r1 : Vals vs us) (ha : ArgOk flds a us)
    (q1 : ∀ e d, H1 e = none → H1 d = none → d ≠ e → Q (.ref e) (upd (upd H1 d (.xd (flds.zip vs).reverse)) e (exv e (.ref C) (some d)))) :
    wpAny (model X.prog X.w) X.A (call (.ref C) a.pos a.kw) (EP X pins σ Q) X.xe s1 := by
  have hl : vs.length = flds.length := r1.length.trans ha.len
  refine wpAny_call (T.call _ _ _ _ us _ ha I1.kIn (I1.globAt hs) (by have := hr.dp; omega) fun h' tk' e d m M hd hmm => ?_)
  obtain ⟨d, rfl⟩ : ∃ dd, d = some dd := by
    cases d with
    | none => exact absurd (hd.mpr rfl) hne
    | some dd => exact ⟨dd, rfl⟩
  obtain ⟨t1, hoe⟩ := M.obj
  obtain ⟨db, dne, hns⟩ := M.dict d rfl
  obtain ⟨hp, g, dr, tk, os⟩ := s1
  obtain ⟨G, g1, g2⟩ := restrict h' fun b => decide (b ≠ e)
  have gk : ∀ b, b ≠ e → G.get? b = h'.get? b := fun b hb => g1 b (decide_eq_true hb)
  have ge : G.get? e = none := g2 e (by simp)
  have gs : ∀ b o, G.get? b = some o → h'.get? b = some o := fun b o q => by
    by_cases hb : b = e
    · rw [hb, ge] at q
      cases q
    · exact (gk b hb).symm.trans q
  have old : ∀ b o, hp.get? b = some o → G.get? b = some o := fun b o q => (gk b (Nat.ne_of_lt (Nat.lt_of_lt_of_le (Heap.lt_size q) M.new))).trans (M.keep b o q)
  have ob : ObjOk X.prog X.w (upd H1 d (.xd (flds.zip vs).reverse)) G d (.xd (flds.zip vs).reverse) :=
    ⟨_, hns.at (fun o q => (gk d dne).trans q), fun f => by rw [hmm f]; exact relO_rev r1 hl f⟩
  have J : Inv X pins σ (upd H1 d (.xd (flds.zip vs).reverse)) ⟨G, g, dr, tk', os⟩ := I1.laid (t' := tk') old db ob
  have ne1 : H1 e = none := I1.hok.fresh M.new
  have ne2 : (upd H1 d (.xd (flds.zip vs).reverse)) e = none := by
    rw [upd_ne (Ne.symm dne)]
    exact ne1
  exact ⟨.ref e, _, J.laidN (t' := tk') gs ge ne2 (exv_ok hoe ⟨rfl, rfl⟩ rfl), rfl, q1 e d ne1 (I1.hok.fresh db) dne⟩
end
end L2

namespace L2
open PySem PySem.Spec PyProof.Rows ExM
section
variable {X : Cx} {pins : List (Addr × Obj)} {σ : St} {H : Hp} {s : Shared}
/-- a pinned object that was not there at the entry is tracked from now on -/
theorem Inv.track {a : Addr} {oe : Obj} {o : HO} (I : Inv X ((a, oe) :: pins) σ H s) (n0 : X.s_0.heap.get? a = none) (hp : ∀ p ∈ X.pn ++ pins, p.1 ≠ a) (hk : ∀ v, oe.data ≠ .cell v) (new : ObjOk X.prog X.w (upd H a o) s.heap a o) : Inv X pins σ (upd H a o) s := by
  obtain ⟨ea, na, nL, nF, _⟩ := I.pin (a, oe) (List.mem_append_right _ List.mem_cons_self)
  dsimp only at ea na nL nF
  have sub : ∀ p ∈ X.pn ++ pins, p ∈ X.pn ++ (a, oe) :: pins := fun p hp => (List.mem_append.mp hp).elim (List.mem_append_left _) fun z => List.mem_append_right _ (List.mem_cons_of_mem _ z)
  have old : ∀ b u, X.s_0.heap.get? b = some u → b ≠ a := fun b u e z => by
    rw [z, n0] at e
    cases e
  refine ⟨I.ok, I.os, I.bare, ⟨I.base.keep, I.base.slot, fun b u e n hx => ?_, I.base.there, fun b xs e => ?_, fun b u v e => ?_, fun b ps e => ?_⟩, I.loc, I.cell, ?_, fun x c e => ?_, fun p h => ?_, fun b u e => ?_, I.len⟩
  · rw [upd_ne (old b u e)]
    exact I.base.free b u e n hx
  · have q := I.base.tups b xs e
    rw [upd_ne (ne_of_none q na)]
    exact q
  · have q := I.base.frzs b u v e
    rw [upd_ne (ne_of_none q na)]
    exact q
  · obtain ⟨m, q⟩ := I.base.tbls b ps e
    exact ⟨m, by rw [upd_ne (ne_of_none q na)]; exact q⟩
  · rw [upd_ne (Ne.symm nL)]
    exact I.free
  · have hc : c ≠ a := fun z => by
      obtain ⟨v, oc, hoc, hd⟩ := I.cell x c e
      rw [z, ea] at hoc
      cases hoc
      exact hk v hd
    rw [upd_ne hc]
    exact I.freeC x c e
  · obtain ⟨e, n, ne, nf, d⟩ := I.pin p (sub p h)
    exact ⟨e, by rw [upd_ne (hp p h)]; exact n, ne, nf, d⟩
  · by_cases hb : b = a
    · subst hb
      rw [upd_same] at e
      cases e
      exact new
    · rw [upd_ne hb] at e
      exact (I.hok b u e).stay (fun _ _ _ q => q) (fun c q => by rw [upd_ne (ne_of_none q na)]; exact q) fun c xs q => by rw [upd_ne (ne_of_none q na)]; exact q
end

/-- what the clause 'except (c1, .., c4) as n' wishes: behind the suite the exception is an object that is kept -/
def wAsT (K : PySem.W.Frag) (cs : List Value) (i : Nat) (ts : Addr → Value → Option Addr → TS) (Wout : WX) (D : Ends) : WX := fun cls d σ H =>
  ∃ b, PySem.W.exmAny K cls cs = some b ∧ (b = true → ∀ a, H a = none → ts a cls d { nx := fun σ' H' => D.nx (σ'.set i none) (upd H' a (exv a cls d)), rt := fun _ _ => False } (σ.set i (some (.ref a))) H) ∧
    (b = false → Wout cls d σ H)
/-- a global class, as an expression of a clause -/
inductive NamesT (X : Cx) : List Expr → List Value → Prop
  | nil : NamesT X [] []
  | cons {x : Str} {c : Addr} {np : Pos} {es : List Expr} {cs : List Value} (hg : Gl X x) (hm : X.mg x = some (.ref c)) (hd : (x == ("__debug__" : Str)) = false) (r : NamesT X es cs) : NamesT X (.Name x np :: es) (.ref c :: cs)
theorem NamesT.run {X : Cx} {pins : List (Addr × Obj)} {σ : St} {H : Hp} {s : Shared} {A : Around} {E : Value → Shared → Prop} {pos : Pos} (hk : X.env.scope.kind = .function) (hgl : s.heap.Ns X.env.globals X.mg) : ∀ {es : List Expr} {cs : List Value}, NamesT X es cs → ∀ {Q : List Value → Shared → Prop}, Q cs s →
    wpAny (model X.prog X.w) A (spliced (backTo pos (starEach es X.env))) Q E s
  | _, _, .nil, _, q => Calls.spliced_nil q
  | _, _, .cons (x := x) (c := c) (np := np) (es := es) hg hm hd r, Q, q => by
    rw [show starEach (.Name x np :: es) X.env = (false, eval (.Name x np) X.env) :: starEach es X.env from rfl]
    show wpAny _ _ (spliced ((false, eval (.Name x np) X.env) :: backTo pos (starEach es X.env))) _ _ s
    refine Calls.spliced_cons (Calls.Name_function_global hk hg (Calls.loadGlobal_global hgl hm ?_) hd)
    exact NamesT.run (pins := pins) (σ := σ) (H := H) hk hgl r q
section
variable {X : Cx} {n : Str} {i kx : Nat} {body suite : List Stmt} {b₀ : Stmt} {tpos pos pos' : Pos} {es : List Expr} {c1 c2 c3 c4 : Value} {tb : WX → TS} {ts : Addr → Value → Option Addr → TS} {Wout : WX}
theorem ps_try_asT (hs : X.stack = X.env :: X.outer) (hf : X.env.frame = some X.env.locals) (hN : X.N.Nodup) (hi : X.N[i]? = some n) (hln : X.env.kindOf n = some .local) (hc : NamesT X es [c1, c2, c3, c4]) (hex : X.ex = []) (tk : Takes X Wout)
    (hb : ∀ (W : WX) (pn : List (Addr × Obj)) (xe : Value → Shared → Prop), Takes (X.tr pn xe) W → PassesOwn (model X.prog X.w) X.A X.env xe → PSs (X.tr pn xe) body (tb W))
    (hsu : ∀ (a : Addr) (oe : Obj) (cls : Value) (d : Option Addr) (pn : List (Addr × Obj)), Zc cls d oe → (∃ vs, oe.data = .fields vs) → PSs (X.suite a ((a, oe) :: pn)) (b₀ :: suite) (ts a cls d)) :
    PS X (.Try body [.ExceptHandler (some (.Tuple es kx tpos)) (some n) (b₀ :: suite) pos'] [] [] pos) (fun D σ H => tb (wAsT X.K [c1, c2, c3, c4] i ts Wout D) D σ H) := by
  refine ⟨fun pins s σ H D I h => ?_⟩
  have ok := I.ok
  have hfr : X.A.frames = some (X.env :: X.outer) := by rw [ok.frames, hs]
  refine wpAny_Try_except (wpAny_mono ((hb (wAsT X.K [c1, c2, c3, c4] i ts Wout D) (X.pn ++ pins) (fun e s₁ => wpAny (model X.prog X.w) X.A (noteFrame e X.env) (fun _ s₂ => wpAny (model X.prog X.w) X.A (setFlight e none) (fun _ s₃ =>
    wpAny (model X.prog X.w) X.A (handleBy e X.env [.ExceptHandler (some (.Tuple es kx tpos)) (some n) (b₀ :: suite) pos']) (SP X pins D) X.xe s₃) X.xe s₂) X.xe s₁) (fun u s' xx => ?_) PassesOwn.looking).run [] s σ H D (I.toTry _) h) (fun f s1 hsp => ?_) (fun e s1 he => he))
  · obtain ⟨a, B, sI, pins', σ', H', cls, d, rfl, J', nb, up, sky, na, os, ag, b, hb1, hyes, hno⟩ := xx
    have J : Inv X pins σ' H' sI := J'.ofTry ok
    have sky' : Sky B (X.env :: X.outer) a (Zc cls d) X.env.locals s'.heap := by rw [← hs]; exact sky
    show wpAny (model X.prog X.w) X.A (noteFrame (.ref a) X.env) _ _ _
    refine Sky.land Zc.steady hfr hf sky' fun h3 fl3 up3 => ?_
    have J3 : Inv X pins σ' H' { s' with heap := h3 } := J.landed nb fl3.1 (up.trans up3) os ag
    obtain ⟨oe3, vs3, he3, hz3, hd3⟩ := fl3.there
    have nfr : a ∉ frs (X.env :: X.outer) := fun hm => by
      obtain ⟨_, o', e', hnf⟩ := fl3.2.2.1.mem hm
      rw [he3] at e'
      cases e'
      exact hnf _ hd3
    have nL : a ≠ X.env.locals := fun z => nfr (List.mem_filterMap.mpr ⟨X.env, List.mem_cons_self, by rw [hf, z]⟩)
    have nF : a ∉ X.fs := fun hm => by
      obtain ⟨e, he, q⟩ := List.mem_filterMap.mp hm
      exact nfr (List.mem_filterMap.mpr ⟨e, List.mem_cons_of_mem _ he, q⟩)
    have aB : B.get? a = none := fl3.2.1
    have aI : sI.heap.get? a = none := by
      cases q : sI.heap.get? a with
      | none => rfl
      | some o =>
        have z := nb a o q (by rw [hs]; exact nfr)
        rw [aB] at z
        cases z
    have a0 : X.s_0.heap.get? a = none := by
      cases q : X.s_0.heap.get? a with
      | none => rfl
      | some o =>
        obtain ⟨o', z⟩ := J.base.there a o q (by rw [hex]; exact fun z => nomatch z)
        rw [aI] at z
        cases z
    have apn : ∀ p ∈ X.pn ++ pins, p.1 ≠ a := fun p hp z => by
      obtain ⟨e, _⟩ := J.pin p hp
      rw [z, aI] at e
      cases e
    refine wpAny_handleBy_cons (codeAny_handlers_test ?_) (by intro q; cases q)
    have LT : ∀ {g : Heap}, g.get? a = some oe3 → PySem.W.Looks (model X.prog X.w) g (typeOf (.ref a)) cls := fun {g} e A Q E s k q => wpAny_typeOf_ref (k _ _ e) (by rw [hz3.1]; exact q)
    refine wpAny_Tuple_spliced (NamesT.run (pins := pins) (σ := σ') (H := H') ok.kind (by rw [ok.glob]; exact J3.mod.glob.keeps J3.bk) hc ⟨by rw [sizeLine_eq]; exact (by decide : 4 ≤ 16777216), ?_⟩)
    have kT : ∀ b o, h3.get? b = some o → (h3.push { cls := .type "tuple", data := .seq [c1, c2, c3, c4].toArray }).get? b = some o := fun b o e => Heap.get?_push_of_some _ e
    have LM := PySem.W.exm_tup4 (M := model X.prog X.w) (J3.kIn.keeps kT) (LT (kT _ _ he3)) (Heap.get?_push_size h3 rfl) hb1
    refine LM.here ?_
    have fl3' : HandSPX.FlyingZ B (X.env :: X.outer) a (Zc cls d) (h3.push { cls := .type "tuple", data := .seq [c1, c2, c3, c4].toArray }) := by
      obtain ⟨f1, f2, f3, oe, vs, T, oT, tts, e1, e2, e3, e4, e5, e6, e7, e8, e9⟩ := fl3
      exact ⟨fun b o e => kT b o (f1 b o e), f2, f3.of_keeps fun b o e _ => ⟨o, kT b o e, rfl⟩, oe, vs, T, oT, tts, kT _ _ e1, e2, e3, e4, e5, e6, kT _ _ e7, e8, e9⟩
    have upT : h3.UpToSlots (h3.push { cls := .type "tuple", data := .seq [c1, c2, c3, c4].toArray }) := Heap.UpToSlots.of_keeps kT
    cases b with
    | true =>
      refine codeAny_handlers_suite_as ?_
      refine HandSPX.lands_againZ fl3' fun h4 fl4 up4 => ?_
      have J4 : Inv X pins σ' H' { s' with heap := h4 } := J.landed nb fl4.1 (((up.trans up3).trans upT).trans up4) os ag
      obtain ⟨oe4, vs4, he4, hz4, hd4⟩ := fl4.there
      have S4 := J4.suite he4 hd4 na nL nF
      refine store_ok (X := X.suite a ((a, oe4) :: (X.pn ++ pins))) (v := .ref a) S4 hN hi (.inl hln) rfl (fun s5 S5 => ?_) (.inr hln)
      refine wpAny_mono ((hsu a oe4 cls d (X.pn ++ pins) hz4 ⟨_, hd4⟩).run [] s5 _ H' _ S5 (hyes rfl a na)) (fun f s6 hsp => ?_) (fun _ _ z => False.elim z)
      have back : ∀ {σ6 : St} {H6 : Hp}, Inv (X.suite a ((a, oe4) :: (X.pn ++ pins))) [] σ6 H6 s6 → Inv X ((a, oe4) :: pins) σ6 H6 s6 := fun {σ6 H6} S6 =>
        ⟨ok, S6.os, S6.bare, S6.base, S6.loc, S6.cell, S6.free, S6.freeC, fun p hp => S6.pin p (by
          rcases List.mem_append.mp hp with z | z
          · exact List.mem_append_left _ (List.mem_cons_of_mem _ (List.mem_append_left _ z))
          · rcases List.mem_cons.mp z with z | z
            · rw [z]
              exact List.mem_append_left _ List.mem_cons_self
            · exact List.mem_append_left _ (List.mem_cons_of_mem _ (List.mem_append_right _ z))), S6.hok, S6.len⟩
      cases f with
      | next =>
        obtain ⟨σ6, H6, S6, q6⟩ := hsp
        refine gone_ok (back S6) hN hi hln fun s7 J7 => ?_
        have e7 := (J7.pin (a, oe4) (List.mem_append_right _ List.mem_cons_self)).1
        exact ⟨_, _, J7.track a0 apn (fun v z => by rw [hd4] at z; cases z) (exv_ok e7 hz4 hd4), q6⟩
      | brk =>
        obtain ⟨σ6, H6, S6, q6⟩ := hsp
        exact False.elim q6
      | cont =>
        obtain ⟨σ6, H6, S6, q6⟩ := hsp
        exact False.elim q6
      | ret u =>
        obtain ⟨v6, σ6, H6, S6, r6, q6⟩ := hsp
        exact False.elim q6
    | false =>
      show wpAny _ X.A (handleBy (.ref a) X.env []) _ _ _
      refine wpAny_handleBy_nil ?_
      obtain ⟨k1, k2, k3, oe, vs, T, oT, ts', he, hz, hd, h1, hr⟩ := id fl3'
      unfold PySem.passOn
      refine wpAny_bind (wpAny_field he hd h1 ?_)
      rw [if_neg (show ¬ ((Value.ref T == Value.none) = true) from by simp)]
      have fin : wpAny (model X.prog X.w) X.A (setFlight (.ref a) X.env.frame) (fun _ s4 => wpAny (model X.prog X.w) X.A (throw (.ref a) : Sem Flow) (SP X pins D) X.xe s4) X.xe { s' with heap := h3.push { cls := .type "tuple", data := .seq [c1, c2, c3, c4].toArray } } := by
        rw [hf]
        refine HandSPX.setFlight_upZ fl3' fun h4 hh4 up4 => wpAny_throw (tk _ _ ?_)
        exact ⟨a, B, sI, pins, σ', H', cls, d, rfl, J, nb, ((up.trans up3).trans upT).trans up4, .inr (.inr (by rw [hs]; exact hh4)), na, os, ag, hno rfl⟩
      first
        | exact wpAny_bind (wpAny_pure (wpAny_bind fin))
        | exact wpAny_bind fin
  · cases f with
    | next =>
      obtain ⟨σ', H', J', q⟩ := hsp
      exact wpAny_execs_nil ⟨σ', H', J'.ofTry ok, q⟩
    | brk =>
      obtain ⟨σ', H', J', q⟩ := hsp
      exact ⟨σ', H', J'.ofTry ok, q⟩
    | cont =>
      obtain ⟨σ', H', J', q⟩ := hsp
      exact ⟨σ', H', J'.ofTry ok, q⟩
    | ret u =>
      obtain ⟨v, σ', H', J', r, q⟩ := hsp
      exact ⟨v, σ', H', J'.ofTry ok, r, q⟩
end
end L2

namespace L2
open PySem PySem.Spec PyProof.Rows ExM
/-- what an own exception class must say, so that its instances are asked rightly -/
structure XcC (K : PySem.W.Frag) (C : Addr) : Prop where
  ga : PySem.W.findIn K (.ref C) "__getattribute__" = some (some (.builtin "BaseException.__getattribute__"))
  gg : PySem.W.findIn K (.ref C) "__getattr__" = some none
  exC : PySem.W.subIn K (.ref C) (.type "BaseException") = some true
  hd : PySem.W.hasDictIn K C = true
  ha : PySem.W.findIn K (.ref C) "__class__" = some (some (.builtin "object.__class__"))
  hn : PySem.W.specialIn K (.builtin "object.__class__") "__get__" = some (some (.builtin "getset_descriptor.__get__"))
  ht : PySem.W.takesIn K (.builtin "object.__class__") = some true
  hm : PySem.W.mroIn K C (.type "object") = some true
def xcB (K : PySem.W.Frag) (C : Addr) : Bool := decide (PySem.W.findIn K (.ref C) "__getattribute__" = some (some (.builtin "BaseException.__getattribute__"))) && (decide (PySem.W.findIn K (.ref C) "__getattr__" = some none) &&
  (decide (PySem.W.subIn K (.ref C) (.type "BaseException") = some true) && (PySem.W.hasDictIn K C && (decide (PySem.W.findIn K (.ref C) "__class__" = some (some (.builtin "object.__class__"))) &&
  (decide (PySem.W.specialIn K (.builtin "object.__class__") "__get__" = some (some (.builtin "getset_descriptor.__get__"))) && (decide (PySem.W.takesIn K (.builtin "object.__class__") = some true) && decide (PySem.W.mroIn K C (.type "object") = some true)))))))
theorem xcB_ok {K : PySem.W.Frag} {C : Addr} (h : xcB K C = true) : XcC K C := by
  obtain ⟨h1, h⟩ := Bool.and_eq_true_iff.mp h
  obtain ⟨h2, h⟩ := Bool.and_eq_true_iff.mp h
  obtain ⟨h3, h⟩ := Bool.and_eq_true_iff.mp h
  obtain ⟨h4, h⟩ := Bool.and_eq_true_iff.mp h
  obtain ⟨h5, h⟩ := Bool.and_eq_true_iff.mp h
  obtain ⟨h6, h⟩ := Bool.and_eq_true_iff.mp h
  obtain ⟨h7, h8⟩ := Bool.and_eq_true_iff.mp h
  exact ⟨of_decide_eq_true h1, of_decide_eq_true h2, of_decide_eq_true h3, h4, of_decide_eq_true h5, of_decide_eq_true h6, of_decide_eq_true h7, of_decide_eq_true h8⟩
section
variable {X : Cx} {pins : List (Addr × Obj)} {σ : St} {H : Hp} {s : Shared}
theorem exv_inst (I : Inv X pins σ H s) {a C : Addr} {d : Option Addr} (ha : H a = some (exv a (.ref C) d)) (hd : ∀ dx, d = some dx → ∃ o, s.heap.get? dx = some o) : ∃ oe od, PySem.W.InstAt s.heap a oe C od ∧ (d = none → od = none) ∧ ∀ dx, d = some dx → od = s.heap.get? dx := by
  obtain ⟨oe, vs, h1, hz, h2⟩ := exv_at I.hok ha
  obtain ⟨oc, od, oda, osl⟩ := oe
  obtain ⟨z1, z2⟩ := hz
  dsimp only at z1 z2 h2
  subst z1 z2 h2
  cases od with
  | none => exact ⟨_, none, ⟨h1, rfl, rfl, trivial⟩, fun _ => rfl, fun _ z => by cases z⟩
  | some dx =>
    obtain ⟨o, ho⟩ := hd dx rfl
    exact ⟨_, some o, ⟨h1, rfl, rfl, ho⟩, fun z => by (cases z), fun dy z => by cases z; exact ho.symm⟩
theorem isIn_some {K : PySem.W.Frag} {C : Addr} (h : PySem.W.hasDictIn K C = true) : (PySem.W.clsIn K C).isSome = true := by
  obtain ⟨cd, hc, _⟩ := PySem.W.any_some h
  rw [hc]
  rfl
end
/-- isinstance(e, c), e a kept exception -/
def rIsX (K : PySem.W.Frag) : List V → Hp → VK → Prop := fun xs H Q => ∃ (a C : Addr) (d : Option Addr) (c : V) (u : Value) (b : Bool), xs = [.ref a, c] ∧ ClsV c u ∧ H a = some (exv a (.ref C) d) ∧ (∀ dx, d = some dx → ∃ fs, H dx = some (.xd fs)) ∧ XcC K C ∧ PySem.W.kitOne K (.ref C) u = some b ∧ Q (.bl b) H
theorem call_isX {X : Cx} : CallR X (.builtin "isinstance") (rIsX X.K) := by
  intro pins s σ H xs us Q I r h
  obtain ⟨a, C, d, c, u, b, rfl, k, ha, hd, T, e, q⟩ := h
  obtain ⟨u1, u2, rfl, r1, r2⟩ := vals2 r
  have e2 := k.eq r2
  subst e2
  cases (show u1 = Value.ref a from r1)
  obtain ⟨oe, od, J, _⟩ := exv_inst I ha fun dx z => by
    obtain ⟨fs, hf⟩ := hd dx z
    obtain ⟨mA, ⟨o, _, _, ho, _⟩, _⟩ := (show ObjOk X.prog X.w H s.heap dx (.xd fs) from I.hok dx _ hf)
    exact ⟨o, ho⟩
  exact PySem.W.kia_one (PySem.W.kitx_exc (isIn_some T.hd) T.ga T.gg T.exC T.ha T.hn T.ht T.hm) I.kIn J e (fun z => nomatch z) fun tk => ⟨.bl b, H, I.tok tk, rfl, q⟩
/-- e.f, e a kept exception -/
def tXfT (K : PySem.W.Frag) (f : Str) (te : TE) : TE := fun σ H Q => te σ H fun x H1 => ∃ (a C dd : Addr) (fs : List (Str × V)) (v : V), x = .ref a ∧ H1 a = some (exv a (.ref C) (some dd)) ∧ H1 dd = some (.xd fs) ∧ XcC K C ∧ PySem.W.findIn K (.ref C) f = some none ∧ fs.lookup f = some v ∧ Q v H1
theorem pe_xfT {X : Cx} {e : Expr} {te : TE} {pos : Pos} {n : Str} (he : PE X e te) (hb : attributeBase e n X.env (eval e X.env) = eval e X.env := by rfl) : PE X (.Attribute e n pos) (tXfT X.K n te) := by
  refine ⟨fun pins s σ H Q I h => ?_⟩
  refine attr_of hb (thn (he.run pins s σ H _ I h) fun u s1 ⟨x, H1, I1, rx, a, C, dd, fs, v, ex, ea, ed, T, hno, l, q⟩ => ?_)
  subst ex
  obtain rfl : u = Value.ref a := rx
  have hx : ObjOk X.prog X.w H1 s1.heap dd (.xd fs) := I1.hok dd _ ed
  obtain ⟨mA, hns, hr⟩ := hx
  obtain ⟨od, ho, hl⟩ := lookIn_ns hns
  obtain ⟨u, hu, ru⟩ := RelO.some_of (v := v) (o := mA n) (by rw [← l]; exact hr n)
  obtain ⟨oe, od', J, _, hod⟩ := exv_inst I1 ea fun dx z => by cases z; exact ⟨od, ho⟩
  have e1 : od' = some od := (hod dd rfl).trans ho
  subst e1
  exact HandSPX.exc_get I1.kIn J T.ga T.gg T.exC (PySem.W.findObj_own T.hd hno rfl (by rw [hl, hu])) (handed_of ru) ⟨v, H1, I1.tok _, ru, q⟩
end L2

/-! repr of data. -/
namespace L2
open PySem PySem.Spec PyProof.Rows

theorem guards_in1 {A : Around} (h : A.guards = some []) : A.in1.guards = some [] := h
/-! data without a dict holds none -/
mutual
theorem Dp.noDict {K : PySem.W.Frag} {H : Hp} : ∀ {v : V} {d : PyData}, Dp K H v d → d.hasDict = false
  | _, .none, _ => by simp only [PyData.hasDict]
  | _, .bool _, _ => by simp only [PyData.hasDict]
  | _, .int _, _ => by simp only [PyData.hasDict]
  | _, .str _, _ => by simp only [PyData.hasDict]
  | _, .list ds, h => by
    cases h with
    | lst hs ha =>
      simp only [PyData.hasDict]
      exact DpAll.noDict ha
  | _, .tuple ds, h => by
    cases h with
    | tup hs ha =>
      simp only [PyData.hasDict]
      exact DpAll.noDict ha
  | _, .dict _, h => by cases h
theorem DpAll.noDict {K : PySem.W.Frag} {H : Hp} : ∀ {vs : List V} {ds : List PyData}, DpAll K H vs ds → PyData.hasDictAll ds = false
  | _, [], _ => by simp only [PyData.hasDictAll]
  | _, d :: ds, h => by
    cases h with
    | cons h1 h2 => simp only [PyData.hasDictAll, Dp.noDict h1, DpAll.noDict h2, Bool.or_self]
end
/-- repr(v), v data that is read -/
def rRepr (K : PySem.W.Frag) : List V → Hp → VK → Prop := fun xs H Q => ∃ v d, xs = [v] ∧ Dp K H v d ∧ d.showable = true ∧ d.shown.length ≤ sizeLine ∧ d.depth ≤ 60 ∧ Q (.str d.shown) H
theorem call_repr {X : Cx} (hg : X.A.guards = some []) (hu : X.A.units + 64 < cLine) : CallR X (.builtin "repr") (rRepr X.K) := by
  intro pins s σ H xs us Q I r h
  obtain ⟨v, d, rfl, hd, hs, hz, hdp, q⟩ := h
  cases r with
  | @cons _ u _ us r1 r2 =>
    cases r2
    show wpAny _ _ (call (.builtin "repr") [u]) _ _ _
    obtain ⟨as, rd⟩ := Dp.reads I d v u hd r1
    have nd := Dp.noDict hd
    cases rd with
    | none => exact P.repr_of_none ⟨.str _, H, I.tok _, ⟨_, rfl⟩, by simpa [PyData.shown] using q⟩
    | bool b => exact P.repr_of_bool ⟨.str _, H, I.tok _, ⟨_, rfl⟩, by simpa [PyData.shown] using q⟩
    | int i t => exact P.repr_of_int (by simpa [PyData.showable] using hs) ⟨.str _, H, I.tok _, ⟨_, rfl⟩, by simpa [PyData.shown] using q⟩
    | str x t => exact P.repr_of_str ⟨.str _, H, I.tok _, ⟨_, rfl⟩, by simpa [PyData.shown] using q⟩ (by simpa [PyData.shown] using hz)
    | list h1 h2 h3 h4 =>
      exact repr_of_reads' (.list h1 h2 h3 h4) hs (fun z => by rw [nd] at z; cases z) hg (by omega) (fun _ _ e => e) (fun h' u tk k => ⟨.str _, H, I.kept (t' := tk) k, ⟨_, rfl⟩, q⟩) hz
    | tuple h1 h2 h3 h4 =>
      exact repr_of_reads' (.tuple h1 h2 h3 h4) hs (fun z => by rw [nd] at z; cases z) hg (by omega) (fun _ _ e => e) (fun h' u tk k => ⟨.str _, H, I.kept (t' := tk) k, ⟨_, rfl⟩, q⟩) hz
    | dict => cases hd

/-! ### how long a repr may be -/
mutual
def cap : PyData → Nat
  | .none => 4
  | .bool _ => 5
  | .int _ => 1921
  | .str x => 10 * x.length + 2
  | .list xs | .tuple xs => capAll xs + 4
  | .dict _ => 0
def capAll : List PyData → Nat
  | [] => 0
  | x :: xs => cap x + 2 + capAll xs
end
mutual
/-- every sign of every text is one that a repr writes in ten signs at most; ints have a repr -/
def plainD : PyData → Prop
  | .none | .bool _ => True
  | .int i => i.natAbs.log2 < 1920
  | .str x => ∀ c ∈ x.cps.toList, c < 16 ^ 8
  | .list xs | .tuple xs => plainAll xs
  | .dict _ => False
def plainAll : List PyData → Prop
  | [] => True
  | x :: xs => plainD x ∧ plainAll xs
end
theorem textFrom_cap : ∀ (ts : List Str) (k : Nat) (acc : Str), (textFrom k acc ts).length ≤ acc.length + (ts.map fun t => t.length + 2).sum
  | [], k, acc => by simp [textFrom]
  | t :: r, k, acc => by
    have ih := textFrom_cap r (k + 1) (acc ++ (if k > 0 then ", " else "" : String) ++ t)
    have e : (acc ++ ((if k > 0 then ", " else "" : String) : Str) ++ t).length ≤ acc.length + 2 + t.length := by
      rw [strLen_append, strLen_append]
      have : ((if k > 0 then ", " else "" : String) : Str).length ≤ 2 := by split <;> decide
      omega
    simp only [textFrom, List.map_cons, List.sum_cons]
    omega
theorem piled_cap : ∀ ts : List Str, piled ts = (ts.map fun t => t.length + 2).sum
  | [] => rfl
  | t :: r => by simp [piled, piled_cap r]
theorem join_cap (ts : List Str) : (Str.join ", " ts).length ≤ (ts.map fun t => t.length + 2).sum := by
  by_cases h : ts = []
  · subst h
    show Str.empty.length ≤ _
    exact Nat.le_of_eq (show Str.empty.length = 0 by decide)
  · have := join_length_add ts h
    rw [piled_cap] at this
    omega
mutual
theorem shown_cap : ∀ d : PyData, plainD d → d.showable = true ∧ d.shown.length ≤ cap d
  | .none, _ => ⟨by simp [PyData.showable], by simp only [PyData.shown, cap]; decide⟩
  | .bool b, _ => ⟨by simp [PyData.showable], by simp only [PyData.shown, cap]; cases b <;> decide⟩
  | .int i, h => by
    have h' : i.natAbs.log2 < 1920 := by simpa [plainD] using h
    refine ⟨by simp [PyData.showable, h'], ?_⟩
    simp only [PyData.shown, cap]
    have := int_text_length_le (a := i) (k := 1920) (by decide) h'
    rw [PySem.ofString_length]
    omega
  | .str x, h => by
    have h' : ∀ c ∈ x.cps.toList, c < 16 ^ 8 := by simpa [plainD] using h
    exact ⟨by simp [PyData.showable], by simp only [PyData.shown, cap]; exact StrLaws.reprText_len x h'⟩
  | .list xs, h => by
    have h' : plainAll xs := by simpa [plainD] using h
    obtain ⟨a, b⟩ := shown_capAll xs h'
    refine ⟨by simpa [PyData.showable] using a, ?_⟩
    simp only [PyData.shown, cap, listText]
    rw [strLen_append]
    have := textFrom_cap (PyData.shownAll xs) 0 "["
    have e1 : (("[" : Str)).length = 1 := by decide
    have e2 : (("]" : Str)).length = 1 := by decide
    omega
  | .tuple xs, h => by
    have h' : plainAll xs := by simpa [plainD] using h
    obtain ⟨a, b⟩ := shown_capAll xs h'
    refine ⟨by simpa [PyData.showable] using a, ?_⟩
    simp only [PyData.shown, cap, tupleText]
    rw [strLen_append, strLen_append]
    have := join_cap (PyData.shownAll xs)
    have e1 : (("(" : Str)).length = 1 := by decide
    have e2 : (((if (PyData.shownAll xs).length == 1 then ",)" else ")" : String) : Str)).length ≤ 2 := by split <;> decide
    omega
  | .dict _, h => by simp [plainD] at h
theorem shown_capAll : ∀ ds : List PyData, plainAll ds → PyData.showableAll ds = true ∧ ((PyData.shownAll ds).map fun t => t.length + 2).sum ≤ capAll ds
  | [], _ => ⟨by simp [PyData.showableAll], by simp [PyData.shownAll, capAll]⟩
  | d :: ds, h => by
    have h' : plainD d ∧ plainAll ds := by simpa [plainAll] using h
    obtain ⟨a, b⟩ := shown_cap d h'.1
    obtain ⟨c, e⟩ := shown_capAll ds h'.2
    refine ⟨by simp [PyData.showableAll, a, c], ?_⟩
    simp only [PyData.shownAll, capAll, List.map_cons, List.sum_cons]
    omega
end
/-- repr(v) as a rule: its wants in one -/
def rReprP (K : PySem.W.Frag) : List V → Hp → VK → Prop := fun xs H Q => ∃ v d, xs = [v] ∧ Dp K H v d ∧ plainD d ∧ cap d ≤ 16777216 ∧ d.depth ≤ 60 ∧ Q (.str d.shown) H
theorem call_reprP {X : Cx} (hg : X.A.guards = some []) (hu : X.A.units + 64 < cLine) : CallR X (.builtin "repr") (rReprP X.K) := by
  intro pins s σ H xs us Q I r h
  obtain ⟨v, d, e, hd, hp, hz, hdp, q⟩ := h
  obtain ⟨a, b⟩ := shown_cap d hp
  exact call_repr hg hu pins s σ H xs us Q I r ⟨v, d, e, hd, a, by rw [sizeLine_eq]; omega, hdp, q⟩
end L2

/-! Own exceptions: keywords; what the four built-in bases are; the class as the top has made it. -/
namespace L2
open PySem PySem.Spec PyProof.Rows ExM
section
variable {X : Cx} {C : Addr} {x f f2 : Str} {e e2 : Expr} {te te2 : TE} {p pos kp kp2 : Pos} {k : Nat}
/-- C(f = e) -/
theorem pe_mkvK1 (T : Mks X.prog X.K X.mg C [f]) (hs : X.mg "super" = none) (hr : Room k X.A) (he : PE X e te) (hg : Gl X x) (hm : X.mg x = some (.ref C)) (hdb : (x == ("__debug__" : Str)) = false := by decide)
    (hall : (backToKw pos (keywordEach [⟨some f, e, kp⟩] X.env)).all (·.1.isSome) = true := by rfl) (hks : (backToKw pos (keywordEach [⟨some f, e, kp⟩] X.env)).filterMap (·.1) = [f] := by rfl)
    (hpl : ((backTo pos (starEach [] X.env)).any (·.1) || (backToKw pos (keywordEach [⟨some f, e, kp⟩] X.env)).any (·.1.isNone)) = false := by rfl) :
    PE X (.Call (.Name x p) [] [⟨some f, e, kp⟩] pos) (tMkv C [f] (tCons te tNil)) := by
  refine ⟨fun pins s σ H Q I h => ?_⟩
  refine wpAny_Call_Name_kw (ld_glob I hg hm ?_ hdb)
  refine PySem.W.callWith_KW0 (h₀ := X.base) I.ok.mod.kin T.kC hall ?_ hpl
  refine thn ((pk_cons (nm := some f) (kpos := kp) he pk_nil).run pos pins s σ H _ I h) fun us s1 ⟨vs, H1, I1, r1, hl, q1⟩ => ⟨I1.kIn, ?_⟩
  rw [hks]
  cases r1 with
  | nil => exact absurd hl (by simp)
  | @cons v u vs' us' r1 r2 =>
    cases r2 with
    | nil => exact mkv_end (a := ⟨[], [(f, u)]⟩) T hs hr (by simp) I1 (.cons r1 .nil) .kw1 q1
    | cons _ _ => exact absurd hl (by simp)
/-- C(f2 = e2, f = e), the fields being f, f2 -/
def tMkv2 (C : Addr) (f f2 : Str) (ta : TA) : TE := fun σ H Q => ta σ H fun vs H1 => ∃ a b, vs = [b, a] ∧ ∀ e d, H1 e = none → H1 d = none → d ≠ e → Q (.ref e) (upd (upd H1 d (.xd [(f2, b), (f, a)])) e (exv e (.ref C) (some d)))
theorem pe_mkvK2 (T : Mks X.prog X.K X.mg C [f, f2]) (hs : X.mg "super" = none) (hr : Room k X.A) (he2 : PE X e2 te2) (he : PE X e te) (hg : Gl X x) (hm : X.mg x = some (.ref C)) (hdb : (x == ("__debug__" : Str)) = false := by decide)
    (hall : (backToKw pos (keywordEach [⟨some f2, e2, kp2⟩, ⟨some f, e, kp⟩] X.env)).all (·.1.isSome) = true := by rfl) (hks : (backToKw pos (keywordEach [⟨some f2, e2, kp2⟩, ⟨some f, e, kp⟩] X.env)).filterMap (·.1) = [f2, f] := by rfl)
    (hpl : ((backTo pos (starEach [] X.env)).any (·.1) || (backToKw pos (keywordEach [⟨some f2, e2, kp2⟩, ⟨some f, e, kp⟩] X.env)).any (·.1.isNone)) = false := by rfl) :
    PE X (.Call (.Name x p) [] [⟨some f2, e2, kp2⟩, ⟨some f, e, kp⟩] pos) (tMkv2 C f f2 (tCons te2 (tCons te tNil))) := by
  refine ⟨fun pins s σ H Q I h => ?_⟩
  refine wpAny_Call_Name_kw (ld_glob I hg hm ?_ hdb)
  refine PySem.W.callWith_KW0 (h₀ := X.base) I.ok.mod.kin T.kC hall ?_ hpl
  refine thn ((pk_cons (nm := some f2) (kpos := kp2) he2 (pk_cons (nm := some f) (kpos := kp) he pk_nil)).run pos pins s σ H _ I h) fun us s1 ⟨vs, H1, I1, r1, a, b, ev, q1⟩ => ⟨I1.kIn, ?_⟩
  rw [hks]
  subst ev
  obtain ⟨u1, u2, rfl, r1, r2⟩ := vals2 r1
  exact mkv_end (a := ⟨[], [(f2, u1), (f, u2)]⟩) T hs hr (by simp) I1 (.cons r2 (.cons r1 .nil)) .kw2 q1
end
end L2
namespace ExM
open PySem PySem.W PySem.Calls PyProof.Rows
/-- what the library tells of a built-in base: its __new__ (perhaps its own base's), its __init__ -/
structure BaseF (bmB : List Value) (B newId initId : String) : Prop where
  new : ∃ Bn initN bmN, ExcBaseFacts Bn newId initN bmN ∧ bmB.contains (.type Bn) = true ∧ bmB.contains (.type "AttributeError") = false ∧ bmB.contains (.type "NameError") = false
  ini : InF B initId
  pass : ∀ self, refuseLoop self "__setattr__" bmB = pure ()
  obj : bmB.contains (.type "object") = true
theorem inF_of {B newId i : String} (F : ExcCallFacts B newId i) (K : KxsFacts B i) : InF B i := ⟨F.initEntry, F.initKind, F.initRow, F.noStar, F.init.plain, K⟩
theorem base_VE : BaseF [.type "ValueError", .type "Exception", .type "BaseException", .type "object"] "ValueError" "ValueError.__new__" "ValueError.__init__" :=
  ⟨⟨_, _, _, F.excBase_ValueError, by decide +kernel, by decide +kernel, by decide +kernel⟩, inF_of F.excBase_ValueError.toExcCallFacts kxs_ValueError, F.store_ValueError.passes, by decide +kernel⟩
theorem base_OE : BaseF [.type "OverflowError", .type "ArithmeticError", .type "Exception", .type "BaseException", .type "object"] "OverflowError" "OverflowError.__new__" "OverflowError.__init__" :=
  ⟨⟨_, _, _, F.excBase_OverflowError, by decide +kernel, by decide +kernel, by decide +kernel⟩, inF_of F.excBase_OverflowError.toExcCallFacts kxs_OverflowError, F.store_OverflowError.passes, by decide +kernel⟩
theorem base_RE : BaseF [.type "RuntimeError", .type "Exception", .type "BaseException", .type "object"] "RuntimeError" "RuntimeError.__new__" "RuntimeError.__init__" :=
  ⟨⟨_, _, _, F.excBase_RuntimeError, by decide +kernel, by decide +kernel, by decide +kernel⟩, inF_of F.excBase_RuntimeError.toExcCallFacts kxs_RuntimeError, F.store_RuntimeError.passes, by decide +kernel⟩
theorem kxs_KE : KxsFacts "KeyError" "KeyError.__init__" := ⟨by show builtinType _ = _; rw [builtinType_eq_fast]; kernel_rfl, by first | kernel_rfl | rfl⟩
theorem base_KE : BaseF [.type "KeyError", .type "LookupError", .type "Exception", .type "BaseException", .type "object"] "KeyError" "LookupError.__new__" "KeyError.__init__" :=
  ⟨⟨_, _, _, F.excBase_LookupError, by decide +kernel, by decide +kernel, by decide +kernel⟩,
    ⟨entryFor_alias (id' := "BaseException.__init__") (by rw [fastTable_eq_tree]; kernel_rfl) (by first | rfl | decide +kernel) (by decide +kernel) (by rw [fastTable_eq_tree]; kernel_rfl), by kernel_rfl, by kernel_rfl, by decide +kernel, by decide +kernel, kxs_KE⟩,
    fun self => by kernel_rfl, by decide +kernel⟩
end ExM

namespace L2
open PySem PySem.Spec PyProof.Rows ExM
open PySem (cStatics)
open PySem.W (Frag findIn typeIn keepIn subIn nsIn codeIn ksFn ks_superIn excTail)
/-- what k_is finds of a class and its __init__ -/
structure Cfs (K : Frag) (prog : Program) (C f cc cda : Addr) (qual : Str) (params : Arguments) (body : List Stmt) (scope : Scope) (bmB : List Value) (B newId initId : String) : Prop where
  cls : ∃ nm q N bs bm sn sub ab col dd k0 k1 k2 k3 k5, K.lookup C = some (excClassObj nm q C N bs bm true sn sub ab col dd k0 k1 k2 k3 k5 newId) ∧ excTail bmB bm = true
  sa : findIn K (.ref C) "__setattr__" = some (some (.builtin "object.__setattr__"))
  iC : findIn K (.ref C) "__init__" = some (some (.ref f))
  tF : typeIn K (.ref f) = some (.type "function")
  kC : keepIn K (.ref C) = true
  exC : subIn K (.ref C) (.type "BaseException") = some true
  bC : subIn K (.ref C) (.type B) = some true
  tyC : typeIn K (.ref C) = some (.type "type")
  op : nsIn K cStatics "thirdparty.any" = some none
  al : ks_superIn K C C "__init__" = some (some (.builtin initId))
  lf : ∃ (oc : Value) (od : Option Addr) (kV doc pm : Value) (an : Option Addr) (ct : Value) (osl : Array (Option Value)), K.lookup f = some ⟨oc, od, .func (ksFn "__init__" qual params body scope .none kV doc pm an (.ref cda) ct cc), osl⟩
  cf : codeIn K (.ref cda) qual = true
  lcd : ∃ ccl cdd vs ccs file tf, K.lookup cda = some ⟨ccl, cdd, .fields vs, ccs⟩ ∧ vs[2]? = some (.str file tf) ∧ ((prog.main.file : Str) == file) = true
  cell : ∃ cl cld csl, K.lookup cc = some ⟨cl, cld, .cell (some (.ref C)), csl⟩
  top : (prog.main.scope.names.lookup ("super" : Str)).isSome = false
theorem cfs_mk {K : Frag} {prog : Program} {C f cc cda : Addr} {qual : Str} {params : Arguments} {body : List Stmt} {scope : Scope} {bmB : List Value} {B newId initId : String}
    {nm q : Str} {N : Addr} {bs bm : List Value} {sn : List Str} {sub : List Value} {ab : Bool} {col : Option Bool} {dd : Option Addr} {k0 k1 k2 k3 k5 : Option Value} {oc kV doc pm ct : Value} {od an : Option Addr} {osl : Array (Option Value)}
    {ccl : Value} {cdd : Option Addr} {vs : Array Value} {ccs : Array (Option Value)} {file : Str} {tf : Tok} {cl : Value} {cld : Option Addr} {csl : Array (Option Value)}
    (lc : K.lookup C = some (excClassObj nm q C N bs bm true sn sub ab col dd k0 k1 k2 k3 k5 newId)) (iC : findIn K (.ref C) "__init__" = some (some (.ref f)))
    (lf : K.lookup f = some ⟨oc, od, .func (ksFn "__init__" qual params body scope .none kV doc pm an (.ref cda) ct cc), osl⟩) (lcd : K.lookup cda = some ⟨ccl, cdd, .fields vs, ccs⟩) (lcc : K.lookup cc = some ⟨cl, cld, .cell (some (.ref C)), csl⟩)
    (sa : findIn K (.ref C) "__setattr__" = some (some (.builtin "object.__setattr__"))) (tF : typeIn K (.ref f) = some (.type "function")) (kC : keepIn K (.ref C) = true) (exC : subIn K (.ref C) (.type "BaseException") = some true) (bC : subIn K (.ref C) (.type B) = some true)
    (tyC : typeIn K (.ref C) = some (.type "type")) (op : nsIn K cStatics "thirdparty.any" = some none) (cf : codeIn K (.ref cda) qual = true)
    (al : ks_superIn K C C "__init__" = some (some (.builtin initId))) (tl : excTail bmB bm = true) (v2 : vs[2]? = some (.str file tf)) (hf : ((prog.main.file : Str) == file) = true) (top : (prog.main.scope.names.lookup ("super" : Str)).isSome = false) :
    Cfs K prog C f cc cda qual params body scope bmB B newId initId :=
  ⟨⟨_, _, _, _, _, _, _, _, _, _, _, _, _, _, _, lc, tl⟩, sa, iC, tF, kC, exC, bC, tyC, op, al, ⟨_, _, _, _, _, _, _, _, lf⟩, cf, ⟨_, _, _, _, _, _, lcd, v2, hf⟩, ⟨_, _, _, lcc⟩, top⟩
section
variable {K : Frag} {prog : Program} {mg : Str → Option Value} {C f cc cda : Addr} {qual : Str} {params : Arguments} {body : List Stmt} {scope : Scope} {bmB : List Value} {B newId initId : String} {msg fld fld2 : Str} {j : Nat} {p0 p1 p2 p3 p4 p5 q1 q2 q3 q4 r1 r2 r3 r4 : Pos}
theorem Cfs.ini (F : Cfs K prog C f cc cda qual params body scope bmB B newId initId) (b : BaseF bmB B newId initId) (hs : scope.names.lookup ("super" : Str) = some .globalImplicit) (hc : scope.names.lookup ("__class__" : Str) = some .free) (hk : scope.kind = .function) :
    Ini K prog C f cc qual params body scope bmB B newId initId := by
  obtain ⟨oc, od, kV, doc, pm, an, ct, osl, lf⟩ := F.lf
  exact ⟨F.cls, b.new, b.ini, b.pass, b.obj, F.sa, F.iC, F.tF, F.kC, F.exC, F.bC, F.tyC, F.op, F.al, ⟨oc, od, kV, doc, pm, an, cda, ct, osl, lf, F.cf, F.lcd⟩, F.cell, F.top, hs, hc, hk⟩
theorem mks_one (F : Cfs K prog C f cc cda qual params [supSt msg j p0 p1 p2 p3 p4 p5, putSt fld q1 q2 q3 q4] scope bmB B newId initId) (b : BaseF bmB B newId initId) (hs : scope.names.lookup ("super" : Str) = some .globalImplicit) (hc : scope.names.lookup ("__class__" : Str) = some .free) (hk : scope.kind = .function)
    (S : Sc scope params [fld]) (V : Ev qual scope f cc msg j p0 p1 p2 p3 p4) (hno : findIn K (.ref C) fld = some none)
    (hb : ∀ (a : Args) (v : Value), ArgOk [fld] a [v] → ∀ (x : Addr) (kV doc pm : Value) (an : Option Addr) (cdv ct : Value), bindArgs (ksFn "__init__" qual params [supSt msg j p0 p1 p2 p3 p4 p5, putSt fld q1 q2 q3 q4] scope .none kV doc pm an cdv ct cc) ⟨.ref x :: a.pos, a.kw⟩ = pure [(("self" : Str), .ref x), (fld, v)]) :
    Mks prog K mg C [fld] where
  kC := F.kC
  exC := F.exC
  tyC := F.tyC
  call := fun w A s a us R ha X G hd hq => by
    obtain ⟨v, rfl⟩ : ∃ v, us = [v] := by
      have z := ha.len
      match us, z with
      | [v], _ => exact ⟨v, rfl⟩
    refine made_one (F.ini b hs hc hk) S V hno ha X G hd (fun s' x kV doc pm an cdv ct => .of_eq (hb a v ha x kV doc pm an cdv ct)) fun h' tk e d M => hq h' tk e (some d) _ M (by simp) fun y => ?_
    by_cases h : y = fld
    · subst h
      simp
    · have e : (y == fld) = false := by simpa using h
      simp [h, List.lookup, e]
theorem mks_none (F : Cfs K prog C f cc cda qual params [supSt msg j p0 p1 p2 p3 p4 p5] scope bmB B newId initId) (b : BaseF bmB B newId initId) (hs : scope.names.lookup ("super" : Str) = some .globalImplicit) (hc : scope.names.lookup ("__class__" : Str) = some .free) (hk : scope.kind = .function)
    (S : Sc scope params []) (V : Ev qual scope f cc msg j p0 p1 p2 p3 p4)
    (hb : ∀ (x : Addr) (kV doc pm : Value) (an : Option Addr) (cdv ct : Value), bindArgs (ksFn "__init__" qual params [supSt msg j p0 p1 p2 p3 p4 p5] scope .none kV doc pm an cdv ct cc) ⟨[.ref x], []⟩ = pure [(("self" : Str), .ref x)]) :
    Mks prog K mg C [] where
  kC := F.kC
  exC := F.exC
  tyC := F.tyC
  call := fun w A s a us R ha X G hd hq => by
    have ea : a = ⟨[], []⟩ ∧ us = [] := by
      cases ha with
      | pos h =>
        have z := List.length_eq_zero_iff.mp h
        subst z
        exact ⟨rfl, rfl⟩
    obtain ⟨rfl, rfl⟩ := ea
    exact made_none (F.ini b hs hc hk) S V ha X G hd (fun s' x kV doc pm an cdv ct => .of_eq (hb x kV doc pm an cdv ct)) fun h' tk e M => hq h' tk e none _ M (by simp) fun y => by simp
theorem mks_two (F : Cfs K prog C f cc cda qual params [supSt msg j p0 p1 p2 p3 p4 p5, putSt fld q1 q2 q3 q4, putSt fld2 r1 r2 r3 r4] scope bmB B newId initId) (b : BaseF bmB B newId initId) (hs : scope.names.lookup ("super" : Str) = some .globalImplicit) (hc : scope.names.lookup ("__class__" : Str) = some .free) (hk : scope.kind = .function)
    (S : Sc scope params [fld, fld2]) (V : Ev qual scope f cc msg j p0 p1 p2 p3 p4) (hno : findIn K (.ref C) fld = some none) (hno2 : findIn K (.ref C) fld2 = some none) (hff : fld ≠ fld2)
    (hb : ∀ (a : Args) (v v2 : Value), ArgOk [fld, fld2] a [v, v2] → ∀ (x : Addr) (kV doc pm : Value) (an : Option Addr) (cdv ct : Value), bindArgs (ksFn "__init__" qual params [supSt msg j p0 p1 p2 p3 p4 p5, putSt fld q1 q2 q3 q4, putSt fld2 r1 r2 r3 r4] scope .none kV doc pm an cdv ct cc) ⟨.ref x :: a.pos, a.kw⟩ = pure [(("self" : Str), .ref x), (fld, v), (fld2, v2)]) :
    Mks prog K mg C [fld, fld2] where
  kC := F.kC
  exC := F.exC
  tyC := F.tyC
  call := fun w A s a us R ha X G hd hq => by
    obtain ⟨v, v2, rfl⟩ : ∃ v v2, us = [v, v2] := by
      have z := ha.len
      match us, z with
      | [v, v2], _ => exact ⟨v, v2, rfl⟩
    refine made_two (F.ini b hs hc hk) S V hno hno2 hff ha X G hd (fun s' x kV doc pm an cdv ct => .of_eq (hb a v v2 ha x kV doc pm an cdv ct)) fun h' tk e d M => hq h' tk e (some d) _ M (by simp) fun y => ?_
    by_cases h2 : y = fld2
    · subst h2
      simp
    · have e2 : (y == fld2) = false := by simpa using h2
      by_cases h : y = fld
      · subst h
        simp [List.lookup, e2, h2]
      · have e : (y == fld) = false := by simpa using h
        simp [h, h2, List.lookup, e, e2]
end
end L2

namespace L2
open PySem PySem.Spec PyProof.Rows ExM
/-- what the clause 'except c as n' wishes: behind the suite the exception is an object that is kept -/
def wAs1T (K : PySem.W.Frag) (c : Value) (i : Nat) (ts : Addr → Value → Option Addr → TS) (Wout : WX) (D : Ends) : WX := fun cls d σ H =>
  ∃ b, PySem.W.exmOne K cls c = some b ∧ (b = true → ∀ a, H a = none → ts a cls d { nx := fun σ' H' => D.nx (σ'.set i none) (upd H' a (exv a cls d)), rt := fun _ _ => False } (σ.set i (some (.ref a))) H) ∧
    (b = false → Wout cls d σ H)
section
variable {X : Cx} {x n : Str} {i : Nat} {body suite : List Stmt} {b₀ : Stmt} {np pos pos' : Pos} {c : Value} {tb : WX → TS} {ts : Addr → Value → Option Addr → TS} {Wout : WX}
theorem ps_try_as1T (hs : X.stack = X.env :: X.outer) (hf : X.env.frame = some X.env.locals) (hN : X.N.Nodup) (hi : X.N[i]? = some n) (hln : X.env.kindOf n = some .local) (hc : Names X x c) (hex : X.ex = []) (tk : Takes X Wout)
    (hb : ∀ (W : WX) (pn : List (Addr × Obj)) (xe : Value → Shared → Prop), Takes (X.tr pn xe) W → PassesOwn (model X.prog X.w) X.A X.env xe → PSs (X.tr pn xe) body (tb W))
    (hsu : ∀ (a : Addr) (oe : Obj) (cls : Value) (d : Option Addr) (pn : List (Addr × Obj)), Zc cls d oe → (∃ vs, oe.data = .fields vs) → PSs (X.suite a ((a, oe) :: pn)) (b₀ :: suite) (ts a cls d)) :
    PS X (.Try body [.ExceptHandler (some (.Name x np)) (some n) (b₀ :: suite) pos'] [] [] pos) (fun D σ H => tb (wAs1T X.K c i ts Wout D) D σ H) := by
  refine ⟨fun pins s σ H D I h => ?_⟩
  have ok := I.ok
  have hfr : X.A.frames = some (X.env :: X.outer) := by rw [ok.frames, hs]
  refine wpAny_Try_except (wpAny_mono ((hb (wAs1T X.K c i ts Wout D) (X.pn ++ pins) (fun e s₁ => wpAny (model X.prog X.w) X.A (noteFrame e X.env) (fun _ s₂ => wpAny (model X.prog X.w) X.A (setFlight e none) (fun _ s₃ =>
    wpAny (model X.prog X.w) X.A (handleBy e X.env [.ExceptHandler (some (.Name x np)) (some n) (b₀ :: suite) pos']) (SP X pins D) X.xe s₃) X.xe s₂) X.xe s₁) (fun u s' xx => ?_) PassesOwn.looking).run [] s σ H D (I.toTry _) h) (fun f s1 hsp => ?_) (fun e s1 he => he))
  · obtain ⟨a, B, sI, pins', σ', H', cls, d, rfl, J', nb, up, sky, na, os, ag, b, hb1, hyes, hno⟩ := xx
    have J : Inv X pins σ' H' sI := J'.ofTry ok
    have sky' : Sky B (X.env :: X.outer) a (Zc cls d) X.env.locals s'.heap := by rw [← hs]; exact sky
    show wpAny (model X.prog X.w) X.A (noteFrame (.ref a) X.env) _ _ _
    refine Sky.land Zc.steady hfr hf sky' fun h3 fl3 up3 => ?_
    have J3 : Inv X pins σ' H' { s' with heap := h3 } := J.landed nb fl3.1 (up.trans up3) os ag
    obtain ⟨oe3, vs3, he3, hz3, hd3⟩ := fl3.there
    have nfr : a ∉ frs (X.env :: X.outer) := fun hm => by
      obtain ⟨_, o', e', hnf⟩ := fl3.2.2.1.mem hm
      rw [he3] at e'
      cases e'
      exact hnf _ hd3
    have nL : a ≠ X.env.locals := fun z => nfr (List.mem_filterMap.mpr ⟨X.env, List.mem_cons_self, by rw [hf, z]⟩)
    have nF : a ∉ X.fs := fun hm => by
      obtain ⟨e, he, q⟩ := List.mem_filterMap.mp hm
      exact nfr (List.mem_filterMap.mpr ⟨e, List.mem_cons_of_mem _ he, q⟩)
    have aB : B.get? a = none := fl3.2.1
    have aI : sI.heap.get? a = none := by
      cases q : sI.heap.get? a with
      | none => rfl
      | some o =>
        have z := nb a o q (by rw [hs]; exact nfr)
        rw [aB] at z
        cases z
    have a0 : X.s_0.heap.get? a = none := by
      cases q : X.s_0.heap.get? a with
      | none => rfl
      | some o =>
        obtain ⟨o', z⟩ := J.base.there a o q (by rw [hex]; exact fun z => nomatch z)
        rw [aI] at z
        cases z
    have apn : ∀ p ∈ X.pn ++ pins, p.1 ≠ a := fun p hp z => by
      obtain ⟨e, _⟩ := J.pin p hp
      rw [z, aI] at e
      cases e
    refine wpAny_handleBy_cons (codeAny_handlers_test ?_) (by intro q; cases q)
    have S3 := J3.suite he3 hd3 na nL nF
    have LT : PySem.W.Looks (model X.prog X.w) h3 (typeOf (.ref a)) cls := fun A Q E s k q => wpAny_typeOf_ref (k _ _ he3) (by rw [hz3.1]; exact q)
    have LM := PySem.W.exm_one (M := model X.prog X.w) (J3.kIn) LT hb1
    have test : ∀ {Q : Value → Shared → Prop} {E : Value → Shared → Prop}, Q c { s' with heap := h3 } → wpAny (model X.prog X.w) (X.A.mark (some (.ref a))) (eval (.Name x np) X.env) Q E { s' with heap := h3 } := fun {Q E} q => by
      obtain ⟨hg, hdbg, hm | ⟨hm, hv, hnn⟩⟩ := hc
      · exact ld_glob (X := X.suite a ((a, oe3) :: (X.pn ++ pins))) S3 hg hm q hdbg
      · exact ld_blt (X := X.suite a ((a, oe3) :: (X.pn ++ pins))) S3 hg hm hv q hnn hdbg
    refine test (LM.here ?_)
    cases b with
    | true =>
      refine codeAny_handlers_suite_as ?_
      refine HandSPX.lands_againZ fl3 fun h4 fl4 up4 => ?_
      have J4 : Inv X pins σ' H' { s' with heap := h4 } := J.landed nb fl4.1 ((up.trans up3).trans up4) os ag
      obtain ⟨oe4, vs4, he4, hz4, hd4⟩ := fl4.there
      have S4 := J4.suite he4 hd4 na nL nF
      refine store_ok (X := X.suite a ((a, oe4) :: (X.pn ++ pins))) (v := .ref a) S4 hN hi (.inl hln) rfl (fun s5 S5 => ?_) (.inr hln)
      refine wpAny_mono ((hsu a oe4 cls d (X.pn ++ pins) hz4 ⟨_, hd4⟩).run [] s5 _ H' _ S5 (hyes rfl a na)) (fun f s6 hsp => ?_) (fun _ _ z => False.elim z)
      have back : ∀ {σ6 : St} {H6 : Hp}, Inv (X.suite a ((a, oe4) :: (X.pn ++ pins))) [] σ6 H6 s6 → Inv X ((a, oe4) :: pins) σ6 H6 s6 := fun {σ6 H6} S6 =>
        ⟨ok, S6.os, S6.bare, S6.base, S6.loc, S6.cell, S6.free, S6.freeC, fun p hp => S6.pin p (by
          rcases List.mem_append.mp hp with z | z
          · exact List.mem_append_left _ (List.mem_cons_of_mem _ (List.mem_append_left _ z))
          · rcases List.mem_cons.mp z with z | z
            · rw [z]
              exact List.mem_append_left _ List.mem_cons_self
            · exact List.mem_append_left _ (List.mem_cons_of_mem _ (List.mem_append_right _ z))), S6.hok, S6.len⟩
      cases f with
      | next =>
        obtain ⟨σ6, H6, S6, q6⟩ := hsp
        refine gone_ok (back S6) hN hi hln fun s7 J7 => ?_
        have e7 := (J7.pin (a, oe4) (List.mem_append_right _ List.mem_cons_self)).1
        exact ⟨_, _, J7.track a0 apn (fun v z => by rw [hd4] at z; cases z) (exv_ok e7 hz4 hd4), q6⟩
      | brk =>
        obtain ⟨σ6, H6, S6, q6⟩ := hsp
        exact False.elim q6
      | cont =>
        obtain ⟨σ6, H6, S6, q6⟩ := hsp
        exact False.elim q6
      | ret u =>
        obtain ⟨v6, σ6, H6, S6, r6, q6⟩ := hsp
        exact False.elim q6
    | false =>
      show wpAny _ X.A (handleBy (.ref a) X.env []) _ _ _
      refine wpAny_handleBy_nil ?_
      obtain ⟨k1, k2, k3, oe, vs, T, oT, ts', he, hz, hd, h1, hr⟩ := id fl3
      unfold PySem.passOn
      refine wpAny_bind (wpAny_field he hd h1 ?_)
      rw [if_neg (show ¬ ((Value.ref T == Value.none) = true) from by simp)]
      have fin : wpAny (model X.prog X.w) X.A (setFlight (.ref a) X.env.frame) (fun _ s4 => wpAny (model X.prog X.w) X.A (throw (.ref a) : Sem Flow) (SP X pins D) X.xe s4) X.xe { s' with heap := h3 } := by
        rw [hf]
        refine HandSPX.setFlight_upZ fl3 fun h4 hh4 up4 => wpAny_throw (tk _ _ ?_)
        exact ⟨a, B, sI, pins, σ', H', cls, d, rfl, J, nb, (up.trans up3).trans up4, .inr (.inr (by rw [hs]; exact hh4)), na, os, ag, hno rfl⟩
      first
        | exact wpAny_bind (wpAny_pure (wpAny_bind fin))
        | exact wpAny_bind fin
  · cases f with
    | next =>
      obtain ⟨σ', H', J', q⟩ := hsp
      exact wpAny_execs_nil ⟨σ', H', J'.ofTry ok, q⟩
    | brk =>
      obtain ⟨σ', H', J', q⟩ := hsp
      exact ⟨σ', H', J'.ofTry ok, q⟩
    | cont =>
      obtain ⟨σ', H', J', q⟩ := hsp
      exact ⟨σ', H', J'.ofTry ok, q⟩
    | ret u =>
      obtain ⟨v, σ', H', J', r, q⟩ := hsp
      exact ⟨v, σ', H', J'.ofTry ok, r, q⟩
end
end L2

/-! repr of data that may be a small dict, and of lists of such. -/
namespace L2
open PySem PySem.Spec PyProof.Rows
/-- data without a dict, or a dict of one int under a text -/
inductive Di (K : PySem.W.Frag) (H : Hp) : V → PyData → Prop
  | dp {v : V} {d : PyData} : Dp K H v d → Di K H v d
  | dic {a : Addr} {k : Str} {i : Int} : H a = some (.dK [(Sum.inr k, .int i)]) → Di K H (.ref a) (.dict [(.str k, .int i)])
inductive DiAll (K : PySem.W.Frag) (H : Hp) : List V → List PyData → Prop
  | nil : DiAll K H [] []
  | cons {v : V} {vs : List V} {d : PyData} {ds : List PyData} : Di K H v d → DiAll K H vs ds → DiAll K H (v :: vs) (d :: ds)
inductive ReadsI (h : Heap) : List Value → List PyData → Prop
  | nil : ReadsI h [] []
  | cons {v : Value} {vs : List Value} {d : PyData} {ds : List PyData} {as : List Addr} : Reads h v d as → (d.hasDict = true → sysModules ∉ as) → ReadsI h vs ds → ReadsI h (v :: vs) (d :: ds)
theorem ReadsI.all {h : Heap} : ∀ {vs : List Value} {ds : List PyData}, ReadsI h vs ds → ∃ as, ReadsAll h vs ds as
  | _, _, .nil => ⟨_, .nil⟩
  | _, _, .cons r _ t => let ⟨_, q⟩ := t.all; ⟨_, .cons r q⟩
theorem ReadsI.repr {prog : Program} {w : World} {h₀ : Heap} : ∀ {vs : List Value} {ds : List PyData}, ReadsI h₀ vs ds → PyData.showableAll ds = true → (∀ t ∈ PyData.shownAll ds, t.length ≤ sizeLine) →
    ∃ bs, ReadAtMost h₀ (PyData.depthAll ds) bs ∧ ReprAllK prog w bs h₀ (PyData.depthAll ds) vs (PyData.shownAll ds)
  | _, _, .nil, _, _ => ⟨[], (fun _ h => nomatch h), by simp only [PyData.shownAll]; exact .nil⟩
  | _, _, .cons (d := d) (ds := ds) r m t, hs, hz => by
    have hs' : d.showable = true ∧ PyData.showableAll ds = true := by simpa [PyData.showableAll] using hs
    obtain ⟨b1, hb1, k1⟩ := ReprK.of_reads (prog := prog) (w := w) r hs'.1 m (hz _ (by simp only [PyData.shownAll]; exact List.mem_cons_self ..))
    obtain ⟨b2, hb2, k2⟩ := ReadsI.repr (prog := prog) (w := w) t hs'.2 (fun t ht => hz t (by simp only [PyData.shownAll]; exact List.mem_cons_of_mem _ ht))
    have l1 : d.depth ≤ PyData.depthAll (d :: ds) := by simp only [PyData.depthAll]; omega
    have l2 : PyData.depthAll ds ≤ PyData.depthAll (d :: ds) := by simp only [PyData.depthAll]; omega
    refine ⟨b1 ++ b2, (hb1.mono l1).append (hb2.mono l2), ?_⟩
    simp only [PyData.depthAll, PyData.shownAll]
    have k1' : ReprK prog w b1 h₀ d.depth _ _ := k1
    exact .cons ((k1'.more fun b hb => List.mem_append_left _ hb).level_le (Nat.le_max_left _ _)) (k2.more_le (fun b hb => List.mem_append_right _ hb) (Nat.le_max_right _ _))
section
variable {X : Cx} {pins : List (Addr × Obj)} {σ : St} {H : Hp} {s : Shared}
theorem Di.reads (I : Inv X pins σ H s) {d : PyData} {v : V} {u : Value} (h : Di X.K H v d) (r : RelV v u) : ∃ as, Reads s.heap u d as ∧ (d.hasDict = true → sysModules ∉ as) := by
  cases h with
  | dp h =>
    obtain ⟨as, q⟩ := Dp.reads I d v u h r
    exact ⟨as, q, fun z => by rw [Dp.noDict h] at z; cases z⟩
  | @dic a k i hs =>
    cases r
    obtain ⟨_, hne, vs, rel, o, es, ep, ho, ⟨hx, _, _⟩, hd, _, hp, _⟩ := dk_of I.hok hs
    cases rel with
    | @cons _ q _ qs r1 r2 =>
      cases r2
      obtain ⟨qk, qv⟩ := q
      obtain ⟨e1, rv⟩ := r1
      dsimp only at e1 rv
      subst e1
      cases es with
      | mk es =>
      cases hp with
      | @cons e _ es' _ hk hv' hp' =>
        cases hp'
        rcases keyIs_shape (show keyIs (Sum.inr k) e.key = true from hk) with ⟨_, _, e2, _⟩ | ⟨y, t, e2, e3⟩
        · cases e2
        · cases e2
          dsimp only at hv'
          obtain ⟨tt, rfl⟩ := rv
          refine ⟨_, Reads.dict ho hx hd (kvs := [(.str k, .int i)]) (as := [] ++ []) (bs := [] ++ []) ?_ ?_, fun _ h => ?_⟩
          · exact .cons (by dsimp only; rw [e3]; exact .str _ _) .nil
          · exact .cons (by dsimp only; rw [hv']; exact .int _ _) .nil
          · simp only [List.append_nil, List.mem_cons, List.not_mem_nil, or_false] at h
            rw [← h] at hne
            exact absurd hne (by decide)
theorem DiAll.reads (I : Inv X pins σ H s) : ∀ {ds : List PyData} {vs : List V} {us : List Value}, DiAll X.K H vs ds → Vals vs us → ReadsI s.heap us ds
  | [], _, _, h, r => by
    cases h
    cases r
    exact .nil
  | d :: ds, _, _, h, r => by
    cases h with
    | cons h1 h2 =>
      cases r with
      | cons r1 r2 =>
        obtain ⟨as, q, m⟩ := Di.reads I h1 r1
        exact .cons q m (DiAll.reads I h2 r2)
end
/-- repr(v) -/
def rRepr1 (K : PySem.W.Frag) : List V → Hp → VK → Prop := fun xs H Q => ∃ v d, xs = [v] ∧ Di K H v d ∧ d.showable = true ∧ d.shown.length ≤ sizeLine ∧ d.depth ≤ 60 ∧ Q (.str d.shown) H
/-- repr(xs), xs a list of such -/
def rReprL (K : PySem.W.Frag) : List V → Hp → VK → Prop := fun xs H Q => ∃ a vs ds, xs = [.ref a] ∧ SqL K H a vs ∧ DiAll K H vs ds ∧ (PyData.list ds).showable = true ∧ (PyData.list ds).shown.length ≤ sizeLine ∧ PyData.depthAll ds ≤ 60 ∧ Q (.str (PyData.list ds).shown) H
theorem call_repr1 {X : Cx} (hg : X.A.guards = some []) (hu : X.A.units + 64 < cLine) : CallR X (.builtin "repr") (rRepr1 X.K) := by
  intro pins s σ H xs us Q I r h
  obtain ⟨v, d, rfl, hd, hs, hz, hdp, q⟩ := h
  cases r with
  | @cons _ u _ us r1 r2 =>
    cases r2
    show wpAny _ _ (call (.builtin "repr") [u]) _ _ _
    obtain ⟨as, rd, hm⟩ := Di.reads I hd r1
    cases rd with
    | none => exact P.repr_of_none ⟨.str _, H, I.tok _, ⟨_, rfl⟩, by simpa [PyData.shown] using q⟩
    | bool b => exact P.repr_of_bool ⟨.str _, H, I.tok _, ⟨_, rfl⟩, by simpa [PyData.shown] using q⟩
    | int i t => exact P.repr_of_int (by simpa [PyData.showable] using hs) ⟨.str _, H, I.tok _, ⟨_, rfl⟩, by simpa [PyData.shown] using q⟩
    | str x t => exact P.repr_of_str ⟨.str _, H, I.tok _, ⟨_, rfl⟩, by simpa [PyData.shown] using q⟩ (by simpa [PyData.shown] using hz)
    | list h1 h2 h3 h4 =>
      exact repr_of_reads' (.list h1 h2 h3 h4) hs hm hg (by omega) (fun _ _ e => e) (fun h' u tk k => ⟨.str _, H, I.kept (t' := tk) k, ⟨_, rfl⟩, q⟩) hz
    | tuple h1 h2 h3 h4 =>
      exact repr_of_reads' (.tuple h1 h2 h3 h4) hs hm hg (by omega) (fun _ _ e => e) (fun h' u tk k => ⟨.str _, H, I.kept (t' := tk) k, ⟨_, rfl⟩, q⟩) hz
    | dict h1 h2 h3 h4 h5 =>
      exact repr_of_reads' (.dict h1 h2 h3 h4 h5) hs hm hg (by omega) (fun _ _ e => e) (fun h' u tk k => ⟨.str _, H, I.kept (t' := tk) k, ⟨_, rfl⟩, q⟩) hz
theorem call_reprL {X : Cx} (hg : X.A.guards = some []) (hu : X.A.units + 64 < cLine) : CallR X (.builtin "repr") (rReprL X.K) := by
  intro pins s σ H xs us Q I r h
  obtain ⟨a, vs, ds, rfl, hS, hd, hs, hz, hdp, q⟩ := h
  cases r with
  | @cons _ u _ us r1 r2 =>
    cases r2
    cases r1
    show wpAny _ _ (call (.builtin "repr") [.ref a]) _ _ _
    obtain ⟨its, rv, ⟨o, n, h1, h2, _, h3⟩, _⟩ := I.list hS
    have RI := DiAll.reads I hd rv
    obtain ⟨as, h4⟩ := RI.all
    have hz' : (listText (PyData.shownAll ds)).length ≤ sizeLine := by simpa only [PyData.shown] using hz
    obtain ⟨bs, hb, hk⟩ := RI.repr (prog := X.prog) (w := X.w) (by simpa [PyData.showable] using hs) (fun t ht => Nat.le_trans (listText_mem_le ht) hz')
    have h4' : ReadsAll s.heap its.toArray.toList ds as := by simpa using h4
    have hna : a ∉ bs := not_mem_of_deeper (.list h1 h2 h3 h4') (by simp only [PyData.depth]; omega) hb
    have fin : ∀ {h' u tk}, (∀ b o, s.heap.get? b = some o → h'.get? b = some o) → EP X pins σ Q (.str (PyData.list ds).shown u) { s with heap := h', toks := tk } := fun {h' u tk} k => ⟨.str _, H, I.kept (t' := tk) k, ⟨_, rfl⟩, q⟩
    refine call_repr_slot (by omega) ⟨o, h1, h2⟩ F.slot_list_repr.toG ?_
    cases its with
    | nil =>
      cases h4
      have e : (PyData.list []).shown = ("[]" : Str) := by simp only [PyData.shown, PyData.shownAll, listText_nil]
      refine call_list_repr_empty ⟨o, h1, h2⟩ h1 h3 ⟨_, _, rfl, ?_⟩
      rw [← e]
      exact fin fun _ _ e => e
    | cons x l =>
      refine call_list_reprK h1 h2 h3 hna (by simpa using hk.length_eq) (fun i y e => hk.item i y (by simpa using e)) hg (fun b _ => Clear.nil b) (by show X.A.units + 1 + _ < _; omega) (fun _ _ e => e) (fun h' u tk k => ⟨_, _, rfl, ?_⟩) hz'
      have := fin (h' := h') (u := u) (tk := tk) k
      simpa only [PyData.shown] using this
end L2

/-! General readings (any law): data that is small, made exceptions, texts that are compared. -/
namespace L2
open PySem PySem.Spec PyProof.Rows Evl
section
variable {K : PySem.W.Frag} {σ : L2.St} {H : Hp} {ta tb : TE}
/-- xs + ys, both lists tracked: a new list -/
theorem el_cat {l : Addr} {xs ys : List V} (ha : Ev ta σ H (.ref l)) (hl : H l = some (.lst xs)) (hb : EvL tb σ H ys) (hz : xs.length + ys.length ≤ 100000) : EvL (tOp rCat ta tb) σ H (xs ++ ys) := fun H1 e Q q =>
  ha H1 e _ fun H2 e2 => hb H2 (e.trans e2) _ fun b H3 hb0 e3 hb3 => ⟨l, b, xs, ys, rfl, rfl, e3 _ _ (e2 _ _ (e _ _ hl)), hb3, sz_of hz, fun p hp => q p _ (fresh_back (e2.trans e3) hp) ((e2.trans e3).trans (Ex.new hp)) upd_same⟩
end
end L2
namespace L2
open PySem PySem.Spec PyProof.Rows Evl
mutual
theorem Dp.ex {K : PySem.W.Frag} {H H' : Hp} (e : Ex H H') : ∀ {v : V} {d : PyData}, Dp K H v d → Dp K H' v d
  | _, .none, h => by cases h; exact .non
  | _, .bool _, h => by cases h; exact .bl _
  | _, .int _, h => by cases h; exact .int _
  | _, .str _, h => by cases h; exact .str _
  | _, .list ds, h => by
    cases h with
    | lst hs ha => exact .lst (ex_l e hs) (DpAll.ex e ha)
  | _, .tuple ds, h => by
    cases h with
    | tup hs ha => exact .tup (ex_t e hs) (DpAll.ex e ha)
  | _, .dict _, h => by cases h
theorem DpAll.ex {K : PySem.W.Frag} {H H' : Hp} (e : Ex H H') : ∀ {vs : List V} {ds : List PyData}, DpAll K H vs ds → DpAll K H' vs ds
  | _, [], h => by cases h; exact .nil
  | _, d :: ds, h => by
    cases h with
    | cons h1 h2 => exact .cons (Dp.ex e h1) (DpAll.ex e h2)
end
theorem Di.ex {K : PySem.W.Frag} {H H' : Hp} (e : Ex H H') {v : V} {d : PyData} : Di K H v d → Di K H' v d
  | .dp h => .dp (h.ex e)
  | .dic h => .dic (e _ _ h)
theorem DiAll.ex {K : PySem.W.Frag} {H H' : Hp} (e : Ex H H') : ∀ {vs : List V} {ds : List PyData}, DiAll K H vs ds → DiAll K H' vs ds
  | _, _, .nil => .nil
  | _, _, .cons h t => .cons (h.ex e) (t.ex e)
/-- small data: shown in four thousand signs at most -/
structure Sm (d : PyData) : Prop where
  a : d.showable = true
  b : d.shown.length ≤ 4000
  c : d.depth ≤ 3
inductive SmAll : List PyData → Prop
  | nil : SmAll []
  | cons {d : PyData} {ds : List PyData} : Sm d → SmAll ds → SmAll (d :: ds)
theorem SmAll.show : ∀ {ds : List PyData}, SmAll ds → PyData.showableAll ds = true ∧ ((PyData.shownAll ds).map fun t => t.length + 2).sum ≤ 4002 * ds.length ∧ PyData.depthAll ds ≤ 3
  | _, .nil => ⟨by simp [PyData.showableAll], by simp [PyData.shownAll], by simp [PyData.depthAll]⟩
  | _, .cons (d := d) (ds := ds) h t => by
    obtain ⟨a, b, c⟩ := t.show
    refine ⟨by simp [PyData.showableAll, h.a, a], ?_, ?_⟩
    · simp only [PyData.shownAll, List.map_cons, List.sum_cons, List.length_cons]
      have := h.b
      omega
    · simp only [PyData.depthAll]
      have := h.c
      omega
theorem SmAll.list {ds : List PyData} (h : SmAll ds) (hl : ds.length ≤ 100) : (PyData.list ds).showable = true ∧ (PyData.list ds).shown.length ≤ sizeLine ∧ PyData.depthAll ds ≤ 60 := by
  obtain ⟨a, b, c⟩ := h.show
  refine ⟨by simpa [PyData.showable] using a, ?_, by omega⟩
  simp only [PyData.shown, listText]
  rw [strLen_append, sizeLine_eq]
  have := textFrom_cap (PyData.shownAll ds) 0 "["
  have e1 : (("[" : Str)).length = 1 := by decide
  have e2 : (("]" : Str)).length = 1 := by decide
  omega
section
variable {K : PySem.W.Frag} {σ : L2.St} {H : Hp} {ta tb te : TE}
theorem ev_repr1 {v : V} {d : PyData} (h : Ev te σ H v) (hd : Di K H v d) (s : Sm d) : Ev (tCB (rRepr1 K) (tCons te tNil)) σ H (.str d.shown) :=
  ev_cb (ea_cons h ea_nil) fun H1 e Q q => ⟨v, d, rfl, hd.ex e, s.a, Nat.le_trans s.b (by rw [sizeLine_eq]; omega), Nat.le_trans s.c (by decide), q H1 (Ex.refl H1)⟩
theorem ev_reprL {vs : List V} {ds : List PyData} (h : EvL te σ H vs) (hd : DiAll K H vs ds) (s : SmAll ds) (hl : ds.length ≤ 100) : Ev (tCB (rReprL K) (tCons te tNil)) σ H (.str (PyData.list ds).shown) := fun H1 e Q q =>
  h H1 e _ fun p H2 hp e2 h2 => ⟨p, vs, ds, rfl, sq_of h2, hd.ex (e.trans e2), (s.list hl).1, (s.list hl).2.1, (s.list hl).2.2, q H2 e2⟩
theorem ev_reprV {a : Addr} {vs : List V} {ds : List PyData} (h : Ev te σ H (.ref a)) (ha : H a = some (.lst vs)) (hd : DiAll K H vs ds) (s : SmAll ds) (hl : ds.length ≤ 100) : Ev (tCB (rReprL K) (tCons te tNil)) σ H (.str (PyData.list ds).shown) := fun H1 e Q q =>
  h H1 e _ fun H2 e2 => ⟨a, vs, ds, rfl, sq_of (e2 _ _ (e _ _ ha)), hd.ex (e.trans e2), (s.list hl).1, (s.list hl).2.1, (s.list hl).2.2, q H2 e2⟩
/-- two equal texts are not unlike -/
theorem ev_neS {z : Str} (ha : Ev ta σ H (.str z)) (hb : Ev tb σ H (.str z)) : EvT (tTest (tOp rNe ta tb)) σ H false :=
  et_test (ev_is (ev_op ha hb (rv_ne rfl)) (by simp))
/-- xs * k: a new list -/
theorem el_rep {xs : List V} {k : Int} (ha : EvL ta σ H xs) (hb : ∀ H1, Ev tb σ H1 (.int k)) (h0 : 0 ≤ k ∧ k ≤ 100) (hz : xs.length ≤ 100) : EvL (tOp rRep ta tb) σ H (List.replicate k.toNat xs).flatten := fun H1 e Q q =>
  ha H1 e _ fun l H2 hl e2 h2 => hb H2 H2 (Ex.refl _) _ fun H3 e3 => ⟨l, k, xs, rfl, rfl, e3 _ _ h2, by omega, by omega, by
    have : k.toNat ≤ 100 := by omega
    have : xs.length * k.toNat ≤ 100 * 100 := Nat.mul_le_mul hz this
    rw [sizeLine_eq]; omega, fun p hp => q p _ (fresh_back (e2.trans e3) hp) ((e2.trans e3).trans (Ex.new hp)) upd_same⟩
end
end L2
namespace Toy
open PySem L2 Evl
def nmN : Nat → Str
  | 0 => "SpanError" | 1 => "BadBase" | 2 => "BadNumber" | 3 => "BadDigits" | 4 => "BadRange" | 5 => "BadRule" | 6 => "BadReader" | 7 => "BadManner" | 8 => "BadEntry" | 9 => "BadName"
  | 10 => "BadText" | 11 => "OtherBase" | 12 => "TooMany" | 13 => "Missing" | _ => "NothingLeft"
/-- an exception that is kept at e, of the class at C -/
def ExAt (H : Hp) (e C : Addr) (d : Option Addr) : Prop := H e = some (exv e (.ref C) d) ∧ ∀ dx, d = some dx → ∃ fs, H dx = some (.xd fs)
theorem ExAt.ex {H H' : Hp} {e C : Addr} {d : Option Addr} (x : ExAt H e C d) (k : Ex H H') : ExAt H' e C d := ⟨k _ _ x.1, fun dx z => let ⟨fs, h⟩ := x.2 dx z; ⟨fs, k _ _ h⟩⟩
section
variable {K : PySem.W.Frag}
/-- e.f as a reading -/
theorem ev_xf {σ : St} {H : Hp} {f : Str} {te : TE} {e C d : Addr} {fs : List (Str × V)} {v : V} (h : Ev te σ H (.ref e)) (x : ExAt H e C (some d)) (hd : H d = some (.xd fs)) (T : XcC K C) (no : PySem.W.findIn K (.ref C) f = some none) (l : fs.lookup f = some v) :
    Ev (tXfT K f te) σ H v := fun H1 k Q q => h H1 k _ fun H2 k2 => ⟨e, C, d, fs, v, rfl, (x.ex (k.trans k2)).1, k2 _ _ (k _ _ hd), T, no, l, q H2 k2⟩
end
theorem shaped_bls (bs : List Bool) : SeqAt.shaped (.list (bs.map PyData.bool)) = true := by
  have lay : ∀ bs : List Bool, PyData.canLayAll0 (bs.map PyData.bool) = true := fun bs => by
    induction bs with
    | nil => rfl
    | cons n ns ih => simp only [List.map_cons, PyData.canLayAll0, PyData.canLay0, ih, Bool.and_self]
  have dep : ∀ bs : List Bool, PyData.depthAll (bs.map PyData.bool) ≤ 1 := fun bs => by
    induction bs with
    | nil => simp [PyData.depthAll]
    | cons n ns ih => simp only [List.map_cons, PyData.depthAll, PyData.depth]; omega
  have h := dep bs
  refine Bool.and_eq_true_iff.mpr ⟨?_, decide_eq_true ?_⟩
  · simpa only [PyData.canLay0] using lay bs
  · simp only [PyData.depth]
    omega
theorem dpAll_bls {K : PySem.W.Frag} {H : Hp} : ∀ bs : List Bool, DpAll K H (bs.map V.bl) (bs.map PyData.bool)
  | [] => .nil
  | b :: bs => .cons (.bl b) (dpAll_bls bs)
/-- two lists of the same truths are not unlike -/
theorem et_neB {K : PySem.W.Frag} {σ : St} {H : Hp} {ta tb : TE} {bs : List Bool} (ha : EvL ta σ H (bs.map V.bl)) (hb : EvL tb σ H (bs.map V.bl)) : EvT (tTest (tOp (rNeD K) ta tb)) σ H false :=
  et_test (ev_opLL ha hb fun p q H1 hp hq e => fun H2 e2 Q k => ⟨_, _, .lst (sq_of (e2 _ _ hp)) (dpAll_bls bs), .lst (sq_of (e2 _ _ hq)) (dpAll_bls bs), shaped_bls bs, shaped_bls bs, by
    rw [SeqAt.eqv_refl _ (Bool.and_eq_true_iff.mp (shaped_bls bs)).1]
    exact k _ (Ex.refl _)⟩)
/-- an exception of the class at C with one field -/
def Made1 (H : Hp) (e C : Addr) (f : Str) (v : V) : Prop := ∃ d, ExAt H e C (some d) ∧ H d = some (.xd [(f, v)])
theorem Made1.ex {H H' : Hp} {e C : Addr} {f : Str} {v : V} (x : Made1 H e C f v) (k : Ex H H') : Made1 H' e C f v := let ⟨d, a, b⟩ := x; ⟨d, a.ex k, k _ _ b⟩
def EvM (te : TE) (σ : St) (H : Hp) (C : Addr) (f : Str) (v : V) : Prop := ∀ H1, Ex H H1 → ∀ Q : VK, (∀ e H2, H1 e = none → Ex H1 H2 → Made1 H2 e C f v → Q (.ref e) H2) → te σ H1 Q
theorem em_mk {σ : St} {H : Hp} {te : TE} {C : Addr} {f : Str} {v : V} (h : Ev te σ H v) : EvM (tMkv C [f] (tCons te tNil)) σ H C f v := fun H1 e Q q =>
  h H1 e _ fun H2 e2 => ⟨rfl, fun x d hx hd hne => by
    have hx' : (upd H2 d (.xd [(f, v)])) x = none := by
      rw [upd_ne (Ne.symm hne)]
      exact hx
    exact q x _ (fresh_back e2 hx) (e2.trans ((Ex.new hd).trans (Ex.new hx'))) ⟨d, ⟨upd_same, fun dx z => by cases z; exact ⟨_, (Ex.new hx') _ _ upd_same⟩⟩, (Ex.new hx') _ _ upd_same⟩⟩
theorem ev_xfM {K : PySem.W.Frag} {σ : St} {H : Hp} {te : TE} {C : Addr} {f : Str} {v : V} (h : EvM te σ H C f v) (T : XcC K C) (no : PySem.W.findIn K (.ref C) f = some none) : Ev (tXfT K f te) σ H v := fun H1 k Q q =>
  h H1 k _ fun e H2 he e2 ⟨d, x, hd⟩ => ⟨e, C, d, _, v, rfl, x.1, hd, T, no, by simp [List.lookup], q H2 e2⟩
/-- a value of the law: data that is small -/
def Val (K : PySem.W.Frag) (H : Hp) (v : V) : Prop := ∃ d, Di K H v d ∧ Sm d
theorem sm_int {i : Int} (h : i.natAbs < 2 ^ 200) : Sm (.int i) := by
  have hl : i.natAbs.log2 < 1920 := by
    by_cases hz : i.natAbs = 0
    · rw [hz]; decide
    · exact Nat.lt_of_lt_of_le ((Nat.log2_lt hz).mpr h) (by decide)
  obtain ⟨a, b⟩ := shown_cap (.int i) (by simpa [plainD] using hl)
  exact ⟨a, Nat.le_trans b (by simp [cap]), by simp [PyData.depth]⟩
theorem Val.ex {K : PySem.W.Frag} {H H' : Hp} {v : V} (x : Val K H v) (e : Ex H H') : Val K H' v := let ⟨d, a, b⟩ := x; ⟨d, a.ex e, b⟩
theorem et_andF {σ : St} {H : Hp} {t u : TT} {a : Bool} (h1 : EvT t σ H a) (h2 : a = true → EvT u σ H false) : EvT (tAnd t u) σ H false := et_is (et_and h1 h2) (by simp)
theorem mk_at {H : Hp} {x d C : Addr} {f : Str} {v : V} (hx : H x = none) (hd : H d = none) (hne : d ≠ x) : Ex H (upd (upd H d (.xd [(f, v)])) x (exv x (.ref C) (some d))) ∧ Made1 (upd (upd H d (.xd [(f, v)])) x (exv x (.ref C) (some d))) x C f v := by
  have hx' : (upd H d (.xd [(f, v)])) x = none := by
    rw [upd_ne (Ne.symm hne)]
    exact hx
  exact ⟨(Ex.new hd).trans (Ex.new hx'), d, ⟨upd_same, fun dx z => by cases z; exact ⟨_, (Ex.new hx') _ _ upd_same⟩⟩, (Ex.new hx') _ _ upd_same⟩
theorem any_end {A : Hp → Prop} {G : Hp → Prop} {Hf : Hp} (a : A Hf) (k : ∀ Hf, A Hf → G Hf) : G Hf := k Hf a
theorem mk2_at {H : Hp} {x d C : Addr} {f f2 : Str} {a b : V} (hx : H x = none) (hd : H d = none) (hne : d ≠ x) : Ex H (upd (upd H d (.xd [(f2, b), (f, a)])) x (exv x (.ref C) (some d))) ∧ ExAt (upd (upd H d (.xd [(f2, b), (f, a)])) x (exv x (.ref C) (some d))) x C (some d) ∧ (upd (upd H d (.xd [(f2, b), (f, a)])) x (exv x (.ref C) (some d))) d = some (.xd [(f2, b), (f, a)]) := by
  have hx' : (upd H d (.xd [(f2, b), (f, a)])) x = none := by
    rw [upd_ne (Ne.symm hne)]
    exact hx
  exact ⟨(Ex.new hd).trans (Ex.new hx'), ⟨upd_same, fun dx z => by cases z; exact ⟨_, (Ex.new hx') _ _ upd_same⟩⟩, (Ex.new hx') _ _ upd_same⟩
end Toy

namespace Dr
open PySem L2
def top (i : Nat) : Stmt := PySem.Challenge.pw_shortspans_k23_entries_checked.main.body.getD i (.Pass ⟨0, 0, 0, 0⟩)
abbrev sMixed : Stmt := top 70
abbrev sBegin : Stmt := top 71
abbrev sDraw : Stmt := top 72
abbrev sOf : Stmt := top 73
/-- the built-ins that the draws name -/
structure TxB (mg : Str → Option Value) : Prop where
  int : mg "int" = none
  len : mg "len" = none
  list : mg "list" = none
section
variable {P : Program} {w : World} {K : PySem.W.Frag} {mg : Str → Option Value} {base : Heap}
def spMixed : Sp := fun vs H Q _ => ∃ c k : Int, vs = [.int c, .int k] ∧ 0 ≤ k ∧ k < 2 ^ 40 ∧ ∀ r : Int, 0 ≤ r → r < 2147483629 → Q (.int r) H
theorem scMixed : FnScope ["cell", "k"] ["cell", "k"] (defScope sMixed) := ⟨rfl, rfl, rfl, by decide +kernel, rfl, by decide +kernel, by decide +kernel⟩
theorem ok_mixed {f : Addr} {fd : FuncData} (F : Fun K "_law_mixed" "_law_mixed" sMixed f fd) (T : TxB mg) : FnOk P w K mg base CX0 1 f fd ["cell", "k"] spMixed := by
  refine F.ok scMixed (fun vs H Q E h => ?_) (fun cdv A outer s H vs Q E hr h => ?_)
  · obtain ⟨c, k, rfl, _⟩ := h
    rfl
  · obtain ⟨c, k, rfl, h0, h1, q⟩ := h
    refine ⟨_, pss_cons (ps_set (i := 0) scMixed.nd rfl (.inl rfl) (pe_op op_mod (pe_callTy call_int1 (by rfl) T.int (by decide +kernel) (pa_cons (pv 0) pa_nil)) pe_int))
      (pss_one (ps_ret (pe_op op_mod (pe_op op_mul (pe_op op_mod (pe_op op_add (pe_op op_add (pe_op op_mul (pv 0) (pe_op op_add pe_int (pe_op op_mul (pe_op op_mul pe_int (pv 1)) (pv 1)))) (pe_op op_mul pe_int (pv 1))) pe_int) pe_int) pe_int) pe_int))), ?_⟩
    have e0 : (0 : Int) < 2147483647 := by decide
    have e1 : (0 : Int) < 2147483629 := by decide
    have a0 := Int.emod_nonneg c (Int.ne_of_gt e0)
    have a1 := Int.emod_lt_of_pos c e0
    refine ⟨_, rfl, .inl ⟨_, rfl, _, _, rfl, rfl, e0, ?_⟩⟩
    refine ⟨_, rfl, _, rfl, _, _, rfl, rfl, .inl ⟨by decide, by decide⟩, _, rfl, _, _, rfl, rfl, .inl ⟨by omega, by omega⟩, _, _, rfl, rfl, _, _, rfl, rfl, .inl ⟨by omega, by omega⟩, _, rfl, _, _, rfl, rfl, .inl ⟨by decide, by decide⟩, _, _, rfl, rfl, _, _, rfl, rfl, _, _, rfl, rfl, e0, _, _, rfl, rfl, .inl ⟨?_, ?_⟩, _, _, rfl, rfl, e1, ?_⟩
    · exact Int.lt_of_lt_of_le (by decide) (Int.emod_nonneg _ (Int.ne_of_gt e0))
    · exact Int.lt_trans (Int.emod_lt_of_pos _ e0) (by decide)
    · exact q _ (Int.emod_nonneg _ (Int.ne_of_gt e1)) (Int.emod_lt_of_pos _ e1)
end
end Dr
namespace Dr
open PySem L2
/-- the drawer's state: at p, its cells at c, what is left of the great ones at l; a draws were made -/
structure StAt (H : Hp) (p c l : Addr) (n : Nat) (a : Int) : Prop where
  d : H p = some (.dK [(Sum.inr "cells", .ref c), (Sum.inr "lefts", .ref l), (Sum.inr "at", .int a)])
  c : ∃ cs : List Int, H c = some (.lst (cs.map V.int)) ∧ cs.length = n
  l : ∃ ls : List Int, H l = some (.lst (ls.map V.int)) ∧ ls.length = n
  n0 : 0 < n
  n1 : n ≤ 63
  a0 : 0 ≤ a
theorem StAt.ne {H : Hp} {p c l : Addr} {n : Nat} {a : Int} (S : StAt H p c l n a) : p ≠ c ∧ p ≠ l := by
  obtain ⟨cs, hc, _⟩ := S.c
  obtain ⟨ls, hl, _⟩ := S.l
  exact ⟨ne_of S.d hc (by intro z; cases z), ne_of S.d hl (by intro z; cases z)⟩
/-- all that was tracked stands, but for the drawer's own dict and list -/
def SameB (H H' : Hp) (p l : Addr) : Prop := ∀ b o, H b = some o → b ≠ p → b ≠ l → H' b = some o
section
variable {P : Program} {w : World} {K : PySem.W.Frag} {mg : Str → Option Value} {base : Heap}
def spBegin (K : PySem.W.Frag) : Sp := fun vs H Q _ => ∃ (s : Addr) (ns : List Int), vs = [.ref s] ∧ SqL K H s (ns.map V.int) ∧ ns.length ≤ 63 ∧
  ∀ (p c l : Addr) (n : Nat) (H' : Hp), Same H H' → H p = none → H l = none → StAt H' p c l n 0 → l ≠ c → Q (.ref p) H'
theorem scBegin : FnScope ["script", "cells", "cell"] ["script"] (defScope sBegin) := ⟨rfl, rfl, rfl, by decide +kernel, rfl, by decide +kernel, by decide +kernel⟩
abbrev kC : Key := Sum.inr ("cells" : Str)
abbrev kL : Key := Sum.inr ("lefts" : Str)
abbrev kA : Key := Sum.inr ("at" : Str)
theorem k12 : ¬ kC = kL := by decide +kernel
theorem k13 : ¬ kC = kA := by decide +kernel
theorem k23 : ¬ kL = kA := by decide +kernel
abbrev dk3 (a b c : V) : List (Key × V) := [(kC, a), (kL, b), (kA, c)]
theorem merge3 (a b c : V) : mergeK [] (dk3 a b c) = dk3 a b c := by
  have d12 : decide (kC = kL) = false := decide_eq_false k12
  have d13 : decide (kC = kA) = false := decide_eq_false k13
  have d23 : decide (kL = kA) = false := decide_eq_false k23
  simp only [mergeK, List.foldl_cons, List.foldl_nil, putK, List.any_nil, Bool.false_eq_true, if_false, List.nil_append, List.any_cons, d12, d13, d23, Bool.or_false, List.cons_append]
theorem put_at (a b c z : V) : putK (dk3 a b c) kA z = dk3 a b z := by
  have d13 : decide (kC = kA) = false := decide_eq_false k13
  have d23 : decide (kL = kA) = false := decide_eq_false k23
  simp only [putK, List.any_cons, List.any_nil, d13, d23, Bool.false_or, Bool.or_false, decide_true, if_true, List.map_cons, List.map_nil, if_neg k13, if_neg k23]
theorem val_cells (a b c : V) : valV (dk3 a b c) kC = some a := valV_pos rfl
theorem val_lefts (a b c : V) : valV (dk3 a b c) kL = some b := (valV_neg k12).trans (valV_pos rfl)
theorem val_at (a b c : V) : valV (dk3 a b c) kA = some c := (valV_neg k13).trans ((valV_neg k23).trans (valV_pos rfl))
theorem lay_ints : ∀ ns : List Int, PyData.canLayAll0 (ns.map PyData.int) = true
  | [] => rfl
  | n :: ns => by
    simp only [List.map_cons, PyData.canLayAll0, PyData.canLay0, lay_ints ns, Bool.and_self]
theorem depth_ints : ∀ ns : List Int, PyData.depthAll (ns.map PyData.int) ≤ 1
  | [] => by simp [PyData.depthAll]
  | n :: ns => by
    have := depth_ints ns
    simp only [List.map_cons, PyData.depthAll, PyData.depth]
    omega
theorem shaped_ints (ns : List Int) : SeqAt.shaped (.list (ns.map PyData.int)) = true := by
  have h := depth_ints ns
  refine Bool.and_eq_true_iff.mpr ⟨?_, decide_eq_true ?_⟩
  · simpa only [PyData.canLay0] using lay_ints ns
  · simp only [PyData.depth]
    omega
theorem eqv_nil (ns : List Int) : PyData.eqv (.list (ns.map .int)) (.list []) = decide (ns = []) := by
  cases ns with
  | nil => simp [PyData.eqv, PyData.eqvAll]
  | cons n ns => simp [PyData.eqv, PyData.eqvAll]
theorem dpAll_ints {K : PySem.W.Frag} {H : Hp} : ∀ ns : List Int, DpAll K H (ns.map V.int) (ns.map PyData.int)
  | [] => .nil
  | n :: ns => .cons (.int n) (dpAll_ints ns)
theorem ok_begin {f : Addr} {fd : FuncData} (F : Fun K "_law_begin" "_law_begin" sBegin f fd) (T : TxB mg) : FnOk P w K mg base CX0 1 f fd ["script"] (spBegin K) := by
  refine F.ok scBegin (fun vs H Q E h => ?_) (fun cdv A outer s H vs Q E hr h => ?_)
  · obtain ⟨s, ns, rfl, _⟩ := h
    rfl
  · obtain ⟨sc, ns, rfl, hS, hlen, q⟩ := h
    refine ⟨_, pss_cons (ps_set (i := 1) scBegin.nd rfl (.inl rfl) (pe_ifExp (pt_cmpR (op_neD hr.units) (pv 0) (pe_lst pa_nil) (nomark _)) (pe_callTy call_list_of (by rfl) T.list (by decide +kernel) (pa_cons (pv 0) pa_nil)) (pe_lst (pa_cons pe_int pa_nil))))
      (pss_one (ps_ret (pe_disp (pps_cons pe_str (pv 1) (pps_cons pe_str (pe_lc (own := [("cell", 2)]) (g := gName 2) (tt := tYes) rfl scBegin.nd (pi_list (pv 1)) (blkOk_by (N := ["script", "cells", "cell"]) (sc := defScope sBegin) (by decide +kernel))
        (fun _ _ _ _ _ => pg_name (i := 2) scBegin.nd rfl (Or.inl rfl)) (fun _ _ _ _ _ => pts_nil) (fun _ _ _ _ _ => pe_ifExp (pt_cmpR op_ge (pv 2) (pe_op op_pow pe_int pe_int) (nomark _)) (pv 2) pe_int)) (pps_cons pe_str pe_int pps_nil))) (by rfl) (by rfl) (fun z => by cases z) (by decide)))), ?_⟩
    refine ⟨_, rfl, (by show (0:Nat) ≤ sizeLine; rw [sizeLine_eq]; omega), fun p0 np0 => ?_⟩
    refine ⟨.list (ns.map .int), .list [], .lst ((Same.seq (fun b o e => by rw [upd_ne (ne_of_none e np0)]; exact e) hS)) (dpAll_ints ns), .lst (SqL.of upd_same) .nil, shaped_ints ns, by decide +kernel, ?_⟩
    rw [eqv_nil]
    have sp0 : Same H (upd H p0 (.lst [])) := fun b o e => by
      rw [upd_ne (ne_of_none e np0)]
      exact e
    have sel : ∃ b : Bool, (!decide (ns = [])) = b ∧ ∀ G : Addr → Hp → Prop, (∀ (c : Addr) (H1 : Hp) (xs : List Int), xs ≠ [] → xs.length ≤ 63 → Same H H1 → H1 c = some (.lst (xs.map V.int)) → G c H1) →
        (b = true → ∀ c, (upd H p0 (.lst [])) c = none → G c (upd (upd H p0 (.lst [])) c (.lst (ns.map V.int)))) ∧ (b = false → ∀ c, (upd H p0 (.lst [])) c = none → G c (upd (upd H p0 (.lst [])) c (.lst [V.int 0]))) := by
      refine ⟨_, rfl, fun G g => ⟨fun hb c nc => ?_, fun hb c nc => ?_⟩⟩
      · refine g c _ ns (fun z => by rw [decide_eq_true z] at hb; cases hb) hlen (fun b o e => ?_) upd_same
        rw [upd_ne (ne_of_none e (sp0.free nc))]
        exact sp0 b o e
      · refine g c _ [0] (by simp) (by decide) (fun b o e => ?_) upd_same
        rw [upd_ne (ne_of_none e (sp0.free nc))]
        exact sp0 b o e
    obtain ⟨b, hb, sel⟩ := sel
    refine ⟨b, by rw [hb], ?_⟩
    have fin : ∀ (c : Addr) (H1 : Hp) (xs : List Int), xs ≠ [] → xs.length ≤ 63 → Same H H1 → H1 c = some (.lst (xs.map V.int)) → (fun (x : V) (H1 : Hp) =>
      gName 1 x (L2.start ["script", "cells", "cell"] [V.ref sc]) H1
        ({ nx := tRet (tDisp [(tC (V.str "cells"), tVar 1), (tC (V.str "lefts"), tLc (iList K (tVar 1)) (gName 2) tYes
                        (tIf (tTest (tOp (rI0 fun i j => V.bl (decide (j ≤ i))) (tVar 2) (tOp (rI CPow fun i j => V.int (i ^ j.toNat)) (tC (V.int 10)) (tC (V.int 18))))) (tVar 2) (tC (V.int 0)))
                        (List.map (fun x => x.2) ([(("cell" : Str), 2)] : List (Str × Nat)))), (tC (V.str "at"), tC (V.int 0))]) { nx := fun x H' => Q V.non H', rt := Q }, rt := Q } : Ends).nx) (V.ref c) H1 := by
      intro c H1 xs hx hl s1 hc
      show ∀ p, H1 p = none → _
      intro p np
      have npc : c ≠ p := ne_of_none hc np
      have sp : Same H1 (upd H1 p (.dK [])) := fun b o e => by
        rw [upd_ne (ne_of_none e np)]
        exact e
      refine ⟨_, rfl, _, rfl, c, rfl, ⟨_, SqL.of (sp _ _ hc)⟩, fun D nD => lc_list (K := K) (a := c) (xs := xs.map V.int) (fun i H2 => ∃ ls : List Int, H2 D = some (.lst (ls.map V.int)) ∧ ls.length = i ∧ Same (upd H1 p (.dK [])) H2) ?_ ?_ ?_ ?_⟩
      · exact ⟨[], upd_same, rfl, fun b o e => by rw [upd_ne (ne_of_none e nD)]; exact e⟩
      · rintro i H2 _ ⟨ls, _, _, s2⟩
        exact SqL.of (s2 _ _ (sp _ _ hc))
      · rintro i x H2 hi ⟨ls, hD, hn, s2⟩
        rw [List.getElem?_map] at hi
        obtain ⟨z, hz, rfl⟩ := Option.map_eq_some_iff.mp hi
        have hlt : i < xs.length := (List.getElem?_eq_some_iff.mp hz).1
        have stp : ∀ y : Int, ∃ acc, H2 D = some (.lst acc) ∧ acc.length < sizeLine ∧ ∃ ls : List Int, (upd H2 D (.lst (acc ++ [V.int y]))) D = some (.lst (ls.map V.int)) ∧ ls.length = i + 1 ∧ Same (upd H1 p (.dK [])) (upd H2 D (.lst (acc ++ [V.int y]))) := fun y =>
          ⟨_, hD, by rw [List.length_map, sizeLine_eq]; omega, ls ++ [y], by rw [upd_same, List.map_append]; rfl, by rw [List.length_append, hn]; rfl, fun b o e => by rw [upd_ne (ne_of_none e nD)]; exact s2 b o e⟩
        refine ⟨rfl, ?_⟩
        rw [show (tYes : TT) = fun _ H Q => Q true H from rfl]
        dsimp only
        rw [if_pos rfl]
        refine ⟨_, rfl, _, _, rfl, rfl, ⟨by decide, by decide, by decide⟩, _, _, rfl, rfl, _, rfl, ?_⟩
        refine ite2 (fun _ => ?_) (fun _ => ?_)
        · exact ⟨_, rfl, stp z⟩
        · exact stp 0
      · rintro H2 ⟨ls, hD, hn, s2⟩
        rw [List.length_map] at hn
        have hp2 : H2 p = some (.dK []) := s2 _ _ upd_same
        have npD : D ≠ p := fun z => by
          rw [z, upd_same] at nD
          cases nD
        have ncD : D ≠ c := fun z => by
          rw [z, upd_ne npc, hc] at nD
          cases nD
        refine ⟨hp2, [(Sum.inr "cells", .ref c), (Sum.inr "lefts", .ref D), (Sum.inr "at", .int 0)], rfl, by show 3 ≤ 15; decide, ?_⟩
        have nDH : H D = none := by
          rw [upd_ne npD] at nD
          exact s1.free nD
        have hm := merge3 (V.ref c) (V.ref D) (V.int 0)
        refine q p c D xs.length _ (fun b o e => ?_) (s1.free np) nDH ⟨by rw [upd_same, hm], ⟨xs, by rw [upd_ne npc]; exact s2 _ _ (sp _ _ hc), rfl⟩, ⟨ls, by rw [upd_ne npD]; exact hD, hn⟩, List.length_pos_iff.mpr hx, hl, Int.le_refl 0⟩ ncD
        rw [upd_ne (ne_of_none e (s1.free np))]
        exact s2 _ _ (sp _ _ (s1 _ _ e))
    cases b with
    | true => exact iteT ⟨_, rfl, sc, _, rfl, .inl (Same.seq sp0 hS), fun c nc => (sel _ fin).1 rfl c nc⟩
    | false => exact iteF ⟨by show 1 ≤ sizeLine; rw [sizeLine_eq]; omega, fun c nc => (sel _ fin).2 rfl c nc⟩
end
end Dr
namespace Dr
open PySem L2
structure TxD (K : PySem.W.Frag) (mg : Str → Option Value) (fm : Addr) : Prop extends TxB mg where
  mixed : mg "_law_mixed" = some (.ref fm)
  kMixed : PySem.W.keepIn K (.ref fm) = true
section
variable {P : Program} {w : World} {K : PySem.W.Frag} {mg : Str → Option Value} {base : Heap}
def spDraw : Sp := fun vs H Q _ => ∃ (p c l : Addr) (n : Nat) (a m : Int), vs = [.ref p, .int m] ∧ StAt H p c l n a ∧ l ≠ c ∧ a < 2 ^ 39 ∧ 0 < m ∧ m < 1073741824 ∧
  ∀ (r : Int) (H' : Hp), 0 ≤ r → r < m → StAt H' p c l n (a + 1) → SameB H H' p l → (∀ b, H b = none → H' b = none) → Q (.int r) H'
theorem scDraw : FnScope ["state", "many", "at", "place", "left", "number"] ["state", "many"] (defScope sDraw) := ⟨rfl, rfl, rfl, by decide +kernel, rfl, by decide +kernel, by decide +kernel⟩
theorem ok_draw {f fm : Addr} {fd fdm : FuncData} (F : Fun K "_law_draw" "_law_draw" sDraw f fd) (FM : Fun K "_law_mixed" "_law_mixed" sMixed fm fdm) (bM : Binds K fdm ["cell", "k"] []) (T : TxD K mg fm) : FnOk P w K mg base CX0 2 f fd ["state", "many"] spDraw := by
  have GM : FnOk P w K mg base CX0 1 fm fdm ["cell", "k"] spMixed := ok_mixed FM T.toTxB
  refine F.ok scDraw (fun vs H Q E h => ?_) (fun cdv A outer s H vs Q E hr h => ?_)
  · obtain ⟨p, c, l, n, a, m, rfl, _⟩ := h
    rfl
  · obtain ⟨p, c, l, n, a, m, rfl, S, nlc, ha, m0, m1, q⟩ := h
    have hu := hu_of hr
    have hix : ∀ {X : Cx}, X.A.units + 1 < cLine → X.A.units + 1 < cLine := fun h => h
    refine ⟨_, pss_cons (ps_set (i := 2) scDraw.nd rfl (.inl rfl) (pe_dget hu (pv 0) pe_str (fun _ _ => rfl)))
      (pss_cons (ps_dput hu (pv 0) pe_str (pe_op op_add (pv 2) pe_int) rfl)
      (pss_cons (ps_set (i := 3) scDraw.nd rfl (.inl rfl) (pe_op op_mod (pe_callTy call_int1 (by rfl) T.int (by decide +kernel) (pa_cons (pv 2) pa_nil)) (pe_callB call_len_seq (by rfl) T.len (by decide +kernel) (pa_cons (pe_dget hu (pv 0) pe_str (fun _ _ => rfl)) pa_nil))))
      (pss_cons (ps_set (i := 4) scDraw.nd rfl (.inl rfl) (pe_ix ix_list (pe_dget hu (pv 0) pe_str (fun _ _ => rfl)) (pv 3) (fun _ _ => rfl)))
      (pss_cons (ps_if (pt_cmpR op_gt (pv 4) pe_int (nomark _))
        (pss_cons (ps_asg (pe_op op_fdiv (pv 4) (pv 1)) (pg_sub (pe_dget hu (pv 0) pe_str (fun _ _ => rfl)) (pv 3) set_list))
          (pss_one (ps_ret (pe_op op_mod (pe_callTy call_int1 (by rfl) T.int (by decide +kernel) (pa_cons (pv 4) pa_nil)) (pv 1))))) pss_nil)
      (pss_cons (ps_set (i := 5) scDraw.nd rfl (.inl rfl) (pe_call GM hr (by rfl) T.mixed T.kMixed bM .nil pass0 (pa_cons (pe_call GM hr (by rfl) T.mixed T.kMixed bM .nil pass0 (pa_cons (pe_ix ix_list (pe_dget hu (pv 0) pe_str (fun _ _ => rfl)) (pv 3) (fun _ _ => rfl)) (pa_cons (pv 2) pa_nil))) (pa_cons (pe_op op_add pe_int (pv 2)) pa_nil))))
      (pss_one (ps_ret (pe_op op_mod (pe_op op_fdiv (pe_callTy call_int1 (by rfl) T.int (by decide +kernel) (pa_cons (pe_op op_add (pe_op op_mul (pv 5) pe_int) (pe_call GM hr (by rfl) T.mixed T.kMixed bM .nil pass0 (pa_cons (pv 5) (pa_cons (pe_op op_add pe_int (pv 2)) pa_nil)))) pa_nil)) pe_int) (pv 1))))))))), ?_⟩
    obtain ⟨cs, hc, hcn⟩ := S.c
    obtain ⟨ls, hl, hln⟩ := S.l
    obtain ⟨npc, npl⟩ := S.ne
    have n0 := S.n0
    have a0 := S.a0
    refine ⟨_, rfl, p, _, rfl, DGet.k (k := kA) S.d, ?_⟩
    -- state['at'] = at + 1
    obtain ⟨H1, eH1⟩ : ∃ H1, H1 = upd H p (.dK (dk3 (.ref c) (.ref l) (.int (a + 1)))) := ⟨_, rfl⟩
    have dp : DPut H p (kV kA) (.int (a + 1)) H1 := by
      rw [eH1, ← put_at (.ref c) (.ref l) (.int a)]
      exact DPut.k (k := kA) S.d (by show 3 < sizeLine; rw [PySem.sizeLine_eq]; omega)
    refine ⟨_, rfl, _, _, rfl, rfl, _, rfl, p, H1, rfl, dp, ?_⟩
    have hp1 : H1 p = some (.dK (dk3 (.ref c) (.ref l) (.int (a + 1)))) := by rw [eH1, upd_same]
    have hc1 : H1 c = some (.lst (cs.map V.int)) := by rw [eH1, upd_ne npc.symm]; exact hc
    have hl1 : H1 l = some (.lst (ls.map V.int)) := by rw [eH1, upd_ne npl.symm]; exact hl
    have sb1 : SameB H H1 p l := fun b o e h1 h2 => by rw [eH1, upd_ne h1]; exact e
    have nn1 : ∀ b, H b = none → H1 b = none := fun b e => by
      rw [eH1, upd_ne (fun z => by rw [z, S.d] at e; cases e)]
      exact e
    -- spot
    have np : (0 : Int) < ((cs.map V.int).length : Int) := by rw [List.length_map, hcn]; omega
    refine ⟨_, rfl, .inl ⟨_, rfl, _, rfl, p, _, rfl, DGet.k (k := kC) hp1, c, _, rfl, .inl (SqL.of hc1), _, _, rfl, rfl, np, ?_⟩⟩
    have eN : ((cs.map V.int).length : Int) = (n : Int) := by rw [List.length_map, hcn]
    rw [eN]
    obtain ⟨k, hk, hkn⟩ : ∃ k : Nat, a % (n : Int) = (k : Int) ∧ k < n := by
      have h1 := Int.emod_nonneg a (show (n : Int) ≠ 0 by omega)
      have h2 := Int.emod_lt_of_pos a (show (0 : Int) < n by omega)
      exact ⟨(a % n).toNat, by omega, by omega⟩
    rw [show ((fun i j : Int => V.int (i % j)) a (n : Int)) = V.int (k : Int) from congrArg V.int hk]
    obtain ⟨x, hx⟩ : ∃ x, ls[k]? = some x := ⟨ls[k]'(by omega), by simp [show k < ls.length by omega]⟩
    obtain ⟨y, hy⟩ : ∃ y, cs[k]? = some y := ⟨cs[k]'(by omega), by simp [show k < cs.length by omega]⟩
    have hx' : (ls.map V.int)[k]? = some (V.int x) := by rw [List.getElem?_map, hx]; rfl
    have hy' : (cs.map V.int)[k]? = some (V.int y) := by rw [List.getElem?_map, hy]; rfl
    refine ⟨_, rfl, p, _, rfl, DGet.k (k := kL) hp1, _, rfl, l, _, _, _, rfl, rfl, SqL.of hl1, atI_nat hx', ?_⟩
    refine ⟨_, rfl, _, _, rfl, rfl, _, rfl, ?_⟩
    refine ite2 (fun _ => ?_) (fun _ => ?_)
    · -- a great one is used up
      refine ⟨_, rfl, _, rfl, _, _, rfl, rfl, ⟨m0, m1⟩, _, rfl, p, _, rfl, DGet.k (k := kL) hp1, _, rfl, l, _, _, k, rfl, rfl, hl1, ?_, ?_⟩
      · unfold ixN
        rw [if_pos (by omega), if_pos (by rw [List.length_map]; omega)]
        simp
      refine ⟨_, rfl, .inl ⟨_, rfl, _, rfl, _, _, rfl, rfl, m0, ?_⟩⟩
      refine q _ _ (Int.emod_nonneg _ (by omega)) (Int.emod_lt_of_pos _ m0) ⟨?_, ⟨cs, ?_, hcn⟩, ⟨ls.set k (x / m), ?_, by rw [List.length_set]; exact hln⟩, n0, S.n1, by omega⟩ (fun b o e h1 h2 => ?_) fun b e => ?_
      · rw [upd_ne npl]; exact hp1
      · rw [upd_ne nlc.symm]; exact hc1
      · rw [upd_same, List.map_set]
      · rw [upd_ne h2]; exact sb1 b o e h1 h2
      · rw [upd_ne (fun z => by rw [z, hl] at e; cases e)]; exact nn1 b e
    · -- number
      have r0 : ∀ {z : Int}, 0 ≤ z → z < 2147483629 → -(2 ^ 64) < z ∧ z < 2 ^ 64 := fun {z} h1 h2 => ⟨by omega, by omega⟩
      refine ⟨_, rfl, p, _, rfl, DGet.k (k := kC) hp1, _, rfl, c, _, _, _, rfl, rfl, SqL.of hc1, atI_nat hy', _, rfl, y, a, rfl, a0, by omega, fun z1 z10 z11 => ?_⟩
      refine ⟨_, rfl, _, _, rfl, rfl, z1, 40 + a, rfl, by omega, by omega, fun z2 z20 z21 => ?_⟩
      refine ⟨_, rfl, _, _, rfl, rfl, .inl (r0 z20 z21), _, rfl, _, rfl, _, _, rfl, rfl, z2, 7 + a, rfl, by omega, by omega, fun z3 z30 z31 => ?_⟩
      refine ⟨_, _, rfl, rfl, .inl ⟨_, rfl, _, _, rfl, rfl, ⟨by decide, by decide⟩, _, rfl, _, _, rfl, rfl, m0, ?_⟩⟩
      exact q _ _ (Int.emod_nonneg _ (by omega)) (Int.emod_lt_of_pos _ m0) ⟨hp1, ⟨cs, hc1, hcn⟩, ⟨ls, hl1, hln⟩, n0, S.n1, by omega⟩ sb1 nn1
end
end Dr
namespace Dr
open PySem L2
structure TxO (K : PySem.W.Frag) (mg : Str → Option Value) (fm fdr : Addr) : Prop extends TxD K mg fm where
  draw : mg "_law_draw" = some (.ref fdr)
  kDraw : PySem.W.keepIn K (.ref fdr) = true
section
variable {P : Program} {w : World} {K : PySem.W.Frag} {mg : Str → Option Value} {base : Heap}
def spOf : Sp := fun vs H Q _ => ∃ (p c l so : Addr) (n : Nat) (a : Int) (xs : List V), vs = [.ref p, .ref so] ∧ StAt H p c l n a ∧ l ≠ c ∧ a < 2 ^ 39 ∧ H so = some (.lst xs) ∧ so ≠ p ∧ so ≠ l ∧ 0 < xs.length ∧ xs.length < 1073741824 ∧
  ∀ (i : Nat) (v : V) (H' : Hp), xs[i]? = some v → StAt H' p c l n (a + 1) → SameB H H' p l → (∀ b, H b = none → H' b = none) → Q v H'
theorem scOf : FnScope ["state", "some"] ["state", "some"] (defScope sOf) := ⟨rfl, rfl, rfl, by decide +kernel, rfl, by decide +kernel, by decide +kernel⟩
theorem ok_of {f fm fdr : Addr} {fd fdm fdd : FuncData} (F : Fun K "_law_of" "_law_of" sOf f fd) (GD : FnOk P w K mg base CX0 2 fdr fdd ["state", "many"] spDraw) (bD : Binds K fdd ["state", "many"] []) (T : TxO K mg fm fdr) : FnOk P w K mg base CX0 3 f fd ["state", "some"] spOf := by
  refine F.ok scOf (fun vs H Q E h => ?_) (fun cdv A outer s H vs Q E hr h => ?_)
  · obtain ⟨p, c, l, so, n, a, xs, rfl, _⟩ := h
    rfl
  · obtain ⟨p, c, l, so, n, a, xs, rfl, S, nlc, ha, hso, n1, n2, x0, x1, q⟩ := h
    refine ⟨_, pss_one (ps_ret (pe_ix ix_list (pv 1) (pe_call GD hr (by rfl) T.draw T.kDraw bD .nil pass0 (pa_cons (pv 0) (pa_cons (pe_callB call_len_seq (by rfl) T.len (by decide +kernel) (pa_cons (pv 1) pa_nil)) pa_nil))) (fun _ _ => rfl))), ?_⟩
    refine ⟨_, rfl, _, rfl, _, rfl, so, _, rfl, .inl (SqL.of hso), p, c, l, n, a, _, rfl, S, nlc, ha, by omega, by omega, fun r H' r0 r1 S' sb nn => ?_⟩
    obtain ⟨k, hk⟩ : ∃ k : Nat, r = (k : Int) := ⟨r.toNat, by omega⟩
    subst hk
    obtain ⟨v, hv⟩ : ∃ v, xs[k]? = some v := ⟨xs[k]'(by omega), by simp [show k < xs.length by omega]⟩
    exact ⟨so, xs, k, v, rfl, rfl, SqL.of (sb so _ hso n1 n2), atI_nat hv, q k v H' hv S' sb nn⟩
end
end Dr
namespace Dr
open PySem L2 Evl
theorem StAt.ex {H H' : Hp} {p c l : Addr} {n : Nat} {a : Int} (S : StAt H p c l n a) (e : Ex H H') : StAt H' p c l n a :=
  ⟨e _ _ S.d, let ⟨cs, h, k⟩ := S.c; ⟨cs, e _ _ h, k⟩, let ⟨ls, h, k⟩ := S.l; ⟨ls, e _ _ h, k⟩, S.n0, S.n1, S.a0⟩
end Dr

/-! f(lambda: e) and f(lambda at=0: e), f a def that keeps what the lambda raises. -/
namespace LamR
open PySem PySem.Spec PyProof.Rows L2 LamX
open PySem.W (kdv_obj kdv_fn kdv_tup)
/-- a lambda's names: captured ones, globals, and names of its own that the def around has not -/
structure LamN (sc scope : Scope) (N : List Str) : Prop where
  kind : scope.kind = .function
  co : scope.isCoroutine = false
  gen : scope.isGenerator = false
  cell : ∀ y ∈ scope.names, y.2 ≠ .cell
  own : ∀ y ∈ scope.names, y.2 = .local → y.1 ∉ N
  free : ∀ y ∈ scope.names, y.2 = .free → sc.names.lookup y.1 = some .cell ∨ sc.names.lookup y.1 = some .free
def lamNB (sc scope : Scope) (N : List Str) : Bool :=
  decide (scope.kind = .function) && (!scope.isCoroutine && (!scope.isGenerator && ((scope.names.all fun y => !decide (y.2 = .cell)) && ((scope.names.all fun y => !decide (y.2 = .local) || !N.contains y.1) &&
    (scope.names.all fun y => !decide (y.2 = .free) || (decide (sc.names.lookup y.1 = some .cell) || decide (sc.names.lookup y.1 = some .free)))))))
theorem lamN_by {sc scope : Scope} {N : List Str} (h : lamNB sc scope N = true) : LamN sc scope N := by
  unfold lamNB at h
  simp only [Bool.and_eq_true, Bool.or_eq_true, Bool.not_eq_true', decide_eq_true_eq, decide_eq_false_iff_not, List.all_eq_true] at h
  obtain ⟨h1, h2, h3, h4, h5, h6⟩ := h
  refine ⟨h1, h2, h3, h4, fun y hy e => ?_, fun y hy e => ?_⟩
  · rcases h5 y hy with z | z
    · exact absurd e z
    · simpa using z
  · rcases h6 y hy with z | z
    · exact absurd e z
    · exact z
theorem LamN.has {X : Cx} {scope : Scope} {N : List Str} (L : LamN X.env.scope scope N) (ok : X.Ok) : ∀ y ∈ scope.names, y.2 = .free → ∃ c, X.env.cells.lookup y.1 = some c := fun y hy e => by
  rcases L.free y hy e with k | k
  · exact ok.has _ (.inl k)
  · exact ok.has _ (.inr k)
section
variable {X : Cx} {pins : List (Addr × Obj)} {σ : L2.St} {H HZ : Hp} {s s1 : Shared}
theorem lam_startR {A : Around} {outer : List Env} {E : XK} {scope : Scope} {f c' : Addr} {h₁ : Heap} {tk : Nat} {mL : Str → Option Value} (I : Inv X pins σ H s) (L : LamN X.env.scope scope X.N) (e0 : Env0 X.prog X.w X.K X.mg X.base A outer s1 HZ) (hd : A.handled = none)
    (un : Un (frs X.stack) [] H HZ s.heap s1.heap) (hns : h₁.Ns s1.heap.objs.size mL) (kp : ∀ b o, s1.heap.get? b = some o → h₁.get? b = some o) :
    Inv (lamCx X A outer s1 HZ E scope f c') [] σ HZ { s1 with heap := h₁, toks := tk } := by
  have hfree := L.has I.ok
  have cm : ∀ {y c}, (cloFrom X.env.cells scope.names []).lookup y = some c → X.env.cells.lookup y = some c := fun {y c} e => by
    rcases cloFrom_mem (PySem.mem_of_lookup e) with hm | ⟨h1, h2⟩
    · exact absurd hm (by simp)
    · obtain ⟨c1, hc⟩ := hfree _ h1 rfl
      have hc : X.env.cells.lookup y = some c1 := hc
      have e2 : c = c1 := by
        rw [h2, hc] <;> rfl
      rw [e2, hc]
  have look : ∀ {y}, scope.names.lookup y = some .free → ∃ c, (cloFrom X.env.cells scope.names []).lookup y = some c := fun {y} hl =>
    mem_lookup (cloFrom_has (cells := X.env.cells) (acc := []) (show (y, NameKind.free) ∈ scope.names from PySem.mem_of_lookup hl))
  have cellK : ∀ {c : Addr} {v : Option Value}, H c = none → s.heap.IsCell c v → h₁.IsCell c v := fun {c v} n ⟨o, ho, hd⟩ =>
    let ⟨_, q⟩ := un.any ho n (by simp)
    ⟨_, kp _ _ q, hd⟩
  have noA : ∀ b : Addr, b ∉ (lamCx X A outer s1 HZ E scope f c').ex := fun b z => absurd (show b ∈ ([] : List Addr) from z) (by simp)
  have visC : ∀ {y}, scope.names.lookup y ≠ some .cell := fun {y} k => L.cell _ (PySem.mem_of_lookup k) rfl
  refine ⟨⟨e0.mod, L.kind, rfl, rfl, Nat.le_refl _, fun y z c e1 e2 => I.ok.inj y z c (cm e1) (cm e2), fun y hy => ?_, fun y c z _ => Bool.noConfusion (show false = true from z), fun _ => hd, Around.frames_deeper e0.frames, .inr ⟨rfl, rfl⟩, fun b z => absurd z (noA b), e0.bs, e0.bsz, fun b _ _ => noA b,
      fun b z => absurd z (noA b), e0.funs, e0.frf⟩,
    rfl, e0.bare, Un.kept kp, ⟨_, hns, fun i y v e1 e2 e3 => ?_⟩, fun y c e => ?_, e0.hok.fresh (Nat.le_refl _), fun y c e => ?_, fun q hq => absurd (show q ∈ ([] : List (Addr × Obj)) from hq) (by simp), e0.hok.kept kp, I.len⟩
  · have hy : scope.names.lookup y = some .cell ∨ scope.names.lookup y = some .free := hy
    rcases hy with hy | hy
    · exact absurd hy visC
    · exact look hy
  · have e3 : Vis scope y := e3
    rcases e3 with k | k | k
    · exact absurd (List.mem_of_getElem? e1) (L.own _ (PySem.mem_of_lookup k) rfl)
    · exact absurd k visC
    · obtain ⟨m, hn, hl⟩ := I.loc
      obtain ⟨w', r, q⟩ := hl i y v e1 e2 (.inr (L.free _ (PySem.mem_of_lookup k) rfl))
      obtain ⟨c2, h2⟩ := look k
      refine ⟨w', r, .inr ⟨.inr k, c2, h2, ?_⟩⟩
      have c1 := cm h2
      rcases q with ⟨k', _⟩ | ⟨_, c3, e', z⟩
      · have k' : X.env.scope.names.lookup y = some .local := k'
        rcases L.free _ (PySem.mem_of_lookup k) rfl with k2 | k2 <;> rw [show X.env.scope.names.lookup y = _ from k2] at k' <;> cases k'
      · rw [c1] at e'
        cases e'
        exact cellK (I.freeC y _ c1) z
  · obtain ⟨w', z⟩ := I.cell y c (cm e)
    exact ⟨w', cellK (I.freeC y c (cm e)) z⟩
  · obtain ⟨v, o, ho, hd⟩ := I.cell y c (cm e)
    exact un.free c o ho (I.freeC y c (cm e)) (by simp)
/-- x(), in the def that got the lambda; what it raises is what that def's own wish takes, at its names as they are -/
theorem pe_actR {CXg : CXT} {Eg : XK} {Ng : List Str} {qg : Str} {sg : Scope} {g f c' : Addr} {cdg dV doc pm ctv : Value} {params : Arguments} {body : Expr} {scope : Scope} {k i : Nat} {a : Str} {pn : List (Addr × Obj)} {xe : Value → Shared → Prop} {W : WX} {tb : XK → TE} {p1 p2 : Pos} {binds : List (Str × Value)}
    (I : Inv X pins σ H s) (L : LamN X.env.scope scope X.N) (hf : s.heap.get? f = some (kdv_obj "<lambda>" (X.env.qual ++ "<lambda>") params (.expr body) scope (cloFrom X.env.cells scope.names []) dV doc pm c' ctv)) (hfn : H f = none) (hfr : f ∉ frs X.stack)
    (hbind : ∀ s1 : Shared, (∀ b o, s.heap.get? b = some o → H b = none → b ∉ frs X.stack → s1.heap.get? b = some o) → BindsTo s1 (kdv_fn "<lambda>" (X.env.qual ++ "<lambda>") params (.expr body) scope (cloFrom X.env.cells scope.names []) dV doc pm (.ref c') ctv) ⟨[], []⟩ binds)
    (hloc : ∀ y ∈ binds, scope.names.lookup y.1 = some .local)
    (tk : Takes ((cxOf CXg X.prog X.w X.K X.mg X.base Ng qg sg g cdg X.A X.stack s H Eg).tr pn xe) W) (hr : Room (k + 1) (X.A.deeper (envOfC qg sg s.heap.objs.size g cdg)))
    (hbody : ∀ (A : Around) (outer : List Env) (s : Shared) (H : Hp) (E : XK), Room k (A.deeper (lamEnv X scope s.heap.objs.size f c')) → PE (lamCx X A outer s H E scope f c') body (tb E))
    (hN : Ng[i]? = some a) (hv : Vis sg a) (hd : (a == ("__debug__" : Str)) = false := by decide) (hcd : (a == ("__classdict__" : Str)) = false := by decide) :
    PE ((cxOf CXg X.prog X.w X.K X.mg X.base Ng qg sg g cdg X.A X.stack s H Eg).tr pn xe) (.Call (.Name a p1) [] [] p2)
      (fun σZ HZ Q => σZ[i]? = some (some (.ref f)) ∧ HZ c' = some (CodeO c' (X.env.qual ++ "<lambda>")) ∧ ∃ (E : XK) (Q' : VK), (∀ cls d H', E cls d H' → W cls d σZ H') ∧ (∀ v H', Q' v H' → Q v H') ∧ tb E σ HZ Q') := by
  refine ⟨fun pinsZ sZ σZ HZ Q IZ h => ?_⟩
  obtain ⟨hs, hc, E, Q', hW, hQ, ht⟩ := h
  refine wpAny_Call_Name_kw (thn ((pe_var (pos := p1) (i := i) hN hv hd hcd).run pinsZ sZ σZ HZ (fun v H1 => v = .ref f ∧ H1 = HZ) IZ ⟨.ref f, hs, rfl, rfl⟩) fun u s1 ⟨v, H1, I1, r1, ev, eH⟩ => ?_)
  subst ev
  rw [eH] at I1
  obtain rfl : u = Value.ref f := r1
  have un : Un (frs X.stack) [] H HZ s.heap s1.heap := I1.base
  have keep : ∀ b o, s.heap.get? b = some o → H b = none → b ∉ frs X.stack → s1.heap.get? b = some o := fun b o e n nf => un.keep b o e n nf (fun z => absurd (show b ∈ ([] : List Addr) from z) (by simp))
  have of1 := keep f _ hf hfn hfr
  refine PySem.W.callWith_F0 ⟨_, _, _, _, of1⟩ ?_
  obtain ⟨⟨oc, vs, t, hoc, hdc, hvc⟩, _, _⟩ := I1.hok c' _ hc
  have rc : codeAny (model X.prog X.w) (X.A.deeper (envOfC qg sg s.heap.objs.size g cdg)) (.call (.ref f) ⟨[], []⟩) (CR (L2.CX X.prog X.w) (envOfC qg sg s.heap.objs.size g cdg :: X.stack) X.prog X.w HZ s1 Q E) s1 := by
    refine PySem.W.kla_callFunE hr.depth of1 rfl L.co L.gen rfl ⟨c', oc, vs, t, rfl, hoc, hdc, hvc⟩ (hbind s1 keep _ _ _ _ ?_)
    refine wpAny_newFunctionEnv L.cell hloc (fun h₁ hns hsb => ⟨I1.nolimit.fresh _ hsb, ?_⟩) L.kind
    show codeAny _ _ (.expr body (lamEnv X scope s1.heap.objs.size f c')) _ _
    have kp : ∀ b o, s1.heap.get? b = some o → h₁.get? b = some o := fun b o e => hsb.extBut b o (Nat.ne_of_lt (Heap.lt_size e)) (Heap.get?_push_of_some _ e)
    have J : Inv (lamCx X (X.A.deeper (envOfC qg sg s.heap.objs.size g cdg)) (envOfC qg sg s.heap.objs.size g cdg :: X.stack) s1 HZ E scope f c') [] σ HZ { s1 with heap := h₁, toks := s1.toks + binds.length } :=
      lam_startR I L I1.env0 hr.hd un hns kp
    exact PySem.W.kla_codeExpr (wpAny_mono ((hbody _ _ s1 HZ E (hr.deeper _)).run [] _ _ HZ Q' J ht) (fun v s' ⟨w', H', J', rv, q⟩ => ⟨w', H', J'.os, J'.bare, J'.base, J'.hok, rv, hQ _ _ q⟩) fun e s' hq => hq)
  refine wpAny_call (codeAny_mono rc fun r s' hq => ?_)
  cases r with
  | error e => exact tk e s' (XE.of_call I1 hW hq)
  | ok fl =>
    cases fl with
    | ret u => exact I1.after hq
    | next => exact False.elim hq
    | brk => exact False.elim hq
    | cont => exact False.elim hq
end
end LamR

namespace LamR
open PySem PySem.Spec PyProof.Rows L2 LamX
open PySem.W (kdv_obj kdv_fn kdv_tup)
section
variable {X : Cx} {pins : List (Addr × Obj)} {σ : L2.St} {H : Hp} {s : Shared}
/-- the lambda with one int as a default is made -/
theorem lam_makeD {T : List (Addr × Str)} {c P : Addr} {params : Arguments} {body : Expr} {scope : Scope} {pos cp : Pos} {j : Nat} {n : Int} {E : Value → Shared → Prop} {Q : Value → Shared → Prop} (I : Inv X pins σ H s) (TB : TabB X.base X.mg c P) (hcode : X.env.code = .ref c)
    (hm : (P, X.env.qual ++ "<lambda>") ∈ T) (hu : ∀ p ∈ T, p.1 = P → p.2 = X.env.qual ++ "<lambda>") (hT : Tabs T H) (hdef : params.defaults = [.Constant (.int n) j cp]) (hk0 : params.kw_defaults = []) (hfree : ∀ y ∈ scope.names, y.2 = .free → ∃ c, X.env.cells.lookup y.1 = some c)
    (hE : E = X.xe)
    (h : ∀ (f c' T₀ : Addr) (tk : Tok) (doc pm ctv : Value) (H1 : Hp) (s' : Shared), Inv X pins σ H1 s' → ExtN H H1 → Tabs T H1 →
      s'.heap.get? f = some (kdv_obj "<lambda>" (X.env.qual ++ "<lambda>") params (.expr body) scope (cloFrom X.env.cells scope.names []) (.ref T₀) doc pm c' ctv) → H1 f = none → f ∉ frs X.stack → H1 c' = some (CodeO c' (X.env.qual ++ "<lambda>")) →
      s'.heap.get? T₀ = some (kdv_tup [.int n tk]) → H1 T₀ = none → T₀ ∉ frs X.stack → Q (.ref f) s') :
    wpAny (model X.prog X.w) X.A (eval (.Lambda params body scope pos) X.env) Q E s := by
  subst hE
  obtain ⟨ps, hP, ht, ha⟩ := hT _ hm
  refine PySem.W.kdv_lam (by rw [hdef]; rfl) hk0 ?_
  rw [hdef]
  refine PySem.W.kdv_all1 (wpAny_Constant_int (PySem.W.kdv_all0 ?_))
  generalize hs1 : ({ s with toks := s.toks + 1 } : Shared) = s1
  have I1 : Inv X pins σ H s1 := by
    rw [← hs1]
    exact I.tok _
  generalize s.toks = tk
  rw [makeFunction_eq]
  simp only [List.zip_nil_right, List.filterMap_nil, List.isEmpty_nil, if_true, pure_bind, List.isEmpty_cons, Bool.false_eq_true, if_false]
  refine wpAny_bind (wpAny_newTextTuple ?_)
  obtain ⟨T₀, hT0⟩ : ∃ T₀, T₀ = s1.heap.objs.size := ⟨_, rfl⟩
  rw [← hT0]
  have n0 : H T₀ = none := I1.hok.fresh (Nat.le_of_eq hT0.symm)
  have g0 : (s1.heap.push (kdv_tup [.int n tk])).get? T₀ = some (kdv_tup [.int n tk]) := by
    rw [hT0]
    exact Heap.get?_push_size _ rfl
  have I2 : Inv X pins σ H { s1 with heap := s1.heap.push (kdv_tup [.int n tk]) } := I1.kept (t' := s1.toks) fun b o e => Heap.get?_push_of_some _ e
  have nofr : ∀ f, s1.heap.objs.size ≤ f → f ∉ frs X.stack := fun f hf z => by
    rcases List.mem_cons.mp (I1.stkSub _ z) with e | e
    · have h1 := I1.lt
      rw [← e] at h1
      exact Nat.lt_irrefl _ (Nat.lt_of_lt_of_le h1 hf)
    · exact I1.nofs hf e
  have f0 : T₀ ∉ frs X.stack := nofr _ (Nat.le_of_eq hT0.symm)
  have sz2 : (s1.heap.push (kdv_tup [.int n tk])).objs.size = T₀ + 1 := by rw [Heap.size_push, hT0]
  generalize hs2 : ({ s1 with heap := s1.heap.push (kdv_tup [.int n tk]) } : Shared) = s2 at I2 ⊢
  have hh2 : s2.heap = s1.heap.push (kdv_tup [.int n tk]) := by rw [← hs2]
  rw [← hh2] at g0 sz2
  have bP : s2.heap.BuiltinsAt X.mg P := TB.bm.keeps I2.bk
  have hP' : s2.heap.get? P = some { cls := .none, data := .fields ps } := I2.hok P _ hP
  cases hc : codeAmong pos ps.toList with
  | none =>
    refine PySem.W.kdv_makeTail (mg := X.mg) (c := c) (P := P) (ps := ps) (closure_ok hfree) I2.ok.glob (I2.mod.glob.keeps I2.bk) hcode (TB.code.keeps I2.bk) hP' ht hc TB.gP bP fun c' ctv doc h' tk' hx hge hlt hrec htb => ?_
    obtain ⟨c2, oc, vs, t, e2, hoc, hd, hv⟩ := hrec
    cases e2
    have hsz : s2.heap.objs.size ≤ h'.objs.size := Nat.le_trans hge (Nat.le_of_lt hlt)
    have nC : H c' = none := I2.hok.fresh hge
    have I3 := inv_table (t' := tk') (more := #[rawInt pos.line, rawInt pos.col, .ref c']) (h' := h'.push (kdv_obj "<lambda>" (X.env.qual ++ "<lambda>") params (.expr body) scope (cloFrom X.env.cells scope.names []) (.ref T₀) doc ((X.mg "__name__").getD .none) c' ctv)) I2 hP
      (fun b o hb e => Heap.get?_push_of_some _ (hx b o hb e)) (Heap.get?_push_of_some _ htb) hge ⟨oc, vs, t, Heap.get?_push_of_some _ hoc, hd, hv⟩
    have hE : ExtN H (upd (upd H P (.tbl (ps ++ #[rawInt pos.line, rawInt pos.col, .ref c']))) c' (CodeO c' (X.env.qual ++ "<lambda>"))) := fun b o e nt => by
      rw [upd_ne (ne_of_none e nC), upd_ne (fun z => nt ps (Option.some.inj (e.symm.trans (by rw [z]; exact hP))))]
      exact e
    have eL : (ps ++ #[rawInt pos.line, rawInt pos.col, .ref c']).toList = ps.toList ++ [rawInt pos.line, rawInt pos.col, .ref c'] := by simp
    have T0P : T₀ ≠ P := fun z => by
      rw [z, hP] at n0
      cases n0
    have T0c : T₀ ≠ c' := fun z => by omega
    refine h h'.objs.size c' T₀ tk doc ((X.mg "__name__").getD .none) ctv _ _ I3 hE (fun p hp => ?_) (Heap.get?_push_size _ rfl) ?_ (nofr _ (by omega)) upd_same (Heap.get?_push_of_some _ (hx _ _ T0P g0)) ?_ f0
    · by_cases hb : p.1 = P
      · rw [hu p hp hb, hb]
        refine ⟨_, by rw [upd_ne (ne_of_none hP nC), upd_same], by rw [eL]; exact PySem.TriplesOk_snoc _ _ _ _ ht, fun p' cv hcv => ?_⟩
        rw [eL] at hcv
        rcases among_app _ ht hcv with z | z
        · obtain ⟨c0, e1, e2⟩ := ha p' cv z
          exact ⟨c0, e1, hE _ _ e2 codeO_ne⟩
        · exact ⟨c', z, upd_same⟩
      · obtain ⟨ps', a1, a2, a3⟩ := hT p hp
        refine ⟨ps', by rw [upd_ne (ne_of_none a1 nC), upd_ne hb]; exact a1, a2, fun p' cv hcv => ?_⟩
        obtain ⟨c0, e1, e2⟩ := a3 p' cv hcv
        exact ⟨c0, e1, hE _ _ e2 codeO_ne⟩
    · have n1 : h'.objs.size ≠ c' := Nat.ne_of_gt hlt
      have n2 : h'.objs.size ≠ P := Nat.ne_of_gt (Nat.lt_of_lt_of_le (Heap.lt_size hP') hsz)
      rw [upd_ne n1, upd_ne n2]
      exact I2.hok.fresh hsz
    · rw [upd_ne T0c, upd_ne T0P]
      exact n0
  | some cv =>
    obtain ⟨c', e, hco⟩ := ha pos cv hc
    subst e
    refine PySem.W.kdv_makeTailHit (mg := X.mg) (c := c) (P := P) (ps := ps) (closure_ok hfree) I2.ok.glob (I2.mod.glob.keeps I2.bk) hcode (TB.code.keeps I2.bk) hP' ht hc bP fun ctv doc h' tk' hx hsz => ?_
    have I3 : Inv X pins σ H { s2 with heap := h'.push (kdv_obj "<lambda>" (X.env.qual ++ "<lambda>") params (.expr body) scope (cloFrom X.env.cells scope.names []) (.ref T₀) doc ((X.mg "__name__").getD .none) c' ctv), toks := tk' } := I2.kept fun b o e => Heap.get?_push_of_some _ (hx b o e)
    exact h h'.objs.size c' T₀ tk doc ((X.mg "__name__").getD .none) ctv H _ I3 (ExtN.refl H) hT (Heap.get?_push_size _ rfl) (I2.hok.fresh hsz) (nofr _ (by omega)) hco (Heap.get?_push_of_some _ (hx _ _ g0)) n0 f0
end
end LamR

namespace LamR
open PySem PySem.Spec PyProof.Rows L2 LamX
open PySem.W (kdv_obj kdv_fn kdv_tup)
/-- the def that calls what it got; TT: what it makes of the lambda's reading -/
def GivesR (X : Cx) (Ng : List Str) (x : Str) (sg : Scope) (g : Addr) (cdg : Value) (bg : List Stmt) (a : Str) (q : Str) (TT : (XK → Hp → VK → Prop) → Hp → VK → Prop) : Prop :=
  ∀ (f c' : Addr) (s : Shared) (H : Hp) (Q : VK) (tl : XK → Hp → VK → Prop),
    (∀ (W : WX) (pn : List (Addr × Obj)) (xe : Value → Shared → Prop) (p1 p2 : Pos), Takes ((cxOf C8.CX0 X.prog X.w X.K X.mg X.base Ng x sg g cdg X.A X.stack s H C8.E0).tr pn xe) W →
      PE ((cxOf C8.CX0 X.prog X.w X.K X.mg X.base Ng x sg g cdg X.A X.stack s H C8.E0).tr pn xe) (.Call (.Name a p1) [] [] p2) (fun σZ HZ Q => σZ[0]? = some (some (.ref f)) ∧ HZ c' = some (CodeO c' q) ∧ ∃ (E : XK) (Q' : VK), (∀ cls d H', E cls d H' → W cls d σZ H') ∧ (∀ v H', Q' v H' → Q v H') ∧ tl E HZ Q')) →
    H c' = some (CodeO c' q) → TT tl H Q →
    ∃ t, PSs (cxOf C8.CX0 X.prog X.w X.K X.mg X.base Ng x sg g cdg X.A X.stack s H C8.E0).nox bg t ∧ t { nx := fun _ H' => Q .non H', rt := Q } (L2.start Ng [.ref f]) H
section
variable {X : Cx} {T : List (Addr × Str)} {TT : (XK → Hp → VK → Prop) → Hp → VK → Prop} {x a : Str} {g c P : Addr} {k : Nat} {pg : Arguments} {bg : List Stmt} {sg : Scope} {dV kV doc pm cdv ct oc : Value} {an od : Option Addr} {osl : Array (Option Value)} {Ng : List Str}
    {params : Arguments} {body : Expr} {scope : Scope} {t : XK → TE} {p lpos pos : Pos}
/-- behind the lambda's making: the def is called -/
theorem lam_endR {pins : List (Addr × Obj)} {σ : L2.St} {H1 : Hp} {s' : Shared} {Q : VK} {f c' : Addr} {dL docL pmL ctL : Value} {binds : List (Str × Value)}
    (hk : PySem.W.keepIn X.K (.ref g) = true) (lk : X.K.lookup g = some ⟨oc, od, .func (PySem.W.fnOf x x pg bg sg dV kV doc pm an cdv ct), osl⟩) (hcg : PySem.W.codeIn X.K cdv x = true) (hb : L2.Binds X.K (PySem.W.fnOf x x pg bg sg dV kV doc pm an cdv ct) [a] []) (Sg : FnScope Ng [a] sg) (hNg : Ng[0]? = some a) (hva : Vis sg a)
    (hG : GivesR X Ng x sg g cdv bg a (X.env.qual ++ "<lambda>") TT) (hr : Room (k + 2) X.A) (L : LamN X.env.scope scope X.N)
    (hbody : ∀ (A : Around) (outer : List Env) (s : Shared) (H : Hp) (E : XK) (f c' : Addr), Room k (A.deeper (lamEnv X scope s.heap.objs.size f c')) → PE (lamCx X A outer s H E scope f c') body (t E))
    (I1 : Inv X pins σ H1 s') (hf : s'.heap.get? f = some (kdv_obj "<lambda>" (X.env.qual ++ "<lambda>") params (.expr body) scope (cloFrom X.env.cells scope.names []) dL docL pmL c' ctL)) (hfn : H1 f = none) (hfr : f ∉ frs X.stack) (hco : H1 c' = some (CodeO c' (X.env.qual ++ "<lambda>")))
    (hbind : ∀ s1 : Shared, (∀ b o, s'.heap.get? b = some o → H1 b = none → b ∉ frs X.stack → s1.heap.get? b = some o) → BindsTo s1 (kdv_fn "<lambda>" (X.env.qual ++ "<lambda>") params (.expr body) scope (cloFrom X.env.cells scope.names []) dL docL pmL (.ref c') ctL) ⟨[], []⟩ binds)
    (hloc : ∀ y ∈ binds, scope.names.lookup y.1 = some .local) (h : TT (fun E H' Q' => t E σ H' Q') H1 Q)
    (hd : (a == ("__debug__" : Str)) = false := by decide) (hcd : (a == ("__classdict__" : Str)) = false := by decide) :
    wpAny (model X.prog X.w) X.A (call (.ref g) [.ref f]) (EP X pins σ Q) X.xe s' := by
  have rc : codeAny (model X.prog X.w) X.A (.call (.ref g) ⟨[.ref f], []⟩) (CR C8.CX0 X.stack X.prog X.w H1 s' Q C8.E0) s' := by
    refine run_ofS (N := Ng) (ps := [a]) (us := [.ref f]) (vs := [.ref f]) lk hcg Sg hr I1.env0 (hb s' [.ref f] I1.kIn rfl) (.cons rfl .nil) rfl fun hr' => ?_
    obtain ⟨t', ht', hq'⟩ := hG f c' s' H1 Q (fun E H' Q' => t E σ H' Q') (fun W pn xe p1 p2 tk => pe_actR (i := 0) I1 L hf hfn hfr hbind hloc tk hr' (fun A outer s H E hr2 => hbody A outer s H E f c' hr2) hNg hva hd hcd) hco h
    exact ⟨t', ht'.nox, hq'⟩
  refine wpAny_call (codeAny_mono rc fun r s2 hq => ?_)
  cases r with
  | error e => exact (show False from hq).elim
  | ok fl =>
    cases fl with
    | ret u => exact I1.after hq
    | next => exact False.elim hq
    | brk => exact False.elim hq
    | cont => exact False.elim hq
/-- x(lambda: body) -/
theorem pe_lamcallR (hg : Gl X x) (hm : X.mg x = some (.ref g)) (hk : PySem.W.keepIn X.K (.ref g) = true)
    (lk : X.K.lookup g = some ⟨oc, od, .func (PySem.W.fnOf x x pg bg sg dV kV doc pm an cdv ct), osl⟩) (hcg : PySem.W.codeIn X.K cdv x = true) (hb : L2.Binds X.K (PySem.W.fnOf x x pg bg sg dV kV doc pm an cdv ct) [a] []) (Sg : FnScope Ng [a] sg) (hNg : Ng[0]? = some a) (hva : Vis sg a)
    (hG : GivesR X Ng x sg g cdv bg a (X.env.qual ++ "<lambda>") TT)
    (TB : TabB X.base X.mg c P) (hcode : X.env.code = .ref c) (hmT : (P, X.env.qual ++ "<lambda>") ∈ T) (hu : ∀ p ∈ T, p.1 = P → p.2 = X.env.qual ++ "<lambda>") (hr : Room (k + 2) X.A) (L : LamN X.env.scope scope X.N) (hdef : defaultsOf params X.env = ([], []))
    (hbind : ∀ (q : Str) (cl : List (Str × Addr)) (pm cv ctv : Value), bindArgs (PySem.W.kla_fn "<lambda>" q params body scope cl pm cv ctv) ⟨[], []⟩ = pure [])
    (hbody : ∀ (A : Around) (outer : List Env) (s : Shared) (H : Hp) (E : XK) (f c' : Addr), Room k (A.deeper (lamEnv X scope s.heap.objs.size f c')) → PE (lamCx X A outer s H E scope f c') body (t E))
    (hdb : (x == ("__debug__" : Str)) = false := by decide) (hd : (a == ("__debug__" : Str)) = false := by decide) (hcd : (a == ("__classdict__" : Str)) = false := by decide) :
    PE X (.Call (.Name x p) [.Lambda params body scope lpos] [] pos) (tLam T TT t) := by
  refine ⟨fun pins s σ H Q I ⟨hT, h⟩ => ?_⟩
  refine wpAny_Call_Name_kw (ld_glob I hg hm ?_ hdb)
  refine PySem.W.callWith_K (h₀ := X.base) I.ok.mod.kin hk ?_ (by rfl) (by rfl)
  show wpAny _ _ (spliced ((false, eval (.Lambda params body scope lpos) X.env) :: backTo pos (starEach [] X.env))) _ _ s
  refine Calls.spliced_cons (lam_make2 I TB hcode hmT hu hT hdef (L.has I.ok) fun f c' pm' ctv H1 s' I1 eN T1 hf hfn hfr hco => ?_)
  exact Calls.spliced_nil ⟨I1.kIn, lam_endR (binds := []) (dL := .none) (docL := .none) hk lk hcg hb Sg hNg hva hG hr L hbody I1 hf hfn hfr hco (fun s1 _ => .of_eq (hbind _ _ _ _ _)) (fun y hy => absurd hy (by simp)) (h H1 eN T1) hd hcd⟩
/-- x(lambda y=n: body) -/
theorem pe_lamcallD {y : Str} {n : Int} {j : Nat} {cp : Pos} (hg : Gl X x) (hm : X.mg x = some (.ref g)) (hk : PySem.W.keepIn X.K (.ref g) = true)
    (lk : X.K.lookup g = some ⟨oc, od, .func (PySem.W.fnOf x x pg bg sg dV kV doc pm an cdv ct), osl⟩) (hcg : PySem.W.codeIn X.K cdv x = true) (hb : L2.Binds X.K (PySem.W.fnOf x x pg bg sg dV kV doc pm an cdv ct) [a] []) (Sg : FnScope Ng [a] sg) (hNg : Ng[0]? = some a) (hva : Vis sg a)
    (hG : GivesR X Ng x sg g cdv bg a (X.env.qual ++ "<lambda>") TT)
    (TB : TabB X.base X.mg c P) (hcode : X.env.code = .ref c) (hmT : (P, X.env.qual ++ "<lambda>") ∈ T) (hu : ∀ p ∈ T, p.1 = P → p.2 = X.env.qual ++ "<lambda>") (hr : Room (k + 2) X.A) (L : LamN X.env.scope scope X.N)
    (hdef : params.defaults = [.Constant (.int n) j cp]) (hk0 : params.kw_defaults = []) (hyl : scope.names.lookup y = some .local)
    (hbind : ∀ (q : Str) (cl : List (Str × Addr)) (T₀ : Addr) (doc pm cv ctv u : Value), ∃ k : Option (Array Value) → Sem (List (Str × Value)), bindArgs (kdv_fn "<lambda>" q params (.expr body) scope cl (.ref T₀) doc pm cv ctv) ⟨[], []⟩ = seqItems? (.ref T₀) >>= k ∧ k (some #[u]) = pure [(y, u)])
    (hbody : ∀ (A : Around) (outer : List Env) (s : Shared) (H : Hp) (E : XK) (f c' : Addr), Room k (A.deeper (lamEnv X scope s.heap.objs.size f c')) → PE (lamCx X A outer s H E scope f c') body (t E))
    (hdb : (x == ("__debug__" : Str)) = false := by decide) (hd : (a == ("__debug__" : Str)) = false := by decide) (hcd : (a == ("__classdict__" : Str)) = false := by decide) :
    PE X (.Call (.Name x p) [.Lambda params body scope lpos] [] pos) (tLam T TT t) := by
  refine ⟨fun pins s σ H Q I ⟨hT, h⟩ => ?_⟩
  refine wpAny_Call_Name_kw (ld_glob I hg hm ?_ hdb)
  refine PySem.W.callWith_K (h₀ := X.base) I.ok.mod.kin hk ?_ (by rfl) (by rfl)
  show wpAny _ _ (spliced ((false, eval (.Lambda params body scope lpos) X.env) :: backTo pos (starEach [] X.env))) _ _ s
  refine Calls.spliced_cons (lam_makeD I TB hcode hmT hu hT hdef hk0 (L.has I.ok) rfl fun f c' T₀ tk doc' pm' ctv H1 s' I1 eN T1 hf hfn hfr hco g0 n0 f0 => ?_)
  refine Calls.spliced_nil ⟨I1.kIn, lam_endR (binds := [(y, .int n tk)]) hk lk hcg hb Sg hNg hva hG hr L hbody I1 hf hfn hfr hco (fun s1 kp => ?_) (fun z hz => ?_) (h H1 eN T1) hd hcd⟩
  · obtain ⟨kk, e1, e2⟩ := hbind (X.env.qual ++ "<lambda>") (cloFrom X.env.cells scope.names []) T₀ doc' pm' (.ref c') ctv (.int n tk)
    exact BindsTo.of_defaults rfl (kp _ _ g0 n0 f0) rfl e1 e2
  · rw [List.mem_singleton.mp hz]
    exact hyl
end
end LamR

/-! k02: what the program's own defs tell. -/
namespace Dg
open PySem L2 Evl
def top (i : Nat) : Stmt := PySem.Challenge.pw_shortspans_k23_entries_checked.main.body.getD i (.Pass ⟨0, 0, 0, 0⟩)
abbrev sIsInt : Stmt := top 21
abbrev sIsNum : Stmt := top 22
abbrev sIsFig : Stmt := top 23
abbrev sNeedB : Stmt := top 24
abbrev sNeedN : Stmt := top 25
abbrev sDigits : Stmt := top 27

abbrev sLength : Stmt := top 28
abbrev sNeedR : Stmt := top 26
abbrev sChanged : Stmt := top 29
abbrev sNear : Stmt := top 30
structure TxG (mg : Str → Option Value) : Prop where
  isi : mg "isinstance" = none
  int : mg "int" = none
  bool : mg "bool" = none
  str : mg "str" = none
  len : mg "len" = none
  sup : mg "super" = none
  fig : ∃ t, mg "FIGURES" = some (.str "0123456789" t)
  least : ∃ t, mg "LEAST_BASE" = some (.int 2 t)
  most : ∃ t, mg "MOST_BASE" = some (.int 10 t)
structure TxI (K : PySem.W.Frag) (mg : Str → Option Value) (fi : Addr) : Prop extends TxG mg where
  isInt : mg "is_integer" = some (.ref fi)
  kInt : PySem.W.keepIn K (.ref fi) = true
/-- whether a value is an integer -/
inductive Kn (K : PySem.W.Frag) (H : Hp) : V → Bool → Prop
  | int (i : Int) : Kn K H (.int i) true
  | oth {v : V} {a : String} {x y : Bool} (t : TyX K H v (.type a)) (h1 : kitB a "int" = some x) (h2 : kitB a "bool" = some y) (h : (x && !y) = false) : Kn K H v false
/-- whether a value is a number -/
inductive Nm (K : PySem.W.Frag) (H : Hp) : V → Bool → Prop
  | int (i : Int) : Nm K H (.int i) (decide (1 ≤ i))
  | oth {v : V} (h : Kn K H v false) : Nm K H v false
/-- whether a value is a base -/
inductive Bs (K : PySem.W.Frag) (H : Hp) : V → Bool → Prop
  | int (i : Int) : Bs K H (.int i) (decide (2 ≤ i) && decide (i ≤ 10))
  | oth {v : V} (h : Kn K H v false) : Bs K H v false
theorem tyx_ex {K : PySem.W.Frag} {H H' : Hp} {v : V} {a : String} (e : Ex H H') (t : TyX K H v (.type a)) : TyX K H' v (.type a) := by
  cases t with
  | base b =>
    cases b with
    | non => exact .base .non
    | bl x => exact .base (.bl x)
    | int i => exact .base (.int i)
    | str x => exact .base (.str x)
    | flt x => exact .base (.flt x)
    | lst h => exact .base (.lst (e _ _ h))
    | frz h => exact .base (.frz (e _ _ h))
    | tup h => exact .base (.tup (e _ _ h))
    | dK h => exact .base (.dK (e _ _ h))
    | dT h => exact .base (.dT (e _ _ h))
  | byt b => exact .byt b
  | set h => exact .set (e _ _ h)
  | kList h c => exact .kList h c
  | kTuple h c => exact .kTuple h c
  | kDict h c => exact .kDict h c
  | fTuple h => exact .fTuple (e _ _ h)
  | fDict h => exact .fDict (e _ _ h)
theorem Kn.ex {K : PySem.W.Frag} {H H' : Hp} {v : V} {b : Bool} (e : Ex H H') (k : Kn K H v b) : Kn K H' v b := by
  cases k with
  | int i => exact .int i
  | oth t h1 h2 h => exact .oth (tyx_ex e t) h1 h2 h
theorem Nm.ex {K : PySem.W.Frag} {H H' : Hp} {v : V} {b : Bool} (e : Ex H H') (k : Nm K H v b) : Nm K H' v b := by
  cases k with
  | int i => exact .int i
  | oth h => exact .oth (h.ex e)
theorem Bs.ex {K : PySem.W.Frag} {H H' : Hp} {v : V} {b : Bool} (e : Ex H H') (k : Bs K H v b) : Bs K H' v b := by
  cases k with
  | int i => exact .int i
  | oth h => exact .oth (h.ex e)
/-- the exception C(f = v) leaves -/
def Leaves (C : Addr) (f : Str) (v : V) (H : Hp) (E : XK) : Prop := ∀ H2 d, Ex H H2 → H2 d = none → E (.ref C) (some d) (upd H2 d (.xd [(f, v)]))
theorem Leaves.go {C : Addr} {f : Str} {v : V} {H H' : Hp} {E : XK} (l : Leaves C f v H E) (e : Ex H H') : Leaves C f v H' E := fun H2 d e2 hd => l H2 d (e.trans e2) hd
section
variable {P : Program} {w : World} {K : PySem.W.Frag} {mg : Str → Option Value} {base : Heap} {ca : Nat → Addr}
theorem ev_isi {σ : St} {H : Hp} {te : TE} {v : V} {a b : String} {r : Bool} (h : Ev te σ H v) (t : TyX K H v (.type a)) (k : kitB a b = some r) : Ev (tCB (rIsi K) (tCons te (tCons (tC (.ty b)) tNil))) σ H (.bl r) :=
  ev_cb (ea_cons h (ea_cons ev_c ea_nil)) fun H1 e Q q => ⟨v, .ty b, .type a, .type b, r, rfl, .ty b, tyx_ex e t, kit_ty k, q _ (Ex.refl _)⟩
def spIsInt (K : PySem.W.Frag) : Sp := fun vs H Q _ => ∃ v b, vs = [v] ∧ Kn K H v b ∧ RetV (.bl b) H Q
theorem scIsInt : FnScope ["value"] ["value"] (defScope sIsInt) := ⟨rfl, rfl, rfl, by decide +kernel, rfl, by decide +kernel, by decide +kernel⟩
theorem ok_isInt {f : Addr} {fd : FuncData} (F : Fun K "is_integer" "is_integer" sIsInt f fd) (T : TxG mg) : FnOk P w K mg base CX0 1 f fd ["value"] (spIsInt K) := by
  refine F.ok scIsInt (fun vs H Q E h => ?_) (fun cdv A outer s H vs Q E hr h => ?_)
  · obtain ⟨v, b, rfl, _⟩ := h
    rfl
  · obtain ⟨v, b, rfl, k, q⟩ := h
    refine ⟨_, pss_one (ps_ret (pe_and (pe_callB call_isi (by rfl) T.isi (by decide +kernel) (pa_cons (pv 0) (pa_cons (pe_bltn (by rfl) T.int (by decide +kernel) (v := .ty "int") rfl) pa_nil)))
      (pe_one (pe_not (pe_callB call_isi (by rfl) T.isi (by decide +kernel) (pa_cons (pv 0) (pa_cons (pe_bltn (by rfl) T.bool (by decide +kernel) (v := .ty "bool") rfl) pa_nil))))))), ?_⟩
    cases k with
    | int i => exact s_ret (ev_andV (ev_isi (ev_var rfl) (.base (.int i)) (r := true) (by decide +kernel)) (fun _ => ev_notV (ev_isi (ev_var rfl) (.base (.int i)) (r := false) (by decide +kernel)))) fun H1 e => q H1 e
    | oth t h1 h2 hx => exact s_ret (ev_is (ev_andV (ev_isi (ev_var rfl) t h1) (fun _ => ev_notV (ev_isi (ev_var rfl) t h2))) (by rw [hx])) fun H1 e => q H1 e
def spIsNum (K : PySem.W.Frag) : Sp := fun vs H Q _ => ∃ v b, vs = [v] ∧ Nm K H v b ∧ RetV (.bl b) H Q
theorem scIsNum : FnScope ["value"] ["value"] (defScope sIsNum) := ⟨rfl, rfl, rfl, by decide +kernel, rfl, by decide +kernel, by decide +kernel⟩
theorem ev_callI {σ : St} {H : Hp} {te : TE} {v : V} {b : Bool} (h : Ev te σ H v) (k : Kn K H v b) : Ev (tCall (spIsInt K) [] E0 (tCons te tNil)) σ H (.bl b) :=
  ev_call (ea_cons h ea_nil) fun H1 e Q q E => ⟨v, b, rfl, k.ex e, fun H2 e2 => q H2 e2⟩
theorem ok_isNum {f fi : Addr} {fd fdi : FuncData} (F : Fun K "is_number" "is_number" sIsNum f fd) (GI : FnOk P w K mg base CX0 1 fi fdi ["value"] (spIsInt K)) (bI : Binds K fdi ["value"] []) (T : TxI K mg fi) : FnOk P w K mg base CX0 2 f fd ["value"] (spIsNum K) := by
  refine F.ok scIsNum (fun vs H Q E h => ?_) (fun cdv A outer s H vs Q E hr h => ?_)
  · obtain ⟨v, b, rfl, _⟩ := h
    rfl
  · obtain ⟨v, b, rfl, k, q⟩ := h
    refine ⟨_, pss_one (ps_ret (pe_and (pe_call GI hr (by rfl) T.isInt T.kInt bI .nil pass0 (pa_cons (pv 0) pa_nil)) (pe_one (pe_cmpR op_ge (pv 0) pe_int (nomark _))))), ?_⟩
    cases k with
    | int i => exact s_ret (ev_is (ev_andV (ev_callI (ev_var rfl) (.int i)) (fun _ => ev_op (ev_var rfl) ev_c rv_I0)) (by simp)) fun H1 e => q H1 e
    | oth h => exact s_ret (ev_is (ev_andV (b := false) (ev_callI (ev_var rfl) h) (fun z => nomatch z)) (by simp)) fun H1 e => q H1 e
/-- need_base, need_number: nothing, or the exception -/
def spNeed (J : Hp → V → Bool → Prop) (C : Addr) : Sp := fun vs H Q E => ∃ v b, vs = [v] ∧ J H v b ∧ (b = true → RetV .non H Q) ∧ (b = false → Leaves C "value" v H E)
theorem scNeedB : FnScope ["base"] ["base"] (defScope sNeedB) := ⟨rfl, rfl, rfl, by decide +kernel, rfl, by decide +kernel, by decide +kernel⟩
theorem scNeedN : FnScope ["number"] ["number"] (defScope sNeedN) := ⟨rfl, rfl, rfl, by decide +kernel, rfl, by decide +kernel, by decide +kernel⟩
theorem ok_needN {f fn : Addr} {fd fdn : FuncData} (F : Fun K "need_number" "need_number" sNeedN f fd) (GN : FnOk P w K mg base CX0 2 fn fdn ["value"] (spIsNum K)) (bN : Binds K fdn ["value"] []) (gN : mg "is_number" = some (.ref fn)) (kN : PySem.W.keepIn K (.ref fn) = true) (T : TxG mg)
    (M : Mks P K mg (ca 2) ["value"]) (gC : mg "BadNumber" = some (.ref (ca 2))) : FnOk P w K mg base (L2.CX P w) 3 f fd ["number"] (spNeed (Nm K) (ca 2)) := by
  refine F.okX scNeedN (fun vs H Q E h => ?_) (fun cdv A outer s H vs Q E hr h => ?_)
  · obtain ⟨v, b, rfl, _⟩ := h
    rfl
  · obtain ⟨v, b, rfl, k, qy, qn⟩ := h
    refine ⟨_, pss_one (ps_if (pt_not (pt_val (pe_call GN hr (by rfl) gN kN bN .nil pass0 (pa_cons (pv 0) pa_nil)))) (pss_one (ps_raise rfl (takes_of rfl rfl rfl rfl) (pmk_mks M T.sup hr (by simp) (pa_cons (pv 0) pa_nil) (by rfl) gC))) pss_nil), ?_⟩
    refine s_when (b := !b) (et_not (et_B (ev_call (ea_cons (ev_var rfl) ea_nil) fun H1 e Q q E => ⟨v, b, rfl, k.ex e, fun H2 e2 => q H2 e2⟩))) (fun z H1 e => ?_) (fun z H1 e => qy (by simpa using z) H1 e)
    exact ⟨_, rfl, rfl, fun d hd => qn (by simpa using z) H1 d e hd⟩
end
end Dg

namespace L2
open PySem PySem.Spec PyProof.Rows
section
variable {X : Cx} {e : Expr} {te : TE} {p2 p3 p4 pos : Pos} {j : Nat}
/-- xs[::-1] of a list: a new one -/
def tBack (K : PySem.W.Frag) (te : TE) : TE := fun σ H Q => te σ H fun x H2 => ∃ a xs, x = .ref a ∧ SqL K H2 a xs ∧ ∀ p, H2 p = none → Q (.ref p) (upd H2 p (.lst xs.reverse))
theorem vals_reverse : ∀ {xs : List V} {us : List Value}, Vals xs us → Vals xs.reverse us.reverse
  | _, _, .nil => .nil
  | _, _, .cons r t => by
    rw [List.reverse_cons, List.reverse_cons]
    exact (vals_reverse t).append (.cons r .nil)
theorem pe_back (he : PE X e te) : PE X (.Subscript e (.Slice none none (some (.UnaryOp .USub (.Constant (.int 1) j p3) p4)) p2) pos) (tBack X.K te) := by
  refine ⟨fun pins s σ H Q I h => ?_⟩
  refine Subscript_ (thn (he.run pins s σ H _ I h) fun v s1 ⟨x, H1, I1, r1, a, xs, ex, hx, q⟩ => ?_)
  subst ex
  obtain rfl : v = Value.ref a := r1
  refine wpAny_Slice ?_
  rw [evalPart_none]
  refine wpAny_pure (wpAny_pure ?_)
  rw [evalPart_some]
  refine thn ((pe_un (pos := p4) un_neg (pe_int (X := X) (i := 1) (j := j) (pos := p3))).run pins s1 σ H1 (fun y H2 => y = .int (-1) ∧ H2 = H1) I1 ⟨1, rfl, rfl, rfl⟩) fun vu s3 ⟨y, H3, I3, r3, ey, eH⟩ => ?_
  subst ey
  rw [eH] at I3
  obtain ⟨tk, rfl⟩ := r3
  have I4 : Inv X pins σ H1 { s3 with heap := s3.heap.push { cls := .type "slice", data := .fields #[.none, .none, .int (-1) tk] } } := I3.kept (t' := s3.toks) fun b ob q => Heap.get?_push_of_some _ q
  obtain ⟨its, r, ht, hz⟩ := I4.list hx
  show wpAny (model X.prog X.w) X.A (subscriptTail e (.Slice none none (some (.UnaryOp .USub (.Constant (.int 1) j p3) p4)) p2) (.ref a) (.ref s3.heap.objs.size)) (EP X pins σ Q) X.xe { s3 with heap := s3.heap.push { cls := .type "slice", data := .fields #[.none, .none, .int (-1) tk] } }
  refine tail_any (ops := _) ht.isList.typeIs slot_list_getitem.lookup ?_ (by with_unfolding_all rfl)
  refine wpAny_getItem_list_slice ht.isList (Heap.IsSliceOf.new ..) .none .none (.int _ _) (by simp) ?_ (by rw [List.size_toArray, ← r.length]; exact hz)
  rw [PySem.W.krv_pick]
  refine ⟨.ref _, _, I4.laid (t' := s3.toks) (o := .lst xs.reverse) (fun b ob q => Heap.get?_push_of_some _ q) (Nat.le_refl _) ?_, rfl, q _ (I4.hok.fresh (Nat.le_refl _))⟩
  exact ⟨by rw [List.length_reverse]; exact hz, its.reverse, 0, vals_reverse r, Heap.get?_push_size _ rfl⟩
end
end L2

namespace Evl
open PySem L2
/-- a <= b <= c of whole numbers -/
theorem ev_chI {σ : St} {H : Hp} {ta tb tc : TE} {a b c : Int} (ha : Ev ta σ H (.int a)) (hb : Ev tb σ H (.int b)) (hc : Ev tc σ H (.int c)) :
    Ev (tChain (rI0 fun i j => .bl (decide (i ≤ j))) (rI0 fun i j => .bl (decide (i ≤ j))) ta tb tc) σ H (.bl (decide (a ≤ b) && decide (b ≤ c))) := fun H1 e Q q =>
  ha H1 e _ fun H2 e2 => hb H2 (e.trans e2) _ fun H3 e3 => ⟨a, b, rfl, rfl, _, rfl, by
    by_cases h : a ≤ b
    · rw [if_pos (decide_eq_true h)]
      exact hc H3 ((e.trans e2).trans e3) _ fun H4 e4 => ⟨b, c, rfl, rfl, by
        have z := q H4 ((e2.trans e3).trans e4)
        rw [decide_eq_true h, Bool.true_and] at z
        exact z⟩
    · rw [if_neg (by simpa using h)]
      have z := q H3 (e2.trans e3)
      rw [decide_eq_false h, Bool.false_and] at z
      exact z⟩
end Evl
namespace Dg
open PySem L2 Evl
/-- the digits of a number, the last one first -/
def dlF (b : Nat) : Nat → Nat → List Nat
  | 0, _ => []
  | k + 1, n => if n = 0 then [] else n % b :: dlF b k (n / b)
def dl (b n : Nat) : List Nat := dlF b n n
theorem dlF_fuel {b : Nat} (hb : 2 ≤ b) : ∀ k n : Nat, n ≤ k → dlF b k n = dl b n := by
  have key : ∀ k n m : Nat, n ≤ k → n ≤ m → dlF b k n = dlF b m n := by
    intro k
    induction k with
    | zero =>
      intro n m h1 h2
      have : n = 0 := by omega
      subst this
      cases m <;> simp [dlF]
    | succ k ih =>
      intro n m h1 h2
      by_cases hn : n = 0
      · subst hn
        cases m <;> simp [dlF]
      · cases m with
        | zero => omega
        | succ m =>
          have hlt : n / b < n := Nat.div_lt_self (by omega) (by omega)
          simp only [dlF, if_neg hn]
          rw [ih (n / b) m (by omega) (by omega)]
  exact fun k n h => key k n n h (Nat.le_refl _)
theorem dl_zero (b : Nat) : dl b 0 = [] := rfl
theorem dl_step {b n : Nat} (hb : 2 ≤ b) (hn : 0 < n) : dl b n = n % b :: dl b (n / b) := by
  obtain ⟨k, rfl⟩ : ∃ k, n = k + 1 := ⟨n - 1, by omega⟩
  have hlt : (k + 1) / b < k + 1 := Nat.div_lt_self (by omega) (by omega)
  show dlF b (k + 1) (k + 1) = _
  simp only [dlF, if_neg (by omega : ¬ k + 1 = 0)]
  rw [dlF_fuel hb k _ (by omega)]
theorem dl_lt {b : Nat} (hb : 2 ≤ b) : ∀ n : Nat, ∀ d ∈ dl b n, d < b := by
  intro n
  induction n using Nat.strongRecOn with
  | ind n ih =>
    intro d hd
    by_cases hn : n = 0
    · subst hn; exact absurd hd (by simp [dl_zero])
    · rw [dl_step hb (by omega)] at hd
      rcases List.mem_cons.mp hd with rfl | h
      · exact Nat.mod_lt _ (by omega)
      · exact ih _ (Nat.div_lt_self (by omega) (by omega)) d h
theorem dl_len {b : Nat} (hb : 2 ≤ b) : ∀ k n : Nat, n < 2 ^ k → (dl b n).length ≤ k := by
  intro k
  induction k with
  | zero =>
    intro n h
    have : n = 0 := by simpa using h
    subst this
    simp [dl_zero]
  | succ k ih =>
    intro n h
    by_cases hn : n = 0
    · subst hn; simp [dl_zero]
    · rw [dl_step hb (by omega), List.length_cons]
      have : n / b < 2 ^ k := by
        have h1 : n / b ≤ n / 2 := Nat.div_le_div_left hb (by decide)
        have h2 : n / 2 < 2 ^ k := by
          rw [Nat.div_lt_iff_lt_mul (by decide)]
          rw [Nat.pow_succ] at h
          exact h
        omega
      have := ih _ this
      omega
/-- a figure -/
def fig (d : Nat) : Str := ⟨#[48 + d]⟩
theorem figs_at {d : Nat} (h : d < 10) : atI ("0123456789" : Str).cps.toList (d : Int) = some (48 + d) := by
  have c : d = 0 ∨ d = 1 ∨ d = 2 ∨ d = 3 ∨ d = 4 ∨ d = 5 ∨ d = 6 ∨ d = 7 ∨ d = 8 ∨ d = 9 := by omega
  rcases c with rfl | rfl | rfl | rfl | rfl | rfl | rfl | rfl | rfl | rfl <;> decide +kernel
/-- what digits tells -/
def digs (b n : Nat) : Str := Txt.join "" (((dl b n).map fig).reverse)
structure TxF (K : PySem.W.Frag) (mg : Str → Option Value) (fi fnum fnb fnn fdg : Addr) : Prop extends TxI K mg fi where
  isNum : mg "is_number" = some (.ref fnum)
  kNum : PySem.W.keepIn K (.ref fnum) = true
  needB : mg "need_base" = some (.ref fnb)
  kNB : PySem.W.keepIn K (.ref fnb) = true
  needN : mg "need_number" = some (.ref fnn)
  kNN : PySem.W.keepIn K (.ref fnn) = true
  digits : mg "digits" = some (.ref fdg)
  kDg : PySem.W.keepIn K (.ref fdg) = true
  divmod : mg "divmod" = none
section
variable {P : Program} {w : World} {K : PySem.W.Frag} {mg : Str → Option Value} {base : Heap} {ca : Nat → Addr} {fi fnum fnb fnn fdg : Addr}
theorem ok_needB {f : Addr} {fd fdi : FuncData} (F : Fun K "need_base" "need_base" sNeedB f fd) (GI : FnOk P w K mg base CX0 1 fi fdi ["value"] (spIsInt K)) (bI : Binds K fdi ["value"] []) (T : TxI K mg fi)
    (M : Mks P K mg (ca 1) ["value"]) (gC : mg "BadBase" = some (.ref (ca 1))) : FnOk P w K mg base (L2.CX P w) 2 f fd ["base"] (spNeed (Bs K) (ca 1)) := by
  refine F.okX scNeedB (fun vs H Q E h => ?_) (fun cdv A outer s H vs Q E hr h => ?_)
  · obtain ⟨v, b, rfl, _⟩ := h
    rfl
  · obtain ⟨v, b, rfl, k, qy, qn⟩ := h
    obtain ⟨t1, hl⟩ := T.least
    obtain ⟨t2, hm⟩ := T.most
    refine ⟨_, pss_one (ps_if (PW.pt (pw_or (pt_not (pt_val (pe_call GI hr (by rfl) T.isInt T.kInt bI .nil pass0 (pa_cons (pv 0) pa_nil)))) (pw_or1 (pt_not (pt_chain op_le op_le (pe_glob (by rfl) hl (v := .int 2) ⟨_, rfl⟩) (pv 0) (pe_glob (by rfl) hm (v := .int 10) ⟨_, rfl⟩))))))
      (pss_one (ps_raise rfl (takes_of rfl rfl rfl rfl) (pmk_mks M T.sup hr (by simp) (pa_cons (pv 0) pa_nil) (by rfl) gC))) pss_nil), ?_⟩
    cases k with
    | int i =>
      refine s_when (b := !(decide (2 ≤ i) && decide (i ≤ 10))) (et_is (et_or (et_not (et_B (ev_callI (ev_var rfl) (.int i)))) fun _ => et_not (et_test (ev_chI ev_c (ev_var rfl) ev_c))) (by simp)) (fun z H1 e => ?_) (fun z H1 e => qy (by simpa using z) H1 e)
      exact ⟨_, rfl, rfl, fun d hd => qn (by rw [Bool.not_eq_true'] at z; exact z) H1 d e hd⟩
    | oth h =>
      refine s_when (b := true) (et_is (et_or (b := true) (et_not (et_B (ev_callI (ev_var rfl) h))) fun z => nomatch z) (by simp)) (fun z H1 e => ?_) (fun z => nomatch z)
      exact ⟨_, rfl, rfl, fun d hd => qn rfl H1 d e hd⟩
/-- digits(base, number) -/
def spDigits (K : PySem.W.Frag) (ca : Nat → Addr) : Sp := fun vs H Q E => ∃ vb vn b c, vs = [vb, vn] ∧ Bs K H vb b ∧ Nm K H vn c ∧ (b = false → Leaves (ca 1) "value" vb H E) ∧ (b = true → c = false → Leaves (ca 2) "value" vn H E) ∧
  (b = true → c = true → ∃ β n : Nat, vb = .int β ∧ vn = .int n ∧ 2 ≤ β ∧ β ≤ 10 ∧ 1 ≤ n ∧ n < 2 ^ 50000 ∧ RetV (.str (digs β n)) H Q)
theorem scDigits : FnScope ["base", "number", "figures", "figure"] ["base", "number"] (defScope sDigits) := ⟨rfl, rfl, rfl, by decide +kernel, rfl, by decide +kernel, by decide +kernel⟩
theorem ok_digits {f : Addr} {fd fdb fdn : FuncData} (F : Fun K "digits" "digits" sDigits f fd) (GB : FnOk P w K mg base (L2.CX P w) 3 fnb fdb ["base"] (spNeed (Bs K) (ca 1))) (bB : Binds K fdb ["base"] [])
    (GN : FnOk P w K mg base (L2.CX P w) 3 fnn fdn ["number"] (spNeed (Nm K) (ca 2))) (bN : Binds K fdn ["number"] []) (T : TxF K mg fi fnum fnb fnn fdg) : FnOk P w K mg base (L2.CX P w) 4 f fd ["base", "number"] (spDigits K ca) := by
  refine F.okX scDigits (fun vs H Q E h => ?_) (fun cdv A outer s H vs Q E hr h => ?_)
  · obtain ⟨v, _, _, _, rfl, _⟩ := h
    rfl
  · obtain ⟨vb, vn, b, c, rfl, kb, kn, l1, l2, hq⟩ := h
    obtain ⟨t1, hf⟩ := T.fig
    refine ⟨_, pss_cons (ps_expr (pe_callS GB hr (by rfl) T.needB T.kNB bB (fun σ => passAt (takes_of rfl rfl rfl rfl) σ) (pa_cons (pv 0) pa_nil)))
      (pss_cons (ps_expr (pe_callS GN hr (by rfl) T.needN T.kNN bN (fun σ => passAt (takes_of rfl rfl rfl rfl) σ) (pa_cons (pv 1) pa_nil)))
      (pss_cons (ps_set (i := 2) scDigits.nd rfl (.inl rfl) (pe_lst pa_nil))
      (pss_cons (ps_while (passes_of rfl) (pt_cmpR op_gt (pv 1) pe_int (nomark _))
        (pss_cons (ps_asg (pe_callB call_divmod (by rfl) T.divmod (by decide +kernel) (pa_cons (pv 1) (pa_cons (pv 0) pa_nil))) (pg_tup (by rfl) (pgs_cons (pg_name (i := 1) scDigits.nd rfl (.inl rfl)) (pgs_cons (pg_name (i := 3) scDigits.nd rfl (.inl rfl)) pgs_nil))))
          (pss_one (ps_expr (pe_bm PySem.F.plainAttrs_list PySem.F.slot_list_append PySem.F.type_list_append mt_append (pv 2) (pa_cons (pe_ix ix_str (pe_glob (by rfl) hf (v := .str "0123456789") ⟨_, rfl⟩) (pv 3) (fun _ _ => rfl)) pa_nil))))))
      (pss_one (ps_ret (pe_join pe_str (pe_back (pv 2)))))))), ?_⟩
    refine ⟨_, rfl, vb, b, rfl, kb, fun hb H1 e1 => ?_, fun hb => ?_⟩
    · refine ⟨_, rfl, vn, c, rfl, kn.ex e1, fun hc H2 e2 => ?_, fun hc => (l2 hb hc).go e1⟩
      obtain ⟨β, n, rfl, rfl, b2, b10, n1, nz, q⟩ := hq hb hc
      refine ⟨Nat.zero_le _, fun fl hfl => ?_⟩
      refine q_while (fun m σ' H' => ∃ (done : List Nat) (x3 : Option V), σ' = [some (.int β), some (.int (m : Int)), some (.ref fl), x3] ∧ H' fl = some (.lst (done.map fun d => V.str (fig d))) ∧ done ++ dl β m = dl β n ∧ Ex H2 H') n
        ⟨[], none, rfl, upd_same, rfl, Ex.new hfl⟩ (fun m σ' H' ⟨done, x3, hσ, hL, hd, ex⟩ => ⟨decide ((0 : Int) < (m : Int)), ?_, fun z H4 e4 => ?_, fun z H4 e4 => ?_⟩)
      · subst hσ
        exact et_test (ev_op (ev_var rfl) ev_c rv_I0)
      · subst hσ
        have m0 : 0 < m := by
          have := of_decide_eq_true z
          omega
        refine ⟨fun σ2 H5 => σ2 = [some (.int β), some (.int ((m / β : Nat) : Int)), some (.ref fl), some (.int ((m % β : Nat) : Int))] ∧ H5 fl = some (.lst ((done ++ [m % β]).map fun d => V.str (fig d))) ∧ Ex H2 H5, fun σ2 H5 ⟨a, b, c⟩ => ⟨m / β, Nat.div_lt_self m0 (by omega), done ++ [m % β], _, a, b, ?_, c⟩, ?_⟩
        · rw [List.append_assoc, List.singleton_append, ← dl_step (by omega) m0]
          exact hd
        · have hlt : m % β < 10 := Nat.lt_of_lt_of_le (Nat.mod_lt _ (by omega)) b10
          refine ⟨_, rfl, _, rfl, (m : Int), (β : Int), rfl, ⟨by omega, by omega⟩, fun p hp => ⟨p, _, rfl, st_of upd_same, rfl, _, _, rfl, _, _, rfl, rfl, ?_⟩⟩
          have hfl4 := (Ex.new (o := .tup [.int ((m : Int) / (β : Int)), .int ((m : Int) % (β : Int))]) hp) _ _ (e4 _ _ hL)
          refine s_app hfl4 (ev_var rfl) (ev_op (σ := [some (.int β), some (.int ((m / β : Nat) : Int)), some (.ref fl), some (.int ((m % β : Nat) : Int))]) ev_c (ev_var rfl) (rv_ixS (by decide) (figs_at hlt))) ?_ fun H5 e5 => ⟨rfl, ?_, ?_⟩
          · rw [List.length_map]
            have h1 := congrArg List.length hd
            rw [List.length_append] at h1
            have hz := dl_len b2 50000 n nz
            clear nz
            omega
          · rw [upd_same, List.map_append]
            rfl
          · exact ((ex.trans e4).trans ((Ex.new hp).trans e5)).mut hfl
      · subst hσ
        have m0 : m = 0 := by
          have := of_decide_eq_false z
          omega
        subst m0
        rw [dl_zero, List.append_nil] at hd
        subst hd
        refine ⟨⟨_, rfl⟩, _, rfl, fl, _, rfl, sq_of (e4 _ _ hL), fun p hp => ⟨"", p, ((dl β n).map fig).reverse, rfl, rfl, .inl (sq_of ?_), ?_, ?_⟩⟩
        · rw [upd_same, List.map_reverse, List.map_map]
          rfl
        · have h1 : ∀ l : List Nat, ((l.map fig).map (·.length)).sum = l.length := fun l => by
            induction l with
            | nil => rfl
            | cons d l ih =>
              simp only [List.map_cons, List.sum_cons, List.length_cons, ih]
              have : (fig d).length = 1 := rfl
              omega
          have hz := dl_len b2 50000 n nz
          clear nz
          rw [← List.map_reverse, h1, List.length_reverse]
          have e0 : ("" : Str).length = 0 := by decide
          rw [e0, Nat.mul_zero]
          omega
        · exact q _ (((e1.trans e2).trans ex).trans (e4.trans (Ex.new hp)))
    · exact l1 hb
end
end Dg

namespace Evl
open PySem L2
/-- a comprehension over the signs of a text -/
theorem el_lcS {x : Str} {σ : St} {H : Hp} {tl : TE} {te : TE} {j : Nat} {vs : List Nat} (v : Nat → V) (h : Ev tl σ H (.str x)) (hz : x.length ≤ 40000) (hw : ∀ y, wipe ((wipe σ vs).set j (some y)) vs = wipe σ vs)
    (he : ∀ (i c : Nat) H1, Ex H H1 → x.cps[i]? = some c → Ev te ((wipe σ vs).set j (some (.str ⟨#[c]⟩))) H1 (v c)) :
    EvL (tLc (iStr tl) (gName j) tYes te vs) σ H (x.cps.toList.map v) := fun H0 e Q q => h H0 e _ fun H1 e1 => ⟨x, rfl, fun D hD => by
  have sz : x.cps.toList.length = x.cps.size := Array.length_toList
  refine ⟨fun i m H' => m = x.cps.size - i ∧ i ≤ x.cps.size ∧ H' D = some (.lst ((x.cps.toList.take i).map v)) ∧ Ex H1 H', ⟨x.cps.size, by simp, Nat.zero_le _, by simp [upd_same], Ex.new hD⟩, ?_⟩
  rintro i m H' ⟨rfl, hi, hL, ex⟩
  by_cases hlt : i < x.cps.size
  · refine .inr ⟨hlt, fun H2 => H2 D = some (.lst ((x.cps.toList.take (i + 1)).map v)) ∧ Ex H1 H2, fun H2 ⟨a, b⟩ => ⟨x.cps.size - (i + 1), by omega, rfl, hlt, a, b⟩, fun y H2 hy => ?_⟩
    obtain ⟨rfl, c, hc, rfl⟩ := hy
    refine ⟨hw _, ?_⟩
    rw [show (tYes : TT) = fun _ H Q => Q true H from rfl]
    dsimp only
    rw [if_pos rfl]
    refine he i c H2 ((e.trans e1).trans ex) hc H2 (Ex.refl _) _ fun H4 e4 => ⟨_, e4 _ _ hL, ?_, ?_, ?_⟩
    · rw [List.length_map, List.length_take, sizeLine_eq]
      have : x.cps.size ≤ 40000 := hz
      omega
    · rw [upd_same, List.take_add_one, List.map_append]
      have : x.cps.toList[i]? = some c := by rw [Array.getElem?_toList]; exact hc
      rw [this]
      rfl
    · exact (ex.trans e4).mut hD
  · have e3 : i = x.cps.size := by omega
    subst e3
    refine .inl ⟨Nat.le_refl _, q D H' (fresh_back e1 hD) (e1.trans ex) ?_⟩
    rw [List.take_of_length_le (by rw [sz]; exact Nat.le_refl _)] at hL
    exact hL⟩
end Evl
namespace Dg
open PySem L2 Evl TL
theorem joinL_nil : ∀ ls : List (List Nat), joinL [] ls = ls.flatten
  | [] => rfl
  | [p] => by simp [joinL]
  | p :: q :: r => by simp [joinL, joinL_nil (q :: r)]
theorem flat_one : ∀ l : List Nat, (l.map fun d => [48 + d]).flatten = l.map (48 + ·)
  | [] => rfl
  | d :: l => by simp [flat_one l]
theorem tl_digs (b n : Nat) : tl (digs b n) = (dl b n).reverse.map (48 + ·) := by
  unfold digs
  rw [join_eq, tl_join]
  show joinL [] _ = _
  rw [joinL_nil, List.map_reverse, List.map_map]
  have e : (tl ∘ fig) = fun d => [48 + d] := funext fun d => rfl
  rw [e, ← List.map_reverse, flat_one]
theorem digs_len (b n : Nat) : (digs b n).length = (dl b n).length := by
  show (digs b n).cps.size = _
  rw [← Array.length_toList, show (digs b n).cps.toList = tl (digs b n) from rfl, tl_digs, List.length_map, List.length_reverse]
/-- whether a value is a text of 1 to so many digits of a base -/
def isFigs (β m : Nat) (x : Str) : Bool := (decide (1 ≤ x.length) && decide (x.length ≤ m)) && (tl x).all fun c => decide (48 ≤ c ∧ c < 48 + β)
def figsO (β m : Nat) : Option Str → Bool
  | some x => isFigs β m x
  | none => false
inductive Tx (K : PySem.W.Frag) (H : Hp) : V → Option Str → Prop
  | str (x : Str) : Tx K H (.str x) (some x)
  | oth {v : V} {a : String} (t : TyX K H v (.type a)) (h : kitB a "str" = some false) : Tx K H v none
theorem Tx.ex {K : PySem.W.Frag} {H H' : Hp} {v : V} {b : Option Str} (e : Ex H H') (k : Tx K H v b) : Tx K H' v b := by
  cases k with
  | str x => exact .str x
  | oth t h => exact .oth (tyx_ex e t) h
theorem cut_figs {β : Nat} (h2 : 2 ≤ β) (h10 : β ≤ 10) (c : Nat) : decide (c ∈ (cutS "0123456789" none (some (β : Int))).cps.toList) = decide (48 ≤ c ∧ c < 48 + β) := by
  have e : (cutS "0123456789" none (some (β : Int))).cps.toList = (List.range β).map (48 + ·) := by
    have cc : β = 2 ∨ β = 3 ∨ β = 4 ∨ β = 5 ∨ β = 6 ∨ β = 7 ∨ β = 8 ∨ β = 9 ∨ β = 10 := by omega
    rcases cc with rfl | rfl | rfl | rfl | rfl | rfl | rfl | rfl | rfl <;> decide +kernel
  rw [e]
  apply decide_eq_decide.mpr
  rw [List.mem_map]
  constructor
  · rintro ⟨a, ha, rfl⟩
    have := List.mem_range.mp ha
    omega
  · rintro ⟨a, b⟩
    exact ⟨c - 48, List.mem_range.mpr (by omega), by omega⟩
section
variable {P : Program} {w : World} {K : PySem.W.Frag} {mg : Str → Option Value} {base : Heap} {ca : Nat → Addr} {fi fnum fnb fnn fdg : Addr}
theorem ev_allL {σ : St} {H : Hp} {te : TE} {bs : List Bool} (h : EvL te σ H (bs.map V.bl)) : Ev (tCB (rAll K) (tCons te tNil)) σ H (.bl (bs.all id)) := fun H1 e Q q =>
  h H1 e _ fun p H2 hp e2 h2 => ⟨p, bs, rfl, sq_of h2, q H2 e2⟩
/-- length(base, number) -/
def spLength (K : PySem.W.Frag) (ca : Nat → Addr) : Sp := fun vs H Q E => ∃ vb vn b c, vs = [vb, vn] ∧ Bs K H vb b ∧ Nm K H vn c ∧ (b = false → Leaves (ca 1) "value" vb H E) ∧ (b = true → c = false → Leaves (ca 2) "value" vn H E) ∧
  (b = true → c = true → ∃ β n : Nat, vb = .int β ∧ vn = .int n ∧ 2 ≤ β ∧ β ≤ 10 ∧ 1 ≤ n ∧ n < 2 ^ 50000 ∧ RetV (.int (dl β n).length) H Q)
theorem scLength : FnScope ["base", "number"] ["base", "number"] (defScope sLength) := ⟨rfl, rfl, rfl, by decide +kernel, rfl, by decide +kernel, by decide +kernel⟩
theorem ok_length {f : Addr} {fd fdd : FuncData} (F : Fun K "length" "length" sLength f fd) (GD : FnOk P w K mg base (L2.CX P w) 4 fdg fdd ["base", "number"] (spDigits K ca)) (bD : Binds K fdd ["base", "number"] []) (T : TxF K mg fi fnum fnb fnn fdg) :
    FnOk P w K mg base (L2.CX P w) 5 f fd ["base", "number"] (spLength K ca) := by
  refine F.okX scLength (fun vs H Q E h => ?_) (fun cdv A outer s H vs Q E hr h => ?_)
  · obtain ⟨v, _, _, _, rfl, _⟩ := h
    rfl
  · obtain ⟨vb, vn, b, c, rfl, kb, kn, l1, l2, hq⟩ := h
    refine ⟨_, pss_one (ps_ret (pe_callB call_len_str (by rfl) T.len (by decide +kernel) (pa_cons (pe_callS GD hr (by rfl) T.digits T.kDg bD (fun σ => passAt (takes_of rfl rfl rfl rfl) σ) (pa_cons (pv 0) (pa_cons (pv 1) pa_nil))) pa_nil))), ?_⟩
    refine ⟨_, rfl, _, rfl, vb, vn, b, c, rfl, kb, kn, l1, l2, fun hb hc => ?_⟩
    obtain ⟨β, n, rfl, rfl, b2, b10, n1, nz, q⟩ := hq hb hc
    refine ⟨β, n, rfl, rfl, b2, b10, n1, nz, fun H1 e1 => ⟨_, rfl, ?_, ?_⟩⟩
    · rw [digs_len, sizeLine_eq]
      have hz := dl_len b2 50000 n nz
      clear nz q
      omega
    · rw [digs_len]
      exact q H1 e1
/-- is_figures(base, value, most) -/
def spIsFig (K : PySem.W.Frag) : Sp := fun vs H Q _ => ∃ (β m : Nat) (v : V) (o : Option Str), vs = [.int β, v, .int m] ∧ 2 ≤ β ∧ β ≤ 10 ∧ m ≤ 40000 ∧ Tx K H v o ∧ (∀ x, o = some x → x.length ≤ sizeLine) ∧ RetV (.bl (figsO β m o)) H Q
theorem scIsFig : FnScope ["base", "value", "most", "figure"] ["base", "value", "most"] (defScope sIsFig) := ⟨rfl, rfl, rfl, by decide +kernel, rfl, by decide +kernel, by decide +kernel⟩
theorem ok_isFig {f : Addr} {fd : FuncData} (F : Fun K "is_figures" "is_figures" sIsFig f fd) (T : TxG mg) (mA : mg "all" = none) : FnOk P w K mg base CX0 1 f fd ["base", "value", "most"] (spIsFig K) := by
  refine F.ok scIsFig (fun vs H Q E h => ?_) (fun cdv A outer s H vs Q E hr h => ?_)
  · obtain ⟨_, _, _, _, rfl, _⟩ := h
    rfl
  · obtain ⟨β, m, v, o, rfl, b2, b10, hm, k, hz, q⟩ := h
    obtain ⟨t1, hf⟩ := T.fig
    refine ⟨_, pss_cons (ps_if (PW.pt (pw_or (pt_not (pt_val (pe_callB call_isi (by rfl) T.isi (by decide +kernel) (pa_cons (pv 1) (pa_cons (pe_bltn (by rfl) T.str (by decide +kernel) (v := .ty "str") rfl) pa_nil))))) (pw_or1 (pt_not (pt_chain op_le op_le pe_int (pe_callB call_len_str (by rfl) T.len (by decide +kernel) (pa_cons (pv 1) pa_nil)) (pv 2)))))) (pss_one (ps_ret pe_bl)) pss_nil)
      (pss_one (ps_ret (pe_callB (cr_all rfl) (by rfl) mA (by decide +kernel) (pa_cons (pe_lc (own := [("figure", 3)]) (g := gName 3) (tt := tYes) rfl scIsFig.nd (pi_str (pv 1)) (blkOk_by (own := [("figure", 3)]) (N := ["base", "value", "most", "figure"]) (sc := defScope sIsFig) (by decide +kernel)) (fun _ _ _ _ _ => pg_name (i := 3) scIsFig.nd rfl (Or.inl rfl)) (fun _ _ _ _ _ => pts_nil)
        (fun _ _ _ _ _ => pe_cmpR op_in_sign (pv 3) (pe_slice (sl_str) (pe_glob (by rfl) hf (v := .str "0123456789") ⟨_, rfl⟩) po_none (po_some (pv 0))) (by rfl))) pa_nil)))), ?_⟩
    cases k with
    | oth t h =>
      exact q_when (b := true) (et_is (et_or (b := true) (et_not (et_B (ev_isi (ev_var rfl) t h))) fun z => nomatch z) (by simp)) (fun z H1 e => q H1 e) (fun z => nomatch z)
    | str x =>
      have hx := hz x rfl
      have eT : Ev (tCB (fun xs H Q => ∃ z : Str, xs = [.str z] ∧ z.length ≤ sizeLine ∧ Q (.int z.length) H) (tCons (tVar 1) tNil)) (L2.start ["base", "value", "most", "figure"] [.int β, .str x, .int m]) H (.int (x.length : Int)) :=
        ev_cb (ea_cons (ev_var rfl) ea_nil) fun H1 e Q q => ⟨x, rfl, hx, q _ (Ex.refl _)⟩
      refine q_when (b := !(decide ((1 : Int) ≤ (x.length : Int)) && decide ((x.length : Int) ≤ (m : Int)))) (et_is (et_or (et_not (et_B (ev_isi (r := true) (ev_var rfl) (.base (.str x)) (by decide +kernel)))) fun _ => et_not (et_test (ev_chI ev_c eT (ev_var rfl)))) (by simp)) (fun z H1 e => ?_) (fun z H1 e => ?_)
      · have e0 : isFigs β m x = false := by
          rw [Bool.not_eq_true'] at z
          unfold isFigs
          have : (decide (1 ≤ x.length) && decide (x.length ≤ m)) = false := by
            rw [← z]
            congr 1 <;> exact decide_eq_decide.mpr (by omega)
          rw [this, Bool.false_and]
        have q' := q
        dsimp only [figsO] at q'
        rw [e0] at q'
        exact q' H1 e
      · have z' : (decide ((1 : Int) ≤ (x.length : Int)) && decide ((x.length : Int) ≤ (m : Int))) = true := by simpa using z
        have hlen : x.length ≤ 40000 := by
          have := of_decide_eq_true (Bool.and_eq_true_iff.mp z').2
          omega
        have e1 : isFigs β m x = ((tl x).map fun c => decide (48 ≤ c ∧ c < 48 + β)).all id := by
          unfold isFigs
          have : (decide (1 ≤ x.length) && decide (x.length ≤ m)) = true := by
            rw [← z']
            congr 1 <;> exact decide_eq_decide.mpr (by omega)
          rw [this, Bool.true_and, List.all_map]
          rfl
        have q' := q
        dsimp only [figsO] at q'
        rw [e1] at q'
        refine s_ret (ev_allL (bs := (tl x).map fun c => decide (48 ≤ c ∧ c < 48 + β)) ?_) fun H2 e2 => q' H2 (e.trans e2)
        rw [List.map_map]
        refine el_lcS (v := fun c => V.bl (decide (48 ≤ c ∧ c < 48 + β))) (ev_var rfl) hlen (fun _ => rfl) (fun i c H2 e2 hc => ?_)
        refine ev_is (ev_op (ev_var rfl) (y := .str (cutS "0123456789" none (some (β : Int)))) (fun H3 e3 Q q => ⟨_, rfl, _, rfl, _, rfl, by decide, q H3 (Ex.refl _)⟩) (z := .bl (decide (c ∈ (cutS "0123456789" none (some (β : Int))).cps.toList))) (fun H3 e3 Q q => ⟨c, _, rfl, rfl, q H3 (Ex.refl _)⟩)) ?_
        rw [cut_figs b2 b10]
end
end Dg

/-! Things as data: what lies at the heap is that data; what a rule is, of data. -/
namespace Dt
open PySem L2 Evl Dg LamR LamX
open Dr (StAt SameB)
mutual
/-- the thing is that data, as the heap stands; texts are short -/
inductive Pt (H : Hp) : V → PyData → Prop
  | non : Pt H .non .none
  | bl (b : Bool) : Pt H (.bl b) (.bool b)
  | int (i : Int) : Pt H (.int i) (.int i)
  | str (x : Str) (h : x.length ≤ 3000) : Pt H (.str x) (.str x)
  | tup {a : Addr} {vs : List V} {ds : List PyData} : H a = some (.tup vs) → PtAll H vs ds → Pt H (.ref a) (.tuple ds)
  | lst {a : Addr} {vs : List V} {ds : List PyData} : H a = some (.lst vs) → PtAll H vs ds → Pt H (.ref a) (.list ds)
  | nil {a : Addr} : H a = some (.dK []) → Pt H (.ref a) (.dict [])
inductive PtAll (H : Hp) : List V → List PyData → Prop
  | nil : PtAll H [] []
  | cons {v : V} {d : PyData} {vs : List V} {ds : List PyData} : Pt H v d → PtAll H vs ds → PtAll H (v :: vs) (d :: ds)
end
mutual
theorem Pt.extN {H H' : Hp} (e : ExtN H H') : ∀ {v : V} {d : PyData}, Pt H v d → Pt H' v d
  | _, .none, h => by cases h; exact .non
  | _, .bool _, h => by cases h; exact .bl _
  | _, .int _, h => by cases h; exact .int _
  | _, .str _, h => by cases h with | str _ z => exact .str _ z
  | _, .tuple ds, h => by
    cases h with
    | tup hs ha => exact .tup (e _ _ hs (by simp)) (PtAll.extN e ha)
  | _, .list ds, h => by
    cases h with
    | lst hs ha => exact .lst (e _ _ hs (by simp)) (PtAll.extN e ha)
  | _, .dict _, h => by
    cases h with
    | nil hs => exact .nil (e _ _ hs (by simp))
theorem PtAll.extN {H H' : Hp} (e : ExtN H H') : ∀ {vs : List V} {ds : List PyData}, PtAll H vs ds → PtAll H' vs ds
  | _, [], h => by cases h; exact .nil
  | _, d :: ds, h => by
    cases h with
    | cons h1 h2 => exact .cons (Pt.extN e h1) (PtAll.extN e h2)
end
theorem Pt.ex {H H' : Hp} (e : Ex H H') {v : V} {d : PyData} (h : Pt H v d) : Pt H' v d := h.extN (ExtN.of e)
theorem PtAll.ex {H H' : Hp} (e : Ex H H') {vs : List V} {ds : List PyData} (h : PtAll H vs ds) : PtAll H' vs ds := h.extN (ExtN.of e)
def isI : PyData → Bool
  | .int _ => true
  | _ => false
mutual
/-- no list in it is a row of integers alone -/
def okD : PyData → Bool
  | .list ds => !(ds.all isI && !ds.isEmpty) && okDs ds
  | .tuple ds => okDs ds
  | _ => true
def okDs : List PyData → Bool
  | [] => true
  | d :: ds => okD d && okDs ds
end
theorem PtAll.ints {H : Hp} : ∀ {is : List Int} {ds : List PyData}, PtAll H (is.map V.int) ds → ds.all isI = true ∧ ds.length = is.length
  | [], ds, h => by
    cases h
    exact ⟨rfl, rfl⟩
  | i :: is, ds, h => by
    cases h with
    | cons h1 h2 =>
      obtain ⟨a, b⟩ := PtAll.ints h2
      cases h1
      exact ⟨by simp [isI, a], by simp [b]⟩
mutual
theorem Pt.same {H H' : Hp} {p c l : Addr} {n : Nat} {a : Int} (S : StAt H p c l n a) (e : SameB H H' p l) : ∀ {v : V} {d : PyData}, Pt H v d → okD d = true → Pt H' v d
  | _, .none, h, _ => by cases h; exact .non
  | _, .bool _, h, _ => by cases h; exact .bl _
  | _, .int _, h, _ => by cases h; exact .int _
  | _, .str _, h, _ => by cases h with | str _ z => exact .str _ z
  | _, .tuple ds, h, k => by
    cases h with
    | tup hs ha =>
      obtain ⟨ls, hl, _⟩ := S.l
      exact .tup (e _ _ hs (ne_of hs S.d (by intro z; cases z)) (ne_of hs hl (by intro z; cases z))) (PtAll.same S e ha (by rw [okD] at k; exact k))
  | _, .list ds, h, k => by
    cases h with
    | @lst a vs _ hs ha =>
      obtain ⟨ls, hl, hn⟩ := S.l
      rw [okD, Bool.and_eq_true] at k
      refine .lst (e _ _ hs (ne_of hs S.d (by intro z; cases z)) (fun z => ?_)) (PtAll.same S e ha k.2)
      rw [z, hl] at hs
      have hv : vs = ls.map V.int := by
        injection hs with hs
        injection hs with hs
        exact hs.symm
      rw [hv] at ha
      obtain ⟨q1, q2⟩ := PtAll.ints ha
      have n0 := S.n0
      have : ds.isEmpty = false := by
        cases ds with
        | nil =>
          rw [List.length_nil] at q2
          omega
        | cons _ _ => rfl
      rw [q1, this] at k
      exact absurd k.1 (by decide)
  | _, .dict _, h, _ => by
    cases h with
    | nil hs =>
      obtain ⟨ls, hl, _⟩ := S.l
      refine .nil (e _ _ hs (fun z => ?_) (ne_of hs hl (by intro z; cases z)))
      rw [z, S.d] at hs
      injection hs with hs
      injection hs with hs
      cases hs
theorem PtAll.same {H H' : Hp} {p c l : Addr} {n : Nat} {a : Int} (S : StAt H p c l n a) (e : SameB H H' p l) : ∀ {vs : List V} {ds : List PyData}, PtAll H vs ds → okDs ds = true → PtAll H' vs ds
  | _, [], h, _ => by cases h; exact .nil
  | _, d :: ds, h, k => by
    cases h with
    | cons h1 h2 =>
      rw [okDs, Bool.and_eq_true] at k
      exact .cons (Pt.same S e h1 k.1) (PtAll.same S e h2 k.2)
end
theorem PtAll.length {H : Hp} : ∀ {vs : List V} {ds : List PyData}, PtAll H vs ds → vs.length = ds.length
  | _, [], h => by cases h; rfl
  | _, d :: ds, h => by
    cases h with
    | cons h1 h2 => rw [List.length_cons, List.length_cons, PtAll.length h2]
theorem PtAll.get {H : Hp} : ∀ {vs : List V} {ds : List PyData}, PtAll H vs ds → ∀ {i : Nat} {d : PyData}, ds[i]? = some d → ∃ v, vs[i]? = some v ∧ Pt H v d
  | _, [], h, i, d, hd => by simp at hd
  | _, d :: ds, h, i, d', hd => by
    cases h with
    | cons h1 h2 =>
      cases i with
      | zero =>
        simp only [List.getElem?_cons_zero, Option.some.injEq] at hd
        subst hd
        exact ⟨_, rfl, h1⟩
      | succ i =>
        simp only [List.getElem?_cons_succ] at hd
        obtain ⟨v, hv, k⟩ := PtAll.get h2 hd
        exact ⟨v, by simpa using hv, k⟩
theorem PtAll.get2 {H : Hp} : ∀ {vs : List V} {ds : List PyData}, PtAll H vs ds → ∀ {i : Nat} {v : V}, vs[i]? = some v → ∃ d, ds[i]? = some d ∧ Pt H v d
  | _, [], h, i, v, hv => by
    cases h
    simp at hv
  | _, d :: ds, h, i, v', hv => by
    cases h with
    | cons h1 h2 =>
      cases i with
      | zero =>
        simp only [List.getElem?_cons_zero, Option.some.injEq] at hv
        subst hv
        exact ⟨_, rfl, h1⟩
      | succ i =>
        simp only [List.getElem?_cons_succ] at hv
        obtain ⟨d, hd, k⟩ := PtAll.get2 h2 hv
        exact ⟨d, by simpa using hd, k⟩
theorem PtAll.app {H : Hp} : ∀ {vs : List V} {ds : List PyData}, PtAll H vs ds → ∀ {ws : List V} {es : List PyData}, PtAll H ws es → PtAll H (vs ++ ws) (ds ++ es)
  | _, [], h, ws, es, k => by cases h; exact k
  | _, d :: ds, h, ws, es, k => by
    cases h with
    | cons h1 h2 => exact .cons h1 (PtAll.app h2 k)
theorem PtAll.take {H : Hp} : ∀ {vs : List V} {ds : List PyData}, PtAll H vs ds → ∀ n : Nat, PtAll H (vs.take n) (ds.take n)
  | _, [], h, n => by
    cases h
    rw [List.take_nil, List.take_nil]
    exact .nil
  | _, d :: ds, h, n => by
    cases h with
    | cons h1 h2 =>
      cases n with
      | zero => exact .nil
      | succ n =>
        rw [List.take_succ_cons, List.take_succ_cons]
        exact .cons h1 (PtAll.take h2 n)
/-- its type -/
def tyN : PyData → String
  | .none => "NoneType"
  | .bool _ => "bool"
  | .int _ => "int"
  | .str _ => "str"
  | .tuple _ => "tuple"
  | .list _ => "list"
  | .dict _ => "dict"
def isT : PyData → Bool
  | .tuple _ => true
  | _ => false
def isS : PyData → Bool
  | .str _ => true
  | _ => false
section
variable {K : PySem.W.Frag} {H : Hp} {v : V} {d : PyData}
theorem Pt.ty (h : Pt H v d) : TyX K H v (.type (tyN d)) := by
  cases h with
  | non => exact .base .non
  | bl b => exact .base (.bl b)
  | int i => exact .base (.int i)
  | str x _ => exact .base (.str x)
  | tup h _ => exact .base (.tup h)
  | lst h _ => exact .base (.lst h)
  | nil h => exact .base (.dK h)
theorem kit_tup (d : PyData) : kitB (tyN d) "tuple" = some (isT d) := by
  cases d <;> simp only [tyN, isT] <;> decide +kernel
theorem kit_str (d : PyData) : kitB (tyN d) "str" = some (isS d) := by
  cases d <;> simp only [tyN, isS] <;> decide +kernel
theorem Pt.kn (h : Pt H v d) : Kn K H v (isI d) := by
  have t : TyX K H v (.type (tyN d)) := h.ty
  cases h with
  | int i => exact .int i
  | non => exact .oth (x := false) (y := false) t (by show kitB "NoneType" "int" = _; decide +kernel) (by show kitB "NoneType" "bool" = _; decide +kernel) rfl
  | bl b => exact .oth (x := true) (y := true) t (by show kitB "bool" "int" = _; decide +kernel) (by show kitB "bool" "bool" = _; decide +kernel) rfl
  | str x _ => exact .oth (x := false) (y := false) t (by show kitB "str" "int" = _; decide +kernel) (by show kitB "str" "bool" = _; decide +kernel) rfl
  | tup h _ => exact .oth (x := false) (y := false) t (by show kitB "tuple" "int" = _; decide +kernel) (by show kitB "tuple" "bool" = _; decide +kernel) rfl
  | lst h _ => exact .oth (x := false) (y := false) t (by show kitB "list" "int" = _; decide +kernel) (by show kitB "list" "bool" = _; decide +kernel) rfl
  | nil h => exact .oth (x := false) (y := false) t (by show kitB "dict" "int" = _; decide +kernel) (by show kitB "dict" "bool" = _; decide +kernel) rfl
def txtD : PyData → Option Str
  | .str x => some x
  | _ => none
theorem Pt.tx (h : Pt H v d) : Tx K H v (txtD d) ∧ ∀ x, txtD d = some x → x.length ≤ sizeLine := by
  have t : TyX K H v (.type (tyN d)) := h.ty
  have k := kit_str d
  cases h with
  | str x z => exact ⟨.str x, fun y e => by
      cases e
      exact Nat.le_trans z (by rw [sizeLine_eq]; decide)⟩
  | non => exact ⟨.oth t k, fun y e => by cases e⟩
  | bl b => exact ⟨.oth t k, fun y e => by cases e⟩
  | int i => exact ⟨.oth t k, fun y e => by cases e⟩
  | tup h _ => exact ⟨.oth t k, fun y e => by cases e⟩
  | lst h _ => exact ⟨.oth t k, fun y e => by cases e⟩
  | nil h => exact ⟨.oth t k, fun y e => by cases e⟩
theorem ev_isiT {σ : St} {te : TE} (h : Ev te σ H v) (k : Pt H v d) : Ev (tCB (rIsi K) (tCons te (tCons (tC (.ty "tuple")) tNil))) σ H (.bl (isT d)) := ev_isi h k.ty (kit_tup d)
theorem ev_isiS {σ : St} {te : TE} (h : Ev te σ H v) (k : Pt H v d) : Ev (tCB (rIsi K) (tCons te (tCons (tC (.ty "str")) tNil))) σ H (.bl (isS d)) := ev_isi h k.ty (kit_str d)
end
/-- an integer from a least one to 6 -/
def sizeB (l : Int) : PyData → Bool
  | .int i => decide (l ≤ i) && decide (i ≤ 6)
  | _ => false
def intD : PyData → Int
  | .int i => i
  | _ => 0
def isN : PyData → Bool
  | .none => true
  | _ => false
def boundsB (a b : PyData) : Bool := sizeB 1 a && (isN b || sizeB (intD a) b)
def tupD : PyData → List PyData
  | .tuple ds => ds
  | _ => []
def eqS (w : Str) : PyData → Bool
  | .str x => decide (x = w)
  | _ => false
def begB (d : PyData) (w : Str) (n : Nat) : Bool := isT d && (decide ((tupD d).length = n) && eqS w ((tupD d).headD .none))
def at_ (i : Nat) (d : PyData) : PyData := (tupD d).getD i .none
def condB (β : Nat) (d : PyData) : Bool :=
  if begB d "ends" 2 = true then figsO β 2 (txtD (at_ 1 d)) else if begB d "near" 2 = true then sizeB 0 (at_ 1 d) else if (begB d "length" 3 || begB d "changed" 3) = true then boundsB (at_ 1 d) (at_ 2 d) else false
def keepB (d : PyData) : Bool := if (begB d "changed" 2 || begB d "last" 2) = true then sizeB 1 (at_ 1 d) else begB d "all" 1
def ruleB (β : Nat) (d : PyData) : Bool := isT d && (decide ((tupD d).length = 2) && (isT (at_ 0 d) && (decide ((tupD (at_ 0 d)).length ≤ 3) && ((tupD (at_ 0 d)).all (condB β) && keepB (at_ 1 d)))))
end Dt

/-! What the program's defs tell of data. -/
namespace Evl
open PySem L2
/-- a comprehension over a tuple -/
theorem el_lcT {K : PySem.W.Frag} {σ : St} {H : Hp} {t : TT} {te : TE} {a : Addr} {xs : List V} {tl : TE} {j : Nat} {vs : List Nat} (f : Nat → Bool) (v : Nat → V) (h : Ev tl σ H (.ref a)) (hx : SqT K H a xs) (hz : xs.length ≤ 40000) (hw : ∀ x, wipe ((wipe σ vs).set j (some x)) vs = wipe σ vs)
    (ht : ∀ (i : Nat) (x : V) H1, Ex H H1 → xs[i]? = some x → EvT t ((wipe σ vs).set j (some x)) H1 (f i)) (he : ∀ (i : Nat) (x : V) H1, Ex H H1 → xs[i]? = some x → f i = true → Ev te ((wipe σ vs).set j (some x)) H1 (v i)) :
    EvL (tLc (iTup K tl) (gName j) t te vs) σ H (given xs.length f v) := fun H0 e Q q => h H0 e _ fun H1 e1 => ⟨a, rfl, ⟨xs, ex_t (e.trans e1) hx⟩, fun Dl hD =>
  lc_tup (xs := xs) (Cw H1 f v Dl) ⟨hD, Ex.new hD, upd_same⟩ (fun i H' _ p => ex_t ((e.trans e1).trans p.2.1) hx) (fun i x H' hi p => ⟨hw x, cw_turn p (by have := (List.getElem?_eq_some_iff.mp hi).1; omega) (ht i x H1 (e.trans e1) hi) (fun hf => he i x H1 (e.trans e1) hi hf)⟩)
    (fun H' p => q Dl H' (fresh_back e1 p.1) (e1.trans p.2.1) p.2.2)⟩
theorem given_all {α : Type} (xs : List α) (g : α → V) (z : V) : given xs.length (fun _ => true) (fun i => match xs[i]? with | some x => g x | none => z) = xs.map g := by
  unfold given
  have e : (List.range xs.length).filter (fun _ => true) = List.range xs.length := List.filter_eq_self.mpr fun _ _ => rfl
  rw [e]
  apply List.ext_getElem?
  intro i
  rw [List.getElem?_map, List.getElem?_map]
  by_cases h : i < xs.length
  · have h1 : (List.range xs.length)[i]? = some i := by
      rw [List.getElem?_range h]
    rw [h1]
    simp [List.getElem?_eq_getElem h]
  · have h1 : (List.range xs.length)[i]? = none := List.getElem?_eq_none_iff.mpr (by rw [List.length_range]; omega)
    have h2 : xs[i]? = none := List.getElem?_eq_none_iff.mpr (by omega)
    rw [h1, h2]
    rfl
end Evl
namespace Dt
open PySem L2 Evl Dg LamR LamX
open Dr (StAt SameB)
abbrev sSize : Stmt := top 36
abbrev sBounds : Stmt := top 37
abbrev sBegins : Stmt := top 38
abbrev sCond : Stmt := top 39
abbrev sKeep : Stmt := top 40
abbrev sRule : Stmt := top 41
section
variable {K : PySem.W.Frag} {H : Hp} {v : V} {d : PyData}
theorem Pt.isN (h : Pt H v d) : decide (v = V.non) = Dt.isN d := by
  cases h <;> first | rfl | exact decide_eq_false (fun z => by cases z)
theorem sizeB_int {l : Int} (h : sizeB l d = true) (k : Pt H v d) : v = .int (intD d) := by
  cases k <;> first | rfl | cases h
/-- where it begins so, each of its places is there -/
theorem Pt.beg {w : Str} {n : Nat} (k : Pt H v d) (h : begB d w n = true) : ∃ a vs, v = .ref a ∧ H a = some (.tup vs) ∧ vs.length = n ∧ ∀ i, i < n → ∃ u, vs[i]? = some u ∧ Pt H u (at_ i d) := by
  unfold begB at h
  rw [Bool.and_eq_true, Bool.and_eq_true] at h
  obtain ⟨h1, h2, _⟩ := h
  cases k with
  | @tup a vs ds hs ha =>
    have hl : ds.length = n := of_decide_eq_true h2
    refine ⟨a, vs, rfl, hs, by rw [ha.length, hl], fun i hi => ?_⟩
    have hd : ds[i]? = some (at_ i (.tuple ds)) := by
      unfold at_ tupD
      rw [List.getD_eq_getElem?_getD, List.getElem?_eq_getElem (by omega)]
      rfl
    exact ha.get hd
  | _ => cases h1
end
section
variable {P : Program} {w : World} {K : PySem.W.Frag} {mg : Str → Option Value} {base : Heap} {ca : Nat → Addr}
def spSize : Sp := fun vs H Q _ => ∃ v d l, vs = [v, .int l] ∧ Pt H v d ∧ RetV (.bl (sizeB l d)) H Q
theorem scSize : FnScope ["value", "least"] ["value", "least"] (defScope sSize) := ⟨rfl, rfl, rfl, by decide +kernel, rfl, by decide +kernel, by decide +kernel⟩
theorem ok_size {f fi : Addr} {fd fdi : FuncData} (F : Fun K "is_size" "is_size" sSize f fd) (GI : FnOk P w K mg base CX0 1 fi fdi ["value"] (spIsInt K)) (bI : Binds K fdi ["value"] []) (T : TxI K mg fi) (hM : ∃ t, mg "MOST_SIZE" = some (.int 6 t)) :
    FnOk P w K mg base CX0 2 f fd ["value", "least"] spSize := by
  refine F.ok scSize (fun vs H Q E h => ?_) (fun cdv A outer s H vs Q E hr h => ?_)
  · obtain ⟨v, d, l, rfl, _⟩ := h
    rfl
  · obtain ⟨v, d, l, rfl, k, q⟩ := h
    obtain ⟨t, hm⟩ := hM
    refine ⟨_, pss_one (ps_ret (pe_and (pe_call GI hr (by rfl) T.isInt T.kInt bI .nil pass0 (pa_cons (pv 0) pa_nil)) (pe_one (pe_chain op_le op_le (pv 1) (pv 0) (pe_glob (by rfl) hm (v := .int 6) ⟨_, rfl⟩))))), ?_⟩
    have kn := k.kn (K := K)
    cases hd : isI d with
    | true =>
      cases k with
      | int i => exact s_ret (ev_is (ev_andV (ev_callI (ev_var rfl) (.int i)) (fun _ => ev_chI (ev_var rfl) (ev_var rfl) ev_c)) (by simp [sizeB])) fun H1 e => q H1 e
      | _ => cases hd
    | false =>
      have e : sizeB l d = false := by cases d <;> first | rfl | cases hd
      rw [e] at q
      rw [hd] at kn
      exact s_ret (ev_is (ev_andV (b := false) (ev_callI (ev_var rfl) kn) (fun z => nomatch z)) (by simp)) fun H1 e => q H1 e
theorem ev_size {σ : St} {H : Hp} {ta tb : TE} {v : V} {d : PyData} {l : Int} (ha : Ev ta σ H v) (hb : Ev tb σ H (.int l)) (k : Pt H v d) : Ev (tCall spSize [] E0 (tCons ta (tCons tb tNil))) σ H (.bl (sizeB l d)) :=
  ev_call (ea_cons ha (ea_cons hb ea_nil)) fun H1 e Q q E => ⟨v, d, l, rfl, k.ex e, fun H2 e2 => q H2 e2⟩
structure TxR (K : PySem.W.Frag) (mg : Str → Option Value) (fi fb ff fs fbd fbg fc fk : Addr) : Prop extends TxI K mg fi where
  needB : mg "need_base" = some (.ref fb)
  kNB : PySem.W.keepIn K (.ref fb) = true
  isFig : mg "is_figures" = some (.ref ff)
  kFig : PySem.W.keepIn K (.ref ff) = true
  size : mg "is_size" = some (.ref fs)
  kSz : PySem.W.keepIn K (.ref fs) = true
  bounds : mg "are_bounds" = some (.ref fbd)
  kBd : PySem.W.keepIn K (.ref fbd) = true
  begins : mg "begins" = some (.ref fbg)
  kBg : PySem.W.keepIn K (.ref fbg) = true
  cond : mg "is_condition" = some (.ref fc)
  kCd : PySem.W.keepIn K (.ref fc) = true
  keep : mg "is_keep" = some (.ref fk)
  kKp : PySem.W.keepIn K (.ref fk) = true
  tuple : mg "tuple" = none
  all : mg "all" = none
  msize : ∃ t, mg "MOST_SIZE" = some (.int 6 t)
  mconds : ∃ t, mg "MOST_CONDITIONS" = some (.int 3 t)
  mend : ∃ t, mg "MOST_ENDING" = some (.int 2 t)
variable {fi fb ff fs fbd fbg fc fk : Addr}
def spBounds : Sp := fun vs H Q _ => ∃ va vb a b, vs = [va, vb] ∧ Pt H va a ∧ Pt H vb b ∧ RetV (.bl (boundsB a b)) H Q
theorem scBounds : FnScope ["least", "most"] ["least", "most"] (defScope sBounds) := ⟨rfl, rfl, rfl, by decide +kernel, rfl, by decide +kernel, by decide +kernel⟩
theorem ok_bounds {f : Addr} {fd fds : FuncData} (F : Fun K "are_bounds" "are_bounds" sBounds f fd) (GS : FnOk P w K mg base CX0 2 fs fds ["value", "least"] spSize) (bS : Binds K fds ["value", "least"] []) (T : TxR K mg fi fb ff fs fbd fbg fc fk) :
    FnOk P w K mg base CX0 3 f fd ["least", "most"] spBounds := by
  refine F.ok scBounds (fun vs H Q E h => ?_) (fun cdv A outer s H vs Q E hr h => ?_)
  · obtain ⟨va, vb, a, b, rfl, _⟩ := h
    rfl
  · obtain ⟨va, vb, a, b, rfl, ka, kb, q⟩ := h
    refine ⟨_, pss_one (ps_ret (pe_and (pe_call GS hr (by rfl) T.size T.kSz bS .nil pass0 (pa_cons (pv 0) (pa_cons pe_int pa_nil)))
      (pe_one (pe_or (pe_cmpR op_isN (pv 1) pe_non (nomark _)) (pe_one (pe_call GS hr (by rfl) T.size T.kSz bS .nil pass0 (pa_cons (pv 1) (pa_cons (pv 0) pa_nil)))))))), ?_⟩
    refine s_ret (ev_andV (ev_size (ev_var rfl) ev_c ka) fun z => ev_orV (a := Dt.isN b) (ev_op (y := .non) (ev_var rfl) ev_c fun H1 e Q k => ⟨rfl, by rw [kb.isN]; exact k _ (Ex.refl _)⟩) fun _ => ?_) fun H1 e => q H1 e
    have hi := sizeB_int z ka
    subst hi
    exact ev_size (ev_var rfl) (ev_var rfl) kb
theorem ev_bounds {σ : St} {H : Hp} {ta tb : TE} {va vb : V} {a b : PyData} (ha : Ev ta σ H va) (hb : Ev tb σ H vb) (ka : Pt H va a) (kb : Pt H vb b) : Ev (tCall spBounds [] E0 (tCons ta (tCons tb tNil))) σ H (.bl (boundsB a b)) :=
  ev_call (ea_cons ha (ea_cons hb ea_nil)) fun H1 e Q q E => ⟨va, vb, a, b, rfl, ka.ex e, kb.ex e, fun H2 e2 => q H2 e2⟩
def spBegins : Sp := fun vs H Q _ => ∃ v d w n, vs = [v, .str w, .int ((n : Nat) : Int)] ∧ 1 ≤ n ∧ Pt H v d ∧ RetV (.bl (begB d w n)) H Q
theorem scBegins : FnScope ["value", "word", "many"] ["value", "word", "many"] (defScope sBegins) := ⟨rfl, rfl, rfl, by decide +kernel, rfl, by decide +kernel, by decide +kernel⟩
theorem ev_lenT {σ : St} {H : Hp} {te : TE} {a : Addr} {vs : List V} (h : Ev te σ H (.ref a)) (ht : H a = some (.tup vs)) : Ev (tCB (rLenS K) (tCons te tNil)) σ H (.int (vs.length : Int)) :=
  ev_cb (ea_cons h ea_nil) fun H1 e Q q => ⟨a, vs, rfl, .inr (st_of (e _ _ ht)), q _ (Ex.refl _)⟩
theorem ev_at {σ : St} {H : Hp} {te : TE} {a : Addr} {vs : List V} {i : Nat} {u : V} (h : Ev te σ H (.ref a)) (ht : H a = some (.tup vs)) (hu : vs[i]? = some u) : Ev (tOp (rIxT K) te (tC (.int (i : Int)))) σ H u :=
  ev_op h ev_c (rv_ixT (st_of ht) (atI_nat hu))
theorem ok_begins {f : Addr} {fd : FuncData} (F : Fun K "begins" "begins" sBegins f fd) (T : TxR K mg fi fb ff fs fbd fbg fc fk) : FnOk P w K mg base CX0 1 f fd ["value", "word", "many"] spBegins := by
  refine F.ok scBegins (fun vs H Q E h => ?_) (fun cdv A outer s H vs Q E hr h => ?_)
  · obtain ⟨v, d, w, n, rfl, _⟩ := h
    rfl
  · obtain ⟨v, d, x, n, rfl, n1, k, q⟩ := h
    refine ⟨_, pss_cons (ps_if (PW.pt (pw_or (pt_not (pt_val (pe_callB call_isi (by rfl) T.isi (by decide +kernel) (pa_cons (pv 0) (pa_cons (pe_bltn (by rfl) T.tuple (by decide +kernel) (v := .ty "tuple") rfl) pa_nil)))))
        (pw_or1 (pt_cmpR op_ne (pe_callB call_len_seq (by rfl) T.len (by decide +kernel) (pa_cons (pv 0) pa_nil)) (pv 2) (nomark _))))) (pss_one (ps_ret pe_bl)) pss_nil)
      (pss_one (ps_ret (pe_and (pe_callB call_isi (by rfl) T.isi (by decide +kernel) (pa_cons (pe_ix ix_tup (pv 0) pe_int (fun _ _ => rfl)) (pa_cons (pe_bltn (by rfl) T.str (by decide +kernel) (v := .ty "str") rfl) pa_nil)))
        (pe_one (pe_cmpR op_eq (pe_ix ix_tup (pv 0) pe_int (fun _ _ => rfl)) (pv 1) (nomark _)))))), ?_⟩
    cases hT : isT d with
    | false =>
      have e0 : begB d x n = false := by unfold begB; rw [hT]; rfl
      rw [e0] at q
      exact q_when (b := true) (et_is (et_or (b := true) (et_not (et_B (ev_is (w := .bl false) (ev_isiT (ev_var rfl) k) (by rw [hT])))) fun z => nomatch z) (by simp)) (fun z H1 e => q H1 e) (fun z => nomatch z)
    | true =>
      cases k with
      | @tup a us ds hs ha =>
        have hl := ha.length
        refine q_when (b := !decide (ds.length = n)) (et_is (et_or (et_not (et_B (ev_isiT (d := .tuple ds) (ev_var rfl) (.tup hs ha)))) fun _ => et_test (ev_op (ev_lenT (ev_var rfl) hs) (ev_var rfl) (rv_ne rfl))) (by
          simp only [isT, Bool.not_true, Bool.false_or]
          congr 1
          refine decide_eq_decide.mpr ⟨fun z => ?_, fun z => ?_⟩
          · injection z with z
            omega
          · rw [show (us.length : Int) = (n : Int) by omega])) (fun z H1 e => ?_) (fun z H1 e => ?_)
        · have e0 : begB (.tuple ds) x n = false := by
            unfold begB tupD
            rw [Bool.not_eq_true'] at z
            rw [z]
            simp
          rw [e0] at q
          exact q H1 e
        · have z' : ds.length = n := by simpa using z
          cases ds with
          | nil =>
            rw [List.length_nil] at z'
            omega
          | cons d0 ds =>
            cases ha with
            | @cons u0 _ us _ k0 kr =>
              have hs1 := e _ _ hs
              have k1 := k0.ex e
              have e0 : begB (.tuple (d0 :: ds)) x n = (isS d0 && eqS x d0) := by
                unfold begB
                show (isT _ && (decide ((d0 :: ds).length = n) && eqS x d0)) = _
                rw [decide_eq_true z']
                cases d0 <;> simp [isT, isS, eqS]
              rw [e0] at q
              cases hS : isS d0 with
              | false =>
                rw [hS] at q
                exact s_ret (ev_is (ev_andV (b := false) (ev_is (w := .bl false) (ev_isiS (ev_at (i := 0) (ev_var rfl) hs1 rfl) k1) (by rw [hS])) (fun z => nomatch z)) (by simp)) fun H2 e2 => q H2 (e.trans e2)
              | true =>
                cases k0 with
                | str y hy =>
                  refine s_ret (ev_andV (ev_isiS (d := .str y) (ev_at (i := 0) (ev_var rfl) hs1 rfl) k1) (fun _ => ev_is (ev_op (ev_at (i := 0) (ev_var rfl) hs1 rfl) (ev_var rfl) (rv_eq rfl)) (w := .bl (decide (y = x))) ?_)) fun H2 e2 => q H2 (e.trans e2)
                  congr 1
                  refine decide_eq_decide.mpr ⟨fun z => ?_, fun z => ?_⟩
                  · injection z
                  · rw [z]
                | _ => cases hS
      | _ => cases hT
theorem ev_beg {σ : St} {H : Hp} {te : TE} {v : V} {d : PyData} {x : Str} {n : Nat} (h : Ev te σ H v) (k : Pt H v d) (n1 : 1 ≤ n) : Ev (tCall spBegins [] E0 (tCons te (tCons (tC (.str x)) (tCons (tC (.int (n : Int))) tNil)))) σ H (.bl (begB d x n)) :=
  ev_call (ea_cons h (ea_cons ev_c (ea_cons ev_c ea_nil))) fun H1 e Q q E => ⟨v, d, x, n, rfl, n1, k.ex e, fun H2 e2 => q H2 e2⟩
def spCond : Sp := fun vs H Q _ => ∃ (β : Nat) (v : V) (d : PyData), vs = [.int β, v] ∧ 2 ≤ β ∧ β ≤ 10 ∧ Pt H v d ∧ RetV (.bl (condB β d)) H Q
theorem scCond : FnScope ["base", "value"] ["base", "value"] (defScope sCond) := ⟨rfl, rfl, rfl, by decide +kernel, rfl, by decide +kernel, by decide +kernel⟩
theorem ok_cond {f : Addr} {fd fdf fds fdb fdg : FuncData} (F : Fun K "is_condition" "is_condition" sCond f fd) (GF : FnOk P w K mg base CX0 3 ff fdf ["base", "value", "most"] (spIsFig K)) (bF : Binds K fdf ["base", "value", "most"] [])
    (GS : FnOk P w K mg base CX0 3 fs fds ["value", "least"] spSize) (bS : Binds K fds ["value", "least"] []) (GB : FnOk P w K mg base CX0 3 fbd fdb ["least", "most"] spBounds) (bB : Binds K fdb ["least", "most"] [])
    (GG : FnOk P w K mg base CX0 3 fbg fdg ["value", "word", "many"] spBegins) (bG : Binds K fdg ["value", "word", "many"] []) (T : TxR K mg fi fb ff fs fbd fbg fc fk) :
    FnOk P w K mg base CX0 4 f fd ["base", "value"] spCond := by
  refine F.ok scCond (fun vs H Q E h => ?_) (fun cdv A outer s H vs Q E hr h => ?_)
  · obtain ⟨β, v, d, rfl, _⟩ := h
    rfl
  · obtain ⟨β, v, d, rfl, b2, b10, k, q⟩ := h
    obtain ⟨t, hm⟩ := T.mend
    refine ⟨_, pss_cons (ps_if (pt_val (pe_call GG hr (by rfl) T.begins T.kBg bG .nil pass0 (pa_cons (pv 1) (pa_cons pe_str (pa_cons pe_int pa_nil)))))
        (pss_one (ps_ret (pe_call GF hr (by rfl) T.isFig T.kFig bF .nil pass0 (pa_cons (pv 0) (pa_cons (pe_ix ix_tup (pv 1) pe_int (fun _ _ => rfl)) (pa_cons (pe_glob (by rfl) hm (v := .int 2) ⟨_, rfl⟩) pa_nil)))))) pss_nil)
      (pss_cons (ps_if (pt_val (pe_call GG hr (by rfl) T.begins T.kBg bG .nil pass0 (pa_cons (pv 1) (pa_cons pe_str (pa_cons pe_int pa_nil)))))
        (pss_one (ps_ret (pe_call GS hr (by rfl) T.size T.kSz bS .nil pass0 (pa_cons (pe_ix ix_tup (pv 1) pe_int (fun _ _ => rfl)) (pa_cons pe_int pa_nil))))) pss_nil)
      (pss_cons (ps_if (PW.pt (pw_or (pt_val (pe_call GG hr (by rfl) T.begins T.kBg bG .nil pass0 (pa_cons (pv 1) (pa_cons pe_str (pa_cons pe_int pa_nil))))) (pw_or1 (pt_val (pe_call GG hr (by rfl) T.begins T.kBg bG .nil pass0 (pa_cons (pv 1) (pa_cons pe_str (pa_cons pe_int pa_nil))))))))
        (pss_one (ps_ret (pe_call GB hr (by rfl) T.bounds T.kBd bB .nil pass0 (pa_cons (pe_ix ix_tup (pv 1) pe_int (fun _ _ => rfl)) (pa_cons (pe_ix ix_tup (pv 1) pe_int (fun _ _ => rfl)) pa_nil))))) pss_nil)
      (pss_one (ps_ret pe_bl)))), ?_⟩
    refine q_when (b := begB d "ends" 2) (et_B (ev_beg (n := 2) (ev_var rfl) k (by decide))) (fun z H1 e => ?_) (fun z H1 e => ?_)
    · have e0 : condB β d = figsO β 2 (txtD (at_ 1 d)) := by unfold condB; rw [if_pos z]
      rw [e0] at q
      obtain ⟨a, us, rfl, hs, _, hi⟩ := k.beg z
      obtain ⟨u, hu, ku⟩ := hi 1 (by decide)
      have k1 := (ku.ex e).tx (K := K)
      exact s_ret (ev_call (ea_cons (ev_var rfl) (ea_cons (ev_at (i := 1) (ev_var rfl) (e _ _ hs) hu) (ea_cons ev_c ea_nil))) fun H2 e2 Q2 q2 E2 => ⟨β, 2, u, _, rfl, b2, b10, by decide, k1.1.ex e2, k1.2, fun H3 e3 => q2 H3 e3⟩) fun H2 e2 => q H2 (e.trans e2)
    · have k1 := k.ex e
      refine q_when (b := begB d "near" 2) (et_B (ev_beg (n := 2) (ev_var rfl) k1 (by decide))) (fun z2 H2 e2 => ?_) (fun z2 H2 e2 => ?_)
      · have e0 : condB β d = sizeB 0 (at_ 1 d) := by unfold condB; rw [if_neg (by rw [z]; decide), if_pos z2]
        rw [e0] at q
        obtain ⟨a, us, rfl, hs, _, hi⟩ := (k1.ex e2).beg z2
        obtain ⟨u, hu, ku⟩ := hi 1 (by decide)
        exact s_ret (ev_size (ev_at (i := 1) (ev_var rfl) hs hu) ev_c ku) fun H3 e3 => q H3 ((e.trans e2).trans e3)
      · have k2 := k1.ex e2
        refine q_when (b := (begB d "length" 3 || begB d "changed" 3)) (et_or (et_B (ev_beg (n := 3) (ev_var rfl) k2 (by decide))) fun _ => et_B (ev_beg (n := 3) (ev_var rfl) k2 (by decide))) (fun z3 H3 e3 => ?_) (fun z3 H3 e3 => ?_)
        · have e0 : condB β d = boundsB (at_ 1 d) (at_ 2 d) := by unfold condB; rw [if_neg (by rw [z]; decide), if_neg (by rw [z2]; decide), if_pos z3]
          rw [e0] at q
          have key : ∃ a us, v = .ref a ∧ H3 a = some (.tup us) ∧ us.length = 3 ∧ ∀ i, i < 3 → ∃ u, us[i]? = some u ∧ Pt H3 u (at_ i d) := by
            rcases Bool.or_eq_true_iff.mp z3 with y | y
            · exact (k2.ex e3).beg y
            · exact (k2.ex e3).beg y
          obtain ⟨a, us, rfl, hs, _, hi⟩ := key
          obtain ⟨u, hu, ku⟩ := hi 1 (by decide)
          obtain ⟨u2, hu2, ku2⟩ := hi 2 (by decide)
          exact s_ret (ev_bounds (ev_at (i := 1) (ev_var rfl) hs hu) (ev_at (i := 2) (ev_var rfl) hs hu2) ku ku2) fun H4 e4 => q H4 (((e.trans e2).trans e3).trans e4)
        · have e0 : condB β d = false := by unfold condB; rw [if_neg (by rw [z]; decide), if_neg (by rw [z2]; decide), if_neg (by rw [z3]; decide)]
          rw [e0] at q
          exact s_ret ev_c fun H4 e4 => q H4 (((e.trans e2).trans e3).trans e4)
def spKeep : Sp := fun vs H Q _ => ∃ v d, vs = [v] ∧ Pt H v d ∧ RetV (.bl (keepB d)) H Q
theorem scKeep : FnScope ["value"] ["value"] (defScope sKeep) := ⟨rfl, rfl, rfl, by decide +kernel, rfl, by decide +kernel, by decide +kernel⟩
theorem ok_keep {f : Addr} {fd fds fdg : FuncData} (F : Fun K "is_keep" "is_keep" sKeep f fd) 
    (GS : FnOk P w K mg base CX0 2 fs fds ["value", "least"] spSize) (bS : Binds K fds ["value", "least"] [])
    (GG : FnOk P w K mg base CX0 2 fbg fdg ["value", "word", "many"] spBegins) (bG : Binds K fdg ["value", "word", "many"] []) (T : TxR K mg fi fb ff fs fbd fbg fc fk) :
    FnOk P w K mg base CX0 3 f fd ["value"] spKeep := by
  refine F.ok scKeep (fun vs H Q E h => ?_) (fun cdv A outer s H vs Q E hr h => ?_)
  · obtain ⟨v, d, rfl, _⟩ := h
    rfl
  · obtain ⟨v, d, rfl, k, q⟩ := h
    refine ⟨_, pss_cons (ps_if (PW.pt (pw_or (pt_val (pe_call GG hr (by rfl) T.begins T.kBg bG .nil pass0 (pa_cons (pv 0) (pa_cons pe_str (pa_cons pe_int pa_nil))))) (pw_or1 (pt_val (pe_call GG hr (by rfl) T.begins T.kBg bG .nil pass0 (pa_cons (pv 0) (pa_cons pe_str (pa_cons pe_int pa_nil))))))))
        (pss_one (ps_ret (pe_call GS hr (by rfl) T.size T.kSz bS .nil pass0 (pa_cons (pe_ix ix_tup (pv 0) pe_int (fun _ _ => rfl)) (pa_cons pe_int pa_nil))))) pss_nil)
      (pss_one (ps_ret (pe_call GG hr (by rfl) T.begins T.kBg bG .nil pass0 (pa_cons (pv 0) (pa_cons pe_str (pa_cons pe_int pa_nil)))))), ?_⟩
    refine q_when (b := (begB d "changed" 2 || begB d "last" 2)) (et_or (et_B (ev_beg (n := 2) (ev_var rfl) k (by decide))) fun _ => et_B (ev_beg (n := 2) (ev_var rfl) k (by decide))) (fun z H1 e => ?_) (fun z H1 e => ?_)
    · have e0 : keepB d = sizeB 1 (at_ 1 d) := by unfold keepB; rw [if_pos z]
      rw [e0] at q
      have key : ∃ a us, v = .ref a ∧ H1 a = some (.tup us) ∧ us.length = 2 ∧ ∀ i, i < 2 → ∃ u, us[i]? = some u ∧ Pt H1 u (at_ i d) := by
        rcases Bool.or_eq_true_iff.mp z with y | y
        · exact (k.ex e).beg y
        · exact (k.ex e).beg y
      obtain ⟨a, us, rfl, hs, _, hi⟩ := key
      obtain ⟨u, hu, ku⟩ := hi 1 (by decide)
      exact s_ret (ev_size (ev_at (i := 1) (ev_var rfl) hs hu) ev_c ku) fun H3 e3 => q H3 (e.trans e3)
    · have e0 : keepB d = begB d "all" 1 := by unfold keepB; rw [if_neg (by rw [z]; decide)]
      rw [e0] at q
      exact s_ret (ev_beg (n := 1) (ev_var rfl) (k.ex e) (by decide)) fun H3 e3 => q H3 (e.trans e3)
def spRule (K : PySem.W.Frag) (ca : Nat → Addr) : Sp := fun vs H Q E => ∃ vb v d b, vs = [vb, v] ∧ Bs K H vb b ∧ Pt H v d ∧ (b = false → Leaves (ca 1) "value" vb H E) ∧ (b = true → ∃ β : Nat, vb = .int β ∧ 2 ≤ β ∧ β ≤ 10 ∧ RetV (.bl (ruleB β d)) H Q)
theorem scRule : FnScope ["base", "value", "conditions", "keep", "condition"] ["base", "value"] (defScope sRule) := ⟨rfl, rfl, rfl, by decide +kernel, rfl, by decide +kernel, by decide +kernel⟩
theorem ok_rule {f : Addr} {fd fdn fdc fdk : FuncData} (F : Fun K "is_rule" "is_rule" sRule f fd) (GN : FnOk P w K mg base (L2.CX P w) 4 fb fdn ["base"] (spNeed (Bs K) (ca 1))) (bN : Binds K fdn ["base"] [])
    (GC : FnOk P w K mg base CX0 4 fc fdc ["base", "value"] spCond) (bC : Binds K fdc ["base", "value"] []) (GK : FnOk P w K mg base CX0 4 fk fdk ["value"] spKeep) (bK : Binds K fdk ["value"] []) (T : TxR K mg fi fb ff fs fbd fbg fc fk) :
    FnOk P w K mg base (L2.CX P w) 5 f fd ["base", "value"] (spRule K ca) := by
  refine F.okX scRule (fun vs H Q E h => ?_) (fun cdv A outer s H vs Q E hr h => ?_)
  · obtain ⟨vb, v, d, b, rfl, _⟩ := h
    rfl
  · obtain ⟨vb, v, d, b, rfl, kb, k, l1, hq⟩ := h
    obtain ⟨t, hm⟩ := T.mconds
    refine ⟨_, pss_cons (ps_expr (pe_callS GN hr (by rfl) T.needB T.kNB bN (fun σ => passAt (takes_of rfl rfl rfl rfl) σ) (pa_cons (pv 0) pa_nil)))
      (pss_cons (ps_if (PW.pt (pw_or (pt_not (pt_val (pe_callB call_isi (by rfl) T.isi (by decide +kernel) (pa_cons (pv 1) (pa_cons (pe_bltn (by rfl) T.tuple (by decide +kernel) (v := .ty "tuple") rfl) pa_nil)))))
        (pw_or1 (pt_cmpR op_ne (pe_callB call_len_seq (by rfl) T.len (by decide +kernel) (pa_cons (pv 1) pa_nil)) pe_int (nomark _))))) (pss_one (ps_ret pe_bl)) pss_nil)
      (pss_cons (ps_asg (pv 1) (pg_tup (by rfl) (pgs_cons (pg_name (i := 2) scRule.nd rfl (.inl rfl)) (pgs_cons (pg_name (i := 3) scRule.nd rfl (.inl rfl)) pgs_nil))))
      (pss_cons (ps_if (PW.pt (pw_or (pt_not (pt_val (pe_callB call_isi (by rfl) T.isi (by decide +kernel) (pa_cons (pv 2) (pa_cons (pe_bltn (by rfl) T.tuple (by decide +kernel) (v := .ty "tuple") rfl) pa_nil)))))
        (pw_or1 (pt_cmpR op_gt (pe_callB call_len_seq (by rfl) T.len (by decide +kernel) (pa_cons (pv 2) pa_nil)) (pe_glob (by rfl) hm (v := .int 3) ⟨_, rfl⟩) (nomark _))))) (pss_one (ps_ret pe_bl)) pss_nil)
      (pss_one (ps_ret (pe_and (pe_callB (cr_all rfl) (by rfl) T.all (by decide +kernel) (pa_cons (pe_lc (own := [("condition", 4)]) (g := gName 4) (tt := tYes) rfl scRule.nd (pi_tup (pv 2)) (blkOk_by (own := [("condition", 4)]) (N := ["base", "value", "conditions", "keep", "condition"]) (sc := defScope sRule) (by decide +kernel))
          (fun _ _ _ _ _ => pg_name (i := 4) scRule.nd rfl (Or.inl rfl)) (fun _ _ _ _ _ => pts_nil)
          (fun _ _ _ _ _ => pe_call GC hr (by rfl) T.cond T.kCd bC .nil pass0 (pa_cons (pv 0) (pa_cons (pv 4) pa_nil)))) pa_nil))
        (pe_one (pe_call GK hr (by rfl) T.keep T.kKp bK .nil pass0 (pa_cons (pv 3) pa_nil))))))))), ?_⟩
    refine ⟨_, rfl, vb, b, rfl, kb, fun hb H1 e1 => ?_, fun hb => l1 hb⟩
    obtain ⟨β, rfl, b2, b10, q⟩ := hq hb
    have k1 := k.ex e1
    cases hT : isT d with
    | false =>
      have e0 : ruleB β d = false := by unfold ruleB; rw [hT]; rfl
      rw [e0] at q
      exact q_when (b := true) (et_is (et_or (b := true) (et_not (et_B (ev_is (w := .bl false) (ev_isiT (ev_var rfl) k1) (by rw [hT])))) fun z => nomatch z) (by simp)) (fun z H2 e => q H2 (e1.trans e)) (fun z => nomatch z)
    | true =>
      cases k1 with
      | @tup a us ds hs ha =>
        have hl := ha.length
        refine q_when (b := !decide (ds.length = 2)) (et_is (et_or (et_not (et_B (ev_isiT (d := .tuple ds) (ev_var rfl) (.tup hs ha)))) fun _ => et_test (ev_op (ev_lenT (ev_var rfl) hs) ev_c (rv_ne rfl))) (by
          simp only [isT, Bool.not_true, Bool.false_or]
          congr 1
          refine decide_eq_decide.mpr ⟨fun z => ?_, fun z => ?_⟩
          · injection z with z
            omega
          · rw [show (us.length : Int) = 2 by omega])) (fun z H2 e2 => ?_) (fun z H2 e2 => ?_)
        · have e0 : ruleB β (.tuple ds) = false := by
            unfold ruleB tupD
            rw [Bool.not_eq_true'] at z
            simp only [z]
            simp
          rw [e0] at q
          exact q H2 (e1.trans e2)
        · have z' : ds.length = 2 := by simpa using z
          match ds, us, ha, z' with
          | [cd, kd], _, .cons (v := vc) kc (.cons (v := vk) kk .nil), _ =>
            have hs2 := e2 _ _ hs
            have kc2 := kc.ex e2
            have kk2 := kk.ex e2
            have e0 : ruleB β (.tuple [cd, kd]) = (isT cd && (decide ((tupD cd).length ≤ 3) && ((tupD cd).all (condB β) && keepB kd))) := rfl
            rw [e0] at q
            refine ⟨_, rfl, a, _, rfl, st_of hs2, rfl, _, _, rfl, _, _, rfl, rfl, ?_⟩
            cases hC : isT cd with
            | false =>
              rw [hC] at q
              exact q_when (b := true) (et_is (et_or (b := true) (et_not (et_B (ev_is (w := .bl false) (ev_isiT (ev_var rfl) kc2) (by rw [hC])))) fun z => nomatch z) (by simp)) (fun z H3 e => q H3 ((e1.trans e2).trans e)) (fun z => nomatch z)
            | true =>
              cases kc2 with
              | @tup ac ws cs hcs hca =>
                have hcl := hca.length
                refine q_when (b := !decide (cs.length ≤ 3)) (et_is (et_or (et_not (et_B (ev_isiT (d := .tuple cs) (ev_var rfl) (.tup hcs hca)))) fun _ => et_test (ev_op (ev_lenT (ev_var rfl) hcs) ev_c rv_I0)) (by
                  simp only [isT, Bool.not_true, Bool.false_or]
                  by_cases h : cs.length ≤ 3
                  · rw [decide_eq_true h, decide_eq_false (by omega)]
                    rfl
                  · rw [decide_eq_false h, decide_eq_true (by omega)]
                    rfl)) (fun z3 H3 e3 => ?_) (fun z3 H3 e3 => ?_)
                · rw [Bool.not_eq_true'] at z3
                  unfold tupD at q
                  simp only [z3, Bool.false_and, Bool.and_false] at q
                  exact q H3 ((e1.trans e2).trans e3)
                · have z4 : cs.length ≤ 3 := by simpa using z3
                  unfold tupD at q
                  simp only [decide_eq_true z4, isT, Bool.true_and] at q
                  have eL : EvL (tLc (iTup K (tVar 2)) (gName 4) tYes (tCall spCond [] E0 (tCons (tVar 0) (tCons (tVar 4) tNil))) [4]) [some (.int β), some (.ref a), some (.ref ac), some vk, none] H3 ((cs.map (condB β)).map V.bl) := by
                    rw [List.map_map, ← given_all cs (V.bl ∘ condB β) .non, ← hcl]
                    refine el_lcT (fun _ => true) _ (ev_var rfl) (st_of (e3 _ _ hcs)) (by omega) (fun _ => rfl) (fun i x H4 e4 hx => fun H5 e5 Q5 q5 => q5 H5 (Ex.refl _)) (fun i x H4 e4 hx _ => ?_)
                    obtain ⟨dd, hd, kd'⟩ := hca.get2 hx
                    rw [hd]
                    exact ev_call (ea_cons (ev_var rfl) (ea_cons (ev_var rfl) ea_nil)) fun H5 e5 Q5 q5 E5 => ⟨β, x, dd, rfl, b2, b10, (kd'.ex (e3.trans e4)).ex e5, fun H6 e6 => q5 H6 e6⟩
                  refine s_ret (ev_andV (ev_is (ev_allL eL) (w := .bl (cs.all (condB β))) (by rw [List.all_map]; rfl)) fun _ => ev_call (ea_cons (ev_var rfl) ea_nil) fun H5 e5 Q5 q5 E5 => ⟨vk, kd, rfl, (kk2.ex e3).ex e5, fun H6 e6 => q5 H6 e6⟩) fun H4 e4 => q H4 (((e1.trans e2).trans e3).trans e4)
              | _ => cases hC
      | _ => cases hT
end
end Dt

/-! Displays as data; the law's drawn rules. -/
namespace Dt
open PySem L2 Evl Dg LamR LamX
open Dr (StAt SameB)
/-- a value that is that data -/
def EvP (te : TE) (σ : St) (H : Hp) (D : PyData) : Prop := ∀ H1, Ex H H1 → ∀ Q : VK, (∀ v H2, Ex H1 H2 → Pt H2 v D → Q v H2) → te σ H1 Q
def EvPA (ta : TA) (σ : St) (H : Hp) (Ds : List PyData) : Prop := ∀ H1, Ex H H1 → ∀ Q : List V → Hp → Prop, (∀ vs H2, Ex H1 H2 → PtAll H2 vs Ds → Q vs H2) → ta σ H1 Q
section
variable {K : PySem.W.Frag} {σ : St} {H : Hp} {te ta tb : TE} {D E : PyData} {Ds Es : List PyData}
theorem ep_c {v : V} (h : ∀ H, Pt H v D) : EvP (tC v) σ H D := fun H1 _ _ q => q v H1 (Ex.refl H1) (h H1)
theorem ep_v {v : V} (h : Ev te σ H v) (k : Pt H v D) : EvP te σ H D := fun H1 e Q q => h H1 e Q fun H2 e2 => q v H2 e2 (k.ex (e.trans e2))
theorem ep_non : EvP (tC .non) σ H .none := ep_c fun _ => .non
theorem ep_bl {b : Bool} : EvP (tC (.bl b)) σ H (.bool b) := ep_c fun _ => .bl b
theorem ep_int {i : Int} : EvP (tC (.int i)) σ H (.int i) := ep_c fun _ => .int i
theorem ep_str {x : Str} (h : x.length ≤ 3000) : EvP (tC (.str x)) σ H (.str x) := ep_c fun _ => .str x h
theorem epa_nil : EvPA tNil σ H [] := fun H1 _ _ q => q [] H1 (Ex.refl H1) .nil
theorem epa_cons {tr : TA} (h : EvP te σ H D) (hr : EvPA tr σ H Ds) : EvPA (tCons te tr) σ H (D :: Ds) := fun H1 e _ q =>
  h H1 e _ fun v H2 e2 k => hr H2 (e.trans e2) _ fun vs H3 e3 ks => q (v :: vs) H3 (e2.trans e3) (.cons (k.ex e3) ks)
theorem ep_tup {ta : TA} (h : EvPA ta σ H Ds) (hl : Ds.length ≤ 100000) : EvP (tTup ta) σ H (.tuple Ds) := fun H1 e _ q =>
  h H1 e _ fun vs H2 e2 ks => ⟨sz_of (by rw [ks.length]; exact hl), fun p hp => q (.ref p) _ (e2.trans (Ex.new hp)) (.tup upd_same (ks.ex (Ex.new hp)))⟩
theorem ep_lst {ta : TA} (h : EvPA ta σ H Ds) (hl : Ds.length ≤ 100000) : EvP (tLst ta) σ H (.list Ds) := fun H1 e _ q =>
  h H1 e _ fun vs H2 e2 ks => ⟨sz_of (by rw [ks.length]; exact hl), fun p hp => q (.ref p) _ (e2.trans (Ex.new hp)) (.lst upd_same (ks.ex (Ex.new hp)))⟩
theorem ep_cat (ha : EvP ta σ H (.list Ds)) (hb : EvP tb σ H (.list Es)) (hl : Ds.length + Es.length ≤ 100000) : EvP (tOp rCat ta tb) σ H (.list (Ds ++ Es)) := fun H1 e _ q =>
  ha H1 e _ fun v H2 e2 k => hb H2 (e.trans e2) _ fun w H3 e3 k3 => by
    cases k with
    | @lst a vs _ ha hv =>
      cases k3 with
      | @lst b ws _ hb hw =>
        exact ⟨a, b, vs, ws, rfl, rfl, e3 _ _ ha, hb, sz_of (by rw [hv.length, hw.length]; exact hl), fun p hp => q (.ref p) _ ((e2.trans e3).trans (Ex.new hp)) (.lst upd_same (((hv.ex e3).app hw).ex (Ex.new hp)))⟩
theorem ep_if {t : TT} {b : Bool} (h : EvT t σ H b) (h1 : b = true → EvP ta σ H D) (h2 : b = false → EvP tb σ H D) : EvP (tIf t ta tb) σ H D := fun H1 e Q q => h H1 e _ fun H2 e2 => by
  cases b with
  | true => exact iteT (h1 rfl H2 (e.trans e2) _ fun v H3 e3 k => q v H3 (e2.trans e3) k)
  | false => exact iteF (h2 rfl H2 (e.trans e2) _ fun v H3 e3 k => q v H3 (e2.trans e3) k)
theorem s_retP {DD : Ends} (h : EvP te σ H D) (k : ∀ v H1, Ex H H1 → Pt H1 v D → DD.rt v H1) : tRet te DD σ H := h H (Ex.refl H) _ k
theorem s_asgP {DD : Ends} {i : Nat} (h : EvP te σ H D) (k : ∀ v H1, Ex H H1 → Pt H1 v D → DD.nx (σ.set i (some v)) H1) : tAsg te (gName i) DD σ H := h H (Ex.refl H) _ fun v H1 e kk => k v H1 e kk
theorem q_asgP {DD : Ends} {tz : TS} {i : Nat} (h : EvP te σ H D) (k : ∀ v H1, Ex H H1 → Pt H1 v D → tz DD (σ.set i (some v)) H1) : tSeq (tAsg te (gName i)) tz DD σ H := s_asgP (DD := { DD with nx := tz DD }) h k
end
theorem sameB_trans {H H1 H2 : Hp} {p l : Addr} (a : SameB H H1 p l) (b : SameB H1 H2 p l) : SameB H H2 p l := fun x o h h1 h2 => b x o (a x o h h1 h2) h1 h2
theorem sameB_ex {H H1 : Hp} {p l : Addr} (e : Ex H H1) : SameB H H1 p l := fun x o h _ _ => e x o h
mutual
/-- tuples and what is plain alone -/
def noL : PyData → Bool
  | .list _ => false
  | .dict _ => false
  | .tuple ds => noLs ds
  | _ => true
def noLs : List PyData → Bool
  | [] => true
  | d :: ds => noL d && noLs ds
end
mutual
theorem noL_ok : ∀ {d : PyData}, noL d = true → okD d = true
  | .none, _ => rfl
  | .bool _, _ => rfl
  | .int _, _ => rfl
  | .str _, _ => rfl
  | .tuple ds, h => by
    rw [okD]
    exact noLs_ok (by rw [noL] at h; exact h)
  | .list _, h => by rw [noL] at h; cases h
  | .dict _, h => by rw [noL] at h; cases h
theorem noLs_ok : ∀ {ds : List PyData}, noLs ds = true → okDs ds = true
  | [], _ => rfl
  | d :: ds, h => by
    rw [noLs, Bool.and_eq_true] at h
    rw [okDs, noL_ok h.1, noLs_ok h.2]
    rfl
end
theorem noLs_app : ∀ {ds es : List PyData}, noLs ds = true → noLs es = true → noLs (ds ++ es) = true
  | [], _, _, k => k
  | d :: ds, es, h, k => by
    rw [noLs, Bool.and_eq_true] at h
    show (noL d && noLs (ds ++ es)) = true
    rw [h.1, noLs_app h.2 k]
    rfl
/-- tuples stay -/
def TupK (H H' : Hp) : Prop := ∀ a xs, H a = some (.tup xs) → H' a = some (.tup xs)
theorem TupK.trans {H H1 H2 : Hp} (a : TupK H H1) (b : TupK H1 H2) : TupK H H2 := fun x xs h => b x xs (a x xs h)
theorem tupK_ex {H H' : Hp} (e : Ex H H') : TupK H H' := fun a xs h => e _ _ h
theorem tupK_same {H H' : Hp} {p c l : Addr} {n : Nat} {a : Int} (S : StAt H p c l n a) (e : SameB H H' p l) : TupK H H' := fun x xs h => by
  obtain ⟨ls, hl, _⟩ := S.l
  exact e _ _ h (ne_of h S.d (by intro z; cases z)) (ne_of h hl (by intro z; cases z))
theorem tupK_upd {H : Hp} {x : Addr} {ys zs : List V} (h : H x = some (.lst ys)) : TupK H (upd H x (.lst zs)) := fun a xs ha => by
  rw [upd_ne (ne_of ha h (by intro z; cases z))]
  exact ha
mutual
theorem Pt.tk {H H' : Hp} (e : TupK H H') : ∀ {v : V} {d : PyData}, Pt H v d → noL d = true → Pt H' v d
  | _, .none, h, _ => by cases h; exact .non
  | _, .bool _, h, _ => by cases h; exact .bl _
  | _, .int _, h, _ => by cases h; exact .int _
  | _, .str _, h, _ => by cases h with | str _ z => exact .str _ z
  | _, .tuple ds, h, k => by
    cases h with
    | tup hs ha => exact .tup (e _ _ hs) (PtAll.tk e ha (by rw [noL] at k; exact k))
  | _, .list _, _, k => by rw [noL] at k; cases k
  | _, .dict _, _, k => by rw [noL] at k; cases k
theorem PtAll.tk {H H' : Hp} (e : TupK H H') : ∀ {vs : List V} {ds : List PyData}, PtAll H vs ds → noLs ds = true → PtAll H' vs ds
  | _, [], h, _ => by cases h; exact .nil
  | _, d :: ds, h, k => by
    cases h with
    | cons h1 h2 =>
      rw [noLs, Bool.and_eq_true] at k
      exact .cons (Pt.tk e h1 k.1) (PtAll.tk e h2 k.2)
end
theorem off_of {H : Hp} {p c l x : Addr} {n : Nat} {a : Int} (S : StAt H p c l n a) (h : H x = none) : x ≠ p ∧ x ≠ l := by
  obtain ⟨ls, hls, _⟩ := S.l
  exact ⟨(ne_of_none S.d h).symm, (ne_of_none hls h).symm⟩
/-- one draw -/
theorem rd_draw {σ : St} {H : Hp} {te : TE} {Q : VK} {p c l : Addr} {n : Nat} {a m : Int} (h0 : σ[0]? = some (some (.ref p))) (hm : Ev te σ H (.int m)) (S : StAt H p c l n a) (nlc : l ≠ c) (ha : a < 2 ^ 39) (m0 : 0 < m) (m1 : m < 1073741824)
    (k : ∀ (r : Nat) (H' : Hp), (r : Int) < m → StAt H' p c l n (a + 1) → SameB H H' p l → Q (.int (r : Int)) H') : tCall Dr.spDraw [] E0 (tCons (tVar 0) (tCons te tNil)) σ H Q :=
  ⟨_, h0, hm H (Ex.refl H) _ fun H2 e2 => ⟨p, c, l, n, a, m, rfl, S.ex e2, nlc, ha, m0, m1, fun r H' r0 r1 S' sb nn => by
    obtain ⟨ρ, rfl⟩ : ∃ ρ : Nat, r = ρ := ⟨r.toNat, by omega⟩
    exact k ρ H' r1 S' (sameB_trans (sameB_ex e2) sb)⟩⟩
/-! what small data is, of rules -/
theorem beg2 (x w : Str) (d : PyData) : begB (.tuple [.str x, d]) w 2 = decide (x = w) := by simp [begB, isT, tupD, eqS]
theorem beg3 (x w : Str) (d e : PyData) : begB (.tuple [.str x, d, e]) w 3 = decide (x = w) := by simp [begB, isT, tupD, eqS]
theorem beg23 (x w : Str) (d : PyData) : begB (.tuple [.str x, d]) w 3 = false := by simp [begB, isT, tupD, eqS]
theorem beg32 (x w : Str) (d e : PyData) : begB (.tuple [.str x, d, e]) w 2 = false := by simp [begB, isT, tupD, eqS]
theorem keep_chg {s : Int} (h1 : 1 ≤ s) (h2 : s ≤ 6) : keepB (.tuple [.str "changed", .int s]) = true := by
  unfold keepB
  rw [beg2, decide_eq_true rfl]
  simp [at_, tupD, sizeB, h1, h2]
theorem keep_last {s : Int} (h1 : 1 ≤ s) (h2 : s ≤ 6) : keepB (.tuple [.str "last", .int s]) = true := by
  unfold keepB
  rw [beg2, beg2, decide_eq_true (p := ("last" : Str) = "last") rfl]
  simp [at_, tupD, sizeB, h1, h2]
theorem cond_ends {β : Nat} {x : Str} (h : isFigs β 2 x = true) : condB β (.tuple [.str "ends", .str x]) = true := by
  unfold condB
  rw [beg2, decide_eq_true rfl]
  simpa [at_, tupD, txtD, figsO] using h
theorem cond_near {β : Nat} {i : Int} (h1 : 0 ≤ i) (h2 : i ≤ 6) : condB β (.tuple [.str "near", .int i]) = true := by
  unfold condB
  rw [beg2, beg2, decide_eq_false (p := ("near" : Str) = "ends") (by decide +kernel), decide_eq_true (p := ("near" : Str) = "near") rfl]
  simp [at_, tupD, sizeB, h1, h2]
theorem cond_len {β : Nat} {x : Str} {i : Int} {d : PyData} (hx : x = "length" ∨ x = "changed") (h1 : 1 ≤ i) (h2 : i ≤ 6) (hd : d = .none ∨ ∃ j : Int, d = .int j ∧ i ≤ j ∧ j ≤ 6) : condB β (.tuple [.str x, .int i, d]) = true := by
  unfold condB
  rw [beg32, beg32, beg3, beg3]
  have e : (decide (x = "length") || decide (x = "changed")) = true := by
    rcases hx with rfl | rfl
    · rw [decide_eq_true rfl]; rfl
    · rw [decide_eq_true (p := ("changed" : Str) = "changed") rfl, Bool.or_true]
  rw [e]
  rcases hd with rfl | ⟨j, rfl, h3, h4⟩
  · simp [at_, tupD, boundsB, sizeB, intD, isN, h1, h2]
  · simp [at_, tupD, boundsB, sizeB, intD, isN, h1, h2, h3, h4]
theorem rule_mk {β : Nat} {cs : List PyData} {k : PyData} : ruleB β (.tuple [.tuple cs, k]) = (decide (cs.length ≤ 3) && (cs.all (condB β) && keepB k)) := rfl
section
variable {P : Program} {w : World} {K : PySem.W.Frag} {mg : Str → Option Value} {base : Heap} {fm fdr : Addr}
def spLKeep : Sp := fun vs H Q _ => ∃ (p c l : Addr) (n m : Nat) (a : Int), vs = [.ref p, .int m] ∧ StAt H p c l n a ∧ l ≠ c ∧ a < 2 ^ 39 - 100 ∧ 1 ≤ m ∧ m ≤ 6 ∧
  ∀ (v : V) (d : PyData) (H' : Hp), keepB d = true → noL d = true → Pt H' v d → StAt H' p c l n (a + 2) → SameB H H' p l → Q v H'
end
end Dt

/-! The law's drawn conditions. -/
namespace Dt
open PySem L2 Evl Dg LamR LamX TL
open Dr (StAt SameB)
theorem fig_at {r : Nat} (h : r < 10) : ("0123456789" : Str).cps.toList[r]? = some (48 + r) := by
  have cc : r = 0 ∨ r = 1 ∨ r = 2 ∨ r = 3 ∨ r = 4 ∨ r = 5 ∨ r = 6 ∨ r = 7 ∨ r = 8 ∨ r = 9 := by omega
  rcases cc with rfl | rfl | rfl | rfl | rfl | rfl | rfl | rfl | rfl | rfl <;> decide +kernel
section
variable {P : Program} {w : World} {K : PySem.W.Frag} {mg : Str → Option Value} {base : Heap} {fm fdr : Addr}
def spLCond : Sp := fun vs H Q _ => ∃ (p c l : Addr) (n β m : Nat) (a : Int), vs = [.ref p, .int β, .int m] ∧ StAt H p c l n a ∧ l ≠ c ∧ a < 2 ^ 39 - 100 ∧ 2 ≤ β ∧ β ≤ 10 ∧ 1 ≤ m ∧ m ≤ 6 ∧
  ∀ (v : V) (d : PyData) (H' : Hp) (b : Int), condB β d = true → noL d = true → Pt H' v d → a ≤ b → b ≤ a + 10 → StAt H' p c l n b → SameB H H' p l → Q v H'
end
end Dt

/-! The law's drawn rules. -/
namespace Dt
open PySem L2 Evl Dg LamR LamX TL
open Dr (StAt SameB)
section
variable {P : Program} {w : World} {K : PySem.W.Frag} {mg : Str → Option Value} {base : Heap} {fm fdr flc flk : Addr}
theorem stAt_upd {H : Hp} {p c l x : Addr} {n : Nat} {a : Int} {o : HO} (S : StAt H p c l n a) (h : x ≠ p ∧ x ≠ c ∧ x ≠ l) : StAt (upd H x o) p c l n a :=
  ⟨by rw [upd_ne h.1.symm]; exact S.d, let ⟨cs, k, z⟩ := S.c; ⟨cs, by rw [upd_ne h.2.1.symm]; exact k, z⟩, let ⟨ls, k, z⟩ := S.l; ⟨ls, by rw [upd_ne h.2.2.symm]; exact k, z⟩, S.n0, S.n1, S.a0⟩
theorem off3 {H : Hp} {p c l x : Addr} {n : Nat} {a : Int} (S : StAt H p c l n a) (h : H x = none) : x ≠ p ∧ x ≠ c ∧ x ≠ l := by
  obtain ⟨ls, hls, _⟩ := S.l
  obtain ⟨cs, hcs, _⟩ := S.c
  exact ⟨(ne_of_none S.d h).symm, (ne_of_none hcs h).symm, (ne_of_none hls h).symm⟩
theorem sameB_upd {H H' : Hp} {p l x : Addr} {o : HO} (e : SameB H H' p l) (h : H x = none) : SameB H (upd H' x o) p l := fun b u hb h1 h2 => by
  rw [upd_ne (ne_of_none hb h)]
  exact e b u hb h1 h2
/-- rules as a law draws them: so many with conditions, and a last one -/
def Rls (β : Nat) (Ds : List PyData) : Prop := ∃ Es k, Ds = Es ++ [.tuple [.tuple [], k]] ∧ keepB k = true ∧ Es.all (ruleB β) = true
theorem Rls.all {β : Nat} {Ds : List PyData} (h : Rls β Ds) : Ds.all (ruleB β) = true := by
  obtain ⟨Es, k, rfl, hk, he⟩ := h
  rw [List.all_append, he]
  show (ruleB β (.tuple [.tuple [], k]) && true) = true
  rw [rule_mk, hk]
  rfl
def spLRules : Sp := fun vs H Q _ => ∃ (p c l : Addr) (n β m y : Nat) (a : Int), vs = [.ref p, .int β, .int m, .int y] ∧ StAt H p c l n a ∧ l ≠ c ∧ a < 2 ^ 39 - 10000 ∧ 2 ≤ β ∧ β ≤ 10 ∧ 1 ≤ m ∧ m ≤ 6 ∧ y ≤ 8 ∧
  ∀ (v : V) (Ds : List PyData) (H' : Hp) (b : Int), Rls β Ds → Ds.length ≤ y + 1 → noLs Ds = true → Pt H' v (.tuple Ds) → a ≤ b → b ≤ a + 1000 → StAt H' p c l n b → SameB H H' p l → Q v H'
theorem Pt.tupI {H : Hp} {v : V} {ds : List PyData} (h : Pt H v (.tuple ds)) : ∃ a vs, v = .ref a ∧ H a = some (.tup vs) ∧ PtAll H vs ds := by
  cases h with
  | tup hs ha => exact ⟨_, _, rfl, hs, ha⟩
end
end Dt

/-! The end of a law whose defs make lambdas and call repr. -/
namespace LamR
open PySem PySem.Spec PyProof.Rows L2 LamX
/-- a table of code objects, still empty -/
abbrev bare : Obj := { cls := .none, data := .fields #[] }
/-- what is known where the law is called; cs: code objects with their tables -/
structure HeadAt (K : PySem.W.Frag) (mg mb : Str → Option Value) (cs : List (Addr × Addr)) (s : Shared) : Prop where
  kin : K.In s.heap
  glob : s.heap.Ns mainGlobals mg
  blt : s.heap.Ns builtinsNs mb
  boot : ∀ x : Str, x ≠ "__name__" → mb x = bootBuiltins x
  lim : s.heap.NoLimit
  gens : s.gens = #[]
  tab : ∀ p ∈ cs, s.heap.get? p.2 = some bare
  off : ∀ p ∈ cs, K.lookup p.2 = none
  cod : ∀ p ∈ cs, PySem.W.CodeHd s.heap p.1 p.2
  bmod : ∃ (m : Addr) (o : Obj), mg "__builtins__" = some (.ref m) ∧ m ≠ builtinsNs ∧ s.heap.get? m = some o ∧ o.cls = .type "module" ∧ o.dict = some builtinsNs ∧ o.data = .plain
/-- what is followed: the tables, and the script where the written part has it not -/
structure Hid (K : PySem.W.Frag) (cs : List (Addr × Addr)) (a : Addr) (H : Hp) : Prop where
  only : ∀ b, H b ≠ none → b = a ∨ ∃ p ∈ cs, b = p.2
  mine : H a = none ∨ (K.lookup a = none ∧ ∃ o xs, H a = some (.frz o (.lst xs)))
  tabs : ∀ p ∈ cs, H p.2 = some (.tbl #[])
section
variable {P : Program} {w : World} {K : PySem.W.Frag} {mg mb : Str → Option Value} {cs : List (Addr × Addr)} {s : Shared} {a : Addr} {H : Hp} {vs : List Value}
/-- neither a list nor an empty row of fields: it is not followed -/
theorem Hid.out (h : Hid K cs a H) (D : HeadAt K mg mb cs s) (ha : s.heap.get? a = some { cls := .type "list", data := .seq vs.toArray }) {b : Addr} {o : Obj} (e : s.heap.get? b = some o) (nl : ∀ us n, o.data ≠ .seq us n) (nf : o.data ≠ .fields #[]) : H b = none := by
  by_cases z : H b = none
  · exact z
  · exfalso
    rcases h.only b z with q | ⟨p, hp, q⟩ <;> subst q
    · cases ha.symm.trans e
      exact nl _ _ rfl
    · cases (D.tab p hp).symm.trans e
      exact nf rfl
theorem Hid.stays (h : Hid K cs a H) (D : HeadAt K mg mb cs s) (ha : s.heap.get? a = some { cls := .type "list", data := .seq vs.toArray }) {b : Addr} {o : Obj} (e : s.heap.get? b = some o) (nl : ∀ us n, o.data ≠ .seq us n) (nf : o.data ≠ .fields #[]) : (hidT s.heap H).get? b = some o := hidT_get e (h.out D ha e nl nf)
theorem Hid.names (h : Hid K cs a H) (D : HeadAt K mg mb cs s) (ha : s.heap.get? a = some { cls := .type "list", data := .seq vs.toArray }) {b : Addr} {m : Str → Option Value} (n : s.heap.Ns b m) : (hidT s.heap H).Ns b m := by
  obtain ⟨o, es, ep, e, d, r⟩ := n
  refine ⟨o, es, ep, h.stays D ha e (fun us n z => ?_) (fun z => ?_), d, r⟩ <;> cases d.symm.trans z
theorem Hid.frag (h : Hid K cs a H) (D : HeadAt K mg mb cs s) : K.In (hidT s.heap H) := fun b o e => by
  refine hidT_get (D.kin b o e) ?_
  by_cases z : H b = none
  · exact z
  · exfalso
    rcases h.only b z with q | ⟨p, hp, q⟩ <;> subst q
    · rcases h.mine with y | ⟨y, _⟩
      · exact z y
      · cases y.symm.trans e
    · cases (D.off p hp).symm.trans e
theorem Hid.table (h : Hid K cs a H) (D : HeadAt K mg mb cs s) (ha : s.heap.get? a = some { cls := .type "list", data := .seq vs.toArray }) : ∀ p ∈ cs, TabB (hidT s.heap H) mg p.1 p.2 := fun p hp => by
  have tp := D.tab p hp
  have gl := D.glob
  refine ⟨?_, ?_, fun z => ?_⟩
  · obtain ⟨o, us, file, tf, flags, tg, inF, text, tt, e1, k1, k2, k3, rest⟩ := D.cod p hp
    refine ⟨o, us, file, tf, flags, tg, inF, text, tt, h.stays D ha e1 (fun vs n z => ?_) (fun z => ?_), k1, k2, k3, rest⟩
    · cases k2.symm.trans z
    · cases k2.symm.trans z
      simp at k3
  · obtain ⟨m, o, y1, y2, y3, y4, y5, y6⟩ := D.bmod
    refine ⟨m, o, y1, y2, fun q => ?_, fun q => ?_, h.stays D ha y3 (fun vs n z => ?_) (fun z => ?_), y4, y5, y6⟩
    · obtain ⟨o', es, ep, e', d', _⟩ := gl
      subst q
      cases y3.symm.trans e'
      cases y6.symm.trans d'
    · subst q
      cases y3.symm.trans tp
      cases y6
    · cases y6.symm.trans z
    · cases y6.symm.trans z
  · obtain ⟨o', es, ep, e', d', _⟩ := gl
    rw [z] at e'
    cases tp.symm.trans e'
    cases d'
/-- the call of the law, at what is followed -/
theorem call_at {CX : CXT} {k : Nat} {fa : Addr} {fd : FuncData} {x : Str} {sp : Sp} (h : Hid K cs a H) (D : HeadAt K mg mb cs s) (ha : s.heap.get? a = some { cls := .type "list", data := .seq vs.toArray }) (ok : HOk P w H s.heap) (hr : RoomG k callerA)
    (F : ∀ base : Heap, K.In base → base.Ns mainGlobals mg → (∀ p ∈ cs, TabB base mg p.1 p.2) → FnG P w K mg base CX k fa fd [x] sp) (hb : BindsTo s fd ⟨[.ref a], []⟩ [(x, .ref a)]) (hsp : sp [.ref a] H (fun v _ => v = .bl true) fun _ _ _ => False) (hCX : ∀ e s', CX [] H s (fun _ _ _ => False) e s' → False) :
    codeAny (model P w) callerA (.call (.ref fa) ⟨[.ref a], []⟩) (fun r s' => r = .ok (.ret (.bool true)) ∧ OldK s.heap s'.heap ∧ s'.os = s.os ∧ AllBare s'.gens) s := by
  have fr := h.frag D
  have gl := h.names D ha D.glob
  obtain ⟨mc, lim1, lim2⟩ := D.lim
  have env : Env0 P w K mg (hidT s.heap H) callerA [] s H :=
    ⟨rfl, ⟨fr, gl, ⟨mb, h.names D ha D.blt, D.boot⟩, ⟨mc, h.names D ha lim1, lim2⟩⟩, fun b o e => of_hidT e, Nat.le_of_eq (hidT_size _ _), trivial, fun b z => absurd (show b ∈ ([] : List Addr) from z) (by simp), ok, .of_eq D.gens⟩
  refine codeAny_mono ((F _ fr gl (h.table D ha)).run callerA [] s H ⟨[.ref a], []⟩ [.ref a] [.ref a] _ _ hr env hb (.cons rfl .nil) hsp) fun r s' hq => ?_
  match r, hq with
  | .error e, hq => exact (hCX e s' hq).elim
  | .ok (.ret u), ⟨v, H', os, gens, un, ok', rel, q⟩ =>
    have q : v = .bl true := q
    subst q
    have rel : u = Value.bool true := rel
    subst rel
    -- what was there is there still, but for the tables, which may have grown
    have old : ∀ b o, (∀ p ∈ cs, b ≠ p.2) → s.heap.get? b = some o → s'.heap.get? b = some o := fun b o nb e => by
      by_cases z : H b = none
      · exact un.keep b o e z (fun y => absurd (show b ∈ ([] : List Addr) from y) (by simp)) (by simp)
      · rcases h.only b z with y | ⟨p, hp, y⟩
        · subst y
          rcases h.mine with y | ⟨_, ob, xs, y⟩
          · exact (z y).elim
          · have g1 := (ok b _ y).1
            have g2 := (ok' b _ (un.frzs b ob _ y)).1
            cases e.symm.trans g1
            exact g2
        · exact (nb p hp y).elim
    have more : ∀ p ∈ cs, ∃ us : Array Value, s'.heap.get? p.2 = some { cls := .none, data := .fields us } := fun p hp =>
      let ⟨us, y⟩ := un.tbls p.2 #[] (h.tabs p hp)
      ⟨_, ok' p.2 _ y⟩
    refine ⟨rfl, ⟨fun b o e => ?_, fun b o e => ?_⟩, os, gens⟩
    · by_cases y : ∃ p ∈ cs, b = p.2
      · obtain ⟨p, hp, rfl⟩ := y
        obtain ⟨us, g⟩ := more p hp
        have tp := D.tab p hp
        cases tp.symm.trans e
        exact .inr (.inl ⟨((D.cod p hp).tab tp).isCodeTable, rfl, #[], us, rfl, by rw [Array.empty_append]; exact g⟩)
      · exact .inl (old b o (fun p hp z => y ⟨p, hp, z⟩) e)
    · by_cases y : ∃ p ∈ cs, b = p.2
      · obtain ⟨p, hp, rfl⟩ := y
        obtain ⟨us, g⟩ := more p hp
        exact ⟨_, g⟩
      · exact ⟨o, old b o (fun p hp z => y ⟨p, hp, z⟩) e⟩
  | .ok .next, hq => exact False.elim hq
  | .ok .brk, hq => exact False.elim hq
  | .ok .cont, hq => exact False.elim hq
/-- the script is followed as a list that stays, or stands in the written part -/
theorem call_law {CX : CXT} {k : Nat} {fa : Addr} {fd : FuncData} {x : Str} {sp : Sp} {ns : List Int} (D : HeadAt K mg mb cs s) (ha : s.heap.get? a = some { cls := .type "list", data := .seq vs.toArray }) (hi : IntsAre vs ns) (hl : ns.length ≤ sizeLine) (hr : RoomG k callerA)
    (F : ∀ base : Heap, K.In base → base.Ns mainGlobals mg → (∀ p ∈ cs, TabB base mg p.1 p.2) → FnG P w K mg base CX k fa fd [x] sp) (hb : ∀ u : Value, BindsTo s fd ⟨[u], []⟩ [(x, u)])
    (hsp : ∀ H : Hp, (∀ p ∈ cs, H p.2 = some (.tbl #[])) → SqL K H a (ns.map V.int) → sp [.ref a] H (fun v _ => v = .bl true) fun _ _ _ => False) (hCX : ∀ H e s', CX [] H s (fun _ _ _ => False) e s' → False) :
    codeAny (model P w) callerA (.call (.ref fa) ⟨[.ref a], []⟩) (fun r s' => r = .ok (.ret (.bool true)) ∧ OldK s.heap s'.heap ∧ s'.os = s.os ∧ AllBare s'.gens) s := by
  have rel := vals_ints hi
  have na : ∀ p ∈ cs, p.2 ≠ a := fun p hp z => by
    have tp := D.tab p hp
    rw [z] at tp
    cases ha.symm.trans tp
  have tabled : ∀ b, (∃ p ∈ cs, b = p.2) → s.heap.get? b = some bare := fun b ⟨p, hp, z⟩ => by
    rw [z]
    exact D.tab p hp
  classical
  let own : Option HO := if K.lookup a = none then some (.frz { cls := .type "list", data := .seq vs.toArray } (.lst (ns.map V.int))) else none
  let H : Hp := fun b => if b = a then own else if ∃ p ∈ cs, b = p.2 then some (.tbl #[]) else none
  have Ha : H a = own := if_pos rfl
  have Ht : ∀ p ∈ cs, H p.2 = some (.tbl #[]) := fun p hp => (if_neg (na p hp)).trans (if_pos ⟨p, hp, rfl⟩)
  have Hid0 : Hid K cs a H := by
    refine ⟨fun b z => ?_, ?_, Ht⟩
    · by_cases y : b = a
      · exact .inl y
      · by_cases y2 : ∃ p ∈ cs, b = p.2
        · exact .inr y2
        · exact (z ((if_neg y).trans (if_neg y2))).elim
    · rw [Ha]
      by_cases y : K.lookup a = none
      · exact .inr ⟨y, _, _, if_pos y⟩
      · exact .inl (if_neg y)
  have seq : SqL K H a (ns.map V.int) := by
    cases y : K.lookup a with
    | none => exact .inl (.inr ⟨_, Ha.trans (if_pos y)⟩)
    | some o =>
      cases (D.kin a o y).symm.trans ha
      exact .inr ⟨_, vs.toArray, _, y, rfl, rfl, rfl, by rw [List.size_toArray, hi.length]; exact hl, by simpa using rel⟩
  have ok : HOk P w H s.heap := fun b u z => by
    by_cases y : b = a
    · subst y
      rw [Ha] at z
      by_cases y2 : K.lookup b = none
      · cases (if_pos y2).symm.trans z
        exact ⟨ha, by rw [List.length_map]; exact hl, vs, _, rel, ha⟩
      · cases (if_neg y2).symm.trans z
    · by_cases y2 : ∃ p ∈ cs, b = p.2
      · cases ((if_neg y).trans (if_pos y2)).symm.trans z
        exact tabled b y2
      · cases ((if_neg y).trans (if_neg y2)).symm.trans z
  exact call_at Hid0 D ha ok hr F (hb _) (hsp H Ht seq) fun e s' => hCX H e s'
end
/-- the whole walk -/
theorem walk_T {l : PySem.W.OpenLaw} {n k : Nat} {q : Program} {loose : List Str} {XP : (Str → Option Value) → Heap → Prop} {YP : World → Heap → Prop} {d : DefRec} {K : Params → PySem.W.Frag} {CX : World → CXT} {x : Str} {cs : List (Addr × Addr)} {sp : World → Sp}
    (hn : l.most = some n) (hn2 : n ≤ sizeLine) (hdf : d.params.defaults = []) (hr : RoomG k callerA) (hY : ∀ (w : World) (h : Heap), YP w h → (K w.params).In h)
    (hT : ∀ (w : World) (h : Heap), YP w h → ∀ p ∈ cs, h.get? p.2 = some bare) (nT : ∀ w : World, ∀ p ∈ cs, (K w.params).lookup p.2 = none) (hC : ∀ w : World, ∀ p ∈ cs, PySem.W.codeHdIn (K w.params) p.1 p.2 = true)
    (F : ∀ (w : World) (mg : Str → Option Value) (fa : Addr) (h : Heap), (K w.params).In h → h.Ns mainGlobals mg → mg d.name = some (.ref fa) → ∃ fd : FuncData, (∀ (s : Shared) (u : Value), BindsTo s fd ⟨[u], []⟩ [(x, u)]) ∧
      ∀ base : Heap, (K w.params).In base → base.Ns mainGlobals mg → (∀ p ∈ cs, TabB base mg p.1 p.2) → FnG l.prog w (K w.params) mg base (CX w) k fa fd [x] (sp w))
    (hsp : ∀ (w : World) (H : Hp) (a : Addr) (ns : List Int), ns.length ≤ n → (∀ p ∈ cs, H p.2 = some (.tbl #[])) → SqL (K w.params) H a (ns.map V.int) → sp w [.ref a] H (fun v _ => v = .bl true) fun _ _ _ => False)
    (hCX : ∀ (w : World) (H : Hp) (s : Shared) (e : Value) (s' : Shared), CX w [] H s (fun _ _ _ => False) e s' → False) :
    PySem.W.WalkO q loose XP YP l.row.toRowW d [] (fun f vs => PySem.call f vs) := by
  refine Att.attach_call hn hdf fun w s₀ s₁ mg mb fa o pm cd doc a vs ns G Y _ _ _ hmg hobj hints hlen hg => ?_
  have kin := hY w _ Y
  obtain ⟨fd, hb, hF⟩ := F w mg fa _ kin G.T.g hmg
  exact call_law ⟨kin, G.T.g, G.T.b, G.T.builtins, G.T.nolimit, hg, hT w _ Y, nT w, fun p hp => PySem.W.codeHd_of_K kin (hC w p hp), G.T.bmain⟩ hobj hints (Nat.le_trans hlen hn2) hr hF (hb s₁) (fun H hH hS => hsp w H a ns hlen hH hS) fun H e s' => hCX w H s₁ e s'
end LamR

/-! enumerate over a tuple. -/
namespace PySem
open Sem (wp)
theorem meets_enumerate_newB1 {v : Value} {o : Obj} {H : Heap → Prop} (B : Begins v o H) :
    Meets (Builtin.«enumerate.__new__» ⟨[.type "enumerate", v], []⟩) (fun _ R s => H s.heap ∧
      R (.ok (.ret (.ref (s.heap.push o).objs.size))) { s with heap := (s.heap.push o).push { cls := .type "enumerate", data := .fields #[.none, .bool false, .ref s.heap.objs.size, rawInt 0, .none, .none] } }) :=
  .of_wp fun prog w A R s h => by
    obtain ⟨hp, g, d, tk, os⟩ := s; obtain ⟨h1, h⟩ := h
    have hsub := sub_enumerate
    have q1 : ∀ {A' : Around} {E : Value → Shared → Prop} {Q : Value → Shared → Prop}, Q (.ref hp.objs.size) ⟨hp.push o, g, d, tk, os⟩ → wpAny (model prog w) A' (pyIter v) Q E ⟨hp, g, d, tk, os⟩ :=
      fun q => B.iter prog w _ _ ⟨hp, g, d, tk, os⟩ _ h1 q
    wp_walk using q1
    refine wpAny_stack_any fun st => wpAny_pure ?_
    split
    · rename_i c _ _ _ _ _
      cases (c == Value.type "enumerate")
      · wp_walk using q1
        exact ⟨_, rfl, h⟩
      · wp_walk using q1
        exact ⟨_, rfl, h⟩
    · wp_walk using q1
      exact ⟨_, rfl, h⟩
section
variable {prog : Program} {w : World} {A : Around} {E : Value → Shared → Prop} {s : Shared}
theorem call_enumerate_tuple {l : Addr} {items : Array Value} {Q : Value → Shared → Prop} (hL : s.heap.IsTuple l items)
    (h : ∀ h', IsEnum h' (s.heap.objs.size + 1) s.heap.objs.size 0 .none → h'.IsTupleIter s.heap.objs.size l 0 → h'.objs.size = s.heap.objs.size + 2 →
      (∀ b o, s.heap.get? b = some o → h'.get? b = some o) → Q (.ref (s.heap.objs.size + 1)) { s with heap := h' }) :
    wpAny (model prog w) A (call (.type "enumerate") [.ref l]) Q E s := by
  refine callType_new F.called_enumerate (by decide) (F.typeCall_enumerate_1 _) (F.newCall_enumerate_1 _) (fun obj => F.args_object_init_2 obj _) F.entry_enumerate_new
    (meets_enumerate_newB1 (begins_tuple l items)) ⟨hL, ?_⟩
  have hz : (s.heap.push { cls := .type "tuple_iterator", data := .fields #[.ref l, .int 0 0] }).objs.size = s.heap.objs.size + 1 := Heap.size_push ..
  show _ ∧ _
  rw [hz]
  have he : IsEnum ((s.heap.push { cls := .type "tuple_iterator", data := .fields #[.ref l, .int 0 0] }).push
      { cls := .type "enumerate", data := .fields #[.none, .bool false, .ref s.heap.objs.size, rawInt 0, .none, .none] }) (s.heap.objs.size + 1) s.heap.objs.size 0 .none := by
    have := Heap.get?_push_size (s.heap.push { cls := .type "tuple_iterator", data := .fields #[.ref l, .int 0 0] })
      (o := { cls := .type "enumerate", data := .fields #[.none, .bool false, .ref s.heap.objs.size, rawInt 0, .none, .none] }) rfl
    rw [hz] at this; exact this
  refine ⟨⟨_, he, rfl⟩, h _ he ⟨_, Heap.get?_push_of_some _ (Heap.get?_push_size _ rfl), rfl, rfl⟩ (by rw [Heap.size_push, hz]) fun b o x => Heap.get?_push_of_some _ (Heap.get?_push_of_some _ x)⟩
end
end PySem
namespace L2
open PySem PySem.Spec PyProof.Rows
/-- the tuple at a at each turn, each item in a new pair -/
def IteT (K : PySem.W.Frag) (a : Addr) : It :=
  ⟨fun i H => ∃ (xs : List V) (x : V), SqT K H a xs ∧ xs[i]? = some x, fun i H v H' => ∃ T x, v = .ref T ∧ H T = none ∧ H' = upd H T (.tup [.int (i : Nat), x]) ∧ ∀ xs, SqT K H a xs → xs[i]? = some x, fun i H => ∃ xs : List V, SqT K H a xs ∧ xs.length = i⟩
theorem turn_enumT {P : Program} {w : World} {K : PySem.W.Frag} {elts : List Expr} {kk : Nat} {tpos : Pos} (a e it : Addr) :
    Turn P w K (.Tuple elts kk tpos) (IteT K a) [e, it] e (fun i h => (∃ old, IsEnum h e it ((i : Nat) : Int) old) ∧ h.IsTupleIter it a i ∧ e ≠ it) where
  mem := by simp
  obj := fun i h st b hb => by
    obtain ⟨⟨old, he⟩, ⟨o, ho, hc, hd⟩, _⟩ := st
    have e' : b = e ∨ b = it := by simpa using hb
    rcases e' with z | z
    · rw [z]; exact ⟨_, he, fun v q => nomatch q⟩
    · rw [z]; exact ⟨o, ho, fun v q => by rw [hd] at q; cases q⟩
  keep := fun i h h' st k => let ⟨⟨old, he⟩, hi, hne⟩ := st; ⟨⟨old, k e (by simp) _ he⟩, hi.at fun o q => k it (by simp) o q, hne⟩
  item := by
    intro X hP hw hK hc i pins s σ H E I hf st hg
    subst hP hw hK
    obtain ⟨⟨old, he⟩, hit, hne⟩ := st
    obtain ⟨xs, x, hq, hx⟩ := hg
    obtain ⟨its, rv, p, hz⟩ := I.tuple hq
    have pt : s.heap.IsTuple a its.toArray := p
    obtain ⟨u, hu, ru⟩ := rv.get hx
    have hel : e < s.heap.objs.size := Heap.lt_size he
    have hil : it < s.heap.objs.size := by obtain ⟨_, q, _⟩ := hit; exact Heap.lt_size q
    have hae : e ≠ a := fun z => by
      obtain ⟨o, ho, hc', _⟩ := id pt
      rw [← z] at ho
      cases ho.symm.trans he
      exact absurd hc' (by show ¬ (Value.type "enumerate" = .type "tuple"); decide +kernel)
    have hai : a ≠ it := fun z => by
      obtain ⟨o, ho, hc', _⟩ := id pt
      obtain ⟨o2, ho2, hc2, _⟩ := id hit
      rw [z] at ho
      cases ho.symm.trans ho2
      exact absurd (hc'.symm.trans hc2) (by decide +kernel)
    have hlt : i < its.toArray.size := by
      have := (List.getElem?_eq_some_iff.mp hu).1
      simpa using this
    have hcm : X.A.in1.handled = none := I.ok.hd hc
    refine wpAny_pyNext_enum_itemD (Draws.tuple hcm it a hai its.toArray) he ⟨hit, pt⟩ hlt hne (by simp [hne, hae]) fun x' h' tk hPx ho st' hT hsz hk => ?_
    have exu : x' = u := by
      have : its[i]? = some x' := by simpa using hPx
      rw [hu] at this
      exact (Option.some.inj this).symm
    subst exu
    obtain ⟨hit', _⟩ := st'
    refine ⟨_, rfl, wpAny_letOwnedTupleGo_enum (s := { s with heap := h', toks := tk + 1 }) ho fun h'' he' sb => ?_⟩
    have hT2 : h''.get? s.heap.objs.size = some { cls := .type "tuple", data := .seq #[.int i tk, x'] } := (sb.2 _ (Nat.ne_of_gt hel)).trans hT
    have new : ObjOk X.prog X.w (upd H s.heap.objs.size (.tup [.int (i : Nat), x])) h'' s.heap.objs.size (.tup [.int (i : Nat), x]) :=
      ⟨by show 2 ≤ sizeLine; decide, [.int i tk, x'], .cons ⟨_, rfl⟩ (.cons ru .nil), ⟨_, hT2, rfl, _, rfl⟩⟩
    have I1 : Inv X pins σ (upd H s.heap.objs.size (.tup [.int (i : Nat), x])) { s with heap := h'', toks := tk + 1 } :=
      I.turnedNew (ch := [e, it]) (fun b ob hb q => (sb.2 b (fun z => hb (by simp [z]))).trans (hk b ob (fun z => hb (by simp [z])) (fun z => hb (by simp [z])) q)) hf (Nat.le_refl _) new
    refine ⟨.ref s.heap.objs.size, _, I1, rfl, ⟨_, x, rfl, I.hok.fresh (Nat.le_refl _), rfl, fun ys hy => by rw [I.tuple_inj hy hq]; exact hx⟩, ⟨⟨x', ?_⟩, hit'.at fun o q => (sb.2 it (Ne.symm hne)).trans q, hne⟩, fun b hb => ?_⟩
    · have e1 : ((i + 1 : Nat) : Int) = (i : Int) + 1 := by omega
      rw [e1]; exact he'
    · have hb' : b < s.heap.objs.size := by
        have e' : b = e ∨ b = it := by simpa using hb
        rcases e' with z | z
        · rw [z]; exact hel
        · rw [z]; exact hil
      rw [upd_ne (Nat.ne_of_lt hb')]
      exact (hf b hb).1
  done := by
    intro X hP hw hK hc i pins s σ H E I hf st hg
    subst hP hw hK
    obtain ⟨⟨old, he⟩, hit, hne⟩ := st
    obtain ⟨xs, hq, hx⟩ := hg
    obtain ⟨its, rv, p, hz⟩ := I.tuple hq
    have pt : s.heap.IsTuple a its.toArray := p
    obtain ⟨f0, f1, f2, f3, f4, f5⟩ := hf it (by simp)
    have hl := rv.length
    have hai : a ≠ it := fun z => by
      obtain ⟨o, ho, hc', _⟩ := id pt
      obtain ⟨o2, ho2, hc2, _⟩ := id hit
      rw [z] at ho
      cases ho.symm.trans ho2
      exact absurd (hc'.symm.trans hc2) (by decide +kernel)
    have hcm : X.A.in1.handled = none := I.ok.hd hc
    have hi : i = its.toArray.size := by
      rw [← hx, hl]
      simp
    subst hi
    exact wpAny_pyNext_enum_endD (Draws.tuple hcm it a hai its.toArray) he ⟨hit, pt⟩ fun h' eb => ⟨rfl, I.turned (t' := s.toks) (fun b o hb q => eb b o hb q) f0 f1 f3 f4 f5⟩
  self := fun A i s Q E st h => let ⟨⟨_, he⟩, _⟩ := st; wpAny_pyIter_enum he h
def iEnumT (K : PySem.W.Frag) (ta : TA) : TI := fun σ H R => ta σ H fun vs H1 => ∃ a xs, vs = [.ref a] ∧ SqT K H1 a xs ∧ R (IteT K a) H1
theorem pi_enumT {X : Cx} {e : Expr} {ta : TA} {p pos tpos : Pos} {elts : List Expr} {kk : Nat} (hg : Gl X "enumerate") (hm : X.mg "enumerate" = none) (ha : PA X [e] ta) (hs : starEach [e] X.env = [(false, eval e X.env)] := by rfl) :
    PI X (.Tuple elts kk tpos) (.Call (.Name "enumerate" p) [e] [] pos) (iEnumT X.K ta) := by
  refine ⟨fun pins s σ H R I h => ?_⟩
  refine Call_ (ld_blt I hg hm boot_enumerate (PyProof.Rows.callWith_type1 (thn (ha.run pos pins s σ H _ I h) fun us s1 ⟨vs, H1, I1, r1, q1⟩ => ?_) hs rfl))
  obtain ⟨a, xs, ex, hq, q⟩ := q1
  subst ex
  cases r1 with
  | cons r rr =>
    cases rr
    cases r
    obtain ⟨its, rv, p', hz⟩ := I1.tuple hq
    refine call_enumerate_tuple (show s1.heap.IsTuple a its.toArray from p') fun h' he hit hsz hk => wpAny_pyIter_enum he ?_
    have I2 : Inv X pins σ H1 { s1 with heap := h' } := I1.kept (t' := s1.toks) hk
    refine ⟨s1.heap.objs.size + 1, [s1.heap.objs.size + 1, s1.heap.objs.size], _, _, H1, rfl, I2, turn_enumT a (s1.heap.objs.size + 1) s1.heap.objs.size, ⟨⟨.none, he⟩, hit, Nat.succ_ne_self _⟩, fun b hb => ?_, q⟩
    have e' : b = s1.heap.objs.size + 1 ∨ b = s1.heap.objs.size := by simpa using hb
    have hle : s1.heap.objs.size ≤ b := by
      rcases e' with z | z
      · rw [z]; exact Nat.le_add_right _ _
      · rw [z]; exact Nat.le_refl _
    exact I1.fpOk hle (I1.hok.fresh hle)
theorem for_enumT {K : PySem.W.Frag} {a : Addr} {xs : List V} {g : TG} {tb : TS} {D : Ends} {σ : St} {H : Hp} (Pv : Nat → St → Hp → Prop) (h0 : Pv 0 σ H) (hl : ∀ i σ H, i ≤ xs.length → Pv i σ H → SqT K H a xs)
    (hs : ∀ i x T σ H, xs[i]? = some x → Pv i σ H → H T = none → g (.ref T) σ (upd H T (.tup [.int (i : Nat), x])) fun σ2 H2 => tb { D with nx := Pv (i + 1), ct := Pv (i + 1), bk := D.nx } σ2 H2) (hd : ∀ σ H, Pv xs.length σ H → D.nx σ H) :
    ∃ W : Nat → Nat → St → Hp → Prop, (∃ m, W 0 m σ H) ∧ ∀ i m σ H, W i m σ H →
      ((IteT K a).stop i H ∧ D.nx σ H) ∨ ((IteT K a).go i H ∧ ∃ N : St → Hp → Prop, (∀ σ' H', N σ' H' → ∃ m', m' < m ∧ W (i + 1) m' σ' H') ∧ ∀ x H', (IteT K a).yld i H x H' → g x σ H' fun σ2 H2 => tb { D with nx := N, ct := N, bk := D.nx } σ2 H2) := by
  refine ⟨fun i m σ H => m = xs.length - i ∧ i ≤ xs.length ∧ Pv i σ H, ⟨xs.length, by simp, Nat.zero_le _, h0⟩, ?_⟩
  rintro i m σ H ⟨rfl, hi, p⟩
  have q := hl i σ H hi p
  by_cases hlt : i < xs.length
  · refine .inr ⟨⟨xs, xs[i], q, by simp [hlt]⟩, Pv (i + 1), fun σ' H' p' => ⟨xs.length - (i + 1), by omega, rfl, hlt, p'⟩, fun x H' y => ?_⟩
    obtain ⟨T, z, rfl, hT, rfl, hz⟩ := y
    exact hs i z T σ H (hz xs q) p hT
  · have e : i = xs.length := by omega
    subst e
    exact .inl ⟨⟨xs, q, rfl⟩, hd σ H p⟩
end L2

/-! A class that a local name holds, called with a starred argument. -/
namespace L2
open PySem PySem.Spec PyProof.Rows StX ClX
section
variable {X : Cx} {CX : CXT} {k i : Nat} {f C : Addr} {sp : Sp} {E : XK} {x : Str} {e fe : Expr} {es : List Expr} {te tf : TE} {t : TA} {p pos : Pos}
theorem pe_makeLS (M : Mk X.K C f) (F : FnR X.prog X.w X.K X.mg X.base CX k f sp) (hr : Room (k + 1) X.A) (hN : X.N[i]? = some x) (hv : Vis X.env.scope x) (hx : Passes CX X E) (ha : PA X (e :: es) t)
    (hdb : (x == ("__debug__" : Str)) = false := by decide) (hcd : (x == ("__classdict__" : Str)) = false := by decide)
    (he : starEach (e :: es) X.env = (false, eval e X.env) :: starEach es X.env := by rfl) (hst : (backTo pos (starEach es X.env)).any (·.1) = true := by rfl) : PE X (.Call (.Name x p) (e :: es) [] pos) (fun σ H Q => σ[i]? = some (some (.ref C)) ∧ tMakeR C sp E t σ H Q) := by
  refine ⟨fun pins s σ H Q I h => ?_⟩
  obtain ⟨hs, ht⟩ := h
  refine wpAny_Call_Name_kw (thn ((pe_var (pos := p) hN hv hdb hcd).run pins s σ H (fun v H1 => v = .ref C ∧ H1 = H) I ⟨.ref C, hs, rfl, rfl⟩) fun u s1 ⟨v, H1, I1, r1, q1⟩ => ?_)
  obtain ⟨rfl, rfl⟩ := q1
  cases r1
  refine PySem.W.callWith_S2 (h₀ := X.base) I.ok.mod.kin M.kp (thn (ha.run pos pins s1 σ _ _ I1 ht) fun us s2 ⟨vs, H2, I2, r, q⟩ => ⟨I2.kIn, ?_⟩) he hst
  exact run_makeR M F hr hx I2 r q
/-- .. the class by its own name -/
theorem pe_makeRS (M : Mk X.K C f) (F : FnR X.prog X.w X.K X.mg X.base CX k f sp) (hr : Room (k + 1) X.A) (hg : Gl X x) (hm : X.mg x = some (.ref C)) (hx : Passes CX X E) (ha : PA X (e :: es) t) (hdb : (x == ("__debug__" : Str)) = false := by decide)
    (he : starEach (e :: es) X.env = (false, eval e X.env) :: starEach es X.env := by rfl) (hst : (backTo pos (starEach es X.env)).any (·.1) = true := by rfl) : PE X (.Call (.Name x p) (e :: es) [] pos) (tMakeR C sp E t) := by
  refine ⟨fun pins s σ H Q I h => ?_⟩
  refine wpAny_Call_Name_kw (ld_glob I hg hm ?_ hdb)
  refine PySem.W.callWith_S2 (h₀ := X.base) I.ok.mod.kin M.kp (thn (ha.run pos pins s σ H _ I h) fun us s1 ⟨vs, H1, I1, r, q⟩ => ⟨I1.kIn, ?_⟩) he hst
  exact run_makeR M F hr hx I1 r q
end
end L2

/-! Styles: what is due of rules, and what the program's defs tell. -/
namespace Evl
open PySem L2
theorem given_one (xs : List V) : given xs.length (fun _ => true) (fun i => xs.getD i V.non) = xs := by
  unfold given
  have e : (List.range xs.length).filter (fun _ => true) = List.range xs.length := List.filter_eq_self.mpr fun _ _ => rfl
  rw [e]
  apply List.ext_getElem?
  intro i
  rw [List.getElem?_map]
  by_cases h : i < xs.length
  · rw [List.getElem?_range h]
    simp [List.getElem?_eq_getElem h]
  · have h1 : (List.range xs.length)[i]? = none := List.getElem?_eq_none_iff.mpr (by rw [List.length_range]; omega)
    have h2 : xs[i]? = none := List.getElem?_eq_none_iff.mpr (by omega)
    rw [h1, h2]
    rfl
end Evl
namespace Dt
open PySem L2 Evl Dg LamR LamX
open Dr (StAt SameB)
/-! the shapes of what is a condition, a keep, a rule -/
theorem beg_inv {d : PyData} {w : Str} {n : Nat} (h : begB d w n = true) : ∃ ds, d = .tuple ds ∧ ds.length = n ∧ eqS w (ds.headD .none) = true := by
  unfold begB at h
  rw [Bool.and_eq_true, Bool.and_eq_true] at h
  obtain ⟨h1, h2, h3⟩ := h
  cases d with
  | tuple ds => exact ⟨ds, rfl, of_decide_eq_true h2, h3⟩
  | _ => cases h1
theorem eqS_inv {w : Str} {d : PyData} (h : eqS w d = true) : d = .str w := by
  cases d with
  | str x =>
    have e : x = w := of_decide_eq_true h
    rw [e]
  | _ => cases h
theorem beg2_inv {d : PyData} {w : Str} (h : begB d w 2 = true) : ∃ u, d = .tuple [.str w, u] := by
  obtain ⟨ds, rfl, hl, h3⟩ := beg_inv h
  match ds, hl with
  | [a, b], _ =>
    have := eqS_inv h3
    exact ⟨b, by rw [show a = .str w from this]⟩
theorem beg3_inv {d : PyData} {w : Str} (h : begB d w 3 = true) : ∃ u v, d = .tuple [.str w, u, v] := by
  obtain ⟨ds, rfl, hl, h3⟩ := beg_inv h
  match ds, hl with
  | [a, b, c], _ =>
    have := eqS_inv h3
    exact ⟨b, c, by rw [show a = .str w from this]⟩
theorem size_inv {l : Int} {d : PyData} (h : sizeB l d = true) : ∃ i : Int, d = .int i ∧ l ≤ i ∧ i ≤ 6 := by
  cases d with
  | int i =>
    unfold sizeB at h
    rw [Bool.and_eq_true] at h
    exact ⟨i, rfl, of_decide_eq_true h.1, of_decide_eq_true h.2⟩
  | _ => cases h
theorem bounds_inv {a b : PyData} (h : boundsB a b = true) : ∃ i : Int, a = .int i ∧ 1 ≤ i ∧ i ≤ 6 ∧ (b = .none ∨ ∃ j : Int, b = .int j ∧ i ≤ j ∧ j ≤ 6) := by
  unfold boundsB at h
  rw [Bool.and_eq_true, Bool.or_eq_true] at h
  obtain ⟨h1, h2⟩ := h
  obtain ⟨i, rfl, h3, h4⟩ := size_inv h1
  refine ⟨i, rfl, h3, h4, ?_⟩
  rcases h2 with h2 | h2
  · cases b with
    | none => exact .inl rfl
    | _ => cases h2
  · exact .inr (size_inv h2)
inductive CondS (β : Nat) : PyData → Prop
  | ends (x : Str) (h : isFigs β 2 x = true) : CondS β (.tuple [.str "ends", .str x])
  | near (i : Int) (h0 : 0 ≤ i) (h6 : i ≤ 6) : CondS β (.tuple [.str "near", .int i])
  | len (w : Str) (hw : w = "length" ∨ w = "changed") (i : Int) (h1 : 1 ≤ i) (h6 : i ≤ 6) (e : PyData) (he : e = .none ∨ ∃ j : Int, e = .int j ∧ i ≤ j ∧ j ≤ 6) : CondS β (.tuple [.str w, .int i, e])
theorem cond_inv {β : Nat} {d : PyData} (h : condB β d = true) : CondS β d := by
  unfold condB at h
  cases h1 : begB d "ends" 2 with
  | true =>
    rw [h1, if_pos rfl] at h
    obtain ⟨u, rfl⟩ := beg2_inv h1
    have h' : figsO β 2 (txtD u) = true := h
    cases u with
    | str x => exact .ends x h'
    | _ => cases h'
  | false =>
    rw [h1, if_neg (by decide)] at h
    cases h2 : begB d "near" 2 with
    | true =>
      rw [h2, if_pos rfl] at h
      obtain ⟨u, rfl⟩ := beg2_inv h2
      obtain ⟨i, e, a, b⟩ := size_inv (d := u) h
      rw [e]
      exact .near i a b
    | false =>
      rw [h2, if_neg (by decide)] at h
      cases h3 : (begB d "length" 3 || begB d "changed" 3) with
      | true =>
        rw [h3, if_pos rfl] at h
        rcases Bool.or_eq_true_iff.mp h3 with h4 | h4
        · obtain ⟨u, v, rfl⟩ := beg3_inv h4
          obtain ⟨i, e, a, b, c⟩ := bounds_inv (a := u) (b := v) h
          rw [e]
          exact .len _ (.inl rfl) i a b v c
        · obtain ⟨u, v, rfl⟩ := beg3_inv h4
          obtain ⟨i, e, a, b, c⟩ := bounds_inv (a := u) (b := v) h
          rw [e]
          exact .len _ (.inr rfl) i a b v c
      | false =>
        rw [h3, if_neg (by decide)] at h
        cases h
inductive KeepS : PyData → Prop
  | all : KeepS (.tuple [.str "all"])
  | size (w : Str) (hw : w = "changed" ∨ w = "last") (i : Int) (h1 : 1 ≤ i) (h6 : i ≤ 6) : KeepS (.tuple [.str w, .int i])
theorem keep_inv {d : PyData} (h : keepB d = true) : KeepS d := by
  unfold keepB at h
  cases h1 : (begB d "changed" 2 || begB d "last" 2) with
  | true =>
    rw [h1, if_pos rfl] at h
    rcases Bool.or_eq_true_iff.mp h1 with h4 | h4
    · obtain ⟨u, rfl⟩ := beg2_inv h4
      obtain ⟨i, e, a, b⟩ := size_inv (d := u) h
      rw [e]
      exact .size _ (.inl rfl) i a b
    · obtain ⟨u, rfl⟩ := beg2_inv h4
      obtain ⟨i, e, a, b⟩ := size_inv (d := u) h
      rw [e]
      exact .size _ (.inr rfl) i a b
  | false =>
    rw [h1, if_neg (by decide)] at h
    obtain ⟨ds, rfl, hl, h3⟩ := beg_inv h
    match ds, hl with
    | [a], _ =>
      have := eqS_inv h3
      rw [show a = .str "all" from this]
      exact .all
theorem rule_inv {β : Nat} {d : PyData} (h : ruleB β d = true) : ∃ cs k, d = .tuple [.tuple cs, k] ∧ cs.length ≤ 3 ∧ (∀ c ∈ cs, CondS β c) ∧ KeepS k := by
  unfold ruleB at h
  rw [Bool.and_eq_true, Bool.and_eq_true, Bool.and_eq_true, Bool.and_eq_true, Bool.and_eq_true] at h
  obtain ⟨h1, h2, h3, h4, h5, h6⟩ := h
  cases d with
  | tuple ds =>
    have hl : ds.length = 2 := of_decide_eq_true h2
    match ds, hl with
    | [c, k], _ =>
      have h3' : isT c = true := h3
      cases c with
      | tuple cs => exact ⟨cs, k, rfl, of_decide_eq_true h4, fun c hc => cond_inv (List.all_eq_true.mp h5 c hc), keep_inv h6⟩
      | _ => cases h3'
  | _ => cases h1
theorem cond_noL {β : Nat} {d : PyData} (h : CondS β d) : noL d = true ∧ isT d = true := by
  cases h with
  | ends x h => exact ⟨rfl, rfl⟩
  | near i h0 h6 => exact ⟨rfl, rfl⟩
  | len w hw i h1 h6 e he =>
    rcases he with rfl | ⟨j, rfl, _, _⟩ <;> exact ⟨rfl, rfl⟩
theorem keep_noL {d : PyData} (h : KeepS d) : noL d = true ∧ isT d = true := by
  cases h <;> exact ⟨rfl, rfl⟩
theorem noLs_all : ∀ {ds : List PyData}, (∀ d ∈ ds, noL d = true) → noLs ds = true
  | [], _ => rfl
  | d :: ds, h => by
    rw [noLs, h d List.mem_cons_self, noLs_all fun e he => h e (List.mem_cons_of_mem _ he)]
    rfl
theorem rule_noL {β : Nat} {d : PyData} (h : ruleB β d = true) : noL d = true := by
  obtain ⟨cs, k, rfl, _, hc, hk⟩ := rule_inv h
  show (noLs cs && (noL k && true)) = true
  rw [noLs_all fun c h => (cond_noL (hc c h)).1, (keep_noL hk).1]
  rfl
theorem rules_noL {β : Nat} {ds : List PyData} (h : ds.all (ruleB β) = true) : noLs ds = true := noLs_all fun d hd => rule_noL (List.all_eq_true.mp h d hd)
/-! what is due of a row of rules -/
def badAt (β : Nat) : List PyData → Nat → Option Nat
  | [], _ => none
  | d :: ds, k => if ruleB β d = true then badAt β ds (k + 1) else some k
theorem badAt_all {β : Nat} : ∀ {ds : List PyData} {k : Nat}, ds.all (ruleB β) = true → badAt β ds k = none
  | [], _, _ => rfl
  | d :: ds, k, h => by
    rw [List.all_cons, Bool.and_eq_true] at h
    unfold badAt
    rw [if_pos h.1]
    exact badAt_all h.2
theorem badAt_none {β : Nat} : ∀ {ds : List PyData} {k : Nat}, badAt β ds k = none → ds.all (ruleB β) = true
  | [], _, _ => rfl
  | d :: ds, k, h => by
    unfold badAt at h
    by_cases hd : ruleB β d = true
    · rw [if_pos hd] at h
      rw [List.all_cons, hd, badAt_none h]
      rfl
    · rw [if_neg hd] at h
      cases h
theorem badAt_at {β : Nat} : ∀ {i : Nat} {ds : List PyData} {k : Nat} {d : PyData}, (ds.take i).all (ruleB β) = true → ds[i]? = some d → ruleB β d = false → badAt β ds k = some (k + i)
  | _, [], _, _, _, h, _ => by simp at h
  | 0, e :: ds, k, d, _, h, hd => by
    simp only [List.getElem?_cons_zero, Option.some.injEq] at h
    subst h
    unfold badAt
    rw [if_neg (by rw [hd]; decide)]
    rfl
  | i + 1, e :: ds, k, d, ha, h, hd => by
    rw [List.take_succ_cons, List.all_cons, Bool.and_eq_true] at ha
    unfold badAt
    rw [if_pos ha.1]
    simp only [List.getElem?_cons_succ] at h
    rw [badAt_at ha.2 h hd]
    congr 1
    omega
/-- the last one has conditions -/
def lastC (ds : List PyData) : Bool := decide (0 < (tupD (at_ 0 (ds.getLastD .none))).length)
/-- none: nothing is wrong; else the place -/
def dueD (β : Nat) (ds : List PyData) : Option PyData :=
  if 1 ≤ ds.length ∧ ds.length ≤ 8 then (match badAt β ds 0 with
    | some k => some (.int (k : Int))
    | none => if lastC ds = true then some (.int ((ds.length : Int) - 1)) else none) else some .none
theorem due_len {β : Nat} {ds : List PyData} (h : ¬ (1 ≤ ds.length ∧ ds.length ≤ 8)) : dueD β ds = some .none := by unfold dueD; rw [if_neg h]
theorem due_bad {β : Nat} {ds : List PyData} {i : Nat} {d : PyData} (h : 1 ≤ ds.length ∧ ds.length ≤ 8) (ha : (ds.take i).all (ruleB β) = true) (hi : ds[i]? = some d) (hd : ruleB β d = false) : dueD β ds = some (.int (i : Int)) := by
  unfold dueD
  rw [if_pos h, badAt_at ha hi hd, Nat.zero_add]
theorem due_last {β : Nat} {ds : List PyData} (h : 1 ≤ ds.length ∧ ds.length ≤ 8) (ha : ds.all (ruleB β) = true) : dueD β ds = if lastC ds = true then some (.int ((ds.length : Int) - 1)) else none := by
  unfold dueD
  rw [if_pos h, badAt_all ha]
theorem due_none {β : Nat} {ds : List PyData} (h : dueD β ds = none) : (1 ≤ ds.length ∧ ds.length ≤ 8) ∧ ds.all (ruleB β) = true ∧ lastC ds = false := by
  unfold dueD at h
  by_cases h1 : 1 ≤ ds.length ∧ ds.length ≤ 8
  · rw [if_pos h1] at h
    cases hb : badAt β ds 0 with
    | some k =>
      rw [hb] at h
      cases h
    | none =>
      rw [hb] at h
      refine ⟨h1, badAt_none hb, ?_⟩
      cases hl : lastC ds with
      | false => rfl
      | true =>
        rw [hl] at h
        cases h
  · rw [if_neg h1] at h
    cases h
def plV : PyData → V
  | .int i => .int i
  | _ => .non
/-- the refusal, or going on -/
structure Due (ca : Nat → Addr) (H : Hp) (E : XK) (o : Option PyData) (G : Prop) : Prop where
  bad : ∀ pl, o = some pl → Leaves (ca 5) "place" (plV pl) H E
  ok : o = none → G
end Dt

namespace Dt
open PySem L2 Evl Dg LamR LamX StX ClX
open Dr (StAt SameB)
abbrev sNeedRules : Stmt := top 42
abbrev sPlain : Stmt := top 44
abbrev clStyle : Stmt := top 50
abbrev sInit : Stmt := inClass clStyle 0
abbrev sOfS : Stmt := inClass clStyle 1
abbrev rTupOf (K : PySem.W.Frag) : List V → Hp → VK → Prop := fun xs H Q => ∃ p ys, xs = [V.ref p] ∧ ((SqL K H p ys ∧ ∀ l, H l = none → Q (V.ref l) (upd H l (.tup ys))) ∨ (SqT K H p ys ∧ Q (V.ref p) H))
section
variable {K : PySem.W.Frag} {σ : St} {H : Hp} {t0 t1 te : TE} {E : St → XK} {β : Nat} {D : PyData} {ca : Nat → Addr}
theorem bs_yes (b2 : 2 ≤ β) (b10 : β ≤ 10) : Bs K H (.int β) true := by
  have e : (decide ((2 : Int) ≤ (β : Int)) && decide ((β : Int) ≤ 10)) = true := by
    rw [decide_eq_true (by omega), decide_eq_true (by omega)]
    rfl
  rw [← e]
  exact .int β
theorem ev_rule (b2 : 2 ≤ β) (b10 : β ≤ 10) (h0 : Ev t0 σ H (.int β)) (h1 : EvP t1 σ H D) : Ev (tCallS (spRule K ca) E (tCons t0 (tCons t1 tNil))) σ H (.bl (ruleB β D)) := fun H1 e Q q =>
  h0 H1 e _ fun H2 e2 => h1 H2 (e.trans e2) _ fun v H3 e3 k => ⟨.int β, v, D, true, rfl, bs_yes b2 b10, k, (fun z => nomatch z), fun _ => ⟨β, rfl, b2, b10, fun H4 e4 => q H4 ((e2.trans e3).trans e4)⟩⟩
theorem ep_tupOf {r : List V → Hp → VK → Prop} (hr : ∀ (p : Addr) (ys : List V) (H : Hp) (Q : VK), SqL K H p ys → (∀ l, H l = none → Q (.ref l) (upd H l (.tup ys))) → r [.ref p] H Q) {Ds : List PyData} (h : EvP t0 σ H (.list Ds)) : EvP (tCB r (tCons t0 tNil)) σ H (.tuple Ds) := fun H1 e Q q =>
  h H1 e _ fun v H2 e2 k => by
    cases k with
    | @lst a vs _ ha hv => exact hr a vs H2 _ (sq_of ha) fun l hl => q (.ref l) _ (e2.trans (Ex.new hl)) (.tup upd_same (hv.ex (Ex.new hl)))
theorem ep_tupId {r : List V → Hp → VK → Prop} (hr : ∀ (p : Addr) (ys : List V) (H : Hp) (Q : VK), SqT K H p ys → Q (.ref p) H → r [.ref p] H Q) {Ds : List PyData} (h : EvP t0 σ H (.tuple Ds)) : EvP (tCB r (tCons t0 tNil)) σ H (.tuple Ds) := fun H1 e Q q =>
  h H1 e _ fun v H2 e2 k => by
    cases k with
    | @tup a vs _ ha hv => exact hr a vs H2 _ (st_of ha) (q (.ref a) _ e2 (.tup ha hv))
theorem ev_tupId {r : List V → Hp → VK → Prop} (hr : ∀ (p : Addr) (ys : List V) (H : Hp) (Q : VK), SqT K H p ys → Q (.ref p) H → r [.ref p] H Q) {a : Addr} {vs : List V} (h : Ev t0 σ H (.ref a)) (ha : H a = some (.tup vs)) : Ev (tCB r (tCons t0 tNil)) σ H (.ref a) := fun H1 e Q q =>
  h H1 e _ fun H2 e2 => hr a vs H2 _ (st_of (e2 _ _ (e _ _ ha))) (q _ e2)
theorem ep_L {xs : List V} {ds : List PyData} (h : EvL t0 σ H xs) (k : PtAll H xs ds) : EvP t0 σ H (.list ds) := fun H1 e Q q => h H1 e _ fun p H2 hp e2 h2 => q (.ref p) H2 e2 (.lst h2 (k.ex (e.trans e2)))
end
theorem Pt.tupI' {H : Hp} {v : V} {ds : List PyData} (h : Pt H v (.tuple ds)) : ∃ a vs, v = .ref a ∧ H a = some (.tup vs) ∧ PtAll H vs ds := by
  cases h with
  | tup hs ha => exact ⟨_, _, rfl, hs, ha⟩
structure TxY (K : PySem.W.Frag) (mg : Str → Option Value) (fnb frl fnr fpl : Addr) (ca : Nat → Addr) : Prop where
  needB : mg "need_base" = some (.ref fnb)
  kNB : PySem.W.keepIn K (.ref fnb) = true
  rule : mg "is_rule" = some (.ref frl)
  kRl : PySem.W.keepIn K (.ref frl) = true
  needR : mg "need_rules" = some (.ref fnr)
  kNR : PySem.W.keepIn K (.ref fnr) = true
  plain : mg "plain_rule" = some (.ref fpl)
  kPl : PySem.W.keepIn K (.ref fpl) = true
  badRule : mg "BadRule" = some (.ref (ca 5))
  len : mg "len" = none
  tuple : mg "tuple" = none
  enum : mg "enumerate" = none
  isi : mg "isinstance" = none
  sup : mg "super" = none
  list : mg "list" = none
  mrules : ∃ t, mg "MOST_RULES" = some (.int 8 t)
section
variable {P : Program} {w : World} {K : PySem.W.Frag} {mg : Str → Option Value} {base : Heap} {ca : Nat → Addr} {fnb frl fnr fpl : Addr}
def spNeedRules (ca : Nat → Addr) : Sp := fun vs H Q E => ∃ (β : Nat) (t : Addr) (rs : List V) (Ds : List PyData), vs = [.int β, .ref t] ∧ 2 ≤ β ∧ β ≤ 10 ∧ H t = some (.tup rs) ∧ PtAll H rs Ds ∧ Due ca H E (dueD β Ds) (RetV .non H Q)
theorem scNeedRules : FnScope ["base", "rules", "number", "rule", "last"] ["base", "rules"] (defScope sNeedRules) := ⟨rfl, rfl, rfl, by decide +kernel, rfl, by decide +kernel, by decide +kernel⟩
theorem ok_needRules {f : Addr} {fd fdr : FuncData} (F : Fun K "need_rules" "need_rules" sNeedRules f fd) (GR : FnOk P w K mg base (L2.CX P w) 5 frl fdr ["base", "value"] (spRule K ca)) (bR : Binds K fdr ["base", "value"] []) (M : Mks P K mg (ca 5) ["place"]) (T : TxY K mg fnb frl fnr fpl ca) :
    FnOk P w K mg base (L2.CX P w) 6 f fd ["base", "rules"] (spNeedRules ca) := by
  refine F.okX scNeedRules (fun vs H Q E h => ?_) (fun cdv A outer s H vs Q E hr h => ?_)
  · obtain ⟨β, t, rs, Ds, rfl, _⟩ := h
    rfl
  · obtain ⟨β, t, rs, Ds, rfl, b2, b10, ht, ka, due⟩ := h
    obtain ⟨tm, hm⟩ := T.mrules
    refine ⟨_, pss_cons (ps_if (pt_not (pt_chain op_le op_le pe_int (pe_callB call_len_seq (by rfl) T.len (by decide +kernel) (pa_cons (pv 1) pa_nil)) (pe_glob (by rfl) hm (v := .int 8) ⟨_, rfl⟩)))
        (pss_one (ps_raise rfl (takes_of rfl rfl rfl rfl) (pmk_mks M T.sup hr (by simp) (pa_cons pe_non pa_nil) (by rfl) T.badRule))) pss_nil)
      (pss_cons (ps_for (passes_of rfl) rfl (pi_enumT (by rfl) T.enum (pa_cons (pv 1) pa_nil)) (pg_tup (by rfl) (pgs_cons (pg_name (i := 2) scNeedRules.nd rfl (.inl rfl)) (pgs_cons (pg_name (i := 3) scNeedRules.nd rfl (.inl rfl)) pgs_nil)))
        (pss_one (ps_if (pt_not (pt_val (pe_callS GR hr (by rfl) T.rule T.kRl bR (fun σ => passAt (takes_of rfl rfl rfl rfl) σ) (pa_cons (pv 0) (pa_cons (pv 3) pa_nil)))))
          (pss_one (ps_raise rfl (takes_of rfl rfl rfl rfl) (pmk_mks M T.sup hr (by simp) (pa_cons (pv 2) pa_nil) (by rfl) T.badRule))) pss_nil)))
      (pss_cons (ps_set (i := 4) scNeedRules.nd rfl (.inl rfl) (pe_op op_sub (pe_callB call_len_seq (by rfl) T.len (by decide +kernel) (pa_cons (pv 1) pa_nil)) pe_int))
      (pss_one (ps_if (pt_cmpR op_gt (pe_callB call_len_seq (by rfl) T.len (by decide +kernel) (pa_cons (pe_ix ix_tup (pe_ix ix_tup (pv 1) (pv 4) (fun _ _ => rfl)) pe_int (fun _ _ => rfl)) pa_nil)) pe_int (nomark _))
        (pss_one (ps_raise rfl (takes_of rfl rfl rfl rfl) (pmk_mks M T.sup hr (by simp) (pa_cons (pv 4) pa_nil) (by rfl) T.badRule))) pss_nil)))), ?_⟩
    have hl := ka.length
    have leaf : ∀ {pl : PyData} {v : V} {H1 : Hp}, dueD β Ds = some pl → plV pl = v → Ex H H1 → Leaves (ca 5) "place" v H1 E := fun hp hv e => hv ▸ (due.bad _ hp).go e
    refine q_when (b := !(decide (1 ≤ Ds.length) && decide (Ds.length ≤ 8))) (et_is (et_not (et_test (ev_chI ev_c (ev_lenT (K := K) (ev_var rfl) ht) ev_c))) (by
      rw [hl]
      congr 1
      congr 1 <;> exact decide_eq_decide.mpr (by omega))) (fun z H1 e1 => ?_) (fun z H1 e1 => ?_)
    · have hb : ¬ (1 ≤ Ds.length ∧ Ds.length ≤ 8) := fun ⟨a, b⟩ => by
        rw [decide_eq_true a, decide_eq_true b] at z
        cases z
      exact ⟨rfl, fun d hd => leaf (due_len hb) rfl e1 H1 d (Ex.refl _) hd⟩
    · have hb : 1 ≤ Ds.length ∧ Ds.length ≤ 8 := by
        rw [Bool.not_eq_false', Bool.and_eq_true] at z
        exact ⟨of_decide_eq_true z.1, of_decide_eq_true z.2⟩
      refine ⟨_, rfl, t, rs, rfl, st_of (e1 _ _ ht), for_enumT (xs := rs) (fun i σ' H' => (∃ x2 x3, σ' = [some (.int β), some (.ref t), x2, x3, none]) ∧ Ex H H' ∧ (Ds.take i).all (ruleB β) = true)
        ⟨⟨_, _, rfl⟩, e1, rfl⟩ (fun i σ' H' _ hI => st_of (hI.2.1 _ _ ht)) (fun i x T' σ' H' hx hI hT => ?_) (fun σ' H' hI => ?_)⟩
      · obtain ⟨⟨x2, x3, rfl⟩, e2, hg⟩ := hI
        obtain ⟨dx, hdx, kx⟩ := ka.get2 hx
        have e3 := e2.trans (Ex.new (o := .tup [.int (i : Nat), x]) hT)
        refine ⟨T', _, rfl, st_of upd_same, rfl, _, _, rfl, _, _, rfl, rfl, ?_⟩
        refine s_when (b := !ruleB β dx) (et_not (et_B (ev_rule b2 b10 (ev_var rfl) (ep_v (ev_var rfl) (kx.ex e3))))) (fun z4 H4 e4 => ?_) (fun z4 H4 e4 => ?_)
        · exact ⟨_, rfl, rfl, fun d hd => leaf (due_bad hb hg hdx (by simpa using z4)) rfl (e3.trans e4) H4 d (Ex.refl _) hd⟩
        · refine ⟨⟨_, _, rfl⟩, e3.trans e4, ?_⟩
          rw [List.take_add_one, hdx, List.all_append, hg]
          have : ruleB β dx = true := by simpa using z4
          simp [this]
      · obtain ⟨⟨x2, x3, rfl⟩, e2, hg⟩ := hI
        rw [hl, List.take_length] at hg
        have ht2 := e2 _ _ ht
        refine q_asg (ev_op (ev_lenT (K := K) (ev_var rfl) ht2) ev_c rv_I0) fun H3 e3 => ?_
        have ht3 := e3 _ _ ht2
        have hpos : Ds.length - 1 < Ds.length := by omega
        obtain ⟨dl, hdl⟩ : ∃ dl, Ds[Ds.length - 1]? = some dl := ⟨_, List.getElem?_eq_getElem hpos⟩
        obtain ⟨u, hu, ku⟩ := ka.get hdl
        have hr2 : ruleB β dl = true := List.all_eq_true.mp hg _ (List.mem_of_getElem? hdl)
        obtain ⟨cs, kk, rfl, hc3, hcs, hks⟩ := rule_inv hr2
        obtain ⟨au, us, rfl, hau, kus⟩ := ((ku.ex e2).ex e3).tupI'
        obtain ⟨uc, huc, kuc⟩ := kus.get (i := 0) rfl
        obtain ⟨ac, vcs, rfl, hac, kcs⟩ := kuc.tupI'
        have hlast : lastC Ds = decide (0 < cs.length) := by
          unfold lastC
          have : Ds.getLastD .none = .tuple [.tuple cs, kk] := by
            rw [List.getLastD_eq_getLast?, List.getLast?_eq_getElem?, hdl]
            rfl
          rw [this]
          rfl
        have elast : Ev (tOp (rIxT K) (tVar 1) (tVar 4)) [some (.int β), some (.ref t), x2, x3, some (.int ((rs.length : Int) - 1))] H3 (.ref au) := ev_op (ev_var rfl) (ev_var rfl) (rv_ixT (st_of ht3) (by
          rw [show (rs.length : Int) - 1 = ((Ds.length - 1 : Nat) : Int) by omega]
          exact atI_nat hu))
        refine s_when (b := decide (0 < cs.length)) (et_is (et_test (ev_op (ev_lenT (K := K) (ev_at (K := K) (i := 0) elast hau huc) hac) ev_c rv_I0)) (by
          rw [kcs.length]
          exact decide_eq_decide.mpr (by omega))) (fun z H4 e4 => ?_) (fun z H4 e4 => ?_)
        · refine ⟨_, rfl, rfl, fun d hd => leaf (v := .int ((rs.length : Int) - 1)) (due_last hb hg |>.trans (by rw [hlast, z]; rfl)) (by rw [hl]; rfl) ((e2.trans e3).trans e4) H4 d (Ex.refl _) hd⟩
        · exact due.ok (due_last hb hg |>.trans (by rw [hlast, z]; rfl)) H4 ((e2.trans e3).trans e4)
def spPlain : Sp := fun vs H Q _ => ∃ v cs k, vs = [v] ∧ Pt H v (.tuple [.tuple cs, k]) ∧ (∀ c ∈ cs, isT c = true) ∧ isT k = true ∧ cs.length ≤ 3 ∧ ∀ v' H', Ex H H' → Pt H' v' (.tuple [.tuple cs, k]) → Q v' H'
theorem scPlain : FnScope ["rule", "conditions", "keep", "condition"] ["rule"] (defScope sPlain) := ⟨rfl, rfl, rfl, by decide +kernel, rfl, by decide +kernel, by decide +kernel⟩
theorem ok_plain {f : Addr} {fd : FuncData} (F : Fun K "plain_rule" "plain_rule" sPlain f fd) (T : TxY K mg fnb frl fnr fpl ca) : FnOk P w K mg base CX0 1 f fd ["rule"] spPlain := by
  refine F.ok scPlain (fun vs H Q E h => ?_) (fun cdv A outer s H vs Q E hr h => ?_)
  · obtain ⟨v, cs, k, rfl, _⟩ := h
    rfl
  · obtain ⟨v, cs, k, rfl, kv, hcs, hk, hc3, q⟩ := h
    refine ⟨_, pss_cons (ps_asg (pv 0) (pg_tup (by rfl) (pgs_cons (pg_name (i := 1) scPlain.nd rfl (.inl rfl)) (pgs_cons (pg_name (i := 2) scPlain.nd rfl (.inl rfl)) pgs_nil))))
      (pss_one (ps_ret (pe_tup (pa_cons (pe_callTy call_tuple_of (by rfl) T.tuple (by decide +kernel) (pa_cons (pe_lc (own := [("condition", 3)]) (g := gName 3) (tt := tYes) rfl scPlain.nd (pi_tup (pv 1)) (blkOk_by (own := [("condition", 3)]) (N := ["rule", "conditions", "keep", "condition"]) (sc := defScope sPlain) (by decide +kernel))
          (fun _ _ _ _ _ => pg_name (i := 3) scPlain.nd rfl (Or.inl rfl)) (fun _ _ _ _ _ => pts_nil) (fun _ _ _ _ _ => pe_callTy (T := "tuple") (r := rTupOf K) call_tuple_of (by rfl) T.tuple (by decide +kernel) (pa_cons (pv 3) pa_nil))) pa_nil))
        (pa_cons (pe_callTy call_tuple_of (by rfl) T.tuple (by decide +kernel) (pa_cons (pv 2) pa_nil)) pa_nil))))), ?_⟩
    obtain ⟨a, us, rfl, ha, kus⟩ := kv.tupI'
    cases kus with
    | @cons vc _ _ _ kc kus =>
      cases kus with
      | @cons vk _ _ _ kk kus =>
        cases kus with
        | nil =>
          obtain ⟨ac, ws, rfl, hac, kws⟩ := kc.tupI'
          refine ⟨_, rfl, a, _, rfl, st_of ha, rfl, _, _, rfl, _, _, rfl, rfl, ?_⟩
          cases k with
          | tuple ks =>
            have hl := kws.length
            dsimp only
            refine s_retP (D := .tuple [.tuple cs, .tuple ks]) (ep_tup (epa_cons (ep_tupOf (K := K) (fun p ys H Q hs hq => ⟨p, ys, rfl, .inl ⟨hs, hq⟩⟩) (ep_L (xs := ws) ?_ kws)) (epa_cons (ep_tupId (K := K) (fun p ys H Q hs hq => ⟨p, ys, rfl, .inr ⟨hs, hq⟩⟩) (ep_v (ev_var rfl) kk)) epa_nil)) (by simp)) fun v H1 e1 k1 => q v H1 e1 k1
            have := el_lcT (K := K) (σ := [some (.ref a), some (.ref ac), some vk, none]) (H := H) (tl := tVar 1) (j := 3) (vs := [3]) (t := tYes) (te := tCB (rTupOf K) (tCons (tVar 3) tNil)) (fun _ => true) (fun i => ws.getD i .non) (ev_var rfl) (st_of hac) (by omega) (fun _ => rfl) (fun i x H4 e4 hx => fun H5 e5 Q5 q5 => q5 H5 (Ex.refl _)) (fun i x H4 e4 hx _ => by
              obtain ⟨dd, hd, kd⟩ := kws.get2 hx
              have hdt := hcs dd (List.mem_of_getElem? hd)
              have : ws.getD i .non = x := by rw [List.getD_eq_getElem?_getD, hx]; rfl
              rw [this]
              cases dd with
              | tuple es =>
                obtain ⟨ax, xs, rfl, hax, _⟩ := (kd.ex e4).tupI'
                exact ev_tupId (K := K) (fun p ys H Q hs hq => ⟨p, ys, rfl, .inr ⟨hs, hq⟩⟩) (ev_var rfl) hax
              | _ => cases hdt)
            rw [given_one] at this
            exact this
          | _ => cases hk
end
end Dt

namespace Dt
open PySem L2 Evl Dg LamR LamX StX ClX
open Dr (StAt SameB)
/-- the style's object at x: its base, its rules -/
def StyAt (H : Hp) (C x : Addr) (β : Nat) (Ds : List PyData) : Prop := ∃ dx t, H x = some (.ins C dx [("stored_base", .int (β : Int)), ("stored_rules", .ref t)]) ∧ Pt H (.ref t) (.tuple Ds)
theorem StyAt.extN {H H' : Hp} {C x : Addr} {β : Nat} {Ds : List PyData} (h : StyAt H C x β Ds) (e : ExtN H H') : StyAt H' C x β Ds := let ⟨dx, t, h1, h2⟩ := h; ⟨dx, t, e _ _ h1 (by simp), h2.extN e⟩
theorem StyAt.ex {H H' : Hp} {C x : Addr} {β : Nat} {Ds : List PyData} (h : StyAt H C x β Ds) (e : Ex H H') : StyAt H' C x β Ds := h.extN (ExtN.of e)
theorem StyAt.same {H H' : Hp} {p c l : Addr} {n : Nat} {a : Int} {C x : Addr} {β : Nat} {Ds : List PyData} (S : StAt H p c l n a) (h : StyAt H C x β Ds) (e : SameB H H' p l) (k : noLs Ds = true) : StyAt H' C x β Ds := by
  obtain ⟨dx, t, h1, h2⟩ := h
  obtain ⟨ls, hl, _⟩ := S.l
  exact ⟨dx, t, e _ _ h1 (ne_of h1 S.d (by intro z; cases z)) (ne_of h1 hl (by intro z; cases z)), h2.tk (tupK_same S e) (by rw [noL]; exact k)⟩
section
variable {P : Program} {w : World} {K : PySem.W.Frag} {mg : Str → Option Value} {base : Heap} {ca : Nat → Addr} {fnb frl fnr fpl : Addr} {C : Addr}
def spInit (K : PySem.W.Frag) (C : Addr) (ca : Nat → Addr) : Sp := fun vs H Q E => ∃ (x t dx : Addr) (vb : V) (rs : List V) (Ds : List PyData) (b : Bool), vs = [.ref x, vb, .ref t] ∧ H x = some (.ins C dx []) ∧ H t = some (.tup rs) ∧ PtAll H rs Ds ∧ Bs K H vb b ∧
  (b = false → Leaves (ca 1) "value" vb H E) ∧ (b = true → ∃ β : Nat, vb = .int β ∧ 2 ≤ β ∧ β ≤ 10 ∧ Due ca H E (dueD β Ds) (∀ (t2 : Addr) (H' : Hp), (∀ b o, H b = some o → b ≠ x → H' b = some o) → H' x = some (.ins C dx [("stored_base", .int (β : Int)), ("stored_rules", .ref t2)]) → Pt H' (.ref t2) (.tuple Ds) → Q .non H'))
theorem scInit : FnScope ["self", "base", "rules", "rule"] ["self", "base", "rules"] (defScope sInit) := ⟨rfl, rfl, rfl, by decide +kernel, rfl, by decide +kernel, by decide +kernel⟩
def spInitR (K : PySem.W.Frag) (C : Addr) (ca : Nat → Addr) : Sp := fun vs H Q E => ∃ ws rest, vs = ws ++ rest ∧ ws.length = 2 ∧ rest.length ≤ sizeLine ∧ ∀ p, H p = Option.none → spInit K C ca (ws ++ [V.ref p]) (upd H p (.tup rest)) Q E
theorem ok_init {f : Addr} {oc kV doc pm cdv ct : Value} {od an : Option Addr} {osl : Array (Option Value)} {fdn fdr fdp : FuncData} (lk : K.lookup f = some ⟨oc, od, .func (PySem.W.fnOf "__init__" "Style.__init__" (defArgs sInit) (defBody sInit) (defScope sInit) .none kV doc pm an cdv ct), osl⟩) (hcd : PySem.W.codeIn K cdv "Style.__init__" = true)
    (cl : Cls K C) (n1 : NoAttr K C "stored_base") (n2 : NoAttr K C "stored_rules") (GN : FnOk P w K mg base (L2.CX P w) 6 fnb fdn ["base"] (spNeed (Bs K) (ca 1))) (bN : Binds K fdn ["base"] [])
    (GR : FnOk P w K mg base (L2.CX P w) 6 fnr fdr ["base", "rules"] (spNeedRules ca)) (bR : Binds K fdr ["base", "rules"] []) (GP : FnOk P w K mg base CX0 6 fpl fdp ["rule"] spPlain) (bP : Binds K fdp ["rule"] []) (T : TxY K mg fnb frl fnr fpl ca) :
    FnR P w K mg base (L2.CX P w) 7 f (spInitR K C ca) := by
  refine fn_star (k := 6) (ps := ["self", "base"]) (pv := "rules") (sp := spInit K C ca) lk hcd scInit cxUp (bind_star2 (B := fun l => bindArgs (PySem.W.fnOf "__init__" "Style.__init__" (defArgs sInit) (defBody sInit) (defScope sInit) .none kV doc pm an cdv ct) ⟨l, []⟩) (p1 := "self") (p2 := "base") (pv := "rules") (fun a b => rfl) (fun a b r rs => rfl)) (fun A outer s H vs Q E hr h => ?_)
  obtain ⟨x, t, dx, vb, rs, Ds, b, rfl, hx, ht, ka, kb, l1, hq⟩ := h
  refine ⟨_, pss_cons (ps_expr (pe_callS GN hr (by rfl) T.needB T.kNB bN (fun σ => passAt (takes_of rfl rfl rfl rfl) σ) (pa_cons (pv 1) pa_nil)))
    (pss_cons (ps_expr (pe_callS GR hr (by rfl) T.needR T.kNR bR (fun σ => passAt (takes_of rfl rfl rfl rfl) σ) (pa_cons (pv 1) (pa_cons (pv 2) pa_nil))))
    (pss_cons (ps_fld (pv 0) (pv 1) rfl)
    (pss_one (ps_fld (pv 0) (pe_callTy (T := "tuple") (r := rTupOf K) call_tuple_of (by rfl) T.tuple (by decide +kernel) (pa_cons (pe_lc (own := [("rule", 3)]) (g := gName 3) (tt := tYes) rfl scInit.nd (pi_tup (pv 2)) (blkOk_by (own := [("rule", 3)]) (N := ["self", "base", "rules", "rule"]) (sc := defScope sInit) (by decide +kernel))
      (fun _ _ _ _ _ => pg_name (i := 3) scInit.nd rfl (Or.inl rfl)) (fun _ _ _ _ _ => pts_nil) (fun _ _ _ _ _ => pe_call GP hr (by rfl) T.plain T.kPl bP .nil pass0 (pa_cons (pv 3) pa_nil))) pa_nil)) rfl)))), ?_⟩
  refine ⟨_, rfl, vb, b, rfl, kb, fun hb H1 e1 => ?_, fun hb => l1 hb⟩
  obtain ⟨β, rfl, b2, b10, due⟩ := hq hb
  refine ⟨_, rfl, _, rfl, β, t, rs, Ds, rfl, b2, b10, e1 _ _ ht, ka.ex e1, ⟨fun pl hp => (due.bad pl hp).go e1, fun hn H2 e2 => ?_⟩⟩
  have e12 := e1.trans e2
  obtain ⟨hlen, hall, _⟩ := due_none hn
  have hnl := rules_noL hall
  have hl := ka.length
  refine ⟨_, rfl, _, rfl, x, C, dx, [], rfl, e12 _ _ hx, cl, n1, by decide, ?_⟩
  dsimp only [putF]
  have kx0 : ∀ b o, H b = some o → b ≠ x → (upd H2 x (.ins C dx [("stored_base", .int (β : Int))])) b = some o := fun b o h hb => by
    rw [upd_ne hb]
    exact e12 _ _ h
  have txt : t ≠ x := ne_of ht hx (by intro z; cases z)
  refine ⟨_, rfl, t, rfl, ⟨rs, st_of (kx0 _ _ ht txt)⟩, fun Dl nDl => ?_⟩
  have nDx : Dl ≠ x := fun z => by
    rw [z, upd_same] at nDl
    cases nDl
  have nDH : H Dl = none := by
    cases hz : H Dl with
    | none => rfl
    | some o => exact absurd (nDl.symm.trans (kx0 _ _ hz nDx)) (by simp)
  refine lc_tup (xs := rs) (fun j H' => ∃ ws, H' Dl = some (.lst ws) ∧ PtAll H' ws (Ds.take j) ∧ (∀ b o, H b = some o → b ≠ x → H' b = some o) ∧ H' x = some (.ins C dx [("stored_base", .int (β : Int))]))
    ⟨[], upd_same, .nil, fun b o h hb => by rw [upd_ne (ne_of_none h nDH)]; exact kx0 b o h hb, by rw [upd_ne nDx.symm]; exact upd_same⟩ (fun i H' _ hI => st_of (hI.choose_spec.2.2.1 _ _ ht txt)) (fun i y H4 hy hI => ?_) (fun H4 hI => ?_)
  · obtain ⟨ws, hD, kw, kx, hx4⟩ := hI
    obtain ⟨dd, hdd, kd⟩ := ka.get2 hy
    have hi : i < rs.length := (List.getElem?_eq_some_iff.mp hy).1
    have hrd : ruleB β dd = true := List.all_eq_true.mp hall dd (List.mem_of_getElem? hdd)
    have tk4 : TupK H H4 := fun a xs h => kx a _ h (ne_of h hx (by intro z; cases z))
    obtain ⟨cs, k, rfl, hc3, hcs, hks⟩ := rule_inv hrd
    refine ⟨rfl, ?_⟩
    rw [show (tYes : TT) = fun _ H Q => Q true H from rfl]
    dsimp only
    rw [if_pos rfl]
    refine ⟨_, rfl, y, cs, k, rfl, kd.tk tk4 (rule_noL hrd), fun c hc => (cond_noL (hcs c hc)).2, (keep_noL hks).2, hc3, fun v' H5 e5 k5 => ⟨ws, e5 _ _ hD, ?_, ws ++ [v'], upd_same, ?_, fun b o h hb => ?_, ?_⟩⟩
    · rw [kw.length, List.length_take, sizeLine_eq]
      omega
    · rw [List.take_add_one, hdd]
      have tk5 : TupK H4 (upd H5 Dl (.lst (ws ++ [v']))) := (tupK_ex e5).trans (tupK_upd (e5 _ _ hD))
      exact (kw.tk tk5 (rules_noL (by
        refine List.all_eq_true.mpr fun d hd => List.all_eq_true.mp hall d (List.mem_of_mem_take hd)))).app (.cons (k5.tk (tupK_upd (e5 _ _ hD)) (rule_noL hrd)) .nil)
    · rw [upd_ne (ne_of_none h nDH)]
      exact e5 _ _ (kx b o h hb)
    · rw [upd_ne nDx.symm]
      exact e5 _ _ hx4
  · obtain ⟨ws, hD, kw, kx, hx4⟩ := hI
    rw [hl, List.take_length] at kw
    refine ⟨Dl, ws, rfl, .inl ⟨SqL.of hD, fun t2 nt2 => ?_⟩⟩
    have e5 := Ex.new (o := .tup ws) nt2
    refine ⟨_, rfl, x, C, dx, _, rfl, e5 _ _ hx4, cl, n2, (by simp), ?_⟩
    have hx5 := e5 _ _ hx4
    refine due.ok hn t2 _ (fun b o h hb => ?_) upd_same ?_
    · rw [upd_ne hb]
      exact e5 _ _ (kx b o h hb)
    · have k2 : Pt (upd H4 t2 (.tup ws)) (.ref t2) (.tuple Ds) := .tup upd_same (kw.ex e5)
      refine k2.tk (fun a xs h => ?_) (by rw [noL]; exact hnl)
      rw [upd_ne (ne_of h hx5 (by intro z; cases z))]
      exact h
/-- what Style.of asks of its rules -/
def dueO (β : Nat) : PyData → Option PyData
  | .tuple ds => dueD β ds
  | .list ds => dueD β ds
  | _ => some .none
def seqD : PyData → List PyData
  | .tuple ds => ds
  | .list ds => ds
  | _ => []
def isQ : PyData → Bool
  | .tuple _ => true
  | .list _ => true
  | _ => false
theorem kit_list (d : PyData) : kitB (tyN d) "list" = some (match d with | .list _ => true | _ => false) := by
  cases d <;> simp only [tyN] <;> decide +kernel
theorem kit_seq (d : PyData) : PySem.W.kitAny K (.type (tyN d)) [.type "list", .type "tuple"] = some (isQ d) := by
  have h1 := kit_ty (K := K) (kit_list d)
  have h2 := kit_ty (K := K) (kit_tup d)
  cases d <;> simp only [PySem.W.kitAny, h1, h2, isQ, isT]
def spOfS (K : PySem.W.Frag) (C : Addr) (ca : Nat → Addr) : Sp := fun vs H Q E => ∃ (vb v : V) (d : PyData) (b : Bool), vs = [.ref C, vb, v] ∧ Bs K H vb b ∧ Pt H v d ∧ (seqD d).length ≤ 100000 ∧
  (b = false → Leaves (ca 1) "value" vb H E) ∧ (b = true → ∃ β : Nat, vb = .int β ∧ 2 ≤ β ∧ β ≤ 10 ∧ Due ca H E (dueO β d) (∀ (x : Addr) (H' : Hp), Ex H H' → StyAt H' C x β (seqD d) → Q (.ref x) H'))
theorem scOfS : FnScope ["cls", "base", "rules"] ["cls", "base", "rules"] (defScope sOfS) := ⟨rfl, rfl, rfl, by decide +kernel, rfl, by decide +kernel, by decide +kernel⟩
theorem ok_ofS {f fi : Addr} {fd fdn : FuncData} (F : Fun K "of" "Style.of" sOfS f fd) (M : Mk K C fi) (GI : FnR P w K mg base (L2.CX P w) 7 fi (spInitR K C ca)) (GN : FnOk P w K mg base (L2.CX P w) 8 fnb fdn ["base"] (spNeed (Bs K) (ca 1))) (bN : Binds K fdn ["base"] [])
    (M5 : Mks P K mg (ca 5) ["place"]) (T : TxY K mg fnb frl fnr fpl ca) : FnOk P w K mg base (L2.CX P w) 9 f fd ["cls", "base", "rules"] (spOfS K C ca) := by
  refine F.okX scOfS (fun vs H Q E h => ?_) (fun cdv A outer s H vs Q E hr h => ?_)
  · obtain ⟨vb, v, d, b, rfl, _⟩ := h
    rfl
  · obtain ⟨vb, v, d, b, rfl, kb, kv, hsz, l1, hq⟩ := h
    refine ⟨_, pss_cons (ps_expr (pe_callS GN hr (by rfl) T.needB T.kNB bN (fun σ => passAt (takes_of rfl rfl rfl rfl) σ) (pa_cons (pv 1) pa_nil)))
      (pss_cons (ps_if (pt_not (pt_val (pe_callB call_isiT (by rfl) T.isi (by decide +kernel) (pa_cons (pv 2) (pa_cons (pe_tup (pa_cons (pe_bltn (by rfl) T.list (by decide +kernel) (v := .ty "list") rfl) (pa_cons (pe_bltn (by rfl) T.tuple (by decide +kernel) (v := .ty "tuple") rfl) pa_nil))) pa_nil)))))
        (pss_one (ps_raise rfl (takes_of rfl rfl rfl rfl) (pmk_mks M5 T.sup hr (by simp) (pa_cons pe_non pa_nil) (by rfl) T.badRule))) pss_nil)
      (pss_one (ps_ret (pe_makeLS (i := 0) M GI hr rfl (.inl rfl) (fun pins σ H s e s' I c => passAt (takes_of rfl rfl rfl rfl) σ pins H s e s' I c) (pa_cons (pv 1) (pa_star (pv 2) pa_nil)))))), ?_⟩
    refine ⟨_, rfl, vb, b, rfl, kb, fun hb H1 e1 => ?_, fun hb => l1 hb⟩
    obtain ⟨β, rfl, b2, b10, due⟩ := hq hb
    have k1 := kv.ex e1
    dsimp only
    refine q_when (b := !isQ d) (et_not (et_B (fun H2 e2 Q2 q2 => ⟨_, rfl, (by show (2:Nat) ≤ sizeLine; rw [sizeLine_eq]; omega), fun tp ntp => ⟨v, tp, _, _, [.type "list", .type "tuple"], isQ d, rfl, upd_same, .cons (.ty "list") (.cons (.ty "tuple") .nil), tyx_ex (Ex.new ntp) (k1.ex e2).ty, kit_seq d, q2 _ (Ex.new ntp)⟩⟩))) (fun z H2 e2 => ?_) (fun z H2 e2 => ?_)
    · have hd : dueO β d = some .none := by
        have : isQ d = false := by simpa using z
        cases d <;> first | rfl | cases this
      exact ⟨rfl, fun dd hdd => ((due.bad _ hd).go (e1.trans e2)) H2 dd (Ex.refl _) hdd⟩
    · have e12 := e1.trans e2
      have k2 := kv.ex e12
      have key : ∃ a vs, v = .ref a ∧ (SqT K H2 a vs ∨ SqL K H2 a vs) ∧ PtAll H2 vs (seqD d) ∧ dueO β d = dueD β (seqD d) := by
        have hq' : isQ d = true := by simpa using z
        cases k2 with
        | tup hs ha => exact ⟨_, _, rfl, .inl (st_of hs), ha, rfl⟩
        | lst hs ha => exact ⟨_, _, rfl, .inr (sq_of hs), ha, rfl⟩
        | _ => cases hq'
      obtain ⟨a, us, rfl, hs, kus, hdue⟩ := key
      have hl := kus.length
      refine ⟨rfl, _, rfl, _, rfl, a, us, rfl, hs, fun x dx hx hdx hne => ?_⟩
      refine ⟨[.ref x, .int β], us ++ [], rfl, rfl, ?_, fun p hp => ?_⟩
      · rw [List.append_nil, hl, sizeLine_eq]
        omega
      have eA : Ex H2 (upd (upd H2 dx (.own x)) x (.ins C dx [])) := (Ex.new hdx).trans (Ex.new (by rw [upd_ne (Ne.symm hne)]; exact hx))
      have eB := Ex.new (o := .tup (us ++ [])) hp
      have eAB := eA.trans eB
      refine ⟨x, p, dx, .int β, us ++ [], seqD d, true, rfl, eB _ _ upd_same, upd_same, (List.append_nil us).symm ▸ kus.ex eAB, bs_yes b2 b10, (fun z => nomatch z), fun _ => ⟨β, rfl, b2, b10, ⟨fun pl hpl => ((due.bad pl (hdue.trans hpl)).go (e12.trans eAB)), fun hn t2 H' kx hx' k' => ⟨rfl, ?_⟩⟩⟩⟩
      refine due.ok (hdue.trans hn) x H' (fun b o h => ?_) ⟨dx, t2, hx', k'⟩
      exact kx b o (eAB _ _ (e12 _ _ h)) (ne_of_none (e12 _ _ h) hx)
end
end Dt

/-! Rules as they are shown, laid and cut. -/
namespace Dt
open PySem L2 Evl Dg LamR LamX TL
open Dr (StAt SameB)
/-! Data that stands in the written form -/
mutual
/-- no dict in it -/
def noK : PyData → Bool
  | .list ds => noKs ds
  | .dict _ => false
  | .tuple ds => noKs ds
  | _ => true
def noKs : List PyData → Bool
  | [] => true
  | d :: ds => noK d && noKs ds
end
mutual
theorem noL_K : ∀ {d : PyData}, noL d = true → noK d = true
  | .none, _ => rfl
  | .bool _, _ => rfl
  | .int _, _ => rfl
  | .str _, _ => rfl
  | .tuple ds, h => by
    rw [noK]
    exact noLs_K (by rw [noL] at h; exact h)
  | .list _, h => by rw [noL] at h; cases h
  | .dict _, h => by rw [noL] at h; cases h
theorem noLs_K : ∀ {ds : List PyData}, noLs ds = true → noKs ds = true
  | [], _ => rfl
  | d :: ds, h => by
    rw [noLs, Bool.and_eq_true] at h
    rw [noKs, noL_K h.1, noLs_K h.2]
    rfl
end
mutual
theorem Pt.dp {K : PySem.W.Frag} {H : Hp} : ∀ {v : V} {d : PyData}, Pt H v d → noK d = true → Dp K H v d
  | _, .none, h, _ => by cases h; exact .non
  | _, .bool _, h, _ => by cases h; exact .bl _
  | _, .int _, h, _ => by cases h; exact .int _
  | _, .str _, h, _ => by cases h with | str _ _ => exact .str _
  | _, .tuple ds, h, k => by
    cases h with
    | tup hs ha => exact .tup (st_of hs) (PtAll.dp ha (by rw [noK] at k; exact k))
  | _, .list ds, h, k => by
    cases h with
    | lst hs ha => exact .lst (sq_of hs) (PtAll.dp ha (by rw [noK] at k; exact k))
  | _, .dict _, _, k => by rw [noK] at k; cases k
theorem PtAll.dp {K : PySem.W.Frag} {H : Hp} : ∀ {vs : List V} {ds : List PyData}, PtAll H vs ds → noKs ds = true → DpAll K H vs ds
  | _, [], h, _ => by cases h; exact .nil
  | _, d :: ds, h, k => by
    cases h with
    | cons h1 h2 =>
      rw [noKs, Bool.and_eq_true] at k
      exact .cons (Pt.dp h1 k.1) (PtAll.dp h2 k.2)
end
theorem PtAll.drop {H : Hp} : ∀ {vs : List V} {ds : List PyData}, PtAll H vs ds → ∀ n : Nat, PtAll H (vs.drop n) (ds.drop n)
  | _, [], h, n => by
    cases h
    rw [List.drop_nil, List.drop_nil]
    exact .nil
  | _, d :: ds, h, n => by
    cases h with
    | cons h1 h2 =>
      cases n with
      | zero => exact .cons h1 h2
      | succ n => exact PtAll.drop h2 n
def cutD (ds : List PyData) (lo hi : Option Int) : List PyData := (ds.drop (HT.sIx ds.length 0 lo)).take (HT.sIx ds.length ds.length hi - HT.sIx ds.length 0 lo)
theorem mem_cut {ds : List PyData} {lo hi : Option Int} {d : PyData} (h : d ∈ cutD ds lo hi) : d ∈ ds := List.mem_of_mem_drop (List.mem_of_mem_take h)
theorem len_cut (ds : List PyData) (lo hi : Option Int) : (cutD ds lo hi).length ≤ ds.length := by
  unfold cutD
  rw [List.length_take, List.length_drop]
  omega
theorem cut_whole {ds : List PyData} {lo hi : Option Int} (h : HT.sIx ds.length 0 lo = 0 ∧ HT.sIx ds.length ds.length hi = ds.length) : cutD ds lo hi = ds := by
  unfold cutD
  rw [h.1, h.2, List.drop_zero, Nat.sub_zero, List.take_length]
theorem PtAll.cut {H : Hp} {vs : List V} {ds : List PyData} (h : PtAll H vs ds) (lo hi : Option Int) : PtAll H (cutV vs lo hi) (cutD ds lo hi) := by
  unfold cutV cutD
  rw [h.length]
  exact (h.drop _).take _
section
variable {K : PySem.W.Frag} {H : Hp} {Q : VK}
theorem rd_sl {a : Addr} {xs : List V} {Ds : List PyData} {lo hi : Option Int} (h : H a = some (.tup xs)) (ka : PtAll H xs Ds) (k : ∀ b H' ys, Ex H H' → H' b = some (.tup ys) → PtAll H' ys (cutD Ds lo hi) → Q (.ref b) H') : rSlA K (.ref a) lo hi H Q := by
  refine ⟨a, xs, rfl, st_of h, fun hw => ?_, fun hw p hp => ?_⟩
  · rw [ka.length] at hw
    exact k a H xs (Ex.refl H) h (by rw [cut_whole hw]; exact ka)
  · exact k p _ _ (Ex.new hp) upd_same ((ka.cut lo hi).ex (Ex.new hp))
theorem rd_cat {a b : Addr} {xs ys : List V} {Ds Es : List PyData} (ha : H a = some (.tup xs)) (hb : H b = some (.tup ys)) (ka : PtAll H xs Ds) (kb : PtAll H ys Es) (hl : Ds.length + Es.length ≤ 100000) (k : ∀ c H' zs, Ex H H' → H' c = some (.tup zs) → PtAll H' zs (Ds ++ Es) → Q (.ref c) H') : rCatA K (.ref a) (.ref b) H Q := by
  refine ⟨a, b, xs, ys, rfl, rfl, st_of ha, st_of hb, sz_of (by rw [ka.length, kb.length]; exact hl), fun hx => ?_, fun hx hy => ?_, fun hx hy p hp => ?_⟩
  · have : Ds = [] := by
      have := ka.length
      rw [hx] at this
      exact List.length_eq_zero_iff.mp this.symm
    subst this
    exact k b H ys (Ex.refl H) hb kb
  · have : Es = [] := by
      have := kb.length
      rw [hy] at this
      exact List.length_eq_zero_iff.mp this.symm
    subst this
    rw [List.append_nil] at k
    exact k a H xs (Ex.refl H) ha ka
  · exact k p _ _ (Ex.new hp) upd_same ((ka.app kb).ex (Ex.new hp))
end
/-! small: what is shown of a rule -/
structure Ts (d : PyData) (m n : Nat) : Prop where
  p : plainD d
  c : cap d ≤ m
  e : d.depth ≤ n
  l : d.canLay0 = true
theorem ts_int {i : Int} (h : i.natAbs < 2 ^ 64) : Ts (.int i) 1921 0 := ⟨by
  show i.natAbs.log2 < 1920
  by_cases hz : i.natAbs = 0
  · rw [hz]; decide
  · exact Nat.lt_of_lt_of_le ((Nat.log2_lt hz).mpr h) (by decide), by simp [cap], by simp [PyData.depth], rfl⟩
theorem figs1 : ∀ c < 10, (PyData.str ⟨#[48 + c]⟩).canLay0 = true := by decide +kernel
theorem figs2 : ∀ c < 10, ∀ d < 10, (PyData.str ⟨#[48 + c, 48 + d]⟩).canLay0 = true := by decide +kernel
theorem figs_cases {β : Nat} {x : Str} (b10 : β ≤ 10) (h : isFigs β 2 x = true) : (∃ c, c < 10 ∧ x = ⟨#[48 + c]⟩) ∨ ∃ c d, c < 10 ∧ d < 10 ∧ x = ⟨#[48 + c, 48 + d]⟩ := by
  unfold isFigs at h
  rw [Bool.and_eq_true, Bool.and_eq_true] at h
  obtain ⟨⟨h1, h2⟩, h3⟩ := h
  have h1 := of_decide_eq_true h1
  have h2 := of_decide_eq_true h2
  obtain ⟨⟨l⟩⟩ := x
  have hl : (Str.length ⟨⟨l⟩⟩) = l.length := rfl
  rw [hl] at h1 h2
  have h3 : l.all (fun c => decide (48 ≤ c ∧ c < 48 + β)) = true := h3
  match l, h1, h2, h3 with
  | [a], _, _, h3 =>
    simp only [List.all_cons, List.all_nil, Bool.and_true, decide_eq_true_eq] at h3
    exact .inl ⟨a - 48, by omega, by rw [show 48 + (a - 48) = a by omega]⟩
  | [a, b], _, _, h3 =>
    simp only [List.all_cons, List.all_nil, Bool.and_true, Bool.and_eq_true, decide_eq_true_eq] at h3
    exact .inr ⟨a - 48, b - 48, by omega, by omega, by rw [show 48 + (a - 48) = a by omega, show 48 + (b - 48) = b by omega]⟩
theorem ts_figs {β : Nat} {x : Str} (b10 : β ≤ 10) (h : isFigs β 2 x = true) : Ts (.str x) 22 0 := by
  rcases figs_cases b10 h with ⟨c, hc, rfl⟩ | ⟨c, d, hc, hd, rfl⟩
  · exact ⟨fun e he => by
      have : e = 48 + c := by simpa using he
      rw [this]
      exact Nat.lt_of_lt_of_le (show 48 + c < 58 by omega) (by decide), by simp [cap, Str.length], by simp [PyData.depth], figs1 c hc⟩
  · exact ⟨fun e he => by
      have : e = 48 + c ∨ e = 48 + d := by simpa using he
      rcases this with rfl | rfl
      · exact Nat.lt_of_lt_of_le (show 48 + c < 58 by omega) (by decide)
      · exact Nat.lt_of_lt_of_le (show 48 + d < 58 by omega) (by decide), by simp [cap, Str.length], by simp [PyData.depth], figs2 c hc d hd⟩
theorem ts_word {w : Str} (h : w = "ends" ∨ w = "near" ∨ w = "length" ∨ w = "changed" ∨ w = "all" ∨ w = "last") : Ts (.str w) 72 0 := by
  have one : ∀ {w : Str}, (∀ c ∈ w.cps.toList, c < 16 ^ 8) → w.length ≤ 7 → (PyData.str w).canLay0 = true → Ts (.str w) 72 0 := fun h1 h2 h3 => ⟨h1, by simp only [cap]; omega, by simp [PyData.depth], h3⟩
  rcases h with rfl | rfl | rfl | rfl | rfl | rfl <;> exact one (by decide) (by decide) (by decide +kernel)
theorem ts_non : Ts .none 4 0 := ⟨trivial, by simp [cap], by simp [PyData.depth], rfl⟩
theorem Ts.up {d : PyData} {m m' n n' : Nat} (t : Ts d m n) (h : m ≤ m') (k : n ≤ n') : Ts d m' n' := ⟨t.p, Nat.le_trans t.c h, Nat.le_trans t.e k, t.l⟩
inductive TsAll (m n : Nat) : List PyData → Prop
  | nil : TsAll m n []
  | cons {d : PyData} {ds : List PyData} : Ts d m n → TsAll m n ds → TsAll m n (d :: ds)
theorem TsAll.tup {m n : Nat} {ds : List PyData} (h : TsAll m n ds) : Ts (.tuple ds) (ds.length * (m + 2) + 4) (n + 1) := by
  have key : plainAll ds ∧ capAll ds ≤ ds.length * (m + 2) ∧ PyData.depthAll ds ≤ n ∧ PyData.canLayAll0 ds = true := by
    induction h with
    | nil => exact ⟨trivial, Nat.zero_le _, Nat.zero_le _, rfl⟩
    | cons h t ih =>
      obtain ⟨a, b, c, d⟩ := ih
      refine ⟨⟨h.p, a⟩, ?_, ?_, ?_⟩
      · have := h.c
        simp only [capAll, List.length_cons, Nat.add_mul]
        omega
      · have := h.e
        simp only [PyData.depthAll]
        omega
      · simp only [PyData.canLayAll0, h.l, d, Bool.and_self]
  obtain ⟨a, b, c, d⟩ := key
  exact ⟨a, by simp only [cap]; omega, by simp only [PyData.depth]; omega, by simpa only [PyData.canLay0] using d⟩
theorem tsAll_of {m n : Nat} : ∀ {ds : List PyData}, (∀ d ∈ ds, Ts d m n) → TsAll m n ds
  | [], _ => .nil
  | d :: ds, h => .cons (h d List.mem_cons_self) (tsAll_of fun e he => h e (List.mem_cons_of_mem _ he))
theorem ts_cond {β : Nat} {d : PyData} (b10 : β ≤ 10) (h : CondS β d) : Ts d 6000 1 := by
  cases h with
  | ends x hx => exact (TsAll.tup (m := 1921) (n := 0) (.cons ((ts_word (.inl rfl)).up (by decide) (by decide)) (.cons ((ts_figs b10 hx).up (by decide) (by decide)) .nil))).up (by simp) (by decide)
  | near i h0 h6 => exact (TsAll.tup (m := 1921) (n := 0) (.cons ((ts_word (.inr (.inl rfl))).up (by decide) (by decide)) (.cons (ts_int (by omega)) .nil))).up (by simp) (by decide)
  | len w hw i h1 h6 e he =>
    have tw : Ts (.str w) 72 0 := ts_word (by rcases hw with rfl | rfl <;> simp)
    have te : Ts e 1921 0 := by
      rcases he with rfl | ⟨j, rfl, _, _⟩
      · exact ts_non.up (by decide) (by decide)
      · exact ts_int (by omega)
    exact (TsAll.tup (m := 1921) (n := 0) (.cons (tw.up (by decide) (by decide)) (.cons (ts_int (by omega)) (.cons te .nil)))).up (by simp) (by decide)
theorem ts_keep {d : PyData} (h : KeepS d) : Ts d 6000 1 := by
  cases h with
  | all => exact (TsAll.tup (m := 1921) (n := 0) (.cons ((ts_word (by simp)).up (by decide) (by decide)) .nil)).up (by decide) (by decide)
  | size w hw i h1 h6 =>
    have tw : Ts (.str w) 72 0 := ts_word (by rcases hw with rfl | rfl <;> simp)
    exact (TsAll.tup (m := 1921) (n := 0) (.cons (tw.up (by decide) (by decide)) (.cons (ts_int (by omega)) .nil))).up (by simp) (by decide)
theorem ts_conds {β : Nat} {cs : List PyData} (b10 : β ≤ 10) (h3 : cs.length ≤ 3) (h : ∀ c ∈ cs, CondS β c) : Ts (.tuple cs) 20000 2 := (TsAll.tup (m := 6000) (n := 1) (tsAll_of fun c hc => ts_cond b10 (h c hc))).up (by omega) (by decide)
theorem ts_rule {β : Nat} {d : PyData} (b10 : β ≤ 10) (h : ruleB β d = true) : Ts d 50000 3 := by
  obtain ⟨cs, k, rfl, h3, hc, hk⟩ := rule_inv h
  exact (TsAll.tup (m := 20000) (n := 2) (.cons (ts_conds b10 h3 hc) (.cons ((ts_keep hk).up (by decide) (by decide)) .nil))).up (by simp) (by decide)
theorem ts_rules {β : Nat} {ds : List PyData} (b10 : β ≤ 10) (h : ds.all (ruleB β) = true) (hl : ds.length ≤ 20) : Ts (.tuple ds) 1100000 4 :=
  (TsAll.tup (m := 50000) (n := 3) (tsAll_of fun d hd => ts_rule b10 (List.all_eq_true.mp h d hd))).up (by omega) (by decide)
theorem Ts.shaped {d : PyData} {m n : Nat} (t : Ts d m n) (h : n ≤ 60) : SeqAt.shaped d = true := Bool.and_eq_true_iff.mpr ⟨t.l, decide_eq_true (by have := t.e; omega)⟩
theorem eqv_none (cs : List PyData) : PyData.eqv (.tuple cs) (.tuple []) = decide (cs = []) := by
  cases cs with
  | nil => simp [PyData.eqv, PyData.eqvAll]
  | cons n ns => simp [PyData.eqv, PyData.eqvAll]
end Dt

/-! repr of a word with a thing (which may be a small dict), and of lists of such. -/
namespace L2
open PySem PySem.Spec PyProof.Rows Evl
/-- what Di tells, an empty dict, or a tuple of a text and such -/
inductive Dj (K : PySem.W.Frag) (H : Hp) : V → PyData → Prop
  | di {v : V} {d : PyData} : Di K H v d → Dj K H v d
  | nil {a : Addr} : H a = some (.dK []) → Dj K H (.ref a) (.dict [])
  | pair {a : Addr} {x : Str} {v : V} {d : PyData} : SqT K H a [.str x, v] → Dj K H v d → Dj K H (.ref a) (.tuple [.str x, d])
inductive DjAll (K : PySem.W.Frag) (H : Hp) : List V → List PyData → Prop
  | nil : DjAll K H [] []
  | cons {v : V} {vs : List V} {d : PyData} {ds : List PyData} : Dj K H v d → DjAll K H vs ds → DjAll K H (v :: vs) (d :: ds)
section
variable {X : Cx} {pins : List (Addr × Obj)} {σ : St} {H : Hp} {s : Shared}
theorem Dj.reads (I : Inv X pins σ H s) {v : V} {d : PyData} (h : Dj X.K H v d) : ∀ {u : Value}, RelV v u → ∃ as, Reads s.heap u d as ∧ (d.hasDict = true → sysModules ∉ as) := by
  induction h with
  | di h => exact fun r => Di.reads I h r
  | @nil a hs =>
    intro u r
    cases r
    obtain ⟨_, hne, vs, rel, o, es, ep, ho, ⟨hx, _, _⟩, hd, _, hp, _⟩ := dk_of I.hok hs
    cases rel
    cases es with
    | mk es =>
    cases hp
    refine ⟨_, Reads.dict ho hx hd (kvs := []) (as := []) (bs := []) .nil .nil, fun _ h => ?_⟩
    simp only [List.append_nil, List.mem_cons, List.not_mem_nil, or_false] at h
    rw [← h] at hne
    exact absurd hne (by decide)
  | @pair a x v d hs hv ih =>
    intro u r
    cases r
    obtain ⟨its, rv, ⟨o, ho, hc, n, hd⟩, _⟩ := I.tuple hs
    obtain ⟨u1, u2, rfl, ⟨t, rfl⟩, r2⟩ := vals2 rv
    obtain ⟨bs, hr, hm⟩ := ih r2
    refine ⟨_, Reads.tuple ho hc hd (.cons (.str _ _) (.cons hr .nil)), fun z h => hm ?_ ?_⟩
    · simpa [PyData.hasDict, PyData.hasDictAll] using z
    · simpa using h
theorem DjAll.reads (I : Inv X pins σ H s) : ∀ {ds : List PyData} {vs : List V} {us : List Value}, DjAll X.K H vs ds → Vals vs us → ReadsI s.heap us ds
  | [], _, _, h, r => by
    cases h
    cases r
    exact .nil
  | d :: ds, _, _, h, r => by
    cases h with
    | cons h1 h2 =>
      cases r with
      | cons r1 r2 =>
        obtain ⟨as, q, m⟩ := Dj.reads I h1 r1
        exact .cons q m (DjAll.reads I h2 r2)
theorem Dj.ex {K : PySem.W.Frag} {H H' : Hp} (e : Ex H H') {v : V} {d : PyData} (h : Dj K H v d) : Dj K H' v d := by
  induction h with
  | di h => exact .di (h.ex e)
  | nil h => exact .nil (e _ _ h)
  | pair h _ ih => exact .pair (ex_t e h) ih
theorem DjAll.ex {K : PySem.W.Frag} {H H' : Hp} (e : Ex H H') : ∀ {vs : List V} {ds : List PyData}, DjAll K H vs ds → DjAll K H' vs ds
  | _, _, .nil => .nil
  | _, _, .cons h t => .cons (h.ex e) (t.ex e)
end
def rReprJ (K : PySem.W.Frag) : List V → Hp → VK → Prop := fun xs H Q => ∃ v d, xs = [v] ∧ Dj K H v d ∧ d.showable = true ∧ d.shown.length ≤ sizeLine ∧ d.depth ≤ 60 ∧ Q (.str d.shown) H
def rReprK (K : PySem.W.Frag) : List V → Hp → VK → Prop := fun xs H Q => ∃ a vs ds, xs = [.ref a] ∧ SqL K H a vs ∧ DjAll K H vs ds ∧ (PyData.list ds).showable = true ∧ (PyData.list ds).shown.length ≤ sizeLine ∧ PyData.depthAll ds ≤ 60 ∧ Q (.str (PyData.list ds).shown) H
theorem call_reprJ {X : Cx} (hg : X.A.guards = some []) (hu : X.A.units + 64 < cLine) : CallR X (.builtin "repr") (rReprJ X.K) := by
  intro pins s σ H xs us Q I r h
  obtain ⟨v, d, rfl, hd, hs, hz, hdp, q⟩ := h
  cases r with
  | @cons _ u _ us r1 r2 =>
    cases r2
    show wpAny _ _ (call (.builtin "repr") [u]) _ _ _
    obtain ⟨as, rd, hm⟩ := Dj.reads I hd r1
    cases rd with
    | none => exact P.repr_of_none ⟨.str _, H, I.tok _, ⟨_, rfl⟩, by simpa [PyData.shown] using q⟩
    | bool b => exact P.repr_of_bool ⟨.str _, H, I.tok _, ⟨_, rfl⟩, by simpa [PyData.shown] using q⟩
    | int i t => exact P.repr_of_int (by simpa [PyData.showable] using hs) ⟨.str _, H, I.tok _, ⟨_, rfl⟩, by simpa [PyData.shown] using q⟩
    | str x t => exact P.repr_of_str ⟨.str _, H, I.tok _, ⟨_, rfl⟩, by simpa [PyData.shown] using q⟩ (by simpa [PyData.shown] using hz)
    | list h1 h2 h3 h4 => exact repr_of_reads' (.list h1 h2 h3 h4) hs hm hg (by omega) (fun _ _ e => e) (fun h' u tk k => ⟨.str _, H, I.kept (t' := tk) k, ⟨_, rfl⟩, q⟩) hz
    | tuple h1 h2 h3 h4 => exact repr_of_reads' (.tuple h1 h2 h3 h4) hs hm hg (by omega) (fun _ _ e => e) (fun h' u tk k => ⟨.str _, H, I.kept (t' := tk) k, ⟨_, rfl⟩, q⟩) hz
    | dict h1 h2 h3 h4 h5 => exact repr_of_reads' (.dict h1 h2 h3 h4 h5) hs hm hg (by omega) (fun _ _ e => e) (fun h' u tk k => ⟨.str _, H, I.kept (t' := tk) k, ⟨_, rfl⟩, q⟩) hz
theorem call_reprK {X : Cx} (hg : X.A.guards = some []) (hu : X.A.units + 64 < cLine) : CallR X (.builtin "repr") (rReprK X.K) := by
  intro pins s σ H xs us Q I r h
  obtain ⟨a, vs, ds, rfl, hS, hd, hs, hz, hdp, q⟩ := h
  cases r with
  | @cons _ u _ us r1 r2 =>
    cases r2
    cases r1
    show wpAny _ _ (call (.builtin "repr") [.ref a]) _ _ _
    obtain ⟨its, rv, ⟨o, n, h1, h2, _, h3⟩, _⟩ := I.list hS
    have RI := DjAll.reads I hd rv
    obtain ⟨as, h4⟩ := RI.all
    have hz' : (listText (PyData.shownAll ds)).length ≤ sizeLine := by simpa only [PyData.shown] using hz
    obtain ⟨bs, hb, hk⟩ := RI.repr (prog := X.prog) (w := X.w) (by simpa [PyData.showable] using hs) (fun t ht => Nat.le_trans (listText_mem_le ht) hz')
    have h4' : ReadsAll s.heap its.toArray.toList ds as := by simpa using h4
    have hna : a ∉ bs := not_mem_of_deeper (.list h1 h2 h3 h4') (by simp only [PyData.depth]; omega) hb
    have fin : ∀ {h' u tk}, (∀ b o, s.heap.get? b = some o → h'.get? b = some o) → EP X pins σ Q (.str (PyData.list ds).shown u) { s with heap := h', toks := tk } := fun {h' u tk} k => ⟨.str _, H, I.kept (t' := tk) k, ⟨_, rfl⟩, q⟩
    refine call_repr_slot (by omega) ⟨o, h1, h2⟩ F.slot_list_repr.toG ?_
    cases its with
    | nil =>
      cases h4
      have e : (PyData.list []).shown = ("[]" : Str) := by simp only [PyData.shown, PyData.shownAll, listText_nil]
      refine call_list_repr_empty ⟨o, h1, h2⟩ h1 h3 ⟨_, _, rfl, ?_⟩
      rw [← e]
      exact fin fun _ _ e => e
    | cons x l =>
      refine call_list_reprK h1 h2 h3 hna (by simpa using hk.length_eq) (fun i y e => hk.item i y (by simpa using e)) hg (fun b _ => Clear.nil b) (by show X.A.units + 1 + _ < _; omega) (fun _ _ e => e) (fun h' u tk k => ⟨_, _, rfl, ?_⟩) hz'
      have := fin (h' := h') (u := u) (tk := tk) k
      simpa only [PyData.shown] using this
section
variable {K : PySem.W.Frag} {σ : L2.St} {H : Hp} {te : TE}
theorem ev_reprJ {v : V} {d : PyData} (h : Ev te σ H v) (hd : Dj K H v d) (s : Sm d) : Ev (tCB (rReprJ K) (tCons te tNil)) σ H (.str d.shown) :=
  ev_cb (ea_cons h ea_nil) fun H1 e Q q => ⟨v, d, rfl, hd.ex e, s.a, Nat.le_trans s.b (by rw [sizeLine_eq]; omega), Nat.le_trans s.c (by decide), q H1 (Ex.refl H1)⟩
theorem ev_reprK {vs : List V} {ds : List PyData} (h : EvL te σ H vs) (hd : DjAll K H vs ds) (s : SmAll ds) (hl : ds.length ≤ 100) : Ev (tCB (rReprK K) (tCons te tNil)) σ H (.str (PyData.list ds).shown) := fun H1 e Q q =>
  h H1 e _ fun p H2 hp e2 h2 => ⟨p, vs, ds, rfl, sq_of h2, hd.ex (e.trans e2), (s.list hl).1, (s.list hl).2.1, (s.list hl).2.2, q H2 e2⟩
end
end L2

/-! An own object that is called, by names, its reading without the context (so that it may stand in a lambda). -/
namespace L2
open PySem PySem.Spec PyProof.Rows StX
def tCallNm (C : Addr) (sp : Sp) (E : XK) (tf : TE) (t : TA) : TE := fun σ H Q => tf σ H fun y H1 => ∃ a, y = V.ref a ∧ t σ H1 fun vs H2 => (∃ dx fs, H2 a = some (.ins C dx fs)) ∧ sp (V.ref a :: vs) H2 Q E
section
variable {X : Cx} {CX : CXT} {k : Nat} {C : Addr} {sp : Sp} {E : XK} {e fe : Expr} {es : List Expr} {pos : Pos} {g : Addr} {i j l : Nat}
theorem pe_callO3 (h0 : PE X fe (tVar i)) (c : CallO X.K C g) (F : FnR X.prog X.w X.K X.mg X.base CX k g sp) (hr : Room k X.A) (hx : Passes CX X E) (ha : PA X (e :: es) (tCons (tVar j) (tCons (tVar l) tNil)))
    (hev : eval (fe.Call (e :: es) [] pos) X.env = (do
      let fv ← eval fe X.env
      callWith pos fv [] (backTo pos (starEach (e :: es) X.env)) (backToKw pos (keywordEach [] X.env))) := by rfl)
    (he : starEach (e :: es) X.env = (false, eval e X.env) :: starEach es X.env := by rfl) (hpl : ((backTo pos (starEach es X.env)).any fun x => x.1) = false := by rfl) :
    PE X (fe.Call (e :: es) [] pos) (tCallNm C sp E (tVar i) (tCons (tVar j) (tCons (tVar l) tNil))) :=
  ⟨fun pins s σ H Q I h => (pe_callO h0 c F hr hx ha hev he hpl).run pins s σ H Q I (by
    obtain ⟨v, h1, a, h4, w1, h2, w2, h3, hi, hsp⟩ := h
    exact ⟨v, h1, a, h4, w1, h2, w2, h3, .inr hi, hsp⟩)⟩
end
end L2

/-! Data: sums, slices, items, equality, what is shown. -/
namespace Dt
open PySem L2 Evl Dg LamR LamX TL ExM
open Dr (StAt SameB)
theorem djP {K : PySem.W.Frag} {H : Hp} {v : V} {d : PyData} (h : Pt H v d) (k : noK d = true) : Dj K H v d := .di (.dp (h.dp k))
theorem ts_show {d : PyData} {m n : Nat} (t : Ts d m n) (h : m ≤ 16000000) (k : n ≤ 60) : d.showable = true ∧ d.shown.length ≤ sizeLine ∧ d.depth ≤ 60 := by
  obtain ⟨a, b⟩ := shown_cap d t.p
  have := t.c
  have := t.e
  exact ⟨a, by rw [sizeLine_eq]; omega, by omega⟩
section
variable {K : PySem.W.Frag} {σ : St} {H : Hp} {te ta tb tc to : TE} {D e d : PyData} {Ds Es : List PyData} {j : Nat}
theorem ep_catA {ta tb : TE} {Ds Es : List PyData} (ha : EvP ta σ H (.tuple Ds)) (hb : EvP tb σ H (.tuple Es)) (hl : Ds.length + Es.length ≤ 100000) : EvP (tOp (rCatA K) ta tb) σ H (.tuple (Ds ++ Es)) := fun H1 e Q q =>
  ha H1 e _ fun v1 H2 e2 k1 => hb H2 (e.trans e2) _ fun v2 H3 e3 k2 => by
    obtain ⟨a, xs, rfl, h1, ka⟩ := (k1.ex e3).tupI'
    obtain ⟨b, ys, rfl, h2, kb⟩ := k2.tupI'
    exact rd_cat h1 h2 ka kb hl fun c H4 zs e4 h4 kz => q (.ref c) H4 ((e2.trans e3).trans e4) (.tup h4 kz)
theorem EvP.mono {H' : Hp} (e : Ex H H') (h : EvP te σ H d) : EvP te σ H' d := fun H1 e1 Q q => h H1 (e.trans e1) Q q
theorem ev_neP (ha : EvP ta σ H d) (hb : EvP tb σ H e) (kd : noK d = true) (ke : noK e = true) (sd : SeqAt.shaped d = true) (se : SeqAt.shaped e = true) : Ev (tOp (rNeD K) ta tb) σ H (.bl (!PyData.eqv d e)) := fun H1 e1 Q q =>
  ha H1 e1 _ fun v H2 e2 k2 => hb H2 (e1.trans e2) _ fun u H3 e3 k3 => ⟨d, e, (k2.ex e3).dp kd, k3.dp ke, sd, se, q H3 (e2.trans e3)⟩
theorem ev_eqDP (ha : EvP ta σ H d) (hb : EvP tb σ H e) (kd : noK d = true) (ke : noK e = true) (sd : SeqAt.shaped d = true) (se : SeqAt.shaped e = true) : Ev (tOp (rEqD K) ta tb) σ H (.bl (PyData.eqv d e)) := fun H1 e1 Q q =>
  ha H1 e1 _ fun v H2 e2 k2 => hb H2 (e1.trans e2) _ fun u H3 e3 k3 => ⟨d, e, (k2.ex e3).dp kd, k3.dp ke, sd, se, q H3 (e2.trans e3)⟩
theorem ev_reprP {m n : Nat} (h : EvP te σ H d) (kn : noK d = true) (t : Ts d m n) (hm : m ≤ 16000000) (hn : n ≤ 60) : Ev (tCB (rReprJ K) (tCons te tNil)) σ H (.str d.shown) := fun H1 e Q q => by
  obtain ⟨y1, y2, y3⟩ := ts_show t hm hn
  exact h H1 e _ fun v H2 e2 k2 => ⟨v, d, rfl, djP k2 kn, y1, y2, y3, q H2 e2⟩
theorem ep_sl {tlo thi : TO} {lo hi : Option Int} (h : EvP te σ H (.tuple Ds)) (h1 : EvO tlo σ H lo) (h2 : EvO thi σ H hi) : EvP (tSl (rSlA K) te tlo thi) σ H (.tuple (cutD Ds lo hi)) := fun H1 e Q q =>
  h H1 e _ fun v H2 e2 k2 => h1 H2 (e.trans e2) _ fun H3 e3 => h2 H3 ((e.trans e2).trans e3) _ fun H4 e4 => by
    obtain ⟨a, xs, rfl, ha, ka⟩ := ((k2.ex e3).ex e4).tupI'
    exact rd_sl ha ka fun b H5 ys e5 h5 k5 => q (.ref b) H5 (((e2.trans e3).trans e4).trans e5) (.tup h5 k5)
theorem ep_ix (h : EvP te σ H (.tuple Ds)) (h2 : Ev tb σ H (.int (j : Nat))) (hd : Ds[j]? = some d) : EvP (tOp (rIxT K) te tb) σ H d := fun H1 e Q q =>
  h H1 e _ fun v H2 e2 k2 => h2 H2 (e.trans e2) _ fun H3 e3 => by
    obtain ⟨a, xs, rfl, ha, ka⟩ := (k2.ex e3).tupI'
    obtain ⟨u, hu, ku⟩ := ka.get hd
    exact ⟨a, xs, _, u, rfl, rfl, st_of ha, atI_nat hu, q u H3 (e2.trans e3) ku⟩
theorem ptAll_rep {v : V} (k : Pt H v d) : ∀ n : Nat, PtAll H (List.replicate n [v]).flatten (List.replicate n d)
  | 0 => .nil
  | n + 1 => by
    rw [List.replicate_succ, List.replicate_succ, List.flatten_cons]
    exact .cons k (ptAll_rep k n)
theorem ep_rep7 (h : EvP te σ H (.tuple [d])) : EvP (tOp (rRepT K) te (tC (.int 7))) σ H (.tuple (List.replicate 7 d)) := fun H1 e Q q =>
  h H1 e _ fun v H2 e2 k2 => by
    obtain ⟨a, xs, rfl, ha, ka⟩ := k2.tupI'
    cases ka with
    | cons k0 k1 => cases k1 with
      | nil => exact ⟨a, 7, _, rfl, rfl, st_of ha, (by simp), by decide, by decide, by simp, fun p hp => q (.ref p) _ (e2.trans (Ex.new hp)) (.tup upd_same ((ptAll_rep k0 7).ex (Ex.new hp)))⟩
end
theorem cut_lo {Ds : List PyData} {j : Nat} : cutD Ds none (some (j : Int)) = Ds.take j := by
  unfold cutD
  rw [HT.sIx_none, HT.sIx_nat, List.drop_zero, Nat.sub_zero]
  by_cases h : j ≤ Ds.length
  · rw [Nat.min_eq_left h]
  · rw [Nat.min_eq_right (by omega), List.take_of_length_le (Nat.le_refl _), List.take_of_length_le (by omega)]
theorem cut_hi {Ds : List PyData} {j : Nat} : cutD Ds (some (j : Int)) none = Ds.drop j := by
  unfold cutD
  rw [HT.sIx_none, HT.sIx_nat]
  by_cases h : j ≤ Ds.length
  · rw [Nat.min_eq_left h, List.take_of_length_le (by rw [List.length_drop]; omega)]
  · rw [Nat.min_eq_right (by omega), List.drop_of_length_le (Nat.le_refl _), List.drop_of_length_le (by omega)]
    simp
theorem set_cut {α : Type} : ∀ {Ds : List α} {j : Nat} {e : α}, j < Ds.length → Ds.take j ++ [e] ++ Ds.drop (j + 1) = Ds.set j e
  | [], _, _, h => by simp at h
  | a :: Ds, 0, e, _ => by simp
  | a :: Ds, j + 1, e, h => by
    have := set_cut (Ds := Ds) (j := j) (e := e) (by simpa using h)
    simp at this ⊢
    exact this
theorem erase_cut {α : Type} (Ds : List α) (j : Nat) : Ds.take j ++ Ds.drop (j + 1) = Ds.eraseIdx j := (List.eraseIdx_eq_take_drop_succ Ds j).symm
/-- a text's show -/
theorem ts_txt {x : Str} {n : Nat} (h1 : ∀ c ∈ tl x, c < 100) (h2 : x.length ≤ n) : plainD (.str x) ∧ cap (.str x) ≤ 10 * n + 2 := by
  refine ⟨fun c hc => ?_, ?_⟩
  · have := h1 c hc
    have e : (16 : Nat) ^ 8 = 4294967296 := by decide
    omega
  · simp only [cap]
    omega
theorem ev_reprS {K : PySem.W.Frag} {σ : St} {H : Hp} {te : TE} {x : Str} {n : Nat} (h : Ev te σ H (.str x)) (h1 : ∀ c ∈ tl x, c < 100) (h2 : x.length ≤ n) (hn : n ≤ 1000000) : Ev (tCB (rReprJ K) (tCons te tNil)) σ H (.str (PyData.str x).shown) := fun H1 e Q q => by
  obtain ⟨p, c⟩ := ts_txt h1 h2
  obtain ⟨a, b⟩ := shown_cap _ p
  exact h H1 e _ fun H2 e2 => ⟨_, .str x, rfl, .di (.dp (.str x)), a, by rw [sizeLine_eq]; omega, by simp [PyData.depth], q H2 e2⟩
end Dt

/-! A style made of things by hand (for laws without entries' texts). -/
namespace Dt
open PySem L2 Evl Dg LamR LamX TL StX ClX
open Dr (StAt SameB)
/-- Style(.., ..) by its positional promise: what is passed behind the base -/
theorem rd_mkQ {K : PySem.W.Frag} {C : Addr} {ca : Nat → Addr} {H : Hp} {Q : VK} {E : XK} {β : Nat} {rs : List V} {Ds : List PyData} (b2 : 2 ≤ β) (b10 : β ≤ 10) (kr : PtAll H rs Ds) (h20 : rs.length ≤ 100) (hD : Due ca H E (dueD β Ds) (∀ x H', Ex H H' → StyAt H' C x β Ds → Q (.ref x) H')) :
    ∀ x dx, H x = Option.none → H dx = Option.none → dx ≠ x → spInitR K C ca (V.ref x :: (.int (β : Int) :: rs)) (upd (upd H dx (.own x)) x (.ins C dx [])) (fun v H2 => v = .non ∧ Q (.ref x) H2) E := fun x dx hx hdx hne => by
  refine ⟨[.ref x, .int β], rs, rfl, rfl, by rw [sizeLine_eq]; omega, fun p hp => ?_⟩
  have eA : Ex H (upd (upd H dx (.own x)) x (.ins C dx [])) := (Ex.new hdx).trans (Ex.new (by rw [upd_ne (Ne.symm hne)]; exact hx))
  have eB := Ex.new (o := .tup rs) hp
  have eAB := eA.trans eB
  refine ⟨x, p, dx, .int β, rs, Ds, true, rfl, eB _ _ upd_same, upd_same, kr.ex eAB, bs_yes b2 b10, (fun z => nomatch z), fun _ => ⟨β, rfl, b2, b10, ⟨fun pl hpl => (hD.bad pl hpl).go eAB, fun hn t2 H' kx hx' k' => ⟨rfl, ?_⟩⟩⟩⟩
  refine hD.ok hn x H' (fun b o h => ?_) ⟨dx, t2, hx', k'⟩
  exact kx b o (eAB _ _ h) (ne_of_none h hx)
theorem rd_makeQ {K : PySem.W.Frag} {C : Addr} {ca : Nat → Addr} {σ : St} {H : Hp} {t : TA} {Q : VK} {E : XK} {β : Nat} {Ds : List PyData} (h : EvPA t σ H (.int (β : Int) :: Ds)) (b2 : 2 ≤ β) (b10 : β ≤ 10) (hl : Ds.length ≤ 100) (hd : dueD β Ds = none) (q : ∀ x H', Ex H H' → StyAt H' C x β Ds → Q (.ref x) H') : tMakeR C (spInitR K C ca) E t σ H Q :=
  h H (Ex.refl H) _ fun vs H2 e2 ks => by
    cases ks with
    | cons k0 kr =>
      cases k0
      exact rd_mkQ b2 b10 kr (by rw [kr.length]; exact hl) ⟨fun pl hp => (by rw [hd] at hp; cases hp), fun _ x H' e sty => q x H' (e2.trans e) sty⟩
end Dt

/-! k02: the law's own helpers. -/
namespace Dg
open PySem L2 Evl TL Dr
/-- the text of digits, the last one first -/
def ofD (l : List Nat) : Str := ⟨(l.reverse.map (48 + ·)).toArray⟩
theorem str_ext {x y : Str} (h : tl x = tl y) : x = y := by
  cases x
  cases y
  congr 1
  exact Array.toList_inj.mp h
theorem digs_eq (b n : Nat) : digs b n = ofD (dl b n) := str_ext (by rw [tl_digs]; rfl)
theorem ofD_snoc (l : List Nat) (d : Nat) : (⟨#[48 + d]⟩ : Str) ++ ofD l = ofD (l ++ [d]) := str_ext (by
  show (#[48 + d] ++ (l.reverse.map (48 + ·)).toArray).toList = _
  simp [ofD])
theorem ofD_len (l : List Nat) : (ofD l).length = l.length := by
  show (ofD l).cps.size = _
  simp [ofD]
theorem dl_lenB {b : Nat} (hb : 2 ≤ b) : ∀ k n : Nat, n < b ^ k → (dl b n).length ≤ k
  | 0, n, h => by
    have : n = 0 := by
      rw [Nat.pow_zero] at h
      omega
    subst this
    simp [dl_zero]
  | k + 1, n, h => by
    rcases Nat.eq_zero_or_pos n with h0 | h0
    · subst h0
      simp [dl_zero]
    · rw [dl_step hb h0, List.length_cons]
      have := dl_lenB hb k (n / b) (by
        rw [Nat.pow_succ] at h
        exact Nat.div_lt_of_lt_mul (by rw [Nat.mul_comm]; exact h))
      omega
section
variable {P : Program} {w : World} {K : PySem.W.Frag} {mg : Str → Option Value} {base : Heap}
def spLDigits : Sp := fun vs H Q _ => ∃ β n : Nat, vs = [.int β, .int n] ∧ 2 ≤ β ∧ β ≤ 10 ∧ n < 2 ^ 50000 ∧ RetV (.str (digs β n)) H Q
def spLPower : Sp := fun vs H Q _ => ∃ β k : Nat, vs = [.int β, .int k] ∧ 2 ≤ β ∧ β ≤ 10 ∧ k ≤ 100000 ∧ RetV (.int ((β ^ k : Nat) : Int)) H Q
end
end Dg

/-! k03: need_range, changed, near. -/
namespace Dg
open PySem L2 Evl TL
/-- how many digits are changed -/
def ChgIs (β f s m : Nat) : Prop := f / β ^ m = s / β ^ m ∧ ∀ j < m, f / β ^ j ≠ s / β ^ j
theorem ChgIs.uniq {β f s m m' : Nat} (h : ChgIs β f s m) (h' : ChgIs β f s m') : m = m' := by
  rcases Nat.lt_trichotomy m m' with z | z | z
  · exact absurd h.1 (h'.2 m z)
  · exact z
  · exact absurd h'.1 (h.2 m' z)
/-- the least exponent -/
def NearIs (β d k : Nat) : Prop := d ≤ β ^ k ∧ ∀ j < k, β ^ j < d
theorem NearIs.uniq {β d k k' : Nat} (h : NearIs β d k) (h' : NearIs β d k') : k = k' := by
  rcases Nat.lt_trichotomy k k' with z | z | z
  · exact absurd h.1 (Nat.not_le.mpr (h'.2 k z))
  · exact z
  · exact absurd h'.1 (Nat.not_le.mpr (h.2 k' z))
/-- C((v, u)) leaves -/
def LeavesP (C : Addr) (v u : V) (H : Hp) (E : XK) : Prop := ∀ H2 t d, Ex H H2 → H2 t = some (.tup [v, u]) → H2 d = none → E (.ref C) (some d) (upd H2 d (.xd [("value", .ref t)]))
structure TxF3 (K : PySem.W.Frag) (mg : Str → Option Value) (fi fnum fnb fnr : Addr) : Prop extends TxI K mg fi where
  isNum : mg "is_number" = some (.ref fnum)
  kNum : PySem.W.keepIn K (.ref fnum) = true
  needB : mg "need_base" = some (.ref fnb)
  kNB : PySem.W.keepIn K (.ref fnb) = true
  needR : mg "need_range" = some (.ref fnr)
  kNR : PySem.W.keepIn K (.ref fnr) = true
section
variable {P : Program} {w : World} {K : PySem.W.Frag} {mg : Str → Option Value} {base : Heap} {ca : Nat → Addr} {fi fnum fnb fnr : Addr}
def spNeedR (K : PySem.W.Frag) (ca : Nat → Addr) : Sp := fun vs H Q E => ∃ v u b c, vs = [v, u] ∧ Nm K H v b ∧ Nm K H u c ∧ ((b && c) = false → LeavesP (ca 4) v u H E) ∧
  ((b && c) = true → ∃ i j : Int, v = .int i ∧ u = .int j ∧ (j ≤ i → LeavesP (ca 4) v u H E) ∧ (i < j → RetV .non H Q))
theorem scNeedR : FnScope ["first", "second"] ["first", "second"] (defScope sNeedR) := ⟨rfl, rfl, rfl, by decide +kernel, rfl, by decide +kernel, by decide +kernel⟩
theorem ok_needR {f : Addr} {fd fdn : FuncData} (F : Fun K "need_range" "need_range" sNeedR f fd) (GN : FnOk P w K mg base CX0 2 fnum fdn ["value"] (spIsNum K)) (bN : Binds K fdn ["value"] []) (T : TxF3 K mg fi fnum fnb fnr)
    (M : Mks P K mg (ca 4) ["value"]) (gC : mg "BadRange" = some (.ref (ca 4))) : FnOk P w K mg base (L2.CX P w) 3 f fd ["first", "second"] (spNeedR K ca) := by
  refine F.okX scNeedR (fun vs H Q E h => ?_) (fun cdv A outer s H vs Q E hr h => ?_)
  · obtain ⟨v, u, _, _, rfl, _⟩ := h
    rfl
  · obtain ⟨v, u, b, c, rfl, kb, kc, l1, l2⟩ := h
    refine ⟨_, pss_one (ps_if (PW.pt (pw_or (pt_not (pt_val (pe_call GN hr (by rfl) T.isNum T.kNum bN .nil pass0 (pa_cons (pv 0) pa_nil)))) (pw_or (pt_not (pt_val (pe_call GN hr (by rfl) T.isNum T.kNum bN .nil pass0 (pa_cons (pv 1) pa_nil)))) (pw_or1 (pt_cmpR op_ge (pv 0) (pv 1) (nomark _))))))
      (pss_one (ps_raise rfl (takes_of rfl rfl rfl rfl) (pmk_mks M T.sup hr (by simp) (pa_cons (pe_tup (pa_cons (pv 0) (pa_cons (pv 1) pa_nil))) pa_nil) (by rfl) gC))) pss_nil), ?_⟩
    have raise : LeavesP (ca 4) v u H E → ∀ H2, Ex H H2 → tMks (ca 4) ["value"] (tCons (tTup (tCons (tVar 0) (tCons (tVar 1) tNil))) tNil) (L2.start ["first", "second"] [v, u]) H2 (fun cls d H' => E cls d H') := fun lt H2 e2 =>
      ⟨_, rfl, _, rfl, by show (2 : Nat) ≤ sizeLine; rw [sizeLine_eq]; omega, fun t nt => ⟨rfl, fun d hd => lt _ t d (e2.trans (Ex.new nt)) upd_same hd⟩⟩
    have e1 : ∀ {te : TE} {x : V} {r : Bool}, Ev te (L2.start ["first", "second"] [v, u]) H x → Nm K H x r → Ev (tCall (spIsNum K) [] E0 (tCons te tNil)) (L2.start ["first", "second"] [v, u]) H (.bl r) := fun h k =>
      ev_call (ea_cons h ea_nil) fun H1 e Q q E => ⟨_, _, rfl, k.ex e, fun H2 e2 => q H2 e2⟩
    cases hb : (b && c) with
    | false =>
      refine s_when (b := true) (et_is (et_or (et_not (et_B (e1 (ev_var rfl) kb))) fun z => et_or (b := true) (et_not (et_B (e1 (ev_var rfl) kc))) fun y => ?_) ?_) (fun z H2 e2 => raise (l1 hb) H2 e2) (fun z => nomatch z)
      · cases b <;> cases c <;> simp_all
      · cases b <;> cases c <;> simp_all
    | true =>
      obtain ⟨i, j, rfl, rfl, l3, l4⟩ := l2 hb
      have hbb : b = true ∧ c = true := by cases b <;> cases c <;> simp_all
      refine s_when (b := decide (i ≥ j)) (et_is (et_or (et_not (et_B (e1 (ev_var rfl) kb))) fun z => et_or (et_not (et_B (e1 (ev_var rfl) kc))) fun y => et_test (ev_op (ev_var rfl) (ev_var rfl) rv_I0)) ?_) (fun z H2 e2 => raise (l3 (of_decide_eq_true z)) H2 e2) (fun z H2 e2 => l4 (by have := of_decide_eq_false z; omega) H2 e2)
      rw [hbb.1, hbb.2]
      simp
/-- changed, near: the base first, then the range -/
def spRng (K : PySem.W.Frag) (ca : Nat → Addr) (R : Nat → Nat → Nat → Nat → Prop) : Sp := fun vs H Q E => ∃ vb v u a b c, vs = [vb, v, u] ∧ Bs K H vb a ∧ Nm K H v b ∧ Nm K H u c ∧ (a = false → Leaves (ca 1) "value" vb H E) ∧ (a = true → (b && c) = false → LeavesP (ca 4) v u H E) ∧
  (a = true → (b && c) = true → ∃ (β f s : Nat), vb = .int β ∧ 2 ≤ β ∧ β ≤ 10 ∧ ((∃ i j : Int, v = .int i ∧ u = .int j ∧ j ≤ i ∧ LeavesP (ca 4) v u H E) ∨ (v = .int f ∧ u = .int s ∧ f < s ∧ ∀ m, R β f s m → RetV (.int m) H Q)))
abbrev nChg : List Str := ["base", "first", "second", "many"]
theorem scChanged : FnScope nChg ["base", "first", "second"] (defScope sChanged) := ⟨rfl, rfl, rfl, by decide +kernel, rfl, by decide +kernel, by decide +kernel⟩
theorem LeavesP.go {C : Addr} {v u : V} {H H' : Hp} {E : XK} (l : LeavesP C v u H E) (e : Ex H H') : LeavesP C v u H' E := fun H2 t d e2 ht hd => l H2 t d (e.trans e2) ht hd
theorem ok_changed {f : Addr} {fd fdb fdr : FuncData} (F : Fun K "changed" "changed" sChanged f fd) (GB : FnOk P w K mg base (L2.CX P w) 3 fnb fdb ["base"] (spNeed (Bs K) (ca 1))) (bB : Binds K fdb ["base"] [])
    (GR : FnOk P w K mg base (L2.CX P w) 3 fnr fdr ["first", "second"] (spNeedR K ca)) (bR : Binds K fdr ["first", "second"] []) (T : TxF3 K mg fi fnum fnb fnr) : FnOk P w K mg base (L2.CX P w) 4 f fd ["base", "first", "second"] (spRng K ca ChgIs) := by
  refine F.okX scChanged (fun vs H Q E h => ?_) (fun cdv A outer s H vs Q E hr h => ?_)
  · obtain ⟨_, _, _, _, _, _, rfl, _⟩ := h
    rfl
  · obtain ⟨vb, v, u, a, b, c, rfl, ka, kb, kc, l1, l2, hq⟩ := h
    refine ⟨_, pss_cons (ps_expr (pe_callS GB hr (by rfl) T.needB T.kNB bB (fun σ => passAt (takes_of rfl rfl rfl rfl) σ) (pa_cons (pv 0) pa_nil)))
      (pss_cons (ps_expr (pe_callS GR hr (by rfl) T.needR T.kNR bR (fun σ => passAt (takes_of rfl rfl rfl rfl) σ) (pa_cons (pv 1) (pa_cons (pv 2) pa_nil))))
      (pss_cons (ps_set (i := 3) scChanged.nd rfl (.inl rfl) pe_int)
      (pss_cons (ps_while (passes_of rfl) (pt_cmpR op_ne (pv 1) (pv 2) (nomark _))
        (pss_cons (ps_par (i := 1) (j := 2) (by rfl) scChanged.nd rfl rfl (by decide) rfl rfl (pa_cons (pe_op op_fdiv (pv 1) (pv 0)) (pa_cons (pe_op op_fdiv (pv 2) (pv 0)) pa_nil)) (by rfl)) (pss_one (ps_set (i := 3) scChanged.nd rfl (.inl rfl) (pe_op op_add (pv 3) pe_int)))))
      (pss_one (ps_ret (pv 3)))))), ?_⟩
    refine ⟨_, rfl, vb, a, rfl, ka, fun ha H1 e1 => ?_, fun ha => l1 ha⟩
    refine ⟨_, rfl, _, rfl, v, u, b, c, rfl, kb.ex e1, kc.ex e1, fun z => (l2 ha z).go e1, fun z => ?_⟩
    obtain ⟨β, f, s, rfl, b2, b10, alt⟩ := hq ha z
    rcases alt with ⟨i, j, rfl, rfl, hij, lt⟩ | ⟨rfl, rfl, hfs, q⟩
    · exact ⟨i, j, rfl, rfl, fun _ => lt.go e1, fun z => by omega⟩
    · refine ⟨f, s, rfl, rfl, fun z => by omega, fun _ H2 e2 => ?_⟩
      refine q_asg (v := .int 0) ev_c fun H3 e3 => ?_
      refine q_while (fun n σ' H' => Ex H H' ∧ ∃ i f' s' : Nat, σ' = [some (.int β), some (.int f'), some (.int s'), some (.int (i : Int))] ∧ f' = f / β ^ i ∧ s' = s / β ^ i ∧ n = f' + s' ∧ ∀ j < i, f / β ^ j ≠ s / β ^ j) (f + s)
        ⟨(e1.trans e2).trans e3, 0, f, s, rfl, by simp, by simp, rfl, fun j hj => absurd hj (Nat.not_lt_zero j)⟩ (fun n σ' H' ⟨ex, i, f', s', hσ, hf, hs, hn, hne⟩ => ⟨!decide (V.int (f' : Int) = V.int (s' : Int)), ?_, fun z H4 e4 => ?_, fun z H4 e4 => ?_⟩)
      · subst hσ
        exact et_test (ev_op (ev_var rfl) (ev_var rfl) (rv_ne rfl))
      · subst hσ
        have zne : f' ≠ s' := fun y => by
          rw [y] at z
          simp at z
        have lt1 : f' / β + s' / β < f' + s' := by
          rcases Nat.eq_zero_or_pos f' with y | y
          · have y2 : 0 < s' := by omega
            have := Nat.div_lt_self y2 (show 1 < β by omega)
            have := Nat.div_le_self f' β
            omega
          · have := Nat.div_lt_self y (show 1 < β by omega)
            have := Nat.div_le_self s' β
            omega
        refine ⟨fun σ2 H5 => Ex H H5 ∧ σ2 = [some (.int β), some (.int ((f' / β : Nat) : Int)), some (.int ((s' / β : Nat) : Int)), some (.int ((i + 1 : Nat) : Int))], fun σ2 H5 ⟨ex5, a⟩ => ⟨f' / β + s' / β, by omega, ex5, i + 1, f' / β, s' / β, a, by rw [Nat.pow_succ, ← Nat.div_div_eq_div_mul, ← hf], by rw [Nat.pow_succ, ← Nat.div_div_eq_div_mul, ← hs], rfl, fun j hj => ?_⟩, ?_⟩
        · rcases Nat.lt_or_ge j i with y | y
          · exact hne j y
          · have : j = i := by omega
            subst this
            rw [← hf, ← hs]
            exact zne
        · refine ⟨_, rfl, _, rfl, _, _, rfl, rfl, ⟨by omega, by omega⟩, _, rfl, _, rfl, _, _, rfl, rfl, ⟨by omega, by omega⟩, _, _, rfl, ?_⟩
          refine s_asg (i := 3) (v := .int ((i : Int) + 1)) (ev_op (ev_var rfl) ev_c rv_I0) fun H6 e6 => ⟨(ex.trans e4).trans e6, ?_⟩
          rfl
      · subst hσ
        have zeq : f' = s' := by
          have : V.int (f' : Int) = V.int (s' : Int) := by simpa using z
          injection this with this
          omega
        exact ⟨_, rfl, q i ⟨by rw [← hf, ← hs]; exact zeq, hne⟩ H4 (ex.trans e4)⟩
abbrev nNear : List Str := ["base", "first", "second", "exponent", "power"]
theorem scNear : FnScope nNear ["base", "first", "second"] (defScope sNear) := ⟨rfl, rfl, rfl, by decide +kernel, rfl, by decide +kernel, by decide +kernel⟩
theorem ok_near {f : Addr} {fd fdb fdr : FuncData} (F : Fun K "near" "near" sNear f fd) (GB : FnOk P w K mg base (L2.CX P w) 3 fnb fdb ["base"] (spNeed (Bs K) (ca 1))) (bB : Binds K fdb ["base"] [])
    (GR : FnOk P w K mg base (L2.CX P w) 3 fnr fdr ["first", "second"] (spNeedR K ca)) (bR : Binds K fdr ["first", "second"] []) (T : TxF3 K mg fi fnum fnb fnr) : FnOk P w K mg base (L2.CX P w) 4 f fd ["base", "first", "second"] (spRng K ca fun β f s m => NearIs β (s - f) m) := by
  refine F.okX scNear (fun vs H Q E h => ?_) (fun cdv A outer s H vs Q E hr h => ?_)
  · obtain ⟨_, _, _, _, _, _, rfl, _⟩ := h
    rfl
  · obtain ⟨vb, v, u, a, b, c, rfl, ka, kb, kc, l1, l2, hq⟩ := h
    refine ⟨_, pss_cons (ps_expr (pe_callS GB hr (by rfl) T.needB T.kNB bB (fun σ => passAt (takes_of rfl rfl rfl rfl) σ) (pa_cons (pv 0) pa_nil)))
      (pss_cons (ps_expr (pe_callS GR hr (by rfl) T.needR T.kNR bR (fun σ => passAt (takes_of rfl rfl rfl rfl) σ) (pa_cons (pv 1) (pa_cons (pv 2) pa_nil))))
      (pss_cons (ps_set (i := 3) scNear.nd rfl (.inl rfl) pe_int)
      (pss_cons (ps_set (i := 4) scNear.nd rfl (.inl rfl) pe_int)
      (pss_cons (ps_while (passes_of rfl) (pt_cmpR op_lt (pv 4) (pe_op op_sub (pv 2) (pv 1)) (nomark _))
        (pss_cons (ps_set (i := 4) scNear.nd rfl (.inl rfl) (pe_op op_mul (pv 4) (pv 0))) (pss_one (ps_set (i := 3) scNear.nd rfl (.inl rfl) (pe_op op_add (pv 3) pe_int)))))
      (pss_one (ps_ret (pv 3))))))), ?_⟩
    refine ⟨_, rfl, vb, a, rfl, ka, fun ha H1 e1 => ?_, fun ha => l1 ha⟩
    refine ⟨_, rfl, _, rfl, v, u, b, c, rfl, kb.ex e1, kc.ex e1, fun z => (l2 ha z).go e1, fun z => ?_⟩
    obtain ⟨β, f, s, rfl, b2, b10, alt⟩ := hq ha z
    rcases alt with ⟨i, j, rfl, rfl, hij, lt⟩ | ⟨rfl, rfl, hfs, q⟩
    · exact ⟨i, j, rfl, rfl, fun _ => lt.go e1, fun z => by omega⟩
    · refine ⟨f, s, rfl, rfl, fun z => by omega, fun _ H2 e2 => ?_⟩
      refine q_asg (v := .int 0) ev_c fun H3 e3 => ?_
      refine q_asg (v := .int 1) ev_c fun H3 e3' => ?_
      refine q_while (fun n σ' H' => Ex H H' ∧ ∃ i g : Nat, σ' = [some (.int β), some (.int f), some (.int s), some (.int (i : Int)), some (.int (g : Int))] ∧ g = β ^ i ∧ n = (s - f) - g ∧ ∀ j < i, β ^ j < s - f) ((s - f) - 1)
        ⟨((e1.trans e2).trans e3).trans e3', 0, 1, rfl, by simp, rfl, fun j hj => absurd hj (Nat.not_lt_zero j)⟩ (fun n σ' H' ⟨ex, i, g, hσ, hg, hn, hne⟩ => ⟨decide ((g : Int) < (s : Int) - (f : Int)), ?_, fun z H4 e4 => ?_, fun z H4 e4 => ?_⟩)
      · subst hσ
        exact et_test (ev_op (ev_var rfl) (ev_op (ev_var rfl) (ev_var rfl) rv_I0) rv_I0)
      · subst hσ
        have zlt := of_decide_eq_true z
        have g1 : 1 ≤ g := by
          rw [hg]
          exact Nat.one_le_pow _ _ (by omega)
        have g2 : g < g * β := by
          have : g * 2 ≤ g * β := Nat.mul_le_mul_left _ b2
          omega
        refine ⟨fun σ2 H5 => Ex H H5 ∧ σ2 = [some (.int β), some (.int f), some (.int s), some (.int ((i + 1 : Nat) : Int)), some (.int ((g * β : Nat) : Int))], fun σ2 H5 ⟨ex5, a⟩ => ⟨(s - f) - g * β, by omega, ex5, i + 1, g * β, a, by rw [Nat.pow_succ, ← hg], rfl, fun j hj => ?_⟩, ?_⟩
        · rcases Nat.lt_or_ge j i with y | y
          · exact hne j y
          · have : j = i := by omega
            subst this
            rw [← hg]
            omega
        · refine q_asg (v := .int ((g : Int) * (β : Int))) (ev_op (ev_var rfl) (ev_var rfl) (rv_I (.inr ⟨by omega, by omega⟩))) fun H5 e5 => ?_
          refine s_asg (i := 3) (v := .int ((i : Int) + 1)) (ev_op (ev_var rfl) ev_c rv_I0) fun H6 e6 => ⟨((ex.trans e4).trans e5).trans e6, ?_⟩
          rw [← Int.natCast_mul]
          rfl
      · subst hσ
        have zge := of_decide_eq_false z
        exact ⟨_, rfl, q i ⟨by rw [← hg]; omega, hne⟩ H4 (ex.trans e4)⟩
end
end Dg

/-! k03: digits and what is changed, as lists. -/
namespace Dg
open PySem L2 Evl TL
theorem dl_inj {β : Nat} (hb : 2 ≤ β) : ∀ a b : Nat, dl β a = dl β b → a = b := by
  intro a
  induction a using Nat.strongRecOn with
  | _ a ih =>
    intro b h
    rcases Nat.eq_zero_or_pos a with z | z
    · rcases Nat.eq_zero_or_pos b with y | y
      · omega
      · rw [z, dl_zero, dl_step hb y] at h
        cases h
    · rcases Nat.eq_zero_or_pos b with y | y
      · rw [y, dl_zero, dl_step hb z] at h
        cases h
      · rw [dl_step hb z, dl_step hb y] at h
        injection h with h1 h2
        have := ih (a / β) (Nat.div_lt_self z (by omega)) _ h2
        have e1 := Nat.div_add_mod a β
        have e2 := Nat.div_add_mod b β
        rw [← e1, ← e2, this, h1]
theorem dl_drop {β : Nat} (hb : 2 ≤ β) : ∀ m n : Nat, dl β (n / β ^ m) = (dl β n).drop m
  | 0, n => by simp
  | m + 1, n => by
    rw [Nat.pow_succ, ← Nat.div_div_eq_div_mul]
    rw [show m + 1 = m + 1 from rfl, ← List.drop_drop, ← dl_drop hb m n]
    rcases Nat.eq_zero_or_pos (n / β ^ m) with z | z
    · rw [z]
      simp [dl_zero]
    · rw [dl_step hb z]
      rfl
theorem dl_mono {β : Nat} (hb : 2 ≤ β) {f s : Nat} (h : f ≤ s) : (dl β f).length ≤ (dl β s).length := by
  have h1 : (dl β (s / β ^ (dl β s).length)) = [] := by
    rw [dl_drop hb]
    simp
  have h2 : s / β ^ (dl β s).length = 0 := dl_inj hb _ _ (by rw [h1, dl_zero])
  have h3 : f / β ^ (dl β s).length = 0 := by
    have y := Nat.div_le_div_right (c := β ^ (dl β s).length) h
    rw [h2] at y
    exact Nat.le_zero.mp y
  have h4 : dl β (f / β ^ (dl β s).length) = [] := by rw [h3, dl_zero]
  rw [dl_drop hb] at h4
  exact List.drop_eq_nil_iff.mp h4
/-- what the tops of equal length tell -/
theorem chg_same {β f s k : Nat} (hb : 2 ≤ β) (hl : (dl β f).length = (dl β s).length) (hk : k < (dl β f).length) (h1 : (dl β f).reverse.take k = (dl β s).reverse.take k) (h2 : (dl β f).reverse.take (k + 1) ≠ (dl β s).reverse.take (k + 1)) : ChgIs β f s ((dl β s).length - k) := by
  have key : ∀ j, (dl β f).drop ((dl β f).length - j) = ((dl β f).reverse.take j).reverse := fun j => by
    rw [← List.reverse_reverse (dl β f)]
    rw [List.drop_reverse]
    simp only [List.reverse_reverse, List.length_reverse]
    congr 1
    rcases Nat.le_total j (dl β f).length with y | y
    · congr 1
      omega
    · rw [show (dl β f).length - j = 0 by omega]
      rw [List.take_of_length_le (by simp), List.take_of_length_le (by simpa using y)]
  have key2 : ∀ j, (dl β s).drop ((dl β s).length - j) = ((dl β s).reverse.take j).reverse := fun j => by
    rw [← List.reverse_reverse (dl β s)]
    rw [List.drop_reverse]
    simp only [List.reverse_reverse, List.length_reverse]
    congr 1
    rcases Nat.le_total j (dl β s).length with y | y
    · congr 1
      omega
    · rw [show (dl β s).length - j = 0 by omega]
      rw [List.take_of_length_le (by simp), List.take_of_length_le (by simpa using y)]
  have hne : f / β ^ ((dl β s).length - k - 1) ≠ s / β ^ ((dl β s).length - k - 1) := fun e => by
    have e2 : (dl β f).drop ((dl β s).length - k - 1) = (dl β s).drop ((dl β s).length - k - 1) := by rw [← dl_drop hb, ← dl_drop hb, e]
    rw [show (dl β s).length - k - 1 = (dl β s).length - (k + 1) by omega] at e2
    rw [key2, ← hl, key] at e2
    exact h2 (List.reverse_inj.mp e2)
  refine ⟨dl_inj hb _ _ ?_, fun j hj e => hne ?_⟩
  · rw [dl_drop hb, dl_drop hb, key2, ← hl, key, h1]
  · have e3 : ∀ n, n / β ^ ((dl β s).length - k - 1) = n / β ^ j / β ^ ((dl β s).length - k - 1 - j) := fun n => by
      rw [Nat.div_div_eq_div_mul, ← Nat.pow_add, show j + ((dl β s).length - k - 1 - j) = (dl β s).length - k - 1 by omega]
    rw [e3, e3, e]
theorem chg_diff {β f s : Nat} (hb : 2 ≤ β) (hl : (dl β f).length < (dl β s).length) : ChgIs β f s (dl β s).length := by
  refine ⟨dl_inj hb _ _ ?_, fun j hj e => ?_⟩
  · rw [dl_drop hb, dl_drop hb, List.drop_of_length_le (by omega), List.drop_of_length_le (Nat.le_refl _)]
  · have e2 : (dl β f).drop ((dl β s).length - 1) = (dl β s).drop ((dl β s).length - 1) := by
      rw [← dl_drop hb, ← dl_drop hb]
      have e3 : ∀ n, n / β ^ ((dl β s).length - 1) = n / β ^ j / β ^ ((dl β s).length - 1 - j) := fun n => by
        rw [Nat.div_div_eq_div_mul, ← Nat.pow_add, show j + ((dl β s).length - 1 - j) = (dl β s).length - 1 by omega]
      rw [e3, e3, e]
    have e4 := congrArg List.length e2
    rw [List.length_drop, List.length_drop] at e4
    omega
theorem chg_pos {β f s m : Nat} (h : f < s) (c : ChgIs β f s m) : 0 < m := by
  rcases Nat.eq_zero_or_pos m with z | z
  · subst z
    have := c.1
    simp at this
    omega
  · exact z
theorem chg_len {β f s m : Nat} (hb : 2 ≤ β) (h : f < s) (c : ChgIs β f s m) : m ≤ (dl β s).length := by
  rcases Nat.lt_or_ge (dl β s).length m with z | z
  · refine absurd ?_ (c.2 _ z)
    refine dl_inj hb _ _ ?_
    rw [dl_drop hb, dl_drop hb, List.drop_of_length_le (dl_mono hb (Nat.le_of_lt h)), List.drop_of_length_le (Nat.le_refl _)]
  · exact z
theorem near_chg {β f s m k : Nat} (hb : 2 ≤ β) (h : f < s) (c : ChgIs β f s m) (n : NearIs β (s - f) k) : k ≤ m := by
  rcases Nat.lt_or_ge m k with z | z
  · have h1 : β ^ m < s - f := n.2 m z
    have h2 : f / β ^ m = s / β ^ m := c.1
    have p : 0 < β ^ m := Nat.pow_pos (by omega)
    have e1 := Nat.div_add_mod f (β ^ m)
    have e2 := Nat.div_add_mod s (β ^ m)
    have l2 := Nat.mod_lt s p
    rw [h2] at e1
    generalize β ^ m * (s / β ^ m) = y at e1 e2
    generalize f % β ^ m = r1 at e1
    generalize s % β ^ m = r2 at e2 l2
    omega
  · exact z
theorem near_len {β d k : Nat} (hb : 2 ≤ β) {z : Nat} (hd : d < 2 ^ z) (n : NearIs β d k) : k ≤ z := by
  rcases Nat.lt_or_ge z k with y | y
  · have h1 : β ^ z < d := n.2 z y
    have h2 : 2 ^ z ≤ β ^ z := Nat.pow_le_pow_left hb z
    omega
  · exact y
theorem tl_cut1 (x : Str) : tl (cutS x none (some 1)) = (tl x).take 1 := by
  show (((x.cps.toList.drop (HT.sIx x.length 0 none)).take (HT.sIx x.length x.length (some 1) - HT.sIx x.length 0 none)).toArray).toList = x.cps.toList.take 1
  have h : x.length = x.cps.toList.length := Array.length_toList.symm
  rw [HT.sIx_none, show ((1 : Int)) = ((1 : Nat) : Int) from rfl, HT.sIx_nat, h]
  cases x.cps.toList with
  | nil => rfl
  | cons a l => simp
theorem tl_cut2 (x : Str) : tl (cutS x (some 1) none) = (tl x).drop 1 := by
  show (((x.cps.toList.drop (HT.sIx x.length 0 (some 1))).take (HT.sIx x.length x.length none - HT.sIx x.length 0 (some 1))).toArray).toList = x.cps.toList.drop 1
  have h : x.length = x.cps.toList.length := Array.length_toList.symm
  rw [HT.sIx_none, show ((1 : Int)) = ((1 : Nat) : Int) from rfl, HT.sIx_nat, h]
  cases x.cps.toList with
  | nil => rfl
  | cons a l => simp
end Dg

/-! k03: the law's own helpers. -/
namespace Evl
open PySem L2
theorem s_par {i j : Nat} {ta : TA} {v w : V} {D : Ends} {σ : St} {H : Hp} (h : EvA ta σ H [v, w]) (k : ∀ H1, Ex H H1 → D.nx ((σ.set i (some v)).set j (some w)) H1) : tPar i j ta D σ H := h H (Ex.refl H) _ fun H1 e => ⟨v, w, rfl, k H1 e⟩
theorem q_par {i j : Nat} {ta : TA} {v w : V} {D : Ends} {tz : TS} {σ : St} {H : Hp} (h : EvA ta σ H [v, w]) (k : ∀ H1, Ex H H1 → tz D ((σ.set i (some v)).set j (some w)) H1) : tSeq (tPar i j ta) tz D σ H := s_par (D := { D with nx := tz D }) h k
end Evl
namespace Dg
open PySem L2 Evl TL
open Dr (StAt SameB spDraw)
theorem len_t (x : Str) : x.length = (tl x).length := by
  show x.cps.size = _
  exact Array.length_toList.symm
structure TxH (K : PySem.W.Frag) (mg : Str → Option Value) (fld flp : Addr) : Prop where
  len : mg "len" = none
section
variable {P : Program} {w : World} {K : PySem.W.Frag} {mg : Str → Option Value} {base : Heap} {fld flp : Addr}
theorem ev_digL {σ : St} {H : Hp} {ta tb : TE} {E : XK} {β n : Nat} (ha : Ev ta σ H (.int β)) (hb : Ev tb σ H (.int n)) (b2 : 2 ≤ β) (b10 : β ≤ 10) (n2 : n < 2 ^ 50000) : Ev (tCall spLDigits [] E (tCons ta (tCons tb tNil))) σ H (.str (digs β n)) :=
  ev_call (ea_cons ha (ea_cons hb ea_nil)) fun H1 e Q q E => ⟨β, n, rfl, b2, b10, n2, fun H2 e2 => q H2 e2⟩
theorem ev_powL {σ : St} {H : Hp} {ta tb : TE} {E : XK} {β k : Nat} (ha : Ev ta σ H (.int β)) (hb : Ev tb σ H (.int k)) (b2 : 2 ≤ β) (b10 : β ≤ 10) (k2 : k ≤ 100000) : Ev (tCall spLPower [] E (tCons ta (tCons tb tNil))) σ H (.int ((β ^ k : Nat) : Int)) :=
  ev_call (ea_cons ha (ea_cons hb ea_nil)) fun H1 e Q q E => ⟨β, k, rfl, b2, b10, k2, fun H2 e2 => q H2 e2⟩
theorem ev_lenX {K : PySem.W.Frag} {σ : St} {H : Hp} {te : TE} {x : Str} (h : Ev te σ H (.str x)) (hz : x.length ≤ 100000) : Ev (tCB (fun xs H Q => ∃ z, xs = [.str z] ∧ z.length ≤ sizeLine ∧ Q (.int z.length) H) (tCons te tNil)) σ H (.int x.length) := fun H1 e Q q =>
  h H1 e _ fun H2 e2 => ⟨x, rfl, sz_of hz, q H2 e2⟩
theorem ev_cutS {σ : St} {H : Hp} {te : TE} {tl th : TO} {x : Str} {lo hi : Option Int} (h : Ev te σ H (.str x)) (h1 : EvO tl σ H lo) (h2 : EvO th σ H hi) (hz : x.length ≤ 100000) : Ev (tSl rSlS te tl th) σ H (.str (cutS x lo hi)) := fun H1 e Q q =>
  h H1 e _ fun H2 e2 => h1 H2 (e.trans e2) _ fun H3 e3 => h2 H3 ((e.trans e2).trans e3) _ fun H4 e4 => ⟨x, rfl, sz_of hz, q H4 ((e2.trans e3).trans e4)⟩
theorem digs_le {β n : Nat} (b2 : 2 ≤ β) (n2 : n < 2 ^ 50000) : (digs β n).length ≤ 50000 := by
  rw [digs_len]
  exact dl_lenB b2 50000 n (Nat.lt_of_lt_of_le n2 (Nat.pow_le_pow_left b2 _))
def spLChg : Sp := fun vs H Q _ => ∃ β f s : Nat, vs = [.int β, .int f, .int s] ∧ 2 ≤ β ∧ β ≤ 10 ∧ f < s ∧ s < 2 ^ 50000 ∧ ∀ m, ChgIs β f s m → RetV (.int m) H Q
abbrev nLChg : List Str := ["base", "first", "second", "one", "other"]
def spLNear : Sp := fun vs H Q _ => ∃ β f s : Nat, vs = [.int β, .int f, .int s] ∧ 2 ≤ β ∧ β ≤ 10 ∧ f < s ∧ s < 2 ^ 50000 ∧ ∀ m, NearIs β (s - f) m → RetV (.int m) H Q
abbrev nLNear : List Str := ["base", "first", "second", "found"]
end
end Dg

/-! k06: what is told of a range, as data. -/
namespace Evl
open PySem L2
theorem s_tup {ta : TA} {vs : List V} {D : Ends} {σ : St} {H : Hp} (h : EvA ta σ H vs) (hz : vs.length ≤ sizeLine) (k : ∀ t H1, Ex H H1 → H t = none → H1 t = some (.tup vs) → D.rt (.ref t) H1) : tRet (tTup ta) D σ H :=
  h H (Ex.refl H) _ fun H1 e1 => ⟨hz, fun t nt => k t _ (e1.trans (Ex.new nt)) (fresh_back e1 nt) upd_same⟩
end Evl
namespace Dg
open PySem L2 Evl TL
theorem near_ex {β : Nat} (hb : 2 ≤ β) (d : Nat) : ∃ k, NearIs β d k := by
  have h0 : d ≤ β ^ d := Nat.le_of_lt (Nat.lt_of_lt_of_le Nat.lt_two_pow_self (Nat.pow_le_pow_left hb d))
  have key : ∀ n : Nat, d ≤ β ^ n → ∃ k, NearIs β d k := by
    intro n
    induction n using Nat.strongRecOn with
    | _ n ih =>
      intro h
      by_cases hx : ∃ j, j < n ∧ d ≤ β ^ j
      · obtain ⟨j, hj, hd⟩ := hx
        exact ih j hj hd
      · exact ⟨n, h, fun j hj => Nat.lt_of_not_le fun hd => hx ⟨j, hj, hd⟩⟩
  exact key d h0
open Classical in
noncomputable def neaN (β d : Nat) : Nat := if h : ∃ k, NearIs β d k then Classical.choose h else 0
theorem neaN_is {β : Nat} (hb : 2 ≤ β) (d : Nat) : NearIs β d (neaN β d) := by
  unfold neaN
  rw [dif_pos (near_ex hb d)]
  exact Classical.choose_spec (near_ex hb d)
theorem neaN_eq {β d k : Nat} (h : NearIs β d k) : neaN β d = k := by
  have e : ∃ k, NearIs β d k := ⟨k, h⟩
  unfold neaN
  rw [dif_pos e]
  exact (Classical.choose_spec e).uniq h
theorem neaN_le {β d i : Nat} (hb : 2 ≤ β) : neaN β d ≤ i ↔ d ≤ β ^ i := by
  have n := neaN_is hb d
  constructor
  · intro h
    exact Nat.le_trans n.1 (Nat.pow_le_pow_right (by omega) h)
  · intro h
    rcases Nat.lt_or_ge i (neaN β d) with z | z
    · exact absurd (n.2 i z) (by omega)
    · exact z
open Classical in
noncomputable def chgN (β f s : Nat) : Nat := if h : ∃ m, ChgIs β f s m then Classical.choose h else 0
theorem chgN_eq {β f s m : Nat} (h : ChgIs β f s m) : chgN β f s = m := by
  have e : ∃ m, ChgIs β f s m := ⟨m, h⟩
  unfold chgN
  rw [dif_pos e]
  exact (Classical.choose_spec e).uniq h
/-- the last two digits -/
def enD (β f : Nat) : Str := cutS (digs β f) (some (-2)) none
/-- what facts_of tells -/
noncomputable def fctV (β f s : Nat) : List V := [.int ((dl β f).length : Int), .int ((dl β s).length : Int), .int (chgN β f s : Int), .int (neaN β (s - f) : Int), .str (enD β f)]
/-- what is refused of two values, and what is due of a range -/
structure RngQ (ca : Nat → Addr) (v u : V) (b c : Bool) (H : Hp) (E : XK) (G : Nat → Nat → Prop) : Prop where
  bad : (b && c) = false → LeavesP (ca 4) v u H E
  ok : (b && c) = true → (∃ i j : Int, v = .int i ∧ u = .int j ∧ j ≤ i ∧ LeavesP (ca 4) v u H E) ∨ ∃ f s : Nat, v = .int f ∧ u = .int s ∧ 1 ≤ f ∧ f < s ∧ s < 2 ^ 50000 ∧ G f s
theorem RngQ.map {ca : Nat → Addr} {v u : V} {b c : Bool} {H H' : Hp} {E : XK} {G G' : Nat → Nat → Prop} (R : RngQ ca v u b c H E G) (e : Ex H H') (h : ∀ f s : Nat, v = .int (f : Int) → u = .int (s : Int) → 1 ≤ f → f < s → s < 2 ^ 50000 → G f s → G' f s) : RngQ ca v u b c H' E G' :=
  ⟨fun z => (R.bad z).go e, fun z => by
    rcases R.ok z with ⟨i, j, h1, h2, h3, l⟩ | ⟨f, s, h1, h2, h3, h4, h5, g⟩
    · exact .inl ⟨i, j, h1, h2, h3, l.go e⟩
    · exact .inr ⟨f, s, h1, h2, h3, h4, h5, h f s h1 h2 h3 h4 h5 g⟩⟩
section
variable {K : PySem.W.Frag} {σ : St} {H : Hp} {t0 t1 t2 : TE} {E : St → XK} {β f s n : Nat} {ca : Nat → Addr}
theorem nm_yes (h : 1 ≤ n) : Nm K H (.int n) true := by
  rw [← decide_eq_true (p := (1 : Int) ≤ (n : Int)) (by omega)]
  exact .int n
theorem ev_digP (b2 : 2 ≤ β) (b10 : β ≤ 10) (n1 : 1 ≤ n) (nz : n < 2 ^ 50000) (h0 : Ev t0 σ H (.int β)) (h1 : Ev t1 σ H (.int n)) : Ev (tCallS (spDigits K ca) E (tCons t0 (tCons t1 tNil))) σ H (.str (digs β n)) := fun H1 e Q q =>
  h0 H1 e _ fun H2 e2 => h1 H2 (e.trans e2) _ fun H3 e3 => ⟨.int β, .int n, true, true, rfl, Dt.bs_yes b2 b10, nm_yes n1, (fun z => nomatch z), (fun _ z => nomatch z), fun _ _ => ⟨β, n, rfl, rfl, b2, b10, n1, nz, fun H4 e4 => q H4 ((e2.trans e3).trans e4)⟩⟩
theorem ev_lenP (b2 : 2 ≤ β) (b10 : β ≤ 10) (n1 : 1 ≤ n) (nz : n < 2 ^ 50000) (h0 : Ev t0 σ H (.int β)) (h1 : Ev t1 σ H (.int n)) : Ev (tCallS (spLength K ca) E (tCons t0 (tCons t1 tNil))) σ H (.int ((dl β n).length : Int)) := fun H1 e Q q =>
  h0 H1 e _ fun H2 e2 => h1 H2 (e.trans e2) _ fun H3 e3 => ⟨.int β, .int n, true, true, rfl, Dt.bs_yes b2 b10, nm_yes n1, (fun z => nomatch z), (fun _ z => nomatch z), fun _ _ => ⟨β, n, rfl, rfl, b2, b10, n1, nz, fun H4 e4 => q H4 ((e2.trans e3).trans e4)⟩⟩
theorem ev_rng {R : Nat → Nat → Nat → Nat → Prop} {z : Nat} (b2 : 2 ≤ β) (b10 : β ≤ 10) (f1 : 1 ≤ f) (hfs : f < s) (hz : ∀ m, R β f s m → z = m) (h0 : Ev t0 σ H (.int β)) (h1 : Ev t1 σ H (.int f)) (h2 : Ev t2 σ H (.int s)) :
    Ev (tCallS (spRng K ca R) E (tCons t0 (tCons t1 (tCons t2 tNil)))) σ H (.int (z : Int)) := fun H1 e Q q =>
  h0 H1 e _ fun H2 e2 => h1 H2 (e.trans e2) _ fun H3 e3 => h2 H3 ((e.trans e2).trans e3) _ fun H4 e4 => ⟨.int β, .int f, .int s, true, true, true, rfl, Dt.bs_yes b2 b10, nm_yes f1, nm_yes (Nat.le_of_lt (Nat.lt_of_le_of_lt f1 hfs)), (fun z => nomatch z), (fun _ z => nomatch z), fun _ _ => ⟨β, f, s, rfl, b2, b10, .inr ⟨rfl, rfl, hfs, fun m hm H5 e5 => by
    rw [← hz m hm]
    exact q H5 (((e2.trans e3).trans e4).trans e5)⟩⟩⟩
end
abbrev sFacts : Stmt := top 45
structure TxFa (K : PySem.W.Frag) (mg : Str → Option Value) (fnr fdg fne fle fch : Addr) : Prop where
  needR : mg "need_range" = some (.ref fnr)
  kNR : PySem.W.keepIn K (.ref fnr) = true
  digits : mg "digits" = some (.ref fdg)
  kDg : PySem.W.keepIn K (.ref fdg) = true
  near : mg "near" = some (.ref fne)
  kNe : PySem.W.keepIn K (.ref fne) = true
  length : mg "length" = some (.ref fle)
  kLe : PySem.W.keepIn K (.ref fle) = true
  changed : mg "changed" = some (.ref fch)
  kCh : PySem.W.keepIn K (.ref fch) = true
  len : mg "len" = none
  mend : ∃ t, mg "MOST_ENDING" = some (.int 2 t)
theorem z5 : 5 ≤ sizeLine := by rw [sizeLine_eq]; decide
section
variable {P : Program} {w : World} {K : PySem.W.Frag} {mg : Str → Option Value} {base : Heap} {ca : Nat → Addr} {fnr fdg fne fle fch : Addr}
def spFacts (K : PySem.W.Frag) (ca : Nat → Addr) : Sp := fun vs H Q E => ∃ (β : Nat) (v u : V) (b c : Bool), vs = [.int β, v, u] ∧ 2 ≤ β ∧ β ≤ 10 ∧ Nm K H v b ∧ Nm K H u c ∧ RngQ ca v u b c H E fun f s => ∀ t H', Ex H H' → H' t = some (.tup (fctV β f s)) → Q (.ref t) H'
theorem scFacts : FnScope ["base", "first", "second", "written", "gap"] ["base", "first", "second"] (defScope sFacts) := ⟨rfl, rfl, rfl, by decide +kernel, rfl, by decide +kernel, by decide +kernel⟩
theorem ok_facts {f : Addr} {fd fd1 fd2 fd3 fd4 fd5 : FuncData} (F : Fun K "facts_of" "facts_of" sFacts f fd) (GR : FnOk P w K mg base (L2.CX P w) 5 fnr fd1 ["first", "second"] (spNeedR K ca)) (bR : Binds K fd1 ["first", "second"] [])
    (GD : FnOk P w K mg base (L2.CX P w) 5 fdg fd2 ["base", "number"] (spDigits K ca)) (bD : Binds K fd2 ["base", "number"] []) (GN : FnOk P w K mg base (L2.CX P w) 5 fne fd3 ["base", "first", "second"] (spRng K ca fun β f s m => NearIs β (s - f) m)) (bN : Binds K fd3 ["base", "first", "second"] [])
    (GL : FnOk P w K mg base (L2.CX P w) 5 fle fd4 ["base", "number"] (spLength K ca)) (bL : Binds K fd4 ["base", "number"] []) (GC : FnOk P w K mg base (L2.CX P w) 5 fch fd5 ["base", "first", "second"] (spRng K ca ChgIs)) (bC : Binds K fd5 ["base", "first", "second"] [])
    (T : TxFa K mg fnr fdg fne fle fch) : FnOk P w K mg base (L2.CX P w) 6 f fd ["base", "first", "second"] (spFacts K ca) := by
  refine F.okX scFacts (fun vs H Q E h => ?_) (fun cdv A outer s H vs Q E hr h => ?_)
  · obtain ⟨_, _, _, _, _, rfl, _⟩ := h
    rfl
  · obtain ⟨β, v, u, b, c, rfl, b2, b10, kb, kc, R⟩ := h
    obtain ⟨tm, hm⟩ := T.mend
    refine ⟨_, pss_cons (ps_expr (pe_callS GR hr (by rfl) T.needR T.kNR bR (fun σ => passAt (takes_of rfl rfl rfl rfl) σ) (pa_cons (pv 1) (pa_cons (pv 2) pa_nil))))
      (pss_cons (ps_set (i := 3) scFacts.nd rfl (.inl rfl) (pe_callS GD hr (by rfl) T.digits T.kDg bD (fun σ => passAt (takes_of rfl rfl rfl rfl) σ) (pa_cons (pv 0) (pa_cons (pv 1) pa_nil))))
      (pss_cons (ps_set (i := 4) scFacts.nd rfl (.inl rfl) (pe_callS GN hr (by rfl) T.near T.kNe bN (fun σ => passAt (takes_of rfl rfl rfl rfl) σ) (pa_cons (pv 0) (pa_cons (pv 1) (pa_cons (pv 2) pa_nil)))))
      (pss_one (ps_ret (pe_tup (pa_cons (pe_callB call_len_str (by rfl) T.len (by decide +kernel) (pa_cons (pv 3) pa_nil))
        (pa_cons (pe_callS GL hr (by rfl) T.length T.kLe bL (fun σ => passAt (takes_of rfl rfl rfl rfl) σ) (pa_cons (pv 0) (pa_cons (pv 2) pa_nil)))
        (pa_cons (pe_callS GC hr (by rfl) T.changed T.kCh bC (fun σ => passAt (takes_of rfl rfl rfl rfl) σ) (pa_cons (pv 0) (pa_cons (pv 1) (pa_cons (pv 2) pa_nil))))
        (pa_cons (pv 4) (pa_cons (pe_slice sl_str (pv 3) (po_some (pe_un un_neg (pe_glob (by rfl) hm (v := .int 2) ⟨_, rfl⟩))) po_none) pa_nil)))))))))), ?_⟩
    refine ⟨_, rfl, _, rfl, v, u, b, c, rfl, kb, kc, R.bad, fun z => ?_⟩
    rcases R.ok z with ⟨i, j, rfl, rfl, hij, lt⟩ | ⟨f, s, rfl, rfl, f1, hfs, s2, q⟩
    · exact ⟨i, j, rfl, rfl, fun _ => lt, fun z => absurd hij (Int.not_le.mpr z)⟩
    · have f2 : f < 2 ^ 50000 := Nat.lt_trans hfs s2
      have s1 : 1 ≤ s := Nat.le_of_lt (Nat.lt_of_le_of_lt f1 hfs)
      refine ⟨f, s, rfl, rfl, fun z => absurd z (Int.not_le.mpr (Int.ofNat_lt.mpr hfs)), fun _ H1 e1 => ?_⟩
      refine q_asg (ev_digP b2 b10 f1 f2 (ev_var rfl) (ev_var rfl)) fun H2 e2 => ?_
      refine q_asg (v := .int (neaN β (s - f) : Int)) (ev_rng b2 b10 f1 hfs (fun m hm => neaN_eq hm) (ev_var rfl) (ev_var rfl) (ev_var rfl)) fun H3 e3 => ?_
      have lf : (digs β f).length ≤ 100000 := Nat.le_trans (digs_le (n := f) b2 f2) (by decide)
      refine s_tup (vs := fctV β f s) ?_ z5 fun t H4 e4 nt ht => q t H4 (((e1.trans e2).trans e3).trans e4) ht
      refine ea_cons (ev_is (ev_lenX (K := K) (x := digs β f) (ev_var rfl) lf) (by rw [digs_len])) ?_
      refine ea_cons (ev_lenP b2 b10 s1 s2 (ev_var rfl) (ev_var rfl)) ?_
      refine ea_cons (ev_rng (z := chgN β f s) b2 b10 f1 hfs (fun m hm => chgN_eq hm) (ev_var rfl) (ev_var rfl) (ev_var rfl)) ?_
      refine ea_cons (ev_var rfl) ?_
      exact ea_cons (ev_cutS (ev_var rfl) (eo_some (ev_un ev_c ru_neg)) eo_none lf) ea_nil
end
end Dg

/-! k06: the rule that writes a range, and how much it keeps. -/
namespace Dt
open PySem L2 Evl Dg LamR LamX StX ClX TL
open Dr (StAt SameB)
/-- whether a condition holds -/
noncomputable def holdsD (β f s : Nat) : PyData → Bool
  | .tuple [.str _, .str x] => Txt.endswith (enD β f) x
  | .tuple [.str _, .int i] => decide ((neaN β (s - f) : Int) ≤ i)
  | .tuple [.str w, .int i, e] => decide (i ≤ (if w = "length" then ((dl β f).length : Int) else (chgN β f s : Int))) && (isN e || decide ((if w = "length" then ((dl β f).length : Int) else (chgN β f s : Int)) ≤ intD e))
  | _ => false
noncomputable def appl (β f s : Nat) (d : PyData) : Bool := (tupD (at_ 0 d)).all (holdsD β f s)
/-- the number of the first rule that applies -/
noncomputable def firstD (β f s : Nat) (Ds : List PyData) : Nat := (Ds.take (Ds.length - 1)).findIdx (appl β f s)
/-- how many digits a rule keeps -/
noncomputable def keepN (β f s : Nat) : PyData → Nat
  | .tuple [.str _] => (dl β s).length
  | .tuple [.str w, .int i] => if w = "changed" then min (max (chgN β f s) i.toNat) (dl β s).length else min i.toNat (dl β s).length
  | _ => 0
noncomputable def keptD (β f s : Nat) (Ds : List PyData) : Nat := keepN β f s (at_ 1 (Ds.getD (firstD β f s Ds) .none))
theorem firstD_lt {β f s : Nat} {Ds : List PyData} (h : 1 ≤ Ds.length) : firstD β f s Ds < Ds.length := by
  have := List.findIdx_le_length (xs := Ds.take (Ds.length - 1)) (p := appl β f s)
  rw [List.length_take] at this
  unfold firstD
  omega
abbrev sHolds : Stmt := top 46
abbrev sFirst : Stmt := top 47
abbrev sMany : Stmt := top 48
abbrev sWritten : Stmt := top 49
structure TxW (K : PySem.W.Frag) (mg : Str → Option Value) (fho ffi fma : Addr) : Prop where
  holds : mg "holds" = some (.ref fho)
  kHo : PySem.W.keepIn K (.ref fho) = true
  first : mg "first_applying" = some (.ref ffi)
  kFi : PySem.W.keepIn K (.ref ffi) = true
  many : mg "many_kept" = some (.ref fma)
  kMa : PySem.W.keepIn K (.ref fma) = true
  len : mg "len" = none
  range : mg "range" = none
  all : mg "all" = none
  min : mg "min" = none
  max : mg "max" = none
section
variable {P : Program} {w : World} {K : PySem.W.Frag} {mg : Str → Option Value} {base : Heap} {ca : Nat → Addr} {fho ffi fma : Addr}
def spHolds : Sp := fun vs H Q _ => ∃ (v : V) (t : Addr) (D : PyData) (β f s : Nat), vs = [v, .ref t] ∧ Pt H v D ∧ CondS β D ∧ H t = some (.tup (fctV β f s)) ∧ RetV (.bl (holdsD β f s D)) H Q
abbrev nHolds : List Str := ["condition", "facts", "first_length", "second_length", "change", "gap", "ending", "word", "size"]
theorem scHolds : FnScope nHolds ["condition", "facts"] (defScope sHolds) := ⟨rfl, rfl, rfl, by decide +kernel, rfl, by decide +kernel, by decide +kernel⟩
theorem ok_holds {f : Addr} {fd : FuncData} (F : Fun K "holds" "holds" sHolds f fd) : FnOk P w K mg base CX0 1 f fd ["condition", "facts"] spHolds := by
  refine F.ok scHolds (fun vs H Q E h => ?_) (fun cdv A outer s H vs Q E hr h => ?_)
  · obtain ⟨_, _, _, _, _, _, rfl, _⟩ := h
    rfl
  · obtain ⟨v, t, D, β, f, s, rfl, k, hc, ht, q⟩ := h
    refine ⟨_, pss_cons (ps_asg (pv 1) (pg_tup (by rfl) (pgs_cons (pg_name (i := 2) scHolds.nd rfl (.inl rfl)) (pgs_cons (pg_name (i := 3) scHolds.nd rfl (.inl rfl)) (pgs_cons (pg_name (i := 4) scHolds.nd rfl (.inl rfl)) (pgs_cons (pg_name (i := 5) scHolds.nd rfl (.inl rfl)) (pgs_cons (pg_name (i := 6) scHolds.nd rfl (.inl rfl)) pgs_nil)))))))
      (pss_cons (ps_set (i := 7) scHolds.nd rfl (.inl rfl) (pe_ix ix_tup (pv 0) pe_int (fun _ _ => rfl)))
      (pss_cons (ps_if (pt_cmpR op_eq (pv 7) pe_str (nomark _)) (pss_one (ps_ret (pe_m1 PySem.F.slot_str_endswith PySem.F.type_str_endswith mt_endswith (pv 6) (pe_ix ix_tup (pv 0) pe_int (fun _ _ => rfl))))) pss_nil)
      (pss_cons (ps_if (pt_cmpR op_eq (pv 7) pe_str (nomark _)) (pss_one (ps_ret (pe_cmpR op_le (pv 5) (pe_ix ix_tup (pv 0) pe_int (fun _ _ => rfl)) (nomark _)))) pss_nil)
      (pss_cons (ps_set (i := 8) scHolds.nd rfl (.inl rfl) (pe_ifExp (pt_cmpR op_eq (pv 7) pe_str (nomark _)) (pv 2) (pv 4)))
      (pss_one (ps_ret (pe_and (pe_cmpR op_le (pe_ix ix_tup (pv 0) pe_int (fun _ _ => rfl)) (pv 8) (nomark _)) (pe_one (pe_or (pe_cmpR op_isN (pe_ix ix_tup (pv 0) pe_int (fun _ _ => rfl)) pe_non (nomark _)) (pe_one (pe_cmpR op_le (pv 8) (pe_ix ix_tup (pv 0) pe_int (fun _ _ => rfl)) (nomark _)))))))))))), ?_⟩
    have k' : ∃ ds, D = .tuple ds := by cases hc <;> exact ⟨_, rfl⟩
    obtain ⟨ds, rfl⟩ := k'
    obtain ⟨a, us, rfl, ha, ka⟩ := k.tupI'
    refine ⟨_, rfl, t, _, rfl, st_of ht, rfl, _, _, rfl, _, _, rfl, _, _, rfl, _, _, rfl, _, _, rfl, rfl, ?_⟩
    cases hc with
    | ends x hx =>
      obtain ⟨u0, u1, rfl⟩ : ∃ u0 u1, us = [u0, u1] := by
        match us, ka.length with
        | [u0, u1], _ => exact ⟨_, _, rfl⟩
      cases ka with
      | cons k0 ka =>
        cases ka with
        | cons k1 _ =>
          cases k0
          cases k1
          refine q_asg (v := .str "ends") (ev_at (K := K) (i := 0) (ev_var rfl) ha rfl) fun H1 e1 => ?_
          refine q_when (b := true) (et_test (ev_is (ev_op (ev_var rfl) ev_c (rv_eq rfl)) (by rw [decide_eq_true rfl]))) (fun z H2 e2 => ?_) (fun z => nomatch z)
          exact ⟨_, rfl, ⟨_, rfl⟩, ev_at (K := K) (i := 1) (ev_var rfl) (e2 _ _ (e1 _ _ ha)) rfl H2 (Ex.refl H2) _ fun H3 e3 => ⟨_, _, rfl, rfl, q H3 ((e1.trans e2).trans e3)⟩⟩
    | near i h0 h6 =>
      obtain ⟨u0, u1, rfl⟩ : ∃ u0 u1, us = [u0, u1] := by
        match us, ka.length with
        | [u0, u1], _ => exact ⟨_, _, rfl⟩
      cases ka with
      | cons k0 ka =>
        cases ka with
        | cons k1 _ =>
          cases k0
          cases k1
          refine q_asg (v := .str "near") (ev_at (K := K) (i := 0) (ev_var rfl) ha rfl) fun H1 e1 => ?_
          refine q_when (b := false) (et_test (ev_is (ev_op (ev_var rfl) ev_c (rv_eq rfl)) (by rw [decide_eq_false (by decide +kernel)]))) (fun z => nomatch z) (fun z H2 e2 => ?_)
          refine q_when (b := true) (et_test (ev_is (ev_op (ev_var rfl) ev_c (rv_eq rfl)) (by rw [decide_eq_true rfl]))) (fun z H3 e3 => ?_) (fun z => nomatch z)
          have e13 := (e1.trans e2).trans e3
          exact s_ret (ev_op (ev_var rfl) (ev_at (K := K) (i := 1) (ev_var rfl) (e13 _ _ ha) rfl) rv_I0) fun H4 e4 => q H4 (e13.trans e4)
    | len w hw i h1 h6 e he =>
      obtain ⟨u0, u1, u2, rfl⟩ : ∃ u0 u1 u2, us = [u0, u1, u2] := by
        match us, ka.length with
        | [u0, u1, u2], _ => exact ⟨_, _, _, rfl⟩
      cases ka with
      | cons k0 ka =>
        cases ka with
        | cons k1 ka =>
          cases ka with
          | cons k2 _ =>
            cases k0
            cases k1
            have n1 : w ≠ "ends" := by rcases hw with rfl | rfl <;> decide +kernel
            have n2 : w ≠ "near" := by rcases hw with rfl | rfl <;> decide +kernel
            refine q_asg (v := .str w) (ev_at (K := K) (i := 0) (ev_var rfl) ha rfl) fun H1 e1 => ?_
            refine q_when (b := false) (et_test (ev_is (ev_op (ev_var rfl) ev_c (rv_eq rfl)) (by rw [decide_eq_false (fun z => n1 (by injection z))]))) (fun z => nomatch z) (fun z H2 e2 => ?_)
            refine q_when (b := false) (et_test (ev_is (ev_op (ev_var rfl) ev_c (rv_eq rfl)) (by rw [decide_eq_false (fun z => n2 (by injection z))]))) (fun z => nomatch z) (fun z H3 e3 => ?_)
            have e13 := (e1.trans e2).trans e3
            obtain ⟨sz, hsz⟩ : ∃ sz : Int, sz = if w = "length" then ((dl β f).length : Int) else (chgN β f s : Int) := ⟨_, rfl⟩
            refine q_asg (v := .int sz) (ev_if (b := decide (w = "length")) (et_test (ev_is (ev_op (ev_var rfl) ev_c (rv_eq rfl)) (by
                congr 1
                exact decide_eq_decide.mpr ⟨fun z => by injection z, fun z => by rw [z]⟩))) (fun z => ?_) (fun z => ?_)) fun H4 e4 => ?_
            · rw [hsz, if_pos (of_decide_eq_true z)]
              exact ev_var rfl
            · rw [hsz, if_neg (of_decide_eq_false z)]
              exact ev_var rfl
            have e14 := e13.trans e4
            have ha4 := e14 _ _ ha
            have q' : RetV (.bl (decide (i ≤ sz) && (isN e || decide (sz ≤ intD e)))) H Q := by
              rw [hsz]
              exact q
            refine s_ret (ev_andV (ev_op (ev_at (K := K) (i := 1) (ev_var rfl) ha4 rfl) (ev_var rfl) rv_I0) fun _ => ev_orV (a := isN e) (ev_op (y := .non) (ev_at (K := K) (i := 2) (ev_var rfl) ha4 rfl) ev_c fun H5 e5 Q5 k5 => ⟨rfl, by rw [(k2.ex (e14.trans e5)).isN]; exact k5 _ (Ex.refl _)⟩) fun z => ?_) fun H5 e5 => q' H5 (e14.trans e5)
            rcases he with rfl | ⟨j, rfl, hj, hj6⟩
            · cases z
            · cases k2
              exact ev_op (ev_var rfl) (ev_at (K := K) (i := 2) (ev_var rfl) ha4 rfl) rv_I0
/-! ### the first that applies -/
/-- rules of a style -/
def RowS (β : Nat) (Ds : List PyData) : Prop := 1 ≤ Ds.length ∧ Ds.length ≤ 8 ∧ Ds.all (ruleB β) = true
theorem RowS.at {β : Nat} {Ds : List PyData} (h : RowS β Ds) {i : Nat} {d : PyData} (hd : Ds[i]? = some d) : ∃ cs k, d = .tuple [.tuple cs, k] ∧ cs.length ≤ 3 ∧ (∀ c ∈ cs, CondS β c) ∧ KeepS k := rule_inv (List.all_eq_true.mp h.2.2 d (List.mem_of_getElem? hd))
/-- the conditions and the keep of a rule that lies there -/
theorem Pt.rule {H : Hp} {v k : _} {cs : List PyData} (h : Pt H v (.tuple [.tuple cs, k])) : ∃ a ac ws vk, v = .ref a ∧ H a = some (.tup [.ref ac, vk]) ∧ H ac = some (.tup ws) ∧ PtAll H ws cs ∧ Pt H vk k := by
  obtain ⟨a, us, rfl, ha, ka⟩ := h.tupI'
  cases ka with
  | cons k0 ka =>
    cases ka with
    | cons k1 kz =>
      cases kz
      obtain ⟨ac, ws, rfl, hac, kw⟩ := k0.tupI'
      exact ⟨a, ac, ws, _, rfl, ha, hac, kw, k1⟩
def spFirst : Sp := fun vs H Q _ => ∃ (r t : Addr) (rs : List V) (Ds : List PyData) (β f s : Nat), vs = [.ref r, .ref t] ∧ H r = some (.tup rs) ∧ PtAll H rs Ds ∧ RowS β Ds ∧ H t = some (.tup (fctV β f s)) ∧ RetV (.int (firstD β f s Ds : Int)) H Q
abbrev nFirst : List Str := ["rules", "facts", "last", "number", "condition"]
theorem scFirst : FnScope nFirst ["rules", "facts"] (defScope sFirst) := ⟨rfl, rfl, rfl, by decide +kernel, rfl, by decide +kernel, by decide +kernel⟩
theorem ok_first {f : Addr} {fd fdh : FuncData} (F : Fun K "first_applying" "first_applying" sFirst f fd) (GH : FnOk P w K mg base CX0 1 fho fdh ["condition", "facts"] spHolds) (bH : Binds K fdh ["condition", "facts"] []) (T : TxW K mg fho ffi fma) :
    FnOk P w K mg base CX0 2 f fd ["rules", "facts"] spFirst := by
  refine F.ok scFirst (fun vs H Q E h => ?_) (fun cdv A outer s H vs Q E hr h => ?_)
  · obtain ⟨_, _, _, _, _, _, _, rfl, _⟩ := h
    rfl
  · obtain ⟨r, t, rs, Ds, β, f, s, rfl, hrs, ka, good, ht, q⟩ := h
    refine ⟨_, pss_cons (ps_set (i := 2) scFirst.nd rfl (.inl rfl) (pe_op op_sub (pe_callB call_len_seq (by rfl) T.len (by decide +kernel) (pa_cons (pv 0) pa_nil)) pe_int))
      (pss_cons (ps_for PassesOwn.never rfl (pi_range1 (by rfl) T.range (pa_cons (pv 2) pa_nil)) (pg_name (i := 3) scFirst.nd rfl (.inl rfl))
        (pss_one (ps_if (pt_val (pe_callB (cr_all rfl) (by rfl) T.all (by decide +kernel) (pa_cons (pe_lc (own := [("condition", 4)]) (g := gName 4) (tt := tYes) rfl scFirst.nd (pi_tup (pe_ix ix_tup (pe_ix ix_tup (pv 0) (pv 3) (fun _ _ => rfl)) pe_int (fun _ _ => rfl))) (blkOk_by (own := [("condition", 4)]) (N := nFirst) (sc := defScope sFirst) (by decide +kernel)) (fun _ _ _ _ _ => pg_name (i := 4) scFirst.nd rfl (Or.inl rfl)) (fun _ _ _ _ _ => pts_nil)
            (fun _ _ _ _ _ => pe_call GH hr (by rfl) T.holds T.kHo bH .nil pass0 (pa_cons (pv 4) (pa_cons (pv 1) pa_nil)))) pa_nil))) (pss_one (ps_ret (pv 3))) pss_nil)))
      (pss_one (ps_ret (pv 2)))), ?_⟩
    have hl := ka.length
    have h1 := good.1
    refine q_asg (v := .int ((Ds.length - 1 : Nat) : Int)) (ev_is (ev_op (ev_lenT (K := K) (ev_var rfl) hrs) ev_c rv_I0) (by
      congr 1
      show (rs.length : Int) - 1 = _
      omega)) fun H1 e1 => ?_
    refine q_forR1 (n := ((Ds.length - 1 : Nat) : Int)) (ea_cons (ev_var rfl) ea_nil) (by have := good.2.1; omega) (fun i σ H' => Ex H H' ∧ (∃ x3, σ = [some (.ref r), some (.ref t), some (.int ((Ds.length - 1 : Nat) : Int)), x3, none]) ∧ ∀ j d, j < i → Ds[j]? = some d → appl β f s d = false)
      (fun H2 e2 => ⟨e1.trans e2, ⟨none, rfl⟩, fun j d hj _ => absurd hj (Nat.not_lt_zero j)⟩) (fun i σ H2 hi ⟨e2, ⟨x3, hσ⟩, hne⟩ => ?_) (fun σ H2 ⟨e2, ⟨x3, hσ⟩, hne⟩ => ?_)
    · subst hσ
      have hi2 : i < Ds.length - 1 := by omega
      obtain ⟨d, hd⟩ : ∃ d, Ds[i]? = some d := ⟨_, List.getElem?_eq_getElem (by omega)⟩
      obtain ⟨u, hu, ku⟩ := ka.get hd
      obtain ⟨cs, k, rfl, hc3, hcs, hks⟩ := good.at hd
      obtain ⟨au, ac, ws, vk, rfl, hau, hac, kws, kk⟩ := (ku.ex e2).rule
      have hrs2 := e2 _ _ hrs
      have ht2 := e2 _ _ ht
      have hcl := kws.length
      have eC : Ev (tOp (rIxT K) (tOp (rIxT K) (tVar 0) (tVar 3)) (tC (.int ((0 : Nat) : Int)))) [some (.ref r), some (.ref t), some (.int ((Ds.length - 1 : Nat) : Int)), some (.int (i : Int)), none] H2 (.ref ac) := ev_at (K := K) (i := 0) (ev_op (ev_var rfl) (ev_var rfl) (rv_ixT (st_of hrs2) (atI_nat hu))) hau rfl
      have eL : EvL (tLc (iTup K (tOp (rIxT K) (tOp (rIxT K) (tVar 0) (tVar 3)) (tC (.int ((0 : Nat) : Int))))) (gName 4) tYes (tCall spHolds [] E0 (tCons (tVar 4) (tCons (tVar 1) tNil))) [4]) [some (.ref r), some (.ref t), some (.int ((Ds.length - 1 : Nat) : Int)), some (.int (i : Int)), none] H2 ((cs.map (holdsD β f s)).map V.bl) := by
        rw [List.map_map, ← given_all cs (V.bl ∘ holdsD β f s) .non, ← hcl]
        refine el_lcT (fun _ => true) _ eC (st_of hac) (by omega) (fun _ => rfl) (fun i x H4 e4 hx => fun H5 e5 Q5 q5 => q5 H5 (Ex.refl _)) (fun i x H4 e4 hx _ => ?_)
        obtain ⟨dd, hd', kd'⟩ := kws.get2 hx
        rw [hd']
        exact ev_call (ea_cons (ev_var rfl) (ea_cons (ev_var rfl) ea_nil)) fun H5 e5 Q5 q5 E5 => ⟨x, t, dd, β, f, s, rfl, (kd'.ex e4).ex e5, hcs dd (List.mem_of_getElem? hd'), e5 _ _ (e4 _ _ ht2), fun H6 e6 => q5 H6 e6⟩
      refine s_when (b := appl β f s (.tuple [.tuple cs, k])) (et_B (ev_is (ev_allL eL) (by rw [List.all_map]; rfl))) (fun z H3 e3 => ?_) (fun z H3 e3 => ?_)
      · have hf : firstD β f s Ds = i := by
          unfold firstD
          rw [List.findIdx_eq (by rw [List.length_take]; omega)]
          refine ⟨?_, fun j hj => ?_⟩
          · rw [List.getElem_take]
            rw [List.getElem?_eq_getElem (by omega)] at hd
            injection hd with hd
            rw [hd]
            exact z
          · rw [List.getElem_take]
            exact hne j _ hj (List.getElem?_eq_getElem (by omega))
        rw [hf] at q
        exact ⟨_, rfl, q H3 (e2.trans e3)⟩
      · refine ⟨e2.trans e3, ⟨_, rfl⟩, fun j d' hj hd' => ?_⟩
        rcases Nat.lt_or_ge j i with y | y
        · exact hne j d' y hd'
        · have : j = i := by omega
          subst this
          rw [hd] at hd'
          injection hd' with hd'
          rw [← hd']
          exact z
    · subst hσ
      have hf : firstD β f s Ds = Ds.length - 1 := by
        unfold firstD
        rw [List.findIdx_eq_length.mpr, List.length_take]
        · omega
        · intro x hx
          obtain ⟨j, hj, e⟩ := List.mem_take_iff_getElem.mp hx
          exact hne j x (by omega) (by rw [← e]; exact List.getElem?_eq_getElem (by omega))
      rw [hf] at q
      exact ⟨_, rfl, q H2 e2⟩
/-! ### how many -/
def spMany : Sp := fun vs H Q _ => ∃ (v : V) (t : Addr) (D : PyData) (β f s : Nat), vs = [v, .ref t] ∧ Pt H v D ∧ KeepS D ∧ H t = some (.tup (fctV β f s)) ∧ RetV (.int (keepN β f s D : Int)) H Q
abbrev nMany : List Str := ["keep", "facts", "first_length", "second_length", "change", "gap", "ending"]
theorem scMany : FnScope nMany ["keep", "facts"] (defScope sMany) := ⟨rfl, rfl, rfl, by decide +kernel, rfl, by decide +kernel, by decide +kernel⟩
theorem ok_many {f : Addr} {fd : FuncData} (F : Fun K "many_kept" "many_kept" sMany f fd) (T : TxW K mg fho ffi fma) : FnOk P w K mg base CX0 1 f fd ["keep", "facts"] spMany := by
  refine F.ok scMany (fun vs H Q E h => ?_) (fun cdv A outer s H vs Q E hr h => ?_)
  · obtain ⟨_, _, _, _, _, _, rfl, _⟩ := h
    rfl
  · obtain ⟨v, t, D, β, f, s, rfl, k, hc, ht, q⟩ := h
    refine ⟨_, pss_cons (ps_asg (pv 1) (pg_tup (by rfl) (pgs_cons (pg_name (i := 2) scMany.nd rfl (.inl rfl)) (pgs_cons (pg_name (i := 3) scMany.nd rfl (.inl rfl)) (pgs_cons (pg_name (i := 4) scMany.nd rfl (.inl rfl)) (pgs_cons (pg_name (i := 5) scMany.nd rfl (.inl rfl)) (pgs_cons (pg_name (i := 6) scMany.nd rfl (.inl rfl)) pgs_nil)))))))
      (pss_cons (ps_if (pt_cmpR op_eq (pe_ix ix_tup (pv 0) pe_int (fun _ _ => rfl)) pe_str (nomark _)) (pss_one (ps_ret (pv 3))) pss_nil)
      (pss_cons (ps_if (pt_cmpR op_eq (pe_ix ix_tup (pv 0) pe_int (fun _ _ => rfl)) pe_str (nomark _)) (pss_one (ps_ret (pe_callB (call_min2 (by rfl)) (by rfl) T.min (by decide +kernel) (pa_cons (pe_callB (call_max2 (by rfl)) (by rfl) T.max (by decide +kernel) (pa_cons (pv 4) (pa_cons (pe_ix ix_tup (pv 0) pe_int (fun _ _ => rfl)) pa_nil))) (pa_cons (pv 3) pa_nil))))) pss_nil)
      (pss_one (ps_ret (pe_callB (call_min2 (by rfl)) (by rfl) T.min (by decide +kernel) (pa_cons (pe_ix ix_tup (pv 0) pe_int (fun _ _ => rfl)) (pa_cons (pv 3) pa_nil))))))), ?_⟩
    have k' : ∃ ds, D = .tuple ds := by cases hc <;> exact ⟨_, rfl⟩
    obtain ⟨ds, rfl⟩ := k'
    obtain ⟨a, us, rfl, ha, ka⟩ := k.tupI'
    refine ⟨_, rfl, t, _, rfl, st_of ht, rfl, _, _, rfl, _, _, rfl, _, _, rfl, _, _, rfl, _, _, rfl, rfl, ?_⟩
    have minI : ∀ (x y : Nat), (if (y : Int) < (x : Int) then (y : Int) else (x : Int)) = ((min x y : Nat) : Int) := fun x y => by
      rcases Nat.lt_or_ge y x with z | z
      · rw [if_pos (by omega), Nat.min_eq_right (Nat.le_of_lt z)]
      · rw [if_neg (by omega), Nat.min_eq_left z]
    have maxI : ∀ (x y : Nat), (if (y : Int) > (x : Int) then (y : Int) else (x : Int)) = ((max x y : Nat) : Int) := fun x y => by
      rcases Nat.lt_or_ge x y with z | z
      · rw [if_pos (by omega), Nat.max_eq_right (Nat.le_of_lt z)]
      · rw [if_neg (by omega), Nat.max_eq_left z]
    cases hc with
    | all =>
      obtain ⟨u0, rfl⟩ : ∃ u0, us = [u0] := by
        match us, ka.length with
        | [u0], _ => exact ⟨_, rfl⟩
      cases ka with
      | cons k0 _ =>
        cases k0
        refine q_when (b := true) (et_test (ev_is (ev_op (ev_at (K := K) (i := 0) (ev_var rfl) ha rfl) ev_c (rv_eq rfl)) (by rw [decide_eq_true rfl]))) (fun z H2 e2 => ?_) (fun z => nomatch z)
        exact ⟨_, rfl, q H2 e2⟩
    | size w hw i h1 h6 =>
      obtain ⟨u0, u1, rfl⟩ : ∃ u0 u1, us = [u0, u1] := by
        match us, ka.length with
        | [u0, u1], _ => exact ⟨_, _, rfl⟩
      cases ka with
      | cons k0 ka =>
        cases ka with
        | cons k1 _ =>
          cases k0
          cases k1
          obtain ⟨ι, rfl⟩ : ∃ ι : Nat, i = (ι : Int) := ⟨i.toNat, by omega⟩
          refine q_when (b := false) (et_test (ev_is (ev_op (ev_at (K := K) (i := 0) (ev_var rfl) ha rfl) ev_c (rv_eq rfl)) (by rw [decide_eq_false (fun z => by rcases hw with rfl | rfl <;> exact absurd z (by decide +kernel))]))) (fun z => nomatch z) (fun z H2 e2 => ?_)
          have ha2 := e2 _ _ ha
          refine q_when (b := decide (w = "changed")) (et_test (ev_is (ev_op (ev_at (K := K) (i := 0) (ev_var rfl) ha2 rfl) ev_c (rv_eq rfl)) (by
            congr 1
            exact decide_eq_decide.mpr ⟨fun z => by injection z, fun z => by rw [z]⟩))) (fun z H3 e3 => ?_) (fun z H3 e3 => ?_)
          · have hk : keepN β f s (.tuple [.str w, .int (ι : Int)]) = min (max (chgN β f s) ι) (dl β s).length := by
              show (if w = "changed" then _ else _) = _
              rw [if_pos (of_decide_eq_true z)]
              rfl
            rw [hk] at q
            refine ⟨_, rfl, ev_at (K := K) (i := 1) (ev_var rfl) (e3 _ _ ha2) rfl H3 (Ex.refl H3) _ fun H4 e4 => ⟨_, _, rfl, ?_⟩⟩
            rw [maxI]
            refine ⟨_, rfl, _, _, rfl, ?_⟩
            rw [minI]
            exact q H4 ((e2.trans e3).trans e4)
          · have hk : keepN β f s (.tuple [.str w, .int (ι : Int)]) = min ι (dl β s).length := by
              show (if w = "changed" then _ else _) = _
              rw [if_neg (of_decide_eq_false z)]
              rfl
            rw [hk] at q
            refine ev_at (K := K) (i := 1) (ev_var rfl) (e3 _ _ ha2) rfl H3 (Ex.refl H3) _ fun H4 e4 => ⟨_, rfl, _, _, rfl, ?_⟩
            rw [minI]
            exact q H4 ((e2.trans e3).trans e4)
/-! ### both -/
def spWritten : Sp := fun vs H Q _ => ∃ (r t : Addr) (rs : List V) (Ds : List PyData) (β f s : Nat), vs = [.ref r, .ref t] ∧ H r = some (.tup rs) ∧ PtAll H rs Ds ∧ RowS β Ds ∧ H t = some (.tup (fctV β f s)) ∧ ∀ p H', Ex H H' → H' p = some (.tup [.int (firstD β f s Ds : Int), .int (keptD β f s Ds : Int)]) → Q (.ref p) H'
theorem scWritten : FnScope ["rules", "facts", "number"] ["rules", "facts"] (defScope sWritten) := ⟨rfl, rfl, rfl, by decide +kernel, rfl, by decide +kernel, by decide +kernel⟩
theorem ok_written {f : Addr} {fd fd1 fd2 : FuncData} (F : Fun K "written" "written" sWritten f fd) (G1 : FnOk P w K mg base CX0 2 ffi fd1 ["rules", "facts"] spFirst) (b1 : Binds K fd1 ["rules", "facts"] []) (G2 : FnOk P w K mg base CX0 2 fma fd2 ["keep", "facts"] spMany) (b2 : Binds K fd2 ["keep", "facts"] []) (T : TxW K mg fho ffi fma) :
    FnOk P w K mg base CX0 3 f fd ["rules", "facts"] spWritten := by
  refine F.ok scWritten (fun vs H Q E h => ?_) (fun cdv A outer s H vs Q E hr h => ?_)
  · obtain ⟨_, _, _, _, _, _, _, rfl, _⟩ := h
    rfl
  · obtain ⟨r, t, rs, Ds, β, f, s, rfl, hrs, ka, good, ht, q⟩ := h
    refine ⟨_, pss_cons (ps_set (i := 2) scWritten.nd rfl (.inl rfl) (pe_call G1 hr (by rfl) T.first T.kFi b1 .nil pass0 (pa_cons (pv 0) (pa_cons (pv 1) pa_nil))))
      (pss_one (ps_ret (pe_tup (pa_cons (pv 2) (pa_cons (pe_call G2 hr (by rfl) T.many T.kMa b2 .nil pass0 (pa_cons (pe_ix ix_tup (pe_ix ix_tup (pv 0) (pv 2) (fun _ _ => rfl)) pe_int (fun _ _ => rfl)) (pa_cons (pv 1) pa_nil))) pa_nil))))), ?_⟩
    have hlt := firstD_lt (β := β) (f := f) (s := s) good.1
    obtain ⟨d, hd⟩ : ∃ d, Ds[firstD β f s Ds]? = some d := ⟨_, List.getElem?_eq_getElem hlt⟩
    obtain ⟨u, hu, ku⟩ := ka.get hd
    obtain ⟨cs, k, rfl, hc3, hcs, hks⟩ := good.at hd
    obtain ⟨au, ac, ws, vk, rfl, hau, hac, kws, kk⟩ := ku.rule
    have hk : keptD β f s Ds = keepN β f s k := by
      unfold keptD
      rw [List.getD_eq_getElem?_getD, hd]
      rfl
    rw [hk] at q
    refine q_asg (v := .int (firstD β f s Ds : Int)) (ev_call (ea_cons (ev_var rfl) (ea_cons (ev_var rfl) ea_nil)) fun H1 e1 Q1 q1 E1 => ⟨r, t, rs, Ds, β, f, s, rfl, e1 _ _ hrs, ka.ex e1, good, e1 _ _ ht, fun H2 e2 => q1 H2 e2⟩) fun H1 e1 => ?_
    refine s_tup (vs := [.int (firstD β f s Ds : Int), .int (keepN β f s k : Int)]) (ea_cons (ev_var rfl) (ea_cons ?_ ea_nil)) (by show (2:Nat) ≤ sizeLine; rw [sizeLine_eq]; omega) fun p H4 e4 np hp => q p H4 (e1.trans e4) hp
    exact ev_call (ea_cons (ev_at (K := K) (i := 1) (ev_op (ev_var rfl) (ev_var rfl) (rv_ixT (st_of (e1 _ _ hrs)) (atI_nat hu))) (e1 _ _ hau) rfl) (ea_cons (ev_var rfl) ea_nil)) fun H2 e2 Q2 q2 E2 => ⟨vk, t, k, β, f, s, rfl, kk.ex (e1.trans e2), hks, (e1.trans e2) _ _ ht, fun H3 e3 => q2 H3 e3⟩
end
end Dt

/-! k06: a style's own methods. -/
namespace Dt
open PySem L2 Evl Dg LamR LamX StX ClX TL
open Dr (StAt SameB)
abbrev sKeptOf : Stmt := inClass clStyle 5
abbrev sTailOf : Stmt := inClass clStyle 6
abbrev sCallOf : Stmt := inClass clStyle 7
theorem lk_rules (b r : V) : ([(("stored_base" : Str), b), ("stored_rules", r)]).lookup ("stored_rules" : Str) = some r := by
  have h : (("stored_rules" : Str) == "stored_base") = false := by decide +kernel
  simp [List.lookup, h]
theorem lk_base (b r : V) : ([(("stored_base" : Str), b), ("stored_rules", r)]).lookup ("stored_base" : Str) = some b := by simp [List.lookup]
theorem lk_none {m : Str} (b r : V) (h1 : (m == "stored_base") = false) (h2 : (m == "stored_rules") = false) : ([(("stored_base" : Str), b), ("stored_rules", r)]).lookup m = none := by simp [List.lookup, h1, h2]
noncomputable def tailD (β f s : Nat) (Ds : List PyData) : Str := cutS (digs β s) (some (-(keptD β f s Ds : Int))) none
noncomputable def formD (β f s : Nat) (Ds : List PyData) : Str := (digs β f ++ "-") ++ tailD β f s Ds
structure TxM (K : PySem.W.Frag) (mg : Str → Option Value) (fwr ffa fdg C : Addr) : Prop where
  written : mg "written" = some (.ref fwr)
  kWr : PySem.W.keepIn K (.ref fwr) = true
  facts : mg "facts_of" = some (.ref ffa)
  kFa : PySem.W.keepIn K (.ref ffa) = true
  digits : mg "digits" = some (.ref fdg)
  kDg : PySem.W.keepIn K (.ref fdg) = true
  cl : Cls K C
  nB : NoAttr K C "stored_base"
  nR : NoAttr K C "stored_rules"
section
variable {P : Program} {w : World} {K : PySem.W.Frag} {mg : Str → Option Value} {base : Heap} {ca : Nat → Addr} {fwr ffa fdg C : Addr}
/-- a style's method of a range -/
def spM (K : PySem.W.Frag) (C : Addr) (ca : Nat → Addr) (G : Nat → Nat → Nat → List PyData → V) : Sp := fun vs H Q E => ∃ (x : Addr) (β : Nat) (Ds : List PyData) (v u : V) (b c : Bool), vs = [.ref x, v, u] ∧ StyAt H C x β Ds ∧ 2 ≤ β ∧ β ≤ 10 ∧ RowS β Ds ∧ Nm K H v b ∧ Nm K H u c ∧ RngQ ca v u b c H E fun f s => RetV (G β f s Ds) H Q
theorem spM_len {G : Nat → Nat → Nat → List PyData → V} {vs : List V} {H : Hp} {Q : VK} {E : XK} (h : spM K C ca G vs H Q E) : vs.length = 3 := by
  obtain ⟨_, _, _, _, _, _, _, rfl, _⟩ := h
  rfl
theorem ev_rulesF {σ : St} {H : Hp} {x dx t : Addr} {b : V} (cl : Cls K C) (n : NoAttr K C "stored_rules") (h0 : σ[0]? = some (some (.ref x))) (hx : H x = some (.ins C dx [("stored_base", b), ("stored_rules", .ref t)])) : Ev (tFld K (tVar 0) "stored_rules") σ H (.ref t) := fun H1 e Q q =>
  ⟨_, h0, x, C, dx, _, .ref t, rfl, e _ _ hx, cl, n, lk_rules _ _, q H1 (Ex.refl H1)⟩
theorem ev_baseF {σ : St} {H : Hp} {x dx : Addr} {b r : V} (cl : Cls K C) (n : NoAttr K C "stored_base") (h0 : σ[0]? = some (some (.ref x))) (hx : H x = some (.ins C dx [("stored_base", b), ("stored_rules", r)])) : Ev (tFld K (tVar 0) "stored_base") σ H b := fun H1 e Q q =>
  ⟨_, h0, x, C, dx, _, b, rfl, e _ _ hx, cl, n, lk_base _ _, q H1 (Ex.refl H1)⟩
theorem scKeptOf : FnScope ["self", "first", "second"] ["self", "first", "second"] (defScope sKeptOf) := ⟨rfl, rfl, rfl, by decide +kernel, rfl, by decide +kernel, by decide +kernel⟩
theorem scTailOf : FnScope ["self", "first", "second", "many"] ["self", "first", "second"] (defScope sTailOf) := ⟨rfl, rfl, rfl, by decide +kernel, rfl, by decide +kernel, by decide +kernel⟩
theorem scCallOf : FnScope ["self", "first", "second", "behind"] ["self", "first", "second"] (defScope sCallOf) := ⟨rfl, rfl, rfl, by decide +kernel, rfl, by decide +kernel, by decide +kernel⟩
theorem ok_keptOf {f : Addr} {fd fd1 fd2 : FuncData} (F : Fun K "kept" "Style.kept" sKeptOf f fd) (GW : FnOk P w K mg base CX0 6 fwr fd1 ["rules", "facts"] spWritten) (bW : Binds K fd1 ["rules", "facts"] [])
    (GF : FnOk P w K mg base (L2.CX P w) 6 ffa fd2 ["base", "first", "second"] (spFacts K ca)) (bF : Binds K fd2 ["base", "first", "second"] []) (T : TxM K mg fwr ffa fdg C) : FnOk P w K mg base (L2.CX P w) 7 f fd ["self", "first", "second"] (spM K C ca fun β f s Ds => .int (keptD β f s Ds : Int)) := by
  refine F.okX scKeptOf (fun vs H Q E h => spM_len h) (fun cdv A outer s H vs Q E hr h => ?_)
  obtain ⟨x, β, Ds, v, u, b, c, rfl, ⟨dx, tr, hx, kr⟩, b2, b10, good, kb, kc, R⟩ := h
  obtain ⟨tr', rs, e, hrs, ka⟩ := kr.tupI'
  cases e
  refine ⟨_, pss_one (ps_ret (pe_ix ix_tup (pe_call GW hr (by rfl) T.written T.kWr bW .nil pass0 (pa_cons (pe_fld (pv 0) rfl) (pa_cons (pe_callS GF hr (by rfl) T.facts T.kFa bF (fun σ => passAt (takes_of rfl rfl rfl rfl) σ) (pa_cons (pe_fld (pv 0) rfl) (pa_cons (pv 1) (pa_cons (pv 2) pa_nil)))) pa_nil))) pe_int (fun _ _ => rfl))), ?_⟩
  refine ⟨_, rfl, x, C, dx, _, .ref tr, rfl, hx, T.cl, T.nR, lk_rules _ _, _, rfl, x, C, dx, _, .int β, rfl, hx, T.cl, T.nB, lk_base _ _, _, rfl, _, rfl, β, v, u, b, c, rfl, b2, b10, kb, kc, R.map (Ex.refl H) fun f s hv hu f1 hfs s2 g t H3 e3 ht => ?_⟩
  have e13 := e3
  exact ⟨tr, t, rs, Ds, β, f, s, rfl, e13 _ _ hrs, ka.ex e13, good, ht, fun p H4 e4 hp => ⟨p, _, _, _, rfl, rfl, st_of hp, atI_nat (j := 1) rfl, g H4 (e13.trans e4)⟩⟩
theorem ok_tailOf {f fk : Addr} {fd fd1 fd2 : FuncData} (F : Fun K "tail" "Style.tail" sTailOf f fd) (mK : Meth K C "kept" fk) (GK : FnOk P w K mg base (L2.CX P w) 7 fk fd1 ["self", "first", "second"] (spM K C ca fun β f s Ds => .int (keptD β f s Ds : Int))) (bK : Binds K fd1 ["self", "first", "second"] [])
    (GD : FnOk P w K mg base (L2.CX P w) 7 fdg fd2 ["base", "number"] (spDigits K ca)) (bD : Binds K fd2 ["base", "number"] []) (T : TxM K mg fwr ffa fdg C) : FnOk P w K mg base (L2.CX P w) 8 f fd ["self", "first", "second"] (spM K C ca fun β f s Ds => .str (tailD β f s Ds)) := by
  refine F.okX scTailOf (fun vs H Q E h => spM_len h) (fun cdv A outer s H vs Q E hr h => ?_)
  obtain ⟨x, β, Ds, v, u, b, c, rfl, ⟨dx, tr, hx, kr⟩, b2, b10, good, kb, kc, R⟩ := h
  refine ⟨_, pss_cons (ps_set (i := 3) scTailOf.nd rfl (.inl rfl) (pe_meth (pv 0) T.cl mK GK hr bK .nil (fun pins s H st e s' I c => passAt (takes_of rfl rfl rfl rfl) s pins H st e s' I c) (pa_cons (pv 1) (pa_cons (pv 2) pa_nil))))
    (pss_one (ps_ret (pe_slice sl_str (pe_callS GD hr (by rfl) T.digits T.kDg bD (fun σ => passAt (takes_of rfl rfl rfl rfl) σ) (pa_cons (pe_fld (pv 0) rfl) (pa_cons (pv 2) pa_nil))) (po_some (pe_un un_neg (pv 3))) po_none))), ?_⟩
  refine ⟨_, rfl, x, dx, _, rfl, hx, lk_none _ _ (by decide +kernel) (by decide +kernel), _, rfl, _, rfl, x, β, Ds, v, u, b, c, rfl, ⟨dx, tr, hx, kr⟩, b2, b10, good, kb, kc, R.map (Ex.refl H) fun f s hv hu f1 hfs s2 g H1 e1 => ?_⟩
  subst hv hu
  have ls : (digs β s).length ≤ 100000 := Nat.le_trans (digs_le (n := s) b2 s2) (by decide)
  exact s_ret (ev_cutS (ev_digP b2 b10 (Nat.le_of_lt (Nat.lt_of_le_of_lt f1 hfs)) s2 (ev_baseF T.cl T.nB rfl (e1 _ _ hx)) (ev_var rfl)) (eo_some (ev_un (ev_var rfl) ru_neg)) eo_none ls) fun H2 e2 => g H2 (e1.trans e2)
theorem len_append (x y : Str) : (x ++ y).length = x.length + y.length := by
  rw [len_t, len_t, len_t, tl_append, List.length_append]
theorem cut_len (x : Str) (lo hi : Option Int) : (cutS x lo hi).length ≤ x.length := by
  rw [len_t (cutS x lo hi)]
  show (((x.cps.toList.drop _).take _).toArray).toList.length ≤ x.cps.size
  rw [List.length_take, List.length_drop, Array.length_toList]
  omega
theorem ok_callOf {f ft : Addr} {fd fd1 fd2 : FuncData} (F : Fun K "__call__" "Style.__call__" sCallOf f fd) (mT : Meth K C "tail" ft) (GT : FnOk P w K mg base (L2.CX P w) 8 ft fd1 ["self", "first", "second"] (spM K C ca fun β f s Ds => .str (tailD β f s Ds))) (bT : Binds K fd1 ["self", "first", "second"] [])
    (GD : FnOk P w K mg base (L2.CX P w) 8 fdg fd2 ["base", "number"] (spDigits K ca)) (bD : Binds K fd2 ["base", "number"] []) (T : TxM K mg fwr ffa fdg C) : FnOk P w K mg base (L2.CX P w) 9 f fd ["self", "first", "second"] (spM K C ca fun β f s Ds => .str (formD β f s Ds)) := by
  refine F.okX scCallOf (fun vs H Q E h => spM_len h) (fun cdv A outer s H vs Q E hr h => ?_)
  obtain ⟨x, β, Ds, v, u, b, c, rfl, ⟨dx, tr, hx, kr⟩, b2, b10, good, kb, kc, R⟩ := h
  refine ⟨_, pss_cons (ps_set (i := 3) scCallOf.nd rfl (.inl rfl) (pe_meth (pv 0) T.cl mT GT hr bT .nil (fun pins s H st e s' I c => passAt (takes_of rfl rfl rfl rfl) s pins H st e s' I c) (pa_cons (pv 1) (pa_cons (pv 2) pa_nil))))
    (pss_one (ps_ret (pe_op op_add_str (pe_op op_add_str (pe_callS GD hr (by rfl) T.digits T.kDg bD (fun σ => passAt (takes_of rfl rfl rfl rfl) σ) (pa_cons (pe_fld (pv 0) rfl) (pa_cons (pv 1) pa_nil))) pe_str) (pv 3)))), ?_⟩
  refine ⟨_, rfl, x, dx, _, rfl, hx, lk_none _ _ (by decide +kernel) (by decide +kernel), _, rfl, _, rfl, x, β, Ds, v, u, b, c, rfl, ⟨dx, tr, hx, kr⟩, b2, b10, good, kb, kc, R.map (Ex.refl H) fun f s hv hu f1 hfs s2 g H1 e1 => ?_⟩
  subst hv hu
  have lf : (digs β f).length ≤ 50000 := digs_le (n := f) b2 (Nat.lt_trans hfs s2)
  have ls : (tailD β f s Ds).length ≤ 50000 := Nat.le_trans (cut_len _ _ _) (digs_le (n := s) b2 s2)
  have one : ("-" : Str).length = 1 := by decide
  have f2 := Nat.lt_trans hfs s2
  clear R
  refine ev_digP b2 b10 f1 f2 (ev_baseF T.cl T.nB rfl (e1 _ _ hx)) (ev_var rfl) H1 (Ex.refl H1) _ fun H2 e2 => ⟨_, _, rfl, rfl, ?_, _, rfl, _, _, rfl, rfl, ?_, g H2 (e1.trans e2)⟩
  · clear f2 s2
    rw [sizeLine_eq, one]
    omega
  · clear f2 s2
    show (digs β f ++ "-").length + (tailD β f s Ds).length ≤ sizeLine
    rw [sizeLine_eq, len_append, one]
    omega
end
end Dt

/-! len(x), x of an own class with __len__. -/
namespace L2
open PySem PySem.Spec PyProof.Rows
section
variable {X : Cx} {k : Nat} {C g : Addr} {fd : FuncData} {ps : List Str} {sp : Sp}
theorem call_len_own (hs : PySem.W.findIn X.K (.ref C) "__len__" = some (some (.ref g))) (hf : PySem.W.isFn X.K (.ref g) = true) (F : FnOk X.prog X.w X.K X.mg X.base CX0 k g fd ps sp) (hr : Room (k + 1) X.A) (hb : Binds X.K fd ps []) :
    CallR X (.builtin "len") (fun xs H Q => ∃ a dx fs, xs = [.ref a] ∧ H a = some (.ins C dx fs) ∧ sp [.ref a] H (fun v H' => ∃ n : Nat, v = .int n ∧ n ≤ sizeLine ∧ Q (.int n) H') E0) := by
  intro pins s σ H xs us Q I r h
  obtain ⟨a, dx, fs, rfl, ha, h⟩ := h
  cases r with
  | cons r0 rr =>
    cases rr
    cases r0
    obtain ⟨mA, O, _⟩ := ins_get I.hok ha
    obtain ⟨od, J, _⟩ := O.look
    have hl : ([Value.ref a] ++ []).length = ps.length := by
      rw [← F.len _ _ _ _ h]
      rfl
    refine Calls.call_function_entry kind_len plain_len entry_len (args_len1 _) ?_
    unfold Builtin.«len»
    refine wpAny_bind (m := oneArg "len" _) (wpAny_pure ?_)
    refine wpAny_bind (m := callSpecial? (.ref a) (Str.ofString "__len__")) (PySem.W.special_fn I.kIn J hs (beq_iff_eq.mp hf) (wpAny_call (codeAny_mono (F.run X.A.in1 X.stack s H ⟨[.ref a], []⟩ [.ref a] [.ref a] _ E0 hr.in1 I.env0.in1 (by
      have := hb s [.ref a] I.kIn (by simpa using hl)
      simpa using this) (.cons rfl .nil) h) fun r s' hq => ?_)))
    cases r with
    | error er => exact False.elim hq
    | ok fl =>
      cases fl with
      | ret u =>
        obtain ⟨v, H', I3, rv, n, ev, hn, q3⟩ := I.after hq
        subst ev
        obtain ⟨t, rfl⟩ := rv
        refine wpAny_bind (wpAny_holding (wpAny_pure ?_))
        refine wpAny_bind (wpAny_letGo ?_)
        rw [sizeLine_eq] at hn
        show wpAny _ _ (if (n : Int) < 0 then _ else _) _ _ _
        rw [if_neg (by omega)]
        show wpAny _ _ (if (n : Int) ≥ 2 ^ 63 then _ else _) _ _ _
        rw [if_neg (by omega)]
        exact wpAny_bind (wpAny_mkInt (wpAny_pure ⟨_, rfl, ⟨.int n, H', I3.tok _, ⟨_, rfl⟩, q3⟩⟩))
      | next => exact False.elim hq
      | brk => exact False.elim hq
      | cont => exact False.elim hq
end
end L2

/-! Operators of an own class: ==, !=, [], in, + from the right; in, over a tuple of data. -/
namespace PySem.W
open PySem PySem.Calls PyProof.Rows Builtin
section
variable {prog : Program} {w : World} {A : Around} {E : Value → Shared → Prop} {s : Shared} {K : Frag} {x C L f : Addr} {h₀ : Heap} {m : Str → Option Value} {ox : Obj} {od : Option Obj} {b tb : Value}
theorem ono_call {Q : Value → Shared → Prop} (hu : A.in1.units < cLine) (X : K.In s.heap) (I : InstAt s.heap x ox C od) (hm : mroIn K C (.type "object") = some true) (hs : findIn K (.ref C) "__eq__" = some (some (.ref f))) (hf : isFn K (.ref f) = true)
    (h : wpAny (model prog w) A.in1 (call (.ref f) [.ref x, b]) (fun v s' => ∃ r, v = .bool r ∧ Q (.bool (!r)) s') E s) : wpAny (model prog w) A (call (.builtin "object.__ne__") [.ref x, b]) Q E s := by
  refine wpAny_call (codeAny_call_builtin F.cmp_object.ne.plain F.cmpEntry_ne (check_slot (i := "object.__ne__") (owner := "object") (n := "__ne__") (by decide +kernel) (by decide +kernel) (I.type.andThen (looks_mroIn X hm)) (F.cmpArgs_ne _ _) ?_))
  unfold Builtin.«object.__ne__»
  refine wpAny_bind (m := slotArgs "__ne__" 1 _) (wpAny_pure ?_)
  refine wpAny_bind (m := cRoomFor _ _) (wpAny_cRoomFor hu ?_)
  refine wpAny_bind (m := callSpecialIfBound? (.ref x) (Str.ofString "__eq__") _) (ifBound_K X I hs hf (wpAny_mono h (fun r s' hq => ?_) fun _ _ y => y))
  obtain ⟨r, rfl, hq⟩ := hq
  exact wpAny_bind (wpAny_truthy_bool (wpAny_pure hq))
theorem ifBound_B {M : Model} {name : Str} {id : String} {args : List Value} {Q : Option Value → Shared → Prop} (X : K.In s.heap) (I : InstAt s.heap x ox C od) (hs : findIn K (.ref C) name = some (some (.builtin id))) (hb : ∀ self, bindSpecial (.builtin id) self = pure (.builtin id, [self]))
    (h : wpAny M A (call (.builtin id) (.ref x :: args)) (fun v => Q (some v)) E s) : wpAny M A (callSpecialIfBound? (.ref x) name args) Q E s := by
  simp only [callSpecialIfBound?, bindSpecialIfBound?]
  refine wpAny_holding (wpAny_bind (wpAny_bind (wpAny_bind (I.type.here ((looks_findIn X hs).here ?_)))))
  refine wpAny_bind (wpAny_askSetting (wpAny_ite ?_))
  have fin : wpAny M A (call (.builtin id) ([.ref x] ++ args) >>= fun v => pure (some v)) Q E s := wpAny_bind (wpAny_mono h (fun v s' h' => wpAny_pure h') fun _ _ h' => h')
  split
  · exact wpAny_bind ((Looks.of_pure (hb _)).here (wpAny_pure (by exact fin)))
  · exact wpAny_tryCatch (wpAny_bind ((Looks.of_pure (hb _)).here (wpAny_pure (by exact fin))))
theorem ne_K {Q : Value → Shared → Prop} (hu : A.in1.units < cLine) (hu0 : A.units < cLine) (F₀ : Fr h₀ L s.heap m) (X₀ : K.In h₀) (I : InstAt s.heap x ox C od) (hb : Looks (model prog w) s.heap (typeOf b) tb) (hn : notFirst K C tb = true)
    (hne : findIn K (.ref C) "__ne__" = some (some (.builtin "object.__ne__"))) (hm : mroIn K C (.type "object") = some true) (hs : findIn K (.ref C) "__eq__" = some (some (.ref f))) (hf : isFn K (.ref f) = true)
    (h : wpAny (model prog w) A.in1 (call (.ref f) [.ref x, b]) (fun v s' => ∃ r, v = .bool r ∧ Q (.bool (!r)) s') E s) : wpAny (model prog w) A (richCompare .NotEq (.ref x) b) Q E s := by
  have X := X₀.keeps F₀.keep
  have one : wpAny (model prog w) A (tryCompare (.ref x) "__ne__" b) (fun r s' => ∃ v, r = some v ∧ Q v s') E s := by
    unfold tryCompare
    refine wpAny_bind (ifBound_B X I hne F.cmp_object.ne.bind (ono_call hu X I hm hs hf (wpAny_mono h (fun v s' hv => ?_) fun _ _ e => e)))
    obtain ⟨r, rfl, hq⟩ := hv
    exact ⟨r, rfl, wpAny_pure ⟨_, rfl, hq⟩⟩
  unfold richCompare
  simp only [oneThing_ref]
  refine wpAny_holding (wpAny_bind (wpAny_cRoomFor hu0 ?_))
  refine wpAny_bind (I.type.here (wpAny_bind (hb.here ?_)))
  split
  · rename_i q
    have e : subIn K tb (.ref C) = some false := by
      rcases Bool.or_eq_true_iff.mp hn with e | e
      · rw [beq_iff_eq.mp e] at q; simp at q
      · exact beq_iff_eq.mp e
    refine wpAny_bind ((looks_subIn X e).here ?_)
    simp only [Bool.false_eq_true, if_false]
    refine wpAny_bind (wpAny_mono one (fun r s' z => ?_) fun _ _ e => e)
    obtain ⟨v, rfl, hq⟩ := z
    exact wpAny_pure hq
  · refine wpAny_bind (wpAny_pure ?_)
    simp only [Bool.false_eq_true, if_false]
    refine wpAny_bind (wpAny_mono one (fun r s' z => ?_) fun _ _ e => e)
    obtain ⟨v, rfl, hq⟩ := z
    exact wpAny_pure hq
theorem fills_R {M : Model} {h : Heap} {nm : String} {cd : ClassData} {rest : List Value} (X : K.In h) (hc : clsIn K C = some cd) (hm : cd.mro = .ref C :: rest) (h0 : findIn K (.ref C) (PySem.dunder nm) = some none) (hs : findIn K (.ref C) (dunderR nm) = some (some (.ref f))) : Looks M h (fillsNumberSlot (.ref C) nm) true := by
  intro A Q E s k q
  unfold fillsNumberSlot
  refine wpAny_bind ((looks_clsIn X hc).andThen (f := fun cd => pure cd.mro) .now A _ E s k ?_)
  rw [hm, List.anyM_cons]
  refine wpAny_bind ?_
  show wpAny M A (List.anyM _ [PySem.dunder nm, dunderR nm]) _ _ _
  rw [List.anyM_cons]
  refine wpAny_bind (wpAny_bind (looks_findIn X h0 A _ E s k ?_))
  dsimp only
  refine wpAny_pure ?_
  rw [if_neg (by decide)]
  rw [List.anyM_cons]
  refine wpAny_bind (wpAny_bind (looks_findIn X hs A _ E s k ?_))
  dsimp only
  rw [if_pos (show (!ownNameWrapper (.ref f) (dunderR nm)) = true from rfl)]
  refine wpAny_pure ?_
  rw [if_pos rfl]
  refine wpAny_pure ?_
  rw [if_pos rfl]
  exact wpAny_pure q
theorem radd_K {a : Value} {fo : Option Value} {Q : Value → Shared → Prop} (F₀ : Fr h₀ L s.heap m) (X₀ : K.In h₀) (I : InstAt s.heap x ox C od) (ha : Looks (model prog w) s.heap (typeOf a) (.type "tuple")) (hc : selfFirst K C = true)
    (h0 : findIn K (.ref C) "__add__" = some none) (hs : findIn K (.ref C) "__radd__" = some (some (.ref f))) (hf : isFn K (.ref f) = true)
    (h1 : findIn K (.type "tuple") "__add__" = some fo) (hsq : isSeqSlot fo = true) (h2 : findIn K (.type "tuple") "__radd__" = some none)
    (h : wpAny (model prog w) A (call (.ref f) [.ref x, a]) (CmpBack Q) E s) : wpAny (model prog w) A (binaryOp .Add a (.ref x)) Q E s := by
  have X := X₀.keeps F₀.keep
  obtain ⟨cd, rest, hcd, hm⟩ := ksp_first hc
  have one := ksp_try X I hs hf h
  obtain ⟨hh, g, d, tt, os⟩ := s
  have L1 : Looks (model prog w) hh (typeOf (.ref x)) (.ref C) := I.type
  have L2 : Looks (model prog w) hh (typeOf a) (.type "tuple") := ha
  have L3 : Looks (model prog w) hh (fillsNumberSlot (.ref C) "add") true := fills_R (nm := "add") X hcd hm h0 hs
  have L4 : Looks (model prog w) hh (fillsNumberSlot (.type "tuple") "add") false := by
    have := ksp_fillsT (M := model prog w) (nm := "add") X h1 h2
    rw [hsq] at this
    simpa [isSeqSlot] using this
  have hne : (Value.type "tuple" == Value.ref C) = false := Bool.eq_false_iff.mpr fun q => by cases beq_iff_eq.mp q
  simp only [binaryOp, Operator.info]
  refine wpAny_holding (wpAny_bind ?_)
  unfold binaryOp1
  refine wpAny_bind (L2.at (wpAny_bind (L1.at (wpAny_bind (L4.at ?_)))))
  simp only [hne, Bool.false_eq_true, if_false]
  ksp_lk
  refine wpAny_mono one (fun r s' hr' => ?_) fun _ _ e => e
  obtain ⟨v, rfl, hq⟩ := hr'
  ksp_lk
  exact hq
end
end PySem.W
namespace L2
open PySem PySem.Spec PyProof.Rows SlX
section
variable {X : Cx} {CX : CXT} {k : Nat} {C g : Addr} {sp : Sp} {E : XK} {pins : List (Addr × Obj)} {σ : St} {H : Hp} {s : Shared}
theorem looks_ty {y : V} {u t : Value} (I : Inv X pins σ H s) (ry : RelV y u) (ty : TyX X.K H y t) : PySem.W.Looks (model X.prog X.w) s.heap (typeOf u) t := by
  obtain ⟨P, Z, hP, _⟩ := kit_of I ry ty
  exact Z.ty _ _ I.kIn hP
/-- what the own class has for its operators -/
structure OpsC (K : PySem.W.Frag) (C : Addr) : Prop where
  ne : PySem.W.findIn K (.ref C) "__ne__" = some (some (.builtin "object.__ne__"))
  mo : PySem.W.mroIn K C (.type "object") = some true
/-- x == y -/
def rEqOwn (K : PySem.W.Frag) (C : Addr) (sp : Sp) (E : XK) : R2 := fun x y H Q => ∃ a dx fs t, x = .ref a ∧ H a = some (.ins C dx fs) ∧ TyX K H y t ∧ PySem.W.notFirst K C t = true ∧ sp [x, y] H Q E
theorem op_eqOwn (hs : PySem.W.findIn X.K (.ref C) "__eq__" = some (some (.ref g))) (hf : PySem.W.isFn X.K (.ref g) = true) (F : FnR X.prog X.w X.K X.mg X.base CX k g sp) (hr : Room k X.A) (hx : Passes CX X E) : OpR X (compareOp .Eq) (rEqOwn X.K C sp E) := by
  intro pins s σ H x y v u Q I rx ry h
  obtain ⟨a, dx, fs, t, rfl, ha, ty, hn, q⟩ := h
  cases (show v = Value.ref a from rx)
  obtain ⟨mA, O, _⟩ := ins_get I.hok ha
  obtain ⟨od, J, _⟩ := O.look
  obtain ⟨m, hF⟩ := I.fr
  show wpAny _ _ (richCompare .Eq _ _) _ _ _
  refine PySem.W.cmp_K (op := .Eq) hr.units0 hF I.ok.mod.kin J (looks_ty I ry ty) hn hs hf ?_
  refine wpAny_mono (wpAny_call (run_fnR (us := [.ref a, u]) (vs := [.ref a, y]) F hr hx I (.cons rfl (.cons ry .nil)) q)) (fun w s' z => ?_) fun _ _ x => x
  obtain ⟨z', H', I', rz, qz⟩ := z
  exact cmpback rz ⟨z', H', I', rz, qz⟩
/-- x != y -/
def rNeOwn (K : PySem.W.Frag) (C : Addr) (sp : Sp) (E : XK) : R2 := fun x y H Q => ∃ a dx fs t, x = .ref a ∧ H a = some (.ins C dx fs) ∧ TyX K H y t ∧ PySem.W.notFirst K C t = true ∧ sp [x, y] H (fun v H' => ∃ r, v = .bl r ∧ Q (.bl (!r)) H') E
theorem op_neOwn (oc : OpsC X.K C) (hs : PySem.W.findIn X.K (.ref C) "__eq__" = some (some (.ref g))) (hf : PySem.W.isFn X.K (.ref g) = true) (F : FnR X.prog X.w X.K X.mg X.base CX k g sp) (hr : Room (k + 1) X.A) (hx : Passes CX X E) : OpR X (compareOp .NotEq) (rNeOwn X.K C sp E) := by
  intro pins s σ H x y v u Q I rx ry h
  obtain ⟨a, dx, fs, t, rfl, ha, ty, hn, q⟩ := h
  cases (show v = Value.ref a from rx)
  obtain ⟨mA, O, _⟩ := ins_get I.hok ha
  obtain ⟨od, J, _⟩ := O.look
  obtain ⟨m, hF⟩ := I.fr
  show wpAny _ _ (richCompare .NotEq _ _) _ _ _
  refine PySem.W.ne_K hr.in1.units0 hr.units0 hF I.ok.mod.kin J (looks_ty I ry ty) hn oc.ne oc.mo hs hf ?_
  refine wpAny_mono (wpAny_call (run_at (us := [.ref a, u]) (ws := [.ref a, y]) F hr.in1 I.env0.in1 hx I (.cons rfl (.cons ry .nil)) q)) (fun w s' z => ?_) fun _ _ x => x
  obtain ⟨z', H', I', rz, r, ez, qz⟩ := z
  subst ez
  cases (show w = Value.bool r from rz)
  exact ⟨r, rfl, .bl (!r), H', I', rfl, qz⟩
/-- x in y, y of an own class -/
def rInOwn (C : Addr) (sp : Sp) (E : XK) : R2 := fun x y H Q => ∃ a dx fs, y = .ref a ∧ H a = some (.ins C dx fs) ∧ sp [y, x] H (fun v H' => ∃ r, v = .bl r ∧ Q (.bl r) H') E
theorem op_inOwn (hs : PySem.W.findIn X.K (.ref C) "__contains__" = some (some (.ref g))) (hf : PySem.W.isFn X.K (.ref g) = true) (F : FnR X.prog X.w X.K X.mg X.base CX k g sp) (hr : Room k X.A) (hx : Passes CX X E) : OpR X (compareOp .In) (rInOwn C sp E) := by
  intro pins s σ H x y v u Q I rx ry h
  obtain ⟨a, dx, fs, rfl, ha, q⟩ := h
  cases (show u = Value.ref a from ry)
  obtain ⟨mA, O, _⟩ := ins_get I.hok ha
  obtain ⟨od, J, _⟩ := O.look
  obtain ⟨m, hF⟩ := I.fr
  refine PySem.W.in_K hF I.ok.mod.kin J hs hf ?_
  refine wpAny_mono (wpAny_call (run_fnR (us := [.ref a, v]) (vs := [.ref a, x]) F hr hx I (.cons rfl (.cons rx .nil)) q)) (fun w s' z => ?_) fun _ _ x => x
  obtain ⟨z', H', I', rz, r, ez, qz⟩ := z
  subst ez
  cases (show w = Value.bool r from rz)
  exact wpAny_truthy_bool ⟨.bl r, H', I', rfl, qz⟩
/-- x[i], x of an own class -/
def rIxOwn (C : Addr) (sp : Sp) (E : XK) : R2 := fun x y H Q => ∃ a dx fs, x = .ref a ∧ H a = some (.ins C dx fs) ∧ sp [x, y] H Q E
theorem pe_ixOwn {a b : Expr} {ta tb : TE} {pos : Pos} (hs : PySem.W.findIn X.K (.ref C) "__getitem__" = some (some (.ref g))) (hk : PySem.W.fnIn X.K g = true) (hf : PySem.W.isFn X.K (.ref g) = true) (F : FnR X.prog X.w X.K X.mg X.base CX k g sp) (hr : Room (k + 1) X.A) (hx : Passes CX X E)
    (ha : PE X a ta) (hb : PE X b tb) (hsl : ∀ v u, subscripted b true v u = runValue (.builtin "lifetime.subscript" ⟨[v, u], []⟩)) : PE X (.Subscript a b pos) (tOp (rIxOwn C sp E) ta tb) := by
  refine ⟨fun pins s σ H Q I h => ?_⟩
  refine Subscript_ (binT ha hb I h fun v u s2 x y H2 I2 rx ry q => ?_)
  obtain ⟨a1, dx, fs, rfl, ha1, q⟩ := q
  cases (show v = Value.ref a1 from rx)
  obtain ⟨mA, O, _⟩ := ins_get I2.hok ha1
  obtain ⟨od, J, _⟩ := O.look
  obtain ⟨m, hF⟩ := I2.fr
  exact PySem.W.sub_K hF I2.ok.mod.kin J hs hk hf (wpAny_call (run_at (us := [.ref a1, u]) (ws := [.ref a1, y]) F hr.in1 I2.env0.in1 hx I2 (.cons rfl (.cons ry .nil)) q)) (hsl _ _)
/-- t + x, t a tuple, x of an own class -/
def rAddOwn (K : PySem.W.Frag) (C : Addr) (sp : Sp) (E : XK) : R2 := fun x y H Q => ∃ a dx fs, y = .ref a ∧ H a = some (.ins C dx fs) ∧ TyX K H x (.type "tuple") ∧ sp [y, x] H Q E
structure RaddC (K : PySem.W.Frag) (C g : Addr) : Prop where
  sf : PySem.W.selfFirst K C = true
  a0 : PySem.W.findIn K (.ref C) "__add__" = some none
  ra : PySem.W.findIn K (.ref C) "__radd__" = some (some (.ref g))
  fn : PySem.W.isFn K (.ref g) = true
  t1 : PySem.W.findIn K (.type "tuple") "__add__" = some (some (.builtin "tuple.__add__"))
  t2 : PySem.W.findIn K (.type "tuple") "__radd__" = some none
theorem op_addOwn (rc : RaddC X.K C g) (F : FnR X.prog X.w X.K X.mg X.base CX k g sp) (hr : Room k X.A) (hx : Passes CX X E) : OpR X (binaryOp .Add) (rAddOwn X.K C sp E) := by
  intro pins s σ H x y v u Q I rx ry h
  obtain ⟨a, dx, fs, rfl, ha, ty, q⟩ := h
  cases (show u = Value.ref a from ry)
  obtain ⟨mA, O, _⟩ := ins_get I.hok ha
  obtain ⟨od, J, _⟩ := O.look
  obtain ⟨m, hF⟩ := I.fr
  refine PySem.W.radd_K hF I.ok.mod.kin J (looks_ty I rx ty) rc.sf rc.a0 rc.ra rc.fn rc.t1 (by decide +kernel) rc.t2 ?_
  refine wpAny_mono (wpAny_call (run_fnR (us := [.ref a, v]) (vs := [.ref a, x]) F hr hx I (.cons rfl (.cons rx .nil)) q)) (fun w s' z => ?_) fun _ _ x => x
  obtain ⟨z', H', I', rz, qz⟩ := z
  exact cmpback rz ⟨z', H', I', rz, qz⟩
/-- x in t, t a tuple of data -/
def rInDT (K : PySem.W.Frag) : R2 := fun x y H Q => ∃ d p xs es, y = .ref p ∧ Dp K H x d ∧ SqT K H p xs ∧ DpAll K H xs es ∧ SeqAt.shaped d = true ∧ (∀ e ∈ es, SeqAt.shaped e = true) ∧ Q (.bl (es.any fun e => PyData.eqv e d)) H
theorem room_data {A : Around} {d e : PyData} (h : SeqAt.shaped d = true) (hu : A.units + 65 < cLine) : A.in1.units + min d.depth e.depth < cLine := by
  have h1 := SeqAt.depth_of_shaped h
  have h2 : min d.depth e.depth ≤ d.depth := Nat.min_le_left _ _
  have h3 : A.in1.units ≤ A.units + 1 := by
    show A.units + 1 ≤ A.units + 1
    exact Nat.le_refl _
  omega
end
section
variable {X : Cx} {pins : List (Addr × Obj)} {σ : St} {H : Hp} {s : Shared}
theorem dp_at : ∀ {xs : List V} {us : List Value} {es : List PyData}, Vals xs us → DpAll X.K H xs es → us.length = es.length ∧ ∀ (j : Nat) (u : Value) (e : PyData), us[j]? = some u → es[j]? = some e → ∃ x, RelV x u ∧ Dp X.K H x e
  | _, _, _, .nil, .nil => ⟨rfl, fun j u e h => by simp at h⟩
  | _, _, _, .cons r t, .cons d t' => by
    obtain ⟨hl, hj⟩ := dp_at t t'
    refine ⟨by simp [hl], fun j u e h1 h2 => ?_⟩
    cases j with
    | zero =>
      simp at h1 h2
      subst h1 h2
      exact ⟨_, r, d⟩
    | succ j =>
      simp at h1 h2
      exact hj j u e h1 h2
open Classical in
theorem op_inDT (hu : X.A.units + 65 < cLine) : OpR X (compareOp .In) (rInDT X.K) := by
  intro pins s σ H x y v u Q I rx ry h
  obtain ⟨d, p, xs, es, rfl, hd, hq, hes, sd, ses, q⟩ := h
  cases ry
  obtain ⟨its, r, pl, hz⟩ := I.tuple hq
  obtain ⟨as, rd⟩ := Dp.reads I d x v hd rx
  obtain ⟨hl, hj⟩ := dp_at (H := H) (X := X) r hes
  have one : ∀ (j : Nat) (w : Value) (e : PyData), its[j]? = some w → es[j]? = some e → SeqAt.EqAt X.A.in1 s w v (PyData.eqv e d) := fun j w e h1 h2 => by
    obtain ⟨z, rz, dz⟩ := hj j w e h1 h2
    obtain ⟨bs, re⟩ := Dp.reads I e z w dz rz
    have se := ses e (List.mem_of_getElem? h2)
    exact SeqAt.eqAt_reads e d X.A.in1 s w v bs as re rd (SeqAt.canLay_of_shaped se) (SeqAt.canLay_of_shaped sd) (room_data se hu)
  refine SeqAt.in_tupleAt (fun w => decide (∃ (j : Nat) (e : PyData), its[j]? = some w ∧ es[j]? = some e ∧ PyData.eqv e d = true)) pl (fun w hw => ?_) ⟨.bl _, H, I, rfl, ?_⟩
  · obtain ⟨j, hj1, hjw⟩ := List.getElem_of_mem (by simpa using hw : w ∈ its)
    have h1 : its[j]? = some w := by rw [List.getElem?_eq_getElem hj1, hjw]
    obtain ⟨e, h2⟩ : ∃ e, es[j]? = some e := ⟨_, List.getElem?_eq_getElem (hl ▸ hj1)⟩
    by_cases hx : ∃ (j : Nat) (e : PyData), its[j]? = some w ∧ es[j]? = some e ∧ PyData.eqv e d = true
    · rw [decide_eq_true hx]
      obtain ⟨j', e', a1, a2, a3⟩ := hx
      rw [← a3]
      exact one j' w e' a1 a2
    · rw [decide_eq_false hx]
      have : PyData.eqv e d = false := by
        cases hz : PyData.eqv e d with
        | false => rfl
        | true => exact absurd ⟨j, e, h1, h2, hz⟩ hx
      rw [← this]
      exact one j w e h1 h2
  · have : (its.toArray.any fun w => decide (∃ (j : Nat) (e : PyData), its[j]? = some w ∧ es[j]? = some e ∧ PyData.eqv e d = true)) = es.any fun e => PyData.eqv e d := by
      rw [Bool.eq_iff_iff]
      simp only [List.any_toArray, List.any_eq_true, decide_eq_true_eq]
      constructor
      · rintro ⟨w, _, j, e, _, h2, h3⟩
        exact ⟨e, List.mem_of_getElem? h2, h3⟩
      · rintro ⟨e, he, h3⟩
        obtain ⟨j, hj1, hje⟩ := List.getElem_of_mem he
        have h2 : es[j]? = some e := by rw [List.getElem?_eq_getElem hj1, hje]
        have hj2 : j < its.length := hl ▸ hj1
        exact ⟨its[j], List.getElem_mem hj2, j, e, List.getElem?_eq_getElem hj2, h2, h3⟩
    rw [this]
    exact q
end
end L2

/-! k07: a style as an object: its own methods. -/
namespace Dt
open PySem L2 Evl Dg LamR LamX StX ClX
open Dr (StAt SameB)
abbrev sPlace : Stmt := top 43
abbrev sGetI : Stmt := inClass clStyle 9
abbrev sContI : Stmt := inClass clStyle 11
abbrev sEqI : Stmt := inClass clStyle 12
abbrev sRaddI : Stmt := inClass clStyle 13
abbrev sWoI : Stmt := inClass clStyle 14
/-- an integer from 0 to below n -/
def plB (n : Nat) : PyData → Bool
  | .int i => decide (0 ≤ i) && decide (i < (n : Int))
  | _ => false
theorem pl_inv {n : Nat} {d : PyData} (h : plB n d = true) : ∃ j : Nat, d = .int (j : Int) ∧ j < n := by
  cases d with
  | int i =>
    unfold plB at h
    rw [Bool.and_eq_true] at h
    have h1 := of_decide_eq_true h.1
    have h2 := of_decide_eq_true h.2
    exact ⟨i.toNat, by rw [show ((i.toNat : Nat) : Int) = i by omega], by omega⟩
  | _ => cases h
theorem pl_of {n j : Nat} (h : j < n) : plB n (.int (j : Int)) = true := by
  unfold plB
  rw [Bool.and_eq_true]
  exact ⟨decide_eq_true (by omega), decide_eq_true (by omega)⟩
theorem ev_chL {σ : St} {H : Hp} {ta tb tc : TE} {a b c : Int} (ha : Ev ta σ H (.int a)) (hb : Ev tb σ H (.int b)) (hc : Ev tc σ H (.int c)) :
    Ev (tChain (rI0 fun i j => .bl (decide (i ≤ j))) (rI0 fun i j => .bl (decide (i < j))) ta tb tc) σ H (.bl (decide (a ≤ b) && decide (b < c))) := fun H1 e Q q =>
  ha H1 e _ fun H2 e2 => hb H2 (e.trans e2) _ fun H3 e3 => ⟨a, b, rfl, rfl, _, rfl, by
    by_cases h : a ≤ b
    · rw [if_pos (decide_eq_true h)]
      exact hc H3 ((e.trans e2).trans e3) _ fun H4 e4 => ⟨b, c, rfl, rfl, by
        have z := q H4 ((e2.trans e3).trans e4)
        rw [decide_eq_true h, Bool.true_and] at z
        exact z⟩
    · rw [if_neg (by simpa using h)]
      have z := q H3 (e2.trans e3)
      rw [decide_eq_false h, Bool.false_and] at z
      exact z⟩
structure TxN (K : PySem.W.Frag) (mg : Str → Option Value) (fi frl fpc C : Addr) (ca : Nat → Addr) : Prop where
  isInt : mg "is_integer" = some (.ref fi)
  kInt : PySem.W.keepIn K (.ref fi) = true
  rule : mg "is_rule" = some (.ref frl)
  kRl : PySem.W.keepIn K (.ref frl) = true
  place : mg "need_place" = some (.ref fpc)
  kPc : PySem.W.keepIn K (.ref fpc) = true
  badNum : mg "BadNumber" = some (.ref (ca 2))
  badRule : mg "BadRule" = some (.ref (ca 5))
  style : mg "Style" = some (.ref C)
  len : mg "len" = none
  isi : mg "isinstance" = none
  tuple : mg "tuple" = none
  list : mg "list" = none
  sup : mg "super" = none
  cl : Cls K C
  nB : NoAttr K C "stored_base"
  nR : NoAttr K C "stored_rules"
section
variable {P : Program} {w : World} {K : PySem.W.Frag} {mg : Str → Option Value} {base : Heap} {ca : Nat → Addr} {fi frl fpc C : Addr}
def spPlace (ca : Nat → Addr) : Sp := fun vs H Q E => ∃ (v : V) (n : Nat) (d : PyData), vs = [v, .int (n : Int)] ∧ Pt H v d ∧ (plB n d = true → RetV .non H Q) ∧ (plB n d = false → Leaves (ca 2) "value" v H E)
theorem scPlace : FnScope ["number", "many"] ["number", "many"] (defScope sPlace) := ⟨rfl, rfl, rfl, by decide +kernel, rfl, by decide +kernel, by decide +kernel⟩
theorem ok_place {f : Addr} {fd fdi : FuncData} (F : Fun K "need_place" "need_place" sPlace f fd) (GI : FnOk P w K mg base CX0 1 fi fdi ["value"] (spIsInt K)) (bI : Binds K fdi ["value"] []) (M : Mks P K mg (ca 2) ["value"]) (T : TxN K mg fi frl fpc C ca) :
    FnOk P w K mg base (L2.CX P w) 2 f fd ["number", "many"] (spPlace ca) := by
  refine F.okX scPlace (fun vs H Q E h => ?_) (fun cdv A outer s H vs Q E hr h => ?_)
  · obtain ⟨v, n, d, rfl, _⟩ := h
    rfl
  · obtain ⟨v, n, d, rfl, k, q, l⟩ := h
    refine ⟨_, pss_one (ps_if (PW.pt (pw_or (pt_not (pt_val (pe_call GI hr (by rfl) T.isInt T.kInt bI .nil pass0 (pa_cons (pv 0) pa_nil)))) (pw_or1 (pt_not (pt_chain op_le op_lt pe_int (pv 0) (pv 1))))))
      (pss_one (ps_raise rfl (takes_of rfl rfl rfl rfl) (pmk_mks M T.sup hr (by simp) (pa_cons (pv 0) pa_nil) (by rfl) T.badNum))) pss_nil), ?_⟩
    have kn : Kn K H v (isI d) := k.kn
    cases hd : isI d with
    | true =>
      cases k with
      | int i =>
        refine s_when (b := !plB n (.int i)) (et_is (et_or (et_not (et_B (ev_callI (ev_var rfl) (.int i)))) fun _ => et_not (et_test (ev_chL ev_c (ev_var rfl) (ev_var rfl)))) (by
          show (!true || !(decide (0 ≤ i) && decide (i < (n : Int)))) = _
          simp [plB])) (fun z H1 e => ?_) (fun z H1 e => q (by simpa using z) H1 e)
        exact ⟨_, rfl, rfl, fun d' hd' => (l (by simpa using z)).go e H1 d' (Ex.refl _) hd'⟩
      | _ => cases hd
    | false =>
      rw [hd] at kn
      have hp : plB n d = false := by
        cases d <;> first | rfl | cases hd
      refine s_when (b := true) (et_is (et_or (b := true) (et_not (et_B (ev_callI (ev_var rfl) kn))) fun z => nomatch z) (by simp)) (fun z H1 e => ?_) (fun z => nomatch z)
      exact ⟨_, rfl, rfl, fun d' hd' => (l hp).go e H1 d' (Ex.refl _) hd'⟩
/-- style[number] -/
def spGetI (C : Addr) (ca : Nat → Addr) : Sp := fun vs H Q E => ∃ (x dx t : Addr) (v b : V) (rs : List V) (d : PyData), vs = [.ref x, v] ∧ H x = some (.ins C dx [("stored_base", b), ("stored_rules", .ref t)]) ∧ H t = some (.tup rs) ∧ Pt H v d ∧
  (∀ (j : Nat) (u : V), d = .int (j : Int) → rs[j]? = some u → RetV u H Q) ∧ (plB rs.length d = false → Leaves (ca 2) "value" v H E)
theorem scGetI : FnScope ["self", "number"] ["self", "number"] (defScope sGetI) := ⟨rfl, rfl, rfl, by decide +kernel, rfl, by decide +kernel, by decide +kernel⟩
theorem ok_getI {f : Addr} {fd fdp : FuncData} (F : Fun K "__getitem__" "Style.__getitem__" sGetI f fd) (GP : FnOk P w K mg base (L2.CX P w) 2 fpc fdp ["number", "many"] (spPlace ca)) (bP : Binds K fdp ["number", "many"] []) (T : TxN K mg fi frl fpc C ca) :
    FnOk P w K mg base (L2.CX P w) 3 f fd ["self", "number"] (spGetI C ca) := by
  refine F.okX scGetI (fun vs H Q E h => ?_) (fun cdv A outer s H vs Q E hr h => ?_)
  · obtain ⟨x, dx, t, v, b, rs, d, rfl, _⟩ := h
    rfl
  · obtain ⟨x, dx, t, v, b, rs, d, rfl, hx, hrs, kv, q, l⟩ := h
    refine ⟨_, pss_cons (ps_expr (pe_callS GP hr (by rfl) T.place T.kPc bP (fun σ => passAt (takes_of rfl rfl rfl rfl) σ) (pa_cons (pv 1) (pa_cons (pe_callB call_len_seq (by rfl) T.len (by decide +kernel) (pa_cons (pe_fld (pv 0) rfl) pa_nil)) pa_nil))))
      (pss_one (ps_ret (pe_ix ix_tup (pe_fld (pv 0) rfl) (pv 1) (fun _ _ => rfl)))), ?_⟩
    refine ⟨_, rfl, _, rfl, x, C, dx, _, .ref t, rfl, hx, T.cl, T.nR, lk_rules _ _, t, rs, rfl, .inr (st_of hrs), v, rs.length, d, rfl, kv, fun hp H1 e1 => ?_, fun hp => l hp⟩
    obtain ⟨j, rfl, hj⟩ := pl_inv hp
    obtain ⟨u, hu⟩ : ∃ u, rs[j]? = some u := ⟨_, List.getElem?_eq_getElem hj⟩
    cases kv
    exact ⟨_, rfl, x, C, dx, _, .ref t, rfl, e1 _ _ hx, T.cl, T.nR, lk_rules _ _, _, rfl, t, rs, _, u, rfl, rfl, st_of (e1 _ _ hrs), atI_nat hu, q j u rfl hu H1 e1⟩
/-- a style as it stands -/
structure StyG (H : Hp) (C x : Addr) (β : Nat) (Ds : List PyData) : Prop where
  a : StyAt H C x β Ds
  b2 : 2 ≤ β
  b10 : β ≤ 10
  due : dueD β Ds = none
theorem StyG.ex {H H' : Hp} {x : Addr} {β : Nat} {Ds : List PyData} (h : StyG H C x β Ds) (e : Ex H H') : StyG H' C x β Ds := ⟨h.a.ex e, h.b2, h.b10, h.due⟩
theorem StyG.extN {H H' : Hp} {x : Addr} {β : Nat} {Ds : List PyData} (h : StyG H C x β Ds) (e : ExtN H H') : StyG H' C x β Ds := ⟨h.a.extN e, h.b2, h.b10, h.due⟩
theorem StyG.all {H : Hp} {x : Addr} {β : Nat} {Ds : List PyData} (h : StyG H C x β Ds) : Ds.all (ruleB β) = true := (due_none h.due).2.1
theorem StyG.len {H : Hp} {x : Addr} {β : Nat} {Ds : List PyData} (h : StyG H C x β Ds) : 1 ≤ Ds.length ∧ Ds.length ≤ 8 := (due_none h.due).1
theorem StyG.same {H H' : Hp} {p c l : Addr} {n : Nat} {a : Int} {x : Addr} {β : Nat} {Ds : List PyData} (S : StAt H p c l n a) (h : StyG H C x β Ds) (e : SameB H H' p l) : StyG H' C x β Ds := ⟨h.a.same S e (rules_noL h.all), h.b2, h.b10, h.due⟩
theorem rules_noK {β : Nat} {Ds : List PyData} (h : Ds.all (ruleB β) = true) : noK (.tuple Ds) = true := by
  rw [noK]
  exact noLs_K (rules_noL h)
theorem rules_shaped {β : Nat} {Ds : List PyData} (b10 : β ≤ 10) (h : Ds.all (ruleB β) = true) (hl : Ds.length ≤ 20) : SeqAt.shaped (.tuple Ds) = true := (ts_rules b10 h hl).shaped (by decide)
theorem rule_noK {β : Nat} {d : PyData} (h : ruleB β d = true) : noK d = true := noL_K (rule_noL h)
/-- value in style -/
def spContI (C : Addr) : Sp := fun vs H Q _ => ∃ (x : Addr) (v : V) (β : Nat) (Ds : List PyData) (d : PyData), vs = [.ref x, v] ∧ StyG H C x β Ds ∧ Pt H v d ∧ RetV (.bl (ruleB β d && Ds.any fun e => PyData.eqv e d)) H Q
theorem scContI : FnScope ["self", "value"] ["self", "value"] (defScope sContI) := ⟨rfl, rfl, rfl, by decide +kernel, rfl, by decide +kernel, by decide +kernel⟩
theorem ok_contI {f : Addr} {fd fdr : FuncData} (F : Fun K "__contains__" "Style.__contains__" sContI f fd) (GR : FnOk P w K mg base (L2.CX P w) 5 frl fdr ["base", "value"] (spRule K ca)) (bR : Binds K fdr ["base", "value"] []) (T : TxN K mg fi frl fpc C ca) :
    FnOk P w K mg base (L2.CX P w) 6 f fd ["self", "value"] (spContI C) := by
  refine F.okX scContI (fun vs H Q E h => ?_) (fun cdv A outer s H vs Q E hr h => ?_)
  · obtain ⟨x, v, β, Ds, d, rfl, _⟩ := h
    rfl
  · obtain ⟨x, v, β, Ds, d, rfl, SG, kv, q⟩ := h
    obtain ⟨dx, t, hx, kt⟩ := SG.a
    obtain ⟨t', rs, e, hrs, ka⟩ := kt.tupI'
    cases e
    have hu65 : (A.deeper (PyProof.Rows.envOfC "Style.__contains__" (defScope sContI) s.heap.objs.size f cdv)).units + 65 < cLine := by have := hr.un; omega
    refine ⟨_, pss_one (ps_ret (pe_and (pe_callS GR hr (by rfl) T.rule T.kRl bR (fun σ => passAt (takes_of rfl rfl rfl rfl) σ) (pa_cons (pe_fld (pv 0) rfl) (pa_cons (pv 1) pa_nil))) (pe_one (pe_cmpR (op_inDT hu65) (pv 1) (pe_fld (pv 0) rfl) (by rfl))))), ?_⟩
    have eB : Ev (tFld K (tVar 0) "stored_base") [some (.ref x), some v] H (.int β) := fun H1 e Q q => ⟨_, rfl, x, C, dx, _, .int β, rfl, e _ _ hx, T.cl, T.nB, lk_base _ _, q H1 (Ex.refl H1)⟩
    have eR : Ev (tFld K (tVar 0) "stored_rules") [some (.ref x), some v] H (.ref t) := fun H1 e Q q => ⟨_, rfl, x, C, dx, _, .ref t, rfl, e _ _ hx, T.cl, T.nR, lk_rules _ _, q H1 (Ex.refl H1)⟩
    refine s_ret (ev_andV (ev_rule SG.b2 SG.b10 eB (ep_v (ev_var rfl) kv)) fun hd => ev_op (ev_var rfl) eR fun H1 e1 Q1 q1 => ?_) fun H1 e1 => q H1 e1
    exact ⟨d, t, rs, Ds, rfl, (kv.ex e1).dp (rule_noK hd), st_of (e1 _ _ hrs), (ka.ex e1).dp (noLs_K (rules_noL SG.all)), (ts_rule SG.b10 hd).shaped (by decide), fun e he => (ts_rule SG.b10 (List.all_eq_true.mp SG.all e he)).shaped (by decide), q1 _ (Ex.refl _)⟩
/-- what isinstance and == ask of the class -/
structure IsC (K : PySem.W.Frag) (C : Addr) : Prop where
  si : SlX.SIsi K C
  self : PySem.W.kitOne K (.ref C) (.ref C) = some true
  no : ∀ d : PyData, PySem.W.kitOne K (.type (tyN d)) (.ref C) = some false
  nf : ∀ d : PyData, PySem.W.notFirst K C (.type (tyN d)) = true
theorem IsC.ty {H : Hp} {a dx : Addr} {fs : List (Str × V)} (I : IsC K C) (cl : Cls K C) (h : H a = some (.ins C dx fs)) : TyX K H (.ref a) (.ref C) := .base (.ins h cl I.si.ca I.si.cn I.si.ct I.si.cm)
theorem StyG.ty {H : Hp} {x : Addr} {β : Nat} {Ds : List PyData} (h : StyG H C x β Ds) (I : IsC K C) (cl : Cls K C) : TyX K H (.ref x) (.ref C) := let ⟨_, _, hx, _⟩ := h.a; I.ty cl hx
/-- style == other -/
def spEqI (C : Addr) : Sp := fun vs H Q _ => ∃ (x : Addr) (y : V) (β : Nat) (Ds : List PyData), vs = [.ref x, y] ∧ StyG H C x β Ds ∧
  ((∃ (z : Addr) (γ : Nat) (Es : List PyData), y = .ref z ∧ StyG H C z γ Es ∧ RetV (.bl (decide (β = γ) && PyData.eqv (.tuple Ds) (.tuple Es))) H Q) ∨ (∃ d, Pt H y d ∧ RetV (.bl false) H Q))
theorem scEqI : FnScope ["self", "other"] ["self", "other"] (defScope sEqI) := ⟨rfl, rfl, rfl, by decide +kernel, rfl, by decide +kernel, by decide +kernel⟩
theorem ok_eqI {f : Addr} {fd : FuncData} (F : Fun K "__eq__" "Style.__eq__" sEqI f fd) (I : IsC K C) (T : TxN K mg fi frl fpc C ca) : FnOk P w K mg base CX0 2 f fd ["self", "other"] (spEqI C) := by
  refine F.ok scEqI (fun vs H Q E h => ?_) (fun cdv A outer s H vs Q E hr h => ?_)
  · obtain ⟨x, y, β, Ds, rfl, _⟩ := h
    rfl
  · obtain ⟨x, y, β, Ds, rfl, SG, h⟩ := h
    obtain ⟨dx, t, hx, kt⟩ := SG.a
    have hu64 : (A.deeper (PyProof.Rows.envOfC "Style.__eq__" (defScope sEqI) s.heap.objs.size f cdv)).units + 64 < cLine := by have := hr.units; omega
    refine ⟨_, pss_one (ps_ret (pe_and (pe_callB call_isi (by rfl) T.isi (by decide +kernel) (pa_cons (pv 1) (pa_cons (pe_glob (by rfl) T.style (v := .ref C) rfl) pa_nil)))
      (pe_and (pe_cmpR op_eq (pe_fld (pv 0) rfl) (pe_fld (pv 1) rfl) (nomark _)) (pe_one (pe_cmpR (op_eqD hu64) (pe_fld (pv 0) rfl) (pe_fld (pv 1) rfl) (nomark _)))))), ?_⟩
    have eB : Ev (tFld K (tVar 0) "stored_base") [some (.ref x), some y] H (.int β) := fun H1 e Q q => ⟨_, rfl, x, C, dx, _, .int β, rfl, e _ _ hx, T.cl, T.nB, lk_base _ _, q H1 (Ex.refl H1)⟩
    have eR : Ev (tFld K (tVar 0) "stored_rules") [some (.ref x), some y] H (.ref t) := fun H1 e Q q => ⟨_, rfl, x, C, dx, _, .ref t, rfl, e _ _ hx, T.cl, T.nR, lk_rules _ _, q H1 (Ex.refl H1)⟩
    rcases h with ⟨z, γ, Es, rfl, SZ, q⟩ | ⟨d, kd, q⟩
    · obtain ⟨dz, tz, hz, kz⟩ := SZ.a
      have eB2 : Ev (tFld K (tVar 1) "stored_base") [some (.ref x), some (.ref z)] H (.int γ) := fun H1 e Q q => ⟨_, rfl, z, C, dz, _, .int γ, rfl, e _ _ hz, T.cl, T.nB, lk_base _ _, q H1 (Ex.refl H1)⟩
      have eR2 : Ev (tFld K (tVar 1) "stored_rules") [some (.ref x), some (.ref z)] H (.ref tz) := fun H1 e Q q => ⟨_, rfl, z, C, dz, _, .ref tz, rfl, e _ _ hz, T.cl, T.nR, lk_rules _ _, q H1 (Ex.refl H1)⟩
      refine s_ret (ev_is (ev_andV (a := true) (ev_cb (ea_cons (ev_var rfl) (ea_cons ev_c ea_nil)) fun H1 e Q q => ⟨.ref z, .ref C, .ref C, .ref C, true, rfl, .own C, I.ty T.cl (e _ _ hz), I.self, q _ (Ex.refl _)⟩) fun _ => ev_andV (a := decide (V.int (β : Int) = V.int (γ : Int))) (b := PyData.eqv (.tuple Ds) (.tuple Es)) (ev_op eB eB2 (rv_eq rfl)) fun _ => ev_op eR eR2 fun H1 e1 Q1 q1 => ?_) ?_) fun H1 e1 => q H1 e1
      · exact ⟨.tuple Ds, .tuple Es, (kt.ex e1).dp (rules_noK SG.all), (kz.ex e1).dp (rules_noK SZ.all), rules_shaped SG.b10 SG.all (by have := SG.len; omega), rules_shaped SZ.b10 SZ.all (by have := SZ.len; omega), q1 _ (Ex.refl _)⟩
      · have : decide (V.int (β : Int) = V.int (γ : Int)) = decide (β = γ) := decide_eq_decide.mpr ⟨fun z => by injection z with z; omega, fun z => by rw [z]⟩
        rw [this]
        simp
    · exact s_ret (ev_andV (a := false) (b := false) (ev_cb (ea_cons (ev_var rfl) (ea_cons ev_c ea_nil)) fun H1 e Q q => ⟨y, .ref C, .type (tyN d), .ref C, false, rfl, .own C, (kd.ex e).ty, I.no d, q _ (Ex.refl _)⟩) fun z => nomatch z) fun H1 e1 => q H1 e1
/-- other + style -/
def spRaddI (C : Addr) (ca : Nat → Addr) : Sp := fun vs H Q E => ∃ (x : Addr) (v : V) (β : Nat) (Ds : List PyData) (d : PyData), vs = [.ref x, v] ∧ StyG H C x β Ds ∧ Pt H v d ∧ isT d = true ∧
  (ruleB β d = false → Leaves (ca 5) "place" (.int 0) H E) ∧ (ruleB β d = true → Due ca H E (dueD β (d :: Ds)) (∀ y H', Ex H H' → StyAt H' C y β (d :: Ds) → Q (.ref y) H'))
theorem scRaddI : FnScope ["self", "other"] ["self", "other"] (defScope sRaddI) := ⟨rfl, rfl, rfl, by decide +kernel, rfl, by decide +kernel, by decide +kernel⟩
theorem ok_raddI {f fin : Addr} {fd fdr : FuncData} (F : Fun K "__radd__" "Style.__radd__" sRaddI f fd) (GR : FnOk P w K mg base (L2.CX P w) 5 frl fdr ["base", "value"] (spRule K ca)) (bR : Binds K fdr ["base", "value"] []) (M : Mk K C fin) (GI : FnR P w K mg base (L2.CX P w) 7 fin (spInitR K C ca))
    (M5 : Mks P K mg (ca 5) ["place"]) (T : TxN K mg fi frl fpc C ca) : FnOk P w K mg base (L2.CX P w) 9 f fd ["self", "other"] (spRaddI C ca) := by
  refine F.okX scRaddI (fun vs H Q E h => ?_) (fun cdv A outer s H vs Q E hr h => ?_)
  · obtain ⟨x, v, β, Ds, d, rfl, _⟩ := h
    rfl
  · obtain ⟨x, v, β, Ds, d, rfl, SG, kv, hT, lb, hq⟩ := h
    obtain ⟨dx, t, hx, kt⟩ := SG.a
    obtain ⟨t', rs, e, hrs, ka⟩ := kt.tupI'
    cases e
    refine ⟨_, pss_cons (ps_if (pt_not (pt_val (pe_callB call_isi (by rfl) T.isi (by decide +kernel) (pa_cons (pv 1) (pa_cons (pe_bltn (by rfl) T.tuple (by decide +kernel) (v := .ty "tuple") rfl) pa_nil))))) (pss_one ps_never) pss_nil)
      (pss_cons (ps_if (pt_not (pt_val (pe_callS GR (hr.mono (by decide)) (by rfl) T.rule T.kRl bR (fun σ => passAt (takes_of rfl rfl rfl rfl) σ) (pa_cons (pe_fld (pv 0) rfl) (pa_cons (pv 1) pa_nil)))))
        (pss_one (ps_raise rfl (takes_of rfl rfl rfl rfl) (pmk_mks M5 T.sup hr (by simp) (pa_cons pe_int pa_nil) (by rfl) T.badRule))) pss_nil)
      (pss_one (ps_ret (pe_makeRS M GI hr (by rfl) T.style (fun pins σ H s e s' I c => passAt (takes_of rfl rfl rfl rfl) σ pins H s e s' I c) (pa_cons (pe_fld (pv 0) rfl) (pa_cons (pv 1) (pa_star (pe_fld (pv 0) rfl) pa_nil))))))), ?_⟩
    have eB : ∀ {H1 : Hp}, Ex H H1 → Ev (tFld K (tVar 0) "stored_base") [some (.ref x), some v] H1 (.int β) := fun e0 H1 e Q q => ⟨_, rfl, x, C, dx, _, .int β, rfl, e _ _ (e0 _ _ hx), T.cl, T.nB, lk_base _ _, q H1 (Ex.refl H1)⟩
    refine q_when (b := false) (et_is (et_not (et_B (ev_isiT (ev_var rfl) kv))) (by rw [hT]; rfl)) (fun z => nomatch z) (fun _ H1 e1 => ?_)
    refine q_when (b := !ruleB β d) (et_not (et_B (ev_rule SG.b2 SG.b10 (eB e1) (ep_v (ev_var rfl) (kv.ex e1))))) (fun z H2 e2 => ?_) (fun z H2 e2 => ?_)
    · exact ⟨rfl, fun d' hd' => (lb (by simpa using z)).go (e1.trans e2) H2 d' (Ex.refl _) hd'⟩
    · have hr1 : ruleB β d = true := by simpa using z
      have due := hq hr1
      have e12 := e1.trans e2
      have hx2 := e12 _ _ hx
      refine ⟨_, rfl, x, C, dx, _, .int β, rfl, hx2, T.cl, T.nB, lk_base _ _, _, rfl, _, rfl, x, C, dx, _, .ref t, rfl, hx2, T.cl, T.nR, lk_rules _ _, t, rs, rfl, .inl (st_of (e12 _ _ hrs)), fun y dy hy hdy hne => ?_⟩
      refine ⟨[.ref y, .int β], v :: (rs ++ []), rfl, rfl, ?_, fun p hp => ?_⟩
      · have := SG.len
        rw [List.append_nil, List.length_cons, ka.length, sizeLine_eq]
        omega
      have eA : Ex H2 (upd (upd H2 dy (.own y)) y (.ins C dy [])) := (Ex.new hdy).trans (Ex.new (by rw [upd_ne (Ne.symm hne)]; exact hy))
      have eB' := Ex.new (o := .tup (v :: (rs ++ []))) hp
      have eAB := eA.trans eB'
      have e3 := e12.trans eAB
      refine ⟨y, p, dy, .int β, v :: (rs ++ []), d :: Ds, true, rfl, eB' _ _ upd_same, upd_same, .cons (kv.ex e3) ((List.append_nil rs).symm ▸ ka.ex e3), bs_yes SG.b2 SG.b10, (fun z => nomatch z), fun _ => ⟨β, rfl, SG.b2, SG.b10, ⟨fun pl hpl => (due.bad pl hpl).go e3, fun hn t2 H' kx hx' k' => ?_⟩⟩⟩
      refine ⟨rfl, ?_⟩
      refine due.ok hn y H' (fun b o h => ?_) ⟨dy, t2, hx', k'⟩
      exact kx b o (eAB _ _ (e12 _ _ h)) (ne_of_none (e12 _ _ h) hy)
theorem PtAll.erase {H : Hp} : ∀ {vs : List V} {ds : List PyData}, PtAll H vs ds → ∀ n : Nat, PtAll H (vs.eraseIdx n) (ds.eraseIdx n)
  | _, [], h, n => by
    cases h
    exact .nil
  | _, d :: ds, h, n => by
    cases h with
    | cons h1 h2 =>
      cases n with
      | zero => exact h2
      | succ n => exact .cons h1 (PtAll.erase h2 n)
theorem PtAll.set {H : Hp} {u : V} {e : PyData} (k : Pt H u e) : ∀ {vs : List V} {ds : List PyData}, PtAll H vs ds → ∀ n : Nat, PtAll H (vs.set n u) (ds.set n e)
  | _, [], h, n => by
    cases h
    exact .nil
  | _, d :: ds, h, n => by
    cases h with
    | cons h1 h2 =>
      cases n with
      | zero => exact .cons k h2
      | succ n => exact .cons h1 (PtAll.set k h2 n)
/-- style.without(number) -/
def spWoI (C : Addr) (ca : Nat → Addr) : Sp := fun vs H Q E => ∃ (x : Addr) (v : V) (β : Nat) (Ds : List PyData) (d : PyData), vs = [.ref x, v] ∧ StyG H C x β Ds ∧ Pt H v d ∧
  (plB (Ds.length - 1) d = false → Leaves (ca 2) "value" v H E) ∧ (∀ j : Nat, d = .int (j : Int) → j < Ds.length - 1 → Due ca H E (dueD β (Ds.eraseIdx j)) (∀ y H', Ex H H' → StyAt H' C y β (Ds.eraseIdx j) → Q (.ref y) H'))
theorem scWoI : FnScope ["self", "number", "rules"] ["self", "number"] (defScope sWoI) := ⟨rfl, rfl, rfl, by decide +kernel, rfl, by decide +kernel, by decide +kernel⟩
/-- style.put(number, rule) -/
def spPutI (C : Addr) (ca : Nat → Addr) : Sp := fun vs H Q E => ∃ (x : Addr) (v u : V) (β : Nat) (Ds : List PyData) (d e : PyData), vs = [.ref x, v, u] ∧ StyG H C x β Ds ∧ Pt H v d ∧ Pt H u e ∧
  (plB Ds.length d = false → Leaves (ca 2) "value" v H E) ∧ (∀ j : Nat, d = .int (j : Int) → j < Ds.length → Due ca H E (dueD β (Ds.set j e)) (∀ y H', Ex H H' → StyAt H' C y β (Ds.set j e) → Q (.ref y) H'))
section
variable {mc : Value} {ofp ofg : Addr} {fdo fdp : FuncData}
theorem ok_woI {f : Addr} {fd : FuncData} (F : Fun K "without" "Style.without" sWoI f fd) (GP : FnOk P w K mg base (L2.CX P w) 2 fpc fdp ["number", "many"] (spPlace ca)) (bP : Binds K fdp ["number", "many"] []) (cR : CRead K C mc) (cM : CMet K C mc "of" ofp ofg)
    (GO : FnOk P w K mg base (L2.CX P w) 9 ofg fdo ["cls", "base", "rules"] (spOfS K C ca)) (bO : Binds K fdo ["cls", "base", "rules"] []) (T : TxN K mg fi frl fpc C ca) : FnOk P w K mg base (L2.CX P w) 10 f fd ["self", "number"] (spWoI C ca) := by
  refine F.okX scWoI (fun vs H Q E h => ?_) (fun cdv A outer s H vs Q E hr h => ?_)
  · obtain ⟨x, v, β, Ds, d, rfl, _⟩ := h
    rfl
  · obtain ⟨x, v, β, Ds, d, rfl, SG, kv, lb, hq⟩ := h
    obtain ⟨dx, t, hx, kt⟩ := SG.a
    obtain ⟨t', rs, e, hrs, ka⟩ := kt.tupI'
    cases e
    have hl := ka.length
    have hlen := SG.len
    refine ⟨_, pss_cons (ps_expr (pe_callS GP (hr.mono (by decide)) (by rfl) T.place T.kPc bP (fun σ => passAt (takes_of rfl rfl rfl rfl) σ) (pa_cons (pv 1) (pa_cons (pe_op op_sub (pe_callB call_len_seq (by rfl) T.len (by decide +kernel) (pa_cons (pe_fld (pv 0) rfl) pa_nil)) pe_int) pa_nil))))
      (pss_cons (ps_set (i := 2) scWoI.nd rfl (.inl rfl) (pe_callTy (T := "list") (r := fun xs H Q => ∃ p ys, xs = [V.ref p] ∧ (SqL K H p ys ∨ SqT K H p ys) ∧ ∀ l, H l = none → Q (V.ref l) (upd H l (.lst ys))) call_list_of (by rfl) T.list (by decide +kernel) (pa_cons (pe_fld (pv 0) rfl) pa_nil)))
      (pss_cons (ps_delL (pv 2) (pv 1))
      (pss_one (ps_ret (pe_cmeth (pe_glob (by rfl) T.style (v := .ref C) rfl) cR cM (GO.raw bO .nil) hr (fun pins σ H s e s' I c => passAt (takes_of rfl rfl rfl rfl) σ pins H s e s' I c) (pa_cons (pe_fld (pv 0) rfl) (pa_cons (pv 2) pa_nil))))))), ?_⟩
    refine ⟨_, rfl, _, rfl, x, C, dx, _, .ref t, rfl, hx, T.cl, T.nR, lk_rules _ _, t, rs, rfl, .inr (st_of hrs), _, _, rfl, rfl, v, Ds.length - 1, d, ?_, kv, fun hp H1 e1 => ?_, lb⟩
    · show [v, V.int ((rs.length : Int) - 1)] = _
      rw [show (rs.length : Int) - 1 = ((Ds.length - 1 : Nat) : Int) by omega]
    obtain ⟨j, rfl, hj⟩ := pl_inv hp
    cases kv
    have hx1 := e1 _ _ hx
    refine ⟨_, rfl, x, C, dx, _, .ref t, rfl, hx1, T.cl, T.nR, lk_rules _ _, t, rs, rfl, .inr (st_of (e1 _ _ hrs)), fun l nl => ?_⟩
    have hlx : ∀ {b : Addr} {o : HO}, H1 b = some o → b ≠ l := fun h => ne_of_none h nl
    refine ⟨_, rfl, _, rfl, l, rs, _, j, rfl, rfl, upd_same, by omega, by omega, ?_, ?_⟩
    · unfold seqIndex?
      rw [hl]
      simp
      omega
    have e3 : Ex H1 (upd (upd H1 l (.lst rs)) l (.lst (rs.eraseIdx j))) := (Ex.new nl).mut nl
    have e13 := e1.trans e3
    have due := hq j rfl hj
    refine ⟨rfl, _, rfl, x, C, dx, _, .int β, rfl, e3 _ _ hx1, T.cl, T.nB, lk_base _ _, _, rfl, .int β, .ref l, .list (Ds.eraseIdx j), true, rfl, bs_yes SG.b2 SG.b10, .lst upd_same ((ka.ex e13).erase j), ?_, (fun z => nomatch z), fun _ => ⟨β, rfl, SG.b2, SG.b10, ⟨fun pl hpl => (due.bad pl hpl).go e13, fun hn y H' e' sa => due.ok hn y H' (e13.trans e') sa⟩⟩⟩
    show (Ds.eraseIdx j).length ≤ 100000
    have := List.length_eraseIdx_le Ds j
    omega
end
end
end Dt

/-! Rules that are shown alike are the same; equal ones are the same. -/
namespace Dt
open PySem L2 Evl Dg LamR LamX TL
open Dr (StAt SameB)
mutual
/-- of None, whole numbers, texts and tuples alone -/
def pl0 : PyData → Bool
  | .none => true
  | .int _ => true
  | .str _ => true
  | .tuple ds => pl0s ds
  | _ => false
def pl0s : List PyData → Bool
  | [] => true
  | d :: ds => pl0 d && pl0s ds
end
mutual
theorem eqv_eq : ∀ {d e : PyData}, pl0 d = true → pl0 e = true → PyData.eqv d e = true → d = e
  | .none, .none, _, _, _ => rfl
  | .int i, .int j, _, _, h => by
    have : i = j := by simpa [PyData.eqv] using h
    rw [this]
  | .str x, .str y, _, _, h => by
    have : x = y := by simpa [PyData.eqv] using h
    rw [this]
  | .tuple ds, .tuple es, h1, h2, h => by
    rw [pl0] at h1 h2
    rw [PyData.eqv] at h
    rw [eqvs_eq h1 h2 h]
  | .none, .int _, _, _, h => by simp [PyData.eqv] at h
  | .none, .str _, _, _, h => by simp [PyData.eqv] at h
  | .none, .tuple _, _, _, h => by simp [PyData.eqv] at h
  | .int _, .none, _, _, h => by simp [PyData.eqv] at h
  | .int _, .str _, _, _, h => by simp [PyData.eqv] at h
  | .int _, .tuple _, _, _, h => by simp [PyData.eqv] at h
  | .str _, .none, _, _, h => by simp [PyData.eqv] at h
  | .str _, .int _, _, _, h => by simp [PyData.eqv] at h
  | .str _, .tuple _, _, _, h => by simp [PyData.eqv] at h
  | .tuple _, .none, _, _, h => by simp [PyData.eqv] at h
  | .tuple _, .int _, _, _, h => by simp [PyData.eqv] at h
  | .tuple _, .str _, _, _, h => by simp [PyData.eqv] at h
  | .bool _, _, h, _, _ => by simp [pl0] at h
  | .list _, _, h, _, _ => by simp [pl0] at h
  | .dict _, _, h, _, _ => by simp [pl0] at h
  | _, .bool _, _, h, _ => by simp [pl0] at h
  | _, .list _, _, h, _ => by simp [pl0] at h
  | _, .dict _, _, h, _ => by simp [pl0] at h
theorem eqvs_eq : ∀ {ds es : List PyData}, pl0s ds = true → pl0s es = true → PyData.eqvAll ds es = true → ds = es
  | [], [], _, _, _ => rfl
  | d :: ds, e :: es, h1, h2, h => by
    rw [pl0s, Bool.and_eq_true] at h1 h2
    rw [PyData.eqvAll, Bool.and_eq_true] at h
    rw [eqv_eq h1.1 h2.1 h.1, eqvs_eq h1.2 h2.2 h.2]
  | [], _ :: _, _, _, h => by simp [PyData.eqvAll] at h
  | _ :: _, [], _, _, h => by simp [PyData.eqvAll] at h
end
mutual
theorem eqv_self : ∀ {d : PyData}, pl0 d = true → PyData.eqv d d = true
  | .none, _ => by simp [PyData.eqv]
  | .int i, _ => by simp [PyData.eqv]
  | .str x, _ => by simp [PyData.eqv]
  | .tuple ds, h => by
    rw [pl0] at h
    rw [PyData.eqv]
    exact eqvs_self h
  | .bool _, h => by simp [pl0] at h
  | .list _, h => by simp [pl0] at h
  | .dict _, h => by simp [pl0] at h
theorem eqvs_self : ∀ {ds : List PyData}, pl0s ds = true → PyData.eqvAll ds ds = true
  | [], _ => by simp [PyData.eqvAll]
  | d :: ds, h => by
    rw [pl0s, Bool.and_eq_true] at h
    rw [PyData.eqvAll, eqv_self h.1, eqvs_self h.2]
    rfl
end
theorem pl0s_all : ∀ {ds : List PyData}, (∀ d ∈ ds, pl0 d = true) → pl0s ds = true
  | [], _ => rfl
  | d :: ds, h => by
    rw [pl0s, h d List.mem_cons_self, pl0s_all fun e he => h e (List.mem_cons_of_mem _ he)]
    rfl
theorem cond_pl0 {β : Nat} {d : PyData} (h : CondS β d) : pl0 d = true := by
  cases h with
  | ends x h => rfl
  | near i h0 h6 => rfl
  | len w hw i h1 h6 e he =>
    rcases he with rfl | ⟨j, rfl, _, _⟩ <;> rfl
theorem keep_pl0 {d : PyData} (h : KeepS d) : pl0 d = true := by
  cases h <;> rfl
theorem rule_pl0 {β : Nat} {d : PyData} (h : ruleB β d = true) : pl0 d = true := by
  obtain ⟨cs, k, rfl, _, hc, hk⟩ := rule_inv h
  rw [pl0, pl0s, pl0, pl0s, pl0s, keep_pl0 hk, pl0s_all fun c h => cond_pl0 (hc c h)]
  rfl
theorem rules_pl0 {β : Nat} {ds : List PyData} (h : ds.all (ruleB β) = true) : pl0 (.tuple ds) = true := by
  rw [pl0]
  exact pl0s_all fun d hd => rule_pl0 (List.all_eq_true.mp h d hd)
/-- tuples of rules are equal where they are the same -/
theorem rules_eqv {β γ : Nat} {ds es : List PyData} (h : ds.all (ruleB β) = true) (k : es.all (ruleB γ) = true) : PyData.eqv (.tuple ds) (.tuple es) = true ↔ ds = es := by
  constructor
  · intro z
    have := eqv_eq (rules_pl0 h) (rules_pl0 k) z
    injection this with this
  · rintro rfl
    exact eqv_self (rules_pl0 k)
/-! how tuples are shown -/
theorem tl_t0 : tl (PyData.tuple []).shown = [40, 41] := by decide +kernel
theorem tl_t1 (a : PyData) : tl (PyData.tuple [a]).shown = 40 :: (tl a.shown ++ [44, 41]) := by
  have e : (PyData.tuple [a]).shown = ("(" : Str) ++ a.shown ++ (",)" : Str) := by
    simp only [PyData.shown, PyData.shownAll, PySem.tupleText]
    rfl
  rw [e]
  simp only [tl_append]
  have e1 : tl ("(" : Str) = [40] := by decide
  have e2 : tl (",)" : Str) = [44, 41] := by decide
  rw [e1, e2]
  simp
theorem tl_t2 (a b : PyData) : tl (PyData.tuple [a, b]).shown = 40 :: (tl a.shown ++ (44 :: 32 :: (tl b.shown ++ [41]))) := by
  have e : (PyData.tuple [a, b]).shown = ("(" : Str) ++ (a.shown ++ ", " ++ b.shown) ++ (")" : Str) := by
    simp only [PyData.shown, PyData.shownAll, PySem.tupleText]
    rfl
  rw [e]
  simp only [tl_append]
  have e1 : tl ("(" : Str) = [40] := by decide
  have e2 : tl (")" : Str) = [41] := by decide
  have e3 : tl (", " : Str) = [44, 32] := by decide
  rw [e1, e2]
  show [40] ++ (tl a.shown ++ tl (", " : Str) ++ tl b.shown) ++ [41] = _
  rw [e3]
  simp
theorem tl_t3 (a b c : PyData) : tl (PyData.tuple [a, b, c]).shown = 40 :: (tl a.shown ++ (44 :: 32 :: (tl b.shown ++ (44 :: 32 :: (tl c.shown ++ [41]))))) := by
  have e : (PyData.tuple [a, b, c]).shown = ("(" : Str) ++ (a.shown ++ ", " ++ (b.shown ++ ", " ++ c.shown)) ++ (")" : Str) := by
    simp only [PyData.shown, PyData.shownAll, PySem.tupleText]
    rfl
  rw [e]
  simp only [tl_append]
  have e1 : tl ("(" : Str) = [40] := by decide
  have e2 : tl (")" : Str) = [41] := by decide
  have e3 : tl (", " : Str) = [44, 32] := by decide
  rw [e1, e2]
  show [40] ++ (tl a.shown ++ tl (", " : Str) ++ (tl b.shown ++ tl (", " : Str) ++ tl c.shown)) ++ [41] = _
  rw [e3]
  simp
theorem tl_tC (c : PyData) (r : List PyData) : ∃ rest, tl (PyData.tuple (c :: r)).shown = 40 :: (tl c.shown ++ rest) := by
  have e1 : tl ("(" : Str) = [40] := by decide
  cases r with
  | nil => exact ⟨_, tl_t1 c⟩
  | cons d r =>
    refine ⟨tl (", " : Str) ++ tl (Str.join ", " (PyData.shownAll (d :: r))) ++ tl (")" : Str), ?_⟩
    have e : (PyData.tuple (c :: d :: r)).shown = ("(" : Str) ++ (c.shown ++ ", " ++ Str.join ", " (PyData.shownAll (d :: r))) ++ (")" : Str) := by
      simp only [PyData.shown, PyData.shownAll, PySem.tupleText]
      rfl
    rw [e, tl_append, tl_append, tl_append, tl_append, e1]
    simp
theorem t_ends : tl (PyData.str "ends").shown = [39, 101, 110, 100, 115, 39] := by decide +kernel
theorem t_near : tl (PyData.str "near").shown = [39, 110, 101, 97, 114, 39] := by decide +kernel
theorem t_len : tl (PyData.str "length").shown = [39, 108, 101, 110, 103, 116, 104, 39] := by decide +kernel
theorem t_chg : tl (PyData.str "changed").shown = [39, 99, 104, 97, 110, 103, 101, 100, 39] := by decide +kernel
theorem t_all : tl (PyData.str "all").shown = [39, 97, 108, 108, 39] := by decide +kernel
theorem t_last : tl (PyData.str "last").shown = [39, 108, 97, 115, 116, 39] := by decide +kernel
theorem t_non : tl PyData.none.shown = [78, 111, 110, 101] := by decide +kernel
theorem t_dig : ∀ i < 10, tl (PyData.int (i : Nat)).shown = [48 + i] := by decide +kernel
theorem t_f1 : ∀ c < 10, tl (PyData.str ⟨#[48 + c]⟩).shown = [39, 48 + c, 39] := by decide +kernel
theorem t_f2 : ∀ c < 10, ∀ d < 10, tl (PyData.str ⟨#[48 + c, 48 + d]⟩).shown = [39, 48 + c, 48 + d, 39] := by decide +kernel
/-- the conditions, with how they are shown -/
inductive CN : PyData → List Nat → Prop
  | e1 (c : Nat) (h : c < 10) : CN (.tuple [.str "ends", .str ⟨#[48 + c]⟩]) [40, 39, 101, 110, 100, 115, 39, 44, 32, 39, 48 + c, 39, 41]
  | e2 (c d : Nat) (h : c < 10) (k : d < 10) : CN (.tuple [.str "ends", .str ⟨#[48 + c, 48 + d]⟩]) [40, 39, 101, 110, 100, 115, 39, 44, 32, 39, 48 + c, 48 + d, 39, 41]
  | nr (i : Nat) (h : i ≤ 6) : CN (.tuple [.str "near", .int (i : Nat)]) [40, 39, 110, 101, 97, 114, 39, 44, 32, 48 + i, 41]
  | lN (i : Nat) (h : i ≤ 6) : CN (.tuple [.str "length", .int (i : Nat), .none]) [40, 39, 108, 101, 110, 103, 116, 104, 39, 44, 32, 48 + i, 44, 32, 78, 111, 110, 101, 41]
  | lJ (i j : Nat) (h : i ≤ 6) (k : j ≤ 6) : CN (.tuple [.str "length", .int (i : Nat), .int (j : Nat)]) [40, 39, 108, 101, 110, 103, 116, 104, 39, 44, 32, 48 + i, 44, 32, 48 + j, 41]
  | cN (i : Nat) (h : i ≤ 6) : CN (.tuple [.str "changed", .int (i : Nat), .none]) [40, 39, 99, 104, 97, 110, 103, 101, 100, 39, 44, 32, 48 + i, 44, 32, 78, 111, 110, 101, 41]
  | cJ (i j : Nat) (h : i ≤ 6) (k : j ≤ 6) : CN (.tuple [.str "changed", .int (i : Nat), .int (j : Nat)]) [40, 39, 99, 104, 97, 110, 103, 101, 100, 39, 44, 32, 48 + i, 44, 32, 48 + j, 41]
theorem cn_of {β : Nat} {d : PyData} (b10 : β ≤ 10) (h : CondS β d) : CN d (tl d.shown) := by
  cases h with
  | ends x hx =>
    rcases figs_cases b10 hx with ⟨c, hc, rfl⟩ | ⟨c, e, hc, he, rfl⟩
    · rw [tl_t2, t_ends, t_f1 c hc]
      exact .e1 c hc
    · rw [tl_t2, t_ends, t_f2 c hc e he]
      exact .e2 c e hc he
  | near i h0 h6 =>
    obtain ⟨n, rfl⟩ : ∃ n : Nat, i = (n : Int) := ⟨i.toNat, by omega⟩
    rw [tl_t2, t_near, t_dig n (by omega)]
    exact .nr n (by omega)
  | len w hw i h1 h6 e he =>
    obtain ⟨n, rfl⟩ : ∃ n : Nat, i = (n : Int) := ⟨i.toNat, by omega⟩
    rcases hw with rfl | rfl
    · rcases he with rfl | ⟨j, rfl, hij, hj⟩
      · rw [tl_t3, t_len, t_dig n (by omega), t_non]
        exact .lN n (by omega)
      · obtain ⟨m, rfl⟩ : ∃ m : Nat, j = (m : Int) := ⟨j.toNat, by omega⟩
        rw [tl_t3, t_len, t_dig n (by omega), t_dig m (by omega)]
        exact .lJ n m (by omega) (by omega)
    · rcases he with rfl | ⟨j, rfl, hij, hj⟩
      · rw [tl_t3, t_chg, t_dig n (by omega), t_non]
        exact .cN n (by omega)
      · obtain ⟨m, rfl⟩ : ∃ m : Nat, j = (m : Int) := ⟨j.toNat, by omega⟩
        rw [tl_t3, t_chg, t_dig n (by omega), t_dig m (by omega)]
        exact .cJ n m (by omega) (by omega)
theorem cn_inj {d e : PyData} {t u r r' : List Nat} (h : CN d t) (k : CN e u) (z : t ++ r = u ++ r') : d = e ∧ r = r' := by
  cases h <;> cases k <;> simp at z <;> first
    | (exfalso; omega)
    | (obtain ⟨rfl, rfl⟩ := z; exact ⟨rfl, rfl⟩)
    | (obtain ⟨rfl, rfl, rfl⟩ := z; exact ⟨rfl, rfl⟩)
    | skip
/-- the keeps, with how they are shown -/
inductive KN : PyData → List Nat → Prop
  | all : KN (.tuple [.str "all"]) [40, 39, 97, 108, 108, 39, 44, 41]
  | ch (i : Nat) (h : i ≤ 6) : KN (.tuple [.str "changed", .int (i : Nat)]) [40, 39, 99, 104, 97, 110, 103, 101, 100, 39, 44, 32, 48 + i, 41]
  | la (i : Nat) (h : i ≤ 6) : KN (.tuple [.str "last", .int (i : Nat)]) [40, 39, 108, 97, 115, 116, 39, 44, 32, 48 + i, 41]
theorem kn_of {d : PyData} (h : KeepS d) : KN d (tl d.shown) := by
  cases h with
  | all =>
    rw [tl_t1, t_all]
    exact .all
  | size w hw i h1 h6 =>
    obtain ⟨n, rfl⟩ : ∃ n : Nat, i = (n : Int) := ⟨i.toNat, by omega⟩
    rcases hw with rfl | rfl
    · rw [tl_t2, t_chg, t_dig n (by omega)]
      exact .ch n (by omega)
    · rw [tl_t2, t_last, t_dig n (by omega)]
      exact .la n (by omega)
theorem kn_inj {d e : PyData} {t u r r' : List Nat} (h : KN d t) (k : KN e u) (z : t ++ r = u ++ r') : d = e ∧ r = r' := by
  cases h <;> cases k <;> simp at z <;> first
    | (exfalso; omega)
    | (subst z; exact ⟨rfl, rfl⟩)
    | (obtain ⟨rfl, rfl⟩ := z; exact ⟨rfl, rfl⟩)
    | skip
theorem cn_head {d : PyData} {t : List Nat} (h : CN d t) : ∃ r, t = 40 :: 39 :: r := by
  cases h <;> exact ⟨_, rfl⟩
/-- the conditions' tuple: how it begins, and that it is told by how it is shown -/
theorem cs_inj {β γ : Nat} {cs es : List PyData} {r r' : List Nat} (b10 : β ≤ 10) (g10 : γ ≤ 10) (h3 : cs.length ≤ 3) (k3 : es.length ≤ 3) (h : ∀ c ∈ cs, CondS β c) (k : ∀ c ∈ es, CondS γ c) (z : tl (PyData.tuple cs).shown ++ r = tl (PyData.tuple es).shown ++ r') : cs = es ∧ r = r' := by
  have hc : ∀ c ∈ cs, CN c (tl c.shown) := fun c hc => cn_of b10 (h c hc)
  have kc : ∀ c ∈ es, CN c (tl c.shown) := fun c hc => cn_of g10 (k c hc)
  match cs, es, h3, k3, hc, kc, z with
  | [], [], _, _, _, _, z =>
    rw [tl_t0] at z
    simp at z
    exact ⟨rfl, z⟩
  | [], a :: as, _, _, _, kc, z =>
    obtain ⟨q, hq⟩ := tl_tC a as
    obtain ⟨q2, hq2⟩ := cn_head (kc a List.mem_cons_self)
    rw [tl_t0, hq, hq2] at z
    simp at z
  | a :: as, [], _, _, hc, _, z =>
    obtain ⟨q, hq⟩ := tl_tC a as
    obtain ⟨q2, hq2⟩ := cn_head (hc a List.mem_cons_self)
    rw [tl_t0, hq, hq2] at z
    simp at z
  | [a], [x], _, _, hc, kc, z =>
    rw [tl_t1, tl_t1] at z
    simp only [List.cons_append, List.append_assoc, List.cons.injEq, true_and] at z
    obtain ⟨rfl, z1⟩ := cn_inj (hc a (by simp)) (kc x (by simp)) z
    simp at z1
    exact ⟨rfl, z1⟩
  | [a], [x, y], _, _, hc, kc, z =>
    rw [tl_t1, tl_t2] at z
    simp only [List.cons_append, List.append_assoc, List.cons.injEq, true_and] at z
    obtain ⟨rfl, z1⟩ := cn_inj (hc a (by simp)) (kc x (by simp)) z
    simp at z1
  | [a], [x, y, w], _, _, hc, kc, z =>
    rw [tl_t1, tl_t3] at z
    simp only [List.cons_append, List.append_assoc, List.cons.injEq, true_and] at z
    obtain ⟨rfl, z1⟩ := cn_inj (hc a (by simp)) (kc x (by simp)) z
    simp at z1
  | [a, b], [x], _, _, hc, kc, z =>
    rw [tl_t2, tl_t1] at z
    simp only [List.cons_append, List.append_assoc, List.cons.injEq, true_and] at z
    obtain ⟨rfl, z1⟩ := cn_inj (hc a (by simp)) (kc x (by simp)) z
    simp at z1
  | [a, b], [x, y], _, _, hc, kc, z =>
    rw [tl_t2, tl_t2] at z
    simp only [List.cons_append, List.append_assoc, List.cons.injEq, true_and] at z
    obtain ⟨rfl, z1⟩ := cn_inj (hc a (by simp)) (kc x (by simp)) z
    injection z1 with _ z1
    injection z1 with _ z1
    first | simp only [List.append_assoc] at z1 | skip
    obtain ⟨rfl, z2⟩ := cn_inj (hc b (by simp)) (kc y (by simp)) z1
    simp at z2
    exact ⟨rfl, z2⟩
  | [a, b], [x, y, w], _, _, hc, kc, z =>
    rw [tl_t2, tl_t3] at z
    simp only [List.cons_append, List.append_assoc, List.cons.injEq, true_and] at z
    obtain ⟨rfl, z1⟩ := cn_inj (hc a (by simp)) (kc x (by simp)) z
    injection z1 with _ z1
    injection z1 with _ z1
    first | simp only [List.append_assoc] at z1 | skip
    obtain ⟨rfl, z2⟩ := cn_inj (hc b (by simp)) (kc y (by simp)) z1
    simp at z2
  | [a, b, c], [x], _, _, hc, kc, z =>
    rw [tl_t3, tl_t1] at z
    simp only [List.cons_append, List.append_assoc, List.cons.injEq, true_and] at z
    obtain ⟨rfl, z1⟩ := cn_inj (hc a (by simp)) (kc x (by simp)) z
    simp at z1
  | [a, b, c], [x, y], _, _, hc, kc, z =>
    rw [tl_t3, tl_t2] at z
    simp only [List.cons_append, List.append_assoc, List.cons.injEq, true_and] at z
    obtain ⟨rfl, z1⟩ := cn_inj (hc a (by simp)) (kc x (by simp)) z
    injection z1 with _ z1
    injection z1 with _ z1
    first | simp only [List.append_assoc] at z1 | skip
    obtain ⟨rfl, z2⟩ := cn_inj (hc b (by simp)) (kc y (by simp)) z1
    simp at z2
  | [a, b, c], [x, y, w], _, _, hc, kc, z =>
    rw [tl_t3, tl_t3] at z
    simp only [List.cons_append, List.append_assoc, List.cons.injEq, true_and] at z
    obtain ⟨rfl, z1⟩ := cn_inj (hc a (by simp)) (kc x (by simp)) z
    injection z1 with _ z1
    injection z1 with _ z1
    first | simp only [List.append_assoc] at z1 | skip
    obtain ⟨rfl, z2⟩ := cn_inj (hc b (by simp)) (kc y (by simp)) z1
    injection z2 with _ z2
    injection z2 with _ z2
    first | simp only [List.append_assoc] at z2 | skip
    obtain ⟨rfl, z3⟩ := cn_inj (hc c (by simp)) (kc w (by simp)) z2
    simp at z3
    exact ⟨rfl, z3⟩
  | _ :: _ :: _ :: _ :: _, _, h3, _, _, _, _ => simp at h3
  | _, _ :: _ :: _ :: _ :: _, _, k3, _, _, _ => simp at k3
theorem rule_inj {β γ : Nat} {d e : PyData} (b10 : β ≤ 10) (g10 : γ ≤ 10) (h : ruleB β d = true) (k : ruleB γ e = true) (z : d.shown = e.shown) : d = e := by
  obtain ⟨cs, q, rfl, h3, hc, hk⟩ := rule_inv h
  obtain ⟨es, u, rfl, k3, kc, kk⟩ := rule_inv k
  have z2 := congrArg tl z
  rw [tl_t2, tl_t2] at z2
  simp only [List.cons.injEq, true_and] at z2
  obtain ⟨rfl, z3⟩ := cs_inj b10 g10 h3 k3 hc kc z2
  simp only [List.cons.injEq, true_and] at z3
  obtain ⟨rfl, _⟩ := kn_inj (kn_of hk) (kn_of kk) z3
  rfl
/-- how a rule begins -/
theorem rule_head {β : Nat} {d : PyData} (b10 : β ≤ 10) (h : ruleB β d = true) : (∃ r, tl d.shown = 40 :: 40 :: 41 :: r) ∨ ∃ c t r, CN c t ∧ tl d.shown = 40 :: 40 :: (t ++ r) := by
  obtain ⟨cs, q, rfl, h3, hc, hk⟩ := rule_inv h
  rw [tl_t2]
  cases cs with
  | nil =>
    rw [tl_t0]
    exact .inl ⟨_, rfl⟩
  | cons c r =>
    obtain ⟨q2, hq⟩ := tl_tC c r
    rw [hq]
    refine .inr ⟨c, tl c.shown, q2 ++ (44 :: 32 :: (tl q.shown ++ [41])), cn_of b10 (hc c List.mem_cons_self), ?_⟩
    simp
/-- the other things that the law looks for in a style -/
def moreD : List PyData := [.tuple [.tuple [.tuple [.str "changed", .int 6, .int 6], .tuple [.str "near", .int 0]], .tuple [.str "last", .int 6]], .tuple [.tuple [.tuple [.str "near", .bool true]], .tuple [.str "all"]], .none, .tuple [], .int 5]
theorem more_no {β : Nat} {d : PyData} (b10 : β ≤ 10) (h : ruleB β d = true) : d.shown ≠ (PyData.tuple [.tuple [.tuple [.str "near", .bool true]], .tuple [.str "all"]]).shown ∧ d.shown ≠ PyData.none.shown ∧ d.shown ≠ (PyData.tuple []).shown ∧ d.shown ≠ (PyData.int 5).shown ∧ d.shown ≠ (PyData.list [.int 1]).shown := by
  have tb : tl (PyData.bool true).shown = [84, 114, 117, 101] := by decide +kernel
  have tL : ∃ r, tl (PyData.list [.int 1]).shown = 91 :: r := ⟨_, (by decide +kernel : tl (PyData.list [.int 1]).shown = 91 :: [49, 93])⟩
  have t5 : tl (PyData.int 5).shown = [53] := by decide +kernel
  refine ⟨fun z => ?_, fun z => ?_, fun z => ?_, fun z => ?_, fun z => ?_⟩ <;> have z2 := congrArg tl z <;> rcases rule_head b10 h with ⟨r, hr⟩ | ⟨c, t, r, hc, hr⟩ <;> rw [hr] at z2
  · rw [tl_t2, tl_t1, tl_t2, t_near] at z2
    simp at z2
  · rw [tl_t2, tl_t1, tl_t2, t_near, tb] at z2
    cases hc <;> simp at z2 <;> try omega
  · rw [t_non] at z2
    simp at z2
  · rw [t_non] at z2
    simp at z2
  · rw [tl_t0] at z2
    simp at z2
  · rw [tl_t0] at z2
    simp at z2
  · rw [t5] at z2
    simp at z2
  · rw [t5] at z2
    simp at z2
  · obtain ⟨q, hq⟩ := tL
    rw [hq] at z2
    simp at z2
  · obtain ⟨q, hq⟩ := tL
    rw [hq] at z2
    simp at z2
theorem more_rules {β : Nat} {d e : PyData} {ds : List PyData} (b10 : β ≤ 10) (h : ruleB β d = true) (k : ruleB β e = true) : d.shown ≠ (PyData.tuple (e :: ds)).shown := fun z => by
  have z2 := congrArg tl z
  obtain ⟨q, hq⟩ := tl_tC e ds
  rw [hq] at z2
  rcases rule_head b10 h with ⟨r, hr⟩ | ⟨c, t, r, hc, hr⟩ <;> rw [hr] at z2 <;> rcases rule_head b10 k with ⟨r2, hr2⟩ | ⟨c2, t2, r2, hc2, hr2⟩ <;> rw [hr2] at z2
  · simp at z2
  · simp at z2
  · obtain ⟨y, rfl⟩ := cn_head hc
    simp at z2
  · obtain ⟨y, rfl⟩ := cn_head hc
    obtain ⟨y2, rfl⟩ := cn_head hc2
    simp at z2
end Dt

/-! What expressions of styles are read as, whatever the class's address. -/
namespace Dt
open PySem L2 Evl Dg LamR LamX TL StX ClX
open Dr (StAt SameB)
theorem fnr0 {P : Program} {w : World} {K : PySem.W.Frag} {mg : Str → Option Value} {base : Heap} {CX : CXT} {k : Nat} {f : Addr} {fd : FuncData} {ps : List Str} {sp : Sp} (F : FnOk P w K mg base CX k f fd ps sp) (hb : Binds K fd ps []) : FnR P w K mg base CX k f sp := by
  have h := F.raw hb .nil
  have e : (fun (vs : List V) (H : Hp) (Q : VK) (E : XK) => sp (vs ++ []) H Q E) = sp := by
    funext vs H Q E
    rw [List.append_nil]
  exact e ▸ h
/-- the expression is a style of that base with those rules -/
def EvS (C : Addr) (te : TE) (σ : St) (H : Hp) (β : Nat) (Ds : List PyData) : Prop := ∀ H1, Ex H H1 → ∀ Q : VK, (∀ x H2, Ex H1 H2 → StyG H2 C x β Ds → Q (.ref x) H2) → te σ H1 Q
section
variable {K : PySem.W.Frag} {C : Addr} {σ : St} {H : Hp} {ta tb to te : TE} {E : XK} {β γ : Nat} {Ds Es : List PyData} {x : Addr}
theorem es_v (h : Ev te σ H (.ref x)) (S : StyG H C x β Ds) : EvS C te σ H β Ds := fun H1 e Q q => h H1 e Q fun H2 e2 => q x H2 e2 (S.ex (e.trans e2))
theorem ep_rulesS (h : EvS C to σ H β Ds) : EvP (tProp C (getSp C "stored_rules") [] E to) σ H (.tuple Ds) := fun H1 e Q q =>
  h H1 e _ fun x H2 e2 S => by
    obtain ⟨dx, t, hx, kt⟩ := S.a
    exact ⟨x, dx, _, rfl, hx, x, dx, _, _, rfl, hx, lk_rules _ _, q (.ref t) H2 e2 kt⟩
theorem ev_baseS (h : EvS C to σ H β Ds) : Ev (tProp C (getSp C "stored_base") [] E to) σ H (.int (β : Nat)) := fun H1 e Q q =>
  h H1 e _ fun x H2 e2 S => by
    obtain ⟨dx, t, hx, kt⟩ := S.a
    exact ⟨x, dx, _, rfl, hx, x, dx, _, _, rfl, hx, lk_base _ _, q H2 e2⟩
theorem ev_isiSt (I : IsC K C) (cl : Cls K C) (h : EvS C ta σ H β Ds) : Ev (tCB (rIsi K) (tCons ta (tCons (tC (.ref C)) tNil))) σ H (.bl true) := fun H1 e Q q =>
  h H1 e _ fun x H2 e2 S => ⟨.ref x, .ref C, .ref C, .ref C, true, rfl, .own C, S.ty I cl, I.self, q H2 e2⟩
theorem ev_eqS (I : IsC K C) (cl : Cls K C) (nf : PySem.W.notFirst K C (.ref C) = true) (h1 : EvS C ta σ H β Ds) (h2 : EvS C tb σ H γ Es) : Ev (tOp (rEqOwn K C (spEqI C) E) ta tb) σ H (.bl (decide (β = γ) && PyData.eqv (.tuple Ds) (.tuple Es))) := fun H1 e Q q =>
  h1 H1 e _ fun x H2 e2 S => h2 H2 (e.trans e2) _ fun y H3 e3 S3 => by
    obtain ⟨dx, t, hx, kt⟩ := (S.ex e3).a
    exact ⟨x, dx, _, .ref C, rfl, hx, S3.ty I cl, nf, x, .ref y, β, Ds, rfl, S.ex e3, .inl ⟨y, γ, Es, rfl, S3, fun H4 e4 => q H4 ((e2.trans e3).trans e4)⟩⟩
/-- repr of a text without great signs -/
theorem ev_reprT {x : Str} {n : Nat} (h : Ev te σ H (.str x)) (h1 : ∀ c ∈ tl x, c < 128) (h2 : x.length ≤ n) (hn : n ≤ 1000000) : Ev (tCB (rReprJ K) (tCons te tNil)) σ H (.str (PyData.str x).shown) := fun H1 e Q q => by
  have p : plainD (.str x) := fun c hc => by
    have := h1 c hc
    have e : (16 : Nat) ^ 8 = 4294967296 := by decide
    omega
  obtain ⟨a, b⟩ := shown_cap _ p
  have c : cap (.str x) ≤ 10 * n + 2 := by
    simp only [cap]
    omega
  exact h H1 e _ fun H2 e2 => ⟨_, .str x, rfl, .di (.dp (.str x)), a, by rw [sizeLine_eq]; omega, by simp [PyData.depth], q H2 e2⟩
/-- a list of a base and its rules -/
theorem ts_baseRules {β : Nat} {Ds : List PyData} (b10 : β ≤ 10) (t : Ts (.tuple Ds) 1100000 4) : Ts (.list [.int (β : Int), .tuple Ds]) 2300000 5 := by
  have ti : Ts (.int (β : Int)) 1100000 4 := (ts_int (i := (β : Int)) (by omega)).up (by omega) (by omega)
  have h := (TsAll.cons ti (TsAll.cons t .nil)).tup
  refine ⟨?_, ?_, ?_, ?_⟩
  · exact h.p
  · have := h.c
    simp only [List.length_cons, List.length_nil] at this
    have e : cap (.list [.int (β : Int), .tuple Ds]) ≤ cap (.tuple [.int (β : Int), .tuple Ds]) := by
      simp only [cap]
      omega
    omega
  · exact h.e
  · exact h.l
end
end Dt

/-! k03: the ranges that the law draws. -/
namespace Dg
open PySem L2 Evl TL
open Dr (StAt SameB spDraw TxO)
theorem SameB.trans {H H1 H2 : Hp} {p l : Addr} (a : SameB H H1 p l) (b : SameB H1 H2 p l) : SameB H H2 p l := fun x o e n1 n2 => b x o (a x o e n1 n2) n1 n2
theorem SameB.of {H H1 : Hp} {p l : Addr} (a : Ex H H1) : SameB H H1 p l := fun x o e _ _ => a x o e
theorem log2_lt9 {x : Nat} (h : x < 2 ^ 900) : x.log2 < 900 := by
  rcases Nat.eq_zero_or_pos x with z | z
  · subst z
    decide
  · exact (Nat.log2_lt (by omega)).mpr h
section
variable {P : Program} {w : World} {K : PySem.W.Frag} {mg : Str → Option Value} {base : Heap} {fm fdr fld flp : Addr}
def spLRange : Sp := fun vs H Q _ => ∃ (p c l : Addr) (n : Nat) (a : Int) (β many : Nat), vs = [.ref p, .int β, .int many] ∧ StAt H p c l n a ∧ l ≠ c ∧ a + 1000 < 2 ^ 39 ∧ 2 ≤ β ∧ β ≤ 10 ∧ 1 ≤ many ∧ many ≤ 200 ∧
  ∀ (t : Addr) (F S : Nat) (H' : Hp) (a' : Int), 1 ≤ F → F < S → S < 2 ^ 900 → S < β ^ (many + 12) → a ≤ a' → a' ≤ a + 405 → StAt H' p c l n a' → SameB H H' p l → H' t = some (.tup [.int F, .int S]) → (t ≠ p ∧ t ≠ l) → Q (.ref t) H'
abbrev nLRange : List Str := ["state", "base", "many", "first", "k", "size", "more", "way"]
theorem StAt.off {H : Hp} {p c l : Addr} {n : Nat} {a : Int} (S : StAt H p c l n a) {x : Addr} (h : H x = none) : x ≠ p ∧ x ≠ l := by
  obtain ⟨ls, hl, _⟩ := S.l
  exact ⟨(ne_of_none S.d h).symm, (ne_of_none hl h).symm⟩
end
end Dg

/-! k06: the law's own reading of the rules. -/
namespace Dg
open PySem L2 Evl TL
theorem tl_cutN (x : Str) {k : Nat} (h : 1 ≤ k) : tl (cutS x (some (-(k : Int))) none) = (tl x).drop ((tl x).length - k) := by
  show (((x.cps.toList.drop (HT.sIx x.length 0 (some (-(k : Int))))).take (HT.sIx x.length x.length none - HT.sIx x.length 0 (some (-(k : Int))))).toArray).toList = _
  have e1 : HT.sIx x.length 0 (some (-(k : Int))) = x.length - k := by
    show (if (-(k : Int)) < 0 then ((-(k : Int)) + (x.length : Int)).toNat else min (-(k : Int)).toNat x.length) = _
    rw [if_pos (by omega)]
    omega
  have hl : x.length = (tl x).length := len_t x
  rw [HT.sIx_none, e1]
  show (((tl x).drop (x.length - k)).take (x.length - (x.length - k))) = _
  rw [hl, List.take_of_length_le (by rw [List.length_drop]; omega)]
theorem tl_cutP (x : Str) (k : Nat) : tl (cutS x (some (k : Int)) none) = (tl x).drop k := by
  show (((x.cps.toList.drop (HT.sIx x.length 0 (some (k : Int)))).take (HT.sIx x.length x.length none - HT.sIx x.length 0 (some (k : Int)))).toArray).toList = _
  have hl : x.length = (tl x).length := len_t x
  rw [HT.sIx_none, HT.sIx_nat]
  show (((tl x).drop (min k x.length)).take (x.length - min k x.length)) = _
  rw [hl, List.take_of_length_le (by rw [List.length_drop]; omega)]
  rcases Nat.le_total k (tl x).length with z | z
  · rw [Nat.min_eq_left z]
  · rw [Nat.min_eq_right z, List.drop_of_length_le (Nat.le_refl _), List.drop_of_length_le z]
theorem ends_eq (t x : Str) (h1 : 1 ≤ x.length) (h2 : x.length ≤ 2) : Txt.endswith (cutS t (some (-2)) none) x = decide (cutS t (some (-(x.length : Int))) none = x) := by
  obtain ⟨e, he⟩ : ∃ e, e = cutS t (some (-2)) none := ⟨_, rfl⟩
  have te : tl e = (tl t).drop ((tl t).length - 2) := by
    rw [he]
    exact tl_cutN t (k := 2) (by decide)
  have le : e.length = (tl e).length := len_t e
  have lx : x.length = (tl x).length := len_t x
  have l2 : (tl e).length = min 2 (tl t).length := by
    rw [te, List.length_drop]
    omega
  rw [← he]
  have tc := tl_cutN t (k := x.length) h1
  have sub : Builtin.Str.subAt e x (e.length - x.length) = decide (((tl e).drop (e.length - x.length)).take x.length = tl x) := by
    show (e.cps.extract (e.length - x.length) (e.length - x.length + x.length) == x.cps) = _
    have h3 : (e.cps.extract (e.length - x.length) (e.length - x.length + x.length)).toList = ((tl e).drop (e.length - x.length)).take x.length := by
      rw [Array.toList_extract]
      show ((tl e).drop _).take _ = _
      rw [Nat.add_sub_cancel_left]
    by_cases hh : e.cps.extract (e.length - x.length) (e.length - x.length + x.length) = x.cps
    · rw [hh, decide_eq_true (by rw [← h3, hh])]
      exact beq_self_eq_true _
    · rw [decide_eq_false (fun z => hh (Array.toList_inj.mp (by rw [h3, z])))]
      exact beq_eq_false_iff_ne.mpr hh
  unfold Txt.endswith
  rw [sub]
  by_cases hle : x.length ≤ e.length
  · rw [decide_eq_true (by omega), Bool.true_and]
    refine decide_eq_decide.mpr ?_
    have e3 : ((tl e).drop (e.length - x.length)).take x.length = (tl t).drop ((tl t).length - x.length) := by
      rw [List.take_of_length_le (by rw [List.length_drop]; omega), te, List.drop_drop]
      congr 1
      omega
    rw [e3, ← tc]
    exact ⟨fun z => str_ext z, fun z => by rw [z]⟩
  · rw [decide_eq_false (by omega), Bool.false_and]
    refine (decide_eq_false fun z => ?_).symm
    have := congrArg tl z
    rw [tc] at this
    have := congrArg List.length this
    rw [List.length_drop] at this
    omega
end Dg
namespace Dt
open PySem L2 Evl Dg LamR LamX StX ClX TL
open Dr (StAt SameB)
theorem keptD_in {β f s : Nat} {Ds : List PyData} (good : RowS β Ds) (b2 : 2 ≤ β) (s1 : 1 ≤ s) : 1 ≤ keptD β f s Ds ∧ keptD β f s Ds ≤ (dl β s).length := by
  have hl : 1 ≤ (dl β s).length := by
    rw [dl_step b2 s1, List.length_cons]
    omega
  obtain ⟨d, hd⟩ : ∃ d, Ds[firstD β f s Ds]? = some d := ⟨_, List.getElem?_eq_getElem (firstD_lt good.1)⟩
  obtain ⟨cs, k, rfl, hc3, hcs, hks⟩ := good.at hd
  have hk : keptD β f s Ds = keepN β f s k := by
    unfold keptD
    rw [List.getD_eq_getElem?_getD, hd]
    rfl
  rw [hk]
  cases hks with
  | all => exact ⟨hl, Nat.le_refl _⟩
  | size w hw i h1 h6 =>
    show 1 ≤ (if w = "changed" then min (max (chgN β f s) i.toNat) (dl β s).length else min i.toNat (dl β s).length) ∧ (if w = "changed" then min (max (chgN β f s) i.toNat) (dl β s).length else min i.toNat (dl β s).length) ≤ _
    by_cases z : w = "changed"
    · rw [if_pos z]
      omega
    · rw [if_neg z]
      omega
theorem tailD_eq {β f s : Nat} {Ds : List PyData} (good : RowS β Ds) (b2 : 2 ≤ β) (s1 : 1 ≤ s) : cutS (digs β s) (some (((digs β s).length : Int) - (keptD β f s Ds : Int))) none = tailD β f s Ds := by
  obtain ⟨h1, h2⟩ := keptD_in (f := f) good b2 s1
  rw [← digs_len] at h2
  refine str_ext ?_
  unfold tailD
  rw [tl_cutN _ h1, show ((digs β s).length : Int) - (keptD β f s Ds : Int) = (((digs β s).length - keptD β f s Ds : Nat) : Int) by omega, tl_cutP, ← len_t]
theorem tailD_len {β f s : Nat} {Ds : List PyData} (good : RowS β Ds) (b2 : 2 ≤ β) (s1 : 1 ≤ s) : (tailD β f s Ds).length = keptD β f s Ds := by
  obtain ⟨h1, h2⟩ := keptD_in (f := f) good b2 s1
  rw [← digs_len] at h2
  have e : tl (tailD β f s Ds) = (tl (digs β s)).drop ((tl (digs β s)).length - keptD β f s Ds) := tl_cutN _ h1
  rw [len_t, e, List.length_drop, ← len_t]
  omega
structure TxZ (K : PySem.W.Frag) (mg : Str → Option Value) (fld flp flc flh flr flb flk : Addr) : Prop extends TxH K mg fld flp where
  min : mg "min" = none
  max : mg "max" = none
/-- a range in a base -/
structure RgN (β f s : Nat) : Prop where
  b2 : 2 ≤ β
  b10 : β ≤ 10
  f1 : 1 ≤ f
  lt : f < s
  s2 : s < 2 ^ 50000
theorem RgN.s1 {β f s : Nat} (r : RgN β f s) : 1 ≤ s := Nat.le_of_lt (Nat.lt_of_le_of_lt r.f1 r.lt)
theorem RgN.f2 {β f s : Nat} (r : RgN β f s) : f < 2 ^ 50000 := Nat.lt_trans r.lt r.s2
theorem RgN.lf {β f s : Nat} (r : RgN β f s) : (digs β f).length ≤ 50000 := digs_le r.b2 r.f2
theorem RgN.ls {β f s : Nat} (r : RgN β f s) : (digs β s).length ≤ 50000 := digs_le r.b2 r.s2
section
variable {P : Program} {w : World} {K : PySem.W.Frag} {mg : Str → Option Value} {base : Heap} {ca : Nat → Addr} {fld flp flc flh flr flb flk : Addr}
theorem ev_chgL {σ : St} {H : Hp} {t0 t1 t2 : TE} {E : XK} {β f s : Nat} (r : RgN β f s) (h0 : Ev t0 σ H (.int β)) (h1 : Ev t1 σ H (.int f)) (h2 : Ev t2 σ H (.int s)) : Ev (tCall spLChg [] E (tCons t0 (tCons t1 (tCons t2 tNil)))) σ H (.int (chgN β f s : Int)) :=
  ev_call (ea_cons h0 (ea_cons h1 (ea_cons h2 ea_nil))) fun H1 e Q q E => ⟨β, f, s, rfl, r.b2, r.b10, r.lt, r.s2, fun m hm H2 e2 => by
    rw [← chgN_eq hm]
    exact q H2 e2⟩
def spLHolds : Sp := fun vs H Q _ => ∃ (v : V) (D : PyData) (β f s : Nat), vs = [.int β, v, .int f, .int s] ∧ RgN β f s ∧ Pt H v D ∧ CondS β D ∧ RetV (.bl (holdsD β f s D)) H Q
abbrev nLHolds : List Str := ["base", "condition", "first", "second", "text", "size"]
end
end Dt

/-! Entries, as data: what the program's own defs tell of them. -/
namespace Dt
open PySem L2 Evl Dg LamR LamX StX ClX TL
open Dr (StAt SameB)
abbrev sNeedMan : Stmt := top 54
abbrev sIsItem : Stmt := top 55
abbrev sSpanOf : Stmt := top 56
abbrev sNeedEnt : Stmt := top 57
def numD : PyData → Bool
  | .int i => decide (1 ≤ i)
  | _ => false
/-- whether data is an item -/
def itemB (d : PyData) : Bool := if isT d = true then decide ((tupD d).length = 2) && (numD (at_ 0 d) && (numD (at_ 1 d) && decide (intD (at_ 0 d) < intD (at_ 1 d)))) else numD d
def spanA (d : PyData) : PyData := if isT d = true then at_ 0 d else d
def spanZ (d : PyData) : PyData := if isT d = true then at_ 1 d else d
/-- the place of the first thing that cannot stand -/
def entGo : Int → Nat → List PyData → Option PyData
  | _, _, [] => none
  | a, k, d :: ds => if (itemB d && decide (a < intD (spanA d))) = true then entGo (intD (spanZ d)) (k + 1) ds else some (.int (k : Int))
/-- what is refused of an entry -/
def dueE (d : PyData) : Option PyData := if (isT d && (decide (1 ≤ (tupD d).length) && decide ((tupD d).length ≤ 50))) = true then entGo 0 0 (tupD d) else some .none
def manB : PyData → Bool
  | .str x => decide (x = "full") || decide (x = "running")
  | _ => false
/-- an item's two numbers -/
structure Span (d : PyData) (f l : Nat) : Prop where
  f1 : 1 ≤ f
  fl : f ≤ l
  a : spanA d = .int (f : Int)
  z : spanZ d = .int (l : Int)
  t : isT d = true → d = .tuple [.int (f : Int), .int (l : Int)]
theorem item_span {d : PyData} (h : itemB d = true) : ∃ f l, Span d f l := by
  unfold itemB at h
  cases ht : isT d with
  | true =>
    rw [ht, if_pos rfl] at h
    simp only [Bool.and_eq_true] at h
    obtain ⟨h1, h2, h3, h4⟩ := h
    cases d with
    | tuple ds =>
      have h1 : ds.length = 2 := of_decide_eq_true h1
      match ds, h1 with
      | [x, y], _ =>
        cases x with
        | int i =>
          cases y with
          | int j =>
            have h2 : 1 ≤ i := of_decide_eq_true h2
            have h4 : i < j := of_decide_eq_true h4
            refine ⟨i.toNat, j.toNat, by omega, by omega, ?_, ?_, fun _ => ?_⟩
            · show PyData.int i = _
              rw [Int.toNat_of_nonneg (by omega)]
            · show PyData.int j = _
              rw [Int.toNat_of_nonneg (by omega)]
            · rw [Int.toNat_of_nonneg (by omega), Int.toNat_of_nonneg (by omega)]
          | _ => cases h3
        | _ => cases h2
    | _ => cases ht
  | false =>
    rw [ht, if_neg (by decide)] at h
    cases d with
    | int i =>
      have h : 1 ≤ i := of_decide_eq_true h
      refine ⟨i.toNat, i.toNat, by omega, by omega, ?_, ?_, fun z => nomatch z⟩
      · show PyData.int i = _
        rw [Int.toNat_of_nonneg (by omega)]
      · show PyData.int i = _
        rw [Int.toNat_of_nonneg (by omega)]
    | _ => cases h
theorem Pt.nm {K : PySem.W.Frag} {H : Hp} {v : V} {d : PyData} (h : Pt H v d) : Nm K H v (numD d) := by
  have k := h.kn (K := K)
  cases h with
  | int i => exact .int i
  | non => exact .oth k
  | bl b => exact .oth k
  | str x _ => exact .oth k
  | tup h _ => exact .oth k
  | lst h _ => exact .oth k
  | nil h => exact .oth k
/-- what is due: an exception of that class with that place, or G -/
structure DueC (C : Addr) (H : Hp) (E : XK) (o : Option PyData) (G : Prop) : Prop where
  bad : ∀ pl, o = some pl → Leaves C "place" (plV pl) H E
  ok : o = none → G
structure TxEn (K : PySem.W.Frag) (mg : Str → Option Value) (fnum fit fsp fnm fne am : Addr) (ca : Nat → Addr) : Prop where
  isNum : mg "is_number" = some (.ref fnum)
  kNum : PySem.W.keepIn K (.ref fnum) = true
  item : mg "is_item" = some (.ref fit)
  kIt : PySem.W.keepIn K (.ref fit) = true
  span : mg "span_of" = some (.ref fsp)
  kSp : PySem.W.keepIn K (.ref fsp) = true
  needM : mg "need_manner" = some (.ref fnm)
  kNM : PySem.W.keepIn K (.ref fnm) = true
  needE : mg "need_entry" = some (.ref fne)
  kNE : PySem.W.keepIn K (.ref fne) = true
  badMan : mg "BadManner" = some (.ref (ca 7))
  badEnt : mg "BadEntry" = some (.ref (ca 8))
  isi : mg "isinstance" = none
  tuple : mg "tuple" = none
  str : mg "str" = none
  len : mg "len" = none
  enum : mg "enumerate" = none
  sup : mg "super" = none
  mitems : ∃ t, mg "MOST_ITEMS" = some (.int 50 t)
  manners : mg "MANNERS" = some (.ref am)
  mn : ∀ H : Hp, SqT K H am [.str "full", .str "running"]
section
variable {P : Program} {w : World} {K : PySem.W.Frag} {mg : Str → Option Value} {base : Heap} {ca : Nat → Addr} {fnum fit fsp fnm fne am : Addr}
theorem in_man (r : Str) : inV (.str r) [.str "full", .str "running"] = (decide (r = "full") || decide (r = "running")) := by
  have e : inV (.str r) [.str "full", .str "running"] = ((("full" : Str) == r) || ((("running" : Str) == r) || false)) := rfl
  have one : ∀ a : Str, (a == r) = decide (r = a) := fun a => by
    by_cases h : r = a
    · rw [h, decide_eq_true rfl]
      exact beq_self_eq_true _
    · rw [decide_eq_false h]
      exact beq_eq_false_iff_ne.mpr (Ne.symm h)
  rw [e, Bool.or_false, one, one]
def spNeedMan (ca : Nat → Addr) : Sp := fun vs H Q E => ∃ v D, vs = [v] ∧ Pt H v D ∧ (manB D = false → Leaves (ca 7) "value" v H E) ∧ (manB D = true → RetV .non H Q)
theorem scNeedMan : FnScope ["manner"] ["manner"] (defScope sNeedMan) := ⟨rfl, rfl, rfl, by decide +kernel, rfl, by decide +kernel, by decide +kernel⟩
theorem ok_needMan {f : Addr} {fd : FuncData} (F : Fun K "need_manner" "need_manner" sNeedMan f fd) (M : Mks P K mg (ca 7) ["value"]) (T : TxEn K mg fnum fit fsp fnm fne am ca) : FnOk P w K mg base (L2.CX P w) 2 f fd ["manner"] (spNeedMan ca) := by
  refine F.okX scNeedMan (fun vs H Q E h => ?_) (fun cdv A outer s H vs Q E hr h => ?_)
  · obtain ⟨_, _, rfl, _⟩ := h
    rfl
  · obtain ⟨v, D, rfl, k, bad, good⟩ := h
    refine ⟨_, pss_one (ps_if (PW.pt (pw_or (pt_not (pt_val (pe_callB (r := rIsi K) call_isi (by rfl) T.isi (by decide +kernel) (pa_cons (pv 0) (pa_cons (pe_bltn (by rfl) T.str (by decide +kernel) (v := .ty "str") rfl) pa_nil)))))
        (pw_or1 (pt_cmpR op_notIn_seq (pv 0) (pe_glob (by rfl) T.manners (v := .ref am) rfl) (by rfl)))))
      (pss_one (ps_raise rfl (takes_of rfl rfl rfl rfl) (pmk_mks M T.sup hr (by simp) (pa_cons (pv 0) pa_nil) (by rfl) T.badMan))) pss_nil), ?_⟩
    have key : EvT (tOr (tNot (tTest (tCB (rIsi K) (tCons (tVar 0) (tCons (tC (.ty "str")) tNil))))) (tTest (tOp (rIn K true) (tVar 0) (tC (.ref am))))) (L2.start ["manner"] [v]) H (!manB D) := by
      cases hs : isS D with
      | true =>
        cases k with
        | str x z => exact et_is (et_or (a := false) (b := !manB (.str x)) (et_is (et_not (et_test (ev_isiS (ev_var rfl) (.str x z)))) rfl) fun _ => et_is (et_test (ev_op (ev_var rfl) ev_c (rv_niT (T.mn H) rfl rfl))) (by rw [in_man]; rfl)) (by simp)
        | _ => cases hs
      | false =>
        have hm : manB D = false := by cases D <;> first | rfl | cases hs
        rw [hm]
        exact et_is (et_or (a := true) (b := true) (et_is (et_not (et_test (ev_isiS (ev_var rfl) k))) (by rw [hs]; rfl)) fun z => nomatch z) rfl
    refine s_when (b := !manB D) key (fun z H1 e => ?_) (fun z H1 e => good (by simpa using z) H1 e)
    exact ⟨_, rfl, rfl, fun d hd => bad (by simpa using z) H1 d e hd⟩
theorem ev_numC {σ : St} {H : Hp} {te : TE} {v : V} {b : Bool} {E : XK} (h : Ev te σ H v) (k : Nm K H v b) (kx : ∀ H', Ex H H' → Nm K H' v b) : Ev (tCall (spIsNum K) [] E (tCons te tNil)) σ H (.bl b) :=
  ev_call (ea_cons h ea_nil) fun H1 e Q q E => ⟨v, b, rfl, kx H1 e, fun H2 e2 => q H2 e2⟩
def spItem : Sp := fun vs H Q _ => ∃ v D, vs = [v] ∧ Pt H v D ∧ RetV (.bl (itemB D)) H Q
theorem scItem : FnScope ["value"] ["value"] (defScope sIsItem) := ⟨rfl, rfl, rfl, by decide +kernel, rfl, by decide +kernel, by decide +kernel⟩
theorem ok_item {f : Addr} {fd fdn : FuncData} (F : Fun K "is_item" "is_item" sIsItem f fd) (GN : FnOk P w K mg base CX0 2 fnum fdn ["value"] (spIsNum K)) (bN : Binds K fdn ["value"] []) (T : TxEn K mg fnum fit fsp fnm fne am ca) : FnOk P w K mg base CX0 3 f fd ["value"] spItem := by
  refine F.ok scItem (fun vs H Q E h => ?_) (fun cdv A outer s H vs Q E hr h => ?_)
  · obtain ⟨_, _, rfl, _⟩ := h
    rfl
  · obtain ⟨v, D, rfl, k, q⟩ := h
    refine ⟨_, pss_cons (ps_if (pt_not (pt_val (pe_callB (r := rIsi K) call_isi (by rfl) T.isi (by decide +kernel) (pa_cons (pv 0) (pa_cons (pe_bltn (by rfl) T.tuple (by decide +kernel) (v := .ty "tuple") rfl) pa_nil)))))
        (pss_one (ps_ret (pe_call GN hr (by rfl) T.isNum T.kNum bN .nil pass0 (pa_cons (pv 0) pa_nil)))) pss_nil)
      (pss_one (ps_ret (pe_and (pe_cmpR op_eq (pe_callB (id := "len") (r := rLenS K) call_len_seq (by rfl) T.len (by decide +kernel) (pa_cons (pv 0) pa_nil)) pe_int (nomark _))
        (pe_and (pe_call GN hr (by rfl) T.isNum T.kNum bN .nil pass0 (pa_cons (pe_ix (r := rIxT K) ix_tup (pv 0) pe_int (fun _ _ => rfl)) pa_nil))
        (pe_and (pe_call GN hr (by rfl) T.isNum T.kNum bN .nil pass0 (pa_cons (pe_ix (r := rIxT K) ix_tup (pv 0) pe_int (fun _ _ => rfl)) pa_nil))
        (pe_one (pe_cmpR op_lt (pe_ix (r := rIxT K) ix_tup (pv 0) pe_int (fun _ _ => rfl)) (pe_ix (r := rIxT K) ix_tup (pv 0) pe_int (fun _ _ => rfl)) (nomark _)))))))), ?_⟩
    refine q_when (b := !isT D) (et_not (et_test (ev_isiT (ev_var rfl) k))) (fun z H1 e1 => ?_) (fun z H1 e1 => ?_)
    · have ht : isT D = false := by simpa using z
      refine s_ret (ev_numC (b := numD D) (ev_var rfl) (k.ex e1).nm fun H' e' => (k.ex (e1.trans e')).nm) fun H2 e2 => ?_
      have := q H2 (e1.trans e2)
      rw [show itemB D = numD D by unfold itemB; rw [ht]; rfl] at this
      exact this
    · have ht : isT D = true := by simpa using z
      cases D with
      | tuple ds =>
        obtain ⟨a, vs, rfl, ha, ka⟩ := k.tupI'
        have ha1 := e1 _ _ ha
        have hl := ka.length
        have e : itemB (.tuple ds) = (decide (ds.length = 2) && (numD (ds.getD 0 .none) && (numD (ds.getD 1 .none) && decide (intD (ds.getD 0 .none) < intD (ds.getD 1 .none))))) := rfl
        rw [e] at q
        refine s_ret (v := .bl (decide (ds.length = 2) && (numD (ds.getD 0 .none) && (numD (ds.getD 1 .none) && decide (intD (ds.getD 0 .none) < intD (ds.getD 1 .none)))))) ?_ fun H2 e2 => q H2 (e1.trans e2)
        refine ev_andV (ev_is (ev_op (ev_lenT (K := K) (ev_var rfl) ha1) (ev_c (v := .int 2)) (rv_eq rfl)) ?_) fun h2 => ?_
        · rw [hl]
          congr 1
          exact decide_eq_decide.mpr ⟨fun h => by injection h with h; omega, fun h => by rw [h]; rfl⟩
        · have h2 := of_decide_eq_true h2
          cases ka with
          | @cons v0 d0 _ _ k0 ka =>
            cases ka with
            | @cons v1 d1 _ _ k1 ka =>
              cases ka with
              | cons _ _ => simp at h2
              | nil =>
                have i0 : Ev (tOp (rIxT K) (tVar 0) (tC (.int 0))) (L2.start ["value"] [.ref a]) H1 v0 := ev_op (ev_var rfl) ev_c (rv_ixT (st_of ha1) rfl)
                have i1 : Ev (tOp (rIxT K) (tVar 0) (tC (.int 1))) (L2.start ["value"] [.ref a]) H1 v1 := ev_op (ev_var rfl) ev_c (rv_ixT (st_of ha1) rfl)
                refine ev_andV (ev_numC (b := numD d0) i0 (k0.ex e1).nm fun H' e' => (k0.ex (e1.trans e')).nm) fun n0 => ?_
                refine ev_andV (ev_numC (b := numD d1) i1 (k1.ex e1).nm fun H' e' => (k1.ex (e1.trans e')).nm) fun n1 => ?_
                cases k0 with
                | int i =>
                  cases k1 with
                  | int j => exact ev_op i0 i1 rv_I0
                  | _ => cases n1
                | _ => cases n0
            | nil => simp at h2
          | nil => simp at h2
      | _ => cases ht
def spSpanOf : Sp := fun vs H Q _ => ∃ v D f l, vs = [v] ∧ Pt H v D ∧ Span D f l ∧ ∀ t H', Ex H H' → H' t = some (.tup [.int (f : Nat), .int (l : Nat)]) → Q (.ref t) H'
theorem scSpanOf : FnScope ["item"] ["item"] (defScope sSpanOf) := ⟨rfl, rfl, rfl, by decide +kernel, rfl, by decide +kernel, by decide +kernel⟩
theorem ok_spanOf {f : Addr} {fd : FuncData} (F : Fun K "span_of" "span_of" sSpanOf f fd) (T : TxEn K mg fnum fit fsp fnm fne am ca) : FnOk P w K mg base CX0 1 f fd ["item"] spSpanOf := by
  refine F.ok scSpanOf (fun vs H Q E h => ?_) (fun cdv A outer s H vs Q E hr h => ?_)
  · obtain ⟨_, _, _, _, rfl, _⟩ := h
    rfl
  · obtain ⟨v, D, f, l, rfl, k, S, q⟩ := h
    refine ⟨_, pss_one (ps_ret (pe_ifExp (pt_val (pe_callB (r := rIsi K) call_isi (by rfl) T.isi (by decide +kernel) (pa_cons (pv 0) (pa_cons (pe_bltn (by rfl) T.tuple (by decide +kernel) (v := .ty "tuple") rfl) pa_nil)))) (pv 0) (pe_tup (pa_cons (pv 0) (pa_cons (pv 0) pa_nil))))), ?_⟩
    refine (et_test (ev_isiT (ev_var rfl) k)) H (Ex.refl H) _ fun H1 e1 => ?_
    cases ht : isT D with
    | true =>
      have e := S.t ht
      subst e
      obtain ⟨a, vs, rfl, ha, ka⟩ := k.tupI'
      cases ka with
      | cons k0 ka =>
        cases ka with
        | cons k1 ka =>
          cases ka
          cases k0
          cases k1
          exact iteT ⟨_, rfl, q a H1 e1 (e1 _ _ ha)⟩
    | false =>
      have e : D = .int (f : Int) := by
        have := S.a
        unfold spanA at this
        rw [ht] at this
        exact this
      have e2 : f = l := by
        have := S.z
        unfold spanZ at this
        rw [ht, if_neg (by decide), e] at this
        injection this with this
        omega
      subst e e2
      cases k
      exact iteF ⟨_, rfl, _, rfl, (by show (2 : Nat) ≤ sizeLine; rw [sizeLine_eq]; omega), fun t nt => q t _ (e1.trans (Ex.new nt)) upd_same⟩
/-- an item's number by its place -/
theorem ev_spanAt {σ : St} {H : Hp} {te : TE} {v : V} {d : PyData} {f l : Nat} {j : Nat} {z : Nat} {E : XK} (h : Ev te σ H v) (k : Pt H v d) (S : Span d f l) (hz : ([V.int (f : Nat), .int (l : Nat)])[j]? = some (.int (z : Nat))) : Ev (tOp (rIxT K) (tCall spSpanOf [] E (tCons te tNil)) (tC (.int (j : Nat)))) σ H (.int (z : Nat)) := fun H1 e Q q =>
  h H1 e _ fun H2 e2 => ⟨v, d, f, l, rfl, k.ex (e.trans e2), S, fun t H3 e3 ht => ⟨t, _, _, _, rfl, rfl, st_of ht, atI_nat hz, q H3 (e2.trans e3)⟩⟩
def spNeedEnt (ca : Nat → Addr) : Sp := fun vs H Q E => ∃ v D, vs = [v] ∧ Pt H v D ∧ DueC (ca 8) H E (dueE D) (RetV v H Q)
theorem scNeedEnt : FnScope ["value", "ahead", "number", "item"] ["value"] (defScope sNeedEnt) := ⟨rfl, rfl, rfl, by decide +kernel, rfl, by decide +kernel, by decide +kernel⟩
theorem ok_needEnt {f : Addr} {fd fdi fds : FuncData} (F : Fun K "need_entry" "need_entry" sNeedEnt f fd) (GI : FnOk P w K mg base CX0 3 fit fdi ["value"] spItem) (bI : Binds K fdi ["value"] []) (GS : FnOk P w K mg base CX0 3 fsp fds ["item"] spSpanOf) (bS : Binds K fds ["item"] [])
    (M : Mks P K mg (ca 8) ["place"]) (T : TxEn K mg fnum fit fsp fnm fne am ca) : FnOk P w K mg base (L2.CX P w) 4 f fd ["value"] (spNeedEnt ca) := by
  refine F.okX scNeedEnt (fun vs H Q E h => ?_) (fun cdv A outer s H vs Q E hr h => ?_)
  · obtain ⟨_, _, rfl, _⟩ := h
    rfl
  · obtain ⟨v, D, rfl, k, due⟩ := h
    obtain ⟨tm, hm⟩ := T.mitems
    refine ⟨_, pss_cons (ps_if (PW.pt (pw_or (pt_not (pt_val (pe_callB (r := rIsi K) call_isi (by rfl) T.isi (by decide +kernel) (pa_cons (pv 0) (pa_cons (pe_bltn (by rfl) T.tuple (by decide +kernel) (v := .ty "tuple") rfl) pa_nil)))))
        (pw_or1 (pt_not (pt_chain op_le op_le pe_int (pe_callB (id := "len") (r := rLenS K) call_len_seq (by rfl) T.len (by decide +kernel) (pa_cons (pv 0) pa_nil)) (pe_glob (by rfl) hm (v := .int 50) ⟨_, rfl⟩))))))
        (pss_one (ps_raise rfl (takes_of rfl rfl rfl rfl) (pmk_mks M T.sup hr (by simp) (pa_cons pe_non pa_nil) (by rfl) T.badEnt))) pss_nil)
      (pss_cons (ps_set (i := 1) scNeedEnt.nd rfl (.inl rfl) pe_int)
      (pss_cons (ps_for (passes_of rfl) rfl (pi_enumT (by rfl) T.enum (pa_cons (pv 0) pa_nil)) (pg_tup (by rfl) (pgs_cons (pg_name (i := 2) scNeedEnt.nd rfl (.inl rfl)) (pgs_cons (pg_name (i := 3) scNeedEnt.nd rfl (.inl rfl)) pgs_nil)))
        (pss_cons (ps_if (PW.pt (pw_or (pt_not (pt_val (pe_call GI hr (by rfl) T.item T.kIt bI .nil pass0 (pa_cons (pv 3) pa_nil))))
            (pw_or1 (pt_cmpR op_le (pe_ix (r := rIxT K) ix_tup (pe_call GS hr (by rfl) T.span T.kSp bS .nil pass0 (pa_cons (pv 3) pa_nil)) pe_int (fun _ _ => rfl)) (pv 1) (nomark _)))))
          (pss_one (ps_raise rfl (takes_of rfl rfl rfl rfl) (pmk_mks M T.sup hr (by simp) (pa_cons (pv 2) pa_nil) (by rfl) T.badEnt))) pss_nil)
        (pss_one (ps_set (i := 1) scNeedEnt.nd rfl (.inl rfl) (pe_ix (r := rIxT K) ix_tup (pe_call GS hr (by rfl) T.span T.kSp bS .nil pass0 (pa_cons (pv 3) pa_nil)) pe_int (fun _ _ => rfl))))))
      (pss_one (ps_ret (pv 0))))), ?_⟩
    have key : EvT (tOr (tNot (tTest (tCB (rIsi K) (tCons (tVar 0) (tCons (tC (.ty "tuple")) tNil))))) (tNot (tTest (tChain (rI0 fun i j => V.bl (decide (i ≤ j))) (rI0 fun i j => V.bl (decide (i ≤ j))) (tC (.int 1)) (tCB (rLenS K) (tCons (tVar 0) tNil)) (tC (.int 50)))))) (L2.start ["value", "ahead", "number", "item"] [v]) H (!(isT D && (decide (1 ≤ (tupD D).length) && decide ((tupD D).length ≤ 50)))) := by
      refine et_is (et_or (a := !isT D) (b := !(decide (1 ≤ (tupD D).length) && decide ((tupD D).length ≤ 50))) (et_not (et_test (ev_isiT (ev_var rfl) k))) fun z => ?_) (by cases isT D <;> simp)
      have ht : isT D = true := by simpa using z
      cases D with
      | tuple ds =>
        obtain ⟨a, vs, rfl, ha, ka⟩ := k.tupI'
        have hl := ka.length
        refine et_is (et_not (et_test (ev_chI ev_c (ev_lenT (K := K) (ev_var rfl) ha) ev_c))) ?_
        rw [hl]
        show (!(decide (1 ≤ (ds.length : Int)) && decide ((ds.length : Int) ≤ 50))) = !(decide (1 ≤ ds.length) && decide (ds.length ≤ 50))
        congr 1
        congr 1 <;> exact decide_eq_decide.mpr (by omega)
      | _ => cases ht
    refine q_when key (fun z H1 e1 => ?_) (fun z H1 e1 => ?_)
    · have hd : dueE D = some .none := by
        unfold dueE
        rw [Bool.not_eq_true'] at z
        rw [z]
        rfl
      exact ⟨rfl, fun d hd' => due.bad _ hd H1 d e1 hd'⟩
    · rw [Bool.not_eq_false'] at z
      have ht := (Bool.and_eq_true_iff.mp z).1
      have hd : dueE D = entGo 0 0 (tupD D) := by
        unfold dueE
        rw [z]
        rfl
      cases D with
      | tuple ds =>
        obtain ⟨a, vs, rfl, ha, ka⟩ := k.tupI'
        have hd : dueE (.tuple ds) = entGo 0 0 ds := hd
        refine q_asg ev_c fun H2 e2 => ?_
        have e12 := e1.trans e2
        refine ⟨_, rfl, a, vs, rfl, st_of (e12 _ _ ha), for_enumT (xs := vs) (fun i σ' H' => (∃ (b : Int) (x2 x3 : Option V), σ' = [some (.ref a), some (.int b), x2, x3] ∧ entGo 0 0 ds = entGo b i (ds.drop i)) ∧ Ex H H')
          ⟨⟨0, _, _, rfl, rfl⟩, e12⟩ (fun i σ' H' _ hI => st_of (hI.2 _ _ ha)) (fun i x T' σ' H' hx hI hT => ?_) (fun σ' H' hI => ?_)⟩
        · obtain ⟨⟨b, x2, x3, rfl, hg⟩, e3⟩ := hI
          obtain ⟨dx, hdx, kx⟩ := ka.get2 hx
          have e4 := e3.trans (Ex.new (o := .tup [.int (i : Nat), x]) hT)
          have hdr : ds.drop i = dx :: ds.drop (i + 1) := by
            obtain ⟨h1, h2⟩ := List.getElem?_eq_some_iff.mp hdx
            rw [List.drop_eq_getElem_cons h1, h2]
          rw [hdr] at hg
          have hgo : entGo b i (dx :: ds.drop (i + 1)) = if (itemB dx && decide (b < intD (spanA dx))) = true then entGo (intD (spanZ dx)) (i + 1) (ds.drop (i + 1)) else some (.int (i : Int)) := rfl
          refine ⟨T', _, rfl, st_of upd_same, rfl, _, _, rfl, _, _, rfl, rfl, ?_⟩
          refine q_when (b := !(itemB dx && decide (b < intD (spanA dx)))) ?_ (fun z4 H4 e5 => ?_) (fun z4 H4 e5 => ?_)
          · refine et_is (et_or (a := !itemB dx) (b := !decide (b < intD (spanA dx))) (et_not (et_test (ev_call (z := .bl (itemB dx)) (ea_cons (ev_var rfl) ea_nil) fun H5 e6 Q6 q6 E6 => ⟨x, dx, rfl, (kx.ex e4).ex e6, fun H7 e7 => q6 H7 e7⟩))) fun zi => ?_) (by cases itemB dx <;> simp)
            have zi : itemB dx = true := by simpa using zi
            obtain ⟨f1, l1, S⟩ := item_span zi
            refine et_is (et_test (ev_op (ev_spanAt (j := 0) (z := f1) (ev_var rfl) (kx.ex e4) S rfl) (ev_var rfl) rv_I0)) ?_
            rw [S.a]
            show decide ((f1 : Int) ≤ b) = !decide (b < (f1 : Int))
            rw [← decide_not]
            exact decide_eq_decide.mpr (by omega)
          · rw [Bool.not_eq_true'] at z4
            rw [hgo, z4] at hg
            exact ⟨_, rfl, rfl, fun d hd' => due.bad (.int (i : Int)) (by rw [hd, hg]; rfl) H4 d (e4.trans e5) hd'⟩
          · rw [Bool.not_eq_false'] at z4
            rw [hgo, z4, if_pos rfl] at hg
            obtain ⟨f1, l1, S⟩ := item_span (Bool.and_eq_true_iff.mp z4).1
            refine s_asg (ev_spanAt (j := 1) (z := l1) (ev_var rfl) ((kx.ex e4).ex e5) S rfl) fun H6 e6 => ?_
            rw [S.z] at hg
            exact ⟨⟨(l1 : Int), _, _, rfl, hg⟩, (e4.trans e5).trans e6⟩
        · obtain ⟨⟨b, x2, x3, rfl, hg⟩, e3⟩ := hI
          have hl := ka.length
          rw [hl, List.drop_length] at hg
          exact s_ret (ev_var rfl) fun H4 e4 => due.ok (by rw [hd, hg]; rfl) H4 (e3.trans e4)
      | _ => cases ht
end
end Dt

namespace Told
open PySem L2 Evl LamR LamX
abbrev stR : Stmt := PySem.Challenge.pw_shortspans_k23_entries_checked.main.body.getD 74 (.Pass ⟨0, 0, 0, 0⟩)
def wdN : Nat → Str
  | 1 => "base"
  | 2 => "number"
  | 3 => "digits"
  | 4 => "range"
  | 5 => "rule"
  | 6 => "reader"
  | 7 => "manner"
  | 8 => "entry"
  | 9 => "name"
  | 10 => "text"
  | 11 => "other"
  | 12 => "many"
  | 13 => "missing"
  | _ => "nothing"
def fdN : Nat → Str
  | 5 => "place"
  | 8 => "place"
  | 12 => "most"
  | 13 => "name"
  | _ => "value"
/-- an exception of the class with number n, with its dict; what is told of it behind its word -/
def Says (ca : Nat → Addr) (H : Hp) (cls : Value) (d : Option Addr) (n : Nat) (vs : List V) : Prop :=
  cls = .ref (ca n) ∧ 1 ≤ n ∧ n ≤ 14 ∧ (((n = 11 ∨ n = 14) ∧ d = none ∧ vs = []) ∨ (n = 10 ∧ ∃ dd a b, d = some dd ∧ H dd = some (.xd [("word", b), ("line", a)]) ∧ vs = [a, b]) ∨
    (n ≠ 10 ∧ n ≠ 11 ∧ n ≠ 14 ∧ ∃ dd v, d = some dd ∧ H dd = some (.xd [(fdN n, v)]) ∧ vs = [v]))
/-- what _law_raised makes of a lambda's reading; fl: its own list, ahead of the call -/
def TTold (ca : Nat → Addr) : (XK → Hp → VK → Prop) → Hp → VK → Prop := fun tl H Q => ∀ fl, H fl = none →
  tl (fun cls d H' => Ex (upd H fl (.lst [])) H' ∧ ∃ n vs, Says ca H' cls d n vs ∧ ∀ rt H2, (upd H fl (.lst [])) rt = none → (∀ b o, H' b = some o → b ≠ fl → H2 b = some o) → H2 rt = some (.tup (.str (wdN n) :: vs)) → Q (.ref rt) H2)
    (upd H fl (.lst [])) (fun v H' => Ex (upd H fl (.lst [])) H' ∧ ∀ rt H2, (upd H fl (.lst [])) rt = none → Ex H' H2 → H2 rt = some (.tup []) → Q (.ref rt) H2)
structure TxT (mg : Str → Option Value) (ca : Nat → Addr) : Prop where
  own : ∀ i, i < 15 → mg (Toy.nmN i) = some (.ref (ca i))
  isi : mg "isinstance" = none
  len : mg "len" = none
/-- what the classes' rows say -/
structure RwT (K : PySem.W.Frag) (ca : Nat → Addr) : Prop where
  xc : ∀ i, 1 ≤ i → i ≤ 14 → XcC K (ca i)
  kit : ∀ n i, 1 ≤ n → n ≤ 14 → 1 ≤ i → i ≤ 14 → PySem.W.kitOne K (.ref (ca n)) (.ref (ca i)) = some (decide (i = n))
  exm : ∀ n, 1 ≤ n → n ≤ 14 → PySem.W.exmAny K (.ref (ca n)) [.ref (ca 0), .ref (ca 12), .ref (ca 13), .ref (ca 14)] = some true
  no : ∀ i, 1 ≤ i → i ≤ 14 → i ≠ 10 → i ≠ 11 → i ≠ 14 → PySem.W.findIn K (.ref (ca i)) (fdN i) = some none
  line : PySem.W.findIn K (.ref (ca 10)) "line" = some none
  word : PySem.W.findIn K (.ref (ca 10)) "word" = some none
theorem scR : FnScope ["asked", "caught", "found", "e"] ["asked"] (defScope stR) := ⟨rfl, rfl, rfl, by decide +kernel, rfl, by decide +kernel, by decide +kernel⟩
/-- behind the first i of the fourteen questions -/
def Mid (f a fl : Addr) (H3 : Hp) (n : Nat) (vs : List V) (i : Nat) : St → Hp → Prop := fun σ H2 => σ = [some (.ref f), some (.ref a), some (.ref fl), none] ∧ (∀ b o, H3 b = some o → b ≠ fl → H2 b = some o) ∧
  ((i < n ∧ H2 fl = some (.lst [])) ∨ (n ≤ i ∧ ∃ rt, H3 rt = none ∧ H2 fl = some (.lst [.ref rt]) ∧ H2 rt = some (.tup (.str (wdN n) :: vs))))
theorem mid_step {K : PySem.W.Frag} {ca : Nat → Addr} {f a fl : Addr} {H3 H2 : Hp} {n i : Nat} {vs : List V} {d : Option Addr} {te : TE} {D : Ends} {σ : St} (R : RwT K ca) (n1 : 1 ≤ n) (n14 : n ≤ 14) (i1 : 1 ≤ i) (i14 : i ≤ 14) (x : Toy.ExAt H3 a (ca n) d) (afl : a ≠ fl)
    (dfl : ∀ dd, d = some dd → dd ≠ fl) (hte : i = n → ∀ H2 : Hp, (∀ b o, H3 b = some o → b ≠ fl → H2 b = some o) → EvU te [some (.ref f), some (.ref a), some (.ref fl), none] H2 (.str (wdN n) :: vs)) (m : Mid f a fl H3 n vs (i - 1) σ H2) :
    tIfS (tB (tCB (rIsX K) (tCons (tVar 1) (tCons (tC (.ref (ca i))) tNil)))) (tDrop (tBM K "list" rAppend (tVar 2) (tCons te tNil))) tNext { D with nx := Mid f a fl H3 n vs i } σ H2 := by
  obtain ⟨rfl, kp, alt⟩ := m
  refine s_when (b := decide (i = n)) (et_B (ev_cb (ea_cons (ev_var rfl) (ea_cons ev_c ea_nil)) fun H4 e4 Q q => ⟨a, ca n, d, .ref (ca i), _, _, rfl, .own _, e4 _ _ (kp _ _ x.1 afl), fun dx z => ?_, R.xc n n1 n14, R.kit n i n1 n14 i1 i14, q _ (Ex.refl _)⟩)) (fun z H4 e4 => ?_) (fun z H4 e4 => ?_)
  · obtain ⟨fs, h⟩ := x.2 dx z
    exact ⟨fs, e4 _ _ (kp _ _ h (dfl dx z))⟩
  · have hin := of_decide_eq_true z
    rcases alt with ⟨_, hf⟩ | ⟨z2, _⟩
    · refine s_appU (e4 _ _ hf) (ev_var rfl) (hte hin H4 fun b o e nb => e4 _ _ (kp b o e nb)) (by simp) fun p H5 hp e5 h5 => ?_
      have pf : p ≠ fl := fun z => by
        rw [z, e4 _ _ hf] at hp
        cases hp
      refine ⟨rfl, fun b o e nb => ?_, .inr ⟨by omega, p, ?_, upd_same, ?_⟩⟩
      · rw [upd_ne nb]
        exact e5 _ _ (e4 _ _ (kp b o e nb))
      · cases q : H3 p with
        | none => rfl
        | some o =>
          have := e4 _ _ (kp p o q pf)
          rw [this] at hp
          cases hp
      · rw [upd_ne pf]
        exact h5
    · omega
  · have hin : ¬ i = n := of_decide_eq_false z
    refine ⟨rfl, fun b o e nb => e4 _ _ (kp b o e nb), ?_⟩
    rcases alt with ⟨z2, hf⟩ | ⟨z2, rt, h1, h2, h3⟩
    · exact .inl ⟨by omega, e4 _ _ hf⟩
    · exact .inr ⟨by omega, rt, h1, e4 _ _ h2, e4 _ _ h3⟩
section
variable {X : Cx} {q : Str} {g : Addr} {cdg : Value} {ca : Nat → Addr}
theorem raised_gives (T : TxT X.mg ca) (R : RwT X.K ca) : GivesR X ["asked", "caught", "found", "e"] "_law_raised" (defScope stR) g cdg (defBody stR) "asked" q (TTold ca) := by
  intro f c' s H Q tl act hc h
  let X0 : Cx := (cxOf C8.CX0 X.prog X.w X.K X.mg X.base ["asked", "caught", "found", "e"] "_law_raised" (defScope stR) g cdg X.A X.stack s H C8.E0).nox
  refine ⟨_, (pss_cons (ps_par (i := 1) (j := 2) (by rfl) scR.nd rfl rfl (by decide) rfl rfl (pa_cons pe_non (pa_cons (pe_lst pa_nil) pa_nil)) (by rfl)) (pss_cons (ps_try_asT (X := X0) (i := 3) (tb := fun W D σ H => σ[0]? = some (some (V.ref f)) ∧ H c' = some (CodeO c' q) ∧ ∃ (E : XK) (Q' : VK), (∀ cls d H', E cls d H' → W cls d σ H') ∧ (∀ v H', Q' v H' → D.nx σ H') ∧ tl E H Q') rfl rfl scR.nd rfl rfl (.cons (by rfl) (T.own 0 (by decide)) (by decide) (.cons (by rfl) (T.own 12 (by decide)) (by decide) (.cons (by rfl) (T.own 13 (by decide)) (by decide) (.cons (by rfl) (T.own 14 (by decide)) (by decide) .nil)))) rfl L2.takes0 (fun W pn xe tk _ => ⟨fun pins s' σ H' D I h' => (pss_one (ps_expr (act W pn xe _ _ tk))).run pins s' σ H' D I (show tDrop (fun σZ HZ Q => σZ[0]? = some (some (V.ref f)) ∧ HZ c' = some (CodeO c' q) ∧ ∃ (E : XK) (Q' : VK), (∀ cls d H', E cls d H' → W cls d σZ H') ∧ (∀ v H', Q' v H' → Q v H') ∧ tl E HZ Q') D σ H' from h')⟩) (fun a oe cls d pn hz hf => pss_one (ps_set (i := 1) scR.nd rfl (.inl rfl) (pv 3)))) (pss_cons (ps_if (pt_cmpR op_isN (pv 1) pe_non (nomark _)) (pss_one (ps_ret (pe_tup pa_nil))) pss_nil) (pss_cut (ps_if (pt_val (pe_callB call_isX (by rfl) T.isi (by decide +kernel) (pa_cons (pv 1) (pa_cons (pe_glob (by rfl) (T.own 1 (by decide)) (v := .ref (ca 1)) rfl) pa_nil)))) (pss_one (ps_expr (pe_bm PySem.F.plainAttrs_list PySem.F.slot_list_append PySem.F.type_list_append mt_append (pv 2) (pa_cons (pe_tup (pa_cons pe_str (pa_cons (pe_xfT (pv 1)) pa_nil))) pa_nil)))) pss_nil) (pss_cut (ps_if (pt_val (pe_callB call_isX (by rfl) T.isi (by decide +kernel) (pa_cons (pv 1) (pa_cons (pe_glob (by rfl) (T.own 2 (by decide)) (v := .ref (ca 2)) rfl) pa_nil)))) (pss_one (ps_expr (pe_bm PySem.F.plainAttrs_list PySem.F.slot_list_append PySem.F.type_list_append mt_append (pv 2) (pa_cons (pe_tup (pa_cons pe_str (pa_cons (pe_xfT (pv 1)) pa_nil))) pa_nil)))) pss_nil) (pss_cut (ps_if (pt_val (pe_callB call_isX (by rfl) T.isi (by decide +kernel) (pa_cons (pv 1) (pa_cons (pe_glob (by rfl) (T.own 3 (by decide)) (v := .ref (ca 3)) rfl) pa_nil)))) (pss_one (ps_expr (pe_bm PySem.F.plainAttrs_list PySem.F.slot_list_append PySem.F.type_list_append mt_append (pv 2) (pa_cons (pe_tup (pa_cons pe_str (pa_cons (pe_xfT (pv 1)) pa_nil))) pa_nil)))) pss_nil) (pss_cut (ps_if (pt_val (pe_callB call_isX (by rfl) T.isi (by decide +kernel) (pa_cons (pv 1) (pa_cons (pe_glob (by rfl) (T.own 4 (by decide)) (v := .ref (ca 4)) rfl) pa_nil)))) (pss_one (ps_expr (pe_bm PySem.F.plainAttrs_list PySem.F.slot_list_append PySem.F.type_list_append mt_append (pv 2) (pa_cons (pe_tup (pa_cons pe_str (pa_cons (pe_xfT (pv 1)) pa_nil))) pa_nil)))) pss_nil) (pss_cut (ps_if (pt_val (pe_callB call_isX (by rfl) T.isi (by decide +kernel) (pa_cons (pv 1) (pa_cons (pe_glob (by rfl) (T.own 5 (by decide)) (v := .ref (ca 5)) rfl) pa_nil)))) (pss_one (ps_expr (pe_bm PySem.F.plainAttrs_list PySem.F.slot_list_append PySem.F.type_list_append mt_append (pv 2) (pa_cons (pe_tup (pa_cons pe_str (pa_cons (pe_xfT (pv 1)) pa_nil))) pa_nil)))) pss_nil) (pss_cut (ps_if (pt_val (pe_callB call_isX (by rfl) T.isi (by decide +kernel) (pa_cons (pv 1) (pa_cons (pe_glob (by rfl) (T.own 6 (by decide)) (v := .ref (ca 6)) rfl) pa_nil)))) (pss_one (ps_expr (pe_bm PySem.F.plainAttrs_list PySem.F.slot_list_append PySem.F.type_list_append mt_append (pv 2) (pa_cons (pe_tup (pa_cons pe_str (pa_cons (pe_xfT (pv 1)) pa_nil))) pa_nil)))) pss_nil) (pss_cut (ps_if (pt_val (pe_callB call_isX (by rfl) T.isi (by decide +kernel) (pa_cons (pv 1) (pa_cons (pe_glob (by rfl) (T.own 7 (by decide)) (v := .ref (ca 7)) rfl) pa_nil)))) (pss_one (ps_expr (pe_bm PySem.F.plainAttrs_list PySem.F.slot_list_append PySem.F.type_list_append mt_append (pv 2) (pa_cons (pe_tup (pa_cons pe_str (pa_cons (pe_xfT (pv 1)) pa_nil))) pa_nil)))) pss_nil) (pss_cut (ps_if (pt_val (pe_callB call_isX (by rfl) T.isi (by decide +kernel) (pa_cons (pv 1) (pa_cons (pe_glob (by rfl) (T.own 8 (by decide)) (v := .ref (ca 8)) rfl) pa_nil)))) (pss_one (ps_expr (pe_bm PySem.F.plainAttrs_list PySem.F.slot_list_append PySem.F.type_list_append mt_append (pv 2) (pa_cons (pe_tup (pa_cons pe_str (pa_cons (pe_xfT (pv 1)) pa_nil))) pa_nil)))) pss_nil) (pss_cut (ps_if (pt_val (pe_callB call_isX (by rfl) T.isi (by decide +kernel) (pa_cons (pv 1) (pa_cons (pe_glob (by rfl) (T.own 9 (by decide)) (v := .ref (ca 9)) rfl) pa_nil)))) (pss_one (ps_expr (pe_bm PySem.F.plainAttrs_list PySem.F.slot_list_append PySem.F.type_list_append mt_append (pv 2) (pa_cons (pe_tup (pa_cons pe_str (pa_cons (pe_xfT (pv 1)) pa_nil))) pa_nil)))) pss_nil) (pss_cut (ps_if (pt_val (pe_callB call_isX (by rfl) T.isi (by decide +kernel) (pa_cons (pv 1) (pa_cons (pe_glob (by rfl) (T.own 10 (by decide)) (v := .ref (ca 10)) rfl) pa_nil)))) (pss_one (ps_expr (pe_bm PySem.F.plainAttrs_list PySem.F.slot_list_append PySem.F.type_list_append mt_append (pv 2) (pa_cons (pe_tup (pa_cons pe_str (pa_cons (pe_xfT (pv 1)) (pa_cons (pe_xfT (pv 1)) pa_nil)))) pa_nil)))) pss_nil) (pss_cut (ps_if (pt_val (pe_callB call_isX (by rfl) T.isi (by decide +kernel) (pa_cons (pv 1) (pa_cons (pe_glob (by rfl) (T.own 11 (by decide)) (v := .ref (ca 11)) rfl) pa_nil)))) (pss_one (ps_expr (pe_bm PySem.F.plainAttrs_list PySem.F.slot_list_append PySem.F.type_list_append mt_append (pv 2) (pa_cons (pe_tup (pa_cons pe_str pa_nil)) pa_nil)))) pss_nil) (pss_cut (ps_if (pt_val (pe_callB call_isX (by rfl) T.isi (by decide +kernel) (pa_cons (pv 1) (pa_cons (pe_glob (by rfl) (T.own 12 (by decide)) (v := .ref (ca 12)) rfl) pa_nil)))) (pss_one (ps_expr (pe_bm PySem.F.plainAttrs_list PySem.F.slot_list_append PySem.F.type_list_append mt_append (pv 2) (pa_cons (pe_tup (pa_cons pe_str (pa_cons (pe_xfT (pv 1)) pa_nil))) pa_nil)))) pss_nil) (pss_cut (ps_if (pt_val (pe_callB call_isX (by rfl) T.isi (by decide +kernel) (pa_cons (pv 1) (pa_cons (pe_glob (by rfl) (T.own 13 (by decide)) (v := .ref (ca 13)) rfl) pa_nil)))) (pss_one (ps_expr (pe_bm PySem.F.plainAttrs_list PySem.F.slot_list_append PySem.F.type_list_append mt_append (pv 2) (pa_cons (pe_tup (pa_cons pe_str (pa_cons (pe_xfT (pv 1)) pa_nil))) pa_nil)))) pss_nil) (pss_cut (ps_if (pt_val (pe_callB call_isX (by rfl) T.isi (by decide +kernel) (pa_cons (pv 1) (pa_cons (pe_glob (by rfl) (T.own 14 (by decide)) (v := .ref (ca 14)) rfl) pa_nil)))) (pss_one (ps_expr (pe_bm PySem.F.plainAttrs_list PySem.F.slot_list_append PySem.F.type_list_append mt_append (pv 2) (pa_cons (pe_tup (pa_cons pe_str pa_nil)) pa_nil)))) pss_nil) (pss_one (ps_ret (pe_ifExp (pt_cmpR op_eq (pe_callB call_len_seq (by rfl) T.len (by decide +kernel) (pa_cons (pv 2) pa_nil)) pe_int (nomark _)) (pe_ix ix_list (pv 2) pe_int (fun _ _ => rfl)) (pe_tup (pa_cons pe_str (pa_cons (pe_callB call_len_seq (by rfl) T.len (by decide +kernel) (pa_cons (pv 2) pa_nil)) pa_nil))))))))))))))))))))))), ?_⟩
  have z0 : (0 : Nat) ≤ sizeLine := Nat.zero_le _
  refine ⟨z0, fun fl hfl => ⟨_, _, rfl, ?_⟩⟩
  refine ⟨rfl, (Ex.new hfl) _ _ hc, _, _, ?hW, ?hQ, h fl hfl⟩
  case hQ =>
    rintro v H' ⟨ex, k⟩
    refine ⟨_, rfl, rfl, _, rfl, ite2 (fun _ => ?_) (fun z => absurd rfl z)⟩
    exact ⟨z0, fun rt hrt => k rt _ (fresh_back ex hrt) (Ex.new hrt) upd_same⟩
  case hW =>
    rintro cls d H' ⟨ex, n, vs, ⟨rfl, n1, n14, S⟩, k⟩
    refine ⟨true, R.exm n n1 n14, fun _ a ha => ?_, fun z => nomatch z⟩
    refine ⟨_, rfl, ?_⟩
    refine ⟨_, rfl, rfl, _, rfl, ite2 (fun z => absurd (of_decide_eq_true z) (fun z => nomatch z)) (fun _ => ?_)⟩
    have xH := Ex.new (o := exv a (.ref (ca n)) d) ha
    have hflH : H' fl = some (.lst []) := ex _ _ upd_same
    have afl : a ≠ fl := fun z => by
      rw [z, hflH] at ha
      cases ha
    have dfl : ∀ dd fs, H' dd = some (.xd fs) → dd ≠ fl := fun dd fs e z => by
      rw [z, hflH] at e
      cases e
    have XA : Toy.ExAt (upd H' a (exv a (.ref (ca n)) d)) a (ca n) d ∧ ∀ dd, d = some dd → dd ≠ fl := by
      rcases S with ⟨_, rfl, _⟩ | ⟨_, dd, va, vb, rfl, hd, _⟩ | ⟨_, _, _, dd, v, rfl, hd, _⟩
      · exact ⟨⟨upd_same, fun _ z => nomatch z⟩, fun _ z => nomatch z⟩
      · exact ⟨⟨upd_same, fun dx z => by cases z; exact ⟨_, xH _ _ hd⟩⟩, fun dx z => by cases z; exact dfl _ _ hd⟩
      · exact ⟨⟨upd_same, fun dx z => by cases z; exact ⟨_, xH _ _ hd⟩⟩, fun dx z => by cases z; exact dfl _ _ hd⟩
    obtain ⟨XA, dfl'⟩ := XA
    have m0 : Mid f a fl (upd H' a (exv a (.ref (ca n)) d)) n vs 0 [some (.ref f), some (.ref a), some (.ref fl), none] (upd H' a (exv a (.ref (ca n)) d)) := ⟨rfl, fun b o e _ => e, .inl ⟨n1, xH _ _ hflH⟩⟩
    generalize upd H' a (exv a (.ref (ca n)) d) = H3 at XA m0 xH ⊢
    have one : ∀ i, i = n → i ≠ 10 → i ≠ 11 → i ≠ 14 → ∀ H2 : Hp, (∀ b o, H3 b = some o → b ≠ fl → H2 b = some o) → EvU (tTup (tCons (tC (.str (wdN i))) (tCons (tXfT X.K (fdN i) (tVar 1)) tNil))) [some (.ref f), some (.ref a), some (.ref fl), none] H2 (.str (wdN n) :: vs) := by
      rintro i rfl z10 z11 z14 H2 kp
      rcases S with ⟨z | z, _⟩ | ⟨z, _⟩ | ⟨_, _, _, dd, v, rfl, hd, rfl⟩
      · exact absurd z z11
      · exact absurd z z14
      · exact absurd z z10
      · refine eu_tup (ea_cons ev_c (ea_cons ?_ ea_nil)) (by simp)
        exact Toy.ev_xf (ev_var rfl) (C := ca i) (d := dd) ⟨kp _ _ XA.1 afl, fun dx z => by cases z; exact ⟨_, kp _ _ (xH _ _ hd) (dfl _ _ hd)⟩⟩ (kp _ _ (xH _ _ hd) (dfl _ _ hd)) (R.xc i n1 n14) (R.no i n1 n14 z10 z11 z14) (by simp [List.lookup])
    have ten : 10 = n → ∀ H2 : Hp, (∀ b o, H3 b = some o → b ≠ fl → H2 b = some o) → EvU (tTup (tCons (tC (.str "text")) (tCons (tXfT X.K "line" (tVar 1)) (tCons (tXfT X.K "word" (tVar 1)) tNil)))) [some (.ref f), some (.ref a), some (.ref fl), none] H2 (.str (wdN n) :: vs) := by
      rintro rfl H2 kp
      rcases S with ⟨z | z, _⟩ | ⟨_, dd, va, vb, rfl, hd, rfl⟩ | ⟨z, _⟩
      · omega
      · omega
      · have xa : Toy.ExAt H2 a (ca 10) (some dd) := ⟨kp _ _ XA.1 afl, fun dx z => by cases z; exact ⟨_, kp _ _ (xH _ _ hd) (dfl _ _ hd)⟩⟩
        have hh := kp _ _ (xH _ _ hd) (dfl _ _ hd)
        exact eu_tup (ea_cons ev_c (ea_cons (Toy.ev_xf (ev_var rfl) xa hh (R.xc 10 n1 n14) R.line rfl) (ea_cons (Toy.ev_xf (ev_var rfl) xa hh (R.xc 10 n1 n14) R.word rfl) ea_nil))) (by simp)
      · exact absurd rfl z
    have none_ : ∀ i, i = n → (i = 11 ∨ i = 14) → ∀ H2 : Hp, (∀ b o, H3 b = some o → b ≠ fl → H2 b = some o) → EvU (tTup (tCons (tC (.str (wdN i))) tNil)) [some (.ref f), some (.ref a), some (.ref fl), none] H2 (.str (wdN n) :: vs) := by
      rintro i rfl zi H2 kp
      rcases S with ⟨_, _, rfl⟩ | ⟨z, _⟩ | ⟨_, z2, z3, _⟩
      · exact eu_tup (ea_cons ev_c ea_nil) (by simp)
      · omega
      · omega
    refine q_cut (mid_step (i := 1) R n1 n14 (by decide) (by decide) XA afl dfl' (fun z => one 1 z (by decide) (by decide) (by decide)) m0) (fun σ1 H1' m1 => ?_)
    refine q_cut (mid_step (i := 2) R n1 n14 (by decide) (by decide) XA afl dfl' (fun z => one 2 z (by decide) (by decide) (by decide)) m1) (fun σ2 H2' m2 => ?_)
    refine q_cut (mid_step (i := 3) R n1 n14 (by decide) (by decide) XA afl dfl' (fun z => one 3 z (by decide) (by decide) (by decide)) m2) (fun σ3 H3' m3 => ?_)
    refine q_cut (mid_step (i := 4) R n1 n14 (by decide) (by decide) XA afl dfl' (fun z => one 4 z (by decide) (by decide) (by decide)) m3) (fun σ4 H4' m4 => ?_)
    refine q_cut (mid_step (i := 5) R n1 n14 (by decide) (by decide) XA afl dfl' (fun z => one 5 z (by decide) (by decide) (by decide)) m4) (fun σ5 H5' m5 => ?_)
    refine q_cut (mid_step (i := 6) R n1 n14 (by decide) (by decide) XA afl dfl' (fun z => one 6 z (by decide) (by decide) (by decide)) m5) (fun σ6 H6' m6 => ?_)
    refine q_cut (mid_step (i := 7) R n1 n14 (by decide) (by decide) XA afl dfl' (fun z => one 7 z (by decide) (by decide) (by decide)) m6) (fun σ7 H7' m7 => ?_)
    refine q_cut (mid_step (i := 8) R n1 n14 (by decide) (by decide) XA afl dfl' (fun z => one 8 z (by decide) (by decide) (by decide)) m7) (fun σ8 H8' m8 => ?_)
    refine q_cut (mid_step (i := 9) R n1 n14 (by decide) (by decide) XA afl dfl' (fun z => one 9 z (by decide) (by decide) (by decide)) m8) (fun σ9 H9' m9 => ?_)
    refine q_cut (mid_step (i := 10) R n1 n14 (by decide) (by decide) XA afl dfl' (fun z => ten z) m9) (fun σ10 H10' m10 => ?_)
    refine q_cut (mid_step (i := 11) R n1 n14 (by decide) (by decide) XA afl dfl' (fun z => none_ 11 z (by decide)) m10) (fun σ11 H11' m11 => ?_)
    refine q_cut (mid_step (i := 12) R n1 n14 (by decide) (by decide) XA afl dfl' (fun z => one 12 z (by decide) (by decide) (by decide)) m11) (fun σ12 H12' m12 => ?_)
    refine q_cut (mid_step (i := 13) R n1 n14 (by decide) (by decide) XA afl dfl' (fun z => one 13 z (by decide) (by decide) (by decide)) m12) (fun σ13 H13' m13 => ?_)
    refine q_cut (mid_step (i := 14) R n1 n14 (by decide) (by decide) XA afl dfl' (fun z => none_ 14 z (by decide)) m13) (fun σ14 H14' m14 => ?_)
    obtain ⟨rfl, kp, alt⟩ := m14
    rcases alt with ⟨z, _⟩ | ⟨_, rt, h1, h2, h3⟩
    · omega
    · refine s_ret (v := .ref rt) (ev_if (b := true) (et_is (et_test (ev_op (ev_len (ev_var rfl) (sq_of h2)) ev_c (rv_eq rfl))) (decide_eq_true rfl)) (fun _ => ev_op (ev_var rfl) ev_c (rv_ixL (sq_of h2) (atI_nat (j := 0) rfl))) (fun z => nomatch z)) fun H6 e6 => ?_
      exact k rt H6 (fresh_back (ex.trans xH) h1) (fun b o e nb => e6 _ _ (kp b o (xH b o e) nb)) (e6 _ _ h3)
end
end Told

/-! What _law_raised tells of a call that changes things: as in R1, without asking that all stays. -/
namespace Told
open PySem L2 Evl LamR LamX
/-- what _law_raised makes of a lambda's reading, whatever that changes but the own list -/
def TToldM (ca : Nat → Addr) : (XK → Hp → VK → Prop) → Hp → VK → Prop := fun tl H Q => ∀ fl, H fl = none →
  tl (fun cls d H' => H' fl = some (.lst []) ∧ ∃ n vs, Says ca H' cls d n vs ∧ ∀ rt H2, H' rt = none → (∀ b o, H' b = some o → b ≠ fl → H2 b = some o) → H2 rt = some (.tup (.str (wdN n) :: vs)) → Q (.ref rt) H2)
    (upd H fl (.lst [])) (fun v H' => H' fl = some (.lst []) ∧ ∀ rt H2, H' rt = none → Ex H' H2 → H2 rt = some (.tup []) → Q (.ref rt) H2)
section
variable {X : Cx} {q : Str} {g : Addr} {cdg : Value} {ca : Nat → Addr}
theorem raised_givesM (T : TxT X.mg ca) (R : RwT X.K ca) : GivesR X ["asked", "caught", "found", "e"] "_law_raised" (defScope stR) g cdg (defBody stR) "asked" q (TToldM ca) := by
  intro f c' s H Q tl act hc h
  let X0 : Cx := (cxOf C8.CX0 X.prog X.w X.K X.mg X.base ["asked", "caught", "found", "e"] "_law_raised" (defScope stR) g cdg X.A X.stack s H C8.E0).nox
  refine ⟨_, (pss_cons (ps_par (i := 1) (j := 2) (by rfl) scR.nd rfl rfl (by decide) rfl rfl (pa_cons pe_non (pa_cons (pe_lst pa_nil) pa_nil)) (by rfl)) (pss_cons (ps_try_asT (X := X0) (i := 3) (tb := fun W D σ H => σ[0]? = some (some (V.ref f)) ∧ H c' = some (CodeO c' q) ∧ ∃ (E : XK) (Q' : VK), (∀ cls d H', E cls d H' → W cls d σ H') ∧ (∀ v H', Q' v H' → D.nx σ H') ∧ tl E H Q') rfl rfl scR.nd rfl rfl (.cons (by rfl) (T.own 0 (by decide)) (by decide) (.cons (by rfl) (T.own 12 (by decide)) (by decide) (.cons (by rfl) (T.own 13 (by decide)) (by decide) (.cons (by rfl) (T.own 14 (by decide)) (by decide) .nil)))) rfl L2.takes0 (fun W pn xe tk _ => ⟨fun pins s' σ H' D I h' => (pss_one (ps_expr (act W pn xe _ _ tk))).run pins s' σ H' D I (show tDrop (fun σZ HZ Q => σZ[0]? = some (some (V.ref f)) ∧ HZ c' = some (CodeO c' q) ∧ ∃ (E : XK) (Q' : VK), (∀ cls d H', E cls d H' → W cls d σZ H') ∧ (∀ v H', Q' v H' → Q v H') ∧ tl E HZ Q') D σ H' from h')⟩) (fun a oe cls d pn hz hf => pss_one (ps_set (i := 1) scR.nd rfl (.inl rfl) (pv 3)))) (pss_cons (ps_if (pt_cmpR op_isN (pv 1) pe_non (nomark _)) (pss_one (ps_ret (pe_tup pa_nil))) pss_nil) (pss_cut (ps_if (pt_val (pe_callB call_isX (by rfl) T.isi (by decide +kernel) (pa_cons (pv 1) (pa_cons (pe_glob (by rfl) (T.own 1 (by decide)) (v := .ref (ca 1)) rfl) pa_nil)))) (pss_one (ps_expr (pe_bm PySem.F.plainAttrs_list PySem.F.slot_list_append PySem.F.type_list_append mt_append (pv 2) (pa_cons (pe_tup (pa_cons pe_str (pa_cons (pe_xfT (pv 1)) pa_nil))) pa_nil)))) pss_nil) (pss_cut (ps_if (pt_val (pe_callB call_isX (by rfl) T.isi (by decide +kernel) (pa_cons (pv 1) (pa_cons (pe_glob (by rfl) (T.own 2 (by decide)) (v := .ref (ca 2)) rfl) pa_nil)))) (pss_one (ps_expr (pe_bm PySem.F.plainAttrs_list PySem.F.slot_list_append PySem.F.type_list_append mt_append (pv 2) (pa_cons (pe_tup (pa_cons pe_str (pa_cons (pe_xfT (pv 1)) pa_nil))) pa_nil)))) pss_nil) (pss_cut (ps_if (pt_val (pe_callB call_isX (by rfl) T.isi (by decide +kernel) (pa_cons (pv 1) (pa_cons (pe_glob (by rfl) (T.own 3 (by decide)) (v := .ref (ca 3)) rfl) pa_nil)))) (pss_one (ps_expr (pe_bm PySem.F.plainAttrs_list PySem.F.slot_list_append PySem.F.type_list_append mt_append (pv 2) (pa_cons (pe_tup (pa_cons pe_str (pa_cons (pe_xfT (pv 1)) pa_nil))) pa_nil)))) pss_nil) (pss_cut (ps_if (pt_val (pe_callB call_isX (by rfl) T.isi (by decide +kernel) (pa_cons (pv 1) (pa_cons (pe_glob (by rfl) (T.own 4 (by decide)) (v := .ref (ca 4)) rfl) pa_nil)))) (pss_one (ps_expr (pe_bm PySem.F.plainAttrs_list PySem.F.slot_list_append PySem.F.type_list_append mt_append (pv 2) (pa_cons (pe_tup (pa_cons pe_str (pa_cons (pe_xfT (pv 1)) pa_nil))) pa_nil)))) pss_nil) (pss_cut (ps_if (pt_val (pe_callB call_isX (by rfl) T.isi (by decide +kernel) (pa_cons (pv 1) (pa_cons (pe_glob (by rfl) (T.own 5 (by decide)) (v := .ref (ca 5)) rfl) pa_nil)))) (pss_one (ps_expr (pe_bm PySem.F.plainAttrs_list PySem.F.slot_list_append PySem.F.type_list_append mt_append (pv 2) (pa_cons (pe_tup (pa_cons pe_str (pa_cons (pe_xfT (pv 1)) pa_nil))) pa_nil)))) pss_nil) (pss_cut (ps_if (pt_val (pe_callB call_isX (by rfl) T.isi (by decide +kernel) (pa_cons (pv 1) (pa_cons (pe_glob (by rfl) (T.own 6 (by decide)) (v := .ref (ca 6)) rfl) pa_nil)))) (pss_one (ps_expr (pe_bm PySem.F.plainAttrs_list PySem.F.slot_list_append PySem.F.type_list_append mt_append (pv 2) (pa_cons (pe_tup (pa_cons pe_str (pa_cons (pe_xfT (pv 1)) pa_nil))) pa_nil)))) pss_nil) (pss_cut (ps_if (pt_val (pe_callB call_isX (by rfl) T.isi (by decide +kernel) (pa_cons (pv 1) (pa_cons (pe_glob (by rfl) (T.own 7 (by decide)) (v := .ref (ca 7)) rfl) pa_nil)))) (pss_one (ps_expr (pe_bm PySem.F.plainAttrs_list PySem.F.slot_list_append PySem.F.type_list_append mt_append (pv 2) (pa_cons (pe_tup (pa_cons pe_str (pa_cons (pe_xfT (pv 1)) pa_nil))) pa_nil)))) pss_nil) (pss_cut (ps_if (pt_val (pe_callB call_isX (by rfl) T.isi (by decide +kernel) (pa_cons (pv 1) (pa_cons (pe_glob (by rfl) (T.own 8 (by decide)) (v := .ref (ca 8)) rfl) pa_nil)))) (pss_one (ps_expr (pe_bm PySem.F.plainAttrs_list PySem.F.slot_list_append PySem.F.type_list_append mt_append (pv 2) (pa_cons (pe_tup (pa_cons pe_str (pa_cons (pe_xfT (pv 1)) pa_nil))) pa_nil)))) pss_nil) (pss_cut (ps_if (pt_val (pe_callB call_isX (by rfl) T.isi (by decide +kernel) (pa_cons (pv 1) (pa_cons (pe_glob (by rfl) (T.own 9 (by decide)) (v := .ref (ca 9)) rfl) pa_nil)))) (pss_one (ps_expr (pe_bm PySem.F.plainAttrs_list PySem.F.slot_list_append PySem.F.type_list_append mt_append (pv 2) (pa_cons (pe_tup (pa_cons pe_str (pa_cons (pe_xfT (pv 1)) pa_nil))) pa_nil)))) pss_nil) (pss_cut (ps_if (pt_val (pe_callB call_isX (by rfl) T.isi (by decide +kernel) (pa_cons (pv 1) (pa_cons (pe_glob (by rfl) (T.own 10 (by decide)) (v := .ref (ca 10)) rfl) pa_nil)))) (pss_one (ps_expr (pe_bm PySem.F.plainAttrs_list PySem.F.slot_list_append PySem.F.type_list_append mt_append (pv 2) (pa_cons (pe_tup (pa_cons pe_str (pa_cons (pe_xfT (pv 1)) (pa_cons (pe_xfT (pv 1)) pa_nil)))) pa_nil)))) pss_nil) (pss_cut (ps_if (pt_val (pe_callB call_isX (by rfl) T.isi (by decide +kernel) (pa_cons (pv 1) (pa_cons (pe_glob (by rfl) (T.own 11 (by decide)) (v := .ref (ca 11)) rfl) pa_nil)))) (pss_one (ps_expr (pe_bm PySem.F.plainAttrs_list PySem.F.slot_list_append PySem.F.type_list_append mt_append (pv 2) (pa_cons (pe_tup (pa_cons pe_str pa_nil)) pa_nil)))) pss_nil) (pss_cut (ps_if (pt_val (pe_callB call_isX (by rfl) T.isi (by decide +kernel) (pa_cons (pv 1) (pa_cons (pe_glob (by rfl) (T.own 12 (by decide)) (v := .ref (ca 12)) rfl) pa_nil)))) (pss_one (ps_expr (pe_bm PySem.F.plainAttrs_list PySem.F.slot_list_append PySem.F.type_list_append mt_append (pv 2) (pa_cons (pe_tup (pa_cons pe_str (pa_cons (pe_xfT (pv 1)) pa_nil))) pa_nil)))) pss_nil) (pss_cut (ps_if (pt_val (pe_callB call_isX (by rfl) T.isi (by decide +kernel) (pa_cons (pv 1) (pa_cons (pe_glob (by rfl) (T.own 13 (by decide)) (v := .ref (ca 13)) rfl) pa_nil)))) (pss_one (ps_expr (pe_bm PySem.F.plainAttrs_list PySem.F.slot_list_append PySem.F.type_list_append mt_append (pv 2) (pa_cons (pe_tup (pa_cons pe_str (pa_cons (pe_xfT (pv 1)) pa_nil))) pa_nil)))) pss_nil) (pss_cut (ps_if (pt_val (pe_callB call_isX (by rfl) T.isi (by decide +kernel) (pa_cons (pv 1) (pa_cons (pe_glob (by rfl) (T.own 14 (by decide)) (v := .ref (ca 14)) rfl) pa_nil)))) (pss_one (ps_expr (pe_bm PySem.F.plainAttrs_list PySem.F.slot_list_append PySem.F.type_list_append mt_append (pv 2) (pa_cons (pe_tup (pa_cons pe_str pa_nil)) pa_nil)))) pss_nil) (pss_one (ps_ret (pe_ifExp (pt_cmpR op_eq (pe_callB call_len_seq (by rfl) T.len (by decide +kernel) (pa_cons (pv 2) pa_nil)) pe_int (nomark _)) (pe_ix ix_list (pv 2) pe_int (fun _ _ => rfl)) (pe_tup (pa_cons pe_str (pa_cons (pe_callB call_len_seq (by rfl) T.len (by decide +kernel) (pa_cons (pv 2) pa_nil)) pa_nil))))))))))))))))))))))), ?_⟩
  have z0 : (0 : Nat) ≤ sizeLine := Nat.zero_le _
  refine ⟨z0, fun fl hfl => ⟨_, _, rfl, ?_⟩⟩
  refine ⟨rfl, (Ex.new hfl) _ _ hc, _, _, ?hW, ?hQ, h fl hfl⟩
  case hQ =>
    rintro v H' ⟨hfl', k⟩
    refine ⟨_, rfl, rfl, _, rfl, ite2 (fun _ => ?_) (fun z => absurd rfl z)⟩
    exact ⟨z0, fun rt hrt => k rt _ hrt (Ex.new hrt) upd_same⟩
  case hW =>
    rintro cls d H' ⟨hfl', n, vs, ⟨rfl, n1, n14, S⟩, k⟩
    refine ⟨true, R.exm n n1 n14, fun _ a ha => ?_, fun z => nomatch z⟩
    refine ⟨_, rfl, ?_⟩
    refine ⟨_, rfl, rfl, _, rfl, ite2 (fun z => absurd (of_decide_eq_true z) (fun z => nomatch z)) (fun _ => ?_)⟩
    have xH := Ex.new (o := exv a (.ref (ca n)) d) ha
    have hflH : H' fl = some (.lst []) := hfl'
    have afl : a ≠ fl := fun z => by
      rw [z, hflH] at ha
      cases ha
    have dfl : ∀ dd fs, H' dd = some (.xd fs) → dd ≠ fl := fun dd fs e z => by
      rw [z, hflH] at e
      cases e
    have XA : Toy.ExAt (upd H' a (exv a (.ref (ca n)) d)) a (ca n) d ∧ ∀ dd, d = some dd → dd ≠ fl := by
      rcases S with ⟨_, rfl, _⟩ | ⟨_, dd, va, vb, rfl, hd, _⟩ | ⟨_, _, _, dd, v, rfl, hd, _⟩
      · exact ⟨⟨upd_same, fun _ z => nomatch z⟩, fun _ z => nomatch z⟩
      · exact ⟨⟨upd_same, fun dx z => by cases z; exact ⟨_, xH _ _ hd⟩⟩, fun dx z => by cases z; exact dfl _ _ hd⟩
      · exact ⟨⟨upd_same, fun dx z => by cases z; exact ⟨_, xH _ _ hd⟩⟩, fun dx z => by cases z; exact dfl _ _ hd⟩
    obtain ⟨XA, dfl'⟩ := XA
    have m0 : Mid f a fl (upd H' a (exv a (.ref (ca n)) d)) n vs 0 [some (.ref f), some (.ref a), some (.ref fl), none] (upd H' a (exv a (.ref (ca n)) d)) := ⟨rfl, fun b o e _ => e, .inl ⟨n1, xH _ _ hflH⟩⟩
    generalize upd H' a (exv a (.ref (ca n)) d) = H3 at XA m0 xH ⊢
    have one : ∀ i, i = n → i ≠ 10 → i ≠ 11 → i ≠ 14 → ∀ H2 : Hp, (∀ b o, H3 b = some o → b ≠ fl → H2 b = some o) → EvU (tTup (tCons (tC (.str (wdN i))) (tCons (tXfT X.K (fdN i) (tVar 1)) tNil))) [some (.ref f), some (.ref a), some (.ref fl), none] H2 (.str (wdN n) :: vs) := by
      rintro i rfl z10 z11 z14 H2 kp
      rcases S with ⟨z | z, _⟩ | ⟨z, _⟩ | ⟨_, _, _, dd, v, rfl, hd, rfl⟩
      · exact absurd z z11
      · exact absurd z z14
      · exact absurd z z10
      · refine eu_tup (ea_cons ev_c (ea_cons ?_ ea_nil)) (by simp)
        exact Toy.ev_xf (ev_var rfl) (C := ca i) (d := dd) ⟨kp _ _ XA.1 afl, fun dx z => by cases z; exact ⟨_, kp _ _ (xH _ _ hd) (dfl _ _ hd)⟩⟩ (kp _ _ (xH _ _ hd) (dfl _ _ hd)) (R.xc i n1 n14) (R.no i n1 n14 z10 z11 z14) (by simp [List.lookup])
    have ten : 10 = n → ∀ H2 : Hp, (∀ b o, H3 b = some o → b ≠ fl → H2 b = some o) → EvU (tTup (tCons (tC (.str "text")) (tCons (tXfT X.K "line" (tVar 1)) (tCons (tXfT X.K "word" (tVar 1)) tNil)))) [some (.ref f), some (.ref a), some (.ref fl), none] H2 (.str (wdN n) :: vs) := by
      rintro rfl H2 kp
      rcases S with ⟨z | z, _⟩ | ⟨_, dd, va, vb, rfl, hd, rfl⟩ | ⟨z, _⟩
      · omega
      · omega
      · have xa : Toy.ExAt H2 a (ca 10) (some dd) := ⟨kp _ _ XA.1 afl, fun dx z => by cases z; exact ⟨_, kp _ _ (xH _ _ hd) (dfl _ _ hd)⟩⟩
        have hh := kp _ _ (xH _ _ hd) (dfl _ _ hd)
        exact eu_tup (ea_cons ev_c (ea_cons (Toy.ev_xf (ev_var rfl) xa hh (R.xc 10 n1 n14) R.line rfl) (ea_cons (Toy.ev_xf (ev_var rfl) xa hh (R.xc 10 n1 n14) R.word rfl) ea_nil))) (by simp)
      · exact absurd rfl z
    have none_ : ∀ i, i = n → (i = 11 ∨ i = 14) → ∀ H2 : Hp, (∀ b o, H3 b = some o → b ≠ fl → H2 b = some o) → EvU (tTup (tCons (tC (.str (wdN i))) tNil)) [some (.ref f), some (.ref a), some (.ref fl), none] H2 (.str (wdN n) :: vs) := by
      rintro i rfl zi H2 kp
      rcases S with ⟨_, _, rfl⟩ | ⟨z, _⟩ | ⟨_, z2, z3, _⟩
      · exact eu_tup (ea_cons ev_c ea_nil) (by simp)
      · omega
      · omega
    refine q_cut (mid_step (i := 1) R n1 n14 (by decide) (by decide) XA afl dfl' (fun z => one 1 z (by decide) (by decide) (by decide)) m0) (fun σ1 H1' m1 => ?_)
    refine q_cut (mid_step (i := 2) R n1 n14 (by decide) (by decide) XA afl dfl' (fun z => one 2 z (by decide) (by decide) (by decide)) m1) (fun σ2 H2' m2 => ?_)
    refine q_cut (mid_step (i := 3) R n1 n14 (by decide) (by decide) XA afl dfl' (fun z => one 3 z (by decide) (by decide) (by decide)) m2) (fun σ3 H3' m3 => ?_)
    refine q_cut (mid_step (i := 4) R n1 n14 (by decide) (by decide) XA afl dfl' (fun z => one 4 z (by decide) (by decide) (by decide)) m3) (fun σ4 H4' m4 => ?_)
    refine q_cut (mid_step (i := 5) R n1 n14 (by decide) (by decide) XA afl dfl' (fun z => one 5 z (by decide) (by decide) (by decide)) m4) (fun σ5 H5' m5 => ?_)
    refine q_cut (mid_step (i := 6) R n1 n14 (by decide) (by decide) XA afl dfl' (fun z => one 6 z (by decide) (by decide) (by decide)) m5) (fun σ6 H6' m6 => ?_)
    refine q_cut (mid_step (i := 7) R n1 n14 (by decide) (by decide) XA afl dfl' (fun z => one 7 z (by decide) (by decide) (by decide)) m6) (fun σ7 H7' m7 => ?_)
    refine q_cut (mid_step (i := 8) R n1 n14 (by decide) (by decide) XA afl dfl' (fun z => one 8 z (by decide) (by decide) (by decide)) m7) (fun σ8 H8' m8 => ?_)
    refine q_cut (mid_step (i := 9) R n1 n14 (by decide) (by decide) XA afl dfl' (fun z => one 9 z (by decide) (by decide) (by decide)) m8) (fun σ9 H9' m9 => ?_)
    refine q_cut (mid_step (i := 10) R n1 n14 (by decide) (by decide) XA afl dfl' (fun z => ten z) m9) (fun σ10 H10' m10 => ?_)
    refine q_cut (mid_step (i := 11) R n1 n14 (by decide) (by decide) XA afl dfl' (fun z => none_ 11 z (by decide)) m10) (fun σ11 H11' m11 => ?_)
    refine q_cut (mid_step (i := 12) R n1 n14 (by decide) (by decide) XA afl dfl' (fun z => one 12 z (by decide) (by decide) (by decide)) m11) (fun σ12 H12' m12 => ?_)
    refine q_cut (mid_step (i := 13) R n1 n14 (by decide) (by decide) XA afl dfl' (fun z => one 13 z (by decide) (by decide) (by decide)) m12) (fun σ13 H13' m13 => ?_)
    refine q_cut (mid_step (i := 14) R n1 n14 (by decide) (by decide) XA afl dfl' (fun z => none_ 14 z (by decide)) m13) (fun σ14 H14' m14 => ?_)
    obtain ⟨rfl, kp, alt⟩ := m14
    rcases alt with ⟨z, _⟩ | ⟨_, rt, h1, h2, h3⟩
    · omega
    · refine s_ret (v := .ref rt) (ev_if (b := true) (et_is (et_test (ev_op (ev_len (ev_var rfl) (sq_of h2)) ev_c (rv_eq rfl))) (decide_eq_true rfl)) (fun _ => ev_op (ev_var rfl) ev_c (rv_ixL (sq_of h2) (atI_nat (j := 0) rfl))) (fun z => nomatch z)) fun H6 e6 => ?_
      exact k rt H6 (fresh_back xH h1) (fun b o e nb => e6 _ _ (kp b o (xH b o e) nb)) (e6 _ _ h3)
end
end Told

/-! Laws with lambdas: the drawer and the tables, what a refused call is read as. -/
namespace Lm
open PySem L2 Evl ExM Dg Dt LamR LamX Told TL
open Dr (StAt SameB)
/-- small data: shown in two thousand signs at most -/
structure Sq (d : PyData) : Prop where
  a : d.showable = true
  b : d.shown.length ≤ 3950
  c : d.depth ≤ 2
theorem sq_plain {d : PyData} (h : plainD d) (hc : cap d ≤ 3950) (c : d.depth ≤ 2) : Sq d := ⟨(shown_cap d h).1, Nat.le_trans (shown_cap d h).2 hc, c⟩
theorem Sq.pair {x : Str} {d : PyData} (hx : (PyData.str x).shown.length ≤ 30) (s : Sq d) : Sm (.tuple [.str x, d]) := by
  refine ⟨?_, ?_, ?_⟩
  · simp [PyData.showable, PyData.showableAll, s.a]
  · have h := join_cap [(PyData.str x).shown, d.shown]
    have e1 : (("(" : Str)).length = 1 := by decide
    have e2 : ((")" : Str)).length = 1 := by decide
    have hs := s.b
    have e3 : (PyData.tuple [.str x, d]).shown = ("(" : Str) ++ Str.join ", " [(PyData.str x).shown, d.shown] ++ (")" : Str) := by
      simp only [PyData.shown, PyData.shownAll, PySem.tupleText]
      rfl
    rw [e3, strLen_append, strLen_append]
    simp only [List.map_cons, List.map_nil, List.sum_cons, List.sum_nil] at h
    omega
  · have := s.c
    simp only [PyData.depth, PyData.depthAll]
    omega
/-- the drawer stands, and so do the tables -/
structure Lw (T : List (Addr × Str)) (p c l : Addr) (n : Nat) (a : Int) (H : Hp) : Prop where
  s : StAt H p c l n a
  t : Tabs T H
section
variable {T : List (Addr × Str)} {p c l : Addr} {n : Nat} {a b : Int} {H H' : Hp}
theorem stAt_extN (S : StAt H p c l n a) (e : ExtN H H') : StAt H' p c l n a :=
  ⟨e _ _ S.d (by simp), let ⟨cs, h, k⟩ := S.c; ⟨cs, e _ _ h (by simp), k⟩, let ⟨ls, h, k⟩ := S.l; ⟨ls, e _ _ h (by simp), k⟩, S.n0, S.n1, S.a0⟩
theorem Lw.ex (L : Lw T p c l n a H) (e : Ex H H') : Lw T p c l n a H' := ⟨L.s.ex e, L.t.ext e⟩
theorem Lw.extN (W : Lw T p c l n a H) (e : ExtN H H') (t : Tabs T H') : Lw T p c l n a H' := ⟨stAt_extN W.s e, t⟩
theorem tabs_same (S : StAt H p c l n a) (t : Tabs T H) (e : Dr.SameB H H' p l) : Tabs T H' := fun q hq => by
  obtain ⟨ls, hl, _⟩ := S.l
  obtain ⟨ps, h1, h2, h3⟩ := t q hq
  refine ⟨ps, e _ _ h1 (ne_of h1 S.d (by intro z; cases z)) (ne_of h1 hl (by intro z; cases z)), h2, fun pos cv hc => ?_⟩
  obtain ⟨co, e1, e2⟩ := h3 pos cv hc
  exact ⟨co, e1, e _ _ e2 (ne_of e2 S.d (by intro z; cases z)) (ne_of e2 hl (by intro z; cases z))⟩
theorem Lw.same (L : Lw T p c l n a H) (S : StAt H' p c l n b) (e : Dr.SameB H H' p l) : Lw T p c l n b H' := ⟨S, tabs_same L.s L.t e⟩
theorem Lw.off (L : Lw T p c l n a H) {x : Addr} (h : H x = none) : x ≠ p ∧ x ≠ l := by
  obtain ⟨ls, hl, _⟩ := L.s.l
  exact ⟨(ne_of_none L.s.d h).symm, (ne_of_none hl h).symm⟩
end
/-- what stands when one empty list goes on to be filled -/
def KeepsA (A : List V → Hp → Prop) : Prop := ∀ vs H H2 fl, A vs H → H fl = some (.lst []) → (∀ b o, H b = some o → b ≠ fl → H2 b = some o) → A vs H2
section
variable {K : PySem.W.Frag} {ca : Nat → Addr} {T : List (Addr × Str)} {t : XK → TE} {σ : St} {H : Hp} {Q : VK} {n : Nat} {A : List V → Hp → Prop}
/-- the lambda raises: the word and what the exception holds stand in a new tuple -/
theorem rd_raisedA (hT : Tabs T H) (kA : KeepsA A) (call : ∀ H1, ExtN H H1 → ∀ HZ, Ex H1 HZ → ∀ (E : XK) (Q' : VK), (∀ cls d H2 vs, Ex HZ H2 → Says ca H2 cls d n vs → A vs H2 → E cls d H2) → t E σ HZ Q')
    (k : ∀ vs rt H2, ExtN H H2 → Tabs T H2 → A vs H2 → H2 rt = some (.tup (.str (wdN n) :: vs)) → Q (.ref rt) H2) : tLam T (TTold ca) t σ H Q :=
  ⟨hT, fun H1 e1 T1 fl hfl => call H1 e1 _ (Ex.new hfl) _ _ fun cls d H2 vs e2 S a => ⟨e2, n, vs, S, fun rt H3 _ kp h3 => by
    have all : ∀ b o, H1 b = some o → H3 b = some o := fun b o e => kp b o (e2 b o ((Ex.new hfl) b o e)) (ne_of_none e hfl)
    exact k vs rt H3 (fun b o e nt => all b o (e1 b o e nt)) (T1.ext all) (kA vs H2 H3 fl a (e2 _ _ upd_same) kp) h3⟩⟩
theorem says_one {H : Hp} {d : Addr} {i : Nat} {v : V} (i1 : 1 ≤ i) (i14 : i ≤ 14) (z10 : i ≠ 10) (z11 : i ≠ 11) (z14 : i ≠ 14) (h : H d = some (.xd [(fdN i, v)])) : Says ca H (.ref (ca i)) (some d) i [v] :=
  ⟨rfl, i1, i14, .inr (.inr ⟨z10, z11, z14, d, v, rfl, h, rfl⟩)⟩
/-- the value itself -/
def Is1 (v : V) : List V → Hp → Prop := fun vs _ => vs = [v]
theorem is1_keeps (v : V) : KeepsA (Is1 v) := fun _ _ _ _ h _ _ => h
theorem leaves_of {HZ : Hp} {E : XK} {i : Nat} {v : V} (i1 : 1 ≤ i) (i14 : i ≤ 14) (z10 : i ≠ 10) (z11 : i ≠ 11) (z14 : i ≠ 14) (hf : fdN i = "value") (hE : ∀ cls d H2 vs, Ex HZ H2 → Says ca H2 cls d i vs → Is1 v vs H2 → E cls d H2) : Leaves (ca i) "value" v HZ E := fun H2 d e hd =>
  hE _ _ _ [v] (e.trans (Ex.new hd)) (says_one i1 i14 z10 z11 z14 (by rw [hf]; exact upd_same)) rfl
end
section
variable {K : PySem.W.Frag} {ca : Nat → Addr} {T : List (Addr × Str)} {t : XK → TE} {σ : St} {H : Hp} {Q : VK}
theorem leavesF_of {HZ : Hp} {E : XK} {i : Nat} {v : V} {f : Str} (i1 : 1 ≤ i) (i14 : i ≤ 14) (z10 : i ≠ 10) (z11 : i ≠ 11) (z14 : i ≠ 14) (hf : fdN i = f) (hE : ∀ cls d H2 vs, Ex HZ H2 → Says ca H2 cls d i vs → Is1 v vs H2 → E cls d H2) : Leaves (ca i) f v HZ E := fun H2 d e hd =>
  hE _ _ _ [v] (e.trans (Ex.new hd)) (says_one i1 i14 z10 z11 z14 (by rw [hf]; exact upd_same)) rfl
/-- the lambda comes back: an empty tuple -/
theorem rd_back (hT : Tabs T H) (call : ∀ H1, ExtN H H1 → ∀ HZ, Ex H1 HZ → ∀ (E : XK) (Q' : VK), (∀ v H2, Ex HZ H2 → Q' v H2) → t E σ HZ Q') (k : ∀ rt H2, ExtN H H2 → Tabs T H2 → H2 rt = some (.tup []) → Q (.ref rt) H2) : tLam T (TTold ca) t σ H Q :=
  ⟨hT, fun H1 e1 T1 fl hfl => call H1 e1 _ (Ex.new hfl) _ _ fun v H2 e2 => ⟨e2, fun rt H3 nrt e3 h3 => by
    have all : Ex H1 H3 := ((Ex.new hfl).trans e2).trans e3
    exact k rt H3 (e1.trans (ExtN.of all)) (T1.ext all) h3⟩⟩
end
theorem sm_sz {d : PyData} (s : Sm d) : d.showable = true ∧ d.shown.length ≤ sizeLine ∧ d.depth ≤ 60 := ⟨s.a, Nat.le_trans s.b (by rw [sizeLine_eq]; decide), Nat.le_trans s.c (by decide)⟩
section
variable {K : PySem.W.Frag} {ca : Nat → Addr} {T : List (Addr × Str)} {t : XK → TE} {σ : St} {H : Hp} {Q : VK}
/-- the lambda is refused: the word and the value -/
theorem rd_leafP {n : Nat} {v : V} {d : PyData} (n1 : 1 ≤ n) (n14 : n ≤ 14) (z10 : n ≠ 10) (z11 : n ≠ 11) (z14 : n ≠ 14) (hw : (wdN n).length ≤ 3000) (hT : Tabs T H) (kv : Pt H v d) (call : ∀ H1, ExtN H H1 → ∀ HZ, Ex H1 HZ → ∀ (E : XK) (Q' : VK), Leaves (ca n) (fdN n) v HZ E → t E σ HZ Q')
    (k : ∀ rt H2, ExtN H H2 → Tabs T H2 → Pt H2 (.ref rt) (.tuple [.str (wdN n), d]) → Q (.ref rt) H2) : tLam T (TTold ca) t σ H Q := by
  refine rd_raisedA (n := n) (A := Is1 v) hT (is1_keeps v) (fun H1 f1 HZ eZ E Q' hE => call H1 f1 HZ eZ E Q' ?_) fun vs1 r1 H1 x1 T1 a1 g1 => ?_
  · exact leavesF_of n1 n14 z10 z11 z14 rfl hE
  · have a1' : vs1 = [v] := a1
    subst a1'
    exact k r1 H1 x1 T1 (.tup g1 (.cons (.str _ hw) (.cons (kv.extN x1) .nil)))
/-- if repr(the refused call) != repr((word, value)): return False; it goes on -/
theorem s_told {D : Ends} {tl te : TE} {tu : TS} {w : Str} {v : V} {d : PyData} (hl : ∀ Q : VK, (∀ rt H2, ExtN H H2 → Tabs T H2 → Pt H2 (.ref rt) (.tuple [.str w, d]) → Q (.ref rt) H2) → tl σ H Q)
    (he : ∀ H2, ExtN H H2 → Ev te σ H2 v) (kv : Pt H v d) (kn : noK d = true) (sq : Sq d) (hw : (PyData.str w).shown.length ≤ 30) (hwl : w.length ≤ 3000) (k : ∀ H2, ExtN H H2 → Tabs T H2 → D.nx σ H2) :
    tIfS (tTest (tOp rNe (tCB (rReprJ K) (tCons tl tNil)) (tCB (rReprJ K) (tCons (tTup (tCons (tC (.str w)) (tCons te tNil))) tNil)))) tu tNext D σ H := by
  have sp := sq.pair (x := w) hw
  obtain ⟨y1, y2, y3⟩ := sm_sz sp
  have kk : noK (.tuple [.str w, d]) = true := by
    rw [noK, noKs, noKs, kn]
    rfl
  refine hl _ fun rt H2 x2 T2 k2 => ⟨.ref rt, .tuple [.str w, d], rfl, djP k2 kk, y1, y2, y3, he H2 x2 H2 (Ex.refl _) _ fun H3 e3 => ⟨(by show (2:Nat) ≤ sizeLine; rw [sizeLine_eq]; omega), fun t3 nt3 => ?_⟩⟩
  have f4 := Ex.new (o := .tup [.str w, v]) nt3
  refine ⟨.ref t3, .tuple [.str w, d], rfl, djP (.tup upd_same (.cons (.str _ hwl) (.cons (kv.extN ((x2.trans (ExtN.of e3)).trans (ExtN.of f4))) .nil))) kk, y1, y2, y3, rfl, _, rfl, ?_⟩
  rw [decide_eq_true rfl]
  exact k _ ((x2.trans (ExtN.of e3)).trans (ExtN.of f4)) ((T2.ext e3).ext f4)
/-- for x in a tuple of data: each turn keeps all but the tables -/
theorem s_odds {D : Ends} {te : TE} {tu : TS} {j : Nat} {ds : List PyData} (σf : Option V → St) (x0 : Option V) (hσ : ∀ x v, (σf x).set j (some v) = σf (some v)) (h : EvP te (σf x0) H (.tuple ds)) (hT : Tabs T H)
    (turn : ∀ (D' : Ends) (i : Nat) (d : PyData) (v : V) (H1 : Hp), ds[i]? = some d → ExtN H H1 → Tabs T H1 → Pt H1 v d → (∀ H2, ExtN H1 H2 → Tabs T H2 → D'.nx (σf (some v)) H2) → tu D' (σf (some v)) H1)
    (after : ∀ x H1, ExtN H H1 → Tabs T H1 → D.nx (σf x) H1) : tFor (iTup K te) (gName j) tu D (σf x0) H := by
  refine h H (Ex.refl H) _ fun v H1 e1 k1 => ?_
  obtain ⟨a, xs, rfl, ha, kx⟩ := k1.tupI'
  refine ⟨a, rfl, ⟨xs, st_of ha⟩, for_tup (xs := xs) (fun i σ' H' => (∃ x, σ' = σf x) ∧ ExtN H1 H' ∧ Tabs T H') ⟨⟨x0, rfl⟩, ExtN.refl _, hT.ext e1⟩ (fun i σ' H' _ hI => st_of (hI.2.1 _ _ ha (by simp))) (fun i x σ' H' hx hI => ?_) (fun σ' H' hI => ?_)⟩
  · obtain ⟨⟨y, rfl⟩, x2, T2⟩ := hI
    obtain ⟨d, hd, kd⟩ := kx.get2 hx
    show tu _ ((σf y).set j (some x)) H'
    rw [hσ]
    exact turn _ i d x H' hd ((ExtN.of e1).trans x2) T2 (kd.extN x2) fun H2 x3 T3 => ⟨⟨_, rfl⟩, x2.trans x3, T3⟩
  · obtain ⟨⟨y, rfl⟩, x2, T2⟩ := hI
    exact after y H' ((ExtN.of e1).trans x2) T2
end
end Lm

/-! Data beside objects that change: what of it stands; repr of any such data. -/
namespace Dt
open PySem L2 Evl Dg LamR LamX TL PySem.Spec PyProof.Rows
open Dr (StAt SameB)
/-- the heap without some addresses -/
def hid (S : List Addr) (H : Hp) : Hp := fun b => if b ∈ S then none else H b
theorem hid_out {S : List Addr} {H : Hp} {b : Addr} (h : b ∉ S) : hid S H b = H b := by
  unfold hid
  rw [if_neg h]
theorem hid_some {S : List Addr} {H : Hp} {b : Addr} {o : HO} (h : hid S H b = some o) : b ∉ S ∧ H b = some o := by
  unfold hid at h
  by_cases z : b ∈ S
  · rw [if_pos z] at h
    cases h
  · rw [if_neg z] at h
    exact ⟨z, h⟩
theorem hid_ex (S : List Addr) (H : Hp) : Ex (hid S H) H := fun b o h => (hid_some h).2
theorem hid_kept {S : List Addr} {H H' : Hp} (k : ∀ b o, H b = some o → b ∉ S → H' b = some o) : Ex (hid S H) (hid S H') := fun b o h => by
  obtain ⟨n, h'⟩ := hid_some h
  rw [hid_out n]
  exact k b o h' n
theorem hid_mono {S : List Addr} {H H' : Hp} (e : Ex H H') : Ex (hid S H) (hid S H') := hid_kept fun b o h _ => e b o h
mutual
/-- what is locked is no part of it -/
theorem Pt.lock {H : Hp} {S T : List Addr} (hT : ∀ b ∈ T, ∃ o u, H b = some (.frz o u)) : ∀ {v : V} {d : PyData}, Pt (hid S H) v d → Pt (hid (S ++ T) H) v d
  | _, .none, h => by cases h; exact .non
  | _, .bool _, h => by cases h; exact .bl _
  | _, .int _, h => by cases h; exact .int _
  | _, .str _, h => by cases h with | str _ z => exact .str _ z
  | _, .tuple ds, h => by
    cases h with
    | @tup a vs _ hs ha => exact .tup (lock_at hT hs (fun _ _ z => nomatch z)) (PtAll.lock hT ha)
  | _, .list ds, h => by
    cases h with
    | @lst a vs _ hs ha => exact .lst (lock_at hT hs (fun _ _ z => nomatch z)) (PtAll.lock hT ha)
  | _, .dict _, h => by
    cases h with
    | nil hs => exact .nil (lock_at hT hs (fun _ _ z => nomatch z))
theorem PtAll.lock {H : Hp} {S T : List Addr} (hT : ∀ b ∈ T, ∃ o u, H b = some (.frz o u)) : ∀ {vs : List V} {ds : List PyData}, PtAll (hid S H) vs ds → PtAll (hid (S ++ T) H) vs ds
  | _, [], h => by cases h; exact .nil
  | _, d :: ds, h => by
    cases h with
    | cons h1 h2 => exact .cons (Pt.lock hT h1) (PtAll.lock hT h2)
theorem lock_at {H : Hp} {S T : List Addr} (hT : ∀ b ∈ T, ∃ o u, H b = some (.frz o u)) {a : Addr} {o : HO} (h : hid S H a = some o) (ho : ∀ f u, o ≠ .frz f u) : hid (S ++ T) H a = some o := by
  obtain ⟨n, h'⟩ := hid_some h
  rw [hid_out]
  · exact h'
  · intro z
    rcases List.mem_append.mp z with z | z
    · exact n z
    · obtain ⟨f, u, e⟩ := hT a z
      rw [h'] at e
      injection e with e
      exact ho f u e
end
theorem hid_nil (H : Hp) : hid [] H = H := by
  funext b
  unfold hid
  rw [if_neg (by simp)]
theorem Pt.lock0 {H : Hp} {T : List Addr} (hT : ∀ b ∈ T, ∃ o u, H b = some (.frz o u)) {v : V} {d : PyData} (h : Pt H v d) : Pt (hid T H) v d := by
  have h' : Pt (hid [] H) v d := by
    rw [hid_nil]
    exact h
  exact Pt.lock hT h'
mutual
/-- no list in it -/
def noW : PyData → Bool
  | .list _ => false
  | .tuple ds => noWs ds
  | _ => true
def noWs : List PyData → Bool
  | [] => true
  | d :: ds => noW d && noWs ds
end
section
variable {X : Cx} {pins : List (Addr × Obj)} {σ : L2.St} {H : Hp} {s : Shared}
mutual
theorem Pt.reads (I : Inv X pins σ H s) : ∀ (d : PyData) (v : V) (u : Value), Pt H v d → noW d = true → RelV v u → ∃ as, Reads s.heap u d as ∧ sysModules ∉ as
  | .none, v, u, h, _, r => by
    cases h
    cases r
    exact ⟨[], .none, fun z => nomatch z⟩
  | .bool b, v, u, h, _, r => by
    cases h
    cases r
    exact ⟨[], .bool b, fun z => nomatch z⟩
  | .int i, v, u, h, _, r => by
    cases h
    obtain ⟨t, rfl⟩ := r
    exact ⟨[], .int i t, fun z => nomatch z⟩
  | .str x, v, u, h, _, r => by
    cases h
    obtain ⟨t, rfl⟩ := r
    exact ⟨[], .str x t, fun z => nomatch z⟩
  | .list ds, v, u, h, n, r => by cases n
  | .tuple ds, v, u, h, n, r => by
    rw [noW] at n
    cases h with
    | @tup a vs _ hs ha =>
      cases r
      obtain ⟨its, rv, ⟨o, ho, hc, m, hd⟩, _⟩ := I.tuple (st_of (K := X.K) hs)
      obtain ⟨as, q, hm⟩ := PtAll.reads I ds vs its ha n rv
      exact ⟨_, .tuple ho hc hd (by simpa using q), hm⟩
  | .dict _, v, u, h, _, r => by
    cases h with
    | @nil a hs =>
      cases r
      obtain ⟨_, hne, vs, rel, o, es, ep, ho, ⟨hx, _, _⟩, hd, _, hp, _⟩ := dk_of I.hok hs
      cases rel
      cases es with
      | mk es =>
      cases hp
      refine ⟨_, Reads.dict ho hx hd (kvs := []) (as := []) (bs := []) .nil .nil, fun h => ?_⟩
      simp only [List.append_nil, List.mem_cons, List.not_mem_nil, or_false] at h
      rw [← h] at hne
      exact absurd hne (by decide)
theorem PtAll.reads (I : Inv X pins σ H s) : ∀ (ds : List PyData) (vs : List V) (us : List Value), PtAll H vs ds → noWs ds = true → Vals vs us → ∃ as, ReadsAll s.heap us ds as ∧ sysModules ∉ as
  | [], _, _, h, _, r => by
    cases h
    cases r
    exact ⟨[], .nil, fun z => nomatch z⟩
  | d :: ds, _, _, h, n, r => by
    rw [noWs, Bool.and_eq_true] at n
    cases h with
    | cons h1 h2 =>
      cases r with
      | cons r1 r2 =>
        obtain ⟨as, q, m⟩ := Pt.reads I d _ _ h1 n.1 r1
        obtain ⟨bs, q2, m2⟩ := PtAll.reads I ds _ _ h2 n.2 r2
        exact ⟨_, .cons q q2, fun z => (List.mem_append.mp z).elim m m2⟩
end
def rReprP (K : PySem.W.Frag) : List V → Hp → VK → Prop := fun xs H Q => ∃ v d, xs = [v] ∧ Pt H v d ∧ (noK d = true ∨ noW d = true) ∧ d.showable = true ∧ d.shown.length ≤ sizeLine ∧ d.depth ≤ 60 ∧ Q (.str d.shown) H
theorem call_reprP {X : Cx} (hg : X.A.guards = some []) (hu : X.A.units + 64 < cLine) : CallR X (.builtin "repr") (rReprP X.K) := by
  intro pins s σ H xs us Q I r h
  obtain ⟨v, d, rfl, hd, hn, hs, hz, hdp, q⟩ := h
  rcases hn with hn | hn
  · exact call_reprJ hg hu pins s σ H [v] us Q I r ⟨v, d, rfl, djP hd hn, hs, hz, hdp, q⟩
  cases r with
  | @cons _ u _ us r1 r2 =>
    cases r2
    show wpAny _ _ (call (.builtin "repr") [u]) _ _ _
    obtain ⟨as, rd, hm0⟩ := Pt.reads I d v u hd hn r1
    have hm : d.hasDict = true → sysModules ∉ as := fun _ => hm0
    cases rd with
    | none => exact P.repr_of_none ⟨.str _, H, I.tok _, ⟨_, rfl⟩, by simpa [PyData.shown] using q⟩
    | bool b => exact P.repr_of_bool ⟨.str _, H, I.tok _, ⟨_, rfl⟩, by simpa [PyData.shown] using q⟩
    | int i t => exact P.repr_of_int (by simpa [PyData.showable] using hs) ⟨.str _, H, I.tok _, ⟨_, rfl⟩, by simpa [PyData.shown] using q⟩
    | str x t => exact P.repr_of_str ⟨.str _, H, I.tok _, ⟨_, rfl⟩, by simpa [PyData.shown] using q⟩ (by simpa [PyData.shown] using hz)
    | list h1 h2 h3 h4 => exact repr_of_reads' (.list h1 h2 h3 h4) hs hm hg (by omega) (fun _ _ e => e) (fun h' u tk k => ⟨.str _, H, I.kept (t' := tk) k, ⟨_, rfl⟩, q⟩) hz
    | tuple h1 h2 h3 h4 => exact repr_of_reads' (.tuple h1 h2 h3 h4) hs hm hg (by omega) (fun _ _ e => e) (fun h' u tk k => ⟨.str _, H, I.kept (t' := tk) k, ⟨_, rfl⟩, q⟩) hz
    | dict h1 h2 h3 h4 h5 => exact repr_of_reads' (.dict h1 h2 h3 h4 h5) hs hm hg (by omega) (fun _ _ e => e) (fun h' u tk k => ⟨.str _, H, I.kept (t' := tk) k, ⟨_, rfl⟩, q⟩) hz
end
end Dt

/-! k23: the law's own look at an entry. -/
namespace Dt
open PySem L2 Evl Dg LamR LamX StX ClX TL
open Dr (StAt SameB)
abbrev sLIsNum : Stmt := top 76
abbrev sLDueE : Stmt := top 77
section
variable {P : Program} {w : World} {K : PySem.W.Frag} {mg : Str → Option Value} {base : Heap} {ca : Nat → Addr} {fin : Addr}
def spLIsNum : Sp := fun vs H Q _ => ∃ v D, vs = [v] ∧ Pt H v D ∧ RetV (.bl (numD D)) H Q
theorem scLIsNum : FnScope ["thing"] ["thing"] (defScope sLIsNum) := ⟨rfl, rfl, rfl, by decide +kernel, rfl, by decide +kernel, by decide +kernel⟩
theorem ok_lisnum {f : Addr} {fd : FuncData} (F : Fun K "_law_is_number" "_law_is_number" sLIsNum f fd) (mI : mg "isinstance" = none) (m1 : mg "int" = none) (m2 : mg "bool" = none) : FnOk P w K mg base CX0 1 f fd ["thing"] spLIsNum := by
  refine F.ok scLIsNum (fun vs H Q E h => ?_) (fun cdv A outer s H vs Q E hr h => ?_)
  · obtain ⟨_, _, rfl, _⟩ := h
    rfl
  · obtain ⟨v, D, rfl, k, q⟩ := h
    refine ⟨_, pss_one (ps_ret (pe_and (pe_callB (r := rIsi K) call_isi (by rfl) mI (by decide +kernel) (pa_cons (pv 0) (pa_cons (pe_bltn (by rfl) m1 (by decide +kernel) (v := .ty "int") rfl) pa_nil)))
      (pe_and (pe_not (pe_callB (r := rIsi K) call_isi (by rfl) mI (by decide +kernel) (pa_cons (pv 0) (pa_cons (pe_bltn (by rfl) m2 (by decide +kernel) (v := .ty "bool") rfl) pa_nil))))
      (pe_one (pe_cmpR op_gt (pv 0) pe_int (nomark _)))))), ?_⟩
    by_cases hi : ∃ i, D = .int i
    · obtain ⟨i, rfl⟩ := hi
      cases k
      refine s_ret (ev_is (ev_andV (ev_isi (r := true) (ev_var rfl) (.base (.int i)) (by decide +kernel)) fun _ => ev_andV (ev_notV (ev_isi (r := false) (ev_var rfl) (.base (.int i)) (by decide +kernel))) fun _ => ev_op (ev_var rfl) ev_c rv_I0) ?_) fun H1 e1 => q H1 e1
      show V.bl (true && (true && decide (i > (0 : Int)))) = V.bl (decide (1 ≤ i))
      rw [Bool.true_and, Bool.true_and]
      exact congrArg V.bl (decide_eq_decide.mpr (by omega))
    · have hn : numD D = false := by
        cases D <;> first | rfl | exact absurd ⟨_, rfl⟩ hi
      rw [hn] at q
      by_cases hb : ∃ b, D = .bool b
      · obtain ⟨b, rfl⟩ := hb
        cases k
        exact s_ret (ev_is (ev_andV (ev_isi (r := true) (ev_var rfl) (.base (.bl b)) (by decide +kernel)) fun _ => ev_andV (b := false) (ev_notV (ev_isi (r := true) (ev_var rfl) (.base (.bl b)) (by decide +kernel))) fun z => nomatch z) rfl) fun H1 e1 => q H1 e1
      · refine s_ret (ev_is (ev_andV (b := false) (ev_isi (r := false) (ev_var rfl) k.ty ?_) fun z => nomatch z) rfl) fun H1 e1 => q H1 e1
        cases D <;> first | exact absurd ⟨_, rfl⟩ hi | exact absurd ⟨_, rfl⟩ hb | (simp only [tyN]; decide +kernel)
theorem ev_lnum {σ : St} {H : Hp} {te : TE} {v : V} {D : PyData} {E : XK} (h : Ev te σ H v) (k : Pt H v D) : Ev (tCall spLIsNum [] E (tCons te tNil)) σ H (.bl (numD D)) :=
  ev_call (ea_cons h ea_nil) fun H1 e Q q E => ⟨v, D, rfl, k.ex e, fun H2 e2 => q H2 e2⟩
theorem g_at {i : Nat} {v : V} {σ σ' : St} {H : Hp} {Q : St → Hp → Prop} (h : σ.set i (some v) = σ') (k : Q σ' H) : gName i v σ H Q := by
  subst h
  exact k
/-- what is due, as the law tells it -/
def dueV : Option PyData → List V
  | none => []
  | some .none => [.non]
  | some (.int i) => [.int i]
  | _ => []
def spLDueE : Sp := fun vs H Q _ => ∃ v D, vs = [v] ∧ Pt H v D ∧ RetL (dueV (dueE D)) H Q
theorem scLDueE : FnScope ["thing", "last", "k", "item", "ends"] ["thing"] (defScope sLDueE) := ⟨rfl, rfl, rfl, by decide +kernel, rfl, by decide +kernel, by decide +kernel⟩
theorem ok_ldueE {f : Addr} {fd fd1 : FuncData} (F : Fun K "_law_due" "_law_due" sLDueE f fd) (GN : FnOk P w K mg base CX0 1 fin fd1 ["thing"] spLIsNum) (bN : Binds K fd1 ["thing"] []) (gN : mg "_law_is_number" = some (.ref fin)) (kN : PySem.W.keepIn K (.ref fin) = true)
    (mI : mg "isinstance" = none) (mT : mg "tuple" = none) (mL : mg "len" = none) (mE : mg "enumerate" = none) : FnOk P w K mg base CX0 2 f fd ["thing"] spLDueE := by
  refine F.ok scLDueE (fun vs H Q E h => ?_) (fun cdv A outer s H vs Q E hr h => ?_)
  · obtain ⟨_, _, rfl, _⟩ := h
    rfl
  · obtain ⟨v, D, rfl, k, q⟩ := h
    refine ⟨_, pss_cons (ps_if (PW.pt (pw_or (pt_not (pt_val (pe_callB (r := rIsi K) call_isi (by rfl) mI (by decide +kernel) (pa_cons (pv 0) (pa_cons (pe_bltn (by rfl) mT (by decide +kernel) (v := .ty "tuple") rfl) pa_nil)))))
        (pw_or1 (pt_not (pt_chain op_le op_le pe_int (pe_callB (id := "len") (r := rLenS K) call_len_seq (by rfl) mL (by decide +kernel) (pa_cons (pv 0) pa_nil)) pe_int)))))
        (pss_one (ps_ret (pe_lst (pa_cons pe_non pa_nil)))) pss_nil)
      (pss_cons (ps_set (i := 1) scLDueE.nd rfl (.inl rfl) pe_int)
      (pss_cons (ps_for PassesOwn.never rfl (pi_enumT (by rfl) mE (pa_cons (pv 0) pa_nil)) (pg_tup (by rfl) (pgs_cons (pg_name (i := 2) scLDueE.nd rfl (.inl rfl)) (pgs_cons (pg_name (i := 3) scLDueE.nd rfl (.inl rfl)) pgs_nil)))
        (pss_cons (ps_set (i := 4) scLDueE.nd rfl (.inl rfl) (pe_ifExp (pt_val (pe_callB (r := rIsi K) call_isi (by rfl) mI (by decide +kernel) (pa_cons (pv 3) (pa_cons (pe_bltn (by rfl) mT (by decide +kernel) (v := .ty "tuple") rfl) pa_nil)))) (pv 3) (pe_tup (pa_cons (pv 3) (pa_cons (pv 3) pa_nil)))))
        (pss_cons (ps_if (PW.pt (pw_or (pt_cmpR op_ne (pe_callB (id := "len") (r := rLenS K) call_len_seq (by rfl) mL (by decide +kernel) (pa_cons (pv 4) pa_nil)) pe_int (nomark _))
            (pw_or (pt_not (pt_val (pe_call GN hr (by rfl) gN kN bN .nil pass0 (pa_cons (pe_ix (r := rIxT K) ix_tup (pv 4) pe_int (fun _ _ => rfl)) pa_nil))))
            (pw_or (pt_not (pt_val (pe_call GN hr (by rfl) gN kN bN .nil pass0 (pa_cons (pe_ix (r := rIxT K) ix_tup (pv 4) pe_int (fun _ _ => rfl)) pa_nil))))
            (pw_or1 (pt_cmpR op_le (pe_ix (r := rIxT K) ix_tup (pv 4) pe_int (fun _ _ => rfl)) (pv 1) (nomark _)))))))
          (pss_one (ps_ret (pe_lst (pa_cons (pv 2) pa_nil)))) pss_nil)
        (pss_cons (ps_if (PW.pt (pw_and (pt_val (pe_callB (r := rIsi K) call_isi (by rfl) mI (by decide +kernel) (pa_cons (pv 3) (pa_cons (pe_bltn (by rfl) mT (by decide +kernel) (v := .ty "tuple") rfl) pa_nil))))
            (pw_and1 (pt_cmpR op_ge (pe_ix (r := rIxT K) ix_tup (pv 4) pe_int (fun _ _ => rfl)) (pe_ix (r := rIxT K) ix_tup (pv 4) pe_int (fun _ _ => rfl)) (nomark _)))))
          (pss_one (ps_ret (pe_lst (pa_cons (pv 2) pa_nil)))) pss_nil)
        (pss_one (ps_set (i := 1) scLDueE.nd rfl (.inl rfl) (pe_ix (r := rIxT K) ix_tup (pv 4) pe_int (fun _ _ => rfl))))))))
      (pss_one (ps_ret (pe_lst pa_nil))))), ?_⟩
    have key : EvT (tOr (tNot (tTest (tCB (rIsi K) (tCons (tVar 0) (tCons (tC (.ty "tuple")) tNil))))) (tNot (tTest (tChain (rI0 fun i j => V.bl (decide (i ≤ j))) (rI0 fun i j => V.bl (decide (i ≤ j))) (tC (.int 1)) (tCB (rLenS K) (tCons (tVar 0) tNil)) (tC (.int 50)))))) (L2.start ["thing", "last", "k", "item", "ends"] [v]) H (!(isT D && (decide (1 ≤ (tupD D).length) && decide ((tupD D).length ≤ 50)))) := by
      refine et_is (et_or (a := !isT D) (b := !(decide (1 ≤ (tupD D).length) && decide ((tupD D).length ≤ 50))) (et_not (et_test (ev_isiT (ev_var rfl) k))) fun z => ?_) (by cases isT D <;> simp)
      have ht : isT D = true := by simpa using z
      cases D with
      | tuple ds =>
        obtain ⟨a, vs, rfl, ha, ka⟩ := k.tupI'
        have hl := ka.length
        refine et_is (et_not (et_test (ev_chI ev_c (ev_lenT (K := K) (ev_var rfl) ha) ev_c))) ?_
        rw [hl]
        show (!(decide (1 ≤ (ds.length : Int)) && decide ((ds.length : Int) ≤ 50))) = !(decide (1 ≤ ds.length) && decide (ds.length ≤ 50))
        congr 1
        congr 1 <;> exact decide_eq_decide.mpr (by omega)
      | _ => cases ht
    refine q_when key (fun z H1 e1 => ?_) (fun z H1 e1 => ?_)
    · have hd : dueE D = some .none := by
        unfold dueE
        rw [Bool.not_eq_true'] at z
        rw [z]
        rfl
      rw [hd] at q
      exact s_retL (xs := [.non]) (el_lst (ea_cons ev_c ea_nil) (by decide)) fun p H2 hp e2 h2 => q p H2 (fresh_back e1 hp) (e1.trans e2) h2
    · rw [Bool.not_eq_false'] at z
      have ht := (Bool.and_eq_true_iff.mp z).1
      have hd : dueE D = entGo 0 0 (tupD D) := by
        unfold dueE
        rw [z]
        rfl
      rw [hd] at q
      cases D with
      | tuple ds =>
        have hT : tupD (.tuple ds) = ds := rfl
        rw [hT] at q
        obtain ⟨a, vs, rfl, ha, ka⟩ := k.tupI'
        refine q_asg ev_c fun H2 e2 => ?_
        have e12 := e1.trans e2
        refine ⟨_, rfl, a, vs, rfl, st_of (e12 _ _ ha), for_enumT (xs := vs) (fun i σ' H' => (∃ (b : Int) (x2 x3 x4 : Option V), σ' = [some (.ref a), some (.int b), x2, x3, x4] ∧ entGo 0 0 ds = entGo b i (ds.drop i)) ∧ Ex H H')
          ⟨⟨0, _, _, _, rfl, rfl⟩, e12⟩ (fun i σ' H' _ hI => st_of (hI.2 _ _ ha)) (fun i x T' σ' H' hx hI hT' => ?_) (fun σ' H' hI => ?_)⟩
        · obtain ⟨⟨b, x2, x3, x4, rfl, hg⟩, e3⟩ := hI
          obtain ⟨dx, hdx, kx⟩ := ka.get2 hx
          have e4 := e3.trans (Ex.new (o := .tup [.int (i : Nat), x]) hT')
          have hdr : ds.drop i = dx :: ds.drop (i + 1) := by
            obtain ⟨h1, h2⟩ := List.getElem?_eq_some_iff.mp hdx
            rw [List.drop_eq_getElem_cons h1, h2]
          rw [hdr] at hg
          have hgo : entGo b i (dx :: ds.drop (i + 1)) = if (itemB dx && decide (b < intD (spanA dx))) = true then entGo (intD (spanZ dx)) (i + 1) (ds.drop (i + 1)) else some (.int (i : Int)) := rfl
          rw [hgo] at hg
          refine ⟨T', _, rfl, st_of upd_same, rfl, _, _, rfl, _, _, rfl, rfl, ?_⟩
          have back : (itemB dx && decide (b < intD (spanA dx))) = false → ∀ {σ : St} {H4 : Hp} {D' : Ends}, σ[2]? = some (some (.int (i : Nat))) → Ex (upd H' T' (.tup [.int (i : Nat), x])) H4 → (D'.rt = Q) → tRet (tLst (tCons (tVar 2) tNil)) D' σ H4 := fun hb σ H4 D' hσ e5 hD => by
            rw [hb, if_neg (by decide)] at hg
            rw [hg] at q
            refine s_retL (xs := [.int (i : Nat)]) (el_lst (ea_cons (ev_var hσ) ea_nil) (by simp)) fun p H5 hp e6 h6 => ?_
            rw [hD]
            exact q p H5 (fresh_back (e4.trans e5) hp) ((e4.trans e5).trans e6) h6
          have kx4 := kx.ex e4
          have eE : ∀ Q4 : VK, (∀ ax us es H5, Ex (upd H' T' (.tup [.int (i : Nat), x])) H5 → H5 ax = some (.tup us) → PtAll H5 us es → (isT dx = true → dx = .tuple es) → (isT dx = false → es = [dx, dx]) → Q4 (.ref ax) H5) →
              (tIf (tTest (tCB (rIsi K) (tCons (tVar 3) (tCons (tC (.ty "tuple")) tNil)))) (tVar 3) (tTup (tCons (tVar 3) (tCons (tVar 3) tNil)))) [some (.ref a), some (.int b), some (.int (i : Nat)), some x, x4] (upd H' T' (.tup [.int (i : Nat), x])) Q4 := fun Q4 q4 => by
            refine (et_test (ev_isiT (ev_var rfl) kx4)) _ (Ex.refl _) _ fun H5 e5 => ?_
            cases htx : isT dx with
            | true =>
              rw [if_pos rfl]
              cases dx with
              | tuple es =>
                obtain ⟨ax, us, rfl, hax, kus⟩ := (kx4.ex e5).tupI'
                exact ⟨_, rfl, q4 ax us es H5 e5 hax kus (fun _ => rfl) fun z => by rw [htx] at z; cases z⟩
              | _ => cases htx
            | false =>
              rw [if_neg (by decide)]
              exact ⟨_, rfl, _, rfl, by show 2 ≤ sizeLine; decide, fun ax nax => q4 ax _ [dx, dx] _ (e5.trans (Ex.new nax)) upd_same (.cons ((kx4.ex e5).ex (Ex.new nax)) (.cons ((kx4.ex e5).ex (Ex.new nax)) .nil)) (fun z => by rw [htx] at z; cases z) fun _ => rfl⟩
          refine eE _ fun ax us es H5 e5 hax5 kus hT1 hT0 => ?_
          refine g_at (σ' := [some (.ref a), some (.int b), some (.int (i : Nat)), some x, some (.ref ax)]) rfl ?_
          dsimp only
          have hul := kus.length
          have lenE : Ev (tCB (rLenS K) (tCons (tVar 4) tNil)) [some (.ref a), some (.int b), some (.int (i : Nat)), some x, some (.ref ax)] H5 (.int (us.length : Int)) := ev_lenT (K := K) (ev_var rfl) hax5
          by_cases h2 : es.length = 2
          · obtain ⟨d0, d1, rfl⟩ : ∃ d0 d1, es = [d0, d1] := by
              match es, h2 with
              | [d0, d1], _ => exact ⟨d0, d1, rfl⟩
            have hit : (itemB dx && decide (b < intD (spanA dx))) = (numD d0 && (numD d1 && decide (b < intD d0)) && !(isT dx && decide (intD d0 ≥ intD d1))) ∧ spanZ dx = d1 := by
              cases htx : isT dx with
              | true =>
                have := hT1 htx
                subst this
                have iB : itemB (.tuple [d0, d1]) = (numD d0 && (numD d1 && decide (intD d0 < intD d1))) := by
                  show (decide (2 = 2) && _) = _
                  rw [decide_eq_true rfl, Bool.true_and]
                  rfl
                refine ⟨?_, rfl⟩
                rw [iB]
                show ((numD d0 && (numD d1 && decide (intD d0 < intD d1))) && decide (b < intD d0)) = _
                have e : (decide (intD d0 ≥ intD d1)) = !decide (intD d0 < intD d1) := by
                  rw [← decide_not]
                  exact decide_eq_decide.mpr (by omega)
                rw [e]
                cases numD d0 <;> cases numD d1 <;> cases decide (intD d0 < intD d1) <;> cases decide (b < intD d0) <;> rfl
              | false =>
                have := hT0 htx
                injection this with h0 h1
                injection h1 with h1 _
                rw [h0, h1]
                refine ⟨?_, ?_⟩
                · unfold itemB spanA
                  rw [htx, if_neg (by decide), if_neg (by decide)]
                  cases numD dx <;> cases decide (b < intD dx) <;> rfl
                · unfold spanZ
                  rw [htx, if_neg (by decide)]
            obtain ⟨hit, hsz⟩ := hit
            rw [hit] at hg back
            cases kus with
            | @cons v0 _ _ _ k0 kus =>
              cases kus with
              | @cons v1 _ _ _ k1 kus =>
                cases kus
                have i0 : ∀ {H6 : Hp}, Ex H5 H6 → Ev (tOp (rIxT K) (tVar 4) (tC (.int 0))) [some (.ref a), some (.int b), some (.int (i : Nat)), some x, some (.ref ax)] H6 v0 := fun e6 => ev_op (ev_var rfl) ev_c (rv_ixT (st_of (e6 _ _ hax5)) rfl)
                have i1 : ∀ {H6 : Hp}, Ex H5 H6 → Ev (tOp (rIxT K) (tVar 4) (tC (.int 1))) [some (.ref a), some (.int b), some (.int (i : Nat)), some x, some (.ref ax)] H6 v1 := fun e6 => ev_op (ev_var rfl) ev_c (rv_ixT (st_of (e6 _ _ hax5)) rfl)
                refine q_when (b := false || (!numD d0 || (!numD d1 || !decide (b < intD d0)))) (et_or (et_is (et_test (ev_op lenE ev_c (rv_ne rfl))) rfl) fun _ => et_or (et_not (et_test (ev_lnum (i0 (Ex.refl _)) k0))) fun n0 => et_or (et_not (et_test (ev_lnum (i1 (Ex.refl _)) k1))) fun n1 => ?_) (fun z4 H6 e6 => ?_) (fun z4 H6 e6 => ?_)
                · have n0 : numD d0 = true := by simpa using n0
                  cases k0 with
                  | int j =>
                    refine et_is (et_test (ev_op (i0 (Ex.refl _)) (ev_var rfl) rv_I0)) ?_
                    show decide (j ≤ b) = !decide (b < j)
                    rw [← decide_not]
                    exact decide_eq_decide.mpr (by omega)
                  | _ => cases n0
                · refine back ?_ rfl (e5.trans e6) rfl
                  cases h0 : numD d0 <;> cases h1 : numD d1 <;> cases h3 : decide (b < intD d0) <;> simp [h0, h1, h3] at z4 ⊢
                · have hh : numD d0 = true ∧ numD d1 = true ∧ decide (b < intD d0) = true := by
                    cases h0 : numD d0 <;> cases h1 : numD d1 <;> cases h3 : decide (b < intD d0) <;> simp [h0, h1, h3] at z4 ⊢
                  obtain ⟨n0, n1, lt⟩ := hh
                  rw [n0, n1, lt, Bool.true_and, Bool.true_and, Bool.true_and] at hg back
                  cases k0 with
                  | int j0 =>
                    cases k1 with
                    | int j1 =>
                      refine q_when (b := isT dx && decide (j0 ≥ j1)) (et_and (et_test (ev_isiT (ev_var rfl) ((kx4.ex e5).ex e6))) fun _ => et_test (ev_op (i0 e6) (i1 e6) rv_I0)) (fun z5 H7 e7 => ?_) (fun z5 H7 e7 => ?_)
                      · refine back ?_ rfl ((e5.trans e6).trans e7) rfl
                        show (!(isT dx && decide (j0 ≥ j1))) = false
                        rw [z5]
                        rfl
                      · have hg2 : entGo 0 0 ds = entGo (intD (spanZ dx)) (i + 1) (ds.drop (i + 1)) := by
                          have e : (!(isT dx && decide (intD (.int j0) ≥ intD (.int j1)))) = true := by
                            show (!(isT dx && decide (j0 ≥ j1))) = true
                            rw [z5]
                            rfl
                          rw [e, if_pos rfl] at hg
                          exact hg
                        rw [hsz] at hg2
                        exact s_asg (i1 (e6.trans e7)) fun H8 e8 => ⟨⟨j1, _, _, _, rfl, hg2⟩, (((e4.trans e5).trans e6).trans e7).trans e8⟩
                    | _ => cases n1
                  | _ => cases n0
          · refine q_when (b := true) (et_is (et_or (a := true) (b := true) (et_is (et_test (ev_op lenE ev_c (rv_ne rfl))) ?_) fun z => nomatch z) rfl) (fun _ H6 e6 => ?_) (fun z => nomatch z)
            · have : ¬ V.int (us.length : Int) = V.int 2 := fun z => by injection z with z; omega
              rw [decide_eq_false this]
              rfl
            · refine back ?_ rfl (e5.trans e6) rfl
              have hb : itemB dx = false := by
                cases htx : isT dx with
                | true =>
                  have := hT1 htx
                  subst this
                  show (decide (es.length = 2) && _) = false
                  rw [decide_eq_false h2]
                  rfl
                | false =>
                  have := hT0 htx
                  rw [this] at h2
                  exact absurd rfl h2
              rw [hb]
              rfl
        · obtain ⟨⟨b, x2, x3, x4, rfl, hg⟩, e3⟩ := hI
          have hl := ka.length
          rw [hl, List.drop_length] at hg
          rw [hg] at q
          exact s_retL (σ := [some (.ref a), some (.int b), x2, x3, x4]) (xs := []) (el_lst ea_nil (by decide)) fun p H4 hp e4 h4 => q p H4 (fresh_back e3 hp) (e3.trans e4) h4
      | _ => cases ht
end
end Dt

/-! The text of an entry. -/
namespace Dt
open PySem L2 Evl Dg LamR LamX StX ClX TL
open Dr (StAt SameB)
abbrev sEntText : Stmt := top 58
/-- the spans of ascending items, all behind a number -/
inductive Spans : Nat → List PyData → List (Nat × Nat) → Prop
  | nil {a : Nat} : Spans a [] []
  | cons {a f l : Nat} {d : PyData} {ds : List PyData} {ps : List (Nat × Nat)} : Span d f l → a < f → Spans l ds ps → Spans a (d :: ds) ((f, l) :: ps)
theorem go_spans : ∀ {ds : List PyData} {a k : Nat}, entGo a k ds = none → ∃ ps, Spans a ds ps
  | [], a, k, _ => ⟨[], .nil⟩
  | d :: ds, a, k, h => by
    have e : entGo a k (d :: ds) = if (itemB d && decide ((a : Int) < intD (spanA d))) = true then entGo (intD (spanZ d)) (k + 1) ds else some (.int (k : Int)) := rfl
    rw [e] at h
    cases hb : (itemB d && decide ((a : Int) < intD (spanA d))) with
    | false =>
      rw [hb] at h
      cases h
    | true =>
      rw [hb, if_pos rfl] at h
      obtain ⟨h1, h2⟩ := Bool.and_eq_true_iff.mp hb
      obtain ⟨f, l, S⟩ := item_span h1
      have h2 := of_decide_eq_true h2
      rw [S.a] at h2
      rw [S.z] at h
      have h2 : (a : Int) < (f : Int) := h2
      obtain ⟨ps, hp⟩ := go_spans h
      exact ⟨(f, l) :: ps, .cons S (by omega) hp⟩
theorem Span.item {d : PyData} {f l : Nat} (S : Span d f l) (h : isT d = true → f < l) : itemB d = true := by
  unfold itemB
  have f1 := S.f1
  cases ht : isT d with
  | true =>
    rw [if_pos rfl, S.t ht]
    have := h ht
    rw [Bool.and_eq_true_iff, Bool.and_eq_true_iff, Bool.and_eq_true_iff]
    exact ⟨rfl, decide_eq_true (show (1 : Int) ≤ f by omega), decide_eq_true (show (1 : Int) ≤ l by omega), decide_eq_true (show (f : Int) < l by omega)⟩
  | false =>
    rw [if_neg (by decide)]
    have e : d = .int (f : Int) := by
      have := S.a
      unfold spanA at this
      rw [ht] at this
      exact this
    rw [e]
    exact decide_eq_true (by omega)
theorem spans_go : ∀ {ds : List PyData} {a k : Nat} {ps : List (Nat × Nat)}, Spans a ds ps → (∀ d ∈ ds, itemB d = true) → entGo a k ds = none
  | [], _, _, _, _, _ => rfl
  | d :: ds, a, k, _, h, hi => by
    cases h with
    | @cons _ f l _ _ ps S hf hr =>
      have e : entGo a k (d :: ds) = if (itemB d && decide ((a : Int) < intD (spanA d))) = true then entGo (intD (spanZ d)) (k + 1) ds else some (.int (k : Int)) := rfl
      rw [e, hi d List.mem_cons_self, S.a, S.z]
      rw [show (true && decide ((a : Int) < intD (.int (f : Int)))) = true from decide_eq_true (show (a : Int) < (f : Int) by omega), if_pos rfl]
      exact spans_go hr fun x hx => hi x (List.mem_cons_of_mem _ hx)
theorem Spans.len : ∀ {ds : List PyData} {a : Nat} {ps : List (Nat × Nat)}, Spans a ds ps → ps.length = ds.length
  | _, _, _, .nil => rfl
  | _, _, _, .cons _ _ h => by rw [List.length_cons, List.length_cons, h.len]
theorem ent_spans {ds : List PyData} (h : dueE (.tuple ds) = none) : ∃ ps, Spans 0 ds ps := by
  unfold dueE at h
  split at h
  · exact go_spans (a := 0) (k := 0) h
  · cases h
theorem ent_len {D : PyData} (h : dueE D = none) : (tupD D).length ≤ 50 ∧ 1 ≤ (tupD D).length ∧ isT D = true := by
  unfold dueE at h
  split at h
  · next z =>
    simp only [Bool.and_eq_true, decide_eq_true_eq] at z
    exact ⟨z.2.2, z.2.1, z.1⟩
  · cases h
/-- a part of an entry's text, behind a number (0: none) -/
noncomputable def partE (β : Nat) (Ds : List PyData) (full : Bool) (a f l : Nat) : Str :=
  let p := if (full || decide (a = 0)) = true then digs β f else tailD β a f Ds
  if f < l then (p ++ "-") ++ tailD β f l Ds else p
noncomputable def partsE (β : Nat) (Ds : List PyData) (full : Bool) : Nat → List (Nat × Nat) → List Str
  | _, [] => []
  | a, p :: ps => partE β Ds full a p.1 p.2 :: partsE β Ds full p.2 ps
/-- the text of an entry -/
noncomputable def entT (β : Nat) (Ds : List PyData) (full : Bool) (ps : List (Nat × Nat)) : Str := Txt.join ", " (partsE β Ds full 0 ps)
def isFull : PyData → Bool
  | .str x => decide (x = "full")
  | _ => false
def aV (a : Nat) : V := if a = 0 then .non else .int (a : Int)
section
variable {P : Program} {w : World} {K : PySem.W.Frag} {mg : Str → Option Value} {base : Heap} {ca : Nat → Addr} {fnum fit fsp fnm fne am fdg C : Addr}
theorem spM_int {G : Nat → Nat → Nat → List PyData → V} {H : Hp} {x : Addr} {β f s : Nat} {Ds : List PyData} {Q : VK} {E : XK} (sty : StyAt H C x β Ds) (good : RowS β Ds) (r : RgN β f s) (q : RetV (G β f s Ds) H Q) : spM K C ca G [.ref x, .int f, .int s] H Q E :=
  ⟨x, β, Ds, .int f, .int s, true, true, rfl, sty, r.b2, r.b10, good, nm_yes r.f1, nm_yes r.s1, ⟨(fun z => nomatch z), fun _ => .inr ⟨f, s, rfl, rfl, r.f1, r.lt, r.s2, q⟩⟩⟩
theorem ev_methM {G : Nat → Nat → Nat → List PyData → V} {σ : St} {H : Hp} {t0 t1 t2 : TE} {E : XK} {m : Str} {x : Addr} {β f s : Nat} {Ds : List PyData} (h1 : (m == "stored_base") = false) (h2 : (m == "stored_rules") = false) (sty : StyAt H C x β Ds) (good : RowS β Ds) (r : RgN β f s)
    (k0 : Ev t0 σ H (.ref x)) (k1 : Ev t1 σ H (.int f)) (k2 : Ev t2 σ H (.int s)) : Ev (tMeth C m (spM K C ca G) [] E t0 (tCons t1 (tCons t2 tNil))) σ H (G β f s Ds) := fun H1 e Q q =>
  k0 H1 e _ fun H2 e2 => by
    obtain ⟨dx, tr, hx, kr⟩ := sty.ex (e.trans e2)
    exact ⟨x, dx, _, rfl, hx, lk_none _ _ h1 h2, k1 H2 (e.trans e2) _ fun H3 e3 => k2 H3 ((e.trans e2).trans e3) _ fun H4 e4 => spM_int (sty.ex (((e.trans e2).trans e3).trans e4)) good r fun H5 e5 => q H5 (((e2.trans e3).trans e4).trans e5)⟩
theorem ev_propB {σ : St} {H : Hp} {te : TE} {E : XK} {x : Addr} {β : Nat} {Ds : List PyData} (h : Ev te σ H (.ref x)) (sty : StyAt H C x β Ds) : Ev (tProp C (getSp C "stored_base") [] E te) σ H (.int (β : Int)) := fun H1 e Q q =>
  h H1 e _ fun H2 e2 => by
    obtain ⟨dx, tr, hx, kr⟩ := sty.ex (e.trans e2)
    exact ⟨x, dx, _, rfl, hx, x, dx, _, _, rfl, hx, lk_base _ _, q H2 e2⟩
theorem rv_addT {x y : Str} {H : Hp} (h : x.length + y.length ≤ 1000000) : RV (fun x y H Q => ∃ i j, x = .str i ∧ y = .str j ∧ i.length + j.length ≤ sizeLine ∧ Q (.str (i ++ j)) H) (.str x) (.str y) H (.str (x ++ y)) := fun H1 e Q q => ⟨x, y, rfl, rfl, by
  rw [sizeLine_eq]
  omega, q H1 (Ex.refl H1)⟩
theorem partE_len {β a f l : Nat} {Ds : List PyData} {full : Bool} (b2 : 2 ≤ β) (hf : f < 2 ^ 50000) (hl : l < 2 ^ 50000) : (partE β Ds full a f l).length ≤ 100001 := by
  have one : ("-" : Str).length = 1 := by decide
  have l1 : (digs β f).length ≤ 50000 := digs_le b2 hf
  have l2 : (tailD β a f Ds).length ≤ 50000 := Nat.le_trans (cut_len _ _ _) l1
  have l3 : (tailD β f l Ds).length ≤ 50000 := Nat.le_trans (cut_len _ _ _) (digs_le b2 hl)
  clear hf hl
  unfold partE
  dsimp only
  by_cases h1 : (full || decide (a = 0)) = true <;> by_cases h2 : f < l
  · rw [if_pos h1, if_pos h2, len_append, len_append, one]
    omega
  · rw [if_pos h1, if_neg h2]
    omega
  · rw [if_neg h1, if_pos h2, len_append, len_append, one]
    omega
  · rw [if_neg h1, if_neg h2]
    omega
def spEntT (C : Addr) (ca : Nat → Addr) : Sp := fun vs H Q E => ∃ (x : Addr) (vm v : V) (M D : PyData), vs = [.ref x, vm, v] ∧ Pt H vm M ∧ Pt H v D ∧ (manB M = false → Leaves (ca 7) "value" vm H E) ∧
  (manB M = true → DueC (ca 8) H E (dueE D) (∃ (β : Nat) (Ds : List PyData) (ps : List (Nat × Nat)), StyAt H C x β Ds ∧ 2 ≤ β ∧ β ≤ 10 ∧ RowS β Ds ∧ Spans 0 (tupD D) ps ∧ (∀ p ∈ ps, p.2 < 2 ^ 50000) ∧ RetV (.str (entT β Ds (isFull M) ps)) H Q))
abbrev nEntText : List Str := ["style", "manner", "entry", "parts", "ahead", "item", "first", "last", "alone", "part"]
theorem scEntText : FnScope nEntText ["style", "manner", "entry"] (defScope sEntText) := ⟨rfl, rfl, rfl, by decide +kernel, rfl, by decide +kernel, by decide +kernel⟩
theorem join_le {qs : List Str} {n : Nat} (h : ∀ q ∈ qs, q.length ≤ 100001) (hn : qs.length ≤ n) : (qs.map (·.length)).sum ≤ 100001 * n := by
  have : (qs.map (·.length)).sum ≤ 100001 * qs.length := by
    induction qs with
    | nil => exact Nat.zero_le _
    | cons q qs ih =>
      rw [List.map_cons, List.sum_cons, List.length_cons]
      have := h q List.mem_cons_self
      have := ih (fun q hq => h q (List.mem_cons_of_mem _ hq)) (by rw [List.length_cons] at hn; omega)
      omega
  exact Nat.le_trans this (Nat.mul_le_mul_left _ hn)
theorem ok_entText {f pb gb ft : Addr} {fd fd1 fd2 fd3 fd4 fd5 fd6 : FuncData} (F : Fun K "entry_text" "entry_text" sEntText f fd) (G1 : FnOk P w K mg base (L2.CX P w) 8 fnm fd1 ["manner"] (spNeedMan ca)) (b1 : Binds K fd1 ["manner"] []) (G2 : FnOk P w K mg base (L2.CX P w) 8 fne fd2 ["value"] (spNeedEnt ca)) (b2' : Binds K fd2 ["value"] [])
    (G3 : FnOk P w K mg base CX0 8 fsp fd3 ["item"] spSpanOf) (b3 : Binds K fd3 ["item"] []) (G4 : FnOk P w K mg base (L2.CX P w) 8 fdg fd4 ["base", "number"] (spDigits K ca)) (b4 : Binds K fd4 ["base", "number"] [])
    (cl : Cls K C) (pB : PropOf K C "base" pb gb) (G5 : FnOk P w K mg base CX0 7 gb fd5 ["self"] (getSp C "stored_base")) (b5 : Binds K fd5 ["self"] []) (mT : Meth K C "tail" ft) (G6 : FnOk P w K mg base (L2.CX P w) 8 ft fd6 ["self", "first", "second"] (spM K C ca fun β f s Ds => .str (tailD β f s Ds))) (b6 : Binds K fd6 ["self", "first", "second"] [])
    (gD : mg "digits" = some (.ref fdg)) (kD : PySem.W.keepIn K (.ref fdg) = true) (T : TxEn K mg fnum fit fsp fnm fne am ca) : FnOk P w K mg base (L2.CX P w) 9 f fd ["style", "manner", "entry"] (spEntT C ca) := by
  refine F.okX scEntText (fun vs H Q E h => ?_) (fun cdv A outer s H vs Q E hr h => ?_)
  · obtain ⟨_, _, _, _, _, rfl, _⟩ := h
    rfl
  · obtain ⟨x, vm, v, M, D, rfl, km, k, bad, good⟩ := h
    refine ⟨_, pss_cons (ps_expr (pe_callS G1 hr (by rfl) T.needM T.kNM b1 (fun σ => passAt (takes_of rfl rfl rfl rfl) σ) (pa_cons (pv 1) pa_nil)))
      (pss_cons (ps_expr (pe_callS G2 hr (by rfl) T.needE T.kNE b2' (fun σ => passAt (takes_of rfl rfl rfl rfl) σ) (pa_cons (pv 2) pa_nil)))
      (pss_cons (ps_set (i := 3) scEntText.nd rfl (.inl rfl) (pe_lst pa_nil))
      (pss_cons (ps_set (i := 4) scEntText.nd rfl (.inl rfl) pe_non)
      (pss_cons (ps_for (passes_of rfl) rfl (pi_tup (pv 2)) (pg_name (i := 5) scEntText.nd rfl (.inl rfl))
        (pss_cons (ps_asg (pe_call G3 hr (by rfl) T.span T.kSp b3 .nil pass0 (pa_cons (pv 5) pa_nil)) (pg_tup (by rfl) (pgs_cons (pg_name (i := 6) scEntText.nd rfl (.inl rfl)) (pgs_cons (pg_name (i := 7) scEntText.nd rfl (.inl rfl)) pgs_nil))))
        (pss_cons (ps_set (i := 8) scEntText.nd rfl (.inl rfl) (pe_or (pe_cmpR op_eq (pv 1) pe_str (nomark _)) (pe_one (pe_cmpR op_isN (pv 4) pe_non (nomark _)))))
        (pss_cons (ps_set (i := 9) scEntText.nd rfl (.inl rfl) (pe_ifExp (pt_val (pv 8)) (pe_callS G4 hr (by rfl) gD kD b4 (fun σ => passAt (takes_of rfl rfl rfl rfl) σ) (pa_cons (pe_prop (pv 0) cl pB G5 hr b5 .nil pass0 rfl) (pa_cons (pv 6) pa_nil)))
          (pe_meth (pv 0) cl mT G6 hr b6 .nil (fun pins s H st e s' I c => passAt (takes_of rfl rfl rfl rfl) s pins H st e s' I c) (pa_cons (pv 4) (pa_cons (pv 6) pa_nil)))))
        (pss_cons (ps_expr (pe_bm PySem.F.plainAttrs_list PySem.F.slot_list_append PySem.F.type_list_append mt_append (pv 3) (pa_cons (pe_ifExp (pt_cmpR op_lt (pv 6) (pv 7) (nomark _)) (pe_op op_add_str (pe_op op_add_str (pv 9) pe_str)
          (pe_meth (pv 0) cl mT G6 hr b6 .nil (fun pins s H st e s' I c => passAt (takes_of rfl rfl rfl rfl) s pins H st e s' I c) (pa_cons (pv 6) (pa_cons (pv 7) pa_nil)))) (pv 9)) pa_nil)))
        (pss_one (ps_set (i := 4) scEntText.nd rfl (.inl rfl) (pv 7))))))))
      (pss_one (ps_ret (pe_join pe_str (pv 3)))))))), ?_⟩
    refine ⟨_, rfl, vm, M, rfl, km, bad, fun hM H1 e1 => ?_⟩
    have due := good hM
    refine ⟨_, rfl, v, D, rfl, k.ex e1, ⟨fun pl hp => (due.bad pl hp).go e1, fun hd H2 e2 => ?_⟩⟩
    have e12 := e1.trans e2
    obtain ⟨β, Ds, ps, sty, b2, b10, row, sp, big, q⟩ := due.ok hd
    obtain ⟨dl50, dl1, dt⟩ := ent_len hd
    cases D with
    | tuple ds =>
      obtain ⟨a, us, rfl, ha, ka⟩ := k.tupI'
      have hul := ka.length
      have dl50 : ds.length ≤ 50 := dl50
      have sp : Spans 0 ds ps := sp
      obtain ⟨xm, rfl, rfl⟩ : ∃ xm, M = .str xm ∧ vm = .str xm := by
        cases km with
        | str x z => exact ⟨x, rfl, rfl⟩
        | _ => cases hM
      refine q_asgL (xs := []) (el_lst ea_nil (by simp)) fun l H3 n3 e3 h3 => q_asg ev_c fun H4 e4 => ?_
      have nl : H l = none := fresh_back e12 n3
      have e14 := e12.trans (e3.trans e4)
      have fullE : isFull (.str xm) = decide (xm = "full") := rfl
      refine ⟨_, rfl, a, rfl, ⟨us, st_of (e14 _ _ ha)⟩, for_tup (xs := us) (fun i σ' H' => (∃ (b : Nat) (x5 x6 x7 x8 x9 : Option V) (qs : List Str) (ps' : List (Nat × Nat)), σ' = [some (.ref x), some (.str xm), some (.ref a), some (.ref l), some (aV b), x5, x6, x7, x8, x9] ∧
          H' l = some (.lst (qs.map V.str)) ∧ Spans b (ds.drop i) ps' ∧ (∀ p ∈ ps', p.2 < 2 ^ 50000) ∧ partsE β Ds (isFull (.str xm)) 0 ps = qs ++ partsE β Ds (isFull (.str xm)) b ps' ∧ qs.length = i ∧ ∀ z ∈ qs, z.length ≤ 100001) ∧ Ex H H')
        ⟨⟨0, _, _, _, _, _, [], ps, rfl, e4 _ _ h3, sp, big, rfl, rfl, fun z hz => nomatch hz⟩, e14⟩ (fun i σ' H' _ hI => st_of (hI.2 _ _ ha)) (fun i u σ' H' hu hI => ?_) (fun σ' H' hI => ?_)⟩
      · obtain ⟨⟨b, x5, x6, x7, x8, x9, qs, ps', rfl, hl, hsp, hbig, hq, hlen, hqs⟩, e5⟩ := hI
        obtain ⟨dx, hdx, kx⟩ := ka.get2 hu
        have hi : i < ds.length := (List.getElem?_eq_some_iff.mp hdx).1
        have hdr : ds.drop i = dx :: ds.drop (i + 1) := by
          obtain ⟨h1, h2⟩ := List.getElem?_eq_some_iff.mp hdx
          rw [List.drop_eq_getElem_cons h1, h2]
        rw [hdr] at hsp
        cases hsp with
        | @cons _ f1 l1 _ _ ps2 S hb hsp2 =>
          have hl1 : l1 < 2 ^ 50000 := hbig (f1, l1) List.mem_cons_self
          have hf1 : f1 < 2 ^ 50000 := Nat.lt_of_le_of_lt S.fl hl1
          refine ⟨_, rfl, u, dx, f1, l1, rfl, kx.ex e5, S, fun t H6 e6 ht => ⟨t, _, rfl, st_of ht, rfl, _, _, rfl, _, _, rfl, rfl, ?_⟩⟩
          have e56 := e5.trans e6
          have l6 := e6 _ _ hl
          show tSeq _ _ _ [some (V.ref x), some (V.str xm), some (V.ref a), some (V.ref l), some (aV b), some u, some (V.int f1), some (V.int l1), x8, x9] H6
          refine q_asg (v := .bl (isFull (.str xm) || decide (b = 0))) (ev_orV (ev_is (ev_op (ev_var rfl) ev_c (rv_eq rfl)) ?_) fun _ => ev_is (ev_op (ev_var rfl) ev_c fun H7 e7 Q7 q7 => ⟨rfl, q7 H7 (Ex.refl H7)⟩) ?_) fun H7 e7 => ?_
          · congr 1
            exact decide_eq_decide.mpr ⟨fun z => by injection z, fun z => by rw [z]⟩
          · congr 1
            unfold aV
            by_cases h0 : b = 0
            · rw [if_pos h0, decide_eq_true h0]
              rfl
            · rw [if_neg h0, decide_eq_false h0]
              rfl
          · have e57 := e56.trans e7
            have sty7 := sty.ex e57
            refine q_asg (v := .str (if (isFull (.str xm) || decide (b = 0)) = true then digs β f1 else tailD β b f1 Ds)) (ev_if (b := isFull (.str xm) || decide (b = 0)) (et_B (ev_var rfl)) (fun z => ?_) (fun z => ?_)) fun H8 e8 => ?_
            · rw [if_pos z]
              exact ev_digP b2 b10 S.f1 hf1 (ev_propB (ev_var rfl) sty7) (ev_var rfl)
            · rw [z, if_neg (by decide)]
              have hb0 : b ≠ 0 := fun h => by
                rw [h] at z
                simp at z
              have vb : aV b = .int (b : Int) := if_neg hb0
              exact ev_methM (by decide +kernel) (by decide +kernel) sty7 row ⟨b2, b10, Nat.one_le_iff_ne_zero.mpr hb0, hb, hf1⟩ (ev_var rfl) (ev_is (ev_var rfl) vb) (ev_var rfl)
            · have e58 := e57.trans e8
              have sty8 := sty.ex e58
              have l8 := (e7.trans e8) _ _ l6
              have plen := partE_len (a := b) (Ds := Ds) (full := isFull (.str xm)) b2 hf1 hl1
              have lz : (qs.map V.str).length < 100000 := by rw [List.length_map]; omega
              refine q_app (v := .str (partE β Ds (isFull (.str xm)) b f1 l1)) l8 (ev_var rfl) (ev_if (b := decide (f1 < l1)) (et_is (et_test (ev_op (ev_var rfl) (ev_var rfl) rv_I0)) (decide_eq_decide.mpr (by omega))) (fun z => ?_) (fun z => ?_)) lz fun H9 e9 => ?_
              · have z := of_decide_eq_true z
                have rg : RgN β f1 l1 := ⟨b2, b10, S.f1, z, hl1⟩
                have ep : partE β Ds (isFull (.str xm)) b f1 l1 = ((if (isFull (.str xm) || decide (b = 0)) = true then digs β f1 else tailD β b f1 Ds) ++ "-") ++ tailD β f1 l1 Ds := by
                  unfold partE
                  dsimp only
                  rw [if_pos z]
                rw [ep] at plen ⊢
                have p2 := plen
                rw [len_append] at p2
                have p3 := p2
                rw [len_append] at p3
                clear hl1 hf1 hbig big
                exact ev_op (ev_op (ev_var rfl) ev_c (rv_addT (by omega))) (ev_methM (by decide +kernel) (by decide +kernel) sty8 row rg (ev_var rfl) (ev_var rfl) (ev_var rfl)) (rv_addT (by omega))
              · have z := of_decide_eq_false z
                have ep : partE β Ds (isFull (.str xm)) b f1 l1 = (if (isFull (.str xm) || decide (b = 0)) = true then digs β f1 else tailD β b f1 Ds) := by
                  unfold partE
                  dsimp only
                  rw [if_neg z]
                rw [ep]
                exact ev_var rfl
              · refine s_asg (ev_var rfl) fun H10 e10 => ?_
                have vl : V.int (l1 : Int) = aV l1 := by
                  unfold aV
                  have := S.f1
                  have := S.fl
                  rw [if_neg (by omega)]
                refine ⟨⟨l1, _, _, _, _, _, qs ++ [partE β Ds (isFull (.str xm)) b f1 l1], ps2, by rw [← vl]; rfl, ?_, hsp2, fun p hp => hbig p (List.mem_cons_of_mem _ hp), ?_, by rw [List.length_append, hlen]; rfl, fun z hz => ?_⟩, (((e58.trans e9).mut nl)).trans e10⟩
                · rw [List.map_append]
                  exact e10 _ _ upd_same
                · rw [hq, List.append_assoc]
                  rfl
                · rcases List.mem_append.mp hz with h | h
                  · exact hqs z h
                  · rw [List.mem_singleton.mp h]
                    exact plen
      · obtain ⟨⟨b, x5, x6, x7, x8, x9, qs, ps', rfl, hl, hsp, hbig, hq, hlen, hqs⟩, e5⟩ := hI
        rw [hul, List.drop_length] at hsp
        cases hsp
        rw [show partsE β Ds (isFull (.str xm)) b [] = [] from rfl, List.append_nil] at hq
        have sl : (qs.map (·.length)).sum + qs.length * (", " : Str).length ≤ 16777216 := by
          have e : (", " : Str).length = 2 := by decide
          rw [e]
          have := join_le (n := 50) hqs (by omega)
          omega
        refine ⟨⟨_, rfl⟩, _, rfl, ", ", l, qs, rfl, rfl, .inl (sq_of hl), sl, ?_⟩
        rw [← hq]
        exact q _ e5
    | _ => cases dt
end
end Dt

/-! k23: the law's own entries. -/
namespace Dt
open PySem L2 Evl Dg LamR LamX StX ClX TL
open Dr (StAt SameB)
abbrev sLEntry : Stmt := top 75
/-- what is drawn so far: a list of data that grows -/
structure Le (H0 H' : Hp) (p c l fl : Addr) (n : Nat) (b : Int) (us : List V) (ds : List PyData) : Prop where
  s : StAt H' p c l n b
  sb : SameB H0 H' p l
  fl : H' fl = some (.lst us)
  k : PtAll H' us ds
  nl : noLs ds = true
section
variable {H0 H' H2 : Hp} {p c l fl : Addr} {n : Nat} {b b2 : Int} {us : List V} {ds : List PyData} {v : V} {d : PyData}
theorem Le.ex (L : Le H0 H' p c l fl n b us ds) (e : Ex H' H2) : Le H0 H2 p c l fl n b us ds := ⟨L.s.ex e, sameB_trans L.sb (sameB_ex e), e _ _ L.fl, L.k.ex e, L.nl⟩
theorem Le.same (L : Le H0 H' p c l fl n b us ds) (o : fl ≠ p ∧ fl ≠ c ∧ fl ≠ l) (S : StAt H2 p c l n b2) (e : SameB H' H2 p l) : Le H0 H2 p c l fl n b2 us ds := ⟨S, sameB_trans L.sb e, e _ _ L.fl o.1 o.2.2, L.k.tk (tupK_same L.s e) L.nl, L.nl⟩
theorem Le.app (L : Le H0 H' p c l fl n b us ds) (o : fl ≠ p ∧ fl ≠ c ∧ fl ≠ l) (nf : H0 fl = none) (kv : Pt H' v d) (nd : noL d = true) : Le H0 (upd H' fl (.lst (us ++ [v]))) p c l fl n b (us ++ [v]) (ds ++ [d]) :=
  ⟨stAt_upd L.s o, sameB_upd L.sb nf, upd_same, (L.k.tk (tupK_upd L.fl) L.nl).app (.cons (kv.tk (tupK_upd L.fl) nd) .nil), noLs_app L.nl (by show (noL d && true) = true; rw [nd]; rfl)⟩
end
/-- an item of two numbers -/
def mkI (f l : Nat) : PyData := if l = f then .int (f : Int) else .tuple [.int (f : Int), .int (l : Int)]
theorem mkI_span {f l : Nat} (f1 : 1 ≤ f) (h : f ≤ l) : Span (mkI f l) f l ∧ itemB (mkI f l) = true ∧ noL (mkI f l) = true := by
  unfold mkI
  by_cases e : l = f
  · subst e
    rw [if_pos rfl]
    have S : Span (.int (l : Int)) l l := ⟨f1, Nat.le_refl _, rfl, rfl, fun z => nomatch z⟩
    exact ⟨S, S.item (fun z => nomatch z), rfl⟩
  · rw [if_neg e]
    have S : Span (.tuple [.int (f : Int), .int (l : Int)]) f l := ⟨f1, h, rfl, rfl, fun _ => rfl⟩
    exact ⟨S, S.item (fun _ => by omega), rfl⟩
section
variable {P : Program} {w : World} {K : PySem.W.Frag} {mg : Str → Option Value} {base : Heap} {fm fdr : Addr}
def spLEntry : Sp := fun vs H Q _ => ∃ (p c l : Addr) (n m : Nat) (a : Int), vs = [.ref p, .int m] ∧ StAt H p c l n a ∧ l ≠ c ∧ a < 2 ^ 39 - 10000 ∧ m ≤ 60 ∧
  ∀ (v : V) (ds : List PyData) (ps : List (Nat × Nat)) (H' : Hp) (b : Int), ds.length = m → Spans 0 ds ps → (∀ d ∈ ds, itemB d = true) → noLs ds = true → (∀ q ∈ ps, q.2 ≤ 600 * m) → Pt H' v (.tuple ds) → a ≤ b → b ≤ a + 10 * m → StAt H' p c l n b → SameB H H' p l → Q v H'
theorem scLEntry : FnScope ["state", "many", "found", "last", "k", "first", "more"] ["state", "many"] (defScope sLEntry) := ⟨rfl, rfl, rfl, by decide +kernel, rfl, by decide +kernel, by decide +kernel⟩
theorem ok_lentry {f : Addr} {fd fdd : FuncData} (F : Fun K "_law_entry" "_law_entry" sLEntry f fd) (GD : FnOk P w K mg base CX0 3 fdr fdd ["state", "many"] Dr.spDraw) (bD : Binds K fdd ["state", "many"] []) (T : Dr.TxO K mg fm fdr) (mR : mg "range" = none) (mT : mg "tuple" = none) : FnOk P w K mg base CX0 4 f fd ["state", "many"] spLEntry := by
  refine F.ok scLEntry (fun vs H Q E h => ?_) (fun cdv A outer s H vs Q E hr h => ?_)
  · obtain ⟨_, _, _, _, _, _, rfl, _⟩ := h
    rfl
  · obtain ⟨p, c, l, n, m, a, rfl, S, nlc, ha, m60, q⟩ := h
    refine ⟨_, pss_cons (ps_par (i := 2) (j := 3) (by rfl) scLEntry.nd rfl rfl (by decide) rfl rfl (pa_cons (pe_lst pa_nil) (pa_cons pe_int pa_nil)) (by rfl))
      (pss_cons (ps_for PassesOwn.never rfl (pi_range1 (by rfl) mR (pa_cons (pv 1) pa_nil)) (pg_name (i := 4) scLEntry.nd rfl (.inl rfl))
        (pss_cons (ps_set (i := 5) scLEntry.nd rfl (.inl rfl) (pe_op op_add (pe_op op_add (pv 3) pe_int) (pe_call GD hr (by rfl) T.draw T.kDraw bD .nil pass0 (pa_cons (pv 0) (pa_cons (pe_ix (r := rIxL K) ix_list (pe_lst (pa_cons pe_int (pa_cons pe_int (pa_cons pe_int pa_nil)))) (pe_call GD hr (by rfl) T.draw T.kDraw bD .nil pass0 (pa_cons (pv 0) (pa_cons pe_int pa_nil))) (fun _ _ => rfl)) pa_nil)))))
        (pss_cons (ps_set (i := 6) scLEntry.nd rfl (.inl rfl) (pe_call GD hr (by rfl) T.draw T.kDraw bD .nil pass0 (pa_cons (pv 0) (pa_cons (pe_ix (r := rIxL K) ix_list (pe_lst (pa_cons pe_int (pa_cons pe_int (pa_cons pe_int pa_nil)))) (pe_call GD hr (by rfl) T.draw T.kDraw bD .nil pass0 (pa_cons (pv 0) (pa_cons pe_int pa_nil))) (fun _ _ => rfl)) pa_nil))))
        (pss_cons (ps_expr (pe_bm PySem.F.plainAttrs_list PySem.F.slot_list_append PySem.F.type_list_append mt_append (pv 2) (pa_cons (pe_ifExp (pt_cmpR op_eq (pv 6) pe_int (nomark _)) (pv 5) (pe_tup (pa_cons (pv 5) (pa_cons (pe_op op_add (pv 5) (pv 6)) pa_nil)))) pa_nil)))
        (pss_one (ps_set (i := 3) scLEntry.nd rfl (.inl rfl) (pe_op op_add (pv 5) (pv 6))))))))
      (pss_one (ps_ret (pe_callTy (T := "tuple") call_tuple_of (by rfl) mT (by decide +kernel) (pa_cons (pv 2) pa_nil))))), ?_⟩
    refine ⟨Nat.zero_le _, fun fl nfl => ⟨_, _, rfl, ?_⟩⟩
    have e0 := Ex.new (o := .lst []) nfl
    have ofl := off3 S nfl
    have L0 : Le H (upd H fl (.lst [])) p c l fl n a [] [] := ⟨S.ex e0, sameB_ex e0, upd_same, .nil, rfl⟩
    refine ⟨_, rfl, _, rfl, by omega, by omega, ?_⟩
    rw [show ((m : Nat) : Int).toNat = m by omega]
    refine for_range (n := m) (fun i σ' H' => ∃ (x4 x5 x6 : Option V) (us : List V) (ds : List PyData) (ps : List (Nat × Nat)) (Λ : Nat) (b : Int), σ' = [some (.ref p), some (.int m), some (.ref fl), some (.int (Λ : Int)), x4, x5, x6] ∧ ds.length = i ∧ Λ ≤ 600 * i ∧ (∀ q ∈ ps, q.2 ≤ 600 * i) ∧ (∀ d ∈ ds, itemB d = true) ∧
      (∀ rest ps', Spans Λ rest ps' → Spans 0 (ds ++ rest) (ps ++ ps')) ∧ a ≤ b ∧ b ≤ a + 10 * i ∧ Le H H' p c l fl n b us ds)
      ⟨_, _, _, [], [], [], 0, a, rfl, rfl, by omega, (fun q hq => nomatch hq), (fun q hq => nomatch hq), fun rest ps' h => h, by omega, by omega, L0⟩ (fun i σ' H1 hi hI => ?_) (fun σ' H1 hI => ?_)
    · obtain ⟨x4, x5, x6, us, ds, ps, Λ, b, rfl, hn, hΛ, hps, hit0, hcl, ab, ba, L1⟩ := hI
      have lus : us.length = i := by rw [L1.k.length, hn]
      refine ⟨_, rfl, _, _, rfl, rfl, _, rfl, (by show (3:Nat) ≤ sizeLine; rw [sizeLine_eq]; omega), fun l4 n4 => ?_⟩
      have e4 := Ex.new (o := .lst [.int 1, .int 3, .int 500]) n4
      have L4 := L1.ex e4
      have o4 := off_of L1.s n4
      refine rd_draw (p := p) rfl ev_c L4.s nlc (by omega) (by decide) (by decide) fun r5 H5 hr5 S5 sb5 => ?_
      have L5 := L4.same ofl S5 sb5
      have g5 : H5 l4 = some (.lst [.int 1, .int 3, .int 500]) := sb5 _ _ upd_same o4.1 o4.2
      obtain ⟨z, hz, z1, z2⟩ : ∃ z : Nat, ([V.int 1, .int 3, .int 500])[r5]? = some (.int (z : Int)) ∧ 1 ≤ z ∧ z ≤ 500 := by
        have cc : r5 = 0 ∨ r5 = 1 ∨ r5 = 2 := by omega
        rcases cc with rfl | rfl | rfl
        · exact ⟨1, rfl, by omega, by omega⟩
        · exact ⟨3, rfl, by omega, by omega⟩
        · exact ⟨500, rfl, by omega, by omega⟩
      refine ⟨l4, _, _, _, rfl, rfl, SqL.of g5, atI_nat hz, p, c, l, n, _, (z : Int), rfl, L5.s, nlc, by omega, by omega, by omega, fun r6i H6 r0 r1 S6 sb6 _ => ⟨_, _, rfl, rfl, ?_⟩⟩
      obtain ⟨r6, rfl⟩ : ∃ r6 : Nat, r6i = r6 := ⟨r6i.toNat, by omega⟩
      have L6 := L5.same ofl S6 sb6
      obtain ⟨F1, hF⟩ : ∃ F1 : Nat, F1 = Λ + 1 + r6 := ⟨_, rfl⟩
      have eF : (Λ : Int) + 1 + (r6 : Int) = (F1 : Int) := by omega
      refine g_at (σ' := [some (.ref p), some (.int m), some (.ref fl), some (.int (Λ : Int)), some (.int (0 + (i : Int))), some (.int (F1 : Int)), x6]) (by rw [← eF]; rfl) ?_
      dsimp only
      refine ⟨_, rfl, (by show (3:Nat) ≤ sizeLine; rw [sizeLine_eq]; omega), fun l9 n9 => ?_⟩
      have e9 := Ex.new (o := .lst [.int 1, .int 3, .int 40]) n9
      have L9 := L6.ex e9
      have o9 := off_of L6.s n9
      refine rd_draw (p := p) rfl ev_c L9.s nlc (by omega) (by decide) (by decide) fun r7 H7 hr7 S7 sb7 => ?_
      have L7 := L9.same ofl S7 sb7
      have g7 : H7 l9 = some (.lst [.int 1, .int 3, .int 40]) := sb7 _ _ upd_same o9.1 o9.2
      obtain ⟨y, hy, y1, y2⟩ : ∃ y : Nat, ([V.int 1, .int 3, .int 40])[r7]? = some (.int (y : Int)) ∧ 1 ≤ y ∧ y ≤ 40 := by
        have cc : r7 = 0 ∨ r7 = 1 ∨ r7 = 2 := by omega
        rcases cc with rfl | rfl | rfl
        · exact ⟨1, rfl, by omega, by omega⟩
        · exact ⟨3, rfl, by omega, by omega⟩
        · exact ⟨40, rfl, by omega, by omega⟩
      refine ⟨l9, _, _, _, rfl, rfl, SqL.of g7, atI_nat hy, p, c, l, n, _, (y : Int), rfl, L7.s, nlc, by omega, by omega, by omega, fun m1 H10 m0 m2 S10 sb10 _ => ?_⟩
      obtain ⟨M1, rfl⟩ : ∃ M1 : Nat, m1 = M1 := ⟨m1.toNat, by omega⟩
      have L10 := L7.same ofl S10 sb10
      refine g_at (σ' := [some (.ref p), some (.int m), some (.ref fl), some (.int (Λ : Int)), some (.int (0 + (i : Int))), some (.int (F1 : Int)), some (.int (M1 : Int))]) rfl ?_
      dsimp only
      obtain ⟨Sp, iB, nL⟩ := mkI_span (f := F1) (l := F1 + M1) (by omega) (by omega)
      have hit : EvP (tIf (tTest (tOp rEq (tVar 6) (tC (.int 0)))) (tVar 5) (tTup (tCons (tVar 5) (tCons (tOp (rI0 fun i j => V.int (i + j)) (tVar 5) (tVar 6)) tNil)))) [some (.ref p), some (.int m), some (.ref fl), some (.int (Λ : Int)), some (.int (0 + (i : Int))), some (.int (F1 : Int)), some (.int (M1 : Int))] H10 (mkI F1 (F1 + M1)) := by
        have eb : (decide (V.int (M1 : Int) = V.int 0)) = decide (M1 = 0) := decide_eq_decide.mpr ⟨fun h => by injection h with h; omega, fun h => by rw [h]; rfl⟩
        refine ep_if (b := decide (M1 = 0)) (et_is (et_test (ev_op (ev_var rfl) ev_c (rv_eq rfl))) eb) (fun z => ?_) (fun z => ?_)
        · have z := of_decide_eq_true z
          subst z
          exact ep_v (ev_var rfl) (by unfold mkI; rw [if_pos (by omega)]; exact .int _)
        · have z := of_decide_eq_false z
          have e : mkI F1 (F1 + M1) = .tuple [.int (F1 : Int), .int ((F1 + M1 : Nat) : Int)] := by
            unfold mkI
            rw [if_neg (by omega)]
          rw [e]
          exact ep_tup (epa_cons (ep_v (ev_var rfl) (.int _)) (epa_cons (ep_v (ev_is (ev_op (ev_var rfl) (ev_var rfl) rv_I0) (by rw [Int.natCast_add])) (.int _)) epa_nil)) (by simp)
      refine ⟨_, rfl, .inl ⟨rfl, _, SqL.of L10.fl⟩, ?_⟩
      refine hit H10 (Ex.refl H10) _ fun v H11 e11 kv => ?_
      have L11 := L10.ex e11
      refine ⟨fl, us, _, rfl, rfl, L11.fl, by rw [lus, sizeLine_eq]; omega, ?_⟩
      have L12 := L11.app ofl nfl kv nL
      refine ⟨_, rfl, _, rfl, _, _, rfl, rfl, ?_⟩
      refine ⟨_, _, _, us ++ [v], ds ++ [mkI F1 (F1 + M1)], ps ++ [(F1, F1 + M1)], F1 + M1, b + 4, by rw [Int.natCast_add]; rfl, by rw [List.length_append, hn]; rfl, by omega, fun q hq => ?_, fun d hd => ?_, fun rest ps' h => ?_, by omega, by omega, ?_⟩
      · rcases List.mem_append.mp hq with h | h
        · exact Nat.le_trans (hps q h) (by omega)
        · rw [List.mem_singleton.mp h]
          show F1 + M1 ≤ _
          omega
      · rcases List.mem_append.mp hd with h | h
        · exact hit0 d h
        · rw [List.mem_singleton.mp h]
          exact iB
      · rw [List.append_assoc, List.append_assoc]
        exact hcl _ _ (.cons Sp (by omega) h)
      · rw [show b + 4 = b + 1 + 1 + 1 + 1 by omega]
        exact L12
    · obtain ⟨x4, x5, x6, us, ds, ps, Λ, b, rfl, hn, hΛ, hps, hit, hcl, ab, ba, L1⟩ := hI
      have hs := hcl [] [] .nil
      rw [List.append_nil, List.append_nil] at hs
      refine ⟨_, rfl, fl, us, rfl, .inl ⟨SqL.of L1.fl, fun tp ntp => ?_⟩⟩
      have e2 := Ex.new (o := .tup us) ntp
      exact q (.ref tp) ds ps _ b hn hs hit L1.nl hps (.tup upd_same (L1.k.ex e2)) ab ba (L1.s.ex e2) (sameB_trans L1.sb (sameB_ex e2))
end
end Dt

/-! t[::-1] of a tuple: a new one. -/
namespace HT
open PySem PySem.Spec PyProof.Rows
section
variable {prog : Program} {w : World} {A : Around} {E : Value → Shared → Prop} {s : Shared}
theorem sliceApplied_rev {sl : Addr} {tk : Tok} {n : Nat} {Q : Int × Int × Nat → Shared → Prop} (hs : s.heap.IsSliceOf sl .none .none (.int (-1) tk)) (n1 : 1 ≤ n)
    (h : Q ((n : Int) - 1, -1, n) s) : wpAny (model prog w) A (Builtin.Slice.sliceApplied (.ref sl) (pure (n : Int))) Q E s := by
  obtain ⟨os, hos, hcs, hds⟩ := id hs
  unfold Builtin.Slice.sliceApplied Builtin.Slice.sliceFields
  refine wpAny_bind (wpAny_bind (wpAny_field hos hds (x := .none) rfl (wpAny_bind (wpAny_field hos hds (x := .none) rfl (wpAny_bind (wpAny_field hos hds (x := .int (-1) tk) rfl (wpAny_pure ?_)))))))
  refine wpAny_bind (slicePart_int ?_)
  show wpAny _ _ (if ((-1 : Int) == 0) = true then _ else _) _ _ s
  rw [if_neg (by decide)]
  refine wpAny_bind (slicePart_none (wpAny_bind (slicePart_none (wpAny_bind (wpAny_pure ?_)))))
  show wpAny _ _ (pure ((n : Int) - 1, (-1 : Int), Builtin.Slice.slicePlaces ((n : Int) - 1) (-1) (-1))) _ _ s
  have : Builtin.Slice.slicePlaces ((n : Int) - 1) (-1) (-1) = n := by
    unfold Builtin.Slice.slicePlaces
    rw [if_neg (by decide), if_pos (by omega)]
    have e : -(-1 : Int) = 1 := by decide
    rw [e, Int.ediv_one]
    omega
  rw [this]
  exact wpAny_pure h
theorem fm_congr {α β : Type} {f g : α → Option β} : ∀ {l : List α}, (∀ x ∈ l, f x = g x) → l.filterMap f = l.filterMap g
  | [], _ => rfl
  | a :: l, h => by
    rw [List.filterMap_cons, List.filterMap_cons, h a List.mem_cons_self, fm_congr fun x hx => h x (List.mem_cons_of_mem _ hx)]
theorem pick_rev (xs : Array Value) : ((List.range xs.size).filterMap fun (m : Nat) => xs[((xs.size : Int) - 1 + (m : Int) * (-1)).toNat]?).toArray = xs.toList.reverse.toArray := by
  have e : ∀ m ∈ List.range xs.size, xs[((xs.size : Int) - 1 + (m : Int) * (-1)).toNat]? = xs.toList.reverse[m]? := fun m hm => by
    have hm := List.mem_range.mp hm
    have e1 : ((xs.size : Int) - 1 + (m : Int) * (-1)).toNat = xs.size - 1 - m := by omega
    rw [e1, List.getElem?_reverse (by rw [Array.length_toList]; exact hm), Array.length_toList, Array.getElem?_toList]
  rw [fm_congr e]
  congr 1
  have : ∀ l : List Value, (List.range l.length).filterMap (fun m => l[m]?) = l := fun l => by
    induction l with
    | nil => rfl
    | cons x l ih =>
      rw [List.length_cons, List.range_succ_eq_map, List.filterMap_cons, List.filterMap_map]
      have e0 : (x :: l)[0]? = some x := rfl
      rw [e0]
      show x :: (List.range l.length).filterMap (fun m => l[m]?) = x :: l
      rw [ih]
  have h := this xs.toList.reverse
  rw [List.length_reverse, Array.length_toList] at h
  exact h
theorem getItem_tuple_rev {t sl : Addr} {items : Array Value} {tk : Tok} {Q : Value → Shared → Prop} (ht : IsTup s.heap t items) (hs : s.heap.IsSliceOf sl .none .none (.int (-1) tk)) (n1 : 1 ≤ items.size)
    (h : Q (.ref s.heap.objs.size) { s with heap := s.heap.push { cls := .type "tuple", data := .seq items.toList.reverse.toArray } })
    (hsz : items.size ≤ sizeLine) : wpAny (model prog w) A (getItem (.ref t) (.ref sl)) Q E s := by
  have htake : sizeOk (.seq items.toList.reverse.toArray) := by
    show items.toList.reverse.toArray.size ≤ sizeLine
    rw [List.size_toArray, List.length_reverse, Array.length_toList]
    exact hsz
  obtain ⟨os, hos, hcs, hds⟩ := id hs
  have hTs : s.TypeIs (.ref sl) "slice" := ⟨os, hos, hcs⟩
  unfold getItem
  try with_reducible refine wpAny_holding ?_
  first | refine wpAny_bind (wpAny_pure ?_) | skip
  refine wpAny_bind (wpAny_sequenceKey ht.typeIs (by decide) ?_)
  refine wpAny_bind (wpAny_callSpecial?_slot (name := Str.ofString "__getitem__") ht.typeIs PyProof.Rows.slot_tuple_getitem
    (wpAny_call_entry PyProof.Rows.slot_tuple_getitem ht.typeIs entry_tuple_getitem ?_ (args_tuple_getitem _ _)))
  show wpAny _ _ (Builtin.Tuple.tupleItemsOf (.ref t) >>= _) _ _ s
  refine wpAny_bind (tupleItemsOf_ ht ?_)
  refine wpAny_bind (wpAny_typeOf hTs ?_)
  rw [if_pos (by decide)]
  refine wpAny_bind (sliceApplied_rev hs n1 ?_)
  show wpAny _ _ (if (((items.size : Int) - 1) == 0 && (-1 : Int) == 1 && items.size == items.size) = true then _ else _) _ _ s
  have hno : ¬ ((((items.size : Int) - 1) == 0 && (-1 : Int) == 1 && items.size == items.size) = true) := by
    rw [show ((-1 : Int) == 1) = false by decide, Bool.and_false, Bool.false_and]
    exact Bool.false_ne_true
  rw [if_neg hno, pick_rev]
  first
    | exact wpAny_bind (m := Builtin.Tuple.tupleExact _) (wpAny_newObj_type (wpAny_pure ⟨_, rfl, wpAny_pure h⟩) htake)
    | exact wpAny_bind (m := Builtin.Tuple.tupleExact _) (wpAny_newObj_type (wpAny_bind (wpAny_pure (wpAny_pure ⟨_, rfl, wpAny_pure h⟩))) htake)
    | exact wpAny_bind (wpAny_bind (m := Builtin.Tuple.tupleExact _) (wpAny_newObj_type (wpAny_pure (wpAny_pure ⟨_, rfl, wpAny_pure h⟩)) htake))
    | exact wpAny_bind (wpAny_bind (m := Builtin.Tuple.tupleExact _) (wpAny_newObj_type (wpAny_pure ⟨_, rfl, wpAny_pure h⟩) htake))
end
end HT
namespace L2
open PySem PySem.Spec PyProof.Rows
section
variable {X : Cx} {e : Expr} {te : TE} {p2 p3 p4 pos : Pos} {j : Nat}
def tBackT (K : PySem.W.Frag) (te : TE) : TE := fun σ H Q => te σ H fun x H2 => ∃ a xs, x = .ref a ∧ SqT K H2 a xs ∧ xs ≠ [] ∧ ∀ p, H2 p = none → Q (.ref p) (upd H2 p (.tup xs.reverse))
theorem pe_backT (he : PE X e te) : PE X (.Subscript e (.Slice none none (some (.UnaryOp .USub (.Constant (.int 1) j p3) p4)) p2) pos) (tBackT X.K te) := by
  refine ⟨fun pins s σ H Q I h => ?_⟩
  refine Subscript_ (thn (he.run pins s σ H _ I h) fun v s1 ⟨x, H1, I1, r1, a, xs, ex, hx, hne, q⟩ => ?_)
  subst ex
  obtain rfl : v = Value.ref a := r1
  refine wpAny_Slice ?_
  rw [evalPart_none]
  refine wpAny_pure (wpAny_pure ?_)
  rw [evalPart_some]
  refine thn ((pe_un (pos := p4) un_neg (pe_int (X := X) (i := 1) (j := j) (pos := p3))).run pins s1 σ H1 (fun y H2 => y = .int (-1) ∧ H2 = H1) I1 ⟨1, rfl, rfl, rfl⟩) fun vu s3 ⟨y, H3, I3, r3, ey, eH⟩ => ?_
  subst ey
  rw [eH] at I3
  obtain ⟨tk, rfl⟩ := r3
  have I4 : Inv X pins σ H1 { s3 with heap := s3.heap.push { cls := .type "slice", data := .fields #[.none, .none, .int (-1) tk] } } := I3.kept (t' := s3.toks) fun b ob q => Heap.get?_push_of_some _ q
  obtain ⟨its, r, ht, hz⟩ := I4.tuple hx
  have hlen : its.toArray.size = xs.length := by rw [List.size_toArray]; exact r.length.symm
  have n1 : 1 ≤ its.toArray.size := by
    rw [hlen]
    cases xs with
    | nil => exact absurd rfl hne
    | cons _ _ => simp
  show wpAny (model X.prog X.w) X.A (subscriptTail e (.Slice none none (some (.UnaryOp .USub (.Constant (.int 1) j p3) p4)) p2) (.ref a) (.ref s3.heap.objs.size)) (EP X pins σ Q) X.xe { s3 with heap := s3.heap.push { cls := .type "slice", data := .fields #[.none, .none, .int (-1) tk] } }
  refine tail_any (ops := _) ht.typeIs PyProof.Rows.slot_tuple_getitem.lookup ?_ (by with_unfolding_all rfl)
  refine HT.getItem_tuple_rev ht (Heap.IsSliceOf.new ..) n1 ?_ (by rw [hlen]; exact hz)
  refine ⟨.ref _, _, I4.laid (t' := s3.toks) (o := .tup xs.reverse) (fun b ob q => Heap.get?_push_of_some _ q) (Nat.le_refl _) ?_, rfl, q _ (I4.hok.fresh (Nat.le_refl _))⟩
  exact ⟨by rw [List.length_reverse]; exact hz, its.reverse, vals_reverse r, IsTup.new _ _⟩
end
end L2

/-! k23: entries with something otherwise. -/
namespace Dt
open PySem L2 Evl Dg LamR LamX StX ClX TL
open Dr (StAt SameB)
abbrev sLBent : Stmt := top 78
/-- small enough to be shown -/
structure ElS (e : PyData) : Prop where
  a : e.showable = true
  b : e.shown.length ≤ 8000
  c : e.depth ≤ 3
structure BentS (d : PyData) : Prop where
  n : noK d = true ∨ noW d = true
  a : d.showable = true
  b : d.shown.length ≤ 1000000
  c : d.depth ≤ 10
theorem els_all : ∀ {es : List PyData}, (∀ e ∈ es, ElS e) → PyData.showableAll es = true ∧ ((PyData.shownAll es).map fun t => t.length + 2).sum ≤ 8002 * es.length ∧ PyData.depthAll es ≤ 3
  | [], _ => ⟨by simp [PyData.showableAll], by simp [PyData.shownAll], by simp [PyData.depthAll]⟩
  | e :: es, h => by
    obtain ⟨h1, h2, h3⟩ := els_all fun x hx => h x (List.mem_cons_of_mem _ hx)
    have k := h e List.mem_cons_self
    have kb := k.b
    have kc := k.c
    refine ⟨by simp [PyData.showableAll, k.a, h1], ?_, ?_⟩
    · simp only [PyData.shownAll, List.map_cons, List.sum_cons, List.length_cons]
      omega
    · simp only [PyData.depthAll]
      omega
theorem bent_tup {es : List PyData} (h : ∀ e ∈ es, ElS e) (n : es.length ≤ 62) (hn : noKs es = true ∨ noWs es = true) : BentS (.tuple es) := by
  obtain ⟨h1, h2, h3⟩ := els_all h
  refine ⟨?_, by simpa [PyData.showable] using h1, ?_, ?_⟩
  · rcases hn with hn | hn
    · left
      rw [noK]
      exact hn
    · right
      rw [noW]
      exact hn
  · simp only [PyData.shown, tupleText]
    rw [strLen_append, strLen_append]
    have := join_cap (PyData.shownAll es)
    have e1 : (("(" : Str)).length = 1 := by decide
    have e2 : (((if (PyData.shownAll es).length == 1 then ",)" else ")" : String) : Str)).length ≤ 2 := by split <;> decide
    omega
  · simp only [PyData.depth]
    omega
theorem bent_lst {es : List PyData} (h : ∀ e ∈ es, ElS e) (n : es.length ≤ 62) (hn : noKs es = true) : BentS (.list es) := by
  obtain ⟨h1, h2, h3⟩ := els_all h
  refine ⟨.inl (by rw [noK]; exact hn), by simpa [PyData.showable] using h1, ?_, ?_⟩
  · simp only [PyData.shown, listText]
    rw [strLen_append]
    have := textFrom_cap (PyData.shownAll es) 0 "["
    have e1 : (("[" : Str)).length = 1 := by decide
    have e2 : (("]" : Str)).length = 1 := by decide
    omega
  · simp only [PyData.depth]
    omega
theorem els_plain {e : PyData} (p : plainD e) (c : cap e ≤ 8000) (d : e.depth ≤ 3) : ElS e := ⟨(shown_cap e p).1, Nat.le_trans (shown_cap e p).2 c, d⟩
/-- an item: a number, or two -/
def ItK (e : PyData) : Prop := (∃ i : Int, e = .int i ∧ i.natAbs < 2 ^ 64) ∨ ∃ i j : Int, e = .tuple [.int i, .int j] ∧ i.natAbs < 2 ^ 64 ∧ j.natAbs < 2 ^ 64
theorem log_small {i : Int} (h : i.natAbs < 2 ^ 64) : i.natAbs.log2 < 1920 := by
  by_cases z : i.natAbs = 0
  · rw [z]
    decide
  · exact Nat.lt_of_lt_of_le ((Nat.log2_lt z).mpr h) (by decide)
theorem ItK.els {e : PyData} (h : ItK e) : ElS e ∧ noL e = true ∧ noK e = true ∧ noW e = true := by
  rcases h with ⟨i, rfl, hi⟩ | ⟨i, j, rfl, hi, hj⟩
  · exact ⟨els_plain (log_small hi) (by simp only [cap]; decide) (by simp [PyData.depth]), rfl, rfl, rfl⟩
  · exact ⟨els_plain ⟨log_small hi, log_small hj, trivial⟩ (by simp only [cap, capAll]; decide) (by simp [PyData.depth, PyData.depthAll]), rfl, rfl, rfl⟩
theorem noWs_all : ∀ {ds : List PyData}, (∀ d ∈ ds, noW d = true) → noWs ds = true
  | [], _ => rfl
  | d :: ds, h => by
    rw [noWs, h d List.mem_cons_self, noWs_all fun e he => h e (List.mem_cons_of_mem _ he)]
    rfl
theorem noKs_all : ∀ {ds : List PyData}, (∀ d ∈ ds, noK d = true) → noKs ds = true
  | [], _ => rfl
  | d :: ds, h => by
    rw [noKs, h d List.mem_cons_self, noKs_all fun e he => h e (List.mem_cons_of_mem _ he)]
    rfl
/-- what may stand in an item's place -/
def someD : List PyData := [.none, .int 0, .int (-1), .bool true, .str "5", .tuple [], .tuple [.int 5], .tuple [.int 1, .int 2, .int 3], .list [.int 3, .int 4], .tuple [.none, .int 5], .tuple [.int 3, .bool true], .int (10 ^ 30), .dict [], .tuple [.tuple [.int 1, .int 2], .int 3]]
theorem some_ok : ∀ e ∈ someD, ElS e ∧ (noK e = true ∨ noW e = true) := by
  intro e he
  unfold someD at he
  simp only [List.mem_cons, List.not_mem_nil, or_false] at he
  have big : (10 ^ 30 : Int).natAbs.log2 < 1920 := by decide
  rcases he with rfl | rfl | rfl | rfl | rfl | rfl | rfl | rfl | rfl | rfl | rfl | rfl | rfl | rfl
  all_goals first
    | exact ⟨els_plain (by simp only [plainD, plainAll]; first | trivial | decide | exact ⟨by decide, trivial⟩ | (refine ⟨?_, ?_, ?_⟩ <;> first | trivial | decide) | (refine ⟨?_, ?_, ?_, ?_⟩ <;> first | trivial | decide) | exact ⟨⟨by decide, by decide, trivial⟩, by decide, trivial⟩) (by simp only [cap, capAll]; decide) (by simp [PyData.depth, PyData.depthAll]), by first | exact .inl rfl | exact .inr rfl⟩
    | exact ⟨⟨by decide +kernel, by decide +kernel, by decide +kernel⟩, .inr rfl⟩
theorem ep_dicB {σ : St} {H : Hp} : EvP tDNewK σ H (.dict []) := fun H1 _ _ q => fun d hd => q (.ref d) _ (Ex.new hd) (.nil upd_same)
theorem rv_powB {H : Hp} : RV (rI CPow fun i j => .int (i ^ j.toNat)) (.int 10) (.int 30) H (.int (10 ^ 30)) := fun H1 _ _ q => ⟨10, 30, rfl, rfl, ⟨by decide, by decide, by decide⟩, q H1 (Ex.refl H1)⟩
section
variable {K : PySem.W.Frag} {H : Hp} {Q : VK} {S : List Addr}
/-- a tuple put behind another, beside what is hidden -/
theorem rd_catH {a b : Addr} {xs ys : List V} {Ds Es : List PyData} (hS : ∀ b ∈ S, ∃ o, H b = some o) (hT : ∀ b ∈ S, ∀ xs, H b ≠ some (.tup xs)) (ha : H a = some (.tup xs)) (hb : H b = some (.tup ys)) (ka : PtAll (hid S H) xs Ds) (kb : PtAll (hid S H) ys Es) (hl : Ds.length + Es.length ≤ 100000)
    (k : ∀ c H' zs, Ex H H' → H' c = some (.tup zs) → PtAll (hid S H') zs (Ds ++ Es) → Q (.ref c) H') : rCatA K (.ref a) (.ref b) H Q := by
  refine ⟨a, b, xs, ys, rfl, rfl, st_of ha, st_of hb, sz_of (by rw [ka.length, kb.length]; exact hl), fun hx => ?_, fun hx hy => ?_, fun hx hy p hp => ?_⟩
  · have : Ds = [] := by
      have := ka.length
      rw [hx] at this
      exact List.length_eq_zero_iff.mp this.symm
    subst this
    exact k b H ys (Ex.refl H) hb kb
  · have : Es = [] := by
      have := kb.length
      rw [hy] at this
      exact List.length_eq_zero_iff.mp this.symm
    subst this
    rw [List.append_nil] at k
    exact k a H xs (Ex.refl H) ha ka
  · exact k p _ _ (Ex.new hp) upd_same ((ka.app kb).ex (hid_mono (Ex.new hp)))
theorem tupK_hid (hT : ∀ b ∈ S, ∀ xs, H b ≠ some (.tup xs)) : TupK H (hid S H) := fun a xs ha => by
  rw [hid_out fun z => hT a z xs ha]
  exact ha
theorem ep_back {σ : St} {te : TE} {ds : List PyData} (h : EvP te σ H (.tuple ds)) (hn : ds ≠ []) : EvP (tBackT K te) σ H (.tuple ds.reverse) := fun H1 e Q q =>
  h H1 e _ fun v H2 e2 k => by
    obtain ⟨a, vs, rfl, ha, ka⟩ := k.tupI'
    have hl := ka.length
    have rev : ∀ {vs : List V} {ds : List PyData}, PtAll H2 vs ds → PtAll H2 vs.reverse ds.reverse := fun {vs ds} h => by
      induction ds generalizing vs with
      | nil =>
        cases h
        exact .nil
      | cons d ds ih =>
        cases h with
        | cons h1 h2 =>
          rw [List.reverse_cons, List.reverse_cons]
          exact (ih h2).app (.cons h1 .nil)
    exact ⟨a, vs, rfl, st_of ha, fun z => hn (by rw [z] at hl; exact List.length_eq_zero_iff.mp hl.symm), fun p hp => q (.ref p) _ (e2.trans (Ex.new hp)) (.tup upd_same ((rev ka).ex (Ex.new hp)))⟩
end
section
variable {P : Program} {w : World} {K : PySem.W.Frag} {mg : Str → Option Value} {base : Heap} {fm fdr flo : Addr}
abbrev rListOf (K : PySem.W.Frag) : List V → Hp → VK → Prop := fun xs H Q => ∃ p ys, xs = [V.ref p] ∧ (SqL K H p ys ∨ SqT K H p ys) ∧ ∀ l, H l = none → Q (V.ref l) (upd H l (.lst ys))
def spLBent : Sp := fun vs H Q _ => ∃ (p c l : Addr) (n : Nat) (a : Int) (v : V) (ds : List PyData), vs = [.ref p, v] ∧ StAt H p c l n a ∧ l ≠ c ∧ a < 2 ^ 39 - 10 ∧ Pt H v (.tuple ds) ∧ 1 ≤ ds.length ∧ ds.length ≤ 60 ∧ (∀ d ∈ ds, ItK d) ∧
  ∀ (v' : V) (D : PyData) (H' : Hp) (b : Int), Pt (hid [p, l] H') v' D → BentS D → a ≤ b → b ≤ a + 3 → StAt H' p c l n b → SameB H H' p l → Q v' H'
theorem scLBent : FnScope ["state", "entry", "at", "way", "item", "some"] ["state", "entry"] (defScope sLBent) := ⟨rfl, rfl, rfl, by decide +kernel, rfl, by decide +kernel, by decide +kernel⟩
theorem et_way {r k : Nat} {σ : St} {H : Hp} {b : Bool} (hσ : σ[3]? = some (some (.int (r : Int)))) (h : decide (r = k) = b) : EvT (tTest (tOp rEq (tVar 3) (tC (.int (k : Int))))) σ H b := by
  refine et_is (et_test (ev_op (ev_var hσ) ev_c (rv_eq rfl))) ?_
  rw [← h]
  exact decide_eq_decide.mpr ⟨fun z => by injection z with z; omega, fun z => by rw [z]⟩
theorem ok_lbent {f : Addr} {fd fdd fdo : FuncData} (F : Fun K "_law_bent" "_law_bent" sLBent f fd) (GD : FnOk P w K mg base CX0 3 fdr fdd ["state", "many"] Dr.spDraw) (bD : Binds K fdd ["state", "many"] []) (T : Dr.TxO K mg fm fdr)
    (GO : FnOk P w K mg base CX0 4 flo fdo ["state", "some"] Dr.spOf) (bO : Binds K fdo ["state", "some"] []) (gO : mg "_law_of" = some (.ref flo)) (kO : PySem.W.keepIn K (.ref flo) = true) (mL : mg "len" = none) (mI : mg "isinstance" = none) (mT : mg "tuple" = none) (mLs : mg "list" = none) : FnOk P w K mg base CX0 5 f fd ["state", "entry"] spLBent := by
  refine F.ok scLBent (fun vs H Q E h => ?_) (fun cdv A outer s H vs Q E hr h => ?_)
  · obtain ⟨_, _, _, _, _, _, _, rfl, _⟩ := h
    rfl
  · obtain ⟨p, c, l, n, a, v, ds, rfl, S, nlc, ha, kv, n1, n60, hit, q⟩ := h
    refine ⟨_, (pss_cons (ps_par (i := 2) (j := 3) (by rfl) scLBent.nd rfl rfl (by decide) rfl rfl (pa_cons (pe_call GD (hr.mono (by decide)) (by rfl) T.draw T.kDraw bD .nil pass0 (pa_cons (pv 0) (pa_cons (pe_callB (id := "len") (r := rLenS K) call_len_seq (by rfl) mL (by decide +kernel) (pa_cons (pv 1) pa_nil)) pa_nil))) (pa_cons (pe_call GD (hr.mono (by decide)) (by rfl) T.draw T.kDraw bD .nil pass0 (pa_cons (pv 0) (pa_cons pe_int pa_nil))) pa_nil)) (by rfl)) (pss_cons (ps_set (i := 4) scLBent.nd rfl (.inl rfl) (pe_ix (r := rIxT K) ix_tup (pv 1) (pv 2) (fun _ _ => rfl))) (pss_cons (ps_lock (ps_lock (ps_set (i := 5) scLBent.nd rfl (.inl rfl) (pe_lst (pa_cons pe_non (pa_cons pe_int (pa_cons (pe_un un_neg pe_int) (pa_cons pe_bl (pa_cons pe_str (pa_cons (pe_tup pa_nil) (pa_cons (pe_tup (pa_cons pe_int pa_nil)) (pa_cons (pe_tup (pa_cons pe_int (pa_cons pe_int (pa_cons pe_int pa_nil)))) (pa_cons (pe_lst (pa_cons pe_int (pa_cons pe_int pa_nil))) (pa_cons (pe_tup (pa_cons pe_non (pa_cons pe_int pa_nil))) (pa_cons (pe_tup (pa_cons pe_int (pa_cons pe_bl pa_nil))) (pa_cons (pe_op op_pow pe_int pe_int) (pa_cons pe_dnewK (pa_cons (pe_tup (pa_cons (pe_tup (pa_cons pe_int (pa_cons pe_int pa_nil))) (pa_cons pe_int pa_nil))) pa_nil)))))))))))))))))) (pss_cons (ps_if (pt_cmpR op_eq (pv 3) pe_int (nomark _)) (pss_one (ps_ret (pe_op (r := rCatA K) op_catA (pe_op (r := rCatA K) op_catA (pe_slice (r := rSlA K) sl_tupA (pv 1) po_none (po_some (pv 2))) (pe_tup (pa_cons (pe_call GO hr (by rfl) gO kO bO .nil pass0 (pa_cons (pv 0) (pa_cons (pv 5) pa_nil))) pa_nil))) (pe_slice (r := rSlA K) sl_tupA (pv 1) (po_some (pe_op op_add (pv 2) pe_int)) po_none)))) pss_nil) (pss_cons (ps_if (pt_cmpR op_eq (pv 3) pe_int (nomark _)) (pss_one (ps_ret (pe_op (r := rCatA K) op_catA (pe_op (r := rCatA K) op_catA (pe_slice (r := rSlA K) sl_tupA (pv 1) po_none (po_some (pv 2))) (pe_tup (pa_cons (pv 4) pa_nil))) (pe_slice (r := rSlA K) sl_tupA (pv 1) (po_some (pv 2)) po_none)))) pss_nil) (pss_cons (ps_if (PW.pt (pw_and (pt_cmpR op_eq (pv 3) pe_int (nomark _)) (pw_and1 (pt_val (pe_callB (id := "isinstance") (r := rIsi K) call_isi (by rfl) mI (by decide +kernel) (pa_cons (pv 4) (pa_cons (pe_bltn (by rfl) mT (by decide +kernel) (v := .ty "tuple") rfl) pa_nil))))))) (pss_one (ps_ret (pe_op (r := rCatA K) op_catA (pe_op (r := rCatA K) op_catA (pe_slice (r := rSlA K) sl_tupA (pv 1) po_none (po_some (pv 2))) (pe_tup (pa_cons (pe_backT (pv 4)) pa_nil))) (pe_slice (r := rSlA K) sl_tupA (pv 1) (po_some (pe_op op_add (pv 2) pe_int)) po_none)))) pss_nil) (pss_cons (ps_if (pt_cmpR op_eq (pv 3) pe_int (nomark _)) (pss_one (ps_ret (pe_backT (pv 1)))) pss_nil) (pss_cons (ps_if (pt_cmpR op_eq (pv 3) pe_int (nomark _)) (pss_one (ps_ret (pe_callTy (T := "list") (r := rListOf K) call_list_of (by rfl) mLs (by decide +kernel) (pa_cons (pv 1) pa_nil)))) pss_nil) (pss_cons (ps_if (PW.pt (pw_and (pt_cmpR op_eq (pv 3) pe_int (nomark _)) (pw_and1 (pt_val (pe_callB (id := "isinstance") (r := rIsi K) call_isi (by rfl) mI (by decide +kernel) (pa_cons (pv 4) (pa_cons (pe_bltn (by rfl) mT (by decide +kernel) (v := .ty "tuple") rfl) pa_nil))))))) (pss_one (ps_ret (pe_op (r := rCatA K) op_catA (pe_op (r := rCatA K) op_catA (pe_slice (r := rSlA K) sl_tupA (pv 1) po_none (po_some (pv 2))) (pe_tup (pa_cons (pe_ix (r := rIxT K) ix_tup (pv 4) pe_int (fun _ _ => rfl)) (pa_cons (pe_ix (r := rIxT K) ix_tup (pv 4) pe_int (fun _ _ => rfl)) pa_nil)))) (pe_slice (r := rSlA K) sl_tupA (pv 1) (po_some (pe_op op_add (pv 2) pe_int)) po_none)))) pss_nil) (pss_cons (ps_if (pt_cmpR op_eq (pv 3) pe_int (nomark _)) (pss_one (ps_ret (pe_op (r := rCatA K) op_catA (pe_op (r := rCatA K) op_catA (pe_slice (r := rSlA K) sl_tupA (pv 1) po_none (po_some (pv 2))) (pe_tup (pa_cons (pe_tup (pa_cons (pv 4) (pa_cons (pv 4) pa_nil))) pa_nil))) (pe_slice (r := rSlA K) sl_tupA (pv 1) (po_some (pe_op op_add (pv 2) pe_int)) po_none)))) pss_nil) (pss_cons (ps_if (pt_cmpR op_eq (pv 3) pe_int (nomark _)) (pss_one (ps_ret (pe_op (r := rCatA K) op_catA (pe_slice (r := rSlA K) sl_tupA (pv 1) po_none (po_some (pv 2))) (pe_slice (r := rSlA K) sl_tupA (pv 1) (po_some (pe_op op_add (pv 2) pe_int)) po_none)))) pss_nil) (pss_one (ps_ret (pe_op (r := rCatA K) op_catA (pv 1) (pe_slice (r := rSlA K) sl_tupA (pv 1) po_none (po_some pe_int)))))))))))))))), ?_⟩
    obtain ⟨ae, ws, rfl, hae, kws⟩ := kv.tupI'
    have hl := kws.length
    have nl : noLs ds = true := noLs_all fun d hd => (hit d hd).els.2.1
    refine rd_draw (p := p) rfl (m := (ws.length : Int)) (ev_lenT (K := K) (ev_var rfl) hae) S nlc (by omega) (by omega) (by omega) fun r1 H1 hr1 S1 sb1 => ?_
    refine rd_draw (p := p) rfl ev_c S1 nlc (by omega) (by decide) (by decide) fun r2 H2 hr2 S2 sb2 => ⟨_, _, rfl, ?_⟩
    have sb := sameB_trans sb1 sb2
    have kE : Pt H2 (.ref ae) (.tuple ds) := kv.tk (tupK_same S sb) (by rw [noL]; exact nl)
    have hr1' : r1 < ds.length := by omega
    have hdi : ds[r1]? = some ds[r1] := List.getElem?_eq_getElem hr1'
    have hI := hit ds[r1] (List.getElem_mem hr1')
    refine q_asgP (D := ds[r1]) (ep_ix (K := K) (Ds := ds) (ep_v (σ := [some (.ref p), some (.ref ae), some (.int (r1 : Int)), some (.int (r2 : Int)), none, none]) (ev_var (i := 1) rfl) kE) (ev_var (i := 2) rfl) hdi) fun v4 H3 e3 k4 => ?_
    have S3 := S2.ex e3
    have kE3 := kE.ex e3
    obtain ⟨ls, hls, _⟩ := S3.l
    have plne : p ≠ l := S3.ne.2
    refine ⟨p, .dK [(Sum.inr "cells", .ref c), (Sum.inr "lefts", .ref l), (Sum.inr "at", .int (a + 1 + 1))], S3.d, True.intro, fun od1 => ⟨l, .lst (ls.map V.int), by rw [upd_ne plne.symm]; exact hls, True.intro, fun od2 => ?_⟩⟩
    refine (show EvP _ _ _ (.list someD) from (ep_lst (epa_cons ep_non (epa_cons ep_int (epa_cons (ep_v (ev_un ev_c ru_neg) (.int _)) (epa_cons ep_bl (epa_cons (ep_str (by decide)) (epa_cons (ep_tup epa_nil (by first | simp | decide)) (epa_cons (ep_tup (epa_cons ep_int epa_nil) (by first | simp | decide)) (epa_cons (ep_tup (epa_cons ep_int (epa_cons ep_int (epa_cons ep_int epa_nil))) (by first | simp | decide)) (epa_cons (ep_lst (epa_cons ep_int (epa_cons ep_int epa_nil)) (by first | simp | decide)) (epa_cons (ep_tup (epa_cons ep_non (epa_cons ep_int epa_nil)) (by first | simp | decide)) (epa_cons (ep_tup (epa_cons ep_int (epa_cons ep_bl epa_nil)) (by first | simp | decide)) (epa_cons (ep_v (ev_is (ev_op ev_c ev_c rv_powB) rfl) (.int (10 ^ 30))) (epa_cons ep_dicB (epa_cons (ep_tup (epa_cons (ep_tup (epa_cons ep_int (epa_cons ep_int epa_nil)) (by first | simp | decide)) (epa_cons ep_int epa_nil)) (by first | simp | decide)) epa_nil)))))))))))))) (by first | simp | decide))) _ (Ex.refl _) _ fun v5 H5 e5 k5 => ?_
    have f5l : H5 l = some (.frz od2 (.lst (ls.map V.int))) := e5 _ _ upd_same
    have f5p : H5 p = some (.frz od1 (.dK [(Sum.inr "cells", .ref c), (Sum.inr "lefts", .ref l), (Sum.inr "at", .int (a + 1 + 1))])) := e5 _ _ (by rw [upd_ne plne]; exact upd_same)
    refine ⟨f5l, by rw [upd_ne plne]; exact f5p, ?_⟩
    dsimp only
    have kH5 : Pt (hid [p, l] H5) v5 (.list someD) := Pt.lock0 (fun b hb => by
      rcases List.mem_cons.mp hb with rfl | hb
      · exact ⟨_, _, f5p⟩
      · rw [List.mem_singleton.mp hb]
        exact ⟨_, _, f5l⟩) k5
    obtain ⟨HF, hHF⟩ : ∃ HF, HF = upd (upd H5 l (.lst (ls.map V.int))) p (.dK [(Sum.inr "cells", .ref c), (Sum.inr "lefts", .ref l), (Sum.inr "at", .int (a + 1 + 1))]) := ⟨_, rfl⟩
    rw [← hHF]
    have kHF : Pt (hid [p, l] HF) v5 (.list someD) := kH5.ex (hid_kept fun b o hb hn => by
      rw [hHF, upd_ne (fun z => hn (by rw [z]; simp)), upd_ne (fun z => hn (by rw [z]; simp))]
      exact hb)
    have eF : Ex H3 HF := fun b o hb => by
      rw [hHF]
      by_cases zp : b = p
      · rw [zp, upd_same, ← hb, zp]
        exact S3.d.symm
      · rw [upd_ne zp]
        by_cases zl : b = l
        · rw [zl, upd_same, ← hb, zl]
          exact hls.symm
        · rw [upd_ne zl]
          exact e5 _ _ (by rw [upd_ne zl, upd_ne zp]; exact hb)
    clear hHF kH5 k5 f5l f5p e5
    have SF := S3.ex eF
    have kEF := kE3.ex eF
    have k4F := k4.ex eF
    have sbF : SameB H HF p l := sameB_trans sb (sameB_ex (e3.trans eF))
    have hTF : ∀ {H' : Hp} {b' : Int}, StAt H' p c l n b' → ∀ b ∈ [p, l], ∀ xs, H' b ≠ some (.tup xs) := fun S' b hb xs z => by
      obtain ⟨ls', hls', _⟩ := S'.l
      rcases List.mem_cons.mp hb with rfl | hb
      · rw [S'.d] at z
        cases z
      · rw [List.mem_singleton.mp hb, hls'] at z
        cases z
    have done : ∀ {D : PyData} {v' : V} {H' : Hp}, Ex HF H' → Pt H' v' D → noL D = true → BentS D → Q v' H' := fun {D v' H'} e k nD B => by
      have S' := SF.ex e
      exact q v' D H' _ (k.tk (tupK_hid (hTF S')) nD) B (by omega) (by omega) S' (sameB_trans sbF (sameB_ex e))
    generalize hx : ds[r1] = dx at k4 k4F hI hdi
    have eEnt : ∀ {H' : Hp}, Ex HF H' → EvP (tVar 1) [some (.ref p), some (.ref ae), some (.int (r1 : Int)), some (.int (r2 : Int)), some v4, some v5] H' (.tuple ds) := fun e => ep_v (ev_var rfl) (kEF.ex e)
    have eIt : ∀ {H' : Hp}, Ex HF H' → EvP (tVar 4) [some (.ref p), some (.ref ae), some (.int (r1 : Int)), some (.int (r2 : Int)), some v4, some v5] H' dx := fun e => ep_v (ev_var rfl) (k4F.ex e)
    have eAt : ∀ {H' : Hp}, Ev (tVar 2) [some (.ref p), some (.ref ae), some (.int (r1 : Int)), some (.int (r2 : Int)), some v4, some v5] H' (.int (r1 : Int)) := ev_var rfl
    have eAt1 : ∀ {H' : Hp} {u : V}, Ev (tOp (rI0 fun i j => V.int (i + j)) (tVar 2) (tC (.int 1))) [some (.ref p), some (.ref ae), some (.int (r1 : Int)), some (.int (r2 : Int)), some v4, some u] H' (.int ((r1 + 1 : Nat) : Int)) := fun {_ _} => ev_is (ev_op (ev_var rfl) ev_c rv_I0) (by
      show V.int ((r1 : Int) + 1) = _
      rw [Int.natCast_add]
      rfl)
    have eA : ∀ {H' : Hp}, Ex HF H' → EvP (tSl (rSlA K) (tVar 1) tNoPart (tPart (tVar 2))) [some (.ref p), some (.ref ae), some (.int (r1 : Int)), some (.int (r2 : Int)), some v4, some v5] H' (.tuple (ds.take r1)) := fun e => by
      have h := ep_sl (K := K) (eEnt e) eo_none (eo_some eAt)
      rw [cut_lo] at h
      exact h
    have eB0 : ∀ {H' : Hp}, Ex HF H' → EvP (tSl (rSlA K) (tVar 1) (tPart (tVar 2)) tNoPart) [some (.ref p), some (.ref ae), some (.int (r1 : Int)), some (.int (r2 : Int)), some v4, some v5] H' (.tuple (ds.drop r1)) := fun e => by
      have h := ep_sl (K := K) (eEnt e) (eo_some eAt) eo_none
      rw [cut_hi] at h
      exact h
    have eB : ∀ {H' : Hp}, Ex HF H' → EvP (tSl (rSlA K) (tVar 1) (tPart (tOp (rI0 fun i j => V.int (i + j)) (tVar 2) (tC (.int 1)))) tNoPart) [some (.ref p), some (.ref ae), some (.int (r1 : Int)), some (.int (r2 : Int)), some v4, some v5] H' (.tuple (ds.drop (r1 + 1))) := fun e => by
      have h := ep_sl (K := K) (eEnt e) (eo_some eAt1) eo_none
      rw [cut_hi] at h
      exact h
    have lt1 : (ds.take r1).length = r1 := by rw [List.length_take]; omega
    have ld0 : (ds.drop r1).length = ds.length - r1 := List.length_drop
    have ld1 : (ds.drop (r1 + 1)).length = ds.length - (r1 + 1) := List.length_drop
    have itT : ∀ d ∈ ds.take r1, ItK d := fun d hd => hit d (List.mem_of_mem_take hd)
    have itD : ∀ k, ∀ d ∈ ds.drop k, ItK d := fun k d hd => hit d (List.mem_of_mem_drop hd)
    -- three pieces, the middle one small data
    have three : ∀ {mid tl : List PyData}, (∀ d ∈ mid, ElS d ∧ noL d = true) → (∀ d ∈ tl, ItK d) → mid.length ≤ 2 → r1 + mid.length + tl.length ≤ 62 → noL (.tuple (ds.take r1 ++ mid ++ tl)) = true ∧ BentS (.tuple (ds.take r1 ++ mid ++ tl)) := fun {mid tl} hm ht h2 h62 => by
      have all : ∀ d ∈ ds.take r1 ++ mid ++ tl, ElS d ∧ noL d = true := fun d hd => by
        rcases List.mem_append.mp hd with hd | hd
        · rcases List.mem_append.mp hd with hd | hd
          · exact ⟨(itT d hd).els.1, (itT d hd).els.2.1⟩
          · exact hm d hd
        · exact ⟨(ht d hd).els.1, (ht d hd).els.2.1⟩
      have nn : noLs (ds.take r1 ++ mid ++ tl) = true := noLs_all fun d hd => (all d hd).2
      refine ⟨by rw [noL]; exact nn, bent_tup (fun d hd => (all d hd).1) (by simp only [List.length_append, lt1]; omega) (.inl (noKs_all fun d hd => noL_K (all d hd).2))⟩
    by_cases h0 : r2 = 0
    · refine q_when (b := true) (et_way rfl (decide_eq_true h0)) (fun _ H6 e6 => ?_) (fun z => nomatch z)
      refine eA e6 H6 (Ex.refl _) _ fun v7 H7 e7 k7 => ?_
      have e67 := e6.trans e7
      obtain ⟨a7, xs7, rfl, h7, ka7⟩ := k7.tupI'
      have S7 := SF.ex e67
      obtain ⟨so, xs, rfl, hso, kso⟩ : ∃ so xs, v5 = .ref so ∧ hid [p, l] HF so = some (.lst xs) ∧ PtAll (hid [p, l] HF) xs someD := by
        cases kHF with
        | lst h1 h2 => exact ⟨_, _, rfl, h1, h2⟩
      obtain ⟨nso, hso'⟩ := hid_some hso
      have xl := kso.length
      have ld : someD.length = 14 := rfl
      refine ⟨_, rfl, _, rfl, p, c, l, so, n, _, xs, rfl, S7, nlc, by omega, e67 _ _ hso', fun z => nso (by rw [z]; simp), fun z => nso (by rw [z]; simp), by omega, by omega, fun i v8 H8 hi S8 sb8 nn8 => ⟨by show 1 ≤ sizeLine; decide, fun tp ntp => ?_⟩⟩
      have kk8 : Ex (hid [p, l] H7) (hid [p, l] H8) := hid_kept fun b o hb hn => sb8 b o hb (fun z => hn (by rw [z]; simp)) (fun z => hn (by rw [z]; simp))
      obtain ⟨d8, hd8, kd8⟩ := kso.get2 hi
      have kd8' : Pt (hid [p, l] H8) v8 d8 := (kd8.ex (hid_mono e67)).ex kk8
      have e9 := Ex.new (o := .tup [v8]) ntp
      have S9 := S8.ex e9
      have h9a : (upd H8 tp (.tup [v8])) a7 = some (.tup xs7) := e9 _ _ (sb8 _ _ h7 (fun z => hTF S7 a7 (by rw [z]; simp) _ h7) (fun z => hTF S7 a7 (by rw [z]; simp) _ h7))
      have ka9 : PtAll (hid [p, l] (upd H8 tp (.tup [v8]))) xs7 (ds.take r1) := ((ka7.tk (tupK_hid (hTF S7)) (noLs_all fun d hd => (itT d hd).els.2.1)).ex kk8).ex (hid_mono e9)
      have exS : ∀ {H' : Hp} {b' : Int}, StAt H' p c l n b' → ∀ b ∈ [p, l], ∃ o, H' b = some o := fun S' b hb => by
        obtain ⟨ls', hls', _⟩ := S'.l
        rcases List.mem_cons.mp hb with rfl | hb
        · exact ⟨_, S'.d⟩
        · rw [List.mem_singleton.mp hb]
          exact ⟨_, hls'⟩
      refine rd_catH (S := [p, l]) (exS S9) (hTF S9) h9a upd_same ka9 (.cons (kd8'.ex (hid_mono e9)) .nil) (by rw [lt1]; simp; omega) fun c1 H10 zs1 e10 hc1 kc1 => ?_
      -- the rest behind it
      have S10 := S9.ex e10
      have sbX : SameB HF H10 p l := sameB_trans (sameB_trans (sameB_ex e67) sb8) (sameB_ex (e9.trans e10))
      have kE10 : Pt H10 (.ref ae) (.tuple ds) := kEF.tk (tupK_same SF sbX) (by rw [noL]; exact nl)
      have hB : EvP (tSl (rSlA K) (tVar 1) (tPart (tOp (rI0 fun i j => V.int (i + j)) (tVar 2) (tC (.int 1)))) tNoPart) [some (.ref p), some (.ref ae), some (.int (r1 : Int)), some (.int (r2 : Int)), some v4, some (.ref so)] H10 (.tuple (ds.drop (r1 + 1))) := by
        have h := ep_sl (K := K) (ep_v (te := tVar 1) (σ := [some (.ref p), some (.ref ae), some (.int (r1 : Int)), some (.int (r2 : Int)), some v4, some (.ref so)]) (ev_var rfl) kE10) (eo_some eAt1) eo_none
        rw [cut_hi] at h
        exact h
      refine hB H10 (Ex.refl _) _ fun v11 H11 e11 k11 => ?_
      obtain ⟨a11, xs11, rfl, h11, ka11⟩ := k11.tupI'
      have S11 := S10.ex e11
      refine rd_catH (S := [p, l]) (exS S11) (hTF S11) (e11 _ _ hc1) h11 (kc1.ex (hid_mono e11)) (ka11.tk (tupK_hid (hTF S11)) (noLs_all fun d hd => (itD _ d hd).els.2.1)) (by simp only [List.length_append, lt1, List.length_cons, List.length_nil, ld1]; omega) fun c2 H12 zs2 e12 hc2 kc2 => ?_
      have S12 := S11.ex e12
      have m8 := List.mem_of_getElem? hd8
      obtain ⟨el8, kn8⟩ := some_ok d8 m8
      refine q (.ref c2) (.tuple (ds.take r1 ++ [d8] ++ ds.drop (r1 + 1))) H12 _ (.tup (by rw [hid_out fun z => hTF S12 c2 z _ hc2]; exact hc2) kc2) (bent_tup (fun d hd => ?_) (by simp only [List.length_append, lt1, List.length_cons, List.length_nil, ld1]; omega) ?_) (by omega) (by omega) S12 (sameB_trans sbF (sameB_trans sbX (sameB_ex (e11.trans e12))))
      · rcases List.mem_append.mp hd with hd | hd
        · rcases List.mem_append.mp hd with hd | hd
          · exact (itT d hd).els.1
          · rw [List.mem_singleton.mp hd]
            exact el8
        · exact (itD _ d hd).els.1
      · rcases kn8 with kn8 | kn8
        · left
          refine noKs_all fun d hd => ?_
          rcases List.mem_append.mp hd with hd | hd
          · rcases List.mem_append.mp hd with hd | hd
            · exact (itT d hd).els.2.2.1
            · rw [List.mem_singleton.mp hd]
              exact kn8
          · exact (itD _ d hd).els.2.2.1
        · right
          refine noWs_all fun d hd => ?_
          rcases List.mem_append.mp hd with hd | hd
          · rcases List.mem_append.mp hd with hd | hd
            · exact (itT d hd).els.2.2.2
            · rw [List.mem_singleton.mp hd]
              exact kn8
          · exact (itD _ d hd).els.2.2.2
    refine q_when (b := false) (et_way rfl (decide_eq_false h0)) (fun z => nomatch z) (fun _ H6 e6 => ?_)
    have one : ∀ {x : PyData}, ItK x → ∀ d ∈ [x], ElS d ∧ noL d = true := fun hx d hd => by
      rw [List.mem_singleton.mp hd]
      exact ⟨hx.els.1, hx.els.2.1⟩
    by_cases h1 : r2 = 1
    · refine q_when (b := true) (et_way rfl (decide_eq_true h1)) (fun _ H7 e7 => ?_) (fun z => nomatch z)
      have e67 := e6.trans e7
      obtain ⟨nL, B⟩ := three (mid := [dx]) (tl := ds.drop r1) (one hI) (itD _) (by simp) (by rw [ld0]; simp; omega)
      exact s_retP (ep_catA (ep_catA (eA e67) (ep_tup (epa_cons (eIt e67) epa_nil) (by simp)) (by rw [lt1]; simp; omega)) (eB0 e67) (by simp only [List.length_append, lt1, List.length_cons, List.length_nil, ld0]; omega)) fun v' H8 e8 k8 => done (e67.trans e8) k8 nL B
    refine q_when (b := false) (et_way rfl (decide_eq_false h1)) (fun z => nomatch z) (fun _ H7 e7 => ?_)
    have e67 := e6.trans e7
    have eTy : ∀ {k : Nat} {H' : Hp}, Ex HF H' → EvT (tAnd (tTest (tOp rEq (tVar 3) (tC (.int (k : Int))))) (tTest (tCB (rIsi K) (tCons (tVar 4) (tCons (tC (.ty "tuple")) tNil))))) [some (.ref p), some (.ref ae), some (.int (r1 : Int)), some (.int (r2 : Int)), some v4, some v5] H' (decide (r2 = k) && isT dx) := fun {k H'} e => et_and (et_way rfl rfl) fun _ => et_test (ev_isiT (ev_var rfl) (k4F.ex e))
    refine q_when (eTy (k := 2) e67) (fun hb H8 e8 => ?_) (fun hb H8 e8 => ?_)
    · have ht := (Bool.and_eq_true_iff.mp hb).2
      have e678 := e67.trans e8
      rcases hI with ⟨i, rfl, _⟩ | ⟨i, j, rfl, hi, hj⟩
      · cases ht
      have hJ : ItK (.tuple [.int j, .int i]) := .inr ⟨j, i, rfl, hj, hi⟩
      obtain ⟨nL, B⟩ := three (mid := [.tuple [.int j, .int i]]) (tl := ds.drop (r1 + 1)) (one hJ) (itD _) (by simp) (by rw [ld1]; simp; omega)
      have eR : EvP (tBackT K (tVar 4)) [some (.ref p), some (.ref ae), some (.int (r1 : Int)), some (.int (r2 : Int)), some v4, some v5] H8 (.tuple [.int j, .int i]) := ep_back (K := K) (ds := [.int i, .int j]) (eIt e678) (by simp)
      exact s_retP (ep_catA (ep_catA (eA e678) (ep_tup (epa_cons eR epa_nil) (by simp)) (by rw [lt1]; simp; omega)) (eB e678) (by simp only [List.length_append, lt1, List.length_cons, List.length_nil, ld1]; omega)) fun v' H9 e9 k9 => done (e678.trans e9) k9 nL B
    have e78 := e67.trans e8
    by_cases h3 : r2 = 3
    · refine q_when (b := true) (et_way rfl (decide_eq_true h3)) (fun _ H9 e9 => ?_) (fun z => nomatch z)
      have all : ∀ d ∈ ds.reverse, ItK d := fun d hd => hit d (List.mem_reverse.mp hd)
      have nL : noLs ds.reverse = true := noLs_all fun d hd => (all d hd).els.2.1
      exact s_retP (ep_back (K := K) (eEnt (e78.trans e9)) (fun z => by rw [z] at n1; simp at n1)) fun v' H10 e10 k10 => done ((e78.trans e9).trans e10) k10 (by rw [noL]; exact nL) (bent_tup (fun d hd => (all d hd).els.1) (by rw [List.length_reverse]; omega) (.inl (noKs_all fun d hd => (all d hd).els.2.2.1)))
    refine q_when (b := false) (et_way rfl (decide_eq_false h3)) (fun z => nomatch z) (fun _ H9 e9 => ?_)
    have e89 := e78.trans e9
    by_cases h4 : r2 = 4
    · refine q_when (b := true) (et_way rfl (decide_eq_true h4)) (fun _ H10 e10 => ?_) (fun z => nomatch z)
      have eX := e89.trans e10
      obtain ⟨ae', ws', eae, hw', kw'⟩ := (kEF.ex eX).tupI'
      cases eae
      have SX := SF.ex eX
      refine ⟨_, rfl, ae, ws', rfl, .inr (st_of hw'), fun lp nlp => ?_⟩
      have eN := Ex.new (o := .lst ws') nlp
      have SN := SX.ex eN
      have nlpS : lp ∉ ([p, l] : List Addr) := fun z => by
        obtain ⟨ls', hls', _⟩ := SX.l
        rcases List.mem_cons.mp z with rfl | z
        · rw [SX.d] at nlp
          cases nlp
        · rw [List.mem_singleton.mp z, hls'] at nlp
          cases nlp
      exact q (.ref lp) (.list ds) _ _ (.lst (by rw [hid_out nlpS]; exact upd_same) ((kw'.ex eN).tk (tupK_hid (hTF SN)) nl)) (bent_lst (fun d hd => (hit d hd).els.1) (by omega) (noKs_all fun d hd => (hit d hd).els.2.2.1)) (by omega) (by omega) SN (sameB_trans sbF (sameB_ex (eX.trans eN)))
    refine q_when (b := false) (et_way rfl (decide_eq_false h4)) (fun z => nomatch z) (fun _ H10 e10 => ?_)
    have e910 := e89.trans e10
    refine q_when (eTy (k := 5) e910) (fun hb H11 e11 => ?_) (fun hb H11 e11 => ?_)
    · have ht := (Bool.and_eq_true_iff.mp hb).2
      have eX := e910.trans e11
      rcases hI with ⟨i, rfl, _⟩ | ⟨i, j, rfl, hi, hj⟩
      · cases ht
      have hm : ∀ d ∈ [PyData.int i, .int j], ElS d ∧ noL d = true := fun d hd => by
        rcases List.mem_cons.mp hd with rfl | hd
        · exact ⟨(ItK.els (.inl ⟨i, rfl, hi⟩)).1, rfl⟩
        · rw [List.mem_singleton.mp hd]
          exact ⟨(ItK.els (.inl ⟨j, rfl, hj⟩)).1, rfl⟩
      obtain ⟨nL, B⟩ := three (mid := [.int i, .int j]) (tl := ds.drop (r1 + 1)) hm (itD _) (by simp) (by rw [ld1]; simp; omega)
      have i0 : EvP (tOp (rIxT K) (tVar 4) (tC (.int 0))) [some (.ref p), some (.ref ae), some (.int (r1 : Int)), some (.int (r2 : Int)), some v4, some v5] H11 (.int i) := ep_ix (K := K) (Ds := [.int i, .int j]) (j := 0) (eIt eX) ev_c rfl
      have i1 : EvP (tOp (rIxT K) (tVar 4) (tC (.int 1))) [some (.ref p), some (.ref ae), some (.int (r1 : Int)), some (.int (r2 : Int)), some v4, some v5] H11 (.int j) := ep_ix (K := K) (Ds := [.int i, .int j]) (j := 1) (eIt eX) ev_c rfl
      exact s_retP (ep_catA (ep_catA (eA eX) (ep_tup (epa_cons i0 (epa_cons i1 epa_nil)) (by simp)) (by rw [lt1]; simp; omega)) (eB eX) (by simp only [List.length_append, lt1, List.length_cons, List.length_nil, ld1]; omega)) fun v' H12 e12 k12 => done (eX.trans e12) k12 nL B
    have e1011 := e910.trans e11
    by_cases h6 : r2 = 6
    · refine q_when (b := true) (et_way rfl (decide_eq_true h6)) (fun _ H12 e12 => ?_) (fun z => nomatch z)
      have eX := e1011.trans e12
      have hm : ∀ d ∈ [PyData.tuple [dx, dx]], ElS d ∧ noL d = true := fun d hd => by
        rw [List.mem_singleton.mp hd]
        rcases hI with ⟨i, rfl, hi⟩ | ⟨i, j, rfl, hi, hj⟩
        · exact ⟨els_plain ⟨log_small hi, log_small hi, trivial⟩ (by simp only [cap, capAll]; decide) (by simp [PyData.depth, PyData.depthAll]), rfl⟩
        · exact ⟨els_plain ⟨⟨log_small hi, log_small hj, trivial⟩, ⟨log_small hi, log_small hj, trivial⟩, trivial⟩ (by simp only [cap, capAll]; decide) (by simp [PyData.depth, PyData.depthAll]), rfl⟩
      obtain ⟨nL, B⟩ := three (mid := [.tuple [dx, dx]]) (tl := ds.drop (r1 + 1)) hm (itD _) (by simp) (by rw [ld1]; simp; omega)
      exact s_retP (ep_catA (ep_catA (eA eX) (ep_tup (epa_cons (ep_tup (epa_cons (eIt eX) (epa_cons (eIt eX) epa_nil)) (by simp)) epa_nil) (by simp)) (by rw [lt1]; simp; omega)) (eB eX) (by simp only [List.length_append, lt1, List.length_cons, List.length_nil, ld1]; omega)) fun v' H13 e13 k13 => done (eX.trans e13) k13 nL B
    refine q_when (b := false) (et_way rfl (decide_eq_false h6)) (fun z => nomatch z) (fun _ H12 e12 => ?_)
    have e1112 := e1011.trans e12
    have two : ∀ {hd tl : List PyData}, (∀ d ∈ hd, ItK d) → (∀ d ∈ tl, ItK d) → hd.length + tl.length ≤ 62 → noL (.tuple (hd ++ tl)) = true ∧ BentS (.tuple (hd ++ tl)) := fun {hd tl} hh ht h62 => by
      have all : ∀ d ∈ hd ++ tl, ItK d := fun d hd' => (List.mem_append.mp hd').elim (hh d) (ht d)
      exact ⟨by rw [noL]; exact noLs_all fun d hd => (all d hd).els.2.1, bent_tup (fun d hd => (all d hd).els.1) (by rw [List.length_append]; exact h62) (.inl (noKs_all fun d hd => (all d hd).els.2.2.1))⟩
    by_cases h7 : r2 = 7
    · refine q_when (b := true) (et_way rfl (decide_eq_true h7)) (fun _ H13 e13 => ?_) (fun z => nomatch z)
      have eX := e1112.trans e13
      obtain ⟨nL, B⟩ := two (hd := ds.take r1) (tl := ds.drop (r1 + 1)) itT (itD _) (by rw [lt1, ld1]; omega)
      exact s_retP (ep_catA (eA eX) (eB eX) (by rw [lt1, ld1]; omega)) fun v' H14 e14 k14 => done (eX.trans e14) k14 nL B
    refine q_when (b := false) (et_way rfl (decide_eq_false h7)) (fun z => nomatch z) (fun _ H13 e13 => ?_)
    have eX := e1112.trans e13
    have l1 : (ds.take 1).length ≤ 1 := List.length_take_le 1 ds
    obtain ⟨nL, B⟩ := two (hd := ds) (tl := ds.take 1) hit (fun d hd => hit d (List.mem_of_mem_take hd)) (by omega)
    have e1 : EvP (tSl (rSlA K) (tVar 1) tNoPart (tPart (tC (.int 1)))) [some (.ref p), some (.ref ae), some (.int (r1 : Int)), some (.int (r2 : Int)), some v4, some v5] H13 (.tuple (ds.take 1)) := by
      have h := ep_sl (K := K) (eEnt eX) eo_none (eo_some (ev_c (v := .int ((1 : Nat) : Int))))
      rw [cut_lo] at h
      exact h
    exact s_retP (ep_catA (eEnt eX) e1 (by omega)) fun v' H14 e14 k14 => done (eX.trans e14) k14 nL B
end
end Dt

/-! An index: names, plain entries, how a change is settled and kept. -/
namespace Ix
open PySem L2 Evl Dg Dt TL StX ClX LamR LamX
open Dr (StAt SameB)
abbrev sNeedName : Stmt := top 67
abbrev sPlainEnt : Stmt := top 60
abbrev clIndex : Stmt := top 68
abbrev sSettle : Stmt := inClass clIndex 4
abbrev sChange : Stmt := inClass clIndex 5
abbrev sSetItem : Stmt := inClass clIndex 6
def abc : Str := "abcdefghijklmnopqrstuvwxyz"
/-- whether data is a name -/
def nameB : PyData → Bool
  | .str x => (decide (1 ≤ x.length) && decide (x.length ≤ 20)) && (tl x).all fun c => decide (c ∈ abc.cps.toList)
  | _ => false
/-- the index's own fields -/
def ixF (st : Addr) (mn : Str) (ea pa : Addr) : List (Str × V) := [("stored_style", .ref st), ("stored_manner", .str mn), ("stored_entries", .ref ea), ("past", .ref pa)]
/-- the index at x: its entries' dict at ea, its past's list at pa -/
structure IxAt (CI : Addr) (H : Hp) (x ea pa st : Addr) (mn : Str) (es : List (Key × V)) (ps : List V) : Prop where
  i : ∃ dx, H x = some (.ins CI dx (ixF st mn ea pa))
  e : H ea = some (.dK es)
  p : H pa = some (.lst ps)
theorem IxAt.ex {CI : Addr} {H H' : Hp} {x ea pa st : Addr} {mn : Str} {es : List (Key × V)} {ps : List V} (I : IxAt CI H x ea pa st mn es ps) (e : Ex H H') : IxAt CI H' x ea pa st mn es ps := ⟨let ⟨dx, h⟩ := I.i; ⟨dx, e _ _ h⟩, e _ _ I.e, e _ _ I.p⟩
/-- kept but for the index's own -/
def Bi (x ea pa : Addr) (H H' : Hp) : Prop := ∀ b o, H b = some o → b ≠ x → b ≠ ea → b ≠ pa → H' b = some o
theorem Bi.of {x ea pa : Addr} {H H' : Hp} (e : Ex H H') : Bi x ea pa H H' := fun b o h _ _ _ => e b o h
theorem Bi.trans {x ea pa : Addr} {H H1 H2 : Hp} (h : Bi x ea pa H H1) (k : Bi x ea pa H1 H2) : Bi x ea pa H H2 := fun b o hb a1 a2 a3 => k b o (h b o hb a1 a2 a3) a1 a2 a3
/-- the entries behind a settlement -/
def setD (es : List (Key × V)) (kv : Key × V) : List (Key × V) := if kv.2 = .non then dropK es kv.1 else putK es kv.1 kv.2
def settleD (es en : List (Key × V)) : List (Key × V) := en.foldl setD es
theorem lk_st {st ea pa : Addr} {mn : Str} : List.lookup ("stored_style" : Str) (ixF st mn ea pa) = some (.ref st) := rfl
theorem lk_mn {st ea pa : Addr} {mn : Str} : List.lookup ("stored_manner" : Str) (ixF st mn ea pa) = some (.str mn) := rfl
theorem lk_en {st ea pa : Addr} {mn : Str} : List.lookup ("stored_entries" : Str) (ixF st mn ea pa) = some (.ref ea) := rfl
theorem lk_pa {st ea pa : Addr} {mn : Str} : List.lookup ("past" : Str) (ixF st mn ea pa) = some (.ref pa) := rfl
theorem ev_fldI {K : PySem.W.Frag} {CI : Addr} {σ : St} {H : Hp} {te : TE} {f : Str} {v : V} {x dx : Addr} {fs : List (Str × V)} (h : Ev te σ H (.ref x)) (cl : Cls K CI) (n : NoAttr K CI f) (hx : H x = some (.ins CI dx fs)) (hl : fs.lookup f = some v) : Ev (tFld K te f) σ H v := fun H1 e Q q =>
  h H1 e _ fun H2 e2 => ⟨x, CI, dx, fs, v, rfl, (e.trans e2) _ _ hx, cl, n, hl, q H2 e2⟩
structure TxIx (K : PySem.W.Frag) (mg : Str → Option Value) (CI fnn fne fpe : Addr) (ca : Nat → Addr) : Prop where
  needN : mg "need_name" = some (.ref fnn)
  kNN : PySem.W.keepIn K (.ref fnn) = true
  needE : mg "need_entry" = some (.ref fne)
  kNE : PySem.W.keepIn K (.ref fne) = true
  plain : mg "plain_entry" = some (.ref fpe)
  kPE : PySem.W.keepIn K (.ref fpe) = true
  badName : mg "BadName" = some (.ref (ca 9))
  isi : mg "isinstance" = none
  str : mg "str" = none
  tuple : mg "tuple" = none
  len : mg "len" = none
  all : mg "all" = none
  sup : mg "super" = none
  letters : ∃ t, mg "LETTERS" = some (.str Ix.abc t)
  mostL : ∃ t, mg "MOST_LETTERS" = some (.int 20 t)
  clI : Cls K CI
  nS : NoAttr K CI "stored_style"
  nM : NoAttr K CI "stored_manner"
  nE : NoAttr K CI "stored_entries"
  nP : NoAttr K CI "past"
section
variable {P : Program} {w : World} {K : PySem.W.Frag} {mg : Str → Option Value} {base : Heap} {ca : Nat → Addr} {CI fnn fne fpe fse fch : Addr}
def spNeedName (ca : Nat → Addr) : Sp := fun vs H Q E => ∃ v D, vs = [v] ∧ Pt H v D ∧ (nameB D = true → RetV .non H Q) ∧ (nameB D = false → Leaves (ca 9) "value" v H E)
theorem scNeedName : FnScope ["name", "letter"] ["name"] (defScope sNeedName) := ⟨rfl, rfl, rfl, by decide +kernel, rfl, by decide +kernel, by decide +kernel⟩
theorem ok_needName {f : Addr} {fd : FuncData} (F : Fun K "need_name" "need_name" sNeedName f fd) (M : Mks P K mg (ca 9) ["value"]) (T : TxIx K mg CI fnn fne fpe ca) : FnOk P w K mg base (L2.CX P w) 2 f fd ["name"] (spNeedName ca) := by
  refine F.okX scNeedName (fun vs H Q E h => ?_) (fun cdv A outer s H vs Q E hr h => ?_)
  · obtain ⟨_, _, rfl, _⟩ := h
    rfl
  · obtain ⟨v, D, rfl, k, qy, qn⟩ := h
    obtain ⟨t1, hl⟩ := T.letters
    obtain ⟨t2, hm⟩ := T.mostL
    refine ⟨_, pss_cons (ps_if (PW.pt (pw_or (pt_not (pt_val (pe_callB (r := rIsi K) call_isi (by rfl) T.isi (by decide +kernel) (pa_cons (pv 0) (pa_cons (pe_bltn (by rfl) T.str (by decide +kernel) (v := .ty "str") rfl) pa_nil))))) (pw_or1 (pt_not (pt_chain op_le op_le pe_int (pe_callB call_len_str (by rfl) T.len (by decide +kernel) (pa_cons (pv 0) pa_nil)) (pe_glob (by rfl) hm (v := .int 20) ⟨_, rfl⟩)))))) (pss_one (ps_raise rfl (takes_of rfl rfl rfl rfl) (pmk_mks M T.sup hr (by simp) (pa_cons (pv 0) pa_nil) (by rfl) T.badName))) pss_nil)
      (pss_one (ps_if (pt_not (pt_val (pe_callB (cr_all rfl) (by rfl) T.all (by decide +kernel) (pa_cons (pe_lc (own := [("letter", 1)]) (g := gName 1) (tt := tYes) rfl scNeedName.nd (pi_str (pv 0)) (blkOk_by (own := [("letter", 1)]) (N := ["name", "letter"]) (sc := defScope sNeedName) (by decide +kernel)) (fun _ _ _ _ _ => pg_name (i := 1) scNeedName.nd rfl (Or.inl rfl)) (fun _ _ _ _ _ => pts_nil)
        (fun _ _ _ _ _ => pe_cmpR op_in_sign (pv 1) (pe_glob (by rfl) hl (v := .str abc) ⟨_, rfl⟩) (by rfl))) pa_nil)))) (pss_one (ps_raise rfl (takes_of rfl rfl rfl rfl) (pmk_mks M T.sup hr (by simp) (pa_cons (pv 0) pa_nil) (by rfl) T.badName))) pss_nil)), ?_⟩
    have bad : nameB D = false → ∀ H1, Ex H H1 → ∀ d, H1 d = none → _ := fun hb H1 e1 d hd => qn hb H1 d e1 hd
    by_cases hs : ∃ x, D = .str x
    · obtain ⟨x, rfl⟩ := hs
      cases k
      rename_i hx
      have eT : Ev (tCB (fun xs H Q => ∃ z : Str, xs = [.str z] ∧ z.length ≤ sizeLine ∧ Q (.int z.length) H) (tCons (tVar 0) tNil)) (L2.start ["name", "letter"] [.str x]) H (.int (x.length : Int)) :=
        ev_cb (ea_cons (ev_var rfl) ea_nil) fun H1 e Q q => ⟨x, rfl, by rw [sizeLine_eq]; omega, q _ (Ex.refl _)⟩
      refine q_when (b := !(decide ((1 : Int) ≤ (x.length : Int)) && decide ((x.length : Int) ≤ 20))) (et_is (et_or (et_not (et_B (ev_isi (r := true) (ev_var rfl) (.base (.str x)) (by decide +kernel)))) fun _ => et_not (et_test (ev_chI ev_c eT ev_c))) (by simp)) (fun z H1 e => ?_) (fun z H1 e => ?_)
      · have e0 : nameB (.str x) = false := by
          rw [Bool.not_eq_true'] at z
          show ((decide (1 ≤ x.length) && decide (x.length ≤ 20)) && (tl x).all fun c => decide (c ∈ abc.cps.toList)) = false
          have : (decide (1 ≤ x.length) && decide (x.length ≤ 20)) = false := by
            rw [← z]
            congr 1 <;> exact decide_eq_decide.mpr (by omega)
          rw [this, Bool.false_and]
        exact ⟨_, rfl, rfl, fun d hd => bad e0 H1 e d hd⟩
      · have z' : (decide ((1 : Int) ≤ (x.length : Int)) && decide ((x.length : Int) ≤ 20)) = true := by simpa using z
        have e1 : nameB (.str x) = ((tl x).map fun c => decide (c ∈ abc.cps.toList)).all id := by
          show ((decide (1 ≤ x.length) && decide (x.length ≤ 20)) && (tl x).all fun c => decide (c ∈ abc.cps.toList)) = _
          have : (decide (1 ≤ x.length) && decide (x.length ≤ 20)) = true := by
            rw [← z']
            congr 1 <;> exact decide_eq_decide.mpr (by omega)
          rw [this, Bool.true_and, List.all_map]
          rfl
        have eL : EvL (tLc (iStr (tVar 0)) (gName 1) tYes (tOp (fun x y H Q => ∃ c z, x = V.str ⟨#[c]⟩ ∧ y = V.str z ∧ Q (V.bl (decide (c ∈ z.cps.toList))) H) (tVar 1) (tC (.str abc))) [1]) (L2.start ["name", "letter"] [.str x]) H1 (((tl x).map fun c => decide (c ∈ abc.cps.toList)).map V.bl) := by
          rw [List.map_map]
          exact el_lcS (v := fun c => V.bl (decide (c ∈ abc.cps.toList))) (ev_var rfl) (by omega) (fun _ => rfl) (fun i c H2 e2 hc => ev_op (ev_var rfl) ev_c fun H3 e3 Q q => ⟨c, _, rfl, rfl, q H3 (Ex.refl _)⟩)
        refine s_when (b := !nameB (.str x)) (et_is (et_not (et_B (ev_allL (bs := (tl x).map fun c => decide (c ∈ abc.cps.toList)) eL))) (by rw [e1])) (fun z2 H2 e2 => ?_) (fun z2 H2 e2 => qy (by simpa using z2) H2 (e.trans e2))
        exact ⟨_, rfl, rfl, fun d hd => bad (by simpa using z2) H2 (e.trans e2) d hd⟩
    · have e0 : nameB D = false := by
        cases D <;> first | rfl | exact absurd ⟨_, rfl⟩ hs
      refine q_when (b := true) (et_is (et_or (a := true) (b := true) (et_is (et_not (et_test (ev_isi (r := false) (ev_var rfl) k.ty (by
        cases D <;> first | exact absurd ⟨_, rfl⟩ hs | (simp only [tyN]; decide +kernel))))) rfl) fun z => nomatch z) rfl) (fun _ H1 e => ?_) (fun z => nomatch z)
      exact ⟨_, rfl, rfl, fun d hd => bad e0 H1 e d hd⟩
def spPlainE : Sp := fun vs H Q _ => ∃ v ds, vs = [v] ∧ Pt H v (.tuple ds) ∧ ds.length ≤ 40000 ∧ ∀ v' H', Ex H H' → Pt H' v' (.tuple ds) → Q v' H'
theorem scPlainE : FnScope ["entry", "item"] ["entry"] (defScope sPlainEnt) := ⟨rfl, rfl, rfl, by decide +kernel, rfl, by decide +kernel, by decide +kernel⟩
theorem ok_plainE {f : Addr} {fd : FuncData} (F : Fun K "plain_entry" "plain_entry" sPlainEnt f fd) (T : TxIx K mg CI fnn fne fpe ca) : FnOk P w K mg base CX0 1 f fd ["entry"] spPlainE := by
  refine F.ok scPlainE (fun vs H Q E h => ?_) (fun cdv A outer s H vs Q E hr h => ?_)
  · obtain ⟨_, _, rfl, _⟩ := h
    rfl
  · obtain ⟨v, ds, rfl, kv, hz, q⟩ := h
    refine ⟨_, pss_one (ps_ret (pe_callTy (T := "tuple") (r := rTupOf K) call_tuple_of (by rfl) T.tuple (by decide +kernel) (pa_cons (pe_lc (own := [("item", 1)]) (g := gName 1) (tt := tYes) rfl scPlainE.nd (pi_tup (pv 0)) (blkOk_by (own := [("item", 1)]) (N := ["entry", "item"]) (sc := defScope sPlainEnt) (by decide +kernel)) (fun _ _ _ _ _ => pg_name (i := 1) scPlainE.nd rfl (Or.inl rfl)) (fun _ _ _ _ _ => pts_nil)
      (fun _ _ _ _ _ => pe_ifExp (pt_val (pe_callB (r := rIsi K) call_isi (by rfl) T.isi (by decide +kernel) (pa_cons (pv 1) (pa_cons (pe_bltn (by rfl) T.tuple (by decide +kernel) (v := .ty "tuple") rfl) pa_nil)))) (pe_callTy (T := "tuple") (r := rTupOf K) call_tuple_of (by rfl) T.tuple (by decide +kernel) (pa_cons (pv 1) pa_nil)) (pv 1))) pa_nil))), ?_⟩
    obtain ⟨a, ws, rfl, ha, kws⟩ := kv.tupI'
    have hl := kws.length
    refine s_retP (D := .tuple ds) (ep_tupOf (K := K) (fun p ys H Q hs hq => ⟨p, ys, rfl, .inl ⟨hs, hq⟩⟩) (ep_L (xs := ws) ?_ kws)) fun v H1 e1 k1 => q v H1 e1 k1
    have := el_lcT (K := K) (σ := [some (.ref a), none]) (H := H) (tl := tVar 0) (j := 1) (vs := [1]) (t := tYes) (te := tIf (tTest (tCB (rIsi K) (tCons (tVar 1) (tCons (tC (.ty "tuple")) tNil)))) (tCB (rTupOf K) (tCons (tVar 1) tNil)) (tVar 1)) (fun _ => true) (fun i => ws.getD i .non) (ev_var rfl) (st_of ha) (by omega) (fun _ => rfl) (fun i x H4 e4 hx => fun H5 e5 Q5 q5 => q5 H5 (Ex.refl _)) (fun i x H4 e4 hx _ => by
      obtain ⟨dd, hd, kd⟩ := kws.get2 hx
      have : ws.getD i .non = x := by rw [List.getD_eq_getElem?_getD, hx]; rfl
      rw [this]
      refine ev_if (b := isT dd) (et_test (ev_isiT (ev_var rfl) (kd.ex e4))) (fun z => ?_) (fun _ => ev_var rfl)
      cases dd with
      | tuple es =>
        obtain ⟨ax, xs, rfl, hax, _⟩ := (kd.ex e4).tupI'
        exact ev_cb (ea_cons (ev_var rfl) ea_nil) fun H5 e5 Q5 q5 => ⟨ax, xs, rfl, .inr ⟨st_of (e5 _ _ hax), q5 H5 (Ex.refl H5)⟩⟩
      | _ => cases z)
    rw [given_one] at this
    exact this
end
end Ix

/-! An index: how a change is settled and kept. -/
namespace Ix
open PySem L2 Evl Dg Dt TL StX ClX LamR LamX
open Dr (StAt SameB)
/-- a dict comprehension over a walk -/
theorem dc_it {J : It} {n : Nat} {G : Hp → Prop} {Y : Nat → Hp → V → Hp → Prop} (w : Walk J n G Y) {g : TG} {tt : TT} {tk tv : TE} {vs : List Nat} {σ : St} {H1 : Hp} {D : Addr} {Qd : Hp → Prop} (Pv : Nat → Hp → Prop) (h0 : Pv 0 (upd H1 D (.dK []))) (hG : ∀ i H, i ≤ n → Pv i H → G H)
    (hs : ∀ i x H H', i < n → Pv i H → Y i H x H' → g x (wipe σ vs) H' fun σ2 H2 => wipe σ2 vs = wipe σ vs ∧ tt σ2 H2 fun b H3 =>
      if b = true then tk σ2 H3 fun y H4 => tv σ2 H4 fun z H5 => ∃ kvs k, y = kV k ∧ H5 D = some (.dK kvs) ∧ kvs.length < sizeLine ∧ Pv (i + 1) (upd H5 D (.dK (putK kvs k z))) else Pv (i + 1) H3) (hd : ∀ H, Pv n H → Qd H) :
    ∃ W : Nat → Nat → Hp → Prop, (∃ m, W 0 m (upd H1 D (.dK []))) ∧ ∀ i m H, W i m H →
      (J.stop i H ∧ Qd H) ∨ (J.go i H ∧ ∃ Nx : Hp → Prop, (∀ H', Nx H' → ∃ m', m' < m ∧ W (i + 1) m' H') ∧ ∀ x H', J.yld i H x H' → g x (wipe σ vs) H' fun σ2 H2 => wipe σ2 vs = wipe σ vs ∧ tt σ2 H2 fun b H3 =>
        if b = true then tk σ2 H3 fun y H4 => tv σ2 H4 fun z H5 => ∃ kvs k, y = kV k ∧ H5 D = some (.dK kvs) ∧ kvs.length < sizeLine ∧ Nx (upd H5 D (.dK (putK kvs k z))) else Nx H3) := by
  refine ⟨fun i m H => m = n - i ∧ i ≤ n ∧ Pv i H, ⟨n, by simp, Nat.zero_le _, h0⟩, ?_⟩
  rintro i m H ⟨rfl, hi, p⟩
  have q := hG i H hi p
  by_cases hlt : i < n
  · refine .inr ⟨w.goes i H hlt q, Pv (i + 1), fun H' p' => ⟨n - (i + 1), by omega, rfl, hlt, p'⟩, fun x H' y => hs i x H H' hlt p (w.yields i H x H' hlt q y)⟩
  · have e : i = n := by omega
    subst e
    exact .inl ⟨w.stops H q, hd H p⟩
theorem putK_new {kvs : List (Key × V)} {k : Key} {v : V} (h : ∀ p ∈ kvs, p.1 ≠ k) : putK kvs k v = kvs ++ [(k, v)] := by
  unfold putK
  rw [if_neg]
  intro z
  obtain ⟨p, hp, e⟩ := List.any_eq_true.mp z
  exact h p hp (of_decide_eq_true e)
theorem valV_at {kvs : List (Key × V)} {i : Nat} {k : Key} {v : V} (nd : (kvs.map (·.1)).Nodup) (h : kvs[i]? = some (k, v)) : valV kvs k = some v := by
  induction kvs generalizing i with
  | nil => simp at h
  | cons p r ih =>
    rw [List.map_cons, List.nodup_cons] at nd
    cases i with
    | zero =>
      have : p = (k, v) := by simpa using h
      rw [this]
      exact valV_pos rfl
    | succ i =>
      have h' : r[i]? = some (k, v) := by simpa using h
      have hm : k ∈ r.map (·.1) := List.mem_map.mpr ⟨(k, v), List.mem_of_getElem? h', rfl⟩
      rw [valV_neg (fun z => nd.1 (z ▸ hm))]
      exact ih nd.2 h'
theorem length_setD (es : List (Key × V)) (kv : Key × V) : (setD es kv).length ≤ es.length + 1 := by
  unfold setD
  split
  · unfold dropK
    exact Nat.le_succ_of_le (List.length_filter_le _ _)
  · exact length_putK _ _ _
theorem length_settle : ∀ (en es : List (Key × V)), (settleD es en).length ≤ es.length + en.length
  | [], es => Nat.le_refl _
  | kv :: en, es => by
    have h1 := length_settle en (setD es kv)
    have h2 := length_setD es kv
    show (settleD (setD es kv) en).length ≤ _
    rw [List.length_cons]
    omega
theorem settle_take {es en : List (Key × V)} {i : Nat} {kv : Key × V} (h : en[i]? = some kv) : settleD es (en.take (i + 1)) = setD (settleD es (en.take i)) kv := by
  unfold settleD
  rw [List.take_add_one, h, List.foldl_append]
  rfl
theorem drop_none {es : List (Key × V)} {k : Key} (h : valV es k = none) : dropK es k = es := by
  unfold dropK
  refine List.filter_eq_self.mpr fun p hp => decide_eq_true fun z => ?_
  have : (es.any fun kv => decide (kv.1 = k)) = true := List.any_eq_true.mpr ⟨p, hp, decide_eq_true z⟩
  rw [valV_any, h] at this
  cases this
theorem g_nm {i : Nat} {v : V} {σ σ' : St} {H : Hp} {Q : St → Hp → Prop} (h : σ.set i (some v) = σ') (k : Q σ' H) : gName i v σ H Q := by
  subst h
  exact k
/-- what the past keeps of the entries -/
def oldD (es en : List (Key × V)) : List (Key × V) := en.map fun kv => (kv.1, (valV es kv.1).getD .non)
section
variable {P : Program} {w : World} {K : PySem.W.Frag} {mg : Str → Option Value} {base : Heap} {ca : Nat → Addr} {CI fnn fne fpe fse fch : Addr}
def spSettle (CI : Addr) : Sp := fun vs H Q _ => ∃ (x ea pa st st' en : Addr) (mn : Str) (es kvs : List (Key × V)) (ps : List V), vs = [.ref x, .ref st', .ref en] ∧ IxAt CI H x ea pa st mn es ps ∧ H en = some (.dK kvs) ∧ en ≠ ea ∧ (kvs.map (·.1)).Nodup ∧ es.length + kvs.length ≤ 1000 ∧
  ∀ H', (∀ b o, H b = some o → b ≠ x → b ≠ ea → H' b = some o) → IxAt CI H' x ea pa st' mn (settleD es kvs) ps → Q .non H'
theorem scSettle : FnScope ["self", "style", "entries", "name"] ["self", "style", "entries"] (defScope sSettle) := ⟨rfl, rfl, rfl, by decide +kernel, rfl, by decide +kernel, by decide +kernel⟩
theorem ok_settle {f : Addr} {fd : FuncData} (F : Fun K "settle" "Index.settle" sSettle f fd) (T : TxIx K mg CI fnn fne fpe ca) : FnOk P w K mg base CX0 1 f fd ["self", "style", "entries"] (spSettle CI) := by
  refine F.ok scSettle (fun vs H Q E h => ?_) (fun cdv A outer s H vs Q E hr h => ?_)
  · obtain ⟨_, _, _, _, _, _, _, _, _, _, rfl, _⟩ := h
    rfl
  · obtain ⟨x, ea, pa, st, st', en, mn, es, kvs, ps, rfl, I, hen, nea, nd, hz, q⟩ := h
    have hu1 : (A.deeper (PyProof.Rows.envOfC "Index.settle" (defScope sSettle) s.heap.objs.size f cdv)).units + 1 < cLine := by have := hr.units; omega
    refine ⟨_, pss_cons (ps_fld (pv 0) (pv 1) rfl) (pss_one (ps_lock (ps_for PassesOwn.never rfl (pi_keys (pv 2)) (pg_name (i := 3) scSettle.nd rfl (.inl rfl))
      (pss_one (ps_if (pt_cmpR op_notN (pe_dget (show _ + 1 < cLine from hu1) (pv 2) (pv 3) (fun _ _ => rfl)) pe_non (nomark _))
        (pss_one (ps_dput (show _ + 1 < cLine from hu1) (pe_fld (pv 0) rfl) (pv 3) (pe_dget (show _ + 1 < cLine from hu1) (pv 2) (pv 3) (fun _ _ => rfl)) rfl))
        (pss_one (ps_if (pt_cmp (pc_din (show _ + 1 < cLine from hu1) (pv 3) (pe_fld (pv 0) rfl))) (pss_one (ps_ddel (pe_fld (pv 0) rfl) (pv 3))) pss_nil))))))), ?_⟩
    obtain ⟨⟨dx, hx⟩, he, hp⟩ := I
    have nxe : en ≠ x := ne_of hen hx (by intro z; cases z)
    refine ⟨_, rfl, _, rfl, x, CI, dx, _, rfl, hx, T.clI, T.nS, (show 4 < 1000 by decide), ?_⟩
    have e2 : putF "stored_style" (V.ref st') (ixF st mn ea pa) = ixF st' mn ea pa := rfl
    rw [e2]
    have eax : ea ≠ x := ne_of he hx (by intro z; cases z)
    have pax : pa ≠ x := ne_of hp hx (by intro z; cases z)
    have pea : pa ≠ ea := ne_of hp he (by intro z; cases z)
    have pen : pa ≠ en := ne_of hp hen (by intro z; cases z)
    refine ⟨en, .dK kvs, by rw [upd_ne nxe]; exact hen, True.intro, fun od => ?_⟩
    refine ⟨_, rfl, en, od, rfl, .inl ⟨kvs, upd_same, ?_⟩⟩
    refine for_it walk_keys (fun (i : Nat) (σ' : St) (H' : Hp) => (∃ x3, σ' = [some (.ref x), some (.ref st'), some (.ref en), x3]) ∧ H' en = some (.frz od (.dK kvs)) ∧ IxAt CI H' x ea pa st' mn (settleD es (kvs.take i)) ps ∧ (∀ b o, H b = some o → b ≠ x → b ≠ ea → b ≠ en → H' b = some o))
      ⟨⟨_, rfl⟩, upd_same, ⟨⟨dx, by rw [upd_ne nxe.symm, upd_same]⟩, by rw [upd_ne nea.symm, upd_ne eax]; exact he, by rw [upd_ne pen, upd_ne pax]; exact hp⟩, fun b o hb n1 n2 n3 => by rw [upd_ne n3, upd_ne n1]; exact hb⟩
      (fun i σ' H' _ hI => hI.2.1) (fun i y σ' H' H2 hi hI hy => ?_) (fun σ' H' hI => ?_)
    · obtain ⟨⟨x3, rfl⟩, hfr, I', kp⟩ := hI
      obtain ⟨eH, k, v, hk, rfl⟩ := hy
      have eH2 := eH.symm
      subst eH2
      obtain ⟨⟨dx', hx'⟩, he', hp'⟩ := I'
      have hval := valV_at nd hk
      refine g_nm (σ' := [some (.ref x), some (.ref st'), some (.ref en), some (kV k)]) rfl ?_
      have hg : ∀ {H3 : Hp}, Ex H' H3 → DGet H3 en (kV k) (some v) := fun e3 => .inl ⟨kvs, k, .inr ⟨od, e3 _ _ hfr⟩, rfl, hval.symm⟩
      have eT : EvT (tTest (tOp (fun x y H Q => y = V.non ∧ Q (V.bl !decide (x = V.non)) H) (tDGet (tVar 2) (tVar 3)) (tC .non))) [some (.ref x), some (.ref st'), some (.ref en), some (kV k)] H' (!decide (v = .non)) :=
        et_test (ev_op (x := v) (fun H3 e3 Q3 q3 => ⟨_, rfl, _, rfl, en, v, rfl, hg e3, q3 H3 (Ex.refl H3)⟩) ev_c fun H3 e3 Q3 q3 => ⟨rfl, q3 H3 (Ex.refl H3)⟩)
      have step := settle_take (es := es) hk
      have lz := length_settle (kvs.take i) es
      have lt : (kvs.take i).length ≤ kvs.length := by rw [List.length_take]; omega
      refine s_if eT (fun hb H3 e3 => ?_) (fun hb H3 e3 => ?_)
      · have hv : ¬ v = .non := by
          intro z
          rw [z] at hb
          simp at hb
        refine ⟨_, rfl, _, rfl, en, v, rfl, hg e3, _, rfl, x, CI, dx', _, _, rfl, e3 _ _ hx', T.clI, T.nE, lk_en, _, rfl, ea, _, rfl, DPut.k (e3 _ _ he') (by rw [sizeLine_eq]; omega), ?_⟩
        refine ⟨⟨_, rfl⟩, by rw [upd_ne nea]; exact e3 _ _ hfr, ⟨⟨dx', by rw [upd_ne eax.symm]; exact e3 _ _ hx'⟩, ?_, by rw [upd_ne pea]; exact e3 _ _ hp'⟩, fun b o hb n1 n2 n3 => by rw [upd_ne n2]; exact e3 _ _ (kp b o hb n1 n2 n3)⟩
        rw [upd_same, step]
        unfold setD
        rw [if_neg hv]
      · have hv : v = .non := by
          by_cases z : v = .non
          · exact z
          · rw [decide_eq_false z] at hb
            cases hb
        refine s_when (b := (valV (settleD es (kvs.take i)) k).isSome) (et_B fun H4 e4 Q4 q4 => ⟨_, rfl, _, rfl, x, CI, dx', _, _, rfl, e4 _ _ (e3 _ _ hx'), T.clI, T.nE, lk_en, ea, _, rfl, DGet.k (e4 _ _ (e3 _ _ he')), q4 H4 (Ex.refl H4)⟩) (fun hs H4 e4 => ?_) (fun hs H4 e4 => ?_)
        · have e34 := e3.trans e4
          refine ⟨_, rfl, x, CI, dx', _, _, rfl, e34 _ _ hx', T.clI, T.nE, lk_en, _, rfl, ea, _, k, rfl, e34 _ _ he', rfl, hs, ?_⟩
          refine ⟨⟨_, rfl⟩, by rw [upd_ne nea]; exact e34 _ _ hfr, ⟨⟨dx', by rw [upd_ne eax.symm]; exact e34 _ _ hx'⟩, ?_, by rw [upd_ne pea]; exact e34 _ _ hp'⟩, fun b o hb n1 n2 n3 => by rw [upd_ne n2]; exact e34 _ _ (kp b o hb n1 n2 n3)⟩
          rw [upd_same, step]
          unfold setD
          rw [if_pos hv]
        · have e34 := e3.trans e4
          refine ⟨⟨_, rfl⟩, e34 _ _ hfr, ⟨⟨dx', e34 _ _ hx'⟩, ?_, e34 _ _ hp'⟩, fun b o hb n1 n2 n3 => e34 _ _ (kp b o hb n1 n2 n3)⟩
          have hn : valV (settleD es (kvs.take i)) k = none := by
            cases hq : valV (settleD es (kvs.take i)) k with
            | none => rfl
            | some _ => rw [hq] at hs; cases hs
          rw [step]
          unfold setD
          rw [if_pos hv, drop_none hn]
          exact e34 _ _ he'
    · obtain ⟨⟨x3, rfl⟩, hfr, I', kp⟩ := hI
      rw [List.take_length] at I'
      obtain ⟨⟨dx', hx'⟩, he', hp'⟩ := I'
      refine ⟨hfr, q _ (fun b o hb n1 n2 => ?_) ⟨⟨dx', by rw [upd_ne nxe.symm]; exact hx'⟩, by rw [upd_ne nea.symm]; exact he', by rw [upd_ne pen]; exact hp'⟩⟩
      by_cases hbe : b = en
      · rw [hbe, upd_same]
        rw [hbe, hen] at hb
        exact hb
      · rw [upd_ne hbe]
        exact kp b o hb n1 n2 hbe
end
end Ix

/-! An index: change, put an entry in; made. -/
namespace Ix
open PySem L2 Evl Dg Dt TL StX ClX LamR LamX
open Dr (StAt SameB)
section
variable {P : Program} {w : World} {K : PySem.W.Frag} {mg : Str → Option Value} {base : Heap} {ca : Nat → Addr} {CI fnn fne fpe fse fch fnm : Addr}
def spChange (CI : Addr) : Sp := fun vs H Q _ => ∃ (x ea pa st st' en : Addr) (mn : Str) (es kvs : List (Key × V)) (ps : List V), vs = [.ref x, .ref st', .ref en] ∧ IxAt CI H x ea pa st mn es ps ∧ H en = some (.dK kvs) ∧ en ≠ ea ∧ (kvs.map (·.1)).Nodup ∧ es.length + kvs.length ≤ 1000 ∧ ps.length ≤ 10000 ∧
  ∀ (t d : Addr) (H' : Hp), Bi x ea pa H H' → H t = none → H d = none → H' t = some (.tup [.ref st, .ref d]) → H' d = some (.dK (oldD es kvs)) → IxAt CI H' x ea pa st' mn (settleD es kvs) (ps ++ [.ref t]) → Q .non H'
theorem scChange : FnScope ["self", "style", "entries", "name"] ["self", "style", "entries"] (defScope sChange) := ⟨rfl, rfl, rfl, by decide +kernel, rfl, by decide +kernel, by decide +kernel⟩
theorem ok_change {f : Addr} {fd fd1 : FuncData} (F : Fun K "change" "Index.change" sChange f fd) (mS : Meth K CI "settle" fse) (GS : FnOk P w K mg base CX0 1 fse fd1 ["self", "style", "entries"] (spSettle CI)) (bS : Binds K fd1 ["self", "style", "entries"] []) (T : TxIx K mg CI fnn fne fpe ca) : FnOk P w K mg base CX0 2 f fd ["self", "style", "entries"] (spChange CI) := by
  refine F.ok scChange (fun vs H Q E h => ?_) (fun cdv A outer s H vs Q E hr h => ?_)
  · obtain ⟨_, _, _, _, _, _, _, _, _, _, rfl, _⟩ := h
    rfl
  · obtain ⟨x, ea, pa, st, st', en, mn, es, kvs, ps, rfl, I, hen, nea, nd, hz, hpz, q⟩ := h
    have hu1 : (A.deeper (PyProof.Rows.envOfC "Index.change" (defScope sChange) s.heap.objs.size f cdv)).units + 1 < cLine := by have := hr.units; omega
    refine ⟨_, pss_cons (ps_lock (ps_expr (pe_bm PySem.F.plainAttrs_list PySem.F.slot_list_append PySem.F.type_list_append mt_append (pe_fld (pv 0) rfl) (pa_cons (pe_tup (pa_cons (pe_fld (pv 0) rfl) (pa_cons
        (pe_dc (own := [("name", 3)]) (g := gName 3) (tt := tYes) (tk := tVar 3) (tv := tDGet1 (tFld K (tVar 0) "stored_entries") (tVar 3)) rfl scChange.nd (pi_keys (pv 2)) (blkOk_by (own := [("name", 3)]) (N := ["self", "style", "entries", "name"]) (sc := defScope sChange) (by decide +kernel)) (fun _ _ _ _ _ => pg_name (i := 3) scChange.nd rfl (Or.inl rfl)) (fun _ _ _ _ _ => pts_nil)
          (fun _ _ _ _ _ => pv 3) (fun _ _ _ _ _ => pe_dget1 (show _ + 1 < cLine from hu1) (pe_fld (pv 0) rfl) (pv 3) ⟨rfl, rfl, rfl, rfl⟩)) pa_nil))) pa_nil))))
      (pss_one (ps_expr (pe_meth (pv 0) T.clI mS GS hr bS .nil pass0 (pa_cons (pv 1) (pa_cons (pv 2) pa_nil))))), ?_⟩
    obtain ⟨⟨dx, hx⟩, he, hp⟩ := I
    have nxe : en ≠ x := ne_of hen hx (by intro z; cases z)
    have eax : ea ≠ x := ne_of he hx (by intro z; cases z)
    have pax : pa ≠ x := ne_of hp hx (by intro z; cases z)
    have pea : pa ≠ ea := ne_of hp he (by intro z; cases z)
    have pen : pa ≠ en := ne_of hp hen (by intro z; cases z)
    refine ⟨en, .dK kvs, hen, True.intro, fun od => ?_⟩
    have hx1 : (upd H en (.frz od (.dK kvs))) x = some (.ins CI dx (ixF st mn ea pa)) := by rw [upd_ne nxe.symm]; exact hx
    have he1 : (upd H en (.frz od (.dK kvs))) ea = some (.dK es) := by rw [upd_ne nea.symm]; exact he
    have hp1 : (upd H en (.frz od (.dK kvs))) pa = some (.lst ps) := by rw [upd_ne pen]; exact hp
    have hf1 : (upd H en (.frz od (.dK kvs))) en = some (.frz od (.dK kvs)) := upd_same
    have k1 : ∀ b o, H b = some o → b ≠ en → (upd H en (.frz od (.dK kvs))) b = some o := fun b o hb n => by rw [upd_ne n]; exact hb
    have n1 : ∀ b, (upd H en (.frz od (.dK kvs))) b = none → H b = none := fun b hb => by
      by_cases z : b = en
      · rw [z, upd_same] at hb
        cases hb
      · rwa [upd_ne z] at hb
    generalize upd H en (.frz od (.dK kvs)) = H1 at hx1 he1 hp1 hf1 k1 n1
    refine ⟨_, rfl, x, CI, dx, _, _, rfl, hx1, T.clI, T.nP, lk_pa, .inl ⟨rfl, ps, sq_of hp1⟩, _, rfl, x, CI, dx, _, _, rfl, hx1, T.clI, T.nS, lk_st, _, rfl, en, od, rfl, .inl ⟨kvs, hf1, fun D nD => ?_⟩⟩
    refine dc_it (walk_keys (o := od) (d := en) (kvs := kvs)) (fun (i : Nat) (H' : Hp) => H' D = some (.dK (oldD es (kvs.take i))) ∧ Ex H1 H') ⟨by rw [upd_same]; rfl, Ex.new nD⟩ (fun i H' _ hI => hI.2 _ _ hf1) (fun i y H' H2 hi hI hy => ?_) (fun H' hI => ?_)
    · obtain ⟨hD, e2⟩ := hI
      obtain ⟨eH, k, v, hk, rfl⟩ := hy
      have eH2 := eH.symm
      subst eH2
      refine ⟨rfl, ?_⟩
      rw [show (tYes : TT) = fun _ H Q => Q true H from rfl]
      dsimp only
      rw [if_pos rfl]
      refine ⟨_, rfl, _, rfl, x, CI, dx, _, _, rfl, e2 _ _ hx1, T.clI, T.nE, lk_en, ea, rfl, .inl ⟨es, .inl (e2 _ _ he1)⟩, _, rfl, valV es k, DGet.k (e2 _ _ he1), _, k, rfl, hD, ?_, ?_, fun b o hb => ?_⟩
      · have : (kvs.take i).length ≤ kvs.length := by rw [List.length_take]; omega
        unfold oldD
        rw [List.length_map, sizeLine_eq]
        omega
      · rw [upd_same, putK_new]
        · unfold oldD
          rw [List.take_add_one, hk, List.map_append]
          rfl
        · intro p hp'
          unfold oldD at hp'
          obtain ⟨kv, hkv, rfl⟩ := List.mem_map.mp hp'
          obtain ⟨j, hj⟩ := List.getElem?_of_mem hkv
          have hji : j < i := by
            have := (List.getElem?_eq_some_iff.mp hj).1
            rw [List.length_take] at this
            omega
          rw [List.getElem?_take_of_lt hji] at hj
          intro z
          have a1 : (kvs.map (·.1))[j]? = some k := by rw [List.getElem?_map, hj]; exact congrArg some z
          have a2 : (kvs.map (·.1))[i]? = some k := by rw [List.getElem?_map, hk]; rfl
          have := (List.getElem?_inj (List.getElem?_eq_some_iff.mp a1).1 nd).mp (a1.trans a2.symm)
          omega
      · rw [upd_ne (ne_of_none hb nD)]
        exact e2 _ _ hb
    · obtain ⟨hD, e2⟩ := hI
      rw [List.take_length] at hD
      refine ⟨by show 2 ≤ sizeLine; decide, fun t nt => ?_⟩
      have eT := Ex.new (o := .tup [V.ref st, V.ref D]) nt
      have hT : (upd H' t (.tup [V.ref st, V.ref D])) t = some (.tup [V.ref st, V.ref D]) := upd_same
      have e3 := e2.trans eT
      have hD3 := eT _ _ hD
      have nt1 := fresh_back e2 nt
      generalize upd H' t (.tup [V.ref st, V.ref D]) = H3 at eT hT e3 hD3
      refine ⟨pa, ps, .ref t, rfl, rfl, e3 _ _ hp1, by rw [sizeLine_eq]; omega, ?_⟩
      refine ⟨by rw [upd_ne pen.symm]; exact e3 _ _ hf1, ?_⟩
      -- unlocked
      have hx4 : (upd (upd H3 pa (.lst (ps ++ [.ref t]))) en (.dK kvs)) x = some (.ins CI dx (ixF st mn ea pa)) := by rw [upd_ne nxe.symm, upd_ne pax.symm]; exact e3 _ _ hx1
      have he4 : (upd (upd H3 pa (.lst (ps ++ [.ref t]))) en (.dK kvs)) ea = some (.dK es) := by rw [upd_ne nea.symm, upd_ne pea.symm]; exact e3 _ _ he1
      have hp4 : (upd (upd H3 pa (.lst (ps ++ [.ref t]))) en (.dK kvs)) pa = some (.lst (ps ++ [.ref t])) := by rw [upd_ne pen, upd_same]
      have hn4 : (upd (upd H3 pa (.lst (ps ++ [.ref t]))) en (.dK kvs)) en = some (.dK kvs) := upd_same
      have k4 : ∀ b o, H b = some o → b ≠ pa → (upd (upd H3 pa (.lst (ps ++ [.ref t]))) en (.dK kvs)) b = some o := fun b o hb n => by
        by_cases z : b = en
        · rw [z, upd_same]
          rw [z, hen] at hb
          exact hb
        · rw [upd_ne z, upd_ne n]
          exact e3 _ _ (k1 b o hb z)
      have tne : t ≠ en := fun z => by rw [z, hf1] at nt1; cases nt1
      have tnp : t ≠ pa := fun z => by rw [z, hp1] at nt1; cases nt1
      have dne : D ≠ en := fun z => by rw [z, hf1] at nD; cases nD
      have dnp : D ≠ pa := fun z => by rw [z, hp1] at nD; cases nD
      have ht4 : (upd (upd H3 pa (.lst (ps ++ [.ref t]))) en (.dK kvs)) t = some (.tup [.ref st, .ref D]) := by rw [upd_ne tne, upd_ne tnp]; exact hT
      have hd4 : (upd (upd H3 pa (.lst (ps ++ [.ref t]))) en (.dK kvs)) D = some (.dK (oldD es kvs)) := by rw [upd_ne dne, upd_ne dnp]; exact hD3
      generalize upd (upd H3 pa (.lst (ps ++ [.ref t]))) en (.dK kvs) = H4 at hx4 he4 hp4 hn4 k4 ht4 hd4
      refine ⟨_, rfl, x, dx, _, rfl, hx4, rfl, _, rfl, _, rfl, x, ea, pa, st, st', en, mn, es, kvs, ps ++ [.ref t], rfl, ⟨⟨dx, hx4⟩, he4, hp4⟩, hn4, nea, nd, hz, fun H5 k5 I5 => ?_⟩
      have tnx : t ≠ x := fun z => by rw [z, hx1] at nt1; cases nt1
      have tna : t ≠ ea := fun z => by rw [z, he1] at nt1; cases nt1
      have dnx : D ≠ x := fun z => by rw [z, hx1] at nD; cases nD
      have dna : D ≠ ea := fun z => by rw [z, he1] at nD; cases nD
      exact q t D H5 (fun b o hb a1 a2 a3 => k5 b o (k4 b o hb a3) a1 a2) (n1 t nt1) (n1 D nD) (k5 _ _ ht4 tnx tna) (k5 _ _ hd4 dnx dna) I5
def spSetItem (CI : Addr) (ca : Nat → Addr) : Sp := fun vs H Q E => ∃ (x ea pa st : Addr) (mn : Str) (es : List (Key × V)) (ps : List V) (vn ve : V) (N D : PyData), vs = [.ref x, vn, ve] ∧ IxAt CI H x ea pa st mn es ps ∧ es.length ≤ 900 ∧ ps.length ≤ 10000 ∧ Pt H vn N ∧ Pt H ve D ∧
  (nameB N = false → Leaves (ca 9) "value" vn H E) ∧ (nameB N = true → DueC (ca 8) H E (dueE D) (∀ (x0 : Str) (ds : List PyData) (v' : V) (t d : Addr) (H' : Hp), N = .str x0 → D = .tuple ds → Bi x ea pa H H' → H t = none → H d = none → H' t = some (.tup [.ref st, .ref d]) → H' d = some (.dK [(Sum.inr x0, (valV es (Sum.inr x0)).getD .non)]) → Pt H' v' (.tuple ds) → IxAt CI H' x ea pa st mn (putK es (Sum.inr x0) v') (ps ++ [.ref t]) → Q .non H'))
theorem scSetItem : FnScope ["self", "name", "entry"] ["self", "name", "entry"] (defScope sSetItem) := ⟨rfl, rfl, rfl, by decide +kernel, rfl, by decide +kernel, by decide +kernel⟩
theorem ent_noL : ∀ {ds : List PyData} {a : Int} {k : Nat}, entGo a k ds = none → noLs ds = true
  | [], _, _, _ => rfl
  | d :: ds, a, k, h => by
    have e : entGo a k (d :: ds) = if (itemB d && decide (a < intD (spanA d))) = true then entGo (intD (spanZ d)) (k + 1) ds else some (.int (k : Int)) := rfl
    rw [e] at h
    cases hb : (itemB d && decide (a < intD (spanA d))) with
    | false => rw [hb] at h; cases h
    | true =>
      rw [hb, if_pos rfl] at h
      obtain ⟨f, l, S⟩ := item_span (Bool.and_eq_true_iff.mp hb).1
      have h1 : noL d = true := by
        cases ht : isT d with
        | true =>
          rw [S.t ht]
          rfl
        | false =>
          have := S.a
          unfold spanA at this
          rw [ht, if_neg (by decide)] at this
          rw [this]
          rfl
      rw [noLs, h1, ent_noL h]
      rfl
theorem dueE_none {D : PyData} (h : dueE D = none) : ∃ ds, D = .tuple ds ∧ 1 ≤ ds.length ∧ ds.length ≤ 50 ∧ entGo 0 0 ds = none := by
  unfold dueE at h
  cases hc : (isT D && (decide (1 ≤ (tupD D).length) && decide ((tupD D).length ≤ 50))) with
  | false => rw [hc] at h; cases h
  | true =>
    rw [hc, if_pos rfl] at h
    obtain ⟨h1, h2⟩ := Bool.and_eq_true_iff.mp hc
    obtain ⟨h3, h4⟩ := Bool.and_eq_true_iff.mp h2
    cases D with
    | tuple ds => exact ⟨ds, rfl, of_decide_eq_true h3, of_decide_eq_true h4, h⟩
    | _ => cases h1
theorem name_str {N : PyData} (h : nameB N = true) : ∃ x, N = .str x := by
  cases N with
  | str x => exact ⟨x, rfl⟩
  | _ => cases h
theorem ok_setItem {f : Addr} {fd fd1 fd2 fd3 fd4 : FuncData} (F : Fun K "__setitem__" "Index.__setitem__" sSetItem f fd) (GN : FnOk P w K mg base (L2.CX P w) 4 fnn fd1 ["name"] (spNeedName ca)) (bN : Binds K fd1 ["name"] []) (GE : FnOk P w K mg base (L2.CX P w) 4 fne fd2 ["value"] (spNeedEnt ca)) (bE : Binds K fd2 ["value"] [])
    (GP : FnOk P w K mg base CX0 4 fpe fd3 ["entry"] spPlainE) (bP : Binds K fd3 ["entry"] []) (mC : Meth K CI "change" fch) (GC : FnOk P w K mg base CX0 4 fch fd4 ["self", "style", "entries"] (spChange CI)) (bC : Binds K fd4 ["self", "style", "entries"] []) (T : TxIx K mg CI fnn fne fpe ca) : FnOk P w K mg base (L2.CX P w) 5 f fd ["self", "name", "entry"] (spSetItem CI ca) := by
  refine F.okX scSetItem (fun vs H Q E h => ?_) (fun cdv A outer s H vs Q E hr h => ?_)
  · obtain ⟨_, _, _, _, _, _, _, _, _, _, _, rfl, _⟩ := h
    rfl
  · obtain ⟨x, ea, pa, st, mn, es, ps, vn, ve, N, D, rfl, I, hz, hpz, kn, ke, l1, hq⟩ := h
    refine ⟨_, pss_cons (ps_expr (pe_callS GN hr (by rfl) T.needN T.kNN bN (fun σ => passAt (takes_of rfl rfl rfl rfl) σ) (pa_cons (pv 1) pa_nil)))
      (pss_cons (ps_expr (pe_callS GE hr (by rfl) T.needE T.kNE bE (fun σ => passAt (takes_of rfl rfl rfl rfl) σ) (pa_cons (pv 2) pa_nil)))
      (pss_one (ps_expr (pe_meth (pv 0) T.clI mC GC hr bC .nil pass0 (pa_cons (pe_fld (pv 0) rfl) (pa_cons (pe_disp (pps_cons (pv 1) (pe_call GP hr (by rfl) T.plain T.kPE bP .nil pass0 (pa_cons (pv 2) pa_nil)) pps_nil) (by rfl) (by rfl) (fun z => by cases z) (by decide)) pa_nil)))))), ?_⟩
    refine ⟨_, rfl, vn, N, rfl, kn, fun hn H1 e1 => ?_, fun hn => l1 hn⟩
    have due := hq hn
    obtain ⟨x0, rfl⟩ := name_str hn
    cases kn
    refine ⟨_, rfl, ve, D, rfl, ke.ex e1, ⟨fun pl hp => (due.bad pl hp).go e1, fun hd H2 e2 => ?_⟩⟩
    obtain ⟨ds, rfl, d1, d50, hgo⟩ := dueE_none hd
    have e12 := e1.trans e2
    have I2 := I.ex e12
    obtain ⟨⟨dx, hx⟩, he, hp⟩ := I2
    refine ⟨_, rfl, x, dx, _, rfl, hx, rfl, _, rfl, x, CI, dx, _, _, rfl, hx, T.clI, T.nS, lk_st, fun en nen => ?_⟩
    have eN := Ex.new (o := .dK []) nen
    have hn3 : (upd H2 en (.dK [])) en = some (.dK []) := upd_same
    refine ⟨_, rfl, _, rfl, ve, ds, rfl, ke.ex (e12.trans eN), by omega, fun v' H3 e3 kv' => ⟨e3 _ _ hn3, [(Sum.inr x0, v')], rfl, (show 1 ≤ 15 by decide), ?_⟩⟩
    have e4 : Ex H2 (upd H3 en (.dK (mergeK [] [(Sum.inr x0, v')]))) := (eN.trans e3).mut nen
    have hm : mergeK [] [((Sum.inr x0 : Key), v')] = [(Sum.inr x0, v')] := rfl
    rw [hm] at e4 ⊢
    have nea : en ≠ ea := fun z => by rw [z, he] at nen; cases nen
    have nL := ent_noL hgo
    have vt : Pt (upd H3 en (.dK [(Sum.inr x0, v')])) v' (.tuple ds) := kv'.tk (fun a xs ha => by rw [upd_ne (ne_of ha (e3 _ _ hn3) (by intro z; cases z))]; exact ha) (by rw [noL]; exact nL)
    have vr : ¬ v' = .non := by
      obtain ⟨a, us, rfl, _, _⟩ := vt.tupI'
      exact fun z => nomatch z
    refine ⟨x, ea, pa, st, st, en, mn, es, [(Sum.inr x0, v')], ps, rfl, ⟨⟨dx, e4 _ _ hx⟩, e4 _ _ he, e4 _ _ hp⟩, upd_same, nea, by simp, by simp; omega, hpz, fun t d H5 b5 nt nd ht hd5 I5 => ?_⟩
    have eA := e12.trans e4
    have hs : settleD es [((Sum.inr x0 : Key), v')] = putK es (Sum.inr x0) v' := by
      show setD es _ = _
      unfold setD
      rw [if_neg vr]
    rw [hs] at I5
    obtain ⟨⟨dx5, hx5⟩, he5, hp5⟩ := I5
    have tk5 : TupK (upd H3 en (.dK [(Sum.inr x0, v')])) H5 := fun a xs ha => b5 a _ ha (ne_of ha (e4 _ _ hx) (by intro z; cases z)) (ne_of ha (e4 _ _ he) (by intro z; cases z)) (ne_of ha (e4 _ _ hp) (by intro z; cases z))
    exact due.ok hd x0 ds v' t d H5 rfl rfl ((Bi.of eA).trans b5) (fresh_back eA nt) (fresh_back eA nd) ht hd5 (vt.tk tk5 (by rw [noL]; exact nL)) ⟨⟨dx5, hx5⟩, he5, hp5⟩
end
end Ix

/-! x[i] = v of an own class. -/
namespace L2
open PySem PySem.Spec PyProof.Rows SlX
section
variable {X : Cx} {CX : CXT} {k : Nat} {C g : Addr} {sp : Sp} {E : XK}
def rSetOwn (C : Addr) (sp : Sp) (E : XK) : TSet := fun o i v H Q => ∃ a dx fs, o = .ref a ∧ H a = some (.ins C dx fs) ∧ sp [o, i, v] H (fun _ H' => Q H') E
theorem set_own (hq : PySem.W.noSeq X.K C = true) (hs : PySem.W.findIn X.K (.ref C) "__setitem__" = some (some (.ref g))) (hf : PySem.W.isFn X.K (.ref g) = true) (F : FnR X.prog X.w X.K X.mg X.base CX k g sp) (hr : Room k X.A) (hx : Passes CX X E) : PSet X (rSetOwn C sp E) := by
  intro pins s σ H o i v ov iv u Q I ro ri rv h
  obtain ⟨a, dx, fs, rfl, ha, q⟩ := h
  cases (show ov = Value.ref a from ro)
  obtain ⟨mA, O, _⟩ := ins_get I.hok ha
  obtain ⟨od, J, _⟩ := O.look
  obtain ⟨m, hF⟩ := I.fr
  refine PySem.W.ksp_setItem hF I.ok.mod.kin J hq hs hf ?_
  refine wpAny_mono (wpAny_call (run_fnR (us := [.ref a, iv, u]) (vs := [.ref a, i, v]) F hr hx I (.cons rfl (.cons ri (.cons rv .nil))) q)) (fun w s' z => ?_) fun _ _ x => x
  obtain ⟨z', H', I', _, qz⟩ := z
  exact ⟨H', I', qz⟩
end
end L2

/-! An index: made; an entry put in by the law's own def. -/
namespace Ix
open PySem L2 Evl Dg Dt TL StX ClX LamR LamX
open Dr (StAt SameB)
abbrev sIInit : Stmt := inClass clIndex 0
abbrev sLPut : Stmt := top 79
structure TxIi (K : PySem.W.Frag) (mg : Str → Option Value) (CI fnm : Addr) : Prop where
  needM : mg "need_manner" = some (.ref fnm)
  kNM : PySem.W.keepIn K (.ref fnm) = true
  clI : Cls K CI
  nS : NoAttr K CI "stored_style"
  nM : NoAttr K CI "stored_manner"
  nE : NoAttr K CI "stored_entries"
  nP : NoAttr K CI "past"
section
variable {P : Program} {w : World} {K : PySem.W.Frag} {mg : Str → Option Value} {base : Heap} {ca : Nat → Addr} {CI fnn fne fpe fse fch fnm : Addr}
def spIInit (CI : Addr) (ca : Nat → Addr) : Sp := fun vs H Q E => ∃ (x st dx : Addr) (vm : V) (Mn : PyData), vs = [.ref x, .ref st, vm] ∧ H x = some (.ins CI dx []) ∧ Pt H vm Mn ∧ (manB Mn = false → Leaves (ca 7) "value" vm H E) ∧ (∀ mn : Str, Mn = .str mn → manB Mn = true → ∀ ea pa H', (∀ b o, H b = some o → b ≠ x → H' b = some o) → H ea = none → H pa = none → IxAt CI H' x ea pa st mn [] [] → Q .non H')
theorem scIInit : FnScope ["self", "style", "manner"] ["self", "style", "manner"] (defScope sIInit) := ⟨rfl, rfl, rfl, by decide +kernel, rfl, by decide +kernel, by decide +kernel⟩
theorem ok_iinit {f : Addr} {fd fd1 : FuncData} (F : FunD K "__init__" "Index.__init__" (defArgs sIInit) (defBody sIInit) (defScope sIInit) [] [("manner", .str "full")] f fd) (GM : FnOk P w K mg base (L2.CX P w) 2 fnm fd1 ["manner"] (spNeedMan ca)) (bM : Binds K fd1 ["manner"] []) (T : TxIi K mg CI fnm) : FnOk P w K mg base (L2.CX P w) 3 f fd ["self", "style", "manner"] (spIInit CI ca) := by
  refine F.ok scIInit (fun vs H Q E h => ?_) (fun cdv A outer s H vs Q E hr h => ?_)
  · obtain ⟨_, _, _, _, _, rfl, _⟩ := h
    rfl
  · obtain ⟨x, st, dx, vm, Mn, rfl, hx, km, l1, hq⟩ := h
    refine ⟨_, pss_cons (ps_expr (pe_callS GM hr (by rfl) T.needM T.kNM bM (fun σ => passAt (takes_of rfl rfl rfl rfl) σ) (pa_cons (pv 2) pa_nil)))
      (pss_cons (ps_fld (pv 0) (pv 1) rfl) (pss_cons (ps_fld (pv 0) (pv 2) rfl) (pss_cons (ps_fld (pv 0) pe_dnewK rfl) (pss_one (ps_fld (pv 0) (pe_lst pa_nil) rfl))))), ?_⟩
    refine ⟨_, rfl, vm, Mn, rfl, km, fun hb => l1 hb, fun hb H1 e1 => ?_⟩
    obtain ⟨mn, rfl⟩ : ∃ mn, Mn = .str mn := by
      cases Mn with
      | str mn => exact ⟨mn, rfl⟩
      | _ => cases hb
    cases km
    have hx1 := e1 _ _ hx
    refine ⟨_, rfl, _, rfl, x, CI, dx, _, rfl, hx1, T.clI, T.nS, by decide, ?_⟩
    refine ⟨_, rfl, _, rfl, x, CI, dx, _, rfl, upd_same, T.clI, T.nM, (show 1 < 1000 by decide), ?_⟩
    have k2 : ∀ b o, H b = some o → b ≠ x → (upd (upd H1 x (.ins CI dx (putF "stored_style" (V.ref st) []))) x (.ins CI dx (putF "stored_manner" (V.str mn) (putF "stored_style" (V.ref st) [])))) b = some o := fun b o hb n => by
      rw [upd_ne n, upd_ne n]
      exact e1 _ _ hb
    have hx2 : (upd (upd H1 x (.ins CI dx (putF "stored_style" (V.ref st) []))) x (.ins CI dx (putF "stored_manner" (V.str mn) (putF "stored_style" (V.ref st) [])))) x = some (.ins CI dx [("stored_style", .ref st), ("stored_manner", .str mn)]) := upd_same
    have n2 : ∀ b, (upd (upd H1 x (.ins CI dx (putF "stored_style" (V.ref st) []))) x (.ins CI dx (putF "stored_manner" (V.str mn) (putF "stored_style" (V.ref st) [])))) b = none → H b = none := fun b hb => by
      by_cases z : b = x
      · rw [z, upd_same] at hb
        cases hb
      · rw [upd_ne z, upd_ne z] at hb
        exact fresh_back e1 hb
    generalize upd (upd H1 x (.ins CI dx (putF "stored_style" (V.ref st) []))) x (.ins CI dx (putF "stored_manner" (V.str mn) (putF "stored_style" (V.ref st) []))) = H2 at k2 hx2 n2
    intro ea nea
    have eax : ea ≠ x := fun z => by rw [z, hx2] at nea; cases nea
    refine ⟨_, rfl, x, CI, dx, [("stored_style", .ref st), ("stored_manner", .str mn)], rfl, by rw [upd_ne eax.symm]; exact hx2, T.clI, T.nE, (show 2 < 1000 by decide), ?_⟩
    refine ⟨by decide, fun pa npa => ?_⟩
    have pax : pa ≠ x := fun z => by rw [z, upd_same] at npa; cases npa
    have pea : pa ≠ ea := fun z => by rw [z, upd_ne eax, upd_same] at npa; cases npa
    have npa0 : H2 pa = none := by
      rw [upd_ne pax, upd_ne pea] at npa
      exact npa
    refine ⟨_, rfl, x, CI, dx, [("stored_style", .ref st), ("stored_manner", .str mn), ("stored_entries", .ref ea)], rfl, by rw [upd_ne pax.symm, upd_same]; rfl, T.clI, T.nP, (show 3 < 1000 by decide), ?_⟩
    refine hq mn rfl hb ea pa _ (fun b o hbo n => ?_) (n2 ea nea) (n2 pa npa0) ⟨⟨dx, upd_same⟩, ?_, ?_⟩
    · have h2 := k2 b o hbo n
      rw [upd_ne n, upd_ne (ne_of_none h2 npa0), upd_ne n, upd_ne (ne_of_none h2 nea)]
      exact h2
    · rw [upd_ne eax, upd_ne pea.symm, upd_ne eax, upd_same]
    · rw [upd_ne pax, upd_same]
/-- what index[name] = entry asks of the class -/
structure SetC (K : PySem.W.Frag) (CI fsi : Addr) : Prop where
  sq : PySem.W.noSeq K CI = true
  at_ : PySem.W.findIn K (.ref CI) "__setitem__" = some (some (.ref fsi))
  fn : PySem.W.isFn K (.ref fsi) = true
theorem scLPut : FnScope ["index", "name", "entry"] ["index", "name", "entry"] (defScope sLPut) := ⟨rfl, rfl, rfl, by decide +kernel, rfl, by decide +kernel, by decide +kernel⟩
theorem ok_lput {f fsi : Addr} {fd fd1 : FuncData} (F : Fun K "_law_put" "_law_put" sLPut f fd) (S : SetC K CI fsi) (GS : FnOk P w K mg base (L2.CX P w) 5 fsi fd1 ["self", "name", "entry"] (spSetItem CI ca)) (bS : Binds K fd1 ["self", "name", "entry"] []) : FnOk P w K mg base (L2.CX P w) 6 f fd ["index", "name", "entry"] (spSetItem CI ca) := by
  refine F.okX scLPut (fun vs H Q E h => ?_) (fun cdv A outer s H vs Q E hr h => ?_)
  · obtain ⟨_, _, _, _, _, _, _, _, _, _, _, rfl, _⟩ := h
    rfl
  · have h0 := h
    obtain ⟨x, ea, pa, st, mn, es, ps, vn, ve, N, D, rfl, I, hz, hpz, kn, ke, l1, hq⟩ := h
    obtain ⟨dx, hx⟩ := I.i
    exact ⟨_, pss_one (ps_asg (pv 2) (pg_sub (pv 0) (pv 1) (set_own (sp := spSetItem CI ca) S.sq S.at_ S.fn (fnr0 GS bS) hr (fun pins s H st e s' I c => passAt (takes_of rfl rfl rfl rfl) s pins H st e s' I c)))), _, rfl, _, rfl, _, rfl, x, dx, _, rfl, hx, h0⟩
end
end Ix

/-! What lies at an address of the written part, told by the part itself. -/
namespace L2
open PySem PySem.Spec PyProof.Rows ExM
open PySem (cStatics)
open PySem.W (Frag findIn typeIn keepIn subIn nsIn codeIn ksFn ks_superIn excTail)
/-! what lies at an address of the written part -/
def oO (K : Frag) (a : Addr) : Obj := (K.lookup a).getD default
def fO (K : Frag) (a : Addr) : FuncData := match (oO K a).data with
  | .func fd => fd
  | _ => default
def cO (K : Frag) (a : Addr) : ClassData := match (oO K a).data with
  | .cls cd => cd
  | _ => default
def vO (K : Frag) (a : Addr) : Array Value := match (oO K a).data with
  | .fields vs => vs
  | _ => #[]
def sO (v : Option Value) : Str × Tok := match v with
  | some (.str x t) => (x, t)
  | _ => default
def slO (K : Frag) (a : Addr) (i : Nat) : Option Value := ((oO K a).slots[i]?).getD none
theorem cfs_mkO {K : Frag} {prog : Program} {C f cc cda : Addr} {qual : Str} {params : Arguments} {body : List Stmt} {scope : Scope} {bmB : List Value} {B newId initId : String}
    (lc : K.lookup C = some (excClassObj (cO K C).name (cO K C).qualname C (cO K C).ns (cO K C).bases (cO K C).mro.tail true (cO K C).slotNames (cO K C).subclasses (cO K C).abstract (cO K C).collection (oO K C).dict (slO K C 0) (slO K C 1) (slO K C 2) (slO K C 3) (slO K C 5) newId))
    (iC : findIn K (.ref C) "__init__" = some (some (.ref f)))
    (lf : K.lookup f = some ⟨(oO K f).cls, (oO K f).dict, .func (ksFn "__init__" qual params body scope .none (fO K f).kwdefaults (fO K f).doc (fO K f).pyModule (fO K f).annotations (.ref cda) (fO K f).closureTuple cc), (oO K f).slots⟩)
    (lcd : K.lookup cda = some ⟨(oO K cda).cls, (oO K cda).dict, .fields (vO K cda), (oO K cda).slots⟩) (lcc : K.lookup cc = some ⟨(oO K cc).cls, (oO K cc).dict, .cell (some (.ref C)), (oO K cc).slots⟩)
    (sa : findIn K (.ref C) "__setattr__" = some (some (.builtin "object.__setattr__"))) (tF : typeIn K (.ref f) = some (.type "function")) (kC : keepIn K (.ref C) = true) (exC : subIn K (.ref C) (.type "BaseException") = some true) (bC : subIn K (.ref C) (.type B) = some true)
    (tyC : typeIn K (.ref C) = some (.type "type")) (op : nsIn K cStatics "thirdparty.any" = some none) (cf : codeIn K (.ref cda) qual = true)
    (al : ks_superIn K C C "__init__" = some (some (.builtin initId))) (tl : excTail bmB (cO K C).mro.tail = true) (v2 : (vO K cda)[2]? = some (.str (sO (vO K cda)[2]?).1 (sO (vO K cda)[2]?).2)) (hf : ((prog.main.file : Str) == (sO (vO K cda)[2]?).1) = true) (top : (prog.main.scope.names.lookup ("super" : Str)).isSome = false) :
    Cfs K prog C f cc cda qual params body scope bmB B newId initId :=
  cfs_mk lc iC lf lcd lcc sa tF kC exC bC tyC op cf al tl v2 hf top
end L2
namespace L2
open PySem
/-- a def as the top has written it -/
def fdX (K : PySem.W.Frag) (name : Str) (st : Stmt) (f : Addr) : FuncData := PySem.W.fnOf name name (defArgs st) (defBody st) (defScope st) .none (fO K f).kwdefaults (fO K f).doc (fO K f).pyModule (fO K f).annotations (fO K f).code (fO K f).closureTuple
end L2

/-! The head by kernel runs, nothing of the top's way written out: each look at the top's end is a theorem of its own (its memory is free again behind it). The written part is taken from open_top, whose head is left open. -/
namespace HeadL
open PySem PySem.W PyProof.Rows
def withTabs (ts : List Addr) (K : Params → Frag) : Params → Frag := fun P => (ts.map fun a => (a, tabObj #[])) ++ K P
theorem lk_tabs {a : Addr} : ∀ {ts : List Addr}, a ∈ ts → (ts.map fun a => (a, tabObj #[])).lookup a = some (tabObj #[])
  | b :: ts, h => by
    rw [List.map_cons, List.lookup_cons]
    cases e : (a == b) with
    | true => rfl
    | false =>
      rcases List.mem_cons.mp h with rfl | h
      · simp at e
      · exact lk_tabs h
theorem lk_app {α : Type} {a : Addr} {r : List (Addr × α)} : ∀ {l : List (Addr × α)}, (l ++ r).lookup a = match l.lookup a with | some x => some x | none => r.lookup a
  | [] => rfl
  | p :: l => by
    rw [List.cons_append, List.lookup_cons, List.lookup_cons]
    cases e : (a == p.1) with
    | true => rfl
    | false => exact lk_app
theorem lk_none {a : Addr} : ∀ {ts : List Addr}, a ∉ ts → (ts.map fun a => (a, tabObj #[])).lookup a = none
  | [], _ => rfl
  | b :: ts, h => by
    rw [List.map_cons, List.lookup_cons]
    have h1 : (a == b) = false := by
      cases e : (a == b) with
      | false => rfl
      | true => exact absurd (by rw [beq_iff_eq.mp e]; exact List.mem_cons_self) h
    rw [h1]
    exact lk_none fun z => h (List.mem_cons_of_mem _ z)
theorem in_of {K : Params → Frag} {ts : List Addr} {w : World} {h : Heap} (Y : InK (withTabs ts K) w h) (off : ∀ a ∈ ts, (K w.params).lookup a = none) : (K w.params).In h := fun a o q => by
  refine Y a o ?_
  show ((ts.map fun a => (a, tabObj #[])) ++ K w.params).lookup a = some o
  rw [lk_app, lk_none (fun z => by rw [off a z] at q; cases q)]
  exact q
theorem tabs_of {K : Params → Frag} {ts : List Addr} {w : World} {h : Heap} (Y : InK (withTabs ts K) w h) : ∀ P ∈ ts, h.get? P = some (tabObj #[]) := fun a q => by
  refine Y a _ ?_
  show ((ts.map fun a => (a, tabObj #[])) ++ K w.params).lookup a = some _
  rw [lk_app, lk_tabs q]
/-- open_top with its head left open: the written part is made, nothing is run -/
theorem keep.{u} {p : Prop} {α : Sort u} (_ : α) (_ : True) (h : p) : p := h
theorem map3 {α β γ δ : Type} {x : Option α} {f : α → β} {g : α → γ} {h : α → δ} {a : β} {b : γ} {c : δ} (e1 : x.map f = some a) (e2 : x.map g = some b) (e3 : x.map h = some c) : x.map (fun s => (f s, g s, h s)) = some (a, b, c) := by
  cases x with
  | none => cases e1
  | some s =>
    cases e1
    cases e2
    cases e3
    rfl
/-- two parts of what is seen of the objects -/
theorem map_app {α β : Type} {x : Option α} {f g : α → List β} {a b : List β} (e1 : x.map f = some a) (e2 : x.map g = some b) : x.map (fun s => f s ++ g s) = some (a ++ b) := by
  cases x with
  | none => cases e1
  | some s =>
    cases e1
    cases e2
    rfl
open HandSHeadRun in
theorem head {r : OpenRow} {q : Program} {K : Params → Frag} {as : List Addr} {M : Nat} {loose : List PySem.Str} {d : DefRec} (ek : ∀ P, as = (K P).map (·.1))
    (run1 : ∀ (w : World) (os : OsState), (endF (stepQ (denQ tabQ) r.prog w) M r.prog w os).map (fun s => looksF r.prog (boot_heap w.params) s.abs) = some true)
    (run2 : ∀ (w : World) (os : OsState), (endF (stepQ (denQ tabQ) r.prog w) M r.prog w os).map (fun s => seenQ q loose (importedModules r.prog.main.body) (fun s => xlAt q [] s && recOk r.toRowW.records s) s.abs) = some (openGood q loose))
    (run3 : ∀ (w : World) (os : OsState), (endF (stepQ (denQ tabQ) r.prog w) M r.prog w os).map (fun s => as.map (getT s)) = some ((K w.params).map fun p => some p.2))
    (e : opening r.prog = plainProg r.prog.main.scope.names) (f : ∀ s, fenceModules? r.prog s = some s)
    (hdef : defOf q r.name = some (d, [])) (hp : r.prog.theDef r.name = some (d.params, d.body, d.scope)) (hk : kwWritten? d.params.kwonlyargs d.params.kw_defaults = some [])
    (hwr : (!r.writes || r.records.isEmpty) = true) (k1 : r.wellSaid = true) (ok : (chainsOk q && opensWell r.prog && (frees r.toRowW && r.within.isEmpty)) = true) (hb : r.prog.bare) (hw : r.toRowW.promised)
    (call : WalkO q loose (XL q []) (InK K) r.toRowW d [] fun f vs => PySem.call f vs) : r.Holds :=
  head_any (q := q) (H := kHook K as ek) (ob := fun s => as.map (getT s)) (M := M) (loose := loose) (d := d) (kwd := []) (fun s => List.map_congr_left fun a _ => getT_eq s a) e f
    (fun w os => map3 (run1 w os) (run2 w os) (run3 w os)) hdef hp hk hwr k1 ok hb hw call
end HeadL

section
open PySem PySem.W PyProof.Rows
local macro_rules | `(tactic| o_head $H) => `(tactic| refine HeadL.keep $H ?hw ?hc)
local macro_rules | `(tactic| w_witness2) => `(tactic| trivial)
open_top hd23 for PySem.Challenge.rw_shortspans_k23_entries_checked
end

/-! k23: what the top has written, at its addresses. -/
namespace KH23
open PySem L2 Evl ExM Dg Dt StX ClX
abbrev P23 : Program := PySem.Challenge.pw_shortspans_k23_entries_checked
noncomputable abbrev K23 : Params → PySem.W.Frag := hd23.heap_39
def ca23 : Nat → Addr
  | 0 => 31
  | 1 => 53
  | 2 => 74
  | 3 => 95
  | 4 => 116
  | 5 => 137
  | 6 => 158
  | 7 => 179
  | 8 => 200
  | 9 => 221
  | 10 => 242
  | 11 => 263
  | 12 => 284
  | 13 => 306
  | 14 => 328
  | _ => 0
section
variable (p : Params) {mg : Str → Option Value}
theorem cfs1 : Cfs (K23 p) P23 53 50 38 49 "BadBase.__init__" (defArgs (inClass (top 3) 0)) (defBody (inClass (top 3) 0)) (defScope (inClass (top 3) 0)) [.type "ValueError", .type "Exception", .type "BaseException", .type "object"] "ValueError" "ValueError.__new__" "ValueError.__init__" :=
  cfs_mkO (by kernel_rfl) (by kernel_rfl) (by kernel_rfl) (by kernel_rfl) (by kernel_rfl) (by kernel_rfl) (by kernel_rfl) (by kernel_rfl) (by kernel_rfl) (by kernel_rfl) (by kernel_rfl) (by kernel_rfl) (by kernel_rfl) (by kernel_rfl) (by kernel_rfl) (by kernel_rfl) (by kernel_rfl) (by kernel_rfl)
theorem mk1 : Mks P23 (K23 p) mg 53 ["value"] :=
  mks_one (cfs1 p) base_VE rfl rfl rfl ⟨rfl, by decide +kernel, by decide +kernel, rfl, rfl, ⟨_, rfl, rfl⟩, by decide +kernel⟩ (fun L cd => ⟨rfl, _, rfl⟩) (by kernel_rfl)
    (fun a v h x kV doc pm an cdv ct => match h with | .pos _ => by kernel_rfl | .kw1 => by kernel_rfl)
theorem cfs2 : Cfs (K23 p) P23 74 71 59 70 "BadNumber.__init__" (defArgs (inClass (top 4) 0)) (defBody (inClass (top 4) 0)) (defScope (inClass (top 4) 0)) [.type "ValueError", .type "Exception", .type "BaseException", .type "object"] "ValueError" "ValueError.__new__" "ValueError.__init__" :=
  cfs_mkO (by kernel_rfl) (by kernel_rfl) (by kernel_rfl) (by kernel_rfl) (by kernel_rfl) (by kernel_rfl) (by kernel_rfl) (by kernel_rfl) (by kernel_rfl) (by kernel_rfl) (by kernel_rfl) (by kernel_rfl) (by kernel_rfl) (by kernel_rfl) (by kernel_rfl) (by kernel_rfl) (by kernel_rfl) (by kernel_rfl)
theorem mk2 : Mks P23 (K23 p) mg 74 ["value"] :=
  mks_one (cfs2 p) base_VE rfl rfl rfl ⟨rfl, by decide +kernel, by decide +kernel, rfl, rfl, ⟨_, rfl, rfl⟩, by decide +kernel⟩ (fun L cd => ⟨rfl, _, rfl⟩) (by kernel_rfl)
    (fun a v h x kV doc pm an cdv ct => match h with | .pos _ => by kernel_rfl | .kw1 => by kernel_rfl)
theorem cfs3 : Cfs (K23 p) P23 95 92 80 91 "BadDigits.__init__" (defArgs (inClass (top 5) 0)) (defBody (inClass (top 5) 0)) (defScope (inClass (top 5) 0)) [.type "ValueError", .type "Exception", .type "BaseException", .type "object"] "ValueError" "ValueError.__new__" "ValueError.__init__" :=
  cfs_mkO (by kernel_rfl) (by kernel_rfl) (by kernel_rfl) (by kernel_rfl) (by kernel_rfl) (by kernel_rfl) (by kernel_rfl) (by kernel_rfl) (by kernel_rfl) (by kernel_rfl) (by kernel_rfl) (by kernel_rfl) (by kernel_rfl) (by kernel_rfl) (by kernel_rfl) (by kernel_rfl) (by kernel_rfl) (by kernel_rfl)
theorem mk3 : Mks P23 (K23 p) mg 95 ["value"] :=
  mks_one (cfs3 p) base_VE rfl rfl rfl ⟨rfl, by decide +kernel, by decide +kernel, rfl, rfl, ⟨_, rfl, rfl⟩, by decide +kernel⟩ (fun L cd => ⟨rfl, _, rfl⟩) (by kernel_rfl)
    (fun a v h x kV doc pm an cdv ct => match h with | .pos _ => by kernel_rfl | .kw1 => by kernel_rfl)
theorem cfs4 : Cfs (K23 p) P23 116 113 101 112 "BadRange.__init__" (defArgs (inClass (top 6) 0)) (defBody (inClass (top 6) 0)) (defScope (inClass (top 6) 0)) [.type "ValueError", .type "Exception", .type "BaseException", .type "object"] "ValueError" "ValueError.__new__" "ValueError.__init__" :=
  cfs_mkO (by kernel_rfl) (by kernel_rfl) (by kernel_rfl) (by kernel_rfl) (by kernel_rfl) (by kernel_rfl) (by kernel_rfl) (by kernel_rfl) (by kernel_rfl) (by kernel_rfl) (by kernel_rfl) (by kernel_rfl) (by kernel_rfl) (by kernel_rfl) (by kernel_rfl) (by kernel_rfl) (by kernel_rfl) (by kernel_rfl)
theorem mk4 : Mks P23 (K23 p) mg 116 ["value"] :=
  mks_one (cfs4 p) base_VE rfl rfl rfl ⟨rfl, by decide +kernel, by decide +kernel, rfl, rfl, ⟨_, rfl, rfl⟩, by decide +kernel⟩ (fun L cd => ⟨rfl, _, rfl⟩) (by kernel_rfl)
    (fun a v h x kV doc pm an cdv ct => match h with | .pos _ => by kernel_rfl | .kw1 => by kernel_rfl)
theorem cfs5 : Cfs (K23 p) P23 137 134 122 133 "BadRule.__init__" (defArgs (inClass (top 7) 0)) (defBody (inClass (top 7) 0)) (defScope (inClass (top 7) 0)) [.type "ValueError", .type "Exception", .type "BaseException", .type "object"] "ValueError" "ValueError.__new__" "ValueError.__init__" :=
  cfs_mkO (by kernel_rfl) (by kernel_rfl) (by kernel_rfl) (by kernel_rfl) (by kernel_rfl) (by kernel_rfl) (by kernel_rfl) (by kernel_rfl) (by kernel_rfl) (by kernel_rfl) (by kernel_rfl) (by kernel_rfl) (by kernel_rfl) (by kernel_rfl) (by kernel_rfl) (by kernel_rfl) (by kernel_rfl) (by kernel_rfl)
theorem mk5 : Mks P23 (K23 p) mg 137 ["place"] :=
  mks_one (cfs5 p) base_VE rfl rfl rfl ⟨rfl, by decide +kernel, by decide +kernel, rfl, rfl, ⟨_, rfl, rfl⟩, by decide +kernel⟩ (fun L cd => ⟨rfl, _, rfl⟩) (by kernel_rfl)
    (fun a v h x kV doc pm an cdv ct => match h with | .pos _ => by kernel_rfl | .kw1 => by kernel_rfl)
theorem cfs6 : Cfs (K23 p) P23 158 155 143 154 "BadReader.__init__" (defArgs (inClass (top 8) 0)) (defBody (inClass (top 8) 0)) (defScope (inClass (top 8) 0)) [.type "ValueError", .type "Exception", .type "BaseException", .type "object"] "ValueError" "ValueError.__new__" "ValueError.__init__" :=
  cfs_mkO (by kernel_rfl) (by kernel_rfl) (by kernel_rfl) (by kernel_rfl) (by kernel_rfl) (by kernel_rfl) (by kernel_rfl) (by kernel_rfl) (by kernel_rfl) (by kernel_rfl) (by kernel_rfl) (by kernel_rfl) (by kernel_rfl) (by kernel_rfl) (by kernel_rfl) (by kernel_rfl) (by kernel_rfl) (by kernel_rfl)
theorem mk6 : Mks P23 (K23 p) mg 158 ["value"] :=
  mks_one (cfs6 p) base_VE rfl rfl rfl ⟨rfl, by decide +kernel, by decide +kernel, rfl, rfl, ⟨_, rfl, rfl⟩, by decide +kernel⟩ (fun L cd => ⟨rfl, _, rfl⟩) (by kernel_rfl)
    (fun a v h x kV doc pm an cdv ct => match h with | .pos _ => by kernel_rfl | .kw1 => by kernel_rfl)
theorem cfs7 : Cfs (K23 p) P23 179 176 164 175 "BadManner.__init__" (defArgs (inClass (top 9) 0)) (defBody (inClass (top 9) 0)) (defScope (inClass (top 9) 0)) [.type "ValueError", .type "Exception", .type "BaseException", .type "object"] "ValueError" "ValueError.__new__" "ValueError.__init__" :=
  cfs_mkO (by kernel_rfl) (by kernel_rfl) (by kernel_rfl) (by kernel_rfl) (by kernel_rfl) (by kernel_rfl) (by kernel_rfl) (by kernel_rfl) (by kernel_rfl) (by kernel_rfl) (by kernel_rfl) (by kernel_rfl) (by kernel_rfl) (by kernel_rfl) (by kernel_rfl) (by kernel_rfl) (by kernel_rfl) (by kernel_rfl)
theorem mk7 : Mks P23 (K23 p) mg 179 ["value"] :=
  mks_one (cfs7 p) base_VE rfl rfl rfl ⟨rfl, by decide +kernel, by decide +kernel, rfl, rfl, ⟨_, rfl, rfl⟩, by decide +kernel⟩ (fun L cd => ⟨rfl, _, rfl⟩) (by kernel_rfl)
    (fun a v h x kV doc pm an cdv ct => match h with | .pos _ => by kernel_rfl | .kw1 => by kernel_rfl)
theorem cfs8 : Cfs (K23 p) P23 200 197 185 196 "BadEntry.__init__" (defArgs (inClass (top 10) 0)) (defBody (inClass (top 10) 0)) (defScope (inClass (top 10) 0)) [.type "ValueError", .type "Exception", .type "BaseException", .type "object"] "ValueError" "ValueError.__new__" "ValueError.__init__" :=
  cfs_mkO (by kernel_rfl) (by kernel_rfl) (by kernel_rfl) (by kernel_rfl) (by kernel_rfl) (by kernel_rfl) (by kernel_rfl) (by kernel_rfl) (by kernel_rfl) (by kernel_rfl) (by kernel_rfl) (by kernel_rfl) (by kernel_rfl) (by kernel_rfl) (by kernel_rfl) (by kernel_rfl) (by kernel_rfl) (by kernel_rfl)
theorem mk8 : Mks P23 (K23 p) mg 200 ["place"] :=
  mks_one (cfs8 p) base_VE rfl rfl rfl ⟨rfl, by decide +kernel, by decide +kernel, rfl, rfl, ⟨_, rfl, rfl⟩, by decide +kernel⟩ (fun L cd => ⟨rfl, _, rfl⟩) (by kernel_rfl)
    (fun a v h x kV doc pm an cdv ct => match h with | .pos _ => by kernel_rfl | .kw1 => by kernel_rfl)
theorem cfs9 : Cfs (K23 p) P23 221 218 206 217 "BadName.__init__" (defArgs (inClass (top 11) 0)) (defBody (inClass (top 11) 0)) (defScope (inClass (top 11) 0)) [.type "ValueError", .type "Exception", .type "BaseException", .type "object"] "ValueError" "ValueError.__new__" "ValueError.__init__" :=
  cfs_mkO (by kernel_rfl) (by kernel_rfl) (by kernel_rfl) (by kernel_rfl) (by kernel_rfl) (by kernel_rfl) (by kernel_rfl) (by kernel_rfl) (by kernel_rfl) (by kernel_rfl) (by kernel_rfl) (by kernel_rfl) (by kernel_rfl) (by kernel_rfl) (by kernel_rfl) (by kernel_rfl) (by kernel_rfl) (by kernel_rfl)
theorem mk9 : Mks P23 (K23 p) mg 221 ["value"] :=
  mks_one (cfs9 p) base_VE rfl rfl rfl ⟨rfl, by decide +kernel, by decide +kernel, rfl, rfl, ⟨_, rfl, rfl⟩, by decide +kernel⟩ (fun L cd => ⟨rfl, _, rfl⟩) (by kernel_rfl)
    (fun a v h x kV doc pm an cdv ct => match h with | .pos _ => by kernel_rfl | .kw1 => by kernel_rfl)
theorem cfs10 : Cfs (K23 p) P23 242 239 227 238 "BadText.__init__" (defArgs (inClass (top 12) 0)) (defBody (inClass (top 12) 0)) (defScope (inClass (top 12) 0)) [.type "ValueError", .type "Exception", .type "BaseException", .type "object"] "ValueError" "ValueError.__new__" "ValueError.__init__" :=
  cfs_mkO (by kernel_rfl) (by kernel_rfl) (by kernel_rfl) (by kernel_rfl) (by kernel_rfl) (by kernel_rfl) (by kernel_rfl) (by kernel_rfl) (by kernel_rfl) (by kernel_rfl) (by kernel_rfl) (by kernel_rfl) (by kernel_rfl) (by kernel_rfl) (by kernel_rfl) (by kernel_rfl) (by kernel_rfl) (by kernel_rfl)
theorem cfs11 : Cfs (K23 p) P23 263 260 248 259 "OtherBase.__init__" (defArgs (inClass (top 13) 0)) (defBody (inClass (top 13) 0)) (defScope (inClass (top 13) 0)) [.type "ValueError", .type "Exception", .type "BaseException", .type "object"] "ValueError" "ValueError.__new__" "ValueError.__init__" :=
  cfs_mkO (by kernel_rfl) (by kernel_rfl) (by kernel_rfl) (by kernel_rfl) (by kernel_rfl) (by kernel_rfl) (by kernel_rfl) (by kernel_rfl) (by kernel_rfl) (by kernel_rfl) (by kernel_rfl) (by kernel_rfl) (by kernel_rfl) (by kernel_rfl) (by kernel_rfl) (by kernel_rfl) (by kernel_rfl) (by kernel_rfl)
theorem cfs12 : Cfs (K23 p) P23 284 281 269 280 "TooMany.__init__" (defArgs (inClass (top 14) 0)) (defBody (inClass (top 14) 0)) (defScope (inClass (top 14) 0)) [.type "OverflowError", .type "ArithmeticError", .type "Exception", .type "BaseException", .type "object"] "OverflowError" "OverflowError.__new__" "OverflowError.__init__" :=
  cfs_mkO (by kernel_rfl) (by kernel_rfl) (by kernel_rfl) (by kernel_rfl) (by kernel_rfl) (by kernel_rfl) (by kernel_rfl) (by kernel_rfl) (by kernel_rfl) (by kernel_rfl) (by kernel_rfl) (by kernel_rfl) (by kernel_rfl) (by kernel_rfl) (by kernel_rfl) (by kernel_rfl) (by kernel_rfl) (by kernel_rfl)
theorem mk12 : Mks P23 (K23 p) mg 284 ["most"] :=
  mks_one (cfs12 p) base_OE rfl rfl rfl ⟨rfl, by decide +kernel, by decide +kernel, rfl, rfl, ⟨_, rfl, rfl⟩, by decide +kernel⟩ (fun L cd => ⟨rfl, _, rfl⟩) (by kernel_rfl)
    (fun a v h x kV doc pm an cdv ct => match h with | .pos _ => by kernel_rfl | .kw1 => by kernel_rfl)
theorem cfs13 : Cfs (K23 p) P23 306 303 291 302 "Missing.__init__" (defArgs (inClass (top 15) 0)) (defBody (inClass (top 15) 0)) (defScope (inClass (top 15) 0)) [.type "KeyError", .type "LookupError", .type "Exception", .type "BaseException", .type "object"] "KeyError" "LookupError.__new__" "KeyError.__init__" :=
  cfs_mkO (by kernel_rfl) (by kernel_rfl) (by kernel_rfl) (by kernel_rfl) (by kernel_rfl) (by kernel_rfl) (by kernel_rfl) (by kernel_rfl) (by kernel_rfl) (by kernel_rfl) (by kernel_rfl) (by kernel_rfl) (by kernel_rfl) (by kernel_rfl) (by kernel_rfl) (by kernel_rfl) (by kernel_rfl) (by kernel_rfl)
theorem mk13 : Mks P23 (K23 p) mg 306 ["name"] :=
  mks_one (cfs13 p) base_KE rfl rfl rfl ⟨rfl, by decide +kernel, by decide +kernel, rfl, rfl, ⟨_, rfl, rfl⟩, by decide +kernel⟩ (fun L cd => ⟨rfl, _, rfl⟩) (by kernel_rfl)
    (fun a v h x kV doc pm an cdv ct => match h with | .pos _ => by kernel_rfl | .kw1 => by kernel_rfl)
theorem cfs14 : Cfs (K23 p) P23 328 325 313 324 "NothingLeft.__init__" (defArgs (inClass (top 16) 0)) (defBody (inClass (top 16) 0)) (defScope (inClass (top 16) 0)) [.type "RuntimeError", .type "Exception", .type "BaseException", .type "object"] "RuntimeError" "RuntimeError.__new__" "RuntimeError.__init__" :=
  cfs_mkO (by kernel_rfl) (by kernel_rfl) (by kernel_rfl) (by kernel_rfl) (by kernel_rfl) (by kernel_rfl) (by kernel_rfl) (by kernel_rfl) (by kernel_rfl) (by kernel_rfl) (by kernel_rfl) (by kernel_rfl) (by kernel_rfl) (by kernel_rfl) (by kernel_rfl) (by kernel_rfl) (by kernel_rfl) (by kernel_rfl)
theorem rwT23 : Told.RwT (K23 p) ca23 where
  xc := fun i h1 h14 => by
    have c : i = 1 ∨ i = 2 ∨ i = 3 ∨ i = 4 ∨ i = 5 ∨ i = 6 ∨ i = 7 ∨ i = 8 ∨ i = 9 ∨ i = 10 ∨ i = 11 ∨ i = 12 ∨ i = 13 ∨ i = 14 := by omega
    rcases c with rfl | rfl | rfl | rfl | rfl | rfl | rfl | rfl | rfl | rfl | rfl | rfl | rfl | rfl
    · exact xcB_ok (show xcB (K23 p) 53 = true by kernel_rfl)
    · exact xcB_ok (show xcB (K23 p) 74 = true by kernel_rfl)
    · exact xcB_ok (show xcB (K23 p) 95 = true by kernel_rfl)
    · exact xcB_ok (show xcB (K23 p) 116 = true by kernel_rfl)
    · exact xcB_ok (show xcB (K23 p) 137 = true by kernel_rfl)
    · exact xcB_ok (show xcB (K23 p) 158 = true by kernel_rfl)
    · exact xcB_ok (show xcB (K23 p) 179 = true by kernel_rfl)
    · exact xcB_ok (show xcB (K23 p) 200 = true by kernel_rfl)
    · exact xcB_ok (show xcB (K23 p) 221 = true by kernel_rfl)
    · exact xcB_ok (show xcB (K23 p) 242 = true by kernel_rfl)
    · exact xcB_ok (show xcB (K23 p) 263 = true by kernel_rfl)
    · exact xcB_ok (show xcB (K23 p) 284 = true by kernel_rfl)
    · exact xcB_ok (show xcB (K23 p) 306 = true by kernel_rfl)
    · exact xcB_ok (show xcB (K23 p) 328 = true by kernel_rfl)
  kit := fun n i n1 n14 i1 i14 => by
    have h : ((List.range 14).all fun n => (List.range 14).all fun i => decide (PySem.W.kitOne (K23 p) (.ref (ca23 (n + 1))) (.ref (ca23 (i + 1))) = some (decide (i + 1 = n + 1)))) = true := by kernel_rfl
    have h1 := List.all_eq_true.mp h (n - 1) (List.mem_range.mpr (by omega))
    have h2 := of_decide_eq_true (List.all_eq_true.mp h1 (i - 1) (List.mem_range.mpr (by omega)))
    rw [show n - 1 + 1 = n by omega, show i - 1 + 1 = i by omega] at h2
    exact h2
  exm := fun n n1 n14 => by
    have h : ((List.range 14).all fun n => decide (PySem.W.exmAny (K23 p) (.ref (ca23 (n + 1))) [.ref (ca23 0), .ref (ca23 12), .ref (ca23 13), .ref (ca23 14)] = some true)) = true := by kernel_rfl
    have h2 := of_decide_eq_true (List.all_eq_true.mp h (n - 1) (List.mem_range.mpr (by omega)))
    rw [show n - 1 + 1 = n by omega] at h2
    exact h2
  no := fun i i1 i14 z10 z11 z14 => by
    have c : i = 1 ∨ i = 2 ∨ i = 3 ∨ i = 4 ∨ i = 5 ∨ i = 6 ∨ i = 7 ∨ i = 8 ∨ i = 9 ∨ i = 10 ∨ i = 11 ∨ i = 12 ∨ i = 13 ∨ i = 14 := by omega
    rcases c with rfl | rfl | rfl | rfl | rfl | rfl | rfl | rfl | rfl | rfl | rfl | rfl | rfl | rfl
    · exact (show PySem.W.findIn (K23 p) (.ref 53) "value" = some none by kernel_rfl)
    · exact (show PySem.W.findIn (K23 p) (.ref 74) "value" = some none by kernel_rfl)
    · exact (show PySem.W.findIn (K23 p) (.ref 95) "value" = some none by kernel_rfl)
    · exact (show PySem.W.findIn (K23 p) (.ref 116) "value" = some none by kernel_rfl)
    · exact (show PySem.W.findIn (K23 p) (.ref 137) "place" = some none by kernel_rfl)
    · exact (show PySem.W.findIn (K23 p) (.ref 158) "value" = some none by kernel_rfl)
    · exact (show PySem.W.findIn (K23 p) (.ref 179) "value" = some none by kernel_rfl)
    · exact (show PySem.W.findIn (K23 p) (.ref 200) "place" = some none by kernel_rfl)
    · exact (show PySem.W.findIn (K23 p) (.ref 221) "value" = some none by kernel_rfl)
    · exact absurd rfl z10
    · exact absurd rfl z11
    · exact (show PySem.W.findIn (K23 p) (.ref 284) "most" = some none by kernel_rfl)
    · exact (show PySem.W.findIn (K23 p) (.ref 306) "name" = some none by kernel_rfl)
    · exact absurd rfl z14
  line := (show PySem.W.findIn (K23 p) (.ref 242) "line" = some none by kernel_rfl)
  word := (show PySem.W.findIn (K23 p) (.ref 242) "word" = some none by kernel_rfl)
theorem kp_is_integer : PySem.W.keepIn (K23 p) (.ref 338) = true := by kernel_rfl
theorem lk_is_integer : (K23 p).lookup 338 = some ⟨(oO (K23 p) 338).cls, (oO (K23 p) 338).dict, .func (PySem.W.fnOf "is_integer" "is_integer" (defArgs (top 21)) (defBody (top 21)) (defScope (top 21)) .none (fO (K23 p) 338).kwdefaults (fO (K23 p) 338).doc (fO (K23 p) 338).pyModule (fO (K23 p) 338).annotations (fO (K23 p) 338).code (fO (K23 p) 338).closureTuple), (oO (K23 p) 338).slots⟩ := by kernel_rfl
theorem cd_is_integer : PySem.W.codeIn (K23 p) (fO (K23 p) 338).code "is_integer" = true := by kernel_rfl
noncomputable abbrev fd_is_integer (p : Params) : FuncData := PySem.W.fnOf "is_integer" "is_integer" (defArgs (top 21)) (defBody (top 21)) (defScope (top 21)) .none (fO (K23 p) 338).kwdefaults (fO (K23 p) 338).doc (fO (K23 p) 338).pyModule (fO (K23 p) 338).annotations (fO (K23 p) 338).code (fO (K23 p) 338).closureTuple
theorem fn_is_integer : Fun (K23 p) "is_integer" "is_integer" (top 21) 338 (fd_is_integer p) := ⟨⟨_, _, _, _, _, _, _, _, _, rfl, lk_is_integer p, cd_is_integer p⟩, kp_is_integer p⟩
theorem bd_is_integer : Binds (K23 p) (fd_is_integer p) ["value"] [] := (fn_is_integer p).binds (ps := ["value"]) fun _ _ _ _ _ _ us hl => match us, hl with | [_], _ => rfl
theorem kp_is_number : PySem.W.keepIn (K23 p) (.ref 345) = true := by kernel_rfl
theorem lk_is_number : (K23 p).lookup 345 = some ⟨(oO (K23 p) 345).cls, (oO (K23 p) 345).dict, .func (PySem.W.fnOf "is_number" "is_number" (defArgs (top 22)) (defBody (top 22)) (defScope (top 22)) .none (fO (K23 p) 345).kwdefaults (fO (K23 p) 345).doc (fO (K23 p) 345).pyModule (fO (K23 p) 345).annotations (fO (K23 p) 345).code (fO (K23 p) 345).closureTuple), (oO (K23 p) 345).slots⟩ := by kernel_rfl
theorem cd_is_number : PySem.W.codeIn (K23 p) (fO (K23 p) 345).code "is_number" = true := by kernel_rfl
noncomputable abbrev fd_is_number (p : Params) : FuncData := PySem.W.fnOf "is_number" "is_number" (defArgs (top 22)) (defBody (top 22)) (defScope (top 22)) .none (fO (K23 p) 345).kwdefaults (fO (K23 p) 345).doc (fO (K23 p) 345).pyModule (fO (K23 p) 345).annotations (fO (K23 p) 345).code (fO (K23 p) 345).closureTuple
theorem fn_is_number : Fun (K23 p) "is_number" "is_number" (top 22) 345 (fd_is_number p) := ⟨⟨_, _, _, _, _, _, _, _, _, rfl, lk_is_number p, cd_is_number p⟩, kp_is_number p⟩
theorem bd_is_number : Binds (K23 p) (fd_is_number p) ["value"] [] := (fn_is_number p).binds (ps := ["value"]) fun _ _ _ _ _ _ us hl => match us, hl with | [_], _ => rfl
theorem kp_is_figures : PySem.W.keepIn (K23 p) (.ref 350) = true := by kernel_rfl
theorem lk_is_figures : (K23 p).lookup 350 = some ⟨(oO (K23 p) 350).cls, (oO (K23 p) 350).dict, .func (PySem.W.fnOf "is_figures" "is_figures" (defArgs (top 23)) (defBody (top 23)) (defScope (top 23)) .none (fO (K23 p) 350).kwdefaults (fO (K23 p) 350).doc (fO (K23 p) 350).pyModule (fO (K23 p) 350).annotations (fO (K23 p) 350).code (fO (K23 p) 350).closureTuple), (oO (K23 p) 350).slots⟩ := by kernel_rfl
theorem cd_is_figures : PySem.W.codeIn (K23 p) (fO (K23 p) 350).code "is_figures" = true := by kernel_rfl
noncomputable abbrev fd_is_figures (p : Params) : FuncData := PySem.W.fnOf "is_figures" "is_figures" (defArgs (top 23)) (defBody (top 23)) (defScope (top 23)) .none (fO (K23 p) 350).kwdefaults (fO (K23 p) 350).doc (fO (K23 p) 350).pyModule (fO (K23 p) 350).annotations (fO (K23 p) 350).code (fO (K23 p) 350).closureTuple
theorem fn_is_figures : Fun (K23 p) "is_figures" "is_figures" (top 23) 350 (fd_is_figures p) := ⟨⟨_, _, _, _, _, _, _, _, _, rfl, lk_is_figures p, cd_is_figures p⟩, kp_is_figures p⟩
theorem bd_is_figures : Binds (K23 p) (fd_is_figures p) ["base", "value", "most"] [] := (fn_is_figures p).binds (ps := ["base", "value", "most"]) fun _ _ _ _ _ _ us hl => match us, hl with | [_, _, _], _ => rfl
theorem kp_need_base : PySem.W.keepIn (K23 p) (.ref 357) = true := by kernel_rfl
theorem lk_need_base : (K23 p).lookup 357 = some ⟨(oO (K23 p) 357).cls, (oO (K23 p) 357).dict, .func (PySem.W.fnOf "need_base" "need_base" (defArgs (top 24)) (defBody (top 24)) (defScope (top 24)) .none (fO (K23 p) 357).kwdefaults (fO (K23 p) 357).doc (fO (K23 p) 357).pyModule (fO (K23 p) 357).annotations (fO (K23 p) 357).code (fO (K23 p) 357).closureTuple), (oO (K23 p) 357).slots⟩ := by kernel_rfl
theorem cd_need_base : PySem.W.codeIn (K23 p) (fO (K23 p) 357).code "need_base" = true := by kernel_rfl
noncomputable abbrev fd_need_base (p : Params) : FuncData := PySem.W.fnOf "need_base" "need_base" (defArgs (top 24)) (defBody (top 24)) (defScope (top 24)) .none (fO (K23 p) 357).kwdefaults (fO (K23 p) 357).doc (fO (K23 p) 357).pyModule (fO (K23 p) 357).annotations (fO (K23 p) 357).code (fO (K23 p) 357).closureTuple
theorem fn_need_base : Fun (K23 p) "need_base" "need_base" (top 24) 357 (fd_need_base p) := ⟨⟨_, _, _, _, _, _, _, _, _, rfl, lk_need_base p, cd_need_base p⟩, kp_need_base p⟩
theorem bd_need_base : Binds (K23 p) (fd_need_base p) ["base"] [] := (fn_need_base p).binds (ps := ["base"]) fun _ _ _ _ _ _ us hl => match us, hl with | [_], _ => rfl
theorem kp_need_number : PySem.W.keepIn (K23 p) (.ref 364) = true := by kernel_rfl
theorem lk_need_number : (K23 p).lookup 364 = some ⟨(oO (K23 p) 364).cls, (oO (K23 p) 364).dict, .func (PySem.W.fnOf "need_number" "need_number" (defArgs (top 25)) (defBody (top 25)) (defScope (top 25)) .none (fO (K23 p) 364).kwdefaults (fO (K23 p) 364).doc (fO (K23 p) 364).pyModule (fO (K23 p) 364).annotations (fO (K23 p) 364).code (fO (K23 p) 364).closureTuple), (oO (K23 p) 364).slots⟩ := by kernel_rfl
theorem cd_need_number : PySem.W.codeIn (K23 p) (fO (K23 p) 364).code "need_number" = true := by kernel_rfl
noncomputable abbrev fd_need_number (p : Params) : FuncData := PySem.W.fnOf "need_number" "need_number" (defArgs (top 25)) (defBody (top 25)) (defScope (top 25)) .none (fO (K23 p) 364).kwdefaults (fO (K23 p) 364).doc (fO (K23 p) 364).pyModule (fO (K23 p) 364).annotations (fO (K23 p) 364).code (fO (K23 p) 364).closureTuple
theorem fn_need_number : Fun (K23 p) "need_number" "need_number" (top 25) 364 (fd_need_number p) := ⟨⟨_, _, _, _, _, _, _, _, _, rfl, lk_need_number p, cd_need_number p⟩, kp_need_number p⟩
theorem bd_need_number : Binds (K23 p) (fd_need_number p) ["number"] [] := (fn_need_number p).binds (ps := ["number"]) fun _ _ _ _ _ _ us hl => match us, hl with | [_], _ => rfl
theorem kp_need_range : PySem.W.keepIn (K23 p) (.ref 371) = true := by kernel_rfl
theorem lk_need_range : (K23 p).lookup 371 = some ⟨(oO (K23 p) 371).cls, (oO (K23 p) 371).dict, .func (PySem.W.fnOf "need_range" "need_range" (defArgs (top 26)) (defBody (top 26)) (defScope (top 26)) .none (fO (K23 p) 371).kwdefaults (fO (K23 p) 371).doc (fO (K23 p) 371).pyModule (fO (K23 p) 371).annotations (fO (K23 p) 371).code (fO (K23 p) 371).closureTuple), (oO (K23 p) 371).slots⟩ := by kernel_rfl
theorem cd_need_range : PySem.W.codeIn (K23 p) (fO (K23 p) 371).code "need_range" = true := by kernel_rfl
noncomputable abbrev fd_need_range (p : Params) : FuncData := PySem.W.fnOf "need_range" "need_range" (defArgs (top 26)) (defBody (top 26)) (defScope (top 26)) .none (fO (K23 p) 371).kwdefaults (fO (K23 p) 371).doc (fO (K23 p) 371).pyModule (fO (K23 p) 371).annotations (fO (K23 p) 371).code (fO (K23 p) 371).closureTuple
theorem fn_need_range : Fun (K23 p) "need_range" "need_range" (top 26) 371 (fd_need_range p) := ⟨⟨_, _, _, _, _, _, _, _, _, rfl, lk_need_range p, cd_need_range p⟩, kp_need_range p⟩
theorem bd_need_range : Binds (K23 p) (fd_need_range p) ["first", "second"] [] := (fn_need_range p).binds (ps := ["first", "second"]) fun _ _ _ _ _ _ us hl => match us, hl with | [_, _], _ => rfl
theorem kp_digits : PySem.W.keepIn (K23 p) (.ref 378) = true := by kernel_rfl
theorem lk_digits : (K23 p).lookup 378 = some ⟨(oO (K23 p) 378).cls, (oO (K23 p) 378).dict, .func (PySem.W.fnOf "digits" "digits" (defArgs (top 27)) (defBody (top 27)) (defScope (top 27)) .none (fO (K23 p) 378).kwdefaults (fO (K23 p) 378).doc (fO (K23 p) 378).pyModule (fO (K23 p) 378).annotations (fO (K23 p) 378).code (fO (K23 p) 378).closureTuple), (oO (K23 p) 378).slots⟩ := by kernel_rfl
theorem cd_digits : PySem.W.codeIn (K23 p) (fO (K23 p) 378).code "digits" = true := by kernel_rfl
noncomputable abbrev fd_digits (p : Params) : FuncData := PySem.W.fnOf "digits" "digits" (defArgs (top 27)) (defBody (top 27)) (defScope (top 27)) .none (fO (K23 p) 378).kwdefaults (fO (K23 p) 378).doc (fO (K23 p) 378).pyModule (fO (K23 p) 378).annotations (fO (K23 p) 378).code (fO (K23 p) 378).closureTuple
theorem fn_digits : Fun (K23 p) "digits" "digits" (top 27) 378 (fd_digits p) := ⟨⟨_, _, _, _, _, _, _, _, _, rfl, lk_digits p, cd_digits p⟩, kp_digits p⟩
theorem bd_digits : Binds (K23 p) (fd_digits p) ["base", "number"] [] := (fn_digits p).binds (ps := ["base", "number"]) fun _ _ _ _ _ _ us hl => match us, hl with | [_, _], _ => rfl
theorem kp_length : PySem.W.keepIn (K23 p) (.ref 385) = true := by kernel_rfl
theorem lk_length : (K23 p).lookup 385 = some ⟨(oO (K23 p) 385).cls, (oO (K23 p) 385).dict, .func (PySem.W.fnOf "length" "length" (defArgs (top 28)) (defBody (top 28)) (defScope (top 28)) .none (fO (K23 p) 385).kwdefaults (fO (K23 p) 385).doc (fO (K23 p) 385).pyModule (fO (K23 p) 385).annotations (fO (K23 p) 385).code (fO (K23 p) 385).closureTuple), (oO (K23 p) 385).slots⟩ := by kernel_rfl
theorem cd_length : PySem.W.codeIn (K23 p) (fO (K23 p) 385).code "length" = true := by kernel_rfl
noncomputable abbrev fd_length (p : Params) : FuncData := PySem.W.fnOf "length" "length" (defArgs (top 28)) (defBody (top 28)) (defScope (top 28)) .none (fO (K23 p) 385).kwdefaults (fO (K23 p) 385).doc (fO (K23 p) 385).pyModule (fO (K23 p) 385).annotations (fO (K23 p) 385).code (fO (K23 p) 385).closureTuple
theorem fn_length : Fun (K23 p) "length" "length" (top 28) 385 (fd_length p) := ⟨⟨_, _, _, _, _, _, _, _, _, rfl, lk_length p, cd_length p⟩, kp_length p⟩
theorem bd_length : Binds (K23 p) (fd_length p) ["base", "number"] [] := (fn_length p).binds (ps := ["base", "number"]) fun _ _ _ _ _ _ us hl => match us, hl with | [_, _], _ => rfl
theorem kp_changed : PySem.W.keepIn (K23 p) (.ref 392) = true := by kernel_rfl
theorem lk_changed : (K23 p).lookup 392 = some ⟨(oO (K23 p) 392).cls, (oO (K23 p) 392).dict, .func (PySem.W.fnOf "changed" "changed" (defArgs (top 29)) (defBody (top 29)) (defScope (top 29)) .none (fO (K23 p) 392).kwdefaults (fO (K23 p) 392).doc (fO (K23 p) 392).pyModule (fO (K23 p) 392).annotations (fO (K23 p) 392).code (fO (K23 p) 392).closureTuple), (oO (K23 p) 392).slots⟩ := by kernel_rfl
theorem cd_changed : PySem.W.codeIn (K23 p) (fO (K23 p) 392).code "changed" = true := by kernel_rfl
noncomputable abbrev fd_changed (p : Params) : FuncData := PySem.W.fnOf "changed" "changed" (defArgs (top 29)) (defBody (top 29)) (defScope (top 29)) .none (fO (K23 p) 392).kwdefaults (fO (K23 p) 392).doc (fO (K23 p) 392).pyModule (fO (K23 p) 392).annotations (fO (K23 p) 392).code (fO (K23 p) 392).closureTuple
theorem fn_changed : Fun (K23 p) "changed" "changed" (top 29) 392 (fd_changed p) := ⟨⟨_, _, _, _, _, _, _, _, _, rfl, lk_changed p, cd_changed p⟩, kp_changed p⟩
theorem bd_changed : Binds (K23 p) (fd_changed p) ["base", "first", "second"] [] := (fn_changed p).binds (ps := ["base", "first", "second"]) fun _ _ _ _ _ _ us hl => match us, hl with | [_, _, _], _ => rfl
theorem kp_near : PySem.W.keepIn (K23 p) (.ref 399) = true := by kernel_rfl
theorem lk_near : (K23 p).lookup 399 = some ⟨(oO (K23 p) 399).cls, (oO (K23 p) 399).dict, .func (PySem.W.fnOf "near" "near" (defArgs (top 30)) (defBody (top 30)) (defScope (top 30)) .none (fO (K23 p) 399).kwdefaults (fO (K23 p) 399).doc (fO (K23 p) 399).pyModule (fO (K23 p) 399).annotations (fO (K23 p) 399).code (fO (K23 p) 399).closureTuple), (oO (K23 p) 399).slots⟩ := by kernel_rfl
theorem cd_near : PySem.W.codeIn (K23 p) (fO (K23 p) 399).code "near" = true := by kernel_rfl
noncomputable abbrev fd_near (p : Params) : FuncData := PySem.W.fnOf "near" "near" (defArgs (top 30)) (defBody (top 30)) (defScope (top 30)) .none (fO (K23 p) 399).kwdefaults (fO (K23 p) 399).doc (fO (K23 p) 399).pyModule (fO (K23 p) 399).annotations (fO (K23 p) 399).code (fO (K23 p) 399).closureTuple
theorem fn_near : Fun (K23 p) "near" "near" (top 30) 399 (fd_near p) := ⟨⟨_, _, _, _, _, _, _, _, _, rfl, lk_near p, cd_near p⟩, kp_near p⟩
theorem bd_near : Binds (K23 p) (fd_near p) ["base", "first", "second"] [] := (fn_near p).binds (ps := ["base", "first", "second"]) fun _ _ _ _ _ _ us hl => match us, hl with | [_, _, _], _ => rfl
theorem kp_is_size : PySem.W.keepIn (K23 p) (.ref 406) = true := by kernel_rfl
theorem lk_is_size : (K23 p).lookup 406 = some ⟨(oO (K23 p) 406).cls, (oO (K23 p) 406).dict, .func (PySem.W.fnOf "is_size" "is_size" (defArgs (top 36)) (defBody (top 36)) (defScope (top 36)) .none (fO (K23 p) 406).kwdefaults (fO (K23 p) 406).doc (fO (K23 p) 406).pyModule (fO (K23 p) 406).annotations (fO (K23 p) 406).code (fO (K23 p) 406).closureTuple), (oO (K23 p) 406).slots⟩ := by kernel_rfl
theorem cd_is_size : PySem.W.codeIn (K23 p) (fO (K23 p) 406).code "is_size" = true := by kernel_rfl
noncomputable abbrev fd_is_size (p : Params) : FuncData := PySem.W.fnOf "is_size" "is_size" (defArgs (top 36)) (defBody (top 36)) (defScope (top 36)) .none (fO (K23 p) 406).kwdefaults (fO (K23 p) 406).doc (fO (K23 p) 406).pyModule (fO (K23 p) 406).annotations (fO (K23 p) 406).code (fO (K23 p) 406).closureTuple
theorem fn_is_size : Fun (K23 p) "is_size" "is_size" (top 36) 406 (fd_is_size p) := ⟨⟨_, _, _, _, _, _, _, _, _, rfl, lk_is_size p, cd_is_size p⟩, kp_is_size p⟩
theorem bd_is_size : Binds (K23 p) (fd_is_size p) ["value", "least"] [] := (fn_is_size p).binds (ps := ["value", "least"]) fun _ _ _ _ _ _ us hl => match us, hl with | [_, _], _ => rfl
theorem kp_are_bounds : PySem.W.keepIn (K23 p) (.ref 413) = true := by kernel_rfl
theorem lk_are_bounds : (K23 p).lookup 413 = some ⟨(oO (K23 p) 413).cls, (oO (K23 p) 413).dict, .func (PySem.W.fnOf "are_bounds" "are_bounds" (defArgs (top 37)) (defBody (top 37)) (defScope (top 37)) .none (fO (K23 p) 413).kwdefaults (fO (K23 p) 413).doc (fO (K23 p) 413).pyModule (fO (K23 p) 413).annotations (fO (K23 p) 413).code (fO (K23 p) 413).closureTuple), (oO (K23 p) 413).slots⟩ := by kernel_rfl
theorem cd_are_bounds : PySem.W.codeIn (K23 p) (fO (K23 p) 413).code "are_bounds" = true := by kernel_rfl
noncomputable abbrev fd_are_bounds (p : Params) : FuncData := PySem.W.fnOf "are_bounds" "are_bounds" (defArgs (top 37)) (defBody (top 37)) (defScope (top 37)) .none (fO (K23 p) 413).kwdefaults (fO (K23 p) 413).doc (fO (K23 p) 413).pyModule (fO (K23 p) 413).annotations (fO (K23 p) 413).code (fO (K23 p) 413).closureTuple
theorem fn_are_bounds : Fun (K23 p) "are_bounds" "are_bounds" (top 37) 413 (fd_are_bounds p) := ⟨⟨_, _, _, _, _, _, _, _, _, rfl, lk_are_bounds p, cd_are_bounds p⟩, kp_are_bounds p⟩
theorem bd_are_bounds : Binds (K23 p) (fd_are_bounds p) ["least", "most"] [] := (fn_are_bounds p).binds (ps := ["least", "most"]) fun _ _ _ _ _ _ us hl => match us, hl with | [_, _], _ => rfl
theorem kp_begins : PySem.W.keepIn (K23 p) (.ref 420) = true := by kernel_rfl
theorem lk_begins : (K23 p).lookup 420 = some ⟨(oO (K23 p) 420).cls, (oO (K23 p) 420).dict, .func (PySem.W.fnOf "begins" "begins" (defArgs (top 38)) (defBody (top 38)) (defScope (top 38)) .none (fO (K23 p) 420).kwdefaults (fO (K23 p) 420).doc (fO (K23 p) 420).pyModule (fO (K23 p) 420).annotations (fO (K23 p) 420).code (fO (K23 p) 420).closureTuple), (oO (K23 p) 420).slots⟩ := by kernel_rfl
theorem cd_begins : PySem.W.codeIn (K23 p) (fO (K23 p) 420).code "begins" = true := by kernel_rfl
noncomputable abbrev fd_begins (p : Params) : FuncData := PySem.W.fnOf "begins" "begins" (defArgs (top 38)) (defBody (top 38)) (defScope (top 38)) .none (fO (K23 p) 420).kwdefaults (fO (K23 p) 420).doc (fO (K23 p) 420).pyModule (fO (K23 p) 420).annotations (fO (K23 p) 420).code (fO (K23 p) 420).closureTuple
theorem fn_begins : Fun (K23 p) "begins" "begins" (top 38) 420 (fd_begins p) := ⟨⟨_, _, _, _, _, _, _, _, _, rfl, lk_begins p, cd_begins p⟩, kp_begins p⟩
theorem bd_begins : Binds (K23 p) (fd_begins p) ["value", "word", "many"] [] := (fn_begins p).binds (ps := ["value", "word", "many"]) fun _ _ _ _ _ _ us hl => match us, hl with | [_, _, _], _ => rfl
theorem kp_is_condition : PySem.W.keepIn (K23 p) (.ref 427) = true := by kernel_rfl
theorem lk_is_condition : (K23 p).lookup 427 = some ⟨(oO (K23 p) 427).cls, (oO (K23 p) 427).dict, .func (PySem.W.fnOf "is_condition" "is_condition" (defArgs (top 39)) (defBody (top 39)) (defScope (top 39)) .none (fO (K23 p) 427).kwdefaults (fO (K23 p) 427).doc (fO (K23 p) 427).pyModule (fO (K23 p) 427).annotations (fO (K23 p) 427).code (fO (K23 p) 427).closureTuple), (oO (K23 p) 427).slots⟩ := by kernel_rfl
theorem cd_is_condition : PySem.W.codeIn (K23 p) (fO (K23 p) 427).code "is_condition" = true := by kernel_rfl
noncomputable abbrev fd_is_condition (p : Params) : FuncData := PySem.W.fnOf "is_condition" "is_condition" (defArgs (top 39)) (defBody (top 39)) (defScope (top 39)) .none (fO (K23 p) 427).kwdefaults (fO (K23 p) 427).doc (fO (K23 p) 427).pyModule (fO (K23 p) 427).annotations (fO (K23 p) 427).code (fO (K23 p) 427).closureTuple
theorem fn_is_condition : Fun (K23 p) "is_condition" "is_condition" (top 39) 427 (fd_is_condition p) := ⟨⟨_, _, _, _, _, _, _, _, _, rfl, lk_is_condition p, cd_is_condition p⟩, kp_is_condition p⟩
theorem bd_is_condition : Binds (K23 p) (fd_is_condition p) ["base", "value"] [] := (fn_is_condition p).binds (ps := ["base", "value"]) fun _ _ _ _ _ _ us hl => match us, hl with | [_, _], _ => rfl
theorem kp_is_keep : PySem.W.keepIn (K23 p) (.ref 434) = true := by kernel_rfl
theorem lk_is_keep : (K23 p).lookup 434 = some ⟨(oO (K23 p) 434).cls, (oO (K23 p) 434).dict, .func (PySem.W.fnOf "is_keep" "is_keep" (defArgs (top 40)) (defBody (top 40)) (defScope (top 40)) .none (fO (K23 p) 434).kwdefaults (fO (K23 p) 434).doc (fO (K23 p) 434).pyModule (fO (K23 p) 434).annotations (fO (K23 p) 434).code (fO (K23 p) 434).closureTuple), (oO (K23 p) 434).slots⟩ := by kernel_rfl
theorem cd_is_keep : PySem.W.codeIn (K23 p) (fO (K23 p) 434).code "is_keep" = true := by kernel_rfl
noncomputable abbrev fd_is_keep (p : Params) : FuncData := PySem.W.fnOf "is_keep" "is_keep" (defArgs (top 40)) (defBody (top 40)) (defScope (top 40)) .none (fO (K23 p) 434).kwdefaults (fO (K23 p) 434).doc (fO (K23 p) 434).pyModule (fO (K23 p) 434).annotations (fO (K23 p) 434).code (fO (K23 p) 434).closureTuple
theorem fn_is_keep : Fun (K23 p) "is_keep" "is_keep" (top 40) 434 (fd_is_keep p) := ⟨⟨_, _, _, _, _, _, _, _, _, rfl, lk_is_keep p, cd_is_keep p⟩, kp_is_keep p⟩
theorem bd_is_keep : Binds (K23 p) (fd_is_keep p) ["value"] [] := (fn_is_keep p).binds (ps := ["value"]) fun _ _ _ _ _ _ us hl => match us, hl with | [_], _ => rfl
theorem kp_is_rule : PySem.W.keepIn (K23 p) (.ref 439) = true := by kernel_rfl
theorem lk_is_rule : (K23 p).lookup 439 = some ⟨(oO (K23 p) 439).cls, (oO (K23 p) 439).dict, .func (PySem.W.fnOf "is_rule" "is_rule" (defArgs (top 41)) (defBody (top 41)) (defScope (top 41)) .none (fO (K23 p) 439).kwdefaults (fO (K23 p) 439).doc (fO (K23 p) 439).pyModule (fO (K23 p) 439).annotations (fO (K23 p) 439).code (fO (K23 p) 439).closureTuple), (oO (K23 p) 439).slots⟩ := by kernel_rfl
theorem cd_is_rule : PySem.W.codeIn (K23 p) (fO (K23 p) 439).code "is_rule" = true := by kernel_rfl
noncomputable abbrev fd_is_rule (p : Params) : FuncData := PySem.W.fnOf "is_rule" "is_rule" (defArgs (top 41)) (defBody (top 41)) (defScope (top 41)) .none (fO (K23 p) 439).kwdefaults (fO (K23 p) 439).doc (fO (K23 p) 439).pyModule (fO (K23 p) 439).annotations (fO (K23 p) 439).code (fO (K23 p) 439).closureTuple
theorem fn_is_rule : Fun (K23 p) "is_rule" "is_rule" (top 41) 439 (fd_is_rule p) := ⟨⟨_, _, _, _, _, _, _, _, _, rfl, lk_is_rule p, cd_is_rule p⟩, kp_is_rule p⟩
theorem bd_is_rule : Binds (K23 p) (fd_is_rule p) ["base", "value"] [] := (fn_is_rule p).binds (ps := ["base", "value"]) fun _ _ _ _ _ _ us hl => match us, hl with | [_, _], _ => rfl
theorem kp_need_rules : PySem.W.keepIn (K23 p) (.ref 446) = true := by kernel_rfl
theorem lk_need_rules : (K23 p).lookup 446 = some ⟨(oO (K23 p) 446).cls, (oO (K23 p) 446).dict, .func (PySem.W.fnOf "need_rules" "need_rules" (defArgs (top 42)) (defBody (top 42)) (defScope (top 42)) .none (fO (K23 p) 446).kwdefaults (fO (K23 p) 446).doc (fO (K23 p) 446).pyModule (fO (K23 p) 446).annotations (fO (K23 p) 446).code (fO (K23 p) 446).closureTuple), (oO (K23 p) 446).slots⟩ := by kernel_rfl
theorem cd_need_rules : PySem.W.codeIn (K23 p) (fO (K23 p) 446).code "need_rules" = true := by kernel_rfl
noncomputable abbrev fd_need_rules (p : Params) : FuncData := PySem.W.fnOf "need_rules" "need_rules" (defArgs (top 42)) (defBody (top 42)) (defScope (top 42)) .none (fO (K23 p) 446).kwdefaults (fO (K23 p) 446).doc (fO (K23 p) 446).pyModule (fO (K23 p) 446).annotations (fO (K23 p) 446).code (fO (K23 p) 446).closureTuple
theorem fn_need_rules : Fun (K23 p) "need_rules" "need_rules" (top 42) 446 (fd_need_rules p) := ⟨⟨_, _, _, _, _, _, _, _, _, rfl, lk_need_rules p, cd_need_rules p⟩, kp_need_rules p⟩
theorem bd_need_rules : Binds (K23 p) (fd_need_rules p) ["base", "rules"] [] := (fn_need_rules p).binds (ps := ["base", "rules"]) fun _ _ _ _ _ _ us hl => match us, hl with | [_, _], _ => rfl
theorem kp_need_place : PySem.W.keepIn (K23 p) (.ref 453) = true := by kernel_rfl
theorem lk_need_place : (K23 p).lookup 453 = some ⟨(oO (K23 p) 453).cls, (oO (K23 p) 453).dict, .func (PySem.W.fnOf "need_place" "need_place" (defArgs (top 43)) (defBody (top 43)) (defScope (top 43)) .none (fO (K23 p) 453).kwdefaults (fO (K23 p) 453).doc (fO (K23 p) 453).pyModule (fO (K23 p) 453).annotations (fO (K23 p) 453).code (fO (K23 p) 453).closureTuple), (oO (K23 p) 453).slots⟩ := by kernel_rfl
theorem cd_need_place : PySem.W.codeIn (K23 p) (fO (K23 p) 453).code "need_place" = true := by kernel_rfl
noncomputable abbrev fd_need_place (p : Params) : FuncData := PySem.W.fnOf "need_place" "need_place" (defArgs (top 43)) (defBody (top 43)) (defScope (top 43)) .none (fO (K23 p) 453).kwdefaults (fO (K23 p) 453).doc (fO (K23 p) 453).pyModule (fO (K23 p) 453).annotations (fO (K23 p) 453).code (fO (K23 p) 453).closureTuple
theorem fn_need_place : Fun (K23 p) "need_place" "need_place" (top 43) 453 (fd_need_place p) := ⟨⟨_, _, _, _, _, _, _, _, _, rfl, lk_need_place p, cd_need_place p⟩, kp_need_place p⟩
theorem bd_need_place : Binds (K23 p) (fd_need_place p) ["number", "many"] [] := (fn_need_place p).binds (ps := ["number", "many"]) fun _ _ _ _ _ _ us hl => match us, hl with | [_, _], _ => rfl
theorem kp_plain_rule : PySem.W.keepIn (K23 p) (.ref 458) = true := by kernel_rfl
theorem lk_plain_rule : (K23 p).lookup 458 = some ⟨(oO (K23 p) 458).cls, (oO (K23 p) 458).dict, .func (PySem.W.fnOf "plain_rule" "plain_rule" (defArgs (top 44)) (defBody (top 44)) (defScope (top 44)) .none (fO (K23 p) 458).kwdefaults (fO (K23 p) 458).doc (fO (K23 p) 458).pyModule (fO (K23 p) 458).annotations (fO (K23 p) 458).code (fO (K23 p) 458).closureTuple), (oO (K23 p) 458).slots⟩ := by kernel_rfl
theorem cd_plain_rule : PySem.W.codeIn (K23 p) (fO (K23 p) 458).code "plain_rule" = true := by kernel_rfl
noncomputable abbrev fd_plain_rule (p : Params) : FuncData := PySem.W.fnOf "plain_rule" "plain_rule" (defArgs (top 44)) (defBody (top 44)) (defScope (top 44)) .none (fO (K23 p) 458).kwdefaults (fO (K23 p) 458).doc (fO (K23 p) 458).pyModule (fO (K23 p) 458).annotations (fO (K23 p) 458).code (fO (K23 p) 458).closureTuple
theorem fn_plain_rule : Fun (K23 p) "plain_rule" "plain_rule" (top 44) 458 (fd_plain_rule p) := ⟨⟨_, _, _, _, _, _, _, _, _, rfl, lk_plain_rule p, cd_plain_rule p⟩, kp_plain_rule p⟩
theorem bd_plain_rule : Binds (K23 p) (fd_plain_rule p) ["rule"] [] := (fn_plain_rule p).binds (ps := ["rule"]) fun _ _ _ _ _ _ us hl => match us, hl with | [_], _ => rfl
theorem kp_facts_of : PySem.W.keepIn (K23 p) (.ref 465) = true := by kernel_rfl
theorem lk_facts_of : (K23 p).lookup 465 = some ⟨(oO (K23 p) 465).cls, (oO (K23 p) 465).dict, .func (PySem.W.fnOf "facts_of" "facts_of" (defArgs (top 45)) (defBody (top 45)) (defScope (top 45)) .none (fO (K23 p) 465).kwdefaults (fO (K23 p) 465).doc (fO (K23 p) 465).pyModule (fO (K23 p) 465).annotations (fO (K23 p) 465).code (fO (K23 p) 465).closureTuple), (oO (K23 p) 465).slots⟩ := by kernel_rfl
theorem cd_facts_of : PySem.W.codeIn (K23 p) (fO (K23 p) 465).code "facts_of" = true := by kernel_rfl
noncomputable abbrev fd_facts_of (p : Params) : FuncData := PySem.W.fnOf "facts_of" "facts_of" (defArgs (top 45)) (defBody (top 45)) (defScope (top 45)) .none (fO (K23 p) 465).kwdefaults (fO (K23 p) 465).doc (fO (K23 p) 465).pyModule (fO (K23 p) 465).annotations (fO (K23 p) 465).code (fO (K23 p) 465).closureTuple
theorem fn_facts_of : Fun (K23 p) "facts_of" "facts_of" (top 45) 465 (fd_facts_of p) := ⟨⟨_, _, _, _, _, _, _, _, _, rfl, lk_facts_of p, cd_facts_of p⟩, kp_facts_of p⟩
theorem bd_facts_of : Binds (K23 p) (fd_facts_of p) ["base", "first", "second"] [] := (fn_facts_of p).binds (ps := ["base", "first", "second"]) fun _ _ _ _ _ _ us hl => match us, hl with | [_, _, _], _ => rfl
theorem kp_holds : PySem.W.keepIn (K23 p) (.ref 472) = true := by kernel_rfl
theorem lk_holds : (K23 p).lookup 472 = some ⟨(oO (K23 p) 472).cls, (oO (K23 p) 472).dict, .func (PySem.W.fnOf "holds" "holds" (defArgs (top 46)) (defBody (top 46)) (defScope (top 46)) .none (fO (K23 p) 472).kwdefaults (fO (K23 p) 472).doc (fO (K23 p) 472).pyModule (fO (K23 p) 472).annotations (fO (K23 p) 472).code (fO (K23 p) 472).closureTuple), (oO (K23 p) 472).slots⟩ := by kernel_rfl
theorem cd_holds : PySem.W.codeIn (K23 p) (fO (K23 p) 472).code "holds" = true := by kernel_rfl
noncomputable abbrev fd_holds (p : Params) : FuncData := PySem.W.fnOf "holds" "holds" (defArgs (top 46)) (defBody (top 46)) (defScope (top 46)) .none (fO (K23 p) 472).kwdefaults (fO (K23 p) 472).doc (fO (K23 p) 472).pyModule (fO (K23 p) 472).annotations (fO (K23 p) 472).code (fO (K23 p) 472).closureTuple
theorem fn_holds : Fun (K23 p) "holds" "holds" (top 46) 472 (fd_holds p) := ⟨⟨_, _, _, _, _, _, _, _, _, rfl, lk_holds p, cd_holds p⟩, kp_holds p⟩
theorem bd_holds : Binds (K23 p) (fd_holds p) ["condition", "facts"] [] := (fn_holds p).binds (ps := ["condition", "facts"]) fun _ _ _ _ _ _ us hl => match us, hl with | [_, _], _ => rfl
theorem kp_first_applying : PySem.W.keepIn (K23 p) (.ref 477) = true := by kernel_rfl
theorem lk_first_applying : (K23 p).lookup 477 = some ⟨(oO (K23 p) 477).cls, (oO (K23 p) 477).dict, .func (PySem.W.fnOf "first_applying" "first_applying" (defArgs (top 47)) (defBody (top 47)) (defScope (top 47)) .none (fO (K23 p) 477).kwdefaults (fO (K23 p) 477).doc (fO (K23 p) 477).pyModule (fO (K23 p) 477).annotations (fO (K23 p) 477).code (fO (K23 p) 477).closureTuple), (oO (K23 p) 477).slots⟩ := by kernel_rfl
theorem cd_first_applying : PySem.W.codeIn (K23 p) (fO (K23 p) 477).code "first_applying" = true := by kernel_rfl
noncomputable abbrev fd_first_applying (p : Params) : FuncData := PySem.W.fnOf "first_applying" "first_applying" (defArgs (top 47)) (defBody (top 47)) (defScope (top 47)) .none (fO (K23 p) 477).kwdefaults (fO (K23 p) 477).doc (fO (K23 p) 477).pyModule (fO (K23 p) 477).annotations (fO (K23 p) 477).code (fO (K23 p) 477).closureTuple
theorem fn_first_applying : Fun (K23 p) "first_applying" "first_applying" (top 47) 477 (fd_first_applying p) := ⟨⟨_, _, _, _, _, _, _, _, _, rfl, lk_first_applying p, cd_first_applying p⟩, kp_first_applying p⟩
theorem bd_first_applying : Binds (K23 p) (fd_first_applying p) ["rules", "facts"] [] := (fn_first_applying p).binds (ps := ["rules", "facts"]) fun _ _ _ _ _ _ us hl => match us, hl with | [_, _], _ => rfl
theorem kp_many_kept : PySem.W.keepIn (K23 p) (.ref 484) = true := by kernel_rfl
theorem lk_many_kept : (K23 p).lookup 484 = some ⟨(oO (K23 p) 484).cls, (oO (K23 p) 484).dict, .func (PySem.W.fnOf "many_kept" "many_kept" (defArgs (top 48)) (defBody (top 48)) (defScope (top 48)) .none (fO (K23 p) 484).kwdefaults (fO (K23 p) 484).doc (fO (K23 p) 484).pyModule (fO (K23 p) 484).annotations (fO (K23 p) 484).code (fO (K23 p) 484).closureTuple), (oO (K23 p) 484).slots⟩ := by kernel_rfl
theorem cd_many_kept : PySem.W.codeIn (K23 p) (fO (K23 p) 484).code "many_kept" = true := by kernel_rfl
noncomputable abbrev fd_many_kept (p : Params) : FuncData := PySem.W.fnOf "many_kept" "many_kept" (defArgs (top 48)) (defBody (top 48)) (defScope (top 48)) .none (fO (K23 p) 484).kwdefaults (fO (K23 p) 484).doc (fO (K23 p) 484).pyModule (fO (K23 p) 484).annotations (fO (K23 p) 484).code (fO (K23 p) 484).closureTuple
theorem fn_many_kept : Fun (K23 p) "many_kept" "many_kept" (top 48) 484 (fd_many_kept p) := ⟨⟨_, _, _, _, _, _, _, _, _, rfl, lk_many_kept p, cd_many_kept p⟩, kp_many_kept p⟩
theorem bd_many_kept : Binds (K23 p) (fd_many_kept p) ["keep", "facts"] [] := (fn_many_kept p).binds (ps := ["keep", "facts"]) fun _ _ _ _ _ _ us hl => match us, hl with | [_, _], _ => rfl
theorem kp_written : PySem.W.keepIn (K23 p) (.ref 491) = true := by kernel_rfl
theorem lk_written : (K23 p).lookup 491 = some ⟨(oO (K23 p) 491).cls, (oO (K23 p) 491).dict, .func (PySem.W.fnOf "written" "written" (defArgs (top 49)) (defBody (top 49)) (defScope (top 49)) .none (fO (K23 p) 491).kwdefaults (fO (K23 p) 491).doc (fO (K23 p) 491).pyModule (fO (K23 p) 491).annotations (fO (K23 p) 491).code (fO (K23 p) 491).closureTuple), (oO (K23 p) 491).slots⟩ := by kernel_rfl
theorem cd_written : PySem.W.codeIn (K23 p) (fO (K23 p) 491).code "written" = true := by kernel_rfl
noncomputable abbrev fd_written (p : Params) : FuncData := PySem.W.fnOf "written" "written" (defArgs (top 49)) (defBody (top 49)) (defScope (top 49)) .none (fO (K23 p) 491).kwdefaults (fO (K23 p) 491).doc (fO (K23 p) 491).pyModule (fO (K23 p) 491).annotations (fO (K23 p) 491).code (fO (K23 p) 491).closureTuple
theorem fn_written : Fun (K23 p) "written" "written" (top 49) 491 (fd_written p) := ⟨⟨_, _, _, _, _, _, _, _, _, rfl, lk_written p, cd_written p⟩, kp_written p⟩
theorem bd_written : Binds (K23 p) (fd_written p) ["rules", "facts"] [] := (fn_written p).binds (ps := ["rules", "facts"]) fun _ _ _ _ _ _ us hl => match us, hl with | [_, _], _ => rfl
theorem kp_need_manner : PySem.W.keepIn (K23 p) (.ref 628) = true := by kernel_rfl
theorem lk_need_manner : (K23 p).lookup 628 = some ⟨(oO (K23 p) 628).cls, (oO (K23 p) 628).dict, .func (PySem.W.fnOf "need_manner" "need_manner" (defArgs (top 54)) (defBody (top 54)) (defScope (top 54)) .none (fO (K23 p) 628).kwdefaults (fO (K23 p) 628).doc (fO (K23 p) 628).pyModule (fO (K23 p) 628).annotations (fO (K23 p) 628).code (fO (K23 p) 628).closureTuple), (oO (K23 p) 628).slots⟩ := by kernel_rfl
theorem cd_need_manner : PySem.W.codeIn (K23 p) (fO (K23 p) 628).code "need_manner" = true := by kernel_rfl
noncomputable abbrev fd_need_manner (p : Params) : FuncData := PySem.W.fnOf "need_manner" "need_manner" (defArgs (top 54)) (defBody (top 54)) (defScope (top 54)) .none (fO (K23 p) 628).kwdefaults (fO (K23 p) 628).doc (fO (K23 p) 628).pyModule (fO (K23 p) 628).annotations (fO (K23 p) 628).code (fO (K23 p) 628).closureTuple
theorem fn_need_manner : Fun (K23 p) "need_manner" "need_manner" (top 54) 628 (fd_need_manner p) := ⟨⟨_, _, _, _, _, _, _, _, _, rfl, lk_need_manner p, cd_need_manner p⟩, kp_need_manner p⟩
theorem bd_need_manner : Binds (K23 p) (fd_need_manner p) ["manner"] [] := (fn_need_manner p).binds (ps := ["manner"]) fun _ _ _ _ _ _ us hl => match us, hl with | [_], _ => rfl
theorem kp_is_item : PySem.W.keepIn (K23 p) (.ref 635) = true := by kernel_rfl
theorem lk_is_item : (K23 p).lookup 635 = some ⟨(oO (K23 p) 635).cls, (oO (K23 p) 635).dict, .func (PySem.W.fnOf "is_item" "is_item" (defArgs (top 55)) (defBody (top 55)) (defScope (top 55)) .none (fO (K23 p) 635).kwdefaults (fO (K23 p) 635).doc (fO (K23 p) 635).pyModule (fO (K23 p) 635).annotations (fO (K23 p) 635).code (fO (K23 p) 635).closureTuple), (oO (K23 p) 635).slots⟩ := by kernel_rfl
theorem cd_is_item : PySem.W.codeIn (K23 p) (fO (K23 p) 635).code "is_item" = true := by kernel_rfl
noncomputable abbrev fd_is_item (p : Params) : FuncData := PySem.W.fnOf "is_item" "is_item" (defArgs (top 55)) (defBody (top 55)) (defScope (top 55)) .none (fO (K23 p) 635).kwdefaults (fO (K23 p) 635).doc (fO (K23 p) 635).pyModule (fO (K23 p) 635).annotations (fO (K23 p) 635).code (fO (K23 p) 635).closureTuple
theorem fn_is_item : Fun (K23 p) "is_item" "is_item" (top 55) 635 (fd_is_item p) := ⟨⟨_, _, _, _, _, _, _, _, _, rfl, lk_is_item p, cd_is_item p⟩, kp_is_item p⟩
theorem bd_is_item : Binds (K23 p) (fd_is_item p) ["value"] [] := (fn_is_item p).binds (ps := ["value"]) fun _ _ _ _ _ _ us hl => match us, hl with | [_], _ => rfl
theorem kp_span_of : PySem.W.keepIn (K23 p) (.ref 642) = true := by kernel_rfl
theorem lk_span_of : (K23 p).lookup 642 = some ⟨(oO (K23 p) 642).cls, (oO (K23 p) 642).dict, .func (PySem.W.fnOf "span_of" "span_of" (defArgs (top 56)) (defBody (top 56)) (defScope (top 56)) .none (fO (K23 p) 642).kwdefaults (fO (K23 p) 642).doc (fO (K23 p) 642).pyModule (fO (K23 p) 642).annotations (fO (K23 p) 642).code (fO (K23 p) 642).closureTuple), (oO (K23 p) 642).slots⟩ := by kernel_rfl
theorem cd_span_of : PySem.W.codeIn (K23 p) (fO (K23 p) 642).code "span_of" = true := by kernel_rfl
noncomputable abbrev fd_span_of (p : Params) : FuncData := PySem.W.fnOf "span_of" "span_of" (defArgs (top 56)) (defBody (top 56)) (defScope (top 56)) .none (fO (K23 p) 642).kwdefaults (fO (K23 p) 642).doc (fO (K23 p) 642).pyModule (fO (K23 p) 642).annotations (fO (K23 p) 642).code (fO (K23 p) 642).closureTuple
theorem fn_span_of : Fun (K23 p) "span_of" "span_of" (top 56) 642 (fd_span_of p) := ⟨⟨_, _, _, _, _, _, _, _, _, rfl, lk_span_of p, cd_span_of p⟩, kp_span_of p⟩
theorem bd_span_of : Binds (K23 p) (fd_span_of p) ["item"] [] := (fn_span_of p).binds (ps := ["item"]) fun _ _ _ _ _ _ us hl => match us, hl with | [_], _ => rfl
theorem kp_need_entry : PySem.W.keepIn (K23 p) (.ref 649) = true := by kernel_rfl
theorem lk_need_entry : (K23 p).lookup 649 = some ⟨(oO (K23 p) 649).cls, (oO (K23 p) 649).dict, .func (PySem.W.fnOf "need_entry" "need_entry" (defArgs (top 57)) (defBody (top 57)) (defScope (top 57)) .none (fO (K23 p) 649).kwdefaults (fO (K23 p) 649).doc (fO (K23 p) 649).pyModule (fO (K23 p) 649).annotations (fO (K23 p) 649).code (fO (K23 p) 649).closureTuple), (oO (K23 p) 649).slots⟩ := by kernel_rfl
theorem cd_need_entry : PySem.W.codeIn (K23 p) (fO (K23 p) 649).code "need_entry" = true := by kernel_rfl
noncomputable abbrev fd_need_entry (p : Params) : FuncData := PySem.W.fnOf "need_entry" "need_entry" (defArgs (top 57)) (defBody (top 57)) (defScope (top 57)) .none (fO (K23 p) 649).kwdefaults (fO (K23 p) 649).doc (fO (K23 p) 649).pyModule (fO (K23 p) 649).annotations (fO (K23 p) 649).code (fO (K23 p) 649).closureTuple
theorem fn_need_entry : Fun (K23 p) "need_entry" "need_entry" (top 57) 649 (fd_need_entry p) := ⟨⟨_, _, _, _, _, _, _, _, _, rfl, lk_need_entry p, cd_need_entry p⟩, kp_need_entry p⟩
theorem bd_need_entry : Binds (K23 p) (fd_need_entry p) ["value"] [] := (fn_need_entry p).binds (ps := ["value"]) fun _ _ _ _ _ _ us hl => match us, hl with | [_], _ => rfl
theorem kp_entry_text : PySem.W.keepIn (K23 p) (.ref 656) = true := by kernel_rfl
theorem lk_entry_text : (K23 p).lookup 656 = some ⟨(oO (K23 p) 656).cls, (oO (K23 p) 656).dict, .func (PySem.W.fnOf "entry_text" "entry_text" (defArgs (top 58)) (defBody (top 58)) (defScope (top 58)) .none (fO (K23 p) 656).kwdefaults (fO (K23 p) 656).doc (fO (K23 p) 656).pyModule (fO (K23 p) 656).annotations (fO (K23 p) 656).code (fO (K23 p) 656).closureTuple), (oO (K23 p) 656).slots⟩ := by kernel_rfl
theorem cd_entry_text : PySem.W.codeIn (K23 p) (fO (K23 p) 656).code "entry_text" = true := by kernel_rfl
noncomputable abbrev fd_entry_text (p : Params) : FuncData := PySem.W.fnOf "entry_text" "entry_text" (defArgs (top 58)) (defBody (top 58)) (defScope (top 58)) .none (fO (K23 p) 656).kwdefaults (fO (K23 p) 656).doc (fO (K23 p) 656).pyModule (fO (K23 p) 656).annotations (fO (K23 p) 656).code (fO (K23 p) 656).closureTuple
theorem fn_entry_text : Fun (K23 p) "entry_text" "entry_text" (top 58) 656 (fd_entry_text p) := ⟨⟨_, _, _, _, _, _, _, _, _, rfl, lk_entry_text p, cd_entry_text p⟩, kp_entry_text p⟩
theorem bd_entry_text : Binds (K23 p) (fd_entry_text p) ["style", "manner", "entry"] [] := (fn_entry_text p).binds (ps := ["style", "manner", "entry"]) fun _ _ _ _ _ _ us hl => match us, hl with | [_, _, _], _ => rfl
theorem kp_plain_entry : PySem.W.keepIn (K23 p) (.ref 661) = true := by kernel_rfl
theorem lk_plain_entry : (K23 p).lookup 661 = some ⟨(oO (K23 p) 661).cls, (oO (K23 p) 661).dict, .func (PySem.W.fnOf "plain_entry" "plain_entry" (defArgs (top 60)) (defBody (top 60)) (defScope (top 60)) .none (fO (K23 p) 661).kwdefaults (fO (K23 p) 661).doc (fO (K23 p) 661).pyModule (fO (K23 p) 661).annotations (fO (K23 p) 661).code (fO (K23 p) 661).closureTuple), (oO (K23 p) 661).slots⟩ := by kernel_rfl
theorem cd_plain_entry : PySem.W.codeIn (K23 p) (fO (K23 p) 661).code "plain_entry" = true := by kernel_rfl
noncomputable abbrev fd_plain_entry (p : Params) : FuncData := PySem.W.fnOf "plain_entry" "plain_entry" (defArgs (top 60)) (defBody (top 60)) (defScope (top 60)) .none (fO (K23 p) 661).kwdefaults (fO (K23 p) 661).doc (fO (K23 p) 661).pyModule (fO (K23 p) 661).annotations (fO (K23 p) 661).code (fO (K23 p) 661).closureTuple
theorem fn_plain_entry : Fun (K23 p) "plain_entry" "plain_entry" (top 60) 661 (fd_plain_entry p) := ⟨⟨_, _, _, _, _, _, _, _, _, rfl, lk_plain_entry p, cd_plain_entry p⟩, kp_plain_entry p⟩
theorem bd_plain_entry : Binds (K23 p) (fd_plain_entry p) ["entry"] [] := (fn_plain_entry p).binds (ps := ["entry"]) fun _ _ _ _ _ _ us hl => match us, hl with | [_], _ => rfl
theorem kp_joined : PySem.W.keepIn (K23 p) (.ref 668) = true := by kernel_rfl
theorem lk_joined : (K23 p).lookup 668 = some ⟨(oO (K23 p) 668).cls, (oO (K23 p) 668).dict, .func (PySem.W.fnOf "joined" "joined" (defArgs (top 61)) (defBody (top 61)) (defScope (top 61)) .none (fO (K23 p) 668).kwdefaults (fO (K23 p) 668).doc (fO (K23 p) 668).pyModule (fO (K23 p) 668).annotations (fO (K23 p) 668).code (fO (K23 p) 668).closureTuple), (oO (K23 p) 668).slots⟩ := by kernel_rfl
theorem cd_joined : PySem.W.codeIn (K23 p) (fO (K23 p) 668).code "joined" = true := by kernel_rfl
noncomputable abbrev fd_joined (p : Params) : FuncData := PySem.W.fnOf "joined" "joined" (defArgs (top 61)) (defBody (top 61)) (defScope (top 61)) .none (fO (K23 p) 668).kwdefaults (fO (K23 p) 668).doc (fO (K23 p) 668).pyModule (fO (K23 p) 668).annotations (fO (K23 p) 668).code (fO (K23 p) 668).closureTuple
theorem fn_joined : Fun (K23 p) "joined" "joined" (top 61) 668 (fd_joined p) := ⟨⟨_, _, _, _, _, _, _, _, _, rfl, lk_joined p, cd_joined p⟩, kp_joined p⟩
theorem bd_joined : Binds (K23 p) (fd_joined p) ["spans"] [] := (fn_joined p).binds (ps := ["spans"]) fun _ _ _ _ _ _ us hl => match us, hl with | [_], _ => rfl
theorem kp_entry_of : PySem.W.keepIn (K23 p) (.ref 673) = true := by kernel_rfl
theorem lk_entry_of : (K23 p).lookup 673 = some ⟨(oO (K23 p) 673).cls, (oO (K23 p) 673).dict, .func (PySem.W.fnOf "entry_of" "entry_of" (defArgs (top 62)) (defBody (top 62)) (defScope (top 62)) .none (fO (K23 p) 673).kwdefaults (fO (K23 p) 673).doc (fO (K23 p) 673).pyModule (fO (K23 p) 673).annotations (fO (K23 p) 673).code (fO (K23 p) 673).closureTuple), (oO (K23 p) 673).slots⟩ := by kernel_rfl
theorem cd_entry_of : PySem.W.codeIn (K23 p) (fO (K23 p) 673).code "entry_of" = true := by kernel_rfl
noncomputable abbrev fd_entry_of (p : Params) : FuncData := PySem.W.fnOf "entry_of" "entry_of" (defArgs (top 62)) (defBody (top 62)) (defScope (top 62)) .none (fO (K23 p) 673).kwdefaults (fO (K23 p) 673).doc (fO (K23 p) 673).pyModule (fO (K23 p) 673).annotations (fO (K23 p) 673).code (fO (K23 p) 673).closureTuple
theorem fn_entry_of : Fun (K23 p) "entry_of" "entry_of" (top 62) 673 (fd_entry_of p) := ⟨⟨_, _, _, _, _, _, _, _, _, rfl, lk_entry_of p, cd_entry_of p⟩, kp_entry_of p⟩
theorem bd_entry_of : Binds (K23 p) (fd_entry_of p) ["spans"] [] := (fn_entry_of p).binds (ps := ["spans"]) fun _ _ _ _ _ _ us hl => match us, hl with | [_], _ => rfl
theorem kp_noted : PySem.W.keepIn (K23 p) (.ref 678) = true := by kernel_rfl
theorem lk_noted : (K23 p).lookup 678 = some ⟨(oO (K23 p) 678).cls, (oO (K23 p) 678).dict, .func (PySem.W.fnOf "noted" "noted" (defArgs (top 63)) (defBody (top 63)) (defScope (top 63)) .none (fO (K23 p) 678).kwdefaults (fO (K23 p) 678).doc (fO (K23 p) 678).pyModule (fO (K23 p) 678).annotations (fO (K23 p) 678).code (fO (K23 p) 678).closureTuple), (oO (K23 p) 678).slots⟩ := by kernel_rfl
theorem cd_noted : PySem.W.codeIn (K23 p) (fO (K23 p) 678).code "noted" = true := by kernel_rfl
noncomputable abbrev fd_noted (p : Params) : FuncData := PySem.W.fnOf "noted" "noted" (defArgs (top 63)) (defBody (top 63)) (defScope (top 63)) .none (fO (K23 p) 678).kwdefaults (fO (K23 p) 678).doc (fO (K23 p) 678).pyModule (fO (K23 p) 678).annotations (fO (K23 p) 678).code (fO (K23 p) 678).closureTuple
theorem fn_noted : Fun (K23 p) "noted" "noted" (top 63) 678 (fd_noted p) := ⟨⟨_, _, _, _, _, _, _, _, _, rfl, lk_noted p, cd_noted p⟩, kp_noted p⟩
theorem bd_noted : Binds (K23 p) (fd_noted p) ["items", "more"] [] := (fn_noted p).binds (ps := ["items", "more"]) fun _ _ _ _ _ _ us hl => match us, hl with | [_, _], _ => rfl
theorem kp_need_name : PySem.W.keepIn (K23 p) (.ref 683) = true := by kernel_rfl
theorem lk_need_name : (K23 p).lookup 683 = some ⟨(oO (K23 p) 683).cls, (oO (K23 p) 683).dict, .func (PySem.W.fnOf "need_name" "need_name" (defArgs (top 67)) (defBody (top 67)) (defScope (top 67)) .none (fO (K23 p) 683).kwdefaults (fO (K23 p) 683).doc (fO (K23 p) 683).pyModule (fO (K23 p) 683).annotations (fO (K23 p) 683).code (fO (K23 p) 683).closureTuple), (oO (K23 p) 683).slots⟩ := by kernel_rfl
theorem cd_need_name : PySem.W.codeIn (K23 p) (fO (K23 p) 683).code "need_name" = true := by kernel_rfl
noncomputable abbrev fd_need_name (p : Params) : FuncData := PySem.W.fnOf "need_name" "need_name" (defArgs (top 67)) (defBody (top 67)) (defScope (top 67)) .none (fO (K23 p) 683).kwdefaults (fO (K23 p) 683).doc (fO (K23 p) 683).pyModule (fO (K23 p) 683).annotations (fO (K23 p) 683).code (fO (K23 p) 683).closureTuple
theorem fn_need_name : Fun (K23 p) "need_name" "need_name" (top 67) 683 (fd_need_name p) := ⟨⟨_, _, _, _, _, _, _, _, _, rfl, lk_need_name p, cd_need_name p⟩, kp_need_name p⟩
theorem bd_need_name : Binds (K23 p) (fd_need_name p) ["name"] [] := (fn_need_name p).binds (ps := ["name"]) fun _ _ _ _ _ _ us hl => match us, hl with | [_], _ => rfl
theorem kp_l_mixed : PySem.W.keepIn (K23 p) (.ref 852) = true := by kernel_rfl
theorem lk_l_mixed : (K23 p).lookup 852 = some ⟨(oO (K23 p) 852).cls, (oO (K23 p) 852).dict, .func (PySem.W.fnOf "_law_mixed" "_law_mixed" (defArgs (top 70)) (defBody (top 70)) (defScope (top 70)) .none (fO (K23 p) 852).kwdefaults (fO (K23 p) 852).doc (fO (K23 p) 852).pyModule (fO (K23 p) 852).annotations (fO (K23 p) 852).code (fO (K23 p) 852).closureTuple), (oO (K23 p) 852).slots⟩ := by kernel_rfl
theorem cd_l_mixed : PySem.W.codeIn (K23 p) (fO (K23 p) 852).code "_law_mixed" = true := by kernel_rfl
noncomputable abbrev fd_l_mixed (p : Params) : FuncData := PySem.W.fnOf "_law_mixed" "_law_mixed" (defArgs (top 70)) (defBody (top 70)) (defScope (top 70)) .none (fO (K23 p) 852).kwdefaults (fO (K23 p) 852).doc (fO (K23 p) 852).pyModule (fO (K23 p) 852).annotations (fO (K23 p) 852).code (fO (K23 p) 852).closureTuple
theorem fn_l_mixed : Fun (K23 p) "_law_mixed" "_law_mixed" (top 70) 852 (fd_l_mixed p) := ⟨⟨_, _, _, _, _, _, _, _, _, rfl, lk_l_mixed p, cd_l_mixed p⟩, kp_l_mixed p⟩
theorem bd_l_mixed : Binds (K23 p) (fd_l_mixed p) ["cell", "k"] [] := (fn_l_mixed p).binds (ps := ["cell", "k"]) fun _ _ _ _ _ _ us hl => match us, hl with | [_, _], _ => rfl
theorem kp_l_begin : PySem.W.keepIn (K23 p) (.ref 857) = true := by kernel_rfl
theorem lk_l_begin : (K23 p).lookup 857 = some ⟨(oO (K23 p) 857).cls, (oO (K23 p) 857).dict, .func (PySem.W.fnOf "_law_begin" "_law_begin" (defArgs (top 71)) (defBody (top 71)) (defScope (top 71)) .none (fO (K23 p) 857).kwdefaults (fO (K23 p) 857).doc (fO (K23 p) 857).pyModule (fO (K23 p) 857).annotations (fO (K23 p) 857).code (fO (K23 p) 857).closureTuple), (oO (K23 p) 857).slots⟩ := by kernel_rfl
theorem cd_l_begin : PySem.W.codeIn (K23 p) (fO (K23 p) 857).code "_law_begin" = true := by kernel_rfl
noncomputable abbrev fd_l_begin (p : Params) : FuncData := PySem.W.fnOf "_law_begin" "_law_begin" (defArgs (top 71)) (defBody (top 71)) (defScope (top 71)) .none (fO (K23 p) 857).kwdefaults (fO (K23 p) 857).doc (fO (K23 p) 857).pyModule (fO (K23 p) 857).annotations (fO (K23 p) 857).code (fO (K23 p) 857).closureTuple
theorem fn_l_begin : Fun (K23 p) "_law_begin" "_law_begin" (top 71) 857 (fd_l_begin p) := ⟨⟨_, _, _, _, _, _, _, _, _, rfl, lk_l_begin p, cd_l_begin p⟩, kp_l_begin p⟩
theorem bd_l_begin : Binds (K23 p) (fd_l_begin p) ["script"] [] := (fn_l_begin p).binds (ps := ["script"]) fun _ _ _ _ _ _ us hl => match us, hl with | [_], _ => rfl
theorem kp_l_draw : PySem.W.keepIn (K23 p) (.ref 864) = true := by kernel_rfl
theorem lk_l_draw : (K23 p).lookup 864 = some ⟨(oO (K23 p) 864).cls, (oO (K23 p) 864).dict, .func (PySem.W.fnOf "_law_draw" "_law_draw" (defArgs (top 72)) (defBody (top 72)) (defScope (top 72)) .none (fO (K23 p) 864).kwdefaults (fO (K23 p) 864).doc (fO (K23 p) 864).pyModule (fO (K23 p) 864).annotations (fO (K23 p) 864).code (fO (K23 p) 864).closureTuple), (oO (K23 p) 864).slots⟩ := by kernel_rfl
theorem cd_l_draw : PySem.W.codeIn (K23 p) (fO (K23 p) 864).code "_law_draw" = true := by kernel_rfl
noncomputable abbrev fd_l_draw (p : Params) : FuncData := PySem.W.fnOf "_law_draw" "_law_draw" (defArgs (top 72)) (defBody (top 72)) (defScope (top 72)) .none (fO (K23 p) 864).kwdefaults (fO (K23 p) 864).doc (fO (K23 p) 864).pyModule (fO (K23 p) 864).annotations (fO (K23 p) 864).code (fO (K23 p) 864).closureTuple
theorem fn_l_draw : Fun (K23 p) "_law_draw" "_law_draw" (top 72) 864 (fd_l_draw p) := ⟨⟨_, _, _, _, _, _, _, _, _, rfl, lk_l_draw p, cd_l_draw p⟩, kp_l_draw p⟩
theorem bd_l_draw : Binds (K23 p) (fd_l_draw p) ["state", "many"] [] := (fn_l_draw p).binds (ps := ["state", "many"]) fun _ _ _ _ _ _ us hl => match us, hl with | [_, _], _ => rfl
theorem kp_l_of : PySem.W.keepIn (K23 p) (.ref 871) = true := by kernel_rfl
theorem lk_l_of : (K23 p).lookup 871 = some ⟨(oO (K23 p) 871).cls, (oO (K23 p) 871).dict, .func (PySem.W.fnOf "_law_of" "_law_of" (defArgs (top 73)) (defBody (top 73)) (defScope (top 73)) .none (fO (K23 p) 871).kwdefaults (fO (K23 p) 871).doc (fO (K23 p) 871).pyModule (fO (K23 p) 871).annotations (fO (K23 p) 871).code (fO (K23 p) 871).closureTuple), (oO (K23 p) 871).slots⟩ := by kernel_rfl
theorem cd_l_of : PySem.W.codeIn (K23 p) (fO (K23 p) 871).code "_law_of" = true := by kernel_rfl
noncomputable abbrev fd_l_of (p : Params) : FuncData := PySem.W.fnOf "_law_of" "_law_of" (defArgs (top 73)) (defBody (top 73)) (defScope (top 73)) .none (fO (K23 p) 871).kwdefaults (fO (K23 p) 871).doc (fO (K23 p) 871).pyModule (fO (K23 p) 871).annotations (fO (K23 p) 871).code (fO (K23 p) 871).closureTuple
theorem fn_l_of : Fun (K23 p) "_law_of" "_law_of" (top 73) 871 (fd_l_of p) := ⟨⟨_, _, _, _, _, _, _, _, _, rfl, lk_l_of p, cd_l_of p⟩, kp_l_of p⟩
theorem bd_l_of : Binds (K23 p) (fd_l_of p) ["state", "some"] [] := (fn_l_of p).binds (ps := ["state", "some"]) fun _ _ _ _ _ _ us hl => match us, hl with | [_, _], _ => rfl
theorem kp_l_raised : PySem.W.keepIn (K23 p) (.ref 878) = true := by kernel_rfl
theorem lk_l_raised : (K23 p).lookup 878 = some ⟨(oO (K23 p) 878).cls, (oO (K23 p) 878).dict, .func (PySem.W.fnOf "_law_raised" "_law_raised" (defArgs (top 74)) (defBody (top 74)) (defScope (top 74)) .none (fO (K23 p) 878).kwdefaults (fO (K23 p) 878).doc (fO (K23 p) 878).pyModule (fO (K23 p) 878).annotations (fO (K23 p) 878).code (fO (K23 p) 878).closureTuple), (oO (K23 p) 878).slots⟩ := by kernel_rfl
theorem cd_l_raised : PySem.W.codeIn (K23 p) (fO (K23 p) 878).code "_law_raised" = true := by kernel_rfl
noncomputable abbrev fd_l_raised (p : Params) : FuncData := PySem.W.fnOf "_law_raised" "_law_raised" (defArgs (top 74)) (defBody (top 74)) (defScope (top 74)) .none (fO (K23 p) 878).kwdefaults (fO (K23 p) 878).doc (fO (K23 p) 878).pyModule (fO (K23 p) 878).annotations (fO (K23 p) 878).code (fO (K23 p) 878).closureTuple
theorem fn_l_raised : Fun (K23 p) "_law_raised" "_law_raised" (top 74) 878 (fd_l_raised p) := ⟨⟨_, _, _, _, _, _, _, _, _, rfl, lk_l_raised p, cd_l_raised p⟩, kp_l_raised p⟩
theorem bd_l_raised : Binds (K23 p) (fd_l_raised p) ["asked"] [] := (fn_l_raised p).binds (ps := ["asked"]) fun _ _ _ _ _ _ us hl => match us, hl with | [_], _ => rfl
theorem kp_l_entry : PySem.W.keepIn (K23 p) (.ref 885) = true := by kernel_rfl
theorem lk_l_entry : (K23 p).lookup 885 = some ⟨(oO (K23 p) 885).cls, (oO (K23 p) 885).dict, .func (PySem.W.fnOf "_law_entry" "_law_entry" (defArgs (top 75)) (defBody (top 75)) (defScope (top 75)) .none (fO (K23 p) 885).kwdefaults (fO (K23 p) 885).doc (fO (K23 p) 885).pyModule (fO (K23 p) 885).annotations (fO (K23 p) 885).code (fO (K23 p) 885).closureTuple), (oO (K23 p) 885).slots⟩ := by kernel_rfl
theorem cd_l_entry : PySem.W.codeIn (K23 p) (fO (K23 p) 885).code "_law_entry" = true := by kernel_rfl
noncomputable abbrev fd_l_entry (p : Params) : FuncData := PySem.W.fnOf "_law_entry" "_law_entry" (defArgs (top 75)) (defBody (top 75)) (defScope (top 75)) .none (fO (K23 p) 885).kwdefaults (fO (K23 p) 885).doc (fO (K23 p) 885).pyModule (fO (K23 p) 885).annotations (fO (K23 p) 885).code (fO (K23 p) 885).closureTuple
theorem fn_l_entry : Fun (K23 p) "_law_entry" "_law_entry" (top 75) 885 (fd_l_entry p) := ⟨⟨_, _, _, _, _, _, _, _, _, rfl, lk_l_entry p, cd_l_entry p⟩, kp_l_entry p⟩
theorem bd_l_entry : Binds (K23 p) (fd_l_entry p) ["state", "many"] [] := (fn_l_entry p).binds (ps := ["state", "many"]) fun _ _ _ _ _ _ us hl => match us, hl with | [_, _], _ => rfl
theorem kp_l_is_number : PySem.W.keepIn (K23 p) (.ref 892) = true := by kernel_rfl
theorem lk_l_is_number : (K23 p).lookup 892 = some ⟨(oO (K23 p) 892).cls, (oO (K23 p) 892).dict, .func (PySem.W.fnOf "_law_is_number" "_law_is_number" (defArgs (top 76)) (defBody (top 76)) (defScope (top 76)) .none (fO (K23 p) 892).kwdefaults (fO (K23 p) 892).doc (fO (K23 p) 892).pyModule (fO (K23 p) 892).annotations (fO (K23 p) 892).code (fO (K23 p) 892).closureTuple), (oO (K23 p) 892).slots⟩ := by kernel_rfl
theorem cd_l_is_number : PySem.W.codeIn (K23 p) (fO (K23 p) 892).code "_law_is_number" = true := by kernel_rfl
noncomputable abbrev fd_l_is_number (p : Params) : FuncData := PySem.W.fnOf "_law_is_number" "_law_is_number" (defArgs (top 76)) (defBody (top 76)) (defScope (top 76)) .none (fO (K23 p) 892).kwdefaults (fO (K23 p) 892).doc (fO (K23 p) 892).pyModule (fO (K23 p) 892).annotations (fO (K23 p) 892).code (fO (K23 p) 892).closureTuple
theorem fn_l_is_number : Fun (K23 p) "_law_is_number" "_law_is_number" (top 76) 892 (fd_l_is_number p) := ⟨⟨_, _, _, _, _, _, _, _, _, rfl, lk_l_is_number p, cd_l_is_number p⟩, kp_l_is_number p⟩
theorem bd_l_is_number : Binds (K23 p) (fd_l_is_number p) ["thing"] [] := (fn_l_is_number p).binds (ps := ["thing"]) fun _ _ _ _ _ _ us hl => match us, hl with | [_], _ => rfl
theorem kp_l_due : PySem.W.keepIn (K23 p) (.ref 899) = true := by kernel_rfl
theorem lk_l_due : (K23 p).lookup 899 = some ⟨(oO (K23 p) 899).cls, (oO (K23 p) 899).dict, .func (PySem.W.fnOf "_law_due" "_law_due" (defArgs (top 77)) (defBody (top 77)) (defScope (top 77)) .none (fO (K23 p) 899).kwdefaults (fO (K23 p) 899).doc (fO (K23 p) 899).pyModule (fO (K23 p) 899).annotations (fO (K23 p) 899).code (fO (K23 p) 899).closureTuple), (oO (K23 p) 899).slots⟩ := by kernel_rfl
theorem cd_l_due : PySem.W.codeIn (K23 p) (fO (K23 p) 899).code "_law_due" = true := by kernel_rfl
noncomputable abbrev fd_l_due (p : Params) : FuncData := PySem.W.fnOf "_law_due" "_law_due" (defArgs (top 77)) (defBody (top 77)) (defScope (top 77)) .none (fO (K23 p) 899).kwdefaults (fO (K23 p) 899).doc (fO (K23 p) 899).pyModule (fO (K23 p) 899).annotations (fO (K23 p) 899).code (fO (K23 p) 899).closureTuple
theorem fn_l_due : Fun (K23 p) "_law_due" "_law_due" (top 77) 899 (fd_l_due p) := ⟨⟨_, _, _, _, _, _, _, _, _, rfl, lk_l_due p, cd_l_due p⟩, kp_l_due p⟩
theorem bd_l_due : Binds (K23 p) (fd_l_due p) ["thing"] [] := (fn_l_due p).binds (ps := ["thing"]) fun _ _ _ _ _ _ us hl => match us, hl with | [_], _ => rfl
theorem kp_l_bent : PySem.W.keepIn (K23 p) (.ref 906) = true := by kernel_rfl
theorem lk_l_bent : (K23 p).lookup 906 = some ⟨(oO (K23 p) 906).cls, (oO (K23 p) 906).dict, .func (PySem.W.fnOf "_law_bent" "_law_bent" (defArgs (top 78)) (defBody (top 78)) (defScope (top 78)) .none (fO (K23 p) 906).kwdefaults (fO (K23 p) 906).doc (fO (K23 p) 906).pyModule (fO (K23 p) 906).annotations (fO (K23 p) 906).code (fO (K23 p) 906).closureTuple), (oO (K23 p) 906).slots⟩ := by kernel_rfl
theorem cd_l_bent : PySem.W.codeIn (K23 p) (fO (K23 p) 906).code "_law_bent" = true := by kernel_rfl
noncomputable abbrev fd_l_bent (p : Params) : FuncData := PySem.W.fnOf "_law_bent" "_law_bent" (defArgs (top 78)) (defBody (top 78)) (defScope (top 78)) .none (fO (K23 p) 906).kwdefaults (fO (K23 p) 906).doc (fO (K23 p) 906).pyModule (fO (K23 p) 906).annotations (fO (K23 p) 906).code (fO (K23 p) 906).closureTuple
theorem fn_l_bent : Fun (K23 p) "_law_bent" "_law_bent" (top 78) 906 (fd_l_bent p) := ⟨⟨_, _, _, _, _, _, _, _, _, rfl, lk_l_bent p, cd_l_bent p⟩, kp_l_bent p⟩
theorem bd_l_bent : Binds (K23 p) (fd_l_bent p) ["state", "entry"] [] := (fn_l_bent p).binds (ps := ["state", "entry"]) fun _ _ _ _ _ _ us hl => match us, hl with | [_, _], _ => rfl
theorem kp_l_put : PySem.W.keepIn (K23 p) (.ref 913) = true := by kernel_rfl
theorem lk_l_put : (K23 p).lookup 913 = some ⟨(oO (K23 p) 913).cls, (oO (K23 p) 913).dict, .func (PySem.W.fnOf "_law_put" "_law_put" (defArgs (top 79)) (defBody (top 79)) (defScope (top 79)) .none (fO (K23 p) 913).kwdefaults (fO (K23 p) 913).doc (fO (K23 p) 913).pyModule (fO (K23 p) 913).annotations (fO (K23 p) 913).code (fO (K23 p) 913).closureTuple), (oO (K23 p) 913).slots⟩ := by kernel_rfl
theorem cd_l_put : PySem.W.codeIn (K23 p) (fO (K23 p) 913).code "_law_put" = true := by kernel_rfl
noncomputable abbrev fd_l_put (p : Params) : FuncData := PySem.W.fnOf "_law_put" "_law_put" (defArgs (top 79)) (defBody (top 79)) (defScope (top 79)) .none (fO (K23 p) 913).kwdefaults (fO (K23 p) 913).doc (fO (K23 p) 913).pyModule (fO (K23 p) 913).annotations (fO (K23 p) 913).code (fO (K23 p) 913).closureTuple
theorem fn_l_put : Fun (K23 p) "_law_put" "_law_put" (top 79) 913 (fd_l_put p) := ⟨⟨_, _, _, _, _, _, _, _, _, rfl, lk_l_put p, cd_l_put p⟩, kp_l_put p⟩
theorem bd_l_put : Binds (K23 p) (fd_l_put p) ["index", "name", "entry"] [] := (fn_l_put p).binds (ps := ["index", "name", "entry"]) fun _ _ _ _ _ _ us hl => match us, hl with | [_, _, _], _ => rfl
theorem kp_law : PySem.W.keepIn (K23 p) (.ref 920) = true := by kernel_rfl
theorem lk_law : (K23 p).lookup 920 = some ⟨(oO (K23 p) 920).cls, (oO (K23 p) 920).dict, .func (PySem.W.fnOf "law" "law" (defArgs (top 80)) (defBody (top 80)) (defScope (top 80)) .none (fO (K23 p) 920).kwdefaults (fO (K23 p) 920).doc (fO (K23 p) 920).pyModule (fO (K23 p) 920).annotations (fO (K23 p) 920).code (fO (K23 p) 920).closureTuple), (oO (K23 p) 920).slots⟩ := by kernel_rfl
theorem cd_law : PySem.W.codeIn (K23 p) (fO (K23 p) 920).code "law" = true := by kernel_rfl
noncomputable abbrev fd_law (p : Params) : FuncData := PySem.W.fnOf "law" "law" (defArgs (top 80)) (defBody (top 80)) (defScope (top 80)) .none (fO (K23 p) 920).kwdefaults (fO (K23 p) 920).doc (fO (K23 p) 920).pyModule (fO (K23 p) 920).annotations (fO (K23 p) 920).code (fO (K23 p) 920).closureTuple
theorem fn_law : Fun (K23 p) "law" "law" (top 80) 920 (fd_law p) := ⟨⟨_, _, _, _, _, _, _, _, _, rfl, lk_law p, cd_law p⟩, kp_law p⟩
theorem bd_law : Binds (K23 p) (fd_law p) ["script"] [] := (fn_law p).binds (ps := ["script"]) fun _ _ _ _ _ _ us hl => match us, hl with | [_], _ => rfl
theorem cl_Style : Cls (K23 p) 616 := ⟨by kernel_rfl, by kernel_rfl, by kernel_rfl, by kernel_rfl⟩
theorem na_Style_stored_base : NoAttr (K23 p) 616 "stored_base" := (show PySem.W.findIn (K23 p) (.ref 616) "stored_base" = some none by kernel_rfl)
theorem na_Style_stored_rules : NoAttr (K23 p) 616 "stored_rules" := (show PySem.W.findIn (K23 p) (.ref 616) "stored_rules" = some none by kernel_rfl)
theorem mk_Style : Mk (K23 p) 616 503 := ⟨by kernel_rfl, by kernel_rfl, by kernel_rfl, by kernel_rfl⟩
theorem kp_Style___init__ : PySem.W.keepIn (K23 p) (.ref 503) = true := by kernel_rfl
theorem lk_Style___init__ : (K23 p).lookup 503 = some ⟨(oO (K23 p) 503).cls, (oO (K23 p) 503).dict, .func (PySem.W.fnOf "__init__" "Style.__init__" (defArgs (inClass (top 50) 0)) (defBody (inClass (top 50) 0)) (defScope (inClass (top 50) 0)) .none (fO (K23 p) 503).kwdefaults (fO (K23 p) 503).doc (fO (K23 p) 503).pyModule (fO (K23 p) 503).annotations (fO (K23 p) 503).code (fO (K23 p) 503).closureTuple), (oO (K23 p) 503).slots⟩ := by kernel_rfl
theorem cd_Style___init__ : PySem.W.codeIn (K23 p) (fO (K23 p) 503).code "Style.__init__" = true := by kernel_rfl
noncomputable abbrev fd_Style___init__ (p : Params) : FuncData := PySem.W.fnOf "__init__" "Style.__init__" (defArgs (inClass (top 50) 0)) (defBody (inClass (top 50) 0)) (defScope (inClass (top 50) 0)) .none (fO (K23 p) 503).kwdefaults (fO (K23 p) 503).doc (fO (K23 p) 503).pyModule (fO (K23 p) 503).annotations (fO (K23 p) 503).code (fO (K23 p) 503).closureTuple

theorem kp_Style_of : PySem.W.keepIn (K23 p) (.ref 510) = true := by kernel_rfl
theorem lk_Style_of : (K23 p).lookup 510 = some ⟨(oO (K23 p) 510).cls, (oO (K23 p) 510).dict, .func (PySem.W.fnOf "of" "Style.of" (defArgs (inClass (top 50) 1)) (defBody (inClass (top 50) 1)) (defScope (inClass (top 50) 1)) .none (fO (K23 p) 510).kwdefaults (fO (K23 p) 510).doc (fO (K23 p) 510).pyModule (fO (K23 p) 510).annotations (fO (K23 p) 510).code (fO (K23 p) 510).closureTuple), (oO (K23 p) 510).slots⟩ := by kernel_rfl
theorem cd_Style_of : PySem.W.codeIn (K23 p) (fO (K23 p) 510).code "Style.of" = true := by kernel_rfl
noncomputable abbrev fd_Style_of (p : Params) : FuncData := PySem.W.fnOf "of" "Style.of" (defArgs (inClass (top 50) 1)) (defBody (inClass (top 50) 1)) (defScope (inClass (top 50) 1)) .none (fO (K23 p) 510).kwdefaults (fO (K23 p) 510).doc (fO (K23 p) 510).pyModule (fO (K23 p) 510).annotations (fO (K23 p) 510).code (fO (K23 p) 510).closureTuple
theorem fn_Style_of : Fun (K23 p) "of" "Style.of" (inClass (top 50) 1) 510 (fd_Style_of p) := ⟨⟨_, _, _, _, _, _, _, _, _, rfl, lk_Style_of p, cd_Style_of p⟩, kp_Style_of p⟩
theorem bd_Style_of : Binds (K23 p) (fd_Style_of p) ["cls", "base", "rules"] [] := (fn_Style_of p).binds (ps := ["cls", "base", "rules"]) fun _ _ _ _ _ _ us hl => match us, hl with | [_, _, _], _ => rfl
theorem cr_Style : ClX.CRead (K23 p) 616 (.type "type") := ⟨by kernel_rfl, by kernel_rfl⟩
theorem cm_Style_of : ClX.CMet (K23 p) 616 (.type "type") "of" 512 510 := ⟨by kernel_rfl, ⟨((PySem.W.recIn (K23 p) 512 "classmethod").getD []).tail, by kernel_rfl⟩, by kernel_rfl⟩
theorem kp_Style_base : PySem.W.keepIn (K23 p) (.ref 520) = true := by kernel_rfl
theorem lk_Style_base : (K23 p).lookup 520 = some ⟨(oO (K23 p) 520).cls, (oO (K23 p) 520).dict, .func (PySem.W.fnOf "base" "Style.base" (defArgs (inClass (top 50) 2)) (defBody (inClass (top 50) 2)) (defScope (inClass (top 50) 2)) .none (fO (K23 p) 520).kwdefaults (fO (K23 p) 520).doc (fO (K23 p) 520).pyModule (fO (K23 p) 520).annotations (fO (K23 p) 520).code (fO (K23 p) 520).closureTuple), (oO (K23 p) 520).slots⟩ := by kernel_rfl
theorem cd_Style_base : PySem.W.codeIn (K23 p) (fO (K23 p) 520).code "Style.base" = true := by kernel_rfl
noncomputable abbrev fd_Style_base (p : Params) : FuncData := PySem.W.fnOf "base" "Style.base" (defArgs (inClass (top 50) 2)) (defBody (inClass (top 50) 2)) (defScope (inClass (top 50) 2)) .none (fO (K23 p) 520).kwdefaults (fO (K23 p) 520).doc (fO (K23 p) 520).pyModule (fO (K23 p) 520).annotations (fO (K23 p) 520).code (fO (K23 p) 520).closureTuple
theorem fn_Style_base : Fun (K23 p) "base" "Style.base" (inClass (top 50) 2) 520 (fd_Style_base p) := ⟨⟨_, _, _, _, _, _, _, _, _, rfl, lk_Style_base p, cd_Style_base p⟩, kp_Style_base p⟩
theorem bd_Style_base : Binds (K23 p) (fd_Style_base p) ["self"] [] := (fn_Style_base p).binds (ps := ["self"]) fun _ _ _ _ _ _ us hl => match us, hl with | [_], _ => rfl
theorem pr_Style_base : PropOf (K23 p) 616 "base" 521 520 := ⟨by kernel_rfl, by kernel_rfl, by kernel_rfl, ⟨((PySem.W.recIn (K23 p) 521 "property").getD []).tail, by kernel_rfl⟩⟩
theorem kp_Style_rules : PySem.W.keepIn (K23 p) (.ref 528) = true := by kernel_rfl
theorem lk_Style_rules : (K23 p).lookup 528 = some ⟨(oO (K23 p) 528).cls, (oO (K23 p) 528).dict, .func (PySem.W.fnOf "rules" "Style.rules" (defArgs (inClass (top 50) 3)) (defBody (inClass (top 50) 3)) (defScope (inClass (top 50) 3)) .none (fO (K23 p) 528).kwdefaults (fO (K23 p) 528).doc (fO (K23 p) 528).pyModule (fO (K23 p) 528).annotations (fO (K23 p) 528).code (fO (K23 p) 528).closureTuple), (oO (K23 p) 528).slots⟩ := by kernel_rfl
theorem cd_Style_rules : PySem.W.codeIn (K23 p) (fO (K23 p) 528).code "Style.rules" = true := by kernel_rfl
noncomputable abbrev fd_Style_rules (p : Params) : FuncData := PySem.W.fnOf "rules" "Style.rules" (defArgs (inClass (top 50) 3)) (defBody (inClass (top 50) 3)) (defScope (inClass (top 50) 3)) .none (fO (K23 p) 528).kwdefaults (fO (K23 p) 528).doc (fO (K23 p) 528).pyModule (fO (K23 p) 528).annotations (fO (K23 p) 528).code (fO (K23 p) 528).closureTuple
theorem fn_Style_rules : Fun (K23 p) "rules" "Style.rules" (inClass (top 50) 3) 528 (fd_Style_rules p) := ⟨⟨_, _, _, _, _, _, _, _, _, rfl, lk_Style_rules p, cd_Style_rules p⟩, kp_Style_rules p⟩
theorem bd_Style_rules : Binds (K23 p) (fd_Style_rules p) ["self"] [] := (fn_Style_rules p).binds (ps := ["self"]) fun _ _ _ _ _ _ us hl => match us, hl with | [_], _ => rfl
theorem pr_Style_rules : PropOf (K23 p) 616 "rules" 529 528 := ⟨by kernel_rfl, by kernel_rfl, by kernel_rfl, ⟨((PySem.W.recIn (K23 p) 529 "property").getD []).tail, by kernel_rfl⟩⟩
theorem kp_Style_kept : PySem.W.keepIn (K23 p) (.ref 543) = true := by kernel_rfl
theorem lk_Style_kept : (K23 p).lookup 543 = some ⟨(oO (K23 p) 543).cls, (oO (K23 p) 543).dict, .func (PySem.W.fnOf "kept" "Style.kept" (defArgs (inClass (top 50) 5)) (defBody (inClass (top 50) 5)) (defScope (inClass (top 50) 5)) .none (fO (K23 p) 543).kwdefaults (fO (K23 p) 543).doc (fO (K23 p) 543).pyModule (fO (K23 p) 543).annotations (fO (K23 p) 543).code (fO (K23 p) 543).closureTuple), (oO (K23 p) 543).slots⟩ := by kernel_rfl
theorem cd_Style_kept : PySem.W.codeIn (K23 p) (fO (K23 p) 543).code "Style.kept" = true := by kernel_rfl
noncomputable abbrev fd_Style_kept (p : Params) : FuncData := PySem.W.fnOf "kept" "Style.kept" (defArgs (inClass (top 50) 5)) (defBody (inClass (top 50) 5)) (defScope (inClass (top 50) 5)) .none (fO (K23 p) 543).kwdefaults (fO (K23 p) 543).doc (fO (K23 p) 543).pyModule (fO (K23 p) 543).annotations (fO (K23 p) 543).code (fO (K23 p) 543).closureTuple
theorem fn_Style_kept : Fun (K23 p) "kept" "Style.kept" (inClass (top 50) 5) 543 (fd_Style_kept p) := ⟨⟨_, _, _, _, _, _, _, _, _, rfl, lk_Style_kept p, cd_Style_kept p⟩, kp_Style_kept p⟩
theorem bd_Style_kept : Binds (K23 p) (fd_Style_kept p) ["self", "first", "second"] [] := (fn_Style_kept p).binds (ps := ["self", "first", "second"]) fun _ _ _ _ _ _ us hl => match us, hl with | [_, _, _], _ => rfl
theorem mt_Style_kept : Meth (K23 p) 616 "kept" 543 := ⟨by kernel_rfl, by kernel_rfl, by kernel_rfl⟩
theorem at_Style_kept : PySem.W.findIn (K23 p) (.ref 616) "kept" = some (some (.ref 543)) := by kernel_rfl
theorem is_Style_kept : PySem.W.isFn (K23 p) (.ref 543) = true := by kernel_rfl
theorem fi_Style_kept : PySem.W.fnIn (K23 p) 543 = true := by kernel_rfl
theorem kp_Style_tail : PySem.W.keepIn (K23 p) (.ref 550) = true := by kernel_rfl
theorem lk_Style_tail : (K23 p).lookup 550 = some ⟨(oO (K23 p) 550).cls, (oO (K23 p) 550).dict, .func (PySem.W.fnOf "tail" "Style.tail" (defArgs (inClass (top 50) 6)) (defBody (inClass (top 50) 6)) (defScope (inClass (top 50) 6)) .none (fO (K23 p) 550).kwdefaults (fO (K23 p) 550).doc (fO (K23 p) 550).pyModule (fO (K23 p) 550).annotations (fO (K23 p) 550).code (fO (K23 p) 550).closureTuple), (oO (K23 p) 550).slots⟩ := by kernel_rfl
theorem cd_Style_tail : PySem.W.codeIn (K23 p) (fO (K23 p) 550).code "Style.tail" = true := by kernel_rfl
noncomputable abbrev fd_Style_tail (p : Params) : FuncData := PySem.W.fnOf "tail" "Style.tail" (defArgs (inClass (top 50) 6)) (defBody (inClass (top 50) 6)) (defScope (inClass (top 50) 6)) .none (fO (K23 p) 550).kwdefaults (fO (K23 p) 550).doc (fO (K23 p) 550).pyModule (fO (K23 p) 550).annotations (fO (K23 p) 550).code (fO (K23 p) 550).closureTuple
theorem fn_Style_tail : Fun (K23 p) "tail" "Style.tail" (inClass (top 50) 6) 550 (fd_Style_tail p) := ⟨⟨_, _, _, _, _, _, _, _, _, rfl, lk_Style_tail p, cd_Style_tail p⟩, kp_Style_tail p⟩
theorem bd_Style_tail : Binds (K23 p) (fd_Style_tail p) ["self", "first", "second"] [] := (fn_Style_tail p).binds (ps := ["self", "first", "second"]) fun _ _ _ _ _ _ us hl => match us, hl with | [_, _, _], _ => rfl
theorem mt_Style_tail : Meth (K23 p) 616 "tail" 550 := ⟨by kernel_rfl, by kernel_rfl, by kernel_rfl⟩
theorem at_Style_tail : PySem.W.findIn (K23 p) (.ref 616) "tail" = some (some (.ref 550)) := by kernel_rfl
theorem is_Style_tail : PySem.W.isFn (K23 p) (.ref 550) = true := by kernel_rfl
theorem fi_Style_tail : PySem.W.fnIn (K23 p) 550 = true := by kernel_rfl
theorem kp_Style___call__ : PySem.W.keepIn (K23 p) (.ref 557) = true := by kernel_rfl
theorem lk_Style___call__ : (K23 p).lookup 557 = some ⟨(oO (K23 p) 557).cls, (oO (K23 p) 557).dict, .func (PySem.W.fnOf "__call__" "Style.__call__" (defArgs (inClass (top 50) 7)) (defBody (inClass (top 50) 7)) (defScope (inClass (top 50) 7)) .none (fO (K23 p) 557).kwdefaults (fO (K23 p) 557).doc (fO (K23 p) 557).pyModule (fO (K23 p) 557).annotations (fO (K23 p) 557).code (fO (K23 p) 557).closureTuple), (oO (K23 p) 557).slots⟩ := by kernel_rfl
theorem cd_Style___call__ : PySem.W.codeIn (K23 p) (fO (K23 p) 557).code "Style.__call__" = true := by kernel_rfl
noncomputable abbrev fd_Style___call__ (p : Params) : FuncData := PySem.W.fnOf "__call__" "Style.__call__" (defArgs (inClass (top 50) 7)) (defBody (inClass (top 50) 7)) (defScope (inClass (top 50) 7)) .none (fO (K23 p) 557).kwdefaults (fO (K23 p) 557).doc (fO (K23 p) 557).pyModule (fO (K23 p) 557).annotations (fO (K23 p) 557).code (fO (K23 p) 557).closureTuple
theorem fn_Style___call__ : Fun (K23 p) "__call__" "Style.__call__" (inClass (top 50) 7) 557 (fd_Style___call__ p) := ⟨⟨_, _, _, _, _, _, _, _, _, rfl, lk_Style___call__ p, cd_Style___call__ p⟩, kp_Style___call__ p⟩
theorem bd_Style___call__ : Binds (K23 p) (fd_Style___call__ p) ["self", "first", "second"] [] := (fn_Style___call__ p).binds (ps := ["self", "first", "second"]) fun _ _ _ _ _ _ us hl => match us, hl with | [_, _, _], _ => rfl
theorem mt_Style___call__ : StX.CallO (K23 p) 616 557 := ⟨by kernel_rfl, by kernel_rfl, by kernel_rfl⟩
theorem at_Style___call__ : PySem.W.findIn (K23 p) (.ref 616) "__call__" = some (some (.ref 557)) := by kernel_rfl
theorem is_Style___call__ : PySem.W.isFn (K23 p) (.ref 557) = true := by kernel_rfl
theorem fi_Style___call__ : PySem.W.fnIn (K23 p) 557 = true := by kernel_rfl
theorem kp_Style___len__ : PySem.W.keepIn (K23 p) (.ref 564) = true := by kernel_rfl
theorem lk_Style___len__ : (K23 p).lookup 564 = some ⟨(oO (K23 p) 564).cls, (oO (K23 p) 564).dict, .func (PySem.W.fnOf "__len__" "Style.__len__" (defArgs (inClass (top 50) 8)) (defBody (inClass (top 50) 8)) (defScope (inClass (top 50) 8)) .none (fO (K23 p) 564).kwdefaults (fO (K23 p) 564).doc (fO (K23 p) 564).pyModule (fO (K23 p) 564).annotations (fO (K23 p) 564).code (fO (K23 p) 564).closureTuple), (oO (K23 p) 564).slots⟩ := by kernel_rfl
theorem cd_Style___len__ : PySem.W.codeIn (K23 p) (fO (K23 p) 564).code "Style.__len__" = true := by kernel_rfl
noncomputable abbrev fd_Style___len__ (p : Params) : FuncData := PySem.W.fnOf "__len__" "Style.__len__" (defArgs (inClass (top 50) 8)) (defBody (inClass (top 50) 8)) (defScope (inClass (top 50) 8)) .none (fO (K23 p) 564).kwdefaults (fO (K23 p) 564).doc (fO (K23 p) 564).pyModule (fO (K23 p) 564).annotations (fO (K23 p) 564).code (fO (K23 p) 564).closureTuple
theorem fn_Style___len__ : Fun (K23 p) "__len__" "Style.__len__" (inClass (top 50) 8) 564 (fd_Style___len__ p) := ⟨⟨_, _, _, _, _, _, _, _, _, rfl, lk_Style___len__ p, cd_Style___len__ p⟩, kp_Style___len__ p⟩
theorem bd_Style___len__ : Binds (K23 p) (fd_Style___len__ p) ["self"] [] := (fn_Style___len__ p).binds (ps := ["self"]) fun _ _ _ _ _ _ us hl => match us, hl with | [_], _ => rfl
theorem mt_Style___len__ : Meth (K23 p) 616 "__len__" 564 := ⟨by kernel_rfl, by kernel_rfl, by kernel_rfl⟩
theorem at_Style___len__ : PySem.W.findIn (K23 p) (.ref 616) "__len__" = some (some (.ref 564)) := by kernel_rfl
theorem is_Style___len__ : PySem.W.isFn (K23 p) (.ref 564) = true := by kernel_rfl
theorem fi_Style___len__ : PySem.W.fnIn (K23 p) 564 = true := by kernel_rfl
theorem kp_Style___getitem__ : PySem.W.keepIn (K23 p) (.ref 571) = true := by kernel_rfl
theorem lk_Style___getitem__ : (K23 p).lookup 571 = some ⟨(oO (K23 p) 571).cls, (oO (K23 p) 571).dict, .func (PySem.W.fnOf "__getitem__" "Style.__getitem__" (defArgs (inClass (top 50) 9)) (defBody (inClass (top 50) 9)) (defScope (inClass (top 50) 9)) .none (fO (K23 p) 571).kwdefaults (fO (K23 p) 571).doc (fO (K23 p) 571).pyModule (fO (K23 p) 571).annotations (fO (K23 p) 571).code (fO (K23 p) 571).closureTuple), (oO (K23 p) 571).slots⟩ := by kernel_rfl
theorem cd_Style___getitem__ : PySem.W.codeIn (K23 p) (fO (K23 p) 571).code "Style.__getitem__" = true := by kernel_rfl
noncomputable abbrev fd_Style___getitem__ (p : Params) : FuncData := PySem.W.fnOf "__getitem__" "Style.__getitem__" (defArgs (inClass (top 50) 9)) (defBody (inClass (top 50) 9)) (defScope (inClass (top 50) 9)) .none (fO (K23 p) 571).kwdefaults (fO (K23 p) 571).doc (fO (K23 p) 571).pyModule (fO (K23 p) 571).annotations (fO (K23 p) 571).code (fO (K23 p) 571).closureTuple
theorem fn_Style___getitem__ : Fun (K23 p) "__getitem__" "Style.__getitem__" (inClass (top 50) 9) 571 (fd_Style___getitem__ p) := ⟨⟨_, _, _, _, _, _, _, _, _, rfl, lk_Style___getitem__ p, cd_Style___getitem__ p⟩, kp_Style___getitem__ p⟩
theorem bd_Style___getitem__ : Binds (K23 p) (fd_Style___getitem__ p) ["self", "number"] [] := (fn_Style___getitem__ p).binds (ps := ["self", "number"]) fun _ _ _ _ _ _ us hl => match us, hl with | [_, _], _ => rfl
theorem mt_Style___getitem__ : Meth (K23 p) 616 "__getitem__" 571 := ⟨by kernel_rfl, by kernel_rfl, by kernel_rfl⟩
theorem at_Style___getitem__ : PySem.W.findIn (K23 p) (.ref 616) "__getitem__" = some (some (.ref 571)) := by kernel_rfl
theorem is_Style___getitem__ : PySem.W.isFn (K23 p) (.ref 571) = true := by kernel_rfl
theorem fi_Style___getitem__ : PySem.W.fnIn (K23 p) 571 = true := by kernel_rfl
theorem kp_Style___iter__ : PySem.W.keepIn (K23 p) (.ref 578) = true := by kernel_rfl
theorem lk_Style___iter__ : (K23 p).lookup 578 = some ⟨(oO (K23 p) 578).cls, (oO (K23 p) 578).dict, .func (PySem.W.fnOf "__iter__" "Style.__iter__" (defArgs (inClass (top 50) 10)) (defBody (inClass (top 50) 10)) (defScope (inClass (top 50) 10)) .none (fO (K23 p) 578).kwdefaults (fO (K23 p) 578).doc (fO (K23 p) 578).pyModule (fO (K23 p) 578).annotations (fO (K23 p) 578).code (fO (K23 p) 578).closureTuple), (oO (K23 p) 578).slots⟩ := by kernel_rfl
theorem cd_Style___iter__ : PySem.W.codeIn (K23 p) (fO (K23 p) 578).code "Style.__iter__" = true := by kernel_rfl
noncomputable abbrev fd_Style___iter__ (p : Params) : FuncData := PySem.W.fnOf "__iter__" "Style.__iter__" (defArgs (inClass (top 50) 10)) (defBody (inClass (top 50) 10)) (defScope (inClass (top 50) 10)) .none (fO (K23 p) 578).kwdefaults (fO (K23 p) 578).doc (fO (K23 p) 578).pyModule (fO (K23 p) 578).annotations (fO (K23 p) 578).code (fO (K23 p) 578).closureTuple
theorem fn_Style___iter__ : Fun (K23 p) "__iter__" "Style.__iter__" (inClass (top 50) 10) 578 (fd_Style___iter__ p) := ⟨⟨_, _, _, _, _, _, _, _, _, rfl, lk_Style___iter__ p, cd_Style___iter__ p⟩, kp_Style___iter__ p⟩
theorem bd_Style___iter__ : Binds (K23 p) (fd_Style___iter__ p) ["self"] [] := (fn_Style___iter__ p).binds (ps := ["self"]) fun _ _ _ _ _ _ us hl => match us, hl with | [_], _ => rfl
theorem mt_Style___iter__ : Meth (K23 p) 616 "__iter__" 578 := ⟨by kernel_rfl, by kernel_rfl, by kernel_rfl⟩
theorem at_Style___iter__ : PySem.W.findIn (K23 p) (.ref 616) "__iter__" = some (some (.ref 578)) := by kernel_rfl
theorem is_Style___iter__ : PySem.W.isFn (K23 p) (.ref 578) = true := by kernel_rfl
theorem fi_Style___iter__ : PySem.W.fnIn (K23 p) 578 = true := by kernel_rfl
theorem kp_Style___contains__ : PySem.W.keepIn (K23 p) (.ref 585) = true := by kernel_rfl
theorem lk_Style___contains__ : (K23 p).lookup 585 = some ⟨(oO (K23 p) 585).cls, (oO (K23 p) 585).dict, .func (PySem.W.fnOf "__contains__" "Style.__contains__" (defArgs (inClass (top 50) 11)) (defBody (inClass (top 50) 11)) (defScope (inClass (top 50) 11)) .none (fO (K23 p) 585).kwdefaults (fO (K23 p) 585).doc (fO (K23 p) 585).pyModule (fO (K23 p) 585).annotations (fO (K23 p) 585).code (fO (K23 p) 585).closureTuple), (oO (K23 p) 585).slots⟩ := by kernel_rfl
theorem cd_Style___contains__ : PySem.W.codeIn (K23 p) (fO (K23 p) 585).code "Style.__contains__" = true := by kernel_rfl
noncomputable abbrev fd_Style___contains__ (p : Params) : FuncData := PySem.W.fnOf "__contains__" "Style.__contains__" (defArgs (inClass (top 50) 11)) (defBody (inClass (top 50) 11)) (defScope (inClass (top 50) 11)) .none (fO (K23 p) 585).kwdefaults (fO (K23 p) 585).doc (fO (K23 p) 585).pyModule (fO (K23 p) 585).annotations (fO (K23 p) 585).code (fO (K23 p) 585).closureTuple
theorem fn_Style___contains__ : Fun (K23 p) "__contains__" "Style.__contains__" (inClass (top 50) 11) 585 (fd_Style___contains__ p) := ⟨⟨_, _, _, _, _, _, _, _, _, rfl, lk_Style___contains__ p, cd_Style___contains__ p⟩, kp_Style___contains__ p⟩
theorem bd_Style___contains__ : Binds (K23 p) (fd_Style___contains__ p) ["self", "value"] [] := (fn_Style___contains__ p).binds (ps := ["self", "value"]) fun _ _ _ _ _ _ us hl => match us, hl with | [_, _], _ => rfl
theorem mt_Style___contains__ : Meth (K23 p) 616 "__contains__" 585 := ⟨by kernel_rfl, by kernel_rfl, by kernel_rfl⟩
theorem at_Style___contains__ : PySem.W.findIn (K23 p) (.ref 616) "__contains__" = some (some (.ref 585)) := by kernel_rfl
theorem is_Style___contains__ : PySem.W.isFn (K23 p) (.ref 585) = true := by kernel_rfl
theorem fi_Style___contains__ : PySem.W.fnIn (K23 p) 585 = true := by kernel_rfl
theorem kp_Style___eq__ : PySem.W.keepIn (K23 p) (.ref 592) = true := by kernel_rfl
theorem lk_Style___eq__ : (K23 p).lookup 592 = some ⟨(oO (K23 p) 592).cls, (oO (K23 p) 592).dict, .func (PySem.W.fnOf "__eq__" "Style.__eq__" (defArgs (inClass (top 50) 12)) (defBody (inClass (top 50) 12)) (defScope (inClass (top 50) 12)) .none (fO (K23 p) 592).kwdefaults (fO (K23 p) 592).doc (fO (K23 p) 592).pyModule (fO (K23 p) 592).annotations (fO (K23 p) 592).code (fO (K23 p) 592).closureTuple), (oO (K23 p) 592).slots⟩ := by kernel_rfl
theorem cd_Style___eq__ : PySem.W.codeIn (K23 p) (fO (K23 p) 592).code "Style.__eq__" = true := by kernel_rfl
noncomputable abbrev fd_Style___eq__ (p : Params) : FuncData := PySem.W.fnOf "__eq__" "Style.__eq__" (defArgs (inClass (top 50) 12)) (defBody (inClass (top 50) 12)) (defScope (inClass (top 50) 12)) .none (fO (K23 p) 592).kwdefaults (fO (K23 p) 592).doc (fO (K23 p) 592).pyModule (fO (K23 p) 592).annotations (fO (K23 p) 592).code (fO (K23 p) 592).closureTuple
theorem fn_Style___eq__ : Fun (K23 p) "__eq__" "Style.__eq__" (inClass (top 50) 12) 592 (fd_Style___eq__ p) := ⟨⟨_, _, _, _, _, _, _, _, _, rfl, lk_Style___eq__ p, cd_Style___eq__ p⟩, kp_Style___eq__ p⟩
theorem bd_Style___eq__ : Binds (K23 p) (fd_Style___eq__ p) ["self", "other"] [] := (fn_Style___eq__ p).binds (ps := ["self", "other"]) fun _ _ _ _ _ _ us hl => match us, hl with | [_, _], _ => rfl
theorem mt_Style___eq__ : Meth (K23 p) 616 "__eq__" 592 := ⟨by kernel_rfl, by kernel_rfl, by kernel_rfl⟩
theorem at_Style___eq__ : PySem.W.findIn (K23 p) (.ref 616) "__eq__" = some (some (.ref 592)) := by kernel_rfl
theorem is_Style___eq__ : PySem.W.isFn (K23 p) (.ref 592) = true := by kernel_rfl
theorem fi_Style___eq__ : PySem.W.fnIn (K23 p) 592 = true := by kernel_rfl
theorem kp_Style___radd__ : PySem.W.keepIn (K23 p) (.ref 599) = true := by kernel_rfl
theorem lk_Style___radd__ : (K23 p).lookup 599 = some ⟨(oO (K23 p) 599).cls, (oO (K23 p) 599).dict, .func (PySem.W.fnOf "__radd__" "Style.__radd__" (defArgs (inClass (top 50) 13)) (defBody (inClass (top 50) 13)) (defScope (inClass (top 50) 13)) .none (fO (K23 p) 599).kwdefaults (fO (K23 p) 599).doc (fO (K23 p) 599).pyModule (fO (K23 p) 599).annotations (fO (K23 p) 599).code (fO (K23 p) 599).closureTuple), (oO (K23 p) 599).slots⟩ := by kernel_rfl
theorem cd_Style___radd__ : PySem.W.codeIn (K23 p) (fO (K23 p) 599).code "Style.__radd__" = true := by kernel_rfl
noncomputable abbrev fd_Style___radd__ (p : Params) : FuncData := PySem.W.fnOf "__radd__" "Style.__radd__" (defArgs (inClass (top 50) 13)) (defBody (inClass (top 50) 13)) (defScope (inClass (top 50) 13)) .none (fO (K23 p) 599).kwdefaults (fO (K23 p) 599).doc (fO (K23 p) 599).pyModule (fO (K23 p) 599).annotations (fO (K23 p) 599).code (fO (K23 p) 599).closureTuple
theorem fn_Style___radd__ : Fun (K23 p) "__radd__" "Style.__radd__" (inClass (top 50) 13) 599 (fd_Style___radd__ p) := ⟨⟨_, _, _, _, _, _, _, _, _, rfl, lk_Style___radd__ p, cd_Style___radd__ p⟩, kp_Style___radd__ p⟩
theorem bd_Style___radd__ : Binds (K23 p) (fd_Style___radd__ p) ["self", "other"] [] := (fn_Style___radd__ p).binds (ps := ["self", "other"]) fun _ _ _ _ _ _ us hl => match us, hl with | [_, _], _ => rfl
theorem mt_Style___radd__ : Meth (K23 p) 616 "__radd__" 599 := ⟨by kernel_rfl, by kernel_rfl, by kernel_rfl⟩
theorem at_Style___radd__ : PySem.W.findIn (K23 p) (.ref 616) "__radd__" = some (some (.ref 599)) := by kernel_rfl
theorem is_Style___radd__ : PySem.W.isFn (K23 p) (.ref 599) = true := by kernel_rfl
theorem fi_Style___radd__ : PySem.W.fnIn (K23 p) 599 = true := by kernel_rfl
theorem kp_Style_without : PySem.W.keepIn (K23 p) (.ref 606) = true := by kernel_rfl
theorem lk_Style_without : (K23 p).lookup 606 = some ⟨(oO (K23 p) 606).cls, (oO (K23 p) 606).dict, .func (PySem.W.fnOf "without" "Style.without" (defArgs (inClass (top 50) 14)) (defBody (inClass (top 50) 14)) (defScope (inClass (top 50) 14)) .none (fO (K23 p) 606).kwdefaults (fO (K23 p) 606).doc (fO (K23 p) 606).pyModule (fO (K23 p) 606).annotations (fO (K23 p) 606).code (fO (K23 p) 606).closureTuple), (oO (K23 p) 606).slots⟩ := by kernel_rfl
theorem cd_Style_without : PySem.W.codeIn (K23 p) (fO (K23 p) 606).code "Style.without" = true := by kernel_rfl
noncomputable abbrev fd_Style_without (p : Params) : FuncData := PySem.W.fnOf "without" "Style.without" (defArgs (inClass (top 50) 14)) (defBody (inClass (top 50) 14)) (defScope (inClass (top 50) 14)) .none (fO (K23 p) 606).kwdefaults (fO (K23 p) 606).doc (fO (K23 p) 606).pyModule (fO (K23 p) 606).annotations (fO (K23 p) 606).code (fO (K23 p) 606).closureTuple
theorem fn_Style_without : Fun (K23 p) "without" "Style.without" (inClass (top 50) 14) 606 (fd_Style_without p) := ⟨⟨_, _, _, _, _, _, _, _, _, rfl, lk_Style_without p, cd_Style_without p⟩, kp_Style_without p⟩
theorem bd_Style_without : Binds (K23 p) (fd_Style_without p) ["self", "number"] [] := (fn_Style_without p).binds (ps := ["self", "number"]) fun _ _ _ _ _ _ us hl => match us, hl with | [_, _], _ => rfl
theorem mt_Style_without : Meth (K23 p) 616 "without" 606 := ⟨by kernel_rfl, by kernel_rfl, by kernel_rfl⟩
theorem at_Style_without : PySem.W.findIn (K23 p) (.ref 616) "without" = some (some (.ref 606)) := by kernel_rfl
theorem is_Style_without : PySem.W.isFn (K23 p) (.ref 606) = true := by kernel_rfl
theorem fi_Style_without : PySem.W.fnIn (K23 p) 606 = true := by kernel_rfl
theorem cl_Index : Cls (K23 p) 841 := ⟨by kernel_rfl, by kernel_rfl, by kernel_rfl, by kernel_rfl⟩
theorem na_Index_stored_style : NoAttr (K23 p) 841 "stored_style" := (show PySem.W.findIn (K23 p) (.ref 841) "stored_style" = some none by kernel_rfl)
theorem na_Index_stored_manner : NoAttr (K23 p) 841 "stored_manner" := (show PySem.W.findIn (K23 p) (.ref 841) "stored_manner" = some none by kernel_rfl)
theorem na_Index_stored_entries : NoAttr (K23 p) 841 "stored_entries" := (show PySem.W.findIn (K23 p) (.ref 841) "stored_entries" = some none by kernel_rfl)
theorem na_Index_past : NoAttr (K23 p) 841 "past" := (show PySem.W.findIn (K23 p) (.ref 841) "past" = some none by kernel_rfl)
theorem kp_Index___init__ : PySem.W.keepIn (K23 p) (.ref 698) = true := by kernel_rfl
theorem lk_Index___init__ : (K23 p).lookup 698 = some ⟨(oO (K23 p) 698).cls, (oO (K23 p) 698).dict, .func (PySem.W.fnOf "__init__" "Index.__init__" (defArgs (inClass (top 68) 0)) (defBody (inClass (top 68) 0)) (defScope (inClass (top 68) 0)) .none (fO (K23 p) 698).kwdefaults (fO (K23 p) 698).doc (fO (K23 p) 698).pyModule (fO (K23 p) 698).annotations (fO (K23 p) 698).code (fO (K23 p) 698).closureTuple), (oO (K23 p) 698).slots⟩ := by kernel_rfl
theorem cd_Index___init__ : PySem.W.codeIn (K23 p) (fO (K23 p) 698).code "Index.__init__" = true := by kernel_rfl
noncomputable abbrev fd_Index___init__ (p : Params) : FuncData := PySem.W.fnOf "__init__" "Index.__init__" (defArgs (inClass (top 68) 0)) (defBody (inClass (top 68) 0)) (defScope (inClass (top 68) 0)) .none (fO (K23 p) 698).kwdefaults (fO (K23 p) 698).doc (fO (K23 p) 698).pyModule (fO (K23 p) 698).annotations (fO (K23 p) 698).code (fO (K23 p) 698).closureTuple

theorem mk_Index : Mk (K23 p) 841 698 := ⟨by kernel_rfl, by kernel_rfl, by kernel_rfl, by kernel_rfl⟩
def kwT (v : Option (Option Value)) : Tok := match v with
  | some (some (.str _ t)) => t
  | _ => default
theorem fnD_Index___init__ : FunD (K23 p) "__init__" "Index.__init__" (defArgs (inClass (top 68) 0)) (defBody (inClass (top 68) 0)) (defScope (inClass (top 68) 0)) [] [("manner", .str "full")] 698 (fd_Index___init__ p) :=
  ⟨⟨_, _, _, _, _, _, _, _, _, _, rfl, lk_Index___init__ p, cd_Index___init__ p, .inl ⟨rfl, rfl⟩, .inr ⟨691, (show (fO (K23 p) 698).kwdefaults = .ref 691 by kernel_rfl), fun q hq => by
    rw [List.mem_singleton.mp hq]
    exact ⟨.str "full" (kwT (PySem.W.nsIn (K23 p) 691 "manner")), (show PySem.W.nsIn (K23 p) 691 "manner" = some (some (.str "full" (kwT (PySem.W.nsIn (K23 p) 691 "manner")))) by kernel_rfl), ⟨_, rfl⟩⟩⟩⟩, kp_Index___init__ p⟩
theorem bdD_Index___init__ : ∃ ds, Vals [V.str "full"] ds ∧ Binds (K23 p) (fd_Index___init__ p) ["self", "style", "manner"] ds :=
  (fnD_Index___init__ p).binds0 (ps := ["self", "style", "manner"]) 2 (by simp) rfl fun D doc pm an cdv ct us ks h1 h2 => match us, ks, h1, h2 with
    | [a, b], [c], _, _ => ⟨_, _, _, _, _, _, by rfl, by rfl, by rfl⟩
theorem sc_set_Index : Ix.SetC (K23 p) 841 742 := ⟨by kernel_rfl, by kernel_rfl, by kernel_rfl⟩
theorem kp_Index_style : PySem.W.keepIn (K23 p) (.ref 705) = true := by kernel_rfl
theorem lk_Index_style : (K23 p).lookup 705 = some ⟨(oO (K23 p) 705).cls, (oO (K23 p) 705).dict, .func (PySem.W.fnOf "style" "Index.style" (defArgs (inClass (top 68) 1)) (defBody (inClass (top 68) 1)) (defScope (inClass (top 68) 1)) .none (fO (K23 p) 705).kwdefaults (fO (K23 p) 705).doc (fO (K23 p) 705).pyModule (fO (K23 p) 705).annotations (fO (K23 p) 705).code (fO (K23 p) 705).closureTuple), (oO (K23 p) 705).slots⟩ := by kernel_rfl
theorem cd_Index_style : PySem.W.codeIn (K23 p) (fO (K23 p) 705).code "Index.style" = true := by kernel_rfl
noncomputable abbrev fd_Index_style (p : Params) : FuncData := PySem.W.fnOf "style" "Index.style" (defArgs (inClass (top 68) 1)) (defBody (inClass (top 68) 1)) (defScope (inClass (top 68) 1)) .none (fO (K23 p) 705).kwdefaults (fO (K23 p) 705).doc (fO (K23 p) 705).pyModule (fO (K23 p) 705).annotations (fO (K23 p) 705).code (fO (K23 p) 705).closureTuple
theorem fn_Index_style : Fun (K23 p) "style" "Index.style" (inClass (top 68) 1) 705 (fd_Index_style p) := ⟨⟨_, _, _, _, _, _, _, _, _, rfl, lk_Index_style p, cd_Index_style p⟩, kp_Index_style p⟩
theorem bd_Index_style : Binds (K23 p) (fd_Index_style p) ["self"] [] := (fn_Index_style p).binds (ps := ["self"]) fun _ _ _ _ _ _ us hl => match us, hl with | [_], _ => rfl
theorem pr_Index_style : PropOf (K23 p) 841 "style" 715 705 := ⟨by kernel_rfl, by kernel_rfl, by kernel_rfl, ⟨((PySem.W.recIn (K23 p) 715 "property").getD []).tail, by kernel_rfl⟩⟩
theorem kp_Index_style_set : PySem.W.keepIn (K23 p) (.ref 714) = true := by kernel_rfl
theorem lk_Index_style_set : (K23 p).lookup 714 = some ⟨(oO (K23 p) 714).cls, (oO (K23 p) 714).dict, .func (PySem.W.fnOf "style" "Index.style" (defArgs (inClass (top 68) 2)) (defBody (inClass (top 68) 2)) (defScope (inClass (top 68) 2)) .none (fO (K23 p) 714).kwdefaults (fO (K23 p) 714).doc (fO (K23 p) 714).pyModule (fO (K23 p) 714).annotations (fO (K23 p) 714).code (fO (K23 p) 714).closureTuple), (oO (K23 p) 714).slots⟩ := by kernel_rfl
theorem cd_Index_style_set : PySem.W.codeIn (K23 p) (fO (K23 p) 714).code "Index.style" = true := by kernel_rfl
noncomputable abbrev fd_Index_style_set (p : Params) : FuncData := PySem.W.fnOf "style" "Index.style" (defArgs (inClass (top 68) 2)) (defBody (inClass (top 68) 2)) (defScope (inClass (top 68) 2)) .none (fO (K23 p) 714).kwdefaults (fO (K23 p) 714).doc (fO (K23 p) 714).pyModule (fO (K23 p) 714).annotations (fO (K23 p) 714).code (fO (K23 p) 714).closureTuple
theorem fn_Index_style_set : Fun (K23 p) "style" "Index.style" (inClass (top 68) 2) 714 (fd_Index_style_set p) := ⟨⟨_, _, _, _, _, _, _, _, _, rfl, lk_Index_style_set p, cd_Index_style_set p⟩, kp_Index_style_set p⟩
theorem bd_Index_style_set : Binds (K23 p) (fd_Index_style_set p) ["self", "other"] [] := (fn_Index_style_set p).binds (ps := ["self", "other"]) fun _ _ _ _ _ _ us hl => match us, hl with | [_, _], _ => rfl
theorem kp_Index_manner : PySem.W.keepIn (K23 p) (.ref 722) = true := by kernel_rfl
theorem lk_Index_manner : (K23 p).lookup 722 = some ⟨(oO (K23 p) 722).cls, (oO (K23 p) 722).dict, .func (PySem.W.fnOf "manner" "Index.manner" (defArgs (inClass (top 68) 3)) (defBody (inClass (top 68) 3)) (defScope (inClass (top 68) 3)) .none (fO (K23 p) 722).kwdefaults (fO (K23 p) 722).doc (fO (K23 p) 722).pyModule (fO (K23 p) 722).annotations (fO (K23 p) 722).code (fO (K23 p) 722).closureTuple), (oO (K23 p) 722).slots⟩ := by kernel_rfl
theorem cd_Index_manner : PySem.W.codeIn (K23 p) (fO (K23 p) 722).code "Index.manner" = true := by kernel_rfl
noncomputable abbrev fd_Index_manner (p : Params) : FuncData := PySem.W.fnOf "manner" "Index.manner" (defArgs (inClass (top 68) 3)) (defBody (inClass (top 68) 3)) (defScope (inClass (top 68) 3)) .none (fO (K23 p) 722).kwdefaults (fO (K23 p) 722).doc (fO (K23 p) 722).pyModule (fO (K23 p) 722).annotations (fO (K23 p) 722).code (fO (K23 p) 722).closureTuple
theorem fn_Index_manner : Fun (K23 p) "manner" "Index.manner" (inClass (top 68) 3) 722 (fd_Index_manner p) := ⟨⟨_, _, _, _, _, _, _, _, _, rfl, lk_Index_manner p, cd_Index_manner p⟩, kp_Index_manner p⟩
theorem bd_Index_manner : Binds (K23 p) (fd_Index_manner p) ["self"] [] := (fn_Index_manner p).binds (ps := ["self"]) fun _ _ _ _ _ _ us hl => match us, hl with | [_], _ => rfl
theorem pr_Index_manner : PropOf (K23 p) 841 "manner" 723 722 := ⟨by kernel_rfl, by kernel_rfl, by kernel_rfl, ⟨((PySem.W.recIn (K23 p) 723 "property").getD []).tail, by kernel_rfl⟩⟩
theorem kp_Index_settle : PySem.W.keepIn (K23 p) (.ref 730) = true := by kernel_rfl
theorem lk_Index_settle : (K23 p).lookup 730 = some ⟨(oO (K23 p) 730).cls, (oO (K23 p) 730).dict, .func (PySem.W.fnOf "settle" "Index.settle" (defArgs (inClass (top 68) 4)) (defBody (inClass (top 68) 4)) (defScope (inClass (top 68) 4)) .none (fO (K23 p) 730).kwdefaults (fO (K23 p) 730).doc (fO (K23 p) 730).pyModule (fO (K23 p) 730).annotations (fO (K23 p) 730).code (fO (K23 p) 730).closureTuple), (oO (K23 p) 730).slots⟩ := by kernel_rfl
theorem cd_Index_settle : PySem.W.codeIn (K23 p) (fO (K23 p) 730).code "Index.settle" = true := by kernel_rfl
noncomputable abbrev fd_Index_settle (p : Params) : FuncData := PySem.W.fnOf "settle" "Index.settle" (defArgs (inClass (top 68) 4)) (defBody (inClass (top 68) 4)) (defScope (inClass (top 68) 4)) .none (fO (K23 p) 730).kwdefaults (fO (K23 p) 730).doc (fO (K23 p) 730).pyModule (fO (K23 p) 730).annotations (fO (K23 p) 730).code (fO (K23 p) 730).closureTuple
theorem fn_Index_settle : Fun (K23 p) "settle" "Index.settle" (inClass (top 68) 4) 730 (fd_Index_settle p) := ⟨⟨_, _, _, _, _, _, _, _, _, rfl, lk_Index_settle p, cd_Index_settle p⟩, kp_Index_settle p⟩
theorem bd_Index_settle : Binds (K23 p) (fd_Index_settle p) ["self", "style", "entries"] [] := (fn_Index_settle p).binds (ps := ["self", "style", "entries"]) fun _ _ _ _ _ _ us hl => match us, hl with | [_, _, _], _ => rfl
theorem mt_Index_settle : Meth (K23 p) 841 "settle" 730 := ⟨by kernel_rfl, by kernel_rfl, by kernel_rfl⟩
theorem at_Index_settle : PySem.W.findIn (K23 p) (.ref 841) "settle" = some (some (.ref 730)) := by kernel_rfl
theorem is_Index_settle : PySem.W.isFn (K23 p) (.ref 730) = true := by kernel_rfl
theorem fi_Index_settle : PySem.W.fnIn (K23 p) 730 = true := by kernel_rfl
theorem kp_Index_change : PySem.W.keepIn (K23 p) (.ref 735) = true := by kernel_rfl
theorem lk_Index_change : (K23 p).lookup 735 = some ⟨(oO (K23 p) 735).cls, (oO (K23 p) 735).dict, .func (PySem.W.fnOf "change" "Index.change" (defArgs (inClass (top 68) 5)) (defBody (inClass (top 68) 5)) (defScope (inClass (top 68) 5)) .none (fO (K23 p) 735).kwdefaults (fO (K23 p) 735).doc (fO (K23 p) 735).pyModule (fO (K23 p) 735).annotations (fO (K23 p) 735).code (fO (K23 p) 735).closureTuple), (oO (K23 p) 735).slots⟩ := by kernel_rfl
theorem cd_Index_change : PySem.W.codeIn (K23 p) (fO (K23 p) 735).code "Index.change" = true := by kernel_rfl
noncomputable abbrev fd_Index_change (p : Params) : FuncData := PySem.W.fnOf "change" "Index.change" (defArgs (inClass (top 68) 5)) (defBody (inClass (top 68) 5)) (defScope (inClass (top 68) 5)) .none (fO (K23 p) 735).kwdefaults (fO (K23 p) 735).doc (fO (K23 p) 735).pyModule (fO (K23 p) 735).annotations (fO (K23 p) 735).code (fO (K23 p) 735).closureTuple
theorem fn_Index_change : Fun (K23 p) "change" "Index.change" (inClass (top 68) 5) 735 (fd_Index_change p) := ⟨⟨_, _, _, _, _, _, _, _, _, rfl, lk_Index_change p, cd_Index_change p⟩, kp_Index_change p⟩
theorem bd_Index_change : Binds (K23 p) (fd_Index_change p) ["self", "style", "entries"] [] := (fn_Index_change p).binds (ps := ["self", "style", "entries"]) fun _ _ _ _ _ _ us hl => match us, hl with | [_, _, _], _ => rfl
theorem mt_Index_change : Meth (K23 p) 841 "change" 735 := ⟨by kernel_rfl, by kernel_rfl, by kernel_rfl⟩
theorem at_Index_change : PySem.W.findIn (K23 p) (.ref 841) "change" = some (some (.ref 735)) := by kernel_rfl
theorem is_Index_change : PySem.W.isFn (K23 p) (.ref 735) = true := by kernel_rfl
theorem fi_Index_change : PySem.W.fnIn (K23 p) 735 = true := by kernel_rfl
theorem kp_Index___setitem__ : PySem.W.keepIn (K23 p) (.ref 742) = true := by kernel_rfl
theorem lk_Index___setitem__ : (K23 p).lookup 742 = some ⟨(oO (K23 p) 742).cls, (oO (K23 p) 742).dict, .func (PySem.W.fnOf "__setitem__" "Index.__setitem__" (defArgs (inClass (top 68) 6)) (defBody (inClass (top 68) 6)) (defScope (inClass (top 68) 6)) .none (fO (K23 p) 742).kwdefaults (fO (K23 p) 742).doc (fO (K23 p) 742).pyModule (fO (K23 p) 742).annotations (fO (K23 p) 742).code (fO (K23 p) 742).closureTuple), (oO (K23 p) 742).slots⟩ := by kernel_rfl
theorem cd_Index___setitem__ : PySem.W.codeIn (K23 p) (fO (K23 p) 742).code "Index.__setitem__" = true := by kernel_rfl
noncomputable abbrev fd_Index___setitem__ (p : Params) : FuncData := PySem.W.fnOf "__setitem__" "Index.__setitem__" (defArgs (inClass (top 68) 6)) (defBody (inClass (top 68) 6)) (defScope (inClass (top 68) 6)) .none (fO (K23 p) 742).kwdefaults (fO (K23 p) 742).doc (fO (K23 p) 742).pyModule (fO (K23 p) 742).annotations (fO (K23 p) 742).code (fO (K23 p) 742).closureTuple
theorem fn_Index___setitem__ : Fun (K23 p) "__setitem__" "Index.__setitem__" (inClass (top 68) 6) 742 (fd_Index___setitem__ p) := ⟨⟨_, _, _, _, _, _, _, _, _, rfl, lk_Index___setitem__ p, cd_Index___setitem__ p⟩, kp_Index___setitem__ p⟩
theorem bd_Index___setitem__ : Binds (K23 p) (fd_Index___setitem__ p) ["self", "name", "entry"] [] := (fn_Index___setitem__ p).binds (ps := ["self", "name", "entry"]) fun _ _ _ _ _ _ us hl => match us, hl with | [_, _, _], _ => rfl
theorem mt_Index___setitem__ : Meth (K23 p) 841 "__setitem__" 742 := ⟨by kernel_rfl, by kernel_rfl, by kernel_rfl⟩
theorem at_Index___setitem__ : PySem.W.findIn (K23 p) (.ref 841) "__setitem__" = some (some (.ref 742)) := by kernel_rfl
theorem is_Index___setitem__ : PySem.W.isFn (K23 p) (.ref 742) = true := by kernel_rfl
theorem fi_Index___setitem__ : PySem.W.fnIn (K23 p) 742 = true := by kernel_rfl
theorem kp_Index___getitem__ : PySem.W.keepIn (K23 p) (.ref 749) = true := by kernel_rfl
theorem lk_Index___getitem__ : (K23 p).lookup 749 = some ⟨(oO (K23 p) 749).cls, (oO (K23 p) 749).dict, .func (PySem.W.fnOf "__getitem__" "Index.__getitem__" (defArgs (inClass (top 68) 7)) (defBody (inClass (top 68) 7)) (defScope (inClass (top 68) 7)) .none (fO (K23 p) 749).kwdefaults (fO (K23 p) 749).doc (fO (K23 p) 749).pyModule (fO (K23 p) 749).annotations (fO (K23 p) 749).code (fO (K23 p) 749).closureTuple), (oO (K23 p) 749).slots⟩ := by kernel_rfl
theorem cd_Index___getitem__ : PySem.W.codeIn (K23 p) (fO (K23 p) 749).code "Index.__getitem__" = true := by kernel_rfl
noncomputable abbrev fd_Index___getitem__ (p : Params) : FuncData := PySem.W.fnOf "__getitem__" "Index.__getitem__" (defArgs (inClass (top 68) 7)) (defBody (inClass (top 68) 7)) (defScope (inClass (top 68) 7)) .none (fO (K23 p) 749).kwdefaults (fO (K23 p) 749).doc (fO (K23 p) 749).pyModule (fO (K23 p) 749).annotations (fO (K23 p) 749).code (fO (K23 p) 749).closureTuple
theorem fn_Index___getitem__ : Fun (K23 p) "__getitem__" "Index.__getitem__" (inClass (top 68) 7) 749 (fd_Index___getitem__ p) := ⟨⟨_, _, _, _, _, _, _, _, _, rfl, lk_Index___getitem__ p, cd_Index___getitem__ p⟩, kp_Index___getitem__ p⟩
theorem bd_Index___getitem__ : Binds (K23 p) (fd_Index___getitem__ p) ["self", "name"] [] := (fn_Index___getitem__ p).binds (ps := ["self", "name"]) fun _ _ _ _ _ _ us hl => match us, hl with | [_, _], _ => rfl
theorem mt_Index___getitem__ : Meth (K23 p) 841 "__getitem__" 749 := ⟨by kernel_rfl, by kernel_rfl, by kernel_rfl⟩
theorem at_Index___getitem__ : PySem.W.findIn (K23 p) (.ref 841) "__getitem__" = some (some (.ref 749)) := by kernel_rfl
theorem is_Index___getitem__ : PySem.W.isFn (K23 p) (.ref 749) = true := by kernel_rfl
theorem fi_Index___getitem__ : PySem.W.fnIn (K23 p) 749 = true := by kernel_rfl
theorem kp_Index___iter__ : PySem.W.keepIn (K23 p) (.ref 756) = true := by kernel_rfl
theorem lk_Index___iter__ : (K23 p).lookup 756 = some ⟨(oO (K23 p) 756).cls, (oO (K23 p) 756).dict, .func (PySem.W.fnOf "__iter__" "Index.__iter__" (defArgs (inClass (top 68) 8)) (defBody (inClass (top 68) 8)) (defScope (inClass (top 68) 8)) .none (fO (K23 p) 756).kwdefaults (fO (K23 p) 756).doc (fO (K23 p) 756).pyModule (fO (K23 p) 756).annotations (fO (K23 p) 756).code (fO (K23 p) 756).closureTuple), (oO (K23 p) 756).slots⟩ := by kernel_rfl
theorem cd_Index___iter__ : PySem.W.codeIn (K23 p) (fO (K23 p) 756).code "Index.__iter__" = true := by kernel_rfl
noncomputable abbrev fd_Index___iter__ (p : Params) : FuncData := PySem.W.fnOf "__iter__" "Index.__iter__" (defArgs (inClass (top 68) 8)) (defBody (inClass (top 68) 8)) (defScope (inClass (top 68) 8)) .none (fO (K23 p) 756).kwdefaults (fO (K23 p) 756).doc (fO (K23 p) 756).pyModule (fO (K23 p) 756).annotations (fO (K23 p) 756).code (fO (K23 p) 756).closureTuple
theorem fn_Index___iter__ : Fun (K23 p) "__iter__" "Index.__iter__" (inClass (top 68) 8) 756 (fd_Index___iter__ p) := ⟨⟨_, _, _, _, _, _, _, _, _, rfl, lk_Index___iter__ p, cd_Index___iter__ p⟩, kp_Index___iter__ p⟩
theorem bd_Index___iter__ : Binds (K23 p) (fd_Index___iter__ p) ["self"] [] := (fn_Index___iter__ p).binds (ps := ["self"]) fun _ _ _ _ _ _ us hl => match us, hl with | [_], _ => rfl
theorem mt_Index___iter__ : Meth (K23 p) 841 "__iter__" 756 := ⟨by kernel_rfl, by kernel_rfl, by kernel_rfl⟩
theorem at_Index___iter__ : PySem.W.findIn (K23 p) (.ref 841) "__iter__" = some (some (.ref 756)) := by kernel_rfl
theorem is_Index___iter__ : PySem.W.isFn (K23 p) (.ref 756) = true := by kernel_rfl
theorem fi_Index___iter__ : PySem.W.fnIn (K23 p) 756 = true := by kernel_rfl
theorem kp_Index___contains__ : PySem.W.keepIn (K23 p) (.ref 763) = true := by kernel_rfl
theorem lk_Index___contains__ : (K23 p).lookup 763 = some ⟨(oO (K23 p) 763).cls, (oO (K23 p) 763).dict, .func (PySem.W.fnOf "__contains__" "Index.__contains__" (defArgs (inClass (top 68) 9)) (defBody (inClass (top 68) 9)) (defScope (inClass (top 68) 9)) .none (fO (K23 p) 763).kwdefaults (fO (K23 p) 763).doc (fO (K23 p) 763).pyModule (fO (K23 p) 763).annotations (fO (K23 p) 763).code (fO (K23 p) 763).closureTuple), (oO (K23 p) 763).slots⟩ := by kernel_rfl
theorem cd_Index___contains__ : PySem.W.codeIn (K23 p) (fO (K23 p) 763).code "Index.__contains__" = true := by kernel_rfl
noncomputable abbrev fd_Index___contains__ (p : Params) : FuncData := PySem.W.fnOf "__contains__" "Index.__contains__" (defArgs (inClass (top 68) 9)) (defBody (inClass (top 68) 9)) (defScope (inClass (top 68) 9)) .none (fO (K23 p) 763).kwdefaults (fO (K23 p) 763).doc (fO (K23 p) 763).pyModule (fO (K23 p) 763).annotations (fO (K23 p) 763).code (fO (K23 p) 763).closureTuple
theorem fn_Index___contains__ : Fun (K23 p) "__contains__" "Index.__contains__" (inClass (top 68) 9) 763 (fd_Index___contains__ p) := ⟨⟨_, _, _, _, _, _, _, _, _, rfl, lk_Index___contains__ p, cd_Index___contains__ p⟩, kp_Index___contains__ p⟩
theorem bd_Index___contains__ : Binds (K23 p) (fd_Index___contains__ p) ["self", "name"] [] := (fn_Index___contains__ p).binds (ps := ["self", "name"]) fun _ _ _ _ _ _ us hl => match us, hl with | [_, _], _ => rfl
theorem mt_Index___contains__ : Meth (K23 p) 841 "__contains__" 763 := ⟨by kernel_rfl, by kernel_rfl, by kernel_rfl⟩
theorem at_Index___contains__ : PySem.W.findIn (K23 p) (.ref 841) "__contains__" = some (some (.ref 763)) := by kernel_rfl
theorem is_Index___contains__ : PySem.W.isFn (K23 p) (.ref 763) = true := by kernel_rfl
theorem fi_Index___contains__ : PySem.W.fnIn (K23 p) 763 = true := by kernel_rfl
theorem kp_Index___len__ : PySem.W.keepIn (K23 p) (.ref 770) = true := by kernel_rfl
theorem lk_Index___len__ : (K23 p).lookup 770 = some ⟨(oO (K23 p) 770).cls, (oO (K23 p) 770).dict, .func (PySem.W.fnOf "__len__" "Index.__len__" (defArgs (inClass (top 68) 10)) (defBody (inClass (top 68) 10)) (defScope (inClass (top 68) 10)) .none (fO (K23 p) 770).kwdefaults (fO (K23 p) 770).doc (fO (K23 p) 770).pyModule (fO (K23 p) 770).annotations (fO (K23 p) 770).code (fO (K23 p) 770).closureTuple), (oO (K23 p) 770).slots⟩ := by kernel_rfl
theorem cd_Index___len__ : PySem.W.codeIn (K23 p) (fO (K23 p) 770).code "Index.__len__" = true := by kernel_rfl
noncomputable abbrev fd_Index___len__ (p : Params) : FuncData := PySem.W.fnOf "__len__" "Index.__len__" (defArgs (inClass (top 68) 10)) (defBody (inClass (top 68) 10)) (defScope (inClass (top 68) 10)) .none (fO (K23 p) 770).kwdefaults (fO (K23 p) 770).doc (fO (K23 p) 770).pyModule (fO (K23 p) 770).annotations (fO (K23 p) 770).code (fO (K23 p) 770).closureTuple
theorem fn_Index___len__ : Fun (K23 p) "__len__" "Index.__len__" (inClass (top 68) 10) 770 (fd_Index___len__ p) := ⟨⟨_, _, _, _, _, _, _, _, _, rfl, lk_Index___len__ p, cd_Index___len__ p⟩, kp_Index___len__ p⟩
theorem bd_Index___len__ : Binds (K23 p) (fd_Index___len__ p) ["self"] [] := (fn_Index___len__ p).binds (ps := ["self"]) fun _ _ _ _ _ _ us hl => match us, hl with | [_], _ => rfl
theorem mt_Index___len__ : Meth (K23 p) 841 "__len__" 770 := ⟨by kernel_rfl, by kernel_rfl, by kernel_rfl⟩
theorem at_Index___len__ : PySem.W.findIn (K23 p) (.ref 841) "__len__" = some (some (.ref 770)) := by kernel_rfl
theorem is_Index___len__ : PySem.W.isFn (K23 p) (.ref 770) = true := by kernel_rfl
theorem fi_Index___len__ : PySem.W.fnIn (K23 p) 770 = true := by kernel_rfl
theorem kp_Index___eq__ : PySem.W.keepIn (K23 p) (.ref 777) = true := by kernel_rfl
theorem lk_Index___eq__ : (K23 p).lookup 777 = some ⟨(oO (K23 p) 777).cls, (oO (K23 p) 777).dict, .func (PySem.W.fnOf "__eq__" "Index.__eq__" (defArgs (inClass (top 68) 11)) (defBody (inClass (top 68) 11)) (defScope (inClass (top 68) 11)) .none (fO (K23 p) 777).kwdefaults (fO (K23 p) 777).doc (fO (K23 p) 777).pyModule (fO (K23 p) 777).annotations (fO (K23 p) 777).code (fO (K23 p) 777).closureTuple), (oO (K23 p) 777).slots⟩ := by kernel_rfl
theorem cd_Index___eq__ : PySem.W.codeIn (K23 p) (fO (K23 p) 777).code "Index.__eq__" = true := by kernel_rfl
noncomputable abbrev fd_Index___eq__ (p : Params) : FuncData := PySem.W.fnOf "__eq__" "Index.__eq__" (defArgs (inClass (top 68) 11)) (defBody (inClass (top 68) 11)) (defScope (inClass (top 68) 11)) .none (fO (K23 p) 777).kwdefaults (fO (K23 p) 777).doc (fO (K23 p) 777).pyModule (fO (K23 p) 777).annotations (fO (K23 p) 777).code (fO (K23 p) 777).closureTuple
theorem fn_Index___eq__ : Fun (K23 p) "__eq__" "Index.__eq__" (inClass (top 68) 11) 777 (fd_Index___eq__ p) := ⟨⟨_, _, _, _, _, _, _, _, _, rfl, lk_Index___eq__ p, cd_Index___eq__ p⟩, kp_Index___eq__ p⟩
theorem bd_Index___eq__ : Binds (K23 p) (fd_Index___eq__ p) ["self", "other"] [] := (fn_Index___eq__ p).binds (ps := ["self", "other"]) fun _ _ _ _ _ _ us hl => match us, hl with | [_, _], _ => rfl
theorem mt_Index___eq__ : Meth (K23 p) 841 "__eq__" 777 := ⟨by kernel_rfl, by kernel_rfl, by kernel_rfl⟩
theorem at_Index___eq__ : PySem.W.findIn (K23 p) (.ref 841) "__eq__" = some (some (.ref 777)) := by kernel_rfl
theorem is_Index___eq__ : PySem.W.isFn (K23 p) (.ref 777) = true := by kernel_rfl
theorem fi_Index___eq__ : PySem.W.fnIn (K23 p) 777 = true := by kernel_rfl
theorem kp_Index_names : PySem.W.keepIn (K23 p) (.ref 791) = true := by kernel_rfl
theorem lk_Index_names : (K23 p).lookup 791 = some ⟨(oO (K23 p) 791).cls, (oO (K23 p) 791).dict, .func (PySem.W.fnOf "names" "Index.names" (defArgs (inClass (top 68) 13)) (defBody (inClass (top 68) 13)) (defScope (inClass (top 68) 13)) .none (fO (K23 p) 791).kwdefaults (fO (K23 p) 791).doc (fO (K23 p) 791).pyModule (fO (K23 p) 791).annotations (fO (K23 p) 791).code (fO (K23 p) 791).closureTuple), (oO (K23 p) 791).slots⟩ := by kernel_rfl
theorem cd_Index_names : PySem.W.codeIn (K23 p) (fO (K23 p) 791).code "Index.names" = true := by kernel_rfl
noncomputable abbrev fd_Index_names (p : Params) : FuncData := PySem.W.fnOf "names" "Index.names" (defArgs (inClass (top 68) 13)) (defBody (inClass (top 68) 13)) (defScope (inClass (top 68) 13)) .none (fO (K23 p) 791).kwdefaults (fO (K23 p) 791).doc (fO (K23 p) 791).pyModule (fO (K23 p) 791).annotations (fO (K23 p) 791).code (fO (K23 p) 791).closureTuple
theorem fn_Index_names : Fun (K23 p) "names" "Index.names" (inClass (top 68) 13) 791 (fd_Index_names p) := ⟨⟨_, _, _, _, _, _, _, _, _, rfl, lk_Index_names p, cd_Index_names p⟩, kp_Index_names p⟩
theorem bd_Index_names : Binds (K23 p) (fd_Index_names p) ["self"] [] := (fn_Index_names p).binds (ps := ["self"]) fun _ _ _ _ _ _ us hl => match us, hl with | [_], _ => rfl
theorem mt_Index_names : Meth (K23 p) 841 "names" 791 := ⟨by kernel_rfl, by kernel_rfl, by kernel_rfl⟩
theorem at_Index_names : PySem.W.findIn (K23 p) (.ref 841) "names" = some (some (.ref 791)) := by kernel_rfl
theorem is_Index_names : PySem.W.isFn (K23 p) (.ref 791) = true := by kernel_rfl
theorem fi_Index_names : PySem.W.fnIn (K23 p) 791 = true := by kernel_rfl
theorem kp_Index___iadd__ : PySem.W.keepIn (K23 p) (.ref 812) = true := by kernel_rfl
theorem lk_Index___iadd__ : (K23 p).lookup 812 = some ⟨(oO (K23 p) 812).cls, (oO (K23 p) 812).dict, .func (PySem.W.fnOf "__iadd__" "Index.__iadd__" (defArgs (inClass (top 68) 16)) (defBody (inClass (top 68) 16)) (defScope (inClass (top 68) 16)) .none (fO (K23 p) 812).kwdefaults (fO (K23 p) 812).doc (fO (K23 p) 812).pyModule (fO (K23 p) 812).annotations (fO (K23 p) 812).code (fO (K23 p) 812).closureTuple), (oO (K23 p) 812).slots⟩ := by kernel_rfl
theorem cd_Index___iadd__ : PySem.W.codeIn (K23 p) (fO (K23 p) 812).code "Index.__iadd__" = true := by kernel_rfl
noncomputable abbrev fd_Index___iadd__ (p : Params) : FuncData := PySem.W.fnOf "__iadd__" "Index.__iadd__" (defArgs (inClass (top 68) 16)) (defBody (inClass (top 68) 16)) (defScope (inClass (top 68) 16)) .none (fO (K23 p) 812).kwdefaults (fO (K23 p) 812).doc (fO (K23 p) 812).pyModule (fO (K23 p) 812).annotations (fO (K23 p) 812).code (fO (K23 p) 812).closureTuple
theorem fn_Index___iadd__ : Fun (K23 p) "__iadd__" "Index.__iadd__" (inClass (top 68) 16) 812 (fd_Index___iadd__ p) := ⟨⟨_, _, _, _, _, _, _, _, _, rfl, lk_Index___iadd__ p, cd_Index___iadd__ p⟩, kp_Index___iadd__ p⟩
theorem bd_Index___iadd__ : Binds (K23 p) (fd_Index___iadd__ p) ["self", "other"] [] := (fn_Index___iadd__ p).binds (ps := ["self", "other"]) fun _ _ _ _ _ _ us hl => match us, hl with | [_, _], _ => rfl
theorem mt_Index___iadd__ : Meth (K23 p) 841 "__iadd__" 812 := ⟨by kernel_rfl, by kernel_rfl, by kernel_rfl⟩
theorem at_Index___iadd__ : PySem.W.findIn (K23 p) (.ref 841) "__iadd__" = some (some (.ref 812)) := by kernel_rfl
theorem is_Index___iadd__ : PySem.W.isFn (K23 p) (.ref 812) = true := by kernel_rfl
theorem fi_Index___iadd__ : PySem.W.fnIn (K23 p) 812 = true := by kernel_rfl
theorem kp_Index_text : PySem.W.keepIn (K23 p) (.ref 817) = true := by kernel_rfl
theorem lk_Index_text : (K23 p).lookup 817 = some ⟨(oO (K23 p) 817).cls, (oO (K23 p) 817).dict, .func (PySem.W.fnOf "text" "Index.text" (defArgs (inClass (top 68) 17)) (defBody (inClass (top 68) 17)) (defScope (inClass (top 68) 17)) .none (fO (K23 p) 817).kwdefaults (fO (K23 p) 817).doc (fO (K23 p) 817).pyModule (fO (K23 p) 817).annotations (fO (K23 p) 817).code (fO (K23 p) 817).closureTuple), (oO (K23 p) 817).slots⟩ := by kernel_rfl
theorem cd_Index_text : PySem.W.codeIn (K23 p) (fO (K23 p) 817).code "Index.text" = true := by kernel_rfl
noncomputable abbrev fd_Index_text (p : Params) : FuncData := PySem.W.fnOf "text" "Index.text" (defArgs (inClass (top 68) 17)) (defBody (inClass (top 68) 17)) (defScope (inClass (top 68) 17)) .none (fO (K23 p) 817).kwdefaults (fO (K23 p) 817).doc (fO (K23 p) 817).pyModule (fO (K23 p) 817).annotations (fO (K23 p) 817).code (fO (K23 p) 817).closureTuple
theorem fn_Index_text : Fun (K23 p) "text" "Index.text" (inClass (top 68) 17) 817 (fd_Index_text p) := ⟨⟨_, _, _, _, _, _, _, _, _, rfl, lk_Index_text p, cd_Index_text p⟩, kp_Index_text p⟩
theorem bd_Index_text : Binds (K23 p) (fd_Index_text p) ["self"] [] := (fn_Index_text p).binds (ps := ["self"]) fun _ _ _ _ _ _ us hl => match us, hl with | [_], _ => rfl
theorem mt_Index_text : Meth (K23 p) 841 "text" 817 := ⟨by kernel_rfl, by kernel_rfl, by kernel_rfl⟩
theorem at_Index_text : PySem.W.findIn (K23 p) (.ref 841) "text" = some (some (.ref 817)) := by kernel_rfl
theorem is_Index_text : PySem.W.isFn (K23 p) (.ref 817) = true := by kernel_rfl
theorem fi_Index_text : PySem.W.fnIn (K23 p) 817 = true := by kernel_rfl
end
end KH23

namespace KH23
open PySem L2 Evl Dg Dt StX ClX
def tkO (v : Option (Option Value)) : Tok := match v with
  | some (some (.int _ t)) => t
  | some (some (.str _ t)) => t
  | _ => default
def itO (K : PySem.W.Frag) (a : Addr) : Array Value := match (oO K a).data with
  | .seq v _ => v
  | _ => #[]
def epO (K : PySem.W.Frag) (a : Addr) : Nat := match (oO K a).data with
  | .seq _ n => n
  | _ => 0
def tkI (K : PySem.W.Frag) (a : Addr) (i : Nat) : Tok := tkO (some (itO K a)[i]?)
theorem tup_MANNERS (p : Params) : ∀ H : Hp, SqT (K23 p) H 621 [.str "full", .str "running"] := fun H => by
  refine .inr ⟨oO (K23 p) 621, #[.str "full" (tkI (K23 p) 621 0), .str "running" (tkI (K23 p) 621 1)], epO (K23 p) 621, ?_, ?_, ?_, ?_, ?_⟩
  · exact (show (K23 p).lookup 621 = some (oO (K23 p) 621) by kernel_rfl)
  · exact (show (oO (K23 p) 621).cls = .type "tuple" by kernel_rfl)
  · exact (show (oO (K23 p) 621).data = .seq #[.str "full" (tkI (K23 p) 621 0), .str "running" (tkI (K23 p) 621 1)] (epO (K23 p) 621) by kernel_rfl)
  · show (2 : Nat) ≤ sizeLine
    rw [sizeLine_eq]
    omega
  · exact .cons ⟨_, rfl⟩ (.cons ⟨_, rfl⟩ .nil)
section
variable {w : World} {mg : Str → Option Value} {h base : Heap} (X : (K23 w.params).In h) (G : h.Ns mainGlobals mg)
include X G
theorem txG : TxG mg where
  isi := PySem.W.mg_none_of X G (show PySem.W.nsIn (K23 w.params) mainGlobals "isinstance" = some none by kernel_rfl)
  int := PySem.W.mg_none_of X G (show PySem.W.nsIn (K23 w.params) mainGlobals "int" = some none by kernel_rfl)
  bool := PySem.W.mg_none_of X G (show PySem.W.nsIn (K23 w.params) mainGlobals "bool" = some none by kernel_rfl)
  str := PySem.W.mg_none_of X G (show PySem.W.nsIn (K23 w.params) mainGlobals "str" = some none by kernel_rfl)
  len := PySem.W.mg_none_of X G (show PySem.W.nsIn (K23 w.params) mainGlobals "len" = some none by kernel_rfl)
  sup := PySem.W.mg_none_of X G (show PySem.W.nsIn (K23 w.params) mainGlobals "super" = some none by kernel_rfl)
  fig := (by
    obtain ⟨t, e⟩ : ∃ t, PySem.W.nsIn (K23 w.params) mainGlobals "FIGURES" = some (some (.str "0123456789" t)) := ⟨tkO (PySem.W.nsIn (K23 w.params) mainGlobals "FIGURES"), by kernel_rfl⟩
    exact ⟨t, PySem.W.mg_of X G e⟩)
  least := (by
    obtain ⟨t, e⟩ : ∃ t, PySem.W.nsIn (K23 w.params) mainGlobals "LEAST_BASE" = some (some (.int 2 t)) := ⟨tkO (PySem.W.nsIn (K23 w.params) mainGlobals "LEAST_BASE"), by kernel_rfl⟩
    exact ⟨t, PySem.W.mg_of X G e⟩)
  most := (by
    obtain ⟨t, e⟩ : ∃ t, PySem.W.nsIn (K23 w.params) mainGlobals "MOST_BASE" = some (some (.int 10 t)) := ⟨tkO (PySem.W.nsIn (K23 w.params) mainGlobals "MOST_BASE"), by kernel_rfl⟩
    exact ⟨t, PySem.W.mg_of X G e⟩)
theorem txI : TxI (K23 w.params) mg 338 where
  toTxG := txG X G
  isInt := PySem.W.mg_of X G (show PySem.W.nsIn (K23 w.params) mainGlobals "is_integer" = some (some (.ref 338)) by kernel_rfl)
  kInt := kp_is_integer _
theorem txF : TxF (K23 w.params) mg 338 345 357 364 378 where
  toTxI := txI X G
  isNum := PySem.W.mg_of X G (show PySem.W.nsIn (K23 w.params) mainGlobals "is_number" = some (some (.ref 345)) by kernel_rfl)
  kNum := kp_is_number _
  needB := PySem.W.mg_of X G (show PySem.W.nsIn (K23 w.params) mainGlobals "need_base" = some (some (.ref 357)) by kernel_rfl)
  kNB := kp_need_base _
  needN := PySem.W.mg_of X G (show PySem.W.nsIn (K23 w.params) mainGlobals "need_number" = some (some (.ref 364)) by kernel_rfl)
  kNN := kp_need_number _
  digits := PySem.W.mg_of X G (show PySem.W.nsIn (K23 w.params) mainGlobals "digits" = some (some (.ref 378)) by kernel_rfl)
  kDg := kp_digits _
  divmod := PySem.W.mg_none_of X G (show PySem.W.nsIn (K23 w.params) mainGlobals "divmod" = some none by kernel_rfl)
theorem txB : Dr.TxB mg where
  int := PySem.W.mg_none_of X G (show PySem.W.nsIn (K23 w.params) mainGlobals "int" = some none by kernel_rfl)
  len := PySem.W.mg_none_of X G (show PySem.W.nsIn (K23 w.params) mainGlobals "len" = some none by kernel_rfl)
  list := PySem.W.mg_none_of X G (show PySem.W.nsIn (K23 w.params) mainGlobals "list" = some none by kernel_rfl)
theorem txD : Dr.TxD (K23 w.params) mg 852 where
  toTxB := txB X G
  mixed := PySem.W.mg_of X G (show PySem.W.nsIn (K23 w.params) mainGlobals "_law_mixed" = some (some (.ref 852)) by kernel_rfl)
  kMixed := kp_l_mixed _
theorem txO : Dr.TxO (K23 w.params) mg 852 864 where
  toTxD := txD X G
  draw := PySem.W.mg_of X G (show PySem.W.nsIn (K23 w.params) mainGlobals "_law_draw" = some (some (.ref 864)) by kernel_rfl)
  kDraw := kp_l_draw _
theorem txT : Told.TxT mg ca23 where
  own := fun i hi => by
    have c : i = 0 ∨ i = 1 ∨ i = 2 ∨ i = 3 ∨ i = 4 ∨ i = 5 ∨ i = 6 ∨ i = 7 ∨ i = 8 ∨ i = 9 ∨ i = 10 ∨ i = 11 ∨ i = 12 ∨ i = 13 ∨ i = 14 := by omega
    rcases c with rfl | rfl | rfl | rfl | rfl | rfl | rfl | rfl | rfl | rfl | rfl | rfl | rfl | rfl | rfl
    · exact PySem.W.mg_of X G (show PySem.W.nsIn (K23 w.params) mainGlobals "SpanError" = some (some (.ref 31)) by kernel_rfl)
    · exact PySem.W.mg_of X G (show PySem.W.nsIn (K23 w.params) mainGlobals "BadBase" = some (some (.ref 53)) by kernel_rfl)
    · exact PySem.W.mg_of X G (show PySem.W.nsIn (K23 w.params) mainGlobals "BadNumber" = some (some (.ref 74)) by kernel_rfl)
    · exact PySem.W.mg_of X G (show PySem.W.nsIn (K23 w.params) mainGlobals "BadDigits" = some (some (.ref 95)) by kernel_rfl)
    · exact PySem.W.mg_of X G (show PySem.W.nsIn (K23 w.params) mainGlobals "BadRange" = some (some (.ref 116)) by kernel_rfl)
    · exact PySem.W.mg_of X G (show PySem.W.nsIn (K23 w.params) mainGlobals "BadRule" = some (some (.ref 137)) by kernel_rfl)
    · exact PySem.W.mg_of X G (show PySem.W.nsIn (K23 w.params) mainGlobals "BadReader" = some (some (.ref 158)) by kernel_rfl)
    · exact PySem.W.mg_of X G (show PySem.W.nsIn (K23 w.params) mainGlobals "BadManner" = some (some (.ref 179)) by kernel_rfl)
    · exact PySem.W.mg_of X G (show PySem.W.nsIn (K23 w.params) mainGlobals "BadEntry" = some (some (.ref 200)) by kernel_rfl)
    · exact PySem.W.mg_of X G (show PySem.W.nsIn (K23 w.params) mainGlobals "BadName" = some (some (.ref 221)) by kernel_rfl)
    · exact PySem.W.mg_of X G (show PySem.W.nsIn (K23 w.params) mainGlobals "BadText" = some (some (.ref 242)) by kernel_rfl)
    · exact PySem.W.mg_of X G (show PySem.W.nsIn (K23 w.params) mainGlobals "OtherBase" = some (some (.ref 263)) by kernel_rfl)
    · exact PySem.W.mg_of X G (show PySem.W.nsIn (K23 w.params) mainGlobals "TooMany" = some (some (.ref 284)) by kernel_rfl)
    · exact PySem.W.mg_of X G (show PySem.W.nsIn (K23 w.params) mainGlobals "Missing" = some (some (.ref 306)) by kernel_rfl)
    · exact PySem.W.mg_of X G (show PySem.W.nsIn (K23 w.params) mainGlobals "NothingLeft" = some (some (.ref 328)) by kernel_rfl)
  isi := PySem.W.mg_none_of X G (show PySem.W.nsIn (K23 w.params) mainGlobals "isinstance" = some none by kernel_rfl)
  len := PySem.W.mg_none_of X G (show PySem.W.nsIn (K23 w.params) mainGlobals "len" = some none by kernel_rfl)
theorem txF3 : TxF3 (K23 w.params) mg 338 345 357 371 where
  toTxI := txI X G
  isNum := PySem.W.mg_of X G (show PySem.W.nsIn (K23 w.params) mainGlobals "is_number" = some (some (.ref 345)) by kernel_rfl)
  kNum := kp_is_number _
  needB := PySem.W.mg_of X G (show PySem.W.nsIn (K23 w.params) mainGlobals "need_base" = some (some (.ref 357)) by kernel_rfl)
  kNB := kp_need_base _
  needR := PySem.W.mg_of X G (show PySem.W.nsIn (K23 w.params) mainGlobals "need_range" = some (some (.ref 371)) by kernel_rfl)
  kNR := kp_need_range _
theorem txH : TxH (K23 w.params) mg 0 0 where
  len := PySem.W.mg_none_of X G (show PySem.W.nsIn (K23 w.params) mainGlobals "len" = some none by kernel_rfl)
theorem txR : TxR (K23 w.params) mg 338 357 350 406 413 420 427 434 where
  toTxI := txI X G
  needB := PySem.W.mg_of X G (show PySem.W.nsIn (K23 w.params) mainGlobals "need_base" = some (some (.ref 357)) by kernel_rfl)
  kNB := kp_need_base _
  isFig := PySem.W.mg_of X G (show PySem.W.nsIn (K23 w.params) mainGlobals "is_figures" = some (some (.ref 350)) by kernel_rfl)
  kFig := kp_is_figures _
  size := PySem.W.mg_of X G (show PySem.W.nsIn (K23 w.params) mainGlobals "is_size" = some (some (.ref 406)) by kernel_rfl)
  kSz := kp_is_size _
  bounds := PySem.W.mg_of X G (show PySem.W.nsIn (K23 w.params) mainGlobals "are_bounds" = some (some (.ref 413)) by kernel_rfl)
  kBd := kp_are_bounds _
  begins := PySem.W.mg_of X G (show PySem.W.nsIn (K23 w.params) mainGlobals "begins" = some (some (.ref 420)) by kernel_rfl)
  kBg := kp_begins _
  cond := PySem.W.mg_of X G (show PySem.W.nsIn (K23 w.params) mainGlobals "is_condition" = some (some (.ref 427)) by kernel_rfl)
  kCd := kp_is_condition _
  keep := PySem.W.mg_of X G (show PySem.W.nsIn (K23 w.params) mainGlobals "is_keep" = some (some (.ref 434)) by kernel_rfl)
  kKp := kp_is_keep _
  tuple := PySem.W.mg_none_of X G (show PySem.W.nsIn (K23 w.params) mainGlobals "tuple" = some none by kernel_rfl)
  all := PySem.W.mg_none_of X G (show PySem.W.nsIn (K23 w.params) mainGlobals "all" = some none by kernel_rfl)
  msize := (by
    obtain ⟨t, e⟩ : ∃ t, PySem.W.nsIn (K23 w.params) mainGlobals "MOST_SIZE" = some (some (.int 6 t)) := ⟨tkO (PySem.W.nsIn (K23 w.params) mainGlobals "MOST_SIZE"), by kernel_rfl⟩
    exact ⟨t, PySem.W.mg_of X G e⟩)
  mconds := (by
    obtain ⟨t, e⟩ : ∃ t, PySem.W.nsIn (K23 w.params) mainGlobals "MOST_CONDITIONS" = some (some (.int 3 t)) := ⟨tkO (PySem.W.nsIn (K23 w.params) mainGlobals "MOST_CONDITIONS"), by kernel_rfl⟩
    exact ⟨t, PySem.W.mg_of X G e⟩)
  mend := (by
    obtain ⟨t, e⟩ : ∃ t, PySem.W.nsIn (K23 w.params) mainGlobals "MOST_ENDING" = some (some (.int 2 t)) := ⟨tkO (PySem.W.nsIn (K23 w.params) mainGlobals "MOST_ENDING"), by kernel_rfl⟩
    exact ⟨t, PySem.W.mg_of X G e⟩)
theorem txY : TxY (K23 w.params) mg 357 439 446 458 ca23 where
  needB := PySem.W.mg_of X G (show PySem.W.nsIn (K23 w.params) mainGlobals "need_base" = some (some (.ref 357)) by kernel_rfl)
  kNB := kp_need_base _
  rule := PySem.W.mg_of X G (show PySem.W.nsIn (K23 w.params) mainGlobals "is_rule" = some (some (.ref 439)) by kernel_rfl)
  kRl := kp_is_rule _
  needR := PySem.W.mg_of X G (show PySem.W.nsIn (K23 w.params) mainGlobals "need_rules" = some (some (.ref 446)) by kernel_rfl)
  kNR := kp_need_rules _
  plain := PySem.W.mg_of X G (show PySem.W.nsIn (K23 w.params) mainGlobals "plain_rule" = some (some (.ref 458)) by kernel_rfl)
  kPl := kp_plain_rule _
  badRule := PySem.W.mg_of X G (show PySem.W.nsIn (K23 w.params) mainGlobals "BadRule" = some (some (.ref 137)) by kernel_rfl)
  len := PySem.W.mg_none_of X G (show PySem.W.nsIn (K23 w.params) mainGlobals "len" = some none by kernel_rfl)
  tuple := PySem.W.mg_none_of X G (show PySem.W.nsIn (K23 w.params) mainGlobals "tuple" = some none by kernel_rfl)
  enum := PySem.W.mg_none_of X G (show PySem.W.nsIn (K23 w.params) mainGlobals "enumerate" = some none by kernel_rfl)
  isi := PySem.W.mg_none_of X G (show PySem.W.nsIn (K23 w.params) mainGlobals "isinstance" = some none by kernel_rfl)
  sup := PySem.W.mg_none_of X G (show PySem.W.nsIn (K23 w.params) mainGlobals "super" = some none by kernel_rfl)
  list := PySem.W.mg_none_of X G (show PySem.W.nsIn (K23 w.params) mainGlobals "list" = some none by kernel_rfl)
  mrules := (by
    obtain ⟨t, e⟩ : ∃ t, PySem.W.nsIn (K23 w.params) mainGlobals "MOST_RULES" = some (some (.int 8 t)) := ⟨tkO (PySem.W.nsIn (K23 w.params) mainGlobals "MOST_RULES"), by kernel_rfl⟩
    exact ⟨t, PySem.W.mg_of X G e⟩)
theorem txN : TxN (K23 w.params) mg 338 439 453 616 ca23 where
  isInt := PySem.W.mg_of X G (show PySem.W.nsIn (K23 w.params) mainGlobals "is_integer" = some (some (.ref 338)) by kernel_rfl)
  kInt := kp_is_integer _
  rule := PySem.W.mg_of X G (show PySem.W.nsIn (K23 w.params) mainGlobals "is_rule" = some (some (.ref 439)) by kernel_rfl)
  kRl := kp_is_rule _
  place := PySem.W.mg_of X G (show PySem.W.nsIn (K23 w.params) mainGlobals "need_place" = some (some (.ref 453)) by kernel_rfl)
  kPc := kp_need_place _
  badNum := PySem.W.mg_of X G (show PySem.W.nsIn (K23 w.params) mainGlobals "BadNumber" = some (some (.ref 74)) by kernel_rfl)
  badRule := PySem.W.mg_of X G (show PySem.W.nsIn (K23 w.params) mainGlobals "BadRule" = some (some (.ref 137)) by kernel_rfl)
  style := PySem.W.mg_of X G (show PySem.W.nsIn (K23 w.params) mainGlobals "Style" = some (some (.ref 616)) by kernel_rfl)
  len := PySem.W.mg_none_of X G (show PySem.W.nsIn (K23 w.params) mainGlobals "len" = some none by kernel_rfl)
  isi := PySem.W.mg_none_of X G (show PySem.W.nsIn (K23 w.params) mainGlobals "isinstance" = some none by kernel_rfl)
  tuple := PySem.W.mg_none_of X G (show PySem.W.nsIn (K23 w.params) mainGlobals "tuple" = some none by kernel_rfl)
  list := PySem.W.mg_none_of X G (show PySem.W.nsIn (K23 w.params) mainGlobals "list" = some none by kernel_rfl)
  sup := PySem.W.mg_none_of X G (show PySem.W.nsIn (K23 w.params) mainGlobals "super" = some none by kernel_rfl)
  cl := cl_Style _
  nB := na_Style_stored_base _
  nR := na_Style_stored_rules _
theorem txFa : TxFa (K23 w.params) mg 371 378 399 385 392 where
  needR := PySem.W.mg_of X G (show PySem.W.nsIn (K23 w.params) mainGlobals "need_range" = some (some (.ref 371)) by kernel_rfl)
  kNR := kp_need_range _
  digits := PySem.W.mg_of X G (show PySem.W.nsIn (K23 w.params) mainGlobals "digits" = some (some (.ref 378)) by kernel_rfl)
  kDg := kp_digits _
  near := PySem.W.mg_of X G (show PySem.W.nsIn (K23 w.params) mainGlobals "near" = some (some (.ref 399)) by kernel_rfl)
  kNe := kp_near _
  length := PySem.W.mg_of X G (show PySem.W.nsIn (K23 w.params) mainGlobals "length" = some (some (.ref 385)) by kernel_rfl)
  kLe := kp_length _
  changed := PySem.W.mg_of X G (show PySem.W.nsIn (K23 w.params) mainGlobals "changed" = some (some (.ref 392)) by kernel_rfl)
  kCh := kp_changed _
  len := PySem.W.mg_none_of X G (show PySem.W.nsIn (K23 w.params) mainGlobals "len" = some none by kernel_rfl)
  mend := (by
    obtain ⟨t, e⟩ : ∃ t, PySem.W.nsIn (K23 w.params) mainGlobals "MOST_ENDING" = some (some (.int 2 t)) := ⟨tkO (PySem.W.nsIn (K23 w.params) mainGlobals "MOST_ENDING"), by kernel_rfl⟩
    exact ⟨t, PySem.W.mg_of X G e⟩)
theorem txW : TxW (K23 w.params) mg 472 477 484 where
  holds := PySem.W.mg_of X G (show PySem.W.nsIn (K23 w.params) mainGlobals "holds" = some (some (.ref 472)) by kernel_rfl)
  kHo := kp_holds _
  first := PySem.W.mg_of X G (show PySem.W.nsIn (K23 w.params) mainGlobals "first_applying" = some (some (.ref 477)) by kernel_rfl)
  kFi := kp_first_applying _
  many := PySem.W.mg_of X G (show PySem.W.nsIn (K23 w.params) mainGlobals "many_kept" = some (some (.ref 484)) by kernel_rfl)
  kMa := kp_many_kept _
  len := PySem.W.mg_none_of X G (show PySem.W.nsIn (K23 w.params) mainGlobals "len" = some none by kernel_rfl)
  range := PySem.W.mg_none_of X G (show PySem.W.nsIn (K23 w.params) mainGlobals "range" = some none by kernel_rfl)
  all := PySem.W.mg_none_of X G (show PySem.W.nsIn (K23 w.params) mainGlobals "all" = some none by kernel_rfl)
  min := PySem.W.mg_none_of X G (show PySem.W.nsIn (K23 w.params) mainGlobals "min" = some none by kernel_rfl)
  max := PySem.W.mg_none_of X G (show PySem.W.nsIn (K23 w.params) mainGlobals "max" = some none by kernel_rfl)
theorem txM : TxM (K23 w.params) mg 491 465 378 616 where
  written := PySem.W.mg_of X G (show PySem.W.nsIn (K23 w.params) mainGlobals "written" = some (some (.ref 491)) by kernel_rfl)
  kWr := kp_written _
  facts := PySem.W.mg_of X G (show PySem.W.nsIn (K23 w.params) mainGlobals "facts_of" = some (some (.ref 465)) by kernel_rfl)
  kFa := kp_facts_of _
  digits := PySem.W.mg_of X G (show PySem.W.nsIn (K23 w.params) mainGlobals "digits" = some (some (.ref 378)) by kernel_rfl)
  kDg := kp_digits _
  cl := cl_Style _
  nB := na_Style_stored_base _
  nR := na_Style_stored_rules _
theorem txZ : TxZ (K23 w.params) mg 0 0 0 0 0 0 0 where
  toTxH := txH X G
  min := PySem.W.mg_none_of X G (show PySem.W.nsIn (K23 w.params) mainGlobals "min" = some none by kernel_rfl)
  max := PySem.W.mg_none_of X G (show PySem.W.nsIn (K23 w.params) mainGlobals "max" = some none by kernel_rfl)
theorem txEn : TxEn (K23 w.params) mg 345 635 642 628 649 621 ca23 where
  isNum := PySem.W.mg_of X G (show PySem.W.nsIn (K23 w.params) mainGlobals "is_number" = some (some (.ref 345)) by kernel_rfl)
  kNum := kp_is_number _
  item := PySem.W.mg_of X G (show PySem.W.nsIn (K23 w.params) mainGlobals "is_item" = some (some (.ref 635)) by kernel_rfl)
  kIt := kp_is_item _
  span := PySem.W.mg_of X G (show PySem.W.nsIn (K23 w.params) mainGlobals "span_of" = some (some (.ref 642)) by kernel_rfl)
  kSp := kp_span_of _
  needM := PySem.W.mg_of X G (show PySem.W.nsIn (K23 w.params) mainGlobals "need_manner" = some (some (.ref 628)) by kernel_rfl)
  kNM := kp_need_manner _
  needE := PySem.W.mg_of X G (show PySem.W.nsIn (K23 w.params) mainGlobals "need_entry" = some (some (.ref 649)) by kernel_rfl)
  kNE := kp_need_entry _
  badMan := PySem.W.mg_of X G (show PySem.W.nsIn (K23 w.params) mainGlobals "BadManner" = some (some (.ref 179)) by kernel_rfl)
  badEnt := PySem.W.mg_of X G (show PySem.W.nsIn (K23 w.params) mainGlobals "BadEntry" = some (some (.ref 200)) by kernel_rfl)
  isi := PySem.W.mg_none_of X G (show PySem.W.nsIn (K23 w.params) mainGlobals "isinstance" = some none by kernel_rfl)
  tuple := PySem.W.mg_none_of X G (show PySem.W.nsIn (K23 w.params) mainGlobals "tuple" = some none by kernel_rfl)
  str := PySem.W.mg_none_of X G (show PySem.W.nsIn (K23 w.params) mainGlobals "str" = some none by kernel_rfl)
  len := PySem.W.mg_none_of X G (show PySem.W.nsIn (K23 w.params) mainGlobals "len" = some none by kernel_rfl)
  enum := PySem.W.mg_none_of X G (show PySem.W.nsIn (K23 w.params) mainGlobals "enumerate" = some none by kernel_rfl)
  sup := PySem.W.mg_none_of X G (show PySem.W.nsIn (K23 w.params) mainGlobals "super" = some none by kernel_rfl)
  mitems := (by
    obtain ⟨t, e⟩ : ∃ t, PySem.W.nsIn (K23 w.params) mainGlobals "MOST_ITEMS" = some (some (.int 50 t)) := ⟨tkO (PySem.W.nsIn (K23 w.params) mainGlobals "MOST_ITEMS"), by kernel_rfl⟩
    exact ⟨t, PySem.W.mg_of X G e⟩)
  manners := PySem.W.mg_of X G (show PySem.W.nsIn (K23 w.params) mainGlobals "MANNERS" = some (some (.ref 621)) by kernel_rfl)
  mn := tup_MANNERS _
theorem txIx : Ix.TxIx (K23 w.params) mg 841 683 649 661 ca23 where
  needN := PySem.W.mg_of X G (show PySem.W.nsIn (K23 w.params) mainGlobals "need_name" = some (some (.ref 683)) by kernel_rfl)
  kNN := kp_need_name _
  needE := PySem.W.mg_of X G (show PySem.W.nsIn (K23 w.params) mainGlobals "need_entry" = some (some (.ref 649)) by kernel_rfl)
  kNE := kp_need_entry _
  plain := PySem.W.mg_of X G (show PySem.W.nsIn (K23 w.params) mainGlobals "plain_entry" = some (some (.ref 661)) by kernel_rfl)
  kPE := kp_plain_entry _
  badName := PySem.W.mg_of X G (show PySem.W.nsIn (K23 w.params) mainGlobals "BadName" = some (some (.ref 221)) by kernel_rfl)
  isi := PySem.W.mg_none_of X G (show PySem.W.nsIn (K23 w.params) mainGlobals "isinstance" = some none by kernel_rfl)
  str := PySem.W.mg_none_of X G (show PySem.W.nsIn (K23 w.params) mainGlobals "str" = some none by kernel_rfl)
  tuple := PySem.W.mg_none_of X G (show PySem.W.nsIn (K23 w.params) mainGlobals "tuple" = some none by kernel_rfl)
  len := PySem.W.mg_none_of X G (show PySem.W.nsIn (K23 w.params) mainGlobals "len" = some none by kernel_rfl)
  all := PySem.W.mg_none_of X G (show PySem.W.nsIn (K23 w.params) mainGlobals "all" = some none by kernel_rfl)
  sup := PySem.W.mg_none_of X G (show PySem.W.nsIn (K23 w.params) mainGlobals "super" = some none by kernel_rfl)
  letters := (by
    obtain ⟨t, e⟩ : ∃ t, PySem.W.nsIn (K23 w.params) mainGlobals "LETTERS" = some (some (.str Ix.abc t)) := ⟨tkO (PySem.W.nsIn (K23 w.params) mainGlobals "LETTERS"), by kernel_rfl⟩
    exact ⟨t, PySem.W.mg_of X G e⟩)
  mostL := (by
    obtain ⟨t, e⟩ : ∃ t, PySem.W.nsIn (K23 w.params) mainGlobals "MOST_LETTERS" = some (some (.int 20 t)) := ⟨tkO (PySem.W.nsIn (K23 w.params) mainGlobals "MOST_LETTERS"), by kernel_rfl⟩
    exact ⟨t, PySem.W.mg_of X G e⟩)
  clI := cl_Index _
  nS := na_Index_stored_style _
  nM := na_Index_stored_manner _
  nE := na_Index_stored_entries _
  nP := na_Index_past _
theorem txIi : Ix.TxIi (K23 w.params) mg 841 628 where
  needM := PySem.W.mg_of X G (show PySem.W.nsIn (K23 w.params) mainGlobals "need_manner" = some (some (.ref 628)) by kernel_rfl)
  kNM := kp_need_manner _
  clI := cl_Index _
  nS := na_Index_stored_style _
  nM := na_Index_stored_manner _
  nE := na_Index_stored_entries _
  nP := na_Index_past _
theorem sc_Style_base : FnScope ["self"] ["self"] (defScope (inClass (top 50) 2)) := ⟨rfl, rfl, rfl, by decide +kernel, rfl, by decide +kernel, by decide +kernel⟩
theorem f_Style_base : FnOk P23 w (K23 w.params) mg base CX0 1 520 (fd_Style_base w.params) ["self"] (getSp 616 "stored_base") := fn_getter (N := ["self"]) (lk_Style_base _) (cd_Style_base _) (sc_Style_base X G) rfl rfl (cl_Style _) (na_Style_stored_base _)
theorem sc_Style_rules : FnScope ["self"] ["self"] (defScope (inClass (top 50) 3)) := ⟨rfl, rfl, rfl, by decide +kernel, rfl, by decide +kernel, by decide +kernel⟩
theorem f_Style_rules : FnOk P23 w (K23 w.params) mg base CX0 1 528 (fd_Style_rules w.params) ["self"] (getSp 616 "stored_rules") := fn_getter (N := ["self"]) (lk_Style_rules _) (cd_Style_rules _) (sc_Style_rules X G) rfl rfl (cl_Style _) (na_Style_stored_rules _)
theorem sc_Index_style : FnScope ["self"] ["self"] (defScope (inClass (top 68) 1)) := ⟨rfl, rfl, rfl, by decide +kernel, rfl, by decide +kernel, by decide +kernel⟩
theorem f_Index_style : FnOk P23 w (K23 w.params) mg base CX0 1 705 (fd_Index_style w.params) ["self"] (getSp 841 "stored_style") := fn_getter (N := ["self"]) (lk_Index_style _) (cd_Index_style _) (sc_Index_style X G) rfl rfl (cl_Index _) (na_Index_stored_style _)
theorem sc_Index_manner : FnScope ["self"] ["self"] (defScope (inClass (top 68) 3)) := ⟨rfl, rfl, rfl, by decide +kernel, rfl, by decide +kernel, by decide +kernel⟩
theorem f_Index_manner : FnOk P23 w (K23 w.params) mg base CX0 1 722 (fd_Index_manner w.params) ["self"] (getSp 841 "stored_manner") := fn_getter (N := ["self"]) (lk_Index_manner _) (cd_Index_manner _) (sc_Index_manner X G) rfl rfl (cl_Index _) (na_Index_stored_manner _)
theorem mgStyle : mg "Style" = some (.ref 616) := PySem.W.mg_of X G (show PySem.W.nsIn (K23 w.params) mainGlobals "Style" = some (some (.ref 616)) by kernel_rfl)
theorem mgIndex : mg "Index" = some (.ref 841) := PySem.W.mg_of X G (show PySem.W.nsIn (K23 w.params) mainGlobals "Index" = some (some (.ref 841)) by kernel_rfl)
theorem f_is_integer : FnOk P23 w (K23 w.params) mg base CX0 1 338 (fd_is_integer w.params) ["value"] (spIsInt (K23 w.params)) := Dg.ok_isInt (fn_is_integer _) (txG X G)
theorem f_is_number : FnOk P23 w (K23 w.params) mg base CX0 2 345 (fd_is_number w.params) ["value"] (spIsNum (K23 w.params)) := Dg.ok_isNum (fn_is_number _) ((f_is_integer X G).mono (by decide)) (bd_is_integer _) (txI X G)
theorem f_need_number : FnOk P23 w (K23 w.params) mg base (L2.CX P23 w) 3 364 (fd_need_number w.params) ["number"] (spNeed (Nm (K23 w.params)) (ca23 2)) := Dg.ok_needN (ca := ca23) (fn_need_number _) ((f_is_number X G).mono (by decide)) (bd_is_number _) (PySem.W.mg_of X G (show PySem.W.nsIn (K23 w.params) mainGlobals "is_number" = some (some (.ref 345)) by kernel_rfl)) (kp_is_number _) (txG X G) (mk2 _) (PySem.W.mg_of X G (show PySem.W.nsIn (K23 w.params) mainGlobals "BadNumber" = some (some (.ref 74)) by kernel_rfl))
theorem f_need_base : FnOk P23 w (K23 w.params) mg base (L2.CX P23 w) 2 357 (fd_need_base w.params) ["base"] (spNeed (Bs (K23 w.params)) (ca23 1)) := Dg.ok_needB (ca := ca23) (fn_need_base _) ((f_is_integer X G).mono (by decide)) (bd_is_integer _) (txI X G) (mk1 _) (PySem.W.mg_of X G (show PySem.W.nsIn (K23 w.params) mainGlobals "BadBase" = some (some (.ref 53)) by kernel_rfl))
theorem f_digits : FnOk P23 w (K23 w.params) mg base (L2.CX P23 w) 4 378 (fd_digits w.params) ["base", "number"] (spDigits (K23 w.params) ca23) := Dg.ok_digits (ca := ca23) (fn_digits _) ((f_need_base X G).mono (by decide)) (bd_need_base _) ((f_need_number X G).mono (by decide)) (bd_need_number _) (txF X G)
theorem f_length : FnOk P23 w (K23 w.params) mg base (L2.CX P23 w) 5 385 (fd_length w.params) ["base", "number"] (spLength (K23 w.params) ca23) := Dg.ok_length (ca := ca23) (fn_length _) ((f_digits X G).mono (by decide)) (bd_digits _) (txF X G)
theorem f_is_figures : FnOk P23 w (K23 w.params) mg base CX0 1 350 (fd_is_figures w.params) ["base", "value", "most"] (spIsFig (K23 w.params)) := Dg.ok_isFig (fn_is_figures _) (txG X G) (PySem.W.mg_none_of X G (show PySem.W.nsIn (K23 w.params) mainGlobals "all" = some none by kernel_rfl))
theorem f_l_mixed : FnOk P23 w (K23 w.params) mg base CX0 1 852 (fd_l_mixed w.params) ["cell", "k"] Dr.spMixed := Dr.ok_mixed (fn_l_mixed _) (txB X G)
theorem f_l_begin : FnOk P23 w (K23 w.params) mg base CX0 1 857 (fd_l_begin w.params) ["script"] (Dr.spBegin (K23 w.params)) := Dr.ok_begin (fn_l_begin _) (txB X G)
theorem f_l_draw : FnOk P23 w (K23 w.params) mg base CX0 2 864 (fd_l_draw w.params) ["state", "many"] Dr.spDraw := Dr.ok_draw (fn_l_draw _) (fn_l_mixed _) (bd_l_mixed _) (txD X G)
theorem f_l_of : FnOk P23 w (K23 w.params) mg base CX0 3 871 (fd_l_of w.params) ["state", "some"] Dr.spOf := Dr.ok_of (fdm := fd_l_mixed w.params) (fn_l_of _) ((f_l_draw X G).mono (by decide)) (bd_l_draw _) (txO X G)
theorem f_need_range : FnOk P23 w (K23 w.params) mg base (L2.CX P23 w) 3 371 (fd_need_range w.params) ["first", "second"] (spNeedR (K23 w.params) ca23) := Dg.ok_needR (ca := ca23) (fn_need_range _) ((f_is_number X G).mono (by decide)) (bd_is_number _) (txF3 X G) (mk4 _) (PySem.W.mg_of X G (show PySem.W.nsIn (K23 w.params) mainGlobals "BadRange" = some (some (.ref 116)) by kernel_rfl))
theorem f_changed : FnOk P23 w (K23 w.params) mg base (L2.CX P23 w) 4 392 (fd_changed w.params) ["base", "first", "second"] (spRng (K23 w.params) ca23 ChgIs) := Dg.ok_changed (ca := ca23) (fn_changed _) ((f_need_base X G).mono (by decide)) (bd_need_base _) ((f_need_range X G).mono (by decide)) (bd_need_range _) (txF3 X G)
theorem f_near : FnOk P23 w (K23 w.params) mg base (L2.CX P23 w) 4 399 (fd_near w.params) ["base", "first", "second"] (spRng (K23 w.params) ca23 fun β f s m => NearIs β (s - f) m) := Dg.ok_near (ca := ca23) (fn_near _) ((f_need_base X G).mono (by decide)) (bd_need_base _) ((f_need_range X G).mono (by decide)) (bd_need_range _) (txF3 X G)
theorem f_is_size : FnOk P23 w (K23 w.params) mg base CX0 2 406 (fd_is_size w.params) ["value", "least"] spSize := Dt.ok_size (fn_is_size _) ((f_is_integer X G).mono (by decide)) (bd_is_integer _) (txI X G) (by
    obtain ⟨t, e⟩ : ∃ t, PySem.W.nsIn (K23 w.params) mainGlobals "MOST_SIZE" = some (some (.int 6 t)) := ⟨tkO (PySem.W.nsIn (K23 w.params) mainGlobals "MOST_SIZE"), by kernel_rfl⟩
    exact ⟨t, PySem.W.mg_of X G e⟩)
theorem f_are_bounds : FnOk P23 w (K23 w.params) mg base CX0 3 413 (fd_are_bounds w.params) ["least", "most"] spBounds := Dt.ok_bounds (fn_are_bounds _) ((f_is_size X G).mono (by decide)) (bd_is_size _) (txR X G)
theorem f_begins : FnOk P23 w (K23 w.params) mg base CX0 1 420 (fd_begins w.params) ["value", "word", "many"] spBegins := Dt.ok_begins (fn_begins _) (txR X G)
theorem f_is_condition : FnOk P23 w (K23 w.params) mg base CX0 4 427 (fd_is_condition w.params) ["base", "value"] spCond := Dt.ok_cond (fn_is_condition _) ((f_is_figures X G).mono (by decide)) (bd_is_figures _) ((f_is_size X G).mono (by decide)) (bd_is_size _) ((f_are_bounds X G).mono (by decide)) (bd_are_bounds _) ((f_begins X G).mono (by decide)) (bd_begins _) (txR X G)
theorem f_is_keep : FnOk P23 w (K23 w.params) mg base CX0 3 434 (fd_is_keep w.params) ["value"] spKeep := Dt.ok_keep (fn_is_keep _) ((f_is_size X G).mono (by decide)) (bd_is_size _) ((f_begins X G).mono (by decide)) (bd_begins _) (txR X G)
theorem f_is_rule : FnOk P23 w (K23 w.params) mg base (L2.CX P23 w) 5 439 (fd_is_rule w.params) ["base", "value"] (spRule (K23 w.params) ca23) := Dt.ok_rule (ca := ca23) (fn_is_rule _) ((f_need_base X G).mono (by decide)) (bd_need_base _) ((f_is_condition X G).mono (by decide)) (bd_is_condition _) ((f_is_keep X G).mono (by decide)) (bd_is_keep _) (txR X G)
theorem f_need_rules : FnOk P23 w (K23 w.params) mg base (L2.CX P23 w) 6 446 (fd_need_rules w.params) ["base", "rules"] (spNeedRules ca23) := Dt.ok_needRules (ca := ca23) (fn_need_rules _) ((f_is_rule X G).mono (by decide)) (bd_is_rule _) (mk5 _) (txY X G)
theorem f_plain_rule : FnOk P23 w (K23 w.params) mg base CX0 1 458 (fd_plain_rule w.params) ["rule"] spPlain := Dt.ok_plain (ca := ca23) (fn_plain_rule _) (txY X G)
theorem f_Style___init__ : FnR P23 w (K23 w.params) mg base (L2.CX P23 w) 7 503 (spInitR (K23 w.params) 616 ca23) := Dt.ok_init (ca := ca23) (lk_Style___init__ _) (cd_Style___init__ _) (cl_Style _) (na_Style_stored_base _) (na_Style_stored_rules _) ((f_need_base X G).mono (by decide)) (bd_need_base _) ((f_need_rules X G).mono (by decide)) (bd_need_rules _) ((f_plain_rule X G).mono (by decide)) (bd_plain_rule _) (txY X G)
theorem f_Style_of : FnOk P23 w (K23 w.params) mg base (L2.CX P23 w) 9 510 (fd_Style_of w.params) ["cls", "base", "rules"] (spOfS (K23 w.params) 616 ca23) := Dt.ok_ofS (ca := ca23) (fn_Style_of _) (mk_Style _) (f_Style___init__ X G) ((f_need_base X G).mono (by decide)) (bd_need_base _) (mk5 _) (txY X G)
theorem f_facts_of : FnOk P23 w (K23 w.params) mg base (L2.CX P23 w) 6 465 (fd_facts_of w.params) ["base", "first", "second"] (spFacts (K23 w.params) ca23) := Dg.ok_facts (ca := ca23) (fn_facts_of _) ((f_need_range X G).mono (by decide)) (bd_need_range _) ((f_digits X G).mono (by decide)) (bd_digits _) ((f_near X G).mono (by decide)) (bd_near _) ((f_length X G).mono (by decide)) (bd_length _) ((f_changed X G).mono (by decide)) (bd_changed _) (txFa X G)
theorem f_holds : FnOk P23 w (K23 w.params) mg base CX0 1 472 (fd_holds w.params) ["condition", "facts"] spHolds := Dt.ok_holds (fn_holds _)
theorem f_first_applying : FnOk P23 w (K23 w.params) mg base CX0 2 477 (fd_first_applying w.params) ["rules", "facts"] spFirst := Dt.ok_first (fn_first_applying _) ((f_holds X G).mono (by decide)) (bd_holds _) (txW X G)
theorem f_many_kept : FnOk P23 w (K23 w.params) mg base CX0 1 484 (fd_many_kept w.params) ["keep", "facts"] spMany := Dt.ok_many (fn_many_kept _) (txW X G)
theorem f_written : FnOk P23 w (K23 w.params) mg base CX0 3 491 (fd_written w.params) ["rules", "facts"] spWritten := Dt.ok_written (fn_written _) ((f_first_applying X G).mono (by decide)) (bd_first_applying _) ((f_many_kept X G).mono (by decide)) (bd_many_kept _) (txW X G)
theorem f_Style_kept : FnOk P23 w (K23 w.params) mg base (L2.CX P23 w) 7 543 (fd_Style_kept w.params) ["self", "first", "second"] (spM (K23 w.params) 616 ca23 fun β f s Ds => .int (keptD β f s Ds : Int)) := Dt.ok_keptOf (ca := ca23) (fn_Style_kept _) ((f_written X G).mono (by decide)) (bd_written _) ((f_facts_of X G).mono (by decide)) (bd_facts_of _) (txM X G)
theorem f_Style_tail : FnOk P23 w (K23 w.params) mg base (L2.CX P23 w) 8 550 (fd_Style_tail w.params) ["self", "first", "second"] (spM (K23 w.params) 616 ca23 fun β f s Ds => .str (tailD β f s Ds)) := Dt.ok_tailOf (ca := ca23) (fn_Style_tail _) (mt_Style_kept _) ((f_Style_kept X G).mono (by decide)) (bd_Style_kept _) ((f_digits X G).mono (by decide)) (bd_digits _) (txM X G)
theorem f_Style___call__ : FnOk P23 w (K23 w.params) mg base (L2.CX P23 w) 9 557 (fd_Style___call__ w.params) ["self", "first", "second"] (spM (K23 w.params) 616 ca23 fun β f s Ds => .str (formD β f s Ds)) := Dt.ok_callOf (ca := ca23) (fn_Style___call__ _) (mt_Style_tail _) ((f_Style_tail X G).mono (by decide)) (bd_Style_tail _) ((f_digits X G).mono (by decide)) (bd_digits _) (txM X G)
theorem f_need_manner : FnOk P23 w (K23 w.params) mg base (L2.CX P23 w) 2 628 (fd_need_manner w.params) ["manner"] (spNeedMan ca23) := Dt.ok_needMan (ca := ca23) (fn_need_manner _) (mk7 _) (txEn X G)
theorem f_is_item : FnOk P23 w (K23 w.params) mg base CX0 3 635 (fd_is_item w.params) ["value"] spItem := Dt.ok_item (ca := ca23) (fn_is_item _) ((f_is_number X G).mono (by decide)) (bd_is_number _) (txEn X G)
theorem f_span_of : FnOk P23 w (K23 w.params) mg base CX0 1 642 (fd_span_of w.params) ["item"] spSpanOf := Dt.ok_spanOf (ca := ca23) (fn_span_of _) (txEn X G)
theorem f_need_entry : FnOk P23 w (K23 w.params) mg base (L2.CX P23 w) 4 649 (fd_need_entry w.params) ["value"] (spNeedEnt ca23) := Dt.ok_needEnt (ca := ca23) (fn_need_entry _) ((f_is_item X G).mono (by decide)) (bd_is_item _) ((f_span_of X G).mono (by decide)) (bd_span_of _) (mk8 _) (txEn X G)
theorem f_entry_text : FnOk P23 w (K23 w.params) mg base (L2.CX P23 w) 9 656 (fd_entry_text w.params) ["style", "manner", "entry"] (spEntT 616 ca23) := Dt.ok_entText (ca := ca23) (fn_entry_text _) ((f_need_manner X G).mono (by decide)) (bd_need_manner _) ((f_need_entry X G).mono (by decide)) (bd_need_entry _) ((f_span_of X G).mono (by decide)) (bd_span_of _) ((f_digits X G).mono (by decide)) (bd_digits _) (cl_Style _) (pr_Style_base _) ((f_Style_base X G).mono (by decide)) (bd_Style_base _) (mt_Style_tail _) ((f_Style_tail X G).mono (by decide)) (bd_Style_tail _) (PySem.W.mg_of X G (show PySem.W.nsIn (K23 w.params) mainGlobals "digits" = some (some (.ref 378)) by kernel_rfl)) (kp_digits _) (txEn X G)
theorem f_need_name : FnOk P23 w (K23 w.params) mg base (L2.CX P23 w) 2 683 (fd_need_name w.params) ["name"] (Ix.spNeedName ca23) := Ix.ok_needName (ca := ca23) (fn_need_name _) (mk9 _) (txIx X G)
theorem f_plain_entry : FnOk P23 w (K23 w.params) mg base CX0 1 661 (fd_plain_entry w.params) ["entry"] Ix.spPlainE := Ix.ok_plainE (ca := ca23) (fn_plain_entry _) (txIx X G)
theorem f_Index_settle : FnOk P23 w (K23 w.params) mg base CX0 1 730 (fd_Index_settle w.params) ["self", "style", "entries"] (Ix.spSettle 841) := Ix.ok_settle (ca := ca23) (fn_Index_settle _) (txIx X G)
theorem f_Index_change : FnOk P23 w (K23 w.params) mg base CX0 2 735 (fd_Index_change w.params) ["self", "style", "entries"] (Ix.spChange 841) := Ix.ok_change (ca := ca23) (fn_Index_change _) (mt_Index_settle _) ((f_Index_settle X G).mono (by decide)) (bd_Index_settle _) (txIx X G)
theorem f_Index___setitem__ : FnOk P23 w (K23 w.params) mg base (L2.CX P23 w) 5 742 (fd_Index___setitem__ w.params) ["self", "name", "entry"] (Ix.spSetItem 841 ca23) := Ix.ok_setItem (ca := ca23) (fn_Index___setitem__ _) ((f_need_name X G).mono (by decide)) (bd_need_name _) ((f_need_entry X G).mono (by decide)) (bd_need_entry _) ((f_plain_entry X G).mono (by decide)) (bd_plain_entry _) (mt_Index_change _) ((f_Index_change X G).mono (by decide)) (bd_Index_change _) (txIx X G)
theorem f_Index___init__ : FnOk P23 w (K23 w.params) mg base (L2.CX P23 w) 3 698 (fd_Index___init__ w.params) ["self", "style", "manner"] (Ix.spIInit 841 ca23) := Ix.ok_iinit (ca := ca23) (fnD_Index___init__ _) ((f_need_manner X G).mono (by decide)) (bd_need_manner _) (txIi X G)
theorem f_l_put : FnOk P23 w (K23 w.params) mg base (L2.CX P23 w) 6 913 (fd_l_put w.params) ["index", "name", "entry"] (Ix.spSetItem 841 ca23) := Ix.ok_lput (ca := ca23) (fn_l_put _) (sc_set_Index _) ((f_Index___setitem__ X G).mono (by decide)) (bd_Index___setitem__ _)
theorem f_l_is_number : FnOk P23 w (K23 w.params) mg base CX0 1 892 (fd_l_is_number w.params) ["thing"] spLIsNum := Dt.ok_lisnum (fn_l_is_number _) (PySem.W.mg_none_of X G (show PySem.W.nsIn (K23 w.params) mainGlobals "isinstance" = some none by kernel_rfl)) (PySem.W.mg_none_of X G (show PySem.W.nsIn (K23 w.params) mainGlobals "int" = some none by kernel_rfl)) (PySem.W.mg_none_of X G (show PySem.W.nsIn (K23 w.params) mainGlobals "bool" = some none by kernel_rfl))
theorem f_l_due : FnOk P23 w (K23 w.params) mg base CX0 2 899 (fd_l_due w.params) ["thing"] spLDueE := Dt.ok_ldueE (fn_l_due _) ((f_l_is_number X G).mono (by decide)) (bd_l_is_number _) (PySem.W.mg_of X G (show PySem.W.nsIn (K23 w.params) mainGlobals "_law_is_number" = some (some (.ref 892)) by kernel_rfl)) (kp_l_is_number _) (PySem.W.mg_none_of X G (show PySem.W.nsIn (K23 w.params) mainGlobals "isinstance" = some none by kernel_rfl)) (PySem.W.mg_none_of X G (show PySem.W.nsIn (K23 w.params) mainGlobals "tuple" = some none by kernel_rfl)) (PySem.W.mg_none_of X G (show PySem.W.nsIn (K23 w.params) mainGlobals "len" = some none by kernel_rfl)) (PySem.W.mg_none_of X G (show PySem.W.nsIn (K23 w.params) mainGlobals "enumerate" = some none by kernel_rfl))
theorem f_l_entry : FnOk P23 w (K23 w.params) mg base CX0 4 885 (fd_l_entry w.params) ["state", "many"] spLEntry := Dt.ok_lentry (fn_l_entry _) ((f_l_draw X G).mono (by decide)) (bd_l_draw _) (txO X G) (PySem.W.mg_none_of X G (show PySem.W.nsIn (K23 w.params) mainGlobals "range" = some none by kernel_rfl)) (PySem.W.mg_none_of X G (show PySem.W.nsIn (K23 w.params) mainGlobals "tuple" = some none by kernel_rfl))
theorem f_l_bent : FnOk P23 w (K23 w.params) mg base CX0 5 906 (fd_l_bent w.params) ["state", "entry"] spLBent := Dt.ok_lbent (fn_l_bent _) ((f_l_draw X G).mono (by decide)) (bd_l_draw _) (txO X G) ((f_l_of X G).mono (by decide)) (bd_l_of _) (PySem.W.mg_of X G (show PySem.W.nsIn (K23 w.params) mainGlobals "_law_of" = some (some (.ref 871)) by kernel_rfl)) (kp_l_of _) (PySem.W.mg_none_of X G (show PySem.W.nsIn (K23 w.params) mainGlobals "len" = some none by kernel_rfl)) (PySem.W.mg_none_of X G (show PySem.W.nsIn (K23 w.params) mainGlobals "isinstance" = some none by kernel_rfl)) (PySem.W.mg_none_of X G (show PySem.W.nsIn (K23 w.params) mainGlobals "tuple" = some none by kernel_rfl)) (PySem.W.mg_none_of X G (show PySem.W.nsIn (K23 w.params) mainGlobals "list" = some none by kernel_rfl))
end
end KH23

namespace L2
open PySem PySem.Spec PyProof.Rows
theorem fold_sign (c : Nat) : ∀ (n : Nat) (a : Array Nat), (List.replicate n #[c]).foldl (· ++ ·) a = a ++ (List.replicate n c).toArray
  | 0, a => by simp
  | n + 1, a => by
    rw [List.replicate_succ, List.foldl_cons, fold_sign c n, List.replicate_succ]
    apply Array.toList_inj.mp
    simp
/-- a text of one sign times a number -/
theorem op_repS {X : Cx} : OpR X (binaryOp .Mult) (fun x y H Q => ∃ c n : Nat, x = .str ⟨#[c]⟩ ∧ y = .int (n : Int) ∧ 2 ≤ n ∧ n ≤ 100000 ∧ Q (.str ⟨(List.replicate n c).toArray⟩) H) := by
  intro pins s σ H x y v u Q I rx ry h
  obtain ⟨c, n, rfl, rfl, n2, nz, q⟩ := h
  obtain ⟨t, rfl⟩ := rx
  obtain ⟨t', rfl⟩ := ry
  have l1 : (⟨#[c]⟩ : Str).length = 1 := rfl
  refine P.mul_str ?_ (fun _ _ => ?_) (fun _ _ => ?_) ?_
  · rw [decide_eq_false (by omega), decide_eq_false (by omega)]
    rfl
  · rw [l1]
    have : (1 : Int) ≤ (2 ^ 63 - 1) / (n : Int) := by
      rw [Int.le_ediv_iff_mul_le (by omega)]
      omega
    omega
  · rw [l1]
    unfold PySem.Builtin.Str.tooLong
    apply decide_eq_false
    rw [show (1 * (n : Int).toNat) = n by omega]
    have := sizeLine_eq
    omega
  · rw [if_neg (by omega), if_neg (by rw [l1]; simp; omega)]
    rw [show (n : Int).toNat = n by omega, fold_sign]
    refine ⟨?_, .str _, H, I.tok _, ⟨_, rfl⟩, ?_⟩
    · show (#[] ++ (List.replicate n c).toArray).size ≤ sizeLine
      rw [sizeLine_eq]
      simp
      omega
    · simpa using q
end L2

/-! k23: what stands through the law: the drawer, the tables, the style, the index; data beside all that changes. -/
namespace Kx
open PySem L2 Evl ExM Dg Dt LamR LamX Told TL Lm Ix StX ClX
open Dr (StAt SameB)
/-- an object that is no data -/
def NoD : HO → Prop
  | .tup _ => False
  | .lst _ => False
  | .dK _ => False
  | _ => True
mutual
/-- what is no data is no part of it -/
theorem Pt.off {H : Hp} {S T : List Addr} (hT : ∀ b ∈ T, ∃ o, H b = some o ∧ NoD o) : ∀ {v : V} {d : PyData}, Pt (hid S H) v d → Pt (hid (S ++ T) H) v d
  | _, .none, h => by cases h; exact .non
  | _, .bool _, h => by cases h; exact .bl _
  | _, .int _, h => by cases h; exact .int _
  | _, .str _, h => by cases h with | str _ z => exact .str _ z
  | _, .tuple ds, h => by
    cases h with
    | @tup a vs _ hs ha => exact .tup (off_at hT hs (fun z => z)) (PtAll.off hT ha)
  | _, .list ds, h => by
    cases h with
    | @lst a vs _ hs ha => exact .lst (off_at hT hs (fun z => z)) (PtAll.off hT ha)
  | _, .dict _, h => by
    cases h with
    | nil hs => exact .nil (off_at hT hs (fun z => z))
theorem PtAll.off {H : Hp} {S T : List Addr} (hT : ∀ b ∈ T, ∃ o, H b = some o ∧ NoD o) : ∀ {vs : List V} {ds : List PyData}, PtAll (hid S H) vs ds → PtAll (hid (S ++ T) H) vs ds
  | _, [], h => by cases h; exact .nil
  | _, d :: ds, h => by
    cases h with
    | cons h1 h2 => exact .cons (Pt.off hT h1) (PtAll.off hT h2)
theorem off_at {H : Hp} {S T : List Addr} (hT : ∀ b ∈ T, ∃ o, H b = some o ∧ NoD o) {a : Addr} {o : HO} (h : hid S H a = some o) (ho : ¬ NoD o) : hid (S ++ T) H a = some o := by
  obtain ⟨n, h'⟩ := hid_some h
  rw [hid_out]
  · exact h'
  · intro z
    rcases List.mem_append.mp z with z | z
    · exact n z
    · obtain ⟨u, e, k⟩ := hT a z
      rw [h'] at e
      injection e with e
      rw [e] at ho
      exact ho k
end
/-- kept but for some addresses and the tables -/
def Wi (S : List Addr) (H H' : Hp) : Prop := ∀ b o, H b = some o → b ∉ S → (∀ ps, o ≠ .tbl ps) → H' b = some o
section
variable {S : List Addr} {H H1 H' : Hp} {p l x ea pa : Addr}
theorem Wi.refl : Wi S H H := fun _ _ h _ _ => h
theorem Wi.trans (a : Wi S H H1) (b : Wi S H1 H') : Wi S H H' := fun c o h n t => b c o (a c o h n t) n t
theorem Wi.extN (e : ExtN H H') : Wi S H H' := fun b o h _ t => e b o h t
theorem Wi.ex (e : Ex H H') : Wi S H H' := fun b o h _ _ => e b o h
theorem Wi.same (e : SameB H H' p l) : Wi [p, l, x, ea, pa] H H' := fun b o h n _ => e b o h (fun z => n (by simp [z])) (fun z => n (by simp [z]))
theorem Wi.bi (e : Bi x ea pa H H') : Wi [p, l, x, ea, pa] H H' := fun b o h n _ => e b o h (fun z => n (by simp [z])) (fun z => n (by simp [z])) (fun z => n (by simp [z]))
theorem Wi.h (e : Wi S H H') : ExtN (hid S H) (hid S H') := fun b o h t => by
  obtain ⟨n, h'⟩ := hid_some h
  rw [hid_out n]
  exact e b o h' n t
theorem Wi.pt {v : V} {d : PyData} (e : Wi S H H') (k : Pt (hid S H) v d) : Pt (hid S H') v d := k.extN e.h
end
/-- what stands through the law -/
structure Lx (T : List (Addr × Str)) (CI CS : Addr) (β : Nat) (Ds : List PyData) (p c l : Addr) (n : Nat) (a : Int) (x ea pa st : Addr) (m : Nat) (H : Hp) : Prop where
  w : Lw T p c l n a H
  nlc : l ≠ c
  pe : p ≠ ea
  ca : c ≠ pa
  la : l ≠ pa
  s : StyAt (hid [p, l, x, ea, pa] H) CS st β Ds
  i : ∃ es ps, IxAt CI H x ea pa st "full" es ps ∧ es.length ≤ m ∧ ps.length ≤ m
section
variable {T : List (Addr × Str)} {CI CS : Addr} {β : Nat} {Ds : List PyData} {p c l : Addr} {n : Nat} {a b : Int} {x ea pa st : Addr} {m k : Nat} {H H' : Hp}
theorem Lx.offs (L : Lx T CI CS β Ds p c l n a x ea pa st m H) : p ≠ x ∧ p ≠ pa ∧ c ≠ x ∧ c ≠ ea ∧ l ≠ x ∧ l ≠ ea := by
  obtain ⟨es, ps, I, _⟩ := L.i
  obtain ⟨dx, hx⟩ := I.i
  obtain ⟨cs, hc, _⟩ := L.w.s.c
  obtain ⟨ls, hl, _⟩ := L.w.s.l
  refine ⟨ne_of L.w.s.d hx (by intro z; cases z), ne_of L.w.s.d I.p (by intro z; cases z), ne_of hc hx (by intro z; cases z), ne_of hc I.e (by intro z; cases z), ne_of hl hx (by intro z; cases z), ne_of hl I.e (by intro z; cases z)⟩
theorem Lx.sty (L : Lx T CI CS β Ds p c l n a x ea pa st m H) : StyAt H CS st β Ds := L.s.ex (hid_ex _ _)
theorem Lx.extN (L : Lx T CI CS β Ds p c l n a x ea pa st m H) (e : ExtN H H') (t : Tabs T H') : Lx T CI CS β Ds p c l n a x ea pa st m H' := by
  obtain ⟨es, ps, I, l1, l2⟩ := L.i
  exact ⟨L.w.extN e t, L.nlc, L.pe, L.ca, L.la, L.s.extN (Wi.extN e).h, es, ps, ⟨let ⟨dx, h⟩ := I.i; ⟨dx, e _ _ h (by simp)⟩, e _ _ I.e (by simp), e _ _ I.p (by simp)⟩, l1, l2⟩
theorem Lx.ex (L : Lx T CI CS β Ds p c l n a x ea pa st m H) (e : Ex H H') : Lx T CI CS β Ds p c l n a x ea pa st m H' := L.extN (ExtN.of e) (L.w.t.ext e)
theorem Lx.same (L : Lx T CI CS β Ds p c l n a x ea pa st m H) (S : StAt H' p c l n b) (e : SameB H H' p l) : Lx T CI CS β Ds p c l n b x ea pa st m H' := by
  obtain ⟨es, ps, I, l1, l2⟩ := L.i
  obtain ⟨n1, n2, n3, n4, n5, n6⟩ := L.offs
  exact ⟨L.w.same S e, L.nlc, L.pe, L.ca, L.la, L.s.extN (Wi.same e).h, es, ps, ⟨let ⟨dx, h⟩ := I.i; ⟨dx, e _ _ h n1.symm n5.symm⟩, e _ _ I.e L.pe.symm n6.symm, e _ _ I.p n2.symm L.la.symm⟩, l1, l2⟩
theorem tabs_bi {es : List (Key × V)} {ps : List V} {mn : Str} (I : IxAt CI H x ea pa st mn es ps) (t : Tabs T H) (e : Bi x ea pa H H') : Tabs T H' := fun q hq => by
  obtain ⟨dx, hx⟩ := I.i
  obtain ⟨cs, h1, h2, h3⟩ := t q hq
  refine ⟨cs, e _ _ h1 (ne_of h1 hx (by intro z; cases z)) (ne_of h1 I.e (by intro z; cases z)) (ne_of h1 I.p (by intro z; cases z)), h2, fun pos cv hc => ?_⟩
  obtain ⟨co, e1, e2⟩ := h3 pos cv hc
  exact ⟨co, e1, e _ _ e2 (ne_of e2 hx (by intro z; cases z)) (ne_of e2 I.e (by intro z; cases z)) (ne_of e2 I.p (by intro z; cases z))⟩
theorem Lx.bi {es : List (Key × V)} {ps : List V} (L : Lx T CI CS β Ds p c l n a x ea pa st m H) (e : Bi x ea pa H H') (I : IxAt CI H' x ea pa st "full" es ps) (l1 : es.length ≤ k) (l2 : ps.length ≤ k) : Lx T CI CS β Ds p c l n a x ea pa st k H' := by
  obtain ⟨es0, ps0, I0, _⟩ := L.i
  obtain ⟨n1, n2, n3, n4, n5, n6⟩ := L.offs
  refine ⟨⟨⟨e _ _ L.w.s.d n1 L.pe n2, let ⟨cs, h, z⟩ := L.w.s.c; ⟨cs, e _ _ h n3 n4 L.ca, z⟩, let ⟨ls, h, z⟩ := L.w.s.l; ⟨ls, e _ _ h n5 n6 L.la, z⟩, L.w.s.n0, L.w.s.n1, L.w.s.a0⟩, tabs_bi I0 L.w.t e⟩, L.nlc, L.pe, L.ca, L.la, L.s.extN (Wi.bi e).h, es, ps, I, l1, l2⟩
theorem Lx.wk (L : Lx T CI CS β Ds p c l n a x ea pa st m H) (h : m ≤ k) : Lx T CI CS β Ds p c l n a x ea pa st k H := by
  obtain ⟨es, ps, I, l1, l2⟩ := L.i
  exact ⟨L.w, L.nlc, L.pe, L.ca, L.la, L.s, es, ps, I, Nat.le_trans l1 h, Nat.le_trans l2 h⟩
/-- data without lists is beside all that changes -/
theorem Lx.beside (L : Lx T CI CS β Ds p c l n a x ea pa st m H) {v : V} {d : PyData} (k : Pt H v d) (h : noL d = true) : Pt (hid [p, l, x, ea, pa] H) v d := by
  obtain ⟨es, ps, I, _⟩ := L.i
  obtain ⟨dx, hx⟩ := I.i
  obtain ⟨ls, hl, _⟩ := L.w.s.l
  refine k.tk (tupK_hid fun b hb xs hz => ?_) h
  have cc : b = p ∨ b = l ∨ b = x ∨ b = ea ∨ b = pa := by simpa using hb
  rcases cc with rfl | rfl | rfl | rfl | rfl
  · rw [L.w.s.d] at hz; cases hz
  · rw [hl] at hz; cases hz
  · rw [hx] at hz; cases hz
  · rw [I.e] at hz; cases hz
  · rw [I.p] at hz; cases hz
/-- a bent entry, made while the index is locked -/
theorem rd_bent {E : XK} {Q : VK} {v : V} {ds : List PyData} (L : Lx T CI CS β Ds p c l n a x ea pa st m H) (ha : a < 2 ^ 39 - 10) (kv : Pt (hid [p, l, x, ea, pa] H) v (.tuple ds)) (nl : noLs ds = true) (n1 : 1 ≤ ds.length) (n60 : ds.length ≤ 60) (hit : ∀ d ∈ ds, ItK d)
    (k : ∀ (v' : V) (D : PyData) (H' : Hp) (b : Int), Pt (hid [p, l, x, ea, pa] H') v' D → BentS D → a ≤ b → b ≤ a + 3 → Lx T CI CS β Ds p c l n b x ea pa st m H' → Wi [p, l, x, ea, pa] H H' → Q v' H')
    {σ : St} {te : TE} (hte : ∀ (H1 : Hp) (Q1 : VK), spLBent [.ref p, v] H1 Q1 E → te σ H1 Q1) : tLockE (tLockE te) σ H Q := by
  obtain ⟨es, ps, I, l1, l2⟩ := L.i
  obtain ⟨dx, hx⟩ := I.i
  obtain ⟨m1, m2, m3, m4, m5, m6⟩ := L.offs
  have eapa : ea ≠ pa := ne_of I.e I.p (by intro z; cases z)
  have xea : x ≠ ea := ne_of hx I.e (by intro z; cases z)
  have xpa : x ≠ pa := ne_of hx I.p (by intro z; cases z)
  refine ⟨ea, .dK es, I.e, trivial, fun o1 => ⟨pa, .lst ps, by rw [upd_ne eapa.symm]; exact I.p, trivial, fun o2 => ?_⟩⟩
  obtain ⟨H2, eH2⟩ : ∃ H2, H2 = upd (upd H ea (.frz o1 (.dK es))) pa (.frz o2 (.lst ps)) := ⟨_, rfl⟩
  have kp : ∀ b, b ≠ ea → b ≠ pa → H2 b = H b := fun b z1 z2 => by rw [eH2, upd_ne z2, upd_ne z1]
  have hE : H2 ea = some (.frz o1 (.dK es)) := by rw [eH2, upd_ne eapa, upd_same]
  have hP : H2 pa = some (.frz o2 (.lst ps)) := by rw [eH2, upd_same]
  rw [← eH2]
  refine hte _ _ ?_
  obtain ⟨cs, hc, hcn⟩ := L.w.s.c
  obtain ⟨ls, hl, hln⟩ := L.w.s.l
  have S2 : StAt H2 p c l n a := ⟨by rw [kp p L.pe m2]; exact L.w.s.d, ⟨cs, by rw [kp c m4 L.ca]; exact hc, hcn⟩, ⟨ls, by rw [kp l m6 L.la]; exact hl, hln⟩, L.w.s.n0, L.w.s.n1, L.w.s.a0⟩
  have tk : TupK (hid [p, l, x, ea, pa] H) H2 := fun b xs hb => by
    obtain ⟨n, h'⟩ := hid_some hb
    rw [kp b (fun z => n (by simp [z])) (fun z => n (by simp [z]))]
    exact h'
  refine ⟨p, c, l, n, a, v, ds, rfl, S2, L.nlc, ha, kv.tk tk (by rw [noL]; exact nl), n1, n60, hit, fun v' D H3 b kD bD ab ba S3 sb => ?_⟩
  have hx3 : H3 x = some (.ins CI dx (ixF st "full" ea pa)) := sb _ _ (by rw [kp x xea xpa]; exact hx) m1.symm m5.symm
  have hE3 := sb _ _ hE L.pe.symm m6.symm
  have hP3 := sb _ _ hP m2.symm L.la.symm
  refine ⟨hP3, by rw [upd_ne eapa]; exact hE3, ?_⟩
  have kD3 : Pt (hid ([p, l] ++ [x, ea, pa]) H3) v' D := Pt.off (fun b hb => by
    have cc : b = x ∨ b = ea ∨ b = pa := by simpa using hb
    rcases cc with rfl | rfl | rfl
    · exact ⟨_, hx3, trivial⟩
    · exact ⟨_, hE3, trivial⟩
    · exact ⟨_, hP3, trivial⟩) kD
  obtain ⟨H4, eH4⟩ : ∃ H4, H4 = upd (upd H3 pa (.lst ps)) ea (.dK es) := ⟨_, rfl⟩
  have k4 : ∀ b, b ≠ ea → b ≠ pa → H4 b = H3 b := fun b z1 z2 => by rw [eH4, upd_ne z1, upd_ne z2]
  rw [← eH4]
  have w4 : ∀ b o, H b = some o → b ≠ p → b ≠ l → b ≠ ea → b ≠ pa → H4 b = some o := fun b o h z1 z2 z3 z4 => by
    rw [k4 b z3 z4]
    exact sb _ _ (by rw [kp b z3 z4]; exact h) z1 z2
  have hE4 : H4 ea = some (.dK es) := by rw [eH4, upd_same]
  have hP4 : H4 pa = some (.lst ps) := by rw [eH4, upd_ne eapa.symm, upd_same]
  obtain ⟨cs3, hc3, hcn3⟩ := S3.c
  obtain ⟨ls3, hl3, hln3⟩ := S3.l
  have wi : Wi [p, l, x, ea, pa] H H4 := fun b o h n _ => w4 b o h (fun z => n (by simp [z])) (fun z => n (by simp [z])) (fun z => n (by simp [z])) (fun z => n (by simp [z]))
  have S4 : StAt H4 p c l n b := ⟨by rw [k4 p L.pe m2]; exact S3.d, ⟨cs3, by rw [k4 c m4 L.ca]; exact hc3, hcn3⟩, ⟨ls3, by rw [k4 l m6 L.la]; exact hl3, hln3⟩, S3.n0, S3.n1, S3.a0⟩
  have sb4 : SameB H H4 p l := fun b o h z1 z2 => by
    by_cases e1 : b = ea
    · rw [e1, hE4, ← h, e1, I.e]
    · by_cases e2 : b = pa
      · rw [e2, hP4, ← h, e2, I.p]
      · exact w4 b o h z1 z2 e1 e2
  refine k v' D H4 b (kD3.ex fun b o h => ?_) bD ab ba (L.same S4 sb4) wi
  obtain ⟨n, h'⟩ := hid_some h
  have n' : b ∉ [p, l, x, ea, pa] := n
  rw [hid_out n', k4 b (fun z => n' (by simp [z])) (fun z => n' (by simp [z]))]
  exact h'
end
end Kx

/-! k23: what the lambdas tell. -/
namespace Kx
open PySem L2 Evl ExM Dg Dt LamR LamX Told TL Lm Ix StX ClX
open Dr (StAt SameB)
/-- what is told of an entry -/
def toldE : Option PyData → PyData
  | none => .tuple []
  | some d => .tuple [.str "entry", d]
theorem entGo_kind : ∀ {ds : List PyData} {a : Int} {k : Nat} {pl : PyData}, entGo a k ds = some pl → ∃ j : Nat, pl = .int (j : Int) ∧ k ≤ j ∧ j < k + ds.length
  | [], _, _, _, h => by cases h
  | d :: ds, a, k, pl, h => by
    have e : entGo a k (d :: ds) = if (itemB d && decide (a < intD (spanA d))) = true then entGo (intD (spanZ d)) (k + 1) ds else some (.int (k : Int)) := rfl
    rw [e] at h
    cases hb : (itemB d && decide (a < intD (spanA d))) with
    | true =>
      rw [hb, if_pos rfl] at h
      obtain ⟨j, h1, h2, h3⟩ := entGo_kind h
      exact ⟨j, h1, by omega, by rw [List.length_cons]; omega⟩
    | false =>
      rw [hb, if_neg (by simp)] at h
      injection h with h
      exact ⟨k, h.symm, Nat.le_refl _, by rw [List.length_cons]; omega⟩
theorem due_kind {D pl : PyData} (h : dueE D = some pl) : pl = .none ∨ ∃ j : Nat, pl = .int (j : Int) ∧ j < 50 := by
  unfold dueE at h
  split at h
  · rename_i hc
    obtain ⟨j, h1, h2, h3⟩ := entGo_kind h
    have hc : (isT D && (decide (1 ≤ (tupD D).length) && decide ((tupD D).length ≤ 50))) = true := hc
    simp only [Bool.and_eq_true, decide_eq_true_eq] at hc
    exact .inr ⟨j, h1, by omega⟩
  · injection h with h
    exact .inl h.symm
theorem due_pt {D pl : PyData} {H : Hp} (h : dueE D = some pl) : Pt H (plV pl) pl := by
  rcases due_kind h with rfl | ⟨j, rfl, _⟩
  · exact .non
  · exact .int _
theorem toldE_sm {D : PyData} : Sm (toldE (dueE D)) ∧ noK (toldE (dueE D)) = true := by
  cases h : dueE D with
  | none => exact ⟨⟨rfl, by decide +kernel, by decide +kernel⟩, rfl⟩
  | some pl =>
    rcases due_kind h with rfl | ⟨j, rfl, hj⟩
    · exact ⟨Sq.pair (x := "entry") (by decide +kernel) (sq_plain trivial (by simp [cap]) (by simp [PyData.depth])), rfl⟩
    · exact ⟨Sq.pair (x := "entry") (by decide +kernel) (sq_plain (ts_int (i := (j : Int)) (by omega)).p (by simp [cap]) (by simp [PyData.depth])), rfl⟩
section
variable {K : PySem.W.Frag} {ca : Nat → Addr} {T : List (Addr × Str)} {t : XK → TE} {σ : St} {H : Hp} {Q : VK}
/-- a lambda that asks for an entry -/
theorem rd_ent {D : PyData} (hT : Tabs T H) (call : ∀ H1, ExtN H H1 → ∀ HZ, Ex H1 HZ → ∀ (E : XK) (Q' : VK), (∀ pl, dueE D = some pl → Leaves (ca 8) "place" (plV pl) HZ E) → (dueE D = none → ∀ v H2, Ex HZ H2 → Q' v H2) → t E σ HZ Q')
    (k : ∀ rt H2, ExtN H H2 → Tabs T H2 → Pt H2 (.ref rt) (toldE (dueE D)) → Q (.ref rt) H2) : tLam T (TTold ca) t σ H Q := by
  cases h : dueE D with
  | none =>
    refine rd_back hT (fun H1 e1 HZ eZ E Q' hq => call H1 e1 HZ eZ E Q' (fun pl hp => by rw [h] at hp; cases hp) fun _ => hq) fun rt H2 x2 T2 h2 => k rt H2 x2 T2 ?_
    rw [h]
    exact .tup h2 .nil
  | some pl =>
    refine rd_leafP (n := 8) (v := plV pl) (d := pl) (by decide) (by decide) (by decide) (by decide) (by decide) (by decide) hT (due_pt h) (fun H1 e1 HZ eZ E Q' hl => call H1 e1 HZ eZ E Q' (fun pl' hp => ?_) fun hn => ?_) fun rt H2 x2 T2 h2 => k rt H2 x2 T2 ?_
    · rw [h] at hp
      injection hp with hp
      rw [← hp]
      exact hl
    · rw [h] at hn
      cases hn
    · rw [h]
      exact h2
end
/-- what is told of a name and an entry -/
def toldP (N D : PyData) : PyData := if nameB N = true then toldE (dueE D) else .tuple [.str "name", N]
section
variable {K : PySem.W.Frag} {ca : Nat → Addr} {T : List (Addr × Str)} {CI CS : Addr} {β : Nat} {Ds : List PyData} {p c l : Addr} {n : Nat} {a : Int} {x ea pa st : Addr} {m : Nat} {t : XK → TE} {σ : St} {H : Hp} {Q : VK}
/-- a lambda that puts into the index -/
theorem rd_put {vn ve : V} {N D : PyData} (L : Lx T CI CS β Ds p c l n a x ea pa st m H) (hm : m ≤ 800) (kn : Pt (hid [p, l, x, ea, pa] H) vn N) (ke : Pt (hid [p, l, x, ea, pa] H) ve D)
    (call : ∀ (HZ : Hp) (E : XK) (Q' : VK), spSetItem CI ca [.ref x, vn, ve] HZ Q' E → t E σ HZ Q')
    (k : ∀ rt H2, Wi [p, l, x, ea, pa] H H2 → Lx T CI CS β Ds p c l n a x ea pa st (m + 1) H2 → Pt (hid [p, l, x, ea, pa] H2) (.ref rt) (toldP N D) → Q (.ref rt) H2) : tLam T (TToldM ca) t σ H Q := by
  refine ⟨L.w.t, fun H1 e1 T1 fl hfl => call _ _ _ ?_⟩
  have L1 := L.extN e1 T1
  have eZ := Ex.new (o := .lst []) hfl
  have LZ := L1.ex eZ
  have wZ : Wi [p, l, x, ea, pa] H (upd H1 fl (.lst [])) := (Wi.extN e1).trans (Wi.ex eZ)
  have hfZ : (upd H1 fl (.lst [])) fl = some (.lst []) := upd_same
  generalize upd H1 fl (.lst []) = HZ at eZ LZ wZ hfZ ⊢
  obtain ⟨es, ps, I, l1, l2⟩ := LZ.i
  obtain ⟨dx, hx⟩ := I.i
  obtain ⟨es1, ps1, I1, _⟩ := L1.i
  obtain ⟨dx1, hx1⟩ := I1.i
  obtain ⟨ls1, hl1, _⟩ := L1.w.s.l
  have f1 : fl ≠ x := fun z => by rw [z, hx1] at hfl; cases hfl
  have f2 : fl ≠ ea := fun z => by rw [z, I1.e] at hfl; cases hfl
  have f3 : fl ≠ pa := fun z => by rw [z, I1.p] at hfl; cases hfl
  have f4 : fl ≠ p := fun z => by rw [z, L1.w.s.d] at hfl; cases hfl
  have f5 : fl ≠ l := fun z => by rw [z, hl1] at hfl; cases hfl
  -- what stands when the list is filled
  have back : ∀ H3 : Hp, (∀ b o, HZ b = some o → b ≠ fl → H3 b = some o) → ExtN H H3 ∧ Tabs T H3 := fun H3 kp => by
    have all : Ex H1 H3 := fun b o h => kp b o (eZ b o h) (ne_of_none h hfl)
    exact ⟨e1.trans (ExtN.of all), T1.ext all⟩
  have ofs : ∀ rt : Addr, HZ rt = none → rt ∉ [p, l, x, ea, pa] := fun rt h z => by
    have cc : rt = p ∨ rt = l ∨ rt = x ∨ rt = ea ∨ rt = pa := by simpa using z
    obtain ⟨ls, hl, _⟩ := LZ.w.s.l
    rcases cc with rfl | rfl | rfl | rfl | rfl
    · rw [LZ.w.s.d] at h; cases h
    · rw [hl] at h; cases h
    · rw [hx] at h; cases h
    · rw [I.e] at h; cases h
    · rw [I.p] at h; cases h
  have told : ∀ (i : Nat) (u : V) (d : PyData) (HL : Hp), i = 8 ∨ i = 9 → Pt (hid [p, l, x, ea, pa] H) u d → toldP N D = .tuple [.str (wdN i), d] → Leaves (ca i) (fdN i) u HZ (fun cls d H' => H' fl = some (.lst []) ∧ ∃ n vs, Says ca H' cls d n vs ∧ ∀ rt H2, H' rt = none → (∀ b o, H' b = some o → b ≠ fl → H2 b = some o) → H2 rt = some (.tup (.str (wdN n) :: vs)) → Q (.ref rt) H2) := fun i u d HL hi ku ht => by
    have i1 : 1 ≤ i := by omega
    have i14 : i ≤ 14 := by omega
    refine leavesF_of i1 i14 (by omega) (by omega) (by omega) rfl fun cls dd H2 vs e2 S a1 => ?_
    have a1' : vs = [u] := a1
    subst a1'
    refine ⟨e2 _ _ hfZ, i, [u], S, fun rt H3 nrt kp h3 => ?_⟩
    obtain ⟨x3, T3⟩ := back H3 fun b o h nb => kp b o (e2 _ _ h) nb
    have nr := ofs rt (fresh_back e2 nrt)
    refine k rt H3 (Wi.extN x3) ((L.extN x3 T3).wk (by omega)) ?_
    rw [ht]
    have hw : (wdN i).length ≤ 3000 := by
      rcases hi with rfl | rfl <;> decide
    exact .tup (by rw [hid_out nr]; exact h3) (.cons (.str _ hw) (.cons ((Wi.extN x3).pt ku) .nil))
  refine ⟨x, ea, pa, st, "full", es, ps, vn, ve, N, D, rfl, I, by omega, by omega, (wZ.pt kn).ex (hid_ex _ _), (wZ.pt ke).ex (hid_ex _ _), fun hb => ?_, fun hb => ⟨fun pl hp => ?_, fun hn x0 ds v' tt d H' eN eD bi nt nd h1 h2 h3 I' => ?_⟩⟩
  · refine told 9 vn N HZ (.inr rfl) kn ?_
    unfold toldP
    rw [hb, if_neg (by simp)]
    rfl
  · refine told 8 (plV pl) pl HZ (.inl rfl) (due_pt hp) ?_
    unfold toldP
    rw [hb, if_pos rfl, hp]
    rfl
  · have LZ' : Lx T CI CS β Ds p c l n a x ea pa st (m + 1) H' := LZ.bi bi I' (Nat.le_trans (length_putK _ _ _) (by omega)) (by rw [List.length_append]; simpa using l2)
    have wb : Wi [p, l, x, ea, pa] H H' := wZ.trans (Wi.bi bi)
    refine ⟨bi _ _ hfZ f1 f2 f3, fun rt H2 nrt e2 hr2 => ?_⟩
    have L2 := LZ'.ex e2
    refine k rt H2 (wb.trans (Wi.ex e2)) L2 ?_
    unfold toldP
    rw [hb, if_pos rfl, hn]
    have nr : rt ∉ [p, l, x, ea, pa] := fun z => by
      have cc : rt = p ∨ rt = l ∨ rt = x ∨ rt = ea ∨ rt = pa := by simpa using z
      obtain ⟨dx', hx'⟩ := I'.i
      obtain ⟨ls, hl, _⟩ := LZ'.w.s.l
      rcases cc with rfl | rfl | rfl | rfl | rfl
      · rw [LZ'.w.s.d] at nrt; cases nrt
      · rw [hl] at nrt; cases nrt
      · rw [hx'] at nrt; cases nrt
      · rw [I'.e] at nrt; cases nrt
      · rw [I'.p] at nrt; cases nrt
    exact .tup (by rw [hid_out nr]; exact hr2) .nil
end
end Kx

/-! k23: new data, beside all that changes; a draw from new data. -/
namespace Kx
open PySem L2 Evl ExM Dg Dt LamR LamX Told TL Lm Ix StX ClX
open Dr (StAt SameB)
section
variable {T : List (Addr × Str)} {CI CS : Addr} {β : Nat} {Ds : List PyData} {p c l : Addr} {n : Nat} {a b : Int} {x ea pa st : Addr} {m : Nat} {H H' : Hp} {σ : St} {Q : VK}
/-- new data, made while the drawer and the index are locked -/
theorem rd_fresh {te : TE} {D : PyData} (L : Lx T CI CS β Ds p c l n a x ea pa st m H) (h : ∀ H1, EvP te σ H1 D) (k : ∀ v H', Ex H H' → Pt (hid [p, l, x, ea, pa] H') v D → Q v H') : tLockE (tLockE (tLockE (tLockE te))) σ H Q := by
  obtain ⟨es, ps, I, l1, l2⟩ := L.i
  obtain ⟨dx, hx⟩ := I.i
  obtain ⟨m1, m2, m3, m4, m5, m6⟩ := L.offs
  obtain ⟨ls, hl, hln⟩ := L.w.s.l
  have hp := L.w.s.d
  have pl : p ≠ l := L.w.s.ne.2
  have eapa : ea ≠ pa := ne_of I.e I.p (by intro z; cases z)
  have xea : x ≠ ea := ne_of hx I.e (by intro z; cases z)
  have xpa : x ≠ pa := ne_of hx I.p (by intro z; cases z)
  refine ⟨p, _, hp, (show Mut (some (.dK _)) from trivial), fun o1 => ⟨l, .lst (ls.map V.int), by rw [upd_ne pl.symm]; exact hl, trivial, fun o2 => ⟨ea, .dK es, by rw [upd_ne m6.symm, upd_ne L.pe.symm]; exact I.e, trivial, fun o3 => ⟨pa, .lst ps, by rw [upd_ne eapa.symm, upd_ne L.la.symm, upd_ne m2.symm]; exact I.p, trivial, fun o4 => ?_⟩⟩⟩⟩
  refine h _ _ (Ex.refl _) _ fun v H5 e5 k5 => ?_
  have q4 : H5 pa = some (.frz o4 (.lst ps)) := e5 _ _ upd_same
  have q3 : H5 ea = some (.frz o3 (.dK es)) := e5 _ _ (by rw [upd_ne eapa]; exact upd_same)
  have q2 : H5 l = some (.frz o2 (.lst (ls.map V.int))) := e5 _ _ (by rw [upd_ne L.la, upd_ne m6]; exact upd_same)
  have q1 : H5 p = some (.frz o1 (.dK [(Sum.inr "cells", .ref c), (Sum.inr "lefts", .ref l), (Sum.inr "at", .int a)])) := e5 _ _ (by rw [upd_ne m2, upd_ne L.pe, upd_ne pl]; exact upd_same)
  have q0 : H5 x = some (.ins CI dx (ixF st "full" ea pa)) := e5 _ _ (by rw [upd_ne xpa, upd_ne xea, upd_ne m5.symm, upd_ne m1.symm]; exact hx)
  have kp : ∀ b o, H b = some o → b ≠ p → b ≠ l → b ≠ ea → b ≠ pa → H5 b = some o := fun b o hb z1 z2 z3 z4 => e5 _ _ (by rw [upd_ne z4, upd_ne z3, upd_ne z2, upd_ne z1]; exact hb)
  refine ⟨q4, by rw [upd_ne eapa]; exact q3, by rw [upd_ne m6, upd_ne L.la]; exact q2, by rw [upd_ne pl, upd_ne L.pe, upd_ne m2]; exact q1, ?_⟩
  have k6 : Pt (hid ([] ++ [p, l, x, ea, pa]) H5) v D := Pt.off (fun b hb => by
    have cc : b = p ∨ b = l ∨ b = x ∨ b = ea ∨ b = pa := by simpa using hb
    rcases cc with rfl | rfl | rfl | rfl | rfl
    · exact ⟨_, q1, trivial⟩
    · exact ⟨_, q2, trivial⟩
    · exact ⟨_, q0, trivial⟩
    · exact ⟨_, q3, trivial⟩
    · exact ⟨_, q4, trivial⟩) (by rw [hid_nil]; exact k5)
  obtain ⟨H6, e6⟩ : ∃ H6, H6 = upd (upd (upd (upd H5 pa (.lst ps)) ea (.dK es)) l (.lst (ls.map V.int))) p (.dK [(Sum.inr "cells", .ref c), (Sum.inr "lefts", .ref l), (Sum.inr "at", .int a)]) := ⟨_, rfl⟩
  rw [← e6]
  refine k v H6 (fun b o hb => ?_) (k6.ex fun b o hb => ?_)
  · rw [e6]
    by_cases z1 : b = p
    · rw [z1, upd_same, ← hb, z1, hp]
    · by_cases z2 : b = l
      · rw [upd_ne z1, z2, upd_same, ← hb, z2, hl]
      · by_cases z3 : b = ea
        · rw [upd_ne z1, upd_ne z2, z3, upd_same, ← hb, z3, I.e]
        · by_cases z4 : b = pa
          · rw [upd_ne z1, upd_ne z2, upd_ne z3, z4, upd_same, ← hb, z4, I.p]
          · rw [upd_ne z1, upd_ne z2, upd_ne z3, upd_ne z4]
            exact kp b o hb z1 z2 z3 z4
  · obtain ⟨n, h'⟩ := hid_some hb
    have n' : b ∉ [p, l, x, ea, pa] := n
    rw [hid_out n', e6, upd_ne (fun z => n' (by simp [z])), upd_ne (fun z => n' (by simp [z])), upd_ne (fun z => n' (by simp [z])), upd_ne (fun z => n' (by simp [z]))]
    exact h'
/-- _law_of(state, new list of data) -/
theorem of_fresh {v : V} {Es : List PyData} {E : XK} (L : Lx T CI CS β Ds p c l n a x ea pa st m H) (ha : a < 2 ^ 39) (kv : Pt (hid [p, l, x, ea, pa] H) v (.list Es)) (n0 : 0 < Es.length) (n1 : Es.length ≤ 1000)
    (k : ∀ (i : Nat) (d : PyData) (u : V) (H' : Hp), Es[i]? = some d → Lx T CI CS β Ds p c l n (a + 1) x ea pa st m H' → Wi [p, l, x, ea, pa] H H' → Pt (hid [p, l, x, ea, pa] H') u d → Q u H') : Dr.spOf [.ref p, v] H Q E := by
  cases kv with
  | @lst so xs _ hs kx =>
    obtain ⟨ns, hs'⟩ := hid_some hs
    have hlen := kx.length
    refine ⟨p, c, l, so, n, a, xs, rfl, L.w.s, L.nlc, ha, hs', fun z => ns (by simp [z]), fun z => ns (by simp [z]), by omega, by omega, fun i u H' hi S sb nf => ?_⟩
    obtain ⟨d, hd, kd⟩ := kx.get2 hi
    have wi : Wi [p, l, x, ea, pa] H H' := Wi.same sb
    exact k i d u H' hd (L.same S sb) wi (wi.pt kd)
end
end Kx

namespace KH23
open PySem L2 Evl Dg Dt LamR LamX TL StX ClX ExM Told Lm Ix Kx
open Dr (StAt SameB)
abbrev sLaw : Stmt := top 80
abbrev nLaw : List Str := ["script", "state", "style", "index", "turn", "entry", "thing", "due", "kept", "heard", "bad", "odd"]
theorem scLaw : FnScope nLaw ["script"] (defScope sLaw) := ⟨rfl, rfl, rfl, by decide +kernel, rfl, by decide +kernel, by decide +kernel⟩
def inLaw (i : Nat) : Stmt := (defBody sLaw).getD i (.Pass ⟨0, 0, 0, 0⟩)
/-- a statement of the law's loop, by its place -/
def inLoop (i : Nat) : Stmt := match inLaw 3 with
  | .For _ _ b _ _ => b.getD i (.Pass ⟨0, 0, 0, 0⟩)
  | s => s
noncomputable abbrev XL (w : World) (mg : Str → Option Value) (base : Heap) (A : Around) (outer : List Env) (s : Shared) (H : Hp) (E : XK) : Cx := (cxOf CX0 P23 w (K23 w.params) mg base nLaw "law" (defScope sLaw) 920 (.ref 919) A outer s H E).nox
structure TxL (mg : Str → Option Value) : Prop where
  l_begin : mg "_law_begin" = some (.ref 857)
  l_bent : mg "_law_bent" = some (.ref 906)
  l_draw : mg "_law_draw" = some (.ref 864)
  l_due : mg "_law_due" = some (.ref 899)
  l_entry : mg "_law_entry" = some (.ref 885)
  l_of : mg "_law_of" = some (.ref 871)
  l_put : mg "_law_put" = some (.ref 913)
  l_raised : mg "_law_raised" = some (.ref 878)
  entry_text : mg "entry_text" = some (.ref 656)
  need_entry : mg "need_entry" = some (.ref 649)
  len : mg "len" = none
  min : mg "min" = none
  range : mg "range" = none
  repr : mg "repr" = none
structure Rm (w : World) (mg : Str → Option Value) (base : Heap) (A : Around) (outer : List Env) (s : Shared) (H : Hp) (E : XK) (T : List (Addr × Str)) : Prop where
  hr : RoomG 14 (XL w mg base A outer s H E).A
  hu64 : (XL w mg base A outer s H E).A.units + 64 < cLine
  TB : TabB base mg 919 915
  hT : (915, ("law.<locals>.<lambda>" : Str)) ∈ T
  hu : ∀ p ∈ T, p.1 = 915 → p.2 = ("law.<locals>.<lambda>" : Str)
abbrev dsL : List PyData := [.tuple [.tuple [], .tuple [.str "changed", .int 1]]]
theorem sq_tiny {d : PyData} (a : d.showable = true) (b : d.shown.length ≤ 3950) (c : d.depth ≤ 2) : Sq d := ⟨a, b, c⟩
def badD : List PyData := [.none, .str "Full", .int 5, .bool true, .tuple [.str "full"], .list [.str "full"], .str ""]
theorem bad_ok {i : Nat} {d : PyData} (h : badD[i]? = some d) : manB d = false ∧ noK d = true ∧ Sq d := by
  have hm := List.mem_of_getElem? h
  have cc : d = .none ∨ d = .str "Full" ∨ d = .int 5 ∨ d = .bool true ∨ d = .tuple [.str "full"] ∨ d = .list [.str "full"] ∨ d = .str "" := by simpa [badD] using hm
  rcases cc with rfl | rfl | rfl | rfl | rfl | rfl | rfl
  · exact ⟨by decide +kernel, by decide +kernel, sq_tiny (by decide +kernel) (by decide +kernel) (by decide +kernel)⟩
  · exact ⟨by decide +kernel, by decide +kernel, sq_tiny (by decide +kernel) (by decide +kernel) (by decide +kernel)⟩
  · exact ⟨by decide +kernel, by decide +kernel, sq_tiny (by decide +kernel) (by decide +kernel) (by decide +kernel)⟩
  · exact ⟨by decide +kernel, by decide +kernel, sq_tiny (by decide +kernel) (by decide +kernel) (by decide +kernel)⟩
  · exact ⟨by decide +kernel, by decide +kernel, sq_tiny (by decide +kernel) (by decide +kernel) (by decide +kernel)⟩
  · exact ⟨by decide +kernel, by decide +kernel, sq_tiny (by decide +kernel) (by decide +kernel) (by decide +kernel)⟩
  · exact ⟨by decide +kernel, by decide +kernel, sq_tiny (by decide +kernel) (by decide +kernel) (by decide +kernel)⟩
def oddD : List PyData := [.none, .str "", .str "A", .str "a b", .str "a1", .str "abcdefghijklmnopqrstu", .int 5, .tuple [.str "a"], .list [.str "a"], .bool true]
theorem odd_ok {i : Nat} {d : PyData} (h : oddD[i]? = some d) : nameB d = false ∧ noK d = true ∧ Sq d := by
  have hm := List.mem_of_getElem? h
  have cc : d = .none ∨ d = .str "" ∨ d = .str "A" ∨ d = .str "a b" ∨ d = .str "a1" ∨ d = .str "abcdefghijklmnopqrstu" ∨ d = .int 5 ∨ d = .tuple [.str "a"] ∨ d = .list [.str "a"] ∨ d = .bool true := by simpa [oddD] using hm
  rcases cc with rfl | rfl | rfl | rfl | rfl | rfl | rfl | rfl | rfl | rfl
  · exact ⟨by decide +kernel, by decide +kernel, sq_tiny (by decide +kernel) (by decide +kernel) (by decide +kernel)⟩
  · exact ⟨by decide +kernel, by decide +kernel, sq_tiny (by decide +kernel) (by decide +kernel) (by decide +kernel)⟩
  · exact ⟨by decide +kernel, by decide +kernel, sq_tiny (by decide +kernel) (by decide +kernel) (by decide +kernel)⟩
  · exact ⟨by decide +kernel, by decide +kernel, sq_tiny (by decide +kernel) (by decide +kernel) (by decide +kernel)⟩
  · exact ⟨by decide +kernel, by decide +kernel, sq_tiny (by decide +kernel) (by decide +kernel) (by decide +kernel)⟩
  · exact ⟨by decide +kernel, by decide +kernel, sq_tiny (by decide +kernel) (by decide +kernel) (by decide +kernel)⟩
  · exact ⟨by decide +kernel, by decide +kernel, sq_tiny (by decide +kernel) (by decide +kernel) (by decide +kernel)⟩
  · exact ⟨by decide +kernel, by decide +kernel, sq_tiny (by decide +kernel) (by decide +kernel) (by decide +kernel)⟩
  · exact ⟨by decide +kernel, by decide +kernel, sq_tiny (by decide +kernel) (by decide +kernel) (by decide +kernel)⟩
  · exact ⟨by decide +kernel, by decide +kernel, sq_tiny (by decide +kernel) (by decide +kernel) (by decide +kernel)⟩

/-- if repr(the refused call) != repr((word, value)): return False, where the call changes things -/
theorem s_toldL {K : PySem.W.Frag} {σ : St} {H : Hp} {D : Ends} {tl te : TE} {tu : TS} {wd : Str} {v : V} {d : PyData} (P : Hp → Prop) (hl : ∀ Q : VK, (∀ rt H2, P H2 → Pt H2 (.ref rt) (.tuple [.str wd, d]) → Pt H2 v d → Q (.ref rt) H2) → tl σ H Q)
    (he : ∀ H2, Ev te σ H2 v) (kn : noK d = true) (sq : Sq d) (hw : (PyData.str wd).shown.length ≤ 30) (hwl : wd.length ≤ 3000) (k : ∀ H2 H3, P H2 → Ex H2 H3 → D.nx σ H3) :
    tIfS (tTest (tOp rNe (tCB (rReprJ K) (tCons tl tNil)) (tCB (rReprJ K) (tCons (tTup (tCons (tC (.str wd)) (tCons te tNil))) tNil)))) tu tNext D σ H := by
  have sp := sq.pair (x := wd) hw
  obtain ⟨y1, y2, y3⟩ := sm_sz sp
  have kk : noK (.tuple [.str wd, d]) = true := by
    rw [noK, noKs, noKs, kn]
    rfl
  refine hl _ fun rt H2 p2 k2 kv => ⟨.ref rt, .tuple [.str wd, d], rfl, djP k2 kk, y1, y2, y3, he H2 H2 (Ex.refl _) _ fun H3 e3 => ⟨(by show (2:Nat) ≤ sizeLine; rw [sizeLine_eq]; omega), fun t3 nt3 => ?_⟩⟩
  have f4 := Ex.new (o := .tup [.str wd, v]) nt3
  refine ⟨.ref t3, .tuple [.str wd, d], rfl, djP (.tup upd_same (.cons (.str _ hwl) (.cons ((kv.ex e3).ex f4) .nil))) kk, y1, y2, y3, rfl, _, rfl, ?_⟩
  rw [decide_eq_true rfl]
  exact k H2 _ p2 (e3.trans f4)
/-- an entry by spans -/
structure Ent (H : Hp) (v : V) (ds : List PyData) (ps : List (Nat × Nat)) : Prop where
  k : Pt H v (.tuple ds)
  sp : Spans 0 ds ps
  it : ∀ d ∈ ds, itemB d = true
  nl : noLs ds = true
  sm : ∀ q ∈ ps, q.2 ≤ 36000
section
variable {w : World} {mg : Str → Option Value} {h base : Heap} (X : (K23 w.params).In h) (G : h.Ns mainGlobals mg) {A : Around} {outer : List Env} {s : Shared} {H0 : Hp} {E0 : XK} {T : List (Addr × Str)} (R : Rm w mg base A outer s H0 E0 T) (L : TxL mg)
include X G R L
theorem row0 : ∃ t, PS (XL w mg base A outer s H0 E0) (inLoop 0) t ∧ ∀ (D : Ends) (H : Hp) (sc p cc l : Addr) (n : Nat) (a : Int) (x4 x5 x6 x7 x8 x9 x10 x11 : Option V) (ix ea pa st : Addr) (m : Nat), a + 20000 < 2 ^ 39 → Lx T 841 616 10 dsL p cc l n a ix ea pa st m H → 
    (∀ (v : V) (ds : List PyData) (ps : List (Nat × Nat)) (b : Int) (H' : Hp), a ≤ b → b ≤ a + 501 → Lx T 841 616 10 dsL p cc l n b ix ea pa st m H' → 1 ≤ ds.length → ds.length ≤ 50 → Ent (hid [p, l, ix, ea, pa] H') v ds ps → D.nx [some (.ref sc), some (.ref p), some (.ref st), some (.ref ix), x4, some (v), x6, x7, x8, x9, x10, x11] H') → t D [some (.ref sc), some (.ref p), some (.ref st), some (.ref ix), x4, x5, x6, x7, x8, x9, x10, x11] H := by
  obtain ⟨hr, hu64, TB, hT, hu⟩ := R
  refine ⟨_, (ps_set (i := 5) scLaw.nd rfl (.inl rfl) (pe_call (f_l_entry X G) (hr.r.mono (by decide)) (by rfl) L.l_entry (kp_l_entry _) (bd_l_entry _) .nil pass0 (pa_cons (pv 1) (pa_cons (pe_ix (r := rIxL (K23 w.params)) ix_list (pe_lst (pa_cons pe_int (pa_cons pe_int (pa_cons pe_int (pa_cons pe_int pa_nil))))) (pe_call (f_l_draw X G) (hr.r.mono (by decide)) (by rfl) L.l_draw (kp_l_draw _) (bd_l_draw _) .nil pass0 (pa_cons (pv 1) (pa_cons pe_int pa_nil))) (fun _ _ => rfl)) pa_nil)))), fun D H sc p cc l n a x4 x5 x6 x7 x8 x9 x10 x11 ix ea pa st m ha Lq q => ?_⟩
  refine ⟨_, rfl, (by show (4:Nat) ≤ sizeLine; rw [sizeLine_eq]; omega), fun l4 n4 => ?_⟩
  have L4 := Lq.ex (Ex.new (o := .lst [.int 1, .int 2, .int 5, .int 50]) n4)
  have g4 : (upd H l4 (.lst [.int 1, .int 2, .int 5, .int 50])) l4 = some (.lst [.int 1, .int 2, .int 5, .int 50]) := upd_same
  have o4 := off_of Lq.w.s n4
  generalize upd H l4 (.lst [.int 1, .int 2, .int 5, .int 50]) = H4 at L4 g4 ⊢
  refine ⟨_, rfl, p, cc, l, n, a, 4, rfl, L4.w.s, L4.nlc, by omega, by decide, by decide, fun r H5 r0 r1 S5 sb5 _ => ?_⟩
  have L5 := L4.same S5 sb5
  have g5 := sb5 _ _ g4 o4.1 o4.2
  obtain ⟨r, rfl⟩ : ∃ ρ : Nat, r = ρ := ⟨r.toNat, by omega⟩
  obtain ⟨z, hz, z1, z2⟩ : ∃ z : Nat, ([V.int 1, .int 2, .int 5, .int 50])[r]? = some (.int (z : Int)) ∧ 1 ≤ z ∧ z ≤ 50 := by
    have cc : r = 0 ∨ r = 1 ∨ r = 2 ∨ r = 3 := by omega
    rcases cc with rfl | rfl | rfl | rfl
    · exact ⟨1, rfl, by omega, by omega⟩
    · exact ⟨2, rfl, by omega, by omega⟩
    · exact ⟨5, rfl, by omega, by omega⟩
    · exact ⟨50, rfl, by omega, by omega⟩
  refine ⟨l4, _, _, _, rfl, rfl, SqL.of g5, atI_nat hz, p, cc, l, n, z, a + 1, rfl, L5.w.s, L5.nlc, by omega, by omega, fun v ds ps H6 b hn sp it nl hps k ab ba S6 sb6 => ?_⟩
  have L6 := L5.same S6 sb6
  exact q v ds ps b H6 (by omega) (by omega) L6 (by omega) (by omega) ⟨L6.beside k (by rw [noL]; exact nl), sp, it, nl, fun q hq => Nat.le_trans (hps q hq) (by omega)⟩
theorem row2 : ∃ t, PS (XL w mg base A outer s H0 E0) (inLoop 2) t ∧ ∀ (D : Ends) (H : Hp) (sc p cc l : Addr) (n : Nat) (a : Int) (x4 x5 x6 x7 x8 x9 x10 x11 : Option V) (ix ea pa st : Addr) (m : Nat), a + 10 < 2 ^ 39 → Lx T 841 616 10 dsL p cc l n a ix ea pa st m H → 
    (∀ (u : V) (d : PyData) (j : Nat) (H' : Hp), Lx T 841 616 10 dsL p cc l n (a + 1) ix ea pa st m H' → Wi [p, l, ix, ea, pa] H H' → Pt (hid [p, l, ix, ea, pa] H') u d → badD[j]? = some d → D.nx [some (.ref sc), some (.ref p), some (.ref st), some (.ref ix), x4, x5, x6, x7, x8, x9, some (u), x11] H') → t D [some (.ref sc), some (.ref p), some (.ref st), some (.ref ix), x4, x5, x6, x7, x8, x9, x10, x11] H := by
  obtain ⟨hr, hu64, TB, hT, hu⟩ := R
  refine ⟨_, (ps_set (i := 10) scLaw.nd rfl (.inr rfl) (pe_call (f_l_of X G) (hr.r.mono (by decide)) (by rfl) L.l_of (kp_l_of _) (bd_l_of _) .nil pass0 (pa_cons (pv 1) (pa_cons (pe_lock (pe_lock (pe_lock (pe_lock (pe_lst (pa_cons pe_non (pa_cons pe_str (pa_cons pe_int (pa_cons pe_bl (pa_cons (pe_tup (pa_cons pe_str pa_nil)) (pa_cons (pe_lst (pa_cons pe_str pa_nil)) (pa_cons pe_str pa_nil)))))))))))) pa_nil)))), fun D H sc p cc l n a x4 x5 x6 x7 x8 x9 x10 x11 ix ea pa st m ha Lq q => ?_⟩
  refine ⟨_, rfl, rd_fresh Lq (D := .list badD) (fun H1 => (ep_lst (epa_cons ep_non (epa_cons (ep_str (by decide)) (epa_cons ep_int (epa_cons ep_bl (epa_cons (ep_tup (epa_cons (ep_str (by decide)) epa_nil) (by first | simp | decide)) (epa_cons (ep_lst (epa_cons (ep_str (by decide)) epa_nil) (by first | simp | decide)) (epa_cons (ep_str (by decide)) epa_nil))))))) (by first | simp | decide))) fun v H1 e1 k1 => ?_⟩
  refine of_fresh (E := E0) (Lq.ex e1) (by omega) k1 (by decide) (by decide) fun j d u H2 hd L2' w2 k2 => ?_
  exact q u d j H2 L2' ((Wi.ex e1).trans w2) k2 hd
theorem row3 : ∃ t, PS (XL w mg base A outer s H0 E0) (inLoop 3) t ∧ ∀ (D : Ends) (H : Hp) (sc p cc l : Addr) (n : Nat) (a : Int) (x4 x5 x6 x7 x8 x9 x11 : Option V) (ix ea pa st : Addr) (m : Nat) (u : V) (d : PyData) (j : Nat), Lx T 841 616 10 dsL p cc l n a ix ea pa st m H → Pt (hid [p, l, ix, ea, pa] H) u d → badD[j]? = some d → 
    (∀ (H' : Hp), Lx T 841 616 10 dsL p cc l n a ix ea pa st m H' → Wi [p, l, ix, ea, pa] H H' → D.nx [some (.ref sc), some (.ref p), some (.ref st), some (.ref ix), x4, x5, x6, x7, x8, x9, some (u), x11] H') → t D [some (.ref sc), some (.ref p), some (.ref st), some (.ref ix), x4, x5, x6, x7, x8, x9, some (u), x11] H := by
  obtain ⟨hr, hu64, TB, hT, hu⟩ := R
  refine ⟨_, (ps_if (pt_cmpR op_ne (pe_callB (id := "repr") (r := rReprJ (K23 w.params)) (call_reprJ hr.g hu64) (by rfl) L.repr (by decide +kernel) (pa_cons (pe_lamcallR (k := 10) (T := T) (by rfl) L.l_raised (kp_l_raised _) (lk_l_raised _) (cd_l_raised _) (bd_l_raised _) Told.scR rfl (.inl rfl) (Told.raised_gives (ca := ca23) (txT X G) (rwT23 _)) TB rfl hT hu (hr.r.mono (by decide)) (lamN_by (show lamNB (defScope sLaw) _ nLaw = true by decide +kernel)) (by rfl) (fun _ _ _ _ _ => by rfl) (fun A outer s H E f c' hr' => (pe_callS (f_entry_text X G) (hr'.mono (by decide)) (by rfl) L.entry_text (kp_entry_text _) (bd_entry_text _) (fun σ => passAt (takes_of rfl rfl rfl rfl) σ) (pa_cons (pv 2) (pa_cons (pv 10) (pa_cons pe_non pa_nil)))))) pa_nil)) (pe_callB (id := "repr") (r := rReprJ (K23 w.params)) (call_reprJ hr.g hu64) (by rfl) L.repr (by decide +kernel) (pa_cons (pe_tup (pa_cons pe_str (pa_cons (pv 10) pa_nil))) pa_nil)) (nomark _)) (pss_one (ps_ret pe_bl)) pss_nil), fun D H sc p cc l n a x4 x5 x6 x7 x8 x9 x11 ix ea pa st m u d j Lq ku0 hd q => ?_⟩
  obtain ⟨mB, nk, sq⟩ := bad_ok hd
  have ku := ku0.ex (hid_ex _ _)
  refine s_told (T := T) (v := u) (d := d) (w := "manner") (fun Q hQ => ?_) (fun H2 x2 => ev_var rfl) ku nk sq (by decide +kernel) (by decide) fun H2 x2 T2 => q H2 (Lq.extN x2 T2) (Wi.extN x2)
  refine rd_leafP (n := 7) (by decide) (by decide) (by decide) (by decide) (by decide) (by decide) Lq.w.t ku (fun H1 f1 HZ eZ E Q' hL => ?_) fun rt H2 x2 T2 k2 => hQ rt H2 x2 T2 k2
  have f := f1.trans (ExtN.of eZ)
  exact ⟨_, rfl, _, rfl, st, u, .non, d, .none, rfl, ku.extN f, .non, fun _ => hL, fun z => by rw [mB] at z; cases z⟩
theorem row4 : ∃ t, PS (XL w mg base A outer s H0 E0) (inLoop 4) t ∧ ∀ (D : Ends) (H : Hp) (sc p cc l : Addr) (n : Nat) (a : Int) (x4 x5 x6 x7 x8 x9 x10 x11 : Option V) (ix ea pa st : Addr) (m : Nat), a + 10 < 2 ^ 39 → Lx T 841 616 10 dsL p cc l n a ix ea pa st m H → 
    (∀ (u : V) (d : PyData) (j : Nat) (H' : Hp), Lx T 841 616 10 dsL p cc l n (a + 1) ix ea pa st m H' → Wi [p, l, ix, ea, pa] H H' → Pt (hid [p, l, ix, ea, pa] H') u d → oddD[j]? = some d → D.nx [some (.ref sc), some (.ref p), some (.ref st), some (.ref ix), x4, x5, x6, x7, x8, x9, x10, some (u)] H') → t D [some (.ref sc), some (.ref p), some (.ref st), some (.ref ix), x4, x5, x6, x7, x8, x9, x10, x11] H := by
  obtain ⟨hr, hu64, TB, hT, hu⟩ := R
  refine ⟨_, (ps_set (i := 11) scLaw.nd rfl (.inr rfl) (pe_call (f_l_of X G) (hr.r.mono (by decide)) (by rfl) L.l_of (kp_l_of _) (bd_l_of _) .nil pass0 (pa_cons (pv 1) (pa_cons (pe_lock (pe_lock (pe_lock (pe_lock (pe_lst (pa_cons pe_non (pa_cons pe_str (pa_cons pe_str (pa_cons pe_str (pa_cons pe_str (pa_cons pe_str (pa_cons pe_int (pa_cons (pe_tup (pa_cons pe_str pa_nil)) (pa_cons (pe_lst (pa_cons pe_str pa_nil)) (pa_cons pe_bl pa_nil))))))))))))))) pa_nil)))), fun D H sc p cc l n a x4 x5 x6 x7 x8 x9 x10 x11 ix ea pa st m ha Lq q => ?_⟩
  refine ⟨_, rfl, rd_fresh Lq (D := .list oddD) (fun H1 => (ep_lst (epa_cons ep_non (epa_cons (ep_str (by decide)) (epa_cons (ep_str (by decide)) (epa_cons (ep_str (by decide)) (epa_cons (ep_str (by decide)) (epa_cons (ep_str (by decide)) (epa_cons ep_int (epa_cons (ep_tup (epa_cons (ep_str (by decide)) epa_nil) (by first | simp | decide)) (epa_cons (ep_lst (epa_cons (ep_str (by decide)) epa_nil) (by first | simp | decide)) (epa_cons ep_bl epa_nil)))))))))) (by first | simp | decide))) fun v H1 e1 k1 => ?_⟩
  refine of_fresh (E := E0) (Lq.ex e1) (by omega) k1 (by decide) (by decide) fun j d u H2 hd L2' w2 k2 => ?_
  exact q u d j H2 L2' ((Wi.ex e1).trans w2) k2 hd
theorem row5 : ∃ t, PS (XL w mg base A outer s H0 E0) (inLoop 5) t ∧ ∀ (D : Ends) (H : Hp) (sc p cc l : Addr) (n : Nat) (a : Int) (x4 x5 x6 x7 x8 x9 x10 : Option V) (ix ea pa st : Addr) (m : Nat) (u : V) (d : PyData) (j : Nat), m ≤ 800 → Lx T 841 616 10 dsL p cc l n a ix ea pa st m H → Pt (hid [p, l, ix, ea, pa] H) u d → oddD[j]? = some d → 
    (∀ (H' : Hp), Lx T 841 616 10 dsL p cc l n a ix ea pa st (m + 1) H' → Wi [p, l, ix, ea, pa] H H' → D.nx [some (.ref sc), some (.ref p), some (.ref st), some (.ref ix), x4, x5, x6, x7, x8, x9, x10, some (u)] H') → t D [some (.ref sc), some (.ref p), some (.ref st), some (.ref ix), x4, x5, x6, x7, x8, x9, x10, some (u)] H := by
  obtain ⟨hr, hu64, TB, hT, hu⟩ := R
  refine ⟨_, (ps_if (pt_cmpR op_ne (pe_callB (id := "repr") (r := rReprJ (K23 w.params)) (call_reprJ hr.g hu64) (by rfl) L.repr (by decide +kernel) (pa_cons (pe_lamcallR (k := 10) (T := T) (by rfl) L.l_raised (kp_l_raised _) (lk_l_raised _) (cd_l_raised _) (bd_l_raised _) Told.scR rfl (.inl rfl) (Told.raised_givesM (ca := ca23) (txT X G) (rwT23 _)) TB rfl hT hu (hr.r.mono (by decide)) (lamN_by (show lamNB (defScope sLaw) _ nLaw = true by decide +kernel)) (by rfl) (fun _ _ _ _ _ => by rfl) (fun A outer s H E f c' hr' => (pe_callS (f_l_put X G) (hr'.mono (by decide)) (by rfl) L.l_put (kp_l_put _) (bd_l_put _) (fun σ => passAt (takes_of rfl rfl rfl rfl) σ) (pa_cons (pv 3) (pa_cons (pv 11) (pa_cons pe_non pa_nil)))))) pa_nil)) (pe_callB (id := "repr") (r := rReprJ (K23 w.params)) (call_reprJ hr.g hu64) (by rfl) L.repr (by decide +kernel) (pa_cons (pe_tup (pa_cons pe_str (pa_cons (pv 11) pa_nil))) pa_nil)) (nomark _)) (pss_one (ps_ret pe_bl)) pss_nil), fun D H sc p cc l n a x4 x5 x6 x7 x8 x9 x10 ix ea pa st m u d j hm Lq ku0 hd q => ?_⟩
  obtain ⟨mB, nk, sq⟩ := odd_ok hd
  refine s_toldL (v := u) (d := d) (wd := "name") (fun H2 => Lx T 841 616 10 dsL p cc l n a ix ea pa st (m + 1) H2 ∧ Wi [p, l, ix, ea, pa] H H2) (fun Q hQ => ?_) (fun H2 => ev_var rfl) nk sq (by decide +kernel) (by decide) fun H2 H3 h2 e3 => q H3 (h2.1.ex e3) (h2.2.trans (Wi.ex e3))
  refine rd_put (ca := ca23) (N := d) (D := .none) Lq hm ku0 .non (fun HZ E Q' h => ⟨_, rfl, _, rfl, h⟩) fun rt H2 w2 L2' k2 => ?_
  have e : toldP d .none = .tuple [.str "name", d] := by
    unfold toldP
    rw [mB, if_neg (by simp)]
  rw [e] at k2
  exact hQ rt H2 ⟨L2', w2⟩ (k2.ex (hid_ex _ _)) ((w2.pt ku0).ex (hid_ex _ _))
end
end KH23

/-! k23: what stands of a thing that is an entry. -/
namespace Kx
open PySem L2 Evl ExM Dg Dt LamR LamX Told TL Lm Ix StX ClX
open Dr (StAt SameB)
theorem num_form {d : PyData} (h : numD d = true) : ∃ i : Int, d = .int i ∧ 1 ≤ i := by
  cases d with
  | int i => exact ⟨i, rfl, of_decide_eq_true h⟩
  | _ => cases h
theorem item_form {d : PyData} (h : itemB d = true) : (∃ i : Int, d = .int i ∧ 1 ≤ i) ∨ ∃ i j : Int, d = .tuple [.int i, .int j] ∧ 1 ≤ i ∧ i < j := by
  unfold itemB at h
  cases ht : isT d with
  | false =>
    rw [ht, if_neg (by simp)] at h
    exact .inl (num_form h)
  | true =>
    rw [ht, if_pos rfl] at h
    simp only [Bool.and_eq_true] at h
    obtain ⟨h1, h2, h3, h4⟩ := h
    cases d with
    | tuple ds =>
      have h1 : ds.length = 2 := of_decide_eq_true h1
      match ds, h1 with
      | [x, y], _ =>
        obtain ⟨i, hi, i1⟩ := num_form h2
        obtain ⟨j, hj, j1⟩ := num_form h3
        have hi : x = .int i := hi
        have hj : y = .int j := hj
        subst hi
        subst hj
        exact .inr ⟨i, j, rfl, i1, of_decide_eq_true h4⟩
    | _ => cases ht
theorem due_none_form {D : PyData} (h : dueE D = none) : ∃ ds, D = .tuple ds ∧ 1 ≤ ds.length ∧ ds.length ≤ 50 ∧ entGo 0 0 ds = none := by
  unfold dueE at h
  split at h
  · rename_i hc
    have hc : (isT D && (decide (1 ≤ (tupD D).length) && decide ((tupD D).length ≤ 50))) = true := hc
    simp only [Bool.and_eq_true, decide_eq_true_eq] at hc
    cases D with
    | tuple ds => exact ⟨ds, rfl, hc.2.1, hc.2.2, h⟩
    | _ => exact absurd hc.1 (by simp [isT])
  · cases h
theorem go_items : ∀ {ds : List PyData} {a : Int} {k : Nat}, entGo a k ds = none → ∀ d ∈ ds, itemB d = true
  | [], _, _, _ => fun _ h => nomatch h
  | d :: ds, a, k, h => by
    have e : entGo a k (d :: ds) = if (itemB d && decide (a < intD (spanA d))) = true then entGo (intD (spanZ d)) (k + 1) ds else some (.int (k : Int)) := rfl
    rw [e] at h
    cases hb : (itemB d && decide (a < intD (spanA d))) with
    | true =>
      rw [hb, if_pos rfl] at h
      intro x hx
      rcases List.mem_cons.mp hx with rfl | hx
      · exact (Bool.and_eq_true_iff.mp hb).1
      · exact go_items h x hx
    | false =>
      rw [hb, if_neg (by simp)] at h
      cases h
theorem items_lay : ∀ {ds : List PyData}, (∀ d ∈ ds, itemB d = true) → PyData.canLayAll0 ds = true ∧ PyData.depthAll ds ≤ 3 ∧ noKs ds = true
  | [], _ => ⟨rfl, by simp [PyData.depthAll], rfl⟩
  | d :: ds, h => by
    obtain ⟨h1, h2, h3⟩ := items_lay fun x hx => h x (List.mem_cons_of_mem _ hx)
    have hd : d.canLay0 = true ∧ d.depth ≤ 3 ∧ noK d = true := by
      rcases item_form (h d List.mem_cons_self) with ⟨i, rfl, _⟩ | ⟨i, j, rfl, _, _⟩
      · exact ⟨rfl, by simp [PyData.depth], rfl⟩
      · exact ⟨rfl, by simp [PyData.depth, PyData.depthAll], rfl⟩
    refine ⟨?_, ?_, ?_⟩
    · rw [PyData.canLayAll0, hd.1, h1]
      rfl
    · rw [PyData.depthAll]
      exact Nat.max_le.mpr ⟨hd.2.1, h2⟩
    · rw [noKs, hd.2.2, h3]
      rfl
theorem ent_shaped {ds : List PyData} (h : ∀ d ∈ ds, itemB d = true) : SeqAt.shaped (.tuple ds) = true ∧ noK (.tuple ds) = true := by
  obtain ⟨h1, h2, h3⟩ := items_lay h
  refine ⟨?_, by rw [noK]; exact h3⟩
  show (PyData.canLayAll0 ds && decide ((PyData.tuple ds).depth ≤ 64)) = true
  rw [h1, decide_eq_true (by rw [PyData.depth]; omega)]
  rfl
theorem log_big {i : Nat} (h : i.log2 < 1920) : i < 2 ^ 50000 := by
  by_cases z : i = 0
  · rw [z]
    exact Nat.two_pow_pos 50000
  · have h1 : i < 2 ^ 1920 := (Nat.log2_lt z).mp h
    exact Nat.lt_of_lt_of_le h1 (Nat.pow_le_pow_right (by decide) (by decide))
theorem spans_big : ∀ {ds : List PyData} {a : Nat} {ps : List (Nat × Nat)}, Spans a ds ps → PyData.showableAll ds = true → ∀ q ∈ ps, q.2 < 2 ^ 50000
  | [], _, _, h, _ => by
    cases h
    exact fun _ z => nomatch z
  | d :: ds, a, _, h, s => by
    cases h with
    | @cons _ f l _ _ ps' sp hf hr =>
      rw [PyData.showableAll, Bool.and_eq_true] at s
      intro q hq
      rcases List.mem_cons.mp hq with rfl | hq
      · show l < 2 ^ 50000
        cases ht : isT d with
        | true =>
          have e := sp.t ht
          have s1 := s.1
          rw [e] at s1
          simp only [PyData.showable, PyData.showableAll, Bool.and_eq_true, decide_eq_true_eq] at s1
          exact log_big (by simpa using s1.2.1)
        | false =>
          have hz := sp.z
          unfold spanZ at hz
          rw [ht, if_neg (by simp)] at hz
          have s1 := s.1
          rw [hz] at s1
          have := of_decide_eq_true s1
          exact log_big (by simpa using this)
      · exact spans_big hr s.2 q hq
theorem spans_itk : ∀ {ds : List PyData} {a : Nat} {ps : List (Nat × Nat)}, Spans a ds ps → (∀ q ∈ ps, q.2 ≤ 36000) → (∀ d ∈ ds, itemB d = true) → ∀ d ∈ ds, ItK d
  | [], _, _, _, _, _ => fun _ z => nomatch z
  | d :: ds, a, _, h, b, it => by
    cases h with
    | @cons _ f l _ _ ps' sp hf hr =>
      intro x hx
      rcases List.mem_cons.mp hx with rfl | hx
      · have hl : l ≤ 36000 := b (f, l) List.mem_cons_self
        have hfl := sp.fl
        have big : ∀ i : Int, 0 ≤ i → i ≤ 36000 → i.natAbs < 2 ^ 64 := fun i i0 i1 => Nat.lt_of_le_of_lt (by omega : i.natAbs ≤ 36000) (by decide)
        cases ht : isT x with
        | true =>
          have e := sp.t ht
          rw [e]
          exact .inr ⟨_, _, rfl, big _ (by omega) (by omega), big _ (by omega) (by omega)⟩
        | false =>
          have hz := sp.z
          unfold spanZ at hz
          rw [ht, if_neg (by simp)] at hz
          rw [hz]
          exact .inl ⟨_, rfl, big _ (by omega) (by omega)⟩
      · exact spans_itk hr (fun q hq => b q (List.mem_cons_of_mem _ hq)) (fun y hy => it y (List.mem_cons_of_mem _ hy)) x hx
/-! readings of lists as data -/
section
variable {K : PySem.W.Frag} {σ : St} {H : Hp} {te tb : TE} {d : PyData} {Ds : List PyData} {j : Nat}
theorem ep_rep3 (h : EvP te σ H (.list [d])) : EvP (tOp rRep te (tC (.int 3))) σ H (.list [d, d, d]) := fun H1 e Q q =>
  h H1 e _ fun v H2 e2 k2 => by
    cases k2 with
    | @lst a xs _ ha ka =>
      cases ka with
      | @cons u _ us _ k0 k1 => cases k1 with
        | nil => exact ⟨a, 3, [u], rfl, rfl, ha, by decide, by decide, by show (3:Nat) ≤ sizeLine; rw [sizeLine_eq]; omega, fun p hp => q (.ref p) _ (e2.trans (Ex.new hp)) (.lst upd_same ((PtAll.cons k0 (.cons k0 (.cons k0 .nil))).ex (Ex.new hp)))⟩
theorem ep_ixL (h : EvP te σ H (.list Ds)) (h2 : Ev tb σ H (.int (j : Nat))) (hd : Ds[j]? = some d) : EvP (tOp (rIxL K) te tb) σ H d := fun H1 e Q q =>
  h H1 e _ fun v H2 e2 k2 => h2 H2 (e.trans e2) _ fun H3 e3 => by
    cases k2.ex e3 with
    | @lst a xs _ ha ka =>
      obtain ⟨u, hu, ku⟩ := ka.get hd
      exact ⟨a, xs, _, u, rfl, rfl, SqL.of ha, atI_nat hu, q u H3 (e2.trans e3) ku⟩
end
theorem Lx.fresh {T : List (Addr × Str)} {CI CS : Addr} {β : Nat} {Ds : List PyData} {p c l : Addr} {n : Nat} {a : Int} {x ea pa st : Addr} {m : Nat} {H : Hp} (L : Lx T CI CS β Ds p c l n a x ea pa st m H) {b : Addr} (h : H b = none) : b ∉ [p, l, x, ea, pa] := fun z => by
  have cc : b = p ∨ b = l ∨ b = x ∨ b = ea ∨ b = pa := by simpa using z
  obtain ⟨ls, hl, _⟩ := L.w.s.l
  obtain ⟨es, ps, I, _⟩ := L.i
  obtain ⟨dx, hx⟩ := I.i
  rcases cc with rfl | rfl | rfl | rfl | rfl
  · rw [L.w.s.d] at h; cases h
  · rw [hl] at h; cases h
  · rw [hx] at h; cases h
  · rw [I.e] at h; cases h
  · rw [I.p] at h; cases h
end Kx

/-! k23: the list of what was heard. -/
namespace Kx
open PySem L2 Evl ExM Dg Dt LamR LamX Told TL Lm Ix StX ClX
open Dr (StAt SameB)
theorem toldE_nl {D : PyData} : noL (toldE (dueE D)) = true := by
  cases h : dueE D with
  | none => rfl
  | some pl =>
    rcases due_kind h with rfl | ⟨j, rfl, hj⟩
    · rfl
    · rfl
theorem dueV_pt {D : PyData} {H : Hp} : PtAll H (dueV (dueE D)) (dueE D).toList := by
  cases h : dueE D with
  | none => exact .nil
  | some pl =>
    rcases due_kind h with rfl | ⟨j, rfl, hj⟩
    · exact .cons .non .nil
    · exact .cons (.int _) .nil
section
variable {T : List (Addr × Str)} {CI CS : Addr} {β : Nat} {Ds : List PyData} {p c l : Addr} {n : Nat} {a : Int} {x ea pa st : Addr} {m : Nat} {H : Hp}
theorem hid_upd {S : List Addr} {H : Hp} {b : Addr} {o : HO} (h : b ∉ S) : hid S (upd H b o) = upd (hid S H) b o := by
  funext e
  unfold hid
  by_cases z : e = b
  · rw [z, upd_same, upd_same, if_neg h]
  · rw [upd_ne z, upd_ne z]
/-- another list is filled -/
theorem Lx.updL (L : Lx T CI CS β Ds p c l n a x ea pa st m H) {hl : Addr} {us zs : List V} (h : H hl = some (.lst us)) (ns : hl ∉ [p, l, x, ea, pa]) (nc : hl ≠ c) (nD : noLs Ds = true) : Lx T CI CS β Ds p c l n a x ea pa st m (upd H hl (.lst zs)) := by
  obtain ⟨es, ps, I, l1, l2⟩ := L.i
  obtain ⟨dx, hx⟩ := I.i
  obtain ⟨cs, hc, hcn⟩ := L.w.s.c
  obtain ⟨ls, hll, hln⟩ := L.w.s.l
  have n1 : p ≠ hl := fun z => ns (by simp [z])
  have n2 : l ≠ hl := fun z => ns (by simp [z])
  have n3 : x ≠ hl := fun z => ns (by simp [z])
  have n4 : ea ≠ hl := fun z => ns (by simp [z])
  have n5 : pa ≠ hl := fun z => ns (by simp [z])
  refine ⟨⟨⟨by rw [upd_ne n1]; exact L.w.s.d, ⟨cs, by rw [upd_ne nc.symm]; exact hc, hcn⟩, ⟨ls, by rw [upd_ne n2]; exact hll, hln⟩, L.w.s.n0, L.w.s.n1, L.w.s.a0⟩, fun q hq => ?_⟩, L.nlc, L.pe, L.ca, L.la, ?_, es, ps, ⟨⟨dx, by rw [upd_ne n3]; exact hx⟩, by rw [upd_ne n4]; exact I.e, by rw [upd_ne n5]; exact I.p⟩, l1, l2⟩
  · obtain ⟨ts, h1, h2, h3⟩ := L.w.t q hq
    refine ⟨ts, by rw [upd_ne (ne_of h1 h (by intro z; cases z))]; exact h1, h2, fun pos cv hc => ?_⟩
    obtain ⟨co, e1, e2⟩ := h3 pos cv hc
    exact ⟨co, e1, by rw [upd_ne (ne_of e2 h (by intro z; cases z))]; exact e2⟩
  · obtain ⟨dy, t, h1, h2⟩ := L.s
    have hh : hid [p, l, x, ea, pa] H hl = some (.lst us) := by rw [hid_out ns]; exact h
    rw [hid_upd ns]
    exact ⟨dy, t, by rw [upd_ne (ne_of h1 hh (by intro z; cases z))]; exact h1, h2.tk (tupK_upd hh) (by rw [noL]; exact nD)⟩
end
end Kx

namespace KH23
open PySem L2 Evl Dg Dt LamR LamX TL StX ClX ExM Told Lm Ix Kx
open Dr (StAt SameB)
def inThing (k : Nat) : Stmt := match inLoop 1 with
  | .For _ _ b _ _ => b.getD k (.Pass ⟨0, 0, 0, 0⟩)
  | s => s
section
variable {w : World} {mg : Str → Option Value} {h base : Heap} (X : (K23 w.params).In h) (G : h.Ns mainGlobals mg) {A : Around} {outer : List Env} {s : Shared} {H0 : Hp} {E0 : XK} {T : List (Addr × Str)} (R : Rm w mg base A outer s H0 E0 T) (L : TxL mg)
include X G R L
theorem thing0 : ∃ t, PS (XL w mg base A outer s H0 E0) (inThing 0) t ∧ ∀ (D : Ends) (H : Hp) (sc p cc l : Addr) (n : Nat) (a : Int) (x4 x5 x7 x8 x9 x10 x11 : Option V) (ix ea pa st : Addr) (m : Nat) (v : V) (e : PyData), Lx T 841 616 10 dsL p cc l n a ix ea pa st m H → Pt (hid [p, l, ix, ea, pa] H) v e → BentS e → 
    (∀ (dl : Addr) (H' : Hp), Lx T 841 616 10 dsL p cc l n a ix ea pa st m H' → Wi [p, l, ix, ea, pa] H H' → Pt (hid [p, l, ix, ea, pa] H') (.ref dl) (.list (dueE e).toList) → D.nx [some (.ref sc), some (.ref p), some (.ref st), some (.ref ix), x4, x5, some (v), some (.ref dl), some (.str e.shown), x9, x10, x11] H') → t D [some (.ref sc), some (.ref p), some (.ref st), some (.ref ix), x4, x5, some (v), x7, x8, x9, x10, x11] H := by
  obtain ⟨hr, hu64, TB, hT, hu⟩ := R
  refine ⟨_, (ps_par (i := 7) (j := 8) (by rfl) scLaw.nd rfl rfl (by decide) rfl rfl (pa_cons (pe_call (f_l_due X G) (hr.r.mono (by decide)) (by rfl) L.l_due (kp_l_due _) (bd_l_due _) .nil pass0 (pa_cons (pv 6) pa_nil)) (pa_cons (pe_callB (id := "repr") (r := Dt.rReprP (K23 w.params)) (Dt.call_reprP hr.g hu64) (by rfl) L.repr (by decide +kernel) (pa_cons (pv 6) pa_nil)) pa_nil)) (by rfl)), fun D H sc p cc l n a x4 x5 x7 x8 x9 x10 x11 ix ea pa st m v e Lq kv B q => ?_⟩
  refine ⟨_, rfl, v, e, rfl, kv.ex (hid_ex _ _), fun dl H1 n1 e1 h1 => ?_⟩
  have L1 := Lq.ex e1
  refine ⟨_, rfl, v, e, rfl, (kv.ex (hid_ex _ _)).ex e1, B.n, B.a, Nat.le_trans B.b (by rw [sizeLine_eq]; decide), Nat.le_trans B.c (by decide), ⟨_, _, rfl, ?_⟩⟩
  exact q dl H1 L1 (Wi.ex e1) (.lst (by rw [hid_out (Lq.fresh n1)]; exact h1) dueV_pt)
theorem thing12 : ∃ t1 t2, PS (XL w mg base A outer s H0 E0) (inThing 1) t1 ∧ PS (XL w mg base A outer s H0 E0) (inThing 2) t2 ∧ ∀ (D_ : Ends) (H : Hp) (sc p cc l : Addr) (n : Nat) (a : Int) (x4 x5 x9 x10 x11 : Option V) (ix ea pa st : Addr) (m : Nat) (v : V) (e : PyData) (dl : Addr), m ≤ 800 → Lx T 841 616 10 dsL p cc l n a ix ea pa st m H → Pt (hid [p, l, ix, ea, pa] H) v e → BentS e →
    (∀ (hl : Addr) (H' : Hp), Lx T 841 616 10 dsL p cc l n a ix ea pa st (m + 1) H' → Wi [p, l, ix, ea, pa] H H' → Pt (hid [p, l, ix, ea, pa] H') (.ref hl) (.list [toldE (dueE e), toldE (dueE e), toldE (dueE e)]) → D_.nx [some (.ref sc), some (.ref p), some (.ref st), some (.ref ix), x4, x5, some (v), some (.ref dl), some (.str e.shown), some (.ref hl), x10, x11] H') → tSeq t1 t2 D_ [some (.ref sc), some (.ref p), some (.ref st), some (.ref ix), x4, x5, some (v), some (.ref dl), some (.str e.shown), x9, x10, x11] H := by
  obtain ⟨hr, hu64, TB, hT, hu⟩ := R
  refine ⟨_, _, (ps_set (i := 9) scLaw.nd rfl (.inl rfl) (pe_lst (pa_cons (pe_lamcallR (k := 10) (T := T) (by rfl) L.l_raised (kp_l_raised _) (lk_l_raised _) (cd_l_raised _) (bd_l_raised _) Told.scR rfl (.inl rfl) (Told.raised_gives (ca := ca23) (txT X G) (rwT23 _)) TB rfl hT hu (hr.r.mono (by decide)) (lamN_by (show lamNB (defScope sLaw) _ nLaw = true by decide +kernel)) (by rfl) (fun _ _ _ _ _ => by rfl) (fun A outer s H E f c' hr' => (pe_callS (f_need_entry X G) (hr'.mono (by decide)) (by rfl) L.need_entry (kp_need_entry _) (bd_need_entry _) (fun σ => passAt (takes_of rfl rfl rfl rfl) σ) (pa_cons (pv 6) pa_nil)))) (pa_cons (pe_lamcallD (k := 10) (T := T) (y := "at") (n := 0) (by rfl) L.l_raised (kp_l_raised _) (lk_l_raised _) (cd_l_raised _) (bd_l_raised _) Told.scR rfl (.inl rfl) (Told.raised_gives (ca := ca23) (txT X G) (rwT23 _)) TB rfl hT hu (hr.r.mono (by decide)) (lamN_by (show lamNB (defScope sLaw) _ nLaw = true by decide +kernel)) (by rfl) (by rfl) (by rfl) (fun _ _ _ _ _ _ _ _ => ⟨_, by rfl, by rfl⟩) (fun A outer s H E f c' hr' => (pe_callS (f_entry_text X G) (hr'.mono (by decide)) (by rfl) L.entry_text (kp_entry_text _) (bd_entry_text _) (fun σ => passAt (takes_of rfl rfl rfl rfl) σ) (pa_cons (pv 2) (pa_cons pe_str (pa_cons (pv 6) pa_nil)))))) pa_nil)))), (ps_expr (pe_bm PySem.F.plainAttrs_list PySem.F.slot_list_append PySem.F.type_list_append mt_append (pv 9) (pa_cons (pe_lamcallR (k := 10) (T := T) (by rfl) L.l_raised (kp_l_raised _) (lk_l_raised _) (cd_l_raised _) (bd_l_raised _) Told.scR rfl (.inl rfl) (Told.raised_givesM (ca := ca23) (txT X G) (rwT23 _)) TB rfl hT hu (hr.r.mono (by decide)) (lamN_by (show lamNB (defScope sLaw) _ nLaw = true by decide +kernel)) (by rfl) (fun _ _ _ _ _ => by rfl) (fun A outer s H E f c' hr' => (pe_callS (f_l_put X G) (hr'.mono (by decide)) (by rfl) L.l_put (kp_l_put _) (bd_l_put _) (fun σ => passAt (takes_of rfl rfl rfl rfl) σ) (pa_cons (pv 3) (pa_cons pe_str (pa_cons (pv 6) pa_nil)))))) pa_nil))), fun D_ H sc p cc l n a x4 x5 x9 x10 x11 ix ea pa st m v e dl hm Lq kv B q => ?_⟩
  have kV : ∀ {H1 H2 : Hp}, ExtN H H1 → Ex H1 H2 → Pt H2 v e := fun e1 e2 => (kv.ex (hid_ex _ _)).extN (e1.trans (ExtN.of e2))
  refine rd_ent (D := e) Lq.w.t (fun H1 e1 HZ eZ E Q' hl hq => ⟨_, rfl, v, e, rfl, kV e1 eZ, ⟨hl, fun hn H2 e2 => hq hn _ H2 e2⟩⟩) fun r1 H1 x1 T1 k1 => ?_
  have L1 := Lq.extN x1 T1
  refine rd_ent (D := e) L1.w.t (fun H2 e2 HZ eZ E Q' hl hq => ?_) fun r2 H2 x2 T2 k2 => ?_
  · have f := (x1.trans e2).trans (ExtN.of eZ)
    refine ⟨_, rfl, _, rfl, st, .str "full", v, .str "full", e, rfl, .str _ (by decide), (kv.ex (hid_ex _ _)).extN f, (fun z => by exact absurd z (by decide +kernel)), fun _ => ⟨hl, fun hn => ?_⟩⟩
    obtain ⟨ds, rfl, n1, n50, hg⟩ := due_none_form hn
    obtain ⟨ps, hs⟩ := go_spans (a := 0) hg
    exact ⟨10, dsL, ps, Lq.sty.extN f, by decide, by decide, ⟨by decide, by decide, by decide +kernel⟩, hs, spans_big hs B.a, fun H3 e3 => hq hn _ H3 e3⟩
  have L2' := L1.extN x2 T2
  refine ⟨(by show (2:Nat) ≤ sizeLine; rw [sizeLine_eq]; omega), fun hl nl => ?_⟩
  have ns := L2'.fresh nl
  have e3 := Ex.new (o := .lst [.ref r1, .ref r2]) nl
  have L3 := L2'.ex e3
  have h3 : (upd H2 hl (.lst [.ref r1, .ref r2])) hl = some (.lst [.ref r1, .ref r2]) := upd_same
  have w3 : Wi [p, l, ix, ea, pa] H (upd H2 hl (.lst [.ref r1, .ref r2])) := (Wi.extN x1).trans ((Wi.extN x2).trans (Wi.ex e3))
  have j1 := L3.beside ((k1.extN x2).ex e3) toldE_nl
  have j2 := L3.beside (k2.ex e3) toldE_nl
  have nc : hl ≠ cc := fun z => by
    obtain ⟨cs, hc, _⟩ := L2'.w.s.c
    rw [z, hc] at nl
    cases nl
  have w0 : Wi [p, l, ix, ea, pa] H H2 := (Wi.extN x1).trans (Wi.extN x2)
  generalize upd H2 hl (.lst [.ref r1, .ref r2]) = H3 at e3 L3 h3 w3 j1 j2
  refine ⟨_, rfl, .inl ⟨rfl, _, SqL.of h3⟩, ?_⟩
  refine rd_put (ca := ca23) (N := .str "name") (D := e) L3 hm (.str _ (by decide)) (w3.pt kv) (fun HZ E Q' h => ⟨_, rfl, _, rfl, h⟩) fun r3 H4 w4 L4 k4 => ?_
  have h4 : H4 hl = some (.lst [.ref r1, .ref r2]) := w4 _ _ h3 ns (by simp)
  refine ⟨hl, [.ref r1, .ref r2], _, rfl, rfl, h4, (by show (2:Nat) < sizeLine; rw [sizeLine_eq]; omega), ?_⟩
  have tkk : TupK (hid [p, l, ix, ea, pa] H4) (hid [p, l, ix, ea, pa] (upd H4 hl (.lst ([.ref r1, .ref r2] ++ [.ref r3])))) := by
    rw [hid_upd ns]
    exact tupK_upd (by rw [hid_out ns]; exact h4)
  have eP : toldP (.str "name") e = toldE (dueE e) := by
    unfold toldP
    rw [if_pos (by decide +kernel)]
  rw [eP] at k4
  refine q hl _ (L4.updL h4 ns nc rfl) (fun b o hb nb nt => ?_) (.lst (by rw [hid_out ns]; exact upd_same) (.cons ((w4.pt j1).tk tkk toldE_nl) (.cons ((w4.pt j2).tk tkk toldE_nl) (.cons (k4.tk tkk toldE_nl) .nil))))
  have nbh : b ≠ hl := fun z => by
    have h0 := w0 b o hb nb nt
    rw [z, nl] at h0
    cases h0
  rw [upd_ne nbh]
  exact w4 b o (w3 b o hb nb nt) nb nt
end
end KH23

/-! k23: readings of what was heard. -/
namespace Kx
open PySem L2 Evl ExM Dg Dt LamR LamX Told TL Lm Ix StX ClX
open Dr (StAt SameB)
section
variable {K : PySem.W.Frag} {σ : St} {H : Hp} {te tb : TE} {d e : PyData} {i : Nat} {dl : Addr}
theorem ep_heard (hσ : σ[i]? = some (some (.ref dl))) (kd : Pt H (.ref dl) (.list (dueE e).toList)) : EvP (tIf (tTest (tOp (rNeD K) (tVar i) (tLst tNil))) (tTup (tCons (tC (.str "entry")) (tCons (tOp (rIxL K) (tVar i) (tC (.int 0))) tNil))) (tTup tNil)) σ H (toldE (dueE e)) := by
  cases h : dueE e with
  | none =>
    rw [h] at kd
    exact ep_if (b := false) (et_is (et_test (ev_neP (d := .list []) (e := .list []) (ep_v (ev_var hσ) kd) (ep_lst epa_nil (by simp)) rfl rfl (by decide +kernel) (by decide +kernel))) (by decide +kernel)) (fun z => nomatch z) (fun _ => ep_tup epa_nil (by simp))
  | some pl =>
    rw [h] at kd
    rcases due_kind h with rfl | ⟨j, rfl, hj⟩
    · exact ep_if (b := true) (et_is (et_test (ev_neP (d := .list [.none]) (e := .list []) (ep_v (ev_var hσ) kd) (ep_lst epa_nil (by simp)) rfl rfl (by decide +kernel) (by decide +kernel))) (by decide +kernel)) (fun _ => ep_tup (epa_cons (ep_str (by decide)) (epa_cons (ep_ixL (Ds := [.none]) (j := 0) (ep_v (ev_var hσ) kd) ev_c rfl) epa_nil)) (by simp)) (fun z => nomatch z)
    · exact ep_if (b := true) (et_is (et_test (ev_neP (d := .list [.int (j : Int)]) (e := .list []) (ep_v (ev_var hσ) kd) (ep_lst epa_nil (by simp)) rfl rfl (by simp [SeqAt.shaped, PyData.canLay0, PyData.canLayAll0, PyData.depth, PyData.depthAll]) (by decide +kernel))) (by simp [PyData.eqv, PyData.eqvAll])) (fun _ => ep_tup (epa_cons (ep_str (by decide)) (epa_cons (ep_ixL (Ds := [.int (j : Int)]) (j := 0) (ep_v (ev_var hσ) kd) ev_c rfl) epa_nil)) (by simp)) (fun z => nomatch z)
theorem et_dueNil (hσ : σ[i]? = some (some (.ref dl))) (kd : Pt H (.ref dl) (.list (dueE e).toList)) : EvT (tTest (tOp (rEqD K) (tVar i) (tLst tNil))) σ H (dueE e).isNone := by
  cases h : dueE e with
  | none =>
    rw [h] at kd
    exact et_is (et_test (ev_eqDP (d := .list []) (e := .list []) (ep_v (ev_var hσ) kd) (ep_lst epa_nil (by simp)) rfl rfl (by decide +kernel) (by decide +kernel))) (by decide +kernel)
  | some pl =>
    rw [h] at kd
    rcases due_kind h with rfl | ⟨j, rfl, hj⟩
    · exact et_is (et_test (ev_eqDP (d := .list [.none]) (e := .list []) (ep_v (ev_var hσ) kd) (ep_lst epa_nil (by simp)) rfl rfl (by decide +kernel) (by decide +kernel))) (by decide +kernel)
    · exact et_is (et_test (ev_eqDP (d := .list [.int (j : Int)]) (e := .list []) (ep_v (ev_var hσ) kd) (ep_lst epa_nil (by simp)) rfl rfl (by simp [SeqAt.shaped, PyData.canLay0, PyData.canLayAll0, PyData.depth, PyData.depthAll]) (by decide +kernel))) (by simp [PyData.eqv, PyData.eqvAll])
theorem ev_reprB (h : EvP te σ H d) (n : noK d = true) (b : BentS d) : Ev (tCB (rReprJ K) (tCons te tNil)) σ H (.str d.shown) := fun H1 e1 Q q =>
  h H1 e1 _ fun v H2 e2 k2 => ⟨v, d, rfl, djP k2 n, b.a, Nat.le_trans b.b (by rw [sizeLine_eq]; decide), Nat.le_trans b.c (by decide), q H2 e2⟩
theorem ev_reprW (h : EvP te σ H d) (b : BentS d) : Ev (tCB (Dt.rReprP K) (tCons te tNil)) σ H (.str d.shown) := fun H1 e1 Q q =>
  h H1 e1 _ fun v H2 e2 k2 => ⟨v, d, rfl, k2, b.n, b.a, Nat.le_trans b.b (by rw [sizeLine_eq]; decide), Nat.le_trans b.c (by decide), q H2 e2⟩
theorem heard_ok : noK (.list [toldE (dueE e), toldE (dueE e), toldE (dueE e)]) = true ∧ BentS (.list [toldE (dueE e), toldE (dueE e), toldE (dueE e)]) := by
  obtain ⟨s, n⟩ := toldE_sm (D := e)
  have nk : noKs [toldE (dueE e), toldE (dueE e), toldE (dueE e)] = true := by
    simp [noKs, n]
  refine ⟨by rw [noK]; exact nk, bent_lst (fun x hx => ?_) (by simp) nk⟩
  have hx' : x = toldE (dueE e) := by simpa using hx
  rw [hx']
  exact ⟨s.a, Nat.le_trans s.b (by decide), s.c⟩
theorem ent_self {D : PyData} (h : dueE D = none) : noK D = true ∧ SeqAt.shaped D = true ∧ PyData.eqv D D = true := by
  obtain ⟨ds, rfl, n1, n50, hg⟩ := due_none_form h
  obtain ⟨h1, h2⟩ := ent_shaped (go_items hg)
  exact ⟨h2, h1, SeqAt.eqv_refl _ (Bool.and_eq_true_iff.mp h1).1⟩
end
end Kx

namespace KH23
open PySem L2 Evl Dg Dt LamR LamX TL StX ClX ExM Told Lm Ix Kx
open Dr (StAt SameB)
section
variable {w : World} {mg : Str → Option Value} {h base : Heap} (X : (K23 w.params).In h) (G : h.Ns mainGlobals mg) {A : Around} {outer : List Env} {s : Shared} {H0 : Hp} {E0 : XK} {T : List (Addr × Str)} (R : Rm w mg base A outer s H0 E0 T) (L : TxL mg)
include X G R L
theorem thing3 : ∃ t, PS (XL w mg base A outer s H0 E0) (inThing 3) t ∧ ∀ (D : Ends) (H : Hp) (sc p cc l : Addr) (n : Nat) (a : Int) (x4 x5 x10 x11 : Option V) (ix ea pa st : Addr) (m : Nat) (v : V) (e : PyData) (dl hl : Addr), Pt (hid [p, l, ix, ea, pa] H) v e → BentS e → Pt (hid [p, l, ix, ea, pa] H) (.ref dl) (.list (dueE e).toList) → Pt (hid [p, l, ix, ea, pa] H) (.ref hl) (.list [toldE (dueE e), toldE (dueE e), toldE (dueE e)]) → 
    (∀ (H' : Hp), Ex H H' → D.nx [some (.ref sc), some (.ref p), some (.ref st), some (.ref ix), x4, x5, some (v), some (.ref dl), some (.str e.shown), some (.ref hl), x10, x11] H') → t D [some (.ref sc), some (.ref p), some (.ref st), some (.ref ix), x4, x5, some (v), some (.ref dl), some (.str e.shown), some (.ref hl), x10, x11] H := by
  obtain ⟨hr, hu64, TB, hT, hu⟩ := R
  refine ⟨_, (ps_if (PW.pt (pw_or (pt_cmpR op_ne (pe_callB (id := "repr") (r := rReprJ (K23 w.params)) (call_reprJ hr.g hu64) (by rfl) L.repr (by decide +kernel) (pa_cons (pv 9) pa_nil)) (pe_callB (id := "repr") (r := rReprJ (K23 w.params)) (call_reprJ hr.g hu64) (by rfl) L.repr (by decide +kernel) (pa_cons (pe_op op_rep (pe_lst (pa_cons (pe_ifExp (pt_cmpR (op_neD (show _ + 64 < cLine from hu64)) (pv 7) (pe_lst pa_nil) (nomark _)) (pe_tup (pa_cons pe_str (pa_cons (pe_ix (r := rIxL (K23 w.params)) ix_list (pv 7) pe_int (fun _ _ => rfl)) pa_nil))) (pe_tup pa_nil)) pa_nil)) pe_int) pa_nil)) (nomark _)) (pw_or1 (pt_cmpR op_ne (pe_callB (id := "repr") (r := Dt.rReprP (K23 w.params)) (Dt.call_reprP hr.g hu64) (by rfl) L.repr (by decide +kernel) (pa_cons (pv 6) pa_nil)) (pv 8) (nomark _))))) (pss_one (ps_ret pe_bl)) pss_nil), fun D H sc p cc l n a x4 x5 x10 x11 ix ea pa st m v e dl hl kv B kd kh q => ?_⟩
  obtain ⟨n3, b3⟩ := heard_ok (e := e)
  have x0 := hid_ex [p, l, ix, ea, pa] H
  refine s_when (D := D) (b := false) (et_is (et_or (a := false) (b := false) (ev_neS (ev_reprB (ep_v (ev_var rfl) (kh.ex x0)) n3 b3) (ev_reprB (ep_rep3 (ep_lst (epa_cons (ep_heard rfl (kd.ex x0)) epa_nil) (by simp))) n3 b3)) fun _ => ev_neS (ev_reprW (ep_v (ev_var rfl) (kv.ex x0)) B) (ev_var rfl)) rfl) (fun z => nomatch z) fun _ H1 e1 => q H1 e1
theorem thing4 : ∃ t, PS (XL w mg base A outer s H0 E0) (inThing 4) t ∧ ∀ (D : Ends) (H : Hp) (sc p cc l : Addr) (n : Nat) (a : Int) (x4 x5 x10 x11 : Option V) (ix ea pa st : Addr) (m : Nat) (v : V) (e : PyData) (dl hl : Addr), Pt (hid [p, l, ix, ea, pa] H) v e → Pt (hid [p, l, ix, ea, pa] H) (.ref dl) (.list (dueE e).toList) → 
    (∀ (H' : Hp), Ex H H' → D.nx [some (.ref sc), some (.ref p), some (.ref st), some (.ref ix), x4, x5, some (v), some (.ref dl), some (.str e.shown), some (.ref hl), x10, x11] H') → t D [some (.ref sc), some (.ref p), some (.ref st), some (.ref ix), x4, x5, some (v), some (.ref dl), some (.str e.shown), some (.ref hl), x10, x11] H := by
  obtain ⟨hr, hu64, TB, hT, hu⟩ := R
  refine ⟨_, (ps_if (PW.pt (pw_and (pt_cmpR (op_eqD (show _ + 64 < cLine from hu64)) (pv 7) (pe_lst pa_nil) (nomark _)) (pw_and1 (pt_cmpR (op_neD (show _ + 64 < cLine from hu64)) (pe_call (f_need_entry X G) (hr.r.mono (by decide)) (by rfl) L.need_entry (kp_need_entry _) (bd_need_entry _) .nil (fun pins σ H s e s' I c => passAt L2.takes0 σ pins H s e s' I c) (pa_cons (pv 6) pa_nil)) (pv 6) (nomark _))))) (pss_one (ps_ret pe_bl)) pss_nil), fun D H sc p cc l n a x4 x5 x10 x11 ix ea pa st m v e dl hl kv kd q => ?_⟩
  have x0 := hid_ex [p, l, ix, ea, pa] H
  refine s_when (D := D) (b := false) (et_is (et_and (a := (dueE e).isNone) (b := false) (et_dueNil rfl (kd.ex x0)) fun z => ?_) (by simp)) (fun z => nomatch z) fun _ H1 e1 => q H1 e1
  have hn : dueE e = none := Option.isNone_iff_eq_none.mp z
  obtain ⟨nk, sh, es⟩ := ent_self hn
  have kv0 := kv.ex x0
  refine et_is (et_test (ev_neP (d := e) (e := e) (ep_v (ev_call (ea_cons (ev_var rfl) ea_nil) fun H1 e1 Q q1 => ?_) kv0) (ep_v (ev_var rfl) kv0) nk nk sh sh)) (by rw [es]; rfl)
  intro E
  exact ⟨v, e, rfl, kv0.ex e1, ⟨fun pl hp => (by rw [hn] at hp; cases hp), fun _ H2 e2 => q1 H2 e2⟩⟩
theorem thingR : ∃ t, PSs (XL w mg base A outer s H0 E0) [inThing 0, inThing 1, inThing 2, inThing 3, inThing 4] t ∧ ∀ (D : Ends) (H : Hp) (sc p cc l : Addr) (n : Nat) (a : Int) (x4 x5 x7 x8 x9 x10 x11 : Option V) (ix ea pa st : Addr) (m : Nat) (v : V) (e : PyData), m ≤ 800 → Lx T 841 616 10 dsL p cc l n a ix ea pa st m H → Pt (hid [p, l, ix, ea, pa] H) v e → BentS e →
    (∀ (x7 x8 x9 : Option V) (H' : Hp), Lx T 841 616 10 dsL p cc l n a ix ea pa st (m + 1) H' → Wi [p, l, ix, ea, pa] H H' → D.nx [some (.ref sc), some (.ref p), some (.ref st), some (.ref ix), x4, x5, some (v), x7, x8, x9, x10, x11] H') → t D [some (.ref sc), some (.ref p), some (.ref st), some (.ref ix), x4, x5, some (v), x7, x8, x9, x10, x11] H := by
  obtain ⟨t0, p0, q0⟩ := thing0 X G R L
  obtain ⟨t1, t2, p1, p2, q1⟩ := thing12 X G R L
  obtain ⟨t3, p3, q3⟩ := thing3 X G R L
  obtain ⟨t4, p4, q4⟩ := thing4 X G R L
  refine ⟨_, pss_cons p0 (pss_cons p1 (pss_cons p2 (pss_cons p3 (pss_one p4)))), fun D H sc p cc l n a x4 x5 x7 x8 x9 x10 x11 ix ea pa st m v e hm Lq kv B q => ?_⟩
  refine q0 _ _ sc p cc l n a _ _ _ _ _ _ _ ix ea pa st m v e Lq kv B fun dl H1 L1 w1 kd => ?_
  refine q1 { D with nx := tSeq t3 t4 D } _ sc p cc l n a _ _ _ _ _ ix ea pa st m v e dl hm L1 (w1.pt kv) B fun hl H2 L2' w2 kh => ?_
  have kv2 := w2.pt (w1.pt kv)
  have kd2 := w2.pt kd
  refine q3 _ _ sc p cc l n a _ _ _ _ ix ea pa st m v e dl hl kv2 B kd2 kh fun H3 e3 => ?_
  refine q4 _ _ sc p cc l n a _ _ _ _ ix ea pa st m v e dl hl (kv2.ex (hid_mono e3)) (kd2.ex (hid_mono e3)) fun H4 e4 => ?_
  exact q _ _ _ H4 ((L2'.ex e3).ex e4) (w1.trans (w2.trans ((Wi.ex e3).trans (Wi.ex e4))))
end
end KH23

namespace KH23
open PySem L2 Evl Dg Dt LamR LamX TL StX ClX ExM Told Lm Ix Kx
open Dr (StAt SameB)
theorem ent_bent {ds : List PyData} (h : ∀ d ∈ ds, ItK d) (n : ds.length ≤ 62) : BentS (.tuple ds) :=
  bent_tup (fun d hd => (h d hd).els.1) n (.inl (noKs_all fun d hd => (h d hd).els.2.2.1))
section
variable {w : World} {mg : Str → Option Value} {h base : Heap} (X : (K23 w.params).In h) (G : h.Ns mainGlobals mg) {A : Around} {outer : List Env} {s : Shared} {H0 : Hp} {E0 : XK} {T : List (Addr × Str)} (R : Rm w mg base A outer s H0 E0 T) (L : TxL mg)
include X G R L
theorem row1 : ∃ t, PS (XL w mg base A outer s H0 E0) (inLoop 1) t ∧ ∀ (D : Ends) (H : Hp) (sc p cc l : Addr) (n : Nat) (a : Int) (x4 x6 x7 x8 x9 x10 x11 : Option V) (ix ea pa st : Addr) (m : Nat) (v : V) (ds : List PyData) (ps : List (Nat × Nat)), a + 20000 < 2 ^ 39 → m ≤ 700 → Lx T 841 616 10 dsL p cc l n a ix ea pa st m H → 1 ≤ ds.length → ds.length ≤ 50 → Ent (hid [p, l, ix, ea, pa] H) v ds ps → 
    (∀ (y6 y7 y8 y9 : Option V) (b : Int) (H' : Hp), a ≤ b → b ≤ a + 600 → Lx T 841 616 10 dsL p cc l n b ix ea pa st (m + 5) H' → Wi [p, l, ix, ea, pa] H H' → D.nx [some (.ref sc), some (.ref p), some (.ref st), some (.ref ix), x4, some (v), y6, y7, y8, y9, x10, x11] H') → t D [some (.ref sc), some (.ref p), some (.ref st), some (.ref ix), x4, some (v), x6, x7, x8, x9, x10, x11] H := by
  obtain ⟨tB, pB, qB⟩ := thingR X G R L
  obtain ⟨hr, hu64, TB, hT, hu⟩ := R
  refine ⟨_, (ps_for PassesOwn.never rfl (pi_tup (pe_tup (pa_cons (pv 5) (pa_cons (pe_lock (pe_lock (pe_call (f_l_bent X G) (hr.r.mono (by decide)) (by rfl) L.l_bent (kp_l_bent _) (bd_l_bent _) .nil pass0 (pa_cons (pv 1) (pa_cons (pv 5) pa_nil))))) (pa_cons (pe_lock (pe_lock (pe_call (f_l_bent X G) (hr.r.mono (by decide)) (by rfl) L.l_bent (kp_l_bent _) (bd_l_bent _) .nil pass0 (pa_cons (pv 1) (pa_cons (pv 5) pa_nil))))) (pa_cons (pe_call (f_l_entry X G) (hr.r.mono (by decide)) (by rfl) L.l_entry (kp_l_entry _) (bd_l_entry _) .nil pass0 (pa_cons (pv 1) (pa_cons pe_int pa_nil))) (pa_cons (pe_tup pa_nil) pa_nil))))))) (pg_name (i := 6) scLaw.nd rfl (.inr rfl)) pB), fun D H sc p cc l n a x4 x6 x7 x8 x9 x10 x11 ix ea pa st m v ds ps ha hm Lq n1 n50 en q => ?_⟩
  have itk := spans_itk en.sp en.sm en.it
  refine ⟨_, rfl, ?_⟩
  refine rd_bent (E := L2.E0) Lq (by omega) en.k en.nl n1 (by omega) itk (fun v1 D1 H1 b1 k1 B1 ab1 ba1 L1 w1 => ?_) (fun H1 Q1 h => ⟨_, rfl, _, rfl, h⟩)
  refine rd_bent (E := L2.E0) L1 (by omega) (w1.pt en.k) en.nl n1 (by omega) itk (fun v2 D2 H2 b2 k2 B2 ab2 ba2 L2' w2 => ?_) (fun H1 Q1 h => ⟨_, rfl, _, rfl, h⟩)
  refine ⟨_, rfl, p, cc, l, n, 51, b2, rfl, L2'.w.s, L2'.nlc, by omega, by decide, fun v3 es qs H3 b3 hn3 sp3 it3 nl3 hq3 k3 ab3 ba3 S3 sb3 => ?_⟩
  have L3 := L2'.same S3 sb3
  have w3 : Wi [p, l, ix, ea, pa] H2 H3 := Wi.same sb3
  have j3 := L3.beside k3 (by rw [noL]; exact nl3)
  have B3 : BentS (.tuple es) := ent_bent (spans_itk sp3 (fun q hq => Nat.le_trans (hq3 q hq) (by decide)) it3) (by omega)
  refine ⟨Nat.zero_le _, fun t4 n4 => ?_⟩
  have e4 := Ex.new (o := .tup []) n4
  have L4 := L3.ex e4
  have h4 : (upd H3 t4 (.tup [])) t4 = some (.tup []) := upd_same
  have i4 := L3.fresh n4
  generalize upd H3 t4 (.tup []) = H4 at e4 L4 h4
  refine ⟨(by show (5:Nat) ≤ sizeLine; rw [sizeLine_eq]; omega), fun t5 n5 => ?_⟩
  have e5 := Ex.new (o := .tup [v, v1, v2, v3, .ref t4]) n5
  have L5 := L4.ex e5
  have h5 : (upd H4 t5 (.tup [v, v1, v2, v3, .ref t4])) t5 = some (.tup [v, v1, v2, v3, .ref t4]) := upd_same
  generalize upd H4 t5 (.tup [v, v1, v2, v3, .ref t4]) = H5 at e5 L5 h5
  have w35 : Wi [p, l, ix, ea, pa] H3 H5 := (Wi.ex e4).trans (Wi.ex e5)
  have w25 := w3.trans w35
  have w15 := w2.trans w25
  have w05 := w1.trans w15
  have kx : PtAll (hid [p, l, ix, ea, pa] H5) [v, v1, v2, v3, .ref t4] [.tuple ds, D1, D2, .tuple es, .tuple []] := .cons (w05.pt en.k) (.cons (w15.pt k1) (.cons (w25.pt k2) (.cons (w35.pt j3) (.cons (.tup (by rw [hid_out i4]; exact e5 _ _ h4) .nil) .nil))))
  have hB : ∀ d ∈ [PyData.tuple ds, D1, D2, .tuple es, .tuple []], BentS d := fun d hd => by
    have cc : d = .tuple ds ∨ d = D1 ∨ d = D2 ∨ d = .tuple es ∨ d = .tuple [] := by simpa using hd
    rcases cc with rfl | rfl | rfl | rfl | rfl
    · exact ent_bent itk (by omega)
    · exact B1
    · exact B2
    · exact B3
    · exact ent_bent (fun d hd => nomatch hd) (by decide)
  clear h4 k3 j3 k1 k2
  refine ⟨t5, rfl, ⟨_, st_of h5⟩, for_tup (xs := [v, v1, v2, v3, .ref t4]) (fun i σ' H' => (∃ y6 y7 y8 y9 : Option V, σ' = [some (.ref sc), some (.ref p), some (.ref st), some (.ref ix), x4, some (v), y6, y7, y8, y9, x10, x11]) ∧ Lx T 841 616 10 dsL p cc l n b3 ix ea pa st (m + i) H' ∧ Wi [p, l, ix, ea, pa] H5 H') ⟨⟨_, _, _, _, rfl⟩, L5, Wi.refl⟩ (fun i σ' H' _ hI => st_of ?_) (fun i x σ' H' hx hI => ?_) (fun σ' H' hI => ?_)⟩
  · refine hI.2.2 _ _ h5 (fun z => ?_) (by simp)
    exact L4.fresh n5 z
  · obtain ⟨⟨y6, y7, y8, y9, rfl⟩, L6, w6⟩ := hI
    obtain ⟨d, hd, kd⟩ := kx.get2 hx
    have hi : i < 5 := (List.getElem?_eq_some_iff.mp hd).1
    refine qB _ H' sc p cc l n b3 _ _ _ _ _ _ _ ix ea pa st (m + i) x d (by omega) L6 (w6.pt kd) (hB d (List.mem_of_getElem? hd)) fun z7 z8 z9 H7 L7 w7 => ?_
    exact ⟨⟨_, _, _, _, rfl⟩, L7, w6.trans w7⟩
  · obtain ⟨⟨y6, y7, y8, y9, rfl⟩, L6, w6⟩ := hI
    exact q _ _ _ _ b3 H' (by omega) (by omega) L6 (w05.trans w6)
end
end KH23

namespace KH23
open PySem L2 Evl Dg Dt LamR LamX TL StX ClX ExM Told Lm Ix Kx
open Dr (StAt SameB)
section
variable {w : World} {mg : Str → Option Value} {h base : Heap} (X : (K23 w.params).In h) (G : h.Ns mainGlobals mg) {A : Around} {outer : List Env} {s : Shared} {H0 : Hp} {E0 : XK} {T : List (Addr × Str)} (R : Rm w mg base A outer s H0 E0 T) (L : TxL mg)
include X G R L
theorem turnR : ∃ t, PSs (XL w mg base A outer s H0 E0) [inLoop 0, inLoop 1, inLoop 2, inLoop 3, inLoop 4, inLoop 5] t ∧ ∀ (D : Ends) (H : Hp) (sc p cc l : Addr) (n : Nat) (a : Int) (x4 x5 x6 x7 x8 x9 x10 x11 : Option V) (ix ea pa st : Addr) (m : Nat), a + 30000 < 2 ^ 39 → m ≤ 600 → Lx T 841 616 10 dsL p cc l n a ix ea pa st m H →
    (∀ (y5 y6 y7 y8 y9 y10 y11 : Option V) (b : Int) (H' : Hp), a ≤ b → b ≤ a + 1200 → Lx T 841 616 10 dsL p cc l n b ix ea pa st (m + 6) H' → D.nx [some (.ref sc), some (.ref p), some (.ref st), some (.ref ix), x4, y5, y6, y7, y8, y9, y10, y11] H') → t D [some (.ref sc), some (.ref p), some (.ref st), some (.ref ix), x4, x5, x6, x7, x8, x9, x10, x11] H := by
  obtain ⟨t0, p0, q0⟩ := row0 X G R L
  obtain ⟨t1, p1, q1⟩ := row1 X G R L
  obtain ⟨t2, p2, q2⟩ := row2 X G R L
  obtain ⟨t3, p3, q3⟩ := row3 X G R L
  obtain ⟨t4, p4, q4⟩ := row4 X G R L
  obtain ⟨t5, p5, q5⟩ := row5 X G R L
  refine ⟨_, pss_cons p0 (pss_cons p1 (pss_cons p2 (pss_cons p3 (pss_cons p4 (pss_one p5))))), fun D H sc p cc l n a x4 x5 x6 x7 x8 x9 x10 x11 ix ea pa st m ha hm Lq q => ?_⟩
  refine q0 _ H sc p cc l n a _ _ _ _ _ _ _ _ ix ea pa st m (by omega) Lq fun v ds ps b H1 ab ba L1 n1 n50 en => ?_
  refine q1 _ H1 sc p cc l n b _ _ _ _ _ _ _ ix ea pa st m v ds ps (by omega) (by omega) L1 n1 n50 en fun y6 y7 y8 y9 b2 H2 ab2 ba2 L2' w2 => ?_
  refine q2 _ H2 sc p cc l n b2 _ _ _ _ _ _ _ _ ix ea pa st (m + 5) (by omega) L2' fun u d j H3 L3 w3 k3 hd => ?_
  refine q3 _ H3 sc p cc l n (b2 + 1) _ _ _ _ _ _ _ ix ea pa st (m + 5) u d j L3 k3 hd fun H4 L4 w4 => ?_
  refine q4 _ H4 sc p cc l n (b2 + 1) _ _ _ _ _ _ _ _ ix ea pa st (m + 5) (by omega) L4 fun u d j H5 L5 w5 k5 hd => ?_
  refine q5 _ H5 sc p cc l n (b2 + 1 + 1) _ _ _ _ _ _ _ ix ea pa st (m + 5) u d j (by omega) L5 k5 hd fun H6 L6 w6 => ?_
  exact q _ _ _ _ _ _ _ (b2 + 1 + 1) H6 (by omega) (by omega) L6
end
end KH23

/-! k23: how it begins; the seven things by hand. -/
namespace Kx
open PySem L2 Evl ExM Dg Dt LamR LamX Told TL Lm Ix StX ClX
open Dr (StAt SameB)
theorem Lx.mk0 {T : List (Addr × Str)} {CI CS : Addr} {β : Nat} {Ds : List PyData} {p c l : Addr} {n : Nat} {a : Int} {x ea pa st : Addr} {H : Hp} (S : StAt H p c l n a) (t : Tabs T H) (nlc : l ≠ c) (pe : p ≠ ea) (ca : c ≠ pa) (la : l ≠ pa) (sty : StyAt H CS st β Ds) (nD : noLs Ds = true) (nC : CS ≠ CI)
    (I : IxAt CI H x ea pa st "full" [] []) : Lx T CI CS β Ds p c l n a x ea pa st 0 H := by
  obtain ⟨dx, hx⟩ := I.i
  obtain ⟨ls, hl, _⟩ := S.l
  obtain ⟨dy, tt, h1, h2⟩ := sty
  have all : ∀ (b : Addr), b ∈ [p, l, x, ea, pa] → (∀ xs, H b ≠ some (.tup xs)) ∧ b ≠ st := fun b hb => by
    have cc : b = p ∨ b = l ∨ b = x ∨ b = ea ∨ b = pa := by simpa using hb
    rcases cc with rfl | rfl | rfl | rfl | rfl
    · exact ⟨fun xs z => (by rw [S.d] at z; cases z), ne_of S.d h1 (by intro z; cases z)⟩
    · exact ⟨fun xs z => (by rw [hl] at z; cases z), ne_of hl h1 (by intro z; cases z)⟩
    · exact ⟨fun xs z => (by rw [hx] at z; cases z), ne_of hx h1 (by intro z; injection z with z _; exact nC z.symm)⟩
    · exact ⟨fun xs z => (by rw [I.e] at z; cases z), ne_of I.e h1 (by intro z; cases z)⟩
    · exact ⟨fun xs z => (by rw [I.p] at z; cases z), ne_of I.p h1 (by intro z; cases z)⟩
  exact ⟨⟨S, t⟩, nlc, pe, ca, la, ⟨dy, tt, by rw [hid_out (fun z => (all _ z).2 rfl)]; exact h1, h2.tk (tupK_hid fun b hb => (all b hb).1) (by rw [noL]; exact nD)⟩, [], [], I, Nat.le_refl _, Nat.le_refl _⟩
def sevenD : List PyData := [.tuple [.tuple [.int 1, .int 5], .int 5], .tuple [.tuple [.int 1, .int 5], .int 3], .tuple [.tuple [.int 1, .int 5], .tuple [.int 4, .int 9]], .tuple [.int 2, .tuple [.int 1, .int 5]], .tuple [.tuple [.int 5, .int 9], .int 7], .tuple [.tuple [.int 5, .int 9], .tuple [.int 8, .int 12]], .tuple [.int 3, .int 3]]
theorem seven_ok {d : PyData} (h : d ∈ sevenD) : dueE d = some (.int 1) := by
  have cc : d = .tuple [.tuple [.int 1, .int 5], .int 5] ∨ d = .tuple [.tuple [.int 1, .int 5], .int 3] ∨ d = .tuple [.tuple [.int 1, .int 5], .tuple [.int 4, .int 9]] ∨ d = .tuple [.int 2, .tuple [.int 1, .int 5]] ∨ d = .tuple [.tuple [.int 5, .int 9], .int 7] ∨ d = .tuple [.tuple [.int 5, .int 9], .tuple [.int 8, .int 12]] ∨ d = .tuple [.int 3, .int 3] := by simpa [sevenD] using h
  rcases cc with rfl | rfl | rfl | rfl | rfl | rfl | rfl <;> rfl
end Kx

namespace KH23
open PySem L2 Evl Dg Dt LamR LamX TL StX ClX ExM Told Lm Ix Kx
open Dr (StAt SameB)
section
variable {w : World} {mg : Str → Option Value} {h base : Heap} (X : (K23 w.params).In h) (G : h.Ns mainGlobals mg) {A : Around} {outer : List Env} {s : Shared} {H0 : Hp} {E0 : XK} {T : List (Addr × Str)} (R : Rm w mg base A outer s H0 E0 T) (L : TxL mg)
include X G R L
theorem setup : ∃ t0 t1 t2, PS (XL w mg base A outer s H0 E0) (inLaw 0) t0 ∧ PS (XL w mg base A outer s H0 E0) (inLaw 1) t1 ∧ PS (XL w mg base A outer s H0 E0) (inLaw 2) t2 ∧ ∀ (D : Ends) (H : Hp) (sc : Addr) (ns : List Int), SqL (K23 w.params) H sc (ns.map V.int) → ns.length ≤ 63 → Tabs T H →
    (∀ (p cc l : Addr) (n : Nat) (ix ea pa st : Addr) (H' : Hp), Lx T 841 616 10 dsL p cc l n 0 ix ea pa st 0 H' → SqL (K23 w.params) H' sc (ns.map V.int) → D.nx [some (.ref sc), some (.ref p), some (.ref st), some (.ref ix), none, none, none, none, none, none, none, none] H') → tSeq t0 (tSeq t1 t2) D (L2.start nLaw [V.ref sc]) H := by
  obtain ⟨hr, hu64, TB, hT, hu⟩ := R
  obtain ⟨dvs, hv, hb⟩ := bdD_Index___init__ w.params
  refine ⟨_, _, _, (ps_set (i := 1) scLaw.nd rfl (.inl rfl) (pe_call (f_l_begin X G) (hr.r.mono (by decide)) (by rfl) L.l_begin (kp_l_begin _) (bd_l_begin _) .nil pass0 (pa_cons (pv 0) pa_nil))), (ps_set (i := 2) scLaw.nd rfl (.inr rfl) (pe_makeR (mk_Style _) (f_Style___init__ X G) (hr.r.mono (by decide)) (by rfl) (mgStyle X G) (fun pins σ H s e s' I c => passAt L2.takes0 σ pins H s e s' I c) (pa_cons pe_int (pa_cons (pe_tup (pa_cons (pe_tup pa_nil) (pa_cons (pe_tup (pa_cons pe_str (pa_cons pe_int pa_nil))) pa_nil))) pa_nil)))), (ps_set (i := 3) scLaw.nd rfl (.inr rfl) (pe_make (mk_Index _) (f_Index___init__ X G) (hr.r.mono (by decide)) (by rfl) (mgIndex X G) hb hv (fun pins σ H s e s' I c => passAt L2.takes0 σ pins H s e s' I c) (pa_cons (pv 2) pa_nil))), fun D H sc ns hS hlen hTb q => ?_⟩
  refine ⟨_, rfl, sc, ns, rfl, hS, hlen, fun p cc l n H1 sm np nl S0 nlc => ?_⟩
  refine g_at (σ' := [some (.ref sc), some (.ref p), none, none, none, none, none, none, none, none, none, none]) rfl ?_
  dsimp only
  unfold tSeq tAsg
  dsimp only
  refine rd_makeQ (β := 10) (Ds := dsL) (epa_cons ep_int (epa_cons (ep_tup (epa_cons (ep_tup epa_nil (by simp)) (epa_cons (ep_tup (epa_cons (ep_str (by decide)) (epa_cons ep_int epa_nil)) (by simp)) epa_nil)) (by simp)) epa_nil)) (by decide) (by decide) (by decide) (by decide +kernel) fun st H2 e2 sty => ?_
  refine g_at (σ' := [some (.ref sc), some (.ref p), some (.ref st), none, none, none, none, none, none, none, none, none]) rfl ?_
  refine ⟨_, rfl, fun x dx hx hdx hne => ?_⟩
  obtain ⟨H3, eH3⟩ : ∃ H3, H3 = upd (upd H2 dx (.own x)) x (.ins 841 dx []) := ⟨_, rfl⟩
  have e3 : Ex H2 H3 := by
    rw [eH3]
    exact (Ex.new hdx).trans (Ex.new (by rw [upd_ne (Ne.symm hne)]; exact hx))
  have hx3 : H3 x = some (.ins 841 dx []) := by rw [eH3]; exact upd_same
  rw [← eH3]
  refine ⟨x, st, dx, .str "full", .str "full", rfl, hx3, .str _ (by decide), (fun z => by exact absurd z (by decide +kernel)), fun mn hm _ ea pa H4 k4 nea npa I => ⟨rfl, ?_⟩⟩
  cases hm
  have ex : Ex H2 H4 := fun b o h => k4 b o (e3 _ _ h) (ne_of_none h hx)
  have S2 := S0.ex e2
  have S4 := S2.ex ex
  have S3 := S2.ex e3
  obtain ⟨cs, hc, _⟩ := S3.c
  obtain ⟨ls, hl, _⟩ := S3.l
  refine q p cc l n x ea pa st H4 (Lx.mk0 S4 ((hTb.ext sm).ext (e2.trans ex)) nlc (fun z => ?_) (fun z => ?_) (fun z => ?_) (sty.ex ex) (by decide +kernel) (by decide) I) (Same.seq (fun b o h => ex _ _ (e2 _ _ (sm b o h))) hS)
  · rw [← z, S3.d] at nea; cases nea
  · rw [← z, hc] at npa; cases npa
  · rw [← z, hl] at npa; cases npa
theorem law4 : ∃ t, PS (XL w mg base A outer s H0 E0) (inLaw 4) t ∧ ∀ (D : Ends) (H : Hp) (sc p cc l : Addr) (n : Nat) (a : Int) (x2 x3 x4 x5 x6 x7 x8 x9 x10 x11 : Option V) , Tabs T H → 
    (∀ (y6 : Option V) (H' : Hp), ExtN H H' → Tabs T H' → D.nx [some (.ref sc), some (.ref p), x2, x3, x4, x5, y6, x7, x8, x9, x10, x11] H') → t D [some (.ref sc), some (.ref p), x2, x3, x4, x5, x6, x7, x8, x9, x10, x11] H := by
  obtain ⟨hr, hu64, TB, hT, hu⟩ := R
  refine ⟨_, (ps_for PassesOwn.never rfl (pi_tup (pe_tup (pa_cons (pe_tup (pa_cons (pe_tup (pa_cons pe_int (pa_cons pe_int pa_nil))) (pa_cons pe_int pa_nil))) (pa_cons (pe_tup (pa_cons (pe_tup (pa_cons pe_int (pa_cons pe_int pa_nil))) (pa_cons pe_int pa_nil))) (pa_cons (pe_tup (pa_cons (pe_tup (pa_cons pe_int (pa_cons pe_int pa_nil))) (pa_cons (pe_tup (pa_cons pe_int (pa_cons pe_int pa_nil))) pa_nil))) (pa_cons (pe_tup (pa_cons pe_int (pa_cons (pe_tup (pa_cons pe_int (pa_cons pe_int pa_nil))) pa_nil))) (pa_cons (pe_tup (pa_cons (pe_tup (pa_cons pe_int (pa_cons pe_int pa_nil))) (pa_cons pe_int pa_nil))) (pa_cons (pe_tup (pa_cons (pe_tup (pa_cons pe_int (pa_cons pe_int pa_nil))) (pa_cons (pe_tup (pa_cons pe_int (pa_cons pe_int pa_nil))) pa_nil))) (pa_cons (pe_tup (pa_cons pe_int (pa_cons pe_int pa_nil))) pa_nil))))))))) (pg_name (i := 6) scLaw.nd rfl (.inr rfl)) (pss_one (ps_if (pt_cmpR (op_neD (show _ + 64 < cLine from hu64)) (pe_lamcallR (k := 10) (T := T) (by rfl) L.l_raised (kp_l_raised _) (lk_l_raised _) (cd_l_raised _) (bd_l_raised _) Told.scR rfl (.inl rfl) (Told.raised_gives (ca := ca23) (txT X G) (rwT23 _)) TB rfl hT hu (hr.r.mono (by decide)) (lamN_by (show lamNB (defScope sLaw) _ nLaw = true by decide +kernel)) (by rfl) (fun _ _ _ _ _ => by rfl) (fun A outer s H E f c' hr' => (pe_callS (f_need_entry X G) (hr'.mono (by decide)) (by rfl) L.need_entry (kp_need_entry _) (bd_need_entry _) (fun σ => passAt (takes_of rfl rfl rfl rfl) σ) (pa_cons (pv 6) pa_nil)))) (pe_tup (pa_cons pe_str (pa_cons pe_int pa_nil))) (nomark _)) (pss_one (ps_ret pe_bl)) pss_nil))), fun D H sc p cc l n a x2 x3 x4 x5 x6 x7 x8 x9 x10 x11 Tb q => ?_⟩
  refine s_odds (ds := sevenD) (fun y => [some (.ref sc), some (.ref p), x2, x3, x4, x5, y, x7, x8, x9, x10, x11]) x6 (fun x v => rfl) (ep_tup (epa_cons (ep_tup (epa_cons (ep_tup (epa_cons ep_int (epa_cons ep_int epa_nil)) (by first | simp | decide)) (epa_cons ep_int epa_nil)) (by first | simp | decide)) (epa_cons (ep_tup (epa_cons (ep_tup (epa_cons ep_int (epa_cons ep_int epa_nil)) (by first | simp | decide)) (epa_cons ep_int epa_nil)) (by first | simp | decide)) (epa_cons (ep_tup (epa_cons (ep_tup (epa_cons ep_int (epa_cons ep_int epa_nil)) (by first | simp | decide)) (epa_cons (ep_tup (epa_cons ep_int (epa_cons ep_int epa_nil)) (by first | simp | decide)) epa_nil)) (by first | simp | decide)) (epa_cons (ep_tup (epa_cons ep_int (epa_cons (ep_tup (epa_cons ep_int (epa_cons ep_int epa_nil)) (by first | simp | decide)) epa_nil)) (by first | simp | decide)) (epa_cons (ep_tup (epa_cons (ep_tup (epa_cons ep_int (epa_cons ep_int epa_nil)) (by first | simp | decide)) (epa_cons ep_int epa_nil)) (by first | simp | decide)) (epa_cons (ep_tup (epa_cons (ep_tup (epa_cons ep_int (epa_cons ep_int epa_nil)) (by first | simp | decide)) (epa_cons (ep_tup (epa_cons ep_int (epa_cons ep_int epa_nil)) (by first | simp | decide)) epa_nil)) (by first | simp | decide)) (epa_cons (ep_tup (epa_cons ep_int (epa_cons ep_int epa_nil)) (by first | simp | decide)) epa_nil))))))) (by first | simp | decide)) Tb (fun D' i d v H1 hd x1 T1 k1 qn => ?_) fun x H1 x1 T1 => q x H1 x1 T1
  have hs := seven_ok (List.mem_of_getElem? hd)
  refine rd_ent (D := d) T1 (fun H2 e2 HZ eZ E Q' hl hq => ⟨_, rfl, v, d, rfl, k1.extN (e2.trans (ExtN.of eZ)), ⟨hl, fun hn => (by rw [hs] at hn; cases hn)⟩⟩) fun rt H2 x2 T2 k2 => ?_
  rw [hs] at k2
  refine ⟨(by show (2:Nat) ≤ sizeLine; rw [sizeLine_eq]; omega), fun t3 nt3 => ?_⟩
  have f4 := Ex.new (o := .tup [.str "entry", .int 1]) nt3
  refine ⟨.tuple [.str "entry", .int 1], .tuple [.str "entry", .int 1], (k2.ex f4).dp rfl, (Pt.tup upd_same (.cons (.str _ (by decide)) (.cons (.int 1) .nil))).dp rfl, (by decide +kernel), (by decide +kernel), _, rfl, ?_⟩
  have eb : (!PyData.eqv (.tuple [.str "entry", .int 1]) (.tuple [.str "entry", .int 1])) = false := by decide +kernel
  rw [eb]
  exact qn _ (x2.trans (ExtN.of f4)) (T2.ext f4)
end
end KH23

/-! k23: the addresses of the written part, and what the runs are asked. -/
namespace HR23
open PySem PySem.W PyProof.Rows HandSHeadRun
abbrev R : OpenRow := OpenLaw.row PySem.Challenge.rw_shortspans_k23_entries_checked
noncomputable abbrev K : Params → Frag := HeadL.withTabs [915] hd23.heap_39
abbrev M : Nat := 20100
def as0 : List Addr := [915, 2, 3, 15, 17, 18, 20, 21, 22, 29, 30, 31, 32, 35, 38, 43, 44, 46, 47, 49, 50, 51, 52, 53, 56, 59, 64, 65, 67, 68, 70, 71, 72, 73, 74, 77, 80, 85, 86, 88, 89, 91, 92, 93, 94, 95, 98, 101, 106, 107, 109, 110, 112, 113, 114, 115, 116, 119, 122, 127, 128, 130, 131, 133, 134, 135, 136, 137, 140, 143, 148, 149, 151, 152, 154, 155, 156, 157, 158, 161, 164, 169, 170, 172, 173, 175, 176, 177, 178, 179, 182, 185, 190, 191, 193, 194, 196, 197, 198, 199, 200, 203, 206, 211, 212, 214, 215, 217, 218, 219, 220, 221, 224, 227, 232, 233, 235, 236, 238, 239, 240, 241, 242, 245, 248, 253, 254, 256, 257, 259, 260, 261, 262, 263, 266, 269, 274, 275, 277, 278, 280, 281, 282, 283, 284, 285, 288, 291, 296, 297, 299, 300, 302, 303, 304, 305, 306, 307, 310, 313, 318, 319, 321, 322, 324, 325, 326, 327, 328, 329, 332, 334, 335, 337, 338, 339, 341, 342, 344, 345, 346, 349, 350, 351, 353, 354, 356, 357, 358, 360, 361, 363, 364, 365, 367, 368, 370, 371, 372, 374, 375, 377, 378, 379, 381, 382, 384, 385, 386, 388, 389, 391, 392, 393, 395, 396, 398, 399, 400, 402, 403, 405, 406, 407, 409, 410, 412, 413, 414, 416, 417, 419, 420, 421, 423, 424, 426, 427, 428, 430, 431, 433, 434, 435, 438, 439, 440, 442, 443, 445, 446, 447, 449, 450, 452, 453, 454, 457, 458, 459, 461, 462, 464, 465, 466, 468, 469, 471, 472, 473, 476, 477, 478, 480, 481, 483, 484, 485, 487, 488, 490, 491, 499, 502, 503, 504, 506, 507, 509, 510, 511, 512, 513, 514, 516, 517, 519, 520, 521, 522, 524, 525, 527, 528, 529, 530, 532, 533, 535, 536, 537, 539, 540, 542, 543, 544, 546, 547, 549, 550, 551, 553, 554, 556, 557, 558, 560, 561, 563, 564, 565, 567, 568, 570, 571, 572, 574, 575, 577, 578, 579, 581, 582, 584, 585, 586, 588, 589, 591, 592, 593, 595, 596, 598, 599, 600, 602, 603, 605, 606, 607, 609, 610, 612, 613, 614, 615, 616, 617, 618, 621, 622, 624, 625, 627, 628, 629, 631, 632, 634, 635, 636, 638, 639, 641, 642, 643, 645, 646, 648, 649, 650, 652, 653, 655, 656, 657, 660, 661, 662, 664, 665, 667, 668, 669, 672, 673, 674, 677, 678, 679, 682, 683, 691, 692, 694, 695, 697, 698, 699, 701, 702, 704, 705, 708, 710, 711, 713, 714, 715, 716, 718, 719, 721, 722, 723, 724, 726, 727, 729, 730, 731, 734, 735, 736, 738, 739, 741, 742, 743, 745, 746, 748, 749, 750, 752, 753, 755, 756, 757, 759, 760, 762, 763, 764, 766, 767, 769, 770, 771, 773, 774, 776, 777, 778, 780, 781, 783, 784, 785, 787, 788, 790, 791, 792, 793, 795, 796, 798, 799, 800, 801, 803, 804, 806, 807, 808, 811, 812, 813, 816, 817, 818, 820, 821, 823, 824, 825, 827, 828, 830, 831, 832, 834, 835, 837, 838, 839, 840, 841, 842, 843, 846, 848, 849, 851, 852, 853, 856, 857, 858, 860, 861, 863, 864, 865, 867, 868, 870, 871, 872, 874, 875, 877, 878, 879, 881, 882, 884, 885, 886, 888, 889, 891, 892, 893, 895, 896, 898, 899, 900, 902, 903, 905, 906, 907, 909, 910, 912, 913, 914, 916, 917, 919, 920]
def as : List Addr := as0
theorem ek (P : Params) : as = (K P).map (·.1) := by kernel_rfl
noncomputable abbrev runs (w : World) (os : OsState) : Option SharedT := endF (stepQ (denQ tabQ) R.prog w) M R.prog w os
def names : List PySem.Str := (["_wall", "SpanError", "BadBase", "BadNumber", "BadDigits", "BadRange", "BadRule", "BadReader", "BadManner", "BadEntry", "BadName", "BadText", "OtherBase", "TooMany", "Missing", "NothingLeft", "FIGURES", "LEAST_BASE", "MOST_BASE", "is_integer", "is_number", "is_figures", "need_base", "need_number", "need_range", "digits", "length", "changed", "near", "MOST_RULES"] : List PySem.Str) ++ (["MOST_CONDITIONS", "MOST_SIZE", "MOST_ENDING", "is_size", "are_bounds", "begins", "is_condition", "is_keep", "is_rule", "need_rules", "need_place", "plain_rule", "facts_of", "holds", "first_applying", "many_kept", "written", "Style", "MANNERS", "MOST_ITEMS", "need_manner", "is_item", "span_of", "need_entry", "entry_text", "plain_entry", "joined", "entry_of", "noted", "LETTERS"] : List PySem.Str) ++ (["MOST_LETTERS", "need_name", "Index", "_law_mixed", "_law_begin", "_law_draw", "_law_of", "_law_raised", "_law_entry", "_law_is_number", "_law_due", "_law_bent", "_law_put"] : List PySem.Str)
end HR23

namespace HR23
open PySem PySem.W PyProof.Rows HandSHeadRun
theorem run (w : World) (os : OsState) : (runs w os).map (fun s => (looksF R.prog (boot_heap w.params) s.abs, seenQ (view R.prog [80]) names (importedModules R.prog.main.body) (fun s => xlAt (view R.prog [80]) [] s && recOk R.toRowW.records s) s.abs, as.map (getT s))) = some (true, openGood (view R.prog [80]) names, (K w.params).map fun p => some p.2) := by kernel_rfl
theorem head (call : WalkO (view R.prog [80]) names (XL (view R.prog [80]) []) (InK K) R.toRowW (topDef R.prog 80) [] fun f vs => PySem.call f vs) : PySem.Challenge.rw_shortspans_k23_entries_checked.Holds := by
  w_on; o_law
  refine head_any (r := R) (q := view R.prog [80]) (H := kHook K as ek) (ob := fun s => as.map (getT s)) (M := M) (loose := names) (d := topDef R.prog 80) (kwd := []) (fun s => List.map_congr_left fun a _ => getT_eq s a)
    (by kernel_rfl) (fun s => by kernel_rfl) run (by kernel_rfl) (by kernel_rfl) (by kernel_rfl) (by rfl) (by first | assumption | decide +kernel) (by decide +kernel) ⟨rfl, rfl, rfl, rfl, rfl, by decide +kernel⟩ ?hw call
  case hw => w_witness2
end HR23

namespace KH23
open PySem L2 Evl Dg Dt LamR LamX TL StX ClX ExM Told Lm Ix Kx
open Dr (StAt SameB)
abbrev T23 : List (Addr × Str) := [(915, "law.<locals>.<lambda>")]
section
variable {w : World} {mg : Str → Option Value} {h base : Heap} (X : (K23 w.params).In h) (G : h.Ns mainGlobals mg) {A : Around} {outer : List Env} {s : Shared} {H0 : Hp} {E0 : XK} {T : List (Addr × Str)} (R : Rm w mg base A outer s H0 E0 T) (L : TxL mg)
variable (hMan : mg "MANNERS" = some (.ref 621))
include X G R L hMan
theorem law5 : ∃ t, PS (XL w mg base A outer s H0 E0) (inLaw 5) t ∧ ∀ (D : Ends) (H : Hp) (sc p cc l : Addr) (n : Nat) (a : Int) (x2 x3 x4 x5 x6 x7 x8 x9 x10 x11 : Option V) , 
    (∀ (H' : Hp), D.rt (.bl true) H') → t D [some (.ref sc), some (.ref p), x2, x3, x4, x5, x6, x7, x8, x9, x10, x11] H := by
  obtain ⟨hr, hu64, TB, hT, hu⟩ := R
  refine ⟨_, (ps_ret (pe_and (pe_cmpR (op_eqD (show _ + 64 < cLine from hu64)) (pe_glob (by rfl) hMan (v := .ref 621) rfl) (pe_tup (pa_cons pe_str (pa_cons pe_str pa_nil))) (nomark _)) (pe_one (pe_cmpR (op_eqD (show _ + 64 < cLine from hu64)) (pe_call (f_need_entry X G) (hr.r.mono (by decide)) (by rfl) L.need_entry (kp_need_entry _) (bd_need_entry _) .nil (fun pins σ H s e s' I c => passAt L2.takes0 σ pins H s e s' I c) (pa_cons (pe_tup (pa_cons (pe_tup (pa_cons pe_int (pa_cons pe_int pa_nil))) (pa_cons pe_int pa_nil))) pa_nil)) (pe_tup (pa_cons (pe_tup (pa_cons pe_int (pa_cons pe_int pa_nil))) (pa_cons pe_int pa_nil))) (nomark _))))), fun D H sc p cc l n a x2 x3 x4 x5 x6 x7 x8 x9 x10 x11 q => ?_⟩
  refine s_ret (v := .bl true) (ev_is (ev_andV (a := true) (b := true) (fun H1 e1 Q1 q1 => ⟨(by show (2:Nat) ≤ sizeLine; rw [sizeLine_eq]; omega), fun t1 n1 => ⟨.tuple [.str "full", .str "running"], .tuple [.str "full", .str "running"], .tup (tup_MANNERS w.params _) (.cons (.str _) (.cons (.str _) .nil)), (Pt.tup upd_same (.cons (.str _ (by decide)) (.cons (.str _ (by decide)) .nil))).dp rfl, (by decide +kernel), (by decide +kernel), ?_⟩⟩) fun _ => ?_) rfl) fun H1 e1 => q H1
  · have eb : PyData.eqv (.tuple [.str "full", .str "running"]) (.tuple [.str "full", .str "running"]) = true := by decide +kernel
    rw [eb]
    exact q1 _ (Ex.new n1)
  · refine ev_is (ev_eqDP (d := .tuple [.tuple [.int 1, .int 5], .int 6]) (e := .tuple [.tuple [.int 1, .int 5], .int 6]) (fun H1 e1 Q1 q1 => ?_) (ep_tup (epa_cons (ep_tup (epa_cons ep_int (epa_cons ep_int epa_nil)) (by first | simp | decide)) (epa_cons ep_int epa_nil)) (by first | simp | decide)) rfl rfl (by decide +kernel) (by decide +kernel)) (by decide +kernel)
    have hn : dueE (.tuple [.tuple [.int 1, .int 5], .int 6]) = none := by decide +kernel
    unfold tCall
    refine (show EvPA _ _ _ [.tuple [.tuple [.int 1, .int 5], .int 6]] from (epa_cons (ep_tup (epa_cons (ep_tup (epa_cons ep_int (epa_cons ep_int epa_nil)) (by first | simp | decide)) (epa_cons ep_int epa_nil)) (by first | simp | decide)) epa_nil)) H1 (Ex.refl _) _ fun vs H2 e2 ks => ?_
    cases ks with
    | @cons v _ us _ k0 k1 =>
      cases k1
      exact ⟨v, _, rfl, k0, ⟨fun pl hp => (by rw [hn] at hp; cases hp), fun _ H3 e3 => q1 v H3 (e2.trans e3) (k0.ex e3)⟩⟩
theorem lawR : ∃ t, PSs (XL w mg base A outer s H0 E0) [inLaw 0, inLaw 1, inLaw 2, inLaw 3, inLaw 4, inLaw 5] t ∧ ∀ (D : Ends) (H : Hp) (sc : Addr) (ns : List Int), SqL (K23 w.params) H sc (ns.map V.int) → ns.length ≤ 63 → Tabs T H →
    (∀ (H' : Hp), D.rt (.bl true) H') → t D (L2.start nLaw [V.ref sc]) H := by
  obtain ⟨t0, t1, t2, p0, p1, p2, q0⟩ := setup X G R L
  obtain ⟨tT, pT, qT⟩ := turnR X G R L
  obtain ⟨t4, p4, q4⟩ := law4 X G R L
  obtain ⟨t5, p5, q5⟩ := law5 X G R L hMan
  obtain ⟨hr, hu64, TB, hT, hu⟩ := R
  refine ⟨_, pss_cons p0 (pss_cons p1 (pss_cons p2 (pss_cons (ps_for PassesOwn.never rfl (pi_range1 (by rfl) L.range (pa_cons (pe_op op_add pe_int (pe_callB (call_min2 (by rfl)) (by rfl) L.min (by decide +kernel) (pa_cons pe_int (pa_cons (pe_callB call_len_seq (by rfl) (txT X G).len (by decide +kernel) (pa_cons (pv 0) pa_nil)) pa_nil)))) pa_nil)) (pg_name (i := 4) scLaw.nd rfl (.inl rfl)) pT) (pss_cons p4 (pss_one p5))))), fun D H sc ns hS hlen hTb q => ?_⟩
  refine q0 { D with nx := tSeq _ (tSeq t4 t5) D } H sc ns hS hlen hTb fun p cc l n ix ea pa st H1 L1 hS1 => ?_
  dsimp only
  have eL : Ev (tCB (rLenS (K23 w.params)) (tCons (tVar 0) tNil)) [some (.ref sc), some (.ref p), some (.ref st), some (.ref ix), none, none, none, none, none, none, none, none] H1 (.int ((ns.map V.int).length : Int)) := ev_len (ev_var rfl) hS1
  obtain ⟨N, hN, hN8⟩ : ∃ N : Nat, 3 + (if ((ns.map V.int).length : Int) < 6 then ((ns.map V.int).length : Int) else 6) = (N : Int) ∧ N ≤ 9 := by
    by_cases h : ((ns.map V.int).length : Int) < 6
    · rw [if_pos h]; exact ⟨3 + (ns.map V.int).length, by omega, by omega⟩
    · rw [if_neg h]; exact ⟨9, by omega, by omega⟩
  have eA : EvA (tCons (tOp (rI0 fun i j => V.int (i + j)) (tC (V.int 3)) (tCB (fun xs H Q => ∃ i j : Int, xs = [V.int i, V.int j] ∧ Q (V.int (if j < i then j else i)) H) (tCons (tC (V.int 6)) (tCons (tCB (rLenS (K23 w.params)) (tCons (tVar 0) tNil)) tNil)))) tNil)
      [some (.ref sc), some (.ref p), some (.ref st), some (.ref ix), none, none, none, none, none, none, none, none] H1 [V.int (N : Int)] := by
    rw [← hN]
    exact ea_cons (ev_op ev_c (ev_cb (ea_cons ev_c (ea_cons eL ea_nil)) fun H1 _ Q k => ⟨_, _, rfl, k _ (Ex.refl _)⟩) rv_I0) ea_nil
  refine q_forR1 (D := D) (n := (N : Int)) eA (by omega)
    (fun t σ H' => (∃ y4 y5 y6 y7 y8 y9 y10 y11, σ = [some (.ref sc), some (.ref p), some (.ref st), some (.ref ix), y4, y5, y6, y7, y8, y9, y10, y11]) ∧ ∃ (a : Int) (m : Nat), a ≤ 1200 * (t : Int) ∧ m ≤ 6 * t ∧ Lx T 841 616 10 dsL p cc l n a ix ea pa st m H')
    (fun H3 e => ⟨⟨_, _, _, _, _, _, _, _, rfl⟩, 0, 0, by omega, by omega, L1.ex e⟩) (fun t σ H3 ht ⟨⟨y4, y5, y6, y7, y8, y9, y10, y11, hσ⟩, a, m, ha, hm, W⟩ => ?_) (fun σ H3 ⟨⟨y4, y5, y6, y7, y8, y9, y10, y11, hσ⟩, a, m, ha, hm, W⟩ => ?_)
  · subst hσ
    refine qT _ _ sc p cc l n a _ _ _ _ _ _ _ _ ix ea pa st m (by omega) (by omega) W fun z5 z6 z7 z8 z9 z10 z11 b H4 ab ba L4 => ?_
    exact ⟨⟨_, _, _, _, _, _, _, _, rfl⟩, b, m + 6, by omega, by omega, L4⟩
  · subst hσ
    refine q4 _ _ sc p cc l n a _ _ _ _ _ _ _ _ _ _ W.w.t fun y6 H4 x4 T4 => ?_
    exact q5 _ _ sc p cc l n a _ _ _ _ _ _ _ _ _ _ fun H5 => q H5
end
def spLaw23 (K : PySem.W.Frag) : Sp := fun vs H Q _ => ∃ (a : Addr) (ns : List Int), vs = [.ref a] ∧ SqL K H a (ns.map V.int) ∧ ns.length ≤ 63 ∧ Tabs T23 H ∧ ∀ H', Q (.bl true) H'
section
variable {w : World} {mg : Str → Option Value} {h base : Heap} (X : (K23 w.params).In h) (G : h.Ns mainGlobals mg)
include X G
theorem txL : TxL mg where
  l_begin := PySem.W.mg_of X G (show PySem.W.nsIn (K23 w.params) mainGlobals "_law_begin" = some (some (.ref 857)) by kernel_rfl)
  l_bent := PySem.W.mg_of X G (show PySem.W.nsIn (K23 w.params) mainGlobals "_law_bent" = some (some (.ref 906)) by kernel_rfl)
  l_draw := PySem.W.mg_of X G (show PySem.W.nsIn (K23 w.params) mainGlobals "_law_draw" = some (some (.ref 864)) by kernel_rfl)
  l_due := PySem.W.mg_of X G (show PySem.W.nsIn (K23 w.params) mainGlobals "_law_due" = some (some (.ref 899)) by kernel_rfl)
  l_entry := PySem.W.mg_of X G (show PySem.W.nsIn (K23 w.params) mainGlobals "_law_entry" = some (some (.ref 885)) by kernel_rfl)
  l_of := PySem.W.mg_of X G (show PySem.W.nsIn (K23 w.params) mainGlobals "_law_of" = some (some (.ref 871)) by kernel_rfl)
  l_put := PySem.W.mg_of X G (show PySem.W.nsIn (K23 w.params) mainGlobals "_law_put" = some (some (.ref 913)) by kernel_rfl)
  l_raised := PySem.W.mg_of X G (show PySem.W.nsIn (K23 w.params) mainGlobals "_law_raised" = some (some (.ref 878)) by kernel_rfl)
  entry_text := PySem.W.mg_of X G (show PySem.W.nsIn (K23 w.params) mainGlobals "entry_text" = some (some (.ref 656)) by kernel_rfl)
  need_entry := PySem.W.mg_of X G (show PySem.W.nsIn (K23 w.params) mainGlobals "need_entry" = some (some (.ref 649)) by kernel_rfl)
  len := PySem.W.mg_none_of X G (show PySem.W.nsIn (K23 w.params) mainGlobals "len" = some none by kernel_rfl)
  min := PySem.W.mg_none_of X G (show PySem.W.nsIn (K23 w.params) mainGlobals "min" = some none by kernel_rfl)
  range := PySem.W.mg_none_of X G (show PySem.W.nsIn (K23 w.params) mainGlobals "range" = some none by kernel_rfl)
  repr := PySem.W.mg_none_of X G (show PySem.W.nsIn (K23 w.params) mainGlobals "repr" = some none by kernel_rfl)
theorem mgMan : mg "MANNERS" = some (.ref 621) := PySem.W.mg_of X G (show PySem.W.nsIn (K23 w.params) mainGlobals "MANNERS" = some (some (.ref 621)) by kernel_rfl)
theorem ok_law23 (TB : TabB base mg 919 915) : FnG P23 w (K23 w.params) mg base CX0 15 920 (PySem.W.fnOf "law" "law" (defArgs sLaw) (defBody sLaw) (defScope sLaw) .none (fO (K23 w.params) 920).kwdefaults (fO (K23 w.params) 920).doc (fO (K23 w.params) 920).pyModule (fO (K23 w.params) 920).annotations (.ref 919) (fO (K23 w.params) 920).closureTuple) ["script"] (spLaw23 (K23 w.params)) := by
  have lk : (K23 w.params).lookup 920 = some ⟨(oO (K23 w.params) 920).cls, (oO (K23 w.params) 920).dict, .func (PySem.W.fnOf "law" "law" (defArgs sLaw) (defBody sLaw) (defScope sLaw) .none (fO (K23 w.params) 920).kwdefaults (fO (K23 w.params) 920).doc (fO (K23 w.params) 920).pyModule (fO (K23 w.params) 920).annotations (.ref 919) (fO (K23 w.params) 920).closureTuple), (oO (K23 w.params) 920).slots⟩ := by kernel_rfl
  have hcd : PySem.W.codeIn (K23 w.params) (.ref 919) "law" = true := by kernel_rfl
  refine fn_ofG lk hcd scLaw (fun vs H Q E h => ?_) (fun A outer s H vs Q E hr h => ?_)
  · obtain ⟨a, ns, rfl, _⟩ := h
    rfl
  · obtain ⟨sc, ns, rfl, hS, hlen, hTb, q⟩ := h
    have hu64 : (A.deeper (PyProof.Rows.envOfC "law" (defScope sLaw) s.heap.objs.size 920 (.ref 919))).units + 64 < cLine := by have := hr.r.units; omega
    obtain ⟨t, pt, qt⟩ := lawR (A := A) (outer := outer) (s := s) (H0 := H) (E0 := E) (T := T23) X G ⟨hr, hu64, TB, by simp, fun p hp hq => by
      have cc : p = (915, ("law.<locals>.<lambda>" : Str)) := by simpa using hp
      rcases cc with rfl
      rfl⟩ (txL X G) (mgMan X G)
    exact ⟨t, pt.nox, qt _ _ _ ns hS hlen hTb fun H' => q H'⟩
end
end KH23
open PySem PySem.W PyProof.Rows L2 LamR LamX Told
theorem KH23.walk23 {q : Program} {loose : List Str} {XP : (Str → Option Value) → Heap → Prop} {YP : World → Heap → Prop} {d : DefRec} (hdf : d.params.defaults = []) (hd : d.name = ("law" : Str)) (hY : ∀ (w : World) (h : Heap), YP w h → (KH23.K23 w.params).In h) (hT : ∀ (w : World) (h : Heap), YP w h → ∀ P ∈ ([915] : List Addr), h.get? P = some (PySem.W.tabObj #[])) :
    PySem.W.WalkO q loose XP YP PySem.Challenge.rw_shortspans_k23_entries_checked.row.toRowW d [] (fun f vs => PySem.call f vs) := by
  have one : ∀ p ∈ ([(919, 915)] : List (Addr × Addr)), p = (919, 915) := fun p hp => by simpa using hp
  refine walk_T (l := PySem.Challenge.rw_shortspans_k23_entries_checked) (n := 63) (k := 15) (K := KH23.K23) (CX := fun _ => CX0) (x := "script") (cs := [(919, 915)]) (sp := fun w => KH23.spLaw23 (KH23.K23 w.params)) rfl (by decide) hdf ⟨⟨rfl, by decide, by decide⟩, rfl⟩ hY
    (fun w h Y p hp => ?_) (fun w p hp => ?_) (fun w p hp => ?_) (fun w mg fa h X G hmg => ?_) (fun w H a ns hl hT hS => ?_) fun _ _ _ _ _ z => z
  · rcases one p hp with rfl
    exact hT w h Y 915 (by simp)
  · rcases one p hp with rfl
    exact (show (KH23.K23 w.params).lookup 915 = none by kernel_rfl)
  · rcases one p hp with rfl
    exact (show PySem.W.codeHdIn (KH23.K23 w.params) 919 915 = true by kernel_rfl)
  · rw [hd] at hmg
    have e := hmg.symm.trans (PySem.W.mg_of X G (show PySem.W.nsIn (KH23.K23 w.params) mainGlobals "law" = some (some (.ref 920)) by kernel_rfl))
    cases e
    exact ⟨_, fun s v => .of_eq rfl, fun base X' G' TB => KH23.ok_law23 X G (TB (919, 915) (by simp))⟩
  · refine ⟨a, ns, rfl, hS, hl, fun p hp => ?_, fun _ => rfl⟩
    have cc : p = (915, ("law.<locals>.<lambda>" : Str)) := by simpa using hp
    rcases cc with rfl
    exact .nil (hT (919, 915) (by simp))
set_option maxRecDepth 100000 in
set_option maxHeartbeats 0 in
theorem PySem.Challenge.cw_shortspans_k23_entries_checked_holds : PySem.Challenge.rw_shortspans_k23_entries_checked.Holds := by
  refine HR23.head ?_
  exact KH23.walk23 (by kernel_rfl) (by kernel_rfl) (fun w h Y => HeadL.in_of Y fun a ha => by
    obtain rfl : a = 915 := by simpa using ha
    kernel_rfl) (fun w h Y => HeadL.tabs_of Y)

