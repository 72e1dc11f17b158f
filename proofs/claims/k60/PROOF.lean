import PyProof.Rows.All
import Wide.All
import OpenK.AllK
import Wide.FinOn
import HandS.ForMost
import HandS.StrMore
import HandS.IsInst
import HandS.TupAny
import HandS.Codes
import PyProof.Rows.StrNews2
import PyProof.Rows.RegStrFacts
import PyProof.Rows.StrPadWhole
import PyProof.Rows.StrSplitAre
import HandS.Flow
import HandS.Replace
import HandS.Dict
import PyProof.ReprRoads
import HandS.Strs
import HandS.More
import HandS.Iter
import HandS.Deep
import HandS.DictComp
import HandS.Style
import PyProof.Rows.StrMul
import PyProof.Rows.StrCountLaw
import HandS.Finally
import HandS.FStr
import PyProof.Rows.StrIntSpec
import KE.KEqNest
import KE.KDictLaw
import KE.GoesEnum
import KE.KRevSl
import KE.DataCmp
import PyProof.NeKinds
import PySem.Challenge.RW_watchednodes_k60_rows_of_several
set_option Elab.async false
set_option linter.all false
set_option maxRecDepth 100000
set_option maxHeartbeats 4000000
set_option maxRecDepth 100000
set_option maxHeartbeats 2000000
/-! DL1: defs kept where no repr is under way (FnG), data (Rp), the state (R), readings over data (DE, DS). -/
namespace L2.DL
open PySem PySem.Spec PyProof.Rows

/-! ### defs, where no repr is under way -/
section
variable {P : Program} {w : World} {K : PySem.W.Frag} {mg : Str → Option Value} {base : Heap}
structure FnG (P : Program) (w : World) (K : PySem.W.Frag) (mg : Str → Option Value)
    (base : Heap) (CX : CXT) (k : Nat) (f : Addr) (fd : FuncData) (ps : List Str) (sp : Sp) : Prop where
  many : ∀ vs H Q E, sp vs H Q E → vs.length = ps.length
  does : ∀ (A : Around) (outer : List Env) (s : Shared) (H : Hp) (args : Args) (us : List Value) (vs : List V) (Q : VK) (E : XK),
    Room k A → A.guards = some [] →
    Env0 P w K mg base A outer s H →
    BindsTo s fd args (ps.zip us) → Vals vs us → sp vs H Q E →
    codeAny (model P w) A (.call (.ref f) args)
      (CR CX outer P w H s Q E) s
theorem FnG.up {CX : CXT} {j k : Nat} {f : Addr} {fd : FuncData} {ps : List Str} {sp : Sp}
    (F : FnG P w K mg base CX j f fd ps sp) (h : j ≤ k) : FnG P w K mg base CX k f fd ps sp :=
  ⟨F.many, fun A outer s H args us vs Q E hr hg => F.does A outer s H args us vs Q E (hr.mono h) hg⟩

theorem fnG_of {CX : CXT} {x qual : Str} {st : Stmt} {f : Addr} {fd : FuncData} {N ps : List Str} {k : Nat} {sp : Sp}
    (F : Fun K x qual st f fd) (S : FnScope N ps (defScope st))
    (len : ∀ vs H Q E, sp vs H Q E → vs.length = ps.length)
    (hbody : ∀ (cdv : Value) (A : Around) (outer : List Env) (s : Shared) (H : Hp) (vs : List V) (Q : VK) (E : XK),
      Room k (A.deeper (envOfC qual (defScope st) s.heap.objs.size f cdv)) → A.guards = some [] → sp vs H Q E →
      ∃ t, PSs (cxOf CX P w K mg base N qual (defScope st) f cdv A outer s H E) (defBody st) t ∧
        t { nx := fun _ H' => Q .non H', rt := Q } (start N vs) H) :
    FnG P w K mg base CX (k + 1) f fd ps sp := by
  obtain ⟨oc, od, kV, doc, pm, an, cdv, ct, osl, rfl, lk, hcd⟩ := F.ex
  constructor
  · exact len
  intro A outer s H args us vs Q E hr hg e0 hb r hsp
  have hl := len _ _ _ _ hsp
  have KX : K.In s.heap := e0.mod.kin.keeps fun b o e =>
    (e0.bs b o e).1
  have lim := e0.mod.nolimit.keeps (h' := s.heap) fun b o e =>
    (e0.bs b o e).1
  have hkind : ∀ y ∈ ps.zip us, (defScope st).names.lookup y.1 = some .local ∨
      ((defScope st).names.lookup y.1 = some .cell ∧
        ((cellsFrom (s.heap.objs.size + 1) (defScope st).names []).lookup y.1).isSome = true) := by
    intro y hy
    rcases S.par y.1 (List.of_mem_zip (a := y.1) (b := y.2) hy).1 with q | q
    · exact .inl q
    · exact .inr ⟨q, PySem.W.cellsFrom_some _ _ _ (.inl q)⟩
  refine codeAny_call_function hr.depth (KX _ _ lk) rfl S.co S.gen rfl
    (PySem.W.codeRec_of KX hcd) (hb _ _ _ _ ?_)
  refine wpAny_newFunctionEnv_cells S.kind hkind fun env he s1 x => ?_
  subst he
  refine ⟨lim.keeps x.toInCall.keep, codeAny_func ?_⟩
  obtain ⟨t, ht, hq⟩ := hbody cdv A outer s H vs Q E (hr.deeper _) hg hsp
  have I := inv_start (CX := CX) (f := f) (cd := cdv) (qual := qual) (E := E) S hr.hd e0 hl r x
  refine wpAny_mono (ht.run [] s1 (start N vs) H _ I hq) (fun fl s' hs => ?_) fun e s' hs => hs
  have fin : ∀ {σ' : St} {H' : Hp} {v : V} {u : Value},
      Inv (cxOf CX P w K mg base N qual (defScope st) f cdv A outer s H E) [] σ' H' s' →
      RelV v u → Q v H' → CE outer P w H s Q u s' := by
    intro σ' H' v u J rv q
    exact ⟨v, H', J.os, J.bare, J.base, J.hok, rv, q⟩
  cases fl with
  | ret u => obtain ⟨v, σ', H', J, rv, q⟩ := hs; exact fin J rv q
  | next => obtain ⟨σ', H', J, q⟩ := hs; exact fin (v := V.non) (u := Value.none) J rfl q
  | brk => obtain ⟨_, _, _, q⟩ := hs; exact q.elim
  | cont => obtain ⟨_, _, _, q⟩ := hs; exact q.elim
end

section
variable {X : Cx} {CX : CXT} {k : Nat} {f : Addr} {fd : FuncData} {ps ks : List Str} {sp : Sp} {dvs : List V} {ds : List Value} {E : XK}
  {x : Str} {p pos : Pos} {e : Expr} {es : List Expr} {kws : List Keyword} {t tk : TA}
  {g : List Value → List Value → List Value} {gV : List V → List V → List V}
theorem endG {pins : List (Addr × Obj)} {σ : St} {H : Hp} {s : Shared} {Q : VK} (hx : Passes CX X E) (I : Inv X pins σ H s)
    (r : Result) (s' : Shared) (hq : CR CX X.stack X.prog X.w H s Q E r s') :
    match r with
    | .ok (.ret u) => EP X pins σ Q u s'
    | .ok _ => False
    | .error e => X.xe e s' := by
  cases r with
  | error e => exact hx pins σ H s e s' I hq
  | ok fl =>
    cases fl with
    | ret u => exact I.after hq
    | next => exact hq.elim
    | brk => exact hq.elim
    | cont => exact hq.elim
theorem runG {pins : List (Addr × Obj)} {σ : St} {H : Hp} {s : Shared} {Q : VK} {us : List Value} {vs : List V}
    (F : FnG X.prog X.w X.K X.mg X.base CX k f fd ps sp) (hr : Room k X.A) (hgu : X.A.guards = some [])
    (hb : Binds X.K fd ps ds) (hd : Vals dvs ds) (hx : Passes CX X E)
    (I : Inv X pins σ H s) (r : Vals vs us) (h : sp (vs ++ dvs) H Q E) :
    wpAny (model X.prog X.w) X.A (call (.ref f) us) (EP X pins σ Q) X.xe s := by
  have r2 := Vals.append r hd
  have hl : (us ++ ds).length = ps.length := r2.length.symm.trans (F.many _ _ _ _ h)
  refine wpAny_call (codeAny_mono (F.does X.A X.stack s H ⟨us, []⟩ (us ++ ds) (vs ++ dvs) Q E hr hgu I.env0
    (hb s us I.kIn hl) r2 h) fun r s' hq => ?_)
  have q := endG hx I r s' hq
  cases r with
  | error e => exact q
  | ok fl => cases fl <;> first | exact q | exact q.elim
/-- f(e, ..) -/
theorem pe_callG (F : FnG X.prog X.w X.K X.mg X.base CX k f fd ps sp) (hr : Room k X.A) (hgu : X.A.guards = some [])
    (hg : Gl X x) (hm : X.mg x = some (.ref f)) (hk : PySem.W.keepIn X.K (.ref f) = true)
    (hb : Binds X.K fd ps ds) (hd : Vals dvs ds) (hx : Passes CX X E) (ha : PA X (e :: es) t)
    (hdb : (x == ("__debug__" : Str)) = false)
    (he : starEach (e :: es) X.env = (false, eval e X.env) :: starEach es X.env)
    (hpl : (backTo pos (starEach es X.env)).any (·.1) = false) :
    PE X (.Call (.Name x p) (e :: es) [] pos) (tCall sp dvs E t) := by
  constructor
  intro pins s σ H Q I h
  refine wpAny_Call_Name_kw (ld_glob I hg hm ?_ hdb)
  refine PySem.W.callWith_K (h₀ := X.base) I.ok.mod.kin hk
    (thn (ha.run pos pins s σ H _ I h) fun us s1 hh => ?_) he hpl
  obtain ⟨vs, H1, I1, r, q⟩ := hh
  exact ⟨I1.kIn, runG F hr hgu hb hd hx I1 r q⟩
/-- f() -/
theorem pe_callG0 (F : FnG X.prog X.w X.K X.mg X.base CX k f fd ps sp) (hr : Room k X.A) (hgu : X.A.guards = some [])
    (hg : Gl X x) (hm : X.mg x = some (.ref f)) (hk : PySem.W.keepIn X.K (.ref f) = true)
    (hb : Binds X.K fd ps ds) (hd : Vals dvs ds) (hx : Passes CX X E)
    (hdb : (x == ("__debug__" : Str)) = false) :
    PE X (.Call (.Name x p) [] [] pos) (tCall sp dvs E tNil) := by
  constructor
  intro pins s σ H Q I h
  refine wpAny_Call_Name_kw (ld_glob I hg hm ?_ hdb)
  exact PySem.W.callWith_K0 I.kIn hk (runG (us := []) F hr hgu hb hd hx I .nil h)
/-- f(e, .., k = v, ..) -/
theorem pe_callKG (F : FnG X.prog X.w X.K X.mg X.base CX k f fd ps sp) (hr : Room k X.A) (hgu : X.A.guards = some [])
    (hg : Gl X x) (hm : X.mg x = some (.ref f)) (hk : PySem.W.keepIn X.K (.ref f) = true)
    (hb : KBinds X.K fd ps ks g gV) (hx : Passes CX X E) (ha : PA X (e :: es) t) (hkw : PK X kws tk)
    (hall : (backToKw pos (keywordEach kws X.env)).all (·.1.isSome) = true)
    (hks : (backToKw pos (keywordEach kws X.env)).filterMap (·.1) = ks)
    (hdb : (x == ("__debug__" : Str)) = false)
    (he : starEach (e :: es) X.env = (false, eval e X.env) :: starEach es X.env)
    (hpl : ((backTo pos (starEach (e :: es) X.env)).any (·.1) ||
      (backToKw pos (keywordEach kws X.env)).any (·.1.isNone)) = false) :
    PE X (.Call (.Name x p) (e :: es) kws pos) (tCallK sp gV E t tk) := by
  constructor
  intro pins s σ H Q I h
  refine wpAny_Call_Name_kw (ld_glob I hg hm ?_ hdb)
  refine PySem.W.callWith_KW (h₀ := X.base) I.ok.mod.kin hk hall
    (thn (ha.run pos pins s σ H _ I h) fun us s1 hh => ?_) hpl he
  obtain ⟨vs, H1, I1, r, q⟩ := hh
  refine thn (hkw.run pos pins s1 σ H1 _ I1 q) fun ws s2 hh => ?_
  obtain ⟨zs, H2, I2, rz, q2⟩ := hh
  refine ⟨I2.kIn, ?_⟩
  rw [hks]
  have r2 := hb.rel r rz
  have hl : (g us ws).length = ps.length := r2.length.symm.trans (F.many _ _ _ _ q2)
  refine wpAny_call (codeAny_mono (F.does X.A X.stack s2 H2 ⟨us, ks.zip ws⟩ (g us ws) (gV vs zs) Q E hr hgu I2.env0
    (hb.to s2 us ws I2.kIn hl) r2 q2) fun r s' hq => ?_)
  have q := endG hx I2 r s' hq
  cases r with
  | error e => exact q
  | ok fl => cases fl <;> first | exact q | exact q.elim
end

/-! ### the law's row -/
theorem walkG {l : PySem.W.OpenLaw} {n k : Nat} {q : Program} {loose : List Str} {XP : (Str → Option Value) → Heap → Prop}
    {YP : World → Heap → Prop} {d : DefRec} {K : Params → PySem.W.Frag} {sp : PySem.W.Frag → Sp} {x : Str}
    (hn : l.most = some n) (hn2 : n ≤ sizeLine) (hdf : d.params.defaults = []) (hr : Room k callerA)
    (hY : ∀ (w : World) (h : Heap), YP w h → (K w.params).In h)
    (F : ∀ (w : World) (mg : Str → Option Value) (fa : Addr) (h : Heap), (K w.params).In h → h.Ns mainGlobals mg →
      mg d.name = some (.ref fa) →
      ∃ fd : FuncData, (∀ (s : Shared) (u : Value), BindsTo s fd ⟨[u], []⟩ [(x, u)]) ∧
        ∀ base : Heap, (K w.params).In base → base.Ns mainGlobals mg →
          FnG l.prog w (K w.params) mg base CX0 k fa fd [x] (sp (K w.params)))
    (hsp : ∀ (K : PySem.W.Frag) (H : Hp) (a : Addr) (ns : List Int), ns.length ≤ n → Only H → SqL K H a (ns.map V.int) →
      sp K [.ref a] H (fun v _ => v = .bl true) fun _ _ _ => False) :
    PySem.W.WalkO q loose XP YP l.row.toRowW d [] (fun f vs => PySem.call f vs) := by
  refine Att.attach_call hn hdf fun w s₀ s₁ mg mb fa o pm cd doc a vs ns G Y ho hd hcd hmg hobj hints hlen hg => ?_
  have KX := hY w _ Y
  obtain ⟨fd, hb, hF⟩ := F w mg fa _ KX G.T.g hmg
  have rv := vals_ints hints
  have lenV := hints.length
  have hl := Nat.le_trans hlen hn2
  -- from an abstract heap in which at most the script is tracked
  have core : ∀ H : Hp, Only H → SqL (K w.params) H a (ns.map V.int) → HOk l.prog w H s₁.heap → (∀ b, H b ≠ none → b = a) →
      (H a ≠ none → (K w.params).lookup a = none) →
      codeAny (model l.prog w) callerA (.call (.ref fa) ⟨[.ref a], []⟩)
        (fun r s' => r = .ok (.ret (.bool true)) ∧ OldK s₁.heap s'.heap ∧ s'.os = s₁.os ∧ AllBare s'.gens) s₁ := by
    intro H hO hS hok hA hK
    have noA : ∀ {b : Addr} {o : Obj} {es : Array DictEntry} {ep : Nat}, s₁.heap.get? b = some o → o.data = .dict es ep → H b = none := by
      intro b o es ep e dd
      cases q : H b with
      | none => rfl
      | some u =>
        have e' := hA b (by rw [q]; simp)
        subst e'
        rw [hobj] at e
        cases e
        cases (show Data.seq vs.toArray _ = Data.dict es ep from dd)
    have nsK : ∀ {b : Addr} {m : Str → Option Value}, s₁.heap.Ns b m → (hidT s₁.heap H).Ns b m := by
      rintro b m ⟨o, es, ep, e, dd, r⟩
      exact ⟨o, es, ep, hidT_get e (noA e dd), dd, r⟩
    have hKb : (K w.params).In (hidT s₁.heap H) := by
      intro b o e
      refine hidT_get (KX b o e) ?_
      cases q : H b with
      | none => rfl
      | some u =>
        have e' := hA b (by rw [q]; simp)
        subst e'
        rw [hK (by rw [q]; simp)] at e
        cases e
    have hlim : (hidT s₁.heap H).NoLimit := by
      obtain ⟨mc, h1, h2⟩ := G.T.nolimit
      exact ⟨mc, nsK h1, h2⟩
    have e0 : Env0 l.prog w (K w.params) mg (hidT s₁.heap H) callerA [] s₁ H := by
      refine ⟨rfl, ⟨hKb, nsK G.T.g, ⟨mb, nsK G.T.b, G.T.builtins⟩, hlim⟩, fun b o e => of_hidT e, Nat.le_of_eq (hidT_size _ _), trivial, ?_, hok, .of_eq hg⟩
      intro b z
      exact absurd (show b ∈ ([] : List Addr) from z) (by simp)
    refine codeAny_mono ((hF _ hKb (nsK G.T.g)).does callerA [] s₁ H ⟨[.ref a], []⟩ [.ref a] [.ref a] _ _ hr rfl e0
      (hb s₁ (.ref a)) (.cons rfl .nil) (hsp (K w.params) H a ns hlen hO hS)) fun r s' h => ?_
    cases r with
    | error e => exact h.elim
    | ok fl =>
      cases fl with
      | next => exact h.elim
      | brk => exact h.elim
      | cont => exact h.elim
      | ret u =>
        obtain ⟨v, H', os, bare, un, hok', r', q⟩ := h
        cases (show v = V.bl true from q)
        cases (show u = Value.bool true from r')
        refine ⟨rfl, OldK.of_keep fun b o e => ?_, os, bare⟩
        cases q : H b with
        | none =>
          exact un.keep b o e q (fun z => absurd (show b ∈ ([] : List Addr) from z) (by simp)) (by simp)
        | some u =>
          rcases hO b with z | ⟨ob, xs, z⟩
          · rw [q] at z
            cases z
          · obtain ⟨e1, _⟩ := hok b _ z
            obtain ⟨e2, _⟩ := hok' b _ (un.frzs b ob _ z)
            rw [e] at e1
            cases e1
            exact e2
  cases hk : (K w.params).lookup a with
  | some o =>
    have e := KX a o hk
    rw [hobj] at e
    cases e
    refine core (fun _ => none) (fun _ => .inl rfl) (.inr ⟨_, vs.toArray, _, hk, rfl, rfl, rfl, ?_, by simpa using rv⟩) ?_ (fun b z => absurd rfl z) fun z => absurd rfl z
    · rw [List.size_toArray, lenV]
      exact hl
    · intro b u z
      cases (show (none : Option HO) = some u from z)
  | none =>
    let H1 : Hp := fun b => if b = a then some (.frz { cls := .type "list", data := .seq vs.toArray } (.lst (ns.map V.int))) else none
    have at1 : H1 a = some (.frz { cls := .type "list", data := .seq vs.toArray } (.lst (ns.map V.int))) := if_pos rfl
    refine core H1 (fun b => ?_) (.inl (.inr ⟨_, at1⟩)) (fun b u z => ?_) (fun b z => ?_) fun _ => hk
    · by_cases hb : b = a
      · exact .inr ⟨_, _, if_pos hb⟩
      · exact .inl (if_neg hb)
    · by_cases hb : b = a
      · subst hb
        rw [at1] at z
        cases z
        exact ⟨hobj, by rw [List.length_map]; exact hl, vs, _, rv, hobj⟩
      · cases (show none = some u from (if_neg hb).symm.trans z)
    · by_cases hb : b = a
      · exact hb
      · exact absurd (if_neg hb) z
end L2.DL

set_option maxRecDepth 100000
set_option maxHeartbeats 2000000
namespace L2.DL
open PySem PySem.Spec

/-! ### data in a heap that stands still -/
def kD : Key → PyData
  | .inl i => .int i
  | .inr x => .str x
def keyOkV : Key → Bool
  | .inl _ => true
  | .inr x => PyData.strOk x
mutual
inductive Rp (K : PySem.W.Frag) (Z : Hp) : V → PyData → Prop
  | non : Rp K Z .non .none
  | bl (b : Bool) : Rp K Z (.bl b) (.bool b)
  | int (i : Int) : Rp K Z (.int i) (.int i)
  | str (x : Str) : PyData.strOk x = true → Rp K Z (.str x) (.str x)
  | lst {a : Addr} {xs : List V} {ds : List PyData} : SqL K Z a xs → RpA K Z xs ds → Rp K Z (.ref a) (.list ds)
  | tup {a : Addr} {xs : List V} {ds : List PyData} : SqT K Z a xs → RpA K Z xs ds → Rp K Z (.ref a) (.tuple ds)
  | dct {a : Addr} {ks : List (Key × V)} {es : List (PyData × PyData)} : Rd Z a (.dK ks) → RpK K Z ks es → Rp K Z (.ref a) (.dict es)
inductive RpA (K : PySem.W.Frag) (Z : Hp) : List V → List PyData → Prop
  | nil : RpA K Z [] []
  | cons {v : V} {d : PyData} {vs : List V} {ds : List PyData} : Rp K Z v d → RpA K Z vs ds → RpA K Z (v :: vs) (d :: ds)
inductive RpK (K : PySem.W.Frag) (Z : Hp) : List (Key × V) → List (PyData × PyData) → Prop
  | nil : RpK K Z [] []
  | cons {k : Key} {v : V} {d : PyData} {ks : List (Key × V)} {es : List (PyData × PyData)} : keyOkV k = true → Rp K Z v d → RpK K Z ks es →
      RpK K Z ((k, v) :: ks) ((kD k, d) :: es)
end
/-- what may be read there may be read here too -/
def Le (Z Z' : Hp) : Prop := ∀ a u, Rd Z a u → Rd Z' a u
theorem Le.of {Z Z' : Hp} (h : Same Z Z') : Le Z Z' := by
  rintro a u (q | ⟨o, q⟩)
  · exact .inl (h _ _ q)
  · exact .inr ⟨o, h _ _ q⟩
section
variable {K : PySem.W.Frag} {Z Z' H H' : Hp}
theorem Le.sqL (h : Le Z Z') {a : Addr} {xs : List V} (q : SqL K Z a xs) : SqL K Z' a xs := q.imp (h _ _) id
theorem Le.sqT (h : Le Z Z') {a : Addr} {xs : List V} (q : SqT K Z a xs) : SqT K Z' a xs := q.imp (h _ _) id
mutual
theorem Rp.le (h : Le Z Z') : ∀ {v : V} {d : PyData}, Rp K Z v d → Rp K Z' v d
  | _, _, .non => .non
  | _, _, .bl b => .bl b
  | _, _, .int i => .int i
  | _, _, .str x h => .str x h
  | _, _, .lst q r => .lst (h.sqL q) (RpA.le h r)
  | _, _, .tup q r => .tup (h.sqT q) (RpA.le h r)
  | _, _, .dct q r => .dct (h _ _ q) (RpK.le h r)
theorem RpA.le (h : Le Z Z') : ∀ {vs : List V} {ds : List PyData}, RpA K Z vs ds → RpA K Z' vs ds
  | _, _, .nil => .nil
  | _, _, .cons a b => .cons (Rp.le h a) (RpA.le h b)
theorem RpK.le (h : Le Z Z') : ∀ {ks : List (Key × V)} {es : List (PyData × PyData)}, RpK K Z ks es → RpK K Z' ks es
  | _, _, .nil => .nil
  | _, _, .cons k a b => .cons k (Rp.le h a) (RpK.le h b)
end
theorem Rp.up (h : Same Z Z') {v : V} {d : PyData} (q : Rp K Z v d) : Rp K Z' v d := q.le (.of h)
theorem RpA.up (h : Same Z Z') {v : List V} {d : List PyData} (q : RpA K Z v d) : RpA K Z' v d := q.le (.of h)
theorem RpK.up (h : Same Z Z') {v : List (Key × V)} {d : List (PyData × PyData)} (q : RpK K Z v d) : RpK K Z' v d := q.le (.of h)
theorem RpA.length : ∀ {vs : List V} {ds : List PyData}, RpA K Z vs ds → vs.length = ds.length
  | _, _, .nil => rfl
  | _, _, .cons _ b => congrArg Nat.succ (RpA.length b)
theorem RpK.length : ∀ {ks : List (Key × V)} {es : List (PyData × PyData)}, RpK K Z ks es → ks.length = es.length
  | _, _, .nil => rfl
  | _, _, .cons _ _ b => congrArg Nat.succ (RpK.length b)
theorem RpA.get : ∀ {vs : List V} {ds : List PyData} {i : Nat} {d : PyData}, RpA K Z vs ds → ds[i]? = some d → ∃ v, vs[i]? = some v ∧ Rp K Z v d
  | _, _, _, _, .nil, e => by simp at e
  | _, _, 0, _, .cons a _, e => by simp at e; subst e; exact ⟨_, rfl, a⟩
  | _, _, i + 1, d, .cons _ b, e => by
    obtain ⟨v, h1, h2⟩ := RpA.get (i := i) (d := d) b (by simpa using e)
    exact ⟨v, by simpa using h1, h2⟩
theorem RpA.getV : ∀ {vs : List V} {ds : List PyData} {i : Nat} {v : V}, RpA K Z vs ds → vs[i]? = some v → ∃ d, ds[i]? = some d ∧ Rp K Z v d
  | _, _, _, _, .nil, e => by simp at e
  | _, _, 0, _, .cons a _, e => by simp at e; subst e; exact ⟨_, rfl, a⟩
  | _, _, i + 1, d, .cons _ b, e => by
    obtain ⟨v, h1, h2⟩ := RpA.getV (i := i) (v := d) b (by simpa using e)
    exact ⟨v, by simpa using h1, h2⟩
theorem RpA.append : ∀ {vs ws : List V} {ds es : List PyData}, RpA K Z vs ds → RpA K Z ws es → RpA K Z (vs ++ ws) (ds ++ es)
  | _, _, _, _, .nil, q => q
  | _, _, _, _, .cons a b, q => .cons a (RpA.append b q)
theorem RpA.take : ∀ {vs : List V} {ds : List PyData} (n : Nat), RpA K Z vs ds → RpA K Z (vs.take n) (ds.take n)
  | _, _, 0, _ => .nil
  | _, _, _ + 1, .nil => .nil
  | _, _, n + 1, .cons a b => .cons a (RpA.take n b)
theorem RpA.drop : ∀ {vs : List V} {ds : List PyData} (n : Nat), RpA K Z vs ds → RpA K Z (vs.drop n) (ds.drop n)
  | _, _, 0, q => q
  | _, _, _ + 1, .nil => .nil
  | _, _, n + 1, .cons _ b => RpA.drop n b
theorem RpA.set {v : V} {d : PyData} (r : Rp K Z v d) : ∀ {vs : List V} {ds : List PyData} (i : Nat), RpA K Z vs ds → RpA K Z (vs.set i v) (ds.set i d)
  | _, _, _, .nil => .nil
  | _, _, 0, .cons _ b => .cons r b
  | _, _, i + 1, .cons a b => .cons a (RpA.set r i b)
theorem RpA.ints : ∀ ns : List Int, RpA K Z (ns.map V.int) (ns.map PyData.int)
  | [] => .nil
  | n :: ns => .cons (.int n) (RpA.ints ns)
theorem RpA.strs : ∀ ns : List Str, (∀ x ∈ ns, PyData.strOk x = true) → RpA K Z (ns.map V.str) (ns.map PyData.str)
  | [], _ => .nil
  | n :: ns, h => .cons (.str n (h n (by simp))) (RpA.strs ns fun x hx => h x (by simp [hx]))
theorem RpA.strs_inv : ∀ {vs : List V} (ns : List Str), RpA K Z vs (ns.map PyData.str) → vs = ns.map V.str ∧ ∀ x ∈ ns, PyData.strOk x = true
  | _, [], h => by cases h; simp
  | _, n :: ns, .cons a b => by
    cases a with
    | str _ hk =>
      obtain ⟨h1, h2⟩ := RpA.strs_inv ns b
      subst h1
      exact ⟨rfl, fun x hx => by
        rcases List.mem_cons.mp hx with e | e
        · exact e ▸ hk
        · exact h2 x e⟩
theorem RpA.ints_inv : ∀ {vs : List V} (ns : List Int), RpA K Z vs (ns.map PyData.int) → vs = ns.map V.int
  | _, [], h => by cases h; rfl
  | _, n :: ns, .cons a b => by
    cases a
    rw [RpA.ints_inv ns b]
    rfl
mutual
theorem Rp.dp {H : Hp} (h : Same Z H) : ∀ {v : V} {d : PyData}, Rp K Z v d → d.hasDict = false → Dp K H v d ∧ d.canLay0 = true
  | _, _, .non, _ => ⟨.non, rfl⟩
  | _, _, .bl b, _ => ⟨.bl b, rfl⟩
  | _, _, .int i, _ => ⟨.int i, rfl⟩
  | _, _, .str x k, _ => ⟨.str x, by simpa only [PyData.canLay0] using k⟩
  | _, _, .lst q r, e => by
    obtain ⟨h1, h2⟩ := RpA.dp h r (by simpa only [PyData.hasDict] using e)
    exact ⟨.lst ((Le.of h).sqL q) h1, by simpa only [PyData.canLay0] using h2⟩
  | _, _, .tup q r, e => by
    obtain ⟨h1, h2⟩ := RpA.dp h r (by simpa only [PyData.hasDict] using e)
    exact ⟨.tup ((Le.of h).sqT q) h1, by simpa only [PyData.canLay0] using h2⟩
  | _, _, .dct q r, e => by simp [PyData.hasDict] at e
theorem RpA.dp {H : Hp} (h : Same Z H) : ∀ {vs : List V} {ds : List PyData}, RpA K Z vs ds → PyData.hasDictAll ds = false → DpAll K H vs ds ∧ PyData.canLayAll0 ds = true
  | _, _, .nil, _ => ⟨.nil, rfl⟩
  | _, _, .cons a b, e => by
    simp only [PyData.hasDictAll, Bool.or_eq_false_iff] at e
    obtain ⟨h1, h2⟩ := Rp.dp h a e.1
    obtain ⟨h3, h4⟩ := RpA.dp h b e.2
    exact ⟨.cons h1 h3, by simp [PyData.canLayAll0, h2, h4]⟩
end
end

/-! ### what is owned: containers that nothing else holds -/
inductive OV where
  | fz (d : PyData)
  | lst (ds : List PyData)
  | dct (es : List (PyData × PyData))
  | tup (os : List OV)
mutual
def OV.data : OV → PyData
  | .fz d => d
  | .lst ds => .list ds
  | .dct es => .dict es
  | .tup os => .tuple (OV.datas os)
def OV.datas : List OV → List PyData
  | [] => []
  | o :: os => OV.data o :: OV.datas os
end
/-- a def's frame: the heap at its entry, what stood still there, what others let it change, the pools among these -/
structure Fr0 where
  H0 : Hp
  Z0 : Hp
  pl : Addr → Prop
  pp : Addr → Prop
def Free (f : Fr0) (Z : Hp) (a : Addr) : Prop := Z a = none ∧ ¬ f.pp a ∧ (f.pl a ∨ f.H0 a = none)
mutual
inductive ORp (K : PySem.W.Frag) (f : Fr0) (Z H : Hp) : V → OV → List Addr → Prop
  | fz {v : V} {d : PyData} : Rp K Z v d → ORp K f Z H v (.fz d) []
  | lst {p : Addr} {xs : List V} {ds : List PyData} : Free f Z p → H p = some (.lst xs) → RpA K Z xs ds → ORp K f Z H (.ref p) (.lst ds) [p]
  | dct {p : Addr} {ks : List (Key × V)} {es : List (PyData × PyData)} : Free f Z p → H p = some (.dK ks) → RpK K Z ks es → ORp K f Z H (.ref p) (.dct es) [p]
  | tup {a : Addr} {vs : List V} {os : List OV} {A : List Addr} : Z a = some (.tup vs) → ORpA K f Z H vs os A → ORp K f Z H (.ref a) (.tup os) A
inductive ORpA (K : PySem.W.Frag) (f : Fr0) (Z H : Hp) : List V → List OV → List Addr → Prop
  | nil : ORpA K f Z H [] [] []
  | cons {v : V} {o : OV} {vs : List V} {os : List OV} {A B : List Addr} : ORp K f Z H v o A → ORpA K f Z H vs os B → ORpA K f Z H (v :: vs) (o :: os) (A ++ B)
end
section
variable {K : PySem.W.Frag} {f f' : Fr0} {Z Z' H H' : Hp}
mutual
theorem ORp.free : ∀ {v : V} {o : OV} {A : List Addr}, ORp K f Z H v o A → ∀ a ∈ A, Free f Z a ∧ ∃ u, H a = some u
  | _, _, _, .fz _, a, h => by cases h
  | _, _, _, .lst q e _, a, h => by cases List.mem_singleton.mp h; exact ⟨q, _, e⟩
  | _, _, _, .dct q e _, a, h => by cases List.mem_singleton.mp h; exact ⟨q, _, e⟩
  | _, _, _, .tup _ r, a, h => ORpA.free r a h
theorem ORpA.free : ∀ {v : List V} {o : List OV} {A : List Addr}, ORpA K f Z H v o A → ∀ a ∈ A, Free f Z a ∧ ∃ u, H a = some u
  | _, _, _, .nil, a, h => by cases h
  | _, _, _, .cons q r, a, h => (List.mem_append.mp h).elim (ORp.free q a) (ORpA.free r a)
end
mutual
/-- carried to another heap: what it reads stays, its own objects stay -/
theorem ORp.to (hz : Same Z Z') : ∀ {v : V} {o : OV} {A : List Addr}, ORp K f Z H v o A → (∀ a ∈ A, Free f' Z' a) → (∀ a ∈ A, H' a = H a) → ORp K f' Z' H' v o A
  | _, _, _, .fz q, _, _ => .fz (q.up hz)
  | _, _, _, .lst _ e r, hf, hh => .lst (hf _ (by simp)) ((hh _ (by simp)).trans e) (r.up hz)
  | _, _, _, .dct _ e r, hf, hh => .dct (hf _ (by simp)) ((hh _ (by simp)).trans e) (r.up hz)
  | _, _, _, .tup q r, hf, hh => .tup (hz _ _ q) (ORpA.to hz r hf hh)
theorem ORpA.to (hz : Same Z Z') : ∀ {v : List V} {o : List OV} {A : List Addr}, ORpA K f Z H v o A → (∀ a ∈ A, Free f' Z' a) → (∀ a ∈ A, H' a = H a) → ORpA K f' Z' H' v o A
  | _, _, _, .nil, _, _ => .nil
  | _, _, _, .cons q r, hf, hh => .cons (ORp.to hz q (fun a h => hf a (List.mem_append_left _ h)) fun a h => hh a (List.mem_append_left _ h))
      (ORpA.to hz r (fun a h => hf a (List.mem_append_right _ h)) fun a h => hh a (List.mem_append_right _ h))
end
mutual
/-- it stands still from now on -/
theorem ORp.still (hz : Same Z Z') : ∀ {v : V} {o : OV} {A : List Addr}, ORp K f Z H v o A → (∀ a ∈ A, Z' a = H a) → Rp K Z' v o.data
  | _, _, _, .fz q, _ => q.up hz
  | _, _, _, .lst _ e r, hh => .lst (.of ((hh _ (by simp)).trans e)) (r.up hz)
  | _, _, _, .dct _ e r, hh => .dct (.inl ((hh _ (by simp)).trans e)) (r.up hz)
  | _, _, _, .tup q r, hh => .tup (.of (hz _ _ q)) (ORpA.still hz r hh)
theorem ORpA.still (hz : Same Z Z') : ∀ {v : List V} {o : List OV} {A : List Addr}, ORpA K f Z H v o A → (∀ a ∈ A, Z' a = H a) → RpA K Z' v (OV.datas o)
  | _, _, _, .nil, _ => .nil
  | _, _, _, .cons q r, hh => .cons (ORp.still hz q fun a h => hh a (List.mem_append_left _ h)) (ORpA.still hz r fun a h => hh a (List.mem_append_right _ h))
end
end

/-! ### the state of a def -/
inductive SV where
  | no
  | dat (d : PyData)
  | own (o : OV)
  | pool
abbrev DSt := List SV
def PoolAt (H : Hp) (p : Addr) : Prop := ∃ x y : Int, H p = some (.lst [.int x, .int y]) ∧ 0 ≤ x ∧ 0 ≤ y ∧ y < 2147483647
inductive SOk (K : PySem.W.Frag) (f : Fr0) (Z H : Hp) : Option (Option V) → SV → List Addr → Prop
  | no {o : Option (Option V)} : SOk K f Z H o .no []
  | dat {v : V} {d : PyData} : Rp K Z v d → SOk K f Z H (some (some v)) (.dat d) []
  | own {v : V} {o : OV} {A : List Addr} : ORp K f Z H v o A → A.Nodup → SOk K f Z H (some (some v)) (.own o) A
  | pool {p : Addr} : Z p = none → (f.pl p ∨ f.H0 p = none) → PoolAt H p → SOk K f Z H (some (some (.ref p))) .pool [p]
structure R (K : PySem.W.Frag) (f : Fr0) (Z : Hp) (fp : Nat → List Addr) (s : DSt) (σ : L2.St) (H : Hp) : Prop where
  zh : Same Z H
  z0 : Same f.Z0 Z
  keep : ∀ a o, f.H0 a = some o → ¬ f.pl a → H a = some o
  nz : ∀ a, f.H0 a ≠ none → f.Z0 a = none → ¬ f.pl a → Z a = none
  pok : ∀ p, f.pp p → Z p = none ∧ PoolAt H p
  len : s.length = σ.length
  slot : ∀ i, SOk K f Z H σ[i]? (s.getD i .no) (fp i)
  apart : ∀ i j, i ≠ j → ∀ a ∈ fp i, a ∉ fp j

section
variable {K : PySem.W.Frag} {f : Fr0} {Z Z' H H' : Hp} {fp : Nat → List Addr} {s : DSt} {σ : L2.St} {i : Nat}
theorem SOk.free {o : Option (Option V)} {sv : SV} {A : List Addr} (h : SOk K f Z H o sv A) : ∀ a ∈ A, Z a = none ∧ (f.pl a ∨ f.H0 a = none) ∧ ∃ u, H a = some u := by
  cases h with
  | no => intro a h; cases h
  | dat _ => intro a h; cases h
  | own q _ => intro a h; obtain ⟨⟨h1, _, h3⟩, h4⟩ := q.free a h; exact ⟨h1, h3, h4⟩
  | pool h1 h2 h3 =>
    intro a h
    cases List.mem_singleton.mp h
    obtain ⟨x, y, e, _⟩ := h3
    exact ⟨h1, h2, _, e⟩
theorem R.none_of (r : R K f Z fp s σ H) {a : Addr} (h : H a = none) : Z a = none := r.zh.free h
theorem R.off (r : R K f Z fp s σ H) {a : Addr} (h : H a = none) (i : Nat) : a ∉ fp i := by
  intro q
  obtain ⟨_, _, u, e⟩ := (r.slot i).free a q
  rw [h] at e
  cases e
theorem R.dat (r : R K f Z fp s σ H) {d : PyData} (h : s[i]? = some (.dat d)) : ∃ v, σ[i]? = some (some v) ∧ Rp K Z v d := by
  have q := r.slot i
  rw [List.getD_eq_getElem?_getD, h] at q
  generalize hs : σ[i]? = o at q
  generalize fp i = A at q
  cases q with
  | dat q => exact ⟨_, rfl, q⟩
theorem R.own (r : R K f Z fp s σ H) {o : OV} (h : s[i]? = some (.own o)) : ∃ v, σ[i]? = some (some v) ∧ ORp K f Z H v o (fp i) ∧ (fp i).Nodup := by
  have q := r.slot i
  rw [List.getD_eq_getElem?_getD, h] at q
  generalize hs : σ[i]? = o at q
  generalize fp i = A at q
  cases q with
  | own q n => exact ⟨_, rfl, q, n⟩
theorem R.pool (r : R K f Z fp s σ H) (h : s[i]? = some .pool) : ∃ p, σ[i]? = some (some (.ref p)) ∧ fp i = [p] ∧ Z p = none ∧ (f.pl p ∨ f.H0 p = none) ∧ PoolAt H p := by
  have q := r.slot i
  rw [List.getD_eq_getElem?_getD, h] at q
  generalize hs : σ[i]? = o at q
  generalize hA : fp i = A at q
  cases q with
  | pool h1 h2 h3 => exact ⟨_, rfl, rfl, h1, h2, h3⟩
/-- what others did: the heap grows, what stands still grows, the pools at P turn -/
theorem R.grow (P : Addr → Prop) (r : R K f Z fp s σ H) (zh : Same Z' H') (zz : Same Z Z') (hP : ∀ a, P a → ∃ i, s[i]? = some .pool ∧ a ∈ fp i)
    (hk : ∀ a o, H a = some o → ¬ P a → H' a = some o) (hn : ∀ a, H a ≠ none → Z a = none → ¬ P a → Z' a = none)
    (hp : ∀ a, P a → Z' a = none ∧ PoolAt H' a) : R K f Z' fp s σ H' := by
  have hPf : ∀ a, P a → f.pl a ∨ f.H0 a = none := fun a h => by
    obtain ⟨i, _, h2⟩ := hP a h
    exact ((r.slot i).free a h2).2.1
  have pool' : ∀ p, Z p = none → PoolAt H p → Z' p = none ∧ PoolAt H' p := fun p h1 h2 => by
    by_cases hh : P p
    · exact hp p hh
    · obtain ⟨x, y, e, q⟩ := h2
      exact ⟨hn p (by rw [e]; simp) h1 hh, x, y, hk _ _ e hh, q⟩
  refine ⟨zh, fun a o h => zz _ _ (r.z0 _ _ h), fun a o h1 h2 => ?_, fun a h1 h2 h3 => ?_, fun p h => pool' p (r.pok p h).1 (r.pok p h).2, r.len, fun j => ?_, r.apart⟩
  · exact hk a o (r.keep a o h1 h2) fun z => (hPf a z).elim h2 fun q => by rw [h1] at q; cases q
  · have hP' : ¬ P a := fun z => (hPf a z).elim h3 h1
    refine hn a ?_ (r.nz a h1 h2 h3) hP'
    cases e : f.H0 a with
    | none => exact absurd e h1
    | some o => rw [r.keep a o e h3]; simp
  · have q := r.slot j
    have hj : s[j]? = none ∨ ∃ x, s[j]? = some x := by cases s[j]? <;> simp
    revert q
    rw [List.getD_eq_getElem?_getD]
    generalize hA : fp j = A
    generalize σ[j]? = o
    intro q
    rcases hj with hj | ⟨x, hj⟩
    · rw [hj] at q ⊢
      cases q
      exact .no
    · rw [hj] at q ⊢
      cases q with
      | no => exact .no
      | dat q => exact .dat (q.up zz)
      | own q n =>
        have hh := q.free
        have hx : ∀ a ∈ A, ¬ P a := fun a ha z => by
          obtain ⟨i, h1, h2⟩ := hP a z
          have : i ≠ j := by
            rintro rfl
            rw [hj] at h1
            cases h1
          exact r.apart i j this a h2 (hA ▸ ha)
        refine .own (q.to zz (fun a ha => ?_) fun a ha => ?_) n
        · obtain ⟨⟨h1, h2, h3⟩, u, h4⟩ := hh a ha
          exact ⟨hn a (by rw [h4]; simp) h1 (hx a ha), h2, h3⟩
        · obtain ⟨_, u, h4⟩ := hh a ha
          rw [h4]
          exact hk a u h4 (hx a ha)
      | pool h1 h2 h3 =>
        obtain ⟨h4, h5⟩ := pool' _ h1 h3
        exact .pool h4 h2 h5
theorem same_upd {a : Addr} {o : HO} (h : H a = none) : Same H (upd H a o) := fun b u e => by
  rw [upd_ne]
  · exact e
  · rintro rfl
    rw [h] at e
    cases e
/-- a new object that stands still -/
theorem R.fresh (r : R K f Z fp s σ H) {p : Addr} (o : HO) (h : H p = none) : R K f (upd Z p o) fp s σ (upd H p o) ∧ Same Z (upd Z p o) := by
  have hz := r.none_of h
  refine ⟨r.grow (fun _ => False) (fun b u e => ?_) (same_upd hz) (fun _ z => z.elim) (fun a o e _ => same_upd h _ _ e) (fun a h1 h2 _ => ?_) (fun _ z => z.elim), same_upd hz⟩
  · by_cases hb : b = p
    · subst hb
      rw [upd_same] at e ⊢
      exact e
    · rw [upd_ne hb] at e ⊢
      exact r.zh _ _ e
  · rw [upd_ne]
    · exact h2
    · rintro rfl
      exact h1 h
/-- a new object that is owned by who asked for it -/
theorem R.freshO (r : R K f Z fp s σ H) {p : Addr} (o : HO) (h : H p = none) : R K f Z fp s σ (upd H p o) := by
  have hz := r.none_of h
  refine r.grow (fun _ => False) (fun b u e => ?_) (fun _ _ e => e) (fun _ z => z.elim) (fun a o e _ => same_upd h _ _ e) (fun a h1 h2 _ => h2) (fun _ z => z.elim)
  exact same_upd h _ _ (r.zh _ _ e)
theorem R.newFree (r : R K f Z fp s σ H) {p : Addr} (h : H p = none) : Free f Z p := by
  refine ⟨r.none_of h, fun q => ?_, ?_⟩
  · obtain ⟨_, x, y, e, _⟩ := r.pok p q
    rw [h] at e
    cases e
  · by_cases q : f.pl p
    · exact .inl q
    · refine .inr ?_
      cases e : f.H0 p with
      | none => rfl
      | some o =>
        rw [r.keep p o e q] at h
        cases h
/-- a slot is given a new worth -/
theorem R.put (r : R K f Z fp s σ H) {x : Option V} {sv : SV} {A : List Addr} (i : Nat) (hi : i < σ.length) (q : SOk K f Z H (some x) sv A) (ha : ∀ j, j ≠ i → ∀ a ∈ A, a ∉ fp j) :
    R K f Z (fun j => if j = i then A else fp j) (s.set i sv) (σ.set i x) H := by
  refine ⟨r.zh, r.z0, r.keep, r.nz, r.pok, by simp [r.len], fun j => ?_, fun j k hjk a h1 h2 => ?_⟩
  · by_cases hj : j = i
    · subst hj
      rw [if_pos rfl, List.getElem?_set_self hi, List.getD_eq_getElem?_getD, List.getElem?_set_self (by rw [r.len]; exact hi)]
      exact q
    · rw [if_neg hj, List.getElem?_set_ne (Ne.symm hj), List.getD_eq_getElem?_getD, List.getElem?_set_ne (Ne.symm hj), ← List.getD_eq_getElem?_getD]
      exact r.slot j
  · by_cases hj : j = i
    · rw [if_pos hj] at h1
      by_cases hk : k = i
      · exact hjk (hj.trans hk.symm)
      · rw [if_neg hk] at h2
        exact ha k hk a h1 h2
    · rw [if_neg hj] at h1
      by_cases hk : k = i
      · rw [if_pos hk] at h2
        exact ha j hj a h2 h1
      · rw [if_neg hk] at h2
        exact r.apart j k hjk a h1 h2
theorem R.putDat (r : R K f Z fp s σ H) {v : V} {d : PyData} (i : Nat) (hi : i < σ.length) (q : Rp K Z v d) :
    R K f Z (fun j => if j = i then [] else fp j) (s.set i (.dat d)) (σ.set i (some v)) H := r.put i hi (.dat q) fun _ _ a h => by cases h
/-- a slot is forgotten -/
theorem R.forget (r : R K f Z fp s σ H) (i : Nat) (x : Option V) : R K f Z (fun j => if j = i then [] else fp j) (s.set i .no) (σ.set i x) H := by
  by_cases hi : i < σ.length
  · exact r.put i hi .no fun _ _ a h => by cases h
  · have h1 : σ.set i x = σ := List.set_eq_of_length_le (Nat.le_of_not_lt hi)
    have h2 : s.set i .no = s := List.set_eq_of_length_le (by rw [r.len]; exact Nat.le_of_not_lt hi)
    rw [h1, h2]
    refine ⟨r.zh, r.z0, r.keep, r.nz, r.pok, r.len, fun j => ?_, fun j k hjk a q1 q2 => ?_⟩
    · by_cases hj : j = i
      · subst hj
        have e1 : s.getD j .no = .no := by
          rw [List.getD_eq_getElem?_getD, List.getElem?_eq_none (by rw [r.len]; exact Nat.le_of_not_lt hi)]
          rfl
        rw [if_pos rfl, e1]
        exact .no
      · rw [if_neg hj]
        exact r.slot j
    · split at q1
      · cases q1
      · split at q2
        · cases q2
        · exact r.apart j k hjk a q1 q2
/-- an owned slot is read as a whole: it stands still from then on -/
theorem R.still (r : R K f Z fp s σ H) {o : OV} (h : s[i]? = some (.own o)) :
    ∃ v Z', σ[i]? = some (some v) ∧ Same Z Z' ∧ Rp K Z' v o.data ∧ R K f Z' (fun j => if j = i then [] else fp j) (s.set i (.dat o.data)) σ H := by
  obtain ⟨v, e, q, nd⟩ := r.own h
  have hf := q.free
  have zz : Same Z (fun a => if a ∈ fp i then H a else Z a) := fun a u z => by
    show (if a ∈ fp i then H a else Z a) = some u
    split
    · exact r.zh _ _ z
    · exact z
  have rp : Rp K (fun a => if a ∈ fp i then H a else Z a) v o.data := q.still zz fun a ha => if_pos ha
  have hi : i < σ.length := by
    rcases Nat.lt_or_ge i σ.length with z | z
    · exact z
    · rw [List.getElem?_eq_none z] at e
      cases e
  refine ⟨v, _, e, zz, rp, ?_⟩
  have r2 : R K f (fun a => if a ∈ fp i then H a else Z a) (fun j => if j = i then [] else fp j) (s.set i .no) σ H := by
    have r1 := r.forget i (some v)
    have es : σ.set i (some v) = σ := by
      apply List.ext_getElem? 
      intro j
      by_cases hj : j = i
      · subst hj
        rw [List.getElem?_set_self hi, e]
      · rw [List.getElem?_set_ne (Ne.symm hj)]
    rw [es] at r1
    refine ⟨fun a u z => ?_, fun a u z => zz _ _ (r.z0 _ _ z), r.keep, fun a h1 h2 h3 => ?_, fun p hp => ⟨?_, (r.pok p hp).2⟩, r1.len, fun j => ?_, r1.apart⟩
    · have z' : (if a ∈ fp i then H a else Z a) = some u := z
      split at z'
      · exact z'
      · exact r.zh _ _ z'
    · show (if a ∈ fp i then H a else Z a) = none
      rw [if_neg]
      · exact r.nz a h1 h2 h3
      · intro ha
        obtain ⟨⟨_, _, h4⟩, _⟩ := hf a ha
        exact h4.elim h3 h1
    · show (if p ∈ fp i then H p else Z p) = none
      rw [if_neg]
      · exact (r.pok p hp).1
      · intro ha
        exact (hf p ha).1.2.1 hp
    · have q := r1.slot j
      by_cases hj : j = i
      · subst hj
        rw [List.getD_eq_getElem?_getD, List.getElem?_set_self (by rw [r.len]; exact hi)] at q ⊢
        rw [if_pos rfl] at q ⊢
        exact .no
      · rw [if_neg hj] at q ⊢
        have nin : ∀ a ∈ fp j, a ∉ fp i := r.apart j i hj
        revert nin q
        generalize (s.set i SV.no).getD j .no = sv
        generalize σ[j]? = oo
        generalize fp j = A
        intro q nin
        cases q with
        | no => exact .no
        | dat q => exact .dat (q.up zz)
        | own q n =>
          refine .own (q.to zz (fun a ha => ?_) fun a ha => rfl) n
          obtain ⟨⟨h1, h2, h3⟩, _⟩ := q.free a ha
          exact ⟨(if_neg (nin a ha)).trans h1, h2, h3⟩
        | pool h1 h2 h3 => exact .pool ((if_neg (nin _ (by simp))).trans h1) h2 h3
  have r3 := r2.putDat i hi rp
  have es : σ.set i (some v) = σ := by
    apply List.ext_getElem?
    intro j
    by_cases hj : j = i
    · subst hj
      rw [List.getElem?_set_self hi, e]
    · rw [List.getElem?_set_ne (Ne.symm hj)]
  rw [es, List.set_set] at r3
  have ef : (fun j => if j = i then ([] : List Addr) else if j = i then [] else fp j) = fun j => if j = i then [] else fp j := by
    funext j
    split <;> rfl
  rw [ef] at r3
  exact r3
/-- an owned object turns -/
theorem R.turn (r : R K f Z fp s σ H) {v : V} {o o' : OV} {p : Addr} {u : HO} (h : s[i]? = some (.own o)) (hv : σ[i]? = some (some v)) (hp : p ∈ fp i)
    (q : ORp K f Z (upd H p u) v o' (fp i)) : R K f Z fp (s.set i (.own o')) σ (upd H p u) := by
  obtain ⟨v', e, q0, nd⟩ := r.own h
  have hf := q0.free
  have hi : i < σ.length := by
    rcases Nat.lt_or_ge i σ.length with z | z
    · exact z
    · rw [List.getElem?_eq_none z] at e
      cases e
  obtain ⟨⟨hz, hpp, hpl⟩, _⟩ := hf p hp
  refine ⟨fun a w z => ?_, r.z0, fun a w h1 h2 => ?_, r.nz, fun a ha => ⟨(r.pok a ha).1, ?_⟩, by simp [r.len], fun j => ?_, r.apart⟩
  · rw [upd_ne]
    · exact r.zh _ _ z
    · rintro rfl
      rw [hz] at z
      cases z
  · rw [upd_ne]
    · exact r.keep _ _ h1 h2
    · rintro rfl
      exact hpl.elim h2 fun z => by rw [h1] at z; cases z
  · obtain ⟨x, y, e1, e2⟩ := (r.pok a ha).2
    refine ⟨x, y, ?_, e2⟩
    rw [upd_ne]
    · exact e1
    · rintro rfl
      exact hpp ha
  · by_cases hj : j = i
    · subst hj
      rw [hv, List.getD_eq_getElem?_getD, List.getElem?_set_self (by rw [r.len]; exact hi)]
      exact .own q nd
    · have q := r.slot j
      rw [List.getD_eq_getElem?_getD, List.getElem?_set_ne (Ne.symm hj), ← List.getD_eq_getElem?_getD]
      have nin : ∀ a ∈ fp j, a ≠ p := fun a ha z => r.apart j i hj a ha (z ▸ hp)
      revert nin q
      generalize s.getD j .no = sv
      generalize σ[j]? = oo
      generalize fp j = A
      intro q nin
      cases q with
      | no => exact .no
      | dat q => exact .dat q
      | own q n => exact .own (q.to (fun _ _ e => e) (fun a ha => (q.free a ha).1) fun a ha => upd_ne (nin a ha)) n
      | pool h1 h2 h3 =>
        obtain ⟨x, y, e1, e2⟩ := h3
        exact .pool h1 h2 ⟨x, y, by rw [upd_ne (nin _ (by simp))]; exact e1, e2⟩
/-- the frame that begins here -/
def base1 (f : Fr0) (Z H : Hp) (fp : Nat → List Addr) : Fr0 := ⟨H, Z, fun a => ∃ i, a ∈ fp i, f.pp⟩
theorem R.rebase (r : R K f Z fp s σ H) : R K (base1 f Z H fp) Z fp s σ H := by
  refine ⟨r.zh, fun _ _ h => h, fun a o h _ => h, fun a _ h _ => h, r.pok, r.len, fun j => ?_, r.apart⟩
  have q := r.slot j
  have hm : ∀ a ∈ fp j, ∃ i, a ∈ fp i := fun a ha => ⟨j, ha⟩
  generalize hsv : s.getD j .no = sv at q ⊢
  generalize σ[j]? = oo at q ⊢
  generalize fp j = A at q hm ⊢
  cases q with
  | no => exact .no
  | dat q => exact .dat q
  | own q n => exact .own (q.to (fun _ _ e => e) (fun a ha => ⟨(q.free a ha).1.1, (q.free a ha).1.2.1, .inl (hm a ha)⟩) fun _ _ => rfl) n
  | pool h1 h2 h3 => exact .pool h1 (.inl (hm _ (by simp))) h3
theorem R.back {fp' : Nat → List Addr} {s' : DSt} {σ' : L2.St} (r : R K f Z fp s σ H) (r' : R K (base1 f Z H fp) Z' fp' s' σ' H') : R K f Z' fp' s' σ' H' := by
  have hpl : ∀ a, (∃ i, a ∈ fp i) → f.pl a ∨ f.H0 a = none := fun a ⟨i, ha⟩ => ((r.slot i).free a ha).2.1
  have hfr : ∀ a, (∃ i, a ∈ fp i) ∨ H a = none → f.pl a ∨ f.H0 a = none := fun a h => by
    rcases h with h | h
    · exact hpl a h
    · by_cases q : f.pl a
      · exact .inl q
      · refine .inr ?_
        cases e : f.H0 a with
        | none => rfl
        | some o =>
          rw [r.keep a o e q] at h
          cases h
  refine ⟨r'.zh, fun a o h => r'.z0 _ _ (r.z0 _ _ h), fun a o h1 h2 => ?_, fun a h1 h2 h3 => ?_, r'.pok, r'.len, fun j => ?_, r'.apart⟩
  · exact r'.keep a o (r.keep a o h1 h2) fun z => (hpl a z).elim h2 fun q => by rw [h1] at q; cases q
  · refine r'.nz a ?_ (r.nz a h1 h2 h3) fun z => (hpl a z).elim h3 h1
    show H a ≠ none
    cases e : f.H0 a with
    | none => exact absurd e h1
    | some o => rw [r.keep a o e h3]; simp
  · have q := r'.slot j
    generalize hsv : s'.getD j .no = sv at q ⊢
    generalize σ'[j]? = oo at q ⊢
    generalize fp' j = A at q ⊢
    cases q with
    | no => exact .no
    | dat q => exact .dat q
    | own q n => exact .own (q.to (fun _ _ e => e) (fun a ha => ⟨(q.free a ha).1.1, (q.free a ha).1.2.1, hfr a (q.free a ha).1.2.2⟩) fun _ _ => rfl) n
    | pool h1 h2 h3 => exact .pool h1 (hfr _ h2) h3
end
end L2.DL

set_option maxRecDepth 100000
set_option maxHeartbeats 2000000
namespace L2.DL
open PySem PySem.Spec

/-! ### readings over data -/
abbrev DK := OV → DSt → Prop
abbrev DTE := DSt → DK → Prop
abbrev DTT := DSt → (Bool → DSt → Prop) → Prop
abbrev DTA := DSt → (List PyData → DSt → Prop) → Prop
def Told (K : PySem.W.Frag) (f : Fr0) (Z : Hp) (s : DSt) (σ : L2.St) (o : OV) (Q : VK) : Prop :=
  ∀ (Z' : Hp) (fp' : Nat → List Addr) (v : V) (H' : Hp) (A : List Addr), Same Z Z' → R K f Z' fp' s σ H' → ORp K f Z' H' v o A → A.Nodup →
    (∀ i, ∀ a ∈ A, a ∉ fp' i) → Q v H'
def lift (K : PySem.W.Frag) (t : DTE) : TE := fun σ H Q => ∃ f Z fp s, R K f Z fp s σ H ∧ t s fun o s' => Told K f Z s' σ o Q
def liftT (K : PySem.W.Frag) (t : DTT) : TT := fun σ H Q => ∃ f Z fp s, R K f Z fp s σ H ∧ t s fun b s' =>
  ∀ Z' fp' H', Same Z Z' → R K f Z' fp' s' σ H' → Q b H'
def liftA (K : PySem.W.Frag) (t : DTA) : TA := fun σ H Q => ∃ f Z fp s, R K f Z fp s σ H ∧ t s fun ds s' =>
  ∀ Z' fp' vs H', Same Z Z' → R K f Z' fp' s' σ H' → RpA K Z' vs ds → Q vs H'
structure DE (X : Cx) (e : Expr) (t : DTE) : Prop where
  mono : ∀ s Q Q', (∀ o s', Q o s' → Q' o s') → t s Q → t s Q'
  pe : PE X e (lift X.K t)
structure DT (X : Cx) (e : Expr) (t : DTT) : Prop where
  mono : ∀ s Q Q', (∀ o s', Q o s' → Q' o s') → t s Q → t s Q'
  pt : PT X e (liftT X.K t)
structure DW (X : Cx) (e : Expr) (t : DTT) : Prop where
  mono : ∀ s Q Q', (∀ o s', Q o s' → Q' o s') → t s Q → t s Q'
  pw : PW X e (liftT X.K t)
structure DA (X : Cx) (es : List Expr) (t : DTA) : Prop where
  mono : ∀ s Q Q', (∀ o s', Q o s' → Q' o s') → t s Q → t s Q'
  pa : PA X es (liftA X.K t)

theorem PE.weak {X : Cx} {e : Expr} {t t' : TE} (h : PE X e t) (i : ∀ σ H Q, t' σ H Q → t σ H Q) : PE X e t' := ⟨fun p s σ H Q I q => h.run p s σ H Q I (i _ _ _ q)⟩
theorem PT.weak {X : Cx} {e : Expr} {t t' : TT} (h : PT X e t) (i : ∀ σ H Q, t' σ H Q → t σ H Q) : PT X e t' := ⟨fun p s σ H Q I q => h.run p s σ H Q I (i _ _ _ q)⟩
theorem PW.weak {X : Cx} {e : Expr} {t t' : TT} (h : PW X e t) (i : ∀ σ H Q, t' σ H Q → t σ H Q) : PW X e t' := ⟨fun w p s σ H Q I q => h.run w p s σ H Q I (i _ _ _ q)⟩
theorem PA.weak {X : Cx} {e : List Expr} {t t' : TA} (h : PA X e t) (i : ∀ σ H Q, t' σ H Q → t σ H Q) : PA X e t' := ⟨fun c p s σ H Q I q => h.run c p s σ H Q I (i _ _ _ q)⟩
theorem PS.weak {X : Cx} {e : Stmt} {t t' : TS} (h : PS X e t) (i : ∀ D σ H, t' D σ H → t D σ H) : PS X e t' := ⟨fun p s σ H D I q => h.run p s σ H D I (i _ _ _ q)⟩
theorem PSs.weak {X : Cx} {e : List Stmt} {t t' : TS} (h : PSs X e t) (i : ∀ D σ H, t' D σ H → t D σ H) : PSs X e t' := ⟨fun p s σ H D I q => h.run p s σ H D I (i _ _ _ q)⟩

section
variable {K : PySem.W.Frag} {f : Fr0} {Z Z' H H' : Hp} {fp : Nat → List Addr} {s s' : DSt} {σ : L2.St}
/-- what is owned by nobody's slot comes to stand still -/
theorem R.stillT (r : R K f Z fp s σ H) {v : V} {o : OV} {A : List Addr} (q : ORp K f Z H v o A) (hA : ∀ i, ∀ a ∈ A, a ∉ fp i) :
    ∃ Z', Same Z Z' ∧ R K f Z' fp s σ H ∧ Rp K Z' v o.data := by
  have hf := q.free
  have zz : Same Z (fun a => if a ∈ A then H a else Z a) := fun a u z => by
    show (if a ∈ A then H a else Z a) = some u
    split
    · exact r.zh _ _ z
    · exact z
  refine ⟨_, zz, ⟨fun a u z => ?_, fun a u z => zz _ _ (r.z0 _ _ z), r.keep, fun a h1 h2 h3 => ?_, fun p hp => ⟨?_, (r.pok p hp).2⟩, r.len, fun j => ?_, r.apart⟩, q.still zz fun a ha => if_pos ha⟩
  · have z' : (if a ∈ A then H a else Z a) = some u := z
    split at z'
    · exact z'
    · exact r.zh _ _ z'
  · show (if a ∈ A then H a else Z a) = none
    rw [if_neg]
    · exact r.nz a h1 h2 h3
    · intro ha
      obtain ⟨⟨_, _, h4⟩, _⟩ := hf a ha
      exact h4.elim h3 h1
  · show (if p ∈ A then H p else Z p) = none
    rw [if_neg]
    · exact (r.pok p hp).1
    · intro ha
      exact (hf p ha).1.2.1 hp
  · have q := r.slot j
    have nin : ∀ a ∈ fp j, a ∉ A := fun a h1 h2 => hA j a h2 h1
    generalize hsv : s.getD j .no = sv at q ⊢
    generalize σ[j]? = oo at q ⊢
    generalize fp j = B at q nin ⊢
    cases q with
    | no => exact .no
    | dat q => exact .dat (q.up zz)
    | own q n =>
      refine .own (q.to zz (fun a ha => ?_) fun a ha => rfl) n
      obtain ⟨⟨h1, h2, h3⟩, _⟩ := q.free a ha
      exact ⟨(if_neg (nin a ha)).trans h1, h2, h3⟩
    | pool h1 h2 h3 => exact .pool ((if_neg (nin _ (by simp))).trans h1) h2 h3
theorem Same.rfl' {H : Hp} : Same H H := fun _ _ h => h
theorem Told.from {s : DSt} {o : OV} {Q : VK} (h : Told K f Z s σ o Q) (zz : Same Z Z') : Told K f Z' s σ o Q :=
  fun Z2 fp2 v H2 A z r q n d => h Z2 fp2 v H2 A (zz.trans z) r q n d
theorem Told.flat {Q : VK} {v : V} {d : PyData} (h : Told K f Z s σ (.fz d) Q) (r : R K f Z fp s σ H) (p : Rp K Z v d) : Q v H :=
  h Z fp v H [] Same.rfl' r (.fz p) .nil (by simp)
theorem Told.lst {Q : VK} {p : Addr} {xs : List V} {ds : List PyData} (h : Told K f Z s σ (.lst ds) Q) (r : R K f Z fp s σ H) (hp : H p = none) (q : RpA K Z xs ds) :
    Q (.ref p) (upd H p (.lst xs)) :=
  h Z fp _ _ [p] Same.rfl' (r.freshO _ hp) (.lst (r.newFree hp) upd_same q) (by simp) (fun i a ha => by
    cases List.mem_singleton.mp ha
    exact r.off hp i)
theorem Told.dct {Q : VK} {p : Addr} {xs : List (Key × V)} {ds : List (PyData × PyData)} (h : Told K f Z s σ (.dct ds) Q) (r : R K f Z fp s σ H) (hp : H p = none) (q : RpK K Z xs ds) :
    Q (.ref p) (upd H p (.dK xs)) :=
  h Z fp _ _ [p] Same.rfl' (r.freshO _ hp) (.dct (r.newFree hp) upd_same q) (by simp) (fun i a ha => by
    cases List.mem_singleton.mp ha
    exact r.off hp i)
theorem Told.tup {Q : VK} {p : Addr} {xs : List V} {ds : List PyData} (h : Told K f Z s σ (.fz (.tuple ds)) Q) (r : R K f Z fp s σ H) (hp : H p = none) (q : RpA K Z xs ds) :
    Q (.ref p) (upd H p (.tup xs)) := by
  obtain ⟨r2, zz⟩ := r.fresh (.tup xs) hp
  exact (h.from zz).flat r2 (.tup (.of upd_same) (q.up zz))
end

section
variable {X : Cx} {e a b c : Expr} {es : List Expr} {t ta tb tc : DTE} {f : Fr0} {Z H : Hp} {fp : Nat → List Addr} {s : DSt} {σ : L2.St} {pos : Pos}
/-- the walk of an expression, its value taken as data that stands still -/
theorem DE.go (h : DE X e t) (r : R X.K f Z fp s σ H) {q : DK} {Q : VK} (w : t s q)
    (k : ∀ o s' Z' fp' v H', Same Z Z' → R X.K f Z' fp' s' σ H' → Rp X.K Z' v o.data → q o s' → Q v H') : lift X.K t σ H Q :=
  ⟨f, Z, fp, s, r, h.mono _ _ _ (fun o s' q' Z' fp' v H' A zz r' p' n hA => by
    obtain ⟨Z2, z2, r2, p2⟩ := r'.stillT p' hA
    exact k o s' Z2 fp' v H' (zz.trans z2) r2 p2 q') w⟩
theorem DT.go {t : DTT} (h : DT X e t) (r : R X.K f Z fp s σ H) {q : Bool → DSt → Prop} {Q : Bool → Hp → Prop} (w : t s q)
    (k : ∀ o s' Z' fp' H', Same Z Z' → R X.K f Z' fp' s' σ H' → q o s' → Q o H') : liftT X.K t σ H Q :=
  ⟨f, Z, fp, s, r, h.mono _ _ _ (fun o s' q' Z' fp' H' zz r' => k o s' Z' fp' H' zz r' q') w⟩
theorem DA.go {t : DTA} (h : DA X es t) (r : R X.K f Z fp s σ H) {q : List PyData → DSt → Prop} {Q : List V → Hp → Prop} (w : t s q)
    (k : ∀ o s' Z' fp' v H', Same Z Z' → R X.K f Z' fp' s' σ H' → RpA X.K Z' v o → q o s' → Q v H') : liftA X.K t σ H Q :=
  ⟨f, Z, fp, s, r, h.mono _ _ _ (fun o s' q' Z' fp' v H' zz r' p' => k o s' Z' fp' v H' zz r' p' q') w⟩

/-! names, constants -/
def eNam (i : Nat) : DTE := fun s Q => match s[i]? with
  | some (.dat d) => Q (.fz d) s
  | some (.own o) => Q (.fz o.data) (s.set i (.dat o.data))
  | _ => False
def eC (d : PyData) : DTE := fun s Q => Q (.fz d) s
def tgOk (d : Bool) (sc : Scope) (x : Str) : Bool := match sc.names.lookup x with
  | some .local => true
  | some .cell => d
  | _ => false
structure XC (N : List Str) (sc : Scope) (k : Nat) (d : Bool) (X : Cx) : Prop where
  hN : X.N = N
  hS : X.env.scope = sc
  nd : N.Nodup
  calm : X.calm = true
  gu : X.A.guards = some []
  room : Room k X.A
  po : PassesOwn (model X.prog X.w) X.A X.env X.xe
  fn : d = true → ∀ x, X.fn x = true
variable {N : List Str} {sc : Scope} {k : Nat} {dd : Bool}
theorem tg_loc {d : Bool} {x : Str} (h : tgOk d sc x = true) : Loc sc x := by
  unfold tgOk at h
  split at h
  · exact .inl (by assumption)
  · exact .inr (by assumption)
  · cases h
theorem tg_fn {x : Str} (hc : XC N sc k dd X) (h : tgOk dd sc x = true) : X.fn x = true ∨ X.env.scope.names.lookup x = some .local := by
  rw [hc.hS]
  unfold tgOk at h
  split at h
  · exact .inr (by assumption)
  · exact .inl (hc.fn h x)
  · cases h
theorem de_nam (hc : XC N sc k dd X) (i : Nat) {x : Str} (hx : N[i]? = some x) (hv : Vis sc x) (hd : (x == ("__debug__" : Str)) = false) (hcd : (x == ("__classdict__" : Str)) = false) :
    DE X (.Name x pos) (eNam i) := by
  refine ⟨fun s Q Q' hq h => ?_, PE.weak (pe_var (i := i) (hc.hN ▸ hx) (hc.hS ▸ hv) hd hcd) fun σ H Q h => ?_⟩
  · unfold eNam at h ⊢
    split at h <;> first | exact hq _ _ h | exact h
  · obtain ⟨f, Z, fp, s, r, h⟩ := h
    unfold eNam at h
    split at h
    · rename_i d hs
      obtain ⟨v, e, p⟩ := r.dat hs
      exact ⟨v, e, h.flat r p⟩
    · rename_i o hs
      obtain ⟨v, Z', e, zz, p, r2⟩ := r.still hs
      exact ⟨v, e, (h.from zz).flat r2 p⟩
    · exact h.elim
theorem de_int {i : Int} {j : Nat} : DE X (.Constant (.int i) j pos) (eC (.int i)) :=
  ⟨fun _ _ _ hq h => hq _ _ h, PE.weak pe_int fun σ H Q ⟨f, Z, fp, s, r, h⟩ => h.flat r (.int i)⟩
theorem de_bl {i : Bool} {j : Nat} : DE X (.Constant (.bool i) j pos) (eC (.bool i)) :=
  ⟨fun _ _ _ hq h => hq _ _ h, PE.weak pe_bl fun σ H Q ⟨f, Z, fp, s, r, h⟩ => h.flat r (.bl i)⟩
theorem de_str {i : Str} {j : Nat} (hk : PyData.strOk i = true) : DE X (.Constant (.str i) j pos) (eC (.str i)) :=
  ⟨fun _ _ _ hq h => hq _ _ h, PE.weak pe_str fun σ H Q ⟨f, Z, fp, s, r, h⟩ => h.flat r (.str i hk)⟩
theorem de_non {j : Nat} : DE X (.Constant .none j pos) (eC .none) :=
  ⟨fun _ _ _ hq h => hq _ _ h, PE.weak pe_non fun σ H Q ⟨f, Z, fp, s, r, h⟩ => h.flat r .non⟩
/-- a module's constant of flat data -/
theorem de_glob {x : Str} {v : V} {d : PyData} {u : Value} (hg : Gl X x) (hm : X.mg x = some u) (r : RelV v u) (hp : ∀ Z, Rp X.K Z v d) (hd : (x == ("__debug__" : Str)) = false) : DE X (.Name x pos) (eC d) :=
  ⟨fun _ _ _ hq h => hq _ _ h, PE.weak (pe_glob hg hm r hd) fun σ H Q ⟨f, Z, fp, s, r, h⟩ => h.flat r (hp Z)⟩

/-! operators -/
def eBin (g : PyData → PyData → Option OV) (ta tb : DTE) : DTE := fun s Q => ta s fun x s1 => tb s1 fun y s2 => ∃ o, g x.data y.data = some o ∧ Q o s2
def eUn (g : PyData → Option OV) (ta : DTE) : DTE := fun s Q => ta s fun x s1 => ∃ o, g x.data = some o ∧ Q o s1
def OpD (X : Cx) (r : R2) (g : PyData → PyData → Option OV) : Prop := ∀ {f Z fp s σ H vx vy x y o Q}, R X.K f Z fp s σ H → Rp X.K Z vx x → Rp X.K Z vy y → g x y = some o →
  Told X.K f Z s σ o Q → r vx vy H Q
theorem mono2 {g : PyData → PyData → Option OV} (ha : ∀ s Q Q', (∀ o s', Q o s' → Q' o s') → ta s Q → ta s Q') (hb : ∀ s Q Q', (∀ o s', Q o s' → Q' o s') → tb s Q → tb s Q') :
    ∀ s Q Q', (∀ o s', Q o s' → Q' o s') → eBin g ta tb s Q → eBin g ta tb s Q' := fun s Q Q' hq h => ha _ _ _ (fun x s1 h1 => hb _ _ _ (fun y s2 ⟨o, h2, h3⟩ => ⟨o, h2, hq _ _ h3⟩) h1) h
theorem bin_go {r : R2} {g : PyData → PyData → Option OV} (hg : OpD X r g) (ha : DE X a ta) (hb : DE X b tb) {Q : VK} (h : lift X.K (eBin g ta tb) σ H Q) :
    tOp r (lift X.K ta) (lift X.K tb) σ H Q := by
  obtain ⟨f, Z, fp, s, r, h⟩ := h
  refine ha.go r h fun o s1 Z1 fp1 v H1 z1 r1 p1 h1 => ?_
  refine hb.go r1 h1 fun y s2 Z2 fp2 u H2 z2 r2 p2 ⟨w, e, h2⟩ => ?_
  exact hg r2 (p1.up z2) p2 e (h2.from (z1.trans z2))
theorem de_op {op : Operator} {r : R2} {g : PyData → PyData → Option OV} (ho : OpR X (binaryOp op) r) (hg : OpD X r g) (ha : DE X a ta) (hb : DE X b tb) : DE X (.BinOp a op b pos) (eBin g ta tb) :=
  ⟨mono2 ha.mono hb.mono, PE.weak (pe_op ho ha.pe hb.pe) fun σ H Q h => bin_go hg ha hb h⟩
theorem de_cmp {op : CmpOp} {r : R2} {g : PyData → PyData → Option OV} (ho : OpR X (compareOp op) r) (hg : OpD X r g) (ha : DE X a ta) (hb : DE X b tb) (hm : behindInMarks op b = false) :
    DE X (.Compare a [op] [b] pos) (eBin g ta tb) := ⟨mono2 ha.mono hb.mono, PE.weak (pe_cmpR ho ha.pe hb.pe hm) fun σ H Q h => bin_go hg ha hb h⟩
theorem de_ix {r : R2} {g : PyData → PyData → Option OV} (ho : IxR X r) (hg : OpD X r g) (ha : DE X a ta) (hb : DE X b tb) (hs : PlainIx b) : DE X (.Subscript a b pos) (eBin g ta tb) :=
  ⟨mono2 ha.mono hb.mono, PE.weak (pe_ix ho ha.pe hb.pe hs) fun σ H Q h => bin_go hg ha hb h⟩
theorem de_un {op : UnaryOp} {r : V → Hp → VK → Prop} {g : PyData → Option OV} (ho : UnR X (unaryOp op) r)
    (hg : ∀ {f Z fp s σ H vx x o Q}, R X.K f Z fp s σ H → Rp X.K Z vx x → g x = some o → Told X.K f Z s σ o Q → r vx H Q) (ha : DE X a ta) : DE X (.UnaryOp op a pos) (eUn g ta) :=
  ⟨fun s Q Q' hq h => ha.mono _ _ _ (fun x s1 ⟨o, h2, h3⟩ => ⟨o, h2, hq _ _ h3⟩) h, PE.weak (pe_un ho ha.pe) fun σ H Q ⟨f, Z, fp, s, r, h⟩ =>
    ha.go r h fun o s1 Z1 fp1 v H1 z1 r1 p1 ⟨w, e, h1⟩ => hg r1 p1 e (h1.from z1)⟩
theorem Rp.bl_inv {K : PySem.W.Frag} {Z : Hp} {v : V} {k : Bool} (h : Rp K Z v (.bool k)) : v = .bl k := by cases h; rfl
theorem Rp.int_inv {K : PySem.W.Frag} {Z : Hp} {v : V} {k : Int} (h : Rp K Z v (.int k)) : v = .int k := by cases h; rfl
theorem Rp.str_inv {K : PySem.W.Frag} {Z : Hp} {v : V} {k : Str} (h : Rp K Z v (.str k)) : v = .str k := by cases h; rfl
/-- a value that is a truth, as a test -/
def eB (t : DTE) : DTT := fun s Q => t s fun o s' => ∃ k, o.data = .bool k ∧ Q k s'
theorem monoB {t : DTE} (h : ∀ s Q Q', (∀ o s', Q o s' → Q' o s') → t s Q → t s Q') : ∀ s Q Q', (∀ o s', Q o s' → Q' o s') → eB t s Q → eB t s Q' :=
  fun s Q Q' hq w => h _ _ _ (fun o s' ⟨k, e, q⟩ => ⟨k, e, hq _ _ q⟩) w
theorem dt_cmp {op : CmpOp} {r : R2} {g : PyData → PyData → Option OV} (ho : OpR X (compareOp op) r) (hg : OpD X r g) (ha : DE X a ta) (hb : DE X b tb) (hm : behindInMarks op b = false) :
    DT X (.Compare a [op] [b] pos) (eB (eBin g ta tb)) := by
  refine ⟨monoB (mono2 ha.mono hb.mono), PT.weak (pt_cmpR ho ha.pe hb.pe hm) fun σ H Q ⟨f, Z, fp, s, r, h⟩ => ?_⟩
  refine bin_go hg ha hb ⟨f, Z, fp, s, r, mono2 ha.mono hb.mono _ _ _ (fun o s' h Z' fp' v H' A zz r' p n hA => ?_) h⟩
  obtain ⟨k, e, h⟩ := h
  obtain ⟨Z2, z2, r2, p2⟩ := r'.stillT p hA
  rw [e] at p2
  exact ⟨k, p2.bl_inv, h _ _ _ (zz.trans z2) r2⟩
/-- any expression whose worth is a truth -/
theorem dt_val (he : DE X e t) (hw : ∀ whole, isTrue e X.env whole = (do let v ← whole; standAt e.pos; holding [v] (truthy v))) : DT X e (eB t) := by
  refine ⟨monoB he.mono, PT.weak (pt_val he.pe hw) fun σ H Q ⟨f, Z, fp, s, r, h⟩ => ?_⟩
  refine he.go r h fun o s' Z' fp' v H' zz r' p ⟨k, e, h⟩ => ?_
  rw [e] at p
  exact ⟨k, p.bl_inv, h _ _ _ zz r'⟩
/-- truth of any data -/
def truD : PyData → Bool
  | .none => false
  | .bool k => k
  | .int i => i != 0
  | .str x => (x.length : Int) != 0
  | .list ds => !ds.isEmpty
  | .tuple ds => !ds.isEmpty
  | .dict es => !es.isEmpty
def smallD : PyData → Bool
  | .str x => decide (x.length ≤ sizeLine)
  | .dict _ => false
  | _ => true
theorem isEmpty_len {α β : Type} {xs : List α} {ys : List β} (h : xs.length = ys.length) : xs.isEmpty = ys.isEmpty := by
  cases xs <;> cases ys <;> first | rfl | simp at h
def eTru (t : DTE) : DTT := fun s Q => t s fun o s' => smallD o.data = true ∧ Q (truD o.data) s'
theorem dt_tru (he : DE X e t) (hw : ∀ whole, isTrue e X.env whole = (do let v ← whole; standAt e.pos; holding [v] (truthy v))) : DT X e (eTru t) := by
  refine ⟨fun s Q Q' hq w => he.mono _ _ _ (fun o s' ⟨k, q⟩ => ⟨k, hq _ _ q⟩) w, PT.weak (pt_truth he.pe hw) fun σ H Q ⟨f, Z, fp, s, r, h⟩ => ?_⟩
  refine he.go r h fun o s' Z' fp' v H' zz r' p ⟨k, h⟩ => ?_
  refine ⟨truD o.data, ?_, h _ _ _ zz r'⟩
  generalize o.data = d at p k
  cases p with
  | non => rfl
  | bl => rfl
  | int => rfl
  | str x _ => exact ⟨of_decide_eq_true k, rfl⟩
  | lst q w => exact .inl ⟨_, (Le.of r'.zh).sqL q, by show (!_) = (!_); rw [isEmpty_len w.length]⟩
  | tup q w => exact .inr (.inl ⟨_, (Le.of r'.zh).sqT q, by show (!_) = (!_); rw [isEmpty_len w.length]⟩)
  | dct q w => cases k
/-- not, and, or: tests -/
def tNotD (t : DTT) : DTT := fun s Q => t s fun k s' => Q (!k) s'
def tAndD (t u : DTT) : DTT := fun s Q => t s fun k s' => if k = true then u s' Q else Q false s'
def tOrD (t u : DTT) : DTT := fun s Q => t s fun k s' => if k = true then Q true s' else u s' Q
variable {t1 t2 : DTT} {rest : List Expr}
theorem dt_not (h : DT X a t1) : DT X (.UnaryOp .Not a pos) (tNotD t1) :=
  ⟨fun s Q Q' hq w => h.mono _ _ _ (fun k s' q => hq _ _ q) w, PT.weak (pt_not h.pt) fun σ H Q ⟨f, Z, fp, s, r, w⟩ => h.go r w fun o s' Z' fp' H' zz r' q => q _ _ _ zz r'⟩
theorem dw_and1 (h : DT X a t1) : DW X (.BoolOp .And [a] pos) t1 := ⟨h.mono, pw_and1 h.pt⟩
theorem dw_or1 (h : DT X a t1) : DW X (.BoolOp .Or [a] pos) t1 := ⟨h.mono, pw_or1 h.pt⟩
theorem monoAnd (h1 : ∀ s Q Q', (∀ o s', Q o s' → Q' o s') → t1 s Q → t1 s Q') (h2 : ∀ s Q Q', (∀ o s', Q o s' → Q' o s') → t2 s Q → t2 s Q') :
    ∀ s Q Q', (∀ o s', Q o s' → Q' o s') → tAndD t1 t2 s Q → tAndD t1 t2 s Q' := fun s Q Q' hq w => h1 _ _ _ (fun k s' q => by
  cases k with
  | true => exact h2 _ _ _ hq q
  | false => exact hq _ _ q) w
theorem monoOr (h1 : ∀ s Q Q', (∀ o s', Q o s' → Q' o s') → t1 s Q → t1 s Q') (h2 : ∀ s Q Q', (∀ o s', Q o s' → Q' o s') → t2 s Q → t2 s Q') :
    ∀ s Q Q', (∀ o s', Q o s' → Q' o s') → tOrD t1 t2 s Q → tOrD t1 t2 s Q' := fun s Q Q' hq w => h1 _ _ _ (fun k s' q => by
  cases k with
  | true => exact hq _ _ q
  | false => exact h2 _ _ _ hq q) w
theorem liftT_from {t : DTT} {Q : Bool → Hp → Prop} (hm : ∀ s Q Q', (∀ o s', Q o s' → Q' o s') → t s Q → t s Q') {Z0 : Hp} (zz : Same Z0 Z) (r : R X.K f Z fp s σ H)
    (h : t s fun b s' => ∀ Z' fp' H', Same Z0 Z' → R X.K f Z' fp' s' σ H' → Q b H') : liftT X.K t σ H Q :=
  ⟨f, Z, fp, s, r, hm _ _ _ (fun b s' q Z' fp' H' z r' => q Z' fp' H' (zz.trans z) r') h⟩
theorem dw_and (h1 : DT X a t1) (h2 : DW X (.BoolOp .And (b :: rest) pos) t2) : DW X (.BoolOp .And (a :: b :: rest) pos) (tAndD t1 t2) :=
  ⟨monoAnd h1.mono h2.mono, PW.weak (pw_and h1.pt h2.pw) fun σ H Q ⟨f, Z, fp, s, r, w⟩ => h1.go r w fun o s' Z' fp' H' zz r' q => by
    cases o with
    | true => exact liftT_from h2.mono zz r' q
    | false => exact q _ _ _ zz r'⟩
theorem dw_or (h1 : DT X a t1) (h2 : DW X (.BoolOp .Or (b :: rest) pos) t2) : DW X (.BoolOp .Or (a :: b :: rest) pos) (tOrD t1 t2) :=
  ⟨monoOr h1.mono h2.mono, PW.weak (pw_or h1.pt h2.pw) fun σ H Q ⟨f, Z, fp, s, r, w⟩ => h1.go r w fun o s' Z' fp' H' zz r' q => by
    cases o with
    | true => exact q _ _ _ zz r'
    | false => exact liftT_from h2.mono zz r' q⟩
theorem DW.dt (h : DW X e t1) : DT X e t1 := ⟨h.mono, h.pw.pt⟩
/-- .. as values, all but the last truths -/
def eAnd (ta tb : DTE) : DTE := fun s Q => ta s fun x s1 => ∃ k, x.data = .bool k ∧ if k = true then tb s1 Q else Q (.fz (.bool false)) s1
def eOr (ta tb : DTE) : DTE := fun s Q => ta s fun x s1 => ∃ k, x.data = .bool k ∧ if k = true then Q (.fz (.bool true)) s1 else tb s1 Q
def eNot (ta : DTE) : DTE := fun s Q => ta s fun x s1 => ∃ k, x.data = .bool k ∧ Q (.fz (.bool !k)) s1
theorem lift_from {t : DTE} {Q : VK} (hm : ∀ s Q Q', (∀ o s', Q o s' → Q' o s') → t s Q → t s Q') {Z0 : Hp} (zz : Same Z0 Z) (r : R X.K f Z fp s σ H)
    (h : t s fun o s' => Told X.K f Z0 s' σ o Q) : lift X.K t σ H Q := ⟨f, Z, fp, s, r, hm _ _ _ (fun b s' q => q.from zz) h⟩
theorem de_one {op : BoolOp} (h : DE X a ta) : DE X (.BoolOp op [a] pos) ta := ⟨h.mono, pe_one h.pe⟩
theorem de_and (ha : DE X a ta) (hb : DE X (.BoolOp .And (b :: rest) pos) tb) : DE X (.BoolOp .And (a :: b :: rest) pos) (eAnd ta tb) :=
  ⟨fun s Q Q' hq w => ha.mono _ _ _ (fun x s1 ⟨k, e, q⟩ => ⟨k, e, by cases k with
    | true => exact hb.mono _ _ _ hq q
    | false => exact hq _ _ q⟩) w, PE.weak (pe_and ha.pe hb.pe) fun σ H Q ⟨f, Z, fp, s, r, h⟩ => ha.go r h fun o s' Z' fp' v H' zz r' p ⟨k, e, q⟩ => by
    rw [e] at p
    refine ⟨k, p.bl_inv, ?_⟩
    cases k with
    | true => exact lift_from hb.mono zz r' q
    | false => exact (Told.from q zz).flat r' (.bl false)⟩
theorem de_or (ha : DE X a ta) (hb : DE X (.BoolOp .Or (b :: rest) pos) tb) : DE X (.BoolOp .Or (a :: b :: rest) pos) (eOr ta tb) :=
  ⟨fun s Q Q' hq w => ha.mono _ _ _ (fun x s1 ⟨k, e, q⟩ => ⟨k, e, by cases k with
    | false => exact hb.mono _ _ _ hq q
    | true => exact hq _ _ q⟩) w, PE.weak (pe_or ha.pe hb.pe) fun σ H Q ⟨f, Z, fp, s, r, h⟩ => ha.go r h fun o s' Z' fp' v H' zz r' p ⟨k, e, q⟩ => by
    rw [e] at p
    refine ⟨k, p.bl_inv, ?_⟩
    cases k with
    | false => exact lift_from hb.mono zz r' q
    | true => exact (Told.from q zz).flat r' (.bl true)⟩
theorem de_not (ha : DE X a ta) : DE X (.UnaryOp .Not a pos) (eNot ta) :=
  ⟨fun s Q Q' hq w => ha.mono _ _ _ (fun x s1 ⟨k, e, q⟩ => ⟨k, e, hq _ _ q⟩) w, PE.weak (pe_not ha.pe) fun σ H Q ⟨f, Z, fp, s, r, h⟩ => ha.go r h fun o s' Z' fp' v H' zz r' p ⟨k, e, q⟩ => by
    rw [e] at p
    exact ⟨k, p.bl_inv, (Told.from q zz).flat r' (.bl _)⟩⟩
def eIf (t : DTT) (ta tb : DTE) : DTE := fun s Q => t s fun k s' => if k = true then ta s' Q else tb s' Q
theorem de_if (hc : DT X c t1) (ha : DE X a ta) (hb : DE X b tb) : DE X (.IfExp c a b pos) (eIf t1 ta tb) :=
  ⟨fun s Q Q' hq w => hc.mono _ _ _ (fun k s1 q => by cases k with
    | true => exact ha.mono _ _ _ hq q
    | false => exact hb.mono _ _ _ hq q) w, PE.weak (pe_ifExp hc.pt ha.pe hb.pe) fun σ H Q ⟨f, Z, fp, s, r, h⟩ => hc.go r h fun o s' Z' fp' H' zz r' q => by
    cases o with
    | true => exact lift_from ha.mono zz r' q
    | false => exact lift_from hb.mono zz r' q⟩
/-- a op1 b op2 c -/
def eChain (g g' : PyData → PyData → Option OV) (ta tb tc : DTE) : DTE := fun s Q => ta s fun x s1 => tb s1 fun y s2 => ∃ k, g x.data y.data = some (.fz (.bool k)) ∧
  if k = true then tc s2 fun z s3 => ∃ o, g' y.data z.data = some o ∧ Q o s3 else Q (.fz (.bool false)) s2
theorem monoCh {g g' : PyData → PyData → Option OV} (ha : DE X a ta) (hb : DE X b tb) (hc : DE X c tc) : ∀ s Q Q', (∀ o s', Q o s' → Q' o s') → eChain g g' ta tb tc s Q → eChain g g' ta tb tc s Q' :=
  fun s Q Q' hq h => ha.mono _ _ _ (fun x s1 h1 => hb.mono _ _ _ (fun y s2 ⟨k, h2, h3⟩ => ⟨k, h2, by cases k with
    | true => exact hc.mono _ _ _ (fun z s3 ⟨o, e, q⟩ => ⟨o, e, hq _ _ q⟩) h3
    | false => exact hq _ _ h3⟩) h1) h
theorem chain_go {r r' : R2} {g g' : PyData → PyData → Option OV} (hg : OpD X r g) (hg' : OpD X r' g') (ha : DE X a ta) (hb : DE X b tb) (hc : DE X c tc) {Q : VK} (h : lift X.K (eChain g g' ta tb tc) σ H Q) :
    tChain r r' (lift X.K ta) (lift X.K tb) (lift X.K tc) σ H Q := by
  obtain ⟨f, Z, fp, s, r, h⟩ := h
  refine ha.go r h fun o s1 Z1 fp1 v H1 z1 r1 p1 h1 => ?_
  refine hb.go r1 h1 fun y s2 Z2 fp2 u H2 z2 r2 p2 ⟨k, e, h2⟩ => ?_
  refine hg r2 (p1.up z2) p2 e fun Z3 fp3 v3 H3 A3 z3 r3 p3 n3 a3 => ?_
  cases p3 with
  | fz p3 =>
    refine ⟨k, p3.bl_inv, ?_⟩
    cases k with
    | true =>
      refine hc.go r3 h2 fun z s4 Z4 fp4 w H4 z4 r4 p4 ⟨o4, e4, h4⟩ => ?_
      exact hg' r4 (p2.up (z3.trans z4)) p4 e4 (h4.from (z1.trans (z2.trans (z3.trans z4))))
    | false => exact (Told.from h2 (z1.trans (z2.trans z3))).flat r3 (.bl false)
theorem de_chain {op op' : CmpOp} {r r' : R2} {g g' : PyData → PyData → Option OV} (ho : OpR X (compareOp op) r) (ho' : OpR X (compareOp op') r') (hg : OpD X r g) (hg' : OpD X r' g')
    (ha : DE X a ta) (hb : DE X b tb) (hc : DE X c tc) (hm : lastMarks [op, op'] [b, c] = false) : DE X (.Compare a [op, op'] [b, c] pos) (eChain g g' ta tb tc) :=
  ⟨monoCh ha hb hc, PE.weak (pe_chain ho ho' ha.pe hb.pe hc.pe hm) fun σ H Q h => chain_go hg hg' ha hb hc h⟩
theorem dt_chain {op op' : CmpOp} {r r' : R2} {g g' : PyData → PyData → Option OV} (ho : OpR X (compareOp op) r) (ho' : OpR X (compareOp op') r') (hg : OpD X r g) (hg' : OpD X r' g')
    (ha : DE X a ta) (hb : DE X b tb) (hc : DE X c tc) (hm : lastMarks [op, op'] [b, c] = false) : DT X (.Compare a [op, op'] [b, c] pos) (eB (eChain g g' ta tb tc)) := by
  refine ⟨monoB (monoCh ha hb hc), PT.weak (pt_chain ho ho' ha.pe hb.pe hc.pe hm) fun σ H Q ⟨f, Z, fp, s, r, h⟩ => ?_⟩
  refine chain_go hg hg' ha hb hc ⟨f, Z, fp, s, r, monoCh ha hb hc _ _ _ (fun o s' h Z' fp' v H' A zz r' p n hA => ?_) h⟩
  obtain ⟨k, e, h⟩ := h
  obtain ⟨Z2, z2, r2, p2⟩ := r'.stillT p hA
  rw [e] at p2
  exact ⟨k, p2.bl_inv, h _ _ _ (zz.trans z2) r2⟩

/-! arguments, displays, built-ins -/
def aNil : DTA := fun s Q => Q [] s
def aCons (te : DTE) (tr : DTA) : DTA := fun s Q => te s fun o s1 => tr s1 fun ds s2 => Q (o.data :: ds) s2
theorem da_nil : DA X [] aNil := ⟨fun _ _ _ hq h => hq _ _ h, PA.weak pa_nil fun σ H Q ⟨f, Z, fp, s, r, h⟩ => h _ _ _ _ Same.rfl' r .nil⟩
theorem da_cons {tr : DTA} (he : DE X e t) (hr : DA X es tr) (hs : starEach (e :: es) X.env = (false, eval e X.env) :: starEach es X.env) : DA X (e :: es) (aCons t tr) :=
  ⟨fun s Q Q' hq h => he.mono _ _ _ (fun o s1 h1 => hr.mono _ _ _ (fun ds s2 h2 => hq _ _ h2) h1) h, PA.weak (pa_cons he.pe hr.pa hs) fun σ H Q ⟨f, Z, fp, s, r, h⟩ =>
    he.go r h fun o s1 Z1 fp1 v H1 z1 r1 p1 h1 => hr.go r1 h1 fun ds s2 Z2 fp2 vs H2 z2 r2 p2 h2 => h2 _ _ _ _ (z1.trans z2) r2 (.cons (p1.up z2) p2)⟩
def eLst (ta : DTA) : DTE := fun s Q => ta s fun ds s' => ds.length ≤ sizeLine ∧ Q (.lst ds) s'
def eTup (ta : DTA) : DTE := fun s Q => ta s fun ds s' => ds.length ≤ sizeLine ∧ Q (.fz (.tuple ds)) s'
variable {tA : DTA}
theorem de_lst (h : DA X es tA) : DE X (.List es pos) (eLst tA) :=
  ⟨fun s Q Q' hq w => h.mono _ _ _ (fun ds s' ⟨z, q⟩ => ⟨z, hq _ _ q⟩) w, PE.weak (pe_lst h.pa) fun σ H Q ⟨f, Z, fp, s, r, w⟩ =>
    h.go r w fun ds s' Z' fp' vs H' zz r' p ⟨z, q⟩ => ⟨by rw [p.length]; exact z, fun l hl => (Told.from q zz).lst r' hl p⟩⟩
theorem de_tup {k1 : Nat} (h : DA X es tA) : DE X (.Tuple es k1 pos) (eTup tA) :=
  ⟨fun s Q Q' hq w => h.mono _ _ _ (fun ds s' ⟨z, q⟩ => ⟨z, hq _ _ q⟩) w, PE.weak (pe_tup h.pa) fun σ H Q ⟨f, Z, fp, s, r, w⟩ =>
    h.go r w fun ds s' Z' fp' vs H' zz r' p ⟨z, q⟩ => ⟨by rw [p.length]; exact z, fun l hl => (Told.from q zz).tup r' hl p⟩⟩
/-- a built-in by its values -/
def eBlt (g : List PyData → Option OV) (ta : DTA) : DTE := fun s Q => ta s fun ds s' => ∃ o, g ds = some o ∧ Q o s'
def CallD (X : Cx) (r : List V → Hp → VK → Prop) (g : List PyData → Option OV) : Prop := ∀ {f Z fp s σ H vs ds o Q}, R X.K f Z fp s σ H → RpA X.K Z vs ds → g ds = some o →
  Told X.K f Z s σ o Q → r vs H Q
variable {x : Str} {p : Pos} {id T : String} {r : List V → Hp → VK → Prop} {g : List PyData → Option OV}
theorem monoBlt (h : ∀ s Q Q', (∀ o s', Q o s' → Q' o s') → tA s Q → tA s Q') : ∀ s Q Q', (∀ o s', Q o s' → Q' o s') → eBlt g tA s Q → eBlt g tA s Q' :=
  fun s Q Q' hq w => h _ _ _ (fun ds s' ⟨o, e, q⟩ => ⟨o, e, hq _ _ q⟩) w
theorem de_callB (hc : CallR X (.builtin id) r) (hg : CallD X r g) (gl : Gl X x) (hm : X.mg x = none) (hv : bootBuiltins x = some (.builtin id)) (ha : DA X (e :: es) tA) (hn : x ≠ "__name__") (hdb : (x == ("__debug__" : Str)) = false)
    (he : starEach (e :: es) X.env = (false, eval e X.env) :: starEach es X.env) (hpl : (backTo pos (starEach es X.env)).any (·.1) = false) : DE X (.Call (.Name x p) (e :: es) [] pos) (eBlt g tA) :=
  ⟨monoBlt ha.mono, PE.weak (pe_callB hc gl hm hv ha.pa hn hdb he hpl) fun σ H Q ⟨f, Z, fp, s, r, w⟩ =>
    ha.go r w fun ds s' Z' fp' vs H' zz r' p ⟨o, e, q⟩ => hg r' p e (q.from zz)⟩
theorem de_callTy (hc : CallR X (.type T) r) (hg : CallD X r g) (gl : Gl X x) (hm : X.mg x = none) (hv : bootBuiltins x = some (.type T)) (ha : DA X (e :: es) tA) (hn : x ≠ "__name__") (hdb : (x == ("__debug__" : Str)) = false)
    (he : starEach (e :: es) X.env = (false, eval e X.env) :: starEach es X.env) (hpl : (backTo pos (starEach es X.env)).any (·.1) = false) : DE X (.Call (.Name x p) (e :: es) [] pos) (eBlt g tA) :=
  ⟨monoBlt ha.mono, PE.weak (pe_callTy hc gl hm hv ha.pa hn hdb he hpl) fun σ H Q ⟨f, Z, fp, s, r, w⟩ =>
    ha.go r w fun ds s' Z' fp' vs H' zz r' p ⟨o, e, q⟩ => hg r' p e (q.from zz)⟩
end
end L2.DL

set_option maxRecDepth 100000
set_option maxHeartbeats 2000000
namespace L2.DL
open PySem PySem.Spec

/-! ### statements -/
structure DEn where
  nx : DSt → Prop
  rt : OV → Prop
  bk : DSt → Prop := fun _ => False
  ct : DSt → Prop := fun _ => False
structure DEn.Le (E E' : DEn) : Prop where
  nx : ∀ s, E.nx s → E'.nx s
  rt : ∀ o, E.rt o → E'.rt o
  bk : ∀ s, E.bk s → E'.bk s
  ct : ∀ s, E.ct s → E'.ct s
abbrev DTS := DEn → DSt → Prop
structure EndsOk (K : PySem.W.Frag) (f : Fr0) (Z : Hp) (E : DEn) (D : Ends) : Prop where
  nx : ∀ Z' fp' s' σ' H', Same Z Z' → R K f Z' fp' s' σ' H' → E.nx s' → D.nx σ' H'
  rt : ∀ o Z' fp' s' σ' H' v A, Same Z Z' → R K f Z' fp' s' σ' H' → ORp K f Z' H' v o A → A.Nodup → E.rt o → D.rt v H'
  bk : ∀ Z' fp' s' σ' H', Same Z Z' → R K f Z' fp' s' σ' H' → E.bk s' → D.bk σ' H'
  ct : ∀ Z' fp' s' σ' H', Same Z Z' → R K f Z' fp' s' σ' H' → E.ct s' → D.ct σ' H'
def liftS (K : PySem.W.Frag) (t : DTS) : TS := fun D σ H => ∃ f Z fp s E, R K f Z fp s σ H ∧ t E s ∧ EndsOk K f Z E D
structure DS (X : Cx) (st : Stmt) (t : DTS) : Prop where
  mono : ∀ E E' s, DEn.Le E E' → t E s → t E' s
  ps : PS X st (liftS X.K t)
structure DSs (X : Cx) (st : List Stmt) (t : DTS) : Prop where
  mono : ∀ E E' s, DEn.Le E E' → t E s → t E' s
  pss : PSs X st (liftS X.K t)
section
variable {K : PySem.W.Frag} {f : Fr0} {Z Z' H H' : Hp} {fp : Nat → List Addr} {s s' : DSt} {σ : L2.St} {E : DEn} {D : Ends}
theorem EndsOk.from (h : EndsOk K f Z E D) (zz : Same Z Z') : EndsOk K f Z' E D :=
  ⟨fun Z2 a b c d z => h.nx Z2 a b c d (zz.trans z), fun o Z2 a b c d v A z => h.rt o Z2 a b c d v A (zz.trans z), fun Z2 a b c d z => h.bk Z2 a b c d (zz.trans z), fun Z2 a b c d z => h.ct Z2 a b c d (zz.trans z)⟩
end
theorem DEn.Le.rfl' {E : DEn} : DEn.Le E E := ⟨fun _ h => h, fun _ h => h, fun _ h => h, fun _ h => h⟩

section
variable {X : Cx} {st : Stmt} {rest : List Stmt} {t u : DTS} {e : Expr} {te : DTE} {pos : Pos} {N : List Str} {sc : Scope} {k : Nat} {dd : Bool}
def sNext : DTS := fun E s => E.nx s
def sSeq (t u : DTS) : DTS := fun E s => t { E with nx := u E } s
theorem dss_nil : DSs X [] sNext := ⟨fun E E' s l h => l.nx _ h, PSs.weak pss_nil fun D σ H ⟨f, Z, fp, s, E, r, h, ok⟩ => ok.nx _ _ _ _ _ Same.rfl' r h⟩
theorem dss_cons (h1 : DS X st t) (h2 : DSs X rest u) : DSs X (st :: rest) (sSeq t u) := by
  refine ⟨fun E E' s l h => h1.mono { E with nx := u E } { E' with nx := u E' } s ⟨fun s q => h2.mono _ _ _ l q, l.rt, l.bk, l.ct⟩ h, PSs.weak (pss_cons h1.ps h2.pss) fun D σ H ⟨f, Z, fp, s, E, r, h, ok⟩ => ?_⟩
  exact ⟨f, Z, fp, s, _, r, h, ⟨fun Z' fp' s' σ' H' zz r' q => ⟨f, Z', fp', s', E, r', q, ok.from zz⟩, ok.rt, ok.bk, ok.ct⟩⟩
theorem dss_one (h1 : DS X st t) : DSs X [st] t := ⟨h1.mono, pss_one h1.ps⟩
def sBreak : DTS := fun E s => E.bk s
def sCont : DTS := fun E s => E.ct s
theorem ds_pass : DS X (.Pass pos) sNext := ⟨fun E E' s l h => l.nx _ h, PS.weak ps_pass fun D σ H ⟨f, Z, fp, s, E, r, h, ok⟩ => ok.nx _ _ _ _ _ Same.rfl' r h⟩
theorem ds_break : DS X (.Break pos) sBreak := ⟨fun E E' s l h => l.bk _ h, PS.weak ps_break fun D σ H ⟨f, Z, fp, s, E, r, h, ok⟩ => ok.bk _ _ _ _ _ Same.rfl' r h⟩
theorem ds_cont : DS X (.Continue pos) sCont := ⟨fun E E' s l h => l.ct _ h, PS.weak ps_continue fun D σ H ⟨f, Z, fp, s, E, r, h, ok⟩ => ok.ct _ _ _ _ _ Same.rfl' r h⟩
theorem ds_doc {x : Str} {j : Nat} {pos' : Pos} : DS X (.Expr (.Constant (.str x) j pos) pos') sNext := ⟨fun E E' s l h => l.nx _ h, PS.weak ps_doc fun D σ H ⟨f, Z, fp, s, E, r, h, ok⟩ => ok.nx _ _ _ _ _ Same.rfl' r h⟩
def sNever : DTS := fun _ _ => False
theorem ds_never : DS X st sNever := ⟨fun _ _ _ _ h => h.elim, PS.weak ps_never fun D σ H ⟨f, Z, fp, s, E, r, h, ok⟩ => h.elim⟩
def sDrop (t : DTE) : DTS := fun E s => t s fun _ s' => E.nx s'
theorem ds_expr (he : DE X e te) (hs : swapsWith e none pos.line X.env = pure false) : DS X (.Expr e pos) (sDrop te) :=
  ⟨fun E E' s l h => he.mono _ _ _ (fun _ s' q => l.nx _ q) h, PS.weak (ps_expr he.pe hs) fun D σ H ⟨f, Z, fp, s, E, r, h, ok⟩ =>
    he.go r h fun o s' Z' fp' v H' zz r' p q => ok.nx _ _ _ _ _ zz r' q⟩
def sRet (t : DTE) : DTS := fun E s => t s fun o _ => E.rt o
theorem ds_ret (he : DE X e te) : DS X (.Return (some e) pos) (sRet te) :=
  ⟨fun E E' s l h => he.mono _ _ _ (fun o s' q => l.rt _ q) h, PS.weak (ps_ret he.pe) fun D σ H ⟨f, Z, fp, s, E, r, h, ok⟩ =>
    ⟨f, Z, fp, s, r, he.mono _ _ _ (fun o s' q Z' fp' v H' A zz r' p n hA => ok.rt _ _ _ _ _ _ _ _ zz r' p n q) h⟩⟩
def sRetN : DTS := fun E _ => E.rt (.fz .none)
theorem ds_retN : DS X (.Return none pos) sRetN := ⟨fun E E' s l h => l.rt _ h, PS.weak ps_retN fun D σ H ⟨f, Z, fp, s, E, r, h, ok⟩ => ok.rt _ _ _ _ _ _ _ _ Same.rfl' r (.fz .non) .nil h⟩
def sIf (c : DTT) (t u : DTS) : DTS := fun E s => c s fun b s' => if b = true then t E s' else u E s'
theorem ds_if {c : Expr} {a b : List Stmt} {tc : DTT} (hc : DT X c tc) (ha : DSs X a t) (hb : DSs X b u) : DS X (.If c a b pos) (sIf tc t u) :=
  ⟨fun E E' s l h => hc.mono _ _ _ (fun k s' q => by
    cases k with
    | true => exact ha.mono _ _ _ l q
    | false => exact hb.mono _ _ _ l q) h, PS.weak (ps_if hc.pt ha.pss hb.pss) fun D σ H ⟨f, Z, fp, s, E, r, h, ok⟩ => hc.go r h fun k s' Z' fp' H' zz r' q => by
    cases k with
    | true => exact ⟨f, Z', fp', s', E, r', q, ok.from zz⟩
    | false => exact ⟨f, Z', fp', s', E, r', q, ok.from zz⟩⟩

/-! ### slots are given worths -/
def OV.sv : OV → SV
  | .fz d => .dat d
  | .lst ds => .own (.lst ds)
  | .dct es => .own (.dct es)
  | .tup os => .own (.tup os)
theorem sok_of {K : PySem.W.Frag} {f : Fr0} {Z H : Hp} {v : V} {o : OV} {A : List Addr} (p : ORp K f Z H v o A) (n : A.Nodup) : SOk K f Z H (some (some v)) o.sv A := by
  cases o with
  | fz d => cases p with | fz q => exact .dat q
  | lst ds => exact .own p n
  | dct ds => exact .own p n
  | tup ds => exact .own p n
def sAsg (i : Nat) (t : DTE) : DTS := fun E s => t s fun o s' => i < s'.length ∧ E.nx (s'.set i o.sv)
theorem ds_set (hc : XC N sc k dd X) (i : Nat) {x : Str} {pos' : Pos} (hx : N[i]? = some x) (hl : tgOk dd sc x = true) (he : DE X e te) (hs : swapsWith e (some (.Name x pos')) pos.line X.env = pure false) :
    DS X (.Assign [.Name x pos'] e pos) (sAsg i te) := by
  refine ⟨fun E E' s l h => he.mono _ _ _ (fun o s' ⟨z, q⟩ => ⟨z, l.nx _ q⟩) h, PS.weak (ps_set (hc.hN ▸ hc.nd) (hc.hN ▸ hx) (hc.hS ▸ tg_loc hl) he.pe hs (tg_fn hc hl)) fun D σ H ⟨f, Z, fp, s, E, r, h, ok⟩ => ?_⟩
  refine ⟨f, Z, fp, s, r, he.mono _ _ _ (fun o s' ⟨z, q⟩ Z' fp' v H' A zz r' p n hA => ?_) h⟩
  exact ok.nx _ _ _ _ _ zz (r'.put i (by rw [← r'.len]; exact z) (sok_of p n) fun j _ a ha => hA j a ha) q
/-- the pool of a cell -/
def sAsgP (i : Nat) (t : DTE) : DTS := fun E s => t s fun o s' => ∃ x y : Int, o = .lst [.int x, .int y] ∧ 0 ≤ x ∧ 0 ≤ y ∧ y < 2147483647 ∧ i < s'.length ∧ E.nx (s'.set i .pool)
theorem ds_setP (hc : XC N sc k dd X) (i : Nat) {x : Str} {pos' : Pos} (hx : N[i]? = some x) (hl : tgOk dd sc x = true) (he : DE X e te) (hs : swapsWith e (some (.Name x pos')) pos.line X.env = pure false) :
    DS X (.Assign [.Name x pos'] e pos) (sAsgP i te) := by
  refine ⟨fun E E' s l h => he.mono _ _ _ (fun o s' ⟨a, b, z, z1, z2, z3, z4, q⟩ => ⟨a, b, z, z1, z2, z3, z4, l.nx _ q⟩) h, PS.weak (ps_set (hc.hN ▸ hc.nd) (hc.hN ▸ hx) (hc.hS ▸ tg_loc hl) he.pe hs (tg_fn hc hl)) fun D σ H ⟨f, Z, fp, s, E, r, h, ok⟩ => ?_⟩
  refine ⟨f, Z, fp, s, r, he.mono _ _ _ (fun o s' ⟨a, b, z, z1, z2, z3, z4, q⟩ Z' fp' v H' A zz r' p n hA => ?_) h⟩
  subst z
  cases p with
  | lst fr e w =>
    cases w with
    | cons w1 w =>
      cases w with
      | cons w2 w =>
        cases w
        cases w1.int_inv
        cases w2.int_inv
        refine ok.nx _ _ _ _ _ zz (r'.put i (by rw [← r'.len]; exact z4) (.pool fr.1 fr.2.2 ⟨a, b, e, z1, z2, z3⟩) fun j _ c hc => hA j c hc) q
/-- several names -/
def gNames : List Nat → TGs
  | [] => gNil
  | i :: is => gCons (gName i) (gNames is)
def putAll : List Nat → List OV → DSt → DSt
  | i :: is, o :: os, s => putAll is os (s.set i o.sv)
  | _, _, s => s
/-- all but these slots is as it was -/
def Out (is : List Nat) (σ σ' : L2.St) : Prop := σ'.length = σ.length ∧ ∀ j, j ∉ is → σ'[j]? = σ[j]?
theorem puts {K : PySem.W.Frag} {f : Fr0} {Z H : Hp} {Q : L2.St → Hp → Prop} : ∀ (is : List Nat) (vs : List V) (os : List OV) (A : List Addr) (fp : Nat → List Addr) (s : DSt) (σ : L2.St), R K f Z fp s σ H → ORpA K f Z H vs os A → A.Nodup →
    (∀ i, ∀ a ∈ A, a ∉ fp i) → is.length = os.length → (∀ i ∈ is, i < s.length) → (∀ fp' σ', R K f Z fp' (putAll is os s) σ' H → Out is σ σ' → Q σ' H) → gNames is vs σ H Q
  | [], _, [], _, fp, s, σ, r, .nil, _, _, _, _, k => ⟨rfl, k _ _ r ⟨rfl, fun _ _ => rfl⟩⟩
  | i :: is, _, o :: os, _, fp, s, σ, r, .cons (v := v) (vs := vs) (A := A) (B := B) p q, n, hA, hl, hi, k => by
    have hn := List.nodup_append.mp n
    have r1 := r.put (i := i) (x := some v) (by rw [← r.len]; exact hi i (by simp)) (sok_of p hn.1) fun j _ a ha => hA j a (List.mem_append_left _ ha)
    refine ⟨v, vs, rfl, puts is vs os B _ _ _ r1 q hn.2.1 (fun j a ha => ?_) (by simpa using hl) (fun j hj => by simpa using hi j (by simp [hj])) fun fp' σ' r' h => k fp' σ' r' ?_⟩
    · split
      · intro h
        exact hn.2.2 a h a ha rfl
      · exact hA j a (List.mem_append_right _ ha)
    · obtain ⟨h1, h2⟩ := h
      refine ⟨h1.trans (List.length_set ..), fun j hj => ?_⟩
      simp only [List.mem_cons, not_or] at hj
      rw [h2 j hj.2, List.getElem?_set_ne (Ne.symm hj.1)]
def OV.parts : OV → Option (List OV)
  | .fz (.tuple ds) => some (ds.map .fz)
  | .tup os => some os
  | _ => none
theorem fzAll {K : PySem.W.Frag} {f : Fr0} {Z H : Hp} : ∀ {vs : List V} {ds : List PyData}, RpA K Z vs ds → ORpA K f Z H vs (ds.map .fz) []
  | _, _, .nil => .nil
  | _, _, .cons a b => .cons (A := []) (B := []) (.fz a) (fzAll b)
theorem parts_of {K : PySem.W.Frag} {f : Fr0} {Z H : Hp} {v : V} {o : OV} {os : List OV} {A : List Addr} (zh : Same Z H) (p : ORp K f Z H v o A) (h : o.parts = some os) : ∃ a vs, v = .ref a ∧ SqT K H a vs ∧ ORpA K f Z H vs os A := by
  cases p with
  | fz q =>
    cases q with
    | tup q w =>
      cases h
      exact ⟨_, _, rfl, (DL.Le.of zh).sqT q, fzAll w⟩
    | _ => cases h
  | tup e q =>
    cases h
    exact ⟨_, _, rfl, .of (zh _ _ e), q⟩
  | lst _ _ _ => cases h
  | dct _ _ _ => cases h
theorem ORpA.length {K : PySem.W.Frag} {f : Fr0} {Z H : Hp} : ∀ {vs : List V} {os : List OV} {A : List Addr}, ORpA K f Z H vs os A → vs.length = os.length
  | _, _, _, .nil => rfl
  | _, _, _, .cons _ b => congrArg Nat.succ (ORpA.length b)
def sUnp (is : List Nat) (t : DTE) : DTS := fun E s => t s fun o s' => ∃ os, o.parts = some os ∧ is.length = os.length ∧ is.all (fun i => decide (i < s'.length)) = true ∧ E.nx (putAll is os s')
/-- a target of several names -/
inductive Nms (X : Cx) : List Expr → List Nat → Prop
  | nil : Nms X [] []
  | cons {x : Str} {i : Nat} {es : List Expr} {is : List Nat} {p : Pos} : PG X (.Name x p) (gName i) → Nms X es is → Nms X (.Name x p :: es) (i :: is)
theorem Nms.pgs : ∀ {es : List Expr} {is : List Nat}, Nms X es is → PGs X es (gNames is)
  | _, _, .nil => pgs_nil
  | _, _, .cons a b => pgs_cons a b.pgs
theorem pg_of (hc : XC N sc k dd X) (i : Nat) {x : Str} {p : Pos} (hx : N[i]? = some x) (hl : tgOk dd sc x = true) : PG X (.Name x p) (gName i) := pg_name (hc.hN ▸ hc.nd) (hc.hN ▸ hx) (hc.hS ▸ tg_loc hl) (tg_fn hc hl)
theorem ds_unp (hc : XC N sc k dd X) {es : List Expr} {is : List Nat} {k1 : Nat} {p1 : Pos} (hn : Nms X es is) (he : DE X e te) (h1 : (assignEach es X.env).length = is.length) (h2 : (assignEach es X.env).findIdx? (·.1) = none)
    (hs : swapsWithSole [.Tuple es k1 p1] e pos.line X.env = pure false) (hw : swappedStores [.Tuple es k1 p1] e X.env = pure none) : DS X (.Assign [.Tuple es k1 p1] e pos) (sUnp is te) := by
  refine ⟨fun E E' s l h => he.mono _ _ _ (fun o s' ⟨os, z1, z2, z3, q⟩ => ⟨os, z1, z2, z3, l.nx _ q⟩) h, PS.weak (ps_asg he.pe (pg_tup hc.calm hn.pgs h1 h2) hs hw) fun D σ H ⟨f, Z, fp, s, E, r, h, ok⟩ => ?_⟩
  refine ⟨f, Z, fp, s, r, he.mono _ _ _ (fun o s' ⟨os, z1, z2, z3, q⟩ Z' fp' v H' A zz r' p n hA => ?_) h⟩
  obtain ⟨a, vs, rfl, hq, w⟩ := parts_of r'.zh p z1
  refine ⟨a, vs, rfl, hq, by rw [w.length, z2], puts is vs os A fp' s' σ r' w n hA z2 (fun i hi => ?_) fun fp2 σ2 r2 _ => ok.nx _ _ _ _ _ zz r2 q⟩
  exact of_decide_eq_true (List.all_eq_true.mp z3 i hi)

/-! ### what is walked -/
abbrev DTI := DSt → (List PyData → DSt → Prop) → Prop
def Yl (K : PySem.W.Frag) (Z2 H : Hp) (x : V) (H' : Hp) (d : PyData) : Prop := ∃ Z3, Same Z2 Z3 ∧ Same Z3 H' ∧ Same H H' ∧ Rp K Z3 x d ∧ ∀ a, H a ≠ none → Z2 a = none → Z3 a = none
def Walks (K : PySem.W.Frag) (Z : Hp) (ds : List PyData) (J : It) : Prop := ∀ Z2 H, Same Z Z2 → Same Z2 H → ∀ i, (∀ d, ds[i]? = some d → J.go i H ∧ ∀ x H', J.yld i H x H' → Yl K Z2 H x H' d) ∧ (ds.length ≤ i → J.stop i H)
def liftI (K : PySem.W.Frag) (t : DTI) : TI := fun σ H Q => ∃ f Z fp s, R K f Z fp s σ H ∧ t s fun ds s' => ∀ Z' fp' J H', Same Z Z' → R K f Z' fp' s' σ H' → Walks K Z' ds J → Q J H'
structure DI (X : Cx) (tg iter : Expr) (t : DTI) : Prop where
  mono : ∀ s Q Q', (∀ o s', Q o s' → Q' o s') → t s Q → t s Q'
  pi : PI X tg iter (liftI X.K t)
theorem PI.weak {tg iter : Expr} {t t' : TI} (h : PI X tg iter t) (i : ∀ σ H Q, t' σ H Q → t σ H Q) : PI X tg iter t' := ⟨fun p s σ H Q I q => h.run p s σ H Q I (i _ _ _ q)⟩
theorem Yl.same {K : PySem.W.Frag} {Z H : Hp} {x : V} {d : PyData} (zh : Same Z H) (p : Rp K Z x d) : Yl K Z H x H d := ⟨Z, Same.rfl', zh, Same.rfl', p, fun _ _ h => h⟩
theorem SqL.inj' {K : PySem.W.Frag} {H : Hp} {a : Addr} {xs ys : List V} (h : Rd H a (.lst xs)) (h' : Rd H a (.lst ys)) : xs = ys := by
  rcases h with h | ⟨o, h⟩ <;> rcases h' with h' | ⟨o', h'⟩ <;> rw [h] at h' <;> cases h' <;> rfl
/-- what yields data -/
def iSeq (t : DTE) : DTI := fun s Q => t s fun o s' => ∃ ds, o.data = .list ds ∧ Q ds s'
def iTupD (t : DTE) : DTI := fun s Q => t s fun o s' => ∃ ds, o.data = .tuple ds ∧ Q ds s'
theorem di_list {tg : Expr} (he : DE X e te) : DI X tg e (iSeq te) := by
  refine ⟨fun s Q Q' hq h => he.mono _ _ _ (fun o s' ⟨ds, z, q⟩ => ⟨ds, z, hq _ _ q⟩) h, PI.weak (pi_list he.pe) fun σ H Q ⟨f, Z, fp, s, r, h⟩ => ?_⟩
  refine he.go r h fun o s' Z' fp' v H' zz r' p ⟨ds, z, q⟩ => ?_
  rw [z] at p
  cases p with
  | lst hq w =>
    rename_i a xs
    refine ⟨a, rfl, ⟨xs, (Le.of r'.zh).sqL hq⟩, q _ _ _ _ zz r' fun Z2 H2 z2 zh2 i => ⟨fun d hd => ?_, fun hi => ⟨xs, (Le.of zh2).sqL ((Le.of z2).sqL hq), by rw [w.length]; exact hi⟩⟩⟩
    obtain ⟨y, hy, py⟩ := w.get hd
    refine ⟨⟨xs, y, (Le.of zh2).sqL ((Le.of z2).sqL hq), hy⟩, fun x H3 hh => ?_⟩
    obtain ⟨rfl, hx⟩ := hh
    have := hx xs ((Le.of zh2).sqL ((Le.of z2).sqL hq))
    rw [hy] at this
    cases this
    exact Yl.same zh2 (py.up z2)
theorem di_tup {tg : Expr} (he : DE X e te) : DI X tg e (iTupD te) := by
  refine ⟨fun s Q Q' hq h => he.mono _ _ _ (fun o s' ⟨ds, z, q⟩ => ⟨ds, z, hq _ _ q⟩) h, PI.weak (pi_tup he.pe) fun σ H Q ⟨f, Z, fp, s, r, h⟩ => ?_⟩
  refine he.go r h fun o s' Z' fp' v H' zz r' p ⟨ds, z, q⟩ => ?_
  rw [z] at p
  cases p with
  | tup hq w =>
    rename_i a xs
    refine ⟨a, rfl, ⟨xs, (Le.of r'.zh).sqT hq⟩, q _ _ _ _ zz r' fun Z2 H2 z2 zh2 i => ⟨fun d hd => ?_, fun hi => ⟨xs, (Le.of zh2).sqT ((Le.of z2).sqT hq), by rw [w.length]; exact hi⟩⟩⟩
    obtain ⟨y, hy, py⟩ := w.get hd
    refine ⟨⟨xs, y, (Le.of zh2).sqT ((Le.of z2).sqT hq), hy⟩, fun x H3 hh => ?_⟩
    obtain ⟨rfl, hx⟩ := hh
    have := hx xs ((Le.of zh2).sqT ((Le.of z2).sqT hq))
    rw [hy] at this
    cases this
    exact Yl.same zh2 (py.up z2)
def ups (lo : Int) (n : Nat) : List PyData := (List.range n).map fun i : Nat => PyData.int (lo + (i : Int))
theorem walks_range {K : PySem.W.Frag} {Z : Hp} {lo : Int} {n : Nat} : Walks K Z (ups lo n) (Itr lo n) := fun Z2 H2 z2 zh2 i => by
  refine ⟨fun d hd => ?_, fun hi => (show n ≤ i by simpa [ups] using hi)⟩
  unfold ups at hd
  rw [List.getElem?_map] at hd
  have hi : i < n := by
    rcases Nat.lt_or_ge i n with z | z
    · exact z
    · rw [List.getElem?_eq_none (by simpa using z)] at hd
      cases hd
  rw [List.getElem?_range hi] at hd
  cases hd
  refine ⟨hi, fun x H3 hh => ?_⟩
  obtain ⟨rfl, rfl⟩ := hh
  exact Yl.same zh2 (.int _)
def iRange1 (ta : DTA) : DTI := fun s Q => ta s fun ds s' => ∃ j : Int, ds = [.int j] ∧ -(2 ^ 62) ≤ j ∧ j < 2 ^ 62 ∧ Q (ups 0 j.toNat) s'
theorem di_range1 {tg a : Expr} {ta : DTA} {p : Pos} (hg : Gl X "range") (hm : X.mg "range" = none) (ha : DA X [a] ta) (hs : starEach [a] X.env = [(false, eval a X.env)]) : DI X tg (.Call (.Name "range" p) [a] [] pos) (iRange1 ta) := by
  refine ⟨fun s Q Q' hq h => ha.mono _ _ _ (fun o s' ⟨ds, z, z1, z2, q⟩ => ⟨ds, z, z1, z2, hq _ _ q⟩) h, PI.weak (pi_range1 hg hm ha.pa hs) fun σ H Q ⟨f, Z, fp, s, r, h⟩ => ?_⟩
  refine ha.go r h fun ds s' Z' fp' v H' zz r' p ⟨j, z, z1, z2, q⟩ => ?_
  subst z
  cases p with
  | cons p1 p =>
    cases p
    cases p1.int_inv
    exact ⟨j, rfl, z1, z2, q _ _ _ _ zz r' walks_range⟩
def iRange2 (ta : DTA) : DTI := fun s Q => ta s fun ds s' => ∃ i j : Int, ds = [.int i, .int j] ∧ (-(2 ^ 62) ≤ i ∧ i < 2 ^ 62 ∧ -(2 ^ 62) ≤ j ∧ j < 2 ^ 62) ∧ Q (ups i (j - i).toNat) s'
theorem di_range2 {tg a b : Expr} {ta : DTA} {p : Pos} (hg : Gl X "range") (hm : X.mg "range" = none) (ha : DA X [a, b] ta) (hs : starEach [a, b] X.env = [(false, eval a X.env), (false, eval b X.env)]) (hs2 : starEach [b] X.env = [(false, eval b X.env)]) :
    DI X tg (.Call (.Name "range" p) [a, b] [] pos) (iRange2 ta) := by
  refine ⟨fun s Q Q' hq h => ha.mono _ _ _ (fun o s' ⟨i, ds, z, z1, q⟩ => ⟨i, ds, z, z1, hq _ _ q⟩) h, PI.weak (pi_range2 hg hm ha.pa hs hs2) fun σ H Q ⟨f, Z, fp, s, r, h⟩ => ?_⟩
  refine ha.go r h fun ds s' Z' fp' v H' zz r' p ⟨i, j, z, z1, q⟩ => ?_
  subst z
  cases p with
  | cons p1 p =>
    cases p with
    | cons p2 p =>
      cases p
      cases p1.int_inv
      cases p2.int_inv
      exact ⟨i, j, rfl, z1, q _ _ _ _ zz r' walks_range⟩
theorem Walks.up {K : PySem.W.Frag} {Z Z' : Hp} {ds : List PyData} {J : It} (h : Walks K Z ds J) (zz : Same Z Z') : Walks K Z' ds J := fun Z2 H z => h Z2 H (zz.trans z)
/-- a turn's item comes -/
theorem R.item {K : PySem.W.Frag} {f : Fr0} {Z H H' : Hp} {fp : Nat → List Addr} {s : DSt} {σ : L2.St} {x : V} {d : PyData} (r : R K f Z fp s σ H) (y : Yl K Z H x H' d) : ∃ Z', Same Z Z' ∧ R K f Z' fp s σ H' ∧ Rp K Z' x d := by
  obtain ⟨Z3, z1, z2, z3, p, z4⟩ := y
  exact ⟨Z3, z1, r.grow (fun _ => False) z2 z1 (fun _ z => z.elim) (fun a o e _ => z3 _ _ e) (fun a h1 h2 _ => z4 a h1 h2) (fun _ z => z.elim), p⟩

/-! ### targets of a walk -/
abbrev DG := PyData → DSt → (DSt → Prop) → Prop
structure GD (X : Cx) (tg : Expr) (is : List Nat) (g : TG) (gd : DG) : Prop where
  mono : ∀ d s Q Q', (∀ s', Q s' → Q' s') → gd d s Q → gd d s Q'
  pg : PG X tg g
  go : ∀ {f Z fp s σ H v d Q Qh}, R X.K f Z fp s σ H → Rp X.K Z v d → gd d s Q → (∀ fp' s' σ', R X.K f Z fp' s' σ' H → Out is σ σ' → Q s' → Qh σ' H) → g v σ H Qh
def gN (i : Nat) : DG := fun d s Q => i < s.length ∧ Q (s.set i (.dat d))
theorem gd_name (hc : XC N sc k dd X) (i : Nat) {x : Str} {p : Pos} (hx : N[i]? = some x) (hl : tgOk dd sc x = true) : GD X (.Name x p) [i] (gName i) (gN i) :=
  ⟨fun d s Q Q' hq h => ⟨h.1, hq _ h.2⟩, pg_of hc i hx hl, fun r p h k => k _ _ _ (r.putDat i (by rw [← r.len]; exact h.1) p) ⟨List.length_set .., fun j hj => List.getElem?_set_ne (fun e => hj (by simp [e]))⟩ h.2⟩
def gT (is : List Nat) : DG := fun d s Q => ∃ ds, d = .tuple ds ∧ is.length = ds.length ∧ is.all (fun i => decide (i < s.length)) = true ∧ Q (putAll is (ds.map .fz) s)
theorem gd_tup (hc : XC N sc k dd X) {es : List Expr} {is : List Nat} {k1 : Nat} {p1 : Pos} (hn : Nms X es is) (h1 : (assignEach es X.env).length = is.length) (h2 : (assignEach es X.env).findIdx? (·.1) = none) :
    GD X (.Tuple es k1 p1) is (gTup X.K is.length (gNames is)) (gT is) := by
  refine ⟨fun d s Q Q' hq ⟨ds, z1, z2, z3, q⟩ => ⟨ds, z1, z2, z3, hq _ q⟩, pg_tup hc.calm hn.pgs h1 h2, fun {f Z fp s σ H v d Q Qh} r p h k => ?_⟩
  obtain ⟨ds, z1, z2, z3, q⟩ := h
  subst z1
  cases p with
  | tup hq w =>
    refine ⟨_, _, rfl, (Le.of r.zh).sqT hq, by rw [w.length, z2], puts is _ (ds.map .fz) [] fp s σ r (fzAll w) .nil (by simp) (by simpa using z2) (fun i hi => of_decide_eq_true (List.all_eq_true.mp z3 i hi)) fun fp' σ' r' o => k _ _ _ r' o q⟩

/-! ### for -/
def forW (g : DG) (body : DTS) : List PyData → DEn → DSt → Prop
  | [], E, s => E.nx s
  | d :: ds, E, s => g d s fun s1 => body { nx := forW g body ds E, rt := E.rt, bk := E.nx, ct := forW g body ds E } s1
theorem forW_mono {g : DG} {body : DTS} (hg : ∀ d s Q Q', (∀ s', Q s' → Q' s') → g d s Q → g d s Q') (hb : ∀ E E' s, DEn.Le E E' → body E s → body E' s) {E E' : DEn} (l : DEn.Le E E') :
    ∀ (ds : List PyData) (s : DSt), forW g body ds E s → forW g body ds E' s
  | [], s, h => l.nx _ h
  | d :: ds, s, h => hg _ _ _ _ (fun s1 q => hb { nx := forW g body ds E, rt := E.rt, bk := E.nx, ct := forW g body ds E } { nx := forW g body ds E', rt := E'.rt, bk := E'.nx, ct := forW g body ds E' } s1
    ⟨fun s' w => forW_mono hg hb l ds s' w, l.rt, l.nx, fun s' w => forW_mono hg hb l ds s' w⟩ q) h
def sFor (wi : DTI) (g : DG) (body : DTS) : DTS := fun E s => wi s fun ds s' => forW g body ds E s'
theorem ds_for (hc : XC N sc k dd X) {tg iter : Expr} {body : List Stmt} {is : List Nat} {wi : DTI} {g : TG} {gd : DG} {tb : DTS} (hi : DI X tg iter wi) (hg : GD X tg is g gd) (hb : DSs X body tb)
    (hs : ∀ x, foldedSetIterable iter X.env x = pure x) : DS X (.For tg iter body [] pos) (sFor wi gd tb) := by
  refine ⟨fun E E' s l h => hi.mono _ _ _ (fun ds s' q => forW_mono hg.mono hb.mono l ds s' q) h, PS.weak (ps_for hc.po hc.calm hi.pi hg.pg hb.pss hs) fun D σ H ⟨f, Z, fp, s, E, r, h, ok⟩ => ?_⟩
  refine ⟨f, Z, fp, s, r, hi.mono _ _ _ (fun ds s' q Z1 fp1 J H1 zz r1 w => ?_) h⟩
  refine ⟨fun i m σ H => m = ds.length - i ∧ i ≤ ds.length ∧ ∃ Z2 fp2 s2, Same Z1 Z2 ∧ R X.K f Z2 fp2 s2 σ H ∧ forW gd tb (ds.drop i) E s2, ⟨ds.length, by simp, Nat.zero_le _, Z1, fp1, s', Same.rfl', r1, q⟩, ?_⟩
  rintro i m σ2 H2 ⟨rfl, hi2, Z2, fp2, s2, z2, r2, q2⟩
  rcases Nat.lt_or_ge i ds.length with hlt | hge
  · refine .inr ?_
    have hd : ds[i]? = some ds[i] := List.getElem?_eq_getElem hlt
    have hw := (w Z2 H2 z2 r2.zh i).1 _ hd
    refine ⟨hw.1, fun σ' H' => ∃ Z3 fp3 s3, Same Z1 Z3 ∧ R X.K f Z3 fp3 s3 σ' H' ∧ forW gd tb (ds.drop (i + 1)) E s3, fun σ' H' hh => ⟨ds.length - (i + 1), by omega, rfl, hlt, hh⟩, fun x H3 y => ?_⟩
    rw [List.drop_eq_getElem_cons hlt] at q2
    obtain ⟨Z3, z3, r3, p3⟩ := r2.item (hw.2 x H3 y)
    refine hg.go r3 p3 q2 fun fp4 s4 σ4 r4 _ q4 => ?_
    refine ⟨f, Z3, fp4, s4, _, r4, q4, ⟨fun Z' fp' s' σ' H' zz' r' q' => ⟨Z', fp', s', z2.trans (z3.trans zz'), r', q'⟩, fun o Z' fp' s' σ' H' v A zz' => ok.rt o Z' fp' s' σ' H' v A (zz.trans (z2.trans (z3.trans zz'))),
      fun Z' fp' s' σ' H' zz' r' q' => ok.nx Z' fp' s' σ' H' (zz.trans (z2.trans (z3.trans zz'))) r' q', fun Z' fp' s' σ' H' zz' r' q' => ⟨Z', fp', s', z2.trans (z3.trans zz'), r', q'⟩⟩⟩
  · have e : i = ds.length := by omega
    subst e
    rw [List.drop_length] at q2
    exact .inl ⟨(w Z2 H2 z2 r2.zh _).2 (Nat.le_refl _), ok.nx _ _ _ _ _ (zz.trans z2) r2 q2⟩
/-- while: as many turns as the fuel tells -/
def whW (c : DTT) (body : DTS) : Nat → DEn → DSt → Prop
  | 0, _, _ => False
  | n + 1, E, s => c s fun b s1 => if b = true then body { nx := whW c body n E, rt := E.rt, bk := E.nx, ct := whW c body n E } s1 else E.nx s1
theorem whW_mono {c : DTT} {body : DTS} (hc : ∀ s Q Q', (∀ o s', Q o s' → Q' o s') → c s Q → c s Q') (hb : ∀ E E' s, DEn.Le E E' → body E s → body E' s) {E E' : DEn} (l : DEn.Le E E') :
    ∀ (n : Nat) (s : DSt), whW c body n E s → whW c body n E' s
  | 0, s, h => h
  | n + 1, s, h => by
    refine hc _ _ _ (fun b s1 q => ?_) h
    cases b with
    | true =>
      refine hb { nx := whW c body n E, rt := E.rt, bk := E.nx, ct := whW c body n E } { nx := whW c body n E', rt := E'.rt, bk := E'.nx, ct := whW c body n E' } s1 ?_ q
      exact ⟨fun s' w => whW_mono hc hb l n s' w, l.rt, l.nx, fun s' w => whW_mono hc hb l n s' w⟩
    | false => exact l.nx _ q
def sWhile (c : DTT) (body : DTS) : DTS := fun E s => ∃ n, whW c body n E s
theorem ds_while (hc : XC N sc k dd X) {c : Expr} {body : List Stmt} {tc : DTT} {tb : DTS} (h1 : DT X c tc) (hb : DSs X body tb) : DS X (.While c body [] pos) (sWhile tc tb) := by
  refine ⟨fun E E' s l ⟨n, h⟩ => ⟨n, whW_mono h1.mono hb.mono l n s h⟩, PS.weak (ps_while hc.po h1.pt hb.pss) fun D σ H ⟨f, Z, fp, s, E, r, ⟨n, h⟩, ok⟩ => ?_⟩
  refine ⟨fun m σ H => ∃ Z2 fp2 s2, Same Z Z2 ∧ R X.K f Z2 fp2 s2 σ H ∧ whW tc tb m E s2, ⟨n, Z, fp, s, Same.rfl', r, h⟩, ?_⟩
  rintro m σ2 H2 ⟨Z2, fp2, s2, z2, r2, q2⟩
  cases m with
  | zero => exact q2.elim
  | succ m =>
    refine h1.go r2 q2 fun b s3 Z3 fp3 H3 z3 r3 q3 => ?_
    cases b with
    | true =>
      refine ⟨fun σ' H' => ∃ Z4 fp4 s4, Same Z Z4 ∧ R X.K f Z4 fp4 s4 σ' H' ∧ whW tc tb m E s4, fun σ' H' hh => ⟨m, Nat.lt_succ_self m, hh⟩, ?_⟩
      refine ⟨f, Z3, fp3, s3, _, r3, q3, ⟨fun Z' fp' s' σ' H' zz' r' q' => ⟨Z', fp', s', z2.trans (z3.trans zz'), r', q'⟩, fun o Z' fp' s' σ' H' v A zz' => ok.rt o Z' fp' s' σ' H' v A (z2.trans (z3.trans zz')),
        fun Z' fp' s' σ' H' zz' r' q' => ok.nx Z' fp' s' σ' H' (z2.trans (z3.trans zz')) r' q', fun Z' fp' s' σ' H' zz' r' q' => ⟨Z', fp', s', z2.trans (z3.trans zz'), r', q'⟩⟩⟩
    | false => exact ok.nx _ _ _ _ _ (z2.trans z3) r3 q3
end
end L2.DL

set_option maxRecDepth 100000
set_option maxHeartbeats 2000000
namespace L2.DL
open PySem PySem.Spec

/-! ### comprehensions -/
def forgetAll : List Nat → DSt → DSt
  | [], s => s
  | v :: vs, s => (forgetAll vs s).set v .no
theorem forgetAll_len (s : DSt) : ∀ vs : List Nat, (forgetAll vs s).length = s.length
  | [] => rfl
  | v :: vs => by unfold forgetAll; rw [List.length_set, forgetAll_len s vs]
theorem forgetAll_in {s : DSt} {i : Nat} : ∀ {vs : List Nat}, i ∈ vs → (forgetAll vs s).getD i .no = .no
  | v :: vs, h => by
    unfold forgetAll
    by_cases hi : i = v
    · subst hi
      rw [List.getD_eq_getElem?_getD]
      by_cases hl : i < (forgetAll vs s).length
      · rw [List.getElem?_set_self hl]
        rfl
      · rw [List.getElem?_eq_none (by simpa using Nat.le_of_not_lt hl)]
        rfl
    · rw [List.getD_eq_getElem?_getD, List.getElem?_set_ne (Ne.symm hi), ← List.getD_eq_getElem?_getD]
      exact forgetAll_in ((List.mem_cons.mp h).resolve_left hi)
theorem wipe_in {σ : L2.St} {i : Nat} : ∀ {vs : List Nat}, i ∈ vs → i < σ.length → (wipe σ vs)[i]? = some none
  | v :: vs, h, hl => by
    unfold wipe
    by_cases hi : i = v
    · subst hi
      rw [List.getElem?_set_self (by rw [wipe_length]; exact hl)]
    · rw [List.getElem?_set_ne (Ne.symm hi)]
      exact wipe_in ((List.mem_cons.mp h).resolve_left hi) hl
theorem wipe_of {is vs : List Nat} {σ σ2 : L2.St} (h : Out is (wipe σ vs) σ2) (hs : ∀ i ∈ is, i ∈ vs) : wipe σ2 vs = wipe σ vs := by
  obtain ⟨h1, h2⟩ := h
  rw [wipe_length] at h1
  apply List.ext_getElem?
  intro j
  by_cases hj : j ∈ vs
  · by_cases hl : j < σ.length
    · rw [wipe_in hj (by rw [h1]; exact hl), wipe_in hj hl]
    · rw [List.getElem?_eq_none (by rw [wipe_length, h1]; exact Nat.le_of_not_lt hl), List.getElem?_eq_none (by rw [wipe_length]; exact Nat.le_of_not_lt hl)]
  · rw [wipe_out hj, h2 j fun q => hj (hs j q)]
section
variable {K : PySem.W.Frag} {f : Fr0} {Z Z' H H' : Hp} {fp : Nat → List Addr} {s s' : DSt} {σ : L2.St}
theorem R.wipe (r : R K f Z fp s σ H) : ∀ vs : List Nat, ∃ fp', R K f Z fp' (forgetAll vs s) (L2.wipe σ vs) H ∧ ∀ i, ∀ a ∈ fp' i, a ∈ fp i
  | [] => ⟨fp, r, fun _ _ h => h⟩
  | v :: vs => by
    obtain ⟨fp', r', h⟩ := R.wipe r vs
    refine ⟨_, r'.forget v none, fun i a ha => ?_⟩
    split at ha
    · cases ha
    · exact h i a ha
theorem R.unwipe {vs : List Nat} (r : R K f Z fp s (L2.wipe σ vs) H) (hs : ∀ i ∈ vs, s.getD i .no = .no) : R K f Z fp s σ H := by
  refine ⟨r.zh, r.z0, r.keep, r.nz, r.pok, r.len.trans (wipe_length _ _), fun i => ?_, r.apart⟩
  have q := r.slot i
  by_cases hi : i ∈ vs
  · have e := hs i hi
    generalize s.getD i .no = sv at q e ⊢
    generalize fp i = A at q ⊢
    generalize (L2.wipe σ vs)[i]? = oo at q
    subst e
    cases q
    exact .no
  · rw [wipe_out hi] at q
    exact q
/-- an object apart is changed -/
theorem R.poke (r : R K f Z fp s σ H) {D : Addr} (u : HO) (hf : Free f Z D) (hd : ∀ i, D ∉ fp i) : R K f Z fp s σ (upd H D u) := by
  obtain ⟨h1, h2, h3⟩ := hf
  refine ⟨fun a o e => ?_, r.z0, fun a o e1 e2 => ?_, r.nz, fun p hp => ⟨(r.pok p hp).1, ?_⟩, r.len, fun i => ?_, r.apart⟩
  · rw [upd_ne]
    · exact r.zh _ _ e
    · rintro rfl
      rw [h1] at e
      cases e
  · rw [upd_ne]
    · exact r.keep _ _ e1 e2
    · rintro rfl
      exact h3.elim e2 fun z => by rw [e1] at z; cases z
  · obtain ⟨x, y, e, q⟩ := (r.pok p hp).2
    refine ⟨x, y, ?_, q⟩
    rw [upd_ne]
    · exact e
    · rintro rfl
      exact h2 hp
  · have q := r.slot i
    have nin : ∀ a ∈ fp i, a ≠ D := fun a ha z => hd i (z ▸ ha)
    generalize s.getD i .no = sv at q ⊢
    generalize σ[i]? = oo at q ⊢
    generalize fp i = A at q nin ⊢
    cases q with
    | no => exact .no
    | dat q => exact .dat q
    | own q n => exact .own (q.to Same.rfl' (fun a ha => (q.free a ha).1) fun a ha => upd_ne (nin a ha)) n
    | pool h1 h2 h3 =>
      obtain ⟨x, y, e1, e2⟩ := h3
      exact .pool h1 h2 ⟨x, y, by rw [upd_ne (nin _ (by simp))]; exact e1, e2⟩
end
/-- the ifs of a comprehension -/
structure DTs (X : Cx) (ifs : List Expr) (t : DTT) : Prop where
  mono : ∀ s Q Q', (∀ o s', Q o s' → Q' o s') → t s Q → t s Q'
  pts : PTs X ifs (liftT X.K t)
def tYesD : DTT := fun s Q => Q true s
theorem PTs.weak {X : Cx} {e : List Expr} {t t' : TT} (h : PTs X e t) (i : ∀ σ H Q, t' σ H Q → t σ H Q) : PTs X e t' := ⟨fun p s σ H Q I q => h.run p s σ H Q I (i _ _ _ q)⟩
theorem dts_nil {X : Cx} : DTs X [] tYesD := ⟨fun _ _ _ hq h => hq _ _ h, PTs.weak pts_nil fun σ H Q ⟨f, Z, fp, s, r, h⟩ => h _ _ _ Same.rfl' r⟩
theorem dts_one {X : Cx} {c : Expr} {t : DTT} (h : DT X c t) : DTs X [c] t := ⟨h.mono, pts_one h.pt⟩
def compW (gd : DG) (tt : DTT) (te : DTE) (vs : List Nat) : List PyData → List PyData → DSt → (List PyData → DSt → Prop) → Prop
  | [], acc, s, Q => Q acc s
  | d :: ds, acc, s, Q => gd d s fun s1 => tt s1 fun b s2 => if b = true then te s2 fun o s3 => acc.length < sizeLine ∧ compW gd tt te vs ds (acc ++ [o.data]) (forgetAll vs s3) Q
    else compW gd tt te vs ds acc (forgetAll vs s2) Q
theorem compW_mono {gd : DG} {tt : DTT} {te : DTE} {vs : List Nat} (hg : ∀ d s Q Q', (∀ s', Q s' → Q' s') → gd d s Q → gd d s Q') (ht : ∀ s Q Q', (∀ o s', Q o s' → Q' o s') → tt s Q → tt s Q')
    (he : ∀ s Q Q', (∀ o s', Q o s' → Q' o s') → te s Q → te s Q') {Q Q' : List PyData → DSt → Prop} (hq : ∀ o s', Q o s' → Q' o s') : ∀ (ds acc : List PyData) (s : DSt), compW gd tt te vs ds acc s Q → compW gd tt te vs ds acc s Q'
  | [], acc, s, h => hq _ _ h
  | d :: ds, acc, s, h => by
    refine hg _ _ _ _ (fun s1 h1 => ht _ _ _ (fun b s2 h2 => ?_) h1) h
    cases b with
    | true => exact he _ _ _ (fun o s3 ⟨z, h3⟩ => ⟨z, compW_mono hg ht he hq ds _ _ h3⟩) h2
    | false => exact compW_mono hg ht he hq ds _ _ h2
def eComp (wi : DTI) (gd : DG) (tt : DTT) (te : DTE) (vs : List Nat) : DTE := fun s Q => wi s fun ds s1 => compW gd tt te vs ds [] (forgetAll vs s1) fun acc s2 => Q (.lst acc) s2
section
variable {X : Cx} {tg iter elt : Expr} {ifs : List Expr} {scope : Scope} {own : List (Str × Nat)} {pos : Pos} {wi : DTI} {is : List Nat} {g : TG} {gd : DG} {tt : DTT} {te : DTE} {N : List Str} {sc : Scope} {k : Nat} {dd : Bool}
/-- the facts of a block -/
structure Blk (X : Cx) (tg : Expr) (ifs : List Expr) (elt : Expr) (scope : Scope) (is : List Nat) (g : TG) (gd : DG) (tt : DTT) (te : DTE) : Prop where
  g : ∀ (s : Shared) (H : Hp) (C : Addr) (cl : List (Str × Addr)) (fp : List Addr), GD (X.blk s H scope (compEnvC scope cl C X.env) fp) tg is g gd
  t : ∀ (s : Shared) (H : Hp) (C : Addr) (cl : List (Str × Addr)) (fp : List Addr), DTs (X.blk s H scope (compEnvC scope cl C X.env) fp) ifs tt
  e : ∀ (s : Shared) (H : Hp) (C : Addr) (cl : List (Str × Addr)) (fp : List Addr), DE (X.blk s H scope (compEnvC scope cl C X.env) fp) elt te
theorem eComp_mono (hi : DI X tg iter wi) (b : Blk X tg ifs elt scope is g gd tt te) {vs : List Nat} : ∀ s Q Q', (∀ o s', Q o s' → Q' o s') → eComp wi gd tt te vs s Q → eComp wi gd tt te vs s Q' := fun s Q Q' hq h => by
  have z : Shared := {}
  exact hi.mono _ _ _ (fun ds s1 w => compW_mono (b.g z (fun _ => none) 0 [] []).mono (b.t z (fun _ => none) 0 [] []).mono (b.e z (fun _ => none) 0 [] []).mono (fun acc s2 q => hq _ _ q) ds _ _ w) h
theorem lc_go (hi : DI X tg iter wi) (b : Blk X tg ifs elt scope is g gd tt te) {vs : List Nat} (hv : ∀ i ∈ is, i ∈ vs) {σ : L2.St} {H : Hp} {Q : VK} (h : lift X.K (eComp wi gd tt te vs) σ H Q) :
    tLc (liftI X.K wi) g (liftT X.K tt) (lift X.K te) vs σ H Q := by
  obtain ⟨f, Z, fp, s, r, h⟩ := h
  refine ⟨f, Z, fp, s, r, hi.mono _ _ _ (fun ds s1 q Z1 fp1 J H1 z1 r1 w D hD => ?_) h⟩
  have hT : ∀ s0 : Shared, GD (X.blk s0 (fun _ => none) scope (compEnvC scope [] 0 X.env) []) tg is g gd := fun s0 => b.g s0 _ _ _ _
  obtain ⟨fp2, r2, sub⟩ := r1.wipe vs
  have fr := r1.newFree hD
  have r3 := r2.freshO (.lst []) hD
  have off : ∀ i, D ∉ fp2 i := fun i hh => r1.off hD i (sub i D hh)
  refine ⟨fun i m Hh => m = ds.length - i ∧ i ≤ ds.length ∧ ∃ Z2 fp2 s2 acc vacc, Same Z1 Z2 ∧ R X.K f Z2 fp2 s2 (wipe σ vs) Hh ∧ (∀ j ∈ vs, s2.getD j .no = .no) ∧ Hh D = some (.lst vacc) ∧ RpA X.K Z2 vacc acc ∧ Free f Z2 D ∧
    (∀ j, D ∉ fp2 j) ∧ compW gd tt te vs (ds.drop i) acc s2 (fun acc s' => Told X.K f Z s' σ (.lst acc) Q), ⟨ds.length, by simp, Nat.zero_le _, Z1, fp2, _, [], [], Same.rfl', r3, fun j hj => forgetAll_in hj, upd_same, .nil, fr, off, q⟩, ?_⟩
  rintro i m H2 ⟨rfl, hi2, Z2, fpx, s2, acc, vacc, z2, r2, hn, hDl, pa, hf, hoff, q2⟩
  rcases Nat.lt_or_ge i ds.length with hlt | hge
  · refine .inr ?_
    have hd : ds[i]? = some ds[i] := List.getElem?_eq_getElem hlt
    have hw := (w Z2 H2 z2 r2.zh i).1 _ hd
    let Nx : Hp → Prop := fun Hh => ∃ Z2 fp2 s2 acc vacc, Same Z1 Z2 ∧ R X.K f Z2 fp2 s2 (wipe σ vs) Hh ∧ (∀ j ∈ vs, s2.getD j .no = .no) ∧ Hh D = some (.lst vacc) ∧ RpA X.K Z2 vacc acc ∧ Free f Z2 D ∧
      (∀ j, D ∉ fp2 j) ∧ compW gd tt te vs (ds.drop (i + 1)) acc s2 (fun acc s' => Told X.K f Z s' σ (.lst acc) Q)
    refine ⟨hw.1, Nx, fun H' hh => ⟨ds.length - (i + 1), by omega, rfl, hlt, hh⟩, fun x H3 y => ?_⟩
    rw [List.drop_eq_getElem_cons hlt] at q2
    -- the item comes; the new list stands apart
    obtain ⟨Z3, y1, y2, y3, p3, y4⟩ := hw.2 x H3 y
    obtain ⟨Z3', z3, r3, p3'⟩ : ∃ Z', Same Z2 Z' ∧ R X.K f Z' fpx s2 (wipe σ vs) H3 ∧ (Rp X.K Z' x ds[i] ∧ Z' D = none) :=
      ⟨Z3, y1, r2.grow (fun _ => False) y2 y1 (fun _ z => z.elim) (fun a o e _ => y3 _ _ e) (fun a h1 h2 _ => y4 a h1 h2) (fun _ z => z.elim), p3, y4 D (by rw [hDl]; simp) hf.1⟩
    have hD3 : H3 D = some (.lst vacc) := y3 _ _ hDl
    have hf3 : Free f Z3' D := ⟨p3'.2, hf.2⟩
    have base := r3.rebase
    have hnp : ¬ (base1 f Z3' H3 fpx).pl D := fun ⟨j, hj⟩ => hoff j hj
    -- back from the turn's own frame
    have fin : ∀ {Z' fp' s' H'}, R X.K (base1 f Z3' H3 fpx) Z' fp' s' (wipe σ vs) H' → R X.K f Z' fp' s' (wipe σ vs) H' ∧ H' D = some (.lst vacc) ∧ Free f Z' D ∧ ∀ j, D ∉ fp' j := fun {Z' fp' s' H'} r' => by
      have hz : Z' D = none := r'.nz D (by show H3 D ≠ none; rw [hD3]; simp) p3'.2 hnp
      refine ⟨r3.back r', r'.keep D _ hD3 hnp, ⟨hz, hf.2⟩, fun j hj => ?_⟩
      rcases ((r'.slot j).free D hj).2.1 with z | z
      · exact hnp z
      · have z' : H3 D = none := z
        rw [hD3] at z'
        cases z'
    refine (hT {}).go (X := X.blk {} (fun _ => none) scope (compEnvC scope [] 0 X.env) []) base p3'.1 q2 fun fp4 s4 σ4 r4 o4 q4 => ⟨wipe_of o4 hv, ?_⟩
    -- the state behind the turn
    have endT : ∀ {Z6 fp6 s6 H6}, Same Z3' Z6 → R X.K (base1 f Z3' H3 fpx) Z6 fp6 s6 σ4 H6 → ∃ fp7, R X.K f Z6 fp7 (forgetAll vs s6) (wipe σ vs) H6 ∧ H6 D = some (.lst vacc) ∧ Free f Z6 D ∧ ∀ j, D ∉ fp7 j := fun {Z6 fp6 s6 H6} _ r6 => by
      obtain ⟨fp7, r7, sub7⟩ := r6.wipe vs
      rw [wipe_of o4 hv] at r7
      obtain ⟨e1, e2, e3, e4⟩ := fin r7
      exact ⟨fp7, e1, e2, e3, e4⟩
    refine ⟨_, Z3', fp4, s4, r4, (b.t {} (fun _ => none) 0 [] []).mono _ _ _ (fun b5 s5 q5 Z5 fp5 H5 z5 r5 => ?_) q4⟩
    cases b5 with
    | true =>
      refine ⟨_, Z5, fp5, s5, r5, (b.e {} (fun _ => none) 0 [] []).mono _ _ _ (fun o s6 ⟨hz, q6⟩ Z6 fp6 v H6 A z6 r6 p6 n6 hA6 => ?_) q5⟩
      obtain ⟨Z7, z7, r7, p7⟩ := r6.stillT p6 hA6
      obtain ⟨fp8, r8, hD8, hf8, off8⟩ := endT (z5.trans (z6.trans z7)) r7
      have zz : Same Z2 Z7 := z3.trans (z5.trans (z6.trans z7))
      have pa7 := pa.up zz
      refine ⟨vacc, hD8, by rw [pa.length]; exact hz, Z7, fp8, forgetAll vs s6, _, _, z2.trans zz, r8.poke _ hf8 off8, fun j hj => forgetAll_in hj, upd_same, pa7.append (.cons p7 .nil), hf8, off8, q6⟩
    | false =>
      obtain ⟨fp8, r8, hD8, hf8, off8⟩ := endT z5 r5
      have zz : Same Z2 Z5 := z3.trans z5
      exact ⟨Z5, fp8, forgetAll vs s5, acc, vacc, z2.trans zz, r8, fun j hj => forgetAll_in hj, hD8, pa.up zz, hf8, off8, q5⟩
  · have e : i = ds.length := by omega
    subst e
    rw [List.drop_length] at q2
    have r5 : R X.K f Z2 fpx s2 σ H2 := r2.unwipe hn
    refine .inl ⟨(w Z2 H2 z2 r2.zh _).2 (Nat.le_refl _), ?_⟩
    exact q2 Z2 fpx _ H2 [D] (z1.trans z2) r5 (.lst hf hDl pa) (by simp) fun i a ha => by
      cases List.mem_singleton.mp ha
      exact hoff i
theorem de_comp (hc : XC N sc k dd X) (hi : DI X tg iter wi) (b : Blk X tg ifs elt scope is g gd tt te) (ok : blkC N sc scope own = true) (hv : ∀ i ∈ is, i ∈ own.map (·.2)) (hs : ∀ x, foldedSetIterable iter X.env x = pure x) :
    DE X (.ListComp elt [⟨tg, iter, ifs, 0⟩] scope pos) (eComp wi gd tt te (own.map (·.2))) :=
  ⟨eComp_mono hi b, PE.weak (pe_lc (own := own) (tt := liftT X.K tt) (te := lift X.K te) hc.calm (hc.hN ▸ hc.nd) hi.pi (hc.hN ▸ hc.hS ▸ blkOk_by ok) (fun s H C cl fp => (b.g s H C cl fp).pg) (fun s H C cl fp => (b.t s H C cl fp).pts) (fun s H C cl fp => (b.e s H C cl fp).pe) hs)
    fun σ H Q h => lc_go hi b hv h⟩
/-- y = [..] on one line -/
theorem ds_setC (hc : XC N sc k dd X) (i : Nat) {y : Str} {py spos : Pos} (hx : N[i]? = some y) (hl : sc.names.lookup y = some .local) (hi : DI X tg iter wi) (b : Blk X tg ifs elt scope is g gd tt te) (ok : blkC N sc scope own = true)
    (hv : ∀ i ∈ is, i ∈ own.map (·.2)) (hsw : swapsWith (.ListComp elt [⟨tg, iter, ifs, 0⟩] scope pos) (some (.Name y py)) spos.line X.env = pure true) (hs : ∀ x, foldedSetIterable iter X.env x = pure x) :
    DS X (.Assign [.Name y py] (.ListComp elt [⟨tg, iter, ifs, 0⟩] scope pos) spos) (sAsg i (eComp wi gd tt te (own.map (·.2)))) := by
  refine ⟨fun E E' s l h => eComp_mono hi b _ _ _ (fun o s' ⟨z, q⟩ => ⟨z, l.nx _ q⟩) h, PS.weak (ps_setLc (own := own) (tt := liftT X.K tt) (te := lift X.K te) (i := i) hc.calm (hc.hN ▸ hc.nd) (hc.hN ▸ hx) (hc.hS ▸ hl) hsw hi.pi (hc.hN ▸ hc.hS ▸ blkOk_by ok) (fun s H C cl fp => (b.g s H C cl fp).pg) (fun s H C cl fp => (b.t s H C cl fp).pts) (fun s H C cl fp => (b.e s H C cl fp).pe) hs)
    fun D σ H ⟨f, Z, fp, s, E, r, h, ok⟩ => ?_⟩
  refine lc_go hi b hv ⟨f, Z, fp, s, r, eComp_mono hi b _ _ _ (fun o s' ⟨z, q⟩ Z' fp' v H' A zz r' p n hA => ?_) h⟩
  exact ok.nx _ _ _ _ _ zz (r'.put i (by rw [← r'.len]; exact z) (sok_of p n) fun j _ a ha => hA j a ha) q
theorem XC.blk (hc : XC N sc k dd X) {s : Shared} {H : Hp} {C : Addr} {cl : List (Str × Addr)} {fp : List Addr} : XC N (relS scope sc) k false (X.blk s H scope (compEnvC scope cl C X.env) fp) := by
  refine ⟨hc.hN, ?_, hc.nd, hc.calm, hc.gu, hc.room, PassesOwn.never, fun h => by cases h⟩
  show relabel scope X.env = relS scope sc
  rw [← hc.hS]
  rfl

/-! ### calls of defs -/
abbrev DC := List SV → (OV → Prop) → Prop
abbrev DTP := DSt → (List SV → DSt → Prop) → Prop
inductive ArgR (K : PySem.W.Frag) (Z : Hp) (s : DSt) (σ : L2.St) : List V → List SV → Prop
  | nil : ArgR K Z s σ [] []
  | dat {v : V} {d : PyData} {vs : List V} {svs : List SV} : Rp K Z v d → ArgR K Z s σ vs svs → ArgR K Z s σ (v :: vs) (.dat d :: svs)
  | pool {v : V} {i : Nat} {vs : List V} {svs : List SV} : s[i]? = some .pool → σ[i]? = some (some v) → ArgR K Z s σ vs svs → ArgR K Z s σ (v :: vs) (.pool :: svs)
def liftP (K : PySem.W.Frag) (t : DTP) : TA := fun σ H Q => ∃ f Z fp s, R K f Z fp s σ H ∧ t s fun svs s' => ∀ Z' fp' vs H', Same Z Z' → R K f Z' fp' s' σ H' → ArgR K Z' s' σ vs svs → Q vs H'
structure DP (X : Cx) (es : List Expr) (t : DTP) : Prop where
  mono : ∀ s Q Q', (∀ o s', Q o s' → Q' o s') → t s Q → t s Q'
  pa : PA X es (liftP X.K t)
def pNil : DTP := fun s Q => Q [] s
def pDat (te : DTE) (tr : DTP) : DTP := fun s Q => te s fun o s1 => tr s1 fun svs s2 => Q (.dat o.data :: svs) s2
def pPool (i : Nat) (tr : DTP) : DTP := fun s Q => s[i]? = some .pool ∧ tr s fun svs s2 => s2[i]? = some .pool ∧ Q (.pool :: svs) s2
section
variable {e : Expr} {es : List Expr} {t : DTE} {tr : DTP} {x : Str} {p pos : Pos}
theorem dp_nil : DP X [] pNil := ⟨fun _ _ _ hq h => hq _ _ h, PA.weak pa_nil fun σ H Q ⟨f, Z, fp, s, r, h⟩ => h _ _ _ _ Same.rfl' r .nil⟩
theorem DP.go (h : DP X es tr) {f : Fr0} {Z H : Hp} {fp : Nat → List Addr} {s : DSt} {σ : L2.St} (r : R X.K f Z fp s σ H) {q : List SV → DSt → Prop} {Q : List V → Hp → Prop} (w : tr s q)
    (k : ∀ o s' Z' fp' v H', Same Z Z' → R X.K f Z' fp' s' σ H' → ArgR X.K Z' s' σ v o → q o s' → Q v H') : liftP X.K tr σ H Q :=
  ⟨f, Z, fp, s, r, h.mono _ _ _ (fun o s' q' Z' fp' v H' zz r' p' => k o s' Z' fp' v H' zz r' p' q') w⟩
theorem dp_dat (he : DE X e t) (hr : DP X es tr) (hs : starEach (e :: es) X.env = (false, eval e X.env) :: starEach es X.env) : DP X (e :: es) (pDat t tr) :=
  ⟨fun s Q Q' hq h => he.mono _ _ _ (fun o s1 h1 => hr.mono _ _ _ (fun ds s2 h2 => hq _ _ h2) h1) h, PA.weak (pa_cons he.pe hr.pa hs) fun σ H Q ⟨f, Z, fp, s, r, h⟩ =>
    he.go r h fun o s1 Z1 fp1 v H1 z1 r1 p1 h1 => hr.go r1 h1 fun ds s2 Z2 fp2 vs H2 z2 r2 p2 h2 => h2 _ _ _ _ (z1.trans z2) r2 (.dat (p1.up z2) p2)⟩
theorem dp_pool (hc : XC N sc k dd X) (i : Nat) (hx : N[i]? = some x) (hv : Vis sc x) (hd : (x == ("__debug__" : Str)) = false) (hcd : (x == ("__classdict__" : Str)) = false) (hr : DP X es tr)
    (hs : starEach (.Name x p :: es) X.env = (false, eval (.Name x p) X.env) :: starEach es X.env) : DP X (.Name x p :: es) (pPool i tr) := by
  refine ⟨fun s Q Q' hq h => ⟨h.1, hr.mono _ _ _ (fun ds s2 h2 => ⟨h2.1, hq _ _ h2.2⟩) h.2⟩, PA.weak (pa_cons (pe_var (i := i) (hc.hN ▸ hx) (hc.hS ▸ hv) hd hcd) hr.pa hs) fun σ H Q ⟨f, Z, fp, s, r, h⟩ => ?_⟩
  obtain ⟨a, e1, _⟩ := r.pool h.1
  exact ⟨_, e1, hr.go r h.2 fun ds s2 Z2 fp2 vs H2 z2 r2 p2 h2 => h2.2 _ _ _ _ z2 r2 (.pool h2.1 e1 p2)⟩
end
def isPool : SV → Bool
  | .pool => true
  | _ => false
def onePool : List SV → Bool
  | [] => true
  | .pool :: r => r.all fun x => !isPool x
  | _ :: r => onePool r
theorem noPool_at : ∀ {l : List SV} {i : Nat}, (l.all fun x => !isPool x) = true → l[i]? ≠ some .pool := fun {l i} h e => by
  have := List.all_eq_true.mp h _ (List.mem_of_getElem? e)
  cases this
theorem onePool_at : ∀ {l : List SV} {i j : Nat}, onePool l = true → l[i]? = some .pool → l[j]? = some .pool → i = j
  | [], i, j, _, h, _ => by simp at h
  | sv :: r, 0, 0, _, _, _ => rfl
  | sv :: r, 0, j + 1, h, h1, h2 => by
    simp at h1
    subst h1
    exact absurd (by simpa using h2) (noPool_at (i := j) h)
  | sv :: r, i + 1, 0, h, h1, h2 => by
    simp at h2
    subst h2
    exact absurd (by simpa using h1) (noPool_at (i := i) h)
  | sv :: r, i + 1, j + 1, h, h1, h2 => by
    have hr : onePool r = true := by
      cases sv <;> first
        | exact h
        | (cases r with
           | nil => rfl
           | cons a r =>
             exact absurd (by simpa using h1) (noPool_at (i := i) h))
    exact congrArg Nat.succ (onePool_at hr (by simpa using h1) (by simpa using h2))
structure Entry (f : Fr0) (Z H : Hp) (fp : Nat → List Addr) (svs : List SV) : Prop where
  h0 : f.H0 = H
  z0 : f.Z0 = Z
  pl : ∀ a, f.pl a ↔ ∃ i, svs[i]? = some .pool ∧ a ∈ fp i
  pp : ∀ a, f.pp a ↔ f.pl a
def Back (K : PySem.W.Frag) (f : Fr0) (Z H : Hp) (o : OV) (Q : VK) : Prop := ∀ (Z' : Hp) (v : V) (H' : Hp) (A : List Addr), Same Z Z' → Same Z' H' → (∀ a u, H a = some u → ¬ f.pl a → H' a = some u) →
  (∀ a, H a ≠ none → Z a = none → ¬ f.pl a → Z' a = none) → (∀ a, f.pl a → Z' a = none ∧ PoolAt H' a) → ORp K f Z' H' v o A → A.Nodup → Q v H'
def spD (K : PySem.W.Frag) (n : Nat) (c : DC) : Sp := fun vs H Q _ => vs.length = n ∧ ∃ f Z fp svs, R K f Z fp svs (vs.map some) H ∧ Entry f Z H fp svs ∧ c svs fun o => Back K f Z H o Q
theorem R.startD {K : PySem.W.Frag} {f : Fr0} {Z H : Hp} {fp : Nat → List Addr} {svs : List SV} {vs : List V} {N : List Str} (r : R K f Z fp svs (vs.map some) H) : R K f Z fp (svs ++ List.replicate (N.length - vs.length) .no) (start N vs) H := by
  have hl : svs.length = vs.length := by simpa using r.len
  refine ⟨r.zh, r.z0, r.keep, r.nz, r.pok, by simp [start, hl], fun i => ?_, r.apart⟩
  have q := r.slot i
  unfold start
  by_cases hi : i < vs.length
  · rw [List.getElem?_append_left (by simpa using hi), List.getD_eq_getElem?_getD, List.getElem?_append_left (by rw [hl]; exact hi), ← List.getD_eq_getElem?_getD]
    exact q
  · have e1 : svs.getD i .no = .no := by
      rw [List.getD_eq_getElem?_getD, List.getElem?_eq_none (by rw [hl]; exact Nat.le_of_not_lt hi)]
      rfl
    have e2 : (svs ++ List.replicate (N.length - vs.length) SV.no).getD i .no = .no := by
      rw [List.getD_eq_getElem?_getD, List.getElem?_append_right (by rw [hl]; exact Nat.le_of_not_lt hi), List.getElem?_replicate]
      split <;> rfl
    rw [e1] at q
    rw [e2]
    generalize fp i = A at q ⊢
    generalize (vs.map some)[i]? = oo at q
    cases q
    exact .no
theorem fnD {P : Program} {w : World} {K : PySem.W.Frag} {mg : Str → Option Value} {base : Heap} {y qual : Str} {st : Stmt} {f : Addr} {fd : FuncData} {N ps : List Str} {k n : Nat} {t : DTS} {c : DC} (F : Fun K y qual st f fd) (S : FnScope N ps (defScope st)) (hn : ps.length = n)
    (body : ∀ X : Cx, XC N (defScope st) k true X → X.prog = P → X.w = w → X.K = K → X.mg = mg → X.base = base → DSs X (defBody st) t)
    (hc : ∀ svs Q, svs.length = n → c svs Q → t { nx := fun _ => Q (.fz .none), rt := Q } (svs ++ List.replicate (N.length - n) .no)) : FnG P w K mg base CX0 (k + 1) f fd ps (spD K n c) := by
  refine fnG_of F S (fun vs H Q E h => h.1.trans hn.symm) fun cdv A outer s H vs Q E hr hg hsp => ?_
  have xc : XC N (defScope st) k true (cxOf CX0 P w K mg base N qual (defScope st) f cdv A outer s H E).nox := ⟨rfl, rfl, S.nd, rfl, hg, hr, PassesOwn.never, fun _ _ => rfl⟩
  have b := body _ xc rfl rfl rfl rfl rfl
  refine ⟨_, b.pss.nox, ?_⟩
  obtain ⟨hl, f0, Z, fp, svs, r, en, h⟩ := hsp
  have hls : svs.length = n := by
    have := r.len
    simp at this
    exact this.trans hl
  have h2 := hc svs _ hls h
  refine ⟨f0, Z, fp, _, _, r.startD, by rw [hl]; exact h2, ?_⟩
  have fin : ∀ {o : OV} {Z' fp' s' σ' H' v A}, Same Z Z' → R K f0 Z' fp' s' σ' H' → ORp K f0 Z' H' v o A → A.Nodup → Back K f0 Z H o Q → Q v H' := fun {o Z' fp' s' σ' H' v A} zz r' p n hb => by
    refine hb Z' v H' A zz r'.zh (fun a u e1 e2 => r'.keep a u (by rw [en.h0]; exact e1) e2) (fun a e1 e2 e3 => r'.nz a (by rw [en.h0]; exact e1) (by rw [en.z0]; exact e2) e3) (fun a ha => r'.pok a ((en.pp a).mpr ha)) p n
  refine ⟨fun Z' fp' s' σ' H' zz r' q => fin zz r' (.fz .non) .nil q, fun o Z' fp' s' σ' H' v A zz r' p n q => fin zz r' p n q, fun _ _ _ _ _ _ _ q => q.elim, fun _ _ _ _ _ _ _ q => q.elim⟩
def DC.Mono (c : DC) : Prop := ∀ svs Q Q', (∀ o, Q o → Q' o) → c svs Q → c svs Q'
def eCall (n : Nat) (c : DC) (tp : DTP) : DTE := fun s Q => tp s fun svs s' => svs.length = n ∧ onePool svs = true ∧ c svs fun o => Q o s'
theorem eCall_mono {n : Nat} {c : DC} {tp : DTP} (hc : c.Mono) (hp : ∀ s Q Q', (∀ o s', Q o s' → Q' o s') → tp s Q → tp s Q') : ∀ s Q Q', (∀ o s', Q o s' → Q' o s') → eCall n c tp s Q → eCall n c tp s Q' :=
  fun s Q Q' hq h => hp _ _ _ (fun svs s' ⟨z1, z2, z3⟩ => ⟨z1, z2, hc _ _ _ (fun o => hq o s') z3⟩) h
theorem ArgR.len {K : PySem.W.Frag} {Z : Hp} {s : DSt} {σ : L2.St} : ∀ {vs : List V} {svs : List SV}, ArgR K Z s σ vs svs → vs.length = svs.length
  | _, _, .nil => rfl
  | _, _, .dat _ b => congrArg Nat.succ b.len
  | _, _, .pool _ _ b => congrArg Nat.succ b.len
theorem ArgR.at {K : PySem.W.Frag} {Z : Hp} {s : DSt} {σ : L2.St} : ∀ {vs : List V} {svs : List SV} {i : Nat} {sv : SV}, ArgR K Z s σ vs svs → svs[i]? = some sv → ∃ v, vs[i]? = some v ∧
    ((∃ d, sv = .dat d ∧ Rp K Z v d) ∨ (sv = .pool ∧ ∃ j : Nat, s[j]? = some SV.pool ∧ σ[j]? = some (some v)))
  | _, _, _, _, .nil, e => by simp at e
  | _, _, 0, _, .dat a _, e => by simp at e; subst e; exact ⟨_, rfl, .inl ⟨_, rfl, a⟩⟩
  | _, _, 0, _, .pool a b _, e => by simp at e; subst e; exact ⟨_, rfl, .inr ⟨rfl, _, a, b⟩⟩
  | _, _, i + 1, sv, .dat _ b, e => by
    obtain ⟨v, h1, h2⟩ := ArgR.at (i := i) (sv := sv) b (by simpa using e)
    exact ⟨v, by simpa using h1, h2⟩
  | _, _, i + 1, sv, .pool _ _ b, e => by
    obtain ⟨v, h1, h2⟩ := ArgR.at (i := i) (sv := sv) b (by simpa using e)
    exact ⟨v, by simpa using h1, h2⟩
def addrs : Option V → List Addr
  | some (.ref p) => [p]
  | _ => []
/-- a call's promise is met -/
theorem call_go {K : PySem.W.Frag} {f : Fr0} {Z H : Hp} {fp : Nat → List Addr} {s : DSt} {σ : L2.St} {n : Nat} {c : DC} {svs : List SV} {vs : List V} {Q : VK} {E : XK} (hc : c.Mono) (r : R K f Z fp s σ H) (a : ArgR K Z s σ vs svs) (hn : svs.length = n) (h1 : onePool svs = true)
    (h : c svs fun o => Told K f Z s σ o Q) : spD K n c vs H Q E := by
  let fp2 : Nat → List Addr := fun i => if (svs.getD i .no |> isPool) = true then addrs vs[i]? else []
  have pat : ∀ i, svs[i]? = some .pool → ∃ p j, vs[i]? = some (.ref p) ∧ fp2 i = [p] ∧ s[j]? = some .pool ∧ fp j = [p] ∧ Z p = none ∧ PoolAt H p := fun i hi => by
    obtain ⟨v, e1, e2⟩ := a.at hi
    rcases e2 with ⟨d, z, _⟩ | ⟨_, j, e3, e4⟩
    · cases z
    · obtain ⟨p, e5, e6, e7, _, e8⟩ := r.pool e3
      rw [e4] at e5
      cases e5
      refine ⟨p, j, e1, ?_, e3, e6, e7, e8⟩
      show (if (svs.getD i .no |> isPool) = true then addrs vs[i]? else []) = [p]
      rw [List.getD_eq_getElem?_getD, hi, e1]
      rfl
  have only : ∀ i x, x ∈ fp2 i → svs[i]? = some .pool := fun i x hx => by
    have hx' : x ∈ (if (svs.getD i .no |> isPool) = true then addrs vs[i]? else []) := hx
    split at hx'
    · rename_i hp
      rw [List.getD_eq_getElem?_getD] at hp
      cases e : svs[i]? with
      | none => rw [e] at hp; cases hp
      | some sv =>
        rw [e] at hp
        cases sv <;> first | rfl | cases hp
    · cases hx'
  let f2 : Fr0 := ⟨H, Z, fun x => ∃ i, svs[i]? = some .pool ∧ x ∈ fp2 i, fun x => ∃ i, svs[i]? = some .pool ∧ x ∈ fp2 i⟩
  have hpl : ∀ x, f2.pl x → ∃ j, s[j]? = some .pool ∧ x ∈ fp j ∧ Z x = none ∧ PoolAt H x := fun x ⟨i, e1, e2⟩ => by
    obtain ⟨p, j, _, e4, e5, e6, e7, e8⟩ := pat i e1
    rw [e4] at e2
    cases List.mem_singleton.mp e2
    exact ⟨j, e5, by rw [e6]; simp, e7, e8⟩
  have r2 : R K f2 Z fp2 svs (vs.map some) H := by
    refine ⟨r.zh, Same.rfl', fun _ _ e _ => e, fun _ _ e _ => e, fun p hp => ?_, by simp [a.len], fun i => ?_, fun i j hij x e1 e2 => hij (onePool_at h1 (only i x e1) (only j x e2))⟩
    · obtain ⟨_, _, _, e1, e2⟩ := hpl p hp
      exact ⟨e1, e2⟩
    · cases e : svs[i]? with
      | none =>
        have e1 : svs.getD i .no = .no := by rw [List.getD_eq_getElem?_getD, e]; rfl
        have e2 : fp2 i = [] := by
          show (if (svs.getD i .no |> isPool) = true then addrs vs[i]? else []) = []
          rw [e1]
          rfl
        rw [e1, e2]
        exact .no
      | some sv =>
        have e1 : svs.getD i .no = sv := by rw [List.getD_eq_getElem?_getD, e]; rfl
        obtain ⟨v, e2, e3⟩ := a.at e
        rw [e1, List.getElem?_map, e2]
        rcases e3 with ⟨d, z, q⟩ | ⟨z, j, e4, e5⟩
        · subst z
          have e6 : fp2 i = [] := by
            show (if (svs.getD i .no |> isPool) = true then addrs vs[i]? else []) = []
            rw [e1]
            rfl
          rw [e6]
          exact .dat q
        · subst z
          obtain ⟨p, _, e6, e7, _, _, e8, e9⟩ := pat i e
          rw [e2] at e6
          cases e6
          rw [e7]
          exact .pool e8 (.inl ⟨i, e, by rw [e7]; simp⟩) e9
  refine ⟨a.len.trans hn, f2, Z, fp2, svs, r2, ⟨rfl, rfl, fun _ => Iff.rfl, fun _ => Iff.rfl⟩, hc _ _ _ (fun o ht Z' v H' A z1 z2 z3 z4 z5 p n => ?_) h⟩
  have r3 : R K f Z' fp s σ H' := r.grow f2.pl z2 z1 (fun x hx => let ⟨j, e1, e2, _⟩ := hpl x hx; ⟨j, e1, e2⟩) z3 z4 z5
  have hA : ∀ x ∈ A, H x = none := fun x hx => by
    obtain ⟨⟨_, e1, e2⟩, _⟩ := p.free x hx
    rcases e2 with e2 | e2
    · exact absurd e2 e1
    · exact e2
  refine ht Z' fp v H' A z1 r3 (p.to Same.rfl' (fun x hx => ?_) fun _ _ => rfl) n fun i x hx hi => ?_
  · have e := r.newFree (hA x hx)
    exact ⟨(p.free x hx).1.1, e.2⟩
  · exact r.off (hA x hx) i hi
section
variable {f : Addr} {fd : FuncData} {ps ks : List Str} {n kc : Nat} {c : DC} {tp : DTP} {x : Str} {p pos : Pos} {e : Expr} {es : List Expr}
theorem de_call (hx : XC N sc k dd X) (G : FnG X.prog X.w X.K X.mg X.base CX0 kc f fd ps (spD X.K n c)) (hk : kc ≤ k) (hcm : c.Mono) (hg : Gl X x) (hm : X.mg x = some (.ref f)) (kp : PySem.W.keepIn X.K (.ref f) = true) (hb : Binds X.K fd ps [])
    (ha : DP X (e :: es) tp) (hdb : (x == ("__debug__" : Str)) = false) (he : starEach (e :: es) X.env = (false, eval e X.env) :: starEach es X.env) (hpl : (backTo pos (starEach es X.env)).any (·.1) = false) :
    DE X (.Call (.Name x p) (e :: es) [] pos) (eCall n c tp) :=
  ⟨eCall_mono hcm ha.mono, PE.weak (pe_callG G (hx.room.mono hk) hx.gu hg hm kp hb .nil pass0 ha.pa hdb he hpl) fun σ H Q ⟨f, Z, fp, s, r, h⟩ =>
    ha.go r h fun svs s' Z' fp' vs H' zz r' a ⟨z1, z2, z3⟩ => by
      rw [List.append_nil]
      exact call_go hcm r' a z1 z2 (hcm _ _ _ (fun o q => Told.from q zz) z3)⟩
theorem de_call0 (hx : XC N sc k dd X) (G : FnG X.prog X.w X.K X.mg X.base CX0 kc f fd ps (spD X.K n c)) (hk : kc ≤ k) (hcm : c.Mono) (hg : Gl X x) (hm : X.mg x = some (.ref f)) (kp : PySem.W.keepIn X.K (.ref f) = true) (hb : Binds X.K fd ps [])
    (hdb : (x == ("__debug__" : Str)) = false) : DE X (.Call (.Name x p) [] [] pos) (eCall n c pNil) :=
  ⟨eCall_mono hcm (fun s Q Q' hq h => hq _ _ h), PE.weak (pe_callG0 G (hx.room.mono hk) hx.gu hg hm kp hb .nil pass0 hdb) fun σ H Q ⟨f, Z, fp, s, r, h⟩ => by
    obtain ⟨z1, z2, z3⟩ := h
    show spD X.K n c ([] ++ []) H Q E0
    exact call_go hcm r .nil z1 z2 z3⟩
end
end
end L2.DL

set_option maxRecDepth 100000
set_option maxHeartbeats 2000000
namespace L2.DL
open PySem PySem.Spec

/-! ### texts that are whole -/
abbrev sok (x : Str) : Bool := PyData.strOk x
theorem sok_iff {x : Str} : sok x = true ↔ ∀ c ∈ TL.tl x, c < 0x110000 := by
  unfold sok PyData.strOk
  rw [← Array.all_toList, List.all_eq_true]
  exact ⟨fun h c hc => of_decide_eq_true (h c hc), fun h c hc => decide_eq_true (h c hc)⟩
theorem sok_sub {x y : Str} (h : sok x = true) (hs : ∀ c ∈ TL.tl y, c ∈ TL.tl x) : sok y = true := sok_iff.mpr fun c hc => sok_iff.mp h c (hs c hc)
theorem sok_app {x y : Str} (h : sok x = true) (h' : sok y = true) : sok (x ++ y) = true := sok_iff.mpr fun c hc => by
  rw [TL.tl_append] at hc
  exact (List.mem_append.mp hc).elim (sok_iff.mp h c) (sok_iff.mp h' c)
theorem sok_cut {x : Str} (h : sok x = true) (lo hi : Option Int) : sok (cutS x lo hi) = true := sok_sub h fun c hc => List.mem_of_mem_drop (List.mem_of_mem_take hc)
theorem sok_one {c : Nat} (h : c < 0x110000) : sok ⟨#[c]⟩ = true := sok_iff.mpr fun d hd => by
  cases List.mem_singleton.mp (show d ∈ [c] from hd)
  exact h
theorem sok_strSub {x : Str} (h : sok x = true) (i j : Nat) : sok (Builtin.Str.strSub x i j) = true := sok_sub h fun c hc => by
  rw [TL.tl_strSub] at hc
  exact List.mem_of_mem_drop (List.mem_of_mem_take hc)
theorem sok_empty : sok Str.empty = true := by decide +kernel
theorem spl_mem (S : List Nat) : ∀ (l : List Nat) (k : Nat) (acc : List Nat) (p : List Nat), p ∈ TL.spl S k acc l → ∀ c ∈ p, c ∈ acc ∨ c ∈ l
  | [], k, acc, p, hp, c, hc => by
    rw [TL.spl_nil] at hp
    cases List.mem_singleton.mp hp
    exact .inl hc
  | d :: l, k + 1, acc, p, hp, c, hc => by
    have hp' : p ∈ TL.spl S k acc l := hp
    exact (spl_mem S l k acc p hp' c hc).imp id fun h => List.mem_cons_of_mem _ h
  | d :: l, 0, acc, p, hp, c, hc => by
    cases e : TL.pre S (d :: l) with
    | true =>
      rw [TL.spl_hit e] at hp
      rcases List.mem_cons.mp hp with h | h
      · subst h
        exact .inl hc
      · rcases spl_mem S l _ [] p h c hc with z | z
        · cases z
        · exact .inr (List.mem_cons_of_mem _ z)
    | false =>
      rw [TL.spl_miss e] at hp
      rcases spl_mem S l 0 _ p hp c hc with z | z
      · rcases List.mem_append.mp z with z | z
        · exact .inl z
        · cases List.mem_singleton.mp z
          exact .inr (by simp)
      · exact .inr (List.mem_cons_of_mem _ z)
def kind1 (y : Str) : Bool := y.cps.all (· < 256)
theorem ne_tl {y : Str} (h : (y.length == 0) = false) : TL.tl y ≠ [] := fun e => by
  rw [TL.len_tl, e] at h
  cases h
theorem sok_split {x y : Str} (h : sok x = true) (hy : (y.length == 0) = false) (hk : kind1 y = true) : ∀ p ∈ Txt.split x y, sok p = true := fun p hp => sok_sub h fun c hc => by
  have e := TL.split_spl x y (ne_tl hy) (TL.kind_ok hk)
  have m : TL.tl p ∈ TL.spl (TL.tl y) 0 [] (TL.tl x) := by
    rw [← e]
    exact List.mem_map_of_mem hp
  rcases spl_mem _ _ _ _ _ m c hc with z | z
  · cases z
  · exact z
theorem sok_join {y : Str} (hy : sok y = true) : ∀ {ps : List Str}, (∀ p ∈ ps, sok p = true) → sok (Txt.join y ps) = true := fun {ps} h => by
  rw [TL.join_eq]
  induction ps with
  | nil => exact sok_empty
  | cons p ps ih =>
    cases ps with
    | nil => exact h p (by simp)
    | cons q r => exact sok_app (sok_app (h p (by simp)) hy) (ih fun z hz => h z (List.mem_cons_of_mem _ hz))

/-! ### numbers -/
section
variable {X : Cx}
def gII (g : Int → Int → PyData) : PyData → PyData → Option OV
  | .int i, .int j => some (.fz (g i j))
  | _, _ => none
theorem opd_I0 {gv : Int → Int → V} {gd : Int → Int → PyData} (h : ∀ i j Z, Rp X.K Z (gv i j) (gd i j)) : OpD X (rI0 gv) (gII gd) := fun {f Z fp s σ H vx vy x y o Q} r px py e t => by
  cases px <;> first | (cases e; done) | skip
  cases py <;> first | (cases e; done) | skip
  cases e
  exact ⟨_, _, rfl, rfl, t.flat r (h _ _ _)⟩
def gIIc (C : Int → Int → Bool) (g : Int → Int → PyData) : PyData → PyData → Option OV
  | .int i, .int j => if C i j = true then some (.fz (g i j)) else none
  | _, _ => none
theorem opd_I {C : Int → Int → Prop} {Cb : Int → Int → Bool} {gv : Int → Int → V} {gd : Int → Int → PyData} (hC : ∀ i j, Cb i j = true → C i j) (h : ∀ i j Z, Rp X.K Z (gv i j) (gd i j)) : OpD X (rI C gv) (gIIc Cb gd) := fun {f Z fp s σ H vx vy x y o Q} r px py e t => by
  cases px <;> first | (cases e; done) | skip
  cases py <;> first | (cases e; done) | skip
  rename_i i j
  have e' : (if Cb i j = true then some (OV.fz (gd i j)) else none) = some o := e
  split at e'
  · rename_i hc
    cases e'
    exact ⟨_, _, rfl, rfl, hC _ _ hc, t.flat r (h _ _ _)⟩
  · cases e'
abbrev gSub : PyData → PyData → Option OV := gII fun i j => .int (i - j)
theorem od_sub : OpD X (rI0 fun i j => .int (i - j)) gSub := opd_I0 fun _ _ _ => .int _
def modOk (_ j : Int) : Bool := decide (0 < j)
def divOk (_ j : Int) : Bool := decide (0 < j ∧ j < 1073741824)
abbrev gMod : PyData → PyData → Option OV := gIIc modOk fun i j => .int (i % j)
theorem od_mod : OpD X (rI (fun _ j => 0 < j) fun i j => .int (i % j)) gMod := opd_I (fun _ _ h => of_decide_eq_true h) fun _ _ _ => .int _
abbrev gDiv : PyData → PyData → Option OV := gIIc divOk fun i j => .int (i / j)
theorem od_div : OpD X (rI CDiv fun i j => .int (i / j)) gDiv := opd_I (fun _ _ h => of_decide_eq_true h) fun _ _ _ => .int _
def powOk (i j : Int) : Bool := decide (0 ≤ j ∧ j ≤ 1000000 ∧ i.natAbs < 18446744073709551616)
abbrev gPow : PyData → PyData → Option OV := gIIc powOk fun i j => .int (i ^ j.toNat)
theorem od_pow : OpD X (rI CPow fun i j => .int (i ^ j.toNat)) gPow := opd_I (fun i j h => (of_decide_eq_true h : 0 ≤ j ∧ j ≤ 1000000 ∧ i.natAbs < 18446744073709551616)) fun _ _ _ => .int _

/-! + of numbers, texts, lists, tuples -/
def rCatS (K : PySem.W.Frag) : R2 := fun x y H Q => ∃ l b xs zs, x = .ref l ∧ y = .ref b ∧ SqL K H l xs ∧ SqL K H b zs ∧ xs.length + zs.length ≤ sizeLine ∧
  ∀ p, H p = none → Q (.ref p) (upd H p (.lst (xs ++ zs)))
theorem op_catS : OpR X (binaryOp .Add) (rCatS X.K) := by
  intro pins s σ H x y v u Q I rx ry h
  obtain ⟨l, b, xs, zs, rfl, rfl, hH, hB, hz, q⟩ := h
  cases rx
  cases ry
  obtain ⟨its, r, ⟨o, n, e, hc, hd, he⟩, hl⟩ := I.list hH
  obtain ⟨its2, r2, ⟨o2, n2, e2, hc2, hd2, he2⟩, hl2⟩ := I.list hB
  have l1 := r.length
  have l2 := r2.length
  obtain ⟨oc, od, dt, sl⟩ := o
  obtain ⟨oc2, od2, dt2, sl2⟩ := o2
  simp only at hc hd he hc2 hd2 he2
  subst hc hd he hc2 hd2 he2
  refine concat_meets ⟨_, e, rfl⟩ ⟨_, e2, rfl⟩ noFill_list_add seq_list_add PySem.F.slot_list_add PySem.F.entry_list_add (PySem.F.args_list_add_2 _ _)
    (PyProof.Rows.list_addW l b its.toArray its2.toArray n n2 none none sl sl2 ?_) ⟨e, e2, ?_⟩
  rotate_left
  · have ea : its.toArray ++ its2.toArray = (its ++ its2).toArray := by simp
    rw [ea]
    have lz : (xs ++ zs).length ≤ sizeLine := by
      rw [List.length_append]
      exact hz
    exact ⟨.ref _, _, I.lnew (t' := s.toks) (r.append r2) lz, rfl, q _ I.fresh⟩
  · rw [List.size_toArray, List.size_toArray, ← l1, ← l2]
    exact hz
def rAdd (K : PySem.W.Frag) : R2 := fun x y H Q => rI0 (fun i j => .int (i + j)) x y H Q ∨ (∃ i j, x = .str i ∧ y = .str j ∧ i.length + j.length ≤ sizeLine ∧ Q (.str (i ++ j)) H) ∨ rCatS K x y H Q ∨ rCatA K x y H Q
theorem or_add : OpR X (binaryOp .Add) (rAdd X.K) := op_add.or (op_add_str.or (op_catS.or op_catA))
def gAdd : PyData → PyData → Option OV
  | .int i, .int j => some (.fz (.int (i + j)))
  | .str a, .str b => if a.length + b.length ≤ sizeLine then some (.fz (.str (a ++ b))) else none
  | .list a, .list b => if a.length + b.length ≤ sizeLine then some (.lst (a ++ b)) else none
  | .tuple a, .tuple b => if a.length + b.length ≤ sizeLine then some (.fz (.tuple (a ++ b))) else none
  | _, _ => none
theorem some_if {α : Type} {c : Prop} [Decidable c] {a b : α} (h : (if c then some a else none) = some b) : c ∧ a = b := by
  by_cases hc : c
  · rw [if_pos hc] at h
    exact ⟨hc, Option.some.inj h⟩
  · rw [if_neg hc] at h
    cases h
theorem od_add : OpD X (rAdd X.K) gAdd := fun {f Z fp s σ H vx vy x y o Q} r px py e t => by
  cases px with
  | int i =>
    cases py <;> first | (cases e; done) | skip
    cases e
    exact .inl ⟨_, _, rfl, rfl, t.flat r (.int _)⟩
  | str a ha =>
    cases py <;> first | (cases e; done) | skip
    rename_i b hb
    obtain ⟨hc, rfl⟩ := some_if e
    exact .inr (.inl ⟨_, _, rfl, rfl, hc, t.flat r (.str _ (sok_app ha hb))⟩)
  | lst q1 w1 =>
    cases py <;> first | (cases e; done) | skip
    rename_i q2 w2
    obtain ⟨hc, rfl⟩ := some_if e
    exact .inr (.inr (.inl ⟨_, _, _, _, rfl, rfl, (Le.of r.zh).sqL q1, (Le.of r.zh).sqL q2, by rw [w1.length, w2.length]; exact hc, fun p hp => t.lst r hp (w1.append w2)⟩))
  | tup q1 w1 =>
    cases py <;> first | (cases e; done) | skip
    rename_i q2 w2
    obtain ⟨hc, rfl⟩ := some_if e
    refine .inr (.inr (.inr ⟨_, _, _, _, rfl, rfl, (Le.of r.zh).sqT q1, (Le.of r.zh).sqT q2, by rw [w1.length, w2.length]; exact hc, fun z => ?_, fun _ z => ?_, fun _ _ p hp => t.tup r hp (w1.append w2)⟩))
    · subst z
      cases w1
      exact t.flat r (.tup q2 w2)
    · subst z
      cases w2
      rw [List.append_nil] at t
      exact t.flat r (.tup q1 w1)
  | _ => cases e

/-! * -/
def mulOk (i j : Int) : Bool := decide ((-18446744073709551616 < i ∧ i < 18446744073709551616) ∨ (-18446744073709551616 < j ∧ j < 18446744073709551616))
abbrev gMul : PyData → PyData → Option OV := gIIc mulOk fun i j => .int (i * j)
theorem od_mul : OpD X (rI CMul fun i j => .int (i * j)) gMul := opd_I (fun i j h => (of_decide_eq_true h : (-18446744073709551616 < i ∧ i < 18446744073709551616) ∨ (-18446744073709551616 < j ∧ j < 18446744073709551616))) fun _ _ _ => .int _

/-! comparisons -/
def gCmp (gi : Int → Int → Bool) (gs : List Nat → List Nat → Bool) : PyData → PyData → Option OV
  | .int i, .int j => some (.fz (.bool (gi i j)))
  | .str a, .str b => some (.fz (.bool (gs a.cps.toList b.cps.toList)))
  | _, _ => none
def rCmp (gi : Int → Int → Bool) (gs : List Nat → List Nat → Bool) : R2 := fun x y H Q => rI0 (fun i j => .bl (gi i j)) x y H Q ∨ ∃ i j, x = .str i ∧ y = .str j ∧ Q (.bl (gs i.cps.toList j.cps.toList)) H
theorem od_cmp {gi : Int → Int → Bool} {gs : List Nat → List Nat → Bool} : OpD X (rCmp gi gs) (gCmp gi gs) := fun {f Z fp s σ H vx vy x y o Q} r px py e t => by
  cases px <;> first | (cases e; done) | skip
  · cases py <;> first | (cases e; done) | skip
    cases e
    exact .inl ⟨_, _, rfl, rfl, t.flat r (.bl _)⟩
  · cases py <;> first | (cases e; done) | skip
    cases e
    exact .inr ⟨_, _, rfl, rfl, t.flat r (.bl _)⟩
abbrev gLt : PyData → PyData → Option OV := gCmp (fun i j => decide (i < j)) fun a b => decide (a < b)
abbrev gLe : PyData → PyData → Option OV := gCmp (fun i j => decide (i ≤ j)) fun a b => !decide (b < a)
abbrev gGt : PyData → PyData → Option OV := gCmp (fun i j => decide (j < i)) fun a b => decide (b < a)
abbrev gGe : PyData → PyData → Option OV := gCmp (fun i j => decide (j ≤ i)) fun a b => !decide (a < b)
theorem or_lt : OpR X (compareOp .Lt) (rCmp (fun i j => decide (i < j)) fun a b => decide (a < b)) := op_lt.or op_lt_str
theorem or_le : OpR X (compareOp .LtE) (rCmp (fun i j => decide (i ≤ j)) fun a b => !decide (b < a)) := op_le.or op_le_str
theorem or_gt : OpR X (compareOp .Gt) (rCmp (fun i j => decide (j < i)) fun a b => decide (b < a)) := op_gt.or op_gt_str
theorem or_ge : OpR X (compareOp .GtE) (rCmp (fun i j => decide (j ≤ i)) fun a b => !decide (a < b)) := op_ge.or op_ge_str
/-- ==, != of data without dicts -/
def eqOk (d : PyData) : Bool := !d.hasDict && decide (d.depth ≤ 64)
def gEq (d e : PyData) : Option OV := if (eqOk d && eqOk e) = true then some (.fz (.bool (PyData.eqv d e))) else none
def gNe (d e : PyData) : Option OV := if (eqOk d && eqOk e) = true then some (.fz (.bool (!PyData.eqv d e))) else none
theorem eqOk_dp {Z H : Hp} {v : V} {d : PyData} (h : Same Z H) (p : Rp X.K Z v d) (e : eqOk d = true) : Dp X.K H v d ∧ SeqAt.shaped d = true := by
  unfold eqOk at e
  simp only [Bool.and_eq_true, Bool.not_eq_true', decide_eq_true_eq] at e
  obtain ⟨h1, h2⟩ := p.dp h e.1
  refine ⟨h1, ?_⟩
  unfold SeqAt.shaped
  rw [h2, decide_eq_true e.2]
  rfl
theorem od_eq : OpD X (rEqD X.K) gEq := fun {f Z fp s σ H vx vy x y o Q} r px py e t => by
  obtain ⟨hc, rfl⟩ := some_if e
  rw [Bool.and_eq_true] at hc
  obtain ⟨h1, h2⟩ := eqOk_dp r.zh px hc.1
  obtain ⟨h3, h4⟩ := eqOk_dp r.zh py hc.2
  exact ⟨x, y, h1, h3, h2, h4, t.flat r (.bl _)⟩
theorem od_ne : OpD X (rNeD X.K) gNe := fun {f Z fp s σ H vx vy x y o Q} r px py e t => by
  obtain ⟨hc, rfl⟩ := some_if e
  rw [Bool.and_eq_true] at hc
  obtain ⟨h1, h2⟩ := eqOk_dp r.zh px hc.1
  obtain ⟨h3, h4⟩ := eqOk_dp r.zh py hc.2
  exact ⟨x, y, h1, h3, h2, h4, t.flat r (.bl _)⟩
/-- is None -/
def isNoneD : PyData → Bool
  | .none => true
  | _ => false
theorem Rp.non_iff {K : PySem.W.Frag} {Z : Hp} {v : V} {d : PyData} (p : Rp K Z v d) : decide (v = .non) = isNoneD d := by
  cases p <;> rfl
def gIsN : PyData → PyData → Option OV := fun d e => match e with
  | .none => some (.fz (.bool (isNoneD d)))
  | _ => none
def gNotN : PyData → PyData → Option OV := fun d e => match e with
  | .none => some (.fz (.bool (!isNoneD d)))
  | _ => none
theorem od_isN : OpD X (fun x y H Q => y = .non ∧ Q (.bl (decide (x = .non))) H) gIsN := fun {f Z fp s σ H vx vy x y o Q} r px py e t => by
  cases py <;> first | (cases e; done) | skip
  cases e
  exact ⟨rfl, by rw [px.non_iff]; exact t.flat r (.bl _)⟩
theorem od_notN : OpD X (fun x y H Q => y = .non ∧ Q (.bl (!decide (x = .non))) H) gNotN := fun {f Z fp s σ H vx vy x y o Q} r px py e t => by
  cases py <;> first | (cases e; done) | skip
  cases e
  exact ⟨rfl, by rw [px.non_iff]; exact t.flat r (.bl _)⟩
/-- in, not in: a text in a text -/
def inTxt (i j : Str) : Bool := !(Builtin.Str.occurrences j i 0 j.length 1).isEmpty
def gInS : PyData → PyData → Option OV
  | .str i, .str j => some (.fz (.bool (inTxt i j)))
  | _, _ => none
def gNotInS : PyData → PyData → Option OV
  | .str i, .str j => some (.fz (.bool (!inTxt i j)))
  | _, _ => none
theorem od_inS : OpD X (fun x y H Q => ∃ i j, x = .str i ∧ y = .str j ∧ Q (.bl (!(Builtin.Str.occurrences j i 0 j.length 1).isEmpty)) H) gInS := fun {f Z fp s σ H vx vy x y o Q} r px py e t => by
  cases px <;> first | (cases e; done) | skip
  cases py <;> first | (cases e; done) | skip
  cases e
  exact ⟨_, _, rfl, rfl, t.flat r (.bl _)⟩
theorem od_notInS : OpD X (fun x y H Q => ∃ i j, x = .str i ∧ y = .str j ∧ Q (.bl (!(!(Builtin.Str.occurrences j i 0 j.length 1).isEmpty))) H) gNotInS := fun {f Z fp s σ H vx vy x y o Q} r px py e t => by
  cases px <;> first | (cases e; done) | skip
  cases py <;> first | (cases e; done) | skip
  cases e
  exact ⟨_, _, rfl, rfl, t.flat r (.bl _)⟩
/-- -n -/
def gNeg : PyData → Option OV
  | .int i => some (.fz (.int (-i)))
  | _ => none
theorem ud_neg {f : Fr0} {Z : Hp} {fp : Nat → List Addr} {s : DSt} {σ : L2.St} {H : Hp} {vx : V} {x : PyData} {o : OV} {Q : VK} (r : R X.K f Z fp s σ H) (px : Rp X.K Z vx x) (e : gNeg x = some o) (t : Told X.K f Z s σ o Q) : rU (fun i => .int (-i)) vx H Q := by
  cases px <;> first | (cases e; done) | skip
  cases e
  exact ⟨_, rfl, t.flat r (.int _)⟩

/-! ### subscripts, slices -/
def gIx : PyData → PyData → Option OV
  | .list ds, .int i => (atI ds i).map .fz
  | .tuple ds, .int i => (atI ds i).map .fz
  | .str z, .int i => if z.length ≤ sizeLine then (atI z.cps.toList i).map fun c => .fz (.str ⟨#[c]⟩) else none
  | _, _ => none
theorem RpA.atI {K : PySem.W.Frag} {Z : Hp} {vs : List V} {ds : List PyData} {i : Int} {d : PyData} (p : RpA K Z vs ds) (h : L2.atI ds i = some d) : ∃ v, L2.atI vs i = some v ∧ Rp K Z v d := by
  unfold L2.atI at h ⊢
  rw [p.length]
  cases e : ixN ds.length i with
  | none => rw [e] at h; cases h
  | some j =>
    rw [e] at h
    exact p.get h
theorem od_ix : OpD X (rIx X.K) gIx := fun {f Z fp s σ H vx vy x y o Q} r px py e t => by
  cases px with
  | lst q w =>
    cases py <;> first | (cases e; done) | skip
    obtain ⟨d, h1, rfl⟩ := Option.map_eq_some_iff.mp e
    obtain ⟨v, h2, p⟩ := w.atI h1
    exact .inl ⟨_, _, _, _, rfl, rfl, (Le.of r.zh).sqL q, h2, t.flat r p⟩
  | tup q w =>
    cases py <;> first | (cases e; done) | skip
    obtain ⟨d, h1, rfl⟩ := Option.map_eq_some_iff.mp e
    obtain ⟨v, h2, p⟩ := w.atI h1
    exact .inr (.inl ⟨_, _, _, _, rfl, rfl, (Le.of r.zh).sqT q, h2, t.flat r p⟩)
  | str z hz =>
    cases py <;> first | (cases e; done) | skip
    rename_i i
    have e' : (if z.length ≤ sizeLine then (L2.atI z.cps.toList i).map fun c => OV.fz (.str ⟨#[c]⟩) else none) = some o := e
    by_cases hc : z.length ≤ sizeLine
    · rw [if_pos hc] at e'
      obtain ⟨c, h1, rfl⟩ := Option.map_eq_some_iff.mp e'
      obtain ⟨j, _, h2, _⟩ := atI_get h1
      exact .inr (.inr ⟨_, _, _, rfl, rfl, hc, h1, t.flat r (.str _ (sok_one (sok_iff.mp hz c (List.mem_of_getElem? h2))))⟩)
    · rw [if_neg hc] at e'
      cases e'
  | _ => cases e
abbrev DTO := DSt → (Option Int → DSt → Prop) → Prop
def liftO (K : PySem.W.Frag) (t : DTO) : TO := fun σ H Q => ∃ f Z fp s, R K f Z fp s σ H ∧ t s fun b s' => ∀ Z' fp' H', Same Z Z' → R K f Z' fp' s' σ H' → Q b H'
structure DO (X : Cx) (e : Option Expr) (t : DTO) : Prop where
  mono : ∀ s Q Q', (∀ o s', Q o s' → Q' o s') → t s Q → t s Q'
  po : PO X e (liftO X.K t)
def oNone : DTO := fun s Q => Q none s
def oSome (te : DTE) : DTO := fun s Q => te s fun o s' => ∃ i, o.data = .int i ∧ Q (some i) s'
theorem PO.weak {e : Option Expr} {t t' : TO} (h : PO X e t) (i : ∀ σ H Q, t' σ H Q → t σ H Q) : PO X e t' := ⟨fun p s σ H Q I q => h.run p s σ H Q I (i _ _ _ q)⟩
theorem do_none : DO X none oNone := ⟨fun _ _ _ hq h => hq _ _ h, PO.weak po_none fun σ H Q ⟨f, Z, fp, s, r, h⟩ => h _ _ _ Same.rfl' r⟩
theorem do_some {e : Expr} {te : DTE} (he : DE X e te) : DO X (some e) (oSome te) :=
  ⟨fun s Q Q' hq h => he.mono _ _ _ (fun o s' ⟨i, z, q⟩ => ⟨i, z, hq _ _ q⟩) h, PO.weak (po_some he.pe) fun σ H Q ⟨f, Z, fp, s, r, h⟩ => he.go r h fun o s' Z' fp' v H' zz r' p ⟨i, z, q⟩ => by
    rw [z] at p
    exact ⟨i, p.int_inv, q _ _ _ zz r'⟩⟩
theorem DO.go {e : Option Expr} {t : DTO} (h : DO X e t) {f : Fr0} {Z H : Hp} {fp : Nat → List Addr} {s : DSt} {σ : L2.St} (r : R X.K f Z fp s σ H) {q : Option Int → DSt → Prop} {Q : Option Int → Hp → Prop} (w : t s q)
    (k : ∀ o s' Z' fp' H', Same Z Z' → R X.K f Z' fp' s' σ H' → q o s' → Q o H') : liftO X.K t σ H Q :=
  ⟨f, Z, fp, s, r, h.mono _ _ _ (fun o s' q' Z' fp' H' zz r' => k o s' Z' fp' H' zz r' q') w⟩
def cutD (ds : List PyData) (lo hi : Option Int) : List PyData := (ds.drop (HT.sIx ds.length 0 lo)).take (HT.sIx ds.length ds.length hi - HT.sIx ds.length 0 lo)
def gSl : PyData → Option Int → Option Int → Option OV
  | .list ds, lo, hi => some (.lst (cutD ds lo hi))
  | .tuple ds, lo, hi => some (.fz (.tuple (cutD ds lo hi)))
  | .str z, lo, hi => if z.length ≤ sizeLine then some (.fz (.str (cutS z lo hi))) else none
  | _, _, _ => none
def eSl (te : DTE) (tl th : DTO) : DTE := fun s Q => te s fun x s1 => tl s1 fun l s2 => th s2 fun u s3 => ∃ o, gSl x.data l u = some o ∧ Q o s3
def rSl (K : PySem.W.Frag) : V → Option Int → Option Int → Hp → VK → Prop := fun x lo hi H Q => rSlL K x lo hi H Q ∨ (rSlA K x lo hi H Q ∨ rSlS x lo hi H Q)
theorem sl_all : SlR X (rSl X.K) := sl_list.or (sl_tupA.or sl_str)
theorem cutD_len {K : PySem.W.Frag} {Z : Hp} {vs : List V} {ds : List PyData} (p : RpA K Z vs ds) (lo hi : Option Int) : RpA K Z (cutV vs lo hi) (cutD ds lo hi) := by
  unfold cutV cutD
  rw [p.length]
  exact (p.drop _).take _
theorem de_slice {e : Expr} {te : DTE} {lo hi : Option Expr} {tl th : DTO} {pos p2 : Pos} (he : DE X e te) (hl : DO X lo tl) (hh : DO X hi th) : DE X (.Subscript e (.Slice lo hi none p2) pos) (eSl te tl th) := by
  refine ⟨fun s Q Q' hq h => he.mono _ _ _ (fun x s1 h1 => hl.mono _ _ _ (fun l s2 h2 => hh.mono _ _ _ (fun u s3 ⟨o, e, q⟩ => ⟨o, e, hq _ _ q⟩) h2) h1) h, PE.weak (pe_slice sl_all he.pe hl.po hh.po) fun σ H Q ⟨f, Z, fp, s, r, h⟩ => ?_⟩
  refine he.go r h fun x s1 Z1 fp1 v H1 z1 r1 p1 h1 => hl.go r1 h1 fun l s2 Z2 fp2 H2 z2 r2 h2 => hh.go r2 h2 fun u s3 Z3 fp3 H3 z3 r3 ⟨o, e, q⟩ => ?_
  have p3 := p1.up (z2.trans z3)
  have t := Told.from q (z1.trans (z2.trans z3))
  generalize x.data = d at p3 e
  cases p3 with
  | lst hq w =>
    cases e
    exact .inl ⟨_, _, rfl, (Le.of r3.zh).sqL hq, fun p hp => t.lst r3 hp (cutD_len w _ _)⟩
  | tup hq w =>
    rename_i a xs ds
    cases e
    have hw := w.length
    refine .inr (.inl ⟨_, _, rfl, (Le.of r3.zh).sqT hq, fun z => ?_, fun _ p hp => t.tup r3 hp (cutD_len w _ _)⟩)
    have e2 : cutD ds l u = ds := by
      unfold cutD
      rw [← hw, z.1, z.2, List.drop_zero, Nat.sub_zero]
      exact List.take_of_length_le (by rw [hw]; exact Nat.le_refl _)
    rw [e2] at t
    exact t.flat r3 (.tup hq w)
  | str z hz =>
    obtain ⟨hc, rfl⟩ := some_if e
    exact .inr (.inr ⟨_, rfl, hc, t.flat r3 (.str _ (sok_cut hz _ _))⟩)
  | _ => cases e

/-! ### built-ins -/
def gLen : List PyData → Option OV
  | [.str z] => if z.length ≤ sizeLine then some (.fz (.int z.length)) else none
  | [.list ds] => some (.fz (.int ds.length))
  | [.tuple ds] => some (.fz (.int ds.length))
  | _ => none
theorem cd_len : CallD X (fun xs H Q => ∃ x n, xs = [x] ∧ LenV X.K x H n ∧ Q (.int n) H) gLen := fun {f Z fp s σ H vs ds o Q} r p e t => by
  cases p with
  | nil => cases e
  | cons p p' =>
    cases p' with
    | cons _ _ => cases p <;> cases e
    | nil =>
      cases p with
      | str z hz =>
        obtain ⟨hc, rfl⟩ := some_if e
        exact ⟨_, _, rfl, ⟨hc, rfl⟩, t.flat r (.int _)⟩
      | lst q w =>
        cases e
        exact ⟨_, _, rfl, .inl ⟨_, (Le.of r.zh).sqL q, w.length.symm⟩, t.flat r (.int _)⟩
      | tup q w =>
        cases e
        exact ⟨_, _, rfl, .inr ⟨_, (Le.of r.zh).sqT q, w.length.symm⟩, t.flat r (.int _)⟩
      | _ => cases e
def gAbs : List PyData → Option OV
  | [.int i] => some (.fz (.int (if i < 0 then -i else i)))
  | _ => none
theorem cd_abs : CallD X (fun xs H Q => ∃ i, xs = [.int i] ∧ Q (.int (if i < 0 then -i else i)) H) gAbs := fun {f Z fp s σ H vs ds o Q} r p e t => by
  cases p with
  | nil => cases e
  | cons p p' =>
    cases p <;> first | (cases e; done) | skip
    cases p' <;> first | (cases e; done) | skip
    cases e
    exact ⟨_, rfl, t.flat r (.int _)⟩
def gInt : List PyData → Option OV
  | [.int i] => some (.fz (.int i))
  | [.bool k] => some (.fz (.int (if k then 1 else 0)))
  | _ => none
theorem cd_int : CallD X (fun xs H Q => (∃ i, xs = [.int i] ∧ Q (.int i) H) ∨ ∃ k, xs = [.bl k] ∧ Q (.int (if k then 1 else 0)) H) gInt := fun {f Z fp s σ H vs ds o Q} r p e t => by
  cases p with
  | nil => cases e
  | cons p p' =>
    cases p with
    | int i =>
      cases p' <;> first | (cases e; done) | skip
      cases e
      exact .inl ⟨_, rfl, t.flat r (.int _)⟩
    | bl k =>
      cases p' <;> first | (cases e; done) | skip
      cases e
      exact .inr ⟨_, rfl, t.flat r (.int _)⟩
    | _ => cases e
def gStrI : List PyData → Option OV
  | [.int i] => if i.natAbs.log2 < 1920 then some (.fz (.str (toString i))) else none
  | _ => none
theorem sok_num (i : Int) : sok (toString i : String) = true := by
  rw [sok_iff]
  intro c hc
  have e : TL.tl (Str.ofString (toString i)) = (toString i).toList.map Char.toNat := TL.tl_ofString _
  rw [e] at hc
  obtain ⟨d, _, rfl⟩ := List.mem_map.mp hc
  have := d.valid
  rcases this with h | ⟨_, h⟩
  · exact Nat.lt_trans h (by decide)
  · exact h
theorem cd_strI : CallD X (fun xs H Q => ∃ i : Int, xs = [.int i] ∧ i.natAbs.log2 < 1920 ∧ Q (.str (toString i)) H) gStrI := fun {f Z fp s σ H vs ds o Q} r p e t => by
  cases p with
  | nil => cases e
  | cons p p' =>
    cases p <;> first | (cases e; done) | skip
    cases p' <;> first | (cases e; done) | skip
    obtain ⟨hc, rfl⟩ := some_if e
    exact ⟨_, rfl, hc, t.flat r (.str _ (sok_num _))⟩
def gMax : List PyData → Option OV
  | [.int i, .int j] => some (.fz (.int (if j > i then j else i)))
  | _ => none
def gMin : List PyData → Option OV
  | [.int i, .int j] => some (.fz (.int (if j < i then j else i)))
  | _ => none
theorem cd_max : CallD X (fun xs H Q => ∃ i j : Int, xs = [.int i, .int j] ∧ Q (.int (if j > i then j else i)) H) gMax := fun {f Z fp s σ H vs ds o Q} r p e t => by
  cases p with
  | nil => cases e
  | cons p p' =>
    cases p <;> first | (cases e; done) | skip
    cases p' with
    | nil => cases e
    | cons p1 p2 =>
      cases p1 <;> first | (cases e; done) | skip
      cases p2 <;> first | (cases e; done) | skip
      cases e
      exact ⟨_, _, rfl, t.flat r (.int _)⟩
theorem cd_min : CallD X (fun xs H Q => ∃ i j : Int, xs = [.int i, .int j] ∧ Q (.int (if j < i then j else i)) H) gMin := fun {f Z fp s σ H vs ds o Q} r p e t => by
  cases p with
  | nil => cases e
  | cons p p' =>
    cases p <;> first | (cases e; done) | skip
    cases p' with
    | nil => cases e
    | cons p1 p2 =>
      cases p1 <;> first | (cases e; done) | skip
      cases p2 <;> first | (cases e; done) | skip
      cases e
      exact ⟨_, _, rfl, t.flat r (.int _)⟩
/-- isinstance(e, T), T the name of a built-in class -/
def tyName : PyData → String
  | .none => "NoneType"
  | .bool _ => "bool"
  | .int _ => "int"
  | .str _ => "str"
  | .list _ => "list"
  | .tuple _ => "tuple"
  | .dict _ => "dict"
theorem Rp.tyX {K : PySem.W.Frag} {Z H : Hp} {v : V} {d : PyData} (h : Same Z H) (p : Rp K Z v d) : TyX K H v (.type (tyName d)) := by
  cases p with
  | non => exact .base .non
  | bl b => exact .base (.bl b)
  | int i => exact .base (.int i)
  | str x _ => exact .base (.str x)
  | lst q w =>
    rcases q with (q | ⟨o, q⟩) | ⟨o, its, n, h1, h2, _⟩
    · exact .base (.lst (h _ _ q))
    · exact .base (.frz (h _ _ q))
    · exact .kList h1 h2
  | tup q w =>
    rcases q with (q | ⟨o, q⟩) | ⟨o, its, n, h1, h2, _⟩
    · exact .base (.tup (h _ _ q))
    · exact .fTuple (h _ _ q)
    · exact .kTuple h1 h2
  | dct q w =>
    rcases q with q | ⟨o, q⟩
    · exact .base (.dK (h _ _ q))
    · exact .fDict (h _ _ q)
/-- what each kind answers -/
def isiT (T : String) (d : PyData) : Bool := tyName d == T || (tyName d == "bool" && T == "int")
def isiOk (T : String) : Bool := ["NoneType", "bool", "int", "str", "list", "tuple", "dict"].all fun a => kitB a T == some (a == T || (a == "bool" && T == "int"))
def eIsi (T : String) (te : DTE) : DTE := fun s Q => te s fun o s' => Q (.fz (.bool (isiT T o.data))) s'
theorem de_isi {e : Expr} {te : DTE} {p p2 pos : Pos} {T : Str} {Tn : String} (he : DE X e te) (hT : isiOk Tn = true) (gl : Gl X "isinstance") (hm : X.mg "isinstance" = none) (gl2 : Gl X T) (hm2 : X.mg T = none) (hv2 : bootBuiltins T = some (.type Tn))
    (hv : bootBuiltins "isinstance" = some (.builtin "isinstance")) (hn2 : T ≠ "__name__") (hd2 : (T == ("__debug__" : Str)) = false) (hs : starEach (e :: [.Name T p2]) X.env = (false, eval e X.env) :: starEach [.Name T p2] X.env) :
    DE X (.Call (.Name "isinstance" p) [e, .Name T p2] [] pos) (eIsi Tn te) := by
  refine ⟨fun s Q Q' hq h => he.mono _ _ _ (fun o s' q => hq _ _ q) h, PE.weak (pe_callB call_isi gl hm hv (pa_cons he.pe (pa_cons (pe_bltn (v := .ty Tn) gl2 hm2 hv2 rfl hn2 hd2) pa_nil) hs) (he := hs)) fun σ H Q ⟨f, Z, fp, s, r, h⟩ => ?_⟩
  refine he.go r h fun o s' Z' fp' v H' zz r' pp q => ?_
  refine ⟨v, .ty Tn, _, _, isiT Tn o.data, rfl, .ty Tn, pp.tyX r'.zh, kit_ty ?_, (Told.from q zz).flat r' (.bl _)⟩
  have h7 := List.all_eq_true.mp hT
  have e7 := eq_of_beq (h7 (tyName o.data) (by cases o.data <;> simp [tyName]))
  exact e7

/-! ### methods of texts and containers -/
def eMt0 (g : PyData → Option OV) (te : DTE) : DTE := fun s Q => te s fun x s1 => ∃ o, g x.data = some o ∧ Q o s1
def eMt1 (g : PyData → PyData → Option OV) (te ta : DTE) : DTE := fun s Q => te s fun x s1 => (∃ z, x.data = .str z) ∧ ta s1 fun y s2 => ∃ o, g x.data y.data = some o ∧ Q o s2
def M1D (X : Cx) (r : V → List V → Hp → VK → Prop) (g : PyData → PyData → Option OV) : Prop := ∀ {f Z fp s σ H vx vy x y o Q}, R X.K f Z fp s σ H → Rp X.K Z vx x → Rp X.K Z vy y → g x y = some o → Told X.K f Z s σ o Q → r vx [vy] H Q
theorem de_m1 {o e : Expr} {to te : DTE} {name : Str} {apos pos : Pos} {id : String} {r : V → List V → Hp → VK → Prop} {g : PyData → PyData → Option OV} (slot : Slot "str" name id) (ty : typeOf (.builtin id) = pure (.type "method_descriptor")) (rule : MtR X id r) (hg : M1D X r g)
    (ho : DE X o to) (he : DE X e te) (hs : starEach [e] X.env = [(false, eval e X.env)]) (hbase : attributeBase o name X.env (eval o X.env) = eval o X.env) (hline : (apos.endLine == pos.line) = true) :
    DE X (.Call (.Attribute o name apos) [e] [] pos) (eMt1 g to te) := by
  refine ⟨fun s Q Q' hq h => ho.mono _ _ _ (fun x s1 ⟨z, h1⟩ => ⟨z, he.mono _ _ _ (fun y s2 ⟨o, e, q⟩ => ⟨o, e, hq _ _ q⟩) h1⟩) h, PE.weak (pe_m1 slot ty rule ho.pe he.pe hs hbase hline) fun σ H Q ⟨f, Z, fp, s, r, h⟩ => ?_⟩
  refine ho.go r h fun x s1 Z1 fp1 v H1 z1 r1 p1 ⟨⟨z, hz⟩, h1⟩ => ?_
  have p1' := p1
  rw [hz] at p1'
  refine ⟨⟨z, p1'.str_inv⟩, he.go r1 h1 fun y s2 Z2 fp2 u H2 z2 r2 p2 ⟨w, e, q⟩ => ?_⟩
  exact hg r2 (p1.up z2) p2 e (Told.from q (z1.trans z2))
def gSS (C : Str → Str → Bool) (g : Str → Str → OV) : PyData → PyData → Option OV
  | .str a, .str b => if C a b = true then some (g a b) else none
  | _, _ => none
def sepOk (a b : Str) : Bool := !(b.length == 0) && decide (a.length + 2 ≤ sizeLine) && kind1 b
abbrev gSplit : PyData → PyData → Option OV := gSS sepOk fun a b => .lst ((Txt.split a b).map .str)
theorem gSS_inv {C : Str → Str → Bool} {g : Str → Str → OV} {x y : PyData} {o : OV} (h : gSS C g x y = some o) : ∃ a b, x = .str a ∧ y = .str b ∧ C a b = true ∧ g a b = o := by
  unfold gSS at h
  split at h
  · obtain ⟨h1, h2⟩ := some_if h
    exact ⟨_, _, rfl, rfl, h1, h2⟩
  · cases h
theorem sepOk_iff {a b : Str} (h : sepOk a b = true) : (b.length == 0) = false ∧ a.length + 2 ≤ sizeLine ∧ kind1 b = true := by
  unfold sepOk at h
  simp only [Bool.and_eq_true, Bool.not_eq_true', decide_eq_true_eq] at h
  exact ⟨h.1.1, h.1.2, h.2⟩
theorem md_split : M1D X (fun x xs H Q => ∃ a b, x = .str a ∧ xs = [.str b] ∧ (b.length == 0) = false ∧ a.length + 2 ≤ sizeLine ∧ rNewStrs (Txt.split a b) H Q) gSplit := fun {f Z fp s σ H vx vy x y o Q} r px py e t => by
  obtain ⟨a, b, rfl, rfl, h1, rfl⟩ := gSS_inv e
  obtain ⟨h2, h3, h4⟩ := sepOk_iff h1
  cases px with
  | str _ ha =>
    cases py with
    | str _ hb => exact ⟨a, b, rfl, rfl, h2, h3, fun p hp => t.lst r hp (RpA.strs _ (sok_split ha h2 h4))⟩
abbrev gPart : PyData → PyData → Option OV := gSS sepOk fun a b => .fz (.tuple [.str (Txt.partition a b).1, .str (Txt.partition a b).2.1, .str (Txt.partition a b).2.2])
theorem sok_part {a b : Str} (ha : sok a = true) (hb : sok b = true) : sok (Txt.partition a b).1 = true ∧ sok (Txt.partition a b).2.1 = true ∧ sok (Txt.partition a b).2.2 = true := by
  unfold Txt.partition
  split
  · exact ⟨sok_strSub ha _ _, hb, sok_strSub ha _ _⟩
  · exact ⟨ha, sok_empty, sok_empty⟩
theorem md_part : M1D X (fun x xs H Q => ∃ a b, x = .str a ∧ xs = [.str b] ∧ (b.length == 0) = false ∧ a.length ≤ sizeLine ∧
    ∀ p, H p = none → Q (.ref p) (upd H p (.tup [.str (Txt.partition a b).1, .str (Txt.partition a b).2.1, .str (Txt.partition a b).2.2]))) gPart := fun {f Z fp s σ H vx vy x y o Q} r px py e t => by
  obtain ⟨a, b, rfl, rfl, h1, rfl⟩ := gSS_inv e
  obtain ⟨h2, h3, h4⟩ := sepOk_iff h1
  cases px with
  | str _ ha =>
    cases py with
    | str _ hb =>
      obtain ⟨k1, k2, k3⟩ := sok_part ha hb
      exact ⟨a, b, rfl, rfl, h2, by omega, fun p hp => t.tup r hp (.cons (.str _ k1) (.cons (.str _ k2) (.cons (.str _ k3) .nil)))⟩
abbrev gRPart : PyData → PyData → Option OV := gSS sepOk fun a b => .fz (.tuple [.str (Txt.rpartition a b).1, .str (Txt.rpartition a b).2.1, .str (Txt.rpartition a b).2.2])
theorem sok_rpart {a b : Str} (ha : sok a = true) (hb : sok b = true) : sok (Txt.rpartition a b).1 = true ∧ sok (Txt.rpartition a b).2.1 = true ∧ sok (Txt.rpartition a b).2.2 = true := by
  unfold Txt.rpartition
  split
  · exact ⟨sok_strSub ha _ _, hb, sok_strSub ha _ _⟩
  · exact ⟨sok_empty, sok_empty, ha⟩
theorem mt_rpart : MtR X "str.rpartition" (fun x xs H Q => ∃ a b, x = .str a ∧ xs = [.str b] ∧ (b.length == 0) = false ∧ a.length ≤ sizeLine ∧
    ∀ p, H p = none → Q (.ref p) (upd H p (.tup [.str (Txt.rpartition a b).1, .str (Txt.rpartition a b).2.1, .str (Txt.rpartition a b).2.2]))) := by
  intro pins s σ H x xs v us Q I rx rs h
  obtain ⟨a, b, rfl, rfl, hb, hz, h⟩ := h
  obtain ⟨t, rfl⟩ := rx
  cases rs with
  | cons r1 rs =>
    cases rs
    obtain ⟨u, rfl⟩ := r1
    refine call_meets F.slot_str_rpartition (typeIs_str _ _ _) F.entry_str_rpartition (F.args_str_rpartition_2 _ _) (meets_str_rpartition a b t u hb hz) ?_
    unfold Txt.rpartition at h
    revert h
    cases Builtin.Str.lastOccurrence a b 0 a.length with
    | none => intro h; exact laid_parts I h
    | some i => intro h; exact laid_parts I h
theorem md_rpart : M1D X (fun x xs H Q => ∃ a b, x = .str a ∧ xs = [.str b] ∧ (b.length == 0) = false ∧ a.length ≤ sizeLine ∧
    ∀ p, H p = none → Q (.ref p) (upd H p (.tup [.str (Txt.rpartition a b).1, .str (Txt.rpartition a b).2.1, .str (Txt.rpartition a b).2.2]))) gRPart := fun {f Z fp s σ H vx vy x y o Q} r px py e t => by
  obtain ⟨a, b, rfl, rfl, h1, rfl⟩ := gSS_inv e
  obtain ⟨h2, h3, h4⟩ := sepOk_iff h1
  cases px with
  | str _ ha =>
    cases py with
    | str _ hb =>
      obtain ⟨k1, k2, k3⟩ := sok_rpart ha hb
      exact ⟨a, b, rfl, rfl, h2, by omega, fun p hp => t.tup r hp (.cons (.str _ k1) (.cons (.str _ k2) (.cons (.str _ k3) .nil)))⟩
def yesOk (_ _ : Str) : Bool := true
abbrev gStarts : PyData → PyData → Option OV := gSS yesOk fun a b => .fz (.bool (Txt.startswith a b))
theorem md_starts : M1D X (fun x xs H Q => ∃ a b, x = .str a ∧ xs = [.str b] ∧ Q (.bl (Txt.startswith a b)) H) gStarts := fun {f Z fp s σ H vx vy x y o Q} r px py e t => by
  obtain ⟨a, b, rfl, rfl, h1, rfl⟩ := gSS_inv e
  cases px with
  | str _ ha =>
    cases py with
    | str _ hb => exact ⟨a, b, rfl, rfl, t.flat r (.bl _)⟩
abbrev gCount : PyData → PyData → Option OV := gSS yesOk fun a b => .fz (.int (Txt.count a b))
theorem md_count : M1D X (fun x xs H Q => ∃ a b, x = .str a ∧ xs = [.str b] ∧ Q (.int (Txt.count a b)) H) gCount := fun {f Z fp s σ H vx vy x y o Q} r px py e t => by
  obtain ⟨a, b, rfl, rfl, h1, rfl⟩ := gSS_inv e
  cases px with
  | str _ ha =>
    cases py with
    | str _ hb => exact ⟨a, b, rfl, rfl, t.flat r (.int _)⟩
/-- x.index(y), found -/
abbrev gIndexS : PyData → PyData → Option OV := gSS inTxtR fun a b => .fz (.int (Txt.find a b))
where inTxtR (a b : Str) : Bool := inTxt b a
def unStr : PyData → Option Str
  | .str x => some x
  | _ => none
def unStrs : List PyData → Option (List Str)
  | [] => some []
  | .str x :: r => (unStrs r).map (x :: ·)
  | _ :: _ => none
theorem unStrs_map : ∀ {ds : List PyData} {xs : List Str}, unStrs ds = some xs → ds = xs.map .str
  | [], xs, h => by cases h; rfl
  | .str x :: r, xs, h => by
    obtain ⟨ys, h1, h2⟩ := Option.map_eq_some_iff.mp h
    subst h2
    rw [unStrs_map h1]
    rfl
theorem unStrs_of : ∀ xs : List Str, unStrs (xs.map .str) = some xs
  | [] => rfl
  | x :: xs => by
    show (unStrs (xs.map .str)).map (x :: ·) = _
    rw [unStrs_of xs]
    rfl
def joinOk (a : Str) (ys : List Str) : Bool := decide ((ys.map (·.length)).sum + ys.length * a.length ≤ 16777216)
def gJoin : PyData → PyData → Option OV
  | .str a, .list ds => match unStrs ds with
    | some ys => if joinOk a ys = true then some (.fz (.str (Txt.join a ys))) else none
    | none => none
  | .str a, .tuple ds => match unStrs ds with
    | some ys => if joinOk a ys = true then some (.fz (.str (Txt.join a ys))) else none
    | none => none
  | _, _ => none
theorem md_join : M1D X (fun x xs H Q => ∃ a p, ∃ ys : List Str, x = .str a ∧ xs = [.ref p] ∧ (SqL X.K H p (ys.map V.str) ∨ SqT X.K H p (ys.map V.str)) ∧
    (ys.map (·.length)).sum + ys.length * a.length ≤ 16777216 ∧ Q (.str (Txt.join a ys)) H) gJoin := fun {f Z fp s σ H vx vy x y o Q} r px py e t => by
  cases px <;> first | (cases e; done) | skip
  rename_i a ha
  cases py <;> first | (cases e; done) | skip
  · rename_i p xs ds q w
    cases h : unStrs ds with
    | none =>
      have e' : (match unStrs ds with | some ys => if joinOk a ys = true then some (OV.fz (.str (Txt.join a ys))) else none | none => none) = some o := e
      rw [h] at e'
      cases e'
    | some ys =>
      have e' : (match unStrs ds with | some ys => if joinOk a ys = true then some (OV.fz (.str (Txt.join a ys))) else none | none => none) = some o := e
      rw [h] at e'
      obtain ⟨hc, rfl⟩ := some_if e'
      cases unStrs_map h
      obtain ⟨rfl, hk⟩ := RpA.strs_inv ys w
      exact ⟨a, p, ys, rfl, rfl, .inl ((Le.of r.zh).sqL q), of_decide_eq_true hc, t.flat r (.str _ (sok_join ha hk))⟩
  · rename_i p xs ds q w
    cases h : unStrs ds with
    | none =>
      have e' : (match unStrs ds with | some ys => if joinOk a ys = true then some (OV.fz (.str (Txt.join a ys))) else none | none => none) = some o := e
      rw [h] at e'
      cases e'
    | some ys =>
      have e' : (match unStrs ds with | some ys => if joinOk a ys = true then some (OV.fz (.str (Txt.join a ys))) else none | none => none) = some o := e
      rw [h] at e'
      obtain ⟨hc, rfl⟩ := some_if e'
      cases unStrs_map h
      obtain ⟨rfl, hk⟩ := RpA.strs_inv ys w
      exact ⟨a, p, ys, rfl, rfl, .inr ((Le.of r.zh).sqT q), of_decide_eq_true hc, t.flat r (.str _ (sok_join ha hk))⟩
end
end L2.DL

set_option maxRecDepth 100000
set_option maxHeartbeats 2000000
namespace L2.DL
open PySem PySem.Spec

/-! ### a look at what is owned, which leaves it owned -/
def SV.froz : SV → SV
  | .own o => .dat o.data
  | x => x
def froz (s : DSt) : DSt := s.map SV.froz
def isOwn : SV → Bool
  | .own _ => true
  | _ => false
section
variable {K : PySem.W.Frag} {f : Fr0} {Z Z' H H' : Hp} {fp : Nat → List Addr} {s s' : DSt} {σ : L2.St}
def ownAt (s : DSt) (fp : Nat → List Addr) (a : Addr) : Prop := ∃ i, isOwn (s.getD i .no) = true ∧ a ∈ fp i
open Classical in
noncomputable def frZ (s : DSt) (fp : Nat → List Addr) (Z H : Hp) : Hp := fun a => if ownAt s fp a then H a else Z a
theorem froz_getD (i : Nat) : (froz s).getD i .no = (s.getD i .no).froz := by
  unfold froz
  rw [List.getD_eq_getElem?_getD, List.getElem?_map, List.getD_eq_getElem?_getD]
  cases s[i]? <;> rfl
theorem R.frozen (r : R K f Z fp s σ H) : R K f (frZ s fp Z H) (fun i => if isOwn (s.getD i .no) = true then [] else fp i) (froz s) σ H ∧ Same Z (frZ s fp Z H) := by
  have own_free : ∀ a, ownAt s fp a → Z a = none ∧ (f.pl a ∨ f.H0 a = none) ∧ ¬ f.pp a := fun a ⟨i, h1, h2⟩ => by
    have q := r.slot i
    revert h1 h2 q
    generalize s.getD i .no = sv
    generalize σ[i]? = oo
    generalize fp i = A
    intro h1 h2 q
    cases q with
    | own q n =>
      obtain ⟨⟨e1, e2, e3⟩, _⟩ := q.free a h2
      exact ⟨e1, e3, e2⟩
    | _ => cases h1
  have zz : Same Z (frZ s fp Z H) := fun a u e => by
    unfold frZ
    split
    · exact r.zh _ _ e
    · exact e
  have off : ∀ a, ¬ ownAt s fp a → frZ s fp Z H a = Z a := fun a h => if_neg h
  have on : ∀ a, ownAt s fp a → frZ s fp Z H a = H a := fun a h => if_pos h
  refine ⟨⟨fun a u e => ?_, fun a u e => zz _ _ (r.z0 _ _ e), r.keep, fun a h1 h2 h3 => ?_, fun p hp => ⟨?_, (r.pok p hp).2⟩, by simp [froz, r.len], fun i => ?_, fun i j hij a h1 h2 => ?_⟩, zz⟩
  · by_cases h : ownAt s fp a
    · rw [on a h] at e
      exact e
    · rw [off a h] at e
      exact r.zh _ _ e
  · by_cases h : ownAt s fp a
    · exact absurd (own_free a h).2.1 (fun z => z.elim h3 h1)
    · rw [off a h]
      exact r.nz a h1 h2 h3
  · by_cases h : ownAt s fp p
    · exact absurd hp (own_free p h).2.2
    · rw [off p h]
      exact (r.pok p hp).1
  · have q := r.slot i
    rw [froz_getD]
    have hin : isOwn (s.getD i .no) = true → ∀ a ∈ fp i, ownAt s fp a := fun h a ha => ⟨i, h, ha⟩
    have hpool : ∀ p, s.getD i .no = .pool → p ∈ fp i → ¬ ownAt s fp p := fun p h1 h2 ⟨j, h3, h4⟩ => by
      by_cases hj : i = j
      · subst hj
        rw [h1] at h3
        cases h3
      · exact r.apart i j hj p h2 h4
    revert hin hpool q
    generalize s.getD i .no = sv
    generalize σ[i]? = oo
    generalize fp i = A
    intro q hin hpool
    cases q with
    | no => exact .no
    | dat q => exact .dat (q.up zz)
    | own q n => exact .dat (q.still zz fun a ha => on a (hin rfl a ha))
    | pool h1 h2 h3 => exact .pool (by rw [off _ (hpool _ rfl (by simp))]; exact h1) h2 h3
  · split at h1
    · cases h1
    · split at h2
      · cases h2
      · exact r.apart i j hij a h1 h2
open Classical in
theorem R.thaw (r : R K f Z fp s σ H) {Z2 H2 : Hp} {fp2 : Nat → List Addr} (zz : Same (frZ s fp Z H) Z2) (r2 : R K f Z2 fp2 (froz s) σ H2) :
    R K f (fun a => if ownAt s fp a then none else Z2 a) fp s σ H2 ∧ Same Z (fun a => if ownAt s fp a then none else Z2 a) := by
  have own_free : ∀ a, ownAt s fp a → Z a = none ∧ ∃ u, H a = some u := fun a ⟨i, h1, h2⟩ => by
    obtain ⟨e1, _, e3⟩ := (r.slot i).free a h2
    exact ⟨e1, e3⟩
  have z3 : Same Z (fun a => if ownAt s fp a then none else Z2 a) := fun a u e => by
    show (if ownAt s fp a then none else Z2 a) = some u
    rw [if_neg fun h => by rw [(own_free a h).1] at e; cases e]
    exact zz _ _ (r.frozen.2 _ _ e)
  refine ⟨⟨fun a u e => ?_, fun a u e => z3 _ _ (r.z0 _ _ e), r2.keep, fun a h1 h2 h3 => ?_, fun p hp => ⟨?_, (r2.pok p hp).2⟩, r.len, fun i => ?_, r.apart⟩, z3⟩
  · have e' : (if ownAt s fp a then none else Z2 a) = some u := e
    split at e'
    · cases e'
    · exact r2.zh _ _ e'
  · show (if ownAt s fp a then none else Z2 a) = none
    split
    · rfl
    · exact r2.nz a h1 h2 h3
  · show (if ownAt s fp p then none else Z2 p) = none
    split
    · rfl
    · exact (r2.pok p hp).1
  · have q := r.slot i
    have q2 := r2.slot i
    rw [froz_getD] at q2
    have hin : isOwn (s.getD i .no) = true → ∀ a ∈ fp i, ownAt s fp a := fun h a ha => ⟨i, h, ha⟩
    revert hin q q2
    generalize s.getD i .no = sv
    generalize σ[i]? = oo
    generalize fp i = A
    generalize fp2 i = B
    intro q q2 hin
    cases q with
    | no => exact .no
    | dat q => exact .dat (q.up z3)
    | own q n =>
      refine .own (q.to z3 (fun a ha => ⟨if_pos (hin rfl a ha), (q.free a ha).1.2⟩) fun a ha => ?_) n
      obtain ⟨_, u, e⟩ := q.free a ha
      rw [e]
      exact r2.zh _ _ (zz a u (by unfold frZ; rw [if_pos (hin rfl a ha)]; exact e))
    | pool h1 h2 h3 =>
      cases q2 with
      | pool k1 k2 k3 =>
        refine .pool ?_ k2 k3
        show (if ownAt s fp _ then none else Z2 _) = none
        split
        · rfl
        · exact k1
end
section
variable {X : Cx} {e : Expr}
def tPeek (t : DTT) : DTT := fun s Q => t (froz s) fun b s' => s' = froz s ∧ Q b s
theorem dt_peek {t : DTT} (h : DT X e t) : DT X e (tPeek t) :=
  ⟨fun s Q Q' hq w => h.mono _ _ _ (fun b s' q => ⟨q.1, hq _ _ q.2⟩) w, PT.weak h.pt fun σ H Q ⟨f, Z, fp, s, r, w⟩ =>
    ⟨f, _, _, froz s, r.frozen.1, h.mono _ _ _ (fun b s' ⟨e, q⟩ Z2 fp2 H2 zz r2 => by
      subst e
      obtain ⟨r3, z3⟩ := r.thaw zz r2
      exact q _ _ _ z3 r3) w⟩⟩
def flatD : PyData → Bool
  | .none | .bool _ | .int _ | .str _ => true
  | _ => false
theorem Rp.flat {K : PySem.W.Frag} {Z Z' : Hp} {v : V} {d : PyData} (p : Rp K Z v d) (h : flatD d = true) : Rp K Z' v d := by
  cases p with
  | non => exact .non
  | bl b => exact .bl b
  | int i => exact .int i
  | str x k => exact .str x k
  | _ => cases h
/-- an expression whose worth is flat -/
def ePeek (t : DTE) : DTE := fun s Q => t (froz s) fun o s' => s' = froz s ∧ flatD o.data = true ∧ Q (.fz o.data) s
theorem de_peek {t : DTE} (h : DE X e t) : DE X e (ePeek t) :=
  ⟨fun s Q Q' hq w => h.mono _ _ _ (fun b s' q => ⟨q.1, q.2.1, hq _ _ q.2.2⟩) w, PE.weak h.pe fun σ H Q ⟨f, Z, fp, s, r, w⟩ =>
    h.go r.frozen.1 w fun o s' Z2 fp2 v H2 zz r2 p ⟨e, hf, q⟩ => by
      subst e
      obtain ⟨r3, z3⟩ := r.thaw zz r2
      exact (Told.from q z3).flat r3 (p.flat hf)⟩
variable {N : List Str} {sc : Scope} {k : Nat} {dd : Bool} {pos : Pos}
theorem gl_of (hc : XC N sc k dd X) {x : Str} (h : sc.names.lookup x = some .globalImplicit) : Gl X x := by
  unfold Gl Env.kindOf
  rw [hc.hS]
  exact h
theorem sw_of (hc : XC N sc k dd X) {elt : Expr} {gs : List Comprehension} {scope : Scope} {py : Pos} {y : Str} {l : Nat} (hk : sc.kind = .function) (hy : sc.names.lookup y = some .local) (hl : (py.line == pos.line) = true)
    (ha : (scope.names.any fun (n, k) => n == y && (k == .local || k == .cell)) = false) : swapsWith (.ListComp elt gs scope pos) (some (.Name y py)) l X.env = pure true :=
  sw_true (hc.hS ▸ hk) (hc.hS ▸ hy) hl ha

/-! ### an owned list grows -/
def sApp (i : Nat) (te : DTE) : DTS := fun E s => (∃ ds, s[i]? = some (.own (.lst ds))) ∧ te s fun o s' => ∃ ds, s'[i]? = some (.own (.lst ds)) ∧ ds.length < sizeLine ∧ E.nx (s'.set i (.own (.lst (ds ++ [o.data]))))
theorem ds_app (hc : XC N sc k dd X) (i : Nat) {x : Str} {px apos cpos : Pos} {te : DTE} (hx : N[i]? = some x) (hv : Vis sc x) (hd : (x == ("__debug__" : Str)) = false) (hcd : (x == ("__classdict__" : Str)) = false) (he : DE X e te)
    (hbase : attributeBase (.Name x px) "append" X.env (eval (.Name x px) X.env) = eval (.Name x px) X.env)
    (hfew : ((backTo cpos (starEach [e] X.env)).all (fun x => !x.1) && (backToKw cpos (keywordEach [] X.env)).all (fun x => x.1.isSome) && decide (([e] : List Expr).length + ([] : List Keyword).length + (if ([] : List Keyword).isEmpty then 0 else 1) < 30)) = true)
    (hline : (apos.endLine == cpos.line) = true) (hs : starEach [e] X.env = (false, eval e X.env) :: starEach [] X.env) (hsw : swapsWith (.Call (.Attribute (.Name x px) "append" apos) [e] [] cpos) none pos.line X.env = pure false) :
    DS X (.Expr (.Call (.Attribute (.Name x px) "append" apos) [e] [] cpos) pos) (sApp i te) := by
  refine ⟨fun E E' s l ⟨h1, h⟩ => ⟨h1, he.mono _ _ _ (fun o s' ⟨ds, z1, z2, q⟩ => ⟨ds, z1, z2, l.nx _ q⟩) h⟩, PS.weak (ps_expr (pe_bm PySem.F.plainAttrs_list PySem.F.slot_list_append PySem.F.type_list_append mt_append (pe_var (i := i) (hc.hN ▸ hx) (hc.hS ▸ hv) hd hcd) (pa_cons he.pe pa_nil hs) hbase hfew hline hs rfl) hsw) fun D σ H ⟨f, Z, fp, s, E, r, ⟨⟨ds0, h0⟩, h⟩, ok⟩ => ?_⟩
  obtain ⟨v, hv, q0, n0⟩ := r.own h0
  generalize fp i = A0 at q0
  cases q0 with
  | lst fr e0 w0 =>
    rename_i p xs
    refine ⟨.ref p, hv, .inl ⟨rfl, xs, SqL.of e0⟩, ?_⟩
    refine he.go r h fun o s1 Z1 fp1 u H1 z1 r1 p1 ⟨ds, h1, h2, q⟩ => ?_
    obtain ⟨v1, hv1, q1, n1⟩ := r1.own h1
    rw [hv] at hv1
    cases hv1
    generalize hA : fp1 i = A at q1
    cases q1 with
    | lst fr1 e1 w1 =>
      rename_i ys
      refine ⟨p, ys, u, rfl, rfl, e1, by rw [w1.length]; exact h2, ?_⟩
      have hp : p ∈ fp1 i := by rw [hA]; simp
      have q2 : ORp X.K f Z1 (upd H1 p (.lst (ys ++ [u]))) (.ref p) (.lst (ds ++ [o.data])) (fp1 i) := by
        rw [hA]
        exact .lst fr1 upd_same (w1.append (.cons p1 .nil))
      exact ok.nx _ _ _ _ _ z1 (r1.turn h1 hv hp q2) q

/-! ### walks of texts; counted walks -/
def signsD (x : Str) : List PyData := x.cps.toList.map fun c => .str ⟨#[c]⟩
def iText (t : DTE) : DTI := fun s Q => t s fun o s' => ∃ x, o.data = .str x ∧ Q (signsD x) s'
theorem di_str {tg : Expr} {te : DTE} (he : DE X e te) : DI X tg e (iText te) := by
  refine ⟨fun s Q Q' hq h => he.mono _ _ _ (fun o s' ⟨ds, z, q⟩ => ⟨ds, z, hq _ _ q⟩) h, PI.weak (pi_str he.pe) fun σ H Q ⟨f, Z, fp, s, r, h⟩ => ?_⟩
  refine he.go r h fun o s' Z' fp' v H' zz r' p ⟨x, z, q⟩ => ?_
  rw [z] at p
  cases p with
  | str _ hk =>
    refine ⟨x, rfl, q _ _ _ _ zz r' fun Z2 H2 z2 zh2 i => ⟨fun d hd => ?_, fun hi => (show x.cps.size ≤ i by simpa [signsD] using hi)⟩⟩
    unfold signsD at hd
    rw [List.getElem?_map] at hd
    obtain ⟨c, h1, h2⟩ := Option.map_eq_some_iff.mp hd
    subst h2
    rw [Array.getElem?_toList] at h1
    have hi : i < x.cps.size := by
      rcases Nat.lt_or_ge i x.cps.size with z | z
      · exact z
      · rw [Array.getElem?_eq_none z] at h1
        cases h1
    refine ⟨hi, fun v H3 hh => ?_⟩
    obtain ⟨rfl, c', h3, rfl⟩ := hh
    rw [h1] at h3
    cases h3
    refine Yl.same zh2 (.str _ (sok_one (sok_iff.mp hk c ?_)))
    exact List.mem_of_getElem? (by rw [Array.getElem?_toList]; exact h1)
def numbered : Nat → List PyData → List PyData
  | _, [] => []
  | i, d :: ds => .tuple [.int (i : Nat), d] :: numbered (i + 1) ds
theorem numbered_at : ∀ (ds : List PyData) (i j : Nat), (numbered i ds)[j]? = (ds[j]?).map fun d => .tuple [.int ((i + j : Nat) : Int), d]
  | [], _, _ => by simp [numbered]
  | d :: ds, i, 0 => by simp [numbered]
  | d :: ds, i, j + 1 => by
    show (numbered (i + 1) ds)[j]? = _
    rw [numbered_at ds (i + 1) j]
    have e : i + 1 + j = i + (j + 1) := by omega
    rw [e]
    rfl
def iEnumD (ta : DTA) : DTI := fun s Q => ta s fun ds s' => ∃ xs, ds = [.list xs] ∧ Q (numbered 0 xs) s'
theorem di_enum {ta : DTA} {p tpos : Pos} {elts : List Expr} {kk : Nat} (hg : Gl X "enumerate") (hm : X.mg "enumerate" = none) (ha : DA X [e] ta) (hs : starEach [e] X.env = [(false, eval e X.env)]) :
    DI X (.Tuple elts kk tpos) (.Call (.Name "enumerate" p) [e] [] pos) (iEnumD ta) := by
  refine ⟨fun s Q Q' hq h => ha.mono _ _ _ (fun o s' ⟨ds, z, q⟩ => ⟨ds, z, hq _ _ q⟩) h, PI.weak (pi_enum hg hm ha.pa hs) fun σ H Q ⟨f, Z, fp, s, r, h⟩ => ?_⟩
  refine ha.go r h fun ds s' Z' fp' v H' zz r' pp ⟨xs, z, q⟩ => ?_
  subst z
  cases pp with
  | cons p1 pp =>
    cases pp
    cases p1 with
    | lst hq w =>
      rename_i a vs
      refine ⟨a, vs, rfl, (Le.of r'.zh).sqL hq, q _ _ _ _ zz r' fun Z2 H2 z2 zh2 i => ⟨fun d hd => ?_, fun hi => ⟨vs, (Le.of zh2).sqL ((Le.of z2).sqL hq), ?_⟩⟩⟩
      · rw [numbered_at] at hd
        obtain ⟨y, h1, h2⟩ := Option.map_eq_some_iff.mp hd
        subst h2
        obtain ⟨u, hu, pu⟩ := w.get h1
        have hsq := (Le.of zh2).sqL ((Le.of z2).sqL hq)
        refine ⟨⟨vs, u, hsq, hu⟩, fun x H3 hh => ?_⟩
        obtain ⟨T, x', rfl, hT, rfl, hx⟩ := hh
        have := hx vs hsq
        rw [hu] at this
        cases this
        have hz : Z2 T = none := zh2.free hT
        refine ⟨upd Z2 T (.tup [.int (i : Nat), u]), same_upd hz, fun b o e => ?_, same_upd hT, ?_, fun b h1 h2 => ?_⟩
        · by_cases hb : b = T
          · subst hb
            rw [upd_same] at e ⊢
            exact e
          · rw [upd_ne hb] at e ⊢
            exact zh2 _ _ e
        · rw [Nat.zero_add]
          exact .tup (.of upd_same) (.cons (.int _) (.cons ((pu.up z2).up (same_upd hz)) .nil))
        · rw [upd_ne]
          · exact h2
          · rintro rfl
            exact h1 hT
      · have hl : (numbered 0 xs).length ≤ i := hi
        have hh : (numbered 0 xs)[i]? = none := List.getElem?_eq_none hl
        rw [numbered_at] at hh
        have h3 : xs[i]? = none := by
          cases hx : xs[i]? with
          | none => rfl
          | some y => rw [hx] at hh; cases hh
        rw [w.length]
        exact List.getElem?_eq_none_iff.mp h3
/-- all([..]), any([..]) of truths -/
def unBl : List PyData → Option (List Bool)
  | [] => some []
  | .bool x :: r => (unBl r).map (x :: ·)
  | _ :: _ => none
theorem unBl_map : ∀ {ds : List PyData} {xs : List Bool}, unBl ds = some xs → ds = xs.map .bool
  | [], xs, h => by cases h; rfl
  | .bool x :: r, xs, h => by
    obtain ⟨ys, h1, h2⟩ := Option.map_eq_some_iff.mp h
    subst h2
    rw [unBl_map h1]
    rfl
theorem unBl_of : ∀ xs : List Bool, unBl (xs.map .bool) = some xs
  | [] => rfl
  | x :: xs => by
    show (unBl (xs.map .bool)).map (x :: ·) = _
    rw [unBl_of xs]
    rfl
theorem RpA.bl_inv {K : PySem.W.Frag} {Z : Hp} : ∀ {vs : List V} (ns : List Bool), RpA K Z vs (ns.map PyData.bool) → vs = ns.map V.bl
  | _, [], h => by cases h; rfl
  | _, n :: ns, .cons a b => by
    cases a
    rw [RpA.bl_inv ns b]
    rfl
def gAll : List PyData → Option OV
  | [.list ds] => (unBl ds).map fun bs => .fz (.bool (bs.all id))
  | _ => none
theorem cd_all : CallD X (rAll X.K) gAll := fun {f Z fp s σ H vs ds o Q} r p e t => by
  cases p with
  | nil => cases e
  | cons p p' =>
    cases p <;> first | (cases e; done) | skip
    cases p' <;> first | (cases e; done) | skip
    rename_i a xs ds q w
    obtain ⟨bs, h1, rfl⟩ := Option.map_eq_some_iff.mp (show (unBl ds).map (fun bs => OV.fz (.bool (bs.all id))) = some o from e)
    cases unBl_map h1
    cases RpA.bl_inv bs w
    exact ⟨a, bs, rfl, (Le.of r.zh).sqL q, t.flat r (.bl _)⟩

/-! ### texts padded on the left by noughts: t.rjust(n, c) -/

/-! ### the row's end -/
def cLaw : DC := fun svs Q => ∃ ns : List Int, svs = [.dat (.list (ns.map .int))] ∧ ns.length ≤ 63 ∧ Q (.fz (.bool true))
theorem law_sp (K : PySem.W.Frag) (H : Hp) (a : Addr) (ns : List Int) (hl : ns.length ≤ 63) (hS : SqL K H a (ns.map V.int)) : spD K 1 cLaw [.ref a] H (fun v _ => v = .bl true) fun _ _ _ => False := by
  refine ⟨rfl, ⟨H, H, fun _ => False, fun _ => False⟩, H, fun _ => [], [.dat (.list (ns.map .int))], ⟨Same.rfl', Same.rfl', fun _ _ e _ => e, fun _ _ e _ => e, fun _ z => z.elim, rfl, fun i => ?_, fun _ _ _ a h => by cases h⟩,
    ⟨rfl, rfl, fun a => ⟨fun z => z.elim, fun ⟨i, h1, h2⟩ => by cases h2⟩, fun _ => Iff.rfl⟩, ns, rfl, hl, fun Z' v H' A _ _ _ _ _ p _ => ?_⟩
  · cases i with
    | zero => exact .dat (.lst hS (RpA.ints ns))
    | succ i =>
      show SOk K _ H H (([] : L2.St)[i]?) (([] : DSt).getD i .no) []
      rw [List.getD_eq_getElem?_getD]
      exact .no
  · cases p with
    | fz q => exact q.bl_inv
/-- what a draw promises -/
def cTake : DC := fun svs Q => ∃ n : Int, svs = [.pool, .dat (.int n)] ∧ 0 < n ∧ n < 1073741824 ∧ ∀ k : Int, 0 ≤ k → k < n → Q (.fz (.int k))
theorem cTake_mono : cTake.Mono := fun svs Q Q' hq ⟨n, h1, h2, h3, h4⟩ => ⟨n, h1, h2, h3, fun k a b => hq _ (h4 k a b)⟩
end
end L2.DL

set_option maxRecDepth 100000
set_option maxHeartbeats 2000000
namespace L2.DL
open PySem PySem.Spec

/-! ### methods of texts with any arguments -/
section
variable {X : Cx} {o e : Expr} {es : List Expr} {to : DTE} {ta : DTA} {name : Str} {apos cpos pos : Pos} {id : String} {r : V → List V → Hp → VK → Prop} {g : PyData → List PyData → Option OV}
def eMtN (g : PyData → List PyData → Option OV) (to : DTE) (ta : DTA) : DTE := fun s Q => to s fun x s1 => (∃ z, x.data = .str z) ∧ ta s1 fun ys s2 => ∃ o, g x.data ys = some o ∧ Q o s2
theorem de_mN (slot : Slot "str" name id) (ty : typeOf (.builtin id) = pure (.type "method_descriptor")) (rule : MtR X id r)
    (hg : ∀ {f Z fp s σ H vx vs x ys o Q}, R X.K f Z fp s σ H → Rp X.K Z vx x → RpA X.K Z vs ys → g x ys = some o → Told X.K f Z s σ o Q → r vx vs H Q)
    (ho : DE X o to) (ha : DA X (e :: es) ta) (hbase : attributeBase o name X.env (eval o X.env) = eval o X.env)
    (hfew : ((backTo cpos (starEach (e :: es) X.env)).all (fun x => !x.1) && (backToKw cpos (keywordEach [] X.env)).all (fun x => x.1.isSome) && decide ((e :: es).length + ([] : List Keyword).length + (if ([] : List Keyword).isEmpty then 0 else 1) < 30)) = true)
    (hline : (apos.endLine == cpos.line) = true) (hs : starEach (e :: es) X.env = (false, eval e X.env) :: starEach es X.env) (hpl : (backTo cpos (starEach es X.env)).any (·.1) = false) :
    DE X (.Call (.Attribute o name apos) (e :: es) [] cpos) (eMtN g to ta) := by
  refine ⟨fun s Q Q' hq h => ho.mono _ _ _ (fun x s1 ⟨z, h1⟩ => ⟨z, ha.mono _ _ _ (fun y s2 ⟨o, e, q⟩ => ⟨o, e, hq _ _ q⟩) h1⟩) h, PE.weak (pe_bm PySem.F.plainAttrs_str slot ty rule ho.pe ha.pa hbase hfew hline hs hpl) fun σ H Q ⟨f, Z, fp, s, r, h⟩ => ?_⟩
  refine ho.go r h fun x s1 Z1 fp1 v H1 z1 r1 p1 ⟨⟨z, hz⟩, h1⟩ => ?_
  have p1' := p1
  rw [hz] at p1'
  refine ⟨by rw [p1'.str_inv]; exact rfl, ha.go r1 h1 fun ys s2 Z2 fp2 us H2 z2 r2 p2 ⟨w, e, q⟩ => ?_⟩
  exact hg r2 (p1.up z2) p2 e (Told.from q (z1.trans z2))
/-- x.rjust(n, c) -/
def padC (f : Str) : Nat := f.cps.getD 0 0
theorem mt_rjust2 : MtR X "str.rjust" (fun x xs H Q => ∃ (a : Str) (i : Int) (f : Str), x = .str a ∧ xs = [.int i, .str f] ∧ f.length = 1 ∧ PadOk i = true ∧ Q (.str (Txt.rjustF a i (padC f))) H) := by
  intro pins s σ H x xs v us Q I rx rs h
  obtain ⟨a, i, f, rfl, rfl, hf, hp, h⟩ := h
  obtain ⟨t, rfl⟩ := rx
  cases rs with
  | cons r1 rs =>
    cases rs with
    | cons r2 rs =>
      cases rs
      obtain ⟨u, rfl⟩ := r1
      obtain ⟨w, rfl⟩ := r2
      exact PyProof.Rows.rjust_fill hp hf fun t' k => ⟨.str _, H, I.tok k, ⟨t', rfl⟩, h⟩
def gRjust : PyData → List PyData → Option OV
  | .str a, [.int i, .str f] => if f.length = 1 ∧ PadOk i = true then some (.fz (.str (Txt.rjustF a i (padC f)))) else none
  | _, _ => none
theorem sok_rjust {a : Str} {i : Int} {c : Nat} (h : sok a = true) (hc : c < 0x110000) : sok (Txt.rjustF a i c) = true := sok_iff.mpr fun d hd => by
  have e : TL.tl (Txt.rjustF a i c) = List.replicate (i.toNat - a.length) c ++ TL.tl a := PyProof.Rows.rjustF_list a i c
  rw [e] at hd
  rcases List.mem_append.mp hd with z | z
  · cases List.eq_of_mem_replicate z
    exact hc
  · exact sok_iff.mp h d z
theorem padC_ok {f : Str} (h : sok f = true) : padC f < 0x110000 := by
  unfold padC
  rw [Array.getD_eq_getD_getElem?]
  cases e : f.cps[0]? with
  | none => decide
  | some c => exact sok_iff.mp h c (by rw [TL.tl]; exact Array.mem_toList_iff.mpr (Array.mem_of_getElem? e))
theorem md_rjust {f : Fr0} {Z : Hp} {fp : Nat → List Addr} {s : DSt} {σ : L2.St} {H : Hp} {vx : V} {vs : List V} {x : PyData} {ys : List PyData} {o : OV} {Q : VK} (r : R X.K f Z fp s σ H) (px : Rp X.K Z vx x) (pa : RpA X.K Z vs ys) (e : gRjust x ys = some o) (t : Told X.K f Z s σ o Q) :
    ∃ (a : Str) (i : Int) (f : Str), vx = .str a ∧ vs = [.int i, .str f] ∧ f.length = 1 ∧ PadOk i = true ∧ Q (.str (Txt.rjustF a i (padC f))) H := by
  unfold gRjust at e
  split at e
  · rename_i a i f
    obtain ⟨hc, rfl⟩ := some_if e
    cases px with
    | str _ ha =>
      cases pa with
      | cons p1 pa =>
        cases pa with
        | cons p2 pa =>
          cases pa
          cases p1.int_inv
          cases p2 with
          | str _ hk => exact ⟨a, i, f, rfl, rfl, hc.1, hc.2, t.flat r (.str _ (sok_rjust ha (padC_ok hk)))⟩
  · cases e
end

/-! ### a def of the text that stands and keeps its promise -/
def Here (K : PySem.W.Frag) (mg : Str → Option Value) (x : Str) (st : Stmt) : Prop := ∃ f fd, Fun K x x st f fd ∧ mg x = some (.ref f)
theorem here_mk {K : PySem.W.Frag} {h : Heap} {mg : Str → Option Value} {x : Str} {st : Stmt} {f : Addr} {oc kV doc pm cdv ct : Value} {od an : Option Addr} {osl : Array (Option Value)} (X : K.In h) (G : h.Ns mainGlobals mg) (a : PySem.W.nsIn K mainGlobals x = some (some (.ref f)))
    (l : K.lookup f = some ⟨oc, od, .func (PySem.W.fnOf x x (defArgs st) (defBody st) (defScope st) .none kV doc pm an cdv ct), osl⟩) (c : PySem.W.codeIn K cdv x = true) (k : PySem.W.keepIn K (.ref f) = true) : Here K mg x st :=
  ⟨f, _, fun_mk l c k, PySem.W.mg_of X G a⟩
structure Callee (P : Program) (w : World) (K : PySem.W.Frag) (mg : Str → Option Value) (base : Heap) (x : Str) (st : Stmt) (lev n : Nat) (ps : List Str) (c : DC) : Prop where
  ex : ∃ f fd, Fun K x x st f fd ∧ mg x = some (.ref f) ∧ FnG P w K mg base CX0 lev f fd ps (spD K n c)
  mono : c.Mono
theorem callee_of {P : Program} {w : World} {K : PySem.W.Frag} {mg : Str → Option Value} {base : Heap} {x : Str} {st : Stmt} {N ps : List Str} {k n : Nat} {t : DTS} {c : DC} (F : Here K mg x st) (S : FnScope N ps (defScope st)) (hn : ps.length = n) (hm : c.Mono)
    (body : ∀ X : Cx, XC N (defScope st) k true X → X.prog = P → X.w = w → X.K = K → X.mg = mg → X.base = base → DSs X (defBody st) t)
    (hc : ∀ svs Q, svs.length = n → c svs Q → t { nx := fun _ => Q (.fz .none), rt := Q } (svs ++ List.replicate (N.length - n) .no)) : Callee P w K mg base x st (k + 1) n ps c := by
  obtain ⟨f, fd, F, hf⟩ := F
  exact ⟨⟨f, fd, F, hf, fnD F S hn body hc⟩, hm⟩
/-- arguments by place bind -/
def BindsN (x : Str) (st : Stmt) (ps : List Str) : Prop := ∀ (kV doc pm : Value) (an : Option Addr) (cdv ct : Value) (us : List Value), us.length = ps.length →
  bindArgs (PySem.W.fnOf x x (defArgs st) (defBody st) (defScope st) .none kV doc pm an cdv ct) ⟨us, []⟩ = pure (ps.zip us)
section
variable {X : Cx} {N ps : List Str} {sc : Scope} {k lev n : Nat} {dd : Bool} {c : DC} {tp : DTP} {x : Str} {st : Stmt} {p pos : Pos} {e : Expr} {es : List Expr}
theorem de_callC (hx : XC N sc k dd X) (C : Callee X.prog X.w X.K X.mg X.base x st lev n ps c) (hk : lev ≤ k) (hg : sc.names.lookup x = some .globalImplicit) (hb : BindsN x st ps)
    (ha : DP X (e :: es) tp) (hdb : (x == ("__debug__" : Str)) = false) (he : starEach (e :: es) X.env = (false, eval e X.env) :: starEach es X.env) (hpl : (backTo pos (starEach es X.env)).any (·.1) = false) :
    DE X (.Call (.Name x p) (e :: es) [] pos) (eCall n c tp) := by
  obtain ⟨f, fd, F, hm, G⟩ := C.ex
  exact de_call hx G hk C.mono (gl_of hx hg) hm F.kp (F.binds hb) ha hdb he hpl
theorem de_callC0 (hx : XC N sc k dd X) (C : Callee X.prog X.w X.K X.mg X.base x st lev n ps c) (hk : lev ≤ k) (hg : sc.names.lookup x = some .globalImplicit) (hb : BindsN x st ps)
    (hdb : (x == ("__debug__" : Str)) = false) : DE X (.Call (.Name x p) [] [] pos) (eCall n c pNil) := by
  obtain ⟨f, fd, F, hm, G⟩ := C.ex
  exact de_call0 hx G hk C.mono (gl_of hx hg) hm F.kp (F.binds hb) hdb
/-! keywords: the values by place, then by keyword, put in the parameters' order by p -/
def perm {α : Type} (p : List Nat) (xs : List α) : List α := p.filterMap (xs[·]?)
theorem perm_vals {p : List Nat} {vs : List V} {us : List Value} (r : Vals vs us) : Vals (perm p vs) (perm p us) := by
  unfold perm
  induction p with
  | nil => exact .nil
  | cons i p ih =>
    rw [List.filterMap_cons, List.filterMap_cons]
    cases e : vs[i]? with
    | none =>
      rw [r.none_of e]
      exact ih
    | some v =>
      obtain ⟨u, h1, h2⟩ := r.get e
      rw [h1]
      exact .cons h2 ih
theorem ArgR.perm {K : PySem.W.Frag} {Z : Hp} {s : DSt} {σ : L2.St} {vs : List V} {svs : List SV} (a : ArgR K Z s σ vs svs) (p : List Nat) : ArgR K Z s σ (DL.perm p vs) (DL.perm p svs) := by
  unfold DL.perm
  induction p with
  | nil => exact .nil
  | cons i p ih =>
    rw [List.filterMap_cons, List.filterMap_cons]
    cases e : svs[i]? with
    | none =>
      have e2 : vs[i]? = none := by
        rw [List.getElem?_eq_none_iff] at e ⊢
        rw [a.len]
        exact e
      rw [e2]
      exact ih
    | some sv =>
      obtain ⟨v, h1, h2⟩ := a.at e
      rw [h1]
      rcases h2 with ⟨d, rfl, q⟩ | ⟨rfl, j, q1, q2⟩
      · exact .dat q ih
      · exact .pool q1 q2 ih
theorem ArgR.append {K : PySem.W.Frag} {Z : Hp} {s : DSt} {σ : L2.St} : ∀ {vs ws : List V} {svs tvs : List SV}, ArgR K Z s σ vs svs → ArgR K Z s σ ws tvs → ArgR K Z s σ (vs ++ ws) (svs ++ tvs)
  | _, _, _, _, .nil, q => q
  | _, _, _, _, .dat a b, q => .dat a (b.append q)
  | _, _, _, _, .pool a b c, q => .pool a b (c.append q)
/-- keyword arguments as data -/
structure DKw (X : Cx) (kws : List Keyword) (t : DTP) : Prop where
  mono : ∀ s Q Q', (∀ o s', Q o s' → Q' o s') → t s Q → t s Q'
  pk : PK X kws (liftP X.K t)
theorem PK.weak {kws : List Keyword} {t t' : TA} (h : PK X kws t) (i : ∀ σ H Q, t' σ H Q → t σ H Q) : PK X kws t' := ⟨fun c p s σ H Q I q => h.run c p s σ H Q I (i _ _ _ q)⟩
theorem dk_nil : DKw X [] pNil := ⟨fun _ _ _ hq h => hq _ _ h, PK.weak pk_nil fun σ H Q ⟨f, Z, fp, s, r, h⟩ => h _ _ _ _ Same.rfl' r .nil⟩
theorem dk_cons {kws : List Keyword} {nm : Option Str} {kpos : Pos} {t : DTE} {tr : DTP} (he : DE X e t) (hr : DKw X kws tr) : DKw X (⟨nm, e, kpos⟩ :: kws) (pDat t tr) :=
  ⟨fun s Q Q' hq h => he.mono _ _ _ (fun o s1 h1 => hr.mono _ _ _ (fun ds s2 h2 => hq _ _ h2) h1) h, PK.weak (pk_cons he.pe hr.pk) fun σ H Q ⟨f, Z, fp, s, r, h⟩ =>
    he.go r h fun o s1 Z1 fp1 v H1 z1 r1 p1 h1 => ⟨f, Z1, fp1, s1, r1, hr.mono _ _ _ (fun svs s2 h2 Z2 fp2 vs H2 z2 r2 a2 => h2 _ _ _ _ (z1.trans z2) r2 (.dat (p1.up z2) a2)) h1⟩⟩
def BindsK (x : Str) (st : Stmt) (ps ks : List Str) (nu nw : Nat) (p : List Nat) : Prop := ∀ (kV doc pm : Value) (an : Option Addr) (cdv ct : Value) (us ws : List Value), us.length = nu → ws.length = nw →
  bindArgs (PySem.W.fnOf x x (defArgs st) (defBody st) (defScope st) .none kV doc pm an cdv ct) ⟨us, ks.zip ws⟩ = pure (ps.zip (perm p (us ++ ws)))
def eCallK (n nu nw : Nat) (pm : List Nat) (c : DC) (tp tk : DTP) : DTE := fun s Q => tp s fun svs s1 => tk s1 fun kvs s2 => svs.length = nu ∧ kvs.length = nw ∧ svs.all (fun x => !isPool x) = true ∧ (perm pm (svs ++ kvs)).length = n ∧ onePool (perm pm (svs ++ kvs)) = true ∧ c (perm pm (svs ++ kvs)) fun o => Q o s2
theorem ArgR.upD {K : PySem.W.Frag} {Z Z' : Hp} {s s' : DSt} {σ : L2.St} (zz : Same Z Z') : ∀ {vs : List V} {svs : List SV}, ArgR K Z s σ vs svs → (svs.all fun x => !isPool x) = true → ArgR K Z' s' σ vs svs
  | _, _, .nil, _ => .nil
  | _, _, .dat a b, h => .dat (a.up zz) (b.upD zz (by simpa [isPool] using h))
  | _, _, .pool _ _ _, h => by simp [isPool] at h
theorem eCallK_mono {nu nw : Nat} {pm : List Nat} {tk : DTP} (hc : c.Mono) (h1 : ∀ s Q Q', (∀ o s', Q o s' → Q' o s') → tp s Q → tp s Q') (h2 : ∀ s Q Q', (∀ o s', Q o s' → Q' o s') → tk s Q → tk s Q') :
    ∀ s Q Q', (∀ o s', Q o s' → Q' o s') → eCallK n nu nw pm c tp tk s Q → eCallK n nu nw pm c tp tk s Q' :=
  fun s Q Q' hq h => h1 _ _ _ (fun svs s1 w => h2 _ _ _ (fun kvs s2 ⟨z1, z2, z3, z4, z5, z6⟩ => ⟨z1, z2, z3, z4, z5, hc _ _ _ (fun o => hq o s2) z6⟩) w) h
theorem run_kw {f : Addr} {fd : FuncData} {ks : List Str} {nu nw : Nat} {pm : List Nat} {pins : List (Addr × Obj)} {σ : L2.St} {H : Hp} {s : Shared} {Q : VK} {us ws : List Value} {vs zs : List V} (hx : XC N sc k dd X) (G : FnG X.prog X.w X.K X.mg X.base CX0 lev f fd ps (spD X.K n c)) (F : Fun X.K x x st f fd) (hk : lev ≤ k)
    (hb : BindsK x st ps ks nu nw pm) (hn : ps.length = n) (I : Inv X pins σ H s) (r1 : Vals vs us) (r2 : Vals zs ws) (l1 : vs.length = nu) (l2 : zs.length = nw) (h : spD X.K n c (perm pm (vs ++ zs)) H Q E0) :
    wpAny (model X.prog X.w) X.A (call (.ref f) us (ks.zip ws)) (EP X pins σ Q) X.xe s := by
  obtain ⟨oc, od, kV, doc, pmv, an, cdv, ct, osl, rfl, lk, hcd⟩ := F.ex
  have rv := perm_vals (p := pm) (r1.append r2)
  refine wpAny_call (codeAny_mono (G.does X.A X.stack s H ⟨us, ks.zip ws⟩ (perm pm (us ++ ws)) (perm pm (vs ++ zs)) Q E0 (hx.room.mono hk) hx.gu I.env0
    (.of_eq (hb kV doc pmv an cdv ct us ws (r1.length.symm.trans l1) (r2.length.symm.trans l2))) rv h) fun r s' hq => ?_)
  have q := endG pass0 I r s' hq
  cases r with
  | error e => exact q
  | ok fl => cases fl <;> first | exact q | exact q.elim
theorem de_callK {ks : List Str} {nu nw : Nat} {pm : List Nat} {tk : DTP} {kws : List Keyword} (hx : XC N sc k dd X) (C : Callee X.prog X.w X.K X.mg X.base x st lev n ps c) (hk : lev ≤ k) (hn : ps.length = n) (hg : sc.names.lookup x = some .globalImplicit) (hb : BindsK x st ps ks nu nw pm)
    (ha : DP X (e :: es) tp) (hkw : DKw X kws tk) (hall : (backToKw pos (keywordEach kws X.env)).all (·.1.isSome) = true) (hks : (backToKw pos (keywordEach kws X.env)).filterMap (·.1) = ks) (hdb : (x == ("__debug__" : Str)) = false)
    (he : starEach (e :: es) X.env = (false, eval e X.env) :: starEach es X.env) (hpl : ((backTo pos (starEach (e :: es) X.env)).any (·.1) || (backToKw pos (keywordEach kws X.env)).any (·.1.isNone)) = false) :
    DE X (.Call (.Name x p) (e :: es) kws pos) (eCallK n nu nw pm c tp tk) := by
  obtain ⟨f, fd, F, hm, G⟩ := C.ex
  refine ⟨eCallK_mono C.mono ha.mono hkw.mono, ⟨fun pins s σ H Q I ⟨f0, Z, fp, ds, r, h⟩ => ?_⟩⟩
  refine wpAny_Call_Name_kw (ld_glob I (gl_of hx hg) hm ?_ hdb)
  refine PySem.W.callWith_KW (h₀ := X.base) I.ok.mod.kin F.kp hall (thn (ha.pa.run pos pins s σ H (fun vs H1 => ∃ f0 Z1 fp1 s1 svs, R X.K f0 Z1 fp1 s1 σ H1 ∧ ArgR X.K Z1 s1 σ vs svs ∧ tk s1 fun kvs s2 => svs.length = nu ∧ kvs.length = nw ∧ svs.all (fun x => !isPool x) = true ∧ (perm pm (svs ++ kvs)).length = n ∧ onePool (perm pm (svs ++ kvs)) = true ∧ c (perm pm (svs ++ kvs)) fun o => Told X.K f0 Z1 s2 σ o Q) I
    (ha.go r h fun svs s1 Z1 fp1 vs H1 z1 r1 a1 w => ⟨f0, Z1, fp1, s1, svs, r1, a1, hkw.mono _ _ _ (fun kvs s2 ⟨y1, y2, y3, y4, y5, y6⟩ => ⟨y1, y2, y3, y4, y5, C.mono _ _ _ (fun o q => Told.from q z1) y6⟩) w⟩)) fun us s1 hh => ?_) hpl he
  obtain ⟨vs, H1, I1, r1, f1, Z1, fp1, ds1, svs, rr, a1, w⟩ := hh
  refine thn (hkw.pk.run pos pins s1 σ H1 (fun zs H2 => vs.length = nu ∧ zs.length = nw ∧ spD X.K n c (perm pm (vs ++ zs)) H2 Q E0) I1 ⟨f1, Z1, fp1, ds1, rr, hkw.mono _ _ _ (fun kvs s2 ⟨y1, y2, y3, y4, y5, y6⟩ Z2 fp2 zs H2 z2 r2 a2 => ⟨a1.len.trans y1, a2.len.trans y2, call_go C.mono r2 (((a1.upD z2 y3).append a2).perm pm) y4 y5 (C.mono _ _ _ (fun o q => Told.from q z2) y6)⟩) w⟩) fun ws s2 hh => ?_
  obtain ⟨zs, H2, I2, rz, l1, l2, q⟩ := hh
  refine ⟨I2.kIn, ?_⟩
  rw [hks]
  exact run_kw hx G F hk hb hn I2 r1 rz l1 l2 q
theorem de_callK0 {ks : List Str} {nw : Nat} {pm : List Nat} {tk : DTP} {kws : List Keyword} (hx : XC N sc k dd X) (C : Callee X.prog X.w X.K X.mg X.base x st lev n ps c) (hk : lev ≤ k) (hn : ps.length = n) (hg : sc.names.lookup x = some .globalImplicit) (hb : BindsK x st ps ks 0 nw pm)
    (hkw : DKw X kws tk) (hall : (backToKw pos (keywordEach kws X.env)).all (·.1.isSome) = true) (hks : (backToKw pos (keywordEach kws X.env)).filterMap (·.1) = ks) (hdb : (x == ("__debug__" : Str)) = false)
    (hpl : ((backTo pos (starEach [] X.env)).any (·.1) || (backToKw pos (keywordEach kws X.env)).any (·.1.isNone)) = false) :
    DE X (.Call (.Name x p) [] kws pos) (eCallK n 0 nw pm c pNil tk) := by
  obtain ⟨f, fd, F, hm, G⟩ := C.ex
  refine ⟨eCallK_mono C.mono (fun s Q Q' hq h => hq _ _ h) hkw.mono, ⟨fun pins s σ H Q I ⟨f0, Z, fp, ds, r, h⟩ => ?_⟩⟩
  refine wpAny_Call_Name_kw (ld_glob I (gl_of hx hg) hm ?_ hdb)
  refine PySem.W.callWith_KW0 (h₀ := X.base) I.ok.mod.kin F.kp hall ?_ hpl
  refine thn (hkw.pk.run pos pins s σ H (fun zs H2 => zs.length = nw ∧ spD X.K n c (perm pm ([] ++ zs)) H2 Q E0) I ⟨f0, Z, fp, ds, r, hkw.mono _ _ _ (fun kvs s2 ⟨y1, y2, y3, y4, y5, y6⟩ Z2 fp2 zs H2 z2 r2 a2 => ⟨a2.len.trans y2, call_go C.mono r2 (ArgR.perm a2 pm) y4 y5 (C.mono _ _ _ (fun o q => Told.from q z2) y6)⟩) h⟩) fun ws s2 hh => ?_
  obtain ⟨zs, H2, I2, rz, l2, q⟩ := hh
  refine ⟨I2.kIn, ?_⟩
  rw [hks]
  exact run_kw (us := []) hx G F hk hb hn I2 .nil rz rfl l2 q
end
end L2.DL

set_option maxRecDepth 100000
set_option maxHeartbeats 2000000
namespace L2.DL
open PySem PySem.Spec
/-- a module's constant -/
def CGl (K : PySem.W.Frag) (mg : Str → Option Value) (x : Str) (d : PyData) : Prop := ∃ v u, mg x = some u ∧ RelV v u ∧ ∀ Z, Rp K Z v d
section
variable {K : PySem.W.Frag} {mg : Str → Option Value} {x : Str} {d : PyData}
theorem cgl_int {i : Int} {t : Tok} (h : mg x = some (.int i t)) : CGl K mg x (.int i) := ⟨.int i, _, h, ⟨t, rfl⟩, fun _ => .int i⟩
theorem cgl_str {i : Str} {t : Tok} (h : mg x = some (.str i t)) (hk : sok i = true) : CGl K mg x (.str i) := ⟨.str i, _, h, ⟨t, rfl⟩, fun _ => .str i hk⟩
theorem cgl_ii {i j : Int} {t u : Tok} {a : Addr} {od : Option Addr} {n : Nat} {sl : Array (Option Value)} (h : mg x = some (.ref a)) (w : K.lookup a = some ⟨.type "tuple", od, .seq #[.int i t, .int j u] n, sl⟩) : CGl K mg x (.tuple [.int i, .int j]) :=
  ⟨.ref a, _, h, rfl, fun _ => .tup (xs := [.int i, .int j]) (.inr ⟨_, _, _, w, rfl, rfl, by show 2 ≤ sizeLine; decide, .cons ⟨t, rfl⟩ (.cons ⟨u, rfl⟩ .nil)⟩) (.cons (.int _) (.cons (.int _) .nil))⟩
end
theorem de_glb {X : Cx} {N : List Str} {sc : Scope} {k : Nat} {dd : Bool} {x : Str} {d : PyData} {pos : Pos} (hc : XC N sc k dd X) (h : CGl X.K X.mg x d) (hg : sc.names.lookup x = some .globalImplicit) (hd : (x == ("__debug__" : Str)) = false) : DE X (.Name x pos) (eC d) := by
  obtain ⟨v, u, h1, h2, h3⟩ := h
  exact de_glob (gl_of hc hg) h1 h2 h3 hd

/-! ### the pool's two numbers: only their bounds are told -/
section
variable {K : PySem.W.Frag} {f : Fr0} {Z H : Hp} {fp : Nat → List Addr} {s : DSt} {σ : L2.St} {i : Nat}
theorem R.poolTurn (r : R K f Z fp s σ H) {p : Addr} {u : HO} (h : s[i]? = some .pool) (hv : σ[i]? = some (some (.ref p))) (q : PoolAt (upd H p u) p) : R K f Z fp s σ (upd H p u) := by
  obtain ⟨p', e1, e2, e3, e4, e5⟩ := r.pool h
  rw [hv] at e1
  cases e1
  refine r.grow (fun a => a = p) (fun a o e => ?_) Same.rfl' (fun a e => ⟨i, h, by rw [e2, e]; simp⟩) (fun a o e ha => by rw [upd_ne ha]; exact e) (fun a _ h _ => h) fun a e => by subst e; exact ⟨e3, q⟩
  rw [upd_ne]
  · exact r.zh _ _ e
  · rintro rfl
    rw [e3] at e
    cases e
end
section
variable {X : Cx} {N : List Str} {sc : Scope} {k : Nat} {dd : Bool} {x : Str} {pos ppos ipos spos : Pos} {e : Expr} {te : DTE}
def ePool0 (i : Nat) : DTE := fun s Q => s[i]? = some .pool ∧ ∀ x : Int, 0 ≤ x → Q (.fz (.int x)) s
def ePool1 (i : Nat) : DTE := fun s Q => s[i]? = some .pool ∧ ∀ x : Int, 0 ≤ x → x < 2147483647 → Q (.fz (.int x)) s
theorem de_pool0 {j : Nat} (hc : XC N sc k dd X) (i : Nat) (hx : N[i]? = some x) (hv : Vis sc x) (hd : (x == ("__debug__" : Str)) = false) (hcd : (x == ("__classdict__" : Str)) = false) :
    DE X (.Subscript (.Name x ppos) (.Constant (.int 0) j ipos) pos) (ePool0 i) := by
  refine ⟨fun s Q Q' hq ⟨h1, h2⟩ => ⟨h1, fun x a => hq _ _ (h2 x a)⟩, PE.weak (pe_ix ix_list (pe_var (i := i) (hc.hN ▸ hx) (hc.hS ▸ hv) hd hcd) pe_int (fun _ _ => rfl)) fun σ H Q ⟨f, Z, fp, s, r, h1, h2⟩ => ?_⟩
  obtain ⟨p, e1, e2, e3, e4, x, y, e5, b1, b2, b3⟩ := r.pool h1
  exact ⟨_, e1, p, _, 0, .int x, rfl, rfl, SqL.of e5, rfl, (h2 x b1).flat r (.int x)⟩
theorem de_pool1 {j : Nat} (hc : XC N sc k dd X) (i : Nat) (hx : N[i]? = some x) (hv : Vis sc x) (hd : (x == ("__debug__" : Str)) = false) (hcd : (x == ("__classdict__" : Str)) = false) :
    DE X (.Subscript (.Name x ppos) (.Constant (.int 1) j ipos) pos) (ePool1 i) := by
  refine ⟨fun s Q Q' hq ⟨h1, h2⟩ => ⟨h1, fun x a b => hq _ _ (h2 x a b)⟩, PE.weak (pe_ix ix_list (pe_var (i := i) (hc.hN ▸ hx) (hc.hS ▸ hv) hd hcd) pe_int (fun _ _ => rfl)) fun σ H Q ⟨f, Z, fp, s, r, h1, h2⟩ => ?_⟩
  obtain ⟨p, e1, e2, e3, e4, x, y, e5, b1, b2, b3⟩ := r.pool h1
  exact ⟨_, e1, p, _, 1, .int y, rfl, rfl, SqL.of e5, rfl, (h2 y b2 b3).flat r (.int y)⟩
def sPool0 (i : Nat) (te : DTE) : DTS := fun E s => te s fun o s' => ∃ x : Int, o.data = .int x ∧ 0 ≤ x ∧ s'[i]? = some .pool ∧ E.nx s'
def sPool1 (i : Nat) (te : DTE) : DTS := fun E s => te s fun o s' => ∃ x : Int, o.data = .int x ∧ 0 ≤ x ∧ x < 2147483647 ∧ s'[i]? = some .pool ∧ E.nx s'
theorem ds_pool0 {j : Nat} (hc : XC N sc k dd X) (i : Nat) (hx : N[i]? = some x) (hv : Vis sc x) (hd : (x == ("__debug__" : Str)) = false) (hcd : (x == ("__classdict__" : Str)) = false) (he : DE X e te)
    (hs : swapsWithSole [.Subscript (.Name x ppos) (.Constant (.int 0) j ipos) spos] e pos.line X.env = pure false) (hw : swappedStores [.Subscript (.Name x ppos) (.Constant (.int 0) j ipos) spos] e X.env = pure none)
    (h1 : (assignEach [.Subscript (.Name x ppos) (.Constant (.int 0) j ipos) spos] X.env).map (·.2) = [assign (.Subscript (.Name x ppos) (.Constant (.int 0) j ipos) spos) X.env]) :
    DS X (.Assign [.Subscript (.Name x ppos) (.Constant (.int 0) j ipos) spos] e pos) (sPool0 i te) := by
  refine ⟨fun E E' s l h => he.mono _ _ _ (fun o s' ⟨x, z1, z2, z3, q⟩ => ⟨x, z1, z2, z3, l.nx _ q⟩) h, PS.weak (ps_asg he.pe (pg_sub (pe_var (i := i) (hc.hN ▸ hx) (hc.hS ▸ hv) hd hcd) pe_int set_list) hs hw h1) fun D σ H ⟨f, Z, fp, s, E, r, h, ok⟩ => ?_⟩
  refine he.go r h fun o s1 Z1 fp1 u H1 z1 r1 p1 ⟨x, hx, b0, hp, q⟩ => ?_
  rw [hx] at p1
  cases p1.int_inv
  obtain ⟨p, e1, e2, e3, e4, x0, y, e5, b1, b2, b3⟩ := r1.pool hp
  refine ⟨_, e1, p, _, 0, 0, rfl, rfl, e5, rfl, ok.nx _ _ _ _ _ z1 (r1.poolTurn hp e1 ⟨x, y, upd_same, b0, b2, b3⟩) q⟩
theorem ds_pool1 {j : Nat} (hc : XC N sc k dd X) (i : Nat) (hx : N[i]? = some x) (hv : Vis sc x) (hd : (x == ("__debug__" : Str)) = false) (hcd : (x == ("__classdict__" : Str)) = false) (he : DE X e te)
    (hs : swapsWithSole [.Subscript (.Name x ppos) (.Constant (.int 1) j ipos) spos] e pos.line X.env = pure false) (hw : swappedStores [.Subscript (.Name x ppos) (.Constant (.int 1) j ipos) spos] e X.env = pure none)
    (h1 : (assignEach [.Subscript (.Name x ppos) (.Constant (.int 1) j ipos) spos] X.env).map (·.2) = [assign (.Subscript (.Name x ppos) (.Constant (.int 1) j ipos) spos) X.env]) :
    DS X (.Assign [.Subscript (.Name x ppos) (.Constant (.int 1) j ipos) spos] e pos) (sPool1 i te) := by
  refine ⟨fun E E' s l h => he.mono _ _ _ (fun o s' ⟨x, z1, z2, z3, z4, q⟩ => ⟨x, z1, z2, z3, z4, l.nx _ q⟩) h, PS.weak (ps_asg he.pe (pg_sub (pe_var (i := i) (hc.hN ▸ hx) (hc.hS ▸ hv) hd hcd) pe_int set_list) hs hw h1) fun D σ H ⟨f, Z, fp, s, E, r, h, ok⟩ => ?_⟩
  refine he.go r h fun o s1 Z1 fp1 u H1 z1 r1 p1 ⟨x, hx, b0, b4, hp, q⟩ => ?_
  rw [hx] at p1
  cases p1.int_inv
  obtain ⟨p, e1, e2, e3, e4, x0, y, e5, b1, b2, b3⟩ := r1.pool hp
  refine ⟨_, e1, p, _, 1, 1, rfl, rfl, e5, rfl, ok.nx _ _ _ _ _ z1 (r1.poolTurn hp e1 ⟨x0, x, upd_same, b1, b0, b4⟩) q⟩
end
end L2.DL

set_option maxRecDepth 100000
set_option maxHeartbeats 2000000
namespace L2.DL
open PySem PySem.Spec PySem.Builtin.Str

/-! ### texts by their signs -/
abbrev tx (l : List Nat) : PyData := .str (SX.S l)
theorem rpart_S {c : Nat} {p q : List Nat} (h : c ∉ q) : Txt.rpartition (SX.S (p ++ c :: q)) (SX.S [c]) = (SX.S p, SX.S [c], SX.S q) := by
  have hat : ∀ i, StrLaws.At (SX.S (p ++ c :: q)) (SX.S [c]) (SX.S (p ++ c :: q)).length i ↔ (p ++ c :: q)[i]? = some c := fun i => StrLaws.subAt_one (SX.S (p ++ c :: q)) c i
  unfold Txt.rpartition
  rcases StrLaws.last_spec (SX.S (p ++ c :: q)) (SX.S [c]) with ⟨h0, hn⟩ | ⟨i, h0, hi, hn⟩
  · exact absurd ((hat p.length).mpr (by simp)) (hn _)
  · have e : i = p.length := by
      rcases Nat.lt_trichotomy i p.length with z | z | z
      · exact absurd ((hat p.length).mpr (by simp)) (hn _ z)
      · exact z
      · have := (hat i).mp hi
        rw [List.getElem?_append_right (by omega)] at this
        obtain ⟨j, hj⟩ : ∃ j, i - p.length = j + 1 := ⟨i - p.length - 1, by omega⟩
        rw [hj, List.getElem?_cons_succ] at this
        exact absurd (List.mem_of_getElem? this) h
    rw [h0, e]
    show (strSub (SX.S (p ++ c :: q)) 0 p.length, SX.S [c], strSub (SX.S (p ++ c :: q)) (p.length + 1) (SX.S (p ++ c :: q)).length) = _
    rw [PyProof.Rows.strSub_mk, PyProof.Rows.strSub_mk, SX.S_len]
    have e1 : ((p ++ c :: q).drop 0).take (p.length - 0) = p := by simp
    have e2 : ((p ++ c :: q).drop (p.length + 1)).take ((p ++ c :: q).length - (p.length + 1)) = q := by
      have : p ++ c :: q = (p ++ [c]) ++ q := by simp
      rw [this, List.drop_left' (by simp)]
      exact List.take_of_length_le (by simp; omega)
    show (SX.S (((p ++ c :: q).drop 0).take (p.length - 0)), SX.S [c], SX.S (((p ++ c :: q).drop (p.length + 1)).take ((p ++ c :: q).length - (p.length + 1)))) = _
    rw [e1, e2]
theorem joinL_snoc {c : Nat} {y : List Nat} : ∀ {xs : List (List Nat)}, xs ≠ [] → TL.joinL [c] (xs ++ [y]) = TL.joinL [c] xs ++ c :: y
  | [], h => absurd rfl h
  | [x], _ => rfl
  | x :: z :: r, _ => by
    show x ++ ([c] ++ TL.joinL [c] ((z :: r) ++ [y])) = (x ++ ([c] ++ TL.joinL [c] (z :: r))) ++ c :: y
    rw [joinL_snoc (xs := z :: r) (List.cons_ne_nil _ _)]
    simp
theorem joinL_len {c : Nat} {n : Nat} : ∀ {xs : List (List Nat)}, (∀ x ∈ xs, x.length ≤ n) → (TL.joinL [c] xs).length ≤ xs.length * (n + 1)
  | [], _ => by simp [TL.joinL]
  | [x], h => by
    show x.length ≤ _
    have := h x (by simp)
    simp
    omega
  | x :: z :: r, h => by
    have h1 := h x (by simp)
    have h2 := joinL_len (c := c) (n := n) (xs := z :: r) fun y hy => h y (by simp [hy])
    show (x ++ ([c] ++ TL.joinL [c] (z :: r))).length ≤ _
    rw [List.length_append, List.length_append, List.length_cons (a := x), Nat.succ_mul]
    show x.length + (1 + _) ≤ _
    omega

/-! ### readings run -/
theorem uns_tx : ∀ l : List (List Nat), unStrs (l.map tx) = some (l.map SX.S)
  | [] => rfl
  | x :: l => by
    show (unStrs (l.map tx)).map (_ :: ·) = _
    rw [uns_tx l]
    rfl
theorem eqv_tx (a b : List Nat) : PyData.eqv (tx a) (tx b) = decide (a = b) := by
  rw [← SX.S_beq_eq]
  rfl
theorem eqvAll_tx : ∀ a b : List (List Nat), PyData.eqvAll (a.map tx) (b.map tx) = decide (a = b)
  | [], [] => rfl
  | [], b :: bs => rfl
  | a :: as, [] => rfl
  | a :: as, b :: bs => by
    show (PyData.eqv (tx a) (tx b) && PyData.eqvAll (as.map tx) (bs.map tx)) = _
    rw [eqv_tx, eqvAll_tx]
    simp
theorem eqv_ltx (a b : List (List Nat)) : PyData.eqv (.list (a.map tx)) (.list (b.map tx)) = decide (a = b) := eqvAll_tx a b
theorem eqOk_tx (a : List Nat) : eqOk (tx a) = true := rfl
theorem dict_ltx : ∀ a : List (List Nat), PyData.hasDictAll (a.map tx) = false ∧ PyData.depthAll (a.map tx) ≤ 1
  | [] => ⟨rfl, by decide⟩
  | a :: as => by
    obtain ⟨h1, h2⟩ := dict_ltx as
    exact ⟨h1, h2⟩
theorem eqOk_ltx (a : List (List Nat)) : eqOk (.list (a.map tx)) = true := by
  obtain ⟨h1, h2⟩ := dict_ltx a
  unfold eqOk
  have e1 : PyData.hasDict (.list (a.map tx)) = false := h1
  have e2 : PyData.depth (.list (a.map tx)) ≤ 64 := by
    simp only [PyData.depth]
    omega
  rw [e1, decide_eq_true e2]
  rfl

/-! ### walks by an invariant -/
theorem comp_inv {gd : DG} {tt : DTT} {te : DTE} {vs : List Nat} {Q : List PyData → DSt → Prop} (J : List PyData → List PyData → DSt → Prop)
    (step : ∀ d ds acc s, J acc (d :: ds) s → ∀ R : List PyData → DSt → Prop, (∀ acc' s', J acc' ds s' → R acc' s') →
      gd d s fun s1 => tt s1 fun b s2 => if b = true then te s2 fun o s3 => acc.length < sizeLine ∧ R (acc ++ [o.data]) (forgetAll vs s3) else R acc (forgetAll vs s2)) (hq : ∀ acc s, J acc [] s → Q acc s) :
    ∀ (ds acc : List PyData) (s : DSt), J acc ds s → compW gd tt te vs ds acc s Q
  | [], acc, s, h => hq _ _ h
  | d :: ds, acc, s, h => step d ds acc s h (fun acc' s' => compW gd tt te vs ds acc' s' Q) fun acc' s' h' => comp_inv J step hq ds acc' s' h'
theorem for_inv {gd : DG} {body : DTS} {E : DEn} (J : List PyData → DSt → Prop)
    (step : ∀ d ds s, J (d :: ds) s → ∀ R : DSt → Prop, (∀ s', J ds s' → R s') → gd d s fun s1 => body { nx := R, rt := E.rt, bk := E.nx, ct := R } s1) (hq : ∀ s, J [] s → E.nx s) :
    ∀ (ds : List PyData) (s : DSt), J ds s → forW gd body ds E s
  | [], s, h => hq _ h
  | d :: ds, s, h => step d ds s h (forW gd body ds E) fun s' h' => for_inv J step hq ds s' h'

theorem ifB {c : Bool} {A B : Prop} (h1 : c = true → A) (h2 : c = false → B) : if c = true then A else B := by
  cases c with
  | true => exact h1 rfl
  | false => exact h2 rfl
theorem ifT {c : Bool} {A B : Prop} (h : c = true) (a : A) : if c = true then A else B := by rw [if_pos h]; exact a
theorem ifF {c : Bool} {A B : Prop} (h : c = false) (b : B) : if c = true then A else B := by rw [h]; exact b

/-! ### the end -/
theorem fin_of {P : Program} {w : World} {K : PySem.W.Frag} {mg : Str → Option Value} {x p : Str} {st : Stmt} {lev : Nat} {c : DC} {fa : Addr} (hh : Here K mg x st) (hfa : mg x = some (.ref fa)) (hb : BindsN x st [p])
    (C : ∀ base : Heap, Callee P w K mg base x st lev 1 [p] c) :
    ∃ fd : FuncData, (∀ (s : Shared) (u : Value), BindsTo s fd ⟨[u], []⟩ [(p, u)]) ∧ ∀ base : Heap, K.In base → base.Ns mainGlobals mg → FnG P w K mg base CX0 lev fa fd [p] (spD K 1 c) := by
  obtain ⟨f, fd, F, hm⟩ := hh
  have e := hfa.symm.trans hm
  cases e
  refine ⟨fd, fun s u => ?_, fun base _ _ => ?_⟩
  · obtain ⟨oc, od, kV, doc, pm, an, cdv, ct, osl, rfl, lk, hcd⟩ := F.ex
    exact .of_eq (hb kV doc pm an cdv ct [u] rfl)
  · obtain ⟨f', fd', F', hm', G⟩ := (C base).ex
    have e := hfa.symm.trans hm'
    cases e
    obtain ⟨oc, od, kV, doc, pm, an, cdv, ct, osl, rfl, lk, hcd⟩ := F.ex
    obtain ⟨oc', od', kV', doc', pm', an', cdv', ct', osl', rfl, lk', hcd'⟩ := F'.ex
    rw [lk] at lk'
    cases lk'
    exact G

/-! ### operators at texts -/
theorem gMod_i {i j : Int} (h : 0 < j) : gMod (.int i) (.int j) = some (.fz (.int (i % j))) := if_pos (decide_eq_true h)
theorem gDiv_i {i j : Int} (h : 0 < j) (h2 : j < 1073741824) : gDiv (.int i) (.int j) = some (.fz (.int (i / j))) := if_pos (decide_eq_true ⟨h, h2⟩)
theorem gMul_r {i j : Int} (h : -18446744073709551616 < j) (h2 : j < 18446744073709551616) : gMul (.int i) (.int j) = some (.fz (.int (i * j))) := if_pos (decide_eq_true (.inr ⟨h, h2⟩))
theorem gMul_l {i j : Int} (h : -18446744073709551616 < i) (h2 : i < 18446744073709551616) : gMul (.int i) (.int j) = some (.fz (.int (i * j))) := if_pos (decide_eq_true (.inl ⟨h, h2⟩))
theorem gPow_i {i j : Int} (h : powOk i j = true) : gPow (.int i) (.int j) = some (.fz (.int (i ^ j.toNat))) := if_pos h
theorem gAdd_i (i j : Int) : gAdd (.int i) (.int j) = some (.fz (.int (i + j))) := rfl
theorem gAdd_l {a b : List PyData} (h : a.length + b.length ≤ sizeLine) : gAdd (.list a) (.list b) = some (.lst (a ++ b)) := if_pos h
theorem len_S (a : List Nat) : (SX.S a).length = a.length := SX.S_len a
theorem gLen_tx {a : List Nat} (h : a.length ≤ sizeLine) : gLen [tx a] = some (.fz (.int a.length)) := by
  show (if (SX.S a).length ≤ sizeLine then some (OV.fz (.int ((SX.S a).length : Nat))) else none) = _
  rw [len_S, if_pos h]
theorem gAdd_tx {a b : List Nat} (h : a.length + b.length ≤ sizeLine) : gAdd (tx a) (tx b) = some (.fz (tx (a ++ b))) := by
  show (if (SX.S a).length + (SX.S b).length ≤ sizeLine then some (OV.fz (.str (SX.S a ++ SX.S b))) else none) = _
  rw [len_S, len_S, if_pos h, SX.S_cat]
theorem sep_tx {a : List Nat} {c : Nat} (h : a.length + 2 ≤ sizeLine) (hc : c < 256) : sepOk (SX.S a) (SX.S [c]) = true := by
  unfold sepOk
  have e : (SX.S a).length + 2 ≤ sizeLine := by rw [len_S]; exact h
  rw [decide_eq_true e]
  show (true && true && kind1 (SX.S [c])) = true
  have : kind1 (SX.S [c]) = decide (c < 256) := by simp [kind1, SX.S]
  rw [this, decide_eq_true hc]
  rfl
theorem gSS_tx {C : Str → Str → Bool} {g : Str → Str → OV} {a b : List Nat} (h : C (SX.S a) (SX.S b) = true) : gSS C g (tx a) (tx b) = some (g (SX.S a) (SX.S b)) := if_pos h
theorem gSplit_tx {a : List Nat} {c : Nat} (h : a.length + 2 ≤ sizeLine) (hc : c < 256) : gSplit (tx a) (tx [c]) = some (.lst ((TL.spl [c] 0 [] a).map tx)) := by
  unfold gSplit
  rw [gSS_tx (sep_tx h hc), SX.split_S (by simp) (by simp [hc]), List.map_map]
  rfl
theorem gPart_some {a p q : List Nat} {c : Nat} (h : a.length + 2 ≤ sizeLine) (hc : c < 256) (e : TL.par [c] [] a = some (p, q)) : gPart (tx a) (tx [c]) = some (.fz (.tuple [tx p, tx [c], tx q])) := by
  unfold gPart
  rw [gSS_tx (sep_tx h hc), SX.partition_some (by simp) e]
theorem gPart_none {a : List Nat} {c : Nat} (h : a.length + 2 ≤ sizeLine) (hc : c < 256) (e : TL.par [c] [] a = none) : gPart (tx a) (tx [c]) = some (.fz (.tuple [tx a, tx [], tx []])) := by
  unfold gPart
  rw [gSS_tx (sep_tx h hc), SX.partition_none (by simp) e]
theorem gRPart_tx {p q : List Nat} {c : Nat} (h : (p ++ c :: q).length + 2 ≤ sizeLine) (hc : c < 256) (e : c ∉ q) : gRPart (tx (p ++ c :: q)) (tx [c]) = some (.fz (.tuple [tx p, tx [c], tx q])) := by
  unfold gRPart
  rw [gSS_tx (sep_tx h hc), rpart_S e]
theorem gEq_tx (a b : List Nat) : gEq (tx a) (tx b) = some (.fz (.bool (decide (a = b)))) := by
  unfold gEq
  rw [eqOk_tx, eqOk_tx, eqv_tx]
  rfl
theorem gNe_tx (a b : List Nat) : gNe (tx a) (tx b) = some (.fz (.bool (!decide (a = b)))) := by
  unfold gNe
  rw [eqOk_tx, eqOk_tx, eqv_tx]
  rfl
theorem gNe_ltx (a b : List (List Nat)) : gNe (.list (a.map tx)) (.list (b.map tx)) = some (.fz (.bool (!decide (a = b)))) := by
  unfold gNe
  rw [eqOk_ltx, eqOk_ltx, eqv_ltx]
  rfl
theorem gIn_tx (c : Nat) (b : List Nat) : gInS (tx [c]) (tx b) = some (.fz (.bool (decide (c ∈ b)))) := congrArg (fun k => some (OV.fz (PyData.bool k))) (SX.in_one b c)
theorem gJoin_tx {a : List Nat} {ys : List (List Nat)} (h : (ys.map (·.length)).sum + ys.length * a.length ≤ 16777216) : gJoin (tx a) (.list (ys.map tx)) = some (.fz (tx (TL.joinL a ys))) := by
  show (match unStrs (ys.map tx) with
    | some ys => if joinOk (SX.S a) ys = true then some (OV.fz (.str (Txt.join (SX.S a) ys))) else none
    | none => none) = _
  rw [uns_tx]
  show (if joinOk (SX.S a) (ys.map SX.S) = true then some (OV.fz (.str (Txt.join (SX.S a) (ys.map SX.S)))) else none) = _
  rw [if_pos, SX.join_S]
  unfold joinOk
  rw [SX.lens, len_S, List.length_map]
  exact decide_eq_true h
theorem gSl_from {a : List Nat} {i : Int} (h : a.length ≤ sizeLine) (hi : 0 ≤ i) : gSl (tx a) (some i) none = some (.fz (tx (a.drop i.toNat))) := by
  show (if (SX.S a).length ≤ sizeLine then some (OV.fz (.str (cutS (SX.S a) (some i) none))) else none) = _
  rw [len_S, if_pos h, C8.cutS_slice, SX.slice_from hi]
theorem cutD_butlast {ds : List PyData} : cutD ds none (some (-1)) = ds.take (ds.length - 1) := by
  unfold cutD
  show ((ds.drop 0).take ((if (-1 : Int) < 0 then ((-1 : Int) + (ds.length : Int)).toNat else min (-1 : Int).toNat ds.length) - 0)) = _
  rw [if_pos (by decide), List.drop_zero]
  congr 1
  omega
theorem gStarts_tx (a : List Nat) (c : Nat) : gStarts (tx a) (tx [c]) = some (.fz (.bool (decide (a.head? = some c)))) := by
  refine congrArg (fun k => some (OV.fz (PyData.bool k))) ?_
  show Txt.startswith (SX.S a) (SX.S [c]) = _
  have h := StrLaws.subAt_one (SX.S a) c 0
  rw [show (SX.S a).cps.toList[0]? = a.head? by simp [SX.S, List.head?_eq_getElem?]] at h
  unfold Txt.startswith
  rw [Bool.eq_iff_iff, Bool.and_eq_true, decide_eq_true_eq, decide_eq_true_eq]
  exact h
end L2.DL

set_option maxRecDepth 100000
set_option maxHeartbeats 2000000
namespace L2.DL
open PySem PySem.Spec

/-! ### x or y by truth -/
section
variable {X : Cx} {a b e : Expr} {rest : List Expr} {ta tb te : DTE} {pos : Pos} {N : List Str} {sc : Scope} {k : Nat} {dd : Bool}
def eOrT (ta tb : DTE) : DTE := fun s Q => ta s fun x s1 => smallD x.data = true ∧ if truD x.data = true then Q (.fz x.data) s1 else tb s1 Q
theorem Rp.truV {K : PySem.W.Frag} {Z H : Hp} {v : V} {d : PyData} (zh : Same Z H) (p : Rp K Z v d) (k : smallD d = true) : TruV K v H (truD d) := by
  cases p with
  | non => rfl
  | bl => rfl
  | int => rfl
  | str x _ => exact ⟨of_decide_eq_true k, rfl⟩
  | lst q w => exact .inl ⟨_, (DL.Le.of zh).sqL q, by show (!_) = (!_); rw [isEmpty_len w.length]⟩
  | tup q w => exact .inr (.inl ⟨_, (DL.Le.of zh).sqT q, by show (!_) = (!_); rw [isEmpty_len w.length]⟩)
  | dct q w => cases k
theorem de_orT (ha : DE X a ta) (hb : DE X (.BoolOp .Or (b :: rest) pos) tb) : DE X (.BoolOp .Or (a :: b :: rest) pos) (eOrT ta tb) :=
  ⟨fun s Q Q' hq w => ha.mono _ _ _ (fun x s1 ⟨e, q⟩ => ⟨e, by
    cases h : truD x.data with
    | false => exact hb.mono _ _ _ hq (by rw [h] at q; exact q)
    | true => exact hq _ _ (by rw [h] at q; exact q)⟩) w, PE.weak (pe_orT ha.pe hb.pe) fun σ H Q ⟨f, Z, fp, s, r, h⟩ => ha.go r h fun o s' Z' fp' v H' zz r' p ⟨e, q⟩ => by
    refine ⟨truD o.data, p.truV r'.zh e, ?_⟩
    cases h : truD o.data with
    | false => exact lift_from hb.mono zz r' (by rw [h] at q; exact q)
    | true => exact (Told.from (by rw [h] at q; exact q) zz).flat r' p⟩

/-! ### x.index(sign) -/
def gIdx : PyData → PyData → Option OV
  | .str a, .str b => match Builtin.Str.occurrences a b 0 a.length 1 with
    | i :: _ => some (.fz (.int (i : Nat)))
    | [] => none
  | _, _ => none
theorem md_idx : M1D X (fun x xs H Q => ∃ a b i rest, x = .str a ∧ xs = [.str b] ∧ Builtin.Str.occurrences a b 0 a.length 1 = i :: rest ∧ Q (.int (i : Nat)) H) gIdx := fun {f Z fp s σ H vx vy x y o Q} r px py e t => by
  unfold gIdx at e
  split at e
  · rename_i a b
    split at e
    · rename_i i rest h
      cases e
      cases px with
      | str _ ha =>
        cases py with
        | str _ hb => exact ⟨a, b, i, rest, rfl, rfl, h, t.flat r (.int _)⟩
    · cases e
  · cases e

/-! ### repr of lists and tuples -/
def rReprD (K : PySem.W.Frag) : List V → Hp → VK → Prop := fun xs H Q => ∃ a d, xs = [.ref a] ∧ Dp K H (.ref a) d ∧ d.hasDict = false ∧ d.showable = true ∧ d.depth ≤ 62 ∧ d.shown.length ≤ sizeLine ∧ Q (.str d.shown) H
theorem cr_reprD (hg : X.A.guards = some []) (hu : X.A.units + 64 < cLine) : CallR X (.builtin "repr") (rReprD X.K) := by
  intro pins s σ H xs us Q I rs h
  obtain ⟨a, d, rfl, hd, h1, h2, h3, h4, q⟩ := h
  cases rs with
  | cons r1 rs =>
    cases rs
    cases r1
    obtain ⟨as, r⟩ := Dp.reads I d (.ref a) (.ref a) hd rfl
    exact repr_of_reads' r h2 (PyData.noDict_hsm h1) hg (by omega) (fun _ _ e => e) (fun h' u tk hk => ⟨.str d.shown, H, I.kept hk, ⟨u, rfl⟩, q⟩) h4
def gRepr : List PyData → Option OV
  | [.list ds] => if (!PyData.hasDict (.list ds) && PyData.showable (.list ds) && decide (PyData.depth (.list ds) ≤ 62) && decide ((PyData.shown (.list ds)).length ≤ sizeLine) && sok (PyData.shown (.list ds))) = true then some (.fz (.str (PyData.shown (.list ds)))) else none
  | [.tuple ds] => if (!PyData.hasDict (.tuple ds) && PyData.showable (.tuple ds) && decide (PyData.depth (.tuple ds) ≤ 62) && decide ((PyData.shown (.tuple ds)).length ≤ sizeLine) && sok (PyData.shown (.tuple ds))) = true then some (.fz (.str (PyData.shown (.tuple ds)))) else none
  | _ => none
theorem cd_repr : CallD X (rReprD X.K) gRepr := fun {f Z fp s σ H vs ds o Q} r p e t => by
  cases p with
  | nil => cases e
  | cons p p' =>
    cases p <;> first | (cases e; done) | skip
    · cases p' <;> first | (cases e; done) | skip
      rename_i a xs ds q w
      obtain ⟨hc, rfl⟩ := some_if e
      simp only [Bool.and_eq_true, Bool.not_eq_true', decide_eq_true_eq] at hc
      obtain ⟨⟨⟨⟨h1, h2⟩, h3⟩, h4⟩, h5⟩ := hc
      exact ⟨a, _, rfl, ((Rp.lst q w).dp r.zh h1).1, h1, h2, h3, h4, t.flat r (.str _ h5)⟩
    · cases p' <;> first | (cases e; done) | skip
      rename_i a xs ds q w
      obtain ⟨hc, rfl⟩ := some_if e
      simp only [Bool.and_eq_true, Bool.not_eq_true', decide_eq_true_eq] at hc
      obtain ⟨⟨⟨⟨h1, h2⟩, h3⟩, h4⟩, h5⟩ := hc
      exact ⟨a, _, rfl, ((Rp.tup q w).dp r.zh h1).1, h1, h2, h3, h4, t.flat r (.str _ h5)⟩

/-! ### {} -/
def eDct0 : DTE := fun s Q => Q (.dct []) s
theorem de_dct0 : DE X (.Dict [] [] pos) eDct0 :=
  ⟨fun s Q Q' hq w => hq _ _ w, PE.weak pe_dnewK fun σ H Q ⟨f, Z, fp, s, r, w⟩ => fun p hp => w.dct r hp .nil⟩

/-! ### xs[i] = e of an owned list -/
def sSetIx (i : Nat) (ti te : DTE) : DTS := fun E s => te s fun o s1 => (∃ ds, s1[i]? = some (.own (.lst ds))) ∧ ti s1 fun j s2 => ∃ ds jj n, s2[i]? = some (.own (.lst ds)) ∧ j.data = .int jj ∧ ixN ds.length jj = some n ∧ E.nx (s2.set i (.own (.lst (ds.set n o.data))))
theorem ds_setIx (hc : XC N sc k dd X) (i : Nat) {x : Str} {px spos : Pos} {ei : Expr} {ti : DTE} (hx : N[i]? = some x) (hv : Vis sc x) (hd : (x == ("__debug__" : Str)) = false) (hcd : (x == ("__classdict__" : Str)) = false) (hi : DE X ei ti) (he : DE X e te)
    (hs : swapsWithSole [.Subscript (.Name x px) ei spos] e pos.line X.env = pure false) (hw : swappedStores [.Subscript (.Name x px) ei spos] e X.env = pure none)
    (h1 : (assignEach [.Subscript (.Name x px) ei spos] X.env).map (·.2) = [assign (.Subscript (.Name x px) ei spos) X.env])
    (ha : ∀ v, assign (.Subscript (.Name x px) ei spos) X.env v = (do
      let ov ← holding [v] (eval (.Name x px) X.env)
      let iv ← holding [v, ov] (eval ei X.env)
      standAt spos
      holding [v, ov, iv] (setItem ov iv v)
      release [v, ov, iv] [])) :
    DS X (.Assign [.Subscript (.Name x px) ei spos] e pos) (sSetIx i ti te) := by
  refine ⟨fun E E' s l h => he.mono _ _ _ (fun o s1 ⟨a, q⟩ => ⟨a, hi.mono _ _ _ (fun j s2 ⟨ds, jj, n, z1, z2, z3, q⟩ => ⟨ds, jj, n, z1, z2, z3, l.nx _ q⟩) q⟩) h,
    PS.weak (ps_asg he.pe (pg_sub (pe_var (i := i) (hc.hN ▸ hx) (hc.hS ▸ hv) hd hcd) hi.pe set_list ha) hs hw h1) fun D σ H ⟨f, Z, fp, s, E, r, h, ok⟩ => ?_⟩
  refine he.go r h fun o s1 Z1 fp1 u H1 z1 r1 p1 ⟨⟨ds0, h0⟩, h⟩ => ?_
  obtain ⟨v, hv, q0, n0⟩ := r1.own h0
  generalize fp1 i = A0 at q0
  cases q0 with
  | lst fr e0 w0 =>
    rename_i p xs
    refine ⟨.ref p, hv, ?_⟩
    refine hi.go r1 h fun j s2 Z2 fp2 w H2 z2 r2 p2 ⟨ds, jj, n, h1, h2, h3, q⟩ => ?_
    rw [h2] at p2
    cases p2.int_inv
    obtain ⟨v1, hv1, q1, n1⟩ := r2.own h1
    rw [hv] at hv1
    cases hv1
    generalize hA : fp2 i = A at q1
    cases q1 with
    | lst fr1 e1 w1 =>
      rename_i ys
      refine ⟨p, ys, jj, n, rfl, rfl, e1, by rw [w1.length]; exact h3, ?_⟩
      have hp : p ∈ fp2 i := by rw [hA]; simp
      have q2 : ORp X.K f Z2 (upd H2 p (.lst (ys.set n u))) (.ref p) (.lst (ds.set n o.data)) (fp2 i) := by
        rw [hA]
        exact .lst fr1 upd_same (w1.set (p1.up z2) n)
      exact ok.nx _ _ _ _ _ (z1.trans z2) (r2.turn h1 hv hp q2) q
end
end L2.DL

set_option maxRecDepth 100000
set_option maxHeartbeats 4000000
namespace L2.DL
open PySem PySem.Spec

/-! what the defs tell -/
def lettersL : List Nat := [97, 98, 99, 100, 101, 102, 103, 104, 105, 106, 107, 108, 109, 110, 111, 112, 113, 114, 115, 116, 117, 118, 119, 120, 121, 122]
def figuresL : List Nat := [48, 49, 50, 51, 52, 53, 54, 55, 56, 57]
def wordB (a : List Nat) : Bool := decide (1 ≤ a.length) && decide (a.length ≤ 8) && a.all fun c => decide (c ∈ lettersL)
def partB (a : List Nat) : Bool := match TL.par [45] [] a with
  | some (w, f) => wordB w && decide (f.length = 6) && f.all fun c => decide (c ∈ figuresL)
  | none => wordB a
def partsL (a : List Nat) : List (List Nat) := if a = [47] then [] else TL.spl [47] 0 [] (a.drop 1)
def pathB (a : List Nat) : Bool := decide (a.head? = some 47) && decide ((partsL a).length ≤ 5) && (partsL a).all partB
def ontx (p : List Nat → Bool) : PyData → Bool
  | .str z => p z.cps.toList
  | _ => false
def few (d : PyData) : Prop := ∀ z, d = .str z → z.length ≤ 1000
def c__is_of : DC := fun svs Q => ∃ a b, svs = [.dat (tx a), .dat (tx b)] ∧ a.length ≤ 1000 ∧ Q (.fz (.bool (a.all fun c => decide (c ∈ b))))
theorem m__is_of : c__is_of.Mono := fun _ _ _ hq ⟨a, b, h1, h2, h3⟩ => ⟨a, b, h1, h2, hq _ h3⟩
def c_is_word : DC := fun svs Q => ∃ d, svs = [.dat d] ∧ few d ∧ Q (.fz (.bool (ontx wordB d)))
theorem m_is_word : c_is_word.Mono := fun _ _ _ hq ⟨a, h1, h2, h3⟩ => ⟨a, h1, h2, hq _ h3⟩
def c_is_part : DC := fun svs Q => ∃ d, svs = [.dat d] ∧ few d ∧ Q (.fz (.bool (ontx partB d)))
theorem m_is_part : c_is_part.Mono := fun _ _ _ hq ⟨a, h1, h2, h3⟩ => ⟨a, h1, h2, hq _ h3⟩
def c_is_path : DC := fun svs Q => ∃ d, svs = [.dat d] ∧ few d ∧ Q (.fz (.bool (ontx pathB d)))
theorem m_is_path : c_is_path.Mono := fun _ _ _ hq ⟨a, h1, h2, h3⟩ => ⟨a, h1, h2, hq _ h3⟩
def c_parts_of : DC := fun svs Q => ∃ a, svs = [.dat (tx a)] ∧ a.length ≤ 1000 ∧ Q (.lst ((partsL a).map tx))
theorem m_parts_of : c_parts_of.Mono := fun _ _ _ hq ⟨a, h1, h2, h3⟩ => ⟨a, h1, h2, hq _ h3⟩
def c_parent_of : DC := fun svs Q => ∃ p q, svs = [.dat (tx (p ++ 47 :: q))] ∧ (p ++ 47 :: q).length ≤ 1000 ∧ 47 ∉ q ∧ Q (.fz (tx (if p = [] then [47] else p)))
theorem m_parent_of : c_parent_of.Mono := fun _ _ _ hq ⟨a, b, h1, h2, h3, h4⟩ => ⟨a, b, h1, h2, h3, hq _ h4⟩
def c_last_part : DC := fun svs Q => ∃ p q, svs = [.dat (tx (p ++ 47 :: q))] ∧ (p ++ 47 :: q).length ≤ 1000 ∧ 47 ∉ q ∧ Q (.fz (tx q))
theorem m_last_part : c_last_part.Mono := fun _ _ _ hq ⟨a, b, h1, h2, h3, h4⟩ => ⟨a, b, h1, h2, h3, hq _ h4⟩
def c__law_pool : DC := fun svs Q => ∃ (ns : List Int) (k : Int), svs = [.dat (.list (ns.map .int)), .dat (.int k)] ∧ ns.length ≤ 63 ∧ 0 ≤ k ∧ k < 64 ∧ ∀ x y : Int, 0 ≤ x → 0 ≤ y → y < 2147483647 → Q (.lst [.int x, .int y])
theorem m__law_pool : c__law_pool.Mono := fun _ _ _ hq ⟨a, b, h1, h2, h3, h4, h5⟩ => ⟨a, b, h1, h2, h3, h4, fun x y p q r => hq _ (h5 x y p q r)⟩
def c__law_take : DC := cTake
theorem m__law_take : c__law_take.Mono := cTake_mono
def c__law_word : DC := fun svs Q => svs = [.pool] ∧ ∀ w, wordB w = true → Q (.fz (tx w))
theorem m__law_word : c__law_word.Mono := fun _ _ _ hq ⟨h1, h2⟩ => ⟨h1, fun w a => hq _ (h2 w a)⟩
def c__law_part : DC := fun svs Q => svs = [.pool] ∧ ∀ w, partB w = true → 47 ∉ w → w.length ≤ 15 → Q (.fz (tx w))
theorem m__law_part : c__law_part.Mono := fun _ _ _ hq ⟨h1, h2⟩ => ⟨h1, fun w a b c => hq _ (h2 w a b c)⟩
def c_law : DC := cLaw
theorem m_law : c_law.Mono := fun _ _ _ hq ⟨a, h1, h2, h3⟩ => ⟨a, h1, h2, hq _ h3⟩
theorem b01 (b : Bool) : (0 : Int) ≤ (if b = true then 1 else 0) ∧ (if b = true then (1 : Int) else 0) ≤ 1 := by cases b <;> decide
theorem partsL_len {a p : List Nat} (h : p ∈ partsL a) : p.length ≤ a.length := by
  unfold partsL at h
  split at h
  · cases h
  · have e := SX.split_S (a := a.drop 1) (b := [47]) (by simp) (by simp)
    have := PyProof.Rows.part_short (x := SX.S (a.drop 1)) (y := SX.S [47]) (a := SX.S p) (by rw [e]; exact List.mem_map_of_mem h)
    rw [SX.S_len, SX.S_len] at this
    simp at this
    omega
theorem few_le {z : Str} (h : few (.str z)) : z.length ≤ 1000 := h z rfl
theorem st_eq (z : Str) : PyData.str z = tx z.cps.toList := congrArg PyData.str (SX.S_tl z).symm
theorem st_len (z : Str) : z.cps.toList.length = z.length := by simp [Str.length]
theorem isi_str (d : PyData) : (∃ z, d = .str z) ∨ isiT "str" d = false := by
  cases d with
  | str z => exact .inl ⟨z, rfl⟩
  | _ => exact .inr (by simp [isiT, tyName])
theorem gAll_bl (l : List Nat) (p : Nat → Bool) : gAll [.list (l.map fun c => .bool (p c))] = some (.fz (.bool (l.all p))) := by
  show (unBl (l.map fun c => .bool (p c))).map (fun bs => OV.fz (.bool (bs.all id))) = _
  have : (l.map fun c => PyData.bool (p c)) = (l.map p).map .bool := by rw [List.map_map]; rfl
  rw [this, unBl_of]
  simp [List.all_map]
theorem gAll_bl2 (l : List (List Nat)) (p : List Nat → Bool) : gAll [.list (l.map fun c => .bool (p c))] = some (.fz (.bool (l.all p))) := by
  show (unBl (l.map fun c => .bool (p c))).map (fun bs => OV.fz (.bool (bs.all id))) = _
  have : (l.map fun c => PyData.bool (p c)) = (l.map p).map .bool := by rw [List.map_map]; rfl
  rw [this, unBl_of]
  simp [List.all_map]
theorem par_no {a : List Nat} (h : 45 ∉ a) : TL.par [45] [] a = none := SX.par_head_none h
theorem word_all {w : List Nat} (h : wordB w = true) : 1 ≤ w.length ∧ w.length ≤ 8 ∧ ∀ c ∈ w, c ∈ lettersL := by
  unfold wordB at h
  simp only [Bool.and_eq_true, decide_eq_true_eq, List.all_eq_true] at h
  exact ⟨h.1.1, h.1.2, h.2⟩
theorem part_word {w : List Nat} (h : wordB w = true) : partB w = true ∧ 47 ∉ w ∧ 45 ∉ w := by
  obtain ⟨h1, h2, h3⟩ := word_all h
  have n1 : 45 ∉ w := fun z => absurd (h3 _ z) (by decide)
  refine ⟨?_, fun z => absurd (h3 _ z) (by decide), n1⟩
  unfold partB
  rw [par_no n1]
  exact h
theorem part_dash {w f : List Nat} (h : wordB w = true) (hf : f.length = 6) (hd : ∀ c ∈ f, c ∈ figuresL) : partB (w ++ 45 :: f) = true ∧ 47 ∉ w ++ 45 :: f ∧ (w ++ 45 :: f).length ≤ 15 := by
  obtain ⟨h1, h2, h3⟩ := word_all h
  obtain ⟨_, n2, n1⟩ := part_word h
  refine ⟨?_, fun z => ?_, by simp; omega⟩
  · unfold partB
    rw [show w ++ 45 :: f = w ++ ([45] ++ f) from rfl, SX.par_head f n1]
    show (wordB w && decide (f.length = 6) && f.all fun c => decide (c ∈ figuresL)) = true
    rw [h, decide_eq_true hf, Bool.true_and, Bool.true_and, List.all_eq_true]
    exact fun c hc => decide_eq_true (hd c hc)
  · rcases List.mem_append.mp z with z | z
    · exact n2 z
    · rcases List.mem_cons.mp z with z | z
      · cases z
      · exact absurd (hd _ z) (by decide)
/-- str(k).rjust(6, "0") of a small number: six figures -/
theorem six (k : Int) (h0 : 0 ≤ k) (h1 : k < 12) : ∃ f : List Nat, f.length = 6 ∧ (∀ c ∈ f, c ∈ figuresL) ∧ ∃ z, gStrI [.int k] = some (.fz (.str z)) ∧ gRjust (.str z) [.int 6, .str "0"] = some (.fz (tx f)) := by
  rcases (show k = 0 ∨ k = 1 ∨ k = 2 ∨ k = 3 ∨ k = 4 ∨ k = 5 ∨ k = 6 ∨ k = 7 ∨ k = 8 ∨ k = 9 ∨ k = 10 ∨ k = 11 by omega) with rfl | rfl | rfl | rfl | rfl | rfl | rfl | rfl | rfl | rfl | rfl | rfl
  all_goals
    refine ⟨_, ?_, ?_, _, rfl, rfl⟩
    · decide +kernel
    · decide +kernel
/-! the law -/
theorem pos_part {w : List Nat} (h : partB w = true) : 1 ≤ w.length := by
  cases w with
  | nil => cases h
  | cons _ _ => simp
def pathL (ps : List (List Nat)) : List Nat := 47 :: TL.joinL [47] ps
theorem parts_path {ps : List (List Nat)} (h : ∀ p ∈ ps, partB p = true ∧ 47 ∉ p ∧ p.length ≤ 15) : partsL (pathL ps) = ps := by
  unfold partsL pathL
  cases ps with
  | nil => rfl
  | cons p ps =>
    have h1 : 1 ≤ (TL.joinL [47] (p :: ps)).length := by
      have := pos_part (h p (by simp)).1
      cases ps with
      | nil => exact this
      | cons q r =>
        show 1 ≤ (p ++ ([47] ++ TL.joinL [47] (q :: r))).length
        simp
        omega
    rw [if_neg (fun z => by
      injection z with _ z
      rw [z] at h1
      cases h1)]
    exact SX.spl_join (by simp) fun p hp => (h p hp).2.1
theorem path_ok {ps : List (List Nat)} (hl : ps.length ≤ 5) (h : ∀ p ∈ ps, partB p = true ∧ 47 ∉ p ∧ p.length ≤ 15) : pathB (pathL ps) = true := by
  unfold pathB
  rw [parts_path h, decide_eq_true hl]
  simp only [pathL, List.head?_cons, decide_true, Bool.true_and, List.all_eq_true]
  exact fun p hp => (h p hp).1
theorem path_len {ps : List (List Nat)} (hl : ps.length ≤ 5) (h : ∀ p ∈ ps, partB p = true ∧ 47 ∉ p ∧ p.length ≤ 15) : (pathL ps).length ≤ 100 := by
  have := joinL_len (c := 47) (n := 15) (xs := ps) fun p hp => (h p hp).2.2
  show (TL.joinL [47] ps).length + 1 ≤ 100
  omega
theorem path_snoc {ps : List (List Nat)} {q : List Nat} : pathL (ps ++ [q]) = (if ps = [] then [] else pathL ps) ++ 47 :: q := by
  unfold pathL
  by_cases h : ps = []
  · subst h
    rfl
  · rw [joinL_snoc h, if_neg h]
    rfl
theorem path_up {ps : List (List Nat)} : (if (if ps = [] then [] else pathL ps) = [] then [47] else (if ps = [] then [] else pathL ps)) = pathL ps := by
  by_cases h : ps = []
  · subst h
    rfl
  · rw [if_neg h, if_neg (by simp [pathL])]
theorem sum_len {ps : List (List Nat)} (hl : ps.length ≤ 5) (h : ∀ p ∈ ps, p.length ≤ 15) : (ps.map (·.length)).sum + ps.length * [47].length ≤ 16777216 := by
  have : ∀ qs : List (List Nat), (∀ p ∈ qs, p.length ≤ 15) → (qs.map (·.length)).sum ≤ qs.length * 15 := fun qs => by
    induction qs with
    | nil => simp
    | cons p qs ih =>
      intro h
      have h1 := h p (by simp)
      have h2 := ih fun x hx => h x (by simp [hx])
      rw [List.map_cons, List.sum_cons, List.length_cons, Nat.succ_mul]
      omega
  have := this ps h
  simp
  omega
def Parts (ps : List (List Nat)) : Prop := ∀ p ∈ ps, partB p = true ∧ 47 ∉ p ∧ p.length ≤ 15
theorem call_parts {ps : List (List Nat)} {Q : OV → Prop} (hl : ps.length ≤ 5) (h : Parts ps) (q : Q (.lst (ps.map tx))) : c_parts_of [.dat (tx (pathL ps))] Q :=
  ⟨pathL ps, rfl, Nat.le_trans (path_len hl h) (by decide), by rw [parts_path h]; exact q⟩
theorem call_parent {ps : List (List Nat)} {q : List Nat} {Q : OV → Prop} (hl : (ps ++ [q]).length ≤ 5) (h : Parts (ps ++ [q])) (k : Q (.fz (tx (pathL ps)))) : c_parent_of [.dat (tx (pathL (ps ++ [q])))] Q := by
  refine ⟨if ps = [] then [] else pathL ps, q, by rw [path_snoc], ?_, (h q (by simp)).2.1, by rw [path_up]; exact k⟩
  rw [← path_snoc]
  exact Nat.le_trans (path_len hl h) (by decide)
theorem call_last {ps : List (List Nat)} {q : List Nat} {Q : OV → Prop} (hl : (ps ++ [q]).length ≤ 5) (h : Parts (ps ++ [q])) (k : Q (.fz (tx q))) : c_last_part [.dat (tx (pathL (ps ++ [q])))] Q := by
  refine ⟨if ps = [] then [] else pathL ps, q, by rw [path_snoc], ?_, (h q (by simp)).2.1, k⟩
  rw [← path_snoc]
  exact Nat.le_trans (path_len hl h) (by decide)
theorem call_path {ps : List (List Nat)} {Q : OV → Prop} (hl : ps.length ≤ 5) (h : Parts ps) (k : Q (.fz (.bool true))) : c_is_path [.dat (tx (pathL ps))] Q := by
  refine ⟨_, rfl, fun z hz => ?_, ?_⟩
  · cases hz
    rw [len_S]
    exact Nat.le_trans (path_len hl h) (by decide)
  · have : ontx pathB (tx (pathL ps)) = true := path_ok hl h
    rw [this]
    exact k
theorem gNe_same (a : List (List Nat)) : gNe (.list (a.map tx)) (.list (a.map tx)) = some (.fz (.bool false)) := by rw [gNe_ltx, decide_eq_true rfl]; rfl
theorem gNe_same1 (a : List Nat) : gNe (tx a) (tx a) = some (.fz (.bool false)) := by rw [gNe_tx, decide_eq_true rfl]; rfl
theorem gSl_but (qs : List (List Nat)) (q : List Nat) : gSl (.list ((qs ++ [q]).map tx)) none (some (-1)) = some (.lst (qs.map tx)) := by
  show some (OV.lst (cutD _ _ _)) = _
  rw [cutD_butlast]
  simp
theorem gIx_last (qs : List (List Nat)) (q : List Nat) : gIx (.list ((qs ++ [q]).map tx)) (.int (-1)) = some (.fz (tx q)) := by
  show (atI ((qs ++ [q]).map tx) (-1)).map OV.fz = _
  have : atI ((qs ++ [q]).map tx) (-1) = some (tx q) := by
    unfold atI ixN
    rw [if_neg (by decide), if_pos (by simp; omega)]
    have e : ((-1 : Int) + ((((qs ++ [q]).map tx).length : Nat) : Int)).toNat = qs.length := by simp; omega
    show ((qs ++ [q]).map tx)[((-1 : Int) + ((((qs ++ [q]).map tx).length : Nat) : Int)).toNat]? = _
    rw [e]
    simp
  rw [this]
  rfl
end L2.DL

set_option maxRecDepth 100000
set_option maxHeartbeats 4000000
namespace L2.DL
open PySem PySem.Spec PySem.F PyProof.Rows

/-! ### len(set(xs)) of unlike texts -/
section
variable {prog : Program} {w : World} {A : Around} {F : Result → Shared → Prop} {it : Addr} {own wr : List Addr} {G : Array GenState → Array GenState → Prop} {P : Nat → Value → Prop} {At : Nat → Shared → Prop} {xs : List Str} {T : Addr}
abbrev Has (prog : Program) (w : World) (h : Heap) (T : Addr) (l : List Str) (n : Nat) : Prop := h.SetOf (PySem.strKind prog w) T (fun y => l.any (· == y)) n
theorem Has.carry {h h' : Heap} {l : List Str} {n : Nat} (q : Has prog w h T l n) (k : ∀ o, h.get? T = some o → h'.get? T = some o) : Has prog w h' T l n := by
  obtain ⟨o, es, ep, t, e, r⟩ := q
  exact ⟨o, es, ep, t, k o e, r⟩
/-- one more that is unlike all -/
theorem Has.more {h : Heap} {l : List Str} {n : Nat} {x : Str} (nx : x ∉ l) (q : h.SetOf (PySem.strKind prog w) T (fun y => l.any (· == y) || decide (y = x)) (if l.any (· == x) = true then n else n + 1)) : Has prog w h T (l ++ [x]) (n + 1) := by
  have no : l.any (· == x) = false := by
    cases e : l.any (· == x) with
    | false => rfl
    | true =>
      obtain ⟨y, hy, e2⟩ := List.any_eq_true.mp e
      exact absurd (eq_of_beq e2 ▸ hy) nx
  refine SetOf_congr q (fun y => ?_) (by rw [if_neg (by rw [no]; decide)])
  rw [List.any_append]
  congr 1
  show decide (y = x) = (x == y || false)
  rw [Bool.or_false]
  by_cases e : y = x
  · rw [decide_eq_true e, e, beq_self_eq_true]
  · rw [decide_eq_false e, beq_false_of_ne (Ne.symm e)]
theorem runs_in (W : WalksS prog w A.in1 it own wr G xs.length P At) (out : T ∉ own) (nd : xs.Nodup) (room : xs.length + 1 < scanBound) (val : ∀ i v, P i v → ∃ t, v = .str (xs.getD i Str.empty) t) :
    ∀ (left i : Nat) (z : Shared), i + left = xs.length → At i z → Has prog w z.heap T (xs.take i) i →
      (∀ z', Moved (T :: wr) G z z' → Has prog w z'.heap T xs xs.length → F (.ok (.ret .none)) z') →
      codeAny (model prog w) A (.builtin "set.update.loop" ⟨[.ref T, .ref it], []⟩) F z
  | 0, i, z, e, st, q, fin => by
    obtain rfl : i = xs.length := e
    rw [List.take_length] at q
    have nT : T ∉ wr := fun m => out (W.sub T m)
    refine codeAny_builtin PyProof.Rows.F.entry_set_update_loop ?_
    rw [Around.under_plainId PyProof.Rows.F.plain_set_update_loop]
    show wpAny _ A.in1 (pyNext (.ref it) >>= _) _ _ z
    exact wpAny_bind (W.done z _ _ st fun z' m => wpAny_pure (fin z' (m.mono fun b hb => List.mem_cons_of_mem T hb) (q.carry fun o e => m.heap T o nT e)))
  | left + 1, i, z, e, st, q, fin => by
    have nT : T ∉ wr := fun m => out (W.sub T m)
    have lt : i < xs.length := by omega
    have nx : xs[i] ∉ xs.take i := fun m => by
      have h1 := nd
      rw [← List.take_append_drop i xs, List.drop_eq_getElem_cons lt] at h1
      exact (List.nodup_append.mp h1).2.2 _ m _ List.mem_cons_self rfl
    refine codeAny_builtin PyProof.Rows.F.entry_set_update_loop ?_
    rw [Around.under_plainId PyProof.Rows.F.plain_set_update_loop]
    show wpAny _ A.in1 (pyNext (.ref it) >>= _) _ _ z
    refine wpAny_bind (W.item i z _ _ lt st fun v z' hv st' m => ?_)
    obtain ⟨t, rfl⟩ := val i v hv
    have ex : xs.getD i Str.empty = xs[i] := by rw [List.getD_eq_getElem?_getD, List.getElem?_eq_getElem lt]; rfl
    rw [ex]
    show wpAny _ A.in1 (holding [Value.str xs[i] t] (setAdd T (.str xs[i] t)) >>= _) _ _ z'
    refine wpAny_bind (wpAny_holding ?_)
    unfold setAdd
    refine wpAny_holding (wpAny_bind ((PySem.strKind prog w).pyHash (k := xs[i]) (strKind_is _ _ _ _) ?_))
    refine wpAny_setAddHashed_of (knd := PySem.strKind prog w) (s := { z' with toks := z'.toks + 1 }) (strKind_is _ _ _ _) rfl (q.carry fun o e => m.heap T o nT e) (by omega) fun h' same q2 => ?_
    have q3 : Has prog w h' T (xs.take (i + 1)) (i + 1) := by
      rw [List.take_succ_eq_append_getElem lt]
      exact Has.more nx q2
    refine wpAny_pure ⟨plainId_quiet PyProof.Rows.F.plain_set_update_loop _, runs_in W out nd room val left (i + 1) _ (by omega) (W.frame _ z' h' _ st' (Nat.le_succ _) fun b hb o e => ?_) q3 fun z'' m2 q4 => fin z'' ?_ q4⟩
    · rw [same.2 b fun z => out (z ▸ hb)]
      exact e
    · refine Moved.trans W.gtrans ((m.mono fun b hb => List.mem_cons_of_mem T hb).then_heap (Nat.le_succ _) fun b o hb e => ?_) m2
      rw [same.2 b fun z => hb (by rw [z]; exact List.mem_cons_self)]
      exact e
end
section
variable {prog : Program} {w : World} {A : Around} {E : Value → Shared → Prop} {z : Shared}
abbrev bareSet (led : Bool) : Obj := { cls := .type "set", dict := none, data := .set #[] 0 (.fresh 0 0 led) }
/-- set(l) of a list of unlike texts: a new set of them; all that was there stays -/
theorem new_set {l : Addr} {its : Array Value} {xs : List Str} {Q : Value → Shared → Prop} (calm : A.handled = none) (hl : z.heap.IsList l its) (hx : StrsAre its.toList xs) (nd : xs.Nodup) (room : xs.length + 1 < scanBound)
    (k : ∀ (h' : Heap) (tk : Nat), Has prog w h' z.heap.objs.size xs xs.length → (∀ b o, b < z.heap.objs.size → z.heap.get? b = some o → h'.get? b = some o) → Q (.ref z.heap.objs.size) { z with heap := h', toks := tk }) :
    wpAny (model prog w) A (call (.type "set") [.ref l]) Q E z := by
  obtain ⟨c, tl, mro⟩ := PySem.F.called_set.mro
  have f1 := PySem.F.called_set.made
  have f2 := PySem.F.called_set.sub
  have f3 := PySem.F.called_set.notType
  have f4 := PySem.F.called_set.canCreate
  have f5 := PySem.F.typeCall_set_1 (.ref l)
  refine wpAny_call (codeAny_of_tree ?_)
  show wpAny _ _ (callAny (.type "set") _) _ _ z
  refine wpAny_pure ⟨Code.quiet_builtin _ (by decide +kernel), codeAny_builtin PySem.F.entry_type_call ?_⟩
  rw [Around.under_plain (weight_type_call_type "set" [.ref l] []) rfl]
  repeat any_goals first | assumption | wp_step
  refine codeAny_mono (code_set_new_1 (.ref l) (E := E) (Q₁ := fun v y => ∃ led, v = .ref z.heap.objs.size ∧ y = { z with heap := z.heap.push (bareSet led) }) fun led => ⟨led, rfl, rfl⟩) fun r y hr => ?_
  cases r with
  | error e => exact hr
  | ok fl =>
    cases fl with
    | next => exact hr.elim
    | brk => exact hr.elim
    | cont => exact hr.elim
    | ret v =>
      obtain ⟨led, rfl, rfl⟩ := hr
      have at1 : (z.heap.push (bareSet led)).get? z.heap.objs.size = some (bareSet led) := Heap.get?_push_size _ rfl
      have ty : Shared.TypeIs { z with heap := z.heap.push (bareSet led) } (.ref z.heap.objs.size) "set" := ⟨_, at1, rfl⟩
      have g1 := PySem.F.called_set.init.lookup
      have g2 := PySem.F.called_set.init.bind (.ref z.heap.objs.size)
      repeat any_goals first | assumption | wp_step
      refine codeAny_mono (codeAny_call_builtin (R := wants (fun r y => r = .none ∧ ∃ h' tk, y = { z with heap := h', toks := tk } ∧ Has prog w h' z.heap.objs.size xs xs.length ∧ ∀ b o, b < z.heap.objs.size → z.heap.get? b = some o → h'.get? b = some o) E)
        PySem.F.called_set.init.plain PySem.F.entry_set_init (check_set_init_1 ty ?_)) fun r y hr => ?_
      · obtain ⟨⟨oc, od, dd, osl⟩, l1, l2, nl, l3⟩ := id hl
        simp only at l2 l3
        subst l2 l3
        have j1 : (z.heap.push (bareSet led)).get? l = some { cls := .type "list", dict := od, data := .seq its nl, slots := osl } := Heap.get?_push_of_some _ l1
        have j2 := PySem.F.sub_list_set
        have j3 := PySem.F.sub_list_frozenset
        have j4 : (Value.type "list" == Value.type "dict") = false := by decide
        have j5 : (z.heap.push (bareSet led)).IsList l its := ⟨_, j1, rfl, nl, rfl⟩
        have low : l < z.heap.objs.size := Heap.lt_size l1
        unfold Builtin.«set.__init__» noKeywords Builtin.Frozenset.updateFrom
        generalize hp : pyIter = p
        wp_walk
        subst hp
        refine wpAny_pyIter_list j5 (wpAny_bind (wpAny_runValue ?_))
        have ne1 : l ≠ (z.heap.push (bareSet led)).objs.size := by
          rw [Heap.size_push]
          exact Nat.ne_of_lt (Nat.lt_succ_of_lt low)
        have out : z.heap.objs.size ∉ [(z.heap.push (bareSet led)).objs.size, l] := by
          rw [Heap.size_push]
          intro m
          rcases List.mem_cons.mp m with m | m
          · exact absurd m (Nat.ne_of_lt (Nat.lt_succ_self _))
          · exact absurd (List.mem_singleton.mp m) (Nat.ne_of_gt low)
        have len : its.size = xs.length := by
          rw [← StrsAre.len_eq hx]
          exact Array.length_toList.symm
        have val : ∀ (i : Nat) (v : Value), its[i]? = some v → ∃ t, v = .str (xs.getD i Str.empty) t := fun i v e => SS.strs_at hx i v (by rw [Array.getElem?_toList]; exact e)
        have W := (Walks.list (prog := prog) (w := w) (A := A.in1.in1.in1) calm _ l ne1 its).toS
        rw [len] at W
        refine runs_in W out nd room val xs.length 0 _ (Nat.zero_add _) ⟨⟨_, Heap.get?_push_size _ rfl, rfl, rfl⟩, j5.push _⟩ ?_ fun y m q => ?_
        · exact SetOf_congr ((setObjOf_fresh (knd := PySem.strKind prog w) led).setOf (Heap.get?_push_of_some _ at1) (by omega)) (fun _ => rfl) rfl
        · obtain ⟨h', gs, dr, tk, os⟩ := y
          obtain rfl : gs = z.gens := m.gens
          obtain rfl : dr = z.drawn := m.drawn
          obtain rfl : os = z.os := m.os
          refine wpAny_pure (show wpAny _ _ (ret Value.none) _ _ _ from wpAny_pure ⟨rfl, h', tk, rfl, q, fun b o hb e => ?_⟩)
          refine m.heap b o (fun mm => ?_) (Heap.get?_push_of_some _ (Heap.get?_push_of_some _ e))
          rcases List.mem_cons.mp mm with mm | mm
          · exact absurd mm (Nat.ne_of_lt hb)
          · have := List.mem_singleton.mp mm
            rw [Heap.size_push] at this
            exact absurd this (Nat.ne_of_lt (Nat.lt_succ_of_lt hb))
      · cases r with
        | error e => exact hr
        | ok fl =>
          cases fl with
          | next => exact hr.elim
          | brk => exact hr.elim
          | cont => exact hr.elim
          | ret v =>
            obtain ⟨rfl, h', tk, rfl, q1, q2⟩ := hr
            repeat any_goals first | assumption | wp_step
            exact k h' tk q1 q2
end
section
variable {X : Cx} {a : Expr} {ta : TE} {p p2 q pos : Pos}
def tLenSetN (K : PySem.W.Frag) (ta : TE) : TE := fun σ H Q => ta σ H fun x H1 => ∃ l, ∃ xs : List Str, x = .ref l ∧ SqL K H1 l (xs.map V.str) ∧ xs.Nodup ∧ xs.length ≤ 1000 ∧ Q (.int xs.length) H1
theorem pe_lenSetN (calm : X.calm = true) (g1 : Gl X "len") (m1 : X.mg "len" = none) (g2 : Gl X "set") (m2 : X.mg "set" = none) (he : PE X a ta) (na : starEach [a] X.env = (false, eval a X.env) :: starEach [] X.env) :
    PE X (.Call (.Name "len" p) [.Call (.Name "set" p2) [a] [] q] [] pos) (tLenSetN X.K ta) := by
  refine ⟨fun pins s σ H Q I h => Call_ (ld_blt I g1 m1 boot_len (PyProof.Rows.callWith_builtin1 (PyProof.Rows.args_cons ?_ rfl) rfl rfl))⟩
  refine Call_ (ld_blt I g2 m2 boot_set (PyProof.Rows.callWith_type1 (PyProof.Rows.args_cons (thn (he.run pins s σ H _ I h) fun v y hh => PyProof.Rows.args_nil ?_) na) na rfl))
  obtain ⟨x, H1, J, rx, l, xs, rfl, hq, nd, hl, k⟩ := hh
  cases rx
  obtain ⟨its, r, pl, hz⟩ := J.list hq
  have room : (1002 : Nat) < scanBound := by unfold scanBound; omega
  refine new_set (J.ok.hd calm) pl.isList (by simpa using strsAre_of r) nd (by omega) fun h' tk q1 q2 => PyProof.Rows.args_nil ?_
  obtain ⟨o, es, ep, t, e1, e2, e3, _, _, _, e4, e5⟩ := q1
  have J2 : Inv X pins σ H1 { y with heap := h', toks := tk } := J.kept fun b o e => q2 b o (Heap.lt_size e) e
  exact call_len_set e1 e2 e3 e4 (by rw [e5]; omega) ⟨.int xs.length, H1, J2.tok _, ⟨_, by rw [e5]⟩, k⟩
def eLenSet (te : DTE) : DTE := fun s Q => te s fun o s' => ∃ xs : List Str, o.data = .list (xs.map .str) ∧ xs.Nodup ∧ xs.length ≤ 1000 ∧ Q (.fz (.int xs.length)) s'
theorem de_lenSet {te : DTE} (calm : X.calm = true) (g1 : Gl X "len") (m1 : X.mg "len" = none) (g2 : Gl X "set") (m2 : X.mg "set" = none) (he : DE X a te) (na : starEach [a] X.env = (false, eval a X.env) :: starEach [] X.env) :
    DE X (.Call (.Name "len" p) [.Call (.Name "set" p2) [a] [] q] [] pos) (eLenSet te) :=
  ⟨fun s Q Q' hq w => he.mono _ _ _ (fun o s' ⟨xs, z1, z2, z3, k⟩ => ⟨xs, z1, z2, z3, hq _ _ k⟩) w, PE.weak (pe_lenSetN calm g1 m1 g2 m2 he.pe na) fun σ H Q ⟨f, Z, fp, s, r, w⟩ =>
    he.go r w fun o s' Z' fp' v H' zz r' pv ⟨xs, z1, z2, z3, k⟩ => by
      rw [z1] at pv
      cases pv with
      | lst hq rr =>
        obtain ⟨rfl, _⟩ := RpA.strs_inv xs rr
        exact ⟨_, xs, rfl, (DL.Le.of r'.zh).sqL hq, z2, z3, (Told.from k zz).flat r' (.int _)⟩⟩
end
end L2.DL

set_option maxRecDepth 100000
set_option maxHeartbeats 4000000
namespace L2.DL
open PySem PySem.Spec PyProof.Rows

/-! ### dicts as data -/
def toKey : PyData → Option Key
  | .int i => some (.inl i)
  | .str x => some (.inr x)
  | _ => none
def lookD (es : List (PyData × PyData)) (k : Key) : Option PyData := (es.find? fun e => decide (toKey e.1 = some k)).map (·.2)
def putD (es : List (PyData × PyData)) (k : Key) (d : PyData) : List (PyData × PyData) :=
  if (es.any fun e => decide (toKey e.1 = some k)) = true then es.map (fun e => if toKey e.1 = some k then (e.1, d) else e) else es ++ [(kD k, d)]
def dropD (es : List (PyData × PyData)) (k : Key) : List (PyData × PyData) := es.filter fun e => decide (toKey e.1 ≠ some k)
theorem toKey_kD (k : Key) : toKey (kD k) = some k := by cases k <;> rfl
theorem keyD_eq (a k : Key) : decide (toKey (kD a) = some k) = decide (a = k) := by
  rw [toKey_kD, decide_eq_decide]
  exact ⟨fun h => Option.some.inj h, fun h => h ▸ rfl⟩
section
variable {K : PySem.W.Frag} {Z : Hp}
theorem lookD_pos {e : PyData × PyData} {r : List (PyData × PyData)} {k : Key} (h : toKey e.1 = some k) : lookD (e :: r) k = some e.2 := by simp [lookD, List.find?_cons, h]
theorem lookD_neg {e : PyData × PyData} {r : List (PyData × PyData)} {k : Key} (h : ¬ toKey e.1 = some k) : lookD (e :: r) k = lookD r k := by simp [lookD, List.find?_cons, h]
theorem RpK.look (k : Key) : ∀ {ks : List (Key × V)} {es : List (PyData × PyData)}, RpK K Z ks es → (∀ d, lookD es k = some d → ∃ v, valV ks k = some v ∧ Rp K Z v d) ∧ (lookD es k = none → valV ks k = none)
  | _, _, .nil => And.intro (fun d h => nomatch h) (fun _ => rfl)
  | _, _, .cons (k := a) (v := v) (d := d) ok p r => by
    obtain ⟨h1, h2⟩ := RpK.look k r
    by_cases h : a = k
    · subst h
      rw [lookD_pos (toKey_kD a), valV_pos rfl]
      exact ⟨fun d' h' => ⟨v, rfl, by cases h'; exact p⟩, fun h' => nomatch h'⟩
    · rw [lookD_neg (show ¬ toKey (kD a) = some k by rw [toKey_kD]; exact fun z => h (Option.some.inj z)), valV_neg (p := (a, v)) h]
      exact ⟨h1, h2⟩
theorem RpK.any (k : Key) : ∀ {ks : List (Key × V)} {es : List (PyData × PyData)}, RpK K Z ks es → (ks.any fun e => decide (e.1 = k)) = es.any fun e => decide (toKey e.1 = some k)
  | _, _, .nil => rfl
  | _, _, .cons (k := a) ok p r => by
    rw [List.any_cons, List.any_cons, RpK.any k r]
    congr 1
    exact (keyD_eq a k).symm
theorem RpK.snoc {k : Key} {v : V} {d : PyData} (ok : keyOkV k = true) (p : Rp K Z v d) : ∀ {ks : List (Key × V)} {es : List (PyData × PyData)}, RpK K Z ks es → RpK K Z (ks ++ [(k, v)]) (es ++ [(kD k, d)])
  | _, _, .nil => .cons ok p .nil
  | _, _, .cons a b r => .cons a b (RpK.snoc ok p r)
theorem RpK.over {k : Key} {v : V} {d : PyData} (p : Rp K Z v d) : ∀ {ks : List (Key × V)} {es : List (PyData × PyData)}, RpK K Z ks es →
    RpK K Z (ks.map fun kv => if kv.1 = k then (kv.1, v) else kv) (es.map fun e => if toKey e.1 = some k then (e.1, d) else e)
  | _, _, .nil => .nil
  | _, _, .cons (k := a) (v := w) (d := d') ok q r => by
    rw [List.map_cons, List.map_cons]
    by_cases h : a = k
    · rw [if_pos h, if_pos (show toKey (kD a) = some k by rw [toKey_kD, h])]
      exact .cons ok p (RpK.over p r)
    · rw [if_neg h, if_neg (show ¬ toKey (kD a) = some k by rw [toKey_kD]; exact fun z => h (Option.some.inj z))]
      exact .cons ok q (RpK.over p r)
theorem RpK.put {k : Key} {v : V} {d : PyData} {ks : List (Key × V)} {es : List (PyData × PyData)} (r : RpK K Z ks es) (ok : keyOkV k = true) (p : Rp K Z v d) : RpK K Z (putK ks k v) (putD es k d) := by
  unfold putK putD
  rw [r.any k]
  by_cases h : (es.any fun e => decide (toKey e.1 = some k)) = true
  · rw [if_pos h, if_pos h]
    exact r.over p
  · rw [if_neg h, if_neg h]
    exact r.snoc ok p
theorem RpK.drop {k : Key} : ∀ {ks : List (Key × V)} {es : List (PyData × PyData)}, RpK K Z ks es → RpK K Z (dropK ks k) (dropD es k)
  | _, _, .nil => .nil
  | _, _, .cons (k := a) ok q r => by
    have ih := RpK.drop (k := k) r
    unfold dropK dropD at *
    rw [List.filter_cons, List.filter_cons]
    by_cases h : a = k
    · rw [if_neg (by simpa using h), if_neg (by simp [toKey_kD, h])]
      exact ih
    · rw [if_pos (by simpa using h), if_pos (by simp only [decide_eq_true_eq, toKey_kD]; exact fun z => h (Option.some.inj z))]
      exact .cons ok q ih
theorem Rp.key {v : V} {d : PyData} {k : Key} (p : Rp K Z v d) (h : toKey d = some k) : v = kV k ∧ keyOkV k = true := by
  cases p with
  | int i => cases h; exact ⟨rfl, rfl⟩
  | str x hk => cases h; exact ⟨rfl, hk⟩
  | _ => cases h
end
section
variable {X : Cx} {o i e e2 : Expr} {td tk tx : DTE} {pos apos cpos : Pos} {N : List Str} {sc : Scope} {k : Nat} {dd : Bool} {x : Str} {px : Pos}
def isDct (d : PyData) : Prop := ∃ es, d = .dict es
/-- d[k], d data -/
def eDGet (td tk : DTE) : DTE := fun s Q => td s fun d s1 => tk s1 fun kk s2 => ∃ es k v, d.data = .dict es ∧ toKey kk.data = some k ∧ lookD es k = some v ∧ Q (.fz v) s2
theorem de_dget (hu : X.A.units + 1 < cLine) (hd : DE X o td) (hk : DE X i tk) (hs : NoSl i) : DE X (.Subscript o i pos) (eDGet td tk) :=
  ⟨fun s Q Q' hq w => hd.mono _ _ _ (fun d s1 h1 => hk.mono _ _ _ (fun kk s2 ⟨es, k, v, a, b, c, q⟩ => ⟨es, k, v, a, b, c, hq _ _ q⟩) h1) w,
    PE.weak (pe_dget hu hd.pe hk.pe hs) fun σ H Q ⟨f, Z, fp, s, r, w⟩ => hd.go r w fun d s1 Z1 fp1 v H1 z1 r1 p1 h1 => hk.go r1 h1 fun kk s2 Z2 fp2 u H2 z2 r2 p2 ⟨es, k, y, e1, e2, e3, q⟩ => by
      rw [e1] at p1
      cases p1 with
      | dct hr rr =>
        obtain ⟨x, hx, pv⟩ := (rr.look k).1 _ e3
        exact ⟨_, x, rfl, .inl ⟨_, k, (DL.Le.of r2.zh) _ _ ((DL.Le.of z2) _ _ hr), (p2.key e2).1, hx.symm⟩, (Told.from q (z1.trans z2)).flat r2 (pv.up z2)⟩⟩
theorem own_dct {K : PySem.W.Frag} {f : Fr0} {Z H : Hp} {fp : Nat → List Addr} {s : DSt} {σ : L2.St} {j : Nat} {es : List (PyData × PyData)} (r : R K f Z fp s σ H) (h : s[j]? = some (.own (.dct es))) :
    ∃ p ks, σ[j]? = some (some (.ref p)) ∧ fp j = [p] ∧ Free f Z p ∧ H p = some (.dK ks) ∧ RpK K Z ks es := by
  obtain ⟨v, hv, q, n⟩ := r.own h
  generalize hA : fp j = A at q
  cases q with
  | dct fr e w => exact ⟨_, _, hv, rfl, fr, e, w⟩
/-- what an owned dict is asked, its key ahead: d[k], d.get(k, y) -/
def eDGetO (i : Nat) (tk : DTE) : DTE := fun s Q => (∃ es, s[i]? = some (.own (.dct es))) ∧ tk s fun kk s2 => ∃ es k v, s2[i]? = some (.own (.dct es)) ∧ toKey kk.data = some k ∧ lookD es k = some v ∧ Q (.fz v) s2
theorem de_dgetO (hc : XC N sc k dd X) (hu : X.A.units + 1 < cLine) (j : Nat) (hx : N[j]? = some x) (hv : Vis sc x) (hd : (x == ("__debug__" : Str)) = false) (hcd : (x == ("__classdict__" : Str)) = false) (hk : DE X i tk) (hs : NoSl i) :
    DE X (.Subscript (.Name x px) i pos) (eDGetO j tk) :=
  ⟨fun s Q Q' hq ⟨h0, w⟩ => ⟨h0, hk.mono _ _ _ (fun kk s2 ⟨es, k, v, a, b, c, q⟩ => ⟨es, k, v, a, b, c, hq _ _ q⟩) w⟩,
    PE.weak (pe_dget hu (pe_var (i := j) (hc.hN ▸ hx) (hc.hS ▸ hv) hd hcd) hk.pe hs) fun σ H Q ⟨f, Z, fp, s, r, ⟨es0, h0⟩, w⟩ => by
      obtain ⟨p, ks0, hp, _⟩ := own_dct r h0
      refine ⟨.ref p, hp, hk.go r w fun kk s2 Z2 fp2 u H2 z2 r2 p2 ⟨es, k, y, e1, e2, e3, q⟩ => ?_⟩
      obtain ⟨p', ks, hp', _, _, eH, rr⟩ := own_dct r2 e1
      rw [hp] at hp'
      cases hp'
      obtain ⟨x, hx, pv⟩ := (rr.look k).1 _ e3
      exact ⟨p, x, rfl, .inl ⟨ks, k, .inl eH, (p2.key e2).1, hx.symm⟩, (Told.from q z2).flat r2 pv⟩⟩
/-- d.get(k), d.get(k, y) -/
def getD0 (es : List (PyData × PyData)) (k : Key) (y : PyData) : PyData := (lookD es k).getD y
def eDGet1 (td tk : DTE) : DTE := fun s Q => td s fun d s1 => isDct d.data ∧ tk s1 fun kk s2 => ∃ es k, d.data = .dict es ∧ toKey kk.data = some k ∧ Q (.fz (getD0 es k .none)) s2
theorem de_dget1 (hu : X.A.units + 1 < cLine) (hd : DE X o td) (hk : DE X e tk) (m : M1 X o "get" apos e pos) : DE X (.Call (.Attribute o "get" apos) [e] [] pos) (eDGet1 td tk) :=
  ⟨fun s Q Q' hq w => hd.mono _ _ _ (fun d s1 ⟨h0, h1⟩ => ⟨h0, hk.mono _ _ _ (fun kk s2 ⟨es, k, a, b, q⟩ => ⟨es, k, a, b, hq _ _ q⟩) h1⟩) w,
    PE.weak (pe_dget1 hu hd.pe hk.pe m) fun σ H Q ⟨f, Z, fp, s, r, w⟩ => hd.go r w fun d s1 Z1 fp1 v H1 z1 r1 p1 ⟨⟨es0, h0⟩, h1⟩ => by
      rw [h0] at p1
      cases p1 with
      | dct hr rr =>
        refine ⟨_, rfl, .inl ⟨_, (DL.Le.of r1.zh) _ _ hr⟩, hk.go r1 h1 fun kk s2 Z2 fp2 u H2 z2 r2 p2 ⟨es, k, e1, e2, q⟩ => ?_⟩
        rw [h0] at e1
        cases e1
        refine ⟨_, .inl ⟨_, k, (DL.Le.of r2.zh) _ _ ((DL.Le.of z2) _ _ hr), (p2.key e2).1, rfl⟩, (Told.from q (z1.trans z2)).flat r2 ?_⟩
        unfold getD0
        cases h : lookD es0 k with
        | none => rw [(rr.look k).2 h]; exact .non
        | some y =>
          obtain ⟨x, hx, pv⟩ := (rr.look k).1 _ h
          rw [hx]
          exact pv.up z2⟩
def eDGet2 (td tk tx : DTE) : DTE := fun s Q => td s fun d s1 => isDct d.data ∧ tk s1 fun kk s2 => tx s2 fun y s3 => ∃ es k, d.data = .dict es ∧ toKey kk.data = some k ∧ Q (.fz (getD0 es k y.data)) s3
theorem de_dget2 (hu : X.A.units + 1 < cLine) (hd : DE X o td) (hk : DE X e tk) (hy : DE X e2 tx) (m : M2 X o "get" apos e e2 pos) : DE X (.Call (.Attribute o "get" apos) [e, e2] [] pos) (eDGet2 td tk tx) :=
  ⟨fun s Q Q' hq w => hd.mono _ _ _ (fun d s1 ⟨h0, h1⟩ => ⟨h0, hk.mono _ _ _ (fun kk s2 h2 => hy.mono _ _ _ (fun y s3 ⟨es, k, a, b, q⟩ => ⟨es, k, a, b, hq _ _ q⟩) h2) h1⟩) w,
    PE.weak (pe_dget2 hu hd.pe hk.pe hy.pe m) fun σ H Q ⟨f, Z, fp, s, r, w⟩ => hd.go r w fun d s1 Z1 fp1 v H1 z1 r1 p1 ⟨⟨es0, h0⟩, h1⟩ => by
      rw [h0] at p1
      cases p1 with
      | dct hr rr =>
        refine ⟨_, rfl, .inl ⟨_, (DL.Le.of r1.zh) _ _ hr⟩, hk.go r1 h1 fun kk s2 Z2 fp2 u H2 z2 r2 p2 h2 => hy.go r2 h2 fun y s3 Z3 fp3 t H3 z3 r3 p3 ⟨es, k, e1, e2, q⟩ => ?_⟩
        rw [h0] at e1
        cases e1
        refine ⟨_, .inl ⟨_, k, (DL.Le.of r3.zh) _ _ ((DL.Le.of (z2.trans z3)) _ _ hr), (p2.key e2).1, rfl⟩, (Told.from q ((z1.trans z2).trans z3)).flat r3 ?_⟩
        unfold getD0
        cases h : lookD es0 k with
        | none => rw [(rr.look k).2 h]; exact p3
        | some y =>
          obtain ⟨x, hx, pv⟩ := (rr.look k).1 _ h
          rw [hx]
          exact (pv.up z2).up z3⟩
/-- k in d, k not in d -/
def eDIn (neg : Bool) (tk td : DTE) : DTE := fun s Q => tk s fun kk s1 => td s1 fun d s2 => ∃ es k, d.data = .dict es ∧ toKey kk.data = some k ∧ Q (.fz (.bool ((lookD es k).isSome != neg))) s2
theorem look_some {K : PySem.W.Frag} {Z : Hp} {ks : List (Key × V)} {es : List (PyData × PyData)} (rr : RpK K Z ks es) (k : Key) : (valV ks k).isSome = (lookD es k).isSome := by
  cases h : lookD es k with
  | none => rw [(rr.look k).2 h]; rfl
  | some y =>
    obtain ⟨x, hx, _⟩ := (rr.look k).1 _ h
    rw [hx]
    rfl
theorem mono_din {neg : Bool} (hk : DE X i tk) (hd : DE X o td) : ∀ s Q Q', (∀ o s', Q o s' → Q' o s') → eDIn neg tk td s Q → eDIn neg tk td s Q' :=
  fun s Q Q' hq w => hk.mono _ _ _ (fun kk s1 h1 => hd.mono _ _ _ (fun d s2 ⟨es, k, a, b, q⟩ => ⟨es, k, a, b, hq _ _ q⟩) h1) w
theorem de_din (hu : X.A.units + 1 < cLine) (hk : DE X i tk) (hd : DE X o td) (hm : behindInMarks .In o = false) : DE X (.Compare i [.In] [o] pos) (eDIn false tk td) :=
  ⟨mono_din hk hd, PE.weak (pe_cmp (pc_din hu hk.pe hd.pe) hm) fun σ H Q ⟨f, Z, fp, s, r, w⟩ => hk.go r w fun kk s1 Z1 fp1 u H1 z1 r1 p1 h1 => hd.go r1 h1 fun d s2 Z2 fp2 v H2 z2 r2 p2 ⟨es, k, e1, e2, q⟩ => by
    rw [e1] at p2
    cases p2 with
    | dct hr rr =>
      refine ⟨_, _, rfl, .inl ⟨_, k, (DL.Le.of r2.zh) _ _ hr, (p1.key e2).1, rfl⟩, ?_⟩
      rw [look_some rr, show (lookD es k).isSome = ((lookD es k).isSome != false) by cases (lookD es k).isSome <;> rfl]
      exact (Told.from q (z1.trans z2)).flat r2 (.bl _)⟩
theorem de_dnotin (hu : X.A.units + 1 < cLine) (hk : DE X i tk) (hd : DE X o td) (hm : behindInMarks .NotIn o = false) : DE X (.Compare i [.NotIn] [o] pos) (eDIn true tk td) :=
  ⟨mono_din hk hd, PE.weak (pe_cmp (pc_dnotin hu hk.pe hd.pe) hm) fun σ H Q ⟨f, Z, fp, s, r, w⟩ => hk.go r w fun kk s1 Z1 fp1 u H1 z1 r1 p1 h1 => hd.go r1 h1 fun d s2 Z2 fp2 v H2 z2 r2 p2 ⟨es, k, e1, e2, q⟩ => by
    rw [e1] at p2
    cases p2 with
    | dct hr rr =>
      refine ⟨_, _, rfl, .inl ⟨_, k, (DL.Le.of r2.zh) _ _ hr, (p1.key e2).1, rfl⟩, ?_⟩
      rw [look_some rr, show (!(lookD es k).isSome) = ((lookD es k).isSome != true) by cases (lookD es k).isSome <;> rfl]
      exact (Told.from q (z1.trans z2)).flat r2 (.bl _)⟩
/-- d[k] = v, d owned -/
def sDPutO (j : Nat) (tk tv : DTE) : DTS := fun E s => tv s fun v s1 => (∃ es, s1[j]? = some (.own (.dct es))) ∧ tk s1 fun kk s2 => ∃ es k, s2[j]? = some (.own (.dct es)) ∧ toKey kk.data = some k ∧ es.length < sizeLine ∧ E.nx (s2.set j (.own (.dct (putD es k v.data))))
theorem ds_dputO (hc : XC N sc k dd X) (hu : X.A.units + 1 < cLine) (j : Nat) {spos : Pos} (hx : N[j]? = some x) (hv : Vis sc x) (hd : (x == ("__debug__" : Str)) = false) (hcd : (x == ("__classdict__" : Str)) = false) (hk : DE X i tk) (he : DE X e tx)
    (hs : swapsWith e (some (.Subscript (.Name x px) i spos)) pos.line X.env = pure false) : DS X (.Assign [.Subscript (.Name x px) i spos] e pos) (sDPutO j tk tx) := by
  refine ⟨fun E E' s l h => he.mono _ _ _ (fun v s1 ⟨h0, q⟩ => ⟨h0, hk.mono _ _ _ (fun kk s2 ⟨es, k, a, b, c, q⟩ => ⟨es, k, a, b, c, l.nx _ q⟩) q⟩) h,
    PS.weak (ps_dput hu (pe_var (i := j) (hc.hN ▸ hx) (hc.hS ▸ hv) hd hcd) hk.pe he.pe hs) fun D σ H ⟨f, Z, fp, s, E, r, h, ok⟩ => ?_⟩
  refine he.go r h fun v s1 Z1 fp1 u H1 z1 r1 p1 ⟨⟨es0, h0⟩, h1⟩ => ?_
  obtain ⟨p, ks0, hp, _⟩ := own_dct r1 h0
  refine ⟨.ref p, hp, hk.go r1 h1 fun kk s2 Z2 fp2 w H2 z2 r2 p2 ⟨es, k, e1, e2, e3, q⟩ => ?_⟩
  obtain ⟨p', ks, hp', hA, fr, eH, rr⟩ := own_dct r2 e1
  rw [hp] at hp'
  cases hp'
  obtain ⟨ekk, okk⟩ := p2.key e2
  subst ekk
  refine ⟨p, _, rfl, DPut.k eH (by rw [rr.length]; exact e3), ok.nx _ _ _ _ _ (z1.trans z2) (r2.turn e1 hp (by rw [hA]; simp) ?_) q⟩
  rw [hA]
  exact .dct fr upd_same (rr.put okk (p1.up z2))
/-- del d[k], d owned -/
def sDDelO (j : Nat) (tk : DTE) : DTS := fun E s => (∃ es, s[j]? = some (.own (.dct es))) ∧ tk s fun kk s2 => ∃ es k, s2[j]? = some (.own (.dct es)) ∧ toKey kk.data = some k ∧ (lookD es k).isSome = true ∧ E.nx (s2.set j (.own (.dct (dropD es k))))
theorem ds_ddelO (hc : XC N sc k dd X) (j : Nat) {spos : Pos} (hx : N[j]? = some x) (hv : Vis sc x) (hd : (x == ("__debug__" : Str)) = false) (hcd : (x == ("__classdict__" : Str)) = false) (hk : DE X i tk) : DS X (.Delete [.Subscript (.Name x px) i spos] pos) (sDDelO j tk) := by
  refine ⟨fun E E' s l ⟨h0, h⟩ => ⟨h0, hk.mono _ _ _ (fun kk s2 ⟨es, k, a, b, c, q⟩ => ⟨es, k, a, b, c, l.nx _ q⟩) h⟩,
    PS.weak (ps_ddel (pe_var (i := j) (hc.hN ▸ hx) (hc.hS ▸ hv) hd hcd) hk.pe) fun D σ H ⟨f, Z, fp, s, E, r, ⟨⟨es0, h0⟩, h1⟩, ok⟩ => ?_⟩
  obtain ⟨p, ks0, hp, _⟩ := own_dct r h0
  refine ⟨.ref p, hp, hk.go r h1 fun kk s2 Z2 fp2 w H2 z2 r2 p2 ⟨es, k, e1, e2, e3, q⟩ => ?_⟩
  obtain ⟨p', ks, hp', hA, fr, eH, rr⟩ := own_dct r2 e1
  rw [hp] at hp'
  cases hp'
  refine ⟨p, ks, k, rfl, eH, (p2.key e2).1, by rw [look_some rr]; exact e3, ok.nx _ _ _ _ _ z2 (r2.turn e1 hp (by rw [hA]; simp) ?_) q⟩
  rw [hA]
  exact .dct fr upd_same rr.drop
end
section
variable {X : Cx}
/-! ### len(d), sorted(d) -/
def rLenR : List V → Hp → VK → Prop := fun xs H Q => ∃ a kvs, xs = [V.ref a] ∧ Rd H a (.dK kvs) ∧ Q (.int kvs.length) H
theorem cr_lenR : CallR X (.builtin "len") rLenR := by
  intro pins s σ H xs us Q I rs h
  obtain ⟨a, kvs, rfl, e, q⟩ := h
  cases rs with
  | cons r1 rs =>
    cases rs
    cases r1
    exact d_len I e fun t s' J => ⟨.int kvs.length, H, J, ⟨t, rfl⟩, q⟩
def gLenD : List PyData → Option OV
  | [.dict es] => some (.fz (.int es.length))
  | _ => none
theorem cd_lenD : CallD X rLenR gLenD := fun {f Z fp s σ H vs ds o Q} r p e t => by
  cases p with
  | nil => cases e
  | cons p p' =>
    cases p <;> first | (cases e; done) | skip
    cases p' <;> first | (cases e; done) | skip
    rename_i a ks es hr rr
    cases e
    exact ⟨a, ks, rfl, (DL.Le.of r.zh) _ _ hr, t.flat r (by rw [rr.length]; exact .int _)⟩
/-- the texts that are a dict's keys -/
def keysS : List (PyData × PyData) → Option (List Str)
  | [] => some []
  | (.str x, _) :: r => (keysS r).map (x :: ·)
  | _ :: _ => none
theorem RpK.strs {K : PySem.W.Frag} {Z : Hp} : ∀ {ks : List (Key × V)} {es : List (PyData × PyData)} {xs : List Str}, RpK K Z ks es → keysS es = some xs → ks.map (·.1) = xs.map Sum.inr ∧ ∀ x ∈ xs, PyData.strOk x = true
  | _, _, _, .nil, h => by cases h; exact ⟨rfl, by simp⟩
  | _, _, xs, .cons (k := k) (es := es) ok p r, h => by
    cases k with
    | inl i => cases h
    | inr x =>
      obtain ⟨ys, h1, h2⟩ := Option.map_eq_some_iff.mp (show (keysS es).map (x :: ·) = some xs from h)
      obtain ⟨h3, h4⟩ := RpK.strs r h1
      subst h2
      refine ⟨?_, fun y hy => ?_⟩
      · rw [List.map_cons, List.map_cons, h3]
      · rcases List.mem_cons.mp hy with e | e
        · subst e
          exact ok
        · exact h4 y e
def eSortD (ta : DTE) : DTE := fun s Q => ta s fun o s' => ∃ es xs, o.data = .dict es ∧ keysS es = some xs ∧ xs.length < 64 ∧ ∀ ys : List Str, ys.Perm xs → sortedS ys = true → Q (.lst (ys.map .str)) s'
theorem de_sortD {e : Expr} {te : DTE} {x : Str} {p pos : Pos} (calm : X.calm = true) (gl : Gl X x) (hm : X.mg x = none) (hv : bootBuiltins x = some (.builtin "sorted")) (he : DE X e te) (hn : x ≠ "__name__") (hdb : (x == ("__debug__" : Str)) = false)
    (hs : starEach [e] X.env = (false, eval e X.env) :: starEach [] X.env) : DE X (.Call (.Name x p) [e] [] pos) (eSortD te) :=
  ⟨fun s Q Q' hq w => he.mono _ _ _ (fun o s' ⟨es, xs, a, b, c, q⟩ => ⟨es, xs, a, b, c, fun ys h1 h2 => hq _ _ (q ys h1 h2)⟩) w,
    PE.weak (pe_callB (call_sortedD calm) gl hm hv (pa_cons he.pe pa_nil hs) (hn := hn) (hdb := hdb) (he := hs)) fun σ H Q ⟨f, Z, fp, s, r, w⟩ => he.go r w fun o s' Z' fp' v H' zz r' pv ⟨es, xs, e1, e2, e3, q⟩ => by
      rw [e1] at pv
      cases pv with
      | dct hr rr =>
        obtain ⟨h1, h2⟩ := rr.strs e2
        exact ⟨_, _, xs, rfl, (DL.Le.of r'.zh) _ _ hr, h1, e3, fun ys t hp hs2 hf => (Told.from (q ys hp hs2) zz).lst r' hf (RpA.strs _ fun y hy => h2 y (hp.mem_iff.mp hy))⟩⟩
end
end L2.DL

set_option maxRecDepth 100000
set_option maxHeartbeats 4000000
namespace L2.DL
open PySem PySem.Spec

/-! ### a dict locked while it is walked -/
section
variable {K : PySem.W.Frag} {f : Fr0} {Z H : Hp} {fp : Nat → List Addr} {s : DSt} {σ : L2.St} {a : Addr} {od : Obj} {ks : List (Key × V)}
open Classical in
noncomputable def Fr0.swap (f : Fr0) (a : Addr) (u : HO) : Fr0 :=
  ⟨fun b => if b = a ∧ f.H0 a ≠ none then some u else f.H0 b, fun b => if b = a ∧ f.Z0 a ≠ none then some u else f.Z0 b, f.pl, f.pp⟩
/-- lists, tuples, dicts that may be read there may be read here too -/
structure LeD (Z Z' : Hp) : Prop where
  l : ∀ a xs, Rd Z a (.lst xs) → Rd Z' a (.lst xs)
  t : ∀ a xs, Rd Z a (.tup xs) → Rd Z' a (.tup xs)
  d : ∀ a xs, Rd Z a (.dK xs) → Rd Z' a (.dK xs)
mutual
theorem Rp.leD {Z' : Hp} (h : LeD Z Z') : ∀ {v : V} {d : PyData}, Rp K Z v d → Rp K Z' v d
  | _, _, .non => .non
  | _, _, .bl b => .bl b
  | _, _, .int i => .int i
  | _, _, .str x h => .str x h
  | _, _, .lst q r => .lst (q.imp (h.l _ _) id) (RpA.leD h r)
  | _, _, .tup q r => .tup (q.imp (h.t _ _) id) (RpA.leD h r)
  | _, _, .dct q r => .dct (h.d _ _ q) (RpK.leD h r)
theorem RpA.leD {Z' : Hp} (h : LeD Z Z') : ∀ {vs : List V} {ds : List PyData}, RpA K Z vs ds → RpA K Z' vs ds
  | _, _, .nil => .nil
  | _, _, .cons a b => .cons (Rp.leD h a) (RpA.leD h b)
theorem RpK.leD {Z' : Hp} (h : LeD Z Z') : ∀ {ks : List (Key × V)} {es : List (PyData × PyData)}, RpK K Z ks es → RpK K Z' ks es
  | _, _, .nil => .nil
  | _, _, .cons k a b => .cons k (Rp.leD h a) (RpK.leD h b)
end
theorem Rd.at {Z Z' : Hp} {a : Addr} {u u' : HO} (hz : Z a = some u) (ne : ∀ b, b ≠ a → Z' b = Z b) (b : Addr) (w : HO) (q : Rd Z b w) (h : b = a → Rd Z' b w) : Rd Z' b w := by
  by_cases hb : b = a
  · exact h hb
  · rcases q with q | ⟨o, q⟩
    · exact .inl ((ne b hb).trans q)
    · exact .inr ⟨o, (ne b hb).trans q⟩
theorem leD_lock (hz : Z a = some (.dK ks)) : LeD Z (upd Z a (.frz od (.dK ks))) := by
  have key : ∀ b w, Rd Z b w → (∀ o x, w ≠ .frz o x) → Rd (upd Z a (.frz od (.dK ks))) b w := fun b w q hw => Rd.at (u' := .dK ks) hz (fun b hb => upd_ne hb) b w q fun e => by
    subst e
    rcases q with q | ⟨o, q⟩
    · rw [hz] at q
      cases q
      exact .inr ⟨od, upd_same⟩
    · rw [hz] at q
      cases q
  exact ⟨(fun b xs q => key b _ q (fun _ _ z => by cases z)), (fun b xs q => key b _ q (fun _ _ z => by cases z)), (fun b xs q => key b _ q (fun _ _ z => by cases z))⟩
theorem leD_unlock (hz : Z a = some (.frz od (.dK ks))) : LeD Z (upd Z a (.dK ks)) := by
  have key : ∀ b w, Rd Z b w → (∀ o x, w ≠ .frz o x) → Rd (upd Z a (.dK ks)) b w := fun b w q hw => Rd.at (u' := .dK ks) hz (fun b hb => upd_ne hb) b w q fun e => by
    subst e
    rcases q with q | ⟨o, q⟩
    · rw [hz] at q
      cases q
      exact absurd rfl (hw _ _)
    · rw [hz] at q
      cases q
      exact .inl upd_same
  exact ⟨(fun b xs q => key b _ q (fun _ _ z => by cases z)), (fun b xs q => key b _ q (fun _ _ z => by cases z)), (fun b xs q => key b _ q (fun _ _ z => by cases z))⟩
/-- what may be read with u at a may be read with u' there -/
structure Alike (Z Z' : Hp) (a : Addr) : Prop where
  le : LeD Z Z'
  ne : ∀ b, b ≠ a → Z' b = Z b
  no : ∀ vs, Z a ≠ some (.tup vs)
  no' : ∃ u, Z a = some u
  no2 : ∃ u, Z' a = some u
mutual
theorem ORp.alike {f' : Fr0} {Z' H' : Hp} (w : Alike Z Z' a) : ∀ {v : V} {o : OV} {A : List Addr}, ORp K f Z H v o A → (∀ b ∈ A, Free f' Z' b) → (∀ b ∈ A, H' b = H b) → ORp K f' Z' H' v o A
  | _, _, _, .fz q, _, _ => .fz (q.leD w.le)
  | _, _, _, .lst _ e r, hf, hh => .lst (hf _ (by simp)) ((hh _ (by simp)).trans e) (r.leD w.le)
  | _, _, _, .dct _ e r, hf, hh => .dct (hf _ (by simp)) ((hh _ (by simp)).trans e) (r.leD w.le)
  | _, _, _, .tup q r, hf, hh => .tup ((w.ne _ fun z => w.no _ (z ▸ q)).trans q) (ORpA.alike w r hf hh)
theorem ORpA.alike {f' : Fr0} {Z' H' : Hp} (w : Alike Z Z' a) : ∀ {v : List V} {o : List OV} {A : List Addr}, ORpA K f Z H v o A → (∀ b ∈ A, Free f' Z' b) → (∀ b ∈ A, H' b = H b) → ORpA K f' Z' H' v o A
  | _, _, _, .nil, _, _ => .nil
  | _, _, _, .cons q r, hf, hh => .cons (ORp.alike w q (fun b h => hf b (List.mem_append_left _ h)) fun b h => hh b (List.mem_append_left _ h))
      (ORpA.alike w r (fun b h => hf b (List.mem_append_right _ h)) fun b h => hh b (List.mem_append_right _ h))
end
theorem swap_none {u : HO} {b : Addr} : (f.swap a u).H0 b = none ↔ f.H0 b = none := by
  unfold Fr0.swap
  show (if b = a ∧ f.H0 a ≠ none then some u else f.H0 b) = none ↔ _
  by_cases h : b = a ∧ f.H0 a ≠ none
  · rw [if_pos h]
    constructor
    · intro z; cases z
    · intro z; rw [h.1] at z; exact absurd z h.2
  · rw [if_neg h]
theorem R.swap (r : R K f Z fp s σ H) {u u' : HO} (hz : Z a = some u) (hu : ∀ vs, u ≠ .tup vs) (le : LeD Z (upd Z a u')) : R K (f.swap a u') (upd Z a u') fp s σ (upd H a u') := by
  have al : Alike Z (upd Z a u') a := ⟨le, fun b hb => upd_ne hb, fun vs e => hu vs (by rw [hz] at e; exact Option.some.inj e), ⟨u, hz⟩, ⟨u', upd_same⟩⟩
  have free : ∀ b, Z b = none → b ≠ a := fun b e z => by rw [z, hz] at e; cases e
  refine ⟨fun b o e => ?_, fun b o e => ?_, fun b o e n => ?_, fun b h1 h2 h3 => ?_, fun p hp => ?_, r.len, fun j => ?_, r.apart⟩
  · by_cases hb : b = a
    · subst hb
      rw [upd_same] at e ⊢
      exact e
    · rw [upd_ne hb] at e ⊢
      exact r.zh _ _ e
  · have e' : (if b = a ∧ f.Z0 a ≠ none then some u' else f.Z0 b) = some o := e
    by_cases hb : b = a ∧ f.Z0 a ≠ none
    · rw [if_pos hb] at e'
      rw [hb.1, upd_same]
      exact e'
    · rw [if_neg hb] at e'
      by_cases hb2 : b = a
      · exact absurd ⟨hb2, by rw [← hb2, e']; simp⟩ hb
      · rw [upd_ne hb2]
        exact r.z0 _ _ e'
  · have e' : (if b = a ∧ f.H0 a ≠ none then some u' else f.H0 b) = some o := e
    by_cases hb : b = a ∧ f.H0 a ≠ none
    · rw [if_pos hb] at e'
      rw [hb.1, upd_same]
      exact e'
    · rw [if_neg hb] at e'
      by_cases hb2 : b = a
      · exact absurd ⟨hb2, by rw [← hb2, e']; simp⟩ hb
      · rw [upd_ne hb2]
        exact r.keep _ _ e' n
  · have k1 : f.H0 b ≠ none := fun z => h1 (swap_none.mpr z)
    have e' : (if b = a ∧ f.Z0 a ≠ none then some u' else f.Z0 b) = none := h2
    by_cases hb : b = a ∧ f.Z0 a ≠ none
    · rw [if_pos hb] at e'
      cases e'
    · rw [if_neg hb] at e'
      have := r.nz b k1 e' h3
      rw [upd_ne (free b this)]
      exact this
  · obtain ⟨h1, h2⟩ := r.pok p hp
    have np := free p h1
    obtain ⟨x, y, e, q⟩ := h2
    exact ⟨by rw [upd_ne np]; exact h1, x, y, by rw [upd_ne np]; exact e, q⟩
  · have q := r.slot j
    have own : ∀ b ∈ fp j, Z b = none ∧ (f.pl b ∨ f.H0 b = none) := fun b hb => by
      obtain ⟨h1, h2, _⟩ := q.free b hb
      exact ⟨h1, h2⟩
    revert own q
    generalize s.getD j .no = sv
    generalize σ[j]? = oo
    generalize fp j = A
    intro q own
    cases q with
    | no => exact .no
    | dat q => exact .dat (q.leD le)
    | own q n =>
      refine .own (q.alike al (fun b hb => ?_) fun b hb => ?_) n
      · obtain ⟨⟨h1, h2, h3⟩, _⟩ := q.free b hb
        exact ⟨by rw [upd_ne (free b h1)]; exact h1, h2, h3.imp id swap_none.mpr⟩
      · exact upd_ne (free b (own b hb).1)
    | pool h1 h2 h3 =>
      have np := free _ h1
      obtain ⟨x, y, e, q⟩ := h3
      exact .pool (by rw [upd_ne np]; exact h1) (h2.imp id swap_none.mpr) ⟨x, y, by rw [upd_ne np]; exact e, q⟩
/-- another frame that says the same of what counts -/
theorem R.reframe {g : Fr0} (r : R K g Z fp s σ H) (h1 : ∀ b, g.H0 b = none ↔ f.H0 b = none) (h2 : ∀ b o, f.H0 b = some o → ¬ f.pl b → H b = some o) (h3 : ∀ b o, f.Z0 b = some o → Z b = some o) (h4 : ∀ b, f.Z0 b = none → g.Z0 b = none)
    (h5 : g.pl = f.pl) (h6 : g.pp = f.pp) : R K f Z fp s σ H := by
  refine ⟨r.zh, fun b o e => h3 b o e, fun b o e n => h2 b o e n, fun b a1 a2 a3 => r.nz b (fun z => a1 ((h1 b).mp z)) (h4 b a2) (h5 ▸ a3), fun p hp => r.pok p (h6 ▸ hp), r.len, fun j => ?_, r.apart⟩
  have q := r.slot j
  generalize s.getD j .no = sv at q
  generalize σ[j]? = oo at q
  generalize fp j = A at q
  cases q with
  | no => exact .no
  | dat q => exact .dat q
  | own q n => exact .own (q.to Same.rfl' (fun b hb => by
      obtain ⟨⟨e1, e2, e3⟩, _⟩ := q.free b hb
      exact ⟨e1, h6 ▸ e2, e3.imp (h5 ▸ id) (h1 b).mp⟩) fun _ _ => rfl) n
  | pool e1 e2 e3 => exact .pool e1 (e2.imp (h5 ▸ id) (h1 _).mp) e3
theorem R.unswap {u u' : HO} {Z2 H2 : Hp} {fp2 : Nat → List Addr} {s2 : DSt} {σ2 : L2.St} (r : R K f Z fp s σ H) (hz : Z a = some u) (r2 : R K (f.swap a u') Z2 fp2 s2 σ2 H2) (zz : Same (upd Z a u') Z2) (hu : ∀ vs, u' ≠ .tup vs)
    (le : LeD Z2 (upd Z2 a u)) : R K f (upd Z2 a u) fp2 s2 σ2 (upd H2 a u) ∧ Same Z (upd Z2 a u) := by
  have e2 : Z2 a = some u' := zz _ _ upd_same
  have r3 := r2.swap e2 hu le
  have sz : Same Z (upd Z2 a u) := fun b o e => by
    by_cases hb : b = a
    · rw [hb] at e ⊢
      rw [hz] at e
      cases e
      exact upd_same
    · rw [upd_ne hb]
      exact zz _ _ (by rw [upd_ne hb]; exact e)
  refine ⟨r3.reframe (fun b => swap_none.trans swap_none) (fun b o e n => ?_) (fun b o e => sz _ _ (r.z0 _ _ e)) (fun b e => ?_) rfl rfl, sz⟩
  · by_cases hb : b = a
    · subst hb
      have := r.keep _ _ e n
      rw [r.zh _ _ hz] at this
      cases this
      exact upd_same
    · rw [upd_ne hb]
      refine r2.keep b o ?_ n
      show (if b = a ∧ f.H0 a ≠ none then some u' else f.H0 b) = some o
      rw [if_neg fun z => hb z.1]
      exact e
  · show (if b = a ∧ (f.swap a u').Z0 a ≠ none then some u else (f.swap a u').Z0 b) = none
    by_cases hb : b = a
    · subst hb
      have e' : (f.swap b u').Z0 b = none := by
        show (if b = b ∧ f.Z0 b ≠ none then some u' else f.Z0 b) = none
        rw [if_neg fun z => z.2 e]
        exact e
      rw [if_neg fun z => z.2 e']
      exact e'
    · rw [if_neg fun z => hb z.1]
      show (if b = a ∧ f.Z0 a ≠ none then some u' else f.Z0 b) = none
      rw [if_neg fun z => hb z.1]
      exact e
/-- what is told while a dict is locked -/
theorem Told.locked {s' : DSt} {o : OV} {Q : VK} (r : R K f Z fp s σ H) (hz : Z a = some (.dK ks)) (h : Told K f Z s' σ o Q) :
    Told K (f.swap a (.frz od (.dK ks))) (upd Z a (.frz od (.dK ks))) s' σ o (fun v H2 => H2 a = some (.frz od (.dK ks)) ∧ Q v (upd H2 a (.dK ks))) := fun Z2 fp2 v H2 A zz r2 p n dA => by
  have e2 : Z2 a = some (.frz od (.dK ks)) := zz _ _ upd_same
  have le := leD_unlock e2
  obtain ⟨r3, sz⟩ := r.unswap hz r2 zz (fun vs z => nomatch z) le
  have al : Alike Z2 (upd Z2 a (.dK ks)) a := ⟨le, fun b hb => upd_ne hb, (fun vs e => by rw [e2] at e; cases e), ⟨_, e2⟩, ⟨_, upd_same⟩⟩
  have free : ∀ b ∈ A, b ≠ a := fun b hb z => by
    have := (p.free b hb).1.1
    rw [z, e2] at this
    cases this
  refine ⟨r2.zh _ _ e2, h _ fp2 v _ A sz r3 (p.alike al (fun b hb => ?_) fun b hb => upd_ne (free b hb)) n dA⟩
  obtain ⟨⟨h1, h2, h3⟩, _⟩ := p.free b hb
  exact ⟨by rw [upd_ne (free b hb)]; exact h1, h2, h3.imp id swap_none.mp⟩
end
end L2.DL

set_option maxRecDepth 100000
set_option maxHeartbeats 4000000
namespace L2.DL
open PySem PySem.Spec

/-! ### comprehensions over a dict, which is locked meanwhile -/
section
variable {X : Cx} {tg iter elt : Expr} {ifs : List Expr} {scope : Scope} {own : List (Str × Nat)} {pos : Pos} {wi : DTI} {is : List Nat} {g : TG} {gd : DG} {tt : DTT} {te : DTE} {N : List Str} {sc : Scope} {k : Nat} {dd : Bool}
theorem lc_turns (b : Blk X tg ifs elt scope is g gd tt te) {vs : List Nat} (hv : ∀ i ∈ is, i ∈ vs) {f : Fr0} {Z1 H1 : Hp} {fp1 : Nat → List Addr} {s1 : DSt} {σ : L2.St} {ds : List PyData} {J : It} {Q : VK} (r1 : R X.K f Z1 fp1 s1 σ H1) (w : Walks X.K Z1 ds J)
    (q : compW gd tt te vs ds [] (forgetAll vs s1) fun acc s' => Told X.K f Z1 s' σ (.lst acc) Q) : ∀ D, H1 D = none → ∃ W : Nat → Nat → Hp → Prop, (∃ m, W 0 m (upd H1 D (.lst []))) ∧ ∀ i m H, W i m H →
    (J.stop i H ∧ Q (.ref D) H) ∨ (J.go i H ∧ ∃ Nx : Hp → Prop, (∀ H', Nx H' → ∃ m', m' < m ∧ W (i + 1) m' H') ∧ ∀ x H', J.yld i H x H' → g x (wipe σ vs) H' fun σ2 H2 => wipe σ2 vs = wipe σ vs ∧ liftT X.K tt σ2 H2 fun b H3 =>
      if b = true then lift X.K te σ2 H3 fun y H4 => ∃ acc, H4 D = some (.lst acc) ∧ acc.length < sizeLine ∧ Nx (upd H4 D (.lst (acc ++ [y]))) else Nx H3) := fun D hD => by
  have hT : ∀ s0 : Shared, GD (X.blk s0 (fun _ => none) scope (compEnvC scope [] 0 X.env) []) tg is g gd := fun s0 => b.g s0 _ _ _ _
  obtain ⟨fp2, r2, sub⟩ := r1.wipe vs
  have fr := r1.newFree hD
  have r3 := r2.freshO (.lst []) hD
  have off : ∀ i, D ∉ fp2 i := fun i hh => r1.off hD i (sub i D hh)
  refine ⟨fun i m Hh => m = ds.length - i ∧ i ≤ ds.length ∧ ∃ Z2 fp2 s2 acc vacc, Same Z1 Z2 ∧ R X.K f Z2 fp2 s2 (wipe σ vs) Hh ∧ (∀ j ∈ vs, s2.getD j .no = .no) ∧ Hh D = some (.lst vacc) ∧ RpA X.K Z2 vacc acc ∧ Free f Z2 D ∧
    (∀ j, D ∉ fp2 j) ∧ compW gd tt te vs (ds.drop i) acc s2 (fun acc s' => Told X.K f Z1 s' σ (.lst acc) Q), ⟨ds.length, by simp, Nat.zero_le _, Z1, fp2, _, [], [], Same.rfl', r3, fun j hj => forgetAll_in hj, upd_same, .nil, fr, off, q⟩, ?_⟩
  rintro i m H2 ⟨rfl, hi2, Z2, fpx, s2, acc, vacc, z2, r2, hn, hDl, pa, hf, hoff, q2⟩
  rcases Nat.lt_or_ge i ds.length with hlt | hge
  · refine .inr ?_
    have hd : ds[i]? = some ds[i] := List.getElem?_eq_getElem hlt
    have hw := (w Z2 H2 z2 r2.zh i).1 _ hd
    let Nx : Hp → Prop := fun Hh => ∃ Z2 fp2 s2 acc vacc, Same Z1 Z2 ∧ R X.K f Z2 fp2 s2 (wipe σ vs) Hh ∧ (∀ j ∈ vs, s2.getD j .no = .no) ∧ Hh D = some (.lst vacc) ∧ RpA X.K Z2 vacc acc ∧ Free f Z2 D ∧
      (∀ j, D ∉ fp2 j) ∧ compW gd tt te vs (ds.drop (i + 1)) acc s2 (fun acc s' => Told X.K f Z1 s' σ (.lst acc) Q)
    refine ⟨hw.1, Nx, fun H' hh => ⟨ds.length - (i + 1), by omega, rfl, hlt, hh⟩, fun x H3 y => ?_⟩
    rw [List.drop_eq_getElem_cons hlt] at q2
    -- the item comes; the new list stands apart
    obtain ⟨Z3, y1, y2, y3, p3, y4⟩ := hw.2 x H3 y
    obtain ⟨Z3', z3, r3, p3'⟩ : ∃ Z', Same Z2 Z' ∧ R X.K f Z' fpx s2 (wipe σ vs) H3 ∧ (Rp X.K Z' x ds[i] ∧ Z' D = none) :=
      ⟨Z3, y1, r2.grow (fun _ => False) y2 y1 (fun _ z => z.elim) (fun a o e _ => y3 _ _ e) (fun a h1 h2 _ => y4 a h1 h2) (fun _ z => z.elim), p3, y4 D (by rw [hDl]; simp) hf.1⟩
    have hD3 : H3 D = some (.lst vacc) := y3 _ _ hDl
    have hf3 : Free f Z3' D := ⟨p3'.2, hf.2⟩
    have base := r3.rebase
    have hnp : ¬ (base1 f Z3' H3 fpx).pl D := fun ⟨j, hj⟩ => hoff j hj
    -- back from the turn's own frame
    have fin : ∀ {Z' fp' s' H'}, R X.K (base1 f Z3' H3 fpx) Z' fp' s' (wipe σ vs) H' → R X.K f Z' fp' s' (wipe σ vs) H' ∧ H' D = some (.lst vacc) ∧ Free f Z' D ∧ ∀ j, D ∉ fp' j := fun {Z' fp' s' H'} r' => by
      have hz : Z' D = none := r'.nz D (by show H3 D ≠ none; rw [hD3]; simp) p3'.2 hnp
      refine ⟨r3.back r', r'.keep D _ hD3 hnp, ⟨hz, hf.2⟩, fun j hj => ?_⟩
      rcases ((r'.slot j).free D hj).2.1 with z | z
      · exact hnp z
      · have z' : H3 D = none := z
        rw [hD3] at z'
        cases z'
    refine (hT {}).go (X := X.blk {} (fun _ => none) scope (compEnvC scope [] 0 X.env) []) base p3'.1 q2 fun fp4 s4 σ4 r4 o4 q4 => ⟨wipe_of o4 hv, ?_⟩
    -- the state behind the turn
    have endT : ∀ {Z6 fp6 s6 H6}, Same Z3' Z6 → R X.K (base1 f Z3' H3 fpx) Z6 fp6 s6 σ4 H6 → ∃ fp7, R X.K f Z6 fp7 (forgetAll vs s6) (wipe σ vs) H6 ∧ H6 D = some (.lst vacc) ∧ Free f Z6 D ∧ ∀ j, D ∉ fp7 j := fun {Z6 fp6 s6 H6} _ r6 => by
      obtain ⟨fp7, r7, sub7⟩ := r6.wipe vs
      rw [wipe_of o4 hv] at r7
      obtain ⟨e1, e2, e3, e4⟩ := fin r7
      exact ⟨fp7, e1, e2, e3, e4⟩
    refine ⟨_, Z3', fp4, s4, r4, (b.t {} (fun _ => none) 0 [] []).mono _ _ _ (fun b5 s5 q5 Z5 fp5 H5 z5 r5 => ?_) q4⟩
    cases b5 with
    | true =>
      refine ⟨_, Z5, fp5, s5, r5, (b.e {} (fun _ => none) 0 [] []).mono _ _ _ (fun o s6 ⟨hz, q6⟩ Z6 fp6 v H6 A z6 r6 p6 n6 hA6 => ?_) q5⟩
      obtain ⟨Z7, z7, r7, p7⟩ := r6.stillT p6 hA6
      obtain ⟨fp8, r8, hD8, hf8, off8⟩ := endT (z5.trans (z6.trans z7)) r7
      have zz : Same Z2 Z7 := z3.trans (z5.trans (z6.trans z7))
      have pa7 := pa.up zz
      refine ⟨vacc, hD8, by rw [pa.length]; exact hz, Z7, fp8, forgetAll vs s6, _, _, z2.trans zz, r8.poke _ hf8 off8, fun j hj => forgetAll_in hj, upd_same, pa7.append (.cons p7 .nil), hf8, off8, q6⟩
    | false =>
      obtain ⟨fp8, r8, hD8, hf8, off8⟩ := endT z5 r5
      have zz : Same Z2 Z5 := z3.trans z5
      exact ⟨Z5, fp8, forgetAll vs s5, acc, vacc, z2.trans zz, r8, fun j hj => forgetAll_in hj, hD8, pa.up zz, hf8, off8, q5⟩
  · have e : i = ds.length := by omega
    subst e
    rw [List.drop_length] at q2
    have r5 : R X.K f Z2 fpx s2 σ H2 := r2.unwipe hn
    refine .inl ⟨(w Z2 H2 z2 r2.zh _).2 (Nat.le_refl _), ?_⟩
    exact q2 Z2 fpx _ H2 [D] (z2) r5 (.lst hf hDl pa) (by simp) fun i a ha => by
      cases List.mem_singleton.mp ha
      exact hoff i
theorem PE.or {e : Expr} {t1 t2 : TE} (h1 : PE X e t1) (h2 : PE X e t2) : PE X e fun σ H Q => t1 σ H Q ∨ t2 σ H Q :=
  ⟨fun p s σ H Q I q => q.elim (h1.run p s σ H Q I) (h2.run p s σ H Q I)⟩
theorem key_rp {K : PySem.W.Frag} {Z : Hp} {k : Key} (h : keyOkV k = true) : Rp K Z (kV k) (kD k) := by
  cases k with
  | inl i => exact .int i
  | inr x => exact .str x h
theorem RpK.get {K : PySem.W.Frag} {Z : Hp} : ∀ {ks : List (Key × V)} {es : List (PyData × PyData)} {i : Nat} {e : PyData × PyData}, RpK K Z ks es → es[i]? = some e → ∃ k v, ks[i]? = some (k, v) ∧ e.1 = kD k ∧ keyOkV k = true ∧ Rp K Z v e.2
  | _, _, _, _, .nil, h => by simp at h
  | _, _, 0, e, .cons (k := k) (v := v) ok p r, h => by
    simp at h
    subst h
    exact ⟨k, v, rfl, rfl, ok, p⟩
  | _, _, i + 1, e, .cons ok p r, h => by
    obtain ⟨k, v, h1, h2⟩ := RpK.get (i := i) (e := e) r (by simpa using h)
    exact ⟨k, v, by simpa using h1, h2⟩
theorem walks_keys {K : PySem.W.Frag} {Z : Hp} {d : Addr} {o : Obj} {ks : List (Key × V)} {es : List (PyData × PyData)} (hz : Z d = some (.frz o (.dK ks))) (rr : RpK K Z ks es) : Walks K Z (es.map Prod.fst) (Itk d o ks) := fun Z2 H2 z2 zh2 i => by
  have hd := zh2 _ _ (z2 _ _ hz)
  refine ⟨fun y hy => ?_, fun hi => ⟨hd, by rw [List.length_map] at hi; rw [rr.length]; exact hi⟩⟩
  rw [List.getElem?_map] at hy
  obtain ⟨e, h1, rfl⟩ := Option.map_eq_some_iff.mp hy
  obtain ⟨k, v, h2, h3, h4, h5⟩ := rr.get h1
  refine ⟨⟨hd, ?_⟩, fun x H3 hh => ?_⟩
  · rcases Nat.lt_or_ge i ks.length with z | z
    · exact z
    · rw [List.getElem?_eq_none z] at h2
      cases h2
  · obtain ⟨rfl, k', v', h6, rfl⟩ := hh
    rw [h2] at h6
    cases h6
    rw [h3]
    exact Yl.same zh2 (key_rp h4)
theorem walks_items {K : PySem.W.Frag} {Z : Hp} {d : Addr} {o : Obj} {ks : List (Key × V)} {es : List (PyData × PyData)} (hz : Z d = some (.frz o (.dK ks))) (rr : RpK K Z ks es) : Walks K Z (es.map fun e => .tuple [e.1, e.2]) (Iti d o ks) := fun Z2 H2 z2 zh2 i => by
  have hd := zh2 _ _ (z2 _ _ hz)
  refine ⟨fun y hy => ?_, fun hi => ⟨hd, by rw [List.length_map] at hi; rw [rr.length]; exact hi⟩⟩
  rw [List.getElem?_map] at hy
  obtain ⟨e, h1, rfl⟩ := Option.map_eq_some_iff.mp hy
  obtain ⟨k, v, h2, h3, h4, h5⟩ := rr.get h1
  refine ⟨⟨hd, ?_⟩, fun x H3 hh => ?_⟩
  · rcases Nat.lt_or_ge i ks.length with z | z
    · exact z
    · rw [List.getElem?_eq_none z] at h2
      cases h2
  · obtain ⟨T, k', v', h6, rfl, hT, rfl⟩ := hh
    rw [h2] at h6
    cases h6
    have hz2 : Z2 T = none := zh2.free hT
    refine ⟨upd Z2 T (.tup [kV k, v]), same_upd hz2, fun b o e => ?_, same_upd hT, ?_, fun b h1 h2 => ?_⟩
    · by_cases hb : b = T
      · subst hb
        rw [upd_same] at e ⊢
        exact e
      · rw [upd_ne hb] at e ⊢
        exact zh2 _ _ e
    · rw [h3]
      exact .tup (.of upd_same) (.cons (key_rp h4) (.cons ((h5.up z2).up (same_upd hz2)) .nil))
    · rw [upd_ne]
      · exact h2
      · rintro rfl
        exact h1 hT
def eCompK (i : Nat) (gd : DG) (tt : DTT) (te : DTE) (vs : List Nat) : DTE := fun s Q => ∃ es, s[i]? = some (.dat (.dict es)) ∧ compW gd tt te vs (es.map Prod.fst) [] (forgetAll vs s) fun acc s2 => Q (.lst acc) s2
def eCompI (i : Nat) (gd : DG) (tt : DTT) (te : DTE) (vs : List Nat) : DTE := fun s Q => ∃ es, s[i]? = some (.dat (.dict es)) ∧ compW gd tt te vs (es.map fun e => .tuple [e.1, e.2]) [] (forgetAll vs s) fun acc s2 => Q (.lst acc) s2
theorem blk_mono (b : Blk X tg ifs elt scope is g gd tt te) {vs : List Nat} {Q Q' : List PyData → DSt → Prop} (hq : ∀ o s', Q o s' → Q' o s') (ds acc : List PyData) (s : DSt) (h : compW gd tt te vs ds acc s Q) : compW gd tt te vs ds acc s Q' := by
  have z : Shared := {}
  exact compW_mono (b.g z (fun _ => none) 0 [] []).mono (b.t z (fun _ => none) 0 [] []).mono (b.e z (fun _ => none) 0 [] []).mono hq ds acc s h
theorem de_compK (hc : XC N sc k dd X) (i : Nat) {x : Str} {px : Pos} (hx : N[i]? = some x) (hv : Vis sc x) (hd : (x == ("__debug__" : Str)) = false) (hcd : (x == ("__classdict__" : Str)) = false) (b : Blk X tg ifs elt scope is g gd tt te) (ok : blkC N sc scope own = true)
    (hvs : ∀ i ∈ is, i ∈ own.map (·.2)) (hs : ∀ y, foldedSetIterable (.Name x px) X.env y = pure y) : DE X (.ListComp elt [⟨tg, .Name x px, ifs, 0⟩] scope pos) (eCompK i gd tt te (own.map (·.2))) := by
  have P := pe_lc (own := own) (tt := liftT X.K tt) (te := lift X.K te) (elt := elt) (tg := tg) (ifs := ifs) (scope := scope) (pos := pos) hc.calm (hc.hN ▸ hc.nd) (pi_keys (X := X) (tg := tg) (pe_var (pos := px) (i := i) (hc.hN ▸ hx) (hc.hS ▸ hv) hd hcd)) (hc.hN ▸ hc.hS ▸ blkOk_by ok) (fun s H C cl fp => (b.g s H C cl fp).pg) (fun s H C cl fp => (b.t s H C cl fp).pts) (fun s H C cl fp => (b.e s H C cl fp).pe) hs
  refine ⟨fun s Q Q' hq ⟨es, h0, h⟩ => ⟨es, h0, blk_mono b (fun acc s2 q => hq _ _ q) _ _ _ h⟩, PE.weak (PE.or (pe_lock P) P) fun σ H Q ⟨f, Z, fp, s, r, es, h0, h⟩ => ?_⟩
  obtain ⟨v, e, p⟩ := r.dat h0
  cases p with
  | dct hr rr =>
    rename_i a ks
    rcases hr with hz | ⟨o, hz⟩
    · exact .inl ⟨a, .dK ks, r.zh _ _ hz, trivial, fun od => ⟨.ref a, e, a, od, rfl, .inl ⟨ks, upd_same, lc_turns b hvs (r.swap hz (fun vs z => nomatch z) (leD_lock hz)) (walks_keys upd_same (rr.leD (leD_lock hz)))
        (blk_mono b (fun acc s2 q => Told.locked r hz q) _ _ _ h)⟩⟩⟩
    · exact .inr ⟨.ref a, e, a, o, rfl, .inl ⟨ks, r.zh _ _ hz, lc_turns b hvs r (walks_keys hz rr) h⟩⟩
end
end L2.DL

set_option maxRecDepth 100000
set_option maxHeartbeats 4000000
namespace L2.DL
open PySem PySem.Spec

/-! ### dict(d), list(xs), tuple(xs), x in xs -/
section
variable {X : Cx}
def gDict : List PyData → Option OV
  | [.dict es] => some (.dct es)
  | _ => none
theorem cd_dict : CallD X (fun xs H Q => ∃ (a : Addr) (kvs : List (Key × V)), xs = [.ref a] ∧ Rd H a (.dK kvs) ∧ ∀ p, H p = none → Q (.ref p) (upd H p (.dK kvs))) gDict := fun {f Z fp s σ H vs ds o Q} r p e t => by
  cases p with
  | nil => cases e
  | cons p p' =>
    cases p <;> first | (cases e; done) | skip
    cases p' <;> first | (cases e; done) | skip
    rename_i a ks es hr rr
    cases e
    exact ⟨a, ks, rfl, (DL.Le.of r.zh) _ _ hr, fun q hq => t.dct r hq rr⟩
def gListOf : List PyData → Option OV
  | [.list ds] => some (.lst ds)
  | [.tuple ds] => some (.lst ds)
  | _ => none
theorem cd_listOf : CallD X (fun xs H Q => ∃ p ys, xs = [.ref p] ∧ (SqL X.K H p ys ∨ SqT X.K H p ys) ∧ ∀ l, H l = none → Q (.ref l) (upd H l (.lst ys))) gListOf := fun {f Z fp s σ H vs ds o Q} r p e t => by
  cases p with
  | nil => cases e
  | cons p p' =>
    cases p <;> first | (cases e; done) | skip
    · cases p' <;> first | (cases e; done) | skip
      rename_i a xs ds q w
      cases e
      exact ⟨a, xs, rfl, .inl ((DL.Le.of r.zh).sqL q), fun l hl => t.lst r hl w⟩
    · cases p' <;> first | (cases e; done) | skip
      rename_i a xs ds q w
      cases e
      exact ⟨a, xs, rfl, .inr ((DL.Le.of r.zh).sqT q), fun l hl => t.lst r hl w⟩
def gTupOf : List PyData → Option OV
  | [.list ds] => some (.fz (.tuple ds))
  | [.tuple ds] => some (.fz (.tuple ds))
  | _ => none
theorem cd_tupOf : CallD X (fun xs H Q => ∃ p ys, xs = [.ref p] ∧ ((SqL X.K H p ys ∧ ∀ l, H l = none → Q (.ref l) (upd H l (.tup ys))) ∨ (SqT X.K H p ys ∧ Q (.ref p) H))) gTupOf := fun {f Z fp s σ H vs ds o Q} r p e t => by
  cases p with
  | nil => cases e
  | cons p p' =>
    cases p <;> first | (cases e; done) | skip
    · cases p' <;> first | (cases e; done) | skip
      rename_i a xs ds q w
      cases e
      exact ⟨a, xs, rfl, .inl ⟨(DL.Le.of r.zh).sqL q, fun l hl => t.tup r hl w⟩⟩
    · cases p' <;> first | (cases e; done) | skip
      rename_i a xs ds q w
      cases e
      exact ⟨a, xs, rfl, .inr ⟨(DL.Le.of r.zh).sqT q, t.flat r (.tup q w)⟩⟩
def gInL (neg : Bool) : PyData → PyData → Option OV
  | d, .list ds => if (eqOk d && eqOk (.list ds)) = true then some (.fz (.bool ((ds.any fun z => PyData.eqv z d) != neg))) else none
  | _, _ => none
theorem od_inL : OpD X (fun x y H Q => ∃ d ds, Dp X.K H x d ∧ Dp X.K H y (.list ds) ∧ SeqAt.shaped d = true ∧ SeqAt.shaped (.list ds) = true ∧ Q (.bl (ds.any fun z => PyData.eqv z d)) H) (gInL false) := fun {f Z fp s σ H vx vy x y o Q} r px py e t => by
  cases py <;> first | (cases e; done) | skip
  rename_i a xs ds q w
  obtain ⟨hc, rfl⟩ := some_if e
  simp only [Bool.and_eq_true] at hc
  obtain ⟨h1, h2⟩ := eqOk_dp r.zh px hc.1
  obtain ⟨h3, h4⟩ := eqOk_dp r.zh (.lst q w) hc.2
  refine ⟨x, ds, h1, h3, h2, h4, ?_⟩
  have := t.flat r (.bl _)
  rw [show ((ds.any fun z => PyData.eqv z x) != false) = (ds.any fun z => PyData.eqv z x) by cases (ds.any fun z => PyData.eqv z x) <;> rfl] at this
  exact this
end
end L2.DL

set_option maxRecDepth 100000
set_option maxHeartbeats 4000000
namespace L2.DL
open PySem PySem.Spec

/-! ### {k: v, ..} -/
abbrev DTK := DSt → (List (PyData × PyData) → DSt → Prop) → Prop
def kNil : DTK := fun s Q => Q [] s
def kCons (tk tv : DTE) (tr : DTK) : DTK := fun s Q => tk s fun k s1 => tv s1 fun v s2 => tr s2 fun es s3 => Q ((k.data, v.data) :: es) s3
inductive RpPs (K : PySem.W.Frag) (Z : Hp) : List (V × V) → List (PyData × PyData) → Prop
  | nil : RpPs K Z [] []
  | cons {x y : V} {k d : PyData} {ps : List (V × V)} {es : List (PyData × PyData)} : Rp K Z x k → Rp K Z y d → RpPs K Z ps es → RpPs K Z ((x, y) :: ps) ((k, d) :: es)
def liftK (K : PySem.W.Frag) (t : DTK) (σ : L2.St) (H : Hp) (Q : List (V × V) → Hp → Prop) : Prop :=
  ∃ f Z fp s, R K f Z fp s σ H ∧ t s fun es s' => ∀ Z' fp' ps H', Same Z Z' → R K f Z' fp' s' σ H' → RpPs K Z' ps es → Q ps H'
structure DKs (X : Cx) (pos : Pos) (keys : List (Option Expr)) (values : List Expr) (t : DTK) : Prop where
  mono : ∀ s Q Q', (∀ o s', Q o s' → Q' o s') → t s Q → t s Q'
  ex : ∃ trs, PPs X pos keys values trs ∧ ∀ σ H Q, liftK X.K t σ H Q → tPairs trs σ H Q
section
variable {X : Cx} {pos : Pos} {k v : Expr} {keys : List (Option Expr)} {values : List Expr} {tk tv : DTE} {tr : DTK}
theorem dks_nil : DKs X pos [] [] kNil := ⟨fun _ _ _ hq h => hq _ _ h, [], pps_nil, fun σ H Q ⟨f, Z, fp, s, r, h⟩ => h _ _ _ _ Same.rfl' r .nil⟩
theorem dks_cons (hk : DE X k tk) (hv : DE X v tv) (hr : DKs X pos keys values tr) : DKs X pos (some k :: keys) (v :: values) (kCons tk tv tr) := by
  obtain ⟨m, trs, pp, go⟩ := hr
  refine ⟨fun s Q Q' hq h => hk.mono _ _ _ (fun k s1 h1 => hv.mono _ _ _ (fun v s2 h2 => m _ _ _ (fun es s3 q => hq _ _ q) h2) h1) h, _, pps_cons hk.pe hv.pe pp, fun σ H Q ⟨f, Z, fp, s, r, h⟩ => ?_⟩
  refine hk.go r h fun k s1 Z1 fp1 x H1 z1 r1 p1 h1 => hv.go r1 h1 fun v s2 Z2 fp2 y H2 z2 r2 p2 h2 => go _ _ _ ⟨f, Z2, fp2, s2, r2, m _ _ _ (fun es s3 q Z3 fp3 ps H3 z3 r3 rp => ?_) h2⟩
  exact q Z3 fp3 _ H3 ((z1.trans z2).trans z3) r3 (.cons ((p1.up z2).up z3) (p2.up z3) rp)
def mergeD (acc : List (PyData × PyData)) (kes : List (Key × PyData)) : List (PyData × PyData) := kes.foldl (fun a e => putD a e.1 e.2) acc
theorem RpPs.byKey {K : PySem.W.Frag} {Z : Hp} : ∀ {ps : List (V × V)} (kes : List (Key × PyData)), RpPs K Z ps (kes.map fun e => (kD e.1, e.2)) →
    ∃ kvs : List (Key × V), ps = kvs.map (fun kv => (kV kv.1, kv.2)) ∧ kvs.length = kes.length ∧ ∀ acc accD, RpK K Z acc accD → RpK K Z (mergeK acc kvs) (mergeD accD kes)
  | _, [], h => by cases h; exact ⟨[], rfl, rfl, fun _ _ r => r⟩
  | _, e :: kes, h => by
    cases h with
    | cons p1 p2 r =>
      obtain ⟨kvs, h1, h2, h3⟩ := RpPs.byKey kes r
      obtain ⟨e1, ok⟩ := p1.key (toKey_kD e.1)
      subst e1 h1
      exact ⟨(e.1, _) :: kvs, rfl, by simp [h2], fun acc accD rr => h3 _ _ (rr.put ok p2)⟩
def eDisp (t : DTK) : DTE := fun s Q => t s fun es s' => ∃ kes : List (Key × PyData), es = kes.map (fun e => (kD e.1, e.2)) ∧ kes.length ≤ 15 ∧ Q (.dct (mergeD [] kes)) s'
theorem de_disp (h : DKs X pos keys values tr) (hall : keys.all (·.isSome) = true) (hl : keys.length = values.length) (h0 : keys ≠ []) (h15 : keys.length ≤ 15) : DE X (.Dict keys values pos) (eDisp tr) := by
  obtain ⟨m, trs, pp, go⟩ := h
  refine ⟨fun s Q Q' hq w => m _ _ _ (fun es s' ⟨kes, a, b, q⟩ => ⟨kes, a, b, hq _ _ q⟩) w, PE.weak (pe_disp pp hall hl h0 h15) fun σ H Q ⟨f, Z, fp, s, r, w⟩ => fun p hp => ?_⟩
  have r3 := r.freshO (.dK []) hp
  have fr := r.newFree hp
  have base := r3.rebase
  have hnp : ¬ (base1 f Z (upd H p (.dK [])) fp).pl p := fun ⟨j, hj⟩ => r.off hp j hj
  refine go _ _ _ ⟨_, Z, fp, s, base, m _ _ _ (fun es s' ⟨kes, e1, e2, q⟩ Z' fp' ps H' zz r' rp => ?_) w⟩
  subst e1
  obtain ⟨kvs, h1, h2, h3⟩ := rp.byKey
  have hD : H' p = some (.dK []) := r'.keep p _ upd_same hnp
  have hz : Z' p = none := r'.nz p (by show upd H p (.dK []) p ≠ none; rw [upd_same]; simp) fr.1 hnp
  have off : ∀ j, p ∉ fp' j := fun j hj => by
    rcases ((r'.slot j).free p hj).2.1 with z | z
    · exact hnp z
    · have z' : upd H p (.dK []) p = none := z
      rw [upd_same] at z'
      cases z'
  have hf : Free f Z' p := ⟨hz, fr.2⟩
  refine ⟨hD, kvs, h1, by rw [h2]; exact e2, q Z' fp' _ _ [p] zz ((r3.back r').poke _ hf off) (.dct hf upd_same (h3 _ _ .nil)) (by simp) fun i a ha => ?_⟩
  cases List.mem_singleton.mp ha
  exact off i
end
end L2.DL

set_option maxRecDepth 100000
set_option maxHeartbeats 4000000
namespace L2.DL
open PySem PySem.Spec

/-! ### {k: v for .. in d.items()} -/
def dcW (gd : DG) (tt : DTT) (tk tv : DTE) (vs : List Nat) : List PyData → List (PyData × PyData) → DSt → (List (PyData × PyData) → DSt → Prop) → Prop
  | [], acc, s, Q => Q acc s
  | d :: ds, acc, s, Q => gd d s fun s1 => tt s1 fun b s2 => if b = true then tk s2 fun y s3 => tv s3 fun z s4 => ∃ k, toKey y.data = some k ∧ acc.length < sizeLine ∧ dcW gd tt tk tv vs ds (putD acc k z.data) (forgetAll vs s4) Q
    else dcW gd tt tk tv vs ds acc (forgetAll vs s2) Q
section
variable {X : Cx} {tg kx vx : Expr} {ifs : List Expr} {scope : Scope} {own : List (Str × Nat)} {pos : Pos} {is : List Nat} {g : TG} {gd : DG} {tt : DTT} {tk tv : DTE} {N : List Str} {sc : Scope} {k : Nat} {dd : Bool}
structure BlkD (X : Cx) (tg : Expr) (ifs : List Expr) (kx vx : Expr) (scope : Scope) (is : List Nat) (g : TG) (gd : DG) (tt : DTT) (tk tv : DTE) : Prop where
  g : ∀ (s : Shared) (H : Hp) (C : Addr) (cl : List (Str × Addr)) (fp : List Addr), GD (X.blk s H scope (compEnvC scope cl C X.env) fp) tg is g gd
  t : ∀ (s : Shared) (H : Hp) (C : Addr) (cl : List (Str × Addr)) (fp : List Addr), DTs (X.blk s H scope (compEnvC scope cl C X.env) fp) ifs tt
  k : ∀ (s : Shared) (H : Hp) (C : Addr) (cl : List (Str × Addr)) (fp : List Addr), DE (X.blk s H scope (compEnvC scope cl C X.env) fp) kx tk
  v : ∀ (s : Shared) (H : Hp) (C : Addr) (cl : List (Str × Addr)) (fp : List Addr), DE (X.blk s H scope (compEnvC scope cl C X.env) fp) vx tv
theorem dcW_mono (b : BlkD X tg ifs kx vx scope is g gd tt tk tv) {vs : List Nat} {Q Q' : List (PyData × PyData) → DSt → Prop} (hq : ∀ o s', Q o s' → Q' o s') :
    ∀ (ds : List PyData) (acc : List (PyData × PyData)) (s : DSt), dcW gd tt tk tv vs ds acc s Q → dcW gd tt tk tv vs ds acc s Q'
  | [], acc, s, h => hq _ _ h
  | d :: ds, acc, s, h => by
    have z : Shared := {}
    refine (b.g z (fun _ => none) 0 [] []).mono _ _ _ _ (fun s1 h1 => (b.t z (fun _ => none) 0 [] []).mono _ _ _ (fun c s2 h2 => ?_) h1) h
    cases c with
    | true => exact (b.k z (fun _ => none) 0 [] []).mono _ _ _ (fun y s3 h3 => (b.v z (fun _ => none) 0 [] []).mono _ _ _ (fun w s4 ⟨k, e1, e2, h4⟩ => ⟨k, e1, e2, dcW_mono b hq ds _ _ h4⟩) h3) h2
    | false => exact dcW_mono b hq ds _ _ h2
theorem dc_turns (b : BlkD X tg ifs kx vx scope is g gd tt tk tv) {vs : List Nat} (hv : ∀ i ∈ is, i ∈ vs) {f : Fr0} {Z1 H1 : Hp} {fp1 : Nat → List Addr} {s1 : DSt} {σ : L2.St} {ds : List PyData} {J : It} {Q : VK} (r1 : R X.K f Z1 fp1 s1 σ H1) (w : Walks X.K Z1 ds J)
    (q : dcW gd tt tk tv vs ds [] (forgetAll vs s1) fun acc s' => Told X.K f Z1 s' σ (.dct acc) Q) : ∀ D, H1 D = none → ∃ W : Nat → Nat → Hp → Prop, (∃ m, W 0 m (upd H1 D (.dK []))) ∧ ∀ i m H, W i m H →
    (J.stop i H ∧ Q (.ref D) H) ∨ (J.go i H ∧ ∃ Nx : Hp → Prop, (∀ H', Nx H' → ∃ m', m' < m ∧ W (i + 1) m' H') ∧ ∀ x H', J.yld i H x H' → g x (wipe σ vs) H' fun σ2 H2 => wipe σ2 vs = wipe σ vs ∧ liftT X.K tt σ2 H2 fun b H3 =>
      if b = true then lift X.K tk σ2 H3 fun y H4 => lift X.K tv σ2 H4 fun z H5 => ∃ kvs k, y = kV k ∧ H5 D = some (.dK kvs) ∧ kvs.length < sizeLine ∧ Nx (upd H5 D (.dK (putK kvs k z))) else Nx H3) := fun D hD => by
  have hT : ∀ s0 : Shared, GD (X.blk s0 (fun _ => none) scope (compEnvC scope [] 0 X.env) []) tg is g gd := fun s0 => b.g s0 _ _ _ _
  obtain ⟨fp2, r2, sub⟩ := r1.wipe vs
  have fr := r1.newFree hD
  have r3 := r2.freshO (.dK []) hD
  have off : ∀ i, D ∉ fp2 i := fun i hh => r1.off hD i (sub i D hh)
  refine ⟨fun i m Hh => m = ds.length - i ∧ i ≤ ds.length ∧ ∃ Z2 fp2 s2 acc vacc, Same Z1 Z2 ∧ R X.K f Z2 fp2 s2 (wipe σ vs) Hh ∧ (∀ j ∈ vs, s2.getD j .no = .no) ∧ Hh D = some (.dK vacc) ∧ RpK X.K Z2 vacc acc ∧ Free f Z2 D ∧
    (∀ j, D ∉ fp2 j) ∧ dcW gd tt tk tv vs (ds.drop i) acc s2 (fun acc s' => Told X.K f Z1 s' σ (.dct acc) Q), ⟨ds.length, by simp, Nat.zero_le _, Z1, fp2, _, [], [], Same.rfl', r3, fun j hj => forgetAll_in hj, upd_same, .nil, fr, off, q⟩, ?_⟩
  rintro i m H2 ⟨rfl, hi2, Z2, fpx, s2, acc, vacc, z2, r2, hn, hDl, pa, hf, hoff, q2⟩
  rcases Nat.lt_or_ge i ds.length with hlt | hge
  · refine .inr ?_
    have hd : ds[i]? = some ds[i] := List.getElem?_eq_getElem hlt
    have hw := (w Z2 H2 z2 r2.zh i).1 _ hd
    let Nx : Hp → Prop := fun Hh => ∃ Z2 fp2 s2 acc vacc, Same Z1 Z2 ∧ R X.K f Z2 fp2 s2 (wipe σ vs) Hh ∧ (∀ j ∈ vs, s2.getD j .no = .no) ∧ Hh D = some (.dK vacc) ∧ RpK X.K Z2 vacc acc ∧ Free f Z2 D ∧
      (∀ j, D ∉ fp2 j) ∧ dcW gd tt tk tv vs (ds.drop (i + 1)) acc s2 (fun acc s' => Told X.K f Z1 s' σ (.dct acc) Q)
    refine ⟨hw.1, Nx, fun H' hh => ⟨ds.length - (i + 1), by omega, rfl, hlt, hh⟩, fun x H3 y => ?_⟩
    rw [List.drop_eq_getElem_cons hlt] at q2
    -- the item comes; the new list stands apart
    obtain ⟨Z3, y1, y2, y3, p3, y4⟩ := hw.2 x H3 y
    obtain ⟨Z3', z3, r3, p3'⟩ : ∃ Z', Same Z2 Z' ∧ R X.K f Z' fpx s2 (wipe σ vs) H3 ∧ (Rp X.K Z' x ds[i] ∧ Z' D = none) :=
      ⟨Z3, y1, r2.grow (fun _ => False) y2 y1 (fun _ z => z.elim) (fun a o e _ => y3 _ _ e) (fun a h1 h2 _ => y4 a h1 h2) (fun _ z => z.elim), p3, y4 D (by rw [hDl]; simp) hf.1⟩
    have hD3 : H3 D = some (.dK vacc) := y3 _ _ hDl
    have hf3 : Free f Z3' D := ⟨p3'.2, hf.2⟩
    have base := r3.rebase
    have hnp : ¬ (base1 f Z3' H3 fpx).pl D := fun ⟨j, hj⟩ => hoff j hj
    -- back from the turn's own frame
    have fin : ∀ {Z' fp' s' H'}, R X.K (base1 f Z3' H3 fpx) Z' fp' s' (wipe σ vs) H' → R X.K f Z' fp' s' (wipe σ vs) H' ∧ H' D = some (.dK vacc) ∧ Free f Z' D ∧ ∀ j, D ∉ fp' j := fun {Z' fp' s' H'} r' => by
      have hz : Z' D = none := r'.nz D (by show H3 D ≠ none; rw [hD3]; simp) p3'.2 hnp
      refine ⟨r3.back r', r'.keep D _ hD3 hnp, ⟨hz, hf.2⟩, fun j hj => ?_⟩
      rcases ((r'.slot j).free D hj).2.1 with z | z
      · exact hnp z
      · have z' : H3 D = none := z
        rw [hD3] at z'
        cases z'
    refine (hT {}).go (X := X.blk {} (fun _ => none) scope (compEnvC scope [] 0 X.env) []) base p3'.1 q2 fun fp4 s4 σ4 r4 o4 q4 => ⟨wipe_of o4 hv, ?_⟩
    -- the state behind the turn
    have endT : ∀ {Z6 fp6 s6 H6}, Same Z3' Z6 → R X.K (base1 f Z3' H3 fpx) Z6 fp6 s6 σ4 H6 → ∃ fp7, R X.K f Z6 fp7 (forgetAll vs s6) (wipe σ vs) H6 ∧ H6 D = some (.dK vacc) ∧ Free f Z6 D ∧ ∀ j, D ∉ fp7 j := fun {Z6 fp6 s6 H6} _ r6 => by
      obtain ⟨fp7, r7, sub7⟩ := r6.wipe vs
      rw [wipe_of o4 hv] at r7
      obtain ⟨e1, e2, e3, e4⟩ := fin r7
      exact ⟨fp7, e1, e2, e3, e4⟩
    refine ⟨_, Z3', fp4, s4, r4, (b.t {} (fun _ => none) 0 [] []).mono _ _ _ (fun b5 s5 q5 Z5 fp5 H5 z5 r5 => ?_) q4⟩
    cases b5 with
    | true =>
      refine ⟨_, Z5, fp5, s5, r5, (b.k {} (fun _ => none) 0 [] []).mono _ _ _ (fun y s6 q6 Z6 fp6 vy H6 A z6 r6 p6 n6 hA6 => ?_) q5⟩
      obtain ⟨Z7, z7, r7, p7⟩ := r6.stillT p6 hA6
      refine ⟨_, Z7, fp6, s6, r7, (b.v {} (fun _ => none) 0 [] []).mono _ _ _ (fun z s8 ⟨kk, hk, hz, q8⟩ Z8 fp8 vz H8 A8 z8 r8 p8 n8 hA8 => ?_) q6⟩
      obtain ⟨Z9, z9, r9, p9⟩ := r8.stillT p8 hA8
      obtain ⟨fpq, rq, hDq, hfq, offq⟩ := endT (z5.trans (z6.trans (z7.trans (z8.trans z9)))) r9
      have zz : Same Z2 Z9 := z3.trans (z5.trans (z6.trans (z7.trans (z8.trans z9))))
      obtain ⟨ey, oky⟩ := p7.key hk
      have pa9 := (pa.up zz).put oky p9
      exact ⟨vacc, kk, ey, hDq, by rw [pa.length]; exact hz, Z9, fpq, forgetAll vs s8, _, _, z2.trans zz, rq.poke _ hfq offq, fun j hj => forgetAll_in hj, upd_same, pa9, hfq, offq, q8⟩
    | false =>
      obtain ⟨fp8, r8, hD8, hf8, off8⟩ := endT z5 r5
      have zz : Same Z2 Z5 := z3.trans z5
      exact ⟨Z5, fp8, forgetAll vs s5, acc, vacc, z2.trans zz, r8, fun j hj => forgetAll_in hj, hD8, pa.up zz, hf8, off8, q5⟩
  · have e : i = ds.length := by omega
    subst e
    rw [List.drop_length] at q2
    have r5 : R X.K f Z2 fpx s2 σ H2 := r2.unwipe hn
    refine .inl ⟨(w Z2 H2 z2 r2.zh _).2 (Nat.le_refl _), ?_⟩
    exact q2 Z2 fpx _ H2 [D] z2 r5 (.dct hf hDl pa) (by simp) fun i a ha => by
      cases List.mem_singleton.mp ha
      exact hoff i
def eDcI (i : Nat) (gd : DG) (tt : DTT) (tk tv : DTE) (vs : List Nat) : DTE := fun s Q => ∃ es, s[i]? = some (.dat (.dict es)) ∧ dcW gd tt tk tv vs (es.map fun e => .tuple [e.1, e.2]) [] (forgetAll vs s) fun acc s2 => Q (.dct acc) s2
theorem de_dcI (hc : XC N sc k dd X) (i : Nat) {x : Str} {px apos cpos tpos : Pos} {elts : List Expr} {kk : Nat} (hx : N[i]? = some x) (hv : Vis sc x) (hd : (x == ("__debug__" : Str)) = false) (hcd : (x == ("__classdict__" : Str)) = false) (b : BlkD X (.Tuple elts kk tpos) ifs kx vx scope is g gd tt tk tv) (ok : blkC N sc scope own = true)
    (hvs : ∀ i ∈ is, i ∈ own.map (·.2)) (hbase : attributeBase (.Name x px) "items" X.env (eval (.Name x px) X.env) = eval (.Name x px) X.env) (hline : (apos.endLine == cpos.line) = true) (hs : ∀ y, foldedSetIterable (.Call (.Attribute (.Name x px) "items" apos) [] [] cpos) X.env y = pure y) :
    DE X (.DictComp kx vx [⟨.Tuple elts kk tpos, .Call (.Attribute (.Name x px) "items" apos) [] [] cpos, ifs, 0⟩] scope pos) (eDcI i gd tt tk tv (own.map (·.2))) := by
  have P := pe_dc (own := own) (tt := liftT X.K tt) (tk := lift X.K tk) (tv := lift X.K tv) (kx := kx) (vx := vx) (tg := .Tuple elts kk tpos) (ifs := ifs) (scope := scope) (pos := pos) hc.calm (hc.hN ▸ hc.nd) (pi_items (X := X) (apos := apos) (cpos := cpos) (pe_var (pos := px) (i := i) (hc.hN ▸ hx) (hc.hS ▸ hv) hd hcd) hbase hline) (hc.hN ▸ hc.hS ▸ blkOk_by ok)
    (fun s H C cl fp => (b.g s H C cl fp).pg) (fun s H C cl fp => (b.t s H C cl fp).pts) (fun s H C cl fp => (b.k s H C cl fp).pe) (fun s H C cl fp => (b.v s H C cl fp).pe) hs
  refine ⟨fun s Q Q' hq ⟨es, h0, h⟩ => ⟨es, h0, dcW_mono b (fun acc s2 q => hq _ _ q) _ _ _ h⟩, PE.weak (PE.or (pe_lock P) P) fun σ H Q ⟨f, Z, fp, s, r, es, h0, h⟩ => ?_⟩
  obtain ⟨v, e, p⟩ := r.dat h0
  cases p with
  | dct hr rr =>
    rename_i a ks
    rcases hr with hz | ⟨o, hz⟩
    · exact .inl ⟨a, .dK ks, r.zh _ _ hz, trivial, fun od => ⟨.ref a, e, a, od, ks, rfl, upd_same, dc_turns b hvs (r.swap hz (fun vs z => nomatch z) (leD_lock hz)) (walks_items upd_same (rr.leD (leD_lock hz)))
        (dcW_mono b (fun acc s2 q => Told.locked r hz q) _ _ _ h)⟩⟩
    · exact .inr ⟨.ref a, e, a, o, ks, rfl, r.zh _ _ hz, dc_turns b hvs r (walks_items hz rr) h⟩
end
end L2.DL

namespace L2.DL
open PySem PySem.Spec PyProof.Rows
section
variable {X : Cx} {N : List Str} {sc : Scope} {k : Nat} {dd : Bool}
theorem hu1 (hc : XC N sc k dd X) : X.A.units + 1 < cLine := by
  have := hc.room.units
  omega
theorem hu65 (hc : XC N sc k dd X) : X.A.units + 65 < cLine := by
  have := hc.room.un
  omega
theorem od_notInL : OpD X (fun x y H Q => ∃ d ds, Dp X.K H x d ∧ Dp X.K H y (.list ds) ∧ SeqAt.shaped d = true ∧ SeqAt.shaped (.list ds) = true ∧ Q (.bl (!(ds.any fun z => PyData.eqv z d))) H) (gInL true) := fun {f Z fp s σ H vx vy x y o Q} r px py e t => by
  cases py <;> first | (cases e; done) | skip
  rename_i a xs ds q w
  obtain ⟨hc, rfl⟩ := some_if e
  simp only [Bool.and_eq_true] at hc
  obtain ⟨h1, h2⟩ := eqOk_dp r.zh px hc.1
  obtain ⟨h3, h4⟩ := eqOk_dp r.zh (.lst q w) hc.2
  refine ⟨x, ds, h1, h3, h2, h4, ?_⟩
  have := t.flat r (.bl _)
  rw [show ((ds.any fun z => PyData.eqv z x) != true) = !(ds.any fun z => PyData.eqv z x) by cases (ds.any fun z => PyData.eqv z x) <;> rfl] at this
  exact this
def eSortL (ta : DTE) : DTE := fun s Q => ta s fun o s' => ∃ xs : List Str, o.data = .list (xs.map .str) ∧ xs.length < 64 ∧ ∀ ys : List Str, ys.Perm xs → sortedS ys = true → Q (.lst (ys.map .str)) s'
theorem de_sortL {e : Expr} {te : DTE} {x : Str} {p pos : Pos} (gl : Gl X x) (hm : X.mg x = none) (hv : bootBuiltins x = some (.builtin "sorted")) (he : DE X e te) (hn : x ≠ "__name__") (hdb : (x == ("__debug__" : Str)) = false)
    (hs : starEach [e] X.env = (false, eval e X.env) :: starEach [] X.env) : DE X (.Call (.Name x p) [e] [] pos) (eSortL te) :=
  ⟨fun s Q Q' hq w => he.mono _ _ _ (fun o s' ⟨xs, a, b, q⟩ => ⟨xs, a, b, fun ys h1 h2 => hq _ _ (q ys h1 h2)⟩) w,
    PE.weak (pe_callB cr_sortedS gl hm hv (pa_cons he.pe pa_nil hs) (hn := hn) (hdb := hdb) (he := hs)) fun σ H Q ⟨f, Z, fp, s, r, w⟩ => he.go r w fun o s' Z' fp' v H' zz r' pv ⟨xs, e1, e2, q⟩ => by
      rw [e1] at pv
      cases pv with
      | lst hq rr =>
        obtain ⟨rfl, h2⟩ := RpA.strs_inv xs rr
        exact ⟨_, xs, rfl, (DL.Le.of r'.zh).sqL hq, e2, fun ys t hp hs2 hf => (Told.from (q ys hp hs2) zz).lst r' hf (RpA.strs _ fun y hy => h2 y (hp.mem_iff.mp hy))⟩⟩
section
variable {o i : Expr} {td tk : DTE} {pos : Pos}
theorem dt_din (hu : X.A.units + 1 < cLine) (hk : DE X i tk) (hd : DE X o td) (hm : behindInMarks .In o = false) : DT X (.Compare i [.In] [o] pos) (eB (eDIn false tk td)) :=
  ⟨monoB (mono_din hk hd), PT.weak (pt_cmp (pc_din hu hk.pe hd.pe) hm) fun σ H Q ⟨f, Z, fp, s, r, w⟩ => hk.go r w fun kk s1 Z1 fp1 u H1 z1 r1 p1 h1 => hd.go r1 h1 fun d s2 Z2 fp2 v H2 z2 r2 p2 ⟨es, k, e1, e2, c, e3, q⟩ => by
    rw [e1] at p2
    cases p2 with
    | dct hr rr =>
      refine ⟨_, _, rfl, .inl ⟨_, k, (DL.Le.of r2.zh) _ _ hr, (p1.key e2).1, rfl⟩, c, ?_, q _ _ _ (z1.trans z2) r2⟩
      rw [look_some rr]
      have e4 : ((lookD es k).isSome != false) = c := by injection e3
      rw [← e4]
      cases (lookD es k).isSome <;> rfl⟩
theorem dt_dnotin (hu : X.A.units + 1 < cLine) (hk : DE X i tk) (hd : DE X o td) (hm : behindInMarks .NotIn o = false) : DT X (.Compare i [.NotIn] [o] pos) (eB (eDIn true tk td)) :=
  ⟨monoB (mono_din hk hd), PT.weak (pt_cmp (pc_dnotin hu hk.pe hd.pe) hm) fun σ H Q ⟨f, Z, fp, s, r, w⟩ => hk.go r w fun kk s1 Z1 fp1 u H1 z1 r1 p1 h1 => hd.go r1 h1 fun d s2 Z2 fp2 v H2 z2 r2 p2 ⟨es, k, e1, e2, c, e3, q⟩ => by
    rw [e1] at p2
    cases p2 with
    | dct hr rr =>
      refine ⟨_, _, rfl, .inl ⟨_, k, (DL.Le.of r2.zh) _ _ hr, (p1.key e2).1, rfl⟩, c, ?_, q _ _ _ (z1.trans z2) r2⟩
      rw [look_some rr]
      have e4 : ((lookD es k).isSome != true) = c := by injection e3
      rw [← e4]
      cases (lookD es k).isSome <;> rfl⟩
end
end
end L2.DL

set_option maxRecDepth 100000
set_option maxHeartbeats 4000000
namespace L2.DL
open PySem PySem.Spec PyProof.Rows

/-! ### is True, is not True; repr of truths; xs * n -/
section
variable {X : Cx}
def gIsB (neg : Bool) : PyData → PyData → Option OV
  | .bool a, .bool b => some (.fz (.bool (decide (a = b) != neg)))
  | _, _ => none
theorem od_isB : OpD X rIsB (gIsB false) := fun {f Z fp s σ H vx vy x y o Q} r px py e t => by
  cases px <;> first | (cases e; done) | skip
  cases py <;> first | (cases e; done) | skip
  rename_i a b
  cases e
  refine ⟨a, b, rfl, rfl, ?_⟩
  have := t.flat r (.bl _)
  rw [show (decide (a = b) != false) = decide (a = b) by cases decide (a = b) <;> rfl] at this
  exact this
theorem od_isNotB : OpD X rNotB (gIsB true) := fun {f Z fp s σ H vx vy x y o Q} r px py e t => by
  cases px <;> first | (cases e; done) | skip
  cases py <;> first | (cases e; done) | skip
  rename_i a b
  cases e
  refine ⟨a, b, rfl, rfl, ?_⟩
  have := t.flat r (.bl _)
  rw [show (decide (a = b) != true) = !decide (a = b) by cases decide (a = b) <;> rfl] at this
  exact this
/-- repr of a truth -/
def rReprB : List V → Hp → VK → Prop := fun xs H Q => ∃ b : Bool, xs = [.bl b] ∧ Q (.str (if b = true then "True" else "False")) H
theorem cr_reprB : CallR X (.builtin "repr") rReprB := by
  intro pins s σ H xs us Q I rs h
  obtain ⟨b, rfl, q⟩ := h
  cases rs with
  | cons r1 rs =>
    cases rs
    cases (show _ = Value.bool b from r1)
    refine call_repr_gives (T := "bool") rfl PySem.F.slot_bool_repr PySem.F.entry_bool_repr (PySem.F.args_bool_repr_1 _) (gives_bool_repr b) ⟨.str _, H, I.tok _, ⟨_, rfl⟩, q⟩ rfl ?_
    cases b <;> decide
theorem CallR.or' {f : Value} {r1 r2 : List V → Hp → VK → Prop} (h1 : CallR X f r1) (h2 : CallR X f r2) : CallR X f fun xs H Q => r1 xs H Q ∨ r2 xs H Q :=
  fun pins s σ H xs us Q I rs h => h.elim (h1 pins s σ H xs us Q I rs) (h2 pins s σ H xs us Q I rs)
def gReprX : List PyData → Option OV
  | [.bool b] => some (.fz (.str (if b = true then "True" else "False")))
  | ds => gRepr ds
theorem cd_reprX : CallD X (fun xs H Q => rReprB xs H Q ∨ rReprD X.K xs H Q) gReprX := fun {f Z fp s σ H vs ds o Q} r p e t => by
  unfold gReprX at e
  split at e
  · rename_i b
    cases e
    cases p with
    | cons p p' =>
      cases p'
      cases p.bl_inv
      refine .inl ⟨b, rfl, t.flat r (.str _ ?_)⟩
      cases b <;> decide +kernel
  · exact .inr (cd_repr r p e t)
end
end L2.DL

set_option maxRecDepth 100000
set_option maxHeartbeats 2000000
/-! DL21: a list that stands still times a number, a text times a number. -/
namespace L2.DL
open PySem PySem.Spec
variable {X : Cx}
theorem q_mul_intW (l : Addr) (items : Array Value) (n : Nat) (d : Option Addr) (sl : Array (Option Value)) (x : Int) (u : Tok) (hc0 : ¬(!Builtin.List.listFitsIndex x) = true)
    (hc1 : ¬items.size * x.toNat > (2 ^ 63 - 1) / 8) (hc2 : ¬Builtin.List.listTooLong (items.size * x.toNat) = true) :
    Meets (Builtin.«list.__mul__» ⟨[.ref l, .int x u], []⟩) (fun _ R s => s.heap.get? l = some { cls := .type "list", dict := d, data := .seq items n, slots := sl } ∧ R (.ok (.ret (Value.ref s.heap.objs.size))) { s with heap := s.heap.push { cls := Value.type "list", data := Data.seq (List.foldl (fun x1 x2 => x1 ++ x2) #[] (List.replicate (if items.isEmpty = true then 0 else x.toNat) items)) }, toks := s.toks }) :=
  .of_wp fun prog w A R s h => by
    obtain ⟨hp, g, d, tk, os⟩ := s; obtain ⟨hl, h⟩ := h
    have hsz := AutoListH.joined_fits hc2
    wp_walk; refine wpAny_ite_false (decide_eq_false (Nat.not_lt.mpr hsz)) ?_; wp_walk; exact ⟨_, rfl, h⟩
theorem q_rmul_intW (a : Int) (t : Tok) (l : Addr) (items : Array Value) (n : Nat) (d : Option Addr) (sl : Array (Option Value)) :
    Meets (Builtin.«int.__rmul__» ⟨[.int a t, .ref l], []⟩) (fun _ R s => s.heap.get? l = some { cls := .type "list", dict := d, data := .seq items n, slots := sl } ∧ R (.ok (.ret Value.notImplemented)) s) :=
  .of_wp fun prog w A R s h => by obtain ⟨hp, g, d, tk, os⟩ := s; obtain ⟨hl, h⟩ := h; wp_walk; exact ⟨_, rfl, h⟩
def rRepS (K : PySem.W.Frag) : R2 := fun x y H Q => ∃ l k xs, x = .ref l ∧ y = .int k ∧ SqL K H l xs ∧ -(2 ^ 62) ≤ k ∧ k < 2 ^ 62 ∧ xs.length * k.toNat ≤ sizeLine ∧
  ∀ p, H p = none → Q (.ref p) (upd H p (.lst (List.replicate k.toNat xs).flatten))
theorem op_repS : OpR X (binaryOp .Mult) (rRepS X.K) := by
  rintro pins s σ H _ _ v u Q I rx ry ⟨a, k, xs, rfl, rfl, hs, lo, up, few, q⟩
  cases rx
  obtain ⟨t, rfl⟩ := ry
  obtain ⟨ws, rv, ⟨⟨c1, d1, data1, sl1⟩, n, at1, e1, _, e2⟩, -⟩ := I.list hs
  cases (show c1 = Value.type "list" from e1)
  cases (show data1 = Data.seq ws.toArray n from e2)
  have few2 : ws.toArray.size * k.toNat ≤ sizeLine := by simpa [rv.length] using few
  have big : (sizeLine : Nat) ≤ (2 ^ 63 - 1) / 8 := by decide
  have long : ¬ Builtin.List.listTooLong (ws.toArray.size * k.toNat) = true := fun z => by rw [notLongL few2] at z; cases z
  have fits : ¬ (!Builtin.List.listFitsIndex k) = true := fun z => by rw [fitsIndex_both (k := k) (by omega) (by omega)] at z; cases z
  refine wpAny_binaryOp_repeat_ref (T := "list") (U := "int") (by decide) ⟨_, at1, rfl⟩ (fun s' => typeIs_int s' k t) noFill_list_mul F.fills_int_mul F.slot_int_rmul repeat_list F.slot_int_index.lookup
    (call_meets F.slot_int_rmul (typeIs_int s k t) F.entry_int_rmul (F.args_int_rmul_2 _ _) (q_rmul_intW k t a ws.toArray n d1 sl1) ⟨at1, rfl, ⟨_, at1, rfl⟩, call_meets F.slot_list_mul ⟨_, at1, rfl⟩ F.entry_list_mul (F.args_list_mul_2 _ _) (q_mul_intW a ws.toArray n d1 sl1 k t fits (by omega) long) ⟨at1, ?_⟩⟩)
  rw [PyProof.Rows.listMul_foldl_if]
  refine ⟨.ref _, _, I.lnew (t' := s.toks) (rv.rep k.toNat) ?_, rfl, q _ I.fresh⟩
  rw [PyProof.Rows.lm_len_rep_flat, Nat.mul_comm]
  exact few
theorem op_mulS : OpR X (binaryOp .Mult) (fun x y H Q => ∃ (i : Str) (k : Int), x = .str i ∧ y = .int k ∧ MulOk i k ∧ Q (.str (Txt.mul i k)) H) := by
  intro pins s σ H x y v u Q I rx ry h
  obtain ⟨i, j, rfl, rfl, hz, q⟩ := h
  obtain ⟨t, rfl⟩ := rx
  obtain ⟨t', rfl⟩ := ry
  exact SB.mul hz fun t' tk => ⟨.str (Txt.mul i j), H, I.tok _, ⟨_, rfl⟩, q⟩
/-- a list, or a text, times a number -/
def rRepX (K : PySem.W.Frag) : R2 := fun x y H Q => rRepS K x y H Q ∨ ∃ (i : Str) (k : Int), x = .str i ∧ y = .int k ∧ MulOk i k ∧ Q (.str (Txt.mul i k)) H
theorem or_rep : OpR X (binaryOp .Mult) (rRepX X.K) := op_repS.or op_mulS
def gRep : PyData → PyData → Option OV
  | .list ds, .int k => if -(2 ^ 62) ≤ k ∧ k < 2 ^ 62 ∧ ds.length * k.toNat ≤ sizeLine then some (.lst (List.replicate k.toNat ds).flatten) else none
  | .str x, .int k => if x.length ≤ 1000 ∧ 0 ≤ k ∧ k ≤ 1000 then some (.fz (.str (Txt.mul x k))) else none
  | _, _ => none
theorem RpA.rep {K : PySem.W.Frag} {Z : Hp} {vs : List V} {ds : List PyData} (p : RpA K Z vs ds) : ∀ k : Nat, RpA K Z (List.replicate k vs).flatten (List.replicate k ds).flatten
  | 0 => .nil
  | k + 1 => by
    rw [List.replicate_succ, List.flatten_cons, List.replicate_succ, List.flatten_cons]
    exact p.append (RpA.rep p k)
theorem mem_reps (c : Array Nat) : ∀ (k : Nat) (acc : Array Nat) (x : Nat), x ∈ (List.replicate k c).foldl (· ++ ·) acc → x ∈ acc ∨ x ∈ c
  | 0, acc, x, h => .inl h
  | k + 1, acc, x, h => by
    rw [List.replicate_succ, List.foldl_cons] at h
    rcases mem_reps c k _ x h with h | h
    · rcases Array.mem_append.mp h with h | h
      · exact .inl h
      · exact .inr h
    · exact .inr h
theorem sok_mul {x : Str} {n : Int} (h : sok x = true) : sok (Txt.mul x n) = true := sok_sub h fun c hc => by
  unfold Txt.mul at hc
  split at hc
  · cases hc
  · split at hc
    · exact hc
    · have : c ∈ (List.replicate n.toNat x.cps).foldl (· ++ ·) #[] := Array.mem_toList_iff.mp hc
      rcases mem_reps _ _ _ _ this with h | h
      · simp at h
      · exact Array.mem_toList_iff.mpr h
theorem od_rep : OpD X (rRepX X.K) gRep := fun {f Z fp s σ H vx vy x y o Q} r px py e t => by
  cases px <;> first | (cases e; done) | skip
  · rename_i z hz
    cases py <;> first | (cases e; done) | skip
    rename_i k
    obtain ⟨⟨h1, h2, h3⟩, e⟩ := some_if e
    subst e
    exact .inr ⟨z, k, rfl, rfl, PyProof.Rows.mulOk_of 1000 1000 h1 (by omega) (by omega) (by decide) (by decide), t.flat r (.str _ (sok_mul hz))⟩
  · rename_i a xs ds q w
    cases py <;> first | (cases e; done) | skip
    rename_i k
    obtain ⟨⟨h1, h2, h3⟩, e⟩ := some_if e
    subst e
    refine .inl ⟨a, k, xs, rfl, rfl, (DL.Le.of r.zh).sqL q, h1, h2, by rw [w.length]; exact h3, fun p hp => t.lst r hp (w.rep _)⟩
end L2.DL

set_option maxRecDepth 100000
set_option maxHeartbeats 4000000
/-! DL22: facts about texts by signs, trees of nodes; what the helpers of the laws of stage 1 tell. -/
namespace L2.DL
open PySem PySem.Spec
def wholeB (d : PyData) (k : Int) : Bool := match d with
  | .int i => decide (k ≤ i)
  | _ => false
def c_is_whole : DC := fun svs Q => ∃ d k, svs = [.dat d, .dat (.int k)] ∧ Q (.fz (.bool (wholeB d k)))
theorem m_is_whole : c_is_whole.Mono := fun _ _ _ hq ⟨a, b, h1, h2⟩ => ⟨a, b, h1, hq _ h2⟩
theorem flat_ok : ∀ {l : List PyData}, l.all flatD = true → PyData.hasDictAll l = false ∧ PyData.depthAll l = 0
  | [], _ => ⟨rfl, rfl⟩
  | d :: l, h => by
    simp only [List.all_cons, Bool.and_eq_true] at h
    obtain ⟨h1, h2⟩ := flat_ok h.2
    simp only [PyData.hasDictAll, PyData.depthAll, h1, h2]
    cases d <;> first | (cases h.1; done) | exact ⟨rfl, rfl⟩
theorem gEq_nil {l : List PyData} (h : l.all flatD = true) : gEq (.list l) (.list []) = some (.fz (.bool l.isEmpty)) := by
  obtain ⟨h1, h2⟩ := flat_ok h
  have e1 : PyData.hasDict (.list l) = false := h1
  have e2 : PyData.depth (.list l) ≤ 64 := by simp only [PyData.depth, h2]; decide
  unfold gEq eqOk
  rw [e1, decide_eq_true e2]
  cases l <;> rfl
/-- the items of a walk that are not as wished -/
theorem sieve {gd : DG} {tt : DTT} {te : DTE} {vs : List Nat} {Q : List PyData → DSt → Prop} {I : DSt → Prop} {all : List PyData} {ok : PyData → Bool} (hl : all.length ≤ sizeLine)
    (step : ∀ d s, d ∈ all → I s → ∀ R : DSt → Prop, (∀ s', I s' → R s') → gd d s fun s1 => tt s1 fun b s2 => b = (!ok d) ∧ ((b = true → te s2 fun o s3 => o.data = d ∧ R (forgetAll vs s3)) ∧ (b = false → R (forgetAll vs s2))))
    (mg : ∀ d s Q Q', (∀ s', Q s' → Q' s') → gd d s Q → gd d s Q') (mt : ∀ s Q Q', (∀ o s', Q o s' → Q' o s') → tt s Q → tt s Q') (me : ∀ s Q Q', (∀ o s', Q o s' → Q' o s') → te s Q → te s Q')
    (hq : ∀ s, I s → Q (all.filter fun d => !ok d) s) (s : DSt) (hs : I s) : compW gd tt te vs all [] s Q := by
  refine comp_inv (fun acc ds s => I s ∧ ∃ done, done ++ ds = all ∧ acc = done.filter fun d => !ok d) ?_ ?_ _ _ _ ⟨hs, [], rfl, rfl⟩
  · rintro d ds acc s ⟨hI, done, e, rfl⟩ R hR
    have hmem : d ∈ all := by rw [← e]; simp
    refine mg _ _ _ _ (fun s1 h1 => mt _ _ _ (fun b s2 ⟨h2, h3, h4⟩ => ?_) h1) (step d s hmem hI (fun s' => R ((done.filter fun d => !ok d) ++ if (!ok d) = true then [d] else []) s') fun s' hI' => hR _ _ ⟨hI', done ++ [d], by rw [← e]; simp, ?_⟩)
    · refine ifB (fun hb => ?_) fun hb => ?_
      · refine me _ _ _ (fun o s3 ⟨e1, h5⟩ => ⟨?_, ?_⟩) (h3 hb)
        · have h6 := List.length_filter_le (fun d => !ok d) done
          have h7 := congrArg List.length e
          simp at h7
          omega
        · rw [if_pos (h2 ▸ hb)] at h5
          rw [e1]
          exact h5
      · have h5 := h4 hb
        rw [if_neg (by rw [← h2, hb]; decide), List.append_nil] at h5
        exact h5
    · rw [List.filter_append]
      cases h : ok d <;> simp [List.filter_cons, h]
  · rintro acc s ⟨hI, done, e, rfl⟩
    rw [List.append_nil] at e
    subst e
    exact hq s hI
theorem gLe_1 (a b : Nat) : gLe (tx [a]) (tx [b]) = some (.fz (.bool (decide (a ≤ b)))) := by
  show some (OV.fz (.bool (!decide ([b] < [a])))) = _
  have : decide ([b] < [a]) = decide (b < a) := by
    rw [decide_eq_decide, List.cons_lt_cons_iff]
    simp
  rw [this]
  by_cases h : b < a
  · rw [decide_eq_true h, decide_eq_false (by omega)]
    rfl
  · rw [decide_eq_false h, decide_eq_true (by omega)]
    rfl
theorem nam_at {s : DSt} {j : Nat} {d : PyData} {Q : DK} (h : s[j]? = some (.dat d)) (q : Q (.fz d) s) : eNam j s Q := by
  unfold eNam
  rw [h]
  exact q
theorem mono_nam (j : Nat) : ∀ s Q Q', (∀ o s', Q o s' → Q' o s') → eNam j s Q → eNam j s Q' := fun s Q Q' hq h => by
  unfold eNam at h ⊢
  split at h <;> first | exact hq _ _ h | exact h
def btw (lo hi c : Nat) : Bool := decide (lo ≤ c) && decide (c ≤ hi)
theorem sift (p : Nat → Bool) : ∀ a : List Nat, ((a.map fun c => tx [c]).filter fun d => !ontx (fun l => l.all p) d).isEmpty = a.all p
  | [] => rfl
  | c :: a => by
    have h := sift p a
    have e : ontx (fun l => l.all p) (tx [c]) = p c := by simp [ontx]
    rw [List.map_cons, List.filter_cons, e, List.all_cons]
    cases p c with
    | true => exact h
    | false => rfl
theorem sift_flat (p : Nat → Bool) (a : List Nat) : ((a.map fun c => tx [c]).filter fun d => !ontx (fun l => l.all p) d).all flatD = true := List.all_eq_true.mpr fun x hx => by
  obtain ⟨c, _, rfl⟩ := List.mem_map.mp (List.mem_filter.mp hx).1
  rfl
theorem btw_test {j lo hi c : Nat} {s : DSt} {K : Bool → DSt → Prop} (e : s[j]? = some (.dat (tx [c]))) (q : K (!btw lo hi c) s) : tNotD (eB (eChain gLe gLe (eC (tx [lo])) (eNam j) (eC (tx [hi])))) s K := by
  refine nam_at (j := j) (Q := fun y s2 => ∃ k, gLe (tx [lo]) y.data = some (.fz (.bool k)) ∧ if k = true then ∃ o, gLe y.data (tx [hi]) = some o ∧ ∃ b, o.data = .bool b ∧ K (!b) s2 else ∃ b, PyData.bool false = .bool b ∧ K (!b) s2) e ?_
  refine ⟨_, gLe_1 _ _, ?_⟩
  unfold btw at q
  refine ifB (fun h1 => ⟨_, gLe_1 _ _, _, rfl, ?_⟩) fun h1 => ⟨_, rfl, ?_⟩
  · rw [h1, Bool.true_and] at q
    exact q
  · rw [h1, Bool.false_and] at q
    exact q
theorem between {i j lo hi : Nat} {a : List Nat} {s : DSt} {Q : DK} (h : s[i]? = some (.dat (tx a))) (hj : j < s.length) (hl : a.length ≤ sizeLine)
    (q : Q (.fz (.bool (a.all (btw lo hi)))) (s.set j .no)) :
    eBin gEq (eComp (iText (eNam i)) (gN j) (tNotD (eB (eChain gLe gLe (eC (tx [lo])) (eNam j) (eC (tx [hi]))))) (eNam j) [j]) (eLst aNil) s Q := by
  refine nam_at (j := i) (Q := fun o s' => ∃ x, o.data = .str x ∧ compW (gN j) (tNotD (eB (eChain gLe gLe (eC (tx [lo])) (eNam j) (eC (tx [hi]))))) (eNam j) [j] (signsD x) [] (forgetAll [j] s') fun acc s2 => eLst aNil s2 fun y s3 => ∃ o, gEq (.list acc) y.data = some o ∧ Q o s3) h ⟨_, rfl, ?_⟩
  show compW _ _ _ [j] (a.map fun c => tx [c]) [] _ _
  refine sieve (I := fun s' => s' = s.set j .no) (ok := ontx fun l => l.all (btw lo hi)) (by rw [List.length_map]; exact hl) ?_ (fun d s Q Q' hq h => ⟨h.1, hq _ h.2⟩) (fun s Q Q' hq h => ?_) (mono_nam j) (fun s' hs' => ⟨by decide, _, gEq_nil (sift_flat _ _), by rw [hs', sift]; exact q⟩) _ rfl
  · rintro d _ hd rfl R hR
    obtain ⟨c, _, rfl⟩ := List.mem_map.mp hd
    have e : ((s.set j .no).set j (.dat (tx [c])))[j]? = some (.dat (tx [c])) := List.getElem?_set_self (by rw [List.length_set]; exact hj)
    have e2 : forgetAll [j] ((s.set j .no).set j (.dat (tx [c]))) = s.set j .no := by
      show ((s.set j .no).set j (.dat (tx [c]))).set j .no = _
      rw [List.set_set, List.set_set]
    have ho : ontx (fun l => l.all (btw lo hi)) (tx [c]) = btw lo hi c := by simp [ontx]
    refine ⟨by rw [List.length_set]; exact hj, btw_test e ⟨by rw [ho], fun _ => nam_at (j := j) (Q := fun o s3 => o.data = tx [c] ∧ R (forgetAll [j] s3)) e ⟨rfl, ?_⟩, fun _ => ?_⟩⟩
    · rw [e2]; exact hR _ rfl
    · rw [e2]; exact hR _ rfl
  · have h' : eNam j s fun y s2 => ∃ k, gLe (tx [lo]) y.data = some (.fz (.bool k)) ∧ if k = true then ∃ o, gLe y.data (tx [hi]) = some o ∧ ∃ b, o.data = .bool b ∧ Q (!b) s2 else ∃ b, PyData.bool false = .bool b ∧ Q (!b) s2 := h
    show eNam j s fun y s2 => ∃ k, gLe (tx [lo]) y.data = some (.fz (.bool k)) ∧ if k = true then ∃ o, gLe y.data (tx [hi]) = some o ∧ ∃ b, o.data = .bool b ∧ Q' (!b) s2 else ∃ b, PyData.bool false = .bool b ∧ Q' (!b) s2
    refine mono_nam j _ _ _ (fun y s2 hy => ?_) h'
    obtain ⟨k, e1, h1⟩ := hy
    refine ⟨k, e1, ?_⟩
    cases k with
    | true =>
      obtain ⟨o, e2, b, e3, h2⟩ := h1
      exact ⟨o, e2, b, e3, hq _ _ h2⟩
    | false =>
      obtain ⟨b, e3, h2⟩ := h1
      exact ⟨b, e3, hq _ _ h2⟩
theorem letters_btw (a : List Nat) : (a.all fun c => decide (c ∈ lettersL)) = a.all (btw 97 122) := by
  congr 1
  funext c
  have e : lettersL = List.range' 97 26 := by decide
  unfold btw
  rw [e, Bool.eq_iff_iff]
  simp [List.mem_range'_1]
  omega
theorem figures_btw (a : List Nat) : (a.all fun c => decide (c ∈ figuresL)) = a.all (btw 48 57) := by
  congr 1
  funext c
  have e : figuresL = List.range' 48 10 := by decide
  unfold btw
  rw [e, Bool.eq_iff_iff]
  simp [List.mem_range'_1]
  omega
theorem sieve2 {gd : DG} {tt : DTT} {te : DTE} {vs : List Nat} {Q : List PyData → DSt → Prop} {I : DSt → Prop} {all : List PyData} {ok : PyData → Bool} (hl : all.length ≤ sizeLine)
    (step : ∀ d s, d ∈ all → I s → ∀ (acc : List PyData) (R : List PyData → DSt → Prop), acc.length < sizeLine → (∀ s', I s' → R (acc ++ if (!ok d) = true then [d] else []) s') →
      gd d s fun s1 => tt s1 fun b s2 => if b = true then te s2 fun o s3 => acc.length < sizeLine ∧ R (acc ++ [o.data]) (forgetAll vs s3) else R acc (forgetAll vs s2))
    (hq : ∀ s, I s → Q (all.filter fun d => !ok d) s) (s : DSt) (hs : I s) : compW gd tt te vs all [] s Q := by
  refine comp_inv (fun acc ds s => I s ∧ ∃ done, done ++ ds = all ∧ acc = done.filter fun d => !ok d) ?_ ?_ _ _ _ ⟨hs, [], rfl, rfl⟩
  · rintro d ds acc s ⟨hI, done, e, rfl⟩ R hR
    have h6 := List.length_filter_le (fun d => !ok d) done
    have h7 := congrArg List.length e
    simp at h7
    refine step d s (by rw [← e]; simp) hI _ R (by omega) fun s' hI' => hR _ _ ⟨hI', done ++ [d], by rw [← e]; simp, ?_⟩
    rw [List.filter_append]
    cases h : ok d <;> simp [List.filter_cons, h]
  · rintro acc s ⟨hI, done, e, rfl⟩
    rw [List.append_nil] at e
    subst e
    exact hq s hI
theorem sift_all (p : List Nat → Bool) : ∀ ps : List (List Nat), ((ps.map tx).filter fun d => !ontx p d).isEmpty = ps.all p
  | [] => rfl
  | c :: a => by
    have h := sift_all p a
    have e : ontx p (tx c) = p c := rfl
    rw [List.map_cons, List.filter_cons, e, List.all_cons]
    cases p c with
    | true => exact h
    | false => rfl
theorem sift_allflat (p : List Nat → Bool) (a : List (List Nat)) : ((a.map tx).filter fun d => !ontx p d).all flatD = true := List.all_eq_true.mpr fun x hx => by
  obtain ⟨c, _, rfl⟩ := List.mem_map.mp (List.mem_filter.mp hx).1
  rfl
theorem gNotIn_tx (c : Nat) (b : List Nat) : gNotInS (tx [c]) (tx b) = some (.fz (.bool (!decide (c ∈ b)))) := congrArg (fun k => some (OV.fz (PyData.bool (!k)))) (SX.in_one b c)
theorem gSl_to {a : List Nat} {i : Int} (h : a.length ≤ sizeLine) (hi : 0 ≤ i) : gSl (tx a) none (some i) = some (.fz (tx (a.take i.toNat))) := by
  show (if (SX.S a).length ≤ sizeLine then some (OV.fz (.str (cutS (SX.S a) none (some i)))) else none) = _
  rw [len_S, if_pos h, C8.cutS_slice, SX.slice_to hi]
theorem first_of {a : List Nat} {c : Nat} (h : c ∈ a) : ∃ p q, a = p ++ c :: q ∧ c ∉ p := by
  induction a with
  | nil => cases h
  | cons x a ih =>
    by_cases hx : x = c
    · subst hx
      exact ⟨[], a, rfl, by simp⟩
    · rcases List.mem_cons.mp h with h | h
      · exact absurd h.symm hx
      · obtain ⟨p, q, e, hp⟩ := ih h
        exact ⟨x :: p, q, by rw [e]; rfl, by simp [hp]; exact fun z => hx z.symm⟩
theorem gIdx_tx {p q : List Nat} {c : Nat} (h : c ∉ p) : gIdx (tx (p ++ c :: q)) (tx [c]) = some (.fz (.int p.length)) := by
  have e := SX.partition_some (a := p ++ c :: q) (b := [c]) (by simp) (SX.par_head (sep := []) q h)
  unfold Txt.partition at e
  show (match Builtin.Str.occurrences (SX.S (p ++ c :: q)) (SX.S [c]) 0 (SX.S (p ++ c :: q)).length 1 with
    | i :: _ => some (OV.fz (.int (i : Nat)))
    | [] => none) = _
  cases ho : Builtin.Str.occurrences (SX.S (p ++ c :: q)) (SX.S [c]) 0 (SX.S (p ++ c :: q)).length 1 with
  | nil =>
    rw [ho] at e
    have := congrArg (fun x => x.2.1) e
    have := SX.S_inj this
    cases this
  | cons i r =>
    rw [ho] at e
    have e1 := congrArg (fun x : Str × Str × Str => x.1) e
    have e2 : ((p ++ c :: q).drop 0).take (i - 0) = p := by
      have e3 : Builtin.Str.strSub (SX.S (p ++ c :: q)) 0 i = SX.S p := e1
      rw [PyProof.Rows.strSub_mk] at e3
      exact SX.S_inj e3
    have := congrArg List.length e2
    simp at this
    have : i = p.length := by omega
    rw [this]
theorem spl_step (c : Nat) (last r : List Nat) : TL.spl [47] 0 last (c :: r) = if c = 47 then last :: TL.spl [47] 0 [] r else TL.spl [47] 0 (last ++ [c]) r := by
  show (if TL.pre [47] (c :: r) = true then last :: TL.spl [47] 0 [] r else TL.spl [47] 0 (last ++ [c]) r) = _
  have : TL.pre [47] (c :: r) = decide (c = 47) := by
    show ([c] == [47]) = _
    by_cases h : c = 47
    · subst h; rfl
    · rw [decide_eq_false h]
      exact beq_false_of_ne (by simpa using h)
  rw [this]
  by_cases h : c = 47
  · rw [if_pos (decide_eq_true h), if_pos h]
  · rw [if_neg (by simpa using h), if_neg h]
theorem joinN_len {n : Nat} : ∀ {xs : List (List Nat)}, (∀ x ∈ xs, x.length ≤ n) → (TL.joinL [] xs).length ≤ xs.length * n ∧ (xs.map (·.length)).sum ≤ xs.length * n
  | [], _ => by simp [TL.joinL]
  | [x], h => by
    have := h x (by simp)
    constructor
    · show x.length ≤ _
      simp
      omega
    · simp
      omega
  | x :: z :: r, h => by
    have h1 := h x (by simp)
    obtain ⟨h2, h3⟩ := joinN_len (n := n) (xs := z :: r) fun y hy => h y (by simp [hy])
    constructor
    · show (x ++ ([] ++ TL.joinL [] (z :: r))).length ≤ _
      rw [List.nil_append, List.length_append, List.length_cons (a := x), Nat.succ_mul]
      omega
    · rw [List.map_cons, List.sum_cons, List.length_cons (a := x), Nat.succ_mul]
      omega
theorem set_last (init : List (List Nat)) (l m : List Nat) : ((init ++ [l]).map tx).set init.length (tx m) = (init ++ [m]).map tx := by
  rw [List.map_append, List.map_append, List.set_append_right _ _ (by simp)]
  simp
theorem nam_or {s : DSt} {i : Nat} {L : List PyData} {x : SV} {Q : DK} (h : s[i]? = some x) (hx : x = .own (.lst L) ∨ x = .dat (.list L)) (q : Q (.fz (.list L)) (s.set i (.dat (.list L)))) : eNam i s Q := by
  unfold eNam
  rcases hx with rfl | rfl
  · rw [h]
    exact q
  · rw [h]
    have : s.set i (.dat (.list L)) = s := by
      apply List.ext_getElem?
      intro j
      by_cases hj : i = j
      · subst hj
        have hi : i < s.length := by
          rcases Nat.lt_or_ge i s.length with z | z
          · exact z
          · rw [List.getElem?_eq_none z] at h
            cases h
        rw [List.getElem?_set_self hi, h]
      · rw [List.getElem?_set_ne hj]
    rw [this] at q
    exact q
theorem gAdd_t {a b : List PyData} (h : a.length + b.length ≤ sizeLine) : gAdd (.tuple a) (.tuple b) = some (.fz (.tuple (a ++ b))) := if_pos h
theorem gIx_mem {L : List PyData} {k : Int} (h0 : 0 ≤ k) (h1 : k < (L.length : Nat)) : ∃ d ∈ L, gIx (.list L) (.int k) = some (.fz d) := by
  have hk : k.toNat < L.length := by omega
  refine ⟨L[k.toNat], List.getElem_mem _, ?_⟩
  show (atI L k).map OV.fz = _
  unfold atI ixN
  rw [if_pos h0, if_pos h1]
  show (L[k.toNat]?).map OV.fz = _
  rw [List.getElem?_eq_getElem hk]
  rfl
/-! ### how often a sign stands in a text -/
theorem countIn_map (c : Nat) : ∀ l : List Nat, countIn (.str ⟨#[c]⟩) (l.map fun n => PyData.str ⟨#[n]⟩) = ((l.count c : Nat) : Int)
  | [] => rfl
  | x :: l => by
    have ih := countIn_map c l
    have e : PySem.Spec.same (.str ⟨#[x]⟩) (.str ⟨#[c]⟩) = decide (x = c) := by
      show ((⟨#[x]⟩ : Str) == ⟨#[c]⟩) = _
      have := SX.S_beq_eq (a := [x]) (b := [c])
      rw [show (⟨#[x]⟩ : Str) = SX.S [x] from rfl, show (⟨#[c]⟩ : Str) = SX.S [c] from rfl, this]
      simp
    have e2 : PySem.Spec.same (.str ⟨#[c]⟩) (.str ⟨#[x]⟩) = decide (x = c) := by
      show ((⟨#[c]⟩ : Str) == ⟨#[x]⟩) = _
      have := SX.S_beq_eq (a := [c]) (b := [x])
      rw [show (⟨#[x]⟩ : Str) = SX.S [x] from rfl, show (⟨#[c]⟩ : Str) = SX.S [c] from rfl, this]
      by_cases h : x = c
      · subst h; simp
      · rw [decide_eq_false h, decide_eq_false]
        simp
        exact fun z => h z.symm
    rw [List.map_cons, List.count_cons]
    unfold countIn
    rw [ih]
    by_cases h : x = c
    · subst h
      rw [if_pos (by first | (rw [e]; exact decide_eq_true rfl) | (rw [e2]; exact decide_eq_true rfl))]
      simp
      try omega
    · rw [if_neg (by first | (rw [e]; simpa using h) | (rw [e2]; simpa using h))]
      simp [h]
theorem count_S (a : List Nat) (c : Nat) : Txt.count (SX.S a) (SX.S [c]) = ((a.count c : Nat) : Int) := by
  have := PyProof.Rows.count_is (SX.S a) c
  rw [show (SX.S [c]) = (⟨#[c]⟩ : Str) from rfl, this]
  show countIn _ (a.map _) = _
  exact countIn_map c a
theorem gCount_tx (a : List Nat) (c : Nat) : gCount (tx a) (tx [c]) = some (.fz (.int ((a.count c : Nat) : Int))) := by
  have := count_S a c
  show some (OV.fz (.int _)) = _
  rw [this]
theorem spl_count : ∀ (r acc : List Nat), (TL.spl [47] 0 acc r).length = r.count 47 + 1
  | [], acc => by rw [TL.spl_nil]; rfl
  | c :: r, acc => by
    rw [spl_step, List.count_cons]
    by_cases h : c = 47
    · rw [if_pos h, List.length_cons, spl_count r []]
      simp [h]
    · rw [if_neg h, spl_count r _]
      simp [h]
theorem spl_last : ∀ (p q acc : List Nat), 47 ∉ q → ∃ init, TL.spl [47] 0 acc (p ++ 47 :: q) = init ++ [q]
  | [], q, acc, h => by
    rw [List.nil_append, spl_step, if_pos rfl]
    have : ∀ (q l : List Nat), 47 ∉ q → TL.spl [47] 0 l q = [l ++ q] := fun q => by
      induction q with
      | nil => intro l _; rw [TL.spl_nil, List.append_nil]
      | cons x q ih =>
        intro l h
        rw [spl_step, if_neg (fun z => h (by simp [z])), ih _ fun z => h (by simp [z])]
        simp
    rw [this q [] h]
    exact ⟨[acc], rfl⟩
  | c :: p, q, acc, h => by
    rw [List.cons_append, spl_step]
    by_cases hc : c = 47
    · rw [if_pos hc]
      obtain ⟨init, e⟩ := spl_last p q [] h
      exact ⟨acc :: init, by rw [e]; rfl⟩
    · rw [if_neg hc]
      exact spl_last p q _ h
theorem last_of {a : List Nat} {c : Nat} (h : c ∈ a) : ∃ p q, a = p ++ c :: q ∧ c ∉ q := by
  induction a with
  | nil => cases h
  | cons x a ih =>
    by_cases hx : c ∈ a
    · obtain ⟨p, q, e, hq⟩ := ih hx
      exact ⟨x :: p, q, by rw [e]; rfl, hq⟩
    · rcases List.mem_cons.mp h with h | h
      · subst h
        exact ⟨[], a, rfl, hx⟩
      · exact absurd h hx
theorem pathL_count {ps : List (List Nat)} (h : Parts ps) : (pathL ps).count 47 = max 1 ps.length := by
  unfold pathL
  rw [List.count_cons]
  have : ∀ ps : List (List Nat), Parts ps → (TL.joinL [47] ps).count 47 = ps.length - 1 := fun ps => by
    induction ps with
    | nil => intro _; rfl
    | cons p r ih =>
      intro h
      have hp : p.count 47 = 0 := List.count_eq_zero.mpr (h p (by simp)).2.1
      cases r with
      | nil => exact hp
      | cons q r =>
        show (p ++ ([47] ++ TL.joinL [47] (q :: r))).count 47 = _
        rw [List.count_append, List.count_append, hp, ih fun x hx => h x (by simp [hx])]
        simp
        omega
  rw [this ps h]
  simp
  omega
theorem pathL_ne {ps : List (List Nat)} (h : Parts ps) : pathL ps = [47] ↔ ps = [] := by
  constructor
  · intro e
    cases ps with
    | nil => rfl
    | cons p r =>
      have h1 := pos_part (h p (by simp)).1
      unfold pathL at e
      injection e with _ e
      cases r with
      | nil =>
        rw [show TL.joinL [47] [p] = p from rfl] at e
        subst e
        cases h1
      | cons q r =>
        have := congrArg List.length e
        rw [show TL.joinL [47] (p :: q :: r) = p ++ ([47] ++ TL.joinL [47] (q :: r)) from rfl] at this
        simp at this
  · rintro rfl
    rfl
theorem pathL_inj {ps qs : List (List Nat)} (h : Parts ps) (h2 : Parts qs) (e : pathL ps = pathL qs) : ps = qs := by
  rw [← parts_path h, e, parts_path h2]
/-! ### trees of nodes, as data -/
def textB (a : List Nat) : Bool := decide (a.length ≤ 40) && a.all (btw 32 126)
def Road (ps : List (List Nat)) : Prop := Parts ps ∧ ps.length ≤ 5
def NodeB (B : Nat) (d : PyData) : Prop := ∃ t c m o, d = .tuple [tx t, .int c, .int m, o] ∧ textB t = true ∧ (0 ≤ c ∧ c ≤ (B : Int)) ∧ (0 ≤ m ∧ m ≤ (B : Int)) ∧ (o = .none ∨ ∃ w, o = tx w ∧ wordB w = true)
/-- nodes: at most n of them, their numbers at most B -/
def TreeB (n B : Nat) (es : List (PyData × PyData)) : Prop := es ≠ [] ∧ es.length ≤ n ∧ ∀ e ∈ es, ∃ ps, Road ps ∧ e.1 = tx (pathL ps) ∧ NodeB B e.2
abbrev NodeOk (d : PyData) : Prop := NodeB 1000 d
abbrev TreeOk (n : Nat) (es : List (PyData × PyData)) : Prop := TreeB n 1000 es
theorem NodeB.up {B C : Nat} {d : PyData} (h : NodeB B d) (l : B ≤ C) : NodeB C d := by
  obtain ⟨t, c, m, o, e, h1, h2, h3, h4⟩ := h
  exact ⟨t, c, m, o, e, h1, ⟨h2.1, by omega⟩, ⟨h3.1, by omega⟩, h4⟩
theorem TreeB.up {n m B C : Nat} {es : List (PyData × PyData)} (h : TreeB n B es) (hm : n ≤ m) (l : B ≤ C) : TreeB m C es := ⟨h.1, Nat.le_trans h.2.1 hm, fun e he => by
  obtain ⟨ps, h1, h2, h3⟩ := h.2.2 e he
  exact ⟨ps, h1, h2, h3.up l⟩⟩
theorem keysS_of : ∀ {es : List (PyData × PyData)}, (∀ e ∈ es, ∃ l, e.1 = tx l) → ∃ xs, keysS es = some xs ∧ xs.length = es.length ∧ es.map (·.1) = xs.map .str
  | [], _ => ⟨[], rfl, rfl, rfl⟩
  | (d, v) :: es, h => by
    obtain ⟨l, e⟩ := h (d, v) (by simp)
    obtain ⟨xs, h1, h2, h3⟩ := keysS_of (es := es) fun e he => h e (by simp [he])
    have e' : d = tx l := e
    subst e'
    refine ⟨SX.S l :: xs, ?_, by simp [h2], by simp [h3]⟩
    show (keysS es).map _ = _
    rw [h1]
    rfl
theorem TreeB.keys {n B : Nat} {es : List (PyData × PyData)} (h : TreeB n B es) : ∃ xs, keysS es = some xs ∧ xs.length = es.length ∧ es.map (·.1) = xs.map .str :=
  keysS_of fun e he => by
    obtain ⟨ps, _, e1, _⟩ := h.2.2 e he
    exact ⟨_, e1⟩
theorem TreeB.road {n B : Nat} {es : List (PyData × PyData)} (h : TreeB n B es) {xs : List Str} (hx : es.map (·.1) = xs.map .str) {x : Str} (hm : x ∈ xs) : ∃ ps, Road ps ∧ x = SX.S (pathL ps) := by
  have : PyData.str x ∈ es.map (·.1) := by rw [hx]; exact List.mem_map.mpr ⟨x, hm, rfl⟩
  obtain ⟨e, he, e1⟩ := List.mem_map.mp this
  obtain ⟨ps, h1, h2, _⟩ := h.2.2 e he
  refine ⟨ps, h1, ?_⟩
  rw [h2] at e1
  injection e1 with e1
  exact e1.symm
theorem lookD_mem {es : List (PyData × PyData)} {k : Key} {v : PyData} (h : lookD es k = some v) : ∃ e ∈ es, toKey e.1 = some k ∧ e.2 = v := by
  unfold lookD at h
  obtain ⟨e, h1, h2⟩ := Option.map_eq_some_iff.mp h
  have h3 := List.find?_some h1
  exact ⟨e, List.mem_of_find?_eq_some h1, by simpa using h3, h2⟩
theorem lookD_some {es : List (PyData × PyData)} {k : Key} {e : PyData × PyData} (he : e ∈ es) (hk : toKey e.1 = some k) : ∃ v, lookD es k = some v := by
  unfold lookD
  cases h : es.find? fun e => decide (toKey e.1 = some k) with
  | none =>
    have := List.find?_eq_none.mp h e he
    simp [hk] at this
  | some e' => exact ⟨_, rfl⟩
theorem TreeB.node {n B : Nat} {es : List (PyData × PyData)} (h : TreeB n B es) {k : Key} {v : PyData} (hv : lookD es k = some v) : NodeB B v := by
  obtain ⟨e, he, _, rfl⟩ := lookD_mem hv
  obtain ⟨_, _, _, hn⟩ := h.2.2 e he
  exact hn
theorem TreeB.at {n B : Nat} {es : List (PyData × PyData)} (h : TreeB n B es) {xs : List Str} (hx : es.map (·.1) = xs.map .str) {x : Str} (hm : x ∈ xs) : ∃ v, lookD es (.inr x) = some v ∧ NodeB B v := by
  have : PyData.str x ∈ es.map (·.1) := by rw [hx]; exact List.mem_map.mpr ⟨x, hm, rfl⟩
  obtain ⟨e, he, e1⟩ := List.mem_map.mp this
  obtain ⟨v, hv⟩ := lookD_some (k := .inr x) he (by rw [e1]; rfl)
  exact ⟨v, hv, h.node hv⟩
theorem putD_len {es : List (PyData × PyData)} {k : Key} {d : PyData} : (putD es k d).length ≤ es.length + 1 ∧ ((lookD es k).isSome = true → (putD es k d).length = es.length) := by
  unfold putD
  split
  · rename_i h
    simp
  · rename_i h
    refine ⟨by simp, fun h2 => ?_⟩
    exfalso
    obtain ⟨v, hv⟩ := Option.isSome_iff_exists.mp h2
    obtain ⟨e, he, e1, _⟩ := lookD_mem hv
    exact h (List.any_eq_true.mpr ⟨e, he, decide_eq_true e1⟩)
theorem putD_mem {es : List (PyData × PyData)} {k : Key} {d : PyData} {e : PyData × PyData} (h : e ∈ putD es k d) : e ∈ es ∨ (toKey e.1 = some k ∧ e.2 = d ∧ (e.1 = kD k ∨ ∃ e' ∈ es, e'.1 = e.1)) := by
  unfold putD at h
  split at h
  · obtain ⟨e', he, e1⟩ := List.mem_map.mp h
    split at e1
    · rename_i hk
      subst e1
      exact .inr ⟨hk, rfl, .inr ⟨e', he, rfl⟩⟩
    · subst e1
      exact .inl he
  · rcases List.mem_append.mp h with h | h
    · exact .inl h
    · cases List.mem_singleton.mp h
      exact .inr ⟨toKey_kD k, rfl, .inl rfl⟩
theorem TreeB.put {n B : Nat} {es : List (PyData × PyData)} (h : TreeB n B es) {ps : List (List Nat)} {d : PyData} (hr : Road ps) (hd : NodeB B d) :
    TreeB (n + 1) B (putD es (.inr (SX.S (pathL ps))) d) ∧ ((lookD es (.inr (SX.S (pathL ps)))).isSome = true → TreeB n B (putD es (.inr (SX.S (pathL ps))) d)) := by
  obtain ⟨h1, h2, h3⟩ := h
  have hl := putD_len (es := es) (k := .inr (SX.S (pathL ps))) (d := d)
  have hne : putD es (.inr (SX.S (pathL ps))) d ≠ [] := by
    unfold putD
    split
    · simpa using h1
    · simp
  have hall : ∀ e ∈ putD es (.inr (SX.S (pathL ps))) d, ∃ ps, Road ps ∧ e.1 = tx (pathL ps) ∧ NodeB B e.2 := fun e he => by
    rcases putD_mem he with he | ⟨e1, e2, e3⟩
    · exact h3 e he
    · refine ⟨ps, hr, ?_, by rw [e2]; exact hd⟩
      rcases e3 with e3 | ⟨e', he', e4⟩
      · exact e3
      · obtain ⟨qs, _, h5, _⟩ := h3 e' he'
        rw [e4] at h5
        rw [h5] at e1 ⊢
        injection e1 with e1
        injection e1 with e1
        exact congrArg PyData.str e1
  exact ⟨⟨hne, by omega, hall⟩, fun hs => ⟨hne, by rw [hl.2 hs]; exact h2, hall⟩⟩
end L2.DL

set_option maxRecDepth 100000
set_option maxHeartbeats 4000000
/-! DL23: plain deeds: what the defs of nodes, and the laws' helpers, tell of them. -/
namespace L2.DL
open PySem PySem.Spec
def lastL (a : List Nat) : List Nat := ((TL.spl [47] 0 [] a).getLast?).getD []
def isBoolD : PyData → Bool
  | .bool _ => true
  | _ => false
def countB : PyData → Bool
  | .none => true
  | d => wholeB d 0
def makeB (a : List Nat) (t o n : PyData) : Bool := ontx textB t && (isBoolD o && match n with
  | .bool true => wordB (lastL a)
  | .bool false => !decide (a = [47])
  | _ => false)
abbrev makeW : List Nat := [109, 97, 107, 101]
abbrev putW : List Nat := [112, 117, 116]
abbrev dropW : List Nat := [100, 114, 111, 112]
abbrev seeW : List Nat := [115, 101, 101]
def plainL (w a : List Nat) : List PyData → Bool
  | [t, o, n] => decide (w = makeW) && makeB a t o n
  | [t, c] => decide (w = putW) && (ontx textB t && countB c)
  | [c] => countB c && (decide (w = seeW) || (decide (w = dropW) && !decide (a = [47])))
  | _ => false
def plainB : PyData → Bool
  | .tuple (.str w :: .str p :: rest) => pathB p.cps.toList && plainL w.cps.toList p.cps.toList rest
  | _ => false
def smallB : PyData → Bool
  | .str z => decide (z.length ≤ 1000)
  | .list ds => ds.all flatD
  | .tuple ds => ds.all flatD
  | .dict _ => false
  | _ => true
def itemB : PyData → Bool
  | .tuple ds => ds.all smallB
  | _ => true
theorem small_few {d : PyData} (h : smallB d = true) : few d := fun z hz => by
  subst hz
  exact of_decide_eq_true h
def c_is_text : DC := fun svs Q => ∃ d, svs = [.dat d] ∧ few d ∧ Q (.fz (.bool (ontx textB d)))
theorem m_is_text : c_is_text.Mono := fun _ _ _ hq ⟨a, h1, h2, h3⟩ => ⟨a, h1, h2, hq _ h3⟩
def c__is_count : DC := fun svs Q => ∃ d, svs = [.dat d] ∧ Q (.fz (.bool (countB d)))
theorem m__is_count : c__is_count.Mono := fun _ _ _ hq ⟨a, h1, h2⟩ => ⟨a, h1, hq _ h2⟩
def c__is_make : DC := fun svs Q => ∃ a t o n, svs = [.dat (tx a), .dat t, .dat o, .dat n] ∧ a.length ≤ 1000 ∧ a.head? = some 47 ∧ few t ∧ Q (.fz (.bool (makeB a t o n)))
theorem m__is_make : c__is_make.Mono := fun _ _ _ hq ⟨a, t, o, n, h1, h2, h3, h4, h5⟩ => ⟨a, t, o, n, h1, h2, h3, h4, hq _ h5⟩
def c_is_plain : DC := fun svs Q => ∃ d, svs = [.dat d] ∧ itemB d = true ∧ Q (.fz (.bool (plainB d)))
theorem m_is_plain : c_is_plain.Mono := fun _ _ _ hq ⟨a, h1, h2, h3⟩ => ⟨a, h1, h2, hq _ h3⟩
def c__law_line : DC := fun svs Q => svs = [.pool] ∧ ∀ l, textB l = true → l.length ≤ 4 → Q (.fz (tx l))
theorem m__law_line : c__law_line.Mono := fun _ _ _ hq ⟨h1, h2⟩ => ⟨h1, fun w a b => hq _ (h2 w a b)⟩
def c__law_tree : DC := fun svs Q => ∃ n : Int, svs = [.pool, .dat (.int n)] ∧ 0 ≤ n ∧ n ≤ 60 ∧ ∀ es, TreeOk (n.toNat + 1) es → Q (.fz (.dict es))
theorem m__law_tree : c__law_tree.Mono := fun _ _ _ hq ⟨n, h1, h2, h3, h4⟩ => ⟨n, h1, h2, h3, fun es h => hq _ (h4 es h)⟩
def c__law_path : DC := fun svs Q => ∃ es n, svs = [.pool, .dat (.dict es), .dat (.int n)] ∧ TreeOk 63 es ∧ ∀ ps, Road ps → Q (.fz (tx (pathL ps)))
theorem m__law_path : c__law_path.Mono := fun _ _ _ hq ⟨es, n, h1, h2, h3⟩ => ⟨es, n, h1, h2, fun ps h => hq _ (h3 ps h)⟩
def c__law_count : DC := fun svs Q => ∃ es ps, svs = [.pool, .dat (.dict es), .dat (tx (pathL ps))] ∧ TreeOk 63 es ∧ ∀ d, countB d = true → flatD d = true → Q (.fz d)
theorem m__law_count : c__law_count.Mono := fun _ _ _ hq ⟨es, n, h1, h2, h3⟩ => ⟨es, n, h1, h2, fun ps h h' => hq _ (h3 ps h h')⟩
/-- a plain deed that is well said -/
def DeedOk (d : PyData) : Prop := ∃ w ps rest, d = .tuple (tx w :: tx (pathL ps) :: rest) ∧ Road ps ∧ plainL w (pathL ps) rest = true ∧ (∀ x ∈ rest, smallB x = true) ∧ 1 ≤ rest.length ∧ rest.length ≤ 3
def c__law_deed : DC := fun svs Q => ∃ es, svs = [.pool, .dat (.dict es)] ∧ TreeOk 63 es ∧ ∀ d, DeedOk d → Q (.fz d)
theorem m__law_deed : c__law_deed.Mono := fun _ _ _ hq ⟨es, h1, h2, h3⟩ => ⟨es, h1, h2, fun d h => hq _ (h3 d h)⟩
/-! facts -/
theorem gEq_i (n m : Int) : gEq (.int n) (.int m) = some (.fz (.bool (decide (n = m)))) := by
  show some (OV.fz (.bool (n == m))) = _
  congr 3
theorem gNe_i (n m : Int) : gNe (.int n) (.int m) = some (.fz (.bool (!decide (n = m)))) := by
  show some (OV.fz (.bool (!(n == m)))) = _
  congr 3
theorem cut2 (a b : PyData) (r : List PyData) : cutD (a :: b :: r) none (some 2) = [a, b] := by
  unfold cutD
  have e : HT.sIx (a :: b :: r).length (a :: b :: r).length (some 2) = 2 := by
    show min 2 (r.length + 2) = 2
    omega
  rw [e]
  rfl
theorem plainL_ne3 {a : List Nat} : ∀ {r : List PyData}, r.length ≠ 3 → plainL makeW a r = false
  | [], _ => rfl
  | [c], _ => by show (countB c && false) = false; cases countB c <;> rfl
  | [t, c], _ => rfl
  | [t, o, n], h => absurd rfl h
  | _ :: _ :: _ :: _ :: _, _ => rfl
theorem plainL_ne2 {a : List Nat} : ∀ {r : List PyData}, r.length ≠ 2 → plainL putW a r = false
  | [], _ => rfl
  | [c], _ => by show (countB c && false) = false; cases countB c <;> rfl
  | [t, c], h => absurd rfl h
  | [t, o, n], _ => rfl
  | _ :: _ :: _ :: _ :: _, _ => rfl
theorem plainL_ne1 {w a : List Nat} (h1 : w ≠ makeW) (h2 : w ≠ putW) : ∀ {r : List PyData}, r.length ≠ 1 → plainL w a r = false
  | [], _ => rfl
  | [c], h => absurd rfl h
  | [t, c], _ => by show (decide (w = putW) && _) = false; rw [decide_eq_false h2]; rfl
  | [t, o, n], _ => by show (decide (w = makeW) && _) = false; rw [decide_eq_false h1]; rfl
  | _ :: _ :: _ :: _ :: _, _ => rfl
theorem plainL_word {w a : List Nat} {r : List PyData} (h : plainL w a r = true) : w = makeW ∨ w = putW ∨ w = dropW ∨ w = seeW := by
  by_cases h1 : w = makeW
  · exact .inl h1
  by_cases h2 : w = putW
  · exact .inr (.inl h2)
  by_cases h3 : w = dropW
  · exact .inr (.inr (.inl h3))
  by_cases h4 : w = seeW
  · exact .inr (.inr (.inr h4))
  exfalso
  match r, h with
  | [t, o, n], h =>
    have h : (decide (w = makeW) && makeB a t o n) = true := h
    rw [decide_eq_false h1] at h
    cases h
  | [t, c], h =>
    have h : (decide (w = putW) && (ontx textB t && countB c)) = true := h
    rw [decide_eq_false h2] at h
    cases h
  | [c], h =>
    have h : (countB c && (decide (w = seeW) || (decide (w = dropW) && !decide (a = [47])))) = true := h
    rw [decide_eq_false h3, decide_eq_false h4] at h
    cases hc : countB c <;> rw [hc] at h <;> cases h
theorem path_head {a : List Nat} (h : pathB a = true) : a.head? = some 47 := by
  unfold pathB at h
  simp only [Bool.and_eq_true, decide_eq_true_eq] at h
  exact h.1.1
theorem last_head {a : List Nat} (h : a.head? = some 47) : ∃ p q, a = p ++ 47 :: q ∧ 47 ∉ q ∧ lastL a = q ∧ ∃ init, TL.spl [47] 0 [] a = init ++ [q] := by
  have : 47 ∈ a := by
    cases a with
    | nil => cases h
    | cons x l => injection h with h; subst h; simp
  obtain ⟨p, q, rfl, hq⟩ := last_of this
  obtain ⟨init, e⟩ := spl_last p q [] hq
  refine ⟨p, q, rfl, hq, ?_, init, e⟩
  unfold lastL
  rw [e]
  simp
/-- of a path that isn't the root the last part is a part -/
theorem last_part_of {a : List Nat} (h : pathB a = true) (hn : a ≠ [47]) : partB (lastL a) = true := by
  have hh := path_head h
  unfold pathB at h
  simp only [Bool.and_eq_true, List.all_eq_true] at h
  refine h.2 _ ?_
  unfold partsL
  rw [if_neg hn]
  obtain ⟨p, q, e, hq, hl, init, hi⟩ := last_head hh
  rw [hl]
  cases a with
  | nil => cases hh
  | cons x l =>
    injection hh with hx
    subst hx
    show q ∈ TL.spl [47] 0 [] l
    rw [spl_step, if_pos rfl] at hi
    cases init with
    | nil =>
      injection hi with _ z
      have := spl_count l []
      rw [z] at this
      cases this
    | cons y init =>
      injection hi with _ z
      rw [z]
      simp
theorem word_part {q : List Nat} (h : partB q = true) : wordB q = !decide (45 ∈ q) := by
  by_cases hd : 45 ∈ q
  · rw [decide_eq_true hd]
    cases hw : wordB q with
    | false => rfl
    | true => exact absurd hd (part_word hw).2.2
  · rw [decide_eq_false hd]
    unfold partB at h
    rw [par_no hd] at h
    exact h
theorem eqOk_small {d : PyData} (h : smallB d = true) : d.hasDict = false ∧ d.depth ≤ 1 := by
  cases d with
  | dict _ => cases h
  | list ds =>
    obtain ⟨h1, h2⟩ := flat_ok h
    exact ⟨h1, by simp only [PyData.depth, h2]; decide⟩
  | tuple ds =>
    obtain ⟨h1, h2⟩ := flat_ok h
    exact ⟨h1, by simp only [PyData.depth, h2]; decide⟩
  | _ => exact ⟨rfl, by simp [PyData.depth]⟩
theorem eqOk_smalls : ∀ {ds : List PyData}, ds.all smallB = true → PyData.hasDictAll ds = false ∧ PyData.depthAll ds ≤ 1
  | [], _ => ⟨rfl, Nat.zero_le _⟩
  | d :: l, h => by
    simp only [List.all_cons, Bool.and_eq_true] at h
    obtain ⟨h1, h2⟩ := eqOk_smalls h.2
    obtain ⟨h3, h4⟩ := eqOk_small h.1
    simp only [PyData.hasDictAll, PyData.depthAll, h1, h3]
    exact ⟨rfl, by omega⟩
theorem eqOk_sm {d : PyData} (h : smallB d = true) : eqOk d = true := by
  obtain ⟨h1, h2⟩ := eqOk_small h
  unfold eqOk
  rw [h1, decide_eq_true (by omega)]
  rfl
theorem eqOk_tup {ds : List PyData} (h : ds.all smallB = true) : eqOk (.tuple ds) = true := by
  obtain ⟨h1, h2⟩ := eqOk_smalls h
  have e1 : PyData.hasDict (.tuple ds) = false := h1
  have e2 : PyData.depth (.tuple ds) ≤ 64 := by simp only [PyData.depth]; omega
  unfold eqOk
  rw [e1, decide_eq_true e2]
  rfl
theorem gEq_tnil {ds : List PyData} (h : ds.all smallB = true) : gEq (.tuple ds) (.tuple []) = some (.fz (.bool ds.isEmpty)) := by
  unfold gEq
  rw [eqOk_tup h]
  cases ds <;> rfl
theorem any_words (w : List Nat) : ∀ ws : List (List Nat), ((ws.map tx).any fun z => PyData.eqv z (tx w)) = decide (w ∈ ws)
  | [] => by simp
  | x :: ws => by
    rw [List.map_cons, List.any_cons, any_words w ws, eqv_tx]
    by_cases h : x = w
    · simp [h]
    · simp [h, Ne.symm h]
theorem inW (neg : Bool) (ws : List (List Nat)) {a : PyData} (h : smallB a = true) : gInL neg a (.list (ws.map tx)) = some (.fz (.bool ((ontx (fun w => decide (w ∈ ws)) a) != neg))) := by
  show (if (eqOk a && eqOk (.list (ws.map tx))) = true then some (OV.fz (PyData.bool (((ws.map tx).any fun z => PyData.eqv z a) != neg))) else none) = _
  rw [eqOk_sm h, eqOk_ltx, if_pos (show (true && true) = true from rfl)]
  congr 4
  cases a with
  | str z =>
    rw [st_eq z, any_words]
    rfl
  | _ =>
    show _ = false
    rw [List.any_eq_false]
    intro x hx
    obtain ⟨l, _, rfl⟩ := List.mem_map.mp hx
    simp [PyData.eqv]
theorem btw_val {j lo hi c : Nat} {s : DSt} {Q : DK} (e : s[j]? = some (.dat (tx [c]))) (q : Q (.fz (.bool (btw lo hi c))) s) : eChain gLe gLe (eC (tx [lo])) (eNam j) (eC (tx [hi])) s Q := by
  refine nam_at (j := j) (Q := fun y s2 => ∃ k, gLe (tx [lo]) y.data = some (.fz (.bool k)) ∧ if k = true then ∃ o, gLe y.data (tx [hi]) = some o ∧ Q o s2 else Q (.fz (.bool false)) s2) e ?_
  refine ⟨_, gLe_1 _ _, ?_⟩
  unfold btw at q
  refine ifB (fun h1 => ⟨_, gLe_1 _ _, ?_⟩) fun h1 => ?_
  · rw [h1, Bool.true_and] at q
    exact q
  · rw [h1, Bool.false_and] at q
    exact q
/-- all of a text's signs are between -/
theorem all_btw {i j lo hi : Nat} {a : List Nat} {s : DSt} {Q : DK} (h : s[i]? = some (.dat (tx a))) (hj : j < s.length) (hl : a.length < sizeLine)
    (q : Q (.fz (.bool (a.all (btw lo hi)))) (s.set j .no)) :
    eBlt gAll (aCons (eComp (iText (eNam i)) (gN j) tYesD (eChain gLe gLe (eC (tx [lo])) (eNam j) (eC (tx [hi]))) [j]) aNil) s Q := by
  refine nam_at (j := i) (Q := fun o s' => ∃ x, o.data = .str x ∧ compW (gN j) tYesD (eChain gLe gLe (eC (tx [lo])) (eNam j) (eC (tx [hi]))) [j] (signsD x) [] (forgetAll [j] s') fun acc s2 => ∃ o, gAll [.list acc] = some o ∧ Q o s2) h ⟨_, rfl, ?_⟩
  show compW _ _ _ [j] (a.map fun c => tx [c]) [] _ _
  refine comp_inv (fun acc ds s' => s' = s.set j .no ∧ ∃ k, k ≤ a.length ∧ acc = (a.take k).map (fun c => .bool (btw lo hi c)) ∧ ds = (a.drop k).map fun c => tx [c]) ?_ ?_ _ _ _ ⟨rfl, 0, Nat.zero_le _, rfl, rfl⟩
  · rintro d ds acc _ ⟨rfl, k, hk, rfl, e⟩ R hR
    have hk2 : k < a.length := by
      rcases Nat.lt_or_ge k a.length with z | z
      · exact z
      · rw [List.drop_eq_nil_of_le z] at e
        cases e
    rw [List.drop_eq_getElem_cons hk2] at e
    injection e with e1 e2
    subst e1 e2
    have e3 : ((s.set j .no).set j (.dat (tx [a[k]])))[j]? = some (.dat (tx [a[k]])) := List.getElem?_set_self (by rw [List.length_set]; exact hj)
    refine ⟨by rw [List.length_set]; exact hj, btw_val e3 ⟨by rw [List.length_map, List.length_take]; omega, ?_⟩⟩
    have e2 : forgetAll [j] ((s.set j .no).set j (.dat (tx [a[k]]))) = s.set j .no := by
      show ((s.set j .no).set j (.dat (tx [a[k]]))).set j .no = _
      rw [List.set_set, List.set_set]
    rw [e2]
    refine hR _ _ ⟨rfl, k + 1, hk2, ?_, rfl⟩
    rw [List.take_succ_eq_append_getElem hk2, List.map_append]
    rfl
  · rintro acc _ ⟨rfl, k, hk, rfl, e⟩
    have : a.length ≤ k := by
      have := congrArg List.length e
      simp at this
      omega
    rw [List.take_of_length_le this]
    exact ⟨_, gAll_bl a _, q⟩
theorem gIx_above {ps : List (List Nat)} (h : Parts ps) : gIx (.list [tx (pathL ps), tx []]) (.int (if decide (pathL ps = [47]) = true then 1 else 0)) = some (.fz (tx (if ps = [] then [] else pathL ps))) := by
  by_cases hp : ps = []
  · subst hp
    rfl
  · rw [if_neg hp, decide_eq_false (fun z => hp ((pathL_ne h).mp z))]
    rfl
theorem above_len {ps : List (List Nat)} (h : Road ps) : (if ps = [] then [] else pathL ps).length ≤ 100 := by
  split
  · simp
  · exact path_len h.2 h.1
theorem gAdd_road {ps : List (List Nat)} {w : List Nat} (h : Road ps) (hw : w.length ≤ 15) : gAdd (tx ((if ps = [] then [] else pathL ps) ++ [47])) (tx w) = some (.fz (tx (pathL (ps ++ [w])))) := by
  have hz : (1002 : Nat) ≤ sizeLine := by decide
  rw [gAdd_tx (by have := above_len h; simp; omega), path_snoc]
  simp
theorem join_signs {w : List Nat} (h : w.length ≤ 1000) : gJoin (tx []) (.list (w.map fun c => tx [c])) = some (.fz (tx w)) := by
  have e : (w.map fun c => tx [c]) = (w.map fun c => [c]).map tx := by rw [List.map_map]; rfl
  have e2 : ∀ w : List Nat, TL.joinL [] (w.map fun c => [c]) = w := fun w => by
    induction w with
    | nil => rfl
    | cons x l ih =>
      cases l with
      | nil => rfl
      | cons y l =>
        show [x] ++ ([] ++ TL.joinL [] ((y :: l).map fun c => [c])) = _
        rw [ih]
        rfl
  have e3 : ∀ w : List Nat, (w.map ((fun x : List Nat => x.length) ∘ fun c => [c])).sum = w.length := fun w => by
    induction w with
    | nil => rfl
    | cons x l ih => rw [List.map_cons, List.sum_cons, ih, List.length_cons]; show 1 + _ = _; omega
  rw [e, gJoin_tx (a := []), e2]
  rw [List.map_map, e3]
  simp
  omega
theorem parts_count {a : List Nat} (h : a.head? = some 47) : a.count 47 = if a = [47] then 1 else (partsL a).length := by
  cases a with
  | nil => cases h
  | cons x l =>
    injection h with h
    subst h
    unfold partsL
    by_cases hl : l = []
    · subst hl
      rfl
    · have : ¬ 47 :: l = [47] := fun z => hl (by injection z)
      rw [if_neg this, if_neg this]
      show _ = (TL.spl [47] 0 [] l).length
      rw [spl_count, List.count_cons]
      simp
theorem parts_root : partsL [47] = [] := rfl
theorem gRep_parts {a : List Nat} (h : a.length ≤ 1000) (hh : decide (a.head? = some 47) = true) : gRep (.list ((TL.spl [47] 0 [] (a.drop (1 : Int).toNat)).map tx)) (.int (if (!decide (a = [47])) = true then 1 else 0)) = some (.lst ((partsL a).map tx)) := by
  have hz : (1002 : Nat) ≤ sizeLine := by decide
  by_cases ha : a = [47]
  · subst ha
    rfl
  · rw [decide_eq_false ha]
    show gRep _ (.int 1) = _
    have hl : (TL.spl [47] 0 [] (a.drop 1)).length ≤ 1001 := by
      rw [spl_count]
      have := List.count_le_length (a := 47) (l := a.drop 1)
      rw [List.length_drop] at this
      omega
    show (if -(2 ^ 62) ≤ (1 : Int) ∧ (1 : Int) < 2 ^ 62 ∧ _ * (1 : Int).toNat ≤ sizeLine then some (OV.lst (List.replicate (1 : Int).toNat ((TL.spl [47] 0 [] (a.drop 1)).map tx)).flatten) else none) = _
    rw [if_pos ⟨by decide, by decide, by rw [List.length_map]; exact Nat.le_trans (Nat.mul_le_mul_right 1 hl) (by omega)⟩]
    unfold partsL
    rw [if_neg ha]
    show some (OV.lst (List.replicate 1 _).flatten) = _
    simp
theorem gNe_nil {l : List PyData} (h : l.all flatD = true) : gNe (.list l) (.list []) = some (.fz (.bool (!l.isEmpty))) := by
  obtain ⟨h1, h2⟩ := flat_ok h
  have e1 : PyData.hasDict (.list l) = false := h1
  have e2 : PyData.depth (.list l) ≤ 64 := by simp only [PyData.depth, h2]; decide
  unfold gNe eqOk
  rw [e1, decide_eq_true e2]
  cases l <;> rfl
/-- [c for c in a if not p(c)] -/
theorem comp_sift {i j : Nat} {tt : DTT} {p : Nat → Bool} {a : List Nat} {s : DSt} {Q : DK} (h : s[i]? = some (.dat (tx a))) (hj : j < s.length) (hl : a.length ≤ sizeLine)
    (htt : ∀ (c : Nat) (s' : DSt) (K : Bool → DSt → Prop), s'[j]? = some (.dat (tx [c])) → K (!p c) s' → tt s' K)
    (q : ∀ acc : List PyData, acc.isEmpty = a.all p → acc.all flatD = true → Q (.lst acc) (s.set j .no)) : eComp (iText (eNam i)) (gN j) tt (eNam j) [j] s Q := by
  refine nam_at (j := i) (Q := fun o s' => ∃ x, o.data = .str x ∧ compW (gN j) tt (eNam j) [j] (signsD x) [] (forgetAll [j] s') fun acc s2 => Q (.lst acc) s2) h ⟨_, rfl, ?_⟩
  show compW _ _ _ [j] (a.map fun c => tx [c]) [] _ _
  refine sieve2 (I := fun s' => s' = s.set j .no) (ok := ontx fun l => l.all p) (by rw [List.length_map]; exact hl) ?_ (fun s' hs' => by rw [hs']; exact q _ (sift p a) (sift_flat p a)) _ rfl
  rintro d _ hd rfl acc R hacc hR
  obtain ⟨c, _, rfl⟩ := List.mem_map.mp hd
  have e : ((s.set j .no).set j (.dat (tx [c])))[j]? = some (.dat (tx [c])) := List.getElem?_set_self (by rw [List.length_set]; exact hj)
  have e2 : forgetAll [j] ((s.set j .no).set j (.dat (tx [c]))) = s.set j .no := by
    show ((s.set j .no).set j (.dat (tx [c]))).set j .no = _
    rw [List.set_set, List.set_set]
  have ho : ontx (fun l => l.all p) (tx [c]) = p c := by simp [ontx]
  have hR' := hR _ rfl
  rw [ho] at hR'
  refine ⟨by rw [List.length_set]; exact hj, htt c _ _ e ?_⟩
  refine ifB (fun h => nam_at (j := j) (Q := fun o s3 => acc.length < sizeLine ∧ R (acc ++ [o.data]) (forgetAll [j] s3)) e ⟨hacc, ?_⟩) fun h => ?_
  · rw [e2]
    rw [if_pos h] at hR'
    exact hR'
  · rw [e2]
    rw [if_neg (by rw [h]; decide), List.append_nil] at hR'
    exact hR'
theorem notin_test {j c : Nat} {b : List Nat} {s : DSt} {K : Bool → DSt → Prop} (e : s[j]? = some (.dat (tx [c]))) (q : K (!decide (c ∈ b)) s) : eB (eBin gNotInS (eNam j) (eC (tx b))) s K :=
  nam_at (j := j) (Q := fun x s1 => ∃ o, gNotInS x.data (tx b) = some o ∧ ∃ k, o.data = .bool k ∧ K k s1) e ⟨_, gNotIn_tx c b, _, rfl, q⟩
theorem gIx_nth {ds : List PyData} {k : Nat} {d : PyData} (h : ds[k]? = some d) : gIx (.tuple ds) (.int k) = some (.fz d) := by
  have hk : k < ds.length := by
    rcases Nat.lt_or_ge k ds.length with z | z
    · exact z
    · rw [List.getElem?_eq_none z] at h
      cases h
  show (atI ds k).map OV.fz = _
  unfold atI ixN
  rw [if_pos (by omega), if_pos (by omega)]
  show (ds[((k : Int)).toNat]?).map OV.fz = _
  rw [Int.toNat_natCast, h]
  rfl
theorem makeB_root (t o n : PyData) : makeB [47] t o n = false := by
  unfold makeB
  cases ontx textB t <;> cases isBoolD o <;> first | rfl | skip
  cases n with
  | bool b => cases b <;> rfl
  | _ => rfl
theorem sm_tx {l : List Nat} (h : l.length ≤ 1000) : smallB (tx l) = true := by show decide ((SX.S l).length ≤ 1000) = true; rw [len_S]; exact decide_eq_true h
theorem cutD_sub {ds : List PyData} {lo hi : Option Int} : (cutD ds lo hi).length ≤ ds.length ∧ ∀ x ∈ cutD ds lo hi, x ∈ ds := by
  unfold cutD
  refine ⟨by rw [List.length_take, List.length_drop]; omega, fun x hx => List.mem_of_mem_drop (List.mem_of_mem_take hx)⟩
theorem cutD_small {ds : List PyData} {lo hi : Option Int} (h : ds.all smallB = true) : (cutD ds lo hi).all smallB = true :=
  List.all_eq_true.mpr fun x hx => List.all_eq_true.mp h x (cutD_sub.2 x hx)
theorem gNe_strs (z : Str) : gNe (.str z) (.str z) = some (.fz (.bool false)) := by rw [st_eq z]; exact gNe_same1 _
theorem path_tx {ps : List (List Nat)} (h : Road ps) : pathB (pathL ps) = true := path_ok h.2 h.1
theorem DeedOk.plain {d : PyData} (h : DeedOk d) : ∃ G, d = .tuple G ∧ 3 ≤ G.length ∧ G.length ≤ 5 ∧ G.all smallB = true ∧ plainB d = true := by
  obtain ⟨w, ps, rest, rfl, hr, hp, hs, h1, h3⟩ := h
  have hw : w.length ≤ 1000 := by
    rcases plainL_word hp with rfl | rfl | rfl | rfl <;> decide
  refine ⟨_, rfl, by simp; omega, by simp; omega, ?_, ?_⟩
  · rw [List.all_cons, List.all_cons, sm_tx hw, sm_tx (Nat.le_trans (path_len hr.2 hr.1) (by decide))]
    simp only [Bool.true_and, List.all_eq_true]
    exact hs
  · show (pathB (pathL ps) && plainL w (pathL ps) rest) = true
    rw [path_tx hr, hp]
    rfl
end L2.DL

set_option maxRecDepth 100000
set_option maxHeartbeats 4000000
/-! DL24a: what repr writes fits. -/
namespace L2.DL
open PySem PySem.Spec
/-! ### what repr writes of plain data: how long it is at most, and that it is a text -/
def Fit (z : Str) (n : Nat) : Prop := z.length ≤ n ∧ sok z = true
theorem Fit.app {a b : Str} {n m : Nat} (h1 : Fit a n) (h2 : Fit b m) : Fit (a ++ b) (n + m) := ⟨by rw [strLen_append]; have := h1.1; have := h2.1; omega, sok_app h1.2 h2.2⟩
theorem Fit.le {a : Str} {n m : Nat} (h1 : Fit a n) (h : n ≤ m) : Fit a m := ⟨Nat.le_trans h1.1 h, h1.2⟩
mutual
def wt : PyData → Nat
  | .none => 4
  | .bool _ => 5
  | .int i => (PyData.shown (.int i)).length
  | .str x => 10 * x.length + 2
  | .list xs => 4 + wtA xs
  | .tuple xs => 4 + wtA xs
  | .dict kvs => 2 + wtK kvs
def wtA : List PyData → Nat
  | [] => 0
  | x :: xs => wt x + 2 + wtA xs
def wtK : List (PyData × PyData) → Nat
  | [] => 0
  | (k, v) :: r => wt k + 2 + wt v + 2 + wtK r
end
mutual
def asc : PyData → Bool
  | .str x => x.cps.toList.all (btw 32 126)
  | .list xs => ascA xs
  | .tuple xs => ascA xs
  | .dict kvs => ascK kvs
  | _ => true
def ascA : List PyData → Bool
  | [] => true
  | x :: xs => asc x && ascA xs
def ascK : List (PyData × PyData) → Bool
  | [] => true
  | (k, v) :: r => asc k && asc v && ascK r
end
theorem fit_join : ∀ {ts : List Str} {n : Nat}, (∀ t ∈ ts, sok t = true) → (ts.map (·.length + 2)).sum ≤ n → Fit (Str.join ", " ts) n
  | [], n, _, _ => ⟨Nat.zero_le _, by decide +kernel⟩
  | [x], n, h, hl => ⟨by simp at hl; show x.length ≤ n; omega, h x (by simp)⟩
  | x :: y :: r, n, h, hl => by
    have ih := fit_join (ts := y :: r) (n := ((y :: r).map (·.length + 2)).sum) (fun t ht => h t (by simp [ht])) (Nat.le_refl _)
    have e : Fit (x ++ ", ") (x.length + 2) := Fit.app ⟨Nat.le_refl _, h x (by simp)⟩ (show Fit ", " 2 from ⟨by decide, by decide +kernel⟩)
    refine (Fit.app e ih).le ?_
    rw [List.map_cons, List.sum_cons] at hl
    exact hl
theorem fit_from : ∀ {ts : List Str} {k : Nat} {acc : Str} {n : Nat}, Fit acc n → (∀ t ∈ ts, sok t = true) → Fit (textFrom k acc ts) (n + (ts.map (·.length + 2)).sum)
  | [], k, acc, n, ha, _ => by simpa [textFrom] using ha
  | t :: r, k, acc, n, ha, h => by
    have e : Fit (if k > 0 then (", " : String) else "" : String) 2 := by
      split
      · exact ⟨by decide, by decide +kernel⟩
      · exact ⟨by decide, by decide +kernel⟩
    have e2 : Fit (acc ++ (if k > 0 then ", " else "" : String) ++ t) (n + 2 + t.length) := Fit.app (Fit.app ha e) ⟨Nat.le_refl _, h t (by simp)⟩
    have ih := fit_from (ts := r) (k := k + 1) e2 fun t ht => h t (by simp [ht])
    refine Fit.le ih ?_
    rw [List.map_cons, List.sum_cons]
    omega
theorem fold_mem (f : Nat → List Nat) : ∀ (l : List Nat) (acc : Array Nat) (c : Nat), c ∈ l.foldl (fun out d => out ++ (f d).toArray) acc → c ∈ acc ∨ ∃ d ∈ l, c ∈ f d
  | [], acc, c, h => .inl h
  | x :: l, acc, c, h => by
    rw [List.foldl_cons] at h
    rcases fold_mem f l _ c h with h | ⟨d, hd, h⟩
    · rcases Array.mem_append.mp h with h | h
      · exact .inl h
      · exact .inr ⟨x, by simp, by simpa using h⟩
    · exact .inr ⟨d, by simp [hd], h⟩
theorem char_ok : ∀ c : Fin 127, ([34, 39].all fun q => (Builtin.Str.reprChar q c.val).all fun d => decide (d < 0x110000)) = true := by decide +kernel
theorem fit_str {x : Str} (h : x.cps.toList.all (btw 32 126) = true) : Fit (reprText x) (10 * x.length + 2) := by
  have hb : ∀ c ∈ x.cps.toList, c < 127 := fun c hc => by
    have := List.all_eq_true.mp h c hc
    unfold btw at this
    simp only [Bool.and_eq_true, decide_eq_true_eq] at this
    omega
  refine ⟨StrLaws.reprText_len x fun c hc => Nat.lt_of_lt_of_le (hb c hc) (by decide), sok_iff.mpr fun c hc => ?_⟩
  have hq : reprQuote x = 34 ∨ reprQuote x = 39 := by
    unfold reprQuote
    split
    · exact .inl rfl
    · exact .inr rfl
  have hc : c ∈ ((x.cps.foldl (fun out c => out ++ (Builtin.Str.reprChar (reprQuote x) c).toArray) #[reprQuote x]).push (reprQuote x)) := Array.mem_toList_iff.mp hc
  have q1 : reprQuote x < 0x110000 := by rcases hq with h | h <;> rw [h] <;> decide
  rcases Array.mem_push.mp hc with h1 | h1
  · rw [← Array.foldl_toList] at h1
    rcases fold_mem _ _ _ _ h1 with h2 | ⟨d, hd, h2⟩
    · simp at h2
      rw [h2]
      exact q1
    · have := char_ok ⟨d, hb d hd⟩
      simp only [List.all_cons, List.all_nil, Bool.and_true, Bool.and_eq_true, List.all_eq_true, decide_eq_true_eq] at this
      rcases hq with h | h
      · rw [h] at h2
        exact this.1 c h2
      · rw [h] at h2
        exact this.2 c h2
  · rw [h1]
    exact q1
mutual
theorem fit : ∀ {d : PyData}, asc d = true → Fit (PyData.shown d) (wt d)
  | .none, _ => ⟨by decide, by decide +kernel⟩
  | .bool b, _ => by cases b <;> exact ⟨by decide, by decide +kernel⟩
  | .int i, _ => ⟨Nat.le_refl _, sok_num i⟩
  | .str x, h => by
    rw [PyData.shown]
    exact fit_str h
  | .list xs, h => by
    obtain ⟨h1, h2⟩ := fitA (xs := xs) h
    rw [PyData.shown, wt]
    unfold listText
    exact ((fit_from (k := 0) (acc := "[") (n := 1) ⟨by decide, by decide +kernel⟩ h1).app (show Fit "]" 1 from ⟨by decide, by decide +kernel⟩)).le (by omega)
  | .tuple xs, h => by
    obtain ⟨h1, h2⟩ := fitA (xs := xs) h
    rw [PyData.shown, wt]
    unfold tupleText
    have e : Fit (if (PyData.shownAll xs).length == 1 then ",)" else ")" : String) 2 := by
      split
      · exact ⟨by decide, by decide +kernel⟩
      · exact ⟨by decide, by decide +kernel⟩
    exact (((show Fit "(" 1 from ⟨by decide, by decide +kernel⟩).app (fit_join h1 h2)).app e).le (by omega)
  | .dict kvs, h => by
    obtain ⟨h1, h2⟩ := fitK (kvs := kvs) h
    rw [PyData.shown, wt]
    unfold dictText
    exact (((show Fit "{" 1 from ⟨by decide, by decide +kernel⟩).app (fit_join h1 h2)).app (show Fit "}" 1 from ⟨by decide, by decide +kernel⟩)).le (by omega)
theorem fitA : ∀ {xs : List PyData}, ascA xs = true → (∀ t ∈ PyData.shownAll xs, sok t = true) ∧ ((PyData.shownAll xs).map (·.length + 2)).sum ≤ wtA xs
  | [], _ => ⟨by simp [PyData.shownAll], by simp [PyData.shownAll, wtA]⟩
  | x :: xs, h => by
    have h : (asc x && ascA xs) = true := by simpa [ascA] using h
    rw [Bool.and_eq_true] at h
    have h1 := fit (d := x) h.1
    obtain ⟨h2, h3⟩ := fitA (xs := xs) h.2
    rw [PyData.shownAll, wtA]
    refine ⟨fun t ht => ?_, ?_⟩
    · rcases List.mem_cons.mp ht with z | z
      · rw [z]; exact h1.2
      · exact h2 t z
    · have := h1.1
      rw [List.map_cons, List.sum_cons]
      omega
theorem fitK : ∀ {kvs : List (PyData × PyData)}, ascK kvs = true → (∀ t ∈ PyData.shownKv kvs, sok t = true) ∧ ((PyData.shownKv kvs).map (·.length + 2)).sum ≤ wtK kvs
  | [], _ => ⟨by simp [PyData.shownKv], by simp [PyData.shownKv, wtK]⟩
  | (k, v) :: r, h => by
    have h : (asc k && asc v && ascK r) = true := by simpa [ascK] using h
    rw [Bool.and_eq_true, Bool.and_eq_true] at h
    have h1 := fit (d := k) h.1.1
    have h2 := fit (d := v) h.1.2
    obtain ⟨h3, h4⟩ := fitK (kvs := r) h.2
    have h5 := (h1.app (show Fit ": " 2 from ⟨by decide, by decide +kernel⟩)).app h2
    rw [PyData.shownKv, wtK]
    refine ⟨fun t ht => ?_, ?_⟩
    · rcases List.mem_cons.mp ht with z | z
      · rw [z]; exact h5.2
      · exact h3 t z
    · have := h5.1
      rw [List.map_cons, List.sum_cons]
      omega
end
end L2.DL

set_option maxRecDepth 100000
set_option maxHeartbeats 4000000
/-! DL24: dicts of plain data: repr, == and != by their worths; repr of None. -/
namespace L2.DL
open PySem PySem.Spec PyProof.Rows
section
variable {X : Cx} {pins : List (Addr × Obj)} {σ : L2.St} {Z H : Hp} {s : Shared}
theorem rp_reads (I : Inv X pins σ H s) (zh : Same Z H) {v : V} {d : PyData} {u : Value} (p : Rp X.K Z v d) (n : d.hasDict = false) (r : RelV v u) : ∃ as, Reads s.heap u d as := Dp.reads I d v u (p.dp zh n).1 r
theorem rpK_reads (I : Inv X pins σ H s) (zh : Same Z H) : ∀ {ks : List (Key × V)} {es : List (PyData × PyData)} {vs : List (Key × Value)} {dd : List DictEntry}, RpK X.K Z ks es → KV ks vs → Pairs (mixKind X.prog X.w) dd vs →
    PyData.hasDictAll (es.map (·.2)) = false → (∃ as bs, ReadsAll s.heap (dd.map (·.key)) (es.map (·.1)) as ∧ ReadsAll s.heap (dd.map (·.val)) (es.map (·.2)) bs) ∧ PyData.hasDictAll (es.map (·.1)) = false
  | _, _, _, _, .nil, kv, ps, _ => by
    cases kv
    cases ps
    exact ⟨⟨[], [], .nil, .nil⟩, rfl⟩
  | _, _, _, _, .cons (k := k) (v := v) (d := d) ok p r, kv, ps, n => by
    cases kv with
    | cons h1 h2 =>
      rename_i q qs
      cases ps with
      | cons g1 g2 g3 =>
        rename_i e es'
        obtain ⟨e1, rv⟩ := h1
        have n' : (d.hasDict || PyData.hasDictAll _) = false := n
        rw [Bool.or_eq_false_iff] at n'
        obtain ⟨⟨as, bs, ra, rb⟩, n2⟩ := rpK_reads I zh r h2 g3 n'.2
        obtain ⟨cs, rc⟩ := rp_reads I zh p n'.1 rv
        have g1 : keyIs q.1 e.key = true := g1
        have hk : (∃ ds, Reads s.heap e.key (kD k) ds) ∧ (kD k).hasDict = false := by
          rw [← (show k = q.1 from e1)] at g1
          rcases keyIs_shape g1 with ⟨i, t, e2, e3⟩ | ⟨x, t, e2, e3⟩
          · subst e2
            rw [e3]
            exact ⟨⟨_, Reads.int i t⟩, rfl⟩
          · subst e2
            rw [e3]
            exact ⟨⟨_, Reads.str x t⟩, rfl⟩
        obtain ⟨⟨ds, rd⟩, n3⟩ := hk
        have rc' : Reads s.heap e.val d cs := by rw [g2]; exact rc
        refine ⟨⟨_, _, ReadsAll.cons rd ra, ReadsAll.cons rc' rb⟩, ?_⟩
        show ((kD k).hasDict || PyData.hasDictAll _) = false
        rw [n3, n2]
        rfl
def shOk (es : List (PyData × PyData)) : Bool := !PyData.hasDictAll (es.map (·.2)) && PyData.showable (.dict es) && decide (PyData.depth (.dict es) ≤ 60) && decide ((PyData.shown (.dict es)).length ≤ sizeLine) && sok (PyData.shown (.dict es))
def rReprK (K : PySem.W.Frag) : List V → Hp → VK → Prop := fun xs H Q => ∃ a es Z, xs = [.ref a] ∧ Same Z H ∧ Rp K Z (.ref a) (.dict es) ∧ shOk es = true ∧ Q (.str (PyData.shown (.dict es))) H
theorem cr_reprK (hg : X.A.guards = some []) (hu : X.A.units + 64 < cLine) : CallR X (.builtin "repr") (rReprK X.K) := by
  rintro pins s σ H xs us Q I rs ⟨a, es, Z, rfl, zh, p, ok, q⟩
  cases rs with
  | cons r1 rs =>
    cases rs
    cases r1
    cases p with
    | dct hr rr =>
      unfold shOk at ok
      simp only [Bool.and_eq_true, Bool.not_eq_true', decide_eq_true_eq] at ok
      obtain ⟨⟨⟨⟨n, sh⟩, dp⟩, lz⟩, -⟩ := ok
      obtain ⟨_, low, vs, kv, o, dd, ep, at1, ex, at2, _, ps, _⟩ := dk_rd I.hok (DL.Le.of zh _ _ hr)
      obtain ⟨⟨as, bs, ra, rb⟩, nk⟩ := rpK_reads I zh rr kv ps n
      have cls : o.cls = .type "dict" := ex.1
      have lz' : (dictText (PyData.shownKv es)).length ≤ sizeLine := by simpa only [PyData.shown] using lz
      obtain ⟨sh1, sh2⟩ := PyData.showableKv_split es (by simpa [PyData.showable] using sh)
      have vac : ∀ {ds : List PyData} {cs : List Addr}, PyData.hasDictAll ds = false → PyData.hasDictAll ds = true → sysModules ∉ cs := fun h1 h2 => by rw [h1] at h2; cases h2
      obtain ⟨b1, m1, k1⟩ := ReprAllK.of_readsAll (prog := X.prog) (w := X.w) ra sh1 (vac nk) fun t ht => by
        obtain ⟨z, hz, l⟩ := PyData.shownKv_key_le es t ht
        have := dictText_mem_le hz
        omega
      obtain ⟨b2, m2, k2⟩ := ReprAllK.of_readsAll (prog := X.prog) (w := X.w) rb sh2 (vac n) fun t ht => by
        obtain ⟨z, hz, l⟩ := PyData.shownKv_val_le es t ht
        have := dictText_mem_le hz
        omega
      have low1 := PyData.depthAll_keys_le es
      have low2 := PyData.depthAll_vals_le es
      have apart : a ∉ b1 ++ b2 := not_mem_of_deeper (.dict at1 cls at2 ra rb) (by simp only [PyData.depth]; omega) ((m1.mono low1).append (m2.mono low2))
      have ents := ReprEntriesK.of_two dd.toList _ _ (k1.more_le (fun b hb => List.mem_append_left b2 hb) low1) (k2.more_le (fun b hb => List.mem_append_right b1 hb) low2)
      simp only [PyData.depth] at dp
      refine call_repr_slot (by omega) ⟨o, at1, cls⟩ F.slot_dict_repr (call_dict_reprK at1 cls at2 low apart ents hg (fun b _ => Clear.nil b) (by show X.A.units + 1 + _ < cLine; omega) (fun _ _ e => e) (fun h' u tk hk => ⟨_, _, rfl, ?_⟩) (by rw [← PyData.shownKv_eq]; exact lz'))
      have := q
      simp only [PyData.shown, PyData.shownKv_eq] at this
      exact ⟨.str _, H, I.kept hk, ⟨u, rfl⟩, this⟩
/-- repr of None -/
def rReprN : List V → Hp → VK → Prop := fun xs H Q => xs = [.non] ∧ Q (.str "None") H
theorem cr_reprN : CallR X (.builtin "repr") rReprN := by
  rintro pins s σ H xs us Q I rs ⟨rfl, q⟩
  cases rs with
  | cons r1 rs =>
    cases rs
    cases (show _ = Value.none from r1)
    exact PySem.P.repr_of_none ⟨.str "None", H, I.tok _, ⟨_, rfl⟩, q⟩
def gReprA : List PyData → Option OV
  | [.none] => some (.fz (.str "None"))
  | [.dict es] => if shOk es = true then some (.fz (.str (PyData.shown (.dict es)))) else none
  | ds => gReprX ds
theorem cd_reprA : CallD X (fun xs H Q => rReprN xs H Q ∨ rReprK X.K xs H Q ∨ rReprB xs H Q ∨ rReprD X.K xs H Q) gReprA := fun {f Z fp s σ H vs ds o Q} r p e t => by
  unfold gReprA at e
  split at e
  · cases e
    cases p with
    | cons p p' =>
      cases p'
      cases p
      exact .inl ⟨rfl, t.flat r (.str _ (by decide +kernel))⟩
  · rename_i es
    obtain ⟨hc, rfl⟩ := some_if e
    cases p with
    | cons p p' =>
      cases p'
      have p0 := p
      cases p with
      | dct hr rr =>
        refine .inr (.inl ⟨_, es, Z, rfl, r.zh, p0, hc, t.flat r (.str _ ?_)⟩)
        unfold shOk at hc
        simp only [Bool.and_eq_true] at hc
        exact hc.2
  · exact .inr (.inr (cd_reprX r p e t))
/-! ### == and != of dicts, whatever the order of their keys -/
def oneEq (ls : List (PyData × PyData)) (kk : Option Key) (d : PyData) : Bool := match kk with
  | some k => (match lookD ls k with
    | some d' => PyData.eqv d d'
    | none => false)
  | none => false
theorem oneEq_no {ls : List (PyData × PyData)} {k : Key} {d : PyData} (h : lookD ls k = none) : oneEq ls (some k) d = false := by simp [oneEq, h]
theorem oneEq_yes {ls : List (PyData × PyData)} {k : Key} {d d' : PyData} (h : lookD ls k = some d') : oneEq ls (some k) d = PyData.eqv d d' := by simp [oneEq, h]
def eqvK (es ls : List (PyData × PyData)) : Bool := decide (es.length = ls.length) && es.all fun e => oneEq ls (toKey e.1) e.2
def rEqK (K : PySem.W.Frag) (neg : Bool) : R2 := fun x y H Q => ∃ a b es ls Z, x = .ref a ∧ y = .ref b ∧ Same Z H ∧ Rp K Z (.ref a) (.dict es) ∧ Rp K Z (.ref b) (.dict ls) ∧ (es.all fun e => eqOk e.2) = true ∧ (ls.all fun e => eqOk e.2) = true ∧ ∃ g, (g = eqvK es ls ∨ (es = ls ∧ g = true)) ∧ Q (.bl (g != neg)) H
theorem shaped_of {K : PySem.W.Frag} {v : V} {d : PyData} (zh : Same Z H) (p : Rp K Z v d) (h : eqOk d = true) : Dp K H v d ∧ SeqAt.shaped d = true ∧ d.hasDict = false := by
  unfold eqOk at h
  simp only [Bool.and_eq_true, Bool.not_eq_true', decide_eq_true_eq] at h
  obtain ⟨h1, h2⟩ := p.dp zh h.1
  refine ⟨h1, ?_, h.1⟩
  unfold SeqAt.shaped
  rw [h2, decide_eq_true h.2]
  rfl
theorem hits_of (I : Inv X pins σ H s) (zh : Same Z H) (hu : X.A.units + 65 < cLine) {ls : List (PyData × PyData)} {kl : List (Key × V)} {vl : List (Key × Value)} (rl : RpK X.K Z kl ls) (kvl : KV kl vl) (okl : (ls.all fun e => eqOk e.2) = true) :
    ∀ {es : List (PyData × PyData)} {ks : List (Key × V)} {vs : List (Key × Value)}, RpK X.K Z ks es → KV ks vs → (es.all fun e => eqOk e.2) = true →
      PySem.W.KeqHits X.A.in1 s vl vs (es.all fun e => oneEq ls (toKey e.1) e.2)
  | _, _, _, .nil, kv, _ => by
    cases kv
    exact .nil
  | _, _, _, .cons (k := k) (v := v) (d := d) (es := es) ok p r, kv, h => by
    cases kv with
    | cons h1 h2 =>
      rename_i q qs
      obtain ⟨k', u⟩ := q
      obtain ⟨e1, rv⟩ := h1
      have e1 : k = k' := e1
      subst e1
      rw [List.all_cons, Bool.and_eq_true] at h
      obtain ⟨hd, sd, nd⟩ := shaped_of zh p h.1
      have ih := hits_of I zh hu rl kvl okl r h2 h.2
      rw [List.all_cons]
      show PySem.W.KeqHits X.A.in1 s vl ((k, u) :: qs) (oneEq ls (toKey (kD k)) d && _)
      rw [toKey_kD]
      obtain ⟨l1, l2⟩ := rl.look k
      have rr := kvl.val k
      cases hl : lookD ls k with
      | none =>
        rw [l2 hl] at rr
        rw [oneEq_no hl, Bool.false_and]
        refine .miss ?_
        cases hv : valueAt vl k with
        | none => rfl
        | some y =>
          rw [hv] at rr
          exact (show False from rr).elim
      | some d' =>
        obtain ⟨v', e2, p'⟩ := l1 d' hl
        rw [e2] at rr
        obtain ⟨y, hy, ry⟩ := rr.some_of
        obtain ⟨e, he, _, e4⟩ := lookD_mem hl
        have okd : eqOk d' = true := by
          rw [← e4]
          exact List.all_eq_true.mp okl e he
        obtain ⟨hd', sd', nd'⟩ := shaped_of zh p' okd
        obtain ⟨as, ra⟩ := Dp.reads I d v u hd rv
        obtain ⟨bs, rb⟩ := Dp.reads I d' v' y hd' ry
        rw [oneEq_yes hl]
        exact .hit hy (PySem.W.keq_at ra rb sd sd' (by show X.A.units + 1 + 64 < cLine; omega)) ih
theorem rpK_len {K : PySem.W.Frag} : ∀ {ks : List (Key × V)} {es : List (PyData × PyData)}, RpK K Z ks es → ks.length = es.length
  | _, _, .nil => rfl
  | _, _, .cons _ _ r => by rw [List.length_cons, List.length_cons, rpK_len r]
theorem self_look {K : PySem.W.Frag} : ∀ {ks : List (Key × V)} {es : List (PyData × PyData)}, RpK K Z ks es → (ks.map (·.1)).Nodup → ∀ e ∈ es, ∃ k, toKey e.1 = some k ∧ k ∈ ks.map (·.1) ∧ lookD es k = some e.2
  | _, _, .nil, _, e, h => by cases h
  | _, _, .cons (k := k) (v := v) (d := d) (es := es) ok p r, n, e, h => by
    rw [List.map_cons, List.nodup_cons] at n
    rcases List.mem_cons.mp h with rfl | h
    · exact ⟨k, toKey_kD k, by simp, lookD_pos (toKey_kD k)⟩
    · obtain ⟨k', h1, h2, h3⟩ := self_look r n.2 e h
      refine ⟨k', h1, by simp [h2], ?_⟩
      rw [lookD_neg fun z => ?_]
      · exact h3
      · have z : toKey (kD k) = some k' := z
        rw [toKey_kD] at z
        cases z
        exact n.1 h2
theorem eqvK_self {K : PySem.W.Frag} {ks : List (Key × V)} {es : List (PyData × PyData)} (zh : Same Z H) (r : RpK K Z ks es) (n : (ks.map (·.1)).Nodup) (o : (es.all fun e => eqOk e.2) = true) : eqvK es es = true := by
  unfold eqvK
  rw [decide_eq_true rfl, Bool.true_and, List.all_eq_true]
  intro e he
  obtain ⟨k0, h1, h2, h3⟩ := self_look r n e he
  rw [h1, oneEq_yes h3]
  have hp : ∃ v, Rp K Z v e.2 := by
    clear h1 h2 h3 n o
    induction es generalizing ks with
    | nil => cases he
    | cons x es ih =>
      cases r with
      | cons ok p r =>
        rcases List.mem_cons.mp he with rfl | he
        · exact ⟨_, p⟩
        · exact ih r he
  obtain ⟨v, p⟩ := hp
  obtain ⟨_, h4, _⟩ := shaped_of zh p (List.all_eq_true.mp o e he)
  exact SeqAt.eqv_refl _ (SeqAt.canLay_of_shaped h4)
theorem op_eqK (hu : X.A.units + 65 < cLine) : OpR X (compareOp .Eq) (rEqK X.K false) := by
  rintro pins s σ H x y v u Q I rx ry ⟨a, b, es, ls, Z, rfl, rfl, zh, p1, p2, o1, o2, g, hg, q⟩
  obtain rfl : v = Value.ref a := rx
  obtain rfl : u = Value.ref b := ry
  cases p1 with
  | dct ha r1 =>
    cases p2 with
    | dct hb r2 =>
      obtain ⟨_, la, va, kva, da⟩ := dk_rd I.hok (DL.Le.of zh _ _ ha)
      obtain ⟨_, lb, vb, kvb, db⟩ := dk_rd I.hok (DL.Le.of zh _ _ hb)
      have hg : g = eqvK es ls := by
        rcases hg with hg | ⟨rfl, rfl⟩
        · exact hg
        · obtain ⟨_, _, _, _, _, _, _, _, nd⟩ := da
          refine (eqvK_self zh r1 ?_ o1).symm
          have e : ∀ {ks : List (Key × V)} {vs : List (Key × Value)}, KV ks vs → ks.map (·.1) = vs.map (·.1) := fun h => by
            induction h with
            | nil => rfl
            | cons h _ ih => rw [List.map_cons, List.map_cons, ih, h.1]
          rw [e kva]
          exact nd
      subst hg
      refine PySem.W.keq_eq (knd := mixKind X.prog X.w) la lb da db (by omega) (fun _ => hits_of I zh hu r2 kvb o2 r1 kva o1) (fin_bl I q ?_)
      rw [Bool.bne_false]
      unfold eqvK
      congr 1
      rw [show va.length = es.length from (Paired.length kva).symm.trans (rpK_len r1), show vb.length = ls.length from (Paired.length kvb).symm.trans (rpK_len r2)]
      rfl
theorem op_neK (hu : X.A.units + 65 < cLine) : OpR X (compareOp .NotEq) (rEqK X.K true) := by
  rintro pins s σ H x y v u Q I rx ry ⟨a, b, es, ls, Z, rfl, rfl, zh, p1, p2, o1, o2, g, hg, q⟩
  obtain rfl : v = Value.ref a := rx
  obtain rfl : u = Value.ref b := ry
  cases p1 with
  | dct ha r1 =>
    cases p2 with
    | dct hb r2 =>
      obtain ⟨_, la, va, kva, da⟩ := dk_rd I.hok (DL.Le.of zh _ _ ha)
      obtain ⟨_, lb, vb, kvb, db⟩ := dk_rd I.hok (DL.Le.of zh _ _ hb)
      have hg : g = eqvK es ls := by
        rcases hg with hg | ⟨rfl, rfl⟩
        · exact hg
        · obtain ⟨_, _, _, _, _, _, _, _, nd⟩ := da
          refine (eqvK_self zh r1 ?_ o1).symm
          have e : ∀ {ks : List (Key × V)} {vs : List (Key × Value)}, KV ks vs → ks.map (·.1) = vs.map (·.1) := fun h => by
            induction h with
            | nil => rfl
            | cons h _ ih => rw [List.map_cons, List.map_cons, ih, h.1]
          rw [e kva]
          exact nd
      subst hg
      refine PySem.W.keq_ne (knd := mixKind X.prog X.w) la lb da db (by omega) (fun _ => hits_of I zh hu r2 kvb o2 r1 kva o1) (fin_bl I q ?_)
      rw [Bool.bne_true]
      unfold eqvK
      congr 2
      rw [show va.length = es.length from (Paired.length kva).symm.trans (rpK_len r1), show vb.length = ls.length from (Paired.length kvb).symm.trans (rpK_len r2)]
      rfl
def gEqK (neg : Bool) : PyData → PyData → Option OV
  | .dict es, .dict ls => if ((es.all fun e => eqOk e.2) && ls.all fun e => eqOk e.2) = true then some (.fz (.bool ((PySem.Spec.samePairs es ls || eqvK es ls) != neg))) else none
  | _, _ => none
theorem od_eqK (neg : Bool) : OpD X (rEqK X.K neg) (gEqK neg) := fun {f Z fp s σ H vx vy x y o Q} r px py e t => by
  have px0 := px
  have py0 := py
  cases px <;> first | (cases e; done) | skip
  cases py <;> first | (cases e; done) | skip
  rename_i a ks es ha ra b kl ls hb rb
  obtain ⟨hc, e⟩ := some_if e
  subst e
  rw [Bool.and_eq_true] at hc
  refine ⟨a, b, es, ls, Z, rfl, rfl, r.zh, px0, py0, hc.1, hc.2, _, ?_, t.flat r (.bl _)⟩
  cases h : PySem.Spec.samePairs es ls with
  | true => exact .inr ⟨eqPairs_of_same _ _ h, rfl⟩
  | false => exact .inl rfl
theorem samePairs_refl : ∀ es : List (PyData × PyData), PySem.Spec.samePairs es es = true
  | [] => rfl
  | (a, b) :: r => by
    simp only [PySem.Spec.samePairs, same_refl, samePairs_refl r, Bool.and_self]
theorem gEqK_same {es : List (PyData × PyData)} (h : (es.all fun e => eqOk e.2) = true) (neg : Bool) : gEqK neg (.dict es) (.dict es) = some (.fz (.bool (true != neg))) := by
  show (if ((es.all fun e => eqOk e.2) && es.all fun e => eqOk e.2) = true then some (OV.fz (.bool ((PySem.Spec.samePairs es es || eqvK es es) != neg))) else none) = _
  rw [h, samePairs_refl]
  rfl
end
end L2.DL

set_option maxRecDepth 100000
set_option maxHeartbeats 4000000
/-! DL25: y = [.. for k in d], d a dict. -/
namespace L2.DL
open PySem PySem.Spec PyProof.Rows
section
variable {X : Cx} {N : List Str} {sc : Scope} {k : Nat} {dd : Bool} {tg iter elt : Expr} {ifs : List Expr} {scope : Scope} {is : List Nat} {g : TG} {gd : DG} {tt : DTT} {te : DTE} {own : List (Str × Nat)} {pos : Pos}
theorem PS.or {st : Stmt} {t1 t2 : TS} (h1 : PS X st t1) (h2 : PS X st t2) : PS X st fun D σ H => t1 D σ H ∨ t2 D σ H :=
  ⟨fun pins s σ H D I h => h.elim (h1.run pins s σ H D I) (h2.run pins s σ H D I)⟩
theorem ds_setCK (hc : XC N sc k dd X) (j : Nat) {y : Str} {py spos : Pos} (hy : N[j]? = some y) (hl : sc.names.lookup y = some .local) (i : Nat) {x : Str} {px : Pos} (hx : N[i]? = some x) (hv : Vis sc x) (hd : (x == ("__debug__" : Str)) = false) (hcd : (x == ("__classdict__" : Str)) = false)
    (b : Blk X tg ifs elt scope is g gd tt te) (ok : blkC N sc scope own = true) (hvs : ∀ i ∈ is, i ∈ own.map (·.2)) (hsw : swapsWith (.ListComp elt [⟨tg, .Name x px, ifs, 0⟩] scope pos) (some (.Name y py)) spos.line X.env = pure true) (hs : ∀ y, foldedSetIterable (.Name x px) X.env y = pure y) :
    DS X (.Assign [.Name y py] (.ListComp elt [⟨tg, .Name x px, ifs, 0⟩] scope pos) spos) (sAsg j (eCompK i gd tt te (own.map (·.2)))) := by
  have P := ps_setLc (own := own) (tt := liftT X.K tt) (te := lift X.K te) (i := j) (elt := elt) (tg := tg) (ifs := ifs) (scope := scope) (pos := pos) hc.calm (hc.hN ▸ hc.nd) (hc.hN ▸ hy) (hc.hS ▸ hl) hsw (pi_keys (X := X) (tg := tg) (pe_var (pos := px) (i := i) (hc.hN ▸ hx) (hc.hS ▸ hv) hd hcd)) (hc.hN ▸ hc.hS ▸ blkOk_by ok) (fun s H C cl fp => (b.g s H C cl fp).pg) (fun s H C cl fp => (b.t s H C cl fp).pts) (fun s H C cl fp => (b.e s H C cl fp).pe) hs
  refine ⟨fun E E' s l ⟨es, h0, h⟩ => ⟨es, h0, blk_mono b (fun acc s2 ⟨z, q⟩ => ⟨z, l.nx _ q⟩) _ _ _ h⟩, PS.weak (PS.or (ps_lock P) P) fun D σ H ⟨f, Z, fp, s, E, r, ⟨es, h0, h⟩, ok⟩ => ?_⟩
  have h2 : compW gd tt te (own.map (·.2)) (es.map Prod.fst) [] (forgetAll (own.map (·.2)) s) fun acc s2 => Told X.K f Z s2 σ (.lst acc) fun v H1 => gName j v σ H1 D.nx :=
    blk_mono b (fun acc s2 ⟨z, q⟩ Z' fp' v H' A zz r' p n hA => ok.nx _ _ _ _ _ zz (r'.put j (by rw [← r'.len]; exact z) (sok_of p n) fun j _ a ha => hA j a ha) q) _ _ _ h
  obtain ⟨v, e, p⟩ := r.dat h0
  cases p with
  | dct hr rr =>
    rename_i a ks
    rcases hr with hz | ⟨o, hz⟩
    · exact .inl ⟨a, .dK ks, r.zh _ _ hz, trivial, fun od => ⟨.ref a, e, a, od, rfl, .inl ⟨ks, upd_same, lc_turns b hvs (r.swap hz (fun vs z => nomatch z) (leD_lock hz)) (walks_keys upd_same (rr.leD (leD_lock hz)))
        (blk_mono b (fun acc s2 q => Told.locked r hz q) _ _ _ h2)⟩⟩⟩
    · exact .inr ⟨.ref a, e, a, o, rfl, .inl ⟨ks, r.zh _ _ hz, lc_turns b hvs r (walks_keys hz rr) h2⟩⟩
end
end L2.DL

set_option maxRecDepth 100000
set_option maxHeartbeats 4000000
/-! DL26: children of a node, sorted; trees that repr can show. -/
namespace L2.DL
open PySem PySem.Spec PyProof.Rows
/-! ### sorted texts: one order alone -/
theorem rising_pair : ∀ (l : List Str) (p : Str), risingS p l = true → (p :: l).Pairwise fun a b => ¬ b.cps.toList < a.cps.toList
  | [], p, _ => by simp
  | x :: r, p, h => by
    have h : (!ltCps x.cps.toList p.cps.toList && risingS x r) = true := h
    rw [Bool.and_eq_true, Bool.not_eq_true', ltCps_eq] at h
    have ih := rising_pair r x h.2
    have h1 : ¬ x.cps.toList < p.cps.toList := of_decide_eq_false h.1
    refine List.pairwise_cons.mpr ⟨fun y hy => ?_, ih⟩
    rcases List.mem_cons.mp hy with rfl | hy
    · exact h1
    · have h2 := List.rel_of_pairwise_cons ih hy
      have h3 : p.cps.toList ≤ x.cps.toList := h1
      have h4 : x.cps.toList ≤ y.cps.toList := h2
      exact (List.le_trans h3 h4 : p.cps.toList ≤ y.cps.toList)
theorem sorted_pair : ∀ {l : List Str}, sortedS l = true → l.Pairwise fun a b => ¬ b.cps.toList < a.cps.toList
  | [], _ => .nil
  | x :: r, h => rising_pair r x h
theorem str_cps {a b : Str} (h : a.cps.toList = b.cps.toList) : a = b := by
  rw [← SX.S_tl a, ← SX.S_tl b, h]
theorem sorted_one {xs ys zs : List Str} (h1 : ys.Perm xs) (s1 : sortedS ys = true) (h2 : zs.Perm xs) (s2 : sortedS zs = true) : ys = zs :=
  List.Perm.eq_of_pairwise (fun a b _ _ h3 h4 => str_cps (List.le_antisymm (show a.cps.toList ≤ b.cps.toList from h3) (show b.cps.toList ≤ a.cps.toList from h4))) (sorted_pair s1) (sorted_pair s2) (h1.trans h2.symm)
/-! ### roads of a tree -/
abbrev P (rs : List (List Nat)) : PyData := tx (pathL rs)
def roadOf (e : PyData × PyData) : List (List Nat) := match e.1 with
  | .str z => partsL z.cps.toList
  | _ => []
theorem roadOf_P {rs : List (List Nat)} {v : PyData} (h : Parts rs) : roadOf (P rs, v) = rs := by
  show partsL (pathL rs) = rs
  exact parts_path h
theorem TreeB.roads {n B : Nat} {es : List (PyData × PyData)} (h : TreeB n B es) : es.map (·.1) = (es.map roadOf).map P ∧ ∀ rs ∈ es.map roadOf, Road rs := by
  have key : ∀ e ∈ es, e.1 = P (roadOf e) ∧ Road (roadOf e) := fun e he => by
    obtain ⟨ps, h1, h2, _⟩ := h.2.2 e he
    have : roadOf e = ps := by
      unfold roadOf
      rw [h2]
      exact parts_path h1.1
    rw [this]
    exact ⟨h2, h1⟩
  refine ⟨?_, fun rs hrs => ?_⟩
  · rw [List.map_map]
    exact List.map_congr_left fun e he => (key e he).1
  · obtain ⟨e, he, rfl⟩ := List.mem_map.mp hrs
    exact (key e he).2
/-- the last part of a child of ps -/
def kidR (ps rs : List (List Nat)) : Option (List Nat) := if rs ≠ [] ∧ rs.dropLast = ps then rs.getLast? else none
def kidsL (es : List (PyData × PyData)) (ps : List (List Nat)) : List (List Nat) := (es.map roadOf).filterMap (kidR ps)
theorem kidR_snoc {ps qs : List (List Nat)} {q : List Nat} : kidR ps (qs ++ [q]) = if qs = ps then some q else none := by
  unfold kidR
  by_cases h : qs = ps
  · subst h
    simp
  · simp [h]
theorem kidsL_len {es : List (PyData × PyData)} {ps : List (List Nat)} : (kidsL es ps).length ≤ es.length := by
  unfold kidsL
  have := List.length_filterMap_le (kidR ps) (es.map roadOf)
  rw [List.length_map] at this
  exact this
/-- [f(d) for d in all if f takes it] -/
theorem comp_fm {α : Type} {gd : DG} {tt : DTT} {te : DTE} {vs : List Nat} {Q : List PyData → DSt → Prop} {I : DSt → Prop} {p : α → PyData} {f : α → Option PyData} {all : List α} (hl : all.length ≤ sizeLine)
    (step : ∀ a s, a ∈ all → I s → ∀ (acc : List PyData) (R : List PyData → DSt → Prop), acc.length < sizeLine → (∀ s', I s' → R (acc ++ (f a).toList) s') →
      gd (p a) s fun s1 => tt s1 fun b s2 => if b = true then te s2 fun o s3 => acc.length < sizeLine ∧ R (acc ++ [o.data]) (forgetAll vs s3) else R acc (forgetAll vs s2))
    (hq : ∀ s, I s → Q (all.filterMap f) s) (s : DSt) (hs : I s) : compW gd tt te vs (all.map p) [] s Q := by
  refine comp_inv (fun acc ds s => I s ∧ ∃ done rest, done ++ rest = all ∧ ds = rest.map p ∧ acc = done.filterMap f) ?_ ?_ _ _ _ ⟨hs, [], all, rfl, rfl, rfl⟩
  · rintro d ds acc s ⟨hI, done, rest, e, e2, rfl⟩ R hR
    cases rest with
    | nil => cases e2
    | cons a rest =>
      rw [List.map_cons] at e2
      injection e2 with e3 e4
      subst e3 e4
      have h6 := List.length_filterMap_le f done
      have h7 := congrArg List.length e
      simp at h7
      refine step a s (by rw [← e]; simp) hI _ R (by omega) fun s' hI' => hR _ _ ⟨hI', done ++ [a], rest, by rw [← e]; simp, rfl, ?_⟩
      rw [List.filterMap_append]
      congr 1
  · rintro acc s ⟨hI, done, rest, e, e2, rfl⟩
    have : rest = [] := by
      cases rest with
      | nil => rfl
      | cons _ _ => cases e2
    rw [this, List.append_nil] at e
    subst e
    exact hq s hI
theorem spl_path {ps : List (List Nat)} (h : Parts ps) (hn : ps ≠ []) : TL.spl [47] 0 [] (pathL ps) = [] :: ps := by
  unfold pathL
  rw [spl_step, if_pos rfl]
  congr 1
  exact SX.spl_join hn fun p hp => (h p hp).2.1
theorem join_up {qs : List (List Nat)} : TL.joinL [47] ([] :: qs) = if qs = [] then [] else pathL qs := by
  cases qs with
  | nil => rfl
  | cons q r =>
    rw [if_neg (by simp)]
    rfl
/-! ### what repr shows of a tree -/
theorem letter_asc {c : Nat} (h : c ∈ lettersL) : btw 32 126 c = true := by
  have : lettersL.all (btw 32 126) = true := by decide
  exact List.all_eq_true.mp this c h
theorem figure_asc {c : Nat} (h : c ∈ figuresL) : btw 32 126 c = true := by
  have : figuresL.all (btw 32 126) = true := by decide
  exact List.all_eq_true.mp this c h
theorem word_asc {w : List Nat} (h : wordB w = true) : w.all (btw 32 126) = true := List.all_eq_true.mpr fun c hc => letter_asc ((word_all h).2.2 c hc)
theorem part_asc {w : List Nat} (h : partB w = true) : w.all (btw 32 126) = true := by
  by_cases hd : 45 ∈ w
  · obtain ⟨p, q, rfl, hp⟩ := first_of hd
    unfold partB at h
    rw [show p ++ 45 :: q = p ++ ([45] ++ q) from rfl, SX.par_head q hp] at h
    have h : (wordB p && decide (q.length = 6) && q.all fun c => decide (c ∈ figuresL)) = true := h
    simp only [Bool.and_eq_true, List.all_eq_true, decide_eq_true_eq] at h
    rw [List.all_append, word_asc h.1.1, List.all_cons]
    have e : btw 32 126 45 = true := by decide
    rw [e, Bool.true_and, Bool.true_and, List.all_eq_true]
    exact fun c hc => figure_asc (h.2 c hc)
  · unfold partB at h
    rw [par_no hd] at h
    exact word_asc h
theorem join_asc : ∀ {ps : List (List Nat)}, (∀ p ∈ ps, p.all (btw 32 126) = true) → (TL.joinL [47] ps).all (btw 32 126) = true
  | [], _ => rfl
  | [p], h => h p (by simp)
  | p :: q :: r, h => by
    show (p ++ ([47] ++ TL.joinL [47] (q :: r))).all (btw 32 126) = true
    rw [List.all_append, List.all_append, h p (by simp), join_asc fun x hx => h x (by simp [hx])]
    decide
theorem path_asc {ps : List (List Nat)} (h : Parts ps) : (pathL ps).all (btw 32 126) = true := by
  unfold pathL
  rw [List.all_cons, join_asc fun p hp => part_asc (h p hp).1]
  decide
theorem text_asc {t : List Nat} (h : textB t = true) : t.length ≤ 40 ∧ t.all (btw 32 126) = true := by
  unfold textB at h
  rw [Bool.and_eq_true, decide_eq_true_eq] at h
  exact h
theorem small_num : ∀ i : Fin 1001, (Str.ofString (toString ((i.val : Nat) : Int))).length ≤ 4 := by decide +kernel
theorem num_wt {c : Int} (h0 : 0 ≤ c) (h1 : c ≤ ((1000 : Nat) : Int)) : wt (.int c) ≤ 4 ∧ PyData.showable (.int c) = true := by
  obtain ⟨n, rfl⟩ := Int.eq_ofNat_of_zero_le h0
  have hn : n ≤ 1000 := by omega
  refine ⟨?_, ?_⟩
  · have := small_num ⟨n, by omega⟩
    rw [wt, PyData.shown]
    exact this
  · rw [PyData.showable]
    refine decide_eq_true ?_
    show (n : Int).natAbs.log2 < 1920
    rw [Int.natAbs_natCast]
    by_cases z : n = 0
    · subst z; decide
    · exact (Nat.log2_lt z).mpr (Nat.lt_of_le_of_lt hn (by
        have : (1000 : Nat) < 2 ^ 10 := by decide
        exact Nat.lt_of_lt_of_le this (Nat.pow_le_pow_right (by decide) (by decide))))
theorem wt_tx (l : List Nat) : wt (tx l) = 10 * l.length + 2 := by rw [wt, len_S]
theorem node_fine {d : PyData} (h : NodeB 1000 d) : asc d = true ∧ wt d ≤ 600 ∧ d.hasDict = false ∧ d.depth ≤ 2 ∧ d.showable = true := by
  obtain ⟨t, c, m, o, rfl, ht, ⟨hc0, hc1⟩, ⟨hm0, hm1⟩, ho⟩ := h
  obtain ⟨t1, t2⟩ := text_asc ht
  obtain ⟨c1, c2⟩ := num_wt hc0 hc1
  obtain ⟨m1, m2⟩ := num_wt hm0 hm1
  have hx := wt_tx t
  have at' : asc (tx t) = true := by rw [asc]; exact t2
  have oo : asc o = true ∧ wt o ≤ 82 ∧ o.hasDict = false ∧ o.depth = 0 ∧ o.showable = true := by
    rcases ho with rfl | ⟨w, rfl, hw⟩
    · exact ⟨rfl, by rw [wt]; decide, rfl, rfl, rfl⟩
    · obtain ⟨_, w1, _⟩ := word_all hw
      have := wt_tx w
      exact ⟨by rw [asc]; exact word_asc hw, by omega, rfl, rfl, rfl⟩
  obtain ⟨o1, o2, o3, o4, o5⟩ := oo
  refine ⟨?_, ?_, ?_, ?_, ?_⟩
  · simp only [asc, ascA, Bool.and_true, o1]
    exact t2
  · simp only [wt, wtA] at c1 m1 hx ⊢
    omega
  · simp [PyData.hasDict, PyData.hasDictAll, o3]
  · simp [PyData.depth, PyData.depthAll, o4]
  · simp [PyData.showable, PyData.showableAll] at c2 m2 ⊢
    exact ⟨c2, m2, o5⟩
theorem TreeB.shows {n : Nat} {es : List (PyData × PyData)} (h : TreeB n 1000 es) (hn : n ≤ 63) : shOk es = true := by
  have all : ∀ e ∈ es, asc e.1 = true ∧ wt e.1 ≤ 1002 ∧ e.1.depth = 0 ∧ e.1.showable = true ∧ (asc e.2 = true ∧ wt e.2 ≤ 600 ∧ e.2.hasDict = false ∧ e.2.depth ≤ 2 ∧ e.2.showable = true) := fun e he => by
    obtain ⟨ps, h1, h2, h3⟩ := h.2.2 e he
    have hl := path_len h1.2 h1.1
    have := wt_tx (pathL ps)
    rw [h2]
    exact ⟨by rw [asc]; exact path_asc h1.1, by omega, rfl, rfl, node_fine h3⟩
  have hlen : es.length ≤ 63 := Nat.le_trans h.2.1 hn
  clear h hn
  have key : ∀ es : List (PyData × PyData), (∀ e ∈ es, asc e.1 = true ∧ wt e.1 ≤ 1002 ∧ e.1.depth = 0 ∧ e.1.showable = true ∧ (asc e.2 = true ∧ wt e.2 ≤ 600 ∧ e.2.hasDict = false ∧ e.2.depth ≤ 2 ∧ e.2.showable = true)) →
      ascK es = true ∧ wtK es ≤ es.length * 1606 ∧ PyData.hasDictAll (es.map (·.2)) = false ∧ PyData.depthKv es ≤ 2 ∧ PyData.showableKv es = true := fun es => by
    induction es with
    | nil => intro _; exact ⟨rfl, Nat.zero_le _, rfl, Nat.zero_le _, rfl⟩
    | cons e r ih =>
      intro h
      obtain ⟨k, v⟩ := e
      obtain ⟨a1, a2, a3, a4, b1, b2, b3, b4, b5⟩ := h (k, v) (by simp)
      obtain ⟨c1, c2, c3, c4, c5⟩ := ih fun x hx => h x (by simp [hx])
      refine ⟨?_, ?_, ?_, ?_, ?_⟩
      · simp only [ascK, a1, b1, c1, Bool.and_true]
      · rw [wtK, List.length_cons, Nat.succ_mul]
        have a2 : wt k ≤ 1002 := a2
        have b2 : wt v ≤ 600 := b2
        omega
      · rw [List.map_cons, PyData.hasDictAll, b3, c3]
        rfl
      · simp only [PyData.depthKv]
        have a3 : k.depth = 0 := a3
        have b4 : v.depth ≤ 2 := b4
        omega
      · simp only [PyData.showableKv, a4, b5, c5, Bool.and_true]
  obtain ⟨c1, c2, c3, c4, c5⟩ := key es all
  have hz : (200000 : Nat) ≤ sizeLine := by decide
  have f := fit (d := .dict es) (by rw [asc]; exact c1)
  have hw : wt (.dict es) ≤ 200000 := by
    rw [wt]
    have : es.length * 1606 ≤ 63 * 1606 := Nat.mul_le_mul_right _ hlen
    omega
  unfold shOk
  rw [c3, show PyData.showable (.dict es) = true by rw [PyData.showable]; exact c5, decide_eq_true (show PyData.depth (.dict es) ≤ 60 by simp only [PyData.depth]; omega), decide_eq_true (Nat.le_trans f.1 (Nat.le_trans hw hz)), show sok (PyData.shown (.dict es)) = true from f.2]
  rfl
theorem gReprA_tree {n : Nat} {es : List (PyData × PyData)} (h : TreeB n 1000 es) (hn : n ≤ 63) : gReprA [.dict es] = some (.fz (.str (PyData.shown (.dict es)))) := if_pos (h.shows hn)
theorem gReprA_node {d : PyData} (h : d = .none ∨ NodeB 1000 d) : ∃ z, gReprA [d] = some (.fz (.str z)) := by
  rcases h with rfl | h
  · exact ⟨_, rfl⟩
  · obtain ⟨h1, h2, h3, h4, h5⟩ := node_fine h
    have f := fit h1
    have hz : (200000 : Nat) ≤ sizeLine := by decide
    obtain ⟨t, c, m, o, rfl, _⟩ := h
    refine ⟨_, if_pos ?_⟩
    rw [h3, h5, decide_eq_true (show PyData.depth _ ≤ 62 from Nat.le_trans h4 (by decide)), decide_eq_true (Nat.le_trans f.1 (by omega)), f.2]
    rfl
/-! ### what the defs tell -/
def c_first_nodes : DC := fun svs Q => svs = [] ∧ Q (.dct [(tx [47], .tuple [tx [], .int 0, .int 0, .none])])
theorem m_first_nodes : c_first_nodes.Mono := fun _ _ _ hq ⟨h1, h2⟩ => ⟨h1, hq _ h2⟩
def c_node_at : DC := fun svs Q => ∃ es a, svs = [.dat (.dict es), .dat (tx a)] ∧ Q (.fz (getD0 es (.inr (SX.S a)) .none))
theorem m_node_at : c_node_at.Mono := fun _ _ _ hq ⟨es, a, h1, h2⟩ => ⟨es, a, h1, hq _ h2⟩
def c_kids_of : DC := fun svs Q => ∃ es ps, svs = [.dat (.dict es), .dat (P ps)] ∧ TreeOk 63 es ∧ Parts ps ∧ (lookD es (.inr (SX.S (pathL ps))) = none → Q (.fz .none)) ∧
  ((lookD es (.inr (SX.S (pathL ps)))).isSome = true → ∀ ys : List Str, ys.Perm ((kidsL es ps).map SX.S) → sortedS ys = true → Q (.lst (ys.map .str)))
theorem m_kids_of : c_kids_of.Mono := fun _ _ _ hq ⟨es, ps, h1, h2, h3, h4, h5⟩ => ⟨es, ps, h1, h2, h3, fun z => hq _ (h4 z), fun z ys a b => hq _ (h5 z ys a b)⟩
def c__law_above : DC := fun svs Q => ∃ qs q, svs = [.dat (P (qs ++ [q]))] ∧ Road (qs ++ [q]) ∧ Q (.fz (P qs))
theorem m__law_above : c__law_above.Mono := fun _ _ _ hq ⟨qs, q, h1, h2, h3⟩ => ⟨qs, q, h1, h2, hq _ h3⟩
def c__law_kids : DC := fun svs Q => ∃ es ps, svs = [.dat (.dict es), .dat (P ps)] ∧ TreeOk 63 es ∧ Parts ps ∧ ∀ ys : List Str, ys.Perm ((kidsL es ps).map SX.S) → sortedS ys = true → Q (.lst (ys.map .str))
theorem m__law_kids : c__law_kids.Mono := fun _ _ _ hq ⟨es, ps, h1, h2, h3, h5⟩ => ⟨es, ps, h1, h2, h3, fun ys a b => hq _ (h5 ys a b)⟩
end L2.DL

set_option maxRecDepth 100000
set_option maxHeartbeats 4000000
/-! DL27: tuples that hold lists and dicts of their own; what is told is spoilt; d.pop(k). -/
namespace L2.DL
open PySem PySem.Spec PyProof.Rows
section
variable {X : Cx} {N : List Str} {sc : Scope} {k : Nat} {dd : Bool} {e : Expr} {es : List Expr} {pos : Pos} {te : DTE} {f : Fr0} {Z H : Hp} {fp : Nat → List Addr} {s : DSt} {σ : L2.St}
abbrev DTAO := DSt → (List OV → DSt → Prop) → Prop
def ToldA (K : PySem.W.Frag) (f : Fr0) (Z : Hp) (s : DSt) (σ : L2.St) (os : List OV) (Q : List V → Hp → Prop) : Prop :=
  ∀ Z' fp' vs H' A, Same Z Z' → R K f Z' fp' s σ H' → ORpA K f Z' H' vs os A → A.Nodup → (∀ i, ∀ a ∈ A, a ∉ fp' i) → Q vs H'
def liftAO (K : PySem.W.Frag) (t : DTAO) : TA := fun σ H Q => ∃ f Z fp s, R K f Z fp s σ H ∧ t s fun os s' => ToldA K f Z s' σ os Q
/-- things evaluated one by one, each one its own -/
structure DAO (X : Cx) (es : List Expr) (t : DTAO) : Prop where
  mono : ∀ s Q Q', (∀ o s', Q o s' → Q' o s') → t s Q → t s Q'
  pa : PA X es (liftAO X.K t)
def oNil : DTAO := fun s Q => Q [] s
def oCons (te : DTE) (tr : DTAO) : DTAO := fun s Q => te s fun o s1 => tr s1 fun os s2 => Q (o :: os) s2
theorem dao_nil : DAO X [] oNil := ⟨fun _ _ _ hq h => hq _ _ h, PA.weak pa_nil fun σ H Q ⟨f, Z, fp, s, r, h⟩ => h Z fp [] H [] Same.rfl' r .nil (by simp) fun _ a ha => by cases ha⟩
theorem dao_cons {tr : DTAO} (he : DE X e te) (hr : DAO X es tr) (hs : starEach (e :: es) X.env = (false, eval e X.env) :: starEach es X.env) : DAO X (e :: es) (oCons te tr) := by
  refine ⟨fun s Q Q' hq h => he.mono _ _ _ (fun o s1 h1 => hr.mono _ _ _ (fun ds s2 h2 => hq _ _ h2) h1) h, PA.weak (pa_cons he.pe hr.pa hs) fun σ H Q ⟨f, Z, fp, s, r, h⟩ => ?_⟩
  refine ⟨f, Z, fp, s, r, he.mono _ _ _ (fun o s1 h1 Z1 fp1 v H1 A z1 r1 p1 n1 dA => ?_) h⟩
  refine ⟨base1 f Z1 H1 fp1, Z1, fp1, s1, r1.rebase, hr.mono _ _ _ (fun os s2 h2 Z2 fp2 vs H2 B z2 r2 p2 n2 dB => ?_) h1⟩
  have npl : ∀ a ∈ A, ¬ (base1 f Z1 H1 fp1).pl a := fun a ha ⟨i, hi⟩ => dA i a ha hi
  have live : ∀ a ∈ A, H1 a ≠ none := fun a ha z => by
    obtain ⟨_, u, e⟩ := p1.free a ha
    rw [e] at z
    cases z
  have same : ∀ a ∈ A, H2 a = H1 a := fun a ha => by
    obtain ⟨_, u, e⟩ := p1.free a ha
    rw [e]
    exact r2.keep a u e (npl a ha)
  have freeA : ∀ a ∈ A, Free f Z2 a := fun a ha => by
    obtain ⟨⟨hz, hpp, hpl⟩, _⟩ := p1.free a ha
    exact ⟨r2.nz a (live a ha) hz (npl a ha), hpp, hpl⟩
  have freeB : ∀ b ∈ B, Free f Z2 b ∧ ((∃ i, b ∈ fp1 i) ∨ H1 b = none) := fun b hb => by
    obtain ⟨⟨hz, hpp, hpl⟩, _⟩ := p2.free b hb
    have hpl : (∃ i, b ∈ fp1 i) ∨ H1 b = none := hpl
    refine ⟨⟨hz, hpp, ?_⟩, hpl⟩
    rcases hpl with ⟨i, hi⟩ | hn
    · exact ((r1.slot i).free b hi).2.1
    · by_cases q : f.pl b
      · exact .inl q
      · refine .inr ?_
        cases e : f.H0 b with
        | none => rfl
        | some o =>
          rw [r1.keep b o e q] at hn
          cases hn
  have apart : ∀ a ∈ A, ¬ ((∃ i, a ∈ fp1 i) ∨ H1 a = none) := fun a ha z => z.elim (npl a ha) (live a ha)
  refine h2 Z2 fp2 (v :: vs) H2 (A ++ B) (z1.trans z2) (r1.back r2) (.cons (p1.to z2 freeA same) (p2.to Same.rfl' (fun b hb => (freeB b hb).1) fun _ _ => rfl)) ?_ ?_
  · rw [List.nodup_append]
    refine ⟨n1, n2, fun a ha b hb hab => ?_⟩
    subst hab
    exact apart a ha (freeB a hb).2
  · intro i a ha hi
    rcases List.mem_append.mp ha with ha | ha
    · exact apart a ha ((r2.slot i).free a hi).2.1
    · exact dB i a ha hi
def eTupO (ta : DTAO) : DTE := fun s Q => ta s fun os s' => os.length ≤ sizeLine ∧ Q (.tup os) s'
theorem de_tupO {tA : DTAO} {k1 : Nat} (h : DAO X es tA) : DE X (.Tuple es k1 pos) (eTupO tA) := by
  refine ⟨fun s Q Q' hq w => h.mono _ _ _ (fun ds s' ⟨z, q⟩ => ⟨z, hq _ _ q⟩) w, PE.weak (pe_tup h.pa) fun σ H Q ⟨f, Z, fp, s, r, w⟩ => ?_⟩
  refine ⟨f, Z, fp, s, r, h.mono _ _ _ (fun os s' ⟨z, q⟩ Z' fp' vs H' A zz r' p n dA => ⟨by rw [p.length]; exact z, fun l hl => ?_⟩) w⟩
  obtain ⟨r2, z2⟩ := r'.fresh (.tup vs) hl
  have ne : ∀ a ∈ A, a ≠ l := fun a ha z => by
    obtain ⟨_, u, e⟩ := p.free a ha
    rw [z, hl] at e
    cases e
  exact q _ fp' (.ref l) _ A (zz.trans z2) r2 (.tup upd_same (p.to z2 (fun a ha => by
    obtain ⟨⟨h1, h2, h3⟩, _⟩ := p.free a ha
    exact ⟨by rw [upd_ne (ne a ha)]; exact h1, h2, h3⟩) fun a ha => upd_ne (ne a ha))) n dA
/-- a name that hands its own thing on -/
def eMov (i : Nat) : DTE := fun s Q => ∃ o, s[i]? = some (.own o) ∧ Q o (s.set i .no)
theorem de_mov (hc : XC N sc k dd X) (i : Nat) {x : Str} (hx : N[i]? = some x) (hv : Vis sc x) (hd : (x == ("__debug__" : Str)) = false) (hcd : (x == ("__classdict__" : Str)) = false) : DE X (.Name x pos) (eMov i) := by
  refine ⟨fun s Q Q' hq ⟨o, h, q⟩ => ⟨o, h, hq _ _ q⟩, PE.weak (pe_var (i := i) (hc.hN ▸ hx) (hc.hS ▸ hv) hd hcd) fun σ H Q ⟨f, Z, fp, s, r, o, h, q⟩ => ?_⟩
  obtain ⟨v, hv, p, n⟩ := r.own h
  refine ⟨v, hv, ?_⟩
  have r2 := r.forget i (some v)
  have es : σ.set i (some v) = σ := by
    apply List.ext_getElem?
    intro j
    by_cases hj : i = j
    · subst hj
      have hi : i < σ.length := by
        rcases Nat.lt_or_ge i σ.length with z | z
        · exact z
        · rw [List.getElem?_eq_none z] at hv
          cases hv
      rw [List.getElem?_set_self hi, hv]
    · rw [List.getElem?_set_ne hj]
  rw [es] at r2
  refine q Z _ v H (fp i) Same.rfl' r2 p n fun j a ha hj => ?_
  split at hj
  · cases hj
  · rename_i hne
    exact r.apart i j (Ne.symm hne) a ha hj
/-! ### a part of a tuple of one's own is turned -/
theorem part_lst {K : PySem.W.Frag} : ∀ {vs : List V} {os : List OV} {A : List Addr} {j : Nat} {ds : List PyData}, ORpA K f Z H vs os A → A.Nodup → os[j]? = some (.lst ds) →
    ∃ p xs, vs[j]? = some (.ref p) ∧ p ∈ A ∧ H p = some (.lst xs) ∧ RpA K Z xs ds ∧ ∀ x d, Rp K Z x d → ORpA K f Z (upd H p (.lst (xs ++ [x]))) vs (os.set j (.lst (ds ++ [d]))) A
  | _, _, _, 0, ds, .cons (o := o) (A := A1) (B := B1) q r, n, h => by
    cases (show o = .lst ds from Option.some.inj h)
    cases q with
    | lst fr e w =>
      rename_i p xs
      rw [List.nodup_append] at n
      refine ⟨p, xs, rfl, by simp, e, w, fun x d px => .cons (.lst fr upd_same (w.append (.cons px .nil))) (r.to Same.rfl' (fun a ha => (r.free a ha).1) fun a ha => upd_ne fun z => n.2.2 p (by simp) a ha z.symm)⟩
  | _, _, _, j + 1, ds, .cons q r, n, h => by
    rw [List.nodup_append] at n
    obtain ⟨p, xs, h1, h2, h3, h4, h5⟩ := part_lst r n.2.1 (show _ = _ from h)
    exact ⟨p, xs, h1, List.mem_append_right _ h2, h3, h4, fun x d px => .cons (q.to Same.rfl' (fun a ha => (q.free a ha).1) fun a ha => upd_ne fun z => n.2.2 a ha p h2 z) (h5 x d px)⟩
theorem part_dct {K : PySem.W.Frag} : ∀ {vs : List V} {os : List OV} {A : List Addr} {j : Nat} {es : List (PyData × PyData)}, ORpA K f Z H vs os A → A.Nodup → os[j]? = some (.dct es) →
    ∃ p ks, vs[j]? = some (.ref p) ∧ p ∈ A ∧ H p = some (.dK ks) ∧ ORpA K f Z (upd H p (.dK [])) vs (os.set j (.dct [])) A
  | _, _, _, 0, es, .cons (o := o) q r, n, h => by
    cases (show o = .dct es from Option.some.inj h)
    cases q with
    | dct fr e w =>
      rename_i p ks
      rw [List.nodup_append] at n
      exact ⟨p, ks, rfl, by simp, e, .cons (.dct fr upd_same .nil) (r.to Same.rfl' (fun a ha => (r.free a ha).1) fun a ha => upd_ne fun z => n.2.2 p (by simp) a ha z.symm)⟩
  | _, _, _, j + 1, es, .cons q r, n, h => by
    rw [List.nodup_append] at n
    obtain ⟨p, ks, h1, h2, h3, h5⟩ := part_dct r n.2.1 (show _ = _ from h)
    exact ⟨p, ks, h1, List.mem_append_right _ h2, h3, .cons (q.to Same.rfl' (fun a ha => (q.free a ha).1) fun a ha => upd_ne fun z => n.2.2 a ha p h2 z) h5⟩
theorem at_of {α : Type} {xs : List α} {j : Nat} {x : α} (h : xs[j]? = some x) : L2.atI xs (j : Int) = some x := by
  have hk : j < xs.length := by
    rcases Nat.lt_or_ge j xs.length with z | z
    · exact z
    · rw [List.getElem?_eq_none z] at h
      cases h
  unfold L2.atI ixN
  rw [if_pos (by omega), if_pos (by omega)]
  show xs[((j : Int)).toNat]? = _
  rw [Int.toNat_natCast, h]
/-- x[j].append(None) -/
def sAppN (i j : Nat) : DTS := fun E s => ∃ os ds, s[i]? = some (.own (.tup os)) ∧ os[j]? = some (.lst ds) ∧ ds.length < sizeLine ∧ E.nx (s.set i (.own (.tup (os.set j (.lst (ds ++ [.none]))))))
theorem ds_appN (hc : XC N sc k dd X) (i j : Nat) {x : Str} {px ipos spos apos cpos npos : Pos} {jn nn : Nat} (hx : N[i]? = some x) (hv : Vis sc x) (hd : (x == ("__debug__" : Str)) = false) (hcd : (x == ("__classdict__" : Str)) = false)
    (hbase : attributeBase (.Subscript (.Name x px) (.Constant (.int (j : Int)) jn ipos) spos) "append" X.env (eval (.Subscript (.Name x px) (.Constant (.int (j : Int)) jn ipos) spos) X.env) = eval (.Subscript (.Name x px) (.Constant (.int (j : Int)) jn ipos) spos) X.env)
    (hfew : ((backTo cpos (starEach [.Constant .none nn npos] X.env)).all (fun x => !x.1) && (backToKw cpos (keywordEach [] X.env)).all (fun x => x.1.isSome) && decide (([.Constant .none nn npos] : List Expr).length + ([] : List Keyword).length + (if ([] : List Keyword).isEmpty then 0 else 1) < 30)) = true)
    (hline : (apos.endLine == cpos.line) = true) (hs : starEach [.Constant .none nn npos] X.env = (false, eval (.Constant .none nn npos) X.env) :: starEach [] X.env) (hp : PlainIx (.Constant (.int (j : Int)) jn ipos))
    (hsw : swapsWith (.Call (.Attribute (.Subscript (.Name x px) (.Constant (.int (j : Int)) jn ipos) spos) "append" apos) [.Constant .none nn npos] [] cpos) none pos.line X.env = pure false) :
    DS X (.Expr (.Call (.Attribute (.Subscript (.Name x px) (.Constant (.int (j : Int)) jn ipos) spos) "append" apos) [.Constant .none nn npos] [] cpos) pos) (sAppN i j) := by
  refine ⟨fun E E' s l ⟨os, ds, h1, h2, h3, q⟩ => ⟨os, ds, h1, h2, h3, l.nx _ q⟩, PS.weak (ps_expr (pe_bm PySem.F.plainAttrs_list PySem.F.slot_list_append PySem.F.type_list_append mt_append (pe_ix ix_seq (pe_var (i := i) (hc.hN ▸ hx) (hc.hS ▸ hv) hd hcd) pe_int hp) (pa_cons pe_non pa_nil hs) hbase hfew hline hs rfl) hsw) fun D σ H ⟨f, Z, fp, s, E, r, ⟨os, ds, h1, h2, h3, q⟩, ok⟩ => ?_⟩
  obtain ⟨v, hv, q0, n0⟩ := r.own h1
  generalize hA : fp i = A0 at q0 n0
  cases q0 with
  | tup hz qa =>
    rename_i a vs
    obtain ⟨p, xs, g1, g2, g3, g4, g5⟩ := part_lst qa n0 h2
    refine ⟨.ref a, hv, .inr (.inl ⟨a, vs, (j : Int), .ref p, rfl, rfl, (DL.Le.of r.zh).sqT (.of hz), at_of g1, .inl ⟨rfl, xs, SqL.of g3⟩, p, xs, .non, rfl, rfl, g3, by rw [g4.length]; exact h3, ?_⟩)⟩
    exact ok.nx _ _ _ _ _ Same.rfl' (r.turn h1 hv (by rw [hA]; exact g2) (by rw [hA]; exact .tup hz (g5 .non .none .non))) q
/-- x[j].clear() of a dict -/
def sClrN (i j : Nat) : DTS := fun E s => ∃ os es, s[i]? = some (.own (.tup os)) ∧ os[j]? = some (.dct es) ∧ E.nx (s.set i (.own (.tup (os.set j (.dct [])))))
theorem ds_clrN (hc : XC N sc k dd X) (i j : Nat) {x : Str} {px ipos spos apos cpos : Pos} {jn : Nat} (hx : N[i]? = some x) (hv : Vis sc x) (hd : (x == ("__debug__" : Str)) = false) (hcd : (x == ("__classdict__" : Str)) = false)
    (hbase : attributeBase (.Subscript (.Name x px) (.Constant (.int (j : Int)) jn ipos) spos) "clear" X.env (eval (.Subscript (.Name x px) (.Constant (.int (j : Int)) jn ipos) spos) X.env) = eval (.Subscript (.Name x px) (.Constant (.int (j : Int)) jn ipos) spos) X.env)
    (hline : (apos.endLine == cpos.line) = true) (hp : PlainIx (.Constant (.int (j : Int)) jn ipos))
    (hsw : swapsWith (.Call (.Attribute (.Subscript (.Name x px) (.Constant (.int (j : Int)) jn ipos) spos) "clear" apos) [] [] cpos) none pos.line X.env = pure false) :
    DS X (.Expr (.Call (.Attribute (.Subscript (.Name x px) (.Constant (.int (j : Int)) jn ipos) spos) "clear" apos) [] [] cpos) pos) (sClrN i j) := by
  refine ⟨fun E E' s l ⟨os, es, h1, h2, q⟩ => ⟨os, es, h1, h2, l.nx _ q⟩, PS.weak (ps_expr (pe_dclear (pe_ix ix_seq (pe_var (i := i) (hc.hN ▸ hx) (hc.hS ▸ hv) hd hcd) pe_int hp) hbase hline) hsw) fun D σ H ⟨f, Z, fp, s, E, r, ⟨os, es, h1, h2, q⟩, ok⟩ => ?_⟩
  obtain ⟨v, hv, q0, n0⟩ := r.own h1
  generalize hA : fp i = A0 at q0 n0
  cases q0 with
  | tup hz qa =>
    rename_i a vs
    obtain ⟨p, ks, g1, g2, g3, g5⟩ := part_dct qa n0 h2
    refine ⟨.ref a, hv, .inr (.inl ⟨a, vs, (j : Int), .ref p, rfl, rfl, (DL.Le.of r.zh).sqT (.of hz), at_of g1, .inr (.inr (.inl ⟨rfl, .inl ⟨ks, g3⟩⟩)), p, ks, rfl, rfl, g3, ?_⟩)⟩
    exact ok.nx _ _ _ _ _ Same.rfl' (r.turn h1 hv (by rw [hA]; exact g2) (by rw [hA]; exact .tup hz g5)) q
/-- d.pop(k), what is told dropped -/
def sDPopO (j : Nat) (tk : DTE) : DTS := fun E s => (∃ es, s[j]? = some (.own (.dct es))) ∧ tk s fun kk s2 => ∃ es k, s2[j]? = some (.own (.dct es)) ∧ toKey kk.data = some k ∧ (lookD es k).isSome = true ∧ E.nx (s2.set j (.own (.dct (dropD es k))))
theorem ds_dpopO (hc : XC N sc k dd X) (j : Nat) {x : Str} {i : Expr} {tk : DTE} {px apos cpos : Pos} (hx : N[j]? = some x) (hv : Vis sc x) (hd : (x == ("__debug__" : Str)) = false) (hcd : (x == ("__classdict__" : Str)) = false) (hk : DE X i tk)
    (m : M1 X (.Name x px) "pop" apos i cpos) (hsw : swapsWith (.Call (.Attribute (.Name x px) "pop" apos) [i] [] cpos) none pos.line X.env = pure false) :
    DS X (.Expr (.Call (.Attribute (.Name x px) "pop" apos) [i] [] cpos) pos) (sDPopO j tk) := by
  refine ⟨fun E E' s l ⟨h0, h⟩ => ⟨h0, hk.mono _ _ _ (fun kk s2 ⟨es, k, a, b, c, q⟩ => ⟨es, k, a, b, c, l.nx _ q⟩) h⟩,
    PS.weak (ps_expr (pe_dpop1 (pe_var (i := j) (hc.hN ▸ hx) (hc.hS ▸ hv) hd hcd) hk.pe m) hsw) fun D σ H ⟨f, Z, fp, s, E, r, ⟨⟨es0, h0⟩, h1⟩, ok⟩ => ?_⟩
  obtain ⟨p, ks0, hp, _, _, eH0, _⟩ := own_dct r h0
  refine ⟨.ref p, hp, p, rfl, .inl ⟨ks0, .inl eH0⟩, hk.go r h1 fun kk s2 Z2 fp2 w H2 z2 r2 p2 ⟨es, k, e1, e2, e3, q⟩ => ?_⟩
  obtain ⟨p', ks, hp', hA, fr, eH, rr⟩ := own_dct r2 e1
  rw [hp] at hp'
  cases hp'
  have hs : (valV ks k).isSome = true := by rw [look_some rr]; exact e3
  obtain ⟨v, hv⟩ := Option.isSome_iff_exists.mp hs
  refine ⟨ks, k, v, eH, (p2.key e2).1, hv, ok.nx _ _ _ _ _ z2 (r2.turn e1 hp (by rw [hA]; simp) ?_) q⟩
  rw [hA]
  exact .dct fr upd_same rr.drop
end
/-- a def that is never come to -/
def cNever : DC := fun _ _ => False
theorem callee_never {P : Program} {w : World} {K : PySem.W.Frag} {mg : Str → Option Value} {base : Heap} {x : Str} {st : Stmt} {lev n : Nat} {ps : List Str} (F : Here K mg x st) : Callee P w K mg base x st lev n ps cNever := by
  obtain ⟨f, fd, F, hf⟩ := F
  refine ⟨⟨f, fd, F, hf, ⟨fun vs H Q E h => ?_, fun A outer s H args us vs Q E _ _ _ _ _ h => ?_⟩⟩, fun _ _ _ _ h => h⟩
  · obtain ⟨_, _, _, _, _, _, _, h⟩ := h
    exact h.elim
  · obtain ⟨_, _, _, _, _, _, _, h⟩ := h
    exact h.elim
/-- a, b = x, y -/
def sPar (i j : Nat) (ta : DTA) : DTS := fun E s => ta s fun ds s' => ∃ d d', ds = [d, d'] ∧ i < s'.length ∧ j < s'.length ∧ E.nx ((s'.set i (.dat d)).set j (.dat d'))
theorem ds_par {X : Cx} {N : List Str} {sc : Scope} {k : Nat} {dd : Bool} (hc : XC N sc k dd X) (i j : Nat) {x y : Str} {a b : Expr} {ta : DTA} {px py pt pt2 pos : Pos} {kt k2 : Nat} (hx : N[i]? = some x) (hy : N[j]? = some y) (hij : i ≠ j)
    (lx : sc.names.lookup x = some .local) (ly : sc.names.lookup y = some .local) (ha : DA X [a, b] ta)
    (hw : swappedStores [.Tuple [.Name x px, .Name y py] kt pt] (.Tuple [a, b] k2 pt2) X.env = pure (some [x, y]))
    (hs : swapsWithSole [.Tuple [.Name x px, .Name y py] kt pt] (.Tuple [a, b] k2 pt2) pos.line X.env = pure false) :
    DS X (.Assign [.Tuple [.Name x px, .Name y py] kt pt] (.Tuple [a, b] k2 pt2) pos) (sPar i j ta) := by
  refine ⟨fun E E' s l h => ha.mono _ _ _ (fun ds s' ⟨d, d', z1, z2, z3, q⟩ => ⟨d, d', z1, z2, z3, l.nx _ q⟩) h,
    PS.weak (ps_par hc.calm (hc.hN ▸ hc.nd) (hc.hN ▸ hx) (hc.hN ▸ hy) hij (hc.hS ▸ lx) (hc.hS ▸ ly) ha.pa hw hs) fun D σ H ⟨f, Z, fp, s, E, r, h, ok⟩ => ?_⟩
  refine ha.go r h fun ds s' Z' fp' vs H' zz r' p ⟨d, d', e1, e2, e3, q⟩ => ?_
  subst e1
  cases p with
  | cons p1 p =>
    cases p with
    | cons p2 p =>
      cases p
      have r1 := r'.putDat i (by rw [← r'.len]; exact e2) p1
      have r2 := r1.putDat j (by rw [List.length_set, ← r'.len]; exact e3) p2
      exact ⟨_, _, rfl, ok.nx _ _ _ _ _ zz r2 q⟩
theorem sws_of {X : Cx} {N : List Str} {sc : Scope} {k : Nat} {dd : Bool} (hc : XC N sc k dd X) {x y : Str} {a b : Expr} {px py pt pt2 : Pos} {kt k2 : Nat} (hk : sc.kind = .function)
    (lx : sc.names.lookup x = some .local) (ly : sc.names.lookup y = some .local) (hl : (px.line == py.line) = true) (hne : [x, y].eraseDups.length = 2)
    (ns : ([a, b].any fun | .Starred .. => true | _ => false) = false) (hf : [a, b].all (foldedForSure 8) = false) (ha : [a, b].all (constantsAlone 8) = false) :
    swappedStores [.Tuple [.Name x px, .Name y py] kt pt] (.Tuple [a, b] k2 pt2) X.env = pure (some [x, y]) := by
  have e1 : X.env.kindOf x = some .local := by unfold Env.kindOf; rw [hc.hS]; exact lx
  have e2 : X.env.kindOf y = some .local := by unfold Env.kindOf; rw [hc.hS]; exact ly
  have e3 : (X.env.blockKind != .function) = false := by unfold Env.blockKind; rw [hc.hS, hk]; rfl
  have e4 : (px.line == px.line) = true := beq_self_eq_true _
  have e5 : (py.line == px.line) = true := by rw [beq_iff_eq] at hl ⊢; exact hl.symm
  unfold swappedStores
  simp only [List.length_cons, List.length_nil, e3, ns, hf, ha, List.head?_cons, Option.map_some, Option.getD_some, Expr.pos, List.filterMap_cons, List.filterMap_nil, e1, e2, e4, e5]
  refine (if_neg (by decide)).trans ((if_neg fun h => ?_).trans ((if_neg ?_).trans ((if_neg Bool.false_ne_true).trans (if_neg Bool.false_ne_true))))
  · exact Bool.noConfusion (ns.symm.trans h)
  · show ¬ (((2 : Nat) != 2) || ([x, y].eraseDups.length != 2)) = true
    rw [hne]
    decide
end L2.DL

set_option maxRecDepth 100000
set_option maxHeartbeats 4000000
/-! DL28: put, drop, see: what they tell, as data. -/
namespace L2.DL
open PySem PySem.Spec PyProof.Rows
abbrev keyP (ps : List (List Nat)) : Key := .inr (SX.S (pathL ps))
abbrev noW : List Nat := [110, 111]
abbrev okW : List Nat := [111, 107]
abbrev lacksW : List Nat := [108, 97, 99, 107, 115]
abbrev countW : List Nat := [99, 111, 117, 110, 116]
abbrev kidsW : List Nat := [107, 105, 100, 115]
abbrev goneW : List Nat := [103, 111, 110, 101]
abbrev textW : List Nat := [116, 101, 120, 116]
abbrev Res := List (PyData × PyData) × PyData × List PyData
def Res.ov (r : Res) : OV := .tup [.dct r.1, .fz r.2.1, .lst r.2.2]
def Res.data (r : Res) : PyData := .tuple [.dict r.1, r.2.1, .list r.2.2]
def noR (es : List (PyData × PyData)) (w : PyData) : Res := (es, .tuple [tx noW, w], [])
def cntD : PyData → Int
  | .tuple [_, .int c, _, _] => c
  | _ => 0
def wants (c v : PyData) : Bool := match c with
  | .int k => decide (k = cntD v)
  | _ => true
def whyD (es : List (PyData × PyData)) (ps : List (List Nat)) (c : PyData) : PyData := match lookD es (keyP ps) with
  | none => tx lacksW
  | some v => if wants c v then .none else tx countW
def seeR (es : List (PyData × PyData)) (ps : List (List Nat)) (c : PyData) : Res := match lookD es (keyP ps) with
  | none => noR es (tx lacksW)
  | some v => if wants c v then (es, .tuple [tx okW, .int (cntD v)], []) else noR es (tx countW)
def putN (t v : PyData) : PyData := match v with
  | .tuple [_, .int c, m, o] => .tuple [t, .int (c + 1), m, o]
  | v => v
def putR (es : List (PyData × PyData)) (ps : List (List Nat)) (t c : PyData) : Res := match lookD es (keyP ps) with
  | none => noR es (tx lacksW)
  | some v => if wants c v then (putD es (keyP ps) (putN t v), .tuple [tx okW, .int (cntD v + 1)], [.tuple [tx textW, P ps]]) else noR es (tx countW)
def dropR (es : List (PyData × PyData)) (ps : List (List Nat)) (c : PyData) : Res := match lookD es (keyP ps) with
  | none => noR es (tx lacksW)
  | some v => if wants c v then (if kidsL es ps = [] then (dropD es (keyP ps), .tuple [tx okW, .none], [.tuple [tx goneW, P ps], .tuple [tx kidsW, P ps.dropLast]]) else noR es (tx kidsW)) else noR es (tx countW)
/-- put, drop or see, well said -/
inductive Deed : PyData → List (List Nat) → (List (PyData × PyData) → Res) → Prop
  | put {ps : List (List Nat)} {t : List Nat} {c : PyData} : Road ps → textB t = true → countB c = true → flatD c = true → Deed (.tuple [tx putW, P ps, tx t, c]) ps fun es => putR es ps (tx t) c
  | drop {ps : List (List Nat)} {c : PyData} : Road ps → ps ≠ [] → countB c = true → flatD c = true → Deed (.tuple [tx dropW, P ps, c]) ps fun es => dropR es ps c
  | see {ps : List (List Nat)} {c : PyData} : Road ps → countB c = true → flatD c = true → Deed (.tuple [tx seeW, P ps, c]) ps fun es => seeR es ps c
def c__why_not : DC := fun svs Q => ∃ es ps c, svs = [.dat (.dict es), .dat (P ps), .dat c] ∧ TreeOk 63 es ∧ countB c = true ∧ flatD c = true ∧ Q (.fz (whyD es ps c))
theorem m__why_not : c__why_not.Mono := fun _ _ _ hq ⟨es, ps, c, h1, h2, h3, h4, h5⟩ => ⟨es, ps, c, h1, h2, h3, h4, hq _ h5⟩
def c__refused : DC := fun svs Q => ∃ es w, svs = [.dat (.dict es), .dat w] ∧ Q (noR es w).ov
theorem m__refused : c__refused.Mono := fun _ _ _ hq ⟨es, w, h1, h2⟩ => ⟨es, w, h1, hq _ h2⟩
def cDeed (w : List Nat) : DC := fun svs Q => ∃ es d r ps, svs = [.dat (.dict es), .dat (.tuple (tx w :: d))] ∧ TreeOk 63 es ∧ Deed (.tuple (tx w :: d)) ps r ∧ Q (r es).ov
theorem cDeed_mono (w : List Nat) : (cDeed w).Mono := fun _ _ _ hq ⟨es, d, r, ps, h1, h2, h3, h4⟩ => ⟨es, d, r, ps, h1, h2, h3, hq _ h4⟩
def c__done_put : DC := cDeed putW
def c__done_drop : DC := cDeed dropW
def c__done_see : DC := cDeed seeW
theorem m__done_put : c__done_put.Mono := cDeed_mono _
theorem m__done_drop : c__done_drop.Mono := cDeed_mono _
theorem m__done_see : c__done_see.Mono := cDeed_mono _
theorem node_eqOk {B : Nat} {d : PyData} (h : NodeB B d) : eqOk d = true := by
  obtain ⟨t, c, m, o, rfl, _, _, _, ho⟩ := h
  have : eqOk o = true ∧ o.hasDict = false ∧ o.depth = 0 := by
    rcases ho with rfl | ⟨w, rfl, _⟩
    · exact ⟨rfl, rfl, rfl⟩
    · exact ⟨rfl, rfl, rfl⟩
  unfold eqOk
  simp [PyData.hasDict, PyData.hasDictAll, PyData.depth, PyData.depthAll, this.2.1, this.2.2]
theorem tree_eqOk {n B : Nat} {es : List (PyData × PyData)} (h : TreeB n B es) : (es.all fun e => eqOk e.2) = true := List.all_eq_true.mpr fun e he => by
  obtain ⟨_, _, _, h⟩ := h.2.2 e he
  exact node_eqOk h
theorem put_eqOk {es : List (PyData × PyData)} {k : Key} {d : PyData} (h : (es.all fun e => eqOk e.2) = true) (hd : eqOk d = true) : ((putD es k d).all fun e => eqOk e.2) = true := List.all_eq_true.mpr fun e he => by
  rcases putD_mem he with z | ⟨_, z, _⟩
  · exact List.all_eq_true.mp h e z
  · rw [z]; exact hd
theorem drop_eqOk {es : List (PyData × PyData)} {k : Key} (h : (es.all fun e => eqOk e.2) = true) : ((dropD es k).all fun e => eqOk e.2) = true := List.all_eq_true.mpr fun e he => by
  unfold dropD at he
  exact List.all_eq_true.mp h e (List.mem_filter.mp he).1
/-- what repr can show: a list or tuple of small things -/
theorem repr_fine {d : PyData} (h0 : (∃ xs, d = .list xs) ∨ ∃ xs, d = .tuple xs) (h1 : asc d = true) (h2 : wt d ≤ 200000) (h3 : d.hasDict = false) (h4 : d.depth ≤ 62) (h5 : d.showable = true) : ∃ z, gReprA [d] = some (.fz (.str z)) := by
  have f := fit h1
  have hz : (200000 : Nat) ≤ sizeLine := by decide
  rcases h0 with ⟨xs, rfl⟩ | ⟨xs, rfl⟩
  all_goals
    refine ⟨_, if_pos ?_⟩
    rw [h3, h5, decide_eq_true h4, decide_eq_true (Nat.le_trans f.1 (by omega)), f.2]
    rfl
def ResOk (r : Res) : Prop := (r.1.all fun e => eqOk e.2) = true ∧ (∃ z, gReprA [r.2.1] = some (.fz (.str z))) ∧ (∃ z, gReprA [.list r.2.2] = some (.fz (.str z))) ∧ r.2.2.length ≤ 10
theorem num_fine {c : Int} (h0 : 0 ≤ c) (h1 : c ≤ ((1000 : Nat) : Int)) : wt (.int (c + 1)) ≤ 5 ∧ PyData.showable (.int (c + 1)) = true := by
  by_cases h : c = 1000
  · subst h
    exact ⟨by rw [wt, PyData.shown]; decide +kernel, by rw [PyData.showable]; decide +kernel⟩
  · obtain ⟨a, b⟩ := num_wt (c := c + 1) (by omega) (by push_cast at h1 ⊢; omega)
    exact ⟨by omega, b⟩
theorem word_fine (w : List Nat) (h : w.all (btw 32 126) = true) (hl : w.length ≤ 200) : asc (tx w) = true ∧ wt (tx w) ≤ 2002 ∧ (tx w).hasDict = false ∧ (tx w).depth = 0 ∧ (tx w).showable = true := by
  have := wt_tx w
  exact ⟨by rw [asc]; exact h, by omega, rfl, rfl, rfl⟩
theorem pair_fine {a b : PyData} (ha : asc a = true ∧ wt a ≤ 2002 ∧ a.hasDict = false ∧ a.depth = 0 ∧ a.showable = true) (hb : asc b = true ∧ wt b ≤ 2002 ∧ b.hasDict = false ∧ b.depth = 0 ∧ b.showable = true) :
    asc (.tuple [a, b]) = true ∧ wt (.tuple [a, b]) ≤ 5000 ∧ (PyData.tuple [a, b]).hasDict = false ∧ (PyData.tuple [a, b]).depth = 1 ∧ (PyData.tuple [a, b]).showable = true := by
  obtain ⟨a1, a2, a3, a4, a5⟩ := ha
  obtain ⟨b1, b2, b3, b4, b5⟩ := hb
  refine ⟨?_, ?_, ?_, ?_, ?_⟩
  · simp [asc, ascA, a1, b1]
  · simp only [wt, wtA]; omega
  · simp [PyData.hasDict, PyData.hasDictAll, a3, b3]
  · simp [PyData.depth, PyData.depthAll, a4, b4]
  · simp [PyData.showable, PyData.showableAll, a5, b5]
theorem none_fine : asc .none = true ∧ wt .none ≤ 2002 ∧ PyData.none.hasDict = false ∧ PyData.none.depth = 0 ∧ PyData.none.showable = true := ⟨rfl, by rw [wt]; decide, rfl, rfl, rfl⟩
theorem tuple_repr {d : PyData} (e : ∃ xs, d = .tuple xs) (h : asc d = true ∧ wt d ≤ 5000 ∧ d.hasDict = false ∧ d.depth = 1 ∧ d.showable = true) : ∃ z, gReprA [d] = some (.fz (.str z)) :=
  repr_fine (.inr e) h.1 (by omega) h.2.2.1 (by omega) h.2.2.2.2
theorem list_repr {ds : List PyData} (hl : ds.length ≤ 10) (h : ∀ d ∈ ds, asc d = true ∧ wt d ≤ 5000 ∧ d.hasDict = false ∧ d.depth = 1 ∧ d.showable = true) : ∃ z, gReprA [.list ds] = some (.fz (.str z)) := by
  have key : ∀ ds : List PyData, (∀ d ∈ ds, asc d = true ∧ wt d ≤ 5000 ∧ d.hasDict = false ∧ d.depth = 1 ∧ d.showable = true) → ascA ds = true ∧ wtA ds ≤ ds.length * 5002 ∧ PyData.hasDictAll ds = false ∧ PyData.depthAll ds ≤ 2 ∧ PyData.showableAll ds = true := fun ds => by
    induction ds with
    | nil => intro _; exact ⟨rfl, Nat.zero_le _, rfl, Nat.zero_le _, rfl⟩
    | cons d r ih =>
      intro h
      obtain ⟨a1, a2, a3, a4, a5⟩ := h d (by simp)
      obtain ⟨b1, b2, b3, b4, b5⟩ := ih fun x hx => h x (by simp [hx])
      refine ⟨?_, ?_, ?_, ?_, ?_⟩
      · simp only [ascA, a1, b1, Bool.and_self]
      · rw [wtA, List.length_cons, Nat.succ_mul]; omega
      · rw [PyData.hasDictAll, a3, b3]; rfl
      · simp only [PyData.depthAll]; omega
      · simp only [PyData.showableAll, a5, b5, Bool.and_self]
  obtain ⟨b1, b2, b3, b4, b5⟩ := key ds h
  have : ds.length * 5002 ≤ 10 * 5002 := Nat.mul_le_mul_right _ hl
  refine repr_fine (.inl ⟨ds, rfl⟩) (by rw [asc]; exact b1) (by rw [wt]; omega) (by rw [PyData.hasDict]; exact b3) (by rw [PyData.depth]; omega) (by rw [PyData.showable]; exact b5)
theorem path_fine {ps : List (List Nat)} (h : Road ps) : asc (P ps) = true ∧ wt (P ps) ≤ 2002 ∧ (P ps).hasDict = false ∧ (P ps).depth = 0 ∧ (P ps).showable = true :=
  word_fine _ (path_asc h.1) (Nat.le_trans (path_len h.2 h.1) (by decide))
theorem noR_ok {n B : Nat} {es : List (PyData × PyData)} (ht : TreeB n B es) {w : List Nat} (h : w.all (btw 32 126) = true) (hl : w.length ≤ 200) : ResOk (noR es (tx w)) :=
  ⟨tree_eqOk ht, tuple_repr ⟨_, rfl⟩ (pair_fine (word_fine noW (by decide) (by decide)) (word_fine w h hl)), list_repr (ds := []) (Nat.zero_le _) (fun d hd => by cases hd), Nat.zero_le _⟩
theorem cnt_of {v : PyData} (h : NodeB 1000 v) : 0 ≤ cntD v ∧ cntD v ≤ ((1000 : Nat) : Int) := by
  obtain ⟨t, c, m, o, rfl, _, hc, _, _⟩ := h
  exact hc
theorem Deed.ok {d : PyData} {ps : List (List Nat)} {r : List (PyData × PyData) → Res} (h : Deed d ps r) {n : Nat} {es : List (PyData × PyData)} (ht : TreeB n 1000 es) : ResOk (r es) := by
  have no1 := noR_ok ht (w := lacksW) (by decide) (by decide)
  have no2 := noR_ok ht (w := countW) (by decide) (by decide)
  have no3 := noR_ok ht (w := kidsW) (by decide) (by decide)
  have okf := word_fine okW (by decide) (by decide)
  cases h with
  | @put ps t c hr htx hc hf =>
    show ResOk (putR es ps (tx t) c)
    unfold putR
    cases hv : lookD es (keyP ps) with
    | none => exact no1
    | some v =>
      have hn := ht.node hv
      obtain ⟨c0, c1⟩ := cnt_of hn
      show ResOk (if wants c v = true then _ else _)
      split
      · obtain ⟨n1, n2⟩ := num_fine c0 c1
        refine ⟨put_eqOk (tree_eqOk ht) ?_, tuple_repr ⟨_, rfl⟩ (pair_fine okf ⟨rfl, by omega, rfl, rfl, n2⟩), list_repr (by simp) fun d hd => ?_, Nat.le_of_ble_eq_true rfl⟩
        · obtain ⟨t', c', m, o, rfl, _, _, _, ho⟩ := hn
          have : o.hasDict = false ∧ o.depth = 0 := by
            rcases ho with rfl | ⟨w, rfl, _⟩ <;> exact ⟨rfl, rfl⟩
          unfold eqOk putN
          simp [PyData.hasDict, PyData.hasDictAll, PyData.depth, PyData.depthAll, this.1, this.2]
        · cases List.mem_singleton.mp hd
          exact pair_fine (word_fine textW (by decide) (by decide)) (path_fine hr)
      · exact no2
  | @drop ps c hr hne hc hf =>
    show ResOk (dropR es ps c)
    unfold dropR
    cases hv : lookD es (keyP ps) with
    | none => exact no1
    | some v =>
      show ResOk (if wants c v = true then _ else _)
      split
      · split
        · refine ⟨drop_eqOk (tree_eqOk ht), tuple_repr ⟨_, rfl⟩ (pair_fine okf none_fine), list_repr (by simp) fun d hd => ?_, Nat.le_of_ble_eq_true rfl⟩
          have hr2 : Road ps.dropLast := ⟨fun p hp => hr.1 p (List.dropLast_subset _ hp), by have := hr.2; rw [List.length_dropLast]; omega⟩
          simp only [List.mem_cons, List.not_mem_nil, or_false] at hd
          rcases hd with rfl | rfl
          · exact pair_fine (word_fine goneW (by decide) (by decide)) (path_fine hr)
          · exact pair_fine (word_fine kidsW (by decide) (by decide)) (path_fine hr2)
        · exact no3
      · exact no2
  | @see ps c hr hc hf =>
    show ResOk (seeR es ps c)
    unfold seeR
    cases hv : lookD es (keyP ps) with
    | none => exact no1
    | some v =>
      obtain ⟨c0, c1⟩ := cnt_of (ht.node hv)
      obtain ⟨n1, n2⟩ := num_wt c0 c1
      show ResOk (if wants c v = true then _ else _)
      split
      · exact ⟨tree_eqOk ht, tuple_repr ⟨_, rfl⟩ (pair_fine okf ⟨rfl, by omega, rfl, rfl, n2⟩), list_repr (ds := []) (Nat.zero_le _) (fun d hd => by cases hd), Nat.zero_le _⟩
      · exact no2
theorem whyD_none {es : List (PyData × PyData)} {ps : List (List Nat)} {c : PyData} (h : lookD es (keyP ps) = none) : whyD es ps c = tx lacksW := by unfold whyD; rw [h]
theorem whyD_no {es : List (PyData × PyData)} {ps : List (List Nat)} {c v : PyData} (h : lookD es (keyP ps) = some v) (hw : wants c v = false) : whyD es ps c = tx countW := by
  unfold whyD
  rw [h]
  show (if wants c v = true then _ else _) = _
  rw [hw]
  rfl
theorem whyD_yes {es : List (PyData × PyData)} {ps : List (List Nat)} {c v : PyData} (h : lookD es (keyP ps) = some v) (hw : wants c v = true) : whyD es ps c = .none := by
  unfold whyD
  rw [h]
  show (if wants c v = true then _ else _) = _
  rw [hw]
  rfl
end L2.DL

set_option maxRecDepth 100000
set_option maxHeartbeats 4000000
/-! DL29: a number in six figures within an f-string. -/
namespace L2.DL
section
open PySem PySem.Spec PyProof.Rows PySem.Builtin PySem.Builtin.Str PySem.Builtin.Int
theorem gives06 (a : Int) (t u : Tok) (h : a.natAbs.log2 < 1920) : Gives («int.__format__» ⟨[.int a t, .str "06d" u], []⟩) (.str (intSpecTextOf "06d" a)) := by
  intro prog w A R s hq
  unfold PySem.Builtin.«int.__format__»
  simp only [selfAndOne, noKeywords, Int.intOfSelf, asInt?, asStr?, List.isEmpty_nil, if_true, pure_bind, bind_assoc]
  rw [if_neg (show ¬ (Value.str "06d" u == Value.none) = true from fun z => nomatch z)]
  refine wpAny_bind (wpAny_typeNameOf (T := "str") (typeIs_str _ _ _) (by decide) fun _ => ?_)
  rw [if_neg (show ¬ ((Str.ofString "06d").length == 0) = true by decide)]
  rw [if_neg (by decide)]
  refine wpAny_bind (wpAny_typeNameOfCut_int ?_)
  conv => arg 3; whnf
  rw [PySem.overDigitLimit_small h]
  show wpAny _ _ (retStr _) _ _ _
  have e : ∀ y, y = intSpecTextOf "06d" a → wpAny (model prog w) A.in1 (retStr y) (fun fin s' => match fin with
      | .done f => R (.ok f) s'
      | .again c' => c'.quiet = true ∧ codeAny (model prog w) A c' R s') (fun e s' => R (.error e) s') s := fun y hy => by
    subst hy
    exact (Gives.of_eq rfl : Gives (retStr (intSpecTextOf "06d" a)) (.str (intSpecTextOf "06d" a))) prog w A R s hq
  refine e _ ?_
  by_cases hz : a < 0
  · rw [decide_eq_true hz]
    unfold intSpecTextOf intSpecText intField'
    rw [decide_eq_true hz]
    rfl
  · rw [decide_eq_false hz]
    unfold intSpecTextOf intSpecText intField'
    rw [decide_eq_false hz]
    rfl
end
open PySem PySem.Spec PyProof.Rows
def sixS (n : Int) : Str := intSpecTextOf "06d" n
def sixL (n : Int) : List Nat := (sixS n).cps.toList
theorem six_all : ∀ n : Fin 1003, ((sixS ((n.val : Nat) : Int)).length == 6 && (sixL ((n.val : Nat) : Int)).all (fun c => decide (c ∈ figuresL)) && (cutS ("00000" ++ (toString ((n.val : Nat) : Int) : String)) (some (-6)) none == sixS ((n.val : Nat) : Int)) &&
    decide ((((toString ((n.val : Nat) : Int) : String) : Str)).length ≤ 6)) = true := by decide +kernel
def sixOk (n : Int) : Bool := decide (0 ≤ n ∧ n ≤ 999999) && ((sixS n).length == 6 && (sixL n).all (fun c => decide (c ∈ figuresL)) && (cutS ("00000" ++ (toString n : String)) (some (-6)) none == sixS n) &&
    decide ((((toString n : String) : Str)).length ≤ 6))
theorem sixOk_small {n : Int} (h0 : 0 ≤ n) (h1 : n ≤ 1002) : sixOk n = true := by
  obtain ⟨k, rfl⟩ := Int.eq_ofNat_of_zero_le h0
  have h := six_all ⟨k, by omega⟩
  unfold sixOk
  rw [decide_eq_true ⟨h0, by omega⟩, Bool.true_and]
  exact h
theorem six_ok {n : Int} (h : sixOk n = true) : (0 ≤ n ∧ n ≤ 999999) ∧ (sixL n).length = 6 ∧ (∀ c ∈ sixL n, c ∈ figuresL) ∧ cutS ("00000" ++ (toString n : String)) (some (-6)) none = SX.S (sixL n) ∧ (((toString n : String) : Str)).length ≤ 6 := by
  unfold sixOk at h
  simp only [Bool.and_eq_true, List.all_eq_true, decide_eq_true_eq] at h
  obtain ⟨h0, ⟨⟨a, b⟩, c⟩, d⟩ := h
  refine ⟨h0, ?_, b, ?_, d⟩
  · unfold sixL
    rw [st_len]
    exact eq_of_beq a
  · unfold sixL
    rw [SX.S_tl]
    exact (SX.S_tl _).symm.trans ((congrArg SX.S (by
      have := (PyProof.Rows.toList_beq (cutS ("00000" ++ (toString n : String)) (some (-6)) none) (sixS n)).trans c
      exact eq_of_beq this)).trans (SX.S_tl _))
theorem six_of {n : Int} (h0 : 0 ≤ n) (h1 : n ≤ 1002) : (sixL n).length = 6 ∧ (∀ c ∈ sixL n, c ∈ figuresL) ∧ cutS ("00000" ++ (toString n : String)) (some (-6)) none = SX.S (sixL n) ∧ (((toString n : String) : Str)).length ≤ 6 := (six_ok (sixOk_small h0 h1)).2
/-- a number that an f-string writes with six figures or more -/
def fmtOk (n : Int) : Bool := decide (0 ≤ n ∧ n ≤ 1000000000000) && (decide ((sixL n).length ≤ 20) && (sixL n).all (fun c => decide (c ∈ figuresL)))
theorem fmt_ok {n : Int} (h : fmtOk n = true) : (0 ≤ n ∧ n ≤ 1000000000000) ∧ (sixL n).length ≤ 20 ∧ ∀ c ∈ sixL n, c ∈ figuresL := by
  unfold fmtOk at h
  simp only [Bool.and_eq_true, List.all_eq_true, decide_eq_true_eq] at h
  exact h
theorem fmt_of_six {n : Int} (h : sixOk n = true) : fmtOk n = true := by
  obtain ⟨⟨h0, h1⟩, l, f, _, _⟩ := six_ok h
  unfold fmtOk
  simp only [Bool.and_eq_true, List.all_eq_true, decide_eq_true_eq]
  exact ⟨⟨h0, by omega⟩, by omega, f⟩
theorem fmt_small {n : Int} (h0 : 0 ≤ n) (h1 : n ≤ 1002) : fmtOk n = true := fmt_of_six (sixOk_small h0 h1)
section
variable {X : Cx} {e a b : Expr} {pos : Pos} {ta tb : DTE}
def tFmt6 (te : TE) : TE := fun σ H Q => te σ H fun x H1 => ∃ i : Int, x = .int i ∧ i.natAbs.log2 < 1920 ∧ (sixS i).length ≤ sizeLine ∧ Q (.str (sixS i)) H1
theorem pe_fmt6 {te : TE} {pos p1 p2 : Pos} {j : Nat} (he : PE X e te) : PE X (.FormattedValue e (-1) (some (.JoinedStr [.Constant (.str "06d") j p1] p2)) pos) (tFmt6 te) := by
  refine ⟨fun pins s σ H Q I h => ?_⟩
  refine wpAny_FormattedValue_spec (thn (he.run pins s σ H _ I h) fun v s1 hv => ?_)
  obtain ⟨x, H1, I1, r1, i, rfl, hl, hz, q⟩ := hv
  obtain ⟨t, rfl⟩ := r1
  have hsp : PE X (.JoinedStr [.Constant (.str "06d") j p1] p2) (tC (.str "06d")) := pe_joined1 pe_str
  refine thn (hsp.run pins s1 σ H1 (fun y H2 => y = .str "06d" ∧ H2 = H1) I1 ⟨rfl, rfl⟩) fun r s2 hr => ?_
  obtain ⟨y, H2, I2, r2, rfl, rfl⟩ := hr
  obtain ⟨t2, rfl⟩ := r2
  refine ⟨"06d", t2, rfl, ?_⟩
  exact wpAny_formatField_spec (by decide) (fun s' => typeIs_int s' i t) F.slot_int_format F.entry_int_format (fun _ _ => F.args_int_format_2 _ _) (fun u => gives06 i t u hl) ⟨.str (sixS i), _, I2.tok _, ⟨_, rfl⟩, q⟩ (by decide) hz
/-- f"{a}-{b:06d}" -/
def eFmt3 (ta tb : DTE) : DTE := fun s Q => ta s fun x s1 => (∃ p : List Nat, x.data = tx p ∧ p.length ≤ 1000) ∧ tb s1 fun y s2 => ∃ (p : List Nat) (i : Int), x.data = tx p ∧ y.data = .int i ∧ fmtOk i = true ∧ Q (.fz (tx (p ++ 45 :: sixL i))) s2
theorem log_six {i : Int} (h0 : 0 ≤ i) (h1 : i ≤ 1000000000000) : i.natAbs.log2 < 1920 := by
  obtain ⟨k, rfl⟩ := Int.eq_ofNat_of_zero_le h0
  rw [Int.natAbs_natCast]
  by_cases z : k = 0
  · subst z; decide
  · exact (Nat.log2_lt z).mpr (Nat.lt_of_lt_of_le (show k < 2 ^ 40 by omega) (Nat.pow_le_pow_right (by decide) (by decide)))
theorem log_small {i : Int} (h0 : 0 ≤ i) (h1 : i ≤ 1002) : i.natAbs.log2 < 1920 := log_six h0 (by omega)
theorem de_fmt3 {pa pb pc p1 p2 : Pos} {j jc : Nat} (ha : DE X a ta) (hb : DE X b tb) :
    DE X (.JoinedStr [.FormattedValue a (-1) none pa, .Constant (.str "-") jc pc, .FormattedValue b (-1) (some (.JoinedStr [.Constant (.str "06d") j p1] p2)) pb] pos) (eFmt3 ta tb) := by
  refine ⟨fun s Q Q' hq h => ha.mono _ _ _ (fun x s1 ⟨h0, h1⟩ => ⟨h0, hb.mono _ _ _ (fun y s2 ⟨p, i, a1, a2, a4, q⟩ => ⟨p, i, a1, a2, a4, hq _ _ q⟩) h1⟩) h,
    PE.weak (pe_joined (PJ.cons (pe_fmt ha.pe) (PJ.cons pe_str (PJ.cons (pe_fmt6 hb.pe) PJ.nil)))) fun σ H Q ⟨f, Z, fp, s, r, h⟩ => ?_⟩
  have hz : (2000 : Nat) ≤ sizeLine := by decide
  refine ha.go r h fun x s1 Z1 fp1 v H1 z1 r1 p1 ⟨⟨p, hx, hlen⟩, h1⟩ => ?_
  rw [hx] at p1
  have okp : sok (SX.S p) = true := by
    cases p1 with
    | str _ h => exact h
  have hv := p1.str_inv
  subst hv
  have e0 : Str.empty ++ SX.S p = SX.S p := Str.empty_append _
  have hl := len_S p
  have h1' : Str.length "-" = 1 := by decide
  refine .inl ⟨SX.S p, rfl, by omega, SX.S p, rfl, by rw [e0]; omega, "-", rfl, by rw [e0, strLen_append]; omega, ?_⟩
  refine hb.go r1 h1 fun y s2 Z2 fp2 w H2 z2 r2 p2 ⟨q, i, e1, e2, e45, k⟩ => ?_
  rw [hx] at e1
  rw [e2] at p2
  cases p2
  obtain ⟨⟨e4, e5⟩, f1, f2⟩ := fmt_ok e45
  have hs6 : (sixS i).length ≤ 20 := by rw [← st_len]; exact f1
  have e1 : p = q := by
    injection e1 with e1
    exact SX.S_inj e1
  subst e1
  refine ⟨i, rfl, log_six e4 e5, by omega, sixS i, rfl, by rw [e0, strLen_append, strLen_append]; omega, ?_⟩
  have e : Str.empty ++ SX.S p ++ "-" ++ sixS i = SX.S (p ++ 45 :: sixL i) := by
    rw [e0, show ("-" : Str) = SX.S [45] from rfl, show sixS i = SX.S (sixL i) from (SX.S_tl _).symm, SX.S_cat, SX.S_cat]
    simp
  show Q (.str (Str.empty ++ SX.S p ++ "-" ++ sixS i)) H2
  rw [e]
  have okd : sok (SX.S (p ++ 45 :: sixL i)) = true := by
    rw [← e, e0]
    refine sok_app (sok_app okp (by decide +kernel)) (sok_iff.mpr fun c hc => ?_)
    have hc' : c ∈ figuresL := f2 c hc
    have : figuresL.all (fun c => decide (c < 0x110000)) = true := by decide
    exact of_decide_eq_true (List.all_eq_true.mp this c hc')
  exact (Told.from k (z1.trans z2)).flat r2 (.str _ okd)
end
end L2.DL

set_option maxRecDepth 100000
set_option maxHeartbeats 4000000
/-! DL30: make: what it tells, as data. -/
namespace L2.DL
open PySem PySem.Spec PyProof.Rows
abbrev parentW : List Nat := [112, 97, 114, 101, 110, 116]
abbrev ownW : List Nat := [111, 119, 110]
abbrev thereW : List Nat := [116, 104, 101, 114, 101]
abbrev fullW : List Nat := [102, 117, 108, 108]
abbrev madeW : List Nat := [109, 97, 100, 101]
def madeD : PyData → Int
  | .tuple [_, _, .int m, _] => m
  | _ => 0
def freeD : PyData → Bool
  | .tuple [_, _, _, .none] => true
  | _ => false
def incN : PyData → PyData
  | .tuple [t, c, .int m, o] => .tuple [t, c, .int (m + 1), o]
  | v => v
def newP (a : List Nat) (num : Bool) (m : Int) : List Nat := if num = true then a ++ 45 :: sixL m else a
def mkN (t who : PyData) (own : Bool) : PyData := .tuple [t, .int 0, .int 0, if own = true then who else .none]
def mkR (es : List (PyData × PyData)) (above path : List Nat) (v t who : PyData) (own : Bool) : Res :=
  if freeD v = true then (if (lookD es (.inr (SX.S path))).isSome = true then noR es (tx thereW)
    else if 60 ≤ es.length then noR es (tx fullW)
    else (putD (putD es (.inr (SX.S path)) (mkN t who own)) (.inr (SX.S above)) (incN v), .tuple [tx okW, tx path], [.tuple [tx madeW, tx path], .tuple [tx kidsW, tx above]]))
  else noR es (tx ownW)
def makeR (es : List (PyData × PyData)) (ps : List (List Nat)) (t who : PyData) (own num : Bool) : Res := match lookD es (keyP ps.dropLast) with
  | none => noR es (tx parentW)
  | some v => mkR es (pathL ps.dropLast) (newP (pathL ps) num (madeD v)) v t who own
theorem makeR_none {es : List (PyData × PyData)} {ps : List (List Nat)} {t who : PyData} {own num : Bool} (h : lookD es (keyP ps.dropLast) = none) : makeR es ps t who own num = noR es (tx parentW) := by unfold makeR; rw [h]
theorem makeR_some {es : List (PyData × PyData)} {ps : List (List Nat)} {t who v : PyData} {own num : Bool} (h : lookD es (keyP ps.dropLast) = some v) : makeR es ps t who own num = mkR es (pathL ps.dropLast) (newP (pathL ps) num (madeD v)) v t who own := by unfold makeR; rw [h]
def makeDeed (ps : List (List Nat)) (t : List Nat) (own num : Bool) : PyData := .tuple [tx makeW, P ps, tx t, .bool own, .bool num]
/-- a make, well said -/
structure MakeOk (ps : List (List Nat)) (t : List Nat) (num : Bool) : Prop where
  road : Road ps
  ne : ps ≠ []
  txt : textB t = true
  num : num = true → wordB (lastL (pathL ps)) = true
theorem MakeOk.good {ps : List (List Nat)} {t : List Nat} {num : Bool} (h : MakeOk ps t num) (own : Bool) : itemB (makeDeed ps t own num) = true ∧ plainB (makeDeed ps t own num) = true := by
  have hp : smallB (P ps) = true := sm_tx (Nat.le_trans (path_len h.road.2 h.road.1) (by decide))
  refine ⟨?_, ?_⟩
  · show List.all [tx makeW, P ps, tx t, .bool own, .bool num] smallB = true
    simp only [List.all_cons, List.all_nil, hp, sm_tx (Nat.le_trans (text_asc h.txt).1 (by decide)), Bool.and_true]
    rfl
  · cases num with
    | true =>
      show (pathB (pathL ps) && (true && (textB t && (true && wordB (lastL (pathL ps)))))) = true
      rw [path_tx h.road, h.txt, h.num rfl]
      rfl
    | false =>
      show (pathB (pathL ps) && (true && (textB t && (true && !decide (pathL ps = [47]))))) = true
      rw [path_tx h.road, h.txt, decide_eq_false fun z => h.ne ((pathL_ne h.road.1).mp z)]
      rfl
/-- two keys, one that is there and one that isn't: either may be put first -/
theorem putD_comm {es : List (PyData × PyData)} {ka kq : Key} {d e : PyData} (ha : (lookD es ka).isSome = true) (hq : lookD es kq = none) : putD (putD es ka e) kq d = putD (putD es kq d) ka e := by
  have na : (es.any fun x => decide (toKey x.1 = some ka)) = true := by
    rw [List.any_eq_true]
    obtain ⟨v, hv⟩ := Option.isSome_iff_exists.mp ha
    obtain ⟨x, h1, h2, _⟩ := lookD_mem hv
    exact ⟨x, h1, decide_eq_true h2⟩
  have nq : ∀ x ∈ es, toKey x.1 ≠ some kq := fun x hx h => by
    obtain ⟨v, hv⟩ := lookD_some hx h
    rw [hq] at hv
    cases hv
  have hne : ka ≠ kq := fun z => by
    subst z
    rw [hq] at ha
    cases ha
  have e1 : putD es ka e = es.map fun x => if toKey x.1 = some ka then (x.1, e) else x := by
    unfold putD
    rw [if_pos na]
  have e2 : putD es kq d = es ++ [(kD kq, d)] := by
    unfold putD
    rw [if_neg]
    intro z
    obtain ⟨x, hx, h⟩ := List.any_eq_true.mp z
    exact nq x hx (of_decide_eq_true h)
  rw [e1, e2]
  have f1 : ¬ ((es.map fun x => if toKey x.1 = some ka then (x.1, e) else x).any fun x => decide (toKey x.1 = some kq)) = true := by
    intro z
    obtain ⟨x, hx, h⟩ := List.any_eq_true.mp z
    obtain ⟨y, hy, rfl⟩ := List.mem_map.mp hx
    have h := of_decide_eq_true h
    split at h
    · exact nq y hy h
    · exact nq y hy h
  have f2 : ((es ++ [(kD kq, d)]).any fun x => decide (toKey x.1 = some ka)) = true := by
    rw [List.any_append, na]
    rfl
  have l : putD (es.map fun x => if toKey x.1 = some ka then (x.1, e) else x) kq d = (es.map fun x => if toKey x.1 = some ka then (x.1, e) else x) ++ [(kD kq, d)] := by
    conv => lhs; unfold putD
    rw [if_neg f1]
  have r : putD (es ++ [(kD kq, d)]) ka e = (es ++ [(kD kq, d)]).map fun x => if toKey x.1 = some ka then (x.1, e) else x := by
    conv => lhs; unfold putD
    rw [if_pos f2]
  rw [l, r, List.map_append]
  congr 1
  show _ = [if toKey (kD kq) = some ka then _ else _]
  rw [if_neg]
  rw [toKey_kD]
  exact fun z => hne (Option.some.inj z).symm
theorem putD_look_other {es : List (PyData × PyData)} {ka kq : Key} {d : PyData} (ha : (lookD es ka).isSome = true) : (lookD (putD es kq d) ka).isSome = true := by
  obtain ⟨v, hv⟩ := Option.isSome_iff_exists.mp ha
  obtain ⟨x, h1, h2, _⟩ := lookD_mem hv
  have : ∃ y ∈ putD es kq d, toKey y.1 = some ka := by
    unfold putD
    split
    · refine ⟨_, List.mem_map.mpr ⟨x, h1, rfl⟩, ?_⟩
      split <;> exact h2
    · exact ⟨x, by simp [h1], h2⟩
  obtain ⟨y, hy, h3⟩ := this
  obtain ⟨w, hw⟩ := lookD_some hy h3
  rw [hw]
  rfl
theorem new_fine {ps : List (List Nat)} {num : Bool} {m : Int} (h : Road ps) (h0 : 0 ≤ m) (h1 : m ≤ 1002) : (newP (pathL ps) num m).all (btw 32 126) = true ∧ (newP (pathL ps) num m).length ≤ 200 := by
  have hl := path_len h.2 h.1
  obtain ⟨s1, s2, _, _⟩ := six_of h0 h1
  unfold newP
  cases num with
  | false => exact ⟨path_asc h.1, by show (pathL ps).length ≤ 200; omega⟩
  | true =>
    refine ⟨?_, ?_⟩
    · show (pathL ps ++ 45 :: sixL m).all (btw 32 126) = true
      rw [List.all_append, path_asc h.1, List.all_cons]
      show (true && (true && _)) = true
      rw [List.all_eq_true.mpr fun c hc => figure_asc (s2 c hc)]
      rfl
    · show (pathL ps ++ 45 :: sixL m).length ≤ 200
      rw [List.length_append, List.length_cons, s1]
      omega
theorem made_of {v : PyData} (h : NodeB 1000 v) : 0 ≤ madeD v ∧ madeD v ≤ 1002 := by
  obtain ⟨t, c, m, o, rfl, _, _, hm, _⟩ := h
  exact ⟨hm.1, Int.le_trans hm.2 (by decide)⟩
theorem inc_eqOk {v : PyData} (h : NodeB 1000 v) : eqOk (incN v) = true := by
  obtain ⟨t', c', m, o, rfl, _, _, _, ho⟩ := h
  have : o.hasDict = false ∧ o.depth = 0 := by
    rcases ho with rfl | ⟨w, rfl, _⟩ <;> exact ⟨rfl, rfl⟩
  unfold eqOk incN
  simp [PyData.hasDict, PyData.hasDictAll, PyData.depth, PyData.depthAll, this.1, this.2]
theorem mkN_eqOk (t w : List Nat) (own : Bool) : eqOk (mkN (tx t) (tx w) own) = true := by
  unfold eqOk mkN
  cases own <;> rfl
theorem makeR_ok {ps : List (List Nat)} {t w : List Nat} {own num : Bool} (h : MakeOk ps t num) {n : Nat} {es : List (PyData × PyData)} (ht : TreeB n 1000 es) : ResOk (makeR es ps (tx t) (tx w) own num) := by
  have no1 := noR_ok ht (w := parentW) (by decide) (by decide)
  have no2 := noR_ok ht (w := ownW) (by decide) (by decide)
  have no3 := noR_ok ht (w := thereW) (by decide) (by decide)
  have no4 := noR_ok ht (w := fullW) (by decide) (by decide)
  have okf := word_fine okW (by decide) (by decide)
  cases hv : lookD es (keyP ps.dropLast) with
  | none =>
    rw [makeR_none hv]
    exact no1
  | some v =>
    rw [makeR_some hv]
    have hn := ht.node hv
    obtain ⟨m0, m1⟩ := made_of hn
    obtain ⟨p1, p2⟩ := new_fine (num := num) h.road m0 m1
    generalize newP (pathL ps) num (madeD v) = path at p1 p2
    have hr2 : Road ps.dropLast := ⟨fun p hp => h.road.1 p (List.dropLast_subset _ hp), by have := h.road.2; rw [List.length_dropLast]; omega⟩
    unfold mkR
    split
    · split
      · exact no3
      · split
        · exact no4
        · refine ⟨put_eqOk (put_eqOk (tree_eqOk ht) (mkN_eqOk t w own)) (inc_eqOk hn), tuple_repr ⟨_, rfl⟩ (pair_fine okf (word_fine path p1 p2)), list_repr (by simp) fun d hd => ?_, Nat.le_of_ble_eq_true rfl⟩
          simp only [List.mem_cons, List.not_mem_nil, or_false] at hd
          rcases hd with rfl | rfl
          · exact pair_fine (word_fine madeW (by decide) (by decide)) (word_fine path p1 p2)
          · exact pair_fine (word_fine kidsW (by decide) (by decide)) (path_fine hr2)
    · exact no2
def cMake : (Res → OV) → DC := fun f svs Q => ∃ es ps t w own num, svs = [.dat (.dict es), .dat (makeDeed ps t own num), .dat (tx w)] ∧ TreeOk 63 es ∧ MakeOk ps t num ∧ Q (f (makeR es ps (tx t) (tx w) own num))
theorem cMake_mono (f : Res → OV) : (cMake f).Mono := fun _ _ _ hq ⟨es, ps, t, w, own, num, h1, h2, h3, h4⟩ => ⟨es, ps, t, w, own, num, h1, h2, h3, hq _ h4⟩
def c__done_make : DC := cMake Res.ov
theorem m__done_make : c__done_make.Mono := cMake_mono _
def c__law_make : DC := cMake fun r => .fz r.data
theorem m__law_make : c__law_make.Mono := cMake_mono _
end L2.DL

set_option maxRecDepth 100000
set_option maxHeartbeats 4000000
/-! DL31: two tuples that hold a dict each, and are alike: != says no. -/
namespace PySem.SeqAt
section
open AutoSeq1 (wpAny_loadPart')
open MeetsSeq MeetsSeq2 MeetsSeq3 SeqRoads2
theorem dl_ne_alike {prog : Program} {w : World} (l b : Addr) (xs ys : Array Value) (n m : Nat) (d1 d2 : Option Addr) (s1 s2 : Array (Option Value)) (hs : xs.size = ys.size) :
    MeetsIn prog w (Builtin.«tuple.__ne__» ⟨[.ref l, .ref b], []⟩) fun A R s =>
      s.heap.get? l = some { cls := .type "tuple", dict := d1, data := .seq xs n, slots := s1 } ∧ s.heap.get? b = some { cls := .type "tuple", dict := d2, data := .seq ys m, slots := s2 } ∧
        (∀ p ∈ xs.toList.zip ys.toList, EqIn prog w A.in1 s p.1 p.2 true) ∧ R (.ok (.ret (.bool false))) s :=
  .of_wp fun A R s h => by
    obtain ⟨hp, g, d, tk, os⟩ := s
    obtain ⟨hl, hb, he, hR⟩ := h
    have f2 := AutoSeq1.sub_tuple_tuple
    wp_walk using wpAny_loadPart' hl, wpAny_loadPart' hb, wpAny_forIn_list _ (fun rest q s' => q.1 = none ∧ s' = ⟨hp, g, d, tk, os⟩ ∧ ∀ p ∈ rest, p ∈ xs.toList.zip ys.toList) _
    case turn =>
      rintro ⟨y, x⟩ rest q s' ⟨_, rfl, hrest⟩
      refine wpAny_bind (he (y, x) (hrest (y, x) (by simp)) _ _ ?_)
      wp_walk
      exact ⟨rfl, rfl, fun p hp => hrest p (List.mem_cons_of_mem _ hp)⟩
    case fin =>
      rintro ⟨b1, b2⟩ s' ⟨hq, rfl, _⟩
      simp only at hq
      subst hq
      wp_walk
      exact ⟨_, rfl, by simpa [Builtin.Tuple.tupleCompareSizes, hs] using hR⟩
    case h => exact ⟨rfl, rfl, fun _ h => h⟩
end
end PySem.SeqAt
namespace L2.DL
open PySem PySem.Spec PyProof.Rows
section
variable {X : Cx} {pins : List (Addr × Obj)} {σ : L2.St} {Z H : Hp} {s : Shared}
theorem hits_at {A : Around} (I : Inv X pins σ H s) (zh : Same Z H) (hu : A.units + 65 < cLine) {ls : List (PyData × PyData)} {kl : List (Key × V)} {vl : List (Key × Value)} (rl : RpK X.K Z kl ls) (kvl : KV kl vl) (okl : (ls.all fun e => eqOk e.2) = true) :
    ∀ {es : List (PyData × PyData)} {ks : List (Key × V)} {vs : List (Key × Value)}, RpK X.K Z ks es → KV ks vs → (es.all fun e => eqOk e.2) = true →
      PySem.W.KeqHits A.in1 s vl vs (es.all fun e => oneEq ls (toKey e.1) e.2)
  | _, _, _, .nil, kv, _ => by
    cases kv
    exact .nil
  | _, _, _, .cons (k := k) (v := v) (d := d) (es := es) ok p r, kv, h => by
    cases kv with
    | cons h1 h2 =>
      rename_i q qs
      obtain ⟨k', u⟩ := q
      obtain ⟨e1, rv⟩ := h1
      have e1 : k = k' := e1
      subst e1
      rw [List.all_cons, Bool.and_eq_true] at h
      obtain ⟨hd, sd, nd⟩ := shaped_of zh p h.1
      have ih := hits_at I zh hu rl kvl okl r h2 h.2
      rw [List.all_cons]
      show PySem.W.KeqHits A.in1 s vl ((k, u) :: qs) (oneEq ls (toKey (kD k)) d && _)
      rw [toKey_kD]
      obtain ⟨l1, l2⟩ := rl.look k
      have rr := kvl.val k
      cases hl : lookD ls k with
      | none =>
        rw [l2 hl] at rr
        rw [oneEq_no hl, Bool.false_and]
        refine .miss ?_
        cases hv : valueAt vl k with
        | none => rfl
        | some y =>
          rw [hv] at rr
          exact (show False from rr).elim
      | some d' =>
        obtain ⟨v', e2, p'⟩ := l1 d' hl
        rw [e2] at rr
        obtain ⟨y, hy, ry⟩ := rr.some_of
        obtain ⟨e, he, _, e4⟩ := lookD_mem hl
        have okd : eqOk d' = true := by
          rw [← e4]
          exact List.all_eq_true.mp okl e he
        obtain ⟨hd', sd', nd'⟩ := shaped_of zh p' okd
        obtain ⟨as, ra⟩ := Dp.reads I d v u hd rv
        obtain ⟨bs, rb⟩ := Dp.reads I d' v' y hd' ry
        rw [oneEq_yes hl]
        exact .hit hy (PySem.W.keq_at (A := A) ra rb sd sd' (by show A.units + 1 + 64 < cLine; omega)) ih
theorem kv_keys : ∀ {ks : List (Key × V)} {vs : List (Key × Value)}, KV ks vs → ks.map (·.1) = vs.map (·.1) := fun h => by
  induction h with
  | nil => rfl
  | cons h _ ih => rw [List.map_cons, List.map_cons, ih, h.1]
theorem dct_same {A : Around} {es : List (PyData × PyData)} {x y : V} {v u : Value} (I : Inv X pins σ H s) (zh : Same Z H) (hu : A.units + 66 < cLine) (p1 : Rp X.K Z x (.dict es)) (p2 : Rp X.K Z y (.dict es)) (o : (es.all fun e => eqOk e.2) = true) (rx : RelV x v) (ry : RelV y u) :
    PySem.SeqAt.EqIn X.prog X.w A s v u true := by
  cases p1 with
  | @dct a k1 _ ha r1 =>
    cases p2 with
    | @dct b k2 _ hb r2 =>
      obtain rfl : v = Value.ref a := rx
      obtain rfl : u = Value.ref b := ry
      by_cases hab : a = b
      · subst hab
        exact (PySem.SeqAt.EqAt.same _).inModel _ _
      obtain ⟨_, la, va, kva, da⟩ := dk_rd I.hok (DL.Le.of zh _ _ ha)
      obtain ⟨_, lb, vb, kvb, db⟩ := dk_rd I.hok (DL.Le.of zh _ _ hb)
      refine PySem.SeqAt.EqIn.of_refs hab fun E Q hq => ?_
      have nd : (k1.map (·.1)).Nodup := by
        obtain ⟨_, _, _, _, _, _, _, _, nd⟩ := da
        rw [kv_keys kva]
        exact nd
      have hself := eqvK_self zh r1 nd o
      refine PySem.W.keq_eq (knd := mixKind X.prog X.w) la lb da db (by omega) (fun _ => hits_at I zh (by omega) r2 kvb o r1 kva o) ?_
      have e : (va.length == vb.length && es.all fun e => oneEq es (toKey e.1) e.2) = true := by
        rw [show va.length = es.length from (Paired.length kva).symm.trans (rpK_len r1), show vb.length = es.length from (Paired.length kvb).symm.trans (rpK_len r2)]
        unfold eqvK at hself
        rw [decide_eq_true rfl, Bool.true_and] at hself
        rw [hself]
        simp
      rw [e]
      exact hq
theorem dat_same {A : Around} {d : PyData} {x y : V} {v u : Value} (I : Inv X pins σ H s) (zh : Same Z H) (hu : A.units + 66 < cLine) (p1 : Rp X.K Z x d) (p2 : Rp X.K Z y d) (o : eqOk d = true) (rx : RelV x v) (ry : RelV y u) : PySem.SeqAt.EqIn X.prog X.w A.in1 s v u true := by
  obtain ⟨h1, s1, _⟩ := shaped_of zh p1 o
  obtain ⟨h2, s2, _⟩ := shaped_of zh p2 o
  obtain ⟨as, ra⟩ := Dp.reads I d x v h1 rx
  obtain ⟨bs, rb⟩ := Dp.reads I d y u h2 ry
  have e := PySem.W.keq_at (A := A) ra rb s1 s2 (by show A.units + 1 + 64 < cLine; omega)
  rw [SeqAt.eqv_refl _ (SeqAt.canLay_of_shaped s1)] at e
  exact e.inModel _ _
def rNeT (K : PySem.W.Frag) : R2 := fun x y H Q => ∃ es p q Z, Same Z H ∧ Rp K Z x (.tuple [.dict es, p, q]) ∧ Rp K Z y (.tuple [.dict es, p, q]) ∧ (es.all fun e => eqOk e.2) = true ∧ eqOk p = true ∧ eqOk q = true ∧ Q (.bl false) H
theorem op_neT (hu : X.A.units + 68 < cLine) : OpR X (compareOp .NotEq) (rNeT X.K) := by
  rintro pins s σ H x y v u Q I rx ry ⟨es, p, q, Z, zh, p1, p2, o, op, oq, k⟩
  cases p1 with
  | @tup a xs _ ha r1 =>
    cases p2 with
    | @tup b ys _ hb r2 =>
      obtain rfl : v = Value.ref a := rx
      obtain rfl : u = Value.ref b := ry
      obtain ⟨its, rv, ⟨⟨cls, dd, data, sl⟩, ho, hc, n, hd⟩, _⟩ := I.tuple ((Le.of zh).sqT ha)
      obtain ⟨its2, rv2, ⟨⟨cls2, dd2, data2, sl2⟩, ho2, hc2, n2, hd2⟩, _⟩ := I.tuple ((Le.of zh).sqT hb)
      simp only at hc hd hc2 hd2
      subst hc hd hc2 hd2
      rcases r1 with _ | ⟨a0, _ | ⟨a1, _ | ⟨a2, _ | _⟩⟩⟩
      rcases r2 with _ | ⟨b0, _ | ⟨b1, _ | ⟨b2, _ | _⟩⟩⟩
      rcases rv with _ | ⟨v0, _ | ⟨v1, _ | ⟨v2, _ | _⟩⟩⟩
      rcases rv2 with _ | ⟨u0, _ | ⟨u1, _ | ⟨u2, _ | _⟩⟩⟩
      refine wpAny_richCompare_same_room (T := "tuple") (op := .NotEq) ⟨_, ho, rfl⟩ ⟨_, ho2, rfl⟩ F.slot_tuple_ne (call_meetsIn F.slot_tuple_ne ⟨_, ho, rfl⟩ F.entry_tuple_ne (F.args_tuple_ne_2 _ _) (PySem.SeqAt.dl_ne_alike a b _ _ n n2 dd dd2 sl sl2 ?hs)
        ⟨ho, ho2, fun z hz => ?_, ⟨(fun x => nomatch x), ⟨.bl false, H, I, rfl, k⟩⟩⟩) (by omega)
      case hs => rfl
      simp at hz
      rcases hz with rfl | rfl | rfl
      · exact dct_same I zh (by show X.A.units + 1 + 66 < cLine; omega) a0 b0 o v0 u0
      · exact dat_same I zh (by omega) a1 b1 op v1 u1
      · exact dat_same I zh (by omega) a2 b2 oq v2 u2
def gNeT : PyData → PyData → Option OV
  | .tuple [.dict es, p, q], .tuple [.dict ls, p', q'] => if ((es.all fun e => eqOk e.2) && (eqOk p && (eqOk q && (PySem.Spec.samePairs es ls && (PySem.Spec.same p p' && PySem.Spec.same q q'))))) = true then some (.fz (.bool false)) else none
  | _, _ => none
theorem od_neT : OpD X (rNeT X.K) gNeT := fun {f Z fp s σ H vx vy x y o Q} r px py e t => by
  unfold gNeT at e
  split at e
  · obtain ⟨hc, e⟩ := some_if e
    subst e
    simp only [Bool.and_eq_true] at hc
    obtain ⟨h1, h2, h3, h4, h5, h6⟩ := hc
    obtain rfl := eqPairs_of_same _ _ h4
    obtain rfl := eq_of_same _ _ h5
    obtain rfl := eq_of_same _ _ h6
    exact ⟨_, _, _, Z, r.zh, px, py, h1, h2, h3, t.flat r (.bl _)⟩
  · cases e
theorem gNeT_same {es : List (PyData × PyData)} {p q : PyData} (h : (es.all fun e => eqOk e.2) = true) (hp : eqOk p = true) (hq : eqOk q = true) : gNeT (.tuple [.dict es, p, q]) (.tuple [.dict es, p, q]) = some (.fz (.bool false)) := by
  show (if ((es.all fun e => eqOk e.2) && (eqOk p && (eqOk q && (PySem.Spec.samePairs es es && (PySem.Spec.same p p && PySem.Spec.same q q))))) = true then some (OV.fz (.bool false)) else none) = _
  rw [h, hp, hq, samePairs_refl, same_refl, same_refl]
  rfl
theorem hu68 {N : List Str} {sc : Scope} {k : Nat} {dd : Bool} (hc : XC N sc k dd X) : X.A.units + 68 < cLine := by
  have := hc.room.un
  omega
end
/-- str(n).rjust(6, "0"): six figures -/
def rj6 (n : Int) : Bool := match gRjust (.str (toString n : String)) [.int 6, .str "0"] with
  | some (.fz (.str z)) => z == sixS n
  | _ => false
theorem rj_all : ∀ n : Fin 1003, rj6 ((n.val : Nat) : Int) = true := by decide +kernel
theorem rj_of {n : Int} (h0 : 0 ≤ n) (h1 : n ≤ 1002) : gRjust (.str (toString n : String)) [.int 6, .str "0"] = some (.fz (tx (sixL n))) := by
  obtain ⟨k, rfl⟩ := Int.eq_ofNat_of_zero_le h0
  have h := rj_all ⟨k, by omega⟩
  unfold rj6 at h
  split at h
  · rename_i z e
    rw [e]
    have h : (z == sixS ((k : Nat) : Int)) = true := h
    have h2 := (PyProof.Rows.toList_beq z (sixS ((k : Nat) : Int))).trans h
    have h3 : z = SX.S (sixL ((k : Nat) : Int)) := (SX.S_tl z).symm.trans (congrArg SX.S (eq_of_beq h2))
    rw [h3]
  · cases h
theorem find_putD {es : List (PyData × PyData)} {k : Key} {d : PyData} : lookD (putD es k d) k = some d := by
  unfold putD
  split
  · rename_i h
    unfold lookD
    induction es with
    | nil => cases h
    | cons x es ih =>
      by_cases hx : toKey x.1 = some k
      · simp [hx]
      · rw [List.any_cons, decide_eq_false hx, Bool.false_or] at h
        simp only [List.map_cons, if_neg hx, List.find?_cons, decide_eq_false hx]
        exact ih h
  · rename_i h
    unfold lookD
    have : (es.find? fun e => decide (toKey e.1 = some k)) = none := by
      rw [List.find?_eq_none]
      intro x hx hd
      exact h (List.any_eq_true.mpr ⟨x, hx, hd⟩)
    rw [List.find?_append, this]
    simp [toKey_kD]
theorem find_other {es : List (PyData × PyData)} {k j : Key} {d : PyData} (hne : j ≠ k) : lookD (putD es k d) j = lookD es j := by
  unfold putD
  split
  · unfold lookD
    induction es with
    | nil => rfl
    | cons x es ih =>
      rename_i h
      by_cases hx : toKey x.1 = some k
      · have hj : ¬ toKey x.1 = some j := fun z => hne (Option.some.inj (z.symm.trans hx))
        simp only [List.map_cons, if_pos hx, List.find?_cons, decide_eq_false hj]
        by_cases ha : (es.any fun e => decide (toKey e.1 = some k)) = true
        · exact ih ha
        · have : (es.map fun e => if toKey e.1 = some k then (e.1, d) else e) = es := by
            conv => rhs; rw [← List.map_id es]
            refine List.map_congr_left fun y hy => ?_
            rw [if_neg]
            · rfl
            · exact fun z => ha (List.any_eq_true.mpr ⟨y, hy, decide_eq_true z⟩)
          rw [this]
      · have ha : (es.any fun e => decide (toKey e.1 = some k)) = true := by
          rw [List.any_cons, decide_eq_false hx, Bool.false_or] at h
          exact h
        simp only [List.map_cons, if_neg hx, List.find?_cons]
        split
        · rfl
        · exact ih ha
  · unfold lookD
    rw [List.find?_append]
    cases (es.find? fun e => decide (toKey e.1 = some j)) with
    | some x => rfl
    | none =>
      have : ¬ toKey (kD k) = some j := by
        rw [toKey_kD]
        exact fun z => hne (Option.some.inj z).symm
      simp [this]
end L2.DL

set_option maxRecDepth 100000
set_option maxHeartbeats 4000000
/-! DL32: readings run by simp: each step's rule; what comes behind a step stands where simp doesn't look until the step is done. -/
namespace L2.DL
open PySem PySem.Spec
/-- what comes behind -/
class Kn (α : Type) where
  run : α → Prop
@[simp ↓] theorem kn_run {α : Type} {P : α → Prop} {v : α} : @Kn.run α ⟨P⟩ v = P v := rfl
def OptI {α : Type} (m : Option α) [k : Kn (α)] : Prop := ∃ o, m = some o ∧ k.run o
def Opt {α : Type} (m : Option α) (P : α → Prop) : Prop := @OptI α m ⟨P⟩
@[simp ↓] theorem opt_in {α : Type} {m : Option α} {P : α → Prop} : Opt m P = @OptI α m ⟨P⟩ := rfl
@[simp] theorem opt_some {α : Type} {v : α} {k : Kn α} : @OptI α (some v) k = k.run v := by simp [OptI]
@[simp] theorem opt_none {α : Type} {k : Kn α} : @OptI α none k = False := by simp [OptI]
theorem opt_mk {α : Type} {m : Option α} {v : α} {P : α → Prop} (h : m = some v) (p : P v) : @OptI α m ⟨P⟩ := ⟨v, h, p⟩
def OnBI (d : PyData) [k : Kn (Bool)] : Prop := ∃ x, d = .bool x ∧ k.run x
def OnB (d : PyData) (P : Bool → Prop) : Prop := @OnBI  d ⟨P⟩
@[simp ↓] theorem onB_in {d : PyData} {P : Bool → Prop} : OnB d P = @OnBI  d ⟨P⟩ := rfl
@[simp] theorem onB_mk {x : Bool} {k : Kn (Bool)} : @OnBI (.bool x) k = k.run x := by simp [OnBI]
def OnII (d : PyData) [k : Kn (Int)] : Prop := ∃ x, d = .int x ∧ k.run x
def OnI (d : PyData) (P : Int → Prop) : Prop := @OnII  d ⟨P⟩
@[simp ↓] theorem onI_in {d : PyData} {P : Int → Prop} : OnI d P = @OnII  d ⟨P⟩ := rfl
@[simp] theorem onI_mk {x : Int} {k : Kn (Int)} : @OnII (.int x) k = k.run x := by simp [OnII]
def OnSI (d : PyData) [k : Kn (Str)] : Prop := ∃ x, d = .str x ∧ k.run x
def OnS (d : PyData) (P : Str → Prop) : Prop := @OnSI  d ⟨P⟩
@[simp ↓] theorem onS_in {d : PyData} {P : Str → Prop} : OnS d P = @OnSI  d ⟨P⟩ := rfl
@[simp] theorem onS_mk {x : Str} {k : Kn (Str)} : @OnSI (.str x) k = k.run x := by simp [OnSI]
def OnLI (d : PyData) [k : Kn (List PyData)] : Prop := ∃ x, d = .list x ∧ k.run x
def OnL (d : PyData) (P : List PyData → Prop) : Prop := @OnLI  d ⟨P⟩
@[simp ↓] theorem onL_in {d : PyData} {P : List PyData → Prop} : OnL d P = @OnLI  d ⟨P⟩ := rfl
@[simp] theorem onL_mk {x : List PyData} {k : Kn (List PyData)} : @OnLI (.list x) k = k.run x := by simp [OnLI]
def OnTI (d : PyData) [k : Kn (List PyData)] : Prop := ∃ x, d = .tuple x ∧ k.run x
def OnT (d : PyData) (P : List PyData → Prop) : Prop := @OnTI  d ⟨P⟩
@[simp ↓] theorem onT_in {d : PyData} {P : List PyData → Prop} : OnT d P = @OnTI  d ⟨P⟩ := rfl
@[simp] theorem onT_mk {x : List PyData} {k : Kn (List PyData)} : @OnTI (.tuple x) k = k.run x := by simp [OnTI]
def OnDI (d : PyData) [k : Kn (List (PyData × PyData))] : Prop := ∃ x, d = .dict x ∧ k.run x
def OnD (d : PyData) (P : List (PyData × PyData) → Prop) : Prop := @OnDI  d ⟨P⟩
@[simp ↓] theorem onD_in {d : PyData} {P : List (PyData × PyData) → Prop} : OnD d P = @OnDI  d ⟨P⟩ := rfl
@[simp] theorem onD_mk {x : List (PyData × PyData)} {k : Kn (List (PyData × PyData))} : @OnDI (.dict x) k = k.run x := by simp [OnDI]
/-- first c, then P -/
def CondI (c : Prop) [k : Kn Unit] : Prop := c ∧ k.run ()
def Cond (c P : Prop) : Prop := @CondI c ⟨fun _ => P⟩
@[simp ↓] theorem cond_in {c P : Prop} : Cond c P = @CondI c ⟨fun _ => P⟩ := rfl
@[simp] theorem cond_true {k : Kn Unit} : @CondI True k = k.run () := by simp [CondI]
@[simp] theorem cond_false {k : Kn Unit} : @CondI False k = False := by simp [CondI]
theorem cond_mk {c P : Prop} (h : c) (p : P) : @CondI c ⟨fun _ => P⟩ := ⟨h, p⟩
/-- two ways -/
def BrI (b : Bool) [p : Kn Unit] [q : Kn Unit] : Prop := if b = true then p.run () else q.run ()
def Br (b : Bool) (P Q : Prop) : Prop := @BrI b ⟨fun _ => P⟩ ⟨fun _ => Q⟩
@[simp ↓] theorem br_in {b : Bool} {P Q : Prop} : Br b P Q = @BrI b ⟨fun _ => P⟩ ⟨fun _ => Q⟩ := rfl
@[simp] theorem br_true {p q : Kn Unit} : @BrI true p q = p.run () := rfl
@[simp] theorem br_false {p q : Kn Unit} : @BrI false p q = q.run () := by simp [BrI]
@[simp] theorem br_not {b : Bool} {p q : Kn Unit} : @BrI (!b) p q = @BrI b q p := by cases b <;> simp
theorem br_mk {b : Bool} {P Q : Prop} (h1 : b = true → P) (h2 : b = false → Q) : @BrI b ⟨fun _ => P⟩ ⟨fun _ => Q⟩ := by cases b <;> simp_all [BrI]
def OptBI (m : Option OV) [k : Kn (Bool)] : Prop := ∃ x, m = some (.fz (.bool x)) ∧ k.run x
def OptB (m : Option OV) (P : Bool → Prop) : Prop := @OptBI  m ⟨P⟩
@[simp ↓] theorem optB_in {m : Option OV} {P : Bool → Prop} : OptB m P = @OptBI  m ⟨P⟩ := rfl
@[simp] theorem optB_mk {x : Bool} {k : Kn Bool} : @OptBI (some (.fz (.bool x))) k = k.run x := by simp [OptBI]

/-! ### steps -/
def NamI (o : Option SV) (i : Nat) (s : DSt) [k : Kn (OV × DSt)] : Prop := match o with
  | some (.dat d) => k.run (.fz d, s)
  | some (.own o) => k.run (.fz o.data, s.set i (.dat o.data))
  | _ => False
@[simp] theorem namAt_dat {d : PyData} {i : Nat} {s : DSt} {k : Kn (OV × DSt)} : @NamI (some (.dat d)) i s k = k.run (.fz d, s) := rfl
@[simp] theorem namAt_own {d : OV} {i : Nat} {s : DSt} {k : Kn (OV × DSt)} : @NamI (some (.own d)) i s k = k.run (.fz d.data, s.set i (.dat d.data)) := rfl
section
variable {s : DSt} {Q : DK} {QT : Bool → DSt → Prop} {QA : List PyData → DSt → Prop} {E : DEn} {ta tb tc td tk tv te tx ti : DTE} {t u : DTT} {i j n : Nat}
@[simp ↓] theorem run_nam : eNam i s Q = @NamI s[i]? i s ⟨fun z => Q z.1 z.2⟩ := by
  unfold eNam NamI
  generalize s[i]? = o
  rcases o with _ | (_ | _ | _ | _) <;> rfl
@[simp ↓] theorem run_c {d : PyData} : eC d s Q = Q (.fz d) s := rfl
@[simp ↓] theorem run_bin {g : PyData → PyData → Option OV} : eBin g ta tb s Q = ta s fun x s1 => tb s1 fun y s2 => Opt (g x.data y.data) fun o => Q o s2 := rfl
@[simp ↓] theorem run_un {g : PyData → Option OV} : eUn g ta s Q = ta s fun x s1 => Opt (g x.data) fun o => Q o s1 := rfl
@[simp ↓] theorem run_B : eB te s QT = te s fun o s' => OnB o.data fun k => QT k s' := rfl
@[simp ↓] theorem run_tru : eTru te s QT = te s fun o s' => Cond (smallD o.data = true) (QT (truD o.data) s') := rfl
@[simp ↓] theorem run_tnot : tNotD t s QT = t s fun k s' => QT (!k) s' := rfl
@[simp ↓] theorem run_tand : tAndD t u s QT = t s fun k s' => Br k (u s' QT) (QT false s') := rfl
@[simp ↓] theorem run_tor : tOrD t u s QT = t s fun k s' => Br k (QT true s') (u s' QT) := rfl
@[simp ↓] theorem run_and : eAnd ta tb s Q = ta s fun x s1 => OnB x.data fun k => Br k (tb s1 Q) (Q (.fz (.bool false)) s1) := rfl
@[simp ↓] theorem run_or : eOr ta tb s Q = ta s fun x s1 => OnB x.data fun k => Br k (Q (.fz (.bool true)) s1) (tb s1 Q) := rfl
@[simp ↓] theorem run_not : eNot ta s Q = ta s fun x s1 => OnB x.data fun k => Q (.fz (.bool !k)) s1 := rfl
@[simp ↓] theorem run_if : eIf t ta tb s Q = t s fun k s' => Br k (ta s' Q) (tb s' Q) := rfl
@[simp ↓] theorem run_orT : eOrT ta tb s Q = ta s fun x s1 => Cond (smallD x.data = true) (Br (truD x.data) (Q (.fz x.data) s1) (tb s1 Q)) := rfl
@[simp ↓] theorem run_chain {g g' : PyData → PyData → Option OV} : eChain g g' ta tb tc s Q = ta s fun x s1 => tb s1 fun y s2 => OptB (g x.data y.data) fun k => Br k (tc s2 fun z s3 => Opt (g' y.data z.data) fun o => Q o s3) (Q (.fz (.bool false)) s2) := rfl
@[simp ↓] theorem run_anil : aNil s QA = QA [] s := rfl
@[simp ↓] theorem run_acons {tr : DTA} : aCons te tr s QA = te s fun o s1 => tr s1 fun ds s2 => QA (o.data :: ds) s2 := rfl
@[simp ↓] theorem run_lst {tr : DTA} : eLst tr s Q = tr s fun ds s' => Cond (ds.length ≤ sizeLine) (Q (.lst ds) s') := rfl
@[simp ↓] theorem run_tup {tr : DTA} : eTup tr s Q = tr s fun ds s' => Cond (ds.length ≤ sizeLine) (Q (.fz (.tuple ds)) s') := rfl
@[simp ↓] theorem run_blt {g : List PyData → Option OV} {tr : DTA} : eBlt g tr s Q = tr s fun ds s' => Opt (g ds) fun o => Q o s' := rfl
@[simp ↓] theorem run_isi {T : String} : eIsi T te s Q = te s fun o s' => Q (.fz (.bool (isiT T o.data))) s' := rfl
@[simp ↓] theorem run_mt0 {g : PyData → Option OV} : eMt0 g te s Q = te s fun x s1 => Opt (g x.data) fun o => Q o s1 := rfl
@[simp ↓] theorem run_mt1 {g : PyData → PyData → Option OV} : eMt1 g te ta s Q = te s fun x s1 => Cond (∃ z, x.data = .str z) (ta s1 fun y s2 => Opt (g x.data y.data) fun o => Q o s2) := rfl
@[simp ↓] theorem run_mtN {g : PyData → List PyData → Option OV} {tr : DTA} : eMtN g te tr s Q = te s fun x s1 => Cond (∃ z, x.data = .str z) (tr s1 fun ys s2 => Opt (g x.data ys) fun o => Q o s2) := rfl
@[simp ↓] theorem run_dct0 : eDct0 s Q = Q (.dct []) s := rfl
@[simp ↓] theorem run_dget : eDGet td tk s Q = td s fun d s1 => tk s1 fun kk s2 => OnD d.data fun es => Opt (toKey kk.data) fun k => Opt (lookD es k) fun v => Q (.fz v) s2 := by
  unfold eDGet OnD Opt OnDI OptI
  simp only [exists_and_left]
def OwnDI (o : Option SV) [k : Kn (List (PyData × PyData))] : Prop := ∃ x, o = some (.own (.dct x)) ∧ k.run x
def OwnD (o : Option SV) (P : List (PyData × PyData) → Prop) : Prop := @OwnDI  o ⟨P⟩
@[simp ↓] theorem ownD_in {o : Option SV} {P : List (PyData × PyData) → Prop} : OwnD o P = @OwnDI  o ⟨P⟩ := rfl
@[simp] theorem ownD_mk {x : List (PyData × PyData)} {k : Kn (List (PyData × PyData))} : @OwnDI (some (.own (.dct x))) k = k.run x := by simp [OwnDI]
def OwnLI (o : Option SV) [k : Kn (List PyData)] : Prop := ∃ x, o = some (.own (.lst x)) ∧ k.run x
def OwnL (o : Option SV) (P : List PyData → Prop) : Prop := @OwnLI  o ⟨P⟩
@[simp ↓] theorem ownL_in {o : Option SV} {P : List PyData → Prop} : OwnL o P = @OwnLI  o ⟨P⟩ := rfl
@[simp] theorem ownL_mk {x : List PyData} {k : Kn (List PyData)} : @OwnLI (some (.own (.lst x))) k = k.run x := by simp [OwnLI]
@[simp ↓] theorem run_dgetO : eDGetO i tk s Q = Cond (∃ es, s[i]? = some (.own (.dct es))) (tk s fun kk s2 => OwnD s2[i]? fun es => Opt (toKey kk.data) fun k => Opt (lookD es k) fun v => Q (.fz v) s2) := by
  unfold eDGetO OwnD Opt Cond OwnDI OptI CondI
  simp only [exists_and_left]
@[simp ↓] theorem run_dget1 : eDGet1 td tk s Q = td s fun d s1 => Cond (isDct d.data) (tk s1 fun kk s2 => OnD d.data fun es => Opt (toKey kk.data) fun k => Q (.fz (getD0 es k .none)) s2) := by
  unfold eDGet1 OnD Opt Cond OnDI OptI CondI
  simp only [exists_and_left]
@[simp ↓] theorem run_dget2 : eDGet2 td tk tx s Q = td s fun d s1 => Cond (isDct d.data) (tk s1 fun kk s2 => tx s2 fun y s3 => OnD d.data fun es => Opt (toKey kk.data) fun k => Q (.fz (getD0 es k y.data)) s3) := by
  unfold eDGet2 OnD Opt Cond OnDI OptI CondI
  simp only [exists_and_left]
@[simp ↓] theorem run_din {neg : Bool} : eDIn neg tk td s Q = tk s fun kk s1 => td s1 fun d s2 => OnD d.data fun es => Opt (toKey kk.data) fun k => Q (.fz (.bool ((lookD es k).isSome != neg))) s2 := by
  unfold eDIn OnD Opt OnDI OptI
  simp only [exists_and_left]
@[simp ↓] theorem run_peek : tPeek t s QT = t (froz s) fun b s' => Cond (s' = froz s) (QT b s) := rfl
@[simp ↓] theorem run_epeek : ePeek te s Q = te (froz s) fun o s' => Cond (s' = froz s) (Cond (flatD o.data = true) (Q (.fz o.data) s)) := rfl
@[simp] theorem froz_nil : froz [] = [] := rfl
@[simp] theorem froz_cons {x : SV} {r : DSt} : froz (x :: r) = x.froz :: froz r := rfl
@[simp] theorem sfroz_no : SV.froz .no = .no := rfl
@[simp] theorem sfroz_dat {d : PyData} : SV.froz (.dat d) = .dat d := rfl
@[simp] theorem sfroz_own {o : OV} : SV.froz (.own o) = .dat o.data := rfl
@[simp] theorem sfroz_pool : SV.froz .pool = .pool := rfl
@[simp] theorem data_fz {d : PyData} : (OV.fz d).data = d := rfl
@[simp] theorem data_lst {d : List PyData} : (OV.lst d).data = .list d := rfl
@[simp] theorem data_dct {d : List (PyData × PyData)} : (OV.dct d).data = .dict d := rfl
@[simp] theorem data_tup {d : List OV} : (OV.tup d).data = .tuple (OV.datas d) := rfl
@[simp] theorem datas_nil : OV.datas [] = [] := rfl
@[simp] theorem datas_cons {o : OV} {os : List OV} : OV.datas (o :: os) = o.data :: OV.datas os := rfl
@[simp] theorem sv_fz {d : PyData} : (OV.fz d).sv = .dat d := rfl
@[simp] theorem sv_lst {d : List PyData} : (OV.lst d).sv = .own (.lst d) := rfl
@[simp] theorem sv_dct {d : List (PyData × PyData)} : (OV.dct d).sv = .own (.dct d) := rfl
@[simp] theorem sv_tup {d : List OV} : (OV.tup d).sv = .own (.tup d) := rfl

/-! statements -/
@[simp ↓] theorem run_next : sNext E s = E.nx s := rfl
@[simp ↓] theorem run_seq {a b : DTS} : sSeq a b E s = a { E with nx := b E } s := rfl
@[simp ↓] theorem run_break : sBreak E s = E.bk s := rfl
@[simp ↓] theorem run_cont : sCont E s = E.ct s := rfl
@[simp ↓] theorem run_drop : sDrop te E s = te s fun _ s' => E.nx s' := rfl
@[simp ↓] theorem run_ret : sRet te E s = te s fun o _ => E.rt o := rfl
@[simp ↓] theorem run_retN : sRetN E s = E.rt (.fz .none) := rfl
@[simp ↓] theorem run_sif {a b : DTS} : sIf t a b E s = t s fun k s' => Br k (a E s') (b E s') := rfl
@[simp ↓] theorem run_asg : sAsg i te E s = te s fun o s' => Cond (i < s'.length) (E.nx (s'.set i o.sv)) := rfl
@[simp ↓] theorem run_dput : sDPutO j tk tv E s = tv s fun v s1 => Cond (∃ es, s1[j]? = some (.own (.dct es))) (tk s1 fun kk s2 => OwnD s2[j]? fun es => Opt (toKey kk.data) fun k => Cond (es.length < sizeLine) (E.nx (s2.set j (.own (.dct (putD es k v.data)))))) := by
  unfold sDPutO OwnD Opt Cond OwnDI OptI CondI
  simp only [exists_and_left]
@[simp ↓] theorem run_ddel : sDDelO j tk E s = Cond (∃ es, s[j]? = some (.own (.dct es))) (tk s fun kk s2 => OwnD s2[j]? fun es => Opt (toKey kk.data) fun k => Cond ((lookD es k).isSome = true) (E.nx (s2.set j (.own (.dct (dropD es k)))))) := by
  unfold sDDelO OwnD Opt Cond OwnDI OptI CondI
  simp only [exists_and_left]
@[simp ↓] theorem run_dpop : sDPopO j tk E s = Cond (∃ es, s[j]? = some (.own (.dct es))) (tk s fun kk s2 => OwnD s2[j]? fun es => Opt (toKey kk.data) fun k => Cond ((lookD es k).isSome = true) (E.nx (s2.set j (.own (.dct (dropD es k)))))) := by
  unfold sDPopO OwnD Opt Cond OwnDI OptI CondI
  simp only [exists_and_left]
@[simp ↓] theorem run_app : sApp i te E s = Cond (∃ ds, s[i]? = some (.own (.lst ds))) (te s fun o s' => OwnL s'[i]? fun ds => Cond (ds.length < sizeLine) (E.nx (s'.set i (.own (.lst (ds ++ [o.data])))))) := by
  unfold sApp OwnL Cond OwnLI CondI
  rfl
def TwoI (ds : List PyData) [k : Kn (PyData × PyData)] : Prop := ∃ d d', ds = [d, d'] ∧ k.run (d, d')
@[simp] theorem two_mk {a b : PyData} {k : Kn (PyData × PyData)} : @TwoI [a, b] k = k.run (a, b) := by
  unfold TwoI
  apply propext
  constructor
  · rintro ⟨d, d', e, h⟩
    cases e
    exact h
  · exact fun h => ⟨a, b, rfl, h⟩
@[simp ↓] theorem run_par {tr : DTA} : sPar i j tr E s = tr s fun ds s' => @TwoI ds ⟨fun z => Cond (i < s'.length) (Cond (j < s'.length) (E.nx ((s'.set i (.dat z.1)).set j (.dat z.2))))⟩ := rfl
@[simp ↓] theorem run_unp {is : List Nat} : sUnp is te E s = te s fun o s' => Opt o.parts fun os => Cond (is.length = os.length) (Cond (is.all (fun i => decide (i < s'.length)) = true) (E.nx (putAll is os s'))) := rfl
@[simp] theorem putAll_nil {os : List OV} : putAll [] os s = s := rfl
@[simp] theorem putAll_cons {i : Nat} {is : List Nat} {o : OV} {os : List OV} : putAll (i :: is) (o :: os) s = putAll is os (s.set i o.sv) := rfl
class KF where
  g : DG
  b : DTS
  e : DEn
/-- the turns of a walk -/
def ForI (ds : List PyData) (s : DSt) [k : KF] : Prop := forW k.g k.b ds k.e s
@[simp ↓] theorem run_for {wi : DTI} {g : DG} {b : DTS} : sFor wi g b E s = wi s fun ds s' => @ForI ds s' ⟨g, b, E⟩ := rfl
@[simp ↓] theorem forW_in {ds : List PyData} {g : DG} {b : DTS} : forW g b ds E s = @ForI ds s ⟨g, b, E⟩ := rfl
class KC where
  g : DG
  t : DTT
  e : DTE
  v : List Nat
  q : List PyData → DSt → Prop
/-- the turns of a comprehension -/
def CompI (ds acc : List PyData) (s : DSt) [k : KC] : Prop := compW k.g k.t k.e k.v ds acc s k.q
@[simp ↓] theorem run_never : sNever E s = False := rfl
@[simp ↓] theorem run_onone {P : Option Int → DSt → Prop} : oNone s P = P none s := rfl
@[simp ↓] theorem run_osome {P : Option Int → DSt → Prop} : oSome te s P = te s fun o s' => OnI o.data fun i => P (some i) s' := rfl
@[simp ↓] theorem run_sl {tl th : DTO} : eSl te tl th s Q = te s fun x s1 => tl s1 fun l s2 => th s2 fun u s3 => Opt (gSl x.data l u) fun o => Q o s3 := rfl
@[simp ↓] theorem run_iseq {P : List PyData → DSt → Prop} : iSeq te s P = te s fun o s' => OnL o.data fun ds => P ds s' := rfl
@[simp ↓] theorem run_itup {P : List PyData → DSt → Prop} : iTupD te s P = te s fun o s' => OnT o.data fun ds => P ds s' := rfl
@[simp ↓] theorem run_itext {P : List PyData → DSt → Prop} : iText te s P = te s fun o s' => OnS o.data fun x => P (signsD x) s' := rfl
def OneI (ds : List PyData) [k : Kn (PyData)] : Prop := ∃ d, ds = [d] ∧ k.run d
def One (ds : List PyData) (P : PyData → Prop) : Prop := @OneI  ds ⟨P⟩
@[simp ↓] theorem one_in {ds : List PyData} {P : PyData → Prop} : One ds P = @OneI  ds ⟨P⟩ := rfl
@[simp] theorem one_mk {a : PyData} {k : Kn PyData} : @OneI [a] k = k.run a := by simp [OneI]
@[simp ↓] theorem run_enum {tr : DTA} {P : List PyData → DSt → Prop} : iEnumD tr s P = tr s fun ds s' => One ds fun d => OnL d fun xs => P (numbered 0 xs) s' := by
  show tr s _ = tr s _
  congr 1
  funext ds s'
  apply propext
  constructor
  · rintro ⟨xs, e, h⟩
    exact ⟨_, e, _, rfl, h⟩
  · rintro ⟨_, e, xs, rfl, h⟩
    exact ⟨xs, e, h⟩
@[simp ↓] theorem run_range1 {tr : DTA} {P : List PyData → DSt → Prop} : iRange1 tr s P = tr s fun ds s' => One ds fun d => OnI d fun j => Cond (-(2 ^ 62) ≤ j) (Cond (j < 2 ^ 62) (P (ups 0 j.toNat) s')) := by
  show tr s _ = tr s _
  congr 1
  funext ds s'
  apply propext
  constructor
  · rintro ⟨j, e, h1, h2, h⟩
    exact ⟨_, e, _, rfl, h1, h2, h⟩
  · rintro ⟨_, e, j, rfl, h1, h2, h⟩
    exact ⟨j, e, h1, h2, h⟩
@[simp ↓] theorem run_gN {d : PyData} {P : DSt → Prop} : gN i d s P = Cond (i < s.length) (P (s.set i (.dat d))) := rfl
@[simp ↓] theorem run_gT {is : List Nat} {d : PyData} {P : DSt → Prop} : gT is d s P = OnT d fun ds => Cond (is.length = ds.length) (Cond (is.all (fun i => decide (i < s.length)) = true) (P (putAll is (ds.map .fz) s))) := rfl
@[simp ↓] theorem run_comp {wi : DTI} {gd : DG} {vs : List Nat} : eComp wi gd t te vs s Q = wi s fun ds s1 => @CompI ds [] (forgetAll vs s1) ⟨gd, t, te, vs, fun acc s2 => Q (.lst acc) s2⟩ := rfl
@[simp] theorem forget_nil : forgetAll [] s = s := rfl
@[simp] theorem forget_cons {v : Nat} {vs : List Nat} : forgetAll (v :: vs) s = (forgetAll vs s).set v .no := rfl
@[simp ↓] theorem run_tyes : tYesD s QT = QT true s := rfl
/-! calls -/
@[simp ↓] theorem run_pnil {P : List SV → DSt → Prop} : pNil s P = P [] s := rfl
@[simp ↓] theorem run_pdat {tr : DTP} {P : List SV → DSt → Prop} : pDat te tr s P = te s fun o s1 => tr s1 fun svs s2 => P (.dat o.data :: svs) s2 := rfl
@[simp ↓] theorem run_ppool {tr : DTP} {P : List SV → DSt → Prop} : pPool i tr s P = Cond (s[i]? = some .pool) (tr s fun svs s2 => Cond (s2[i]? = some .pool) (P (.pool :: svs) s2)) := rfl
/-- what a def is called with -/
def CallsI (c : DC) (svs : List SV) [k : Kn OV] : Prop := c svs k.run
def Calls (c : DC) (svs : List SV) (P : OV → Prop) : Prop := @CallsI c svs ⟨P⟩
@[simp ↓] theorem calls_in {c : DC} {svs : List SV} {P : OV → Prop} : Calls c svs P = @CallsI c svs ⟨P⟩ := rfl
@[simp ↓] theorem run_call {c : DC} {tp : DTP} : eCall n c tp s Q = tp s fun svs s' => Cond (svs.length = n) (Cond (onePool svs = true) (Calls c svs fun o => Q o s')) := rfl
end
end L2.DL

set_option maxRecDepth 100000
set_option maxHeartbeats 4000000
/-! DL33: what the operations tell, for simp; the last steps' rules. -/
namespace L2.DL
open PySem PySem.Spec
@[simp] theorem v_isS {l : List Nat} : (∃ z, tx l = .str z) = True := by simp
@[simp] theorem v_isS2 {x : Str} : (∃ z, PyData.str x = .str z) = True := by simp
@[simp] theorem v_isD {es : List (PyData × PyData)} : isDct (.dict es) = True := by simp [isDct]
@[simp] theorem v_ownD {es : List (PyData × PyData)} : (∃ ls, some (SV.own (.dct es)) = some (SV.own (.dct ls))) = True := by simp
@[simp] theorem v_ownL {es : List PyData} : (∃ ls, some (SV.own (.lst es)) = some (SV.own (.lst ls))) = True := by simp
theorem sz_le {n : Nat} (h : n ≤ 1000000) : n ≤ sizeLine := Nat.le_trans h (by decide)
@[simp] theorem sz_of {n : Nat} (h : n ≤ 1000000) : (n ≤ sizeLine) = True := by simp [sz_le h]
@[simp] theorem sz_lt {n : Nat} (h : n < 1000000) : (n < sizeLine) = True := by simp [Nat.lt_of_lt_of_le h (show 1000000 ≤ sizeLine by decide)]
theorem ixT {a : PyData} {ds : List PyData} {k : Nat} (h : ds[k]? = some a) : gIx (.tuple ds) (.int k) = some (.fz a) := gIx_nth h
theorem ixL {a : PyData} {ds : List PyData} {k : Nat} (h : ds[k]? = some a) : gIx (.list ds) (.int k) = some (.fz a) := gIx_nth h
@[simp] theorem v_ixT0 {a : PyData} {l : List PyData} : gIx (.tuple (a :: l)) (.int 0) = some (.fz a) := ixT (k := 0) rfl
@[simp] theorem v_ixT1 {a b : PyData} {l : List PyData} : gIx (.tuple (a :: b :: l)) (.int 1) = some (.fz b) := ixT (k := 1) rfl
@[simp] theorem v_ixT2 {a b c : PyData} {l : List PyData} : gIx (.tuple (a :: b :: c :: l)) (.int 2) = some (.fz c) := ixT (k := 2) rfl
@[simp] theorem v_ixT3 {a b c d : PyData} {l : List PyData} : gIx (.tuple (a :: b :: c :: d :: l)) (.int 3) = some (.fz d) := ixT (k := 3) rfl
@[simp] theorem v_ixT4 {a b c d e : PyData} {l : List PyData} : gIx (.tuple (a :: b :: c :: d :: e :: l)) (.int 4) = some (.fz e) := ixT (k := 4) rfl
@[simp] theorem v_ixL0 {a : PyData} {l : List PyData} : gIx (.list (a :: l)) (.int 0) = some (.fz a) := ixL (k := 0) rfl
@[simp] theorem v_ixL1 {a b : PyData} {l : List PyData} : gIx (.list (a :: b :: l)) (.int 1) = some (.fz b) := ixL (k := 1) rfl
@[simp] theorem v_ixL2 {a b c : PyData} {l : List PyData} : gIx (.list (a :: b :: c :: l)) (.int 2) = some (.fz c) := ixL (k := 2) rfl
theorem atI_last {ds : List PyData} : L2.atI ds (-1) = ds.getLast? := by
  unfold L2.atI ixN
  rw [if_neg (by decide)]
  cases ds with
  | nil => rfl
  | cons a l =>
    rw [if_pos (by simp; omega)]
    show (a :: l)[_]? = _
    rw [List.getLast?_eq_getElem?]
    congr 1
    simp
    omega
@[simp] theorem v_ixTm {ds : List PyData} : gIx (.tuple ds) (.int (-1)) = ds.getLast?.map .fz := by
  show (L2.atI ds (-1)).map OV.fz = _
  rw [atI_last]
@[simp] theorem v_ixLm {ds : List PyData} : gIx (.list ds) (.int (-1)) = ds.getLast?.map .fz := by
  show (L2.atI ds (-1)).map OV.fz = _
  rw [atI_last]
@[simp] theorem v_neg {i : Int} : gNeg (.int i) = some (.fz (.int (-i))) := rfl
@[simp] theorem v_eq {a b : List Nat} : gEq (tx a) (tx b) = some (.fz (.bool (decide (a = b)))) := gEq_tx a b
@[simp] theorem v_ne {a b : List Nat} : gNe (tx a) (tx b) = some (.fz (.bool (!decide (a = b)))) := gNe_tx a b
@[simp] theorem v_eqi {a b : Int} : gEq (.int a) (.int b) = some (.fz (.bool (decide (a = b)))) := gEq_i a b
@[simp] theorem v_nei {a b : Int} : gNe (.int a) (.int b) = some (.fz (.bool (!decide (a = b)))) := gNe_i a b
@[simp] theorem v_add {a b : Int} : gAdd (.int a) (.int b) = some (.fz (.int (a + b))) := rfl
@[simp] theorem v_sub {a b : Int} : DL.gSub (.int a) (.int b) = some (.fz (.int (a - b))) := rfl
@[simp] theorem v_addS {a b : List Nat} (h : a.length + b.length ≤ sizeLine) : gAdd (tx a) (tx b) = some (.fz (tx (a ++ b))) := gAdd_tx h
@[simp] theorem v_addL {a b : List PyData} (h : a.length + b.length ≤ sizeLine) : gAdd (.list a) (.list b) = some (.lst (a ++ b)) := gAdd_l h
@[simp] theorem v_addT {a b : List PyData} (h : a.length + b.length ≤ sizeLine) : gAdd (.tuple a) (.tuple b) = some (.fz (.tuple (a ++ b))) := gAdd_t h
@[simp] theorem v_lt {a b : Int} : gLt (.int a) (.int b) = some (.fz (.bool (decide (a < b)))) := rfl
@[simp] theorem v_le {a b : Int} : gLe (.int a) (.int b) = some (.fz (.bool (decide (a ≤ b)))) := rfl
@[simp] theorem v_gt {a b : Int} : gGt (.int a) (.int b) = some (.fz (.bool (decide (b < a)))) := rfl
@[simp] theorem v_ge {a b : Int} : gGe (.int a) (.int b) = some (.fz (.bool (decide (b ≤ a)))) := rfl
@[simp] theorem v_isN {d : PyData} : gIsN d .none = some (.fz (.bool (isNoneD d))) := rfl
@[simp] theorem v_notN {d : PyData} : gNotN d .none = some (.fz (.bool (!isNoneD d))) := rfl
@[simp] theorem v_n0 : isNoneD .none = true := rfl
@[simp] theorem v_n1 {x : Str} : isNoneD (.str x) = false := rfl
@[simp] theorem v_n2 {x : Int} : isNoneD (.int x) = false := rfl
@[simp] theorem v_n3 {x : Bool} : isNoneD (.bool x) = false := rfl
@[simp] theorem v_n4 {x : List PyData} : isNoneD (.tuple x) = false := rfl
@[simp] theorem v_n5 {x : List PyData} : isNoneD (.list x) = false := rfl
@[simp] theorem v_n6 {x : List (PyData × PyData)} : isNoneD (.dict x) = false := rfl
@[simp] theorem v_keyS {x : Str} : toKey (.str x) = some (.inr x) := rfl
@[simp] theorem v_keyI {x : Int} : toKey (.int x) = some (.inl x) := rfl
@[simp] theorem v_lenD {es : List (PyData × PyData)} : gLenD [.dict es] = some (.fz (.int es.length)) := rfl
@[simp] theorem v_lenL {es : List PyData} : gLen [.list es] = some (.fz (.int es.length)) := rfl
@[simp] theorem v_lenT {es : List PyData} : gLen [.tuple es] = some (.fz (.int es.length)) := rfl
@[simp] theorem v_lenS {a : List Nat} (h : a.length ≤ sizeLine) : gLen [tx a] = some (.fz (.int a.length)) := gLen_tx h
@[simp] theorem v_dict {es : List (PyData × PyData)} : gDict [.dict es] = some (.dct es) := rfl
@[simp] theorem v_intB {b : Bool} : gInt [.bool b] = some (.fz (.int (if b then 1 else 0))) := rfl
@[simp] theorem v_listOf {ds : List PyData} : gListOf [.list ds] = some (.lst ds) := rfl
@[simp] theorem v_tru0 : truD .none = false := rfl
@[simp] theorem v_tru1 {b : Bool} : truD (.bool b) = b := rfl
@[simp] theorem v_tru2 {i : Int} : truD (.int i) = !decide (i = 0) := by show (i != 0) = _; simp [bne, BEq.beq]
@[simp] theorem v_tru3 {ds : List PyData} : truD (.list ds) = !ds.isEmpty := rfl
@[simp] theorem v_tru4 {ds : List PyData} : truD (.tuple ds) = !ds.isEmpty := rfl
@[simp] theorem v_sm0 : smallD .none = true := rfl
@[simp] theorem v_sm1 {b : Bool} : smallD (.bool b) = true := rfl
@[simp] theorem v_sm2 {i : Int} : smallD (.int i) = true := rfl
@[simp] theorem v_sm3 {ds : List PyData} : smallD (.list ds) = true := rfl
@[simp] theorem v_sm4 {ds : List PyData} : smallD (.tuple ds) = true := rfl
@[simp] theorem v_fl0 : flatD .none = true := rfl
@[simp] theorem v_fl1 {b : Bool} : flatD (.bool b) = true := rfl
@[simp] theorem v_fl2 {i : Int} : flatD (.int i) = true := rfl
@[simp] theorem v_fl3 {x : Str} : flatD (.str x) = true := rfl
@[simp] theorem v_op0 : onePool [] = true := rfl
@[simp] theorem v_op1 {d : PyData} {r : List SV} : onePool (.dat d :: r) = onePool r := rfl
@[simp] theorem v_op2 {r : List SV} : onePool (.pool :: r) = r.all fun x => !isPool x := rfl
@[simp] theorem v_ip1 {d : PyData} : isPool (.dat d) = false := rfl
@[simp] theorem v_ip2 : isPool .pool = true := rfl
@[simp] theorem v_count {a : List Nat} {c : Nat} : gCount (tx a) (tx [c]) = some (.fz (.int ((a.count c : Nat) : Int))) := gCount_tx a c
@[simp] theorem v_in {c : Nat} {b : List Nat} : gInS (tx [c]) (tx b) = some (.fz (.bool (decide (c ∈ b)))) := gIn_tx c b
@[simp] theorem v_notin {c : Nat} {b : List Nat} : gNotInS (tx [c]) (tx b) = some (.fz (.bool (!decide (c ∈ b)))) := gNotIn_tx c b
theorem v_slTo {a b : PyData} {l : List PyData} : gSl (.tuple (a :: b :: l)) none (some 2) = some (.fz (.tuple [a, b])) := by
  show some (OV.fz (.tuple (cutD (a :: b :: l) none (some 2)))) = _
  rw [cut2]
section
variable {s : DSt} {Q : DK} {E : DEn} {te tk tv : DTE} {t : DTT} {i j n : Nat} {gd : DG} {vs : List Nat}
def OwnOI (o : Option SV) [k : Kn (OV)] : Prop := ∃ x, o = some (.own x) ∧ k.run x
def OwnO (o : Option SV) (P : OV → Prop) : Prop := @OwnOI  o ⟨P⟩
@[simp ↓] theorem ownO_in {o : Option SV} {P : OV → Prop} : OwnO o P = @OwnOI  o ⟨P⟩ := rfl
@[simp] theorem ownO_mk {x : OV} {k : Kn OV} : @OwnOI (some (.own x)) k = k.run x := by simp [OwnOI]
def OwnTI (o : Option SV) [k : Kn (List OV)] : Prop := ∃ x, o = some (.own (.tup x)) ∧ k.run x
def OwnT (o : Option SV) (P : List OV → Prop) : Prop := @OwnTI  o ⟨P⟩
@[simp ↓] theorem ownT_in {o : Option SV} {P : List OV → Prop} : OwnT o P = @OwnTI  o ⟨P⟩ := rfl
@[simp] theorem ownT_mk {x : List OV} {k : Kn (List OV)} : @OwnTI (some (.own (.tup x))) k = k.run x := by simp [OwnTI]
def DatDI (o : Option SV) [k : Kn (List (PyData × PyData))] : Prop := ∃ x, o = some (.dat (.dict x)) ∧ k.run x
def DatD (o : Option SV) (P : List (PyData × PyData) → Prop) : Prop := @DatDI  o ⟨P⟩
@[simp ↓] theorem datD_in {o : Option SV} {P : List (PyData × PyData) → Prop} : DatD o P = @DatDI  o ⟨P⟩ := rfl
@[simp] theorem datD_mk {x : List (PyData × PyData)} {k : Kn (List (PyData × PyData))} : @DatDI (some (.dat (.dict x))) k = k.run x := by simp [DatDI]
@[simp ↓] theorem run_compK : eCompK i gd t te vs s Q = DatD s[i]? fun es => @CompI (es.map Prod.fst) [] (forgetAll vs s) ⟨gd, t, te, vs, fun acc s2 => Q (.lst acc) s2⟩ := rfl
@[simp ↓] theorem run_compI : eCompI i gd t te vs s Q = DatD s[i]? fun es => @CompI (es.map fun e => .tuple [e.1, e.2]) [] (forgetAll vs s) ⟨gd, t, te, vs, fun acc s2 => Q (.lst acc) s2⟩ := rfl
class KD where
  g : DG
  t : DTT
  a : DTE
  b : DTE
  v : List Nat
  q : List (PyData × PyData) → DSt → Prop
/-- the turns of a dict's comprehension -/
def DCompI (ds : List PyData) (acc : List (PyData × PyData)) (s : DSt) [k : KD] : Prop := dcW k.g k.t k.a k.b k.v ds acc s k.q
@[simp ↓] theorem run_dcI : eDcI i gd t tk tv vs s Q = DatD s[i]? fun es => @DCompI (es.map fun e => .tuple [e.1, e.2]) [] (forgetAll vs s) ⟨gd, t, tk, tv, vs, fun acc s2 => Q (.dct acc) s2⟩ := rfl
@[simp ↓] theorem run_mov : eMov i s Q = OwnO s[i]? fun o => Q o (s.set i .no) := rfl
@[simp ↓] theorem run_onil {P : List OV → DSt → Prop} : oNil s P = P [] s := rfl
@[simp ↓] theorem run_ocons {tr : DTAO} {P : List OV → DSt → Prop} : oCons te tr s P = te s fun o s1 => tr s1 fun os s2 => P (o :: os) s2 := rfl
@[simp ↓] theorem run_tupO {tr : DTAO} : eTupO tr s Q = tr s fun os s' => Cond (os.length ≤ sizeLine) (Q (.tup os) s') := rfl
end
end L2.DL

set_option maxRecDepth 100000
set_option maxHeartbeats 4000000
/-! DL34: a comprehension's own name that a block within it reads. -/
namespace L2.DL
open PySem PySem.Spec
theorem gd_cell {X : Cx} {N : List Str} {sc scope : Scope} {k : Nat} {d : Bool} {s : Shared} {H : Hp} {env : Env} {fp : List Addr} (hc : XC N sc k d (X.blk s H scope env fp)) (i : Nat) {x : Str} {p : Pos} (hx : N[i]? = some x)
    (hl : sc.names.lookup x = some .cell) (hf : (scope.names.lookup x == some .cell) = true) : GD (X.blk s H scope env fp) (.Name x p) [i] (gName i) (gN i) :=
  ⟨fun d s Q Q' hq h => ⟨h.1, hq _ h.2⟩, pg_name (hc.hN ▸ hc.nd) (hc.hN ▸ hx) (hc.hS ▸ .inr hl) (.inl hf), fun r p h k => k _ _ _ (r.putDat i (by rw [← r.len]; exact h.1) p) ⟨List.length_set .., fun j hj => List.getElem?_set_ne (fun e => hj (by simp [e]))⟩ h.2⟩
end L2.DL

set_option maxRecDepth 100000
set_option maxHeartbeats 4000000
/-! DL35: plain deeds as things of their own, done on trees with whatever numbers. -/
namespace L2.DL
open PySem PySem.Spec PyProof.Rows
/-! ### the one order of texts -/
def leS (a b : Str) : Bool := !decide (b.cps.toList < a.cps.toList)
def sortS (xs : List Str) : List Str := xs.mergeSort leS
theorem leS_trans (a b c : Str) (h1 : leS a b = true) (h2 : leS b c = true) : leS a c = true := by
  unfold leS at *
  simp only [Bool.not_eq_true', decide_eq_false_iff_not] at *
  have h1 : a.cps.toList ≤ b.cps.toList := h1
  have h2 : b.cps.toList ≤ c.cps.toList := h2
  exact (List.le_trans h1 h2 : a.cps.toList ≤ c.cps.toList)
theorem leS_total (a b : Str) : (leS a b || leS b a) = true := by
  unfold leS
  simp only [Bool.or_eq_true, Bool.not_eq_true', decide_eq_false_iff_not]
  exact (List.le_total a.cps.toList b.cps.toList : a.cps.toList ≤ b.cps.toList ∨ b.cps.toList ≤ a.cps.toList)
theorem sortS_perm (xs : List Str) : (sortS xs).Perm xs := List.mergeSort_perm xs leS
theorem sortS_pair (xs : List Str) : (sortS xs).Pairwise fun a b => leS a b = true := List.pairwise_mergeSort leS_trans leS_total xs
theorem rising_of : ∀ (l : List Str) (p : Str), (p :: l).Pairwise (fun a b => leS a b = true) → risingS p l = true
  | [], _, _ => rfl
  | x :: r, p, h => by
    rw [List.pairwise_cons] at h
    show (!ltCps x.cps.toList p.cps.toList && risingS x r) = true
    rw [rising_of r x h.2, Bool.and_true, ltCps_eq]
    exact h.1 x (by simp)
theorem sortS_sorted (xs : List Str) : sortedS (sortS xs) = true := by
  have h := sortS_pair xs
  generalize sortS xs = ys at h
  cases ys with
  | nil => rfl
  | cons x r => exact rising_of r x h
theorem sortS_len (xs : List Str) : (sortS xs).length = xs.length := (sortS_perm xs).length_eq
theorem sort_is {xs ys : List Str} (h1 : ys.Perm xs) (h2 : sortedS ys = true) : ys = sortS xs := sorted_one h1 h2 (sortS_perm xs) (sortS_sorted xs)
@[simp ↓] theorem run_sortD {te : DTE} {s : DSt} {Q : DK} : eSortD te s Q = te s fun o s' => OnD o.data fun es => Opt (keysS es) fun xs => Cond (xs.length < 64) (Q (.lst ((sortS xs).map .str)) s') := by
  show te s _ = te s _
  congr 1
  funext o s'
  apply propext
  constructor
  · rintro ⟨es, xs, h1, h2, h3, h4⟩
    exact ⟨es, h1, xs, h2, h3, h4 _ (sortS_perm xs) (sortS_sorted xs)⟩
  · rintro ⟨es, h1, xs, h2, h3, h4⟩
    exact ⟨es, xs, h1, h2, h3, fun ys a b => by rw [sort_is a b]; exact h4⟩
def TextsI (d : PyData) [k : Kn (List Str)] : Prop := ∃ x : List Str, d = .list (x.map .str) ∧ k.run x
def Texts (d : PyData) (P : List Str → Prop) : Prop := @TextsI  d ⟨P⟩
@[simp ↓] theorem texts_in {d : PyData} {P : List Str → Prop} : Texts d P = @TextsI  d ⟨P⟩ := rfl
theorem strs_inj {xs ys : List Str} (h : xs.map PyData.str = ys.map PyData.str) : xs = ys := by
  refine (List.map_inj_right fun a b h => ?_).mp h
  injection h
@[simp] theorem texts_mk {xs : List Str} {k : Kn (List Str)} : @TextsI (.list (xs.map .str)) k = k.run xs := by
  apply propext
  constructor
  · rintro ⟨ys, e, h⟩
    injection e with e
    rw [strs_inj e]
    exact h
  · exact fun h => ⟨xs, rfl, h⟩
@[simp ↓] theorem run_sortL {te : DTE} {s : DSt} {Q : DK} : eSortL te s Q = te s fun o s' => Texts o.data fun xs => Cond (xs.length < 64) (Q (.lst ((sortS xs).map .str)) s') := by
  show te s _ = te s _
  congr 1
  funext o s'
  apply propext
  constructor
  · rintro ⟨xs, h1, h3, h4⟩
    exact ⟨xs, h1, h3, h4 _ (sortS_perm xs) (sortS_sorted xs)⟩
  · rintro ⟨xs, h1, h3, h4⟩
    exact ⟨xs, h1, h3, fun ys a b => by rw [sort_is a b]; exact h4⟩
/-! ### roads in order -/
abbrev Rd0 := List (List Nat)
def sortR (rs : List Rd0) : List Rd0 := rs.mergeSort fun a b => !decide (pathL b < pathL a)
theorem sortR_perm (rs : List Rd0) : (sortR rs).Perm rs := List.mergeSort_perm rs _
theorem sortR_len (rs : List Rd0) : (sortR rs).length = rs.length := (sortR_perm rs).length_eq
theorem sortR_pair (rs : List Rd0) : (sortR rs).Pairwise fun a b => pathL a ≤ pathL b := by
  have := List.pairwise_mergeSort (le := fun a b : Rd0 => !decide (pathL b < pathL a)) (fun a b c h1 h2 => ?_) (fun a b => ?_) rs
  · refine this.imp fun h => ?_
    simpa using h
  · simp only [Bool.not_eq_true', decide_eq_false_iff_not] at *
    exact (List.le_trans (show pathL a ≤ pathL b from h1) (show pathL b ≤ pathL c from h2) : pathL a ≤ pathL c)
  · simp only [Bool.or_eq_true, Bool.not_eq_true', decide_eq_false_iff_not]
    exact (List.le_total (pathL a) (pathL b) : pathL a ≤ pathL b ∨ pathL b ≤ pathL a)
theorem cps_S (l : List Nat) : (SX.S l).cps.toList = l := rfl
theorem sortS_roads (rs : List Rd0) : sortS (rs.map fun r => SX.S (pathL r)) = (sortR rs).map fun r => SX.S (pathL r) := by
  refine (sort_is ((sortR_perm rs).map _) ?_).symm
  have h := sortR_pair rs
  have h2 : ((sortR rs).map fun r => SX.S (pathL r)).Pairwise fun a b => leS a b = true := by
    rw [List.pairwise_map]
    refine h.imp fun {a b} h => ?_
    unfold leS
    rw [cps_S, cps_S]
    simpa using h
  generalize ((sortR rs).map fun r => SX.S (pathL r)) = ys at h2
  cases ys with
  | nil => rfl
  | cons x r => exact rising_of r x h2
theorem map_strP (rs : List Rd0) : (rs.map fun r => SX.S (pathL r)).map PyData.str = rs.map P := by rw [List.map_map]; rfl
theorem keysS_road : ∀ {es : List (PyData × PyData)} {rs : List Rd0}, es.map (·.1) = rs.map P → keysS es = some (rs.map fun r => SX.S (pathL r))
  | [], [], _ => rfl
  | [], _ :: _, h => by cases h
  | _ :: _, [], h => by cases h
  | (d, v) :: es, r :: rs, h => by
    rw [List.map_cons, List.map_cons] at h
    injection h with h1 h2
    have h1 : d = P r := h1
    subst h1
    show (keysS es).map _ = _
    rw [keysS_road h2]
    rfl
def TreeG (es : List (PyData × PyData)) : Prop := ∃ B, TreeB 63 B es
def cntP : Option Nat → PyData
  | none => .none
  | some n => .int n
inductive PD
  | make (ps : List (List Nat)) (t : List Nat) (own num : Bool)
  | put (ps : List (List Nat)) (t : List Nat) (c : Option Nat)
  | drop (ps : List (List Nat)) (c : Option Nat)
  | see (ps : List (List Nat)) (c : Option Nat)
namespace PD
def data : PD → PyData
  | make ps t own num => makeDeed ps t own num
  | put ps t c => .tuple [tx putW, P ps, tx t, cntP c]
  | drop ps c => .tuple [tx dropW, P ps, cntP c]
  | see ps c => .tuple [tx seeW, P ps, cntP c]
def path : PD → List (List Nat)
  | make ps _ _ _ | put ps _ _ | drop ps _ | see ps _ => ps
def ok : PD → Prop
  | make ps t _ num => MakeOk ps t num
  | put ps t _ => Road ps ∧ textB t = true
  | drop ps _ => Road ps ∧ ps ≠ []
  | see ps _ => Road ps
def six (es : List (PyData × PyData)) : PD → Prop
  | make ps _ _ true => ∀ v, lookD es (keyP ps.dropLast) = some v → fmtOk (madeD v) = true
  | _ => True
end PD
def mkG (es : List (PyData × PyData)) (above path : List Nat) (v t who : PyData) (own full : Bool) : Res :=
  if freeD v = true then (if (lookD es (.inr (SX.S path))).isSome = true then noR es (tx thereW)
    else if full = true then noR es (tx fullW)
    else (putD (putD es (.inr (SX.S path)) (mkN t who own)) (.inr (SX.S above)) (incN v), .tuple [tx okW, tx path], [.tuple [tx madeW, tx path], .tuple [tx kidsW, tx above]]))
  else noR es (tx ownW)
def fullG (es : List (PyData × PyData)) (num : Bool) (v : PyData) : Bool := decide (60 ≤ es.length) || (num && decide (999999 < madeD v))
def makeG (es : List (PyData × PyData)) (ps : List (List Nat)) (t who : PyData) (own num : Bool) : Res := match lookD es (keyP ps.dropLast) with
  | none => noR es (tx parentW)
  | some v => mkG es (pathL ps.dropLast) (newP (pathL ps) num (madeD v)) v t who own (fullG es num v)
theorem makeG_none {es : List (PyData × PyData)} {ps : List (List Nat)} {t who : PyData} {own num : Bool} (h : lookD es (keyP ps.dropLast) = none) : makeG es ps t who own num = noR es (tx parentW) := by unfold makeG; rw [h]
theorem makeG_some {es : List (PyData × PyData)} {ps : List (List Nat)} {t who v : PyData} {own num : Bool} (h : lookD es (keyP ps.dropLast) = some v) :
    makeG es ps t who own num = mkG es (pathL ps.dropLast) (newP (pathL ps) num (madeD v)) v t who own (fullG es num v) := by unfold makeG; rw [h]
def PD.run (es : List (PyData × PyData)) (w : List Nat) : PD → Res
  | .make ps t own num => makeG es ps (tx t) (tx w) own num
  | .put ps t c => putR es ps (tx t) (cntP c)
  | .drop ps c => dropR es ps (cntP c)
  | .see ps c => seeR es ps (cntP c)
theorem cnt_ok (c : Option Nat) : countB (cntP c) = true ∧ flatD (cntP c) = true := by
  cases c with
  | none => exact ⟨rfl, rfl⟩
  | some n => exact ⟨decide_eq_true (Int.natCast_nonneg n), rfl⟩
theorem PD.ok.good {p : PD} (h : p.ok) : itemB p.data = true ∧ plainB p.data = true := by
  have sc : ∀ c : Option Nat, smallB (cntP c) = true := fun c => by cases c <;> rfl
  have hp : ∀ {ps : List (List Nat)}, Road ps → smallB (P ps) = true := fun hr => sm_tx (Nat.le_trans (path_len hr.2 hr.1) (by decide))
  cases p with
  | make ps t own num => exact MakeOk.good h own
  | put ps t c =>
    refine ⟨?_, ?_⟩
    · show List.all [tx putW, P ps, tx t, cntP c] smallB = true
      simp only [List.all_cons, List.all_nil, hp h.1, sm_tx (Nat.le_trans (text_asc h.2).1 (by decide)), sc c, Bool.and_true]
      rfl
    · show (pathB (pathL ps) && (true && (textB t && countB (cntP c)))) = true
      rw [path_tx h.1, h.2, (cnt_ok c).1]
      rfl
  | drop ps c =>
    refine ⟨?_, ?_⟩
    · show List.all [tx dropW, P ps, cntP c] smallB = true
      simp only [List.all_cons, List.all_nil, hp h.1, sc c, Bool.and_true]
      rfl
    · show (pathB (pathL ps) && (countB (cntP c) && (false || (true && !decide (pathL ps = [47]))))) = true
      rw [path_tx h.1, (cnt_ok c).1, decide_eq_false fun z => h.2 ((pathL_ne h.1.1).mp z)]
      rfl
  | see ps c =>
    refine ⟨?_, ?_⟩
    · show List.all [tx seeW, P ps, cntP c] smallB = true
      have h : Road ps := h
      simp only [List.all_cons, List.all_nil, hp h, sc c, Bool.and_true]
      rfl
    · show (pathB (pathL ps) && (countB (cntP c) && (true || _))) = true
      have h : Road ps := h
      rw [path_tx h, (cnt_ok c).1]
      rfl
theorem PD.tup (p : PD) : ∃ ds, p.data = .tuple ds := by cases p <;> exact ⟨_, rfl⟩
/-- contracts -/
def cG (f : Res → OV) : DC := fun svs Q => ∃ es p w, svs = [.dat (.dict es), .dat (PD.data p), .dat (tx w)] ∧ TreeG es ∧ p.ok ∧ p.six es ∧ Q (f (p.run es w))
theorem cG_mono (f : Res → OV) : (cG f).Mono := fun _ _ _ hq ⟨es, p, w, h1, h2, h3, h4, h5⟩ => ⟨es, p, w, h1, h2, h3, h4, hq _ h5⟩
def kidsOV (es : List (PyData × PyData)) (ps : List (List Nat)) : OV := if (lookD es (keyP ps)).isSome = true then .lst ((sortS ((kidsL es ps).map SX.S)).map .str) else .fz .none
def g_kids_of : DC := fun svs Q => ∃ es ps, svs = [.dat (.dict es), .dat (P ps)] ∧ TreeG es ∧ Parts ps ∧ Q (kidsOV es ps)
theorem gm_kids_of : g_kids_of.Mono := fun _ _ _ hq ⟨es, ps, h1, h2, h3, h4⟩ => ⟨es, ps, h1, h2, h3, hq _ h4⟩
def g__law_kids : DC := fun svs Q => ∃ es ps, svs = [.dat (.dict es), .dat (P ps)] ∧ TreeG es ∧ Parts ps ∧ Q (.lst ((sortS ((kidsL es ps).map SX.S)).map .str))
theorem gm__law_kids : g__law_kids.Mono := fun _ _ _ hq ⟨es, ps, h1, h2, h3, h4⟩ => ⟨es, ps, h1, h2, h3, hq _ h4⟩
def g__why_not : DC := fun svs Q => ∃ es ps c, svs = [.dat (.dict es), .dat (P ps), .dat (cntP c)] ∧ TreeG es ∧ Q (.fz (whyD es ps (cntP c)))
theorem gm__why_not : g__why_not.Mono := fun _ _ _ hq ⟨es, ps, c, h1, h2, h3⟩ => ⟨es, ps, c, h1, h2, hq _ h3⟩
def g__done_make : DC := fun svs Q => ∃ es ps t own num w, svs = [.dat (.dict es), .dat (PD.data (.make ps t own num)), .dat (tx w)] ∧ TreeG es ∧ (PD.make ps t own num).ok ∧ (PD.make ps t own num).six es ∧ Q ((PD.make ps t own num).run es w).ov
theorem gm__done_make : g__done_make.Mono := fun _ _ _ hq ⟨es, ps, t, own, num, w, h1, h2, h3, h4, h5⟩ => ⟨es, ps, t, own, num, w, h1, h2, h3, h4, hq _ h5⟩
def g__done_put : DC := fun svs Q => ∃ es ps t c, svs = [.dat (.dict es), .dat (PD.data (.put ps t c))] ∧ TreeG es ∧ (PD.put ps t c).ok ∧ Q ((PD.put ps t c).run es []).ov
theorem gm__done_put : g__done_put.Mono := fun _ _ _ hq ⟨es, ps, t, c, h1, h2, h3, h4⟩ => ⟨es, ps, t, c, h1, h2, h3, hq _ h4⟩
def g__done_drop : DC := fun svs Q => ∃ es ps c, svs = [.dat (.dict es), .dat (PD.data (.drop ps c))] ∧ TreeG es ∧ (PD.drop ps c).ok ∧ Q ((PD.drop ps c).run es []).ov
theorem gm__done_drop : g__done_drop.Mono := fun _ _ _ hq ⟨es, ps, c, h1, h2, h3, h4⟩ => ⟨es, ps, c, h1, h2, h3, hq _ h4⟩
def g__done_see : DC := fun svs Q => ∃ es ps c, svs = [.dat (.dict es), .dat (PD.data (.see ps c))] ∧ TreeG es ∧ (PD.see ps c).ok ∧ Q ((PD.see ps c).run es []).ov
theorem gm__done_see : g__done_see.Mono := fun _ _ _ hq ⟨es, ps, c, h1, h2, h3, h4⟩ => ⟨es, ps, c, h1, h2, h3, hq _ h4⟩
def g_done_plain : DC := cG Res.ov
theorem gm_done_plain : g_done_plain.Mono := cG_mono _
def g__law_plainly : DC := cG fun r => .fz r.data
theorem gm__law_plainly : g__law_plainly.Mono := cG_mono _
def g__law_make : DC := fun svs Q => ∃ es ps t own num w, svs = [.dat (.dict es), .dat (PD.data (.make ps t own num)), .dat (tx w)] ∧ TreeG es ∧ (PD.make ps t own num).ok ∧ (PD.make ps t own num).six es ∧ Q (.fz ((PD.make ps t own num).run es w).data)
theorem gm__law_make : g__law_make.Mono := fun _ _ _ hq ⟨es, ps, t, own, num, w, h1, h2, h3, h4, h5⟩ => ⟨es, ps, t, own, num, w, h1, h2, h3, h4, hq _ h5⟩
theorem TreeG.roads {es : List (PyData × PyData)} (h : TreeG es) : es.map (·.1) = (es.map roadOf).map P ∧ ∀ rs ∈ es.map roadOf, Road rs := h.elim fun _ h => h.roads
theorem TreeG.len {es : List (PyData × PyData)} (h : TreeG es) : es.length ≤ 63 := h.elim fun _ h => h.2.1
theorem TreeG.node {es : List (PyData × PyData)} (h : TreeG es) {k : Key} {v : PyData} (hv : lookD es k = some v) : ∃ (t : List Nat) (n m : Nat) (o : Option (List Nat)), v = .tuple [tx t, .int n, .int m, match o with | none => .none | some w => tx w] ∧ textB t = true ∧ (∀ w, o = some w → wordB w = true) := by
  obtain ⟨B, h⟩ := h
  obtain ⟨t, c, m, o, rfl, h1, h2, h3, h4⟩ := h.node hv
  obtain ⟨c', rfl⟩ := Int.eq_ofNat_of_zero_le h2.1
  obtain ⟨m', rfl⟩ := Int.eq_ofNat_of_zero_le h3.1
  rcases h4 with rfl | ⟨w, rfl, hw⟩
  · exact ⟨t, c', m', none, rfl, h1, fun _ z => by cases z⟩
  · exact ⟨t, c', m', some w, rfl, h1, fun _ z => by cases z; exact hw⟩
/-- an owner, as data -/
def ownP : Option (List Nat) → PyData
  | none => .none
  | some w => tx w
def nodeP (t : List Nat) (n m : Nat) (o : Option (List Nat)) : PyData := .tuple [tx t, .int n, .int m, ownP o]
theorem TreeG.nodeP {es : List (PyData × PyData)} (h : TreeG es) {k : Key} {v : PyData} (hv : lookD es k = some v) : ∃ t n m o, v = DL.nodeP t n m o ∧ textB t = true ∧ (∀ w, o = some w → wordB w = true) := by
  obtain ⟨t, n, m, o, rfl, h1, h2⟩ := h.node hv
  exact ⟨t, n, m, o, by cases o <;> rfl, h1, h2⟩
@[simp] theorem madeD_node {t n m o} : madeD (nodeP t n m o) = (m : Nat) := rfl
@[simp] theorem cntD_node {t n m o} : cntD (nodeP t n m o) = (n : Nat) := rfl
@[simp] theorem freeD_node {t n m o} : freeD (nodeP t n m o) = o.isNone := by cases o <;> rfl
@[simp] theorem incN_node {t n m o} : incN (nodeP t n m o) = nodeP t n (m + 1) o := by simp [incN, nodeP]
@[simp] theorem putN_node {t' t n m o} : putN (tx t') (nodeP t n m o) = nodeP t' (n + 1) m o := by simp [putN, nodeP]
end L2.DL

set_option maxRecDepth 100000
set_option maxHeartbeats 4000000
/-! DL36: calls by keywords, displays, and what else is run. -/
namespace L2.DL
open PySem PySem.Spec
section
variable {s : DSt} {Q : DK} {E : DEn} {te tk tv ta tb : DTE} {t : DTT} {i j n : Nat}
@[simp ↓] theorem run_callK {nu nw : Nat} {pm : List Nat} {c : DC} {tp tk : DTP} : eCallK n nu nw pm c tp tk s Q = tp s fun svs s1 => tk s1 fun kvs s2 => Cond (svs.length = nu) (Cond (kvs.length = nw) (Cond (svs.all (fun x => !isPool x) = true)
    (Cond ((perm pm (svs ++ kvs)).length = n) (Cond (onePool (perm pm (svs ++ kvs)) = true) (Calls c (perm pm (svs ++ kvs)) fun o => Q o s2))))) := rfl
@[simp] theorem perm_nil {xs : List SV} : perm [] xs = [] := rfl
@[simp] theorem perm_cons {i : Nat} {p : List Nat} {xs : List SV} : perm (i :: p) xs = match xs[i]? with | some x => x :: perm p xs | none => perm p xs := by
  unfold perm
  rw [List.filterMap_cons]
  cases xs[i]? <;> rfl
def DispI (es : List (PyData × PyData)) [k : Kn (List (PyData × PyData))] : Prop := ∃ kes : List (Key × PyData), es = kes.map (fun e => (kD e.1, e.2)) ∧ kes.length ≤ 15 ∧ k.run (mergeD [] kes)
def Disp (es : List (PyData × PyData)) (P : List (PyData × PyData) → Prop) : Prop := @DispI  es ⟨P⟩
@[simp ↓] theorem disp_in {es : List (PyData × PyData)} {P : List (PyData × PyData) → Prop} : Disp es P = @DispI  es ⟨P⟩ := rfl
theorem kD_inj {a b : Key} (h : kD a = kD b) : a = b := by cases a <;> cases b <;> simp_all [kD]
theorem disp_of {kes : List (Key × PyData)} {k : Kn (List (PyData × PyData))} (h : kes.length ≤ 15) : @DispI (kes.map fun e => (kD e.1, e.2)) k = k.run (mergeD [] kes) := by
  apply propext
  constructor
  · rintro ⟨ls, e, _, p⟩
    have : kes = ls := (List.map_inj_right fun a b h => by
      injection h with h1 h2
      exact Prod.ext (kD_inj h1) h2).mp e
    rw [this]
    exact p
  · exact fun p => ⟨kes, rfl, h, p⟩
@[simp] theorem disp_one {x : Str} {d : PyData} {k : Kn (List (PyData × PyData))} : @DispI [(.str x, d)] k = k.run [(.str x, d)] := disp_of (kes := [(.inr x, d)]) (Nat.le_of_ble_eq_true rfl)
@[simp ↓] theorem run_disp {t : DTK} : eDisp t s Q = t s fun es s' => Disp es fun ls => Q (.dct ls) s' := rfl
@[simp ↓] theorem run_knil {P : List (PyData × PyData) → DSt → Prop} : kNil s P = P [] s := rfl
@[simp ↓] theorem run_kcons {tr : DTK} {P : List (PyData × PyData) → DSt → Prop} : kCons tk tv tr s P = tk s fun k s1 => tv s1 fun v s2 => tr s2 fun es s3 => P ((k.data, v.data) :: es) s3 := rfl
@[simp] theorem v_max {a b : Int} : gMax [.int a, .int b] = some (.fz (.int (if b > a then b else a))) := rfl
@[simp] theorem v_min {a b : Int} : gMin [.int a, .int b] = some (.fz (.int (if b < a then b else a))) := rfl
def FmtI (x y : PyData) [k : Kn (List Nat)] : Prop := ∃ (p : List Nat) (i : Int), x = tx p ∧ y = .int i ∧ fmtOk i = true ∧ k.run (p ++ 45 :: sixL i)
def Fmt (x y : PyData) (P : List Nat → Prop) : Prop := @FmtI  x y ⟨P⟩
@[simp ↓] theorem fmt_in {x y : PyData} {P : List Nat → Prop} : Fmt x y P = @FmtI  x y ⟨P⟩ := rfl
@[simp] theorem fmt_mk {p : List Nat} {i : Int} {k : Kn (List Nat)} : @FmtI (tx p) (.int i) k = Cond (fmtOk i = true) (k.run (p ++ 45 :: sixL i)) := by
  apply propext
  constructor
  · rintro ⟨q, j, e1, e2, h, z⟩
    injection e1 with e1
    injection e2 with e2
    have := SX.S_inj e1
    subst this e2
    exact ⟨h, z⟩
  · exact fun ⟨h, z⟩ => ⟨p, i, rfl, rfl, h, z⟩
@[simp ↓] theorem run_fmt3 : eFmt3 ta tb s Q = ta s fun x s1 => Cond (∃ p : List Nat, x.data = tx p ∧ p.length ≤ 1000) (tb s1 fun y s2 => Fmt x.data y.data fun z => Q (.fz (tx z)) s2) := rfl
theorem is_tx {p : List Nat} (h : p.length ≤ 1000) : (∃ q : List Nat, tx p = tx q ∧ q.length ≤ 1000) = True := by
  simp only [eq_iff_iff, iff_true]
  exact ⟨p, rfl, h⟩
/-- a draw -/
theorem call_take {m : Int} {K : OV → Prop} (h1 : 0 < m) (h2 : m < 1073741824) (k : ∀ j : Nat, (j : Int) < m → K (.fz (.int j))) : @CallsI c__law_take [.pool, .dat (.int m)] ⟨K⟩ :=
  ⟨m, rfl, h1, h2, fun j hj0 hj1 => by
    obtain ⟨j', rfl⟩ := Int.eq_ofNat_of_zero_le hj0
    exact k j' hj1⟩
/-- a list's item at a place that is drawn -/
theorem ix_draw {L : List PyData} {j : Nat} (h : (j : Int) < (L.length : Nat)) : ∃ d ∈ L, gIx (.list L) (.int j) = some (.fz d) := gIx_mem (Int.natCast_nonneg j) h
@[simp ↓] theorem run_asgP : sAsgP i te E s = te s fun o s' => ∃ x y : Int, o = .lst [.int x, .int y] ∧ 0 ≤ x ∧ 0 ≤ y ∧ y < 2147483647 ∧ i < s'.length ∧ E.nx (s'.set i .pool) := rfl
@[simp] theorem parts_fzT {ds : List PyData} : (OV.fz (.tuple ds)).parts = some (ds.map .fz) := rfl
@[simp] theorem parts_tup {os : List OV} : (OV.tup os).parts = some os := rfl
end
end L2.DL

set_option maxRecDepth 100000
set_option maxHeartbeats 4000000
/-! DL37: trees of nodes: what stands in them, step by step. -/
namespace L2.DL
open PySem PySem.Spec PyProof.Rows
abbrev Tr := List (PyData × PyData)
theorem look_drop_same {es : Tr} {k : Key} : lookD (dropD es k) k = none := by
  unfold lookD dropD
  have : ((es.filter fun e => decide (toKey e.1 ≠ some k)).find? fun e => decide (toKey e.1 = some k)) = none := by
    rw [List.find?_eq_none]
    intro x hx hd
    have := (List.mem_filter.mp hx).2
    simp at this hd
    exact this hd
  rw [this]
  rfl
theorem look_drop_other {es : Tr} {k j : Key} (h : j ≠ k) : lookD (dropD es k) j = lookD es j := by
  unfold lookD dropD
  congr 1
  induction es with
  | nil => rfl
  | cons x es ih =>
    by_cases hx : toKey x.1 = some k
    · have hj : ¬ toKey x.1 = some j := fun z => h (Option.some.inj (z.symm.trans hx))
      rw [List.filter_cons_of_neg (by simpa using hx), List.find?_cons, decide_eq_false hj]
      exact ih
    · rw [List.filter_cons_of_pos (by simpa using hx), List.find?_cons, List.find?_cons]
      split
      · rfl
      · exact ih
theorem keyP_inj {ps qs : Rd0} (h1 : Parts ps) (h2 : Parts qs) (h : keyP ps = keyP qs) : ps = qs := by
  injection h with h
  exact pathL_inj h1 h2 (SX.S_inj h)
theorem S_key {a b : List Nat} (h : (Sum.inr (SX.S a) : Key) = .inr (SX.S b)) : a = b := by
  injection h with h
  exact SX.S_inj h
theorem look_road {es : Tr} (h : TreeG es) {ps : Rd0} (hp : Parts ps) : (lookD es (keyP ps)).isSome = true ↔ ps ∈ es.map roadOf := by
  obtain ⟨hk, hr⟩ := h.roads
  constructor
  · intro hs
    obtain ⟨v, hv⟩ := Option.isSome_iff_exists.mp hs
    obtain ⟨e, he, e1, _⟩ := lookD_mem hv
    have : e.1 ∈ (es.map roadOf).map P := by rw [← hk]; exact List.mem_map.mpr ⟨e, he, rfl⟩
    obtain ⟨rs, hrs, e2⟩ := List.mem_map.mp this
    rw [← e2] at e1
    have e1 : some (keyP rs) = some (keyP ps) := e1
    rw [keyP_inj hp (hr rs hrs).1 (Option.some.inj e1).symm]
    exact hrs
  · intro hm
    have : P ps ∈ es.map (·.1) := by rw [hk]; exact List.mem_map.mpr ⟨ps, hm, rfl⟩
    obtain ⟨e, he, e1⟩ := List.mem_map.mp this
    obtain ⟨v, hv⟩ := lookD_some (k := keyP ps) he (by rw [e1]; rfl)
    rw [hv]
    rfl
theorem any_key {es : Tr} {k : Key} : (es.any fun e => decide (toKey e.1 = some k)) = (lookD es k).isSome := by
  cases h : lookD es k with
  | some v =>
    obtain ⟨e, he, e1, _⟩ := lookD_mem h
    exact List.any_eq_true.mpr ⟨e, he, decide_eq_true e1⟩
  | none =>
    show _ = false
    rw [List.any_eq_false]
    intro x hx hd
    obtain ⟨v, hv⟩ := lookD_some hx (of_decide_eq_true hd)
    rw [h] at hv
    cases hv
theorem putD_there {es : Tr} {k : Key} {d : PyData} (h : (lookD es k).isSome = true) : putD es k d = es.map fun e => if toKey e.1 = some k then (e.1, d) else e := by
  unfold putD
  rw [any_key, if_pos h]
theorem putD_new {es : Tr} {k : Key} {d : PyData} (h : lookD es k = none) : putD es k d = es ++ [(kD k, d)] := by
  unfold putD
  rw [any_key, h]
  rfl
theorem roadOf_fst {e e' : PyData × PyData} (h : e.1 = e'.1) : roadOf e = roadOf e' := by unfold roadOf; rw [h]
theorem roads_there {es : Tr} {k : Key} {d : PyData} (h : (lookD es k).isSome = true) : (putD es k d).map roadOf = es.map roadOf := by
  rw [putD_there h, List.map_map]
  refine List.map_congr_left fun e _ => ?_
  show roadOf (if _ then _ else _) = _
  split
  · exact roadOf_fst rfl
  · rfl
theorem roads_new {es : Tr} {ps : Rd0} {d : PyData} (hp : Parts ps) (h : lookD es (keyP ps) = none) : (putD es (keyP ps) d).map roadOf = es.map roadOf ++ [ps] := by
  rw [putD_new h, List.map_append]
  congr 1
  show [roadOf (P ps, d)] = _
  rw [roadOf_P hp]
theorem roads_drop {es : Tr} (h : TreeG es) {ps : Rd0} (hp : Parts ps) : (dropD es (keyP ps)).map roadOf = (es.map roadOf).filter fun r => decide (r ≠ ps) := by
  obtain ⟨B, h⟩ := h
  unfold dropD
  rw [List.filter_map]
  congr 1
  refine List.filter_congr fun e he => ?_
  obtain ⟨rs, hr, e1, _⟩ := h.2.2 e he
  have e2 : roadOf e = rs := by
    unfold roadOf
    rw [e1]
    exact parts_path hr.1
  show decide (toKey e.1 ≠ some (keyP ps)) = decide (roadOf e ≠ ps)
  rw [e1, e2]
  have : toKey (tx (pathL rs)) = some (keyP rs) := rfl
  rw [this, decide_eq_decide]
  constructor
  · intro z e
    exact z (by rw [e])
  · intro z e
    exact z (keyP_inj hr.1 hp (Option.some.inj e))
theorem TreeB.drop {n B : Nat} {es : Tr} (h : TreeB n B es) {k j : Key} {v : PyData} (hj : j ≠ k) (hv : lookD es j = some v) : TreeB n B (dropD es k) := by
  refine ⟨fun z => ?_, ?_, fun e he => h.2.2 e (List.mem_filter.mp he).1⟩
  · have := look_drop_other (es := es) hj
    rw [z, hv] at this
    cases this
  · unfold dropD
    exact Nat.le_trans (List.length_filter_le _ _) h.2.1
theorem nodeB_P {B : Nat} {t : List Nat} {n m : Nat} {o : Option (List Nat)} (ht : textB t = true) (hn : n ≤ B) (hm : m ≤ B) (ho : ∀ w, o = some w → wordB w = true) : NodeB B (nodeP t n m o) := by
  refine ⟨t, n, m, ownP o, rfl, ht, ⟨by omega, by omega⟩, ⟨by omega, by omega⟩, ?_⟩
  cases o with
  | none => exact .inl rfl
  | some w => exact .inr ⟨w, rfl, ho w rfl⟩
theorem NodeB.P {B : Nat} {v : PyData} (h : NodeB B v) : ∃ t n m o, v = DL.nodeP t n m o ∧ textB t = true ∧ n ≤ B ∧ m ≤ B ∧ ∀ w, o = some w → wordB w = true := by
  obtain ⟨t, c, m, o, rfl, h1, h2, h3, h4⟩ := h
  obtain ⟨c', rfl⟩ := Int.eq_ofNat_of_zero_le h2.1
  obtain ⟨m', rfl⟩ := Int.eq_ofNat_of_zero_le h3.1
  have a2 := h2.2
  have a3 := h3.2
  rcases h4 with rfl | ⟨w, rfl, hw⟩
  · exact ⟨t, c', m', none, rfl, h1, by omega, by omega, fun _ z => by cases z⟩
  · exact ⟨t, c', m', some w, rfl, h1, by omega, by omega, fun _ z => by cases z; exact hw⟩
/-! ### what deeds make of a tree -/
/-- a tree's own laws: each path's parent is there, with no owner; made counts the children -/
structure TreeI (es : Tr) : Prop where
  g : TreeG es
  nd : (es.map roadOf).Nodup
  root : ∃ t n m, lookD es (keyP []) = some (nodeP t n m none)
  par : ∀ ps q, ps ++ [q] ∈ es.map roadOf → ∃ t n m, lookD es (keyP ps) = some (nodeP t n m none)
  cnt : ∀ ps t n m o, Parts ps → lookD es (keyP ps) = some (nodeP t n m o) → (kidsL es ps).length ≤ m
theorem nodeP_inj {t t' : List Nat} {n n' m m' : Nat} {o o' : Option (List Nat)} (h : nodeP t n m o = nodeP t' n' m' o') : t = t' ∧ n = n' ∧ m = m' ∧ o = o' := by
  unfold nodeP at h
  injection h with h
  injection h with h1 h
  injection h with h2 h
  injection h with h3 h
  injection h with h4 _
  injection h1 with h1
  injection h2 with h2
  injection h3 with h3
  refine ⟨SX.S_inj h1, by omega, by omega, ?_⟩
  cases o <;> cases o' <;> simp [ownP] at h4
  · rfl
  · rw [h4]
theorem kidR_some {ps rs : Rd0} {q : List Nat} (h : kidR ps rs = some q) : rs = ps ++ [q] := by
  unfold kidR at h
  split at h
  · rename_i hh
    obtain ⟨ys, rfl⟩ := List.getLast?_eq_some_iff.mp h
    have := hh.2
    simp at this
    rw [this]
  · cases h
theorem kidR_none {ps rs : Rd0} (h : kidR ps rs = none) : ∀ q, rs ≠ ps ++ [q] := by
  rintro q rfl
  rw [kidR_snoc, if_pos rfl] at h
  cases h
theorem mem_kids {es : Tr} {ps : Rd0} {q : List Nat} : q ∈ kidsL es ps ↔ ps ++ [q] ∈ es.map roadOf := by
  unfold kidsL
  rw [List.mem_filterMap]
  constructor
  · rintro ⟨rs, h1, h2⟩
    rw [← kidR_some h2]
    exact h1
  · exact fun h => ⟨_, h, by rw [kidR_snoc, if_pos rfl]⟩
theorem TreeI.road {es : Tr} (h : TreeI es) {ps : Rd0} (hm : ps ∈ es.map roadOf) : Road ps := h.g.roads.2 ps hm
theorem TreeI.rootIn {es : Tr} (h : TreeI es) : [] ∈ es.map roadOf := by
  obtain ⟨t, n, m, e⟩ := h.root
  exact (look_road h.g (ps := []) (fun _ z => by cases z)).mp (by rw [e]; rfl)
/-- a node is put anew where it stands: with no fewer made, and the same owner -/
theorem TreeI.set {es : Tr} (h : TreeI es) {ps : Rd0} {t t' : List Nat} {n n' m m' : Nat} {o : Option (List Nat)} (hr : Road ps) (hv : lookD es (keyP ps) = some (nodeP t n m o)) (ht : textB t' = true) (hm : m ≤ m') : TreeI (putD es (keyP ps) (nodeP t' n' m' o)) := by
  have hs : (lookD es (keyP ps)).isSome = true := by rw [hv]; rfl
  have hroads := roads_there (d := nodeP t' n' m' o) hs
  have ho : ∀ w, o = some w → wordB w = true := fun w z => by
    obtain ⟨t0, n0, m0, o0, e, _, h2⟩ := h.g.nodeP hv
    obtain ⟨_, _, _, rfl⟩ := nodeP_inj e
    exact h2 w z
  refine ⟨?_, by rw [hroads]; exact h.nd, ?_, fun qs q hq => ?_, fun qs t1 n1 m1 o1 hqs hl => ?_⟩
  · obtain ⟨B, hB⟩ := h.g
    refine ⟨max B (max n' m'), ?_⟩
    exact ((hB.up (Nat.le_refl _) (Nat.le_max_left _ _)).put hr (nodeB_P ht (by omega) (by omega) ho)).2 hs
  · obtain ⟨t0, n0, m0, e⟩ := h.root
    by_cases hp : ps = []
    · subst hp
      rw [hv] at e
      obtain ⟨_, _, _, rfl⟩ := nodeP_inj (Option.some.inj e)
      exact ⟨_, _, _, find_putD⟩
    · exact ⟨t0, n0, m0, by rw [find_other fun z => hp (keyP_inj hr.1 (fun _ z => by cases z) z.symm)]; exact e⟩
  · rw [hroads] at hq
    obtain ⟨t0, n0, m0, e⟩ := h.par qs q hq
    have hq1 : Parts qs := fun p hp => (h.road hq).1 p (by simp [hp])
    by_cases hp : ps = qs
    · subst hp
      rw [hv] at e
      obtain ⟨_, _, _, rfl⟩ := nodeP_inj (Option.some.inj e)
      exact ⟨_, _, _, find_putD⟩
    · exact ⟨t0, n0, m0, by rw [find_other fun z => hp (keyP_inj hr.1 hq1 z.symm)]; exact e⟩
  · have hk : kidsL (putD es (keyP ps) (nodeP t' n' m' o)) qs = kidsL es qs := by unfold kidsL; rw [hroads]
    rw [hk]
    by_cases hp : ps = qs
    · subst hp
      rw [find_putD] at hl
      obtain ⟨_, _, rfl, _⟩ := nodeP_inj (Option.some.inj hl)
      exact Nat.le_trans (h.cnt _ _ _ _ _ hr.1 hv) hm
    · rw [find_other fun z => hp (keyP_inj hr.1 hqs z.symm)] at hl
      exact h.cnt _ _ _ _ _ hqs hl
theorem TreeI.drop {es : Tr} (h : TreeI es) {ps : Rd0} (hr : Road ps) (hne : ps ≠ []) (hk : kidsL es ps = []) : TreeI (dropD es (keyP ps)) := by
  have hroads := roads_drop h.g hr.1
  have hroot : keyP [] ≠ keyP ps := fun z => hne (keyP_inj (fun _ z => by cases z) hr.1 z).symm
  obtain ⟨t0, n0, m0, e0⟩ := h.root
  refine ⟨?_, by rw [hroads]; exact h.nd.filter _, ⟨t0, n0, m0, by rw [look_drop_other hroot]; exact e0⟩, fun qs q hq => ?_, fun qs t1 n1 m1 o1 hqs hl => ?_⟩
  · obtain ⟨B, hB⟩ := h.g
    exact ⟨B, hB.drop hroot e0⟩
  · rw [hroads] at hq
    have hq0 := (List.mem_filter.mp hq).1
    obtain ⟨t0, n0, m0, e⟩ := h.par qs q hq0
    have hq1 : Parts qs := fun p hp => (h.road hq0).1 p (by simp [hp])
    have : qs ≠ ps := by
      rintro rfl
      have := mem_kids.mpr hq0
      rw [hk] at this
      cases this
    exact ⟨t0, n0, m0, by rw [look_drop_other fun z => this (keyP_inj hq1 hr.1 z)]; exact e⟩
  · by_cases hp : qs = ps
    · subst hp
      rw [look_drop_same] at hl
      cases hl
    · rw [look_drop_other fun z => hp (keyP_inj hqs hr.1 z)] at hl
      refine Nat.le_trans ?_ (h.cnt _ _ _ _ _ hqs hl)
      unfold kidsL
      rw [hroads]
      exact (List.filter_sublist.filterMap _).length_le
/-- a new node beneath one with no owner -/
theorem TreeI.add {es : Tr} (h : TreeI es) {ps : Rd0} {q : List Nat} {t t' : List Nat} {n m : Nat} {o : Option (List Nat)} (hr : Road (ps ++ [q])) (hv : lookD es (keyP ps) = some (nodeP t n m none)) (hn : lookD es (keyP (ps ++ [q])) = none) (hl : es.length < 60)
    (ht : textB t' = true) (ho : ∀ w, o = some w → wordB w = true) : TreeI (putD (putD es (keyP (ps ++ [q])) (nodeP t' 0 0 o)) (keyP ps) (nodeP t n (m + 1) none)) := by
  have hps : Parts ps := fun p hp => hr.1 p (by simp [hp])
  have hpr : Road ps := ⟨hps, by have := hr.2; simp at this; omega⟩
  have hne : keyP ps ≠ keyP (ps ++ [q]) := fun z => by
    have := congrArg List.length (keyP_inj hps hr.1 z)
    simp at this
  have hs : (lookD es (keyP ps)).isSome = true := by rw [hv]; rfl
  have hs2 : (lookD (putD es (keyP (ps ++ [q])) (nodeP t' 0 0 o)) (keyP ps)).isSome = true := by rw [find_other hne, hv]; rfl
  have ht0 : textB t = true := by
    obtain ⟨t0, n0, m0, o0, e, h1, _⟩ := h.g.nodeP hv
    obtain ⟨rfl, _⟩ := nodeP_inj e
    exact h1
  have hroads : (putD (putD es (keyP (ps ++ [q])) (nodeP t' 0 0 o)) (keyP ps) (nodeP t n (m + 1) none)).map roadOf = es.map roadOf ++ [ps ++ [q]] := by
    rw [roads_there hs2, roads_new hr.1 hn]
  have hnin : ps ++ [q] ∉ es.map roadOf := fun z => by
    have := (look_road h.g hr.1).mpr z
    rw [hn] at this
    cases this
  refine ⟨?_, ?_, ?_, fun rs r hq => ?_, fun rs t1 n1 m1 o1 hrs hlk => ?_⟩
  · obtain ⟨B, hB⟩ := h.g
    have hB' := hB.up (Nat.le_refl _) (Nat.le_max_left B (max n (m + 1)))
    have hB2 : TreeB 60 (max B (max n (m + 1))) es := ⟨hB'.1, by omega, hB'.2.2⟩
    have h1 := (hB2.put hr (d := nodeP t' 0 0 o) (nodeB_P ht (Nat.zero_le _) (Nat.zero_le _) ho)).1
    have h2 := (h1.put hpr (d := nodeP t n (m + 1) none) (nodeB_P ht0 (by omega) (by omega) fun _ z => by cases z)).2 hs2
    exact ⟨_, h2.up (by decide) (Nat.le_refl _)⟩
  · rw [hroads, List.nodup_append]
    refine ⟨h.nd, by simp, fun a ha b hb => ?_⟩
    rw [List.mem_singleton.mp hb]
    rintro rfl
    exact hnin ha
  · obtain ⟨t0, n0, m0, e⟩ := h.root
    by_cases hp : ps = []
    · subst hp
      exact ⟨_, _, _, find_putD⟩
    · refine ⟨t0, n0, m0, ?_⟩
      rw [find_other fun z => hp (keyP_inj hps (fun _ z => by cases z) z.symm), find_other fun z => ?_]
      · exact e
      · have := keyP_inj (fun _ z => by cases z) hr.1 z
        simp at this
  · rw [hroads] at hq
    rcases List.mem_append.mp hq with hq | hq
    · obtain ⟨t0, n0, m0, e⟩ := h.par rs r hq
      have hq1 : Parts rs := fun p hp => (h.road hq).1 p (by simp [hp])
      by_cases hp : ps = rs
      · subst hp
        exact ⟨_, _, _, find_putD⟩
      · refine ⟨t0, n0, m0, ?_⟩
        rw [find_other fun z => hp (keyP_inj hps hq1 z.symm), find_other fun z => ?_]
        · exact e
        · have := keyP_inj hq1 hr.1 z
          subst this
          rw [hn] at e
          cases e
    · have := List.mem_singleton.mp hq
      obtain ⟨rfl, _⟩ := List.append_inj' this rfl
      exact ⟨_, _, _, find_putD⟩
  · have hk : kidsL (putD (putD es (keyP (ps ++ [q])) (nodeP t' 0 0 o)) (keyP ps) (nodeP t n (m + 1) none)) rs = kidsL es rs ++ if ps = rs then [q] else [] := by
      unfold kidsL
      rw [hroads, List.filterMap_append]
      congr 1
      show [ps ++ [q]].filterMap _ = _
      rw [List.filterMap_cons, kidR_snoc]
      split <;> split <;> simp_all
    rw [hk, List.length_append]
    by_cases hp : ps = rs
    · subst hp
      rw [find_putD] at hlk
      obtain ⟨_, _, rfl, _⟩ := nodeP_inj (Option.some.inj hlk)
      have := h.cnt _ _ _ _ _ hps hv
      simp
      exact this
    · rw [find_other fun z => hp (keyP_inj hps hrs z.symm)] at hlk
      rw [if_neg hp]
      by_cases hp2 : ps ++ [q] = rs
      · subst hp2
        rw [find_putD] at hlk
        obtain ⟨_, _, rfl, _⟩ := nodeP_inj (Option.some.inj hlk)
        have : kidsL es (ps ++ [q]) = [] := by
          rw [List.eq_nil_iff_forall_not_mem]
          intro r hr2
          obtain ⟨_, _, _, e⟩ := h.par _ _ (mem_kids.mp hr2)
          rw [hn] at e
          cases e
        rw [this]
        simp
      · rw [find_other fun z => hp2 (keyP_inj hr.1 hrs z.symm)] at hlk
        have := h.cnt _ _ _ _ _ hrs hlk
        simpa using this
end L2.DL

set_option maxRecDepth 100000
set_option maxHeartbeats 4000000
/-! DL38: comprehensions whose turns leave the state as it is; texts of paths. -/
namespace L2.DL
open PySem PySem.Spec PyProof.Rows
/-- [f(a) for a in all if ..] -/
theorem comp_pure {α : Type} {gd : DG} {tt : DTT} {te : DTE} {vs : List Nat} {Q : List PyData → DSt → Prop} {p : α → PyData} (f : α → Option PyData) {all : List α} {s : DSt} (hl : all.length ≤ sizeLine)
    (step : ∀ a, a ∈ all → ∀ (acc : List PyData) (R : List PyData → DSt → Prop), acc.length < sizeLine → R (acc ++ (f a).toList) s →
      gd (p a) s fun s1 => tt s1 fun b s2 => Br b (te s2 fun o s3 => Cond (acc.length < sizeLine) (R (acc ++ [o.data]) (forgetAll vs s3))) (R acc (forgetAll vs s2)))
    (hq : Q (all.filterMap f) s) : @CompI (all.map p) [] s ⟨gd, tt, te, vs, Q⟩ :=
  comp_fm (I := fun s' => s' = s) hl (fun a s' ha e acc R hacc hR => by subst e; exact step a ha acc R hacc (hR _ rfl)) (fun s' e => by subst e; exact hq) s rfl
theorem filterMap_some {α : Type} {p : α → PyData} : ∀ l : List α, (l.filterMap fun a => some (p a)) = l.map p
  | [] => rfl
  | a :: l => by simp
theorem filterMap_ok {α : Type} {p : α → PyData} {ok : α → Bool} : ∀ l : List α, (l.filterMap fun a => if ok a = true then some (p a) else none) = (l.filter ok).map p
  | [] => rfl
  | a :: l => by
    have := filterMap_ok (p := p) (ok := ok) l
    by_cases h : ok a = true
    · simp [h, this]
    · simp [h, this]
/-- [g(a) for a in all] -/
theorem comp_map {α : Type} {gd : DG} {te : DTE} {vs : List Nat} {Q : List PyData → DSt → Prop} {p : α → PyData} (g : α → PyData) {all : List α} {s : DSt} (hl : all.length ≤ sizeLine)
    (step : ∀ a, a ∈ all → ∀ (acc : List PyData) (R : List PyData → DSt → Prop), acc.length < sizeLine → R (acc ++ [g a]) s → gd (p a) s fun s1 => te s1 fun o s3 => Cond (acc.length < sizeLine) (R (acc ++ [o.data]) (forgetAll vs s3)))
    (hq : Q (all.map g) s) : @CompI (all.map p) [] s ⟨gd, tYesD, te, vs, Q⟩ :=
  comp_pure (fun a => some (g a)) hl (fun a ha acc R hacc hR => step a ha acc R hacc hR) (by rw [filterMap_some]; exact hq)
/-- [a for a in all if ok(a)] -/
theorem comp_filter {α : Type} {gd : DG} {tt : DTT} {te : DTE} {vs : List Nat} {Q : List PyData → DSt → Prop} {p : α → PyData} (ok : α → Bool) {all : List α} {s : DSt} (hl : all.length ≤ sizeLine)
    (step : ∀ a, a ∈ all → ∀ (acc : List PyData) (R : List PyData → DSt → Prop), acc.length < sizeLine → (ok a = true → R (acc ++ [p a]) s) → (ok a = false → R acc s) →
      gd (p a) s fun s1 => tt s1 fun b s2 => Br b (te s2 fun o s3 => Cond (acc.length < sizeLine) (R (acc ++ [o.data]) (forgetAll vs s3))) (R acc (forgetAll vs s2)))
    (hq : Q ((all.filter ok).map p) s) : @CompI (all.map p) [] s ⟨gd, tt, te, vs, Q⟩ :=
  comp_pure (fun a => if ok a = true then some (p a) else none) hl (fun a ha acc R hacc hR => step a ha acc R hacc (fun h => by simpa [h] using hR) (fun h => by simpa [h] using hR)) (by rw [filterMap_ok]; exact hq)
theorem forI_inv {g : DG} {b : DTS} {E : DEn} (J : List PyData → DSt → Prop)
    (step : ∀ d ds s, J (d :: ds) s → ∀ R : DSt → Prop, (∀ s', J ds s' → R s') → g d s fun s1 => b { nx := R, rt := E.rt, bk := E.nx, ct := R } s1) (hq : ∀ s, J [] s → E.nx s) :
    ∀ (ds : List PyData) (s : DSt), J ds s → @ForI ds s ⟨g, b, E⟩ := for_inv J step hq
/-! texts of paths -/
def upL (ps : Rd0) : List Nat := if ps = [] then [] else pathL ps
theorem upL_len {ps : Rd0} (h : Road ps) : (upL ps).length ≤ 100 := by
  unfold upL
  split
  · decide
  · exact path_len h.2 h.1
@[simp] theorem v_above {ps : Rd0} (h : Parts ps) : gIx (.list [P ps, tx []]) (.int (if pathL ps = [47] then 1 else 0)) = some (.fz (tx (upL ps))) := by
  have := gIx_above h
  rw [show (if decide (pathL ps = [47]) = true then (1 : Int) else 0) = if pathL ps = [47] then 1 else 0 by by_cases h : pathL ps = [47] <;> simp [h]] at this
  exact this
@[simp] theorem v_above' {ps : Rd0} : gIx (.list [P ps, tx []]) (.int (if ps = [] then 1 else 0)) = some (.fz (tx (upL ps))) := by
  unfold upL
  by_cases h : ps = []
  · subst h; rfl
  · simp only [if_neg h]; rfl
theorem up_snoc {ps : Rd0} {q : List Nat} : upL ps ++ 47 :: q = pathL (ps ++ [q]) := by rw [path_snoc]; rfl
theorem up_snoc' {ps : Rd0} {q : List Nat} : upL ps ++ [47] ++ q = pathL (ps ++ [q]) := by rw [path_snoc]; simp [upL]
@[simp] theorem v_root {ps : Rd0} (h : Parts ps) : (pathL ps = [47]) = (ps = []) := propext (pathL_ne h)
@[simp] theorem v_pcount {ps : Rd0} (h : Parts ps) : (pathL ps).count 47 = max 1 ps.length := pathL_count h
theorem v_ixS {l : List Nat} {j : Nat} {c : Nat} (h : l[j]? = some c) (hl : l.length ≤ sizeLine) : gIx (tx l) (.int j) = some (.fz (tx [c])) := by
  show (if (SX.S l).length ≤ sizeLine then (L2.atI (SX.S l).cps.toList (j : Int)).map (fun c => OV.fz (.str ⟨#[c]⟩)) else none) = _
  rw [len_S, if_pos hl]
  have hj : j < l.length := by
    rcases Nat.lt_or_ge j l.length with z | z
    · exact z
    · rw [List.getElem?_eq_none z] at h
      cases h
  unfold L2.atI ixN
  rw [if_pos (Int.natCast_nonneg j), if_pos (show (j : Int) < (((SX.S l).cps.toList.length : Nat) : Int) from Int.ofNat_lt.mpr hj)]
  show ((l[(j : Int).toNat]?).map _) = _
  rw [Int.toNat_natCast, h]
  rfl
theorem road_snoc' {ps : Rd0} {w : List Nat} (hr : Road ps) (hl : ps.length < 5) (h1 : partB w = true) (h2 : 47 ∉ w) (h3 : w.length ≤ 15) : Road (ps ++ [w]) := by
  refine ⟨fun p hp => ?_, by simp; omega⟩
  rcases List.mem_append.mp hp with z | z
  · exact hr.1 p z
  · cases List.mem_singleton.mp z
    exact ⟨h1, h2, h3⟩
theorem last_snoc' {ps : Rd0} {w : List Nat} (h : 47 ∉ w) : lastL (pathL (ps ++ [w])) = w := by
  rw [path_snoc]
  obtain ⟨init, e⟩ := spl_last (if ps = [] then [] else pathL ps) w [] h
  unfold lastL
  rw [e]
  simp
theorem mem_sortR {rs : List Rd0} {r : Rd0} : r ∈ sortR rs ↔ r ∈ rs := (sortR_perm rs).mem_iff
end L2.DL

set_option maxRecDepth 100000
set_option maxHeartbeats 4000000
/-! DL39: deeds keep a tree a tree. -/
namespace L2.DL
open PySem PySem.Spec PyProof.Rows
theorem part_six {w f : List Nat} (h : wordB w = true) (hl : f.length = 6) (hf : ∀ c ∈ f, c ∈ figuresL) : partB (w ++ 45 :: f) = true ∧ 47 ∉ w ++ 45 :: f ∧ (w ++ 45 :: f).length ≤ 15 := by
  have h3 := (word_all h)
  have hd : 45 ∉ w := fun z => absurd (h3.2.2 45 z) (by decide)
  refine ⟨?_, ?_, ?_⟩
  · unfold partB
    have : TL.par [45] [] (w ++ 45 :: f) = some (w, f) := SX.par_head (sep := []) f hd
    rw [this]
    show (wordB w && decide (f.length = 6) && f.all fun c => decide (c ∈ figuresL)) = true
    rw [h, hl]
    simp
    exact hf
  · intro z
    rcases List.mem_append.mp z with z | z
    · exact absurd (h3.2.2 47 z) (by decide)
    · rcases List.mem_cons.mp z with z | z
      · cases z
      · exact absurd (hf 47 z) (by decide)
  · have := h3.2.1
    simp [hl]
    omega
/-- the last part that a make gives -/
def newL (q : List Nat) (num : Bool) (m : Int) : List Nat := if num = true then q ++ 45 :: sixL m else q
theorem newP_snoc {ps : Rd0} {q : List Nat} {num : Bool} {m : Int} : newP (pathL (ps ++ [q])) num m = pathL (ps ++ [newL q num m]) := by
  unfold newP newL
  cases num with
  | false => rfl
  | true =>
    rw [if_pos rfl, if_pos rfl, path_snoc, path_snoc]
    simp
theorem new_road {ps : Rd0} {q t : List Nat} {num : Bool} {m : Int} (h : MakeOk (ps ++ [q]) t num) (h6 : num = true → sixOk m = true) : Road (ps ++ [newL q num m]) := by
  have hr := h.road
  have hq : partB q = true ∧ 47 ∉ q ∧ q.length ≤ 15 := hr.1 q (by simp)
  have hp : Road ps := ⟨fun p hp => hr.1 p (by simp [hp]), by have := hr.2; simp at this; omega⟩
  have hl : ps.length < 5 := by have := hr.2; simp at this; omega
  unfold newL
  cases num with
  | false => exact hr
  | true =>
    have hw := h.num rfl
    rw [last_snoc' hq.2.1] at hw
    obtain ⟨_, hl6, hf, _⟩ := six_ok (h6 rfl)
    obtain ⟨a, b, c⟩ := part_six hw hl6 hf
    exact road_snoc' hp hl a b c
/-- what a make does, where it is done -/
theorem makeG_ok {es : Tr} {ps : Rd0} {q t : List Nat} {w : List Nat} {own num : Bool} {t' : List Nat} {n m : Nat} (hv : lookD es (keyP ps) = some (nodeP t' n m none)) (hn : lookD es (keyP (ps ++ [newL q num m])) = none) (hl : es.length < 60) (hm : num = true → m ≤ 999999) :
    makeG es (ps ++ [q]) (tx t) (tx w) own num = (putD (putD es (keyP (ps ++ [newL q num m])) (nodeP t 0 0 (if own = true then some w else none))) (keyP ps) (nodeP t' n (m + 1) none), .tuple [tx okW, P (ps ++ [newL q num m])], [.tuple [tx madeW, P (ps ++ [newL q num m])], .tuple [tx kidsW, P ps]]) := by
  have ed : (ps ++ [q]).dropLast = ps := by simp
  rw [makeG_some (by rw [ed]; exact hv), ed, madeD_node, newP_snoc]
  unfold mkG
  have hn' : lookD es (.inr (SX.S (pathL (ps ++ [newL q num m])))) = none := hn
  have hf : fullG es num (nodeP t' n m none) = false := by
    unfold fullG
    rw [decide_eq_false (by omega), Bool.false_or, madeD_node]
    cases num with
    | false => rfl
    | true =>
      have := hm rfl
      rw [decide_eq_false (by omega)]
      rfl
  rw [freeD_node, hn', hf, incN_node]
  cases own <;> rfl
theorem makeG_cases {es : Tr} {ps : Rd0} {q t w : List Nat} {own num : Bool} (ht : TreeG es) (P : Res → Prop) (hno : ∀ x : List Nat, P (noR es (tx x)))
    (hok : ∀ t' n m, lookD es (keyP ps) = some (nodeP t' n m none) → lookD es (keyP (ps ++ [newL q num m])) = none → es.length < 60 → (num = true → m ≤ 999999) → P (putD (putD es (keyP (ps ++ [newL q num m])) (nodeP t 0 0 (if own = true then some w else none))) (keyP ps) (nodeP t' n (m + 1) none), .tuple [tx okW, DL.P (ps ++ [newL q num m])], [.tuple [tx madeW, DL.P (ps ++ [newL q num m])], .tuple [tx kidsW, DL.P ps]])) :
    P (makeG es (ps ++ [q]) (tx t) (tx w) own num) := by
  have ed : (ps ++ [q]).dropLast = ps := by simp
  cases hv : lookD es (keyP ps) with
  | none =>
    rw [makeG_none (by rw [ed]; exact hv)]
    exact hno _
  | some v =>
    obtain ⟨t', n, m, o, rfl, _, _⟩ := ht.nodeP hv
    cases o with
    | some w' =>
      rw [makeG_some (by rw [ed]; exact hv)]
      unfold mkG
      rw [freeD_node]
      exact hno _
    | none =>
      by_cases h1 : lookD es (keyP (ps ++ [newL q num m])) = none
      · by_cases h2 : es.length < 60
        · by_cases h3 : num = true → m ≤ 999999
          · rw [makeG_ok hv h1 h2 h3]
            exact hok _ _ _ hv h1 h2 h3
          · rw [makeG_some (by rw [ed]; exact hv), ed, madeD_node, newP_snoc]
            unfold mkG
            have h1' : lookD es (.inr (SX.S (pathL (ps ++ [newL q num m])))) = none := h1
            have hf : fullG es num (nodeP t' n m none) = true := by
              unfold fullG
              have : num = true ∧ ¬ m ≤ 999999 := by
                constructor
                · cases num with
                  | true => rfl
                  | false => exact absurd (fun z => by cases z) h3
                · exact fun z => h3 fun _ => z
              rw [this.1, madeD_node, decide_eq_true (show (999999 : Int) < (m : Nat) by omega)]
              simp
            rw [freeD_node, h1', hf]
            exact hno _
        · rw [makeG_some (by rw [ed]; exact hv), ed, madeD_node, newP_snoc]
          unfold mkG
          have h1' : lookD es (.inr (SX.S (pathL (ps ++ [newL q num m])))) = none := h1
          have hf : fullG es num (nodeP t' n m none) = true := by
            unfold fullG
            rw [decide_eq_true (by omega)]
            rfl
          rw [freeD_node, h1', hf]
          exact hno _
      · rw [makeG_some (by rw [ed]; exact hv), ed, madeD_node, newP_snoc]
        unfold mkG
        have h1' : (lookD es (.inr (SX.S (pathL (ps ++ [newL q num m]))))).isSome = true := by
          cases e : lookD es (keyP (ps ++ [newL q num m])) with
          | none => exact absurd e h1
          | some _ => rfl
        rw [freeD_node, h1']
        exact hno _
/-- what numbers a make meets -/
def PD.nice (es : Tr) : PD → Prop
  | .make ps _ _ true => ∀ v, lookD es (keyP ps.dropLast) = some v → sixOk (madeD v) = true
  | _ => True
theorem PD.nice.six {es : Tr} {p : PD} (h : p.nice es) : p.six es := by
  cases p with
  | make ps t own num =>
    cases num with
    | true => exact fun v hv => fmt_of_six (h v hv)
    | false => trivial
  | _ => trivial
theorem TreeI.run {es : Tr} (h : TreeI es) {p : PD} {w : List Nat} (hok : p.ok) (hw : wordB w = true) (hn : p.nice es) : TreeI (p.run es w).1 := by
  cases p with
  | make ps t own num =>
    have hok : MakeOk ps t num := hok
    obtain ⟨qs, q, rfl⟩ : ∃ qs q, ps = qs ++ [q] := ⟨ps.dropLast, ps.getLast hok.ne, (List.dropLast_concat_getLast _).symm⟩
    show TreeI (makeG es (qs ++ [q]) (tx t) (tx w) own num).1
    refine makeG_cases h.g (fun r => TreeI r.1) (fun _ => h) fun t' n m hv hnone hl hm => ?_
    refine h.add (new_road hok fun hnum => ?_) hv hnone hl hok.txt fun w' hw' => ?_
    · subst hnum
      have := hn _ (by rw [show (qs ++ [q]).dropLast = qs by simp]; exact hv)
      simpa using this
    · split at hw'
      · cases hw'; exact hw
      · cases hw'
  | put ps t c =>
    show TreeI (putR es ps (tx t) (cntP c)).1
    unfold putR
    cases hv : lookD es (keyP ps) with
    | none => exact h
    | some v =>
      obtain ⟨t', n, m, o, rfl, _, _⟩ := h.g.nodeP hv
      show TreeI (Prod.fst (if wants (cntP c) (nodeP t' n m o) = true then _ else _))
      split
      · show TreeI (putD es (keyP ps) (putN (tx t) (nodeP t' n m o)))
        rw [putN_node]
        exact h.set hok.1 hv hok.2 (Nat.le_refl _)
      · exact h
  | drop ps c =>
    show TreeI (dropR es ps (cntP c)).1
    unfold dropR
    cases hv : lookD es (keyP ps) with
    | none => exact h
    | some v =>
      show TreeI (Prod.fst (if wants (cntP c) v = true then _ else _))
      split
      · split
        · rename_i hk
          exact h.drop hok.1 hok.2 hk
        · exact h
      · exact h
  | see ps c =>
    show TreeI (seeR es ps (cntP c)).1
    unfold seeR
    cases hv : lookD es (keyP ps) with
    | none => exact h
    | some v =>
      show TreeI (Prod.fst (if wants (cntP c) v = true then _ else _))
      split <;> exact h
end L2.DL

set_option maxRecDepth 100000
set_option maxHeartbeats 4000000
/-! DL40: == and != of data that is the same, dicts within tuples and lists too. -/
namespace L2.DL
open PySem PySem.Spec PyProof.Rows
section
variable {X : Cx} {pins : List (Addr × Obj)} {σ : L2.St} {Z H : Hp} {s : Shared}
theorem nd_keys {a : Addr} {ks : List (Key × V)} (I : Inv X pins σ H s) (zh : Same Z H) (h : Rd Z a (.dK ks)) : (ks.map (·.1)).Nodup := by
  obtain ⟨_, _, va, kva, da⟩ := dk_rd I.hok (DL.Le.of zh _ _ h)
  obtain ⟨_, _, _, _, _, _, _, _, nd⟩ := da
  rw [kv_keys kva]
  exact nd
theorem all_yes (n : Nat) : ((List.range n).all fun _ => true) = true := List.all_eq_true.mpr fun _ _ => rfl
theorem val_there {K : Type} [DecidableEq K] {k : K} : ∀ {vs : List (K × Value)}, k ∈ vs.map (·.1) → (valueAt vs k).isSome = true := fun {vs} h => by
  exact PySem.valueAt_isSome.mpr h
mutual
theorem Rp.eqIn (I : Inv X pins σ H s) (zh : Same Z H) : ∀ {x : V} {d : PyData}, Rp X.K Z x d → ∀ {y : V} {v u : Value} {A : Around}, Rp X.K Z y d → RelV x v → RelV y u → A.units + 66 + d.depth < cLine → PySem.SeqAt.EqIn X.prog X.w A.in1 s v u true
  | _, _, .non, _, _, _, _, q, r1, r2, hu => dat_same I zh (by simp only [PyData.depth] at hu; omega) .non q (by decide) r1 r2
  | _, _, .bl b, _, _, _, _, q, r1, r2, hu => dat_same I zh (by simp only [PyData.depth] at hu; omega) (.bl b) q (by cases b <;> decide) r1 r2
  | _, _, .int i, _, _, _, _, q, r1, r2, hu => dat_same I zh (by simp only [PyData.depth] at hu; omega) (.int i) q rfl r1 r2
  | _, _, .str x h, _, _, _, _, q, r1, r2, hu => dat_same I zh (by simp only [PyData.depth] at hu; omega) (.str x h) q rfl r1 r2
  | _, _, .lst (a := a) (xs := xs) (ds := ds) h1 w1, _, _, _, A, q, r1, r2, hu => by
    cases q with
    | @lst b ys _ h2 w2 =>
      obtain rfl : _ = Value.ref a := r1
      obtain rfl : _ = Value.ref b := r2
      by_cases hab : a = b
      · subst hab
        exact (PySem.SeqAt.EqAt.same _).inModel _ _
      obtain ⟨its, rv, hi, _⟩ := I.list ((Le.of zh).sqL h1)
      obtain ⟨its2, rv2, hi2, _⟩ := I.list ((Le.of zh).sqL h2)
      have l1 := rv.length
      have l2 := rv2.length
      have l3 := w1.length
      have l4 := w2.length
      simp only [PyData.depth] at hu
      have hi' : s.heap.IsList a its.toArray := by
        obtain ⟨o, n, e, hc, _, hd⟩ := hi
        exact ⟨o, e, hc, n, hd⟩
      have hi2' : s.heap.IsList b its2.toArray := by
        obtain ⟨o, n, e, hc, _, hd⟩ := hi2
        exact ⟨o, e, hc, n, hd⟩
      refine PySem.SeqAt.EqIn.of_refs hab fun E Q hq => PySem.SeqAt.rcIn_lists (e := fun _ => true) hi' hi2' (by simp; omega) (by show A.units + 1 < cLine; omega) (fun j g1 g2 => ?_) ?_
      · have := RpA.eqIn I zh w1 (A := A.in1) w2 rv rv2 (by show A.units + 1 + 66 + _ < cLine; omega) j (by simpa using g1) (by simpa using g2)
        simpa using this
      · rw [all_yes]
        exact hq
  | _, _, .tup (a := a) (xs := xs) (ds := ds) h1 w1, _, _, _, A, q, r1, r2, hu => by
    cases q with
    | @tup b ys _ h2 w2 =>
      obtain rfl : _ = Value.ref a := r1
      obtain rfl : _ = Value.ref b := r2
      by_cases hab : a = b
      · subst hab
        exact (PySem.SeqAt.EqAt.same _).inModel _ _
      obtain ⟨its, rv, hi, _⟩ := I.tuple ((Le.of zh).sqT h1)
      obtain ⟨its2, rv2, hi2, _⟩ := I.tuple ((Le.of zh).sqT h2)
      have l1 := rv.length
      have l2 := rv2.length
      have l3 := w1.length
      have l4 := w2.length
      simp only [PyData.depth] at hu
      refine PySem.SeqAt.EqIn.of_refs hab fun E Q hq => PySem.SeqAt.rcIn_tuples (e := fun _ => true) hi hi2 (by show A.units + 1 < cLine; omega) (fun j g1 g2 => ?_) ?_
      · have := RpA.eqIn I zh w1 (A := A.in1) w2 rv rv2 (by show A.units + 1 + 66 + _ < cLine; omega) j (by simpa using g1) (by simpa using g2)
        simpa using this
      · have e : its.length = its2.length := by omega
        rw [all_yes, Bool.true_and, show (its.toArray.size == its2.toArray.size) = true by simp [e]]
        exact hq
  | _, _, .dct (a := a) (ks := k1) (es := es) h1 w1, _, _, _, A, q, r1, r2, hu => by
    cases q with
    | @dct b k2 _ h2 w2 =>
      obtain rfl : _ = Value.ref a := r1
      obtain rfl : _ = Value.ref b := r2
      by_cases hab : a = b
      · subst hab
        exact (PySem.SeqAt.EqAt.same _).inModel _ _
      obtain ⟨_, la, va, kva, da⟩ := dk_rd I.hok (DL.Le.of zh _ _ h1)
      obtain ⟨_, lb, vb, kvb, db⟩ := dk_rd I.hok (DL.Le.of zh _ _ h2)
      have ka := kv_keys kva
      have kb := kv_keys kvb
      have kk := RpK.keys w1 w2
      have hl : va.length = vb.length := by
        have := congrArg List.length (ka.symm.trans (kk.trans kb))
        simpa using this
      simp only [PyData.depth] at hu
      have nd : (va.map (·.1)).Nodup := by rw [← ka]; exact nd_keys I zh h1
      refine PySem.SeqAt.EqIn.of_refs hab fun E Q hq => PySem.W.keq_eqIn (knd := mixKind X.prog X.w) la lb da db (by show A.units + 1 < cLine; omega) (fun _ => PySem.W.KeqHitsIn.of (e := fun _ => true) _ fun k v y hm hv => ?_) ?_
      · exact RpK.eqIn I zh w1 (A := A.in1) w2 kva kvb nd (by show A.units + 1 + 66 + _ < cLine; omega) k v y hm hv
      · have : (va.all fun p => (valueAt vb p.1).isSome && true) = true := List.all_eq_true.mpr fun p hp => by
          rw [Bool.and_true]
          refine val_there ?_
          rw [← kb, ← kk, ka]
          exact List.mem_map.mpr ⟨p, hp, rfl⟩
        rw [this, hl]
        simpa using hq
theorem RpA.eqIn (I : Inv X pins σ H s) (zh : Same Z H) : ∀ {xs : List V} {ds : List PyData}, RpA X.K Z xs ds → ∀ {ys : List V} {vs us : List Value} {A : Around}, RpA X.K Z ys ds → Vals xs vs → Vals ys us → A.units + 66 + PyData.depthAll ds < cLine →
    ∀ (j : Nat) (h1 : j < vs.length) (h2 : j < us.length), PySem.SeqAt.EqIn X.prog X.w A.in1 s vs[j] us[j] true
  | _, _, .nil, _, _, _, _, .nil, .nil, .nil, _, _, h1, _ => absurd h1 (Nat.not_lt_zero _)
  | _, _, .cons p w, _, _, _, A, .cons q w', .cons r1 rs1, .cons r2 rs2, hu, j, h1, h2 => by
    simp only [PyData.depthAll] at hu
    cases j with
    | zero => exact Rp.eqIn I zh p q r1 r2 (by omega)
    | succ j => exact RpA.eqIn I zh w w' rs1 rs2 (by omega) j (by simpa using h1) (by simpa using h2)
theorem RpK.eqIn (I : Inv X pins σ H s) (zh : Same Z H) : ∀ {ks : List (Key × V)} {es : List (PyData × PyData)}, RpK X.K Z ks es → ∀ {ls : List (Key × V)} {vs us : List (Key × Value)} {A : Around}, RpK X.K Z ls es → KV ks vs → KV ls us → (vs.map (·.1)).Nodup →
    A.units + 66 + PyData.depthKv es < cLine → ∀ (k : Key) (v y : Value), (k, v) ∈ vs → valueAt us k = some y → PySem.SeqAt.EqIn X.prog X.w A.in1 s v y true
  | _, _, .nil, _, _, _, _, .nil, kv, _, _, _, k, v, y, hm, _ => by
    cases kv
    cases hm
  | _, _, .cons (k := k0) (es := es) o1 p w, _, _, _, A, h2', kv, kv2, nd, hu, k, v, y, hm, hv => by
    simp only [PyData.depthKv] at hu
    generalize hes : ((kD k0, _) :: es : List (PyData × PyData)) = es2 at h2'
    cases h2' with
    | nil => cases hes
    | @cons k0' v' d' ks' es' o2 q w' =>
      injection hes with e1 e2
      injection e1 with e1 e3
      have e1 := kD_inj e1
      subst e1 e2 e3
      cases kv with
      | cons g1 g2 =>
        rename_i p1 vs
        obtain ⟨k1, v1⟩ := p1
        obtain ⟨f1, rv1⟩ := g1
        cases kv2 with
        | cons g3 g4 =>
          rename_i p2 us
          obtain ⟨k2, u1⟩ := p2
          obtain ⟨f2, rv2⟩ := g3
          have f1 : k0 = k1 := f1
          have f2 : k0 = k2 := f2
          subst f1 f2
          rw [List.map_cons, List.nodup_cons] at nd
          by_cases hk : k = k0
          · subst hk
            have hv1 : v = v1 := by
              rcases List.mem_cons.mp hm with z | z
              · injection z
              · exact absurd (List.mem_map.mpr ⟨_, z, rfl⟩) nd.1
            subst hv1
            have hy : u1 = y := by
              have : valueAt ((k, u1) :: us) k = some u1 := by simp [valueAt]
              rw [this] at hv
              exact Option.some.inj hv
            subst hy
            exact Rp.eqIn I zh p q rv1 rv2 (by omega)
          · have hm' : (k, v) ∈ vs := by
              rcases List.mem_cons.mp hm with z | z
              · injection z with z _
                exact absurd z hk
              · exact z
            have hv' : valueAt us k = some y := by
              have : valueAt ((k0, u1) :: us) k = valueAt us k := by simp [valueAt, Ne.symm hk]
              rw [this] at hv
              exact hv
            exact RpK.eqIn I zh w w' g2 g4 nd.2 (by omega) k v y hm' hv'
theorem RpK.keys : ∀ {ks ls : List (Key × V)} {es : List (PyData × PyData)}, RpK X.K Z ks es → RpK X.K Z ls es → ks.map (·.1) = ls.map (·.1)
  | _, _, _, .nil, .nil => rfl
  | _, _, _, .cons (k := k0) (es := es) o1 p w, h2' => by
    generalize hes : ((kD k0, _) :: es : List (PyData × PyData)) = es2 at h2'
    cases h2' with
    | nil => cases hes
    | @cons k0' v' d' ks' es' o2 q w' =>
      injection hes with e1 e2
      injection e1 with e1 e3
      have e1 := kD_inj e1
      subst e1 e2 e3
      rw [List.map_cons, List.map_cons, RpK.keys w w']
end
/-- two tuples with the same things -/
def rSame (K : PySem.W.Frag) (b : Bool) : R2 := fun x y H Q => ∃ ds Z, Same Z H ∧ Rp K Z x (.tuple ds) ∧ Rp K Z y (.tuple ds) ∧ PyData.depthAll ds ≤ 30 ∧ Q (.bl b) H
theorem op_eqSame (hu : X.A.units + 100 < cLine) : OpR X (compareOp .Eq) (rSame X.K true) := by
  rintro pins s σ H x y v u Q I rx ry ⟨ds, Z, zh, p1, p2, hd, k⟩
  cases p1 with
  | @tup a xs _ ha r1 =>
    cases p2 with
    | @tup b ys _ hb r2 =>
      obtain rfl : v = Value.ref a := rx
      obtain rfl : u = Value.ref b := ry
      obtain ⟨its, rv, hi, _⟩ := I.tuple ((Le.of zh).sqT ha)
      obtain ⟨its2, rv2, hi2, _⟩ := I.tuple ((Le.of zh).sqT hb)
      have l1 := rv.length
      have l2 := rv2.length
      have l3 := r1.length
      have l4 := r2.length
      refine PySem.SeqAt.rcIn_tuples (e := fun _ => true) hi hi2 (by omega) (fun j g1 g2 => ?_) ?_
      · have := RpA.eqIn I zh r1 (A := X.A) r2 rv rv2 (by omega) j (by simpa using g1) (by simpa using g2)
        simpa using this
      · have e : its.length = its2.length := by omega
        rw [all_yes, Bool.true_and, show (its.toArray.size == its2.toArray.size) = true by simp [e]]
        exact ⟨.bl true, H, I, rfl, k⟩
theorem op_neSame (hu : X.A.units + 100 < cLine) : OpR X (compareOp .NotEq) (rSame X.K false) := by
  rintro pins s σ H x y v u Q I rx ry ⟨ds, Z, zh, p1, p2, hd, k⟩
  cases p1 with
  | @tup a xs _ ha r1 =>
    cases p2 with
    | @tup b ys _ hb r2 =>
      obtain rfl : v = Value.ref a := rx
      obtain rfl : u = Value.ref b := ry
      obtain ⟨its, rv, ⟨⟨cls, dd, data, sl⟩, ho, hc, n, hd'⟩, _⟩ := I.tuple ((Le.of zh).sqT ha)
      obtain ⟨its2, rv2, ⟨⟨cls2, dd2, data2, sl2⟩, ho2, hc2, n2, hd2⟩, _⟩ := I.tuple ((Le.of zh).sqT hb)
      simp only at hc hd' hc2 hd2
      subst hc hd' hc2 hd2
      have l1 := rv.length
      have l2 := rv2.length
      have l3 := r1.length
      have l4 := r2.length
      have e : its.length = its2.length := by omega
      refine wpAny_richCompare_same_room (T := "tuple") (op := .NotEq) ⟨_, ho, rfl⟩ ⟨_, ho2, rfl⟩ F.slot_tuple_ne (call_meetsIn F.slot_tuple_ne ⟨_, ho, rfl⟩ F.entry_tuple_ne (F.args_tuple_ne_2 _ _) (PySem.SeqAt.dl_ne_alike a b _ _ n n2 dd dd2 sl sl2 (by simp [e]))
        ⟨ho, ho2, fun z hz => ?_, ⟨(fun x => nomatch x), ⟨.bl false, H, I, rfl, k⟩⟩⟩) (by omega)
      obtain ⟨j, hj, ez⟩ := List.getElem_of_mem hz
      have hj' : j < its.length ∧ j < its2.length := by simp at hj; omega
      have := RpA.eqIn I zh r1 (A := X.A) r2 rv rv2 (by omega) j hj'.1 hj'.2
      have e2 : z = (its[j], its2[j]) := by rw [← ez]; simp
      rw [e2]
      exact this
def gSame (b : Bool) : PyData → PyData → Option OV
  | .tuple ds, .tuple ls => if (PySem.Spec.sameAll ds ls && decide (PyData.depthAll ds ≤ 30)) = true then some (.fz (.bool b)) else none
  | _, _ => none
theorem od_same (b : Bool) : OpD X (rSame X.K b) (gSame b) := fun {f Z fp s σ H vx vy x y o Q} r px py e t => by
  unfold gSame at e
  split at e
  · obtain ⟨hc, e⟩ := some_if e
    subst e
    simp only [Bool.and_eq_true, decide_eq_true_eq] at hc
    obtain ⟨h1, h2⟩ := hc
    obtain rfl := eqAll_of_same _ _ h1
    exact ⟨_, Z, r.zh, px, py, h2, t.flat r (.bl _)⟩
  · cases e
theorem hu100 {N : List Str} {sc : Scope} {k : Nat} {dd : Bool} (hc : XC N sc k dd X) : X.A.units + 100 < cLine := by
  have := hc.room.un
  omega
end
theorem sameAll_self : ∀ ds : List PyData, PySem.Spec.sameAll ds ds = true
  | [] => rfl
  | d :: ds => by simp only [PySem.Spec.sameAll, same_refl, sameAll_self ds, Bool.and_self]
theorem gSame_self {ds : List PyData} {b : Bool} (h : PyData.depthAll ds ≤ 30) : gSame b (.tuple ds) (.tuple ds) = some (.fz (.bool b)) := by
  show (if (PySem.Spec.sameAll ds ds && decide (PyData.depthAll ds ≤ 30)) = true then _ else none) = _
  rw [sameAll_self, decide_eq_true h]
  rfl
theorem node_depth {B : Nat} {v : PyData} (h : NodeB B v) : v.depth ≤ 1 := by
  obtain ⟨t, n, m, o, rfl, _⟩ := h.P
  cases o <;> simp [nodeP, ownP, PyData.depth, PyData.depthAll]
theorem TreeG.depth {es : Tr} (h : TreeG es) : PyData.depth (.dict es) ≤ 2 := by
  obtain ⟨B, h⟩ := h
  have : ∀ es : Tr, (∀ e ∈ es, PyData.depth e.1 = 0 ∧ PyData.depth e.2 ≤ 1) → PyData.depthKv es ≤ 1 := fun es => by
    induction es with
    | nil => intro _; exact Nat.zero_le _
    | cons e r ih =>
      intro h
      obtain ⟨a, b⟩ := e
      obtain ⟨h1, h2⟩ := h (a, b) (by simp)
      have := ih fun e he => h e (by simp [he])
      simp only [PyData.depthKv]
      have h1 : a.depth = 0 := h1
      have h2 : b.depth ≤ 1 := h2
      omega
  have := this es fun e he => by
    obtain ⟨ps, _, e1, h2⟩ := h.2.2 e he
    exact ⟨by rw [e1]; simp [PyData.depth], node_depth h2⟩
  simp only [PyData.depth]
  omega
theorem TreeG.eqOks {es : Tr} (h : TreeG es) : (es.all fun e => eqOk e.2) = true := h.elim fun _ h => tree_eqOk h
end L2.DL

set_option maxRecDepth 100000
set_option maxHeartbeats 4000000
/-! DL41: trees of the root alone; what was made and dropped again; six figures as texts. -/
namespace L2.DL
open PySem PySem.Spec PyProof.Rows
theorem dropD_new {es : Tr} {k : Key} {d : PyData} (hn : lookD es k = none) : dropD (putD es k d) k = es := by
  rw [putD_new hn]
  unfold dropD
  rw [List.filter_append, List.filter_eq_self.mpr fun e he => ?_]
  · simp [toKey_kD]
  · simp only [decide_eq_true_eq]
    intro z
    obtain ⟨v, hv⟩ := lookD_some he z
    rw [hn] at hv
    cases hv
theorem dropD_comm {es : Tr} {ka kq : Key} {e : PyData} (hne : ka ≠ kq) (ha : (lookD es ka).isSome = true) : dropD (putD es ka e) kq = putD (dropD es kq) ka e := by
  rw [putD_there ha, putD_there (by rw [look_drop_other hne]; exact ha)]
  unfold dropD
  rw [List.filter_map]
  congr 1
  refine List.filter_congr fun x hx => ?_
  show decide (toKey (if toKey x.1 = some ka then (x.1, e) else x).1 ≠ some kq) = _
  split <;> rfl
/-- the root alone, with so many made -/
def rootW (m : Nat) : Tr := [(tx [47], nodeP [] 0 m none)]
@[simp] theorem rootW_look {m : Nat} : lookD (rootW m) (keyP []) = some (nodeP [] 0 m none) := rfl
theorem rootW_roads {m : Nat} : (rootW m).map roadOf = [[]] := rfl
theorem rootW_put {m n : Nat} : putD (rootW m) (keyP []) (nodeP [] 0 n none) = rootW n := rfl
theorem parts_nil : Parts [] := fun _ z => by cases z
theorem rootW_other {m : Nat} {ps : Rd0} (hp : Parts ps) (hne : ps ≠ []) : lookD (rootW m) (keyP ps) = none := by
  cases h : lookD (rootW m) (keyP ps) with
  | none => rfl
  | some v =>
    exfalso
    obtain ⟨e, he, e1, _⟩ := lookD_mem h
    rw [List.mem_singleton.mp he] at e1
    have e1 : some (keyP []) = some (keyP ps) := e1
    exact hne (keyP_inj parts_nil hp (Option.some.inj e1)).symm
theorem rootW_tree (m : Nat) : TreeI (rootW m) := by
  refine ⟨⟨m, by simp [rootW], Nat.le_of_ble_eq_true rfl, fun e he => ?_⟩, by rw [rootW_roads]; simp, ⟨_, _, _, rootW_look⟩, fun ps q h => ?_, fun ps t n m' o hp h => ?_⟩
  · rw [List.mem_singleton.mp he]
    exact ⟨[], ⟨parts_nil, Nat.zero_le _⟩, rfl, nodeB_P (by decide) (Nat.zero_le _) (Nat.le_refl _) fun _ z => by cases z⟩
  · rw [rootW_roads] at h
    simp at h
  · have : kidsL (rootW m) ps = [] := by
      rw [List.eq_nil_iff_forall_not_mem]
      intro q hq
      have := mem_kids.mp hq
      rw [rootW_roads] at this
      simp at this
    rw [this]
    exact Nat.zero_le _
/-- str(n) behind five noughts, its last six signs -/
theorem six_text {n : Int} (h : sixOk n = true) : ∃ z y : Str, gStrI [.int n] = some (.fz (.str z)) ∧ gAdd (tx [48, 48, 48, 48, 48]) (.str z) = some (.fz (.str y)) ∧ gSl (.str y) (some (-6)) none = some (.fz (tx (sixL n))) := by
  obtain ⟨⟨h0, h1⟩, _, _, e, l⟩ := six_ok h
  have hz : (1002 : Nat) ≤ sizeLine := by decide
  have e5 : Str.length "00000" = 5 := by decide
  refine ⟨(toString n : String), ("00000" : Str) ++ ((toString n : String) : Str), if_pos (log_six h0 (by omega)), if_pos (show (SX.S [48, 48, 48, 48, 48]).length + Str.length ((toString n : String) : Str) ≤ sizeLine by rw [len_S]; show 5 + _ ≤ _; omega), ?_⟩
  show (if (("00000" : Str) ++ ((toString n : String) : Str)).length ≤ sizeLine then some (OV.fz (.str (cutS _ (some (-6)) none))) else none) = _
  rw [if_pos (by rw [strLen_append]; omega), e]
theorem noR_data {es : Tr} {w : PyData} : (noR es w).ov.data = .tuple [.dict es, .tuple [tx noW, w], .list []] := rfl
theorem noR_same {es : Tr} (h : TreeG es) (w : List Nat) (b : Bool) : gSame b (.tuple [.dict es, .tuple [tx noW, tx w], .list []]) (.tuple [.dict es, .tuple [tx noW, tx w], .list []]) = some (.fz (.bool b)) := by
  refine gSame_self ?_
  have := h.depth
  simp only [PyData.depthAll, PyData.depth] at this ⊢
  omega
@[simp] theorem res_ov {r : Res} : r.ov.data = .tuple [.dict r.1, r.2.1, .list r.2.2] := rfl
/-- why a make is refused -/
theorem make_no {es : Tr} {ps : Rd0} {q t w : List Nat} {own : Bool} (h : TreeG es) :
    (lookD es (keyP ps) = none → makeG es (ps ++ [q]) (tx t) (tx w) own false = noR es (tx parentW)) ∧
    (∀ t' n m w', lookD es (keyP ps) = some (nodeP t' n m (some w')) → makeG es (ps ++ [q]) (tx t) (tx w) own false = noR es (tx ownW)) ∧
    (∀ t' n m, lookD es (keyP ps) = some (nodeP t' n m none) → (lookD es (keyP (ps ++ [q]))).isSome = true → makeG es (ps ++ [q]) (tx t) (tx w) own false = noR es (tx thereW)) ∧
    (∀ t' n m, lookD es (keyP ps) = some (nodeP t' n m none) → lookD es (keyP (ps ++ [q])) = none → 60 ≤ es.length → makeG es (ps ++ [q]) (tx t) (tx w) own false = noR es (tx fullW)) := by
  have ed : (ps ++ [q]).dropLast = ps := by simp
  refine ⟨fun hv => makeG_none (by rw [ed]; exact hv), fun t' n m w' hv => ?_, fun t' n m hv hs => ?_, fun t' n m hv hn hl => ?_⟩
  · rw [makeG_some (by rw [ed]; exact hv)]
    unfold mkG
    rw [freeD_node]
    rfl
  · rw [makeG_some (by rw [ed]; exact hv)]
    unfold mkG
    rw [freeD_node]
    have hs : (lookD es (.inr (SX.S (newP (pathL (ps ++ [q])) false (madeD (nodeP t' n m none)))))).isSome = true := hs
    rw [hs]
    rfl
  · rw [makeG_some (by rw [ed]; exact hv)]
    unfold mkG
    rw [freeD_node]
    have hn : lookD es (.inr (SX.S (newP (pathL (ps ++ [q])) false (madeD (nodeP t' n m none))))) = none := hn
    have hf : fullG es false (nodeP t' n m none) = true := by
      unfold fullG
      rw [decide_eq_true hl]
      rfl
    rw [hn, hf]
    rfl
theorem make_full {es : Tr} {ps : Rd0} {q t w : List Nat} {own : Bool} {t' : List Nat} {n m : Nat} (hv : lookD es (keyP ps) = some (nodeP t' n m none)) (hn : lookD es (keyP (ps ++ [newL q true m])) = none) (hm : 999999 < m) : makeG es (ps ++ [q]) (tx t) (tx w) own true = noR es (tx fullW) := by
  have ed : (ps ++ [q]).dropLast = ps := by simp
  rw [makeG_some (by rw [ed]; exact hv), ed, madeD_node, newP_snoc]
  unfold mkG
  have hn' : lookD es (.inr (SX.S (pathL (ps ++ [newL q true m])))) = none := hn
  have hf : fullG es true (nodeP t' n m none) = true := by
    unfold fullG
    rw [madeD_node, decide_eq_true (show (999999 : Int) < (m : Nat) by omega)]
    simp
  rw [freeD_node, hn', hf]
  rfl
mutual
theorem eqv_nd : ∀ d : PyData, d.hasDict = false → PyData.eqv d d = true
  | .none, _ => by simp [PyData.eqv]
  | .bool _, _ => by simp [PyData.eqv]
  | .int _, _ => by simp [PyData.eqv]
  | .str _, _ => by simp [PyData.eqv]
  | .list xs, h => by
    have := eqv_nds xs (by simpa [PyData.hasDict] using h)
    simpa [PyData.eqv] using this
  | .tuple xs, h => by
    have := eqv_nds xs (by simpa [PyData.hasDict] using h)
    simpa [PyData.eqv] using this
  | .dict _, h => by simp [PyData.hasDict] at h
theorem eqv_nds : ∀ ds : List PyData, PyData.hasDictAll ds = false → PyData.eqvAll ds ds = true
  | [], _ => by simp [PyData.eqvAll]
  | d :: ds, h => by
    simp only [PyData.hasDictAll, Bool.or_eq_false_iff] at h
    simp [PyData.eqvAll, eqv_nd d h.1, eqv_nds ds h.2]
end
theorem eqv_self {d : PyData} (h : eqOk d = true) : PyData.eqv d d = true := by
  unfold eqOk at h
  simp only [Bool.and_eq_true, Bool.not_eq_true'] at h
  exact eqv_nd d h.1
theorem gNe_self {d : PyData} (h : eqOk d = true) : gNe d d = some (.fz (.bool false)) := by
  unfold gNe
  rw [h, eqv_self h]
  rfl
theorem gEq_self {d : PyData} (h : eqOk d = true) : gEq d d = some (.fz (.bool true)) := by
  unfold gEq
  rw [h, eqv_self h]
  rfl
theorem PD.run_mk {es : Tr} {w : List Nat} {ps : Rd0} {t : List Nat} {own num : Bool} : (PD.make ps t own num).run es w = makeG es ps (tx t) (tx w) own num := rfl
theorem PD.run_dr {es : Tr} {w : List Nat} {ps : Rd0} {c : Option Nat} : (PD.drop ps c).run es w = dropR es ps (cntP c) := rfl
theorem call_pool {ns : List Int} {k : Nat} {K : OV → Prop} (hl : ns.length ≤ 63) (hk : k < 64) (h : ∀ x y : Int, 0 ≤ x → 0 ≤ y → y < 2147483647 → K (.lst [.int x, .int y])) : @CallsI c__law_pool [.dat (.list (ns.map .int)), .dat (.int k)] ⟨K⟩ :=
  ⟨ns, k, rfl, hl, Int.natCast_nonneg k, by omega, h⟩
theorem ups_mem {d : PyData} {n : Nat} (h : d ∈ ups 0 n) : ∃ k : Nat, d = .int k ∧ k < n := by
  unfold ups at h
  obtain ⟨k, h1, rfl⟩ := List.mem_map.mp h
  exact ⟨k, by simp, List.mem_range.mp h1⟩
theorem cut_to {ds : List PyData} {k : Nat} : cutD ds none (some (k : Int)) = ds.take k := by
  unfold cutD
  rw [HT.sIx_nat, HT.sIx_none, List.drop_zero, Nat.sub_zero, List.take_eq_take_iff]
  omega
theorem cut_from {ds : List PyData} {k : Nat} : cutD ds (some (k : Int)) none = ds.drop k := by
  unfold cutD
  rw [HT.sIx_nat, HT.sIx_none]
  by_cases h : k ≤ ds.length
  · rw [Nat.min_eq_left h, List.take_of_length_le (by simp)]
  · rw [Nat.min_eq_right (by omega), List.drop_length, List.drop_eq_nil_of_le (by omega)]
    simp
@[simp] theorem v_slL2 {ds : List PyData} : gSl (.list ds) none (some 2) = some (.lst (ds.take 2)) := by
  show some (OV.lst (cutD ds none (some ((2 : Nat) : Int)))) = _
  rw [cut_to]
@[simp] theorem v_slT2 {ds : List PyData} : gSl (.tuple ds) none (some 2) = some (.fz (.tuple (ds.take 2))) := by
  show some (OV.fz (.tuple (cutD ds none (some ((2 : Nat) : Int))))) = _
  rw [cut_to]
@[simp] theorem v_slLf1 {ds : List PyData} : gSl (.list ds) (some 1) none = some (.lst (ds.drop 1)) := by
  show some (OV.lst (cutD ds (some ((1 : Nat) : Int)) none)) = _
  rw [cut_from]
@[simp] theorem v_slTf1 {ds : List PyData} : gSl (.tuple ds) (some 1) none = some (.fz (.tuple (ds.drop 1))) := by
  show some (OV.fz (.tuple (cutD ds (some ((1 : Nat) : Int)) none))) = _
  rw [cut_from]
@[simp] theorem v_slTf2 {ds : List PyData} : gSl (.tuple ds) (some 2) none = some (.fz (.tuple (ds.drop 2))) := by
  show some (OV.fz (.tuple (cutD ds (some ((2 : Nat) : Int)) none))) = _
  rw [cut_from]
@[simp] theorem v_slTf3 {ds : List PyData} : gSl (.tuple ds) (some 3) none = some (.fz (.tuple (ds.drop 3))) := by
  show some (OV.fz (.tuple (cutD ds (some ((3 : Nat) : Int)) none))) = _
  rw [cut_from]
theorem path_lt {r : Rd0} (hp : Parts r) (hne : r ≠ []) : pathL [] < pathL r := by
  cases r with
  | nil => exact absurd rfl hne
  | cons a l =>
    have h1 := pos_part (hp a (by simp)).1
    show [47] < 47 :: TL.joinL [47] (a :: l)
    have : TL.joinL [47] (a :: l) ≠ [] := by
      cases l with
      | nil =>
        show a ≠ []
        rintro rfl
        cases h1
      | cons b l =>
        show a ++ _ ≠ []
        intro z
        have := congrArg List.length z
        simp at this
    cases hj : TL.joinL [47] (a :: l) with
    | nil => exact absurd hj this
    | cons x y =>
      rw [List.cons_lt_cons_iff]
      exact .inr ⟨rfl, List.nil_lt_cons _ _⟩
/-- the root goes first -/
theorem sortR_root {rs : List Rd0} (h : [] ∈ rs) (nd : rs.Nodup) (hp : ∀ r ∈ rs, Parts r) : ∃ l, sortR rs = [] :: l ∧ l.length + 1 = rs.length ∧ ∀ r, r ∈ l ↔ r ∈ rs ∧ r ≠ [] := by
  have hpm := sortR_perm rs
  have hpr := sortR_pair rs
  have hnd : (sortR rs).Nodup := hpm.nodup_iff.mpr nd
  have hl := sortR_len rs
  cases hs : sortR rs with
  | nil =>
    rw [hs] at hpm
    have := hpm.mem_iff.mpr h
    cases this
  | cons a l =>
    rw [hs] at hpm hpr hnd hl
    have ha : a = [] := by
      have hm : [] ∈ a :: l := hpm.mem_iff.mpr h
      rcases List.mem_cons.mp hm with z | z
      · exact z.symm
      · have h1 : pathL a ≤ pathL [] := (List.pairwise_cons.mp hpr).1 _ z
        by_cases hne : a = []
        · exact hne
        · exact absurd (path_lt (hp a (hpm.mem_iff.mp (by simp))) hne) h1
    subst ha
    refine ⟨l, rfl, by simpa using hl, fun r => ?_⟩
    rw [List.nodup_cons] at hnd
    constructor
    · intro hr
      refine ⟨hpm.mem_iff.mp (by simp [hr]), ?_⟩
      rintro rfl
      exact hnd.1 hr
    · rintro ⟨h1, h2⟩
      rcases List.mem_cons.mp (hpm.mem_iff.mpr h1) with z | z
      · exact absurd z h2
      · exact z
theorem max_of {α : Type} (f : α → Nat) : ∀ l : List α, l ≠ [] → ∃ x ∈ l, ∀ y ∈ l, f y ≤ f x
  | [], h => absurd rfl h
  | [a], _ => ⟨a, by simp, fun y hy => by rw [List.mem_singleton.mp hy]; exact Nat.le_refl _⟩
  | a :: b :: l, _ => by
    obtain ⟨x, hx, h⟩ := max_of f (b :: l) (by simp)
    by_cases ha : f x ≤ f a
    · refine ⟨a, by simp, fun y hy => ?_⟩
      rcases List.mem_cons.mp hy with rfl | hy
      · exact Nat.le_refl _
      · exact Nat.le_trans (h y hy) ha
    · refine ⟨x, by simp [hx], fun y hy => ?_⟩
      rcases List.mem_cons.mp hy with rfl | hy
      · omega
      · exact h y hy
theorem filter_out {rs : List Rd0} {r : Rd0} (nd : rs.Nodup) (h : r ∈ rs) : (rs.filter fun x => decide (x ≠ r)).length + 1 = rs.length := by
  have e := nd.erase_eq_filter r
  have e2 : (rs.filter fun x => decide (x ≠ r)) = rs.filter (· != r) := List.filter_congr fun x _ => by
    by_cases hx : x = r <;> simp [hx]
  rw [e2, ← e, List.length_erase_of_mem h]
  have := List.length_pos_of_mem h
  omega
theorem pathL_one {p : List Nat} : pathL [p] = 47 :: p := rfl
end L2.DL

set_option maxRecDepth 100000
set_option maxHeartbeats 4000000
/-! The contract of is_figures (paths.py since stage 3). -/
namespace L2.DL
open PySem PySem.Spec

def c_is_figures : DC := fun svs Q => ∃ a, svs = [.dat (tx a)] ∧ a.length ≤ 1000 ∧ Q (.fz (.bool (decide (a ≠ []) && a.all fun c => decide (c ∈ figuresL))))
theorem m_is_figures : c_is_figures.Mono := fun _ _ _ hq ⟨a, h1, h2, h3⟩ => ⟨a, h1, h2, hq _ h3⟩

end L2.DL

set_option maxRecDepth 100000
set_option maxHeartbeats 4000000
/-! DL43: xs.extend(ys) of an owned list. -/
namespace L2.DL
open PySem PySem.Spec
open PySem.AutoSeq1 in
theorem list_extend_plain (l : Addr) (items : Array Value) (n : Nat) (b : Addr) (items2 : Array Value) (n2 : Nat) (sl2 : Array (Option Value)) (hc0 : ¬(!items.isEmpty && Builtin.List.listTooLong (items.size + items2.size)) = true) (hc1 : items.size ≤ sizeLine) (hs2 : items.size + items2.size ≤ sizeLine + 1) :
    Meets (Builtin.«list.extend» ⟨[.ref l, .ref b], []⟩) (fun _ R s => s.heap.get? l = some { cls := .type "list", dict := none, data := .seq items n, slots := #[] } ∧ s.heap.get? b = some { cls := .type "list", dict := none, data := .seq items2 n2, slots := sl2 } ∧ R (.ok (.ret Value.none)) { s with heap := s.heap.update l (Obj.mapSeq fun x => x ++ items2), toks := s.toks }) :=
  .of_wp fun prog w A R s h => by
    obtain ⟨hp, g, d, tk, os⟩ := s; obtain ⟨hl, hb, h⟩ := h; have f1 := AutoSeq1.idx_int; have f2 := AutoSeq1.sub_tuple_tuple; have f3 := AutoSeq1.sub_list_list; have f4 := AutoSeq1.sub_tuple_list; have f5 := AutoSeq1.sub_list_tuple;
    have hz' : (items ++ items2).size ≤ sizeLine + 1 := by rw [Array.size_append]; exact hs2
    wp_walk using (wpAny_updateSeq hl rfl (hz := hc1) (_hz' := hz')), wpAny_loadPart' hl, wpAny_loadPart' hb; exact ⟨_, rfl, h⟩
section
variable {X : Cx}
def rExtendL (K : PySem.W.Frag) : V → List V → Hp → VK → Prop := fun x vs H Q => ∃ l b xs zs, x = .ref l ∧ vs = [.ref b] ∧ H l = some (.lst xs) ∧ SqL K H b zs ∧ xs.length + zs.length ≤ sizeLine ∧ Q .non (upd H l (.lst (xs ++ zs)))
theorem mt_extendL : MtM X "list.extend" (rExtendL X.K) := by
  intro pins s σ H x vs v us Q I rx rv h
  obtain ⟨l, b, xs, zs, rfl, rfl, hH, hB, hz, q⟩ := h
  cases rx
  obtain ⟨u, rfl, ru⟩ := rv.one
  cases ru
  obtain ⟨z, its, n, r, hl, e⟩ := I.lstM hH
  obtain ⟨its2, r2, ⟨⟨c2, d2, dt2, sl2⟩, n2, e2, hc2, hd2, hs2⟩, z2⟩ := I.list hB
  replace hc2 : c2 = .type "list" := hc2
  replace hd2 : d2 = none := hd2
  replace hs2 : dt2 = .seq its2.toArray n2 := hs2
  subst hc2 hd2 hs2
  have hl2 := r2.length
  have hsz : its.toArray.size + its2.toArray.size ≤ sizeLine := by rw [List.size_toArray, List.size_toArray]; omega
  have hlong : ¬ (!its.toArray.isEmpty && Builtin.List.listTooLong (its.toArray.size + its2.toArray.size)) = true := by
    rw [notLongL hsz, Bool.and_false]
    exact Bool.false_ne_true
  refine call_meets PySem.F.slot_list_extend ⟨_, e, rfl⟩ PySem.F.entry_list_extend (PySem.F.args_list_extend_2 _ _)
    (list_extend_plain l its.toArray n b its2.toArray n2 sl2 hlong (by rw [List.size_toArray]; omega) (by omega)) ⟨e, e2, ?_⟩
  refine ⟨.non, _, I.lset (its' := its ++ its2) hH e (by simp) (r.append r2) ?_, rfl, q⟩
  rw [List.length_append]
  omega
end
section
variable {X : Cx} {e : Expr} {N : List Str} {sc : Scope} {k : Nat} {dd : Bool} {pos : Pos}
def sExt (i : Nat) (te : DTE) : DTS := fun E s => (∃ ds, s[i]? = some (.own (.lst ds))) ∧ te s fun o s' => ∃ zs ds, o.data = .list zs ∧ s'[i]? = some (.own (.lst ds)) ∧ ds.length + zs.length ≤ sizeLine ∧ E.nx (s'.set i (.own (.lst (ds ++ zs))))
theorem ds_ext (hc : XC N sc k dd X) (i : Nat) {x : Str} {px apos cpos : Pos} {te : DTE} (hx : N[i]? = some x) (hv : Vis sc x) (hd : (x == ("__debug__" : Str)) = false) (hcd : (x == ("__classdict__" : Str)) = false) (he : DE X e te)
    (hbase : attributeBase (.Name x px) "extend" X.env (eval (.Name x px) X.env) = eval (.Name x px) X.env)
    (hfew : ((backTo cpos (starEach [e] X.env)).all (fun x => !x.1) && (backToKw cpos (keywordEach [] X.env)).all (fun x => x.1.isSome) && decide (([e] : List Expr).length + ([] : List Keyword).length + (if ([] : List Keyword).isEmpty then 0 else 1) < 30)) = true)
    (hline : (apos.endLine == cpos.line) = true) (hs : starEach [e] X.env = (false, eval e X.env) :: starEach [] X.env) (hsw : swapsWith (.Call (.Attribute (.Name x px) "extend" apos) [e] [] cpos) none pos.line X.env = pure false) :
    DS X (.Expr (.Call (.Attribute (.Name x px) "extend" apos) [e] [] cpos) pos) (sExt i te) := by
  refine ⟨fun E E' s l ⟨h1, h⟩ => ⟨h1, he.mono _ _ _ (fun o s' ⟨zs, ds, z0, z1, z2, q⟩ => ⟨zs, ds, z0, z1, z2, l.nx _ q⟩) h⟩, PS.weak (ps_expr (pe_bm PySem.F.plainAttrs_list PySem.F.slot_list_extend PySem.F.type_list_extend mt_extendL (pe_var (i := i) (hc.hN ▸ hx) (hc.hS ▸ hv) hd hcd) (pa_cons he.pe pa_nil hs) hbase hfew hline hs rfl) hsw) fun D σ H ⟨f, Z, fp, s, E, r, ⟨⟨ds0, h0⟩, h⟩, ok⟩ => ?_⟩
  obtain ⟨v, hv, q0, n0⟩ := r.own h0
  generalize fp i = A0 at q0
  cases q0 with
  | lst fr e0 w0 =>
    rename_i p xs
    refine ⟨.ref p, hv, .inl ⟨rfl, xs, SqL.of e0⟩, ?_⟩
    refine he.go r h fun o s1 Z1 fp1 u H1 z1 r1 p1 ⟨zs, ds, h0', h1, h2, q⟩ => ?_
    obtain ⟨v1, hv1, q1, n1⟩ := r1.own h1
    rw [hv] at hv1
    cases hv1
    generalize hA : fp1 i = A at q1
    rw [h0'] at p1
    cases p1 with
    | lst pb pa =>
      rename_i b ws
      cases q1 with
      | lst fr1 e1 w1 =>
        rename_i ys
        refine ⟨p, b, ys, ws, rfl, rfl, e1, ?_, by rw [w1.length, pa.length]; exact h2, ?_⟩
        · exact (Le.of r1.zh).sqL pb
        have hp : p ∈ fp1 i := by rw [hA]; simp
        have q2 : ORp X.K f Z1 (upd H1 p (.lst (ys ++ ws))) (.ref p) (.lst (ds ++ zs)) (fp1 i) := by
          rw [hA]
          exact .lst fr1 upd_same (w1.append pa)
        exact ok.nx _ _ _ _ _ z1 (r1.turn h1 hv hp q2) q
end
end L2.DL

set_option maxRecDepth 100000
set_option maxHeartbeats 4000000
/-! DL44: enumerate(t) of a tuple. -/
namespace L2.DL
open PySem PySem.Spec PyProof.Rows
set_option maxHeartbeats 4000000 in
open PySem.AutoSeq1 in
theorem meets_enumerate_1B {v : Value} {o : Obj} {H : Heap → Prop} (B : Begins v o H) :
    Meets (Builtin.«enumerate.__new__» ⟨[.type "enumerate", v], []⟩) (fun _ R s => H s.heap ∧
      R (.ok (.ret (.ref (s.heap.push o).objs.size))) { s with heap := (s.heap.push o).push { cls := .type "enumerate", data := .fields #[.none, .bool false, .ref s.heap.objs.size, rawInt 0, .none, .none] } }) :=
  .of_wp fun prog w A R s h => by
    obtain ⟨hp, g, d, tk, os⟩ := s; obtain ⟨h1, h⟩ := h
    have hsub := sub_enumerate
    have q1 : ∀ {A' : Around} {E : Value → Shared → Prop} {Q : Value → Shared → Prop}, Q (.ref hp.objs.size) ⟨hp.push o, g, d, tk, os⟩ → wpAny (model prog w) A' (pyIter v) Q E ⟨hp, g, d, tk, os⟩ :=
      fun q => B.iter prog w _ _ ⟨hp, g, d, tk, os⟩ _ h1 q
    wp_walk using q1
    refine wpAny_stack_any fun st => wpAny_pure ?_
    split
    · rename_i c _ _ _ _ _
      cases (c == Value.type "enumerate")
      · wp_walk using q1
        exact ⟨_, rfl, h⟩
      · wp_walk using q1
        exact ⟨_, rfl, h⟩
    · wp_walk using q1
      exact ⟨_, rfl, h⟩
section
variable {prog : Program} {w : World} {A : Around} {E : Value → Shared → Prop} {s : Shared}
theorem enum_begins1 {v : Value} {o : Obj} {H : Heap → Prop} {Q : Value → Shared → Prop} (B : Begins v o H) (h1 : H s.heap)
    (h : ∀ h', IsEnum h' (s.heap.objs.size + 1) s.heap.objs.size 0 .none → h'.get? s.heap.objs.size = some o → h'.objs.size = s.heap.objs.size + 2 →
      (∀ b o, s.heap.get? b = some o → h'.get? b = some o) → Q (.ref (s.heap.objs.size + 1)) { s with heap := h' }) :
    wpAny (model prog w) A (call (.type "enumerate") [v]) Q E s := by
  refine callType_new PySem.F.called_enumerate (by decide) (PySem.F.typeCall_enumerate_1 _) (PySem.F.newCall_enumerate_1 _) (fun obj => PySem.F.args_object_init_2 obj _) PySem.F.entry_enumerate_new
    (meets_enumerate_1B B) ⟨h1, ?_⟩
  have hz : (s.heap.push o).objs.size = s.heap.objs.size + 1 := Heap.size_push ..
  show _ ∧ _
  rw [hz]
  have he : IsEnum ((s.heap.push o).push { cls := .type "enumerate", data := .fields #[.none, .bool false, .ref s.heap.objs.size, rawInt 0, .none, .none] }) (s.heap.objs.size + 1) s.heap.objs.size 0 .none := by
    have := Heap.get?_push_size (s.heap.push o) (o := { cls := .type "enumerate", data := .fields #[.none, .bool false, .ref s.heap.objs.size, rawInt 0, .none, .none] }) rfl
    rw [hz] at this; exact this
  refine ⟨⟨_, he, rfl⟩, h _ he (Heap.get?_push_of_some _ (Heap.get?_push_size _ B.free)) (by rw [Heap.size_push, hz]) fun b o x => Heap.get?_push_of_some _ (Heap.get?_push_of_some _ x)⟩
end
theorem enumT_end {prog : Program} {w : World} {A : Around} {E : Value → Shared → Prop} {s : Shared} {e it t : Addr} {n : Nat} {i : Int} {items : Array Value} {old : Value} {Q : Option Value → Shared → Prop} (hh : A.handled = none)
    (he : IsEnum s.heap e it i old) (hit : s.heap.IsTupleIter it t n) (ht : s.heap.IsTuple t items) (hx : items[n]? = none)
    (hQ : ∀ h', Heap.ExtBut it s.heap h' → Q none { s with heap := h' }) : wpAny (model prog w) A (pyNext (.ref e)) Q E s := by
  have hT : s.TypeIs (.ref e) "enumerate" := ⟨_, he, rfl⟩
  unfold pyNext
  refine wpAny_bind (wpAny_attempt (wpAny_callSpecial?_slot (name := Str.ofString "__next__") hT PySem.F.slot_enumerate_next
    (wpAny_call_entry PySem.F.slot_enumerate_next hT PySem.F.entry_enumerate_next ?_ (PySem.F.args_enumerate_next_1 _))))
  show wpAny _ _ (field (.ref e) 2 >>= _) _ _ _
  refine wpAny_bind (wpAny_field he rfl (x := .ref it) rfl ?_)
  refine wpAny_bind (wpAny_nextOf_tuple_end hh hit ht hx fun h' x he' hx' => ?_)
  obtain ⟨o, ho, hc⟩ := hx'
  refine wpAny_bind (wpAny_isInstance (T := "StopIteration") (b := true) ⟨o, ho, hc⟩ isSubtype_stop ?_)
  exact wpAny_pure (hQ _ he')
def IteT (K : PySem.W.Frag) (a : Addr) : It :=
  ⟨fun i H => ∃ (xs : List V) (x : V), SqT K H a xs ∧ xs[i]? = some x, fun i H v H' => ∃ T x, v = .ref T ∧ H T = none ∧ H' = upd H T (.tup [.int (i : Nat), x]) ∧ ∀ xs, SqT K H a xs → xs[i]? = some x, fun i H => ∃ xs : List V, SqT K H a xs ∧ xs.length ≤ i⟩
theorem turn_enumT {P : Program} {w : World} {K : PySem.W.Frag} {elts : List Expr} {kk : Nat} {tpos : Pos} (a e it : Addr) (hai : a ≠ it) (hea : e ≠ a) :
    Turn P w K (.Tuple elts kk tpos) (IteT K a) [e, it] e (fun i h => (∃ old, IsEnum h e it ((i : Nat) : Int) old) ∧ h.IsTupleIter it a i ∧ e ≠ it) where
  mem := by simp
  obj := fun i h st b hb => by
    obtain ⟨⟨old, he⟩, ⟨o, ho, hc, hd⟩, _⟩ := st
    have e' : b = e ∨ b = it := by simpa using hb
    rcases e' with z | z
    · rw [z]; exact ⟨_, he, fun v q => nomatch q⟩
    · rw [z]; exact ⟨o, ho, fun v q => by rw [hd] at q; cases q⟩
  keep := fun i h h' st k => let ⟨⟨old, he⟩, hi, hne⟩ := st; ⟨⟨old, k e (by simp) _ he⟩, hi.at fun o q => k it (by simp) o q, hne⟩
  item := by
    intro X hP hw hK hc i pins s σ H E I hf st hg
    subst hP hw hK
    obtain ⟨⟨old, he⟩, hit, hne⟩ := st
    obtain ⟨xs, x, hq, hx⟩ := hg
    obtain ⟨its, rv, p, hz⟩ := I.tuple hq
    obtain ⟨u, hu, ru⟩ := rv.get hx
    have hel : e < s.heap.objs.size := Heap.lt_size he
    have hil : it < s.heap.objs.size := by obtain ⟨_, q, _⟩ := hit; exact Heap.lt_size q
    have D := Draws.tuple (prog := X.prog) (w := X.w) (A := X.A.in1) (I.ok.hd hc) it a hai its.toArray
    have hin : i < its.toArray.size := by
      rw [List.size_toArray]
      exact (List.getElem?_eq_some_iff.mp hu).1
    refine wpAny_pyNext_enum_itemD D he ⟨hit, p⟩ hin hne (by simp [hne, hea]) fun x' h' tk hPx ho st' hT hsz hk => ?_
    have hxu : x' = u := by
      have : its.toArray[i]? = some u := by simpa using hu
      rw [this] at hPx
      exact (Option.some.inj hPx).symm
    subst hxu
    refine ⟨_, rfl, wpAny_letOwnedTupleGo_enum (s := { s with heap := h', toks := tk + 1 }) ho fun h'' he' sb => ?_⟩
    have hT2 : h''.get? s.heap.objs.size = some { cls := .type "tuple", data := .seq #[.int i tk, x'] } := (sb.2 _ (Nat.ne_of_gt hel)).trans hT
    have new : ObjOk X.prog X.w (upd H s.heap.objs.size (.tup [.int (i : Nat), x])) h'' s.heap.objs.size (.tup [.int (i : Nat), x]) :=
      ⟨by show 2 ≤ sizeLine; decide, [.int i tk, x'], .cons ⟨_, rfl⟩ (.cons ru .nil), ⟨_, hT2, rfl, _, rfl⟩⟩
    have I1 : Inv X pins σ (upd H s.heap.objs.size (.tup [.int (i : Nat), x])) { s with heap := h'', toks := tk + 1 } :=
      I.turnedNew (ch := [e, it]) (fun b ob hb q => (sb.2 b (fun z => hb (by simp [z]))).trans (hk b ob (fun z => hb (by simp [z])) (fun z => hb (by simp [z])) q)) hf (Nat.le_refl _) new
    refine ⟨.ref s.heap.objs.size, _, I1, rfl, ⟨_, x, rfl, I.hok.fresh (Nat.le_refl _), rfl, fun ys hy => by rw [I.tuple_inj hy hq]; exact hx⟩, ⟨⟨x', ?_⟩, st'.1.at fun o q => (sb.2 it (Ne.symm hne)).trans q, hne⟩, fun b hb => ?_⟩
    · have e1 : ((i + 1 : Nat) : Int) = (i : Int) + 1 := by omega
      rw [e1]; exact he'
    · have hb' : b < s.heap.objs.size := by
        have e' : b = e ∨ b = it := by simpa using hb
        rcases e' with z | z
        · rw [z]; exact hel
        · rw [z]; exact hil
      rw [upd_ne (Nat.ne_of_lt hb')]
      exact (hf b hb).1
  done := by
    intro X hP hw hK hc i pins s σ H E I hf st hg
    subst hP hw hK
    obtain ⟨⟨old, he⟩, hit, hne⟩ := st
    obtain ⟨xs, hq, hx⟩ := hg
    obtain ⟨its, rv, p, hz⟩ := I.tuple hq
    obtain ⟨f0, f1, f2, f3, f4, f5⟩ := hf it (by simp)
    have hl := rv.length
    exact enumT_end (I.ok.hd hc) he hit p (by simp; omega) fun h' eb => ⟨rfl, I.turned (t' := s.toks) (fun b o hb q => eb b o hb q) f0 f1 f3 f4 f5⟩
  self := fun A i s Q E st h => let ⟨⟨_, he⟩, _⟩ := st; wpAny_pyIter_enum he h
def iEnumT (K : PySem.W.Frag) (ta : TA) : TI := fun σ H R => ta σ H fun vs H1 => ∃ a xs, vs = [.ref a] ∧ SqT K H1 a xs ∧ R (IteT K a) H1
theorem pi_enumT {X : Cx} {e : Expr} {ta : TA} {p pos tpos : Pos} {elts : List Expr} {kk : Nat} (hg : Gl X "enumerate") (hm : X.mg "enumerate" = none) (ha : PA X [e] ta) (hs : starEach [e] X.env = [(false, eval e X.env)] := by rfl) :
    PI X (.Tuple elts kk tpos) (.Call (.Name "enumerate" p) [e] [] pos) (iEnumT X.K ta) := by
  refine ⟨fun pins s σ H R I h => ?_⟩
  refine Call_ (ld_blt I hg hm boot_enumerate (PyProof.Rows.callWith_type1 (thn (ha.run pos pins s σ H _ I h) fun us s1 ⟨vs, H1, I1, r1, q1⟩ => ?_) hs rfl))
  obtain ⟨a, xs, ex, hq, q⟩ := q1
  subst ex
  cases r1 with
  | cons r rr =>
    cases rr
    cases r
    obtain ⟨its, rv, p', hz⟩ := I1.tuple hq
    have hal : a < s1.heap.objs.size := by obtain ⟨_, q, _⟩ := p'; exact Heap.lt_size q
    refine enum_begins1 (begins_tuple a its.toArray) p' fun h' he hit hsz hk => wpAny_pyIter_enum he ?_
    have I2 : Inv X pins σ H1 { s1 with heap := h' } := I1.kept (t' := s1.toks) hk
    refine ⟨s1.heap.objs.size + 1, [s1.heap.objs.size + 1, s1.heap.objs.size], _, _, H1, rfl, I2, turn_enumT a (s1.heap.objs.size + 1) s1.heap.objs.size (Nat.ne_of_lt hal) (Nat.ne_of_gt (Nat.lt_succ_of_lt hal)), ⟨⟨.none, he⟩, ⟨_, hit, rfl, rfl⟩, Nat.succ_ne_self _⟩, fun b hb => ?_, q⟩
    have e' : b = s1.heap.objs.size + 1 ∨ b = s1.heap.objs.size := by simpa using hb
    have hle : s1.heap.objs.size ≤ b := by
      rcases e' with z | z
      · rw [z]; exact Nat.le_add_right _ _
      · rw [z]; exact Nat.le_refl _
    exact I1.fpOk hle (I1.hok.fresh hle)
section
variable {X : Cx} {e : Expr}
def iEnumTD (ta : DTA) : DTI := fun s Q => ta s fun ds s' => ∃ xs, ds = [.tuple xs] ∧ Q (numbered 0 xs) s'
theorem di_enumT {ta : DTA} {p tpos : Pos} {elts : List Expr} {kk : Nat} (hg : Gl X "enumerate") (hm : X.mg "enumerate" = none) (ha : DA X [e] ta) (hs : starEach [e] X.env = [(false, eval e X.env)]) :
    DI X (.Tuple elts kk tpos) (.Call (.Name "enumerate" p) [e] [] pos) (iEnumTD ta) := by
  refine ⟨fun s Q Q' hq h => ha.mono _ _ _ (fun o s' ⟨ds, z, q⟩ => ⟨ds, z, hq _ _ q⟩) h, PI.weak (pi_enumT hg hm ha.pa hs) fun σ H Q ⟨f, Z, fp, s, r, h⟩ => ?_⟩
  refine ha.go r h fun ds s' Z' fp' v H' zz r' pp ⟨xs, z, q⟩ => ?_
  subst z
  cases pp with
  | cons p1 pp =>
    cases pp
    cases p1 with
    | tup hq w =>
      rename_i a vs
      refine ⟨a, vs, rfl, (Le.of r'.zh).sqT hq, q _ _ _ _ zz r' fun Z2 H2 z2 zh2 i => ⟨fun d hd => ?_, fun hi => ⟨vs, (Le.of zh2).sqT ((Le.of z2).sqT hq), ?_⟩⟩⟩
      · rw [numbered_at] at hd
        obtain ⟨y, h1, h2⟩ := Option.map_eq_some_iff.mp hd
        subst h2
        obtain ⟨u, hu, pu⟩ := w.get h1
        have hsq := (Le.of zh2).sqT ((Le.of z2).sqT hq)
        refine ⟨⟨vs, u, hsq, hu⟩, fun x H3 hh => ?_⟩
        obtain ⟨T, x', rfl, hT, rfl, hx⟩ := hh
        have := hx vs hsq
        rw [hu] at this
        cases this
        have hz : Z2 T = none := zh2.free hT
        refine ⟨upd Z2 T (.tup [.int (i : Nat), u]), same_upd hz, fun b o e => ?_, same_upd hT, ?_, fun b h1 h2 => ?_⟩
        · by_cases hb : b = T
          · subst hb
            rw [upd_same] at e ⊢
            exact e
          · rw [upd_ne hb] at e ⊢
            exact zh2 _ _ e
        · rw [Nat.zero_add]
          exact .tup (.of upd_same) (.cons (.int _) (.cons ((pu.up z2).up (same_upd hz)) .nil))
        · rw [upd_ne]
          · exact h2
          · rintro rfl
            exact h1 hT
      · have hl : (numbered 0 xs).length ≤ i := hi
        have hh : (numbered 0 xs)[i]? = none := List.getElem?_eq_none hl
        rw [numbered_at] at hh
        have h3 : xs[i]? = none := by
          cases hx : xs[i]? with
          | none => rfl
          | some y => rw [hx] at hh; cases hh
        rw [w.length]
        exact List.getElem?_eq_none_iff.mp h3
end
end L2.DL

set_option maxRecDepth 100000
set_option maxHeartbeats 4000000
/-! DL45: [.. for k in x[j]], x a tuple with a dict there. -/
namespace L2.DL
open PySem PySem.Spec
section
variable {X : Cx} {tg iter elt : Expr} {ifs : List Expr} {scope : Scope} {own : List (Str × Nat)} {pos : Pos} {wi : DTI} {is : List Nat} {g : TG} {gd : DG} {tt : DTT} {te : DTE} {N : List Str} {sc : Scope} {k : Nat} {dd : Bool}
def eCompKJ (i j : Nat) (gd : DG) (tt : DTT) (te : DTE) (vs : List Nat) : DTE := fun s Q => ∃ xs es, s[i]? = some (.dat (.tuple xs)) ∧ xs[j]? = some (.dict es) ∧ compW gd tt te vs (es.map Prod.fst) [] (forgetAll vs s) fun acc s2 => Q (.lst acc) s2
theorem de_compKJ (hc : XC N sc k dd X) (i j : Nat) {x : Str} {px ipos spos : Pos} {jn : Nat} (hx : N[i]? = some x) (hv : Vis sc x) (hd : (x == ("__debug__" : Str)) = false) (hcd : (x == ("__classdict__" : Str)) = false)
    (hp : PlainIx (.Constant (.int (j : Int)) jn ipos)) (b : Blk X tg ifs elt scope is g gd tt te) (ok : blkC N sc scope own = true)
    (hvs : ∀ i ∈ is, i ∈ own.map (·.2)) (hs : ∀ y, foldedSetIterable (.Subscript (.Name x px) (.Constant (.int (j : Int)) jn ipos) spos) X.env y = pure y) : DE X (.ListComp elt [⟨tg, .Subscript (.Name x px) (.Constant (.int (j : Int)) jn ipos) spos, ifs, 0⟩] scope pos) (eCompKJ i j gd tt te (own.map (·.2))) := by
  have P := pe_lc (own := own) (tt := liftT X.K tt) (te := lift X.K te) (elt := elt) (tg := tg) (ifs := ifs) (scope := scope) (pos := pos) hc.calm (hc.hN ▸ hc.nd) (pi_keys (X := X) (tg := tg) (pe_ix (pos := spos) ix_seq (pe_var (pos := px) (i := i) (hc.hN ▸ hx) (hc.hS ▸ hv) hd hcd) pe_int hp)) (hc.hN ▸ hc.hS ▸ blkOk_by ok) (fun s H C cl fp => (b.g s H C cl fp).pg) (fun s H C cl fp => (b.t s H C cl fp).pts) (fun s H C cl fp => (b.e s H C cl fp).pe) hs
  refine ⟨fun s Q Q' hq ⟨xs, es, h0, h1, h⟩ => ⟨xs, es, h0, h1, blk_mono b (fun acc s2 q => hq _ _ q) _ _ _ h⟩, PE.weak (PE.or (pe_lock P) P) fun σ H Q ⟨f, Z, fp, s, r, xs, es, h0, h1, h⟩ => ?_⟩
  obtain ⟨v, e, p⟩ := r.dat h0
  cases p with
  | tup hq w =>
    rename_i a0 vs0
    obtain ⟨u, hu, pu⟩ := w.get h1
    cases pu with
    | dct hr rr =>
      rename_i a ks
      rcases hr with hz | ⟨o, hz⟩
      · refine .inl ⟨a, .dK ks, r.zh _ _ hz, trivial, fun od => ?_⟩
        have r' := r.swap hz (fun vs z => nomatch z) (leD_lock (od := od) hz)
        have hq' : SqT X.K (upd Z a (.frz od (.dK ks))) a0 vs0 := hq.imp ((leD_lock (od := od) hz).t _ _) id
        exact ⟨.ref a0, e, .inr (.inl ⟨a0, vs0, (j : Int), .ref a, rfl, rfl, (DL.Le.of r'.zh).sqT hq', at_of hu, a, od, rfl, .inl ⟨ks, upd_same, lc_turns b hvs r' (walks_keys upd_same (rr.leD (leD_lock hz)))
        (blk_mono b (fun acc s2 q => Told.locked r hz q) _ _ _ h)⟩⟩)⟩
      · exact .inr ⟨.ref a0, e, .inr (.inl ⟨a0, vs0, (j : Int), .ref a, rfl, rfl, (DL.Le.of r.zh).sqT hq, at_of hu, a, o, rfl, .inl ⟨ks, r.zh _ _ hz, lc_turns b hvs r (walks_keys hz rr) h⟩⟩)⟩
end
section
variable {i j : Nat} {te : DTE} {E : DEn} {s : DSt} {gd : DG} {t : DTT} {vs : List Nat} {Q : OV → DSt → Prop}
@[simp ↓] theorem run_ext : sExt i te E s = Cond (∃ ds, s[i]? = some (.own (.lst ds))) (te s fun o s' => OnL o.data fun zs => OwnL s'[i]? fun ds => Cond (ds.length + zs.length ≤ sizeLine) (E.nx (s'.set i (.own (.lst (ds ++ zs)))))) := by
  unfold sExt OnL OwnL Cond OnLI OwnLI CondI
  simp only [exists_and_left]
@[simp ↓] theorem run_enumT {tr : DTA} {P : List PyData → DSt → Prop} : iEnumTD tr s P = tr s fun ds s' => One ds fun d => OnT d fun xs => P (numbered 0 xs) s' := by
  show tr s _ = tr s _
  congr 1
  funext ds s'
  apply propext
  constructor
  · rintro ⟨xs, e, h⟩
    exact ⟨_, e, _, rfl, h⟩
  · rintro ⟨_, e, xs, rfl, h⟩
    exact ⟨xs, e, h⟩
def DatTI (o : Option SV) [k : Kn (List PyData)] : Prop := ∃ x, o = some (.dat (.tuple x)) ∧ k.run x
def DatT (o : Option SV) (P : List PyData → Prop) : Prop := @DatTI o ⟨P⟩
@[simp ↓] theorem datT_in {o : Option SV} {P : List PyData → Prop} : DatT o P = @DatTI o ⟨P⟩ := rfl
@[simp] theorem datT_mk {x : List PyData} {k : Kn (List PyData)} : @DatTI (some (.dat (.tuple x))) k = k.run x := by simp [DatTI]
@[simp ↓] theorem run_compKJ : eCompKJ i j gd t te vs s Q = DatT s[i]? fun xs => Opt xs[j]? fun d => OnD d fun es => @CompI (es.map Prod.fst) [] (forgetAll vs s) ⟨gd, t, te, vs, fun acc s2 => Q (.lst acc) s2⟩ := by
  unfold eCompKJ DatT DatTI Opt OptI OnD OnDI
  apply propext
  constructor
  · rintro ⟨xs, es, h0, h1, h⟩
    exact ⟨xs, h0, _, h1, es, rfl, h⟩
  · rintro ⟨xs, h0, _, h1, es, rfl, h⟩
    exact ⟨xs, es, h0, h1, h⟩
end
end L2.DL
namespace L2.DL
open PySem PySem.Spec
theorem sw_cell {X : Cx} {N : List Str} {sc : Scope} {k : Nat} {dd : Bool} (hc : XC N sc k dd X) {kx vx : Expr} {gs : List Comprehension} {scope : Scope} {pos : Pos} {y : Str} {py : Pos} {l : Nat} (h : sc.names.lookup y = some .cell) :
    swapsWith (.DictComp kx vx gs scope pos) (some (.Name y py)) l X.env = pure false := by
  have hk : (X.env.kindOf y == some .local) = false := by
    unfold Env.kindOf
    rw [hc.hS, h]
    rfl
  show pure (X.env.blockKind == .function && X.env.kindOf y == some .local && py.line == pos.line && !(scope.names.any fun (n, k) => n == y && (k == .local || k == .cell))) = _
  rw [hk, Bool.and_false]
  rfl
end L2.DL

set_option maxRecDepth 100000
set_option maxHeartbeats 4000000
/-! DL46: deeds of all kinds, entries and sessions as data; what is done, told once. -/
namespace L2.DL
open PySem PySem.Spec PyProof.Rows
abbrev allW : List Nat := [97, 108, 108]
abbrev openW : List Nat := [111, 112, 101, 110]
abbrev closeW : List Nat := [99, 108, 111, 115, 101]
abbrev closedW : List Nat := [99, 108, 111, 115, 101, 100]
abbrev bringW : List Nat := [98, 114, 105, 110, 103]
abbrev askW : List Nat := [97, 115, 107]
abbrev endW : List Nat := [101, 110, 100]
inductive DD
  | plain (p : PD)
  | all (ps : List PD)
  | opn (n : Nat)
  | close
  | bring
namespace DD
def data : DD → PyData
  | plain p => p.data
  | all ps => .tuple [tx allW, .tuple (ps.map PD.data)]
  | opn n => .tuple [tx openW, .int n]
  | close => .tuple [tx closeW]
  | bring => .tuple [tx bringW]
def ok : DD → Prop
  | plain p => p.ok
  | all ps => 1 ≤ ps.length ∧ ps.length ≤ 6 ∧ ∀ p ∈ ps, p.ok
  | opn n => 1 ≤ n ∧ n ≤ 1000
  | _ => True
end DD
/-- many plain deeds at one tree after another: each nice where it is done -/
def niceAll (w : List Nat) : Tr → List PD → Prop
  | _, [] => True
  | es, p :: ps => p.nice es ∧ niceAll w (p.run es w).1 ps
def DD.nice (es : Tr) (w : List Nat) : DD → Prop
  | plain p => p.nice es
  | all ps => niceAll w es ps
  | _ => True
/-- an answer's first, its second -/
def ans0 : PyData → PyData
  | .tuple (a :: _) => a
  | _ => .none
def ans1 : PyData → PyData
  | .tuple (_ :: a :: _) => a
  | _ => .none
def allG (w : List Nat) (es : Tr) : Nat → Tr → List PyData → List PyData → List PD → Res
  | _, cur, vs, ev, [] => (cur, .tuple [tx okW, .tuple vs], ev)
  | k, cur, vs, ev, p :: ps =>
    if ontx (fun a => decide (a = noW)) (ans0 (p.run cur w).2.1) = true then (es, .tuple [tx noW, ans1 (p.run cur w).2.1, .int (k : Nat)], [])
    else allG w es (k + 1) (p.run cur w).1 (vs ++ [ans1 (p.run cur w).2.1]) (ev ++ (p.run cur w).2.2) ps
/-- each answer of a plain deed is a pair -/
theorem run_pair {es : Tr} (h : TreeG es) (p : PD) (hok : p.ok) (w : List Nat) : ∃ b x, (p.run es w).2.1 = .tuple [tx (if b = true then okW else noW), x] ∧ flatD x = true := by
  cases p with
  | make ps t own num =>
    have hok : MakeOk ps t num := hok
    obtain ⟨qs, q, rfl⟩ : ∃ qs q, ps = qs ++ [q] := ⟨ps.dropLast, ps.getLast hok.ne, (List.dropLast_concat_getLast _).symm⟩
    show ∃ b x, (makeG es (qs ++ [q]) (tx t) (tx w) own num).2.1 = _ ∧ _
    exact makeG_cases h (fun r => ∃ b x, r.2.1 = .tuple [tx (if b = true then okW else noW), x] ∧ flatD x = true) (fun x => ⟨false, _, rfl, rfl⟩) fun t' n m hv hnone hl hm => ⟨true, _, rfl, rfl⟩
  | put ps t c =>
    show ∃ b x, (putR es ps (tx t) (cntP c)).2.1 = _ ∧ _
    unfold putR
    split
    · exact ⟨false, _, rfl, rfl⟩
    · split
      · exact ⟨true, _, rfl, rfl⟩
      · exact ⟨false, _, rfl, rfl⟩
  | drop ps c =>
    show ∃ b x, (dropR es ps (cntP c)).2.1 = _ ∧ _
    unfold dropR
    split
    · exact ⟨false, _, rfl, rfl⟩
    · split
      · split
        · exact ⟨true, _, rfl, rfl⟩
        · exact ⟨false, _, rfl, rfl⟩
      · exact ⟨false, _, rfl, rfl⟩
  | see ps c =>
    show ∃ b x, (seeR es ps (cntP c)).2.1 = _ ∧ _
    unfold seeR
    split
    · exact ⟨false, _, rfl, rfl⟩
    · split
      · exact ⟨true, _, rfl, rfl⟩
      · exact ⟨false, _, rfl, rfl⟩
/-! ### a session's own nodes -/
def ownD : PyData → PyData
  | .tuple [_, _, _, o] => o
  | _ => .none
def isOwn' (w : List Nat) (e : PyData × PyData) : Bool := ontx (fun a => decide (a = w)) (ownD e.2)
def leftG (es : Tr) (w : List Nat) : Tr := es.filter fun e => !isOwn' w e
def goneG (es : Tr) (w : List Nat) : List Rd0 := sortR ((es.filter (isOwn' w)).map roadOf)
def goneE (r : Rd0) : List PyData := [.tuple [tx goneW, P r], .tuple [tx kidsW, P r.dropLast]]
def goneEv (es : Tr) (w : List Nat) : List PyData := (goneG es w).flatMap goneE
/-! ### a deed in a session -/
def limP : Option Nat → PyData
  | none => .none
  | some n => .int n
abbrev Step := Tr × Option Nat × PyData × List PyData
def stepD (r : Step) : PyData := .tuple [.dict r.1, limP r.2.1, r.2.2.1, .list r.2.2.2]
def inG (es : Tr) (l : Nat) (w : List Nat) : DD → Step
  | .plain p => ((p.run es w).1, some l, (p.run es w).2.1, (p.run es w).2.2)
  | .all ps => ((allG w es 0 es [] [] ps).1, some l, (allG w es 0 es [] [] ps).2.1, (allG w es 0 es [] [] ps).2.2)
  | .opn _ => (es, some l, .tuple [tx noW, tx openW], [])
  | .close => (leftG es w, none, .tuple [tx okW, .none], goneEv es w)
  | .bring => (es, some l, .tuple [tx okW, .none], [])
def outG (es : Tr) : DD → Step
  | .opn n => (es, some n, .tuple [tx okW, .none], [])
  | _ => (es, none, .tuple [tx noW, tx closedW], [])
def doesG (es : Tr) (lim : Option Nat) (d : DD) (w : List Nat) : Step := match lim with
  | some l => inG es l w d
  | none => outG es d
/-! ### contracts -/
/-- a dict, a list, frozen or own -/
def IsD (e : Tr) (x : OV) : Prop := x = .fz (.dict e) ∨ x = .dct e
def IsL (l : List PyData) (x : OV) : Prop := x = .fz (.list l) ∨ x = .lst l
def OV2 (e : Tr) (ev : List PyData) (Q : OV → Prop) : Prop := ∀ x y, IsD e x → IsL ev y → Q (.tup [x, y])
def OV3 (r : Res) (Q : OV → Prop) : Prop := ∀ x y, IsD r.1 x → IsL r.2.2 y → Q (.tup [x, .fz r.2.1, y])
def OV4 (r : Step) (Q : OV → Prop) : Prop := ∀ x y, IsD r.1 x → IsL r.2.2.2 y → Q (.tup [x, .fz (limP r.2.1), .fz r.2.2.1, y])
def cLeftS (F : Tr → List PyData → (OV → Prop) → Prop) : DC := fun svs Q => ∃ es w, svs = [.dat (.dict es), .dat (tx w)] ∧ TreeI es ∧ F (leftG es w) (goneEv es w) Q
def g__without_own : DC := cLeftS OV2
theorem gm__without_own : g__without_own.Mono := fun _ _ _ hq ⟨es, w, h1, h2, h3⟩ => ⟨es, w, h1, h2, fun x y hx hy => hq _ (h3 x y hx hy)⟩
def g__law_left : DC := cLeftS fun a b Q => Q (.fz (.tuple [.dict a, .list b]))
theorem gm__law_left : g__law_left.Mono := fun _ _ _ hq ⟨es, w, h1, h2, h3⟩ => ⟨es, w, h1, h2, hq _ h3⟩
def cAllS (F : Res → (OV → Prop) → Prop) : DC := fun svs Q => ∃ es ps w, svs = [.dat (.dict es), .dat (.tuple (ps.map PD.data)), .dat (tx w)] ∧ TreeI es ∧ wordB w = true ∧ ps.length ≤ 6 ∧ (∀ p ∈ ps, p.ok) ∧ niceAll w es ps ∧ F (allG w es 0 es [] [] ps) Q
def g__done_all : DC := cAllS OV3
theorem gm__done_all : g__done_all.Mono := fun _ _ _ hq ⟨es, ps, w, h1, h2, h3, h4, h5, h6, h7⟩ => ⟨es, ps, w, h1, h2, h3, h4, h5, h6, fun x y hx hy => hq _ (h7 x y hx hy)⟩
def g__law_all_done : DC := cAllS fun r Q => Q (.fz r.data)
theorem gm__law_all_done : g__law_all_done.Mono := fun _ _ _ hq ⟨es, ps, w, h1, h2, h3, h4, h5, h6, h7⟩ => ⟨es, ps, w, h1, h2, h3, h4, h5, h6, hq _ h7⟩
def g__done_open : DC := fun svs Q => ∃ es lim n, svs = [.dat (.dict es), .dat (limP lim), .dat (.int (n : Nat))] ∧ OV4 (doesG es lim (.opn n) []) Q
theorem gm__done_open : g__done_open.Mono := fun _ _ _ hq ⟨es, l, n, h1, h2⟩ => ⟨es, l, n, h1, fun x y hx hy => hq _ (h2 x y hx hy)⟩
def cDeedS (F : Step → (OV → Prop) → Prop) : DC := fun svs Q => ∃ es lim d w, svs = [.dat (.dict es), .dat (limP lim), .dat (DD.data d), .dat (tx w)] ∧ TreeI es ∧ wordB w = true ∧ d.ok ∧ (lim ≠ none → d.nice es w) ∧ F (doesG es lim d w) Q
def g__done_deed : DC := cDeedS OV4
theorem gm__done_deed : g__done_deed.Mono := fun _ _ _ hq ⟨es, l, d, w, h1, h2, h3, h4, h5, h6⟩ => ⟨es, l, d, w, h1, h2, h3, h4, h5, fun x y hx hy => hq _ (h6 x y hx hy)⟩
def g__law_does : DC := cDeedS fun r Q => Q (.fz (stepD r))
theorem gm__law_does : g__law_does.Mono := fun _ _ _ hq ⟨es, l, d, w, h1, h2, h3, h4, h5, h6⟩ => ⟨es, l, d, w, h1, h2, h3, h4, h5, hq _ h6⟩
def row0 : PyData := .tuple [.none, .int 0, .none, .tuple [.int 0, .int 0]]
def keyW (w : List Nat) : Key := .inr (SX.S w)
def g__session_of : DC := fun svs Q => ∃ ss w, svs = [.dat (.dict ss), .dat (tx w)] ∧ Q (.fz (getD0 ss (keyW w) row0))
theorem gm__session_of : g__session_of.Mono := fun _ _ _ hq ⟨ss, w, h1, h2⟩ => ⟨ss, w, h1, hq _ h2⟩
end L2.DL

set_option maxRecDepth 100000
set_option maxHeartbeats 4000000
/-! DL47: {k: v for k, v in d.items() if ..}: what stays of a dict. -/
namespace L2.DL
open PySem PySem.Spec PyProof.Rows
theorem toKey_kD' (k : Key) : toKey (kD k) = some k := by cases k <;> rfl
theorem look_filter_none {kf : PyData × PyData → Key} {ok : PyData × PyData → Bool} {pre : Tr} {k : Key} (hk : ∀ e ∈ pre, e.1 = kD (kf e)) (h : k ∉ pre.map kf) : lookD (pre.filter ok) k = none := by
  unfold lookD
  rw [Option.map_eq_none_iff, List.find?_eq_none]
  intro e he h2
  have he := (List.mem_filter.mp he).1
  rw [hk e he, toKey_kD'] at h2
  have h2 : some (kf e) = some k := of_decide_eq_true h2
  exact h (List.mem_map.mpr ⟨e, he, Option.some.inj h2⟩)
theorem dcomp_tree {gd : DG} {tt : DTT} {tk tv : DTE} {vs : List Nat} {Q : Tr → DSt → Prop} {s : DSt} {es : Tr} (kf : PyData × PyData → Key) (ok : PyData × PyData → Bool)
    (hk : ∀ e ∈ es, e.1 = kD (kf e)) (hnd : (es.map kf).Nodup) (hl : es.length ≤ sizeLine)
    (step : ∀ e, e ∈ es → ∀ (acc : Tr) (R : Tr → DSt → Prop), acc.length < sizeLine → (ok e = true → R (putD acc (kf e) e.2) s) → (ok e = false → R acc s) →
      gd (.tuple [e.1, e.2]) s fun s1 => tt s1 fun b s2 => Br b (tk s2 fun y s3 => tv s3 fun z s4 => Opt (toKey y.data) fun k => Cond (acc.length < sizeLine) (R (putD acc k z.data) (forgetAll vs s4))) (R acc (forgetAll vs s2)))
    (hq : Q (es.filter ok) s) : @DCompI (es.map fun e => .tuple [e.1, e.2]) [] s ⟨gd, tt, tk, tv, vs, Q⟩ := by
  have key : ∀ (rest pre : Tr), pre ++ rest = es → dcW gd tt tk tv vs (rest.map fun e => .tuple [e.1, e.2]) (pre.filter ok) s Q := by
    intro rest
    induction rest with
    | nil =>
      intro pre hp
      rw [List.append_nil] at hp
      rw [hp]
      exact hq
    | cons e rest ih =>
      intro pre hp
      have he : e ∈ es := by rw [← hp]; simp
      have hpl : pre.length < es.length := by rw [← hp]; simp
      have hacc : (pre.filter ok).length < sizeLine := Nat.lt_of_le_of_lt (List.length_filter_le _ _) (Nat.lt_of_lt_of_le hpl hl)
      have hnot : kf e ∉ pre.map kf := by
        rw [← hp, List.map_append, List.nodup_append] at hnd
        exact fun h => hnd.2.2 _ h _ (by simp) rfl
      have hnone : lookD (pre.filter ok) (kf e) = none := look_filter_none (fun x hx => hk x (by rw [← hp]; simp [hx])) hnot
      have next := ih (pre ++ [e]) (by rw [← hp]; simp)
      rw [List.filter_append] at next
      have st := step e he (pre.filter ok) (fun a s' => dcW gd tt tk tv vs (rest.map fun e => .tuple [e.1, e.2]) a s' Q) hacc (fun h => ?_) (fun h => ?_)
      · exact st
      · rw [putD_new hnone, ← hk e he]
        simp [h] at next
        exact next
      · simp [h] at next
        exact next
  exact key es [] rfl
end L2.DL

set_option maxRecDepth 100000
set_option maxHeartbeats 4000000
/-! DL48: the entries of a tree; the tree that a session's end leaves. -/
namespace L2.DL
open PySem PySem.Spec PyProof.Rows
theorem TreeG.mem {es : Tr} (h : TreeG es) {e : PyData × PyData} (he : e ∈ es) : ∃ r t n m o, Road r ∧ e = (P r, DL.nodeP t n m o) ∧ textB t = true ∧ (∀ w, o = some w → wordB w = true) ∧ roadOf e = r := by
  obtain ⟨B, h⟩ := h
  obtain ⟨ps, hr, e1, t, c, m, o, e2, h1, h2, h3, h4⟩ := h.2.2 e he
  obtain ⟨c', rfl⟩ := Int.eq_ofNat_of_zero_le h2.1
  obtain ⟨m', rfl⟩ := Int.eq_ofNat_of_zero_le h3.1
  have hro : roadOf e = ps := by
    unfold roadOf
    rw [e1]
    exact parts_path hr.1
  rcases h4 with rfl | ⟨w, rfl, hw⟩
  · exact ⟨ps, t, c', m', none, hr, Prod.ext e1 e2, h1, (fun _ z => by cases z), hro⟩
  · exact ⟨ps, t, c', m', some w, hr, Prod.ext e1 e2, h1, (fun _ z => by cases z; exact hw), hro⟩
def kfT (e : PyData × PyData) : Key := keyP (roadOf e)
theorem TreeG.kf {es : Tr} (h : TreeG es) : ∀ e ∈ es, e.1 = kD (kfT e) := fun e he => by
  obtain ⟨r, t, n, m, o, hr, e1, _, _, hro⟩ := h.mem he
  unfold kfT
  rw [hro, e1]
  rfl
theorem nodup_map_on {α β : Type} {f : α → β} : ∀ {l : List α}, (∀ a ∈ l, ∀ b ∈ l, f a = f b → a = b) → l.Nodup → (l.map f).Nodup
  | [], _, _ => .nil
  | a :: l, h, hn => by
    rw [List.nodup_cons] at hn
    rw [List.map_cons, List.nodup_cons]
    refine ⟨fun hm => ?_, nodup_map_on (fun x hx y hy => h x (by simp [hx]) y (by simp [hy])) hn.2⟩
    obtain ⟨b, hb, e⟩ := List.mem_map.mp hm
    have := h b (by simp [hb]) a (by simp) e
    subst this
    exact hn.1 hb
theorem TreeI.kfnd {es : Tr} (h : TreeI es) : (es.map kfT).Nodup := by
  have : es.map kfT = (es.map roadOf).map fun r => (keyP r : Key) := by rw [List.map_map]; rfl
  rw [this]
  exact nodup_map_on (fun a ha b hb e => keyP_inj (h.road ha).1 (h.road hb).1 e) h.nd
theorem inj_of_nodup {α β : Type} {f : α → β} : ∀ {l : List α}, (l.map f).Nodup → ∀ {a b : α}, a ∈ l → b ∈ l → f a = f b → a = b
  | [], _, _, _, h, _, _ => by cases h
  | x :: l, hn, a, b, ha, hb, e => by
    rw [List.map_cons, List.nodup_cons] at hn
    rcases List.mem_cons.mp ha with rfl | ha2
    · rcases List.mem_cons.mp hb with rfl | hb2
      · rfl
      · exact absurd (List.mem_map.mpr ⟨b, hb2, e.symm⟩) hn.1
    · rcases List.mem_cons.mp hb with rfl | hb2
      · exact absurd (List.mem_map.mpr ⟨a, ha2, e⟩) hn.1
      · exact inj_of_nodup hn.2 ha2 hb2 e
/-- a tree's entry is what is looked up -/
theorem TreeI.look {es : Tr} (h : TreeI es) {e : PyData × PyData} (he : e ∈ es) : lookD es (kfT e) = some e.2 := by
  obtain ⟨v, hv⟩ := lookD_some (k := kfT e) he (by rw [h.g.kf e he, toKey_kD'])
  obtain ⟨e', he', h1, h2⟩ := lookD_mem hv
  rw [h.g.kf e' he', toKey_kD'] at h1
  rw [hv, ← h2, inj_of_nodup h.kfnd he' he (Option.some.inj h1)]
theorem TreeI.lookMem {es : Tr} (h : TreeI es) {k : Key} {v : PyData} (hv : lookD es k = some v) : ∃ e ∈ es, k = kfT e ∧ v = e.2 := by
  obtain ⟨e, he, h1, h2⟩ := lookD_mem hv
  rw [h.g.kf e he, toKey_kD'] at h1
  exact ⟨e, he, (Option.some.inj h1).symm, h2.symm⟩
theorem TreeI.lookOut {es : Tr} (h : TreeI es) {ok : PyData × PyData → Bool} {k : Key} {v : PyData} (hv : lookD (es.filter ok) k = some v) : lookD es k = some v := by
  obtain ⟨e, he, h1, h2⟩ := lookD_mem hv
  have he := (List.mem_filter.mp he).1
  rw [h.g.kf e he, toKey_kD'] at h1
  rw [← h2, ← Option.some.inj h1]
  exact h.look he
theorem TreeI.lookIn {es : Tr} (h : TreeI es) {ok : PyData × PyData → Bool} {k : Key} {v : PyData} (hv : lookD es k = some v) (hok : ∀ e ∈ es, k = kfT e → ok e = true) : lookD (es.filter ok) k = some v := by
  obtain ⟨e, he, rfl, rfl⟩ := h.lookMem hv
  obtain ⟨v', hv'⟩ := lookD_some (k := kfT e) (List.mem_filter.mpr ⟨he, hok e he rfl⟩) (by rw [h.g.kf e he, toKey_kD'])
  have := h.lookOut hv'
  rw [hv] at this
  rw [hv', ← this]
@[simp] theorem ownD_node {t n m o} : ownD (nodeP t n m o) = ownP o := rfl
theorem isOwn_node {w : List Nat} {d : PyData} {t n m o} : isOwn' w (d, nodeP t n m o) = decide (o = some w) := by
  unfold isOwn'
  rw [ownD_node]
  cases o with
  | none => rfl
  | some v =>
    show decide (v = w) = _
    simp
theorem TreeI.left {es : Tr} (h : TreeI es) (w : List Nat) : TreeI (leftG es w) := by
  have free : ∀ {ps : Rd0} {t n m}, lookD es (keyP ps) = some (DL.nodeP t n m none) → lookD (leftG es w) (keyP ps) = some (DL.nodeP t n m none) := fun {ps t n m} hv => by
    refine h.lookIn hv fun e he hk => ?_
    have := h.look he
    rw [← hk, hv] at this
    have e2 := Option.some.inj this
    obtain ⟨e1, e2'⟩ := e
    have e2 : DL.nodeP t n m none = e2' := e2
    subst e2
    rw [isOwn_node]
    rfl
  have sub : ((leftG es w).map roadOf).Sublist (es.map roadOf) := List.filter_sublist.map _
  obtain ⟨t0, n0, m0, e0⟩ := h.root
  refine ⟨?_, h.nd.sublist sub, ⟨t0, n0, m0, free e0⟩, fun qs q hq => ?_, fun qs t1 n1 m1 o1 hqs hl => ?_⟩
  · obtain ⟨B, h1, h2, h3⟩ := h.g
    refine ⟨B, fun z => ?_, Nat.le_trans (List.length_filter_le _ _) h2, fun e he => h3 e (List.mem_filter.mp he).1⟩
    have := free e0
    rw [z] at this
    cases this
  · obtain ⟨t, n, m, e⟩ := h.par qs q (sub.subset hq)
    exact ⟨t, n, m, free e⟩
  · refine Nat.le_trans ?_ (h.cnt _ _ _ _ _ hqs (h.lookOut hl))
    exact (sub.filterMap _).length_le
end L2.DL

set_option maxRecDepth 100000
set_option maxHeartbeats 4000000
/-! DL49: facts of many deeds, of a session's own nodes. -/
namespace L2.DL
open PySem PySem.Spec PyProof.Rows
theorem numb_cons {k : Nat} {d : PyData} {ds : List PyData} : numbered k (d :: ds) = .tuple [.int (k : Nat), d] :: numbered (k + 1) ds := rfl
theorem run_ev {es : Tr} (h : TreeG es) (p : PD) (hok : p.ok) (w : List Nat) : (p.run es w).2.2.length ≤ 2 := by
  cases p with
  | make ps t own num =>
    have hok : MakeOk ps t num := hok
    obtain ⟨qs, q, rfl⟩ : ∃ qs q, ps = qs ++ [q] := ⟨ps.dropLast, ps.getLast hok.ne, (List.dropLast_concat_getLast _).symm⟩
    show (makeG es (qs ++ [q]) (tx t) (tx w) own num).2.2.length ≤ 2
    exact makeG_cases h (fun r => r.2.2.length ≤ 2) (fun x => Nat.zero_le _) fun t' n m hv hnone hl hm => Nat.le_refl _
  | put ps t c =>
    show (putR es ps (tx t) (cntP c)).2.2.length ≤ 2
    unfold putR
    split
    · exact Nat.zero_le _
    · split
      · exact Nat.le_of_ble_eq_true rfl
      · exact Nat.zero_le _
  | drop ps c =>
    show (dropR es ps (cntP c)).2.2.length ≤ 2
    unfold dropR
    split
    · exact Nat.zero_le _
    · split
      · split
        · exact Nat.le_refl _
        · exact Nat.zero_le _
      · exact Nat.zero_le _
  | see ps c =>
    show (seeR es ps (cntP c)).2.2.length ≤ 2
    unfold seeR
    split
    · exact Nat.zero_le _
    · split
      · exact Nat.zero_le _
      · exact Nat.zero_le _
theorem allG_no {w : List Nat} {es cur : Tr} {k : Nat} {vs ev : List PyData} {p : PD} {ps : List PD} {x : PyData} (h : (p.run cur w).2.1 = .tuple [tx noW, x]) : allG w es k cur vs ev (p :: ps) = (es, .tuple [tx noW, x, .int (k : Nat)], []) := by
  unfold allG
  rw [h]
  rfl
theorem allG_ok {w : List Nat} {es cur : Tr} {k : Nat} {vs ev : List PyData} {p : PD} {ps : List PD} {x : PyData} (h : (p.run cur w).2.1 = .tuple [tx okW, x]) : allG w es k cur vs ev (p :: ps) = allG w es (k + 1) (p.run cur w).1 (vs ++ [x]) (ev ++ (p.run cur w).2.2) ps := by
  conv => lhs; unfold allG
  rw [h]
  rfl
theorem gNe_own {o : Option (List Nat)} {w : List Nat} : gNe (ownP o) (tx w) = some (.fz (.bool (!decide (o = some w)))) := by
  cases o with
  | none => rfl
  | some v =>
    show gNe (tx v) (tx w) = _
    rw [gNe_tx]
    simp
theorem stay_not {es : Tr} (h : TreeI es) {w : List Nat} : (es.map roadOf).filter (fun r => (lookD (leftG es w) (keyP r)).isNone) = (es.filter (isOwn' w)).map roadOf := by
  have key : ∀ e ∈ es, (lookD (leftG es w) (keyP (roadOf e))).isNone = isOwn' w e := fun e he => by
    cases ho : isOwn' w e with
    | true =>
      cases hv : lookD (leftG es w) (keyP (roadOf e)) with
      | none => rfl
      | some v =>
        exfalso
        obtain ⟨e', he', h1, h2⟩ := lookD_mem hv
        obtain ⟨he1, he2⟩ := List.mem_filter.mp he'
        rw [h.g.kf e' he1, toKey_kD'] at h1
        have : e' = e := inj_of_nodup h.kfnd he1 he (Option.some.inj h1)
        subst this
        rw [ho] at he2
        cases he2
    | false =>
      have : lookD (leftG es w) (kfT e) = some e.2 := h.lookIn (h.look he) fun e' he' hk => by
        have : e = e' := inj_of_nodup h.kfnd he he' hk
        subst this
        rw [ho]
        rfl
      rw [show (keyP (roadOf e) : Key) = kfT e from rfl, this]
      rfl
  rw [List.filter_map]
  congr 1
  exact List.filter_congr fun e he => key e he
theorem gone_road {es : Tr} (h : TreeI es) {w : List Nat} {e : PyData × PyData} (he : e ∈ es) (ho : isOwn' w e = true) : Road (roadOf e) ∧ roadOf e ≠ [] := by
  obtain ⟨r, t, n, m, o, hr, he2, _, _, hro⟩ := h.g.mem he
  rw [hro]
  refine ⟨hr, fun z => ?_⟩
  subst z
  obtain ⟨t0, n0, m0, e0⟩ := h.root
  have := h.look he
  rw [show kfT e = keyP [] from by unfold kfT; rw [hro], e0, he2] at this
  have := Option.some.inj this
  obtain ⟨_, _, _, rfl⟩ := nodeP_inj this
  rw [he2, isOwn_node] at ho
  cases ho
/-- what is left when the own ones of some roads are out -/
def outs (es : Tr) (w : List Nat) (done : List Rd0) : Tr := es.filter fun e => !(isOwn' w e && decide (roadOf e ∈ done))
def ownR (es : Tr) (w : List Nat) (r : Rd0) : Bool := match lookD es (keyP r) with
  | some v => isOwn' w (.none, v)
  | none => false
theorem gEq_own {o : Option (List Nat)} {w : List Nat} : gEq (ownP o) (tx w) = some (.fz (.bool (decide (o = some w)))) := by
  cases o with
  | none => rfl
  | some v =>
    show gEq (tx v) (tx w) = _
    rw [gEq_tx]
    simp
theorem outs_nil {es : Tr} {w : List Nat} : outs es w [] = es := by
  unfold outs
  rw [List.filter_eq_self]
  intro e he
  simp
theorem outs_all {es : Tr} {w : List Nat} (h : TreeI es) : outs es w (sortR (es.map roadOf)) = leftG es w := by
  unfold outs leftG
  refine List.filter_congr fun e he => ?_
  have : roadOf e ∈ sortR (es.map roadOf) := (sortR_perm _).symm.subset (List.mem_map.mpr ⟨e, he, rfl⟩)
  rw [decide_eq_true this, Bool.and_true]
theorem ownR_of {es : Tr} (h : TreeI es) {w : List Nat} {e : PyData × PyData} (he : e ∈ es) : ownR es w (roadOf e) = isOwn' w e := by
  unfold ownR
  rw [show (keyP (roadOf e) : Key) = kfT e from rfl, h.look he]
  rfl
theorem gone_sorted {es : Tr} (h : TreeI es) {w : List Nat} : ((sortR (es.map roadOf)).filter (ownR es w)) = goneG es w := by
  have hp : ((sortR (es.map roadOf)).filter (ownR es w)).Perm ((es.filter (isOwn' w)).map roadOf) := by
    refine ((sortR_perm _).filter _).trans ?_
    rw [List.filter_map]
    rw [List.filter_congr (p := ownR es w ∘ roadOf) (q := isOwn' w) fun e he => ownR_of h he]
  have hp2 := hp.trans (sortR_perm ((es.filter (isOwn' w)).map roadOf)).symm
  refine List.Perm.eq_of_pairwise (le := fun a b => pathL a ≤ pathL b) (fun a b ha hb h1 h2 => ?_) ((sortR_pair _).filter _) (sortR_pair _) hp2
  have ra := h.road ((sortR_perm _).subset (List.mem_filter.mp ha).1)
  have hb' := (sortR_perm _).subset hb
  obtain ⟨e, he, rfl⟩ := List.mem_map.mp hb'
  have rb := h.road (List.mem_map.mpr ⟨e, (List.mem_filter.mp he).1, rfl⟩)
  have : pathL a = pathL (roadOf e) := List.le_antisymm h1 h2
  refine keyP_inj ra.1 rb.1 ?_
  show (Sum.inr (SX.S (pathL a)) : Key) = Sum.inr (SX.S (pathL (roadOf e)))
  rw [this]
theorem outs_own {es : Tr} (h : TreeI es) {w : List Nat} {done : List Rd0} {r : Rd0} {v : PyData} (hv : lookD es (keyP r) = some v) (ho : ownR es w r = true) (hr : Road r) : outs es w (done ++ [r]) = dropD (outs es w done) (keyP r) := by
  unfold outs dropD
  rw [List.filter_filter]
  refine List.filter_congr fun e he => ?_
  rw [h.g.kf e he, toKey_kD']
  by_cases hre : roadOf e = r
  · have : isOwn' w e = true := by rw [← ownR_of h he, hre]; exact ho
    have hk : kfT e = keyP r := by unfold kfT; rw [hre]
    simp [this, hre, hk]
  · have hk : kfT e ≠ keyP r := fun z => hre (keyP_inj (h.road (List.mem_map.mpr ⟨e, he, rfl⟩)).1 hr.1 z)
    simp [hre, hk]
theorem outs_not {es : Tr} (h : TreeI es) {w : List Nat} {done : List Rd0} {r : Rd0} {v : PyData} (hv : lookD es (keyP r) = some v) (ho : ownR es w r = false) (hr : Road r) : outs es w (done ++ [r]) = outs es w done := by
  unfold outs
  refine List.filter_congr fun e he => ?_
  by_cases hre : roadOf e = r
  · have : isOwn' w e = false := by rw [← ownR_of h he, hre]; exact ho
    simp [this]
  · simp [hre]
theorem outs_look {es : Tr} (h : TreeI es) {w : List Nat} {done : List Rd0} {r : Rd0} {v : PyData} (hv : lookD es (keyP r) = some v) (hd : r ∉ done) (hr : Road r) : lookD (outs es w done) (keyP r) = some v := by
  refine h.lookIn hv fun e he hk => ?_
  have : roadOf e = r := keyP_inj (h.road (List.mem_map.mpr ⟨e, he, rfl⟩)).1 hr.1 hk.symm
  simp [this, hd]
end L2.DL

set_option maxRecDepth 100000
set_option maxHeartbeats 4000000
/-! DL50: an expression that looks at the def's own dicts, whose worth holds no dict: they stay the def's own. -/
namespace L2.DL
open PySem PySem.Spec
mutual
def noD : PyData → Bool
  | .none | .bool _ | .int _ | .str _ => true
  | .list ds => noDs ds
  | .tuple ds => noDs ds
  | _ => false
def noDs : List PyData → Bool
  | [] => true
  | d :: ds => noD d && noDs ds
end
section
variable {K : PySem.W.Frag} {Z Z' : Hp}
mutual
theorem Rp.noDict (hl : ∀ a xs, Rd Z a (.lst xs) → Rd Z' a (.lst xs)) (ht : ∀ a xs, Rd Z a (.tup xs) → Rd Z' a (.tup xs)) : ∀ {v : V} {d : PyData}, Rp K Z v d → noD d = true → Rp K Z' v d
  | _, _, .non, _ => .non
  | _, _, .bl b, _ => .bl b
  | _, _, .int i, _ => .int i
  | _, _, .str x h, _ => .str x h
  | _, _, .lst q r, n => .lst (q.imp (hl _ _) id) (RpA.noDict hl ht r n)
  | _, _, .tup q r, n => .tup (q.imp (ht _ _) id) (RpA.noDict hl ht r n)
  | _, _, .dct _ _, n => by cases n
theorem RpA.noDict (hl : ∀ a xs, Rd Z a (.lst xs) → Rd Z' a (.lst xs)) (ht : ∀ a xs, Rd Z a (.tup xs) → Rd Z' a (.tup xs)) : ∀ {vs : List V} {ds : List PyData}, RpA K Z vs ds → noDs ds = true → RpA K Z' vs ds
  | _, _, .nil, _ => .nil
  | _, _, .cons a b, n => by
    have n : (noD _ && noDs _) = true := n
    rw [Bool.and_eq_true] at n
    exact .cons (Rp.noDict hl ht a n.1) (RpA.noDict hl ht b n.2)
end
end
section
variable {X : Cx} {e : Expr}
def allDct (s : DSt) : Bool := s.all fun x => match x with
  | .own (.dct _) => true
  | .own _ => false
  | _ => true
/-- an expression whose worth holds no dict, where all that is the def's own are dicts -/
def ePeekD (t : DTE) : DTE := fun s Q => t (froz s) fun o s' => s' = froz s ∧ allDct s = true ∧ noD o.data = true ∧ Q (.fz o.data) s
open Classical in
theorem de_peekD {t : DTE} (h : DE X e t) : DE X e (ePeekD t) :=
  ⟨fun s Q Q' hq w => h.mono _ _ _ (fun b s' q => ⟨q.1, q.2.1, q.2.2.1, hq _ _ q.2.2.2⟩) w, PE.weak h.pe fun σ H Q ⟨f, Z, fp, s, r, w⟩ =>
    h.go r.frozen.1 w fun o s' Z2 fp2 v H2 zz r2 p ⟨e, hall, hf, q⟩ => by
      subst e
      obtain ⟨r3, z3⟩ := r.thaw zz r2
      have key : ∀ a u, Rd Z2 a u → (∀ ks, u ≠ .dK ks) → Rd (fun a => if ownAt s fp a then none else Z2 a) a u := fun a u q hu => by
        have hno : ¬ ownAt s fp a := fun ho => by
          have hfr : frZ s fp Z H a = H a := if_pos ho
          obtain ⟨i, h1, h2⟩ := ho
          obtain ⟨o, hso⟩ : ∃ o, s[i]? = some (.own o) := by
            rw [List.getD_eq_getElem?_getD] at h1
            cases hh : s[i]? with
            | none => rw [hh] at h1; cases h1
            | some x =>
              rw [hh] at h1
              cases x with
              | own o => exact ⟨o, rfl⟩
              | _ => cases h1
          have hm := List.all_eq_true.mp hall _ (List.mem_of_getElem? hso)
          obtain ⟨v0, _, q0, _⟩ := r.own hso
          generalize fp i = A at q0 h2
          cases q0 with
          | dct fr e1 w1 =>
            rename_i pp ks es0 _hv
            have hap : a = pp := List.mem_singleton.mp h2
            subst hap
            have hz2 : Z2 a = some (.dK ks) := zz _ _ (by rw [hfr]; exact e1)
            rcases q with q | ⟨oo, q⟩
            · rw [hz2] at q
              exact hu ks (Option.some.inj q).symm
            · rw [hz2] at q
              cases q
          | _ => cases hm
        rcases q with q | ⟨o, q⟩
        · exact .inl (by show (if ownAt s fp a then none else Z2 a) = _; rw [if_neg hno]; exact q)
        · exact .inr ⟨o, by show (if ownAt s fp a then none else Z2 a) = _; rw [if_neg hno]; exact q⟩
      exact (Told.from q z3).flat r3 (p.noDict (fun a xs q => key a _ q fun _ z => by cases z) (fun a xs q => key a _ q fun _ z => by cases z) hf)⟩
end
@[simp ↓] theorem run_epeekD {te : DTE} {s : DSt} {Q : DK} : ePeekD te s Q = te (froz s) fun o s' => Cond (s' = froz s) (Cond (allDct s = true) (Cond (noD o.data = true) (Q (.fz o.data) s))) := rfl
end L2.DL

set_option maxRecDepth 100000
set_option maxHeartbeats 4000000
/-! DL51: entries done, as data. -/
namespace L2.DL
open PySem PySem.Spec PyProof.Rows
structure Rw where
  lim : Option Nat
  st : Nat
  ans : PyData
  pl : PyData
def Rw.data (r : Rw) : PyData := .tuple [limP r.lim, .int (r.st : Nat), r.ans, r.pl]
inductive EN
  | ask (w : List Nat) (n : Nat) (d : DD)
  | fin (w : List Nat)
namespace EN
def data : EN → PyData
  | ask w n d => .tuple [tx askW, tx w, .int (n : Nat), d.data]
  | fin w => .tuple [tx endW, tx w]
def who : EN → List Nat
  | ask w _ _ | fin w => w
def ok : EN → Prop
  | ask w n d => wordB w = true ∧ 1 ≤ n ∧ d.ok
  | fin w => wordB w = true
end EN
abbrev OutS := (Tr × Tr) × PyData × List PyData
def OutS.kept (r : OutS) : PyData := .tuple [.dict r.1.1, .dict r.1.2]
def OutS.data (r : OutS) : PyData := .tuple [r.kept, r.2.1, .list r.2.2]
def endS (es ss : Tr) (r : Rw) (w : List Nat) : OutS := match r.lim with
  | none => ((es, ss), .none, [])
  | some _ => ((leftG es w, putD ss (keyW w) (Rw.data ⟨none, r.st, r.ans, r.pl⟩)), .none, goneEv es w)
def askS (es ss : Tr) (r : Rw) (w : List Nat) (n : Nat) (d : DD) (pl : PyData) : OutS :=
  if n ≤ r.st then ((es, ss), if n = r.st then r.ans else .none, [])
  else (((doesG es r.lim d w).1, putD ss (keyW w) (Rw.data ⟨(doesG es r.lim d w).2.1, n, (doesG es r.lim d w).2.2.1, pl⟩)), (doesG es r.lim d w).2.2.1, (doesG es r.lim d w).2.2.2)
def doneS (es ss : Tr) (r : Rw) (pl : PyData) : EN → OutS
  | .ask w n d => askS es ss r w n d pl
  | .fin w => endS es ss r w
/-- what an entry asks for -/
structure FitS (es ss : Tr) (r : Rw) (e : EN) : Prop where
  row : getD0 ss (keyW e.who) row0 = r.data
  ti : TreeI es
  len : ss.length < 1000
  flat : noD r.ans = true ∧ noD r.pl = true
  ok : e.ok
  nice : ∀ w n d, e = .ask w n d → r.st < n → r.lim ≠ none → d.nice es w
def OVO (r : OutS) (Q : OV → Prop) : Prop := ∀ y, IsL r.2.2 y → Q (.tup [.fz r.kept, .fz r.2.1, y])
def g__done_end : DC := fun svs Q => ∃ es ss r w, svs = [.dat (.tuple [.dict es, .dict ss]), .dat (tx w)] ∧ FitS es ss r (.fin w) ∧ OVO (endS es ss r w) Q
theorem gm__done_end : g__done_end.Mono := fun _ _ _ hq ⟨es, ss, r, w, h1, h2, h3⟩ => ⟨es, ss, r, w, h1, h2, fun y hy => hq _ (h3 y hy)⟩
def g__done_ask : DC := fun svs Q => ∃ es ss r w n d pl, svs = [.dat (.tuple [.dict es, .dict ss]), .dat (EN.data (.ask w n d)), .dat pl] ∧ FitS es ss r (.ask w n d) ∧ OVO (askS es ss r w n d pl) Q
theorem gm__done_ask : g__done_ask.Mono := fun _ _ _ hq ⟨es, ss, r, w, n, d, pl, h1, h2, h3⟩ => ⟨es, ss, r, w, n, d, pl, h1, h2, fun y hy => hq _ (h3 y hy)⟩
def g_done : DC := fun svs Q => ∃ es ss r e pl, svs = [.dat (.tuple [.dict es, .dict ss]), .dat (EN.data e), .dat pl] ∧ FitS es ss r e ∧ OVO (doneS es ss r pl e) Q
theorem gm_done : g_done.Mono := fun _ _ _ hq ⟨es, ss, r, e, pl, h1, h2, h3⟩ => ⟨es, ss, r, e, pl, h1, h2, fun y hy => hq _ (h3 y hy)⟩
def g__law_due : DC := fun svs Q => ∃ es ss r e pl, svs = [.dat (.tuple [.dict es, .dict ss]), .dat (EN.data e), .dat pl] ∧ FitS es ss r e ∧ Q (.fz (doneS es ss r pl e).data)
theorem gm__law_due : g__law_due.Mono := fun _ _ _ hq ⟨es, ss, r, e, pl, h1, h2, h3⟩ => ⟨es, ss, r, e, pl, h1, h2, hq _ h3⟩
def g_is_entry : DC := fun svs Q => ∃ e : EN, svs = [.dat e.data] ∧ e.ok ∧ Q (.fz (.bool true))
theorem gm_is_entry : g_is_entry.Mono := fun _ _ _ hq ⟨e, h1, h2, h3⟩ => ⟨e, h1, h2, hq _ h3⟩
def g_is_deed : DC := fun svs Q => ∃ d : DD, svs = [.dat d.data] ∧ d.ok ∧ Q (.fz (.bool true))
theorem gm_is_deed : g_is_deed.Mono := fun _ _ _ hq ⟨e, h1, h2, h3⟩ => ⟨e, h1, h2, hq _ h3⟩
def g__are_plain : DC := fun svs Q => ∃ ps : List PD, svs = [.dat (.tuple (ps.map PD.data))] ∧ 1 ≤ ps.length ∧ ps.length ≤ 6 ∧ (∀ p ∈ ps, p.ok) ∧ Q (.fz (.bool true))
theorem gm__are_plain : g__are_plain.Mono := fun _ _ _ hq ⟨e, h1, h2, h3, h4, h5⟩ => ⟨e, h1, h2, h3, h4, hq _ h5⟩
end L2.DL

set_option maxRecDepth 100000
set_option maxHeartbeats 4000000
/-! DL52: a, b = x, y, where what is told stays one's own. -/
namespace L2.DL
open PySem PySem.Spec PyProof.Rows
theorem ORp.sok {K : PySem.W.Frag} {f : Fr0} {Z H : Hp} {v : V} {o : OV} {A : List Addr} (p : ORp K f Z H v o A) (n : A.Nodup) : SOk K f Z H (some v) o.sv A := by
  cases p with
  | fz p => exact .dat p
  | lst a b c => exact .own (.lst a b c) n
  | dct a b c => exact .own (.dct a b c) n
  | tup a b => exact .own (.tup a b) n
/-- a, b = x, y -/
def sParO (i j : Nat) (ta : DTAO) : DTS := fun E s => ta s fun os s' => ∃ d d', os = [d, d'] ∧ i < s'.length ∧ j < s'.length ∧ E.nx ((s'.set i d.sv).set j d'.sv)
theorem ds_parO {X : Cx} {N : List Str} {sc : Scope} {k : Nat} {dd : Bool} (hc : XC N sc k dd X) (i j : Nat) {x y : Str} {a b : Expr} {ta : DTAO} {px py pt pt2 pos : Pos} {kt k2 : Nat} (hx : N[i]? = some x) (hy : N[j]? = some y) (hij : i ≠ j)
    (lx : sc.names.lookup x = some .local) (ly : sc.names.lookup y = some .local) (ha : DAO X [a, b] ta)
    (hw : swappedStores [.Tuple [.Name x px, .Name y py] kt pt] (.Tuple [a, b] k2 pt2) X.env = pure (some [x, y]))
    (hs : swapsWithSole [.Tuple [.Name x px, .Name y py] kt pt] (.Tuple [a, b] k2 pt2) pos.line X.env = pure false) :
    DS X (.Assign [.Tuple [.Name x px, .Name y py] kt pt] (.Tuple [a, b] k2 pt2) pos) (sParO i j ta) := by
  refine ⟨fun E E' s l h => ha.mono _ _ _ (fun ds s' ⟨d, d', z1, z2, z3, q⟩ => ⟨d, d', z1, z2, z3, l.nx _ q⟩) h,
    PS.weak (ps_par hc.calm (hc.hN ▸ hc.nd) (hc.hN ▸ hx) (hc.hN ▸ hy) hij (hc.hS ▸ lx) (hc.hS ▸ ly) ha.pa hw hs) fun D σ H ⟨f, Z, fp, s, E, r, h, ok⟩ => ?_⟩
  refine ⟨f, Z, fp, s, r, ha.mono _ _ _ (fun os s' ⟨d, d', e1, e2, e3, q⟩ Z' fp' vs H' A zz r' p n dA => ?_) h⟩
  subst e1
  cases p with
  | cons p1 p =>
    cases p with
    | cons p2 p =>
      cases p
      rw [List.append_nil] at n dA
      rw [List.nodup_append] at n
      have r1 := r'.put i (by rw [← r'.len]; exact e2) (p1.sok n.1) fun jj _ a ha hz => dA jj a (by simp [ha]) hz
      have r2 := r1.put j (by rw [List.length_set, ← r'.len]; exact e3) (p2.sok n.2.1) fun jj hjj a ha hz => by
        split at hz
        · exact n.2.2 a hz a ha rfl
        · exact dA jj a (by simp [ha]) hz
      exact ⟨_, _, rfl, ok.nx _ _ _ _ _ zz r2 q⟩
def TwoOI (os : List OV) [k : Kn (OV × OV)] : Prop := ∃ d d', os = [d, d'] ∧ k.run (d, d')
@[simp] theorem twoO_mk {a b : OV} {k : Kn (OV × OV)} : @TwoOI [a, b] k = k.run (a, b) := by
  unfold TwoOI
  apply propext
  constructor
  · rintro ⟨d, d', e, h⟩
    cases e
    exact h
  · exact fun h => ⟨a, b, rfl, h⟩
@[simp ↓] theorem run_parO {i j : Nat} {E : DEn} {s : DSt} {tr : DTAO} : sParO i j tr E s = tr s fun os s' => @TwoOI os ⟨fun z => Cond (i < s'.length) (Cond (j < s'.length) (E.nx ((s'.set i z.1.sv).set j z.2.sv)))⟩ := rfl
end L2.DL

set_option maxRecDepth 100000
set_option maxHeartbeats 4000000
/-! DL53: kinds of tuples and texts; whole numbers looked at. -/
namespace L2.DL
open PySem PySem.Spec PyProof.Rows
theorem isi_tup (l : List PyData) : isiT "tuple" (.tuple l) = true := rfl
theorem whole_int {n k : Int} (h : k ≤ n) : wholeB (.int n) k = true := by
  show decide (k ≤ n) = true
  exact decide_eq_true h
theorem isi_str1 (l : List Nat) : isiT "str" (tx l) = true := rfl
def g_first_state : DC := fun svs Q => svs = [] ∧ Q (.fz (.tuple [.dict [(tx [47], .tuple [tx [], .int 0, .int 0, .none])], .dict []]))
theorem gm_first_state : g_first_state.Mono := fun _ _ _ hq ⟨h1, h2⟩ => ⟨h1, hq _ h2⟩
end L2.DL

set_option maxRecDepth 100000
set_option maxHeartbeats 4000000
/-! DL54: how far the numbers of a tree go; what deeds and entries keep of states. -/
namespace L2.DL
open PySem PySem.Spec PyProof.Rows
def NB (B : Nat) (es : Tr) : Prop := ∀ e ∈ es, ∀ t n m o, e.2 = nodeP t n m o → n ≤ B ∧ m ≤ B
theorem NB.up {B C : Nat} {es : Tr} (h : NB B es) (l : B ≤ C) : NB C es := fun e he t n m o e2 => by
  have := h e he t n m o e2
  omega
theorem mem_putD {es : Tr} {k : Key} {d : PyData} {e : PyData × PyData} (h : e ∈ putD es k d) : e ∈ es ∨ e = (kD k, d) ∨ (toKey e.1 = some k ∧ e.2 = d) := by
  cases hv : lookD es k with
  | none =>
    rw [putD_new hv] at h
    rcases List.mem_append.mp h with h | h
    · exact .inl h
    · exact .inr (.inl (List.mem_singleton.mp h))
  | some v =>
    rw [putD_there (by rw [hv]; rfl)] at h
    obtain ⟨e0, h0, rfl⟩ := List.mem_map.mp h
    split
    · rename_i hk
      exact .inr (.inr ⟨hk, rfl⟩)
    · exact .inl h0
theorem NB.put {B : Nat} {es : Tr} (h : NB B es) {k : Key} {t : List Nat} {n m : Nat} {o : Option (List Nat)} (hn : n ≤ B) (hm : m ≤ B) : NB B (putD es k (nodeP t n m o)) := by
  intro e he t' n' m' o' e2
  rcases mem_putD he with he | he | ⟨_, he⟩
  · exact h e he _ _ _ _ e2
  · rw [he] at e2
    obtain ⟨_, rfl, rfl, _⟩ := nodeP_inj e2
    exact ⟨hn, hm⟩
  · rw [he] at e2
    obtain ⟨_, rfl, rfl, _⟩ := nodeP_inj e2
    exact ⟨hn, hm⟩
theorem NB.filter {B : Nat} {es : Tr} (h : NB B es) (f : PyData × PyData → Bool) : NB B (es.filter f) := fun e he => h e (List.mem_filter.mp he).1
theorem NB.look {B : Nat} {es : Tr} (h : NB B es) {k : Key} {t : List Nat} {n m : Nat} {o : Option (List Nat)} (hv : lookD es k = some (nodeP t n m o)) : n ≤ B ∧ m ≤ B := by
  obtain ⟨e, he, _, h2⟩ := lookD_mem hv
  exact h e he _ _ _ _ h2
theorem NB.run {B : Nat} {es : Tr} (h : TreeG es) (hb : NB B es) {p : PD} (hok : p.ok) (w : List Nat) : NB (B + 1) (p.run es w).1 := by
  have hb1 := hb.up (Nat.le_succ B)
  cases p with
  | make ps t own num =>
    have hok : MakeOk ps t num := hok
    obtain ⟨qs, q, rfl⟩ : ∃ qs q, ps = qs ++ [q] := ⟨ps.dropLast, ps.getLast hok.ne, (List.dropLast_concat_getLast _).symm⟩
    show NB (B + 1) (makeG es (qs ++ [q]) (tx t) (tx w) own num).1
    refine makeG_cases h (fun r => NB (B + 1) r.1) (fun _ => hb1) fun t' n m hv hnone hl hm => ?_
    have := hb.look hv
    exact (hb1.put (Nat.zero_le _) (Nat.zero_le _)).put (by omega) (by omega)
  | put ps t c =>
    show NB (B + 1) (putR es ps (tx t) (cntP c)).1
    unfold putR
    cases hv : lookD es (keyP ps) with
    | none => exact hb1
    | some v =>
      obtain ⟨t', n, m, o, rfl, _, _⟩ := h.nodeP hv
      show NB (B + 1) (Prod.fst (if wants (cntP c) (nodeP t' n m o) = true then _ else _))
      have := hb.look hv
      split
      · show NB (B + 1) (putD es (keyP ps) (putN (tx t) (nodeP t' n m o)))
        rw [putN_node]
        exact hb1.put (by omega) (by omega)
      · exact hb1
  | drop ps c =>
    show NB (B + 1) (dropR es ps (cntP c)).1
    unfold dropR
    cases hv : lookD es (keyP ps) with
    | none => exact hb1
    | some v =>
      show NB (B + 1) (Prod.fst (if wants (cntP c) v = true then _ else _))
      split
      · split
        · exact hb1.filter _
        · exact hb1
      · exact hb1
  | see ps c =>
    show NB (B + 1) (seeR es ps (cntP c)).1
    unfold seeR
    cases hv : lookD es (keyP ps) with
    | none => exact hb1
    | some v =>
      show NB (B + 1) (Prod.fst (if wants (cntP c) v = true then _ else _))
      split <;> exact hb1
theorem NB.treeB {B : Nat} {es : Tr} (h : TreeG es) (hb : NB B es) : TreeB 63 B es := by
  obtain ⟨C, h1, h2, h3⟩ := h
  refine ⟨h1, h2, fun e he => ?_⟩
  obtain ⟨ps, hr, e1, hn⟩ := h3 e he
  obtain ⟨t, n, m, o, e2, ht, _, _, ho⟩ := hn.P
  have := hb e he _ _ _ _ e2
  refine ⟨ps, hr, e1, ?_⟩
  rw [e2]
  exact nodeB_P ht this.1 this.2 ho
theorem NB.nice {B : Nat} {es : Tr} (h : TreeG es) (hb : NB B es) (hB : B ≤ 1000) (p : PD) : p.nice es := by
  cases p with
  | make ps t own num =>
    cases num with
    | true =>
      intro v hv
      obtain ⟨t', n, m, o, rfl, _, _⟩ := h.nodeP hv
      have := hb.look hv
      rw [madeD_node]
      exact sixOk_small (by omega) (by omega)
    | false => trivial
  | _ => trivial
theorem niceAll_of {w : List Nat} (hw : wordB w = true) : ∀ (ps : List PD) {es : Tr} {B : Nat}, TreeI es → NB B es → B + ps.length ≤ 1000 → (∀ p ∈ ps, p.ok) → niceAll w es ps
  | [], _, _, _, _, _, _ => trivial
  | p :: ps, es, B, h, hb, hB, hok => by
    rw [List.length_cons] at hB
    have hn := hb.nice h.g (by omega) p
    exact ⟨hn, niceAll_of hw ps (h.run (hok p (by simp)) hw hn) (hb.run h.g (hok p (by simp)) w) (by omega) fun q hq => hok q (by simp [hq])⟩
theorem noD_flat {d : PyData} (h : flatD d = true) : noD d = true := by cases d <;> first | rfl | cases h
theorem noDs_app : ∀ {a b : List PyData}, noDs a = true → noDs b = true → noDs (a ++ b) = true
  | [], _, _, h => h
  | x :: a, b, h1, h2 => by
    have h1 : (noD x && noDs a) = true := h1
    rw [Bool.and_eq_true] at h1
    show (noD x && noDs (a ++ b)) = true
    rw [h1.1, noDs_app h1.2 h2]
    rfl
theorem flat_depth {d : PyData} (h : flatD d = true) : d.depth = 0 := by cases d <;> first | rfl | cases h
theorem flats : ∀ {ds : List PyData}, ds.all flatD = true → noDs ds = true ∧ PyData.depthAll ds = 0
  | [], _ => ⟨rfl, rfl⟩
  | d :: ds, h => by
    rw [List.all_cons, Bool.and_eq_true] at h
    obtain ⟨a, b⟩ := flats h.2
    refine ⟨?_, ?_⟩
    · show (noD d && noDs ds) = true
      rw [noD_flat h.1, a]
      rfl
    · simp [PyData.depthAll, flat_depth h.1, b]
/-- an answer, as data -/
structure AnsOk (d : PyData) : Prop where
  no : noD d = true
  dep : d.depth ≤ 2
  tup : ∃ ds, d = .tuple ds
theorem run_ans {es : Tr} (h : TreeG es) {p : PD} (hok : p.ok) (w : List Nat) : AnsOk (p.run es w).2.1 := by
  obtain ⟨b, x, e, hx⟩ := run_pair h p hok w
  rw [e]
  refine ⟨?_, ?_, _, rfl⟩
  · show (true && (noD x && true)) = true
    rw [noD_flat hx]
    rfl
  · simp [PyData.depth, PyData.depthAll, flat_depth hx]
theorem allG_keep {w : List Nat} (hw : wordB w = true) {es0 : Tr} {B : Nat} (h0 : TreeI es0) (hb0 : NB B es0) : ∀ (ps : List PD) {C k : Nat} {cur : Tr} {vs ev : List PyData}, TreeI cur → NB C cur → C + ps.length ≤ B → B ≤ 1000 → (∀ p ∈ ps, p.ok) → vs.all flatD = true →
    TreeI (allG w es0 k cur vs ev ps).1 ∧ NB B (allG w es0 k cur vs ev ps).1 ∧ AnsOk (allG w es0 k cur vs ev ps).2.1
  | [], C, k, cur, vs, ev, h, hb, hC, _, _, hv => ⟨h, hb.up (by simpa using hC), by
      show (noD (tx okW) && (noDs vs && true)) = true
      rw [(flats hv).1]
      rfl, by
      show PyData.depth (.tuple [tx okW, .tuple vs]) ≤ 2
      simp [PyData.depth, PyData.depthAll, (flats hv).2], _, rfl⟩
  | p :: ps, C, k, cur, vs, ev, h, hb, hC, hB, hok, hv => by
    rw [List.length_cons] at hC
    obtain ⟨b, x, e, hx⟩ := run_pair h.g p (hok p (by simp)) w
    cases b with
    | false =>
      rw [allG_no e]
      refine ⟨h0, hb0, ?_, ?_, _, rfl⟩
      · show (noD (tx noW) && (noD x && (true && true))) = true
        rw [noD_flat hx]
        rfl
      · simp [PyData.depth, PyData.depthAll, flat_depth hx]
    | true =>
      rw [allG_ok e]
      have hn := hb.nice h.g (by omega) p
      refine allG_keep hw h0 hb0 ps (h.run (hok p (by simp)) hw hn) (hb.run h.g (hok p (by simp)) w) (by omega) hB (fun q hq => hok q (by simp [hq])) ?_
      rw [List.all_append, hv]
      show (true && (flatD x && true)) = true
      rw [hx]
      rfl
theorem NB.deed {B : Nat} {es : Tr} {w : List Nat} (hw : wordB w = true) (h : TreeI es) (hb : NB B es) (hB : B + 6 ≤ 1000) {d : DD} (hd : d.ok) : d.nice es w := by
  cases d with
  | plain p => exact hb.nice h.g (by omega) p
  | all ps =>
    have := hd.2.1
    exact niceAll_of hw ps h hb (by omega) hd.2.2
  | _ => trivial
theorem doesG_keep {B : Nat} {es : Tr} {w : List Nat} (hw : wordB w = true) (h : TreeI es) (hb : NB B es) (hB : B + 6 ≤ 1000) (lim : Option Nat) {d : DD} (hd : d.ok) :
    TreeI (doesG es lim d w).1 ∧ NB (B + 6) (doesG es lim d w).1 ∧ AnsOk (doesG es lim d w).2.2.1 := by
  have hb6 := hb.up (Nat.le_add_right B 6)
  have two : ∀ a b, AnsOk (.tuple [tx a, tx b]) := fun a b => ⟨rfl, by simp [PyData.depth, PyData.depthAll], _, rfl⟩
  have one : ∀ a, AnsOk (.tuple [tx a, .none]) := fun a => ⟨rfl, by simp [PyData.depth, PyData.depthAll], _, rfl⟩
  cases lim with
  | none => cases d <;> exact ⟨h, hb6, by first | exact one _ | exact two _ _⟩
  | some l =>
    cases d with
    | plain p => exact ⟨h.run hd hw (hb.nice h.g (by omega) p), (hb.run h.g hd w).up (by omega), run_ans h.g hd w⟩
    | all ps =>
      have := hd.2.1
      exact allG_keep hw h (hb.up (by omega)) ps h hb (by omega) hB hd.2.2 rfl
    | opn n => exact ⟨h, hb6, two _ _⟩
    | close => exact ⟨h.left w, hb6.filter _, one _⟩
    | bring => exact ⟨h, hb6, one _⟩
/-! ### sessions -/
def Who3 (w : List Nat) : Prop := w = [120, 97] ∨ w = [121, 98] ∨ w = [122, 122]
theorem Who3.word {w : List Nat} (h : Who3 w) : wordB w = true := by rcases h with rfl | rfl | rfl <;> decide
/-- a place, as data -/
structure SpotOk (d : PyData) : Prop where
  no : noD d = true
  dep : d.depth ≤ 2
structure RowOk (r : Rw) : Prop where
  ans : noD r.ans = true
  adep : r.ans.depth ≤ 2
  pl : SpotOk r.pl
def SI (ss : Tr) : Prop := ∀ e ∈ ss, ∃ w r, Who3 w ∧ RowOk r ∧ e = (tx w, Rw.data r)
theorem SI.put {ss : Tr} (h : SI ss) {w : List Nat} {r : Rw} (hw : Who3 w) (hr : RowOk r) : SI (putD ss (keyW w) (Rw.data r)) := fun e he => by
  rcases mem_putD he with he | rfl | ⟨h1, h2⟩
  · exact h e he
  · exact ⟨w, r, hw, hr, rfl⟩
  · refine ⟨w, r, hw, hr, ?_⟩
    obtain ⟨a, b⟩ := e
    have h2 : b = Rw.data r := h2
    subst h2
    have hk : toKey a = some (keyW w) := h1
    cases a with
    | str z =>
      have : (Sum.inr z : Key) = .inr (SX.S w) := Option.some.inj hk
      injection this with this
      rw [this]
    | none => cases hk
    | bool b => cases hk
    | int i =>
      have : (Sum.inl i : Key) = .inr (SX.S w) := Option.some.inj hk
      cases this
    | _ => cases hk
def r0 : Rw := ⟨none, 0, .none, .tuple [.int 0, .int 0]⟩
theorem SI.row {ss : Tr} (h : SI ss) (w : List Nat) : ∃ r, RowOk r ∧ getD0 ss (keyW w) row0 = r.data ∧ (lookD ss (keyW w) = some r.data ∨ (lookD ss (keyW w) = none ∧ r = r0)) := by
  unfold getD0
  cases hv : lookD ss (keyW w) with
  | none => exact ⟨r0, ⟨rfl, by simp [r0, PyData.depth], rfl, by simp [r0, PyData.depth, PyData.depthAll]⟩, rfl, .inr ⟨rfl, rfl⟩⟩
  | some v =>
    obtain ⟨e, he, _, h2⟩ := lookD_mem hv
    obtain ⟨w', r, _, hr, rfl⟩ := h e he
    subst h2
    exact ⟨r, hr, rfl, .inl rfl⟩
structure KI (B : Nat) (es ss : Tr) : Prop where
  ti : TreeI es
  nb : NB B es
  si : SI ss
  len : ss.length ≤ B
theorem KI.fit {B : Nat} {es ss : Tr} (h : KI B es ss) (hB : B + 6 ≤ 1000) {e : EN} (hok : e.ok) {r : Rw} (hr : RowOk r) (hrow : getD0 ss (keyW e.who) row0 = r.data) : FitS es ss r e where
  row := hrow
  ti := h.ti
  len := by have := h.len; omega
  flat := ⟨hr.ans, hr.pl.no⟩
  ok := hok
  nice := fun w n d he _ _ => by
    subst he
    exact h.nb.deed hok.1 h.ti hB hok.2.2
theorem KI.step {B : Nat} {es ss : Tr} (h : KI B es ss) (hB : B + 6 ≤ 1000) {e : EN} (hok : e.ok) (hw : Who3 e.who) {r : Rw} (hr : RowOk r) {pl : PyData} (hpl : SpotOk pl) : KI (B + 6) (doneS es ss r pl e).1.1 (doneS es ss r pl e).1.2 := by
  have h6 : KI (B + 6) es ss := ⟨h.ti, h.nb.up (by omega), h.si, by have := h.len; omega⟩
  have hl : ∀ k d, (putD ss k d).length ≤ B + 6 := fun k d => by
    have := (putD_len (es := ss) (k := k) (d := d)).1
    have := h.len
    omega
  obtain ⟨lim, st, ans, pl0⟩ := r
  cases e with
  | fin w =>
    cases lim with
    | none => exact h6
    | some l => exact ⟨h.ti.left w, h6.nb.filter _, h.si.put hw ⟨hr.ans, hr.adep, hr.pl⟩, hl _ _⟩
  | ask w n d =>
    show KI (B + 6) (askS es ss _ w n d pl).1.1 (askS es ss _ w n d pl).1.2
    unfold askS
    obtain ⟨a, b, c⟩ := doesG_keep hok.1 h.ti h.nb hB lim hok.2.2
    split
    · exact h6
    · exact ⟨a, b, h.si.put hw ⟨c.no, c.dep, hpl⟩, hl _ _⟩
theorem row_depth {r : Rw} (h : RowOk r) : r.data.depth ≤ 3 := by
  have h1 := h.adep
  have h2 := h.pl.dep
  unfold Rw.data
  cases r.lim <;> simp [limP, PyData.depth, PyData.depthAll] <;> omega
theorem SI.depth : ∀ {ss : Tr}, SI ss → PyData.depthKv ss ≤ 3
  | [], _ => Nat.zero_le _
  | (a, b) :: ss, h => by
    obtain ⟨w, r, _, hr, e⟩ := h (a, b) (by simp)
    injection e with e1 e2
    subst e1 e2
    have := SI.depth (ss := ss) fun x hx => h x (by simp [hx])
    have := row_depth hr
    simp [PyData.depthKv, PyData.depth]
    omega
theorem KI.depth {B : Nat} {es ss : Tr} (h : KI B es ss) : PyData.depthAll [.dict es, .dict ss] ≤ 4 := by
  have h1 := h.ti.g.depth
  have h2 := h.si.depth
  simp [PyData.depthAll, PyData.depth] at h1 ⊢
  omega
theorem KI.first : KI 0 [(tx [47], .tuple [tx [], .int 0, .int 0, .none])] [] where
  ti := by
    have hg : TreeG [(tx [47], .tuple [tx [], .int 0, .int 0, .none])] := ⟨0, by simp, by simp, fun e he => by
      rw [List.mem_singleton.mp he]
      exact ⟨[], ⟨fun _ z => (by cases z), by decide⟩, rfl, nodeB_P (t := []) (o := none) rfl (Nat.le_refl _) (Nat.le_refl _) fun _ z => (by cases z)⟩⟩
    have hro : roadOf (tx [47], PyData.tuple [tx [], .int 0, .int 0, .none]) = [] := roadOf_P (rs := []) (fun _ z => by cases z)
    have hl : lookD [(tx [47], PyData.tuple [tx [], .int 0, .int 0, .none])] (keyP []) = some (DL.nodeP [] 0 0 none) := rfl
    refine ⟨hg, by simp, ⟨_, _, _, hl⟩, fun ps q hq => ?_, fun ps t n m o hps hv => ?_⟩
    · rw [List.map_singleton, hro] at hq
      have := List.mem_singleton.mp hq
      simp at this
    · unfold kidsL
      rw [List.map_singleton, hro]
      show (List.filterMap (kidR ps) [[]]).length ≤ m
      have : kidR ps [] = none := by simp [kidR]
      simp [this]
  nb := fun e he t n m o e2 => by
    rw [List.mem_singleton.mp he] at e2
    have : DL.nodeP [] 0 0 none = DL.nodeP t n m o := e2
    obtain ⟨_, rfl, rfl, _⟩ := nodeP_inj this
    exact ⟨Nat.le_refl _, Nat.le_refl _⟩
  si := fun e he => by cases he
  len := Nat.zero_le _
/-! ### deeds drawn -/
theorem wholeB0 {d : PyData} (h : wholeB d 0 = true) (hf : flatD d = true) : ∃ c : Nat, d = .int c := by
  cases d with
  | int i =>
    have h : decide ((0 : Int) ≤ i) = true := h
    exact ⟨i.toNat, by rw [Int.toNat_of_nonneg (of_decide_eq_true h)]⟩
  | _ => first | cases h | cases hf
theorem cntP_of {d : PyData} (h : countB d = true) (hf : smallB d = true) : ∃ c, d = cntP c := by
  cases d with
  | none => exact ⟨none, rfl⟩
  | int i =>
    have h : decide ((0 : Int) ≤ i) = true := h
    exact ⟨some i.toNat, by show PyData.int i = .int _; rw [Int.toNat_of_nonneg (of_decide_eq_true h)]⟩
  | _ => cases h
theorem deed_of {d : PyData} (h : DeedOk d) : ∃ p : PD, d = p.data ∧ p.ok := by
  obtain ⟨w, ps, rest, rfl, hr, hp, hs, h1, h3⟩ := h
  have hne : pathL ps ≠ [47] → ps ≠ [] := fun z e => z ((pathL_ne hr.1).mpr e)
  match rest, hp, hs, h1, h3 with
  | [c], hp, hs, _, _ =>
    have hp : (countB c && (decide (w = seeW) || (decide (w = dropW) && !decide (pathL ps = [47])))) = true := hp
    rw [Bool.and_eq_true, Bool.or_eq_true, Bool.and_eq_true] at hp
    obtain ⟨c', rfl⟩ := cntP_of hp.1 (hs c (by simp))
    rcases hp.2 with h | ⟨h, h2⟩
    · rw [of_decide_eq_true h]
      exact ⟨.see ps c', rfl, hr⟩
    · rw [of_decide_eq_true h]
      exact ⟨.drop ps c', rfl, hr, hne (by simpa using h2)⟩
  | [t, c], hp, hs, _, _ =>
    have hp : (decide (w = putW) && (ontx textB t && countB c)) = true := hp
    rw [Bool.and_eq_true, Bool.and_eq_true] at hp
    obtain ⟨c', rfl⟩ := cntP_of hp.2.2 (hs c (by simp))
    obtain ⟨h, ht, _⟩ := hp
    rw [of_decide_eq_true h]
    cases t with
    | str z =>
      refine ⟨.put ps z.cps.toList c', ?_, hr, ht⟩
      show _ = PyData.tuple [tx putW, P ps, tx z.cps.toList, cntP c']
      rw [show tx z.cps.toList = PyData.str z from rfl]
    | _ => cases ht
  | [t, o, n], hp, hs, _, _ =>
    have hp : (decide (w = makeW) && makeB (pathL ps) t o n) = true := hp
    rw [Bool.and_eq_true] at hp
    obtain ⟨h, hm⟩ := hp
    rw [of_decide_eq_true h]
    unfold makeB at hm
    rw [Bool.and_eq_true, Bool.and_eq_true] at hm
    obtain ⟨ht, ho, hn⟩ := hm
    cases t with
    | str z =>
      cases o with
      | bool own =>
        cases n with
        | bool num =>
          refine ⟨.make ps z.cps.toList own num, rfl, ?_⟩
          have hps : ps ≠ [] := by
            rintro rfl
            cases num with
            | true => cases hn
            | false => cases hn
          exact ⟨hr, hps, ht, fun e => by subst e; exact hn⟩
        | _ => cases hn
      | _ => cases ho
    | _ => cases ht
/-! ### contracts -/
def g__law_task : DC := fun svs Q => ∃ es ss w, svs = [.pool, .dat (.tuple [.dict es, .dict ss]), .dat (tx w)] ∧ TreeOk 63 es ∧ SI ss ∧ ∀ d : DD, d.ok → Q (.fz d.data)
theorem gm__law_task : g__law_task.Mono := fun _ _ _ hq ⟨es, ss, w, h1, h2, h3, h4⟩ => ⟨es, ss, w, h1, h2, h3, fun d h => hq _ (h4 d h)⟩
def g__law_drawn_line : DC := fun svs Q => ∃ es ss, svs = [.pool, .dat (.tuple [.dict es, .dict ss])] ∧ TreeOk 63 es ∧ SI ss ∧ ∀ e : EN, e.ok → Who3 e.who → Q (.fz e.data)
theorem gm__law_drawn_line : g__law_drawn_line.Mono := fun _ _ _ hq ⟨es, ss, h1, h2, h3, h4⟩ => ⟨es, ss, h1, h2, h3, fun e h h' => hq _ (h4 e h h')⟩
def lineD (x : PyData × EN) : PyData := .tuple [x.1, x.2.data]
structure LineOk (x : PyData × EN) : Prop where
  spot : SpotOk x.1
  ok : x.2.ok
  who : Who3 x.2.who
def g__law_gone : DC := fun svs Q => ∃ n : Nat, svs = [.pool, .dat (.int n)] ∧ n ≤ 60 ∧ ∀ ls : List (PyData × EN), ls.length ≤ n → (∀ x ∈ ls, LineOk x) → Q (.fz (.list (ls.map lineD)))
theorem gm__law_gone : g__law_gone.Mono := fun _ _ _ hq ⟨n, h1, h2, h3⟩ => ⟨n, h1, h2, fun ls a b => hq _ (h3 ls a b)⟩
end L2.DL

set_option maxRecDepth 100000
set_option maxHeartbeats 4000000
/-! DL55: contracts of the laws' own doing, where numbers are small. -/
namespace L2.DL
open PySem PySem.Spec PyProof.Rows
/-- the laws' own making knows no greatest number -/
def gn__law_plainly : DC := fun svs Q => ∃ es p w, svs = [.dat (.dict es), .dat (PD.data p), .dat (tx w)] ∧ TreeG es ∧ p.ok ∧ p.nice es ∧ Q (.fz (p.run es w).data)
theorem gmn__law_plainly : gn__law_plainly.Mono := fun _ _ _ hq ⟨es, p, w, h1, h2, h3, h4, h5⟩ => ⟨es, p, w, h1, h2, h3, h4, hq _ h5⟩
def gn__law_make : DC := fun svs Q => ∃ es ps t own num w, svs = [.dat (.dict es), .dat (PD.data (.make ps t own num)), .dat (tx w)] ∧ TreeG es ∧ (PD.make ps t own num).ok ∧ (PD.make ps t own num).nice es ∧ Q (.fz ((PD.make ps t own num).run es w).data)
theorem gmn__law_make : gn__law_make.Mono := fun _ _ _ hq ⟨es, ps, t, own, num, w, h1, h2, h3, h4, h5⟩ => ⟨es, ps, t, own, num, w, h1, h2, h3, h4, hq _ h5⟩
end L2.DL

set_option maxRecDepth 100000
set_option maxHeartbeats 4000000
/-! DL56: comprehensions of drawn things; sessions looked at. -/
namespace L2.DL
open PySem PySem.Spec PyProof.Rows
/-- [te for _ in ds], where what each tells is only known to be such a thing -/
theorem comp_draw {gd : DG} {te : DTE} {vs : List Nat} {Q : List PyData → DSt → Prop} (Pr : PyData → Prop) {ds : List PyData} {s : DSt} (hl : ds.length ≤ sizeLine)
    (step : ∀ d, d ∈ ds → ∀ (acc : List PyData) (R : List PyData → DSt → Prop), acc.length < sizeLine → (∀ v, Pr v → R (acc ++ [v]) s) → gd d s fun s1 => te s1 fun o s3 => Cond (acc.length < sizeLine) (R (acc ++ [o.data]) (forgetAll vs s3)))
    (hq : ∀ us : List PyData, us.length = ds.length → (∀ v ∈ us, Pr v) → Q us s) : @CompI ds [] s ⟨gd, tYesD, te, vs, Q⟩ :=
  comp_inv (fun acc rest s' => s' = s ∧ acc.length + rest.length = ds.length ∧ (∀ v ∈ acc, Pr v) ∧ ∀ d ∈ rest, d ∈ ds)
    (fun d rest acc s' ⟨e, h1, h2, h3⟩ R hR => by
      subst e
      rw [List.length_cons] at h1
      exact step d (h3 d (by simp)) acc R (by omega) fun v hv => hR _ _ ⟨rfl, by simp; omega, fun u hu => by
        rcases List.mem_append.mp hu with hu | hu
        · exact h2 u hu
        · rw [List.mem_singleton.mp hu]
          exact hv, fun x hx => h3 x (by simp [hx])⟩)
    (fun acc s' ⟨e, h1, h2, _⟩ => by
      subst e
      exact hq acc (by simpa using h1) h2) ds [] s ⟨rfl, by simp, fun _ z => (by cases z), fun _ h => h⟩
theorem SI_two {ss : Tr} (h : SI ss) (w : List Nat) : ∃ lim st, gIx (getD0 ss (Sum.inr (SX.S w)) (.tuple [.none, .int 0])) (.int 0) = some (.fz (limP lim)) ∧ gIx (getD0 ss (Sum.inr (SX.S w)) (.tuple [.none, .int 0])) (.int 1) = some (.fz (.int ((st : Nat) : Int))) := by
  unfold getD0
  cases hv : lookD ss (keyW w) with
  | none =>
    rw [show lookD ss (Sum.inr (SX.S w)) = none from hv]
    exact ⟨none, 0, rfl, rfl⟩
  | some v =>
    rw [show lookD ss (Sum.inr (SX.S w)) = _ from hv]
    obtain ⟨e, he, _, h2⟩ := lookD_mem hv
    obtain ⟨w', r, _, hr, rfl⟩ := h e he
    subst h2
    exact ⟨r.lim, r.st, rfl, rfl⟩
theorem all_plain : ∀ {us : List PyData}, (∀ v ∈ us, ∃ p : PD, v = p.data ∧ p.ok) → ∃ ps : List PD, us = ps.map PD.data ∧ ∀ p ∈ ps, p.ok
  | [], _ => ⟨[], rfl, fun _ z => by cases z⟩
  | v :: us, h => by
    obtain ⟨p, rfl, hp⟩ := h v (by simp)
    obtain ⟨ps, rfl, hps⟩ := all_plain (us := us) fun x hx => h x (by simp [hx])
    exact ⟨p :: ps, rfl, fun q hq => by
      rcases List.mem_cons.mp hq with rfl | hq
      · exact hp
      · exact hps q hq⟩
end L2.DL

set_option maxRecDepth 100000
set_option maxHeartbeats 4000000
/-! DL57: y = [.. for k in x[j]], x a tuple with a dict there. -/
namespace L2.DL
open PySem PySem.Spec PyProof.Rows
section
variable {X : Cx} {N : List Str} {sc : Scope} {k : Nat} {dd : Bool} {tg iter elt : Expr} {ifs : List Expr} {scope : Scope} {is : List Nat} {g : TG} {gd : DG} {tt : DTT} {te : DTE} {own : List (Str × Nat)} {pos : Pos}
theorem ds_setCKJ (hc : XC N sc k dd X) (m : Nat) {y : Str} {py stpos : Pos} (hy : N[m]? = some y) (hl : sc.names.lookup y = some .local) (i j : Nat) {x : Str} {px ipos spos : Pos} {jn : Nat} (hx : N[i]? = some x) (hv : Vis sc x) (hd : (x == ("__debug__" : Str)) = false) (hcd : (x == ("__classdict__" : Str)) = false)
    (hp : PlainIx (.Constant (.int (j : Int)) jn ipos)) (b : Blk X tg ifs elt scope is g gd tt te) (ok : blkC N sc scope own = true) (hvs : ∀ i ∈ is, i ∈ own.map (·.2))
    (hsw : swapsWith (.ListComp elt [⟨tg, .Subscript (.Name x px) (.Constant (.int (j : Int)) jn ipos) spos, ifs, 0⟩] scope pos) (some (.Name y py)) stpos.line X.env = pure true) (hs : ∀ y, foldedSetIterable (.Subscript (.Name x px) (.Constant (.int (j : Int)) jn ipos) spos) X.env y = pure y) :
    DS X (.Assign [.Name y py] (.ListComp elt [⟨tg, .Subscript (.Name x px) (.Constant (.int (j : Int)) jn ipos) spos, ifs, 0⟩] scope pos) stpos) (sAsg m (eCompKJ i j gd tt te (own.map (·.2)))) := by
  have P := ps_setLc (own := own) (tt := liftT X.K tt) (te := lift X.K te) (i := m) (elt := elt) (tg := tg) (ifs := ifs) (scope := scope) (pos := pos) hc.calm (hc.hN ▸ hc.nd) (hc.hN ▸ hy) (hc.hS ▸ hl) hsw (pi_keys (X := X) (tg := tg) (pe_ix (pos := spos) ix_seq (pe_var (pos := px) (i := i) (hc.hN ▸ hx) (hc.hS ▸ hv) hd hcd) pe_int hp)) (hc.hN ▸ hc.hS ▸ blkOk_by ok) (fun s H C cl fp => (b.g s H C cl fp).pg) (fun s H C cl fp => (b.t s H C cl fp).pts) (fun s H C cl fp => (b.e s H C cl fp).pe) hs
  refine ⟨fun E E' s l ⟨xs, es, h0, h1, h⟩ => ⟨xs, es, h0, h1, blk_mono b (fun acc s2 ⟨z, q⟩ => ⟨z, l.nx _ q⟩) _ _ _ h⟩, PS.weak (PS.or (ps_lock P) P) fun D σ H ⟨f, Z, fp, s, E, r, ⟨xs, es, h0, h1, h⟩, ok⟩ => ?_⟩
  have h2 : compW gd tt te (own.map (·.2)) (es.map Prod.fst) [] (forgetAll (own.map (·.2)) s) fun acc s2 => Told X.K f Z s2 σ (.lst acc) fun v H1 => gName m v σ H1 D.nx :=
    blk_mono b (fun acc s2 ⟨z, q⟩ Z' fp' v H' A zz r' p n hA => ok.nx _ _ _ _ _ zz (r'.put m (by rw [← r'.len]; exact z) (sok_of p n) fun j _ a ha => hA j a ha) q) _ _ _ h
  obtain ⟨v, e, p⟩ := r.dat h0
  cases p with
  | tup hq w =>
    rename_i a0 vs0
    obtain ⟨u, hu, pu⟩ := w.get h1
    cases pu with
    | dct hr rr =>
      rename_i a ks
      rcases hr with hz | ⟨o, hz⟩
      · refine .inl ⟨a, .dK ks, r.zh _ _ hz, trivial, fun od => ?_⟩
        have r' := r.swap hz (fun vs z => nomatch z) (leD_lock (od := od) hz)
        have hq' : SqT X.K (upd Z a (.frz od (.dK ks))) a0 vs0 := hq.imp ((leD_lock (od := od) hz).t _ _) id
        exact ⟨.ref a0, e, .inr (.inl ⟨a0, vs0, (j : Int), .ref a, rfl, rfl, (DL.Le.of r'.zh).sqT hq', at_of hu, a, od, rfl, .inl ⟨ks, upd_same, lc_turns b hvs r' (walks_keys upd_same (rr.leD (leD_lock hz)))
        (blk_mono b (fun acc s2 q => Told.locked r hz q) _ _ _ h2)⟩⟩)⟩
      · exact .inr ⟨.ref a0, e, .inr (.inl ⟨a0, vs0, (j : Int), .ref a, rfl, rfl, (DL.Le.of r.zh).sqT hq, at_of hu, a, o, rfl, .inl ⟨ks, r.zh _ _ hz, lc_turns b hvs r (walks_keys hz rr) h2⟩⟩)⟩
end
theorem sw_cellL {X : Cx} {N : List Str} {sc : Scope} {k : Nat} {dd : Bool} (hc : XC N sc k dd X) {elt : Expr} {gs : List Comprehension} {scope : Scope} {pos : Pos} {y : Str} {py : Pos} {l : Nat} (h : sc.names.lookup y = some .cell) :
    swapsWith (.ListComp elt gs scope pos) (some (.Name y py)) l X.env = pure false := by
  have hk : (X.env.kindOf y == some .local) = false := by
    unfold Env.kindOf
    rw [hc.hS, h]
    rfl
  show pure (X.env.blockKind == .function && X.env.kindOf y == some .local && py.line == pos.line && !(scope.names.any fun (n, k) => n == y && (k == .local || k == .cell))) = _
  rw [hk, Bool.and_false]
  rfl
end L2.DL

set_option maxRecDepth 100000
set_option maxHeartbeats 4000000
/-! DL58: whose nodes stand; what events tell; stamps that rise. -/
namespace L2.DL
open PySem PySem.Spec PyProof.Rows
/-! ### owners -/
def OwnIn (es : Tr) (w : List Nat) : Prop := ∃ e ∈ es, ∃ t n m, e.2 = nodeP t n m (some w)
def OW (es ss : Tr) : Prop := ∀ w, OwnIn es w → ∃ r : Rw, lookD ss (keyW w) = some r.data ∧ r.lim ≠ none
theorem OwnIn.put {es : Tr} {k : Key} {t : List Nat} {n m : Nat} {o : Option (List Nat)} {w : List Nat} (h : OwnIn (putD es k (nodeP t n m o)) w) : OwnIn es w ∨ o = some w := by
  obtain ⟨e, he, t', n', m', e2⟩ := h
  rcases mem_putD he with he | he | ⟨_, he⟩
  · exact .inl ⟨e, he, _, _, _, e2⟩
  · rw [he] at e2
    exact .inr (nodeP_inj e2).2.2.2
  · rw [he] at e2
    exact .inr (nodeP_inj e2).2.2.2
theorem OwnIn.look {es : Tr} {k : Key} {t : List Nat} {n m : Nat} {w : List Nat} (h : lookD es k = some (nodeP t n m (some w))) : OwnIn es w := by
  obtain ⟨e, he, _, e2⟩ := lookD_mem h
  exact ⟨e, he, _, _, _, e2⟩
theorem OwnIn.filter {es : Tr} {f : PyData × PyData → Bool} {w : List Nat} (h : OwnIn (es.filter f) w) : OwnIn es w := by
  obtain ⟨e, he, r⟩ := h
  exact ⟨e, (List.mem_filter.mp he).1, r⟩
theorem run_own {es : Tr} (h : TreeG es) {p : PD} (hok : p.ok) {w v : List Nat} (ho : OwnIn (p.run es w).1 v) : OwnIn es v ∨ v = w := by
  cases p with
  | make ps t own num =>
    have hok : MakeOk ps t num := hok
    obtain ⟨qs, q, rfl⟩ : ∃ qs q, ps = qs ++ [q] := ⟨ps.dropLast, ps.getLast hok.ne, (List.dropLast_concat_getLast _).symm⟩
    have ho : OwnIn (makeG es (qs ++ [q]) (tx t) (tx w) own num).1 v := ho
    revert ho
    refine makeG_cases h (fun r => OwnIn r.1 v → OwnIn es v ∨ v = w) (fun _ z => .inl z) fun t' n m hv hnone hl hm ho => ?_
    rcases ho.put with ho | ho
    · rcases ho.put with ho | ho
      · exact .inl ho
      · split at ho
        · exact .inr (Option.some.inj ho).symm
        · cases ho
    · cases ho
  | put ps t c =>
    have ho : OwnIn (putR es ps (tx t) (cntP c)).1 v := ho
    unfold putR at ho
    cases hv : lookD es (keyP ps) with
    | none => rw [hv] at ho; exact .inl ho
    | some u =>
      rw [hv] at ho
      obtain ⟨t', n, m, o, rfl, _, _⟩ := h.nodeP hv
      have ho : OwnIn (Prod.fst (if DL.wants (cntP c) (nodeP t' n m o) = true then _ else _)) v := ho
      split at ho
      · have ho : OwnIn (putD es (keyP ps) (putN (tx t) (nodeP t' n m o))) v := ho
        rw [putN_node] at ho
        rcases ho.put with ho | ho
        · exact .inl ho
        · subst ho
          exact .inl (OwnIn.look hv)
      · exact .inl ho
  | drop ps c =>
    have ho : OwnIn (dropR es ps (cntP c)).1 v := ho
    unfold dropR at ho
    cases hv : lookD es (keyP ps) with
    | none => rw [hv] at ho; exact .inl ho
    | some u =>
      rw [hv] at ho
      have ho : OwnIn (Prod.fst (if DL.wants (cntP c) u = true then _ else _)) v := ho
      split at ho
      · split at ho
        · exact .inl (OwnIn.filter ho)
        · exact .inl ho
      · exact .inl ho
  | see ps c =>
    have ho : OwnIn (seeR es ps (cntP c)).1 v := ho
    unfold seeR at ho
    cases hv : lookD es (keyP ps) with
    | none => rw [hv] at ho; exact .inl ho
    | some u =>
      rw [hv] at ho
      have ho : OwnIn (Prod.fst (if DL.wants (cntP c) u = true then _ else _)) v := ho
      split at ho <;> exact .inl ho
theorem left_own {es : Tr} {w v : List Nat} (h : OwnIn (leftG es w) v) : OwnIn es v ∧ v ≠ w := by
  refine ⟨OwnIn.filter h, ?_⟩
  obtain ⟨e, he, t, n, m, e2⟩ := h
  have := (List.mem_filter.mp he).2
  obtain ⟨e1, e2'⟩ := e
  have e2 : e2' = nodeP t n m (some v) := e2
  subst e2
  rw [isOwn_node] at this
  rintro rfl
  simp at this
/-! ### what events tell -/
def evD (x : List Nat × Rd0) : PyData := .tuple [tx x.1, P x.2]
structure Tells (ev : List PyData) (es es2 : Tr) : Prop where
  evs : ∃ xs : List (List Nat × Rd0), ev = xs.map evD
  made : ∀ r ∈ es2.map roadOf, r ∉ es.map roadOf → evD (madeW, r) ∈ ev
  gone : ∀ r ∈ es.map roadOf, r ∉ es2.map roadOf → evD (goneW, r) ∈ ev
theorem Tells.same {ev : List PyData} {es es2 : Tr} (h : es2.map roadOf = es.map roadOf) (he : ∃ xs : List (List Nat × Rd0), ev = xs.map evD) : Tells ev es es2 :=
  ⟨he, fun r h1 h2 => absurd (h ▸ h1) h2, fun r h1 h2 => absurd (h ▸ h1) h2⟩
theorem Tells.refl {es : Tr} : Tells [] es es := .same rfl ⟨[], rfl⟩
theorem Tells.trans {a b : List PyData} {x y z : Tr} (h1 : Tells a x y) (h2 : Tells b y z) : Tells (a ++ b) x z := by
  obtain ⟨as, rfl⟩ := h1.evs
  obtain ⟨bs, rfl⟩ := h2.evs
  refine ⟨⟨as ++ bs, by simp⟩, fun r hz hx => ?_, fun r hx hz => ?_⟩
  · by_cases hy : r ∈ y.map roadOf
    · exact List.mem_append_left _ (h1.made r hy hx)
    · exact List.mem_append_right _ (h2.made r hz hy)
  · by_cases hy : r ∈ y.map roadOf
    · exact List.mem_append_right _ (h2.gone r hy hz)
    · exact List.mem_append_left _ (h1.gone r hx hy)
theorem run_tells {es : Tr} (h : TreeI es) {p : PD} (hok : p.ok) (hn : p.nice es) (w : List Nat) : Tells (p.run es w).2.2 es (p.run es w).1 := by
  cases p with
  | make ps t own num =>
    have hok : MakeOk ps t num := hok
    obtain ⟨qs, q, rfl⟩ : ∃ qs q, ps = qs ++ [q] := ⟨ps.dropLast, ps.getLast hok.ne, (List.dropLast_concat_getLast _).symm⟩
    show Tells (makeG es (qs ++ [q]) (tx t) (tx w) own num).2.2 es (makeG es (qs ++ [q]) (tx t) (tx w) own num).1
    refine makeG_cases h.g (fun r => Tells r.2.2 es r.1) (fun _ => Tells.refl) fun t' n m hv hnone hl hm => ?_
    have hr : Road (qs ++ [newL q num m]) := new_road hok fun hnum => by
      subst hnum
      have := hn _ (by rw [show (qs ++ [q]).dropLast = qs by simp]; exact hv)
      simpa using this
    have hne : keyP qs ≠ keyP (qs ++ [newL q num m]) := fun z => by
      have := congrArg List.length (keyP_inj (fun p hp => hr.1 p (by simp [hp])) hr.1 z)
      simp at this
    have hroads : (putD (putD es (keyP (qs ++ [newL q num m])) (nodeP t 0 0 (if own = true then some w else none))) (keyP qs) (nodeP t' n (m + 1) none)).map roadOf = es.map roadOf ++ [qs ++ [newL q num m]] := by
      rw [roads_there (by rw [find_other hne, hv]; rfl), roads_new hr.1 hnone]
    refine ⟨⟨[(madeW, qs ++ [newL q num m]), (kidsW, qs)], rfl⟩, fun r h1 h2 => ?_, fun r h1 h2 => ?_⟩
    · have h1 : r ∈ (putD (putD es (keyP (qs ++ [newL q num m])) (nodeP t 0 0 (if own = true then some w else none))) (keyP qs) (nodeP t' n (m + 1) none)).map roadOf := h1
      rw [hroads] at h1
      rcases List.mem_append.mp h1 with h1 | h1
      · exact absurd h1 h2
      · rw [List.mem_singleton.mp h1]
        exact List.mem_cons_self ..
    · have h2 : r ∉ (putD (putD es (keyP (qs ++ [newL q num m])) (nodeP t 0 0 (if own = true then some w else none))) (keyP qs) (nodeP t' n (m + 1) none)).map roadOf := h2
      rw [hroads] at h2
      exact absurd (List.mem_append_left _ h1) h2
  | put ps t c =>
    show Tells (putR es ps (tx t) (cntP c)).2.2 es (putR es ps (tx t) (cntP c)).1
    unfold putR
    cases hv : lookD es (keyP ps) with
    | none => exact Tells.refl
    | some u =>
      show Tells (Prod.snd (Prod.snd (if DL.wants (cntP c) u = true then _ else _))) es (Prod.fst (if DL.wants (cntP c) u = true then _ else _))
      split
      · exact .same (roads_there (by rw [hv]; rfl)) ⟨[(textW, ps)], rfl⟩
      · exact Tells.refl
  | drop ps c =>
    show Tells (dropR es ps (cntP c)).2.2 es (dropR es ps (cntP c)).1
    unfold dropR
    cases hv : lookD es (keyP ps) with
    | none => exact Tells.refl
    | some u =>
      show Tells (Prod.snd (Prod.snd (if DL.wants (cntP c) u = true then _ else _))) es (Prod.fst (if DL.wants (cntP c) u = true then _ else _))
      split
      · split
        · have hroads := roads_drop h.g (ps := ps) hok.1.1
          refine ⟨⟨[(goneW, ps), (kidsW, ps.dropLast)], rfl⟩, fun r h1 h2 => ?_, fun r h1 h2 => ?_⟩
          · have h1 : r ∈ (dropD es (keyP ps)).map roadOf := h1
            rw [hroads] at h1
            exact absurd (List.mem_filter.mp h1).1 h2
          · have h2 : r ∉ (dropD es (keyP ps)).map roadOf := h2
            rw [hroads] at h2
            have : r = ps := Classical.byContradiction fun z => h2 (List.mem_filter.mpr ⟨h1, by simpa using z⟩)
            subst this
            exact List.mem_cons_self ..
        · exact Tells.refl
      · exact Tells.refl
  | see ps c =>
    show Tells (seeR es ps (cntP c)).2.2 es (seeR es ps (cntP c)).1
    unfold seeR
    cases hv : lookD es (keyP ps) with
    | none => exact Tells.refl
    | some u =>
      show Tells (Prod.snd (Prod.snd (if DL.wants (cntP c) u = true then _ else _))) es (Prod.fst (if DL.wants (cntP c) u = true then _ else _))
      split <;> exact Tells.refl
theorem left_tells {es : Tr} (w : List Nat) : Tells (goneEv es w) es (leftG es w) := by
  refine ⟨?_, fun r h1 h2 => ?_, fun r h1 h2 => ?_⟩
  · unfold goneEv
    generalize goneG es w = l
    refine ⟨l.flatMap fun r => [(goneW, r), (kidsW, r.dropLast)], ?_⟩
    rw [List.map_flatMap]
    rfl
  · obtain ⟨e, he, rfl⟩ := List.mem_map.mp h1
    exact absurd (List.mem_map.mpr ⟨e, (List.mem_filter.mp he).1, rfl⟩) h2
  · obtain ⟨e, he, rfl⟩ := List.mem_map.mp h1
    have ho : isOwn' w e = true := by
      cases ho : isOwn' w e with
      | true => rfl
      | false => exact absurd (List.mem_map.mpr ⟨e, List.mem_filter.mpr ⟨he, by rw [ho]; rfl⟩, rfl⟩) h2
    have hm : roadOf e ∈ goneG es w := (sortR_perm _).symm.subset (List.mem_map.mpr ⟨e, List.mem_filter.mpr ⟨he, ho⟩, rfl⟩)
    exact List.mem_flatMap.mpr ⟨_, hm, List.mem_cons_self ..⟩
theorem allG_more {w : List Nat} (hw : wordB w = true) {es0 : Tr} : ∀ (ps : List PD) {C k : Nat} {cur : Tr} {vs ev : List PyData}, TreeI cur → NB C cur → C + ps.length ≤ 1000 → (∀ p ∈ ps, p.ok) → Tells ev es0 cur →
    Tells (allG w es0 k cur vs ev ps).2.2 es0 (allG w es0 k cur vs ev ps).1 ∧ ∀ v, OwnIn (allG w es0 k cur vs ev ps).1 v → OwnIn es0 v ∨ OwnIn cur v ∨ v = w
  | [], C, k, cur, vs, ev, h, hb, hC, _, ht => ⟨ht, fun v z => .inr (.inl z)⟩
  | p :: ps, C, k, cur, vs, ev, h, hb, hC, hok, ht => by
    rw [List.length_cons] at hC
    obtain ⟨b, x, e, hx⟩ := run_pair h.g p (hok p (by simp)) w
    cases b with
    | false =>
      rw [allG_no e]
      exact ⟨Tells.refl, fun v z => .inl z⟩
    | true =>
      rw [allG_ok e]
      have hn := hb.nice h.g (by omega) p
      obtain ⟨h1, h2⟩ := allG_more hw ps (k := k + 1) (vs := vs ++ [x]) (h.run (hok p (by simp)) hw hn) (hb.run h.g (hok p (by simp)) w) (by omega) (fun q hq => hok q (by simp [hq])) (ht.trans (run_tells h (hok p (by simp)) hn w))
      refine ⟨h1, fun v z => ?_⟩
      rcases h2 v z with z | z | z
      · exact .inl z
      · rcases run_own h.g (hok p (by simp)) z with z | z
        · exact .inr (.inl z)
        · exact .inr (.inr z)
      · exact .inr (.inr z)
/-- what a deed in a session tells, and whose nodes stand behind it -/
theorem doesG_more {B : Nat} {es : Tr} {w : List Nat} (hw : wordB w = true) (h : TreeI es) (hb : NB B es) (hB : B + 6 ≤ 1000) (lim : Option Nat) {d : DD} (hd : d.ok) :
    Tells (doesG es lim d w).2.2.2 es (doesG es lim d w).1 ∧ (∀ v, OwnIn (doesG es lim d w).1 v → (OwnIn es v ∨ (v = w ∧ lim ≠ none)) ∧ (v = w → lim ≠ none → (doesG es lim d w).2.1 ≠ none)) ∧ (lim ≠ none → (doesG es lim d w).2.1 = none → (doesG es lim d w).2.2.2 = goneEv es w) := by
  cases lim with
  | none => cases d <;> exact ⟨Tells.refl, fun v z => ⟨.inl z, fun _ z => absurd rfl z⟩, fun z => absurd rfl z⟩
  | some l =>
    cases d with
    | plain p =>
      refine ⟨run_tells h hd (hb.nice h.g (by omega) p) w, fun v z => ⟨?_, fun _ _ z => by cases z⟩, fun _ z => by cases z⟩
      rcases run_own h.g hd z with z | z
      · exact .inl z
      · exact .inr ⟨z, by simp⟩
    | all ps =>
      have := hd.2.1
      obtain ⟨h1, h2⟩ := allG_more hw ps (k := 0) (vs := []) h hb (by omega) hd.2.2 Tells.refl
      refine ⟨h1, fun v z => ⟨?_, fun _ _ z => by cases z⟩, fun _ z => by cases z⟩
      rcases h2 v z with z | z | z
      · exact .inl z
      · exact .inl z
      · exact .inr ⟨z, by simp⟩
    | opn n => exact ⟨Tells.refl, fun v z => ⟨.inl z, fun _ _ z => by cases z⟩, fun _ z => by cases z⟩
    | close =>
      refine ⟨left_tells w, fun v z => ⟨.inl (left_own z).1, fun e => absurd e (left_own z).2⟩, fun _ _ => rfl⟩
    | bring => exact ⟨Tells.refl, fun v z => ⟨.inl z, fun _ _ z => by cases z⟩, fun _ z => by cases z⟩
end L2.DL

set_option maxRecDepth 100000
set_option maxHeartbeats 4000000
/-! DL59: what an entry makes of a state's rows and owners. -/
namespace L2.DL
open PySem PySem.Spec PyProof.Rows
def IsRow (ss : Tr) (w : List Nat) (r : Rw) : Prop := lookD ss (keyW w) = some r.data ∨ (lookD ss (keyW w) = none ∧ r = r0)
theorem Rw.inj {r q : Rw} (h : r.data = q.data) : r = q := by
  obtain ⟨l, s, a, p⟩ := r
  obtain ⟨l', s', a', p'⟩ := q
  simp only [Rw.data, PyData.tuple.injEq, List.cons.injEq, PyData.int.injEq, and_true] at h
  obtain ⟨h1, h2, rfl, rfl⟩ := h
  have h2 : s = s' := by omega
  subst h2
  cases l <;> cases l' <;> simp [limP] at h1
  · rfl
  · rename_i a b
    have : a = b := by omega
    rw [this]
theorem IsRow.one {ss : Tr} {w : List Nat} {r q : Rw} (h1 : IsRow ss w r) (h2 : IsRow ss w q) : r = q := by
  rcases h1 with h1 | ⟨h1, rfl⟩ <;> rcases h2 with h2 | ⟨h2, rfl⟩
  · rw [h1] at h2
    exact Rw.inj (Option.some.inj h2)
  · rw [h1] at h2
    cases h2
  · rw [h1] at h2
    cases h2
  · rfl
theorem IsRow.get {ss : Tr} {w : List Nat} {r : Rw} (h : IsRow ss w r) : getD0 ss (keyW w) row0 = r.data := by
  unfold getD0
  rcases h with h | ⟨h, rfl⟩ <;> rw [h] <;> rfl
theorem IsRow.two {ss : Tr} {w : List Nat} {r : Rw} (h : IsRow ss w r) : gIx (getD0 ss (Sum.inr (SX.S w)) (.tuple [.none, .int 0])) (.int 0) = some (.fz (limP r.lim)) ∧ gIx (getD0 ss (Sum.inr (SX.S w)) (.tuple [.none, .int 0])) (.int 1) = some (.fz (.int ((r.st : Nat) : Int))) := by
  unfold getD0
  rcases h with h | ⟨h, rfl⟩ <;> rw [show lookD ss (Sum.inr (SX.S w)) = _ from h] <;> exact ⟨rfl, rfl⟩
theorem SI.isRow {ss : Tr} (h : SI ss) (w : List Nat) : ∃ r, RowOk r ∧ IsRow ss w r := by
  obtain ⟨r, h1, _, h2⟩ := h.row w
  exact ⟨r, h1, h2⟩
def newR (es : Tr) (r : Rw) (pl : PyData) : EN → Rw
  | .fin _ => match r.lim with
    | none => r
    | some _ => ⟨none, r.st, r.ans, r.pl⟩
  | .ask w n d => if n ≤ r.st then r else ⟨(doesG es r.lim d w).2.1, n, (doesG es r.lim d w).2.2.1, pl⟩
theorem doneS_row {es ss : Tr} {r : Rw} {pl : PyData} {e : EN} (h : IsRow ss e.who r) : IsRow (doneS es ss r pl e).1.2 e.who (newR es r pl e) := by
  obtain ⟨lim, st, ans, pl0⟩ := r
  cases e with
  | fin w =>
    cases lim with
    | none => exact h
    | some l => exact .inl find_putD
  | ask w n d =>
    show IsRow (askS es ss _ w n d pl).1.2 w (if n ≤ st then _ else _)
    unfold askS
    split
    · exact h
    · exact .inl find_putD
theorem doneS_other {es ss : Tr} {r : Rw} {pl : PyData} {e : EN} {v : List Nat} (h : v ≠ e.who) : lookD (doneS es ss r pl e).1.2 (keyW v) = lookD ss (keyW v) := by
  have hk : keyW v ≠ keyW e.who := fun z => h (S_key z)
  obtain ⟨lim, st, ans, pl0⟩ := r
  cases e with
  | fin w =>
    cases lim with
    | none => rfl
    | some l => exact find_other hk
  | ask w n d =>
    show lookD (askS es ss _ w n d pl).1.2 (keyW v) = _
    unfold askS
    split
    · rfl
    · exact find_other hk
theorem doneS_tells {B : Nat} {es ss : Tr} (h : KI B es ss) (hB : B + 6 ≤ 1000) {r : Rw} {pl : PyData} {e : EN} (hok : e.ok) : Tells (doneS es ss r pl e).2.2 es (doneS es ss r pl e).1.1 := by
  obtain ⟨lim, st, ans, pl0⟩ := r
  cases e with
  | fin w =>
    cases lim with
    | none => exact Tells.refl
    | some l => exact left_tells w
  | ask w n d =>
    show Tells (askS es ss _ w n d pl).2.2 es (askS es ss _ w n d pl).1.1
    unfold askS
    split
    · exact Tells.refl
    · exact (doesG_more hok.1 h.ti h.nb hB lim hok.2.2).1
theorem doneS_ow {B : Nat} {es ss : Tr} (h : KI B es ss) (hB : B + 6 ≤ 1000) (ho : OW es ss) {r : Rw} {pl : PyData} {e : EN} (hok : e.ok) (hr : IsRow ss e.who r) : OW (doneS es ss r pl e).1.1 (doneS es ss r pl e).1.2 := by
  intro v hv
  by_cases hvw : v = e.who
  · subst hvw
    have hrow := doneS_row (es := es) (pl := pl) hr
    obtain ⟨lim, st, ans, pl0⟩ := r
    have hlim : OwnIn es e.who → lim ≠ none := fun z => by
      obtain ⟨q, h1, h2⟩ := ho _ z
      have := hr.one (.inl h1)
      subst this
      exact h2
    cases e with
    | fin w =>
      cases lim with
      | none => exact absurd rfl (hlim hv)
      | some l => exact absurd rfl (left_own (w := w) hv).2
    | ask w n d =>
      have hv : OwnIn (askS es ss ⟨lim, st, ans, pl0⟩ w n d pl).1.1 w := hv
      have hrow : IsRow (askS es ss ⟨lim, st, ans, pl0⟩ w n d pl).1.2 w (if n ≤ st then ⟨lim, st, ans, pl0⟩ else _) := hrow
      show ∃ q : Rw, lookD (askS es ss ⟨lim, st, ans, pl0⟩ w n d pl).1.2 (keyW w) = _ ∧ _
      unfold askS at hv hrow ⊢
      split at hv
      · rename_i hn
        rw [if_pos hn] at hrow ⊢
        exact ho _ hv
      · rename_i hn
        rw [if_neg hn] at hrow ⊢
        obtain ⟨_, h1, _⟩ := doesG_more hok.1 h.ti h.nb hB lim hok.2.2
        obtain ⟨h2, h3⟩ := h1 w hv
        have hl : lim ≠ none := by
          rcases h2 with z | ⟨_, z⟩
          · exact hlim z
          · exact z
        exact ⟨_, find_putD, h3 rfl hl⟩
  · have hold : OwnIn es v := by
      obtain ⟨lim, st, ans, pl0⟩ := r
      cases e with
      | fin w =>
        cases lim with
        | none => exact hv
        | some l => exact (left_own (w := w) hv).1
      | ask w n d =>
        have hv : OwnIn (askS es ss ⟨lim, st, ans, pl0⟩ w n d pl).1.1 v := hv
        unfold askS at hv
        split at hv
        · exact hv
        · obtain ⟨_, h1, _⟩ := doesG_more hok.1 h.ti h.nb hB lim hok.2.2
          rcases (h1 v hv).1 with z | ⟨z, _⟩
          · exact z
          · exact absurd z hvw
    obtain ⟨q, h1, h2⟩ := ho v hold
    exact ⟨q, by rw [doneS_other hvw]; exact h1, h2⟩
theorem doneS_end {B : Nat} {es ss : Tr} (h : KI B es ss) (hB : B + 6 ≤ 1000) {r : Rw} {pl : PyData} {e : EN} (hok : e.ok) (h1 : r.lim ≠ none) (h2 : (newR es r pl e).lim = none) : (doneS es ss r pl e).2.2 = goneEv es e.who := by
  obtain ⟨lim, st, ans, pl0⟩ := r
  cases e with
  | fin w =>
    cases lim with
    | none => exact absurd rfl h1
    | some l => rfl
  | ask w n d =>
    show (askS es ss _ w n d pl).2.2 = _
    have h2 : (if n ≤ st then (⟨lim, st, ans, pl0⟩ : Rw) else ⟨(doesG es lim d w).2.1, n, (doesG es lim d w).2.2.1, pl⟩).lim = none := h2
    unfold askS
    split at h2
    · exact absurd h2 h1
    · rename_i hn
      rw [if_neg hn]
      exact (doesG_more hok.1 h.ti h.nb hB lim hok.2.2).2.2 h1 h2
theorem newR_st {es : Tr} {r : Rw} {pl : PyData} {e : EN} : (newR es r pl e).st = (match e with | .fin _ => r.st | .ask _ n _ => if n ≤ r.st then r.st else n) := by
  obtain ⟨lim, st, ans, pl0⟩ := r
  cases e with
  | fin w => cases lim <;> rfl
  | ask w n d =>
    show (if n ≤ st then (⟨lim, st, ans, pl0⟩ : Rw) else _).st = if n ≤ st then st else n
    split <;> rfl
/-- each ask that was done is behind its asker's stamp -/
def Behind (ss : Tr) (ls : List (PyData × EN)) : Prop := ∀ x ∈ ls, ∀ w n d, x.2 = .ask w n d → ∀ r, IsRow ss w r → n ≤ r.st
theorem Behind.step {es ss : Tr} {ls : List (PyData × EN)} {pl : PyData} {e : EN} {r : Rw} (h : Behind ss ls) (hr : IsRow ss e.who r) : Behind (doneS es ss r pl e).1.2 (ls ++ [(pl, e)]) := by
  intro x hx w n d hxe q hq
  have hst := newR_st (es := es) (r := r) (pl := pl) (e := e)
  by_cases hw : w = e.who
  · subst hw
    have := hq.one (doneS_row (es := es) (pl := pl) hr)
    subst this
    rw [hst]
    rcases List.mem_append.mp hx with hx | hx
    · have := h x hx _ n d hxe r hr
      cases e with
      | fin w => exact this
      | ask w n' d' => show n ≤ if n' ≤ r.st then r.st else n'; split <;> omega
    · rw [List.mem_singleton.mp hx] at hxe
      have hxe : e = .ask _ n d := hxe
      cases e with
      | fin w => cases hxe
      | ask w n' d' =>
        injection hxe with _ h2 _
        subst h2
        show n' ≤ if n' ≤ r.st then r.st else n'
        split <;> omega
  · have hq2 : IsRow ss w q := by
      unfold IsRow at hq ⊢
      rw [doneS_other hw] at hq
      exact hq
    rcases List.mem_append.mp hx with hx | hx
    · exact h x hx w n d hxe q hq2
    · rw [List.mem_singleton.mp hx] at hxe
      have hxe : e = .ask w n d := hxe
      subst hxe
      exact absurd rfl hw
theorem allG_len {w : List Nat} {es0 : Tr} (hw : wordB w = true) : ∀ (ps : List PD) {C k : Nat} {cur : Tr} {vs ev : List PyData}, TreeI cur → NB C cur → C + ps.length ≤ 1000 → (∀ p ∈ ps, p.ok) → (allG w es0 k cur vs ev ps).2.2.length ≤ ev.length + 2 * ps.length
  | [], _, _, _, _, _, _, _, _, _ => Nat.le_add_right ..
  | p :: ps, C, k, cur, vs, ev, h, hb, hC, hok => by
    rw [List.length_cons] at hC
    obtain ⟨b, x, e, hx⟩ := run_pair h.g p (hok p (by simp)) w
    have hev := run_ev h.g p (hok p (by simp)) w
    cases b with
    | false =>
      rw [allG_no e]
      exact Nat.zero_le _
    | true =>
      rw [allG_ok e]
      have hn := hb.nice h.g (by omega) p
      have := allG_len (es0 := es0) hw ps (k := k + 1) (vs := vs ++ [x]) (ev := ev ++ (p.run cur w).2.2) (h.run (hok p (by simp)) hw hn) (hb.run h.g (hok p (by simp)) w) (by omega) fun q hq => hok q (by simp [hq])
      rw [List.length_append] at this
      simp only [List.length_cons]
      omega
theorem gone_len {es : Tr} (h : TreeG es) (w : List Nat) : (goneEv es w).length ≤ 126 := by
  have h1 : (goneG es w).length ≤ 63 := by
    unfold goneG
    rw [sortR_len, List.length_map]
    exact Nat.le_trans (List.length_filter_le _ _) h.len
  unfold goneEv
  generalize goneG es w = l at h1
  have h2 : (l.flatMap goneE).length ≤ 2 * l.length := by
    clear h1
    induction l with
    | nil => exact Nat.le_refl _
    | cons a l ih => simp [goneE] at ih ⊢; omega
  omega
theorem doneS_evl {B : Nat} {es ss : Tr} (h : KI B es ss) (hB : B + 6 ≤ 1000) {r : Rw} {pl : PyData} {e : EN} (hok : e.ok) : (doneS es ss r pl e).2.2.length ≤ 400 := by
  obtain ⟨lim, st, ans, pl0⟩ := r
  have hg := fun w => gone_len h.ti.g w
  cases e with
  | fin w =>
    cases lim with
    | none => exact Nat.zero_le _
    | some l => exact Nat.le_trans (hg w) (by decide)
  | ask w n d =>
    show (askS es ss _ w n d pl).2.2.length ≤ 400
    unfold askS
    split
    · exact Nat.zero_le _
    · show (doesG es lim d w).2.2.2.length ≤ 400
      cases lim with
      | none => cases d <;> exact Nat.zero_le _
      | some l =>
        cases d with
        | plain p => exact Nat.le_trans (run_ev h.ti.g p hok.2.2 w) (by decide)
        | all ps =>
          have h6 : ps.length ≤ 6 := hok.2.2.2.1
          have := allG_len (es0 := es) hok.1 ps (k := 0) (vs := []) (ev := []) h.ti h.nb (by omega) hok.2.2.2.2
          refine Nat.le_trans this ?_
          simp
          omega
        | opn n => exact Nat.zero_le _
        | close => exact Nat.le_trans (hg w) (by decide)
        | bring => exact Nat.zero_le _
/-! ### contracts -/
def g__law_owned_right : DC := fun svs Q => ∃ es ss, svs = [.dat (.tuple [.dict es, .dict ss])] ∧ TreeG es ∧ SI ss ∧ ss.length ≤ 60 ∧ OW es ss ∧ Q (.fz (.bool true))
theorem gm__law_owned_right : g__law_owned_right.Mono := fun _ _ _ hq ⟨es, ss, h1, h2, h3, h4, h5, h6⟩ => ⟨es, ss, h1, h2, h3, h4, h5, hq _ h6⟩
def g__law_step_right : DC := fun svs Q => ∃ es ss r e pl, svs = [.dat (.tuple [.dict es, .dict ss]), .dat (.tuple [.dict (doneS es ss r pl e).1.1, .dict (doneS es ss r pl e).1.2]), .dat e.data, .dat (.list (doneS es ss r pl e).2.2)] ∧ (∃ B, B + 6 ≤ 1000 ∧ KI B es ss) ∧ (doneS es ss r pl e).2.2.length ≤ 400 ∧ e.ok ∧ Who3 e.who ∧ RowOk r ∧ IsRow ss e.who r ∧ SpotOk pl ∧ Q (.fz (.bool true))
theorem gm__law_step_right : g__law_step_right.Mono := fun _ _ _ hq ⟨es, ss, r, e, pl, h1, h2, h3, h4, h5, h6, h7, h8, h9⟩ => ⟨es, ss, r, e, pl, h1, h2, h3, h4, h5, h6, h7, h8, hq _ h9⟩
end L2.DL

set_option maxRecDepth 100000
set_option maxHeartbeats 4000000
/-! DL60: keys of sessions. -/
namespace L2.DL
open PySem PySem.Spec PyProof.Rows
theorem SI_keys : ∀ {ss : Tr}, SI ss → ∃ ws : List (List Nat), keysS ss = some (ws.map SX.S) ∧ ws.length = ss.length ∧ ss.map (·.1) = ws.map tx ∧ ∀ w ∈ ws, Who3 w ∧ ∃ r, RowOk r ∧ lookD ss (keyW w) = some r.data
  | [], _ => ⟨[], rfl, rfl, rfl, fun _ z => by cases z⟩
  | (a, b) :: ss, h => by
    obtain ⟨w, r, hw, hr, e⟩ := h (a, b) (by simp)
    injection e with e1 e2
    subst e1 e2
    have hs : SI ss := fun x hx => h x (by simp [hx])
    obtain ⟨ws, h1, h2, h4, h3⟩ := SI_keys hs
    refine ⟨w :: ws, ?_, by simp [h2], by simp [h4], fun v hv => ?_⟩
    · show (keysS ss).map _ = _
      rw [h1]
      rfl
    · rcases List.mem_cons.mp hv with rfl | hv
      · obtain ⟨v', hv'⟩ := lookD_some (k := keyW v) (es := (tx v, r.data) :: ss) (List.mem_cons_self ..) rfl
        obtain ⟨e, he, _, h2⟩ := lookD_mem hv'
        obtain ⟨w2, r2, _, hr2, rfl⟩ := h e he
        exact ⟨hw, r2, hr2, by rw [hv', ← h2]⟩
      · obtain ⟨hv3, _⟩ := h3 v hv
        have hm : tx v ∈ ((tx w, r.data) :: ss).map (·.1) := by
          rw [List.map_cons, h4]
          exact List.mem_cons_of_mem _ (List.mem_map.mpr ⟨v, hv, rfl⟩)
        obtain ⟨e, he, e1⟩ := List.mem_map.mp hm
        obtain ⟨v', hv'⟩ := lookD_some (k := keyW v) he (by rw [e1]; rfl)
        obtain ⟨e2, he2, _, h5⟩ := lookD_mem hv'
        obtain ⟨w2, r2, _, hr2, rfl⟩ := h e2 he2
        exact ⟨hv3, r2, hr2, by rw [hv', ← h5]⟩
theorem sort_mem {ws : List (List Nat)} {z : Str} (h : z ∈ sortS (ws.map SX.S)) : ∃ w ∈ ws, z = SX.S w := by
  obtain ⟨w, hw, e⟩ := List.mem_map.mp ((sortS_perm _).subset h)
  exact ⟨w, hw, e.symm⟩
theorem doneS_len {es ss : Tr} {r : Rw} {pl : PyData} {e : EN} : (doneS es ss r pl e).1.2.length ≤ ss.length + 1 := by
  cases e with
  | fin w =>
    show (endS es ss r w).1.2.length ≤ _
    unfold endS
    split
    · exact Nat.le_succ _
    · exact (putD_len).1
  | ask w n d =>
    show (askS es ss r w n d pl).1.2.length ≤ _
    unfold askS
    split
    · exact Nat.le_succ _
    · exact (putD_len).1
end L2.DL

set_option maxRecDepth 100000
set_option maxHeartbeats 4000000
/-! DL61: dict(ps), ps a list of pairs. -/
namespace L2.DL
open PySem PySem.Spec PyProof.Rows
section
variable {X : Cx}
def pairsOf : List PyData → Option (List (Key × PyData))
  | [] => some []
  | .tuple [k, d] :: r => match toKey k, pairsOf r with
    | some k, some r => some ((k, d) :: r)
    | _, _ => none
  | _ :: _ => none
def mergeP (es : List (PyData × PyData)) (ps : List (Key × PyData)) : List (PyData × PyData) := ps.foldl (fun acc p => putD acc p.1 p.2) es
def gDictP : List PyData → Option OV
  | [.list ds] => match pairsOf ds with
    | some ps => some (.dct (mergeP [] ps))
    | none => none
  | _ => none
theorem paired_imp {α β : Type} {F G : α → β → Prop} (h : ∀ a b, F a b → G a b) : ∀ {l : List α} {m : List β}, Paired F l m → Paired G l m
  | _, _, .nil => .nil
  | _, _, .cons a b => .cons (h _ _ a) (paired_imp h b)
theorem pairs_of {K : PySem.W.Frag} {Z : Hp} : ∀ {xs : List V} {ds : List PyData}, RpA K Z xs ds → ∀ {qs : List (Key × PyData)}, pairsOf ds = some qs →
    ∃ (ps : List Addr) (kvs : List (Key × V)), xs = ps.map V.ref ∧ Paired (fun p (kv : Key × V) => SqT K Z p [kV kv.1, kv.2]) ps kvs ∧ ∀ {ks : List (Key × V)} {es : List (PyData × PyData)}, RpK K Z ks es → RpK K Z (mergeK ks kvs) (mergeP es qs)
  | _, _, .nil, qs, h => by
    cases h
    exact ⟨[], [], rfl, .nil, fun r => r⟩
  | _, _, .cons (d := d) p w, qs, h => by
    cases p with
    | tup q rr =>
      cases rr with
      | nil => cases h
      | cons p1 rr =>
        cases rr with
        | nil => cases h
        | cons p2 rr =>
          cases rr with
          | cons _ _ => cases h
          | nil =>
            rename_i a v1 d1 v2 d2
            have h : (match toKey d1, pairsOf _ with
              | some k, some r => some ((k, d2) :: r)
              | _, _ => none) = some qs := h
            split at h
            · rename_i k r e1 e2
              cases h
              obtain ⟨ps, kvs, hx, hp, hm⟩ := pairs_of w e2
              have hk : v1 = kV k ∧ keyOkV k = true := by
                cases p1 with
                | int i => cases e1; exact ⟨rfl, rfl⟩
                | str x hx => cases e1; exact ⟨rfl, hx⟩
                | _ => cases e1
              obtain ⟨rfl, hk⟩ := hk
              exact ⟨a :: ps, (k, v2) :: kvs, by rw [hx]; rfl, .cons q hp, fun r => hm (r.put hk p2)⟩
            · cases h
    | _ => cases h
theorem cd_dictP : CallD X (fun xs H Q => ∃ (a : Addr) (ps : List Addr) (kvs : List (Key × V)), xs = [.ref a] ∧ SqL X.K H a (ps.map V.ref) ∧ Paired (fun p (kv : Key × V) => SqT X.K H p [kV kv.1, kv.2]) ps kvs ∧ ∀ p, H p = none → Q (.ref p) (upd H p (.dK (mergeK [] kvs)))) gDictP := fun {f Z fp s σ H vs ds o Q} r p e t => by
  cases p with
  | nil => cases e
  | cons p p' =>
    cases p <;> first | (cases e; done) | skip
    cases p' <;> first | (cases e; done) | skip
    rename_i a xs ds q w
    have e : (match pairsOf ds with
      | some ps => some (OV.dct (mergeP [] ps))
      | none => none) = some o := e
    split at e
    · rename_i qs e2
      cases e
      obtain ⟨ps, kvs, rfl, hp, hm⟩ := pairs_of w e2
      refine ⟨a, ps, kvs, rfl, (DL.Le.of r.zh).sqL q, ?_, fun b hb => t.dct r hb (hm .nil)⟩
      exact paired_imp (fun _ _ h => (DL.Le.of r.zh).sqT h) hp
    · cases e
end
end L2.DL

set_option maxRecDepth 100000
set_option maxHeartbeats 4000000
/-! DL62: a dict of pairs of a tree's entries; sessions that end. -/
namespace L2.DL
open PySem PySem.Spec PyProof.Rows
mutual
theorem noD_hasNo : ∀ d : PyData, noD d = true → d.hasDict = false
  | .none, _ => rfl
  | .bool _, _ => rfl
  | .int _, _ => rfl
  | .str _, _ => rfl
  | .list xs, h => noDs_hasNo xs h
  | .tuple xs, h => noDs_hasNo xs h
  | .dict _, h => by cases h
theorem noDs_hasNo : ∀ ds : List PyData, noDs ds = true → PyData.hasDictAll ds = false
  | [], _ => rfl
  | d :: ds, h => by
    have h : (noD d && noDs ds) = true := h
    rw [Bool.and_eq_true] at h
    simp [PyData.hasDictAll, noD_hasNo d h.1, noDs_hasNo ds h.2]
end
theorem eqOk_noD {d : PyData} (h : noD d = true) (hd : d.depth ≤ 64) : eqOk d = true := by
  unfold eqOk
  rw [noD_hasNo d h, decide_eq_true hd]
  rfl
/-! ### a dict of pairs -/
def pairE (e : PyData × PyData) : PyData := .tuple [e.1, e.2]
theorem pairs_tree : ∀ {es : Tr}, (∀ e ∈ es, e.1 = kD (kfT e)) → pairsOf (es.map pairE) = some (es.map fun e => (kfT e, e.2))
  | [], _ => rfl
  | e :: es, h => by
    show (match toKey e.1, pairsOf (es.map pairE) with
      | some k, some r => some ((k, e.2) :: r)
      | _, _ => none) = _
    rw [pairs_tree fun x hx => h x (by simp [hx]), h e (by simp), toKey_kD']
    rfl
theorem merge_new : ∀ {es acc : Tr}, (∀ e ∈ es, e.1 = kD (kfT e)) → (es.map kfT).Nodup → (∀ e ∈ es, lookD acc (kfT e) = none) → mergeP acc (es.map fun e => (kfT e, e.2)) = acc ++ es
  | [], acc, _, _, _ => by simp [mergeP]
  | e :: es, acc, h, hn, hl => by
    rw [List.map_cons, List.nodup_cons] at hn
    show mergeP (putD acc (kfT e) e.2) (es.map fun e => (kfT e, e.2)) = _
    have he : (kD (kfT e), e.2) = e := by rw [← h e (by simp)]
    rw [putD_new (hl e (by simp)), he, merge_new (fun x hx => h x (by simp [hx])) hn.2 fun x hx => ?_]
    · simp
    · have h1 := hl x (by simp [hx])
      have hne : kfT x ≠ kfT e := fun z => hn.1 (by rw [← z]; exact List.mem_map.mpr ⟨x, hx, rfl⟩)
      have := find_other (es := acc) (d := e.2) hne
      rw [putD_new (hl e (by simp)), he] at this
      rw [this, h1]
theorem dict_tree {es : Tr} (h : ∀ e ∈ es, e.1 = kD (kfT e)) (hn : (es.map kfT).Nodup) : gDictP [.list (es.map pairE)] = some (.dct es) := by
  show (match pairsOf (es.map pairE) with
    | some ps => some (OV.dct (mergeP [] ps))
    | none => none) = _
  rw [pairs_tree h]
  show some (OV.dct (mergeP [] (es.map fun e => (kfT e, e.2)))) = _
  rw [merge_new h hn fun _ _ => rfl, List.nil_append]
/-! ### contracts -/
def OpenRow (ss : Tr) (w : List Nat) : Prop := ∃ r, RowOk r ∧ lookD ss (keyW w) = some r.data ∧ r.lim ≠ none
def g__law_built : DC := fun svs Q => svs = [.pool] ∧ ∀ es ss, KI 200 es ss → OpenRow ss [120, 97] → OpenRow ss [121, 98] → Q (.fz (.tuple [.dict es, .dict ss]))
theorem gm__law_built : g__law_built.Mono := fun _ _ _ hq ⟨h1, h2⟩ => ⟨h1, fun es ss a b c => hq _ (h2 es ss a b c)⟩
abbrev pl21 : PyData := .tuple [.int 2, .int 1]
/-- an entry that ends a session -/
def Ends (r : Rw) (w : List Nat) (e : EN) : Prop := e = .fin w ∨ ∃ n, r.st < n ∧ e = .ask w n .close
def g__law_ended_right : DC := fun svs Q => ∃ es ss r e w, svs = [.dat (.tuple [.dict es, .dict ss]), .dat e.data, .dat (tx w)] ∧ KI 200 es ss ∧ Who3 w ∧ RowOk r ∧ lookD ss (keyW w) = some r.data ∧ r.lim ≠ none ∧ Ends r w e ∧ Q (.fz (doneS es ss r pl21 e).kept)
theorem gm__law_ended_right : g__law_ended_right.Mono := fun _ _ _ hq ⟨es, ss, r, e, w, h1, h2, h3, h4, h5, h6, h7, h8⟩ => ⟨es, ss, r, e, w, h1, h2, h3, h4, h5, h6, h7, hq _ h8⟩
theorem Ends.who {r : Rw} {w : List Nat} {e : EN} (h : Ends r w e) : e.who = w := by
  rcases h with rfl | ⟨n, _, rfl⟩ <;> rfl
theorem Ends.ok {r : Rw} {w : List Nat} {e : EN} (h : Ends r w e) (hw : Who3 w) : e.ok := by
  rcases h with rfl | ⟨n, hn, rfl⟩
  · exact hw.word
  · exact ⟨hw.word, by omega, trivial⟩
def endAns (e : EN) : PyData := match e with
  | .fin _ => .none
  | .ask .. => .tuple [tx okW, .none]
theorem Ends.does {es ss : Tr} {r : Rw} {w : List Nat} {e : EN} (h : Ends r w e) (hl : r.lim ≠ none) (pl : PyData) : doneS es ss r pl e = ((leftG es w, putD ss (keyW w) (newR es r pl e).data), endAns e, goneEv es w) ∧ (newR es r pl e).lim = none := by
  obtain ⟨lim, st, ans, pl0⟩ := r
  rcases h with rfl | ⟨n, hn, rfl⟩
  · cases lim with
    | none => exact absurd rfl hl
    | some l => exact ⟨rfl, rfl⟩
  · cases lim with
    | none => exact absurd rfl hl
    | some l =>
      have hn : ¬ n ≤ st := Nat.not_le_of_lt hn
      constructor
      · show askS es ss ⟨some l, st, ans, pl0⟩ w n .close pl = ((leftG es w, putD ss (keyW w) (Rw.data (if n ≤ st then _ else _))), _, _)
        unfold askS
        rw [if_neg hn, if_neg hn]
        rfl
      · show (if n ≤ st then (⟨some l, st, ans, pl0⟩ : Rw) else _).lim = none
        rw [if_neg hn]
        rfl
end L2.DL

set_option maxRecDepth 100000
set_option maxHeartbeats 4000000
/-! DL63: many deeds or none; a full tree. -/
namespace L2.DL
open PySem PySem.Spec PyProof.Rows
def nm (i : Nat) : List Nat := [110, 45] ++ sixL (i : Nat)
theorem nm_inj : ∀ i < 60, ∀ j < 60, nm i = nm j → i = j := by decide +kernel
theorem nm_part : ∀ i < 60, partB (nm i) = true ∧ 47 ∉ nm i ∧ (nm i).length ≤ 15 := by decide +kernel
theorem nm_q : ∀ i < 60, nm i ≠ [113] := by decide +kernel
def fullT (n : Nat) : Tr := (tx [47], nodeP [] 0 59 none) :: (List.range n).map fun i => (P [nm i], nodeP [] 0 0 none)
theorem nm_road {i : Nat} (h : i < 60) : Road [nm i] := ⟨fun p hp => by
  rw [List.mem_singleton.mp hp]
  exact nm_part i h, by simp⟩
theorem full_mem {n : Nat} {e : PyData × PyData} (h : e ∈ fullT n) : e = (tx [47], nodeP [] 0 59 none) ∨ ∃ i < n, e = (P [nm i], nodeP [] 0 0 none) := by
  rcases List.mem_cons.mp h with h | h
  · exact .inl h
  · obtain ⟨i, hi, rfl⟩ := List.mem_map.mp h
    exact .inr ⟨i, List.mem_range.mp hi, rfl⟩
theorem full_look {n : Nat} {ps : Rd0} (hn : n ≤ 59) (hp : Parts ps) (h0 : ps ≠ []) (h1 : ∀ i < n, ps ≠ [nm i]) : lookD (fullT n) (keyP ps) = none := by
  cases hv : lookD (fullT n) (keyP ps) with
  | none => rfl
  | some v =>
    exfalso
    obtain ⟨e, he, e1, _⟩ := lookD_mem hv
    rcases full_mem he with rfl | ⟨i, hi, rfl⟩
    · have e1 : some (keyP []) = some (keyP ps) := e1
      exact h0 (keyP_inj (fun _ z => by cases z) hp (Option.some.inj e1)).symm
    · have e1 : some (keyP [nm i]) = some (keyP ps) := e1
      exact h1 i hi (keyP_inj (nm_road (by omega)).1 hp (Option.some.inj e1)).symm
theorem full_next {n : Nat} (hn : n < 59) : putD (fullT n) (keyP [nm n]) (nodeP [] 0 0 none) = fullT (n + 1) := by
  rw [putD_new (full_look (by omega) (nm_road (by omega)).1 (by simp) fun i hi z => by
    have := nm_inj n (by omega) i (by omega) (by simpa using z)
    omega)]
  unfold fullT
  rw [List.range_succ, List.map_append]
  rfl
theorem full_len {n : Nat} : (fullT n).length = n + 1 := by simp [fullT]
theorem full_root {n : Nat} : lookD (fullT n) (keyP []) = some (nodeP [] 0 59 none) := rfl
theorem full_roads {n : Nat} (hn : n ≤ 59) : (fullT n).map roadOf = [] :: (List.range n).map fun i => [nm i] := by
  unfold fullT
  rw [List.map_cons, List.map_map]
  congr 1
  refine List.map_congr_left fun i hi => ?_
  exact roadOf_P (nm_road (by have := List.mem_range.mp hi; omega)).1
theorem full_tree : TreeI (fullT 59) := by
  have hroads := full_roads (n := 59) (Nat.le_refl _)
  have hg : TreeG (fullT 59) := by
    refine ⟨59, by simp [fullT], by rw [full_len]; decide, fun e he => ?_⟩
    rcases full_mem he with rfl | ⟨i, hi, rfl⟩
    · exact ⟨[], ⟨fun _ z => (by cases z), by decide⟩, rfl, nodeB_P (by decide) (Nat.zero_le _) (Nat.le_refl _) fun _ z => by cases z⟩
    · exact ⟨[nm i], nm_road (by omega), rfl, nodeB_P (by decide) (Nat.zero_le _) (Nat.zero_le _) fun _ z => by cases z⟩
  have hkid : ∀ ps q, ps ++ [q] ∈ (fullT 59).map roadOf → ps = [] := fun ps q h => by
    rw [hroads] at h
    rcases List.mem_cons.mp h with h | h
    · simp at h
    · obtain ⟨i, _, e⟩ := List.mem_map.mp h
      have : ([] : Rd0) ++ [nm i] = ps ++ [q] := e
      exact (List.append_inj' this rfl).1.symm
  refine ⟨hg, ?_, ⟨_, _, _, full_root⟩, fun ps q h => ?_, fun ps t n m o hp h => ?_⟩
  · rw [hroads, List.nodup_cons]
    refine ⟨fun z => ?_, ?_⟩
    · obtain ⟨i, _, e⟩ := List.mem_map.mp z
      cases e
    · refine nodup_map_on (fun a ha b hb e => ?_) List.nodup_range
      have ha := List.mem_range.mp ha
      have hb := List.mem_range.mp hb
      exact nm_inj a (by omega) b (by omega) (by simpa using e)
  · rw [hkid ps q h]
    exact ⟨_, _, _, full_root⟩
  · by_cases h0 : ps = []
    · subst h0
      rw [full_root] at h
      obtain ⟨_, _, rfl, _⟩ := nodeP_inj (Option.some.inj h)
      unfold kidsL
      rw [hroads, List.filterMap_cons, show kidR [] ([] : Rd0) = none by simp [kidR]]
      exact Nat.le_trans (List.length_filterMap_le _ _) (by simp)
    · have : kidsL (fullT 59) ps = [] := by
        rw [List.eq_nil_iff_forall_not_mem]
        intro q hq
        exact h0 (hkid ps q (mem_kids.mp hq))
      rw [this]
      exact Nat.zero_le _
/-! ### what all tells -/
theorem allG_two (w : List Nat) (es0 : Tr) : ∀ (ps : List PD) {k : Nat} {cur : Tr} {vs ev : List PyData}, (∃ x j, allG w es0 k cur vs ev ps = (es0, .tuple [tx noW, x, .int ((j : Nat) : Int)], [])) ∨ ∃ cur' vs' ev', allG w es0 k cur vs ev ps = (cur', .tuple [tx okW, .tuple vs'], ev')
  | [], k, cur, vs, ev => .inr ⟨cur, vs, ev, rfl⟩
  | p :: ps, k, cur, vs, ev => by
    unfold allG
    split
    · exact .inl ⟨_, _, rfl⟩
    · exact allG_two w es0 ps
def isNo (d : PyData) : Bool := ontx (fun a => decide (a = noW)) (ans0 d)
/-- what the law's own one-by-one tells: no tree where it fails -/
def onesD (w : List Nat) (es : Tr) (ps : List PD) : PyData :=
  .tuple [if isNo (allG w es 0 es [] [] ps).2.1 = true then .none else .dict (allG w es 0 es [] [] ps).1, (allG w es 0 es [] [] ps).2.1, .list (allG w es 0 es [] [] ps).2.2]
/-! ### contracts -/
def g__law_hung : DC := fun svs Q => ∃ es, svs = [.pool, .dat (.dict es)] ∧ ∀ ps : List PD, 1 ≤ ps.length → ps.length ≤ 6 → (∀ p ∈ ps, p.ok) → Q (.lst (ps.map PD.data))
theorem gm__law_hung : g__law_hung.Mono := fun _ _ _ hq ⟨es, h1, h2⟩ => ⟨es, h1, fun ps a b c => hq _ (h2 ps a b c)⟩
def g__law_one_by_one : DC := fun svs Q => ∃ es ps w, svs = [.dat (.dict es), .dat (.list (ps.map PD.data)), .dat (tx w)] ∧ TreeI es ∧ wordB w = true ∧ ps.length ≤ 6 ∧ (∀ p ∈ ps, p.ok) ∧ niceAll w es ps ∧ Q (.fz (onesD w es ps))
theorem gm__law_one_by_one : g__law_one_by_one.Mono := fun _ _ _ hq ⟨es, ps, w, h1, h2, h3, h4, h5, h6, h7⟩ => ⟨es, ps, w, h1, h2, h3, h4, h5, h6, hq _ h7⟩
def g__law_full_right : DC := fun svs Q => svs = [] ∧ Q (.fz (.bool true))
theorem gm__law_full_right : g__law_full_right.Mono := fun _ _ _ hq ⟨h1, h2⟩ => ⟨h1, hq _ h2⟩
end L2.DL

set_option maxRecDepth 100000
set_option maxHeartbeats 4000000
/-! DL64: what is done at a full tree. -/
namespace L2.DL
open PySem PySem.Spec PyProof.Rows
theorem full_kids {ps : Rd0} (h0 : ps ≠ []) : kidsL (fullT 59) ps = [] := by
  rw [List.eq_nil_iff_forall_not_mem]
  intro q hq
  have h := mem_kids.mp hq
  rw [full_roads (Nat.le_refl _)] at h
  rcases List.mem_cons.mp h with h | h
  · simp at h
  · obtain ⟨i, _, e⟩ := List.mem_map.mp h
    have : ([] : Rd0) ++ [nm i] = ps ++ [q] := e
    exact h0 (List.append_inj' this rfl).1.symm
theorem full_at0 : lookD (fullT 59) (keyP [nm 0]) = some (nodeP [] 0 0 none) := by
  have he : (P [nm 0], nodeP [] 0 0 none) ∈ fullT 59 := List.mem_cons_of_mem _ (List.mem_map.mpr ⟨0, List.mem_range.mpr (by decide), rfl⟩)
  have h := full_tree.look he
  have hk : kfT (P [nm 0], nodeP [] 0 0 none) = keyP [nm 0] := by
    unfold kfT
    rw [show roadOf (P [nm 0], nodeP [] 0 0 none) = [nm 0] from roadOf_P (nm_road (by decide)).1]
  rw [hk] at h
  exact h
theorem road113 : Road [[113]] := ⟨fun p hp => by
  rw [List.mem_singleton.mp hp]
  exact ⟨by decide, by decide, by decide⟩, by decide⟩
theorem full_q : lookD (fullT 59) (keyP [[113]]) = none := full_look (Nat.le_refl _) road113.1 (by simp) fun i hi z => nm_q i (by omega) (by simpa using z.symm)
theorem key_ne {ps qs : Rd0} (h1 : Parts ps) (h2 : Parts qs) (h : ps ≠ qs) : keyP ps ≠ keyP qs := fun z => h (keyP_inj h1 h2 z)
theorem full_drop_len : (dropD (fullT 59) (keyP [nm 0])).length = 59 := by
  have h := congrArg List.length (roads_drop full_tree.g (ps := [nm 0]) (nm_road (by decide)).1)
  rw [List.length_map, full_roads (Nat.le_refl _)] at h
  rw [h]
  decide +kernel
abbrev xaW : List Nat := [120, 97]
abbrev put0 : PD := .put [] [120] none
abbrev makeQ (own : Bool) : PD := .make [[113]] [] own false
abbrev drop0 : PD := .drop [nm 0] none
theorem full_no : allG xaW (fullT 59) 0 (fullT 59) [] [] [put0, makeQ false] = (fullT 59, .tuple [tx noW, tx fullW, .int 1], []) := by
  have h1 : (put0.run (fullT 59) xaW) = (putD (fullT 59) (keyP []) (nodeP [120] 1 59 none), .tuple [tx okW, .int 1], [.tuple [tx textW, P []]]) := by
    show putR (fullT 59) [] (tx [120]) (cntP none) = _
    unfold putR
    rw [full_root]
    rfl
  rw [allG_ok (x := .int 1) (by rw [h1]), h1]
  have hlook : lookD (putD (fullT 59) (keyP []) (nodeP [120] 1 59 none)) (keyP []) = some (nodeP [120] 1 59 none) := find_putD
  have hq : lookD (putD (fullT 59) (keyP []) (nodeP [120] 1 59 none)) (keyP [[113]]) = none := by
    rw [find_other (key_ne road113.1 parts_nil (by simp))]
    exact full_q
  have hlen : (putD (fullT 59) (keyP []) (nodeP [120] 1 59 none)).length = 60 := by
    rw [(putD_len (es := fullT 59)).2 (by rw [full_root]; rfl), full_len]
  generalize putD (fullT 59) (keyP []) (nodeP [120] 1 59 none) = es1 at hlook hq hlen ⊢
  have h2 : ((makeQ false).run es1 xaW).2.1 = .tuple [tx noW, tx fullW] := by
    show (makeG es1 [[113]] (tx []) (tx xaW) false false).2.1 = _
    have hlook' : lookD es1 (keyP ([[113]] : Rd0).dropLast) = some (nodeP [120] 1 59 none) := hlook
    rw [makeG_some hlook']
    unfold mkG
    have hq' : lookD es1 (.inr (SX.S (newP (pathL [[113]]) false (madeD (nodeP [120] 1 59 none))))) = none := hq
    have hf : fullG es1 false (nodeP [120] 1 59 none) = true := by
      unfold fullG
      rw [decide_eq_true (show 60 ≤ es1.length by omega)]
      rfl
    rw [freeD_node, hq', hf]
    rfl
  exact allG_no h2
theorem full_yes : ∃ es2 ev, es2.length = 60 ∧ allG xaW (fullT 59) 0 (fullT 59) [] [] [drop0, makeQ true] = (es2, .tuple [tx okW, .tuple [.none, P [[113]]]], ev) := by
  have h1 : (drop0.run (fullT 59) xaW) = (dropD (fullT 59) (keyP [nm 0]), .tuple [tx okW, .none], [.tuple [tx goneW, P [nm 0]], .tuple [tx kidsW, P []]]) := by
    show dropR (fullT 59) [nm 0] (cntP none) = _
    unfold dropR
    rw [full_at0]
    show (if kidsL (fullT 59) [nm 0] = [] then _ else _) = _
    rw [if_pos (full_kids (by simp))]
    rfl
  rw [allG_ok (x := .none) (by rw [h1]), h1]
  have hlook : lookD (dropD (fullT 59) (keyP [nm 0])) (keyP []) = some (nodeP [] 0 59 none) := by
    rw [look_drop_other (key_ne parts_nil (nm_road (by decide)).1 (by simp))]
    exact full_root
  have hq : lookD (dropD (fullT 59) (keyP [nm 0])) (keyP [[113]]) = none := by
    rw [look_drop_other (key_ne road113.1 (nm_road (by decide)).1 fun z => nm_q 0 (by decide) (by simpa using z.symm))]
    exact full_q
  have hlen := full_drop_len
  generalize dropD (fullT 59) (keyP [nm 0]) = es1 at hlook hq hlen ⊢
  have h2 : (makeQ true).run es1 xaW = (putD (putD es1 (keyP [[113]]) (nodeP [] 0 0 (some xaW))) (keyP []) (nodeP [] 0 60 none), .tuple [tx okW, P [[113]]], [.tuple [tx madeW, P [[113]]], .tuple [tx kidsW, P []]]) := by
    show makeG es1 ([] ++ [[113]]) (tx []) (tx xaW) true false = _
    exact makeG_ok (num := false) hlook hq (by omega) fun z => by cases z
  rw [allG_ok (x := P [[113]]) (by rw [h2]), h2]
  refine ⟨_, _, ?_, rfl⟩
  rw [(putD_len (es := putD es1 (keyP [[113]]) (nodeP [] 0 0 (some xaW)))).2 (by rw [find_other (key_ne parts_nil road113.1 (by simp)), hlook]; rfl), putD_new hq, List.length_append, hlen]
  rfl
theorem full_nb : NB 59 (fullT 59) := fun e he t n m o e2 => by
  rcases full_mem he with rfl | ⟨i, _, rfl⟩
  · have : nodeP [] 0 59 none = nodeP t n m o := e2
    obtain ⟨_, rfl, rfl, _⟩ := nodeP_inj this
    exact ⟨by decide, by decide⟩
  · have : nodeP [] 0 0 none = nodeP t n m o := e2
    obtain ⟨_, rfl, rfl, _⟩ := nodeP_inj this
    exact ⟨by decide, by decide⟩
end L2.DL

set_option maxRecDepth 100000
set_option maxHeartbeats 4000000
/-! DL65: what repr can show of what deeds tell. -/
namespace L2.DL
open PySem PySem.Spec PyProof.Rows
structure Fn (d : PyData) (W D : Nat) : Prop where
  a : asc d = true
  w : wt d ≤ W
  h : d.hasDict = false
  dp : d.depth ≤ D
  s : d.showable = true
structure FnA (ds : List PyData) (W D : Nat) : Prop where
  a : ascA ds = true
  w : wtA ds ≤ W
  h : PyData.hasDictAll ds = false
  dp : PyData.depthAll ds ≤ D
  s : PyData.showableAll ds = true
theorem Fn.up {d : PyData} {W D W' D' : Nat} (h : Fn d W D) (hw : W ≤ W') (hd : D ≤ D') : Fn d W' D' := ⟨h.a, Nat.le_trans h.w hw, h.h, Nat.le_trans h.dp hd, h.s⟩
theorem FnA.up {d : List PyData} {W D W' D' : Nat} (h : FnA d W D) (hw : W ≤ W') (hd : D ≤ D') : FnA d W' D' := ⟨h.a, Nat.le_trans h.w hw, h.h, Nat.le_trans h.dp hd, h.s⟩
theorem FnA.nil {D : Nat} : FnA [] 0 D := ⟨rfl, Nat.le_refl _, rfl, Nat.zero_le _, rfl⟩
theorem FnA.cons {d : PyData} {ds : List PyData} {W1 W2 D : Nat} (h1 : Fn d W1 D) (h2 : FnA ds W2 D) : FnA (d :: ds) (W1 + 2 + W2) D := by
  refine ⟨by simp only [ascA, h1.a, h2.a, Bool.and_self], ?_, ?_, ?_, by simp only [PyData.showableAll, h1.s, h2.s, Bool.and_self]⟩
  · have := h1.w
    have := h2.w
    rw [wtA]
    omega
  · rw [PyData.hasDictAll, h1.h, h2.h]; rfl
  · have := h1.dp
    have := h2.dp
    simp only [PyData.depthAll]
    omega
theorem FnA.app : ∀ {a b : List PyData} {W1 W2 D : Nat}, FnA a W1 D → FnA b W2 D → FnA (a ++ b) (W1 + W2) D
  | [], b, W1, W2, D, _, h2 => h2.up (Nat.le_add_left ..) (Nat.le_refl _)
  | x :: a, b, W1, W2, D, h1, h2 => by
    have ha := h1.a
    have hw := h1.w
    have hh := h1.h
    have hd := h1.dp
    have hs := h1.s
    simp only [ascA, Bool.and_eq_true] at ha
    rw [wtA] at hw
    rw [PyData.hasDictAll, Bool.or_eq_false_iff] at hh
    simp only [PyData.depthAll] at hd
    simp only [PyData.showableAll, Bool.and_eq_true] at hs
    have ih := FnA.app (a := a) (b := b) (W1 := wtA a) (W2 := W2) (D := D) ⟨ha.2, Nat.le_refl _, hh.2, by omega, hs.2⟩ h2
    have := FnA.cons (d := x) (W1 := wt x) (D := D) ⟨ha.1, Nat.le_refl _, hh.1, by omega, hs.1⟩ ih
    exact this.up (by omega) (Nat.le_refl _)
theorem FnA.tup {ds : List PyData} {W D : Nat} (h : FnA ds W D) : Fn (.tuple ds) (4 + W) (D + 1) := ⟨by rw [asc]; exact h.a, by rw [wt]; have := h.w; omega, by rw [PyData.hasDict]; exact h.h, by rw [PyData.depth]; have := h.dp; omega, by rw [PyData.showable]; exact h.s⟩
theorem FnA.lst {ds : List PyData} {W D : Nat} (h : FnA ds W D) : Fn (.list ds) (4 + W) (D + 1) := ⟨by rw [asc]; exact h.a, by rw [wt]; have := h.w; omega, by rw [PyData.hasDict]; exact h.h, by rw [PyData.depth]; have := h.dp; omega, by rw [PyData.showable]; exact h.s⟩
theorem Fn.word (w : List Nat) (h : w.all (btw 32 126) = true) (hl : w.length ≤ 200) : Fn (tx w) 2002 0 := by
  obtain ⟨a, b, c, d, e⟩ := word_fine w h hl
  exact ⟨a, b, c, by omega, e⟩
theorem Fn.path {ps : Rd0} (h : Road ps) : Fn (P ps) 2002 0 := by
  obtain ⟨a, b, c, d, e⟩ := path_fine h
  exact ⟨a, b, c, by omega, e⟩
theorem Fn.none : Fn .none 2002 0 := ⟨rfl, by rw [wt]; decide, rfl, Nat.zero_le _, rfl⟩
theorem Fn.num {n : Nat} (h : n ≤ 1001) : Fn (.int (n : Int)) 2002 0 := by
  cases n with
  | zero => exact ⟨rfl, by rw [wt, PyData.shown]; decide +kernel, rfl, Nat.zero_le _, by rw [PyData.showable]; decide +kernel⟩
  | succ n =>
    obtain ⟨a, b⟩ := num_fine (c := (n : Int)) (by omega) (by omega)
    have e : ((n + 1 : Nat) : Int) = (n : Int) + 1 := by omega
    rw [e]
    exact ⟨rfl, by omega, rfl, Nat.zero_le _, b⟩
theorem Fn.pair {a b : PyData} (ha : Fn a 2002 0) (hb : Fn b 2002 0) : Fn (.tuple [a, b]) 5000 1 := (FnA.cons ha (FnA.cons hb FnA.nil)).tup.up (by decide) (Nat.le_refl _)
theorem FnA.two {a b : PyData} (ha : Fn a 5000 1) (hb : Fn b 5000 1) : FnA [a, b] 10010 1 := (FnA.cons ha (FnA.cons hb FnA.nil)).up (by decide) (Nat.le_refl _)
theorem FnA.one {a : PyData} (ha : Fn a 5000 1) : FnA [a] 10010 1 := (FnA.cons ha FnA.nil).up (by decide) (Nat.le_refl _)
theorem FnA.no : FnA [] 10010 1 := FnA.nil.up (by decide) (Nat.le_refl _)
/-- what a plain deed tells, shown -/
theorem run_fine {es : Tr} (h : TreeI es) {B : Nat} (hb : NB B es) (hB : B ≤ 1000) {p : PD} (hok : p.ok) (w : List Nat) : (∃ b x, (p.run es w).2.1 = .tuple [tx (if b = true then okW else noW), x] ∧ flatD x = true ∧ Fn x 2002 0) ∧ FnA (p.run es w).2.2 10010 1 := by
  have hn := hb.nice h.g hB p
  have no : ∀ v : List Nat, v.all (btw 32 126) = true → v.length ≤ 200 → (∃ b x, (noR es (tx v)).2.1 = .tuple [tx (if b = true then okW else noW), x] ∧ flatD x = true ∧ Fn x 2002 0) ∧ FnA (noR es (tx v)).2.2 10010 1 := fun v h1 h2 => ⟨⟨false, tx v, rfl, rfl, Fn.word v h1 h2⟩, FnA.no⟩
  cases p with
  | make ps t own num =>
    have hok : MakeOk ps t num := hok
    obtain ⟨qs, q, rfl⟩ : ∃ qs q, ps = qs ++ [q] := ⟨ps.dropLast, ps.getLast hok.ne, (List.dropLast_concat_getLast _).symm⟩
    have hqr : Road qs := ⟨fun p hp => hok.road.1 p (by simp [hp]), by have := hok.road.2; simp at this; omega⟩
    show (∃ b x, (makeG es (qs ++ [q]) (tx t) (tx w) own num).2.1 = _ ∧ _) ∧ FnA (makeG es (qs ++ [q]) (tx t) (tx w) own num).2.2 _ _
    have ed : (qs ++ [q]).dropLast = qs := by simp
    cases hv : lookD es (keyP qs) with
    | none =>
      rw [makeG_none (by rw [ed]; exact hv)]
      exact no _ (by decide) (by decide)
    | some v =>
      obtain ⟨t', n, m, o, rfl, _, _⟩ := h.g.nodeP hv
      rw [makeG_some (by rw [ed]; exact hv), ed, madeD_node, newP_snoc]
      unfold mkG
      split
      · split
        · exact no _ (by decide) (by decide)
        · split
          · exact no _ (by decide) (by decide)
          · have hr : Road (qs ++ [newL q num m]) := new_road hok fun hnum => by
              subst hnum
              have := hn _ (by rw [ed]; exact hv)
              simpa using this
            exact ⟨⟨true, P (qs ++ [newL q num m]), rfl, rfl, Fn.path hr⟩, FnA.two (Fn.pair (Fn.word madeW (by decide) (by decide)) (Fn.path hr)) (Fn.pair (Fn.word kidsW (by decide) (by decide)) (Fn.path hqr))⟩
      · exact no _ (by decide) (by decide)
  | put ps t c =>
    show (∃ b x, (putR es ps (tx t) (cntP c)).2.1 = _ ∧ _) ∧ FnA (putR es ps (tx t) (cntP c)).2.2 _ _
    unfold putR
    cases hv : lookD es (keyP ps) with
    | none => exact no _ (by decide) (by decide)
    | some u =>
      obtain ⟨t', n, m, o, rfl, _, _⟩ := h.g.nodeP hv
      have hnb := hb.look hv
      show (∃ b x, Prod.fst (Prod.snd (if DL.wants (cntP c) (nodeP t' n m o) = true then _ else _)) = _ ∧ _) ∧ FnA (Prod.snd (Prod.snd (if DL.wants (cntP c) (nodeP t' n m o) = true then _ else _))) _ _
      split
      · exact ⟨⟨true, .int ((n : Int) + 1), rfl, rfl, Fn.num (n := n + 1) (by omega)⟩, FnA.one (Fn.pair (Fn.word textW (by decide) (by decide)) (Fn.path hok.1))⟩
      · exact no _ (by decide) (by decide)
  | drop ps c =>
    have hdr : Road ps.dropLast := ⟨fun p hp => hok.1.1 p (List.dropLast_subset _ hp), by have := hok.1.2; rw [List.length_dropLast]; omega⟩
    show (∃ b x, (dropR es ps (cntP c)).2.1 = _ ∧ _) ∧ FnA (dropR es ps (cntP c)).2.2 _ _
    unfold dropR
    cases hv : lookD es (keyP ps) with
    | none => exact no _ (by decide) (by decide)
    | some u =>
      show (∃ b x, Prod.fst (Prod.snd (if DL.wants (cntP c) u = true then _ else _)) = _ ∧ _) ∧ FnA (Prod.snd (Prod.snd (if DL.wants (cntP c) u = true then _ else _))) _ _
      split
      · split
        · exact ⟨⟨true, .none, rfl, rfl, Fn.none⟩, FnA.two (Fn.pair (Fn.word goneW (by decide) (by decide)) (Fn.path hok.1)) (Fn.pair (Fn.word kidsW (by decide) (by decide)) (Fn.path hdr))⟩
        · exact no _ (by decide) (by decide)
      · exact no _ (by decide) (by decide)
  | see ps c =>
    show (∃ b x, (seeR es ps (cntP c)).2.1 = _ ∧ _) ∧ FnA (seeR es ps (cntP c)).2.2 _ _
    unfold seeR
    cases hv : lookD es (keyP ps) with
    | none => exact no _ (by decide) (by decide)
    | some u =>
      obtain ⟨t', n, m, o, rfl, _, _⟩ := h.g.nodeP hv
      have hnb := hb.look hv
      show (∃ b x, Prod.fst (Prod.snd (if DL.wants (cntP c) (nodeP t' n m o) = true then _ else _)) = _ ∧ _) ∧ FnA (Prod.snd (Prod.snd (if DL.wants (cntP c) (nodeP t' n m o) = true then _ else _))) _ _
      split
      · exact ⟨⟨true, .int (n : Int), rfl, rfl, Fn.num (by omega)⟩, FnA.no⟩
      · exact no _ (by decide) (by decide)
theorem allG_fine {w : List Nat} (hw : wordB w = true) {es0 : Tr} : ∀ (ps : List PD) {C k j : Nat} {cur : Tr} {vs ev : List PyData}, TreeI cur → NB C cur → C + ps.length ≤ 1000 → k ≤ 100 → k + ps.length ≤ 100 → (∀ p ∈ ps, p.ok) → FnA vs (2004 * j) 0 → FnA ev (10010 * j) 1 →
    Fn (allG w es0 k cur vs ev ps).2.1 (6100 + 2004 * (j + ps.length)) 2 ∧ FnA (allG w es0 k cur vs ev ps).2.2 (10010 * (j + ps.length)) 1
  | [], C, k, j, cur, vs, ev, h, hb, hC, _, _, _, hv, he => by
    refine ⟨?_, he⟩
    show Fn (.tuple [tx okW, .tuple vs]) _ _
    exact (FnA.cons ((Fn.word okW (by decide) (by decide)).up (Nat.le_refl _) (Nat.zero_le _)) (FnA.cons hv.tup FnA.nil)).tup.up (by simp; omega) (Nat.le_refl _)
  | p :: ps, C, k, j, cur, vs, ev, h, hb, hC, hk, hkp, hok, hv, he => by
    rw [List.length_cons] at hC hkp
    obtain ⟨⟨b, x, e, hx, hf⟩, hev⟩ := run_fine h hb (by omega) (hok p (by simp)) w
    cases b with
    | false =>
      rw [allG_no e]
      refine ⟨?_, FnA.nil.up (Nat.zero_le _) (Nat.zero_le _)⟩
      exact (FnA.cons (Fn.word noW (by decide) (by decide)) (FnA.cons hf (FnA.cons (Fn.num (by omega)) FnA.nil))).tup.up (by omega) (by decide)
    | true =>
      rw [allG_ok e]
      have hn := hb.nice h.g (by omega) p
      obtain ⟨r1, r2⟩ := allG_fine hw (es0 := es0) ps (k := k + 1) (j := j + 1) (vs := vs ++ [x]) (ev := ev ++ (p.run cur w).2.2) (h.run (hok p (by simp)) hw hn) (hb.run h.g (hok p (by simp)) w) (by omega) (by omega) (by omega) (fun q hq => hok q (by simp [hq])) ((hv.app (FnA.cons hf FnA.nil)).up (by omega) (Nat.le_refl _)) ((he.app hev).up (by omega) (Nat.le_refl _))
      rw [List.length_cons]
      exact ⟨r1.up (by omega) (Nat.le_refl _), r2.up (by omega) (Nat.le_refl _)⟩
theorem repr_all {w : List Nat} (hw : wordB w = true) {es : Tr} {B : Nat} (h : TreeI es) (hb : NB B es) (hB : B + 6 ≤ 1000) {ps : List PD} (hl : ps.length ≤ 6) (hok : ∀ p ∈ ps, p.ok) : ∃ z, gReprA [.tuple [(allG w es 0 es [] [] ps).2.1, .list (allG w es 0 es [] [] ps).2.2]] = some (.fz (.str z)) := by
  obtain ⟨h1, h2⟩ := allG_fine hw (es0 := es) ps (k := 0) (j := 0) (vs := []) (ev := []) h hb (by omega) (by omega) (by omega) hok (FnA.nil.up (Nat.zero_le _) (Nat.zero_le _)) (FnA.nil.up (Nat.zero_le _) (Nat.zero_le _))
  have hf := (FnA.cons h1 (FnA.cons h2.lst FnA.nil)).tup
  exact repr_fine (.inr ⟨_, rfl⟩) hf.a (Nat.le_trans hf.w (by omega)) hf.h (Nat.le_trans hf.dp (by decide)) hf.s
end L2.DL

set_option maxRecDepth 100000
set_option maxHeartbeats 4000000
/-! DL66: deeds and entries looked at, of anything. -/
namespace L2.DL
open PySem PySem.Spec PyProof.Rows
def arePlainB : PyData → Bool
  | .tuple ds => decide (1 ≤ ds.length ∧ ds.length ≤ 6) && ds.all plainB
  | _ => false
def limB : PyData → Bool
  | .int n => decide (1 ≤ n ∧ n ≤ 1000)
  | _ => false
def allB1 : List PyData → Bool
  | [t] => arePlainB t
  | _ => false
def openB1 : List PyData → Bool
  | [n] => limB n
  | _ => false
def deedB : PyData → Bool
  | .tuple (.str w :: r) =>
    if w.cps.toList = closeW ∨ w.cps.toList = bringW then r.isEmpty
    else if w.cps.toList = allW then allB1 r
    else if w.cps.toList = openW then openB1 r
    else plainB (.tuple (.str w :: r))
  | _ => false
/-- what may be looked at as a deed -/
structure DeedFit (d : PyData) : Prop where
  all : ∀ ts, d = .tuple [tx allW, .tuple ts] → ∀ t ∈ ts, itemB t = true
  item : itemB d = true ∨ (∃ r, d = .tuple (tx allW :: r)) ∨ ∀ ds, d ≠ .tuple ds
def askB2 : List PyData → Bool
  | [n, d] => wholeB n 1 && deedB d
  | _ => false
def entryB : PyData → Bool
  | .tuple (.str k :: x :: r) => ontx wordB x && (if k.cps.toList = endW then r.isEmpty
    else if k.cps.toList = askW then askB2 r
    else false)
  | _ => false
/-- what may be looked at as an entry -/
structure EntryFit (d : PyData) : Prop where
  few : ∀ k x r, d = .tuple (k :: x :: r) → few x
  deed : ∀ k x n e, d = .tuple [k, x, n, e] → DeedFit e
def gx__are_plain : DC := fun svs Q => ∃ d, svs = [.dat d] ∧ (∀ ts, d = .tuple ts → ∀ t ∈ ts, itemB t = true) ∧ Q (.fz (.bool (arePlainB d)))
theorem gxm__are_plain : gx__are_plain.Mono := fun _ _ _ hq ⟨d, h1, h2, h3⟩ => ⟨d, h1, h2, hq _ h3⟩
def gx_is_deed : DC := fun svs Q => ∃ d, svs = [.dat d] ∧ DeedFit d ∧ Q (.fz (.bool (deedB d)))
theorem gxm_is_deed : gx_is_deed.Mono := fun _ _ _ hq ⟨d, h1, h2, h3⟩ => ⟨d, h1, h2, hq _ h3⟩
def gx_is_entry : DC := fun svs Q => ∃ d, svs = [.dat d] ∧ EntryFit d ∧ Q (.fz (.bool (entryB d)))
theorem gxm_is_entry : gx_is_entry.Mono := fun _ _ _ hq ⟨d, h1, h2, h3⟩ => ⟨d, h1, h2, hq _ h3⟩
/-! ### rows -/
def spotB : PyData → Bool
  | .tuple [a, b] => wholeB a 0 && wholeB b 0
  | _ => false
def placedB : PyData → Bool
  | .tuple [a, b] => spotB a && entryB b
  | _ => false
def followB (a b c d : Int) : Bool := if c < a then decide (b = 1) else (!decide (c = 0 ∧ d = 0)) && decide (a = c ∧ b = d + 1)
def rowF : Int → Int → List PyData → Bool
  | _, _, [] => true
  | c, d, .tuple [.tuple [.int a, .int b], e] :: r => placedB (.tuple [.tuple [.int a, .int b], e]) && (followB a b c d && rowF a b r)
  | _, _, _ => false
def rowB : PyData → Bool
  | .list ds => rowF 0 0 ds
  | _ => false
def gx_is_place : DC := fun svs Q => ∃ d, svs = [.dat d] ∧ Q (.fz (.bool (spotB d)))
theorem gxm_is_place : gx_is_place.Mono := fun _ _ _ hq ⟨d, h1, h2⟩ => ⟨d, h1, hq _ h2⟩
def gx_is_placed : DC := fun svs Q => ∃ d, svs = [.dat d] ∧ (∀ a b, d = .tuple [a, b] → EntryFit b) ∧ Q (.fz (.bool (placedB d)))
theorem gxm_is_placed : gx_is_placed.Mono := fun _ _ _ hq ⟨d, h1, h2, h3⟩ => ⟨d, h1, h2, hq _ h3⟩
def gx__may_follow : DC := fun svs Q => ∃ a b c d : Int, svs = [.dat (.tuple [.int a, .int b]), .dat (.tuple [.int c, .int d])] ∧ Q (.fz (.bool (followB a b c d)))
theorem gxm__may_follow : gx__may_follow.Mono := fun _ _ _ hq ⟨a, b, c, d, h1, h2⟩ => ⟨a, b, c, d, h1, hq _ h2⟩
def gx_is_row : DC := fun svs Q => ∃ d, svs = [.dat d] ∧ (∀ ds, d = .list ds → ∀ x ∈ ds, ∀ a b, x = .tuple [a, b] → EntryFit b) ∧ Q (.fz (.bool (rowB d)))
theorem gxm_is_row : gx_is_row.Mono := fun _ _ _ hq ⟨d, h1, h2, h3⟩ => ⟨d, h1, h2, hq _ h3⟩
theorem spot_ints {d : PyData} (h : spotB d = true) : ∃ a b : Int, d = .tuple [.int a, .int b] := by
  match d, h with
  | .tuple [a, b], h =>
    have h : (wholeB a 0 && wholeB b 0) = true := h
    rw [Bool.and_eq_true] at h
    cases a with
    | int i =>
      cases b with
      | int j => exact ⟨i, j, rfl⟩
      | _ => cases h.2
    | _ => cases h.1
  | .tuple [], h => cases h
  | .tuple [_], h => cases h
  | .tuple (_ :: _ :: _ :: _), h => cases h
  | .none, h => cases h
  | .bool _, h => cases h
  | .int _, h => cases h
  | .str _, h => cases h
  | .list _, h => cases h
  | .dict _, h => cases h
end L2.DL

set_option maxRecDepth 100000
set_option maxHeartbeats 4000000
/-! DL67: xs[::-1]. -/
namespace L2.DL
open PySem PySem.Spec PyProof.Rows PySem.W
variable {X : Cx}
theorem vals_rev : ∀ {xs : List V} {us : List Value}, Vals xs us → Vals xs.reverse us.reverse
  | [], us, r => by cases r; exact .nil
  | x :: xs, us, r => by
    cases r with
    | cons r1 r2 =>
      rw [List.reverse_cons, List.reverse_cons]
      exact (vals_rev r2).append (.cons r1 .nil)
theorem RpA.rev {K : PySem.W.Frag} {Z : Hp} : ∀ {vs : List V} {ds : List PyData}, RpA K Z vs ds → RpA K Z vs.reverse ds.reverse
  | _, _, .nil => .nil
  | _, _, .cons p p' => by
    rw [List.reverse_cons, List.reverse_cons]
    exact (RpA.rev p').append (.cons p .nil)
def gRv (d : PyData) (k : Option Int) : Option OV :=
  if k = some (-1) then (match d with
    | .list ds => some (.lst ds.reverse)
    | _ => none) else none
def eRv (te : DTE) (tk : DTO) : DTE := fun s Q => te s fun x s1 => tk s1 fun b s2 => ∃ o, gRv x.data b = some o ∧ Q o s2
@[simp ↓] theorem run_rv {te : DTE} {tk : DTO} {s : DSt} {Q : OV → DSt → Prop} : eRv te tk s Q = te s fun x s1 => tk s1 fun b s2 => Opt (gRv x.data b) fun o => Q o s2 := rfl
@[simp] theorem v_rv {ds : List PyData} : gRv (.list ds) (some (-1)) = some (.lst ds.reverse) := rfl
theorem pe_rev {e : Expr} {k : Expr} {te : TE} {tk : TO} {pos p2 : Pos} (he : PE X e te) (hk : PO X (some k) tk) : PE X (.Subscript e (.Slice none none (some k) p2) pos) (fun σ H Q => te σ H fun x H1 => tk σ H1 fun b H2 => ∃ a xs, x = .ref a ∧ SqL X.K H2 a xs ∧ b = some (-1) ∧ ∀ p, H2 p = none → Q (.ref p) (upd H2 p (.lst xs.reverse))) := by
  refine ⟨fun pins s σ H Q I h => ?_⟩
  refine Subscript_ (thn (he.run pins s σ H _ I h) fun v s1 ⟨x, H1, I1, r1, q1⟩ => ?_)
  refine wpAny_Slice ?_
  rw [evalPart_none]
  refine wpAny_pure ?_
  refine wpAny_pure ?_
  refine thn (hk.run pins s1 σ H1 _ I1 q1) fun vk s3 ⟨b, H3, I3, pk, q⟩ => ?_
  obtain ⟨a, xs, rfl, hx, rfl, q⟩ := q
  have I4 : Inv X pins σ H3 { s3 with heap := s3.heap.push { cls := .type "slice", data := .fields #[.none, .none, vk] } } := I3.kept (t' := s3.toks) fun b ob q => Heap.get?_push_of_some _ q
  have r1 := r1
  cases r1
  obtain ⟨its, r, ht, hz⟩ := I4.list hx
  have hlen := r.length
  show wpAny (model X.prog X.w) X.A (subscriptTail e (.Slice none none (some k) p2) (.ref a) (.ref s3.heap.objs.size)) (EP X pins σ Q) X.xe { s3 with heap := s3.heap.push { cls := .type "slice", data := .fields #[.none, .none, vk] } }
  refine tail_any (ops := [.ref a, .ref s3.heap.objs.size]) ht.isList.typeIs slot_list_getitem.lookup ?_ (by with_unfolding_all rfl)
  refine wpAny_getItem_list_slice ht.isList (Heap.IsSliceOf.new ..) .none .none pk (by decide) ?_ (by rw [List.size_toArray] <;> omega)
  rw [krv_pick]
  refine ⟨.ref _, _, I4.laid (t' := s3.toks) (o := .lst xs.reverse) (fun b ob q => Heap.get?_push_of_some _ q) (Nat.le_refl _) ?_, rfl, q _ (I4.hok.fresh (Nat.le_refl _))⟩
  refine ⟨by rw [List.length_reverse]; exact hz, _, 0, ?_, Heap.get?_push_size _ rfl⟩
  exact vals_rev r
theorem de_rev {e k : Expr} {te : DTE} {tk : DTO} {pos p2 : Pos} (he : DE X e te) (hk : DO X (some k) tk) : DE X (.Subscript e (.Slice none none (some k) p2) pos) (eRv te tk) := by
  refine ⟨fun s Q Q' hq h => he.mono _ _ _ (fun x s1 h1 => hk.mono _ _ _ (fun l s2 ⟨o, e, q⟩ => ⟨o, e, hq _ _ q⟩) h1) h, PE.weak (pe_rev he.pe hk.po) fun σ H Q ⟨f, Z, fp, s, r, h⟩ => ?_⟩
  refine he.go r h fun x s1 Z1 fp1 v H1 z1 r1 p1 h1 => hk.go r1 h1 fun l s2 Z2 fp2 H2 z2 r2 ⟨o, e, q⟩ => ?_
  have p2 := p1.up z2
  have t := Told.from q (z1.trans z2)
  generalize x.data = d at p2 e
  cases p2 with
  | lst hq w =>
    by_cases hl : l = some (-1)
    · subst hl
      have e := Option.some.inj e
      subst e
      exact ⟨_, _, rfl, (Le.of r2.zh).sqL hq, rfl, fun p hp => t.lst r2 hp w.rev⟩
    · unfold gRv at e
      rw [if_neg hl] at e
      cases e
  | _ => exact absurd e (by unfold gRv; split <;> exact fun h => by cases h)
end L2.DL

set_option maxRecDepth 100000
set_option maxHeartbeats 4000000
/-! DL68: drawn rows: their places rise, their figures stay small, repr can show them. -/
namespace L2.DL
open PySem PySem.Spec PyProof.Rows
def capB (d : PyData) : Prop := ∀ i : Int, d = .int i → i ≤ 1001
def DeedCap (d : PyData) : Prop := ∀ ds, d = .tuple ds → ∀ x ∈ ds, capB x
theorem DeedCap.mk {ds : List PyData} (h : ∀ x ∈ ds, capB x) : DeedCap (.tuple ds) := fun ds' e => by
  injection e with e
  subst e
  exact h
theorem Fn.bool (b : Bool) : Fn (.bool b) 2002 0 := by cases b <;> exact ⟨rfl, by rw [wt]; decide, rfl, Nat.zero_le _, by rw [PyData.showable]⟩
theorem Fn.text {t : List Nat} (h : textB t = true) : Fn (tx t) 2002 0 := by
  unfold textB at h
  rw [Bool.and_eq_true] at h
  exact Fn.word t h.2 (Nat.le_trans (of_decide_eq_true h.1) (by decide))
theorem Fn.cnt {c : Option Nat} (h : ∀ n, c = some n → n ≤ 1001) : Fn (cntP c) 2002 0 := by
  cases c with
  | none => exact Fn.none
  | some n => exact Fn.num (h n rfl)
theorem DeedCap.two {a b : PyData} {n : Nat} (h : DeedCap (.tuple [a, b, cntP (some n)])) : n ≤ 1001 := by
  have := h _ rfl (cntP (some n)) (by simp) (n : Int) rfl
  omega
theorem DeedCap.three {a b d : PyData} {n : Nat} (h : DeedCap (.tuple [a, b, d, cntP (some n)])) : n ≤ 1001 := by
  have := h _ rfl (cntP (some n)) (by simp) (n : Int) rfl
  omega
theorem Fn.three {a b c : PyData} (ha : Fn a 2002 0) (hb : Fn b 2002 0) (hc : Fn c 2002 0) : Fn (.tuple [a, b, c]) 11000 1 := (FnA.cons ha (FnA.cons hb (FnA.cons hc FnA.nil))).tup.up (by decide) (Nat.le_refl _)
theorem Fn.four {a b c d : PyData} (ha : Fn a 2002 0) (hb : Fn b 2002 0) (hc : Fn c 2002 0) (hd : Fn d 2002 0) : Fn (.tuple [a, b, c, d]) 11000 1 := (FnA.cons ha (FnA.cons hb (FnA.cons hc (FnA.cons hd FnA.nil)))).tup.up (by decide) (Nat.le_refl _)
theorem Fn.five {a b c d e : PyData} (ha : Fn a 2002 0) (hb : Fn b 2002 0) (hc : Fn c 2002 0) (hd : Fn d 2002 0) (he : Fn e 2002 0) : Fn (.tuple [a, b, c, d, e]) 11000 1 := (FnA.cons ha (FnA.cons hb (FnA.cons hc (FnA.cons hd (FnA.cons he FnA.nil))))).tup.up (by decide) (Nat.le_refl _)
theorem deed_fine {d : PyData} (h : DeedOk d) (hc : DeedCap d) : ∃ p : PD, d = p.data ∧ p.ok ∧ Fn p.data 11000 1 := by
  obtain ⟨p, rfl, hp⟩ := deed_of h
  refine ⟨p, rfl, hp, ?_⟩
  cases p with
  | make ps t own num =>
    have hp : MakeOk ps t num := hp
    exact Fn.five (Fn.word makeW (by decide) (by decide)) (Fn.path hp.road) (Fn.text hp.txt) (Fn.bool _) (Fn.bool _)
  | put ps t c =>
    have hp : Road ps ∧ textB t = true := hp
    exact Fn.four (Fn.word putW (by decide) (by decide)) (Fn.path hp.1) (Fn.text hp.2) (Fn.cnt fun n e => by subst e; exact DeedCap.three hc)
  | drop ps c =>
    have hp : Road ps ∧ ps ≠ [] := hp
    exact Fn.three (Fn.word dropW (by decide) (by decide)) (Fn.path hp.1) (Fn.cnt fun n e => by subst e; exact DeedCap.two hc)
  | see ps c =>
    have hp : Road ps := hp
    exact Fn.three (Fn.word seeW (by decide) (by decide)) (Fn.path hp) (Fn.cnt fun n e => by subst e; exact DeedCap.two hc)
theorem repr_large {d : PyData} (h0 : (∃ xs, d = .list xs) ∨ ∃ xs, d = .tuple xs) (h1 : asc d = true) (h2 : wt d ≤ 10000000) (h3 : d.hasDict = false) (h4 : d.depth ≤ 62) (h5 : d.showable = true) : ∃ z, gReprA [d] = some (.fz (.str z)) := by
  have f := fit h1
  have hz : (10000000 : Nat) ≤ sizeLine := by decide
  rcases h0 with ⟨xs, rfl⟩ | ⟨xs, rfl⟩
  all_goals
    refine ⟨_, if_pos ?_⟩
    rw [h3, h5, decide_eq_true h4, decide_eq_true (Nat.le_trans f.1 (by omega)), f.2]
    rfl
theorem FnA.all {W D : Nat} : ∀ {ds : List PyData}, (∀ d ∈ ds, Fn d W D) → FnA ds ((W + 2) * ds.length) D
  | [], _ => FnA.nil.up (Nat.zero_le _) (Nat.le_refl _)
  | d :: ds, h => by
    refine (FnA.cons (h d (by simp)) (FnA.all (ds := ds) fun x hx => h x (by simp [hx]))).up ?_ (Nat.le_refl _)
    rw [List.length_cons, Nat.mul_add]
    omega
theorem repr_list {ds : List PyData} {W D : Nat} (h : ∀ d ∈ ds, Fn d W D) (hw : (W + 2) * ds.length ≤ 9000000) (hd : D ≤ 50) : ∃ z, gReprA [.list ds] = some (.fz (.str z)) := by
  have hf := (FnA.all h).lst
  exact repr_large (.inl ⟨_, rfl⟩) hf.a (Nat.le_trans hf.w (by omega)) hf.h (Nat.le_trans hf.dp (by omega)) hf.s
/-! ### deeds of all kinds -/
def DD.fine (d : DD) : Prop := Fn d.data 70000 3
theorem DD.fine_plain {p : PD} (h : Fn p.data 11000 1) : (DD.plain p).fine := h.up (by decide) (by decide)
theorem DD.fine_all {ps : List PD} (hl : ps.length ≤ 6) (h : ∀ p ∈ ps, Fn p.data 11000 1) : (DD.all ps).fine := by
  have h1 : FnA (ps.map PD.data) (11002 * (ps.map PD.data).length) 1 := FnA.all fun d hd => by
    obtain ⟨p, hp, rfl⟩ := List.mem_map.mp hd
    exact h p hp
  rw [List.length_map] at h1
  have h2 := h1.tup
  exact (FnA.cons ((Fn.word allW (by decide) (by decide)).up (Nat.le_refl _) (by decide)) (FnA.cons h2 FnA.nil)).tup.up (by omega) (by omega)
theorem DD.fine_opn {n : Nat} (h : n ≤ 1000) : (DD.opn n).fine := (FnA.cons (Fn.word openW (by decide) (by decide)) (FnA.cons (Fn.num (by omega)) FnA.nil)).tup.up (by decide) (by decide)
theorem DD.fine_close : DD.close.fine := (FnA.cons (Fn.word closeW (by decide) (by decide)) FnA.nil).tup.up (by decide) (by decide)
theorem DD.fine_bring : DD.bring.fine := (FnA.cons (Fn.word bringW (by decide) (by decide)) FnA.nil).tup.up (by decide) (by decide)
def EN.fine (e : EN) : Prop := Fn e.data 90000 4
theorem EN.fine_fin {w : List Nat} (h : Who3 w) : (EN.fin w).fine := (FnA.cons (Fn.word endW (by decide) (by decide)) (FnA.cons (Fn.word w (by rcases h with rfl | rfl | rfl <;> decide) (by rcases h with rfl | rfl | rfl <;> decide)) FnA.nil)).tup.up (by decide) (by decide)
theorem EN.fine_ask {w : List Nat} (h : Who3 w) {n : Nat} (hn : n ≤ 1001) {d : DD} (hd : d.fine) : (EN.ask w n d).fine :=
  (FnA.cons ((Fn.word askW (by decide) (by decide)).up (Nat.le_refl _) (Nat.zero_le _)) (FnA.cons ((Fn.word w (by rcases h with rfl | rfl | rfl <;> decide) (by rcases h with rfl | rfl | rfl <;> decide)).up (Nat.le_refl _) (Nat.zero_le _)) (FnA.cons ((Fn.num hn).up (Nat.le_refl _) (Nat.zero_le _)) (FnA.cons hd FnA.nil)))).tup.up (by decide) (by decide)
/-! ### stamps -/
def EN.stamp : EN → Nat
  | .ask _ n _ => n
  | .fin _ => 0
def StB (C : Nat) (ss : Tr) : Prop := ∀ e ∈ ss, ∃ st : Nat, gIx e.2 (.int 1) = some (.fz (.int (st : Nat))) ∧ st ≤ C
theorem StB.up {C D : Nat} {ss : Tr} (h : StB C ss) (l : C ≤ D) : StB D ss := fun e he => by
  obtain ⟨st, a, b⟩ := h e he
  exact ⟨st, a, Nat.le_trans b l⟩
theorem StB.put {C : Nat} {ss : Tr} (h : StB C ss) {k : Key} {r : Rw} (hr : r.st ≤ C) : StB C (putD ss k r.data) := fun e he => by
  rcases mem_putD he with he | rfl | ⟨_, h2⟩
  · exact h e he
  · exact ⟨r.st, rfl, hr⟩
  · exact ⟨r.st, by rw [h2]; rfl, hr⟩
theorem StB.row {C : Nat} {ss : Tr} (h : StB C ss) {w : List Nat} {r : Rw} (hr : getD0 ss (keyW w) row0 = r.data) : r.st ≤ C := by
  unfold getD0 at hr
  cases hv : lookD ss (keyW w) with
  | none =>
    rw [hv] at hr
    have : (row0 : PyData) = r.data := hr
    have h1 : gIx row0 (.int 1) = gIx r.data (.int 1) := by rw [this]
    have h2 : (some (.fz (.int (0 : Int))) : Option OV) = some (.fz (.int (r.st : Nat))) := h1
    injection h2 with h2
    injection h2 with h2
    injection h2 with h2
    omega
  | some v =>
    rw [hv] at hr
    have hr : v = r.data := hr
    obtain ⟨e, he, _, h2⟩ := lookD_mem hv
    obtain ⟨st, a, b⟩ := h e he
    rw [h2, hr] at a
    have a : (some (.fz (.int (r.st : Nat))) : Option OV) = some (.fz (.int (st : Nat))) := a
    injection a with a
    injection a with a
    injection a with a
    omega
theorem StB.step {C : Nat} {es ss : Tr} (h : StB C ss) {r : Rw} {e : EN} (hr : getD0 ss (keyW e.who) row0 = r.data) (he : e.stamp ≤ C + 5) (pl : PyData) : StB (C + 5) (doneS es ss r pl e).1.2 := by
  have h5 : StB (C + 5) ss := h.up (by omega)
  have hst := h.row hr
  cases e with
  | fin w =>
    show StB _ (endS es ss r w).1.2
    unfold endS
    split
    · exact h5
    · exact h5.put (r := ⟨none, r.st, r.ans, r.pl⟩) (by show r.st ≤ _; omega)
  | ask w n d =>
    show StB _ (askS es ss r w n d pl).1.2
    unfold askS
    split
    · exact h5
    · exact h5.put (r := ⟨_, n, _, pl⟩) he
theorem SI_two_le {C : Nat} {ss : Tr} (h : SI ss) (hb : StB C ss) (w : List Nat) : ∃ lim, ∃ st : Nat, st ≤ C ∧ gIx (getD0 ss (Sum.inr (SX.S w)) (.tuple [.none, .int 0])) (.int 0) = some (.fz (limP lim)) ∧ gIx (getD0 ss (Sum.inr (SX.S w)) (.tuple [.none, .int 0])) (.int 1) = some (.fz (.int ((st : Nat) : Int))) := by
  unfold getD0
  cases hv : lookD ss (keyW w) with
  | none =>
    rw [show lookD ss (Sum.inr (SX.S w)) = none from hv]
    exact ⟨none, 0, Nat.zero_le _, rfl, rfl⟩
  | some v =>
    rw [show lookD ss (Sum.inr (SX.S w)) = _ from hv]
    obtain ⟨e, he, _, h2⟩ := lookD_mem hv
    obtain ⟨w', r, _, hr, e1⟩ := h e he
    obtain ⟨st, a, b⟩ := hb e he
    subst e1
    subst h2
    have a : (some (.fz (.int (r.st : Nat))) : Option OV) = some (.fz (.int (st : Nat))) := a
    injection a with a
    injection a with a
    injection a with a
    exact ⟨r.lim, r.st, by omega, rfl, rfl⟩
/-! ### contracts -/
def gb__law_count : DC := fun svs Q => ∃ es ps, svs = [.pool, .dat (.dict es), .dat (tx (pathL ps))] ∧ TreeOk 63 es ∧ ∀ d, countB d = true → flatD d = true → capB d → Q (.fz d)
theorem gbm__law_count : gb__law_count.Mono := fun _ _ _ hq ⟨es, n, h1, h2, h3⟩ => ⟨es, n, h1, h2, fun ps h h' h'' => hq _ (h3 ps h h' h'')⟩
def gb__law_deed : DC := fun svs Q => ∃ es, svs = [.pool, .dat (.dict es)] ∧ TreeOk 63 es ∧ ∀ d, DeedOk d → DeedCap d → Q (.fz d)
theorem gbm__law_deed : gb__law_deed.Mono := fun _ _ _ hq ⟨es, h1, h2, h3⟩ => ⟨es, h1, h2, fun d h h' => hq _ (h3 d h h')⟩
def gb__law_task : DC := fun svs Q => ∃ es ss w, svs = [.pool, .dat (.tuple [.dict es, .dict ss]), .dat (tx w)] ∧ TreeOk 63 es ∧ SI ss ∧ ∀ d : DD, d.ok → d.fine → Q (.fz d.data)
theorem gbm__law_task : gb__law_task.Mono := fun _ _ _ hq ⟨es, ss, w, h1, h2, h3, h4⟩ => ⟨es, ss, w, h1, h2, h3, fun d h h' => hq _ (h4 d h h')⟩
def gb__law_drawn_line : DC := fun svs Q => ∃ C es ss, svs = [.pool, .dat (.tuple [.dict es, .dict ss])] ∧ C ≤ 900 ∧ TreeOk 63 es ∧ SI ss ∧ StB C ss ∧ ∀ e : EN, e.ok → Who3 e.who → e.fine → e.stamp ≤ C + 5 → Q (.fz e.data)
theorem gbm__law_drawn_line : gb__law_drawn_line.Mono := fun _ _ _ hq ⟨C, es, ss, h1, h2, h3, h4, h5, h6⟩ => ⟨C, es, ss, h1, h2, h3, h4, h5, fun e a b c d => hq _ (h6 e a b c d)⟩
/-- a drawn line with its place -/
structure LineB (x : PyData × EN) : Prop where
  ok : LineOk x
  spot : ∃ a b : Int, x.1 = .tuple [.int a, .int b] ∧ 1 ≤ a ∧ a ≤ 300 ∧ 1 ≤ b ∧ b ≤ 100
  fine : x.2.fine
def gb__law_gone : DC := fun svs Q => ∃ n : Nat, svs = [.pool, .dat (.int n)] ∧ n ≤ 60 ∧ ∀ ls : List (PyData × EN), ls.length = n → (∀ x ∈ ls, LineB x) → rowF 0 0 (ls.map lineD) = true → Q (.fz (.list (ls.map lineD)))
theorem gbm__law_gone : gb__law_gone.Mono := fun _ _ _ hq ⟨n, h1, h2, h3⟩ => ⟨n, h1, h2, fun ls a b c => hq _ (h3 ls a b c)⟩
end L2.DL

set_option maxRecDepth 100000
set_option maxHeartbeats 4000000
/-! DL69: rows looked at by the law's own look; bent rows. -/
namespace L2.DL
open PySem PySem.Spec PyProof.Rows
/-- what may stand in a list that is looked at as a row -/
structure ItemFit (x : PyData) : Prop where
  en : ∀ a b, x = .tuple [a, b] → EntryFit b
  sp : ∀ a b s t, x = .tuple [a, b] → a = .tuple [s, t] → flatD s = true ∧ flatD t = true
def RowFit (d : PyData) : Prop := ∀ ds, d = .list ds → ds.length ≤ 1000 ∧ ∀ x ∈ ds, ItemFit x
def gx__law_row_so : DC := fun svs Q => ∃ d, svs = [.dat d] ∧ RowFit d ∧ Q (.fz (.bool (rowB d)))
theorem gxm__law_row_so : gx__law_row_so.Mono := fun _ _ _ hq ⟨d, h1, h2, h3⟩ => ⟨d, h1, h2, hq _ h3⟩
def gx__law_bent : DC := fun svs Q => ∃ ls : List (PyData × EN), svs = [.pool, .dat (.list (ls.map lineD))] ∧ 1 ≤ ls.length ∧ ls.length ≤ 12 ∧ (∀ x ∈ ls, LineB x) ∧ ∀ ds : List PyData, ds.length ≤ 25 → (∀ x ∈ ds, ItemFit x) → (∀ x ∈ ds, Fn x 300000 6) → Q (.lst ds)
theorem gxm__law_bent : gx__law_bent.Mono := fun _ _ _ hq ⟨ls, h1, h2, h3, h4, h5⟩ => ⟨ls, h1, h2, h3, h4, fun ds a b c => hq _ (h5 ds a b c)⟩
end L2.DL

set_option maxRecDepth 100000
set_option maxHeartbeats 4000000
/-! DL70: [e for a in xs for b in ys]. -/
namespace L2.DL
open PySem PySem.Spec PyProof.Rows PySem.W
section
variable {X : Cx} {tg iter elt tg1 iter1 : Expr} {ifs ifs1 : List Expr} {scope : Scope} {own : List (Str × Nat)} {pos : Pos} {wi wi1 : DTI} {is is1 : List Nat} {g g1 : TG} {gd gd1 : DG} {tt tt1 : DTT} {te : DTE} {N : List Str} {sc : Scope} {k : Nat} {dd : Bool}
/-- the new list stands apart at D and holds acc -/
structure At (K : PySem.W.Frag) (f : Fr0) (D : Addr) (Z : Hp) (fp : Nat → List Addr) (H : Hp) (acc : List PyData) : Prop where
  ex : ∃ vacc, H D = some (.lst vacc) ∧ RpA K Z vacc acc
  fr : Free f Z D
  off : ∀ i, D ∉ fp i
theorem lc_inner (b : Blk X tg1 ifs1 elt scope is1 g1 gd1 tt1 te) {vs1 : List Nat} (hv : ∀ i ∈ is1, i ∈ vs1) {f : Fr0} {Z1 : Hp} {fp1 : Nat → List Addr} {s1 : DSt} {σ : L2.St} {H1 : Hp} {D : Addr} {J : It} {ds acc0 : List PyData} {Q : List PyData → DSt → Prop} {Nx : Hp → Prop}
    (w : Walks X.K Z1 ds J) (r1 : R X.K f Z1 fp1 s1 σ H1) (at1 : At X.K f D Z1 fp1 H1 acc0) (q : compW gd1 tt1 te vs1 ds acc0 (forgetAll vs1 s1) Q)
    (last : ∀ Z' fp' s' acc' H', Same Z1 Z' → R X.K f Z' fp' s' σ H' → At X.K f D Z' fp' H' acc' → Q acc' s' → Nx H') :
    ∃ W1 : Nat → Nat → Hp → Prop, (∃ m, W1 0 m H1) ∧ ∀ j k H, W1 j k H →
      (J.stop j H ∧ Nx H) ∨ (J.go j H ∧ ∃ Nx1 : Hp → Prop, (∀ H', Nx1 H' → ∃ k', k' < k ∧ W1 (j + 1) k' H') ∧ ∀ x H', J.yld j H x H' → g1 x (wipe σ vs1) H' fun σ3 H5 => wipe σ3 vs1 = wipe σ vs1 ∧ liftT X.K tt1 σ3 H5 fun b H6 =>
        if b = true then lift X.K te σ3 H6 fun y H7 => ∃ acc, H7 D = some (.lst acc) ∧ acc.length < sizeLine ∧ Nx1 (upd H7 D (.lst (acc ++ [y]))) else Nx1 H6) := by
  obtain ⟨fp2, r2, sub⟩ := r1.wipe vs1
  obtain ⟨vacc0, hD0, pa0⟩ := at1.ex
  have hT : ∀ s0 : Shared, GD (X.blk s0 (fun _ => none) scope (compEnvC scope [] 0 X.env) []) tg1 is1 g1 gd1 := fun s0 => b.g s0 _ _ _ _
  refine ⟨fun i m Hh => m = ds.length - i ∧ i ≤ ds.length ∧ ∃ Z2 fp2 s2 acc vacc, Same Z1 Z2 ∧ R X.K f Z2 fp2 s2 (wipe σ vs1) Hh ∧ (∀ j ∈ vs1, s2.getD j .no = .no) ∧ Hh D = some (.lst vacc) ∧ RpA X.K Z2 vacc acc ∧ Free f Z2 D ∧
    (∀ j, D ∉ fp2 j) ∧ compW gd1 tt1 te vs1 (ds.drop i) acc s2 Q, ⟨ds.length, by simp, Nat.zero_le _, Z1, fp2, _, acc0, vacc0, Same.rfl', r2, fun j hj => forgetAll_in hj, hD0, pa0, at1.fr, fun i hh => at1.off i (sub i D hh), q⟩, ?_⟩
  rintro i m H2 ⟨rfl, hi2, Z2, fpx, s2, acc, vacc, z2, r2, hn, hDl, pa, hf, hoff, q2⟩
  rcases Nat.lt_or_ge i ds.length with hlt | hge
  · refine .inr ?_
    have hd : ds[i]? = some ds[i] := List.getElem?_eq_getElem hlt
    have hw := (w Z2 H2 z2 r2.zh i).1 _ hd
    let Nx1 : Hp → Prop := fun Hh => ∃ Z2 fp2 s2 acc vacc, Same Z1 Z2 ∧ R X.K f Z2 fp2 s2 (wipe σ vs1) Hh ∧ (∀ j ∈ vs1, s2.getD j .no = .no) ∧ Hh D = some (.lst vacc) ∧ RpA X.K Z2 vacc acc ∧ Free f Z2 D ∧
      (∀ j, D ∉ fp2 j) ∧ compW gd1 tt1 te vs1 (ds.drop (i + 1)) acc s2 Q
    refine ⟨hw.1, Nx1, fun H' hh => ⟨ds.length - (i + 1), by omega, rfl, hlt, hh⟩, fun x H3 y => ?_⟩
    rw [List.drop_eq_getElem_cons hlt] at q2
    obtain ⟨Z3, y1, y2, y3, p3, y4⟩ := hw.2 x H3 y
    obtain ⟨Z3', z3, r3, p3'⟩ : ∃ Z', Same Z2 Z' ∧ R X.K f Z' fpx s2 (wipe σ vs1) H3 ∧ (Rp X.K Z' x ds[i] ∧ Z' D = none) :=
      ⟨Z3, y1, r2.grow (fun _ => False) y2 y1 (fun _ z => z.elim) (fun a o e _ => y3 _ _ e) (fun a h1 h2 _ => y4 a h1 h2) (fun _ z => z.elim), p3, y4 D (by rw [hDl]; simp) hf.1⟩
    have hD3 : H3 D = some (.lst vacc) := y3 _ _ hDl
    have base := r3.rebase
    have hnp : ¬ (base1 f Z3' H3 fpx).pl D := fun ⟨j, hj⟩ => hoff j hj
    have fin : ∀ {Z' fp' s' H'}, R X.K (base1 f Z3' H3 fpx) Z' fp' s' (wipe σ vs1) H' → R X.K f Z' fp' s' (wipe σ vs1) H' ∧ H' D = some (.lst vacc) ∧ Free f Z' D ∧ ∀ j, D ∉ fp' j := fun {Z' fp' s' H'} r' => by
      have hz : Z' D = none := r'.nz D (by show H3 D ≠ none; rw [hD3]; simp) p3'.2 hnp
      refine ⟨r3.back r', r'.keep D _ hD3 hnp, ⟨hz, hf.2⟩, fun j hj => ?_⟩
      rcases ((r'.slot j).free D hj).2.1 with z | z
      · exact hnp z
      · have z' : H3 D = none := z
        rw [hD3] at z'
        cases z'
    refine (hT {}).go (X := X.blk {} (fun _ => none) scope (compEnvC scope [] 0 X.env) []) base p3'.1 q2 fun fp4 s4 σ4 r4 o4 q4 => ⟨wipe_of o4 hv, ?_⟩
    have endT : ∀ {Z6 fp6 s6 H6}, Same Z3' Z6 → R X.K (base1 f Z3' H3 fpx) Z6 fp6 s6 σ4 H6 → ∃ fp7, R X.K f Z6 fp7 (forgetAll vs1 s6) (wipe σ vs1) H6 ∧ H6 D = some (.lst vacc) ∧ Free f Z6 D ∧ ∀ j, D ∉ fp7 j := fun {Z6 fp6 s6 H6} _ r6 => by
      obtain ⟨fp7, r7, sub7⟩ := r6.wipe vs1
      rw [wipe_of o4 hv] at r7
      obtain ⟨e1, e2, e3, e4⟩ := fin r7
      exact ⟨fp7, e1, e2, e3, e4⟩
    refine ⟨_, Z3', fp4, s4, r4, (b.t {} (fun _ => none) 0 [] []).mono _ _ _ (fun b5 s5 q5 Z5 fp5 H5 z5 r5 => ?_) q4⟩
    cases b5 with
    | true =>
      refine ⟨_, Z5, fp5, s5, r5, (b.e {} (fun _ => none) 0 [] []).mono _ _ _ (fun o s6 ⟨hz, q6⟩ Z6 fp6 v H6 A z6 r6 p6 n6 hA6 => ?_) q5⟩
      obtain ⟨Z7, z7, r7, p7⟩ := r6.stillT p6 hA6
      obtain ⟨fp8, r8, hD8, hf8, off8⟩ := endT (z5.trans (z6.trans z7)) r7
      have zz : Same Z2 Z7 := z3.trans (z5.trans (z6.trans z7))
      have pa7 := pa.up zz
      refine ⟨vacc, hD8, by rw [pa.length]; exact hz, Z7, fp8, forgetAll vs1 s6, _, _, z2.trans zz, r8.poke _ hf8 off8, fun j hj => forgetAll_in hj, upd_same, pa7.append (.cons p7 .nil), hf8, off8, q6⟩
    | false =>
      obtain ⟨fp8, r8, hD8, hf8, off8⟩ := endT z5 r5
      have zz : Same Z2 Z5 := z3.trans z5
      exact ⟨Z5, fp8, forgetAll vs1 s5, acc, vacc, z2.trans zz, r8, fun j hj => forgetAll_in hj, hD8, pa.up zz, hf8, off8, q5⟩
  · have e : i = ds.length := by omega
    subst e
    rw [List.drop_length] at q2
    have r5 : R X.K f Z2 fpx s2 σ H2 := r2.unwipe hn
    exact .inl ⟨(w Z2 H2 z2 r2.zh _).2 (Nat.le_refl _), last _ _ _ _ _ z2 r5 ⟨⟨vacc, hDl, pa⟩, hf, hoff⟩ q2⟩
def compW2 (gd : DG) (tt : DTT) (wi1 : DTI) (gd1 : DG) (tt1 : DTT) (te : DTE) (vs vs1 : List Nat) : List PyData → List PyData → DSt → (List PyData → DSt → Prop) → Prop
  | [], acc, s, Q => Q acc s
  | d :: ds, acc, s, Q => gd d s fun s1 => tt s1 fun b s2 => if b = true then wi1 s2 fun ds1 s3 => compW gd1 tt1 te vs1 ds1 acc (forgetAll vs1 s3) fun acc1 s4 => compW2 gd tt wi1 gd1 tt1 te vs vs1 ds acc1 (forgetAll vs s4) Q
    else compW2 gd tt wi1 gd1 tt1 te vs vs1 ds acc (forgetAll vs s2) Q
theorem compW2_mono {gd gd1 : DG} {tt tt1 : DTT} {wi1 : DTI} {te : DTE} {vs vs1 : List Nat} (hg : ∀ d s Q Q', (∀ s', Q s' → Q' s') → gd d s Q → gd d s Q') (ht : ∀ s Q Q', (∀ o s', Q o s' → Q' o s') → tt s Q → tt s Q')
    (hi1 : ∀ s Q Q', (∀ o s', Q o s' → Q' o s') → wi1 s Q → wi1 s Q') (hg1 : ∀ d s Q Q', (∀ s', Q s' → Q' s') → gd1 d s Q → gd1 d s Q') (ht1 : ∀ s Q Q', (∀ o s', Q o s' → Q' o s') → tt1 s Q → tt1 s Q')
    (he : ∀ s Q Q', (∀ o s', Q o s' → Q' o s') → te s Q → te s Q') {Q Q' : List PyData → DSt → Prop} (hq : ∀ o s', Q o s' → Q' o s') : ∀ (ds acc : List PyData) (s : DSt), compW2 gd tt wi1 gd1 tt1 te vs vs1 ds acc s Q → compW2 gd tt wi1 gd1 tt1 te vs vs1 ds acc s Q'
  | [], acc, s, h => hq _ _ h
  | d :: ds, acc, s, h => by
    refine hg _ _ _ _ (fun s1 h1 => ht _ _ _ (fun b s2 h2 => ?_) h1) h
    cases b with
    | true => exact hi1 _ _ _ (fun ds1 s3 h3 => compW_mono hg1 ht1 he (fun acc1 s4 h4 => compW2_mono hg ht hi1 hg1 ht1 he hq ds _ _ h4) _ _ _ h3) h2
    | false => exact compW2_mono hg ht hi1 hg1 ht1 he hq ds _ _ h2
def eComp2 (wi : DTI) (gd : DG) (tt : DTT) (wi1 : DTI) (gd1 : DG) (tt1 : DTT) (te : DTE) (vs vs1 : List Nat) : DTE := fun s Q => wi s fun ds s1 => compW2 gd tt wi1 gd1 tt1 te vs vs1 ds [] (forgetAll vs s1) fun acc s2 => Q (.lst acc) s2
/-- the first clause of the block -/
structure Blk2 (X : Cx) (tg : Expr) (ifs : List Expr) (tg1 iter1 : Expr) (scope : Scope) (is : List Nat) (g : TG) (gd : DG) (tt : DTT) (wi1 : DTI) : Prop where
  g : ∀ (s : Shared) (H : Hp) (C : Addr) (cl : List (Str × Addr)) (fp : List Addr), GD (X.blk s H scope (compEnvC scope cl C X.env) fp) tg is g gd
  t : ∀ (s : Shared) (H : Hp) (C : Addr) (cl : List (Str × Addr)) (fp : List Addr), DTs (X.blk s H scope (compEnvC scope cl C X.env) fp) ifs tt
  i : ∀ (s : Shared) (H : Hp) (C : Addr) (cl : List (Str × Addr)) (fp : List Addr), DI (X.blk s H scope (compEnvC scope cl C X.env) fp) tg1 iter1 wi1
theorem eComp2_mono (hi : DI X tg iter wi) (b2 : Blk2 X tg ifs tg1 iter1 scope is g gd tt wi1) (b : Blk X tg1 ifs1 elt scope is1 g1 gd1 tt1 te) {vs vs1 : List Nat} : ∀ s Q Q', (∀ o s', Q o s' → Q' o s') → eComp2 wi gd tt wi1 gd1 tt1 te vs vs1 s Q → eComp2 wi gd tt wi1 gd1 tt1 te vs vs1 s Q' := fun s Q Q' hq h => by
  have z : Shared := {}
  exact hi.mono _ _ _ (fun ds s1 w => compW2_mono (b2.g z (fun _ => none) 0 [] []).mono (b2.t z (fun _ => none) 0 [] []).mono (b2.i z (fun _ => none) 0 [] []).mono (b.g z (fun _ => none) 0 [] []).mono (b.t z (fun _ => none) 0 [] []).mono (b.e z (fun _ => none) 0 [] []).mono (fun acc s2 q => hq _ _ q) ds _ _ w) h
theorem lc2_go (hi : DI X tg iter wi) (b2 : Blk2 X tg ifs tg1 iter1 scope is g gd tt wi1) (b : Blk X tg1 ifs1 elt scope is1 g1 gd1 tt1 te) {vs vs1 : List Nat} (hv : ∀ i ∈ is, i ∈ vs) (hv1 : ∀ i ∈ is1, i ∈ vs1) {σ : L2.St} {H : Hp} {Q : VK} (h : lift X.K (eComp2 wi gd tt wi1 gd1 tt1 te vs vs1) σ H Q) :
    tLc2 (liftI X.K wi) g (liftT X.K tt) (liftI X.K wi1) g1 (liftT X.K tt1) (lift X.K te) vs vs1 σ H Q := by
  obtain ⟨f, Z, fp, s, r, h⟩ := h
  refine ⟨f, Z, fp, s, r, hi.mono _ _ _ (fun ds s1 q Z1 fp1 J H1 z1 r1 w D hD => ?_) h⟩
  have hT : ∀ s0 : Shared, GD (X.blk s0 (fun _ => none) scope (compEnvC scope [] 0 X.env) []) tg is g gd := fun s0 => b2.g s0 _ _ _ _
  obtain ⟨fp2, r2, sub⟩ := r1.wipe vs
  have fr := r1.newFree hD
  have r3 := r2.freshO (.lst []) hD
  have off : ∀ i, D ∉ fp2 i := fun i hh => r1.off hD i (sub i D hh)
  refine ⟨fun i m Hh => m = ds.length - i ∧ i ≤ ds.length ∧ ∃ Z2 fp2 s2 acc vacc, Same Z1 Z2 ∧ R X.K f Z2 fp2 s2 (wipe σ vs) Hh ∧ (∀ j ∈ vs, s2.getD j .no = .no) ∧ Hh D = some (.lst vacc) ∧ RpA X.K Z2 vacc acc ∧ Free f Z2 D ∧
    (∀ j, D ∉ fp2 j) ∧ compW2 gd tt wi1 gd1 tt1 te vs vs1 (ds.drop i) acc s2 (fun acc s' => Told X.K f Z s' σ (.lst acc) Q), ⟨ds.length, by simp, Nat.zero_le _, Z1, fp2, _, [], [], Same.rfl', r3, fun j hj => forgetAll_in hj, upd_same, .nil, fr, off, q⟩, ?_⟩
  rintro i m H2 ⟨rfl, hi2, Z2, fpx, s2, acc, vacc, z2, r2, hn, hDl, pa, hf, hoff, q2⟩
  rcases Nat.lt_or_ge i ds.length with hlt | hge
  · refine .inr ?_
    have hd : ds[i]? = some ds[i] := List.getElem?_eq_getElem hlt
    have hw := (w Z2 H2 z2 r2.zh i).1 _ hd
    let Nx : Hp → Prop := fun Hh => ∃ Z2 fp2 s2 acc vacc, Same Z1 Z2 ∧ R X.K f Z2 fp2 s2 (wipe σ vs) Hh ∧ (∀ j ∈ vs, s2.getD j .no = .no) ∧ Hh D = some (.lst vacc) ∧ RpA X.K Z2 vacc acc ∧ Free f Z2 D ∧
      (∀ j, D ∉ fp2 j) ∧ compW2 gd tt wi1 gd1 tt1 te vs vs1 (ds.drop (i + 1)) acc s2 (fun acc s' => Told X.K f Z s' σ (.lst acc) Q)
    refine ⟨hw.1, Nx, fun H' hh => ⟨ds.length - (i + 1), by omega, rfl, hlt, hh⟩, fun x H3 y => ?_⟩
    rw [List.drop_eq_getElem_cons hlt] at q2
    obtain ⟨Z3, y1, y2, y3, p3, y4⟩ := hw.2 x H3 y
    obtain ⟨Z3', z3, r3, p3'⟩ : ∃ Z', Same Z2 Z' ∧ R X.K f Z' fpx s2 (wipe σ vs) H3 ∧ (Rp X.K Z' x ds[i] ∧ Z' D = none) :=
      ⟨Z3, y1, r2.grow (fun _ => False) y2 y1 (fun _ z => z.elim) (fun a o e _ => y3 _ _ e) (fun a h1 h2 _ => y4 a h1 h2) (fun _ z => z.elim), p3, y4 D (by rw [hDl]; simp) hf.1⟩
    have hD3 : H3 D = some (.lst vacc) := y3 _ _ hDl
    have base := r3.rebase
    have hnp : ¬ (base1 f Z3' H3 fpx).pl D := fun ⟨j, hj⟩ => hoff j hj
    have fin : ∀ {Z' fp' s' σ' H'}, R X.K (base1 f Z3' H3 fpx) Z' fp' s' σ' H' → R X.K f Z' fp' s' σ' H' ∧ H' D = some (.lst vacc) ∧ Free f Z' D ∧ ∀ j, D ∉ fp' j := fun {Z' fp' s' σ' H'} r' => by
      have hz : Z' D = none := r'.nz D (by show H3 D ≠ none; rw [hD3]; simp) p3'.2 hnp
      refine ⟨r3.back r', r'.keep D _ hD3 hnp, ⟨hz, hf.2⟩, fun j hj => ?_⟩
      rcases ((r'.slot j).free D hj).2.1 with z | z
      · exact hnp z
      · have z' : H3 D = none := z
        rw [hD3] at z'
        cases z'
    refine (hT {}).go (X := X.blk {} (fun _ => none) scope (compEnvC scope [] 0 X.env) []) base p3'.1 q2 fun fp4 s4 σ4 r4 o4 q4 => ⟨wipe_of o4 hv, ?_⟩
    refine ⟨_, Z3', fp4, s4, r4, (b2.t {} (fun _ => none) 0 [] []).mono _ _ _ (fun b5 s5 q5 Z5 fp5 H5 z5 r5 => ?_) q4⟩
    cases b5 with
    | true =>
      refine ⟨_, Z5, fp5, s5, r5, (b2.i {} (fun _ => none) 0 [] []).mono _ _ _ (fun ds1 s6 q6 Z6 fp6 J1 H6 z6 r6 w1 => ?_) q5⟩
      obtain ⟨r7, hD7, hf7, off7⟩ := fin r6
      have zz : Same Z2 Z6 := z3.trans (z5.trans z6)
      refine lc_inner b hv1 w1 r7 ⟨⟨vacc, hD7, pa.up zz⟩, hf7, off7⟩ q6 fun Z8 fp8 s8 acc8 H8 z8 r8 at8 q8 => ?_
      obtain ⟨fp9, r9, sub9⟩ := r8.wipe vs
      rw [wipe_of o4 hv] at r9
      obtain ⟨vacc8, hD8, pa8⟩ := at8.ex
      exact ⟨Z8, fp9, forgetAll vs s8, acc8, vacc8, z2.trans (zz.trans z8), r9, fun j hj => forgetAll_in hj, hD8, pa8, at8.fr, fun j hj => at8.off j (sub9 j D hj), q8⟩
    | false =>
      obtain ⟨r7, hD7, hf7, off7⟩ := fin r5
      obtain ⟨fp8, r8, sub8⟩ := r7.wipe vs
      rw [wipe_of o4 hv] at r8
      have zz : Same Z2 Z5 := z3.trans z5
      exact ⟨Z5, fp8, forgetAll vs s5, acc, vacc, z2.trans zz, r8, fun j hj => forgetAll_in hj, hD7, pa.up zz, hf7, fun j hj => off7 j (sub8 j D hj), q5⟩
  · have e : i = ds.length := by omega
    subst e
    rw [List.drop_length] at q2
    have r5 : R X.K f Z2 fpx s2 σ H2 := r2.unwipe hn
    refine .inl ⟨(w Z2 H2 z2 r2.zh _).2 (Nat.le_refl _), ?_⟩
    exact q2 Z2 fpx _ H2 [D] (z1.trans z2) r5 (.lst hf hDl pa) (by simp) fun i a ha => by
      cases List.mem_singleton.mp ha
      exact hoff i
theorem de_comp2 (hc : XC N sc k dd X) (hi : DI X tg iter wi) (b2 : Blk2 X tg ifs tg1 iter1 scope is g gd tt wi1) (b : Blk X tg1 ifs1 elt scope is1 g1 gd1 tt1 te) (ok : blkC N sc scope own = true) {vs1 : List Nat} (hv : ∀ i ∈ is, i ∈ own.map (·.2)) (hv1 : ∀ i ∈ is1, i ∈ vs1) (hvs : ∀ i ∈ vs1, i ∈ own.map (·.2))
    (hs : ∀ x, foldedSetIterable iter X.env x = pure x) (hs1 : ∀ env x, foldedSetIterable iter1 env x = pure x) :
    DE X (.ListComp elt [⟨tg, iter, ifs, 0⟩, ⟨tg1, iter1, ifs1, 0⟩] scope pos) (eComp2 wi gd tt wi1 gd1 tt1 te (own.map (·.2)) vs1) :=
  ⟨eComp2_mono hi b2 b, PE.weak (pe_lc2 (own := own) (vs1 := vs1) (tt := liftT X.K tt) (tt1 := liftT X.K tt1) (te := lift X.K te) hc.calm (hc.hN ▸ hc.nd) hi.pi (hc.hN ▸ hc.hS ▸ blkOk_by ok) hvs (fun s H C cl fp => (b2.g s H C cl fp).pg) (fun s H C cl fp => (b2.t s H C cl fp).pts)
    (fun s H C cl fp => (b2.i s H C cl fp).pi) (fun s H C cl fp => (b.g s H C cl fp).pg) (fun s H C cl fp => (b.t s H C cl fp).pts) (fun s H C cl fp => (b.e s H C cl fp).pe) hs hs1)
    fun σ H Q h => lc2_go hi b2 b hv hv1 h⟩
end
@[simp] theorem v_slLto {ds : List PyData} {n : Nat} : gSl (.list ds) none (some (n : Int)) = some (.lst (ds.take n)) := by
  show some (OV.lst (cutD ds none (some (n : Int)))) = _
  rw [cut_to]
@[simp] theorem v_slLfrom {ds : List PyData} {n : Nat} : gSl (.list ds) (some (n : Int)) none = some (.lst (ds.drop n)) := by
  show some (OV.lst (cutD ds (some (n : Int)) none)) = _
  rw [cut_from]
class KC2 where
  g : DG
  t : DTT
  w : DTI
  g1 : DG
  t1 : DTT
  e : DTE
  v : List Nat
  v1 : List Nat
  q : List PyData → DSt → Prop
/-- the turns of a comprehension with two fors -/
def Comp2I (ds acc : List PyData) (s : DSt) [k : KC2] : Prop := compW2 k.g k.t k.w k.g1 k.t1 k.e k.v k.v1 ds acc s k.q
@[simp ↓] theorem run_comp2 {wi wi1 : DTI} {gd gd1 : DG} {tt tt1 : DTT} {te : DTE} {vs vs1 : List Nat} {s : DSt} {Q : OV → DSt → Prop} : eComp2 wi gd tt wi1 gd1 tt1 te vs vs1 s Q = wi s fun ds s1 => @Comp2I ds [] (forgetAll vs s1) ⟨gd, tt, wi1, gd1, tt1, te, vs, vs1, fun acc s2 => Q (.lst acc) s2⟩ := rfl
theorem compW_acc {gd : DG} {te : DTE} {vs : List Nat} {s : DSt} (g : PyData → PyData) {Q : List PyData → DSt → Prop} : ∀ (ds acc : List PyData), (∀ d ∈ ds, ∀ (acc : List PyData) (R : List PyData → DSt → Prop), acc.length < sizeLine → R (acc ++ [g d]) s → gd d s fun s1 => te s1 fun o s3 => Cond (acc.length < sizeLine) (R (acc ++ [o.data]) (forgetAll vs s3))) →
    acc.length + ds.length ≤ sizeLine → Q (acc ++ ds.map g) s → compW gd tYesD te vs ds acc s Q
  | [], acc, _, _, q => by
    rw [List.map_nil, List.append_nil] at q
    exact q
  | d :: ds, acc, h, hl, q => by
    rw [List.length_cons] at hl
    refine h d (.head _) acc (fun acc s' => compW gd tYesD te vs ds acc s' Q) (by omega) ?_
    refine compW_acc g ds (acc ++ [g d]) (fun x hx => h x (.tail _ hx)) (by simp only [List.length_append, List.length_cons, List.length_nil]; omega) ?_
    rw [List.append_assoc]
    exact q
/-- [h(a, b) for a in ds for b in es] -/
theorem comp2_pure {gd gd1 : DG} {wi1 : DTI} {te : DTE} {vs vs1 : List Nat} {ds es : List PyData} {s : DSt} {Q : List PyData → DSt → Prop} (st : PyData → DSt) (h : PyData → PyData → PyData) (hsz : ds.length * es.length ≤ sizeLine)
    (hg : ∀ d ∈ ds, ∀ R : DSt → Prop, R (st d) → gd d s R) (hw : ∀ d ∈ ds, ∀ R : List PyData → DSt → Prop, R es (st d) → wi1 (st d) R) (hf1 : ∀ d ∈ ds, forgetAll vs1 (st d) = st d) (hf : ∀ d ∈ ds, forgetAll vs (st d) = s)
    (step : ∀ d ∈ ds, ∀ e ∈ es, ∀ (acc : List PyData) (R : List PyData → DSt → Prop), acc.length < sizeLine → R (acc ++ [h d e]) (st d) → gd1 e (st d) fun s1 => te s1 fun o s3 => Cond (acc.length < sizeLine) (R (acc ++ [o.data]) (forgetAll vs1 s3)))
    (last : Q (ds.flatMap fun d => es.map (h d)) s) : @Comp2I ds [] s ⟨gd, tYesD, wi1, gd1, tYesD, te, vs, vs1, Q⟩ := by
  show compW2 gd tYesD wi1 gd1 tYesD te vs vs1 ds [] s Q
  suffices H : ∀ (rest acc : List PyData), (∀ d ∈ rest, d ∈ ds) → acc.length + rest.length * es.length ≤ sizeLine → Q (acc ++ rest.flatMap fun d => es.map (h d)) s → compW2 gd tYesD wi1 gd1 tYesD te vs vs1 rest acc s Q by
    exact H ds [] (fun _ h => h) (by simpa using hsz) (by simpa using last)
  intro rest
  induction rest with
  | nil => intro acc _ _ q; rw [List.flatMap_nil, List.append_nil] at q; exact q
  | cons d r ih =>
    intro acc hm hl q
    rw [List.length_cons, Nat.add_mul, Nat.one_mul] at hl
    have hd := hm d (.head _)
    refine hg d hd (fun s1 => tYesD s1 fun b s2 => if b = true then wi1 s2 fun ds1 s3 => compW gd1 tYesD te vs1 ds1 acc (forgetAll vs1 s3) fun acc1 s4 => compW2 gd tYesD wi1 gd1 tYesD te vs vs1 r acc1 (forgetAll vs s4) Q else compW2 gd tYesD wi1 gd1 tYesD te vs vs1 r acc (forgetAll vs s2) Q) ?_
    refine hw d hd (fun ds1 s3 => compW gd1 tYesD te vs1 ds1 acc (forgetAll vs1 s3) fun acc1 s4 => compW2 gd tYesD wi1 gd1 tYesD te vs vs1 r acc1 (forgetAll vs s4) Q) ?_
    show compW gd1 tYesD te vs1 es acc (forgetAll vs1 (st d)) _
    rw [hf1 d hd]
    refine compW_acc (h d) es acc (fun e he acc R ha hR => step d hd e he acc R ha hR) (by omega) ?_
    rw [hf d hd]
    refine ih _ (fun x hx => hm x (.tail _ hx)) (by simp only [List.length_append, List.length_map]; omega) ?_
    rw [List.append_assoc]
    exact q
theorem ups_len2 {a : Int} {n : Nat} : (ups a n).length = n := by unfold ups; simp
theorem ups0 {n : Nat} : ups 0 n = (List.range n).map fun i : Nat => PyData.int (i : Nat) := by
  unfold ups
  exact congrArg (fun f => List.map f (List.range n)) (funext fun i => by rw [Int.zero_add])
theorem gIx_nthL {ds : List PyData} {k : Nat} {d : PyData} (h : ds[k]? = some d) : gIx (.list ds) (.int k) = some (.fz d) := (show gIx (.list ds) (.int k) = gIx (.tuple ds) (.int k) from rfl).trans (gIx_nth h)
theorem gIx_end {ds : List PyData} {d : PyData} : gIx (.list (ds ++ [d])) (.int (-1)) = some (.fz d) := by
  show (atI (ds ++ [d]) (-1)).map OV.fz = _
  have : atI (ds ++ [d]) (-1) = some d := by
    unfold atI ixN
    rw [if_neg (by decide), if_pos (by simp; omega)]
    have e : ((-1 : Int) + (((ds ++ [d]).length : Nat) : Int)).toNat = ds.length := by simp; omega
    show (ds ++ [d])[((-1 : Int) + (((ds ++ [d]).length : Nat) : Int)).toNat]? = _
    rw [e]
    simp
  rw [this]
  rfl
/-- a, b = 1, 0: the written tuple is one constant -/
theorem swn_of {X : Cx} {N : List Str} {sc : Scope} {k : Nat} {dd : Bool} (hc : XC N sc k dd X) {x y : Str} {a b : Expr} {px py pt pt2 : Pos} {kt k2 : Nat} (hk : sc.kind = .function)
    (lx : sc.names.lookup x = some .local) (ly : sc.names.lookup y = some .local) (hl : (px.line == py.line) = true) (hne : [x, y].eraseDups.length = 2)
    (ns : ([a, b].any fun | .Starred .. => true | _ => false) = false) (hf : [a, b].all (foldedForSure 8) = true) :
    swappedStores [.Tuple [.Name x px, .Name y py] kt pt] (.Tuple [a, b] k2 pt2) X.env = pure none := by
  have e1 : X.env.kindOf x = some .local := by unfold Env.kindOf; rw [hc.hS]; exact lx
  have e2 : X.env.kindOf y = some .local := by unfold Env.kindOf; rw [hc.hS]; exact ly
  have e3 : (X.env.blockKind != .function) = false := by unfold Env.blockKind; rw [hc.hS, hk]; rfl
  have e4 : (px.line == px.line) = true := beq_self_eq_true _
  have e5 : (py.line == px.line) = true := by rw [beq_iff_eq] at hl ⊢; exact hl.symm
  unfold swappedStores
  simp only [List.length_cons, List.length_nil, e3, ns, hf, List.head?_cons, Option.map_some, Option.getD_some, Expr.pos, List.filterMap_cons, List.filterMap_nil, e1, e2, e4, e5]
  refine (if_neg (by decide)).trans ((if_neg fun h => ?_).trans ((if_neg ?_).trans (if_pos trivial)))
  · exact Bool.noConfusion (ns.symm.trans h)
  · show ¬ (((2 : Nat) != 2) || ([x, y].eraseDups.length != 2)) = true
    rw [hne]
    decide
end L2.DL

set_option maxRecDepth 100000
set_option maxHeartbeats 4000000
namespace L2.K60
open PySem PySem.Spec L2.DL
def top (i : Nat) : Stmt := PySem.Challenge.pw_watchednodes_k60_rows_of_several.main.body.getD i (.Pass ⟨0, 0, 0, 0⟩)
abbrev s_is_beginning : Stmt := top 1
abbrev N_is_beginning : List Str := ["one", "other"]
theorem sc_is_beginning : FnScope N_is_beginning ["one", "other"] (defScope s_is_beginning) := ⟨rfl, rfl, rfl, by decide +kernel, rfl, by decide +kernel, by decide +kernel⟩
theorem bn_is_beginning : BindsN "is_beginning" s_is_beginning ["one", "other"] := fun _ _ _ _ _ _ us hl => match us, hl with | [_, _], _ => rfl
abbrev s_are_beginnings : Stmt := top 3
abbrev N_are_beginnings : List Str := ["rows", "one", "other"]
theorem sc_are_beginnings : FnScope N_are_beginnings ["rows"] (defScope s_are_beginnings) := ⟨rfl, rfl, rfl, by decide +kernel, rfl, by decide +kernel, by decide +kernel⟩
theorem bn_are_beginnings : BindsN "are_beginnings" s_are_beginnings ["rows"] := fun _ _ _ _ _ _ us hl => match us, hl with | [_], _ => rfl
abbrev s__law_pool : Stmt := top 5
abbrev N__law_pool : List Str := ["_law_script", "_law_k", "_law_cell", "_law_size", "_law_seed"]
theorem sc__law_pool : FnScope N__law_pool ["_law_script", "_law_k"] (defScope s__law_pool) := ⟨rfl, rfl, rfl, by decide +kernel, rfl, by decide +kernel, by decide +kernel⟩
theorem bn__law_pool : BindsN "_law_pool" s__law_pool ["_law_script", "_law_k"] := fun _ _ _ _ _ _ us hl => match us, hl with | [_, _], _ => rfl
abbrev s__law_take : Stmt := top 6
abbrev N__law_take : List Str := ["_law_pool_here", "_law_many", "_law_found"]
theorem sc__law_take : FnScope N__law_take ["_law_pool_here", "_law_many"] (defScope s__law_take) := ⟨rfl, rfl, rfl, by decide +kernel, rfl, by decide +kernel, by decide +kernel⟩
theorem bn__law_take : BindsN "_law_take" s__law_take ["_law_pool_here", "_law_many"] := fun _ _ _ _ _ _ us hl => match us, hl with | [_, _], _ => rfl
abbrev s__law_one : Stmt := top 7
abbrev N__law_one : List Str := ["_law_pool_here", "_law_some"]
theorem sc__law_one : FnScope N__law_one ["_law_pool_here", "_law_some"] (defScope s__law_one) := ⟨rfl, rfl, rfl, by decide +kernel, rfl, by decide +kernel, by decide +kernel⟩
theorem bn__law_one : BindsN "_law_one" s__law_one ["_law_pool_here", "_law_some"] := fun _ _ _ _ _ _ us hl => match us, hl with | [_, _], _ => rfl
abbrev s__law_text : Stmt := top 8
abbrev N__law_text : List Str := ["_law_pool_here"]
theorem sc__law_text : FnScope N__law_text ["_law_pool_here"] (defScope s__law_text) := ⟨rfl, rfl, rfl, by decide +kernel, rfl, by decide +kernel, by decide +kernel⟩
theorem bn__law_text : BindsN "_law_text" s__law_text ["_law_pool_here"] := fun _ _ _ _ _ _ us hl => match us, hl with | [_], _ => rfl
abbrev s__law_path : Stmt := top 9
abbrev N__law_path : List Str := ["_law_pool_here"]
theorem sc__law_path : FnScope N__law_path ["_law_pool_here"] (defScope s__law_path) := ⟨rfl, rfl, rfl, by decide +kernel, rfl, by decide +kernel, by decide +kernel⟩
theorem bn__law_path : BindsN "_law_path" s__law_path ["_law_pool_here"] := fun _ _ _ _ _ _ us hl => match us, hl with | [_], _ => rfl
abbrev s__law_count : Stmt := top 10
abbrev N__law_count : List Str := ["_law_pool_here"]
theorem sc__law_count : FnScope N__law_count ["_law_pool_here"] (defScope s__law_count) := ⟨rfl, rfl, rfl, by decide +kernel, rfl, by decide +kernel, by decide +kernel⟩
theorem bn__law_count : BindsN "_law_count" s__law_count ["_law_pool_here"] := fun _ _ _ _ _ _ us hl => match us, hl with | [_], _ => rfl
abbrev s__law_plain : Stmt := top 11
abbrev N__law_plain : List Str := ["_law_pool_here", "_law_way", "_law_path_here"]
theorem sc__law_plain : FnScope N__law_plain ["_law_pool_here"] (defScope s__law_plain) := ⟨rfl, rfl, rfl, by decide +kernel, rfl, by decide +kernel, by decide +kernel⟩
theorem bn__law_plain : BindsN "_law_plain" s__law_plain ["_law_pool_here"] := fun _ _ _ _ _ _ us hl => match us, hl with | [_], _ => rfl
abbrev s__law_deed : Stmt := top 12
abbrev N__law_deed : List Str := ["_law_pool_here", "_law_way", "_law_turn"]
theorem sc__law_deed : FnScope N__law_deed ["_law_pool_here"] (defScope s__law_deed) := ⟨rfl, rfl, rfl, by decide +kernel, rfl, by decide +kernel, by decide +kernel⟩
theorem bn__law_deed : BindsN "_law_deed" s__law_deed ["_law_pool_here"] := fun _ _ _ _ _ _ us hl => match us, hl with | [_], _ => rfl
abbrev s__law_row : Stmt := top 13
abbrev N__law_row : List Str := ["_law_pool_here", "_law_row_here", "_law_epoch", "_law_number", "_law_turn"]
theorem sc__law_row : FnScope N__law_row ["_law_pool_here"] (defScope s__law_row) := ⟨rfl, rfl, rfl, by decide +kernel, rfl, by decide +kernel, by decide +kernel⟩
theorem bn__law_row : BindsN "_law_row" s__law_row ["_law_pool_here"] := fun _ _ _ _ _ _ us hl => match us, hl with | [_], _ => rfl
abbrev s__law_near : Stmt := top 14
abbrev N__law_near : List Str := ["_law_pool_here", "_law_row_here", "_law_way", "_law_at", "_law_place", "_law_entry"]
theorem sc__law_near : FnScope N__law_near ["_law_pool_here", "_law_row_here"] (defScope s__law_near) := ⟨rfl, rfl, rfl, by decide +kernel, rfl, by decide +kernel, by decide +kernel⟩
theorem bn__law_near : BindsN "_law_near" s__law_near ["_law_pool_here", "_law_row_here"] := fun _ _ _ _ _ _ us hl => match us, hl with | [_, _], _ => rfl
abbrev s__law_is_beginning : Stmt := top 15
abbrev N__law_is_beginning : List Str := ["_law_one_here", "_law_other", "_law_k"]
theorem sc__law_is_beginning : FnScope N__law_is_beginning ["_law_one_here", "_law_other"] (defScope s__law_is_beginning) := ⟨rfl, rfl, rfl, by decide +kernel, rfl, by decide +kernel, by decide +kernel⟩
theorem bn__law_is_beginning : BindsN "_law_is_beginning" s__law_is_beginning ["_law_one_here", "_law_other"] := fun _ _ _ _ _ _ us hl => match us, hl with | [_, _], _ => rfl
abbrev s_law : Stmt := top 16
abbrev N_law : List Str := ["_law_script", "_law_k", "_law_pool_here", "_law_turn", "_law_row_here", "_law_some", "_law_rows", "_law_due", "_law_one_here", "_law_other", "_law_kept"]
theorem sc_law : FnScope N_law ["_law_script"] (defScope s_law) := ⟨rfl, rfl, rfl, by decide +kernel, rfl, by decide +kernel, by decide +kernel⟩
theorem bn_law : BindsN "law" s_law ["_law_script"] := fun _ _ _ _ _ _ us hl => match us, hl with | [_], _ => rfl
def ItB (c : Nat) (x : PyData) : Prop := ∃ (a b : Nat) (e : PyData), x = .tuple [.tuple [.int (a : Nat), .int (b : Nat)], e] ∧ a ≤ c ∧ b ≤ 100 ∧ Fn e 100000 4
def RwB (c : Nat) (l : List PyData) : Prop := l.length ≤ 12 ∧ ∀ x ∈ l, ItB c x
def begB : List PyData → List PyData → Bool
  | [], _ => true
  | _ :: _, [] => false
  | x :: a, y :: b => PyData.eqv x y && begB a b
def c_is_beginning : DC := fun svs Q => ∃ a b, svs = [.dat (.list a), .dat (.list b)] ∧ RwB 100 a ∧ RwB 100 b ∧ Q (.fz (.bool (begB a b)))
theorem m_is_beginning : c_is_beginning.Mono := fun svs Q Q' hq ⟨a, b, h1, h2, h3, h4⟩ => ⟨a, b, h1, h2, h3, hq _ h4⟩
def c_are_beginnings : DC := fun svs Q => ∃ rs : List (List PyData), svs = [.dat (.list (rs.map .list))] ∧ rs.length ≤ 100 ∧ (∀ r ∈ rs, RwB 100 r) ∧ Q (.fz (.bool (rs.all fun a => rs.all fun b => begB a b || begB b a)))
theorem m_are_beginnings : c_are_beginnings.Mono := fun svs Q Q' hq ⟨a, h1, h2, h3, h4⟩ => ⟨a, h1, h2, h3, hq _ h4⟩
def c__law_one : DC := fun svs Q => ∃ L, svs = [.pool, .dat (.list L)] ∧ 0 < L.length ∧ L.length < 1000 ∧ ∀ d ∈ L, Q (.fz d)
theorem m__law_one : c__law_one.Mono := fun svs Q Q' hq ⟨a, h1, h2, h3, h4⟩ => ⟨a, h1, h2, h3, fun d h => hq _ (h4 d h)⟩
def cDrawn (W D : Nat) : DC := fun svs Q => svs = [.pool] ∧ ∀ d, Fn d W D → Q (.fz d)
theorem cDrawn_mono {W D : Nat} : (cDrawn W D).Mono := fun svs Q Q' hq ⟨h1, h4⟩ => ⟨h1, fun d h => hq _ (h4 d h)⟩
abbrev c__law_text : DC := cDrawn 2002 0
theorem m__law_text : c__law_text.Mono := cDrawn_mono
abbrev c__law_path : DC := cDrawn 2002 0
theorem m__law_path : c__law_path.Mono := cDrawn_mono
abbrev c__law_count : DC := cDrawn 2002 0
theorem m__law_count : c__law_count.Mono := cDrawn_mono
abbrev c__law_plain : DC := cDrawn 11000 1
theorem m__law_plain : c__law_plain.Mono := cDrawn_mono
abbrev c__law_deed : DC := cDrawn 70000 3
theorem m__law_deed : c__law_deed.Mono := cDrawn_mono
def c__law_row : DC := fun svs Q => svs = [.pool] ∧ ∀ l, l.length ≤ 10 → (∀ x ∈ l, ItB 50 x) → Q (.fz (.list l))
theorem m__law_row : c__law_row.Mono := fun svs Q Q' hq ⟨h1, h4⟩ => ⟨h1, fun d h h' => hq _ (h4 d h h')⟩
def c__law_near : DC := fun svs Q => ∃ l, svs = [.pool, .dat (.list l)] ∧ l.length ≤ 10 ∧ (∀ x ∈ l, ItB 50 x) ∧ ∀ l', l'.length ≤ 11 → (∀ x ∈ l', ItB 100 x) → Q (.lst l')
theorem m__law_near : c__law_near.Mono := fun svs Q Q' hq ⟨l, h1, h2, h3, h4⟩ => ⟨l, h1, h2, h3, fun d h h' => hq _ (h4 d h h')⟩
abbrev c__law_is_beginning : DC := c_is_beginning
theorem m__law_is_beginning : c__law_is_beginning.Mono := m_is_beginning
structure Txt (K : PySem.W.Frag) (mg : Str → Option Value) : Prop where
  h_is_beginning : Here K mg "is_beginning" s_is_beginning
  h_are_beginnings : Here K mg "are_beginnings" s_are_beginnings
  h__law_pool : Here K mg "_law_pool" s__law_pool
  h__law_take : Here K mg "_law_take" s__law_take
  h__law_one : Here K mg "_law_one" s__law_one
  h__law_text : Here K mg "_law_text" s__law_text
  h__law_path : Here K mg "_law_path" s__law_path
  h__law_count : Here K mg "_law_count" s__law_count
  h__law_plain : Here K mg "_law_plain" s__law_plain
  h__law_deed : Here K mg "_law_deed" s__law_deed
  h__law_row : Here K mg "_law_row" s__law_row
  h__law_near : Here K mg "_law_near" s__law_near
  h__law_is_beginning : Here K mg "_law_is_beginning" s__law_is_beginning
  h_law : Here K mg "law" s_law
  z_abs : mg "abs" = none
  z_all : mg "all" = none
  z_int : mg "int" = none
  z_len : mg "len" = none
  z_list : mg "list" = none
  z_max : mg "max" = none
  z_min : mg "min" = none
  z_range : mg "range" = none
  z_repr : mg "repr" = none
  z_tuple : mg "tuple" = none
def t_is_beginning : DTS := (sRet (eBin gEq (eSl (eNam 1) oNone (oSome (eBlt gLen (aCons (eNam 0) aNil)))) (eNam 0)))
theorem b_is_beginning {X : Cx} (hc : XC N_is_beginning (defScope s_is_beginning) 0 true X) (T : Txt X.K X.mg) : DSs X (defBody s_is_beginning) t_is_beginning :=
    (dss_one (ds_ret (de_cmp (op_eqD hc.room.units) od_eq (de_slice (de_nam hc 1 rfl (.inl rfl) rfl rfl) do_none (do_some (de_callB call_len cd_len (gl_of hc rfl) T.z_len (by decide +kernel) (da_cons (de_nam hc 0 rfl (.inl rfl) rfl rfl) da_nil rfl) (by decide) rfl rfl rfl))) (de_nam hc 0 rfl (.inl rfl) rfl rfl) (nomark _))))
def t_are_beginnings : DTS := (sRet (eBlt gAll (aCons (eComp2 (iSeq (eNam 0)) (gN 1) tYesD (iSeq (eNam 0)) (gN 2) tYesD (eOr (eCall 2 c_is_beginning (pDat (eNam 1) (pDat (eNam 2) pNil))) (eCall 2 c_is_beginning (pDat (eNam 2) (pDat (eNam 1) pNil)))) [1, 2] [2]) aNil)))
theorem b_are_beginnings {X : Cx} (hc : XC N_are_beginnings (defScope s_are_beginnings) 1 true X) (T : Txt X.K X.mg) (C_is_beginning : Callee X.prog X.w X.K X.mg X.base "is_beginning" s_is_beginning 1 2 ["one", "other"] c_is_beginning) : DSs X (defBody s_are_beginnings) t_are_beginnings :=
    (dss_one (ds_ret (de_callB (cr_all hc.calm) cd_all (gl_of hc rfl) T.z_all (by decide +kernel) (da_cons (de_comp2 (own := [("one", 1), ("other", 2)]) (vs1 := [2]) hc (di_list (de_nam hc 0 rfl (.inr (.inl rfl)) rfl rfl)) ⟨fun s H C cl fp => (gd_name (hc.blk (s := s) (H := H) (C := C) (cl := cl) (fp := fp)) 1 rfl rfl), fun s H C cl fp => dts_nil, fun s H C cl fp => (di_list (de_nam (hc.blk (s := s) (H := H) (C := C) (cl := cl) (fp := fp)) 0 rfl (.inr (.inl rfl)) rfl rfl))⟩ ⟨fun s H C cl fp => (gd_name (hc.blk (s := s) (H := H) (C := C) (cl := cl) (fp := fp)) 2 rfl rfl), fun s H C cl fp => dts_nil, fun s H C cl fp => (de_or (de_callC (hc.blk (s := s) (H := H) (C := C) (cl := cl) (fp := fp)) C_is_beginning (by decide) rfl bn_is_beginning (dp_dat (de_nam (hc.blk (s := s) (H := H) (C := C) (cl := cl) (fp := fp)) 1 rfl (.inl rfl) rfl rfl) (dp_dat (de_nam (hc.blk (s := s) (H := H) (C := C) (cl := cl) (fp := fp)) 2 rfl (.inl rfl) rfl rfl) dp_nil rfl) rfl) rfl rfl rfl) (de_one (de_callC (hc.blk (s := s) (H := H) (C := C) (cl := cl) (fp := fp)) C_is_beginning (by decide) rfl bn_is_beginning (dp_dat (de_nam (hc.blk (s := s) (H := H) (C := C) (cl := cl) (fp := fp)) 2 rfl (.inl rfl) rfl rfl) (dp_dat (de_nam (hc.blk (s := s) (H := H) (C := C) (cl := cl) (fp := fp)) 1 rfl (.inl rfl) rfl rfl) dp_nil rfl) rfl) rfl rfl rfl)))⟩ (by decide +kernel) (by decide) (by decide) (by decide) (fun _ => rfl) (fun _ _ => rfl)) da_nil rfl) (by decide) rfl rfl rfl)))
def t__law_pool : DTS := (sSeq (sAsg 2 (eBin gIx (eBin gAdd (eSl (eNam 0) (oSome (eNam 1)) (oSome (eBin gAdd (eNam 1) (eC (.int (1)))))) (eLst (aCons (eC (.int (0))) aNil))) (eC (.int (0)))))
  (sSeq (sAsg 3 (eBlt gAbs (aCons (eNam 2) aNil)))
  (sSeq (sAsg 4 (eBin gMod (eBin gMul (eBin gAdd (eBin gAdd (eBin gMod (eNam 3) (eC (.int (2147483629)))) (eBin gMul (eC (.int (7919))) (eNam 1))) (eC (.int (1)))) (eC (.int (48271)))) (eC (.int (2147483647)))))
  (sRet (eLst (aCons (eBin gMul (eNam 3) (eBlt gInt (aCons (eBin gGe (eNam 3) (eBin gPow (eC (.int (10))) (eC (.int (18))))) aNil))) (aCons (eNam 4) aNil)))))))
theorem b__law_pool {X : Cx} (hc : XC N__law_pool (defScope s__law_pool) 0 true X) (T : Txt X.K X.mg) : DSs X (defBody s__law_pool) t__law_pool :=
    (dss_cons (ds_set hc 2 rfl rfl (de_ix ix_seq od_ix (de_op or_add od_add (de_slice (de_nam hc 0 rfl (.inl rfl) rfl rfl) (do_some (de_nam hc 1 rfl (.inl rfl) rfl rfl)) (do_some (de_op or_add od_add (de_nam hc 1 rfl (.inl rfl) rfl rfl) de_int))) (de_lst (da_cons de_int da_nil rfl))) de_int (fun _ _ => rfl)) rfl)
      (dss_cons (ds_set hc 3 rfl rfl (de_callB call_abs cd_abs (gl_of hc rfl) T.z_abs (by decide +kernel) (da_cons (de_nam hc 2 rfl (.inl rfl) rfl rfl) da_nil rfl) (by decide) rfl rfl rfl) rfl)
      (dss_cons (ds_set hc 4 rfl rfl (de_op op_mod od_mod (de_op op_mul od_mul (de_op or_add od_add (de_op or_add od_add (de_op op_mod od_mod (de_nam hc 3 rfl (.inl rfl) rfl rfl) de_int) (de_op op_mul od_mul de_int (de_nam hc 1 rfl (.inl rfl) rfl rfl))) de_int) de_int) de_int) rfl)
      (dss_one (ds_ret (de_lst (da_cons (de_op op_mul od_mul (de_nam hc 3 rfl (.inl rfl) rfl rfl) (de_callTy call_int1 cd_int (gl_of hc rfl) T.z_int (by decide +kernel) (da_cons (de_cmp or_ge od_cmp (de_nam hc 3 rfl (.inl rfl) rfl rfl) (de_op op_pow od_pow de_int de_int) (nomark _)) da_nil rfl) (by decide) rfl rfl rfl)) (da_cons (de_nam hc 4 rfl (.inl rfl) rfl rfl) da_nil rfl) rfl)))))))
def t__law_take : DTS := (sSeq (sIf (tPeek (eB (eBin gGt (ePool0 0) (eC (.int (0)))))) (sSeq (sAsg 2 (eBin gMod (ePool0 0) (eNam 1)))
  (sSeq (sPool0 0 (eBin gDiv (ePool0 0) (eNam 1)))
  (sRet (eNam 2)))) sNext)
  (sSeq (sPool1 0 (eBin gMod (eBin gAdd (eBin gMul (ePool1 0) (eC (.int (48271)))) (eC (.int (11)))) (eC (.int (2147483647)))))
  (sRet (eBin gMod (eBin gDiv (eBin gMod (eBin gMul (ePool1 0) (ePool1 0)) (eC (.int (2147483629)))) (eC (.int (64)))) (eNam 1)))))
theorem b__law_take {X : Cx} (hc : XC N__law_take (defScope s__law_take) 0 true X) (T : Txt X.K X.mg) : DSs X (defBody s__law_take) t__law_take :=
    (dss_cons (ds_if (dt_peek (dt_cmp or_gt od_cmp (de_pool0 hc 0 rfl (.inl rfl) rfl rfl) de_int (nomark _))) (dss_cons (ds_set hc 2 rfl rfl (de_op op_mod od_mod (de_pool0 hc 0 rfl (.inl rfl) rfl rfl) (de_nam hc 1 rfl (.inl rfl) rfl rfl)) rfl)
      (dss_cons (ds_pool0 hc 0 rfl (.inl rfl) rfl rfl (de_op op_fdiv od_div (de_pool0 hc 0 rfl (.inl rfl) rfl rfl) (de_nam hc 1 rfl (.inl rfl) rfl rfl)) rfl rfl rfl)
      (dss_one (ds_ret (de_nam hc 2 rfl (.inl rfl) rfl rfl))))) dss_nil)
      (dss_cons (ds_pool1 hc 0 rfl (.inl rfl) rfl rfl (de_op op_mod od_mod (de_op or_add od_add (de_op op_mul od_mul (de_pool1 hc 0 rfl (.inl rfl) rfl rfl) de_int) de_int) de_int) rfl rfl rfl)
      (dss_one (ds_ret (de_op op_mod od_mod (de_op op_fdiv od_div (de_op op_mod od_mod (de_op op_mul od_mul (de_pool1 hc 0 rfl (.inl rfl) rfl rfl) (de_pool1 hc 0 rfl (.inl rfl) rfl rfl)) de_int) de_int) (de_nam hc 1 rfl (.inl rfl) rfl rfl))))))
def t__law_one : DTS := (sRet (eBin gIx (eNam 1) (eCall 2 c__law_take (pPool 0 (pDat (eBlt gLen (aCons (eNam 1) aNil)) pNil)))))
theorem b__law_one {X : Cx} (hc : XC N__law_one (defScope s__law_one) 1 true X) (T : Txt X.K X.mg) (C__law_take : Callee X.prog X.w X.K X.mg X.base "_law_take" s__law_take 1 2 ["_law_pool_here", "_law_many"] c__law_take) : DSs X (defBody s__law_one) t__law_one :=
    (dss_one (ds_ret (de_ix ix_seq od_ix (de_nam hc 1 rfl (.inl rfl) rfl rfl) (de_callC hc C__law_take (by decide) rfl bn__law_take (dp_pool hc 0 rfl (.inl rfl) rfl rfl (dp_dat (de_callB call_len cd_len (gl_of hc rfl) T.z_len (by decide +kernel) (da_cons (de_nam hc 1 rfl (.inl rfl) rfl rfl) da_nil rfl) (by decide) rfl rfl rfl) dp_nil rfl) rfl) rfl rfl rfl) (fun _ _ => rfl))))
def t__law_text : DTS := (sRet (eCall 2 c__law_one (pPool 0 (pDat (eLst (aCons (eC (tx [])) (aCons (eC (tx [116])) (aCons (eC (tx [116, 119, 111, 32, 119, 111, 114, 100, 115])) (aCons (eC (tx [126])) aNil))))) pNil))))
theorem b__law_text {X : Cx} (hc : XC N__law_text (defScope s__law_text) 2 true X) (T : Txt X.K X.mg) (C__law_one : Callee X.prog X.w X.K X.mg X.base "_law_one" s__law_one 2 2 ["_law_pool_here", "_law_some"] c__law_one) : DSs X (defBody s__law_text) t__law_text :=
    (dss_one (ds_ret (de_callC hc C__law_one (by decide) rfl bn__law_one (dp_pool hc 0 rfl (.inl rfl) rfl rfl (dp_dat (de_lst (da_cons (de_str (by decide +kernel)) (da_cons (de_str (by decide +kernel)) (da_cons (de_str (by decide +kernel)) (da_cons (de_str (by decide +kernel)) da_nil rfl) rfl) rfl) rfl)) dp_nil rfl) rfl) rfl rfl rfl)))
def t__law_path : DTS := (sRet (eCall 2 c__law_one (pPool 0 (pDat (eLst (aCons (eC (tx [47, 97])) (aCons (eC (tx [47, 97])) (aCons (eC (tx [47, 98])) (aCons (eC (tx [47, 97, 47, 99])) (aCons (eC (tx [47, 97, 47, 100])) (aCons (eC (tx [47, 97, 47, 113, 45, 48, 48, 48, 48, 48, 48])) (aCons (eC (tx [47, 98, 47, 101])) aNil)))))))) pNil))))
theorem b__law_path {X : Cx} (hc : XC N__law_path (defScope s__law_path) 2 true X) (T : Txt X.K X.mg) (C__law_one : Callee X.prog X.w X.K X.mg X.base "_law_one" s__law_one 2 2 ["_law_pool_here", "_law_some"] c__law_one) : DSs X (defBody s__law_path) t__law_path :=
    (dss_one (ds_ret (de_callC hc C__law_one (by decide) rfl bn__law_one (dp_pool hc 0 rfl (.inl rfl) rfl rfl (dp_dat (de_lst (da_cons (de_str (by decide +kernel)) (da_cons (de_str (by decide +kernel)) (da_cons (de_str (by decide +kernel)) (da_cons (de_str (by decide +kernel)) (da_cons (de_str (by decide +kernel)) (da_cons (de_str (by decide +kernel)) (da_cons (de_str (by decide +kernel)) da_nil rfl) rfl) rfl) rfl) rfl) rfl) rfl)) dp_nil rfl) rfl) rfl rfl rfl)))
def t__law_count : DTS := (sRet (eCall 2 c__law_one (pPool 0 (pDat (eLst (aCons (eC .none) (aCons (eC .none) (aCons (eC (.int (0))) (aCons (eC (.int (1))) aNil))))) pNil))))
theorem b__law_count {X : Cx} (hc : XC N__law_count (defScope s__law_count) 2 true X) (T : Txt X.K X.mg) (C__law_one : Callee X.prog X.w X.K X.mg X.base "_law_one" s__law_one 2 2 ["_law_pool_here", "_law_some"] c__law_one) : DSs X (defBody s__law_count) t__law_count :=
    (dss_one (ds_ret (de_callC hc C__law_one (by decide) rfl bn__law_one (dp_pool hc 0 rfl (.inl rfl) rfl rfl (dp_dat (de_lst (da_cons de_non (da_cons de_non (da_cons de_int (da_cons de_int da_nil rfl) rfl) rfl) rfl)) dp_nil rfl) rfl) rfl rfl rfl)))
def t__law_plain : DTS := (sSeq (sAsg 1 (eCall 2 c__law_take (pPool 0 (pDat (eC (.int (10))) pNil))))
  (sSeq (sIf (tPeek (eB (eBin gLt (eNam 1) (eC (.int (5)))))) (sSeq (sAsg 2 (eCall 2 c__law_one (pPool 0 (pDat (eLst (aCons (eC (tx [47, 97])) (aCons (eC (tx [47, 98])) (aCons (eC (tx [47, 97, 47, 99])) (aCons (eC (tx [47, 97, 47, 100])) (aCons (eC (tx [47, 98, 47, 101])) (aCons (eC (tx [47, 97, 47, 113])) aNil))))))) pNil))))
  (sRet (eTup (aCons (eC (tx [109, 97, 107, 101])) (aCons (eNam 2) (aCons (eCall 1 c__law_text (pPool 0 pNil)) (aCons (eBin gEq (eCall 2 c__law_take (pPool 0 (pDat (eC (.int (3))) pNil))) (eC (.int (0)))) (aCons (eBin gEq (eCall 2 c__law_take (pPool 0 (pDat (eC (.int (4))) pNil))) (eC (.int (0)))) aNil)))))))) sNext)
  (sSeq (sIf (tPeek (eB (eBin gLt (eNam 1) (eC (.int (7)))))) (sRet (eTup (aCons (eC (tx [112, 117, 116])) (aCons (eCall 1 c__law_path (pPool 0 pNil)) (aCons (eCall 1 c__law_text (pPool 0 pNil)) (aCons (eCall 1 c__law_count (pPool 0 pNil)) aNil)))))) sNext)
  (sSeq (sIf (tPeek (eB (eBin gLt (eNam 1) (eC (.int (9)))))) (sRet (eTup (aCons (eC (tx [100, 114, 111, 112])) (aCons (eCall 1 c__law_path (pPool 0 pNil)) (aCons (eCall 1 c__law_count (pPool 0 pNil)) aNil))))) sNext)
  (sRet (eTup (aCons (eC (tx [115, 101, 101])) (aCons (eCall 1 c__law_path (pPool 0 pNil)) (aCons (eCall 1 c__law_count (pPool 0 pNil)) aNil)))))))))
theorem b__law_plain {X : Cx} (hc : XC N__law_plain (defScope s__law_plain) 3 true X) (T : Txt X.K X.mg) (C__law_count : Callee X.prog X.w X.K X.mg X.base "_law_count" s__law_count 3 1 ["_law_pool_here"] c__law_count) (C__law_one : Callee X.prog X.w X.K X.mg X.base "_law_one" s__law_one 2 2 ["_law_pool_here", "_law_some"] c__law_one) (C__law_path : Callee X.prog X.w X.K X.mg X.base "_law_path" s__law_path 3 1 ["_law_pool_here"] c__law_path) (C__law_take : Callee X.prog X.w X.K X.mg X.base "_law_take" s__law_take 1 2 ["_law_pool_here", "_law_many"] c__law_take) (C__law_text : Callee X.prog X.w X.K X.mg X.base "_law_text" s__law_text 3 1 ["_law_pool_here"] c__law_text) : DSs X (defBody s__law_plain) t__law_plain :=
    (dss_cons (ds_set hc 1 rfl rfl (de_callC hc C__law_take (by decide) rfl bn__law_take (dp_pool hc 0 rfl (.inl rfl) rfl rfl (dp_dat de_int dp_nil rfl) rfl) rfl rfl rfl) rfl)
      (dss_cons (ds_if (dt_peek (dt_cmp or_lt od_cmp (de_nam hc 1 rfl (.inl rfl) rfl rfl) de_int (nomark _))) (dss_cons (ds_set hc 2 rfl rfl (de_callC hc C__law_one (by decide) rfl bn__law_one (dp_pool hc 0 rfl (.inl rfl) rfl rfl (dp_dat (de_lst (da_cons (de_str (by decide +kernel)) (da_cons (de_str (by decide +kernel)) (da_cons (de_str (by decide +kernel)) (da_cons (de_str (by decide +kernel)) (da_cons (de_str (by decide +kernel)) (da_cons (de_str (by decide +kernel)) da_nil rfl) rfl) rfl) rfl) rfl) rfl)) dp_nil rfl) rfl) rfl rfl rfl) rfl)
      (dss_one (ds_ret (de_tup (da_cons (de_str (by decide +kernel)) (da_cons (de_nam hc 2 rfl (.inl rfl) rfl rfl) (da_cons (de_callC hc C__law_text (by decide) rfl bn__law_text (dp_pool hc 0 rfl (.inl rfl) rfl rfl dp_nil rfl) rfl rfl rfl) (da_cons (de_cmp (op_eqD hc.room.units) od_eq (de_callC hc C__law_take (by decide) rfl bn__law_take (dp_pool hc 0 rfl (.inl rfl) rfl rfl (dp_dat de_int dp_nil rfl) rfl) rfl rfl rfl) de_int (nomark _)) (da_cons (de_cmp (op_eqD hc.room.units) od_eq (de_callC hc C__law_take (by decide) rfl bn__law_take (dp_pool hc 0 rfl (.inl rfl) rfl rfl (dp_dat de_int dp_nil rfl) rfl) rfl rfl rfl) de_int (nomark _)) da_nil rfl) rfl) rfl) rfl) rfl))))) dss_nil)
      (dss_cons (ds_if (dt_peek (dt_cmp or_lt od_cmp (de_nam hc 1 rfl (.inl rfl) rfl rfl) de_int (nomark _))) (dss_one (ds_ret (de_tup (da_cons (de_str (by decide +kernel)) (da_cons (de_callC hc C__law_path (by decide) rfl bn__law_path (dp_pool hc 0 rfl (.inl rfl) rfl rfl dp_nil rfl) rfl rfl rfl) (da_cons (de_callC hc C__law_text (by decide) rfl bn__law_text (dp_pool hc 0 rfl (.inl rfl) rfl rfl dp_nil rfl) rfl rfl rfl) (da_cons (de_callC hc C__law_count (by decide) rfl bn__law_count (dp_pool hc 0 rfl (.inl rfl) rfl rfl dp_nil rfl) rfl rfl rfl) da_nil rfl) rfl) rfl) rfl)))) dss_nil)
      (dss_cons (ds_if (dt_peek (dt_cmp or_lt od_cmp (de_nam hc 1 rfl (.inl rfl) rfl rfl) de_int (nomark _))) (dss_one (ds_ret (de_tup (da_cons (de_str (by decide +kernel)) (da_cons (de_callC hc C__law_path (by decide) rfl bn__law_path (dp_pool hc 0 rfl (.inl rfl) rfl rfl dp_nil rfl) rfl rfl rfl) (da_cons (de_callC hc C__law_count (by decide) rfl bn__law_count (dp_pool hc 0 rfl (.inl rfl) rfl rfl dp_nil rfl) rfl rfl rfl) da_nil rfl) rfl) rfl)))) dss_nil)
      (dss_one (ds_ret (de_tup (da_cons (de_str (by decide +kernel)) (da_cons (de_callC hc C__law_path (by decide) rfl bn__law_path (dp_pool hc 0 rfl (.inl rfl) rfl rfl dp_nil rfl) rfl rfl rfl) (da_cons (de_callC hc C__law_count (by decide) rfl bn__law_count (dp_pool hc 0 rfl (.inl rfl) rfl rfl dp_nil rfl) rfl rfl rfl) da_nil rfl) rfl) rfl))))))))
def t__law_deed : DTS := (sSeq (sAsg 1 (eCall 2 c__law_take (pPool 0 (pDat (eC (.int (10))) pNil))))
  (sSeq (sIf (tPeek (eB (eBin gEq (eNam 1) (eC (.int (0)))))) (sRet (eTup (aCons (eC (tx [97, 108, 108])) (aCons (eBlt gTupOf (aCons (eComp (iRange1 (aCons (eBin gAdd (eC (.int (1))) (eCall 2 c__law_take (pPool 0 (pDat (eC (.int (3))) pNil)))) aNil)) (gN 2) tYesD (eCall 1 c__law_plain (pPool 0 pNil)) [2]) aNil)) aNil)))) sNext)
  (sSeq (sIf (tPeek (eB (eBin gEq (eNam 1) (eC (.int (1)))))) (sRet (eCall 2 c__law_one (pPool 0 (pDat (eLst (aCons (eTup (aCons (eC (tx [111, 112, 101, 110])) (aCons (eBin gAdd (eC (.int (1))) (eCall 2 c__law_take (pPool 0 (pDat (eC (.int (30))) pNil)))) aNil))) (aCons (eTup (aCons (eC (tx [99, 108, 111, 115, 101])) aNil)) (aCons (eTup (aCons (eC (tx [98, 114, 105, 110, 103])) aNil)) aNil)))) pNil)))) sNext)
  (sRet (eCall 1 c__law_plain (pPool 0 pNil))))))
theorem b__law_deed {X : Cx} (hc : XC N__law_deed (defScope s__law_deed) 4 true X) (T : Txt X.K X.mg) (C__law_one : Callee X.prog X.w X.K X.mg X.base "_law_one" s__law_one 2 2 ["_law_pool_here", "_law_some"] c__law_one) (C__law_plain : Callee X.prog X.w X.K X.mg X.base "_law_plain" s__law_plain 4 1 ["_law_pool_here"] c__law_plain) (C__law_take : Callee X.prog X.w X.K X.mg X.base "_law_take" s__law_take 1 2 ["_law_pool_here", "_law_many"] c__law_take) : DSs X (defBody s__law_deed) t__law_deed :=
    (dss_cons (ds_set hc 1 rfl rfl (de_callC hc C__law_take (by decide) rfl bn__law_take (dp_pool hc 0 rfl (.inr (.inl rfl)) rfl rfl (dp_dat de_int dp_nil rfl) rfl) rfl rfl rfl) rfl)
      (dss_cons (ds_if (dt_peek (dt_cmp (op_eqD hc.room.units) od_eq (de_nam hc 1 rfl (.inl rfl) rfl rfl) de_int (nomark _))) (dss_one (ds_ret (de_tup (da_cons (de_str (by decide +kernel)) (da_cons (de_callTy call_tuple_of cd_tupOf (gl_of hc rfl) T.z_tuple (by decide +kernel) (da_cons (de_comp (own := [("_law_turn", 2)]) hc (di_range1 (gl_of hc rfl) T.z_range (da_cons (de_op or_add od_add de_int (de_callC hc C__law_take (by decide) rfl bn__law_take (dp_pool hc 0 rfl (.inr (.inl rfl)) rfl rfl (dp_dat de_int dp_nil rfl) rfl) rfl rfl rfl)) da_nil rfl) rfl) ⟨fun s H C cl fp => (gd_name (hc.blk (s := s) (H := H) (C := C) (cl := cl) (fp := fp)) 2 rfl rfl), fun s H C cl fp => dts_nil, fun s H C cl fp => (de_callC (hc.blk (s := s) (H := H) (C := C) (cl := cl) (fp := fp)) C__law_plain (by decide) rfl bn__law_plain (dp_pool (hc.blk (s := s) (H := H) (C := C) (cl := cl) (fp := fp)) 0 rfl (.inr (.inl rfl)) rfl rfl dp_nil rfl) rfl rfl rfl)⟩ (by decide +kernel) (by decide) (fun _ => rfl)) da_nil rfl) (by decide) rfl rfl rfl) da_nil rfl) rfl)))) dss_nil)
      (dss_cons (ds_if (dt_peek (dt_cmp (op_eqD hc.room.units) od_eq (de_nam hc 1 rfl (.inl rfl) rfl rfl) de_int (nomark _))) (dss_one (ds_ret (de_callC hc C__law_one (by decide) rfl bn__law_one (dp_pool hc 0 rfl (.inr (.inl rfl)) rfl rfl (dp_dat (de_lst (da_cons (de_tup (da_cons (de_str (by decide +kernel)) (da_cons (de_op or_add od_add de_int (de_callC hc C__law_take (by decide) rfl bn__law_take (dp_pool hc 0 rfl (.inr (.inl rfl)) rfl rfl (dp_dat de_int dp_nil rfl) rfl) rfl rfl rfl)) da_nil rfl) rfl)) (da_cons (de_tup (da_cons (de_str (by decide +kernel)) da_nil rfl)) (da_cons (de_tup (da_cons (de_str (by decide +kernel)) da_nil rfl)) da_nil rfl) rfl) rfl)) dp_nil rfl) rfl) rfl rfl rfl))) dss_nil)
      (dss_one (ds_ret (de_callC hc C__law_plain (by decide) rfl bn__law_plain (dp_pool hc 0 rfl (.inr (.inl rfl)) rfl rfl dp_nil rfl) rfl rfl rfl))))))
def t__law_row : DTS := (sSeq (sAsg 1 (eLst aNil))
  (sSeq (sUnp [2, 3] (eTup (aCons (eC (.int (1))) (aCons (eC (.int (0))) aNil))))
  (sSeq (sFor (iRange1 (aCons (eCall 2 c__law_take (pPool 0 (pDat (eC (.int (11))) pNil))) aNil)) (gN 4) (sSeq (sAsg 3 (eBin gAdd (eNam 3) (eC (.int (1)))))
  (sSeq (sIf (tPeek (eB (eBin gEq (eCall 2 c__law_take (pPool 0 (pDat (eC (.int (5))) pNil))) (eC (.int (0)))))) (sPar 2 3 (aCons (eBin gAdd (eNam 2) (eC (.int (1)))) (aCons (eC (.int (1))) aNil))) sNext)
  (sApp 1 (eTup (aCons (eTup (aCons (eNam 2) (aCons (eNam 3) aNil))) (aCons (eTup (aCons (eC (tx [97, 115, 107])) (aCons (eCall 2 c__law_one (pPool 0 (pDat (eLst (aCons (eC (tx [120])) (aCons (eC (tx [121])) aNil))) pNil))) (aCons (eBin gAdd (eNam 4) (eC (.int (1)))) (aCons (eCall 1 c__law_deed (pPool 0 pNil)) aNil))))) aNil)))))))
  (sRet (eNam 1)))))
theorem b__law_row {X : Cx} (hc : XC N__law_row (defScope s__law_row) 5 true X) (T : Txt X.K X.mg) (C__law_deed : Callee X.prog X.w X.K X.mg X.base "_law_deed" s__law_deed 5 1 ["_law_pool_here"] c__law_deed) (C__law_one : Callee X.prog X.w X.K X.mg X.base "_law_one" s__law_one 2 2 ["_law_pool_here", "_law_some"] c__law_one) (C__law_take : Callee X.prog X.w X.K X.mg X.base "_law_take" s__law_take 1 2 ["_law_pool_here", "_law_many"] c__law_take) : DSs X (defBody s__law_row) t__law_row :=
    (dss_cons (ds_set hc 1 rfl rfl (de_lst da_nil) rfl)
      (dss_cons (ds_unp hc (.cons (pg_of hc 2 rfl rfl) (.cons (pg_of hc 3 rfl rfl) .nil)) (de_tup (da_cons de_int (da_cons de_int da_nil rfl) rfl)) rfl rfl rfl (swn_of hc rfl rfl rfl rfl (by decide +kernel) rfl (by decide +kernel)))
      (dss_cons (ds_for hc (di_range1 (gl_of hc rfl) T.z_range (da_cons (de_callC hc C__law_take (by decide) rfl bn__law_take (dp_pool hc 0 rfl (.inl rfl) rfl rfl (dp_dat de_int dp_nil rfl) rfl) rfl rfl rfl) da_nil rfl) rfl) (gd_name hc 4 rfl rfl) (dss_cons (ds_set hc 3 rfl rfl (de_op or_add od_add (de_nam hc 3 rfl (.inl rfl) rfl rfl) de_int) rfl)
      (dss_cons (ds_if (dt_peek (dt_cmp (op_eqD hc.room.units) od_eq (de_callC hc C__law_take (by decide) rfl bn__law_take (dp_pool hc 0 rfl (.inl rfl) rfl rfl (dp_dat de_int dp_nil rfl) rfl) rfl rfl rfl) de_int (nomark _))) (dss_one (ds_par hc 2 3 rfl rfl (by decide) rfl rfl (da_cons (de_op or_add od_add (de_nam hc 2 rfl (.inl rfl) rfl rfl) de_int) (da_cons de_int da_nil rfl) rfl) (sws_of hc rfl rfl rfl rfl (by decide +kernel) rfl rfl rfl) rfl)) dss_nil)
      (dss_one (ds_app hc 1 rfl (.inl rfl) rfl rfl (de_tup (da_cons (de_tup (da_cons (de_nam hc 2 rfl (.inl rfl) rfl rfl) (da_cons (de_nam hc 3 rfl (.inl rfl) rfl rfl) da_nil rfl) rfl)) (da_cons (de_tup (da_cons (de_str (by decide +kernel)) (da_cons (de_callC hc C__law_one (by decide) rfl bn__law_one (dp_pool hc 0 rfl (.inl rfl) rfl rfl (dp_dat (de_lst (da_cons (de_str (by decide +kernel)) (da_cons (de_str (by decide +kernel)) da_nil rfl) rfl)) dp_nil rfl) rfl) rfl rfl rfl) (da_cons (de_op or_add od_add (de_nam hc 4 rfl (.inl rfl) rfl rfl) de_int) (da_cons (de_callC hc C__law_deed (by decide) rfl bn__law_deed (dp_pool hc 0 rfl (.inl rfl) rfl rfl dp_nil rfl) rfl rfl rfl) da_nil rfl) rfl) rfl) rfl)) da_nil rfl) rfl)) rfl rfl rfl rfl rfl)))) (fun _ => rfl))
      (dss_one (ds_ret (de_nam hc 1 rfl (.inl rfl) rfl rfl))))))
def t__law_near : DTS := (sSeq (sAsg 2 (eCall 2 c__law_take (pPool 0 (pDat (eC (.int (6))) pNil))))
  (sSeq (sAsg 3 (eCall 2 c__law_take (pPool 0 (pDat (eBin gAdd (eBlt gLen (aCons (eNam 1) aNil)) (eC (.int (1)))) pNil))))
  (sSeq (sIf (tPeek (tOrD (eB (eBin gLt (eNam 2) (eC (.int (3))))) (eB (eBin gEq (eNam 1) (eLst aNil))))) (sRet (eSl (eNam 1) oNone (oSome (eNam 3)))) sNext)
  (sSeq (sIf (tPeek (eB (eBin gEq (eNam 2) (eC (.int (3)))))) (sRet (eBlt gListOf (aCons (eNam 1) aNil))) sNext)
  (sSeq (sUnp [4, 5] (eBin gIx (eNam 1) (eBin gMod (eNam 3) (eBlt gLen (aCons (eNam 1) aNil)))))
  (sSeq (sIf (tPeek (eB (eBin gEq (eNam 2) (eC (.int (4)))))) (sRet (eBin gAdd (eBin gAdd (eSl (eNam 1) oNone (oSome (eBin gMod (eNam 3) (eBlt gLen (aCons (eNam 1) aNil))))) (eLst (aCons (eTup (aCons (eNam 4) (aCons (eTup (aCons (eC (tx [101, 110, 100])) (aCons (eC (tx [120])) aNil))) aNil))) aNil))) (eSl (eNam 1) (oSome (eBin gAdd (eBin gMod (eNam 3) (eBlt gLen (aCons (eNam 1) aNil))) (eC (.int (1))))) oNone))) sNext)
  (sRet (eBin gAdd (eNam 1) (eLst (aCons (eTup (aCons (eTup (aCons (eBin gAdd (eBin gIx (eBin gIx (eBin gIx (eNam 1) (eUn gNeg (eC (.int (1))))) (eC (.int (0)))) (eC (.int (0)))) (eC (.int (9)))) (aCons (eC (.int (1))) aNil))) (aCons (eNam 5) aNil))) aNil))))))))))
theorem b__law_near {X : Cx} (hc : XC N__law_near (defScope s__law_near) 1 true X) (T : Txt X.K X.mg) (C__law_take : Callee X.prog X.w X.K X.mg X.base "_law_take" s__law_take 1 2 ["_law_pool_here", "_law_many"] c__law_take) : DSs X (defBody s__law_near) t__law_near :=
    (dss_cons (ds_set hc 2 rfl rfl (de_callC hc C__law_take (by decide) rfl bn__law_take (dp_pool hc 0 rfl (.inl rfl) rfl rfl (dp_dat de_int dp_nil rfl) rfl) rfl rfl rfl) rfl)
      (dss_cons (ds_set hc 3 rfl rfl (de_callC hc C__law_take (by decide) rfl bn__law_take (dp_pool hc 0 rfl (.inl rfl) rfl rfl (dp_dat (de_op or_add od_add (de_callB call_len cd_len (gl_of hc rfl) T.z_len (by decide +kernel) (da_cons (de_nam hc 1 rfl (.inl rfl) rfl rfl) da_nil rfl) (by decide) rfl rfl rfl) de_int) dp_nil rfl) rfl) rfl rfl rfl) rfl)
      (dss_cons (ds_if (dt_peek (dw_or (dt_cmp or_lt od_cmp (de_nam hc 2 rfl (.inl rfl) rfl rfl) de_int (nomark _)) (dw_or1 (dt_cmp (op_eqD hc.room.units) od_eq (de_nam hc 1 rfl (.inl rfl) rfl rfl) (de_lst da_nil) (nomark _)))).dt) (dss_one (ds_ret (de_slice (de_nam hc 1 rfl (.inl rfl) rfl rfl) do_none (do_some (de_nam hc 3 rfl (.inl rfl) rfl rfl))))) dss_nil)
      (dss_cons (ds_if (dt_peek (dt_cmp (op_eqD hc.room.units) od_eq (de_nam hc 2 rfl (.inl rfl) rfl rfl) de_int (nomark _))) (dss_one (ds_ret (de_callTy call_list_of cd_listOf (gl_of hc rfl) T.z_list (by decide +kernel) (da_cons (de_nam hc 1 rfl (.inl rfl) rfl rfl) da_nil rfl) (by decide) rfl rfl rfl))) dss_nil)
      (dss_cons (ds_unp hc (.cons (pg_of hc 4 rfl rfl) (.cons (pg_of hc 5 rfl rfl) .nil)) (de_ix ix_seq od_ix (de_nam hc 1 rfl (.inl rfl) rfl rfl) (de_op op_mod od_mod (de_nam hc 3 rfl (.inl rfl) rfl rfl) (de_callB call_len cd_len (gl_of hc rfl) T.z_len (by decide +kernel) (da_cons (de_nam hc 1 rfl (.inl rfl) rfl rfl) da_nil rfl) (by decide) rfl rfl rfl)) (fun _ _ => rfl)) rfl rfl rfl rfl)
      (dss_cons (ds_if (dt_peek (dt_cmp (op_eqD hc.room.units) od_eq (de_nam hc 2 rfl (.inl rfl) rfl rfl) de_int (nomark _))) (dss_one (ds_ret (de_op or_add od_add (de_op or_add od_add (de_slice (de_nam hc 1 rfl (.inl rfl) rfl rfl) do_none (do_some (de_op op_mod od_mod (de_nam hc 3 rfl (.inl rfl) rfl rfl) (de_callB call_len cd_len (gl_of hc rfl) T.z_len (by decide +kernel) (da_cons (de_nam hc 1 rfl (.inl rfl) rfl rfl) da_nil rfl) (by decide) rfl rfl rfl)))) (de_lst (da_cons (de_tup (da_cons (de_nam hc 4 rfl (.inl rfl) rfl rfl) (da_cons (de_tup (da_cons (de_str (by decide +kernel)) (da_cons (de_str (by decide +kernel)) da_nil rfl) rfl)) da_nil rfl) rfl)) da_nil rfl))) (de_slice (de_nam hc 1 rfl (.inl rfl) rfl rfl) (do_some (de_op or_add od_add (de_op op_mod od_mod (de_nam hc 3 rfl (.inl rfl) rfl rfl) (de_callB call_len cd_len (gl_of hc rfl) T.z_len (by decide +kernel) (da_cons (de_nam hc 1 rfl (.inl rfl) rfl rfl) da_nil rfl) (by decide) rfl rfl rfl)) de_int)) do_none)))) dss_nil)
      (dss_one (ds_ret (de_op or_add od_add (de_nam hc 1 rfl (.inl rfl) rfl rfl) (de_lst (da_cons (de_tup (da_cons (de_tup (da_cons (de_op or_add od_add (de_ix ix_seq od_ix (de_ix ix_seq od_ix (de_ix ix_seq od_ix (de_nam hc 1 rfl (.inl rfl) rfl rfl) (de_un un_neg ud_neg de_int) (fun _ _ => rfl)) de_int (fun _ _ => rfl)) de_int (fun _ _ => rfl)) de_int) (da_cons de_int da_nil rfl) rfl)) (da_cons (de_nam hc 5 rfl (.inl rfl) rfl rfl) da_nil rfl) rfl)) da_nil rfl)))))))))))
def t__law_is_beginning : DTS := (sRet (eAnd (eBin gLe (eBlt gLen (aCons (eNam 0) aNil)) (eBlt gLen (aCons (eNam 1) aNil))) (eBin gEq (eComp (iRange1 (aCons (eBlt gLen (aCons (eNam 0) aNil)) aNil)) (gN 2) (eB (eBin gNe (eBin gIx (eNam 0) (eNam 2)) (eBin gIx (eNam 1) (eNam 2)))) (eNam 2) [2]) (eLst aNil))))
theorem b__law_is_beginning {X : Cx} (hc : XC N__law_is_beginning (defScope s__law_is_beginning) 0 true X) (T : Txt X.K X.mg) : DSs X (defBody s__law_is_beginning) t__law_is_beginning :=
    (dss_one (ds_ret (de_and (de_cmp or_le od_cmp (de_callB call_len cd_len (gl_of hc rfl) T.z_len (by decide +kernel) (da_cons (de_nam hc 0 rfl (.inr (.inl rfl)) rfl rfl) da_nil rfl) (by decide) rfl rfl rfl) (de_callB call_len cd_len (gl_of hc rfl) T.z_len (by decide +kernel) (da_cons (de_nam hc 1 rfl (.inr (.inl rfl)) rfl rfl) da_nil rfl) (by decide) rfl rfl rfl) (nomark _)) (de_one (de_cmp (op_eqD hc.room.units) od_eq (de_comp (own := [("_law_k", 2)]) hc (di_range1 (gl_of hc rfl) T.z_range (da_cons (de_callB call_len cd_len (gl_of hc rfl) T.z_len (by decide +kernel) (da_cons (de_nam hc 0 rfl (.inr (.inl rfl)) rfl rfl) da_nil rfl) (by decide) rfl rfl rfl) da_nil rfl) rfl) ⟨fun s H C cl fp => (gd_name (hc.blk (s := s) (H := H) (C := C) (cl := cl) (fp := fp)) 2 rfl rfl), fun s H C cl fp => (dts_one (dt_cmp (op_neD (hc.blk (s := s) (H := H) (C := C) (cl := cl) (fp := fp)).room.units) od_ne (de_ix ix_seq od_ix (de_nam (hc.blk (s := s) (H := H) (C := C) (cl := cl) (fp := fp)) 0 rfl (.inr (.inl rfl)) rfl rfl) (de_nam (hc.blk (s := s) (H := H) (C := C) (cl := cl) (fp := fp)) 2 rfl (.inl rfl) rfl rfl) (fun _ _ => rfl)) (de_ix ix_seq od_ix (de_nam (hc.blk (s := s) (H := H) (C := C) (cl := cl) (fp := fp)) 1 rfl (.inr (.inl rfl)) rfl rfl) (de_nam (hc.blk (s := s) (H := H) (C := C) (cl := cl) (fp := fp)) 2 rfl (.inl rfl) rfl rfl) (fun _ _ => rfl)) (nomark _))), fun s H C cl fp => (de_nam (hc.blk (s := s) (H := H) (C := C) (cl := cl) (fp := fp)) 2 rfl (.inl rfl) rfl rfl)⟩ (by decide +kernel) (by decide) (fun _ => rfl)) (de_lst da_nil) (nomark _))))))
def t_law : DTS := (sSeq (sFor (iRange1 (aCons (eBlt gMax (aCons (eC (.int (1))) (aCons (eBlt gMin (aCons (eBlt gLen (aCons (eNam 0) aNil)) (aCons (eC (.int (10))) aNil))) aNil))) aNil)) (gN 1) (sSeq (sAsgP 2 (eCall 2 c__law_pool (pDat (eNam 0) (pDat (eNam 1) pNil))))
  (sFor (iRange1 (aCons (eC (.int (6))) aNil)) (gN 3) (sSeq (sAsg 4 (eCall 1 c__law_row (pPool 2 pNil)))
  (sSeq (sAsg 6 (eComp (iRange1 (aCons (eCall 2 c__law_take (pPool 2 (pDat (eC (.int (6))) pNil))) aNil)) (gN 5) tYesD (eCall 2 c__law_near (pPool 2 (pDat (eNam 4) pNil))) [5]))
  (sSeq (sAsg 7 (eC (.bool true)))
  (sSeq (sFor (iSeq (eNam 6)) (gN 8) (sFor (iSeq (eNam 6)) (gN 9) (sIf (tPeek (tAndD (tNotD (eTru (eCall 2 c__law_is_beginning (pDat (eNam 8) (pDat (eNam 9) pNil))))) (tNotD (eTru (eCall 2 c__law_is_beginning (pDat (eNam 9) (pDat (eNam 8) pNil))))))) (sAsg 7 (eC (.bool false))) sNext)))
  (sSeq (sAsg 10 (eBlt gReprA (aCons (eNam 6) aNil)))
  (sFor (iSeq (eLst (aCons (eNam 6) (aCons (eRv (eNam 6) (oSome (eUn gNeg (eC (.int (1)))))) (aCons (eBin gAdd (eNam 6) (eSl (eNam 6) oNone (oSome (eC (.int (1)))))) aNil))))) (gN 5) (sIf (tPeek (tOrD (eB (eBin gNe (eBlt gReprA (aCons (eCall 1 c_are_beginnings (pDat (eNam 5) pNil)) aNil)) (eBlt gReprA (aCons (eNam 7) aNil)))) (eB (eBin gNe (eBlt gReprA (aCons (eNam 6) aNil)) (eNam 10))))) (sRet (eC (.bool false))) sNext))))))))))
  (sRet (eC (.bool true))))
theorem b_law {X : Cx} (hc : XC N_law (defScope s_law) 6 true X) (T : Txt X.K X.mg) (C__law_is_beginning : Callee X.prog X.w X.K X.mg X.base "_law_is_beginning" s__law_is_beginning 1 2 ["_law_one_here", "_law_other"] c__law_is_beginning) (C__law_near : Callee X.prog X.w X.K X.mg X.base "_law_near" s__law_near 2 2 ["_law_pool_here", "_law_row_here"] c__law_near) (C__law_pool : Callee X.prog X.w X.K X.mg X.base "_law_pool" s__law_pool 1 2 ["_law_script", "_law_k"] c__law_pool) (C__law_row : Callee X.prog X.w X.K X.mg X.base "_law_row" s__law_row 6 1 ["_law_pool_here"] c__law_row) (C__law_take : Callee X.prog X.w X.K X.mg X.base "_law_take" s__law_take 1 2 ["_law_pool_here", "_law_many"] c__law_take) (C_are_beginnings : Callee X.prog X.w X.K X.mg X.base "are_beginnings" s_are_beginnings 2 1 ["rows"] c_are_beginnings) : DSs X (defBody s_law) t_law :=
    (dss_cons (ds_for hc (di_range1 (gl_of hc rfl) T.z_range (da_cons (de_callB (call_max2 hc.calm) cd_max (gl_of hc rfl) T.z_max (by decide +kernel) (da_cons de_int (da_cons (de_callB (call_min2 hc.calm) cd_min (gl_of hc rfl) T.z_min (by decide +kernel) (da_cons (de_callB call_len cd_len (gl_of hc rfl) T.z_len (by decide +kernel) (da_cons (de_nam hc 0 rfl (.inl rfl) rfl rfl) da_nil rfl) (by decide) rfl rfl rfl) (da_cons de_int da_nil rfl) rfl) (by decide) rfl rfl rfl) da_nil rfl) rfl) (by decide) rfl rfl rfl) da_nil rfl) rfl) (gd_name hc 1 rfl rfl) (dss_cons (ds_setP hc 2 rfl rfl (de_callC hc C__law_pool (by decide) rfl bn__law_pool (dp_dat (de_nam hc 0 rfl (.inl rfl) rfl rfl) (dp_dat (de_nam hc 1 rfl (.inl rfl) rfl rfl) dp_nil rfl) rfl) rfl rfl rfl) rfl)
      (dss_one (ds_for hc (di_range1 (gl_of hc rfl) T.z_range (da_cons de_int da_nil rfl) rfl) (gd_name hc 3 rfl rfl) (dss_cons (ds_set hc 4 rfl rfl (de_callC hc C__law_row (by decide) rfl bn__law_row (dp_pool hc 2 rfl (.inr (.inl rfl)) rfl rfl dp_nil rfl) rfl rfl rfl) rfl)
      (dss_cons (ds_setC (own := [("_law_some", 5)]) hc 6 rfl rfl (di_range1 (gl_of hc rfl) T.z_range (da_cons (de_callC hc C__law_take (by decide) rfl bn__law_take (dp_pool hc 2 rfl (.inr (.inl rfl)) rfl rfl (dp_dat de_int dp_nil rfl) rfl) rfl rfl rfl) da_nil rfl) rfl) ⟨fun s H C cl fp => (gd_name (hc.blk (s := s) (H := H) (C := C) (cl := cl) (fp := fp)) 5 rfl rfl), fun s H C cl fp => dts_nil, fun s H C cl fp => (de_callC (hc.blk (s := s) (H := H) (C := C) (cl := cl) (fp := fp)) C__law_near (by decide) rfl bn__law_near (dp_pool (hc.blk (s := s) (H := H) (C := C) (cl := cl) (fp := fp)) 2 rfl (.inr (.inl rfl)) rfl rfl (dp_dat (de_nam (hc.blk (s := s) (H := H) (C := C) (cl := cl) (fp := fp)) 4 rfl (.inr (.inl rfl)) rfl rfl) dp_nil rfl) rfl) rfl rfl rfl)⟩ (by decide +kernel) (by decide) (sw_of hc rfl rfl rfl (by decide +kernel)) (fun _ => rfl))
      (dss_cons (ds_set hc 7 rfl rfl de_bl rfl)
      (dss_cons (ds_for hc (di_list (de_nam hc 6 rfl (.inl rfl) rfl rfl)) (gd_name hc 8 rfl rfl) (dss_one (ds_for hc (di_list (de_nam hc 6 rfl (.inl rfl) rfl rfl)) (gd_name hc 9 rfl rfl) (dss_one (ds_if (dt_peek (dw_and (dt_not (dt_tru (de_callC hc C__law_is_beginning (by decide) rfl bn__law_is_beginning (dp_dat (de_nam hc 8 rfl (.inl rfl) rfl rfl) (dp_dat (de_nam hc 9 rfl (.inl rfl) rfl rfl) dp_nil rfl) rfl) rfl rfl rfl) (fun _ => rfl))) (dw_and1 (dt_not (dt_tru (de_callC hc C__law_is_beginning (by decide) rfl bn__law_is_beginning (dp_dat (de_nam hc 9 rfl (.inl rfl) rfl rfl) (dp_dat (de_nam hc 8 rfl (.inl rfl) rfl rfl) dp_nil rfl) rfl) rfl rfl rfl) (fun _ => rfl))))).dt) (dss_one (ds_set hc 7 rfl rfl de_bl rfl)) dss_nil)) (fun _ => rfl))) (fun _ => rfl))
      (dss_cons (ds_set hc 10 rfl rfl (de_callB (CallR.or' cr_reprN (CallR.or' (cr_reprK hc.gu hc.room.units) (CallR.or' cr_reprB (cr_reprD hc.gu hc.room.units)))) cd_reprA (gl_of hc rfl) T.z_repr (by decide +kernel) (da_cons (de_nam hc 6 rfl (.inl rfl) rfl rfl) da_nil rfl) (by decide) rfl rfl rfl) rfl)
      (dss_one (ds_for hc (di_list (de_lst (da_cons (de_nam hc 6 rfl (.inl rfl) rfl rfl) (da_cons (de_rev (de_nam hc 6 rfl (.inl rfl) rfl rfl) (do_some (de_un un_neg ud_neg de_int))) (da_cons (de_op or_add od_add (de_nam hc 6 rfl (.inl rfl) rfl rfl) (de_slice (de_nam hc 6 rfl (.inl rfl) rfl rfl) do_none (do_some de_int))) da_nil rfl) rfl) rfl))) (gd_name hc 5 rfl rfl) (dss_one (ds_if (dt_peek (dw_or (dt_cmp (op_neD hc.room.units) od_ne (de_callB (CallR.or' cr_reprN (CallR.or' (cr_reprK hc.gu hc.room.units) (CallR.or' cr_reprB (cr_reprD hc.gu hc.room.units)))) cd_reprA (gl_of hc rfl) T.z_repr (by decide +kernel) (da_cons (de_callC hc C_are_beginnings (by decide) rfl bn_are_beginnings (dp_dat (de_nam hc 5 rfl (.inl rfl) rfl rfl) dp_nil rfl) rfl rfl rfl) da_nil rfl) (by decide) rfl rfl rfl) (de_callB (CallR.or' cr_reprN (CallR.or' (cr_reprK hc.gu hc.room.units) (CallR.or' cr_reprB (cr_reprD hc.gu hc.room.units)))) cd_reprA (gl_of hc rfl) T.z_repr (by decide +kernel) (da_cons (de_nam hc 7 rfl (.inl rfl) rfl rfl) da_nil rfl) (by decide) rfl rfl rfl) (nomark _)) (dw_or1 (dt_cmp (op_neD hc.room.units) od_ne (de_callB (CallR.or' cr_reprN (CallR.or' (cr_reprK hc.gu hc.room.units) (CallR.or' cr_reprB (cr_reprD hc.gu hc.room.units)))) cd_reprA (gl_of hc rfl) T.z_repr (by decide +kernel) (da_cons (de_nam hc 6 rfl (.inl rfl) rfl rfl) da_nil rfl) (by decide) rfl rfl rfl) (de_nam hc 10 rfl (.inl rfl) rfl rfl) (nomark _)))).dt) (dss_one (ds_ret de_bl)) dss_nil)) (fun _ => rfl)))))))) (fun _ => rfl)))) (fun _ => rfl))
      (dss_one (ds_ret de_bl)))
end L2.K60

set_option maxRecDepth 100000
set_option maxHeartbeats 4000000
namespace L2.K60
open PySem PySem.Spec L2.DL
theorem ItB.fn {c : Nat} {x : PyData} (h : ItB c x) (hc : c ≤ 1000) : Fn x 120000 5 := by
  obtain ⟨a, b, e, rfl, h1, h2, h3⟩ := h
  exact (FnA.cons ((Fn.pair (Fn.num (by omega)) (Fn.num (by omega))).up (Nat.le_refl _) (by decide)) (FnA.cons h3 FnA.nil)).tup.up (by decide) (by decide)
theorem ItB.up {c d : Nat} {x : PyData} (h : ItB c x) (l : c ≤ d) : ItB d x := by
  obtain ⟨a, b, e, h0, h1, h2, h3⟩ := h
  exact ⟨a, b, e, h0, by omega, h2, h3⟩
theorem eqOk_fn {d : PyData} {W D : Nat} (h : Fn d W D) (hd : D ≤ 60) : eqOk d = true := by
  unfold eqOk
  rw [h.h, decide_eq_true (Nat.le_trans h.dp (by omega))]
  rfl
theorem eqOk_row {l : List PyData} (h : ∀ x ∈ l, ItB 100 x) : eqOk (.list l) = true := eqOk_fn (FnA.all fun x hx => (h x hx).fn (by decide)).lst (by decide)
theorem gEq_ok {a b : PyData} (ha : eqOk a = true) (hb : eqOk b = true) : gEq a b = some (.fz (.bool (PyData.eqv a b))) := by
  unfold gEq
  rw [ha, hb]
  rfl
theorem gNe_ok {a b : PyData} (ha : eqOk a = true) (hb : eqOk b = true) : gNe a b = some (.fz (.bool (!PyData.eqv a b))) := by
  unfold gNe
  rw [ha, hb]
  rfl
theorem eqv_beg : ∀ a b : List PyData, PyData.eqv (.list (b.take a.length)) (.list a) = begB a b
  | [], b => by rw [List.length_nil, List.take_zero]; rfl
  | x :: a, [] => rfl
  | x :: a, y :: b => by
    have := eqv_beg a b
    show (PyData.eqv y x && PyData.eqv (.list (b.take a.length)) (.list a)) = _
    rw [this, PySem.W.eqv_comm y x]
    rfl
def pairOk : PyData → PyData → Bool
  | .list a, .list b => begB a b || begB b a
  | _, _ => false
theorem gAll_blD {α : Type} (l : List α) (p : α → Bool) : gAll [.list (l.map fun c => .bool (p c))] = some (.fz (.bool (l.all p))) := by
  show (unBl (l.map fun c => .bool (p c))).map (fun bs => OV.fz (.bool (bs.all id))) = _
  have : (l.map fun c => PyData.bool (p c)) = (l.map p).map .bool := by rw [List.map_map]; rfl
  rw [this, unBl_of]
  simp [List.all_map]
theorem pairs_bl (rs : List (List PyData)) : ((rs.map PyData.list).flatMap fun d => rs.map ((fun b => PyData.bool (pairOk d b)) ∘ PyData.list)) = ((rs.flatMap fun a => rs.map fun b => (begB a b || begB b a)).map fun c => PyData.bool (id c)) := by
  rw [List.flatMap_map, List.map_flatMap]
  refine congrArg (fun f => List.flatMap f rs) (funext fun a => ?_)
  rw [List.map_map]
  rfl
theorem all_pairs (rs : List (List PyData)) : ((rs.flatMap fun a => rs.map fun b => (begB a b || begB b a)).all id) = rs.all fun a => rs.all fun b => begB a b || begB b a := by
  rw [List.all_flatMap]
  simp [List.all_map, Function.comp_def]
theorem beg_long : ∀ {a b : List PyData}, ¬ a.length ≤ b.length → begB a b = false
  | [], b, h => absurd (Nat.zero_le _) h
  | x :: a, [], _ => rfl
  | x :: a, y :: b, h => by
    show (PyData.eqv x y && begB a b) = false
    rw [beg_long (a := a) (b := b) (by simpa using h), Bool.and_false]
theorem beg_range : ∀ {a b : List PyData}, a.length ≤ b.length → ((List.range a.length).filter fun i => !PyData.eqv (a.getD i .none) (b.getD i .none)).isEmpty = begB a b
  | [], b, _ => rfl
  | x :: a, [], h => absurd h (by simp)
  | x :: a, y :: b, h => by
    have ih := beg_range (a := a) (b := b) (by simpa using h)
    show _ = (PyData.eqv x y && begB a b)
    rw [← ih, List.length_cons, List.range_succ_eq_map, List.filter_cons]
    cases hxy : PyData.eqv x y with
    | true =>
      rw [if_neg (by simp [hxy])]
      rw [List.filter_map]
      simp [Function.comp_def, List.getD_cons_succ]
    | false =>
      rw [if_pos (by simp [hxy])]
      rfl
theorem rows_of : ∀ {us : List PyData}, (∀ v ∈ us, ∃ r, v = PyData.list r ∧ RwB 100 r) → ∃ rs : List (List PyData), us = rs.map PyData.list ∧ ∀ r ∈ rs, RwB 100 r
  | [], _ => ⟨[], rfl, fun _ h => by cases h⟩
  | v :: us, h => by
    obtain ⟨r, rfl, hr⟩ := h v (.head _)
    obtain ⟨rs, rfl, hrs⟩ := rows_of (us := us) fun v hv => h v (.tail _ hv)
    exact ⟨r :: rs, rfl, fun x hx => by
      rcases List.mem_cons.mp hx with rfl | hx
      · exact hr
      · exact hrs x hx⟩
def allP (rs : List (List PyData)) : Bool := rs.all fun a => rs.all fun b => begB a b || begB b a
theorem allP_same {xs rs : List (List PyData)} (h : ∀ r, r ∈ xs ↔ r ∈ rs) : allP xs = allP rs := by
  unfold allP
  rw [Bool.eq_iff_iff]
  simp only [List.all_eq_true]
  exact ⟨fun g a ha b hb => g a ((h a).mpr ha) b ((h b).mpr hb), fun g a ha b hb => g a ((h a).mp ha) b ((h b).mp hb)⟩
theorem repr_bool (b : Bool) : ∃ z, gReprA [.bool b] = some (.fz (.str z)) := ⟨_, rfl⟩
def farL : List PyData := [.tuple [.tuple [.int 1000000000, .int 1], .tuple [tx [101, 110, 100], tx [97]]], .tuple [.tuple [.int 1000000000, .int 2], .tuple [tx [101, 110, 100], tx [97]]], .tuple [.tuple [.int 1000000000000, .int 1], .tuple [tx [101, 110, 100], tx [97]]]]
def far1 : PyData := .tuple [.tuple [.int 1000000000, .int 1], .tuple [tx [101, 110, 100], tx [97]]]
theorem p_is_beginning (svs : List SV) (Q : OV → Prop) (hn : svs.length = 2) (h : c_is_beginning svs Q) : t_is_beginning { nx := fun _ => Q (.fz .none), rt := Q } (svs ++ List.replicate (N_is_beginning.length - 2) .no) := by
  obtain ⟨a, b, rfl, ha, hb, hq⟩ := h
  simp [t_is_beginning]
  refine opt_mk (gEq_ok (eqOk_row fun x hx => hb.2 x (List.mem_of_mem_take hx)) (eqOk_row ha.2)) ?_
  rw [eqv_beg]
  exact hq
theorem p_are_beginnings (svs : List SV) (Q : OV → Prop) (hn : svs.length = 1) (h : c_are_beginnings svs Q) : t_are_beginnings { nx := fun _ => Q (.fz .none), rt := Q } (svs ++ List.replicate (N_are_beginnings.length - 1) .no) := by
  obtain ⟨rs, rfl, hl, hr, hq⟩ := h
  have hz : (10000 : Nat) ≤ sizeLine := by decide
  have hb : rs.length * rs.length ≤ 100 * 100 := Nat.mul_le_mul hl hl
  simp [t_are_beginnings]
  refine comp2_pure (fun d => [.dat (.list (rs.map .list)), .dat d, .no]) (fun a b => .bool (pairOk a b)) (by rw [List.length_map]; omega) (fun d hd R h => by simpa using h) (fun d hd R h => by simpa using h) (fun _ _ => rfl) (fun _ _ => rfl) (fun d hd e he acc R ha hR => ?_) ?_
  · obtain ⟨x, hx, rfl⟩ := List.mem_map.mp hd
    obtain ⟨y, hy, rfl⟩ := List.mem_map.mp he
    simp
    refine ⟨x, y, rfl, hr x hx, hr y hy, ?_⟩
    have hR : R (acc ++ [.bool (begB x y || begB y x)]) [.dat (.list (rs.map .list)), .dat (.list x), .no] := hR
    cases hxy : begB x y with
    | true =>
      rw [hxy] at hR
      simp
      exact cond_mk ha (by simpa using hR)
    | false =>
      rw [hxy] at hR
      simp
      refine ⟨y, x, rfl, hr y hy, hr x hx, ?_⟩
      exact cond_mk ha (by simpa using hR)
  · simp
    rw [pairs_bl rs]
    refine opt_mk (gAll_blD _ id) ?_
    simp only [kn_run]
    rw [all_pairs rs]
    exact hq
theorem p__law_pool (svs : List SV) (Q : OV → Prop) (hn : svs.length = 2) (h : c__law_pool svs Q) : t__law_pool { nx := fun _ => Q (.fz .none), rt := Q } (svs ++ List.replicate (N__law_pool.length - 2) .no) := by
  obtain ⟨ns, k, rfl, h1, h2, h3, hq⟩ := h
  have hz : (1002 : Nat) ≤ sizeLine := by decide
  have hc : (cutD (ns.map PyData.int) (some k) (some (k + 1))).length ≤ 1 := by
    unfold cutD
    have e1 : HT.sIx (ns.map PyData.int).length 0 (some k) = min k.toNat (ns.map PyData.int).length := if_neg (by omega)
    have e2 : HT.sIx (ns.map PyData.int).length (ns.map PyData.int).length (some (k + 1)) = min (k + 1).toNat (ns.map PyData.int).length := if_neg (by omega)
    rw [e1, e2, List.length_take]
    omega
  have hi : ∃ i : Int, atI (cutD (ns.map PyData.int) (some k) (some (k + 1)) ++ [.int 0]) 0 = some (.int i) := by
    have hm : ∀ d ∈ cutD (ns.map PyData.int) (some k) (some (k + 1)) ++ [.int 0], ∃ i : Int, d = .int i := fun d hd => by
      rcases List.mem_append.mp hd with h | h
      · unfold cutD at h
        obtain ⟨i, _, e⟩ := List.mem_map.mp (List.mem_of_mem_drop (List.mem_of_mem_take h))
        exact ⟨i, e.symm⟩
      · exact ⟨0, List.mem_singleton.mp h⟩
    generalize cutD (ns.map PyData.int) (some k) (some (k + 1)) = l at hm
    cases l with
    | nil => exact ⟨0, rfl⟩
    | cons d l =>
      obtain ⟨i, rfl⟩ := hm d (by simp)
      refine ⟨i, ?_⟩
      unfold atI ixN
      rw [if_pos (by decide), if_pos (by simp; omega)]
      rfl
  obtain ⟨i, hi⟩ := hi
  have habs : 0 ≤ (if i < 0 then -i else i) := by split <;> omega
  refine ⟨k, rfl, _, gAdd_i _ _, k + 1, rfl, _, rfl, by show 1 ≤ sizeLine; omega, _, gAdd_l (Nat.le_trans (Nat.add_le_add_right hc 1) (by decide)), _, (congrArg (Option.map OV.fz) hi), (by simp), ?_⟩
  refine ⟨_, rfl, (by simp), ?_⟩
  refine ⟨_, gMod_i (by decide), _, gMul_l (by decide) (by decide), _, gAdd_i _ _, _, gAdd_i _ _, _, gMul_r (by decide) (by decide), _, gMod_i (by decide), (by simp), ?_⟩
  refine ⟨_, gPow_i (by decide), _, rfl, ?_⟩
  refine ⟨_, rfl, _, gMul_r ?_ ?_, by show 2 ≤ sizeLine; omega, hq _ _ ?_ (Int.emod_nonneg _ (by decide)) (Int.emod_lt_of_pos _ (by decide))⟩
  · exact Int.lt_of_lt_of_le (by decide) (b01 _).1
  · exact Int.lt_of_le_of_lt (b01 _).2 (by decide)
  · exact Int.mul_nonneg habs (b01 _).1
theorem p__law_take (svs : List SV) (Q : OV → Prop) (hn : svs.length = 2) (h : c__law_take svs Q) : t__law_take { nx := fun _ => Q (.fz .none), rt := Q } (svs ++ List.replicate (N__law_take.length - 2) .no) := by
  obtain ⟨n, rfl, h1, h2, hq⟩ := h
  refine ⟨rfl, fun x hx => ⟨_, rfl, _, rfl, rfl, ?_⟩⟩
  refine ifB (fun h3 => ?_) fun h3 => ?_
  · refine ⟨rfl, fun x hx => ⟨_, if_pos (decide_eq_true h1), by simp, ?_⟩⟩
    refine ⟨rfl, fun x hx => ⟨_, if_pos (decide_eq_true ⟨h1, h2⟩), _, rfl, Int.ediv_nonneg hx (by omega), rfl, ?_⟩⟩
    exact hq _ (Int.emod_nonneg _ (by omega)) (Int.emod_lt_of_pos _ h1)
  · refine ⟨rfl, fun x hx hx2 => ⟨_, gMul_r (by decide) (by decide), _, gAdd_i _ _, _, gMod_i (by decide), _, rfl, Int.emod_nonneg _ (by decide), Int.emod_lt_of_pos _ (by decide), rfl, ?_⟩⟩
    refine ⟨rfl, fun y hy hy2 => ⟨rfl, fun z hz hz2 => ⟨_, gMul_r (by omega) (by omega), _, gMod_i (by decide), _, gDiv_i (by decide) (by decide), _, gMod_i h1, hq _ (Int.emod_nonneg _ (by omega)) (Int.emod_lt_of_pos _ h1)⟩⟩⟩
theorem p__law_one (svs : List SV) (Q : OV → Prop) (hn : svs.length = 2) (h : c__law_one svs Q) : t__law_one { nx := fun _ => Q (.fz .none), rt := Q } (svs ++ List.replicate (N__law_one.length - 2) .no) := by
  obtain ⟨L, rfl, h1, h2, hq⟩ := h
  simp [t__law_one]
  refine call_take (by omega) (by omega) fun j hj => ?_
  simp
  obtain ⟨d, hd, e⟩ := ix_draw hj
  refine opt_mk e ?_
  exact hq d hd
theorem p__law_text (svs : List SV) (Q : OV → Prop) (hn : svs.length = 1) (h : c__law_text svs Q) : t__law_text { nx := fun _ => Q (.fz .none), rt := Q } (svs ++ List.replicate (N__law_text.length - 1) .no) := by
  obtain ⟨rfl, hq⟩ := h
  simp [t__law_text]
  refine ⟨_, rfl, by simp, by simp, fun d hd => ?_⟩
  simp at hd
  rcases hd with rfl | rfl | rfl | rfl <;> exact hq _ (Fn.word _ (by decide) (by decide))
theorem p__law_path (svs : List SV) (Q : OV → Prop) (hn : svs.length = 1) (h : c__law_path svs Q) : t__law_path { nx := fun _ => Q (.fz .none), rt := Q } (svs ++ List.replicate (N__law_path.length - 1) .no) := by
  obtain ⟨rfl, hq⟩ := h
  simp [t__law_path]
  refine ⟨_, rfl, by simp, by simp, fun d hd => ?_⟩
  simp at hd
  rcases hd with rfl | rfl | rfl | rfl | rfl | rfl <;> exact hq _ (Fn.word _ (by decide) (by decide))
theorem p__law_count (svs : List SV) (Q : OV → Prop) (hn : svs.length = 1) (h : c__law_count svs Q) : t__law_count { nx := fun _ => Q (.fz .none), rt := Q } (svs ++ List.replicate (N__law_count.length - 1) .no) := by
  obtain ⟨rfl, hq⟩ := h
  simp [t__law_count]
  refine ⟨_, rfl, by simp, by simp, fun d hd => ?_⟩
  simp at hd
  rcases hd with rfl | rfl | rfl
  · exact hq _ Fn.none
  · exact hq _ (Fn.num (n := 0) (by decide))
  · exact hq _ (Fn.num (n := 1) (by decide))
theorem p__law_plain (svs : List SV) (Q : OV → Prop) (hn : svs.length = 1) (h : c__law_plain svs Q) : t__law_plain { nx := fun _ => Q (.fz .none), rt := Q } (svs ++ List.replicate (N__law_plain.length - 1) .no) := by
  obtain ⟨rfl, hq⟩ := h
  simp [t__law_plain]
  refine call_take (by decide) (by decide) fun j hj => ?_
  simp
  refine br_mk (fun h => ?_) fun h => ?_
  · simp
    refine ⟨_, rfl, by simp, by simp, fun d hd => ?_⟩
    have hd : Fn d 2002 0 := by
      simp at hd
      rcases hd with rfl | rfl | rfl | rfl | rfl | rfl <;> exact (Fn.word _ (by decide) (by decide))
    simp
    refine ⟨rfl, fun t ht => ?_⟩
    simp
    refine call_take (by decide) (by decide) fun j1 hj1 => ?_
    simp
    refine call_take (by decide) (by decide) fun j2 hj2 => ?_
    simp
    exact hq _ ((Fn.five (Fn.word makeW (by decide) (by decide)) hd ht (Fn.bool _) (Fn.bool _)))
  · simp
    refine br_mk (fun h => ?_) fun h => ?_
    · simp
      refine ⟨rfl, fun d hd => ?_⟩
      simp
      refine ⟨rfl, fun t ht => ?_⟩
      simp
      refine ⟨rfl, fun c hc => ?_⟩
      simp
      exact hq _ (Fn.four (Fn.word putW (by decide) (by decide)) hd ht hc)
    · simp
      refine br_mk (fun h => ?_) fun h => ?_
      · simp
        refine ⟨rfl, fun d hd => ?_⟩
        simp
        refine ⟨rfl, fun c hc => ?_⟩
        simp
        exact hq _ (Fn.three (Fn.word dropW (by decide) (by decide)) hd hc)
      · simp
        refine ⟨rfl, fun d hd => ?_⟩
        simp
        refine ⟨rfl, fun c hc => ?_⟩
        simp
        exact hq _ (Fn.three (Fn.word seeW (by decide) (by decide)) hd hc)
theorem p__law_deed (svs : List SV) (Q : OV → Prop) (hn : svs.length = 1) (h : c__law_deed svs Q) : t__law_deed { nx := fun _ => Q (.fz .none), rt := Q } (svs ++ List.replicate (N__law_deed.length - 1) .no) := by
  obtain ⟨rfl, hq⟩ := h
  have hz : (1002 : Nat) ≤ sizeLine := by decide
  simp [t__law_deed]
  refine call_take (by decide) (by decide) fun j hj => ?_
  simp
  refine br_mk (fun h => ?_) fun h => ?_
  · simp
    refine call_take (by decide) (by decide) fun k hk => ?_
    simp
    refine cond_mk (by omega) (cond_mk (by omega) ?_)
    refine comp_draw (fun v => Fn v 11000 1) ?_ (fun d hd acc R ha hR => ?_) fun us hu hus => ?_
    · rw [ups_len2]
      omega
    · simp
      refine ⟨rfl, fun v hv => ?_⟩
      simp
      exact cond_mk ha (hR v hv)
    · rw [ups_len2] at hu
      simp
      refine opt_mk (v := .fz (.tuple us)) rfl ?_
      simp
      have h1 : FnA us (11002 * us.length) 1 := FnA.all hus
      exact hq _ ((FnA.cons ((Fn.word allW (by decide) (by decide)).up (Nat.le_refl _) (by decide)) (FnA.cons h1.tup FnA.nil)).tup.up (by omega) (by omega))
  · simp
    refine br_mk (fun h => ?_) fun h => ?_
    · simp
      refine call_take (by decide) (by decide) fun k hk => ?_
      simp
      refine ⟨_, rfl, by simp, by simp, fun d hd => ?_⟩
      simp at hd
      rcases hd with rfl | rfl | rfl
      · exact hq _ ((FnA.cons (Fn.word openW (by decide) (by decide)) (FnA.cons (show Fn (.int ((1 : Int) + k)) 2002 0 by rw [show (1 : Int) + k = ((k + 1 : Nat) : Int) by omega]; exact Fn.num (by omega)) FnA.nil)).tup.up (by decide) (by decide))
      · exact hq _ ((FnA.cons (Fn.word closeW (by decide) (by decide)) FnA.nil).tup.up (by decide) (by decide))
      · exact hq _ ((FnA.cons (Fn.word bringW (by decide) (by decide)) FnA.nil).tup.up (by decide) (by decide))
    · simp
      exact ⟨rfl, fun d hd => hq _ (hd.up (by decide) (by decide))⟩
theorem p__law_row (svs : List SV) (Q : OV → Prop) (hn : svs.length = 1) (h : c__law_row svs Q) : t__law_row { nx := fun _ => Q (.fz .none), rt := Q } (svs ++ List.replicate (N__law_row.length - 1) .no) := by
  obtain ⟨rfl, hq⟩ := h
  have hz : (1002 : Nat) ≤ sizeLine := by decide
  simp [t__law_row]
  refine call_take (by decide) (by decide) fun j hj => ?_
  simp
  refine cond_mk (by omega) ?_
  simp
  refine forI_inv (fun ds s => ∃ (l : List PyData) (a b : Nat) (x4 : SV), s = [.pool, .own (.lst l), .dat (.int (a : Nat)), .dat (.int (b : Nat)), x4] ∧ l.length + ds.length ≤ 10 ∧ a ≤ 1 + l.length ∧ b ≤ l.length ∧ (∀ x ∈ l, ItB 50 x) ∧ ∀ d ∈ ds, ∃ k : Nat, d = .int k ∧ k < 10) ?_ ?_ _ _ ?_
  · rintro d ds s ⟨l, a, b, x4, rfl, hl, ha, hb, hi, hd⟩ R hR
    obtain ⟨k, rfl, hk⟩ := hd _ (.head _)
    rw [List.length_cons] at hl
    simp
    refine call_take (by decide) (by decide) fun m hm => ?_
    have fin : ∀ (a' b' : Nat), a' ≤ 2 + l.length → b' ≤ l.length + 1 → ∀ w e, Fn (tx w) 2002 0 → Fn e 70000 3 → R [.pool, .own (.lst (l ++ [.tuple [.tuple [.int (a' : Nat), .int (b' : Nat)], .tuple [tx askW, tx w, .int ((k : Int) + 1), e]]])), .dat (.int (a' : Nat)), .dat (.int (b' : Nat)), .dat (.int (k : Nat))] := fun a' b' h1 h2 w e hw he => hR _ ⟨_, a', b', _, rfl, by simp; omega, by simp; omega, by simp; omega, fun x hx => by
      rcases List.mem_append.mp hx with hx | hx
      · exact hi x hx
      · rw [List.mem_singleton.mp hx]
        refine ⟨a', b', _, rfl, by omega, by omega, ?_⟩
        have hn : Fn (.int ((k : Int) + 1)) 2002 0 := by rw [show (k : Int) + 1 = ((k + 1 : Nat) : Int) by omega]; exact Fn.num (by omega)
        exact (FnA.cons ((Fn.word askW (by decide) (by decide)).up (Nat.le_refl _) (Nat.zero_le _)) (FnA.cons (hw.up (Nat.le_refl _) (Nat.zero_le _)) (FnA.cons (hn.up (Nat.le_refl _) (Nat.zero_le _)) (FnA.cons he FnA.nil)))).tup.up (by decide) (by decide), fun x hx => hd x (.tail _ hx)⟩
    simp
    refine br_mk (fun h => ?_) fun h => ?_
    · simp
      refine ⟨_, rfl, by simp, by simp, fun w hw => ?_⟩
      obtain ⟨w, rfl, hw'⟩ : ∃ w', w = tx w' ∧ Fn (tx w') 2002 0 := by
        simp at hw
        rcases hw with rfl | rfl <;> exact ⟨_, rfl, Fn.word _ (by decide) (by decide)⟩
      simp
      refine ⟨rfl, fun e he => ?_⟩
      simp
      refine cond_mk (by omega) ?_
      exact fin (a + 1) 1 (by omega) (by omega) w e hw' he
    · simp
      refine ⟨_, rfl, by simp, by simp, fun w hw => ?_⟩
      obtain ⟨w, rfl, hw'⟩ : ∃ w', w = tx w' ∧ Fn (tx w') 2002 0 := by
        simp at hw
        rcases hw with rfl | rfl <;> exact ⟨_, rfl, Fn.word _ (by decide) (by decide)⟩
      simp
      refine ⟨rfl, fun e he => ?_⟩
      simp
      refine cond_mk (by omega) ?_
      exact fin a (b + 1) (by omega) (by omega) w e hw' he
  · rintro s ⟨l, a, b, x4, rfl, hl, ha, hb, hi, hd⟩
    simp
    exact hq l (by simpa using hl) hi
  · refine ⟨[], 1, 0, _, rfl, ?_, by decide, by decide, (fun _ h => by cases h), fun d hd => ?_⟩
    · rw [ups_len2]
      simp
      omega
    · obtain ⟨i, rfl, hi⟩ := ups_mem hd
      exact ⟨i, rfl, by omega⟩
theorem p__law_near (svs : List SV) (Q : OV → Prop) (hn : svs.length = 2) (h : c__law_near svs Q) : t__law_near { nx := fun _ => Q (.fz .none), rt := Q } (svs ++ List.replicate (N__law_near.length - 2) .no) := by
  obtain ⟨l, rfl, hl, hi, hq⟩ := h
  have hz : (1002 : Nat) ≤ sizeLine := by decide
  have hup : ∀ x ∈ l, ItB 100 x := fun x hx => (hi x hx).up (by decide)
  simp [t__law_near]
  refine call_take (by decide) (by decide) fun j hj => ?_
  simp
  refine call_take (by omega) (by omega) fun k hk => ?_
  simp
  have cut : Q (.lst (l.take k)) := hq _ (by rw [List.length_take]; omega) fun x hx => hup x (List.mem_of_mem_take hx)
  refine br_mk (fun h => ?_) fun h => ?_
  · simp
    exact cut
  · simp
    refine opt_mk (gEq_ok (eqOk_row hup) rfl) ?_
    simp
    cases l with
    | nil =>
      rw [show PyData.eqv (.list []) (.list []) = true from rfl]
      simp
      simpa using cut
    | cons y l =>
      rw [show PyData.eqv (.list (y :: l)) (.list []) = false from rfl]
      simp
      refine br_mk (fun h => ?_) fun h => ?_
      · simp
        exact hq _ (by simp at hl ⊢; omega) hup
      · simp
        have hm : k % (l.length + 1) < (y :: l).length := Nat.mod_lt _ (Nat.succ_pos _)
        obtain ⟨a0, b0, e0, h0, h1, h2, h3⟩ := hi _ (List.getElem_mem hm)
        have hx : (y :: l)[k % (l.length + 1)]? = some (.tuple [.tuple [.int (a0 : Nat), .int (b0 : Nat)], e0]) := by rw [List.getElem?_eq_getElem hm, h0]
        obtain ⟨n, hn, hmod⟩ : ∃ n : Nat, n = k % (l.length + 1) ∧ gMod (.int (k : Nat)) (.int ((l.length : Int) + 1)) = some (.fz (.int (n : Int))) := by
          refine ⟨_, rfl, ?_⟩
          rw [gMod_i (by omega)]
          rfl
        rw [← hn] at hx
        have hl10 : l.length + 1 ≤ 10 := by simpa using hl
        refine opt_mk hmod ?_
        simp only [kn_run]
        refine opt_mk (gIx_nthL hx) ?_
        simp
        refine br_mk (fun h => ?_) fun h => ?_
        · simp
          refine opt_mk hmod ?_
          simp
          refine opt_mk (gAdd_l (by simp; omega)) ?_
          simp
          refine opt_mk hmod ?_
          simp
          refine opt_mk (v := .lst ((y :: l).drop (n + 1))) (by rw [show ((n : Int) + 1) = ((n + 1 : Nat) : Int) by omega]; exact v_slLfrom) ?_
          simp only [kn_run]
          refine opt_mk (gAdd_l (by simp; omega)) ?_
          refine hq _ (by simp; omega) fun x hx => ?_
          rcases List.mem_append.mp hx with hx | hx
          · rcases List.mem_append.mp hx with hx | hx
            · exact hup x (List.mem_of_mem_take hx)
            · rw [List.mem_singleton.mp hx]
              exact ⟨a0, b0, _, rfl, by omega, h2, (FnA.cons (Fn.word endW (by decide) (by decide)) (FnA.cons (Fn.word [120] (by decide) (by decide)) FnA.nil)).tup.up (by decide) (by decide)⟩
          · exact hup x (List.mem_of_mem_drop hx)
        · simp
          have hne : (y :: l) ≠ [] := by simp
          obtain ⟨a1, b1, e1, g0, g1, g2, g3⟩ := hi _ (List.getLast_mem hne)
          rw [List.getLast?_eq_some_getLast hne, g0]
          simp
          refine opt_mk (gAdd_l (by simp; omega)) ?_
          simp only [kn_run]
          refine hq _ (by simp; omega) fun x hx => ?_
          rcases List.mem_append.mp hx with hx | hx
          · exact hup x hx
          · rw [List.mem_singleton.mp hx]
            exact ⟨a1 + 9, 1, _, rfl, by omega, by decide, h3⟩
theorem p__law_is_beginning (svs : List SV) (Q : OV → Prop) (hn : svs.length = 2) (h : c__law_is_beginning svs Q) : t__law_is_beginning { nx := fun _ => Q (.fz .none), rt := Q } (svs ++ List.replicate (N__law_is_beginning.length - 2) .no) := by
  obtain ⟨a, b, rfl, ha, hb, hq⟩ := h
  have hz : (1002 : Nat) ≤ sizeLine := by decide
  simp [t__law_is_beginning]
  refine br_mk (fun h => ?_) fun h => ?_
  · have h := of_decide_eq_true h
    have hal := ha.1
    simp
    refine cond_mk (by omega) ?_
    rw [ups0]
    refine comp_filter (fun i => !PyData.eqv (a.getD i .none) (b.getD i .none)) (by rw [List.length_range]; omega) (fun i hi acc R hacc h1 h2 => ?_) ?_
    · have hi := List.mem_range.mp hi
      simp
      have e1 : a[i]? = some (a.getD i .none) := by rw [List.getElem?_eq_getElem hi, List.getD_eq_getElem?_getD, List.getElem?_eq_getElem hi]; rfl
      have e2 : b[i]? = some (b.getD i .none) := by rw [List.getElem?_eq_getElem (by omega), List.getD_eq_getElem?_getD, List.getElem?_eq_getElem (by omega)]; rfl
      refine opt_mk (gIx_nthL e1) ?_
      simp only [kn_run]
      refine opt_mk (gIx_nthL e2) ?_
      simp only [kn_run]
      have m1 := ha.2 _ (List.mem_of_getElem? e1)
      have m2 := hb.2 _ (List.mem_of_getElem? e2)
      refine ⟨_, gNe_ok (eqOk_fn (m1.fn (by decide)) (by decide)) (eqOk_fn (m2.fn (by decide)) (by decide)), ?_⟩
      simp only [onB_in, onB_mk, kn_run, OV.data, br_in]
      cases hxy : PyData.eqv (a.getD i .none) (b.getD i .none) with
      | true => simpa using h2 (by rw [hxy]; rfl)
      | false =>
        have h1 := h1 (by rw [hxy]; rfl)
        simp
        exact cond_mk hacc (by simpa using h1)
    · have e := beg_range h
      simp only [List.getD_eq_getElem?_getD] at e
      simp
      refine opt_mk (gEq_nil ?_) ?_
      · rw [List.all_map]
        exact List.all_eq_true.mpr fun _ _ => rfl
      · simp only [kn_run]
        rw [List.isEmpty_map, e]
        exact hq
  · simp
    rw [beg_long (by simpa using h)] at hq
    exact hq
theorem p_law (svs : List SV) (Q : OV → Prop) (hn : svs.length = 1) (h : c_law svs Q) : t_law { nx := fun _ => Q (.fz .none), rt := Q } (svs ++ List.replicate (N_law.length - 1) .no) := by
  obtain ⟨ns, rfl, hl, hq⟩ := h
  have hz : (1002 : Nat) ≤ sizeLine := by decide
  simp [t_law]
  refine cond_mk (by split <;> split <;> omega) (cond_mk (by split <;> split <;> omega) ?_)
  refine forI_inv (fun ds s => (∃ x1 x2 x3 x4 x5 x6 x7 x8 x9 x10, s = [.dat (.list (ns.map .int)), x1, x2, x3, x4, x5, x6, x7, x8, x9, x10]) ∧ ∀ d ∈ ds, ∃ k : Nat, d = .int k ∧ k < 64) ?_ ?_ _ _ ⟨⟨_, _, _, _, _, _, _, _, _, _, rfl⟩, fun d hd => ?_⟩
  · rintro d ds s ⟨⟨x1, x2, x3, x4, x5, x6, x7, x8, x9, x10, rfl⟩, hd⟩ R hR
    obtain ⟨k, rfl, hk⟩ := hd d (by simp)
    have hR : ∀ x1 x2 x3 x4 x5 x6 x7 x8 x9 x10, R [.dat (.list (ns.map .int)), x1, x2, x3, x4, x5, x6, x7, x8, x9, x10] := fun _ _ _ _ _ _ _ _ _ _ => hR _ ⟨⟨_, _, _, _, _, _, _, _, _, _, rfl⟩, fun d h => hd d (by simp [h])⟩
    simp
    refine call_pool hl hk fun x y h1 h2 h3 => ⟨x, y, rfl, h1, h2, h3, by simp, ?_⟩
    simp
    refine forI_inv (fun ds s => ∃ x3 x4 x5 x6 x7 x8 x9 x10, s = [.dat (.list (ns.map .int)), .dat (.int (k : Nat)), .pool, x3, x4, x5, x6, x7, x8, x9, x10]) ?_ ?_ _ _ ⟨_, _, _, _, _, _, _, _, rfl⟩
    · rintro d ds s ⟨x3, x4, x5, x6, x7, x8, x9, x10, rfl⟩ R hR
      simp
      refine ⟨rfl, fun l hl hi => ?_⟩
      simp
      refine call_take (by decide) (by decide) fun j hj => ?_
      simp
      refine cond_mk (by omega) ?_
      refine comp_draw (fun v => ∃ r, v = .list r ∧ RwB 100 r) (by rw [ups_len2]; omega) (fun d hd acc R ha hR => ?_) fun us hu hus => ?_
      · simp
        refine ⟨l, rfl, hl, hi, fun l' hl' hi' => ?_⟩
        simp
        exact cond_mk ha (hR _ ⟨l', rfl, by omega, hi'⟩)
      · obtain ⟨rs, rfl, hrs⟩ := rows_of hus
        simp [ups_len2] at hu
        simp
        refine forI_inv (fun ds s => ∃ (x8 x9 : SV) (b : Bool) (rest : List (List PyData)), ds = rest.map .list ∧ (∀ r ∈ rest, RwB 100 r) ∧ s = [.dat (.list (ns.map .int)), .dat (.int (k : Nat)), .pool, .dat d, .dat (.list l), .no, .dat (.list (rs.map .list)), .dat (.bool b), x8, x9, x10] ∧ (b && rest.all fun a => rs.all fun c => begB a c || begB c a) = allP rs) ?_ ?_ _ _ ⟨_, _, true, rs, rfl, hrs, rfl, rfl⟩
        · rintro d1 ds1 s ⟨x8, x9, b, rest, hds, hrest, rfl, hb⟩ R2 hR2
          cases rest with
          | nil => cases hds
          | cons a rest =>
          injection hds with e1 e2
          subst e1 e2
          simp
          refine forI_inv (fun ds s => ∃ (x9 : SV) (b1 : Bool) (rest1 : List (List PyData)), ds = rest1.map .list ∧ (∀ r ∈ rest1, RwB 100 r) ∧ s = [.dat (.list (ns.map .int)), .dat (.int (k : Nat)), .pool, .dat d, .dat (.list l), .no, .dat (.list (rs.map .list)), .dat (.bool b1), .dat (.list a), x9, x10] ∧ (b1 && rest1.all fun c => begB a c || begB c a) = (b && rs.all fun c => begB a c || begB c a)) ?_ ?_ _ _ ⟨_, b, rs, rfl, hrs, rfl, rfl⟩
          · rintro d1 ds1 s ⟨x9, b1, rest1, hds, hrest1, rfl, hb1⟩ R3 hR3
            cases rest1 with
            | nil => cases hds
            | cons c rest1 =>
            injection hds with e1 e2
            subst e1 e2
            rw [List.all_cons] at hb1
            have ha := hrest a (.head _)
            have hc := hrest1 c (.head _)
            simp
            refine ⟨a, c, rfl, ha, hc, ?_⟩
            cases h1 : begB a c with
            | true =>
              rw [h1] at hb1
              simp
              exact hR3 _ ⟨_, b1, rest1, rfl, fun r hr => hrest1 r (.tail _ hr), rfl, by simpa using hb1⟩
            | false =>
              rw [h1] at hb1
              simp
              refine ⟨c, a, rfl, hc, ha, ?_⟩
              cases h2 : begB c a with
              | true =>
                rw [h2] at hb1
                simp
                exact hR3 _ ⟨_, b1, rest1, rfl, fun r hr => hrest1 r (.tail _ hr), rfl, by simpa using hb1⟩
              | false =>
                rw [h2] at hb1
                simp
                exact hR3 _ ⟨_, false, rest1, rfl, fun r hr => hrest1 r (.tail _ hr), rfl, by simpa using hb1⟩
          · rintro s ⟨x9, b1, rest1, hds, _, rfl, hb1⟩
            cases rest1 with
            | cons _ _ => cases hds
            | nil =>
            refine hR2 _ ⟨_, _, b1, rest, rfl, fun r hr => hrest r (.tail _ hr), rfl, ?_⟩
            rw [← hb, List.all_cons, ← Bool.and_assoc, ← hb1, List.all_nil, Bool.and_true]
        · rintro s ⟨x8, x9, b, rest, hds, _, rfl, hb⟩
          cases rest with
          | cons _ _ => cases hds
          | nil =>
          obtain rfl : b = allP rs := by simpa using hb
          obtain ⟨z, hz⟩ := repr_list (ds := rs.map .list) (W := 1440100) (D := 6) (fun d hd => by
            obtain ⟨r, hr, rfl⟩ := List.mem_map.mp hd
            have := (hrs r hr).1
            exact (FnA.all fun x hx => ((hrs r hr).2 x hx).fn (by decide)).lst.up (by omega) (by decide)) (by rw [List.length_map]; omega) (by decide)
          simp
          refine opt_mk hz ?_
          simp
          refine opt_mk (v := .lst ((rs.map .list).take 1)) (v_slLto (n := 1)) ?_
          simp
          refine opt_mk (gAdd_l (by simp; omega)) ?_
          simp
          obtain ⟨z2, hz2⟩ := repr_bool (allP rs)
          refine forI_inv (fun ds s => (∃ x5, s = [.dat (.list (ns.map .int)), .dat (.int (k : Nat)), .pool, .dat d, .dat (.list l), x5, .dat (.list (rs.map .list)), .dat (.bool (allP rs)), x8, x9, .dat (.str z)]) ∧ ∀ d ∈ ds, ∃ xs : List (List PyData), d = .list (xs.map .list) ∧ xs.length ≤ 100 ∧ (∀ r, r ∈ xs ↔ r ∈ rs)) ?_ ?_ _ _ ⟨⟨_, rfl⟩, fun d hd => ?_⟩
          · rintro d1 ds1 s ⟨⟨x5, rfl⟩, hd1⟩ R2 hR2
            obtain ⟨xs, rfl, hx1, hx2⟩ := hd1 d1 (.head _)
            simp
            refine ⟨xs, rfl, hx1, fun r hr => hrs r ((hx2 r).mp hr), ?_⟩
            rw [show (xs.all fun a => xs.all fun b => begB a b || begB b a) = allP rs from allP_same hx2]
            simp
            refine opt_mk hz2 ?_
            simp
            refine opt_mk hz2 ?_
            simp
            refine opt_mk (gNe_strs z2) ?_
            simp
            refine opt_mk hz ?_
            simp
            refine opt_mk (gNe_strs z) ?_
            simp
            exact hR2 _ ⟨⟨_, rfl⟩, fun d hd => hd1 d (.tail _ hd)⟩
          · rintro s ⟨⟨x5, rfl⟩, _⟩
            exact hR _ ⟨_, _, _, _, _, _, _, _, rfl⟩
          · have h5 : rs.length ≤ 6 := by omega
            simp only [List.mem_cons, List.not_mem_nil, or_false] at hd
            rcases hd with rfl | rfl | rfl
            · exact ⟨rs, rfl, by omega, fun r => Iff.rfl⟩
            · exact ⟨rs.reverse, by rw [List.map_reverse], by rw [List.length_reverse]; omega, fun r => List.mem_reverse⟩
            · refine ⟨rs ++ rs.take 1, by rw [List.map_append, List.map_take], by simp; omega, fun r => ⟨fun h => ?_, fun h => List.mem_append_left _ h⟩⟩
              rcases List.mem_append.mp h with h | h
              · exact h
              · exact List.mem_of_mem_take h
    · rintro s ⟨x3, x4, x5, x6, x7, x8, x9, x10, rfl⟩
      simp
      exact hR _ _ _ _ _ _ _ _ _ _
  · rintro s ⟨⟨x1, x2, x3, x4, x5, x6, x7, x8, x9, x10, rfl⟩, hd⟩
    simp
    exact hq
  · obtain ⟨i, rfl, hi⟩ := ups_mem hd
    exact ⟨i, by simp, by split at hi <;> split at hi <;> omega⟩
end L2.K60

namespace L2.K60
open PySem PySem.Spec L2.DL
section
variable {P : Program} {w : World} {K : PySem.W.Frag} {mg : Str → Option Value} {base : Heap}
theorem ok_is_beginning (T : Txt K mg) : Callee P w K mg base "is_beginning" s_is_beginning 1 2 ["one", "other"] c_is_beginning := by
  refine callee_of T.h_is_beginning sc_is_beginning rfl m_is_beginning (fun X hc e1 e2 e3 e4 e5 => ?_) p_is_beginning
  subst e1 e2 e3 e4 e5
  exact b_is_beginning hc T
theorem ok_are_beginnings (T : Txt K mg) (C_is_beginning : Callee P w K mg base "is_beginning" s_is_beginning 1 2 ["one", "other"] c_is_beginning) : Callee P w K mg base "are_beginnings" s_are_beginnings 2 1 ["rows"] c_are_beginnings := by
  refine callee_of T.h_are_beginnings sc_are_beginnings rfl m_are_beginnings (fun X hc e1 e2 e3 e4 e5 => ?_) p_are_beginnings
  subst e1 e2 e3 e4 e5
  exact b_are_beginnings hc T C_is_beginning
theorem ok__law_pool (T : Txt K mg) : Callee P w K mg base "_law_pool" s__law_pool 1 2 ["_law_script", "_law_k"] c__law_pool := by
  refine callee_of T.h__law_pool sc__law_pool rfl m__law_pool (fun X hc e1 e2 e3 e4 e5 => ?_) p__law_pool
  subst e1 e2 e3 e4 e5
  exact b__law_pool hc T
theorem ok__law_take (T : Txt K mg) : Callee P w K mg base "_law_take" s__law_take 1 2 ["_law_pool_here", "_law_many"] c__law_take := by
  refine callee_of T.h__law_take sc__law_take rfl m__law_take (fun X hc e1 e2 e3 e4 e5 => ?_) p__law_take
  subst e1 e2 e3 e4 e5
  exact b__law_take hc T
theorem ok__law_one (T : Txt K mg) (C__law_take : Callee P w K mg base "_law_take" s__law_take 1 2 ["_law_pool_here", "_law_many"] c__law_take) : Callee P w K mg base "_law_one" s__law_one 2 2 ["_law_pool_here", "_law_some"] c__law_one := by
  refine callee_of T.h__law_one sc__law_one rfl m__law_one (fun X hc e1 e2 e3 e4 e5 => ?_) p__law_one
  subst e1 e2 e3 e4 e5
  exact b__law_one hc T C__law_take
theorem ok__law_text (T : Txt K mg) (C__law_one : Callee P w K mg base "_law_one" s__law_one 2 2 ["_law_pool_here", "_law_some"] c__law_one) : Callee P w K mg base "_law_text" s__law_text 3 1 ["_law_pool_here"] c__law_text := by
  refine callee_of T.h__law_text sc__law_text rfl m__law_text (fun X hc e1 e2 e3 e4 e5 => ?_) p__law_text
  subst e1 e2 e3 e4 e5
  exact b__law_text hc T C__law_one
theorem ok__law_path (T : Txt K mg) (C__law_one : Callee P w K mg base "_law_one" s__law_one 2 2 ["_law_pool_here", "_law_some"] c__law_one) : Callee P w K mg base "_law_path" s__law_path 3 1 ["_law_pool_here"] c__law_path := by
  refine callee_of T.h__law_path sc__law_path rfl m__law_path (fun X hc e1 e2 e3 e4 e5 => ?_) p__law_path
  subst e1 e2 e3 e4 e5
  exact b__law_path hc T C__law_one
theorem ok__law_count (T : Txt K mg) (C__law_one : Callee P w K mg base "_law_one" s__law_one 2 2 ["_law_pool_here", "_law_some"] c__law_one) : Callee P w K mg base "_law_count" s__law_count 3 1 ["_law_pool_here"] c__law_count := by
  refine callee_of T.h__law_count sc__law_count rfl m__law_count (fun X hc e1 e2 e3 e4 e5 => ?_) p__law_count
  subst e1 e2 e3 e4 e5
  exact b__law_count hc T C__law_one
theorem ok__law_plain (T : Txt K mg) (C__law_count : Callee P w K mg base "_law_count" s__law_count 3 1 ["_law_pool_here"] c__law_count) (C__law_one : Callee P w K mg base "_law_one" s__law_one 2 2 ["_law_pool_here", "_law_some"] c__law_one) (C__law_path : Callee P w K mg base "_law_path" s__law_path 3 1 ["_law_pool_here"] c__law_path) (C__law_take : Callee P w K mg base "_law_take" s__law_take 1 2 ["_law_pool_here", "_law_many"] c__law_take) (C__law_text : Callee P w K mg base "_law_text" s__law_text 3 1 ["_law_pool_here"] c__law_text) : Callee P w K mg base "_law_plain" s__law_plain 4 1 ["_law_pool_here"] c__law_plain := by
  refine callee_of T.h__law_plain sc__law_plain rfl m__law_plain (fun X hc e1 e2 e3 e4 e5 => ?_) p__law_plain
  subst e1 e2 e3 e4 e5
  exact b__law_plain hc T C__law_count C__law_one C__law_path C__law_take C__law_text
theorem ok__law_deed (T : Txt K mg) (C__law_one : Callee P w K mg base "_law_one" s__law_one 2 2 ["_law_pool_here", "_law_some"] c__law_one) (C__law_plain : Callee P w K mg base "_law_plain" s__law_plain 4 1 ["_law_pool_here"] c__law_plain) (C__law_take : Callee P w K mg base "_law_take" s__law_take 1 2 ["_law_pool_here", "_law_many"] c__law_take) : Callee P w K mg base "_law_deed" s__law_deed 5 1 ["_law_pool_here"] c__law_deed := by
  refine callee_of T.h__law_deed sc__law_deed rfl m__law_deed (fun X hc e1 e2 e3 e4 e5 => ?_) p__law_deed
  subst e1 e2 e3 e4 e5
  exact b__law_deed hc T C__law_one C__law_plain C__law_take
theorem ok__law_row (T : Txt K mg) (C__law_deed : Callee P w K mg base "_law_deed" s__law_deed 5 1 ["_law_pool_here"] c__law_deed) (C__law_one : Callee P w K mg base "_law_one" s__law_one 2 2 ["_law_pool_here", "_law_some"] c__law_one) (C__law_take : Callee P w K mg base "_law_take" s__law_take 1 2 ["_law_pool_here", "_law_many"] c__law_take) : Callee P w K mg base "_law_row" s__law_row 6 1 ["_law_pool_here"] c__law_row := by
  refine callee_of T.h__law_row sc__law_row rfl m__law_row (fun X hc e1 e2 e3 e4 e5 => ?_) p__law_row
  subst e1 e2 e3 e4 e5
  exact b__law_row hc T C__law_deed C__law_one C__law_take
theorem ok__law_near (T : Txt K mg) (C__law_take : Callee P w K mg base "_law_take" s__law_take 1 2 ["_law_pool_here", "_law_many"] c__law_take) : Callee P w K mg base "_law_near" s__law_near 2 2 ["_law_pool_here", "_law_row_here"] c__law_near := by
  refine callee_of T.h__law_near sc__law_near rfl m__law_near (fun X hc e1 e2 e3 e4 e5 => ?_) p__law_near
  subst e1 e2 e3 e4 e5
  exact b__law_near hc T C__law_take
theorem ok__law_is_beginning (T : Txt K mg) : Callee P w K mg base "_law_is_beginning" s__law_is_beginning 1 2 ["_law_one_here", "_law_other"] c__law_is_beginning := by
  refine callee_of T.h__law_is_beginning sc__law_is_beginning rfl m__law_is_beginning (fun X hc e1 e2 e3 e4 e5 => ?_) p__law_is_beginning
  subst e1 e2 e3 e4 e5
  exact b__law_is_beginning hc T
theorem ok_law (T : Txt K mg) (C__law_is_beginning : Callee P w K mg base "_law_is_beginning" s__law_is_beginning 1 2 ["_law_one_here", "_law_other"] c__law_is_beginning) (C__law_near : Callee P w K mg base "_law_near" s__law_near 2 2 ["_law_pool_here", "_law_row_here"] c__law_near) (C__law_pool : Callee P w K mg base "_law_pool" s__law_pool 1 2 ["_law_script", "_law_k"] c__law_pool) (C__law_row : Callee P w K mg base "_law_row" s__law_row 6 1 ["_law_pool_here"] c__law_row) (C__law_take : Callee P w K mg base "_law_take" s__law_take 1 2 ["_law_pool_here", "_law_many"] c__law_take) (C_are_beginnings : Callee P w K mg base "are_beginnings" s_are_beginnings 2 1 ["rows"] c_are_beginnings) : Callee P w K mg base "law" s_law 7 1 ["_law_script"] c_law := by
  refine callee_of T.h_law sc_law rfl m_law (fun X hc e1 e2 e3 e4 e5 => ?_) p_law
  subst e1 e2 e3 e4 e5
  exact b_law hc T C__law_is_beginning C__law_near C__law_pool C__law_row C__law_take C_are_beginnings
end
theorem all_mk {K : PySem.W.Frag} {h : Heap} {mg : Str → Option Value} (X : K.In h) (G : h.Ns mainGlobals mg)
    {f0 : Addr} {oc0 kV0 doc0 pm0 cd0 ct0 : Value} {od0 an0 : Option Addr} {sl0 : Array (Option Value)}
    {f1 : Addr} {oc1 kV1 doc1 pm1 cd1 ct1 : Value} {od1 an1 : Option Addr} {sl1 : Array (Option Value)}
    {f2 : Addr} {oc2 kV2 doc2 pm2 cd2 ct2 : Value} {od2 an2 : Option Addr} {sl2 : Array (Option Value)}
    {f3 : Addr} {oc3 kV3 doc3 pm3 cd3 ct3 : Value} {od3 an3 : Option Addr} {sl3 : Array (Option Value)}
    {f4 : Addr} {oc4 kV4 doc4 pm4 cd4 ct4 : Value} {od4 an4 : Option Addr} {sl4 : Array (Option Value)}
    {f5 : Addr} {oc5 kV5 doc5 pm5 cd5 ct5 : Value} {od5 an5 : Option Addr} {sl5 : Array (Option Value)}
    {f6 : Addr} {oc6 kV6 doc6 pm6 cd6 ct6 : Value} {od6 an6 : Option Addr} {sl6 : Array (Option Value)}
    {f7 : Addr} {oc7 kV7 doc7 pm7 cd7 ct7 : Value} {od7 an7 : Option Addr} {sl7 : Array (Option Value)}
    {f8 : Addr} {oc8 kV8 doc8 pm8 cd8 ct8 : Value} {od8 an8 : Option Addr} {sl8 : Array (Option Value)}
    {f9 : Addr} {oc9 kV9 doc9 pm9 cd9 ct9 : Value} {od9 an9 : Option Addr} {sl9 : Array (Option Value)}
    {f10 : Addr} {oc10 kV10 doc10 pm10 cd10 ct10 : Value} {od10 an10 : Option Addr} {sl10 : Array (Option Value)}
    {f11 : Addr} {oc11 kV11 doc11 pm11 cd11 ct11 : Value} {od11 an11 : Option Addr} {sl11 : Array (Option Value)}
    {f12 : Addr} {oc12 kV12 doc12 pm12 cd12 ct12 : Value} {od12 an12 : Option Addr} {sl12 : Array (Option Value)}
    {f13 : Addr} {oc13 kV13 doc13 pm13 cd13 ct13 : Value} {od13 an13 : Option Addr} {sl13 : Array (Option Value)}
    (a0 : PySem.W.nsIn K mainGlobals "is_beginning" = some (some (.ref f0)))
    (l0 : K.lookup f0 = some ⟨oc0, od0, .func (PySem.W.fnOf "is_beginning" "is_beginning" (defArgs s_is_beginning) (defBody s_is_beginning) (defScope s_is_beginning) .none kV0 doc0 pm0 an0 cd0 ct0), sl0⟩)
    (c0 : PySem.W.codeIn K cd0 "is_beginning" = true) (k0 : PySem.W.keepIn K (.ref f0) = true)
    (a1 : PySem.W.nsIn K mainGlobals "are_beginnings" = some (some (.ref f1)))
    (l1 : K.lookup f1 = some ⟨oc1, od1, .func (PySem.W.fnOf "are_beginnings" "are_beginnings" (defArgs s_are_beginnings) (defBody s_are_beginnings) (defScope s_are_beginnings) .none kV1 doc1 pm1 an1 cd1 ct1), sl1⟩)
    (c1 : PySem.W.codeIn K cd1 "are_beginnings" = true) (k1 : PySem.W.keepIn K (.ref f1) = true)
    (a2 : PySem.W.nsIn K mainGlobals "_law_pool" = some (some (.ref f2)))
    (l2 : K.lookup f2 = some ⟨oc2, od2, .func (PySem.W.fnOf "_law_pool" "_law_pool" (defArgs s__law_pool) (defBody s__law_pool) (defScope s__law_pool) .none kV2 doc2 pm2 an2 cd2 ct2), sl2⟩)
    (c2 : PySem.W.codeIn K cd2 "_law_pool" = true) (k2 : PySem.W.keepIn K (.ref f2) = true)
    (a3 : PySem.W.nsIn K mainGlobals "_law_take" = some (some (.ref f3)))
    (l3 : K.lookup f3 = some ⟨oc3, od3, .func (PySem.W.fnOf "_law_take" "_law_take" (defArgs s__law_take) (defBody s__law_take) (defScope s__law_take) .none kV3 doc3 pm3 an3 cd3 ct3), sl3⟩)
    (c3 : PySem.W.codeIn K cd3 "_law_take" = true) (k3 : PySem.W.keepIn K (.ref f3) = true)
    (a4 : PySem.W.nsIn K mainGlobals "_law_one" = some (some (.ref f4)))
    (l4 : K.lookup f4 = some ⟨oc4, od4, .func (PySem.W.fnOf "_law_one" "_law_one" (defArgs s__law_one) (defBody s__law_one) (defScope s__law_one) .none kV4 doc4 pm4 an4 cd4 ct4), sl4⟩)
    (c4 : PySem.W.codeIn K cd4 "_law_one" = true) (k4 : PySem.W.keepIn K (.ref f4) = true)
    (a5 : PySem.W.nsIn K mainGlobals "_law_text" = some (some (.ref f5)))
    (l5 : K.lookup f5 = some ⟨oc5, od5, .func (PySem.W.fnOf "_law_text" "_law_text" (defArgs s__law_text) (defBody s__law_text) (defScope s__law_text) .none kV5 doc5 pm5 an5 cd5 ct5), sl5⟩)
    (c5 : PySem.W.codeIn K cd5 "_law_text" = true) (k5 : PySem.W.keepIn K (.ref f5) = true)
    (a6 : PySem.W.nsIn K mainGlobals "_law_path" = some (some (.ref f6)))
    (l6 : K.lookup f6 = some ⟨oc6, od6, .func (PySem.W.fnOf "_law_path" "_law_path" (defArgs s__law_path) (defBody s__law_path) (defScope s__law_path) .none kV6 doc6 pm6 an6 cd6 ct6), sl6⟩)
    (c6 : PySem.W.codeIn K cd6 "_law_path" = true) (k6 : PySem.W.keepIn K (.ref f6) = true)
    (a7 : PySem.W.nsIn K mainGlobals "_law_count" = some (some (.ref f7)))
    (l7 : K.lookup f7 = some ⟨oc7, od7, .func (PySem.W.fnOf "_law_count" "_law_count" (defArgs s__law_count) (defBody s__law_count) (defScope s__law_count) .none kV7 doc7 pm7 an7 cd7 ct7), sl7⟩)
    (c7 : PySem.W.codeIn K cd7 "_law_count" = true) (k7 : PySem.W.keepIn K (.ref f7) = true)
    (a8 : PySem.W.nsIn K mainGlobals "_law_plain" = some (some (.ref f8)))
    (l8 : K.lookup f8 = some ⟨oc8, od8, .func (PySem.W.fnOf "_law_plain" "_law_plain" (defArgs s__law_plain) (defBody s__law_plain) (defScope s__law_plain) .none kV8 doc8 pm8 an8 cd8 ct8), sl8⟩)
    (c8 : PySem.W.codeIn K cd8 "_law_plain" = true) (k8 : PySem.W.keepIn K (.ref f8) = true)
    (a9 : PySem.W.nsIn K mainGlobals "_law_deed" = some (some (.ref f9)))
    (l9 : K.lookup f9 = some ⟨oc9, od9, .func (PySem.W.fnOf "_law_deed" "_law_deed" (defArgs s__law_deed) (defBody s__law_deed) (defScope s__law_deed) .none kV9 doc9 pm9 an9 cd9 ct9), sl9⟩)
    (c9 : PySem.W.codeIn K cd9 "_law_deed" = true) (k9 : PySem.W.keepIn K (.ref f9) = true)
    (a10 : PySem.W.nsIn K mainGlobals "_law_row" = some (some (.ref f10)))
    (l10 : K.lookup f10 = some ⟨oc10, od10, .func (PySem.W.fnOf "_law_row" "_law_row" (defArgs s__law_row) (defBody s__law_row) (defScope s__law_row) .none kV10 doc10 pm10 an10 cd10 ct10), sl10⟩)
    (c10 : PySem.W.codeIn K cd10 "_law_row" = true) (k10 : PySem.W.keepIn K (.ref f10) = true)
    (a11 : PySem.W.nsIn K mainGlobals "_law_near" = some (some (.ref f11)))
    (l11 : K.lookup f11 = some ⟨oc11, od11, .func (PySem.W.fnOf "_law_near" "_law_near" (defArgs s__law_near) (defBody s__law_near) (defScope s__law_near) .none kV11 doc11 pm11 an11 cd11 ct11), sl11⟩)
    (c11 : PySem.W.codeIn K cd11 "_law_near" = true) (k11 : PySem.W.keepIn K (.ref f11) = true)
    (a12 : PySem.W.nsIn K mainGlobals "_law_is_beginning" = some (some (.ref f12)))
    (l12 : K.lookup f12 = some ⟨oc12, od12, .func (PySem.W.fnOf "_law_is_beginning" "_law_is_beginning" (defArgs s__law_is_beginning) (defBody s__law_is_beginning) (defScope s__law_is_beginning) .none kV12 doc12 pm12 an12 cd12 ct12), sl12⟩)
    (c12 : PySem.W.codeIn K cd12 "_law_is_beginning" = true) (k12 : PySem.W.keepIn K (.ref f12) = true)
    (a13 : PySem.W.nsIn K mainGlobals "law" = some (some (.ref f13)))
    (l13 : K.lookup f13 = some ⟨oc13, od13, .func (PySem.W.fnOf "law" "law" (defArgs s_law) (defBody s_law) (defScope s_law) .none kV13 doc13 pm13 an13 cd13 ct13), sl13⟩)
    (c13 : PySem.W.codeIn K cd13 "law" = true) (k13 : PySem.W.keepIn K (.ref f13) = true)
    (z_abs : PySem.W.nsIn K mainGlobals "abs" = some none)
    (z_all : PySem.W.nsIn K mainGlobals "all" = some none)
    (z_int : PySem.W.nsIn K mainGlobals "int" = some none)
    (z_len : PySem.W.nsIn K mainGlobals "len" = some none)
    (z_list : PySem.W.nsIn K mainGlobals "list" = some none)
    (z_max : PySem.W.nsIn K mainGlobals "max" = some none)
    (z_min : PySem.W.nsIn K mainGlobals "min" = some none)
    (z_range : PySem.W.nsIn K mainGlobals "range" = some none)
    (z_repr : PySem.W.nsIn K mainGlobals "repr" = some none)
    (z_tuple : PySem.W.nsIn K mainGlobals "tuple" = some none) : Txt K mg := by
  exact ⟨here_mk X G a0 l0 c0 k0, here_mk X G a1 l1 c1 k1, here_mk X G a2 l2 c2 k2, here_mk X G a3 l3 c3 k3, here_mk X G a4 l4 c4 k4, here_mk X G a5 l5 c5 k5, here_mk X G a6 l6 c6 k6, here_mk X G a7 l7 c7 k7, here_mk X G a8 l8 c8 k8, here_mk X G a9 l9 c9 k9, here_mk X G a10 l10 c10 k10, here_mk X G a11 l11 c11 k11, here_mk X G a12 l12 c12 k12, here_mk X G a13 l13 c13 k13, PySem.W.mg_none_of X G z_abs, PySem.W.mg_none_of X G z_all, PySem.W.mg_none_of X G z_int, PySem.W.mg_none_of X G z_len, PySem.W.mg_none_of X G z_list, PySem.W.mg_none_of X G z_max, PySem.W.mg_none_of X G z_min, PySem.W.mg_none_of X G z_range, PySem.W.mg_none_of X G z_repr, PySem.W.mg_none_of X G z_tuple⟩
theorem fin {l : PySem.W.OpenLaw} {w : World} {K : PySem.W.Frag} {mg : Str → Option Value} {fa : Addr} (T : Txt K mg) (hfa : mg "law" = some (.ref fa)) :
    ∃ fd : FuncData, (∀ (s : Shared) (u : Value), BindsTo s fd ⟨[u], []⟩ [("_law_script", u)]) ∧ ∀ base : Heap, K.In base → base.Ns mainGlobals mg → FnG l.prog w K mg base CX0 7 fa fd ["_law_script"] (spD K 1 cLaw) := by
  refine fin_of T.h_law hfa bn_law fun base => ?_
  have C_is_beginning : Callee l.prog w K mg base "is_beginning" s_is_beginning 1 2 ["one", "other"] c_is_beginning := ok_is_beginning T
  have C__law_pool : Callee l.prog w K mg base "_law_pool" s__law_pool 1 2 ["_law_script", "_law_k"] c__law_pool := ok__law_pool T
  have C__law_take : Callee l.prog w K mg base "_law_take" s__law_take 1 2 ["_law_pool_here", "_law_many"] c__law_take := ok__law_take T
  have C__law_is_beginning : Callee l.prog w K mg base "_law_is_beginning" s__law_is_beginning 1 2 ["_law_one_here", "_law_other"] c__law_is_beginning := ok__law_is_beginning T
  have C_are_beginnings : Callee l.prog w K mg base "are_beginnings" s_are_beginnings 2 1 ["rows"] c_are_beginnings := ok_are_beginnings T C_is_beginning
  have C__law_one : Callee l.prog w K mg base "_law_one" s__law_one 2 2 ["_law_pool_here", "_law_some"] c__law_one := ok__law_one T C__law_take
  have C__law_near : Callee l.prog w K mg base "_law_near" s__law_near 2 2 ["_law_pool_here", "_law_row_here"] c__law_near := ok__law_near T C__law_take
  have C__law_text : Callee l.prog w K mg base "_law_text" s__law_text 3 1 ["_law_pool_here"] c__law_text := ok__law_text T C__law_one
  have C__law_path : Callee l.prog w K mg base "_law_path" s__law_path 3 1 ["_law_pool_here"] c__law_path := ok__law_path T C__law_one
  have C__law_count : Callee l.prog w K mg base "_law_count" s__law_count 3 1 ["_law_pool_here"] c__law_count := ok__law_count T C__law_one
  have C__law_plain : Callee l.prog w K mg base "_law_plain" s__law_plain 4 1 ["_law_pool_here"] c__law_plain := ok__law_plain T C__law_count C__law_one C__law_path C__law_take C__law_text
  have C__law_deed : Callee l.prog w K mg base "_law_deed" s__law_deed 5 1 ["_law_pool_here"] c__law_deed := ok__law_deed T C__law_one C__law_plain C__law_take
  have C__law_row : Callee l.prog w K mg base "_law_row" s__law_row 6 1 ["_law_pool_here"] c__law_row := ok__law_row T C__law_deed C__law_one C__law_take
  have C_law : Callee l.prog w K mg base "law" s_law 7 1 ["_law_script"] c_law := ok_law T C__law_is_beginning C__law_near C__law_pool C__law_row C__law_take C_are_beginnings
  exact C_law
end L2.K60

open PySem PySem.W PyProof.Rows in
set_option maxRecDepth 100000 in
set_option maxHeartbeats 0 in
theorem PySem.Challenge.cw_watchednodes_k60_rows_of_several_holds : PySem.Challenge.rw_watchednodes_k60_rows_of_several.Holds := by
  w_on; o_law; k_head; (case hw => w_witness2)
  k_fill
  refine L2.DL.walkG (l := PySem.Challenge.rw_watchednodes_k60_rows_of_several) (n := 63) (k := 7) (x := "_law_script") (sp := fun K => L2.DL.spD K 1 L2.DL.cLaw) rfl (by decide) rfl ⟨rfl, by decide, by decide⟩ (fun w h Y => PySem.W.kIn_of Y) ?F (fun K H a ns hl _ hS => L2.DL.law_sp K H a ns hl hS)
  case F =>
    intro w mg fa h KX G hmg
    refine' L2.K60.fin (L2.K60.all_mk KX G ?a0 ?l0 ?c0 ?k0 ?a1 ?l1 ?c1 ?k1 ?a2 ?l2 ?c2 ?k2 ?a3 ?l3 ?c3 ?k3 ?a4 ?l4 ?c4 ?k4 ?a5 ?l5 ?c5 ?k5 ?a6 ?l6 ?c6 ?k6 ?a7 ?l7 ?c7 ?k7 ?a8 ?l8 ?c8 ?k8 ?a9 ?l9 ?c9 ?k9 ?a10 ?l10 ?c10 ?k10 ?a11 ?l11 ?c11 ?k11 ?a12 ?l12 ?c12 ?k12 ?a13 ?l13 ?c13 ?k13 ?z_abs ?z_all ?z_int ?z_len ?z_list ?z_max ?z_min ?z_range ?z_repr ?z_tuple) hmg
    (case a0 => k_is)
    (case l0 => k_is)
    (case c0 => k_is)
    (case k0 => k_is)
    (case a1 => k_is)
    (case l1 => k_is)
    (case c1 => k_is)
    (case k1 => k_is)
    (case a2 => k_is)
    (case l2 => k_is)
    (case c2 => k_is)
    (case k2 => k_is)
    (case a3 => k_is)
    (case l3 => k_is)
    (case c3 => k_is)
    (case k3 => k_is)
    (case a4 => k_is)
    (case l4 => k_is)
    (case c4 => k_is)
    (case k4 => k_is)
    (case a5 => k_is)
    (case l5 => k_is)
    (case c5 => k_is)
    (case k5 => k_is)
    (case a6 => k_is)
    (case l6 => k_is)
    (case c6 => k_is)
    (case k6 => k_is)
    (case a7 => k_is)
    (case l7 => k_is)
    (case c7 => k_is)
    (case k7 => k_is)
    (case a8 => k_is)
    (case l8 => k_is)
    (case c8 => k_is)
    (case k8 => k_is)
    (case a9 => k_is)
    (case l9 => k_is)
    (case c9 => k_is)
    (case k9 => k_is)
    (case a10 => k_is)
    (case l10 => k_is)
    (case c10 => k_is)
    (case k10 => k_is)
    (case a11 => k_is)
    (case l11 => k_is)
    (case c11 => k_is)
    (case k11 => k_is)
    (case a12 => k_is)
    (case l12 => k_is)
    (case c12 => k_is)
    (case k12 => k_is)
    (case a13 => k_is)
    (case l13 => k_is)
    (case c13 => k_is)
    (case k13 => k_is)
    (case z_abs => k_is)
    (case z_all => k_is)
    (case z_int => k_is)
    (case z_len => k_is)
    (case z_list => k_is)
    (case z_max => k_is)
    (case z_min => k_is)
    (case z_range => k_is)
    (case z_repr => k_is)
    (case z_tuple => k_is)
#print axioms PySem.Challenge.cw_watchednodes_k60_rows_of_several_holds
