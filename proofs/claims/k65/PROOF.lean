import PyProof.Rows.All
import Wide.All
import OpenK.AllK
import Wide.FinOn
import PyProof.EqAt
import PyProof.EqKinds
import PyProof.TupleCall
import PyProof.ReprReads
import HandS.ForMost
import HandS.Exc
import HandS.TryOnly
import HandS.ExcOwn
import HandS.WordsExc
import HandS.Wide
import HandS.IsInst
import HandS.Deep
import HandS.Style
import HandS.Conv
import HandS.Zip
import HandS.SortRule
import HandS.SortInts
import HandS.DictComp
import HandS.WideBits
import HandS.TupSets
import KE.KDictSum
import HandS.ExcValue
import HandS.ReSet
import HandS.SetFor
import HandS.Strs
import HandS.SetKeys
import HandS.Flow
import PyProof.NeKinds
import KE.KDictItemsList
import KE.KDictCopyH
import HandS.Iter
import KE.LtData
import KE.DataMinMax
import KE.KEqDict
import PySem.Challenge.RW_nudgewebs_k65_whole_webs_turned
set_option Elab.async false
set_option linter.all false
set_option maxRecDepth 100000
set_option maxHeartbeats 4000000
/-! The ground: defs that run where nothing is being shown (so that repr may be asked), calls by name, repr of data, powers. -/
namespace Nw
open PySem PySem.Spec PyProof.Rows L2

/-! ### defs that run where no repr is under way -/
abbrev Quiet (A : Around) : Prop := A.guards = some []
structure FnG (P : Program) (w : World) (K : PySem.W.Frag) (mg : Str → Option Value)
    (base : Heap) (CX : CXT) (k : Nat) (f : Addr) (fd : FuncData) (ps : List Str) (sp : Sp) : Prop where
  len : ∀ vs H Q E, sp vs H Q E → vs.length = ps.length
  run : ∀ (A : Around) (outer : List Env) (s : Shared) (H : Hp) (args : Args) (us : List Value) (vs : List V)
    (Q : VK) (E : XK), Room k A → Quiet A → Env0 P w K mg base A outer s H →
    BindsTo s fd args (ps.zip us) → Vals vs us → sp vs H Q E →
    codeAny (model P w) A (.call (.ref f) args) (CR CX outer P w H s Q E) s

section
variable {P : Program} {w : World} {K : PySem.W.Frag} {mg : Str → Option Value} {base : Heap} {CX : CXT}
theorem FnG.mono {j k : Nat} {f : Addr} {fd : FuncData} {ps : List Str} {sp : Sp}
    (F : FnG P w K mg base CX j f fd ps sp) (h : j ≤ k) : FnG P w K mg base CX k f fd ps sp :=
  ⟨F.len, fun A outer s H args us vs Q E hr =>
    F.run A outer s H args us vs Q E (hr.mono h)⟩

theorem fng_of {k : Nat} {f : Addr} {name qual : Str} {params : Arguments} {body : List Stmt} {scope : Scope}
    {dV kV doc pm cdv ct oc : Value} {an od : Option Addr} {osl : Array (Option Value)} {N ps : List Str} {sp : Sp}
    (lk : K.lookup f = some ⟨oc, od, .func (PySem.W.fnOf name qual params body scope dV kV doc pm an cdv ct), osl⟩)
    (hcd : PySem.W.codeIn K cdv qual = true) (S : FnScope N ps scope)
    (len : ∀ vs H Q E, sp vs H Q E → vs.length = ps.length)
    (hbody : ∀ (A : Around) (outer : List Env) (s : Shared) (H : Hp) (vs : List V) (Q : VK) (E : XK),
      Room k (A.deeper (envOfC qual scope s.heap.objs.size f cdv)) → Quiet A → sp vs H Q E →
      ∃ t, PSs (cxOf CX P w K mg base N qual scope f cdv A outer s H E) body t ∧
        t { nx := fun _ H' => Q .non H', rt := Q } (start N vs) H) :
    FnG P w K mg base CX (k + 1) f (PySem.W.fnOf name qual params body scope dV kV doc pm an cdv ct) ps sp := by
  refine ⟨len, ?_⟩
  intro A outer s H args us vs Q E hr hgd e0 hb r hsp
  have hl := len _ _ _ _ hsp
  have old := fun b o (e : base.get? b = some o) => (e0.bs b o e).1
  have kinds : ∀ y ∈ ps.zip us, scope.names.lookup y.1 = some .local ∨
      (scope.names.lookup y.1 = some .cell ∧ ((cellsFrom (s.heap.objs.size + 1) scope.names []).lookup y.1).isSome = true) := by
    rintro ⟨n, v⟩ hy
    rcases S.par n (List.of_mem_zip hy).1 with q | q
    · exact Or.inl q
    · exact Or.inr ⟨q, PySem.W.cellsFrom_some _ _ _ (Or.inl q)⟩
  refine codeAny_call_function hr.depth ((e0.mod.kin.keeps old) _ _ lk) rfl S.co S.gen rfl
    (PySem.W.codeRec_of (e0.mod.kin.keeps old) hcd) (hb _ _ _ _ ?_)
  refine wpAny_newFunctionEnv_cells S.kind kinds fun env he s1 x => ?_
  subst he
  refine ⟨(e0.mod.nolimit.keeps old).keeps x.toInCall.keep, codeAny_func ?_⟩
  obtain ⟨t, ht, hq⟩ := hbody A outer s H vs Q E (hr.deeper _) hgd hsp
  have I0 : Inv (cxOf CX P w K mg base N qual scope f cdv A outer s H E) [] (start N vs) H s1 :=
    inv_start S hr.hd e0 hl r x
  refine wpAny_mono (ht.run [] s1 (start N vs) H _ I0 hq) ?_ (fun e s' hs => hs)
  intro fl s' hs
  cases fl with
  | ret u =>
    obtain ⟨v, σ', H', J, rv, q⟩ := hs
    exact (show CE outer P w H s Q u s' from ⟨v, H', J.os, J.bare, J.base, J.hok, rv, q⟩)
  | next =>
    obtain ⟨σ', H', J, q⟩ := hs
    exact (show CE outer P w H s Q Value.none s' from ⟨V.non, H', J.os, J.bare, J.base, J.hok, rfl, q⟩)
  | brk =>
    obtain ⟨_, _, _, q⟩ := hs
    exact q.elim
  | cont =>
    obtain ⟨_, _, _, q⟩ := hs
    exact q.elim

/-- a def of the text, by its body -/
theorem okG {x qual : Str} {st : Stmt} {f : Addr} {fd : FuncData} {N ps : List Str} {k : Nat} {sp : Sp}
    (F : Fun K x qual st f fd) (S : FnScope N ps (defScope st)) (len : ∀ vs H Q E, sp vs H Q E → vs.length = ps.length)
    (hbody : ∀ (cdv : Value) (A : Around) (outer : List Env) (s : Shared) (H : Hp) (vs : List V) (Q : VK) (E : XK),
      Room k (A.deeper (envOfC qual (defScope st) s.heap.objs.size f cdv)) →
      Quiet (A.deeper (envOfC qual (defScope st) s.heap.objs.size f cdv)) → sp vs H Q E →
      ∃ t, PSs (cxOf CX P w K mg base N qual (defScope st) f cdv A outer s H E) (defBody st) t ∧
        t { nx := fun _ H' => Q .non H', rt := Q } (start N vs) H) : FnG P w K mg base CX (k + 1) f fd ps sp := by
  obtain ⟨oc, od, kV, doc, pm, an, cdv, ct, osl, rfl, lk, hcd⟩ := F.ex
  exact fng_of lk hcd S len fun A outer s H vs Q E hr hq hsp => hbody cdv A outer s H vs Q E hr hq hsp

/-- a def as its callers see it -/
structure DefOk (P : Program) (w : World) (K : PySem.W.Frag) (mg : Str → Option Value) (base : Heap) (CX : CXT)
    (k : Nat) (x : Str) (ps : List Str) (sp : Sp) : Prop where
  ex : ∃ f fd, FnG P w K mg base CX k f fd ps sp ∧ mg x = some (.ref f) ∧
    PySem.W.keepIn K (.ref f) = true ∧ Binds K fd ps []
theorem DefOk.mono {j k : Nat} {x : Str} {ps : List Str} {sp : Sp} (D : DefOk P w K mg base CX j x ps sp) (h : j ≤ k) :
    DefOk P w K mg base CX k x ps sp := by
  obtain ⟨f, fd, F, r⟩ := D.ex
  exact ⟨f, fd, F.mono h, r⟩
end

/-- f(e, ..) -/
def tCallD (sp : Sp) (E : XK) (t : TA) : TE := fun σ H Q => t σ H fun vs H1 => sp vs H1 Q E
section
variable {X : Cx} {CX : CXT} {k : Nat} {ps : List Str} {sp : Sp} {E : XK} {x : Str} {p pos : Pos} {e : Expr} {es : List Expr} {t : TA}
theorem run_fng {f : Addr} {fd : FuncData} {pins : List (Addr × Obj)} {σ : L2.St} {H : Hp} {s : Shared} {Q : VK} {us : List Value} {vs : List V}
    (F : FnG X.prog X.w X.K X.mg X.base CX k f fd ps sp) (hr : Room k X.A) (hgd : Quiet X.A) (hb : Binds X.K fd ps [])
    (hx : Passes CX X E) (I : Inv X pins σ H s) (r : Vals vs us) (h : sp vs H Q E) :
    wpAny (model X.prog X.w) X.A (call (.ref f) us) (EP X pins σ Q) X.xe s := by
  have hl : (us ++ ([] : List Value)).length = ps.length := by
    rw [List.append_nil, ← r.length]
    exact F.len _ _ _ _ h
  have hb2 := hb s us I.kIn hl
  rw [List.append_nil] at hb2
  refine wpAny_call (codeAny_mono (F.run X.A X.stack s H ⟨us, []⟩ us vs Q E hr hgd I.env0 hb2 r h) ?_)
  intro r s' hq
  cases r with
  | error e => exact hx pins σ H s e s' I hq
  | ok fl =>
    cases fl with
    | ret u => exact I.after hq
    | next => exact (show False from hq).elim
    | brk => exact (show False from hq).elim
    | cont => exact (show False from hq).elim

theorem pe_callD (D : DefOk X.prog X.w X.K X.mg X.base CX k x ps sp) (hr : Room k X.A) (hgd : Quiet X.A) (hx : Passes CX X E)
    (ha : PA X (e :: es) t) (hg : Gl X x := by rfl) (hdb : (x == ("__debug__" : Str)) = false := by decide)
    (he : starEach (e :: es) X.env = (false, eval e X.env) :: starEach es X.env := by rfl)
    (hpl : (backTo pos (starEach es X.env)).any (·.1) = false := by rfl) :
    PE X (.Call (.Name x p) (e :: es) [] pos) (tCallD sp E t) := by
  obtain ⟨f, fd, F, hm, hk, hb⟩ := D.ex
  refine ⟨fun pins s σ H Q I h => ?_⟩
  refine wpAny_Call_Name_kw (ld_glob I hg hm ?_ hdb)
  refine PySem.W.callWith_K (h₀ := X.base) I.ok.mod.kin hk (thn (ha.run pos pins s σ H _ I h) ?_) he hpl
  rintro us s1 ⟨vs, H1, I1, r, q⟩
  exact ⟨I1.kIn, run_fng F hr hgd hb hx I1 r q⟩
end

/-! ### the law's end -/
section
variable {P : Program} {w : World} {K : PySem.W.Frag}
theorem law_callG {mg mb : Str → Option Value} {CX : CXT} {k : Nat} {fa a : Addr} {fd : FuncData} {x : Str} {sp : Sp}
    {s1 : Shared} {vs : List Value} {ns : List Int}
    (KX : K.In s1.heap) (hns : s1.heap.Ns mainGlobals mg) (hb : s1.heap.Ns builtinsNs mb)
    (hbb : ∀ x : Str, x ≠ "__name__" → mb x = bootBuiltins x) (hlim : s1.heap.NoLimit) (hg : s1.gens = #[])
    (ha : s1.heap.get? a = some { cls := .type "list", data := .seq vs.toArray }) (hi : IntsAre vs ns)
    (hl : ns.length ≤ sizeLine) (hr : Room k callerA)
    (F : ∀ base : Heap, K.In base → base.Ns mainGlobals mg → FnG P w K mg base CX k fa fd [x] sp)
    (hbind : ∀ (s : Shared) (u : Value), BindsTo s fd ⟨[u], []⟩ [(x, u)])
    (hsp : ∀ H : Hp, Only H → SqL K H a (ns.map V.int) → sp [.ref a] H (fun v _ => v = .bl true) fun _ _ _ => False)
    (hCX : ∀ H e s', CX [] H s1 (fun _ _ _ => False) e s' → False) :
    codeAny (model P w) callerA (.call (.ref fa) ⟨[.ref a], []⟩)
      (fun r s' => r = .ok (.ret (.bool true)) ∧ OldK s1.heap s'.heap ∧ s'.os = s1.os ∧ AllBare s'.gens) s1 := by
  have rv := vals_ints hi
  have lenV := hi.length
  have core : ∀ H : Hp, Only H → SqL K H a (ns.map V.int) → HOk P w H s1.heap →
      (∀ b, H b ≠ none → b = a) → (H a ≠ none → K.lookup a = none) →
      codeAny (model P w) callerA (.call (.ref fa) ⟨[.ref a], []⟩)
        (fun r s' => r = .ok (.ret (.bool true)) ∧ OldK s1.heap s'.heap ∧ s'.os = s1.os ∧ AllBare s'.gens) s1 := by
    intro H hO hS hok hA hK
    have fromH : ∀ {b : Addr} {o : Obj}, s1.heap.get? b = some o → H b = none →
        (hidT s1.heap H).get? b = some o := fun e n => hidT_get e n
    have free : ∀ {b : Addr} {o : Obj} {es : Array DictEntry} {ep : Nat},
        s1.heap.get? b = some o → o.data = .dict es ep → H b = none := by
      intro b o es ep e d
      cases q : H b with
      | none => rfl
      | some u =>
        have e' : b = a := hA b (by rw [q]; exact fun z => nomatch z)
        subst e'
        rw [ha] at e
        cases e
        exact nomatch d
    have nsK : ∀ {b : Addr} {m : Str → Option Value}, s1.heap.Ns b m → (hidT s1.heap H).Ns b m := by
      rintro b m ⟨o, es, ep, e, d, r⟩
      exact ⟨o, es, ep, fromH e (free e d), d, r⟩
    have hKb : K.In (hidT s1.heap H) := by
      intro b o e
      refine fromH (KX b o e) ?_
      cases q : H b with
      | none => rfl
      | some u =>
        have e' : b = a := hA b (by rw [q]; exact fun z => nomatch z)
        subst e'
        rw [hK (by rw [q]; exact fun z => nomatch z)] at e
        cases e
    have hM : Mod K mg (hidT s1.heap H) := by
      obtain ⟨mc, h1, h2⟩ := hlim
      exact ⟨hKb, nsK hns, ⟨mb, nsK hb, hbb⟩, ⟨mc, nsK h1, h2⟩⟩
    have e0 : Env0 P w K mg (hidT s1.heap H) callerA [] s1 H :=
      ⟨rfl, hM, fun b o e => of_hidT e, Nat.le_of_eq (hidT_size _ _), trivial,
        fun b hb => (List.not_mem_nil hb).elim, hok, .of_eq hg⟩
    refine codeAny_mono ((F _ hKb (nsK hns)).run callerA [] s1 H ⟨[.ref a], []⟩ [.ref a] [.ref a] _ _ hr rfl e0
      (hbind s1 (.ref a)) (.cons rfl .nil) (hsp H hO hS)) ?_
    intro r s' h
    cases r with
    | error e => exact (hCX H e s' h).elim
    | ok fl =>
      cases fl with
      | next => exact (show False from h).elim
      | brk => exact (show False from h).elim
      | cont => exact (show False from h).elim
      | ret u =>
        obtain ⟨v, H', os, bare, un, hok', r', q⟩ := h
        have q' : v = .bl true := q
        subst q'
        obtain rfl : u = Value.bool true := r'
        refine ⟨rfl, OldK.of_keep ?_, os, bare⟩
        intro b o e
        cases q : H b with
        | none => exact un.keep b o e q (fun z => (List.not_mem_nil z).elim) (fun z => (List.not_mem_nil z).elim)
        | some u =>
          rcases hO b with z | ⟨ob, xs, z⟩
          · rw [q] at z
            cases z
          · obtain ⟨e1, _⟩ := hok b _ z
            obtain ⟨e2, _⟩ := hok' b _ (un.frzs b ob _ z)
            rw [e] at e1
            cases e1
            exact e2
  cases hk : K.lookup a with
  | some o =>
    have e := KX a o hk
    rw [ha] at e
    cases e
    exact core (fun _ => none) (fun _ => .inl rfl)
      (.inr ⟨_, vs.toArray, _, hk, rfl, rfl, rfl, by rw [List.size_toArray, lenV]; exact hl, by simpa using rv⟩)
      (fun b u z => nomatch z) (fun b z => (z rfl).elim) (fun z => (z rfl).elim)
  | none =>
    refine core (fun b => if b = a then some (.frz { cls := .type "list", data := .seq vs.toArray } (.lst (ns.map V.int))) else none)
      ?_ (.inl (.inr ⟨{ cls := .type "list", data := .seq vs.toArray }, if_pos rfl⟩)) ?_ ?_ (fun _ => hk)
    · intro b
      by_cases hb : b = a
      · exact .inr ⟨_, _, if_pos hb⟩
      · exact .inl (if_neg hb)
    · intro b u z
      by_cases hb : b = a
      · have z' := (if_pos hb).symm.trans z
        cases z'
        subst hb
        exact ⟨ha, by rw [List.length_map]; exact hl, vs, _, rv, ha⟩
      · have z' := (if_neg hb).symm.trans z
        cases z'
    · intro b z
      by_cases hb : b = a
      · exact hb
      · exact (z (if_neg hb)).elim
end

theorem walkG {l : PySem.W.OpenLaw} {n k : Nat} {q : Program} {loose : List Str} {XP : (Str → Option Value) → Heap → Prop}
    {YP : World → Heap → Prop} {d : DefRec} {K : Params → PySem.W.Frag} {CX : World → CXT} {sp : World → Sp} {x : Str}
    (hn : l.most = some n) (hn2 : n ≤ sizeLine) (hdf : d.params.defaults = []) (hr : Room k callerA)
    (hY : ∀ (w : World) (h : Heap), YP w h → (K w.params).In h)
    (F : ∀ (w : World) (mg : Str → Option Value) (fa : Addr) (h : Heap), (K w.params).In h → h.Ns mainGlobals mg →
      mg d.name = some (.ref fa) → ∃ fd : FuncData, (∀ (s : Shared) (u : Value), BindsTo s fd ⟨[u], []⟩ [(x, u)]) ∧
        ∀ base : Heap, (K w.params).In base → base.Ns mainGlobals mg →
          FnG l.prog w (K w.params) mg base (CX w) k fa fd [x] (sp w))
    (hsp : ∀ (w : World) (H : Hp) (a : Addr) (ns : List Int), ns.length ≤ n → Only H →
      SqL (K w.params) H a (ns.map V.int) → sp w [.ref a] H (fun v _ => v = .bl true) fun _ _ _ => False)
    (hCX : ∀ (w : World) (H : Hp) (s : Shared) (e : Value) (s' : Shared), CX w [] H s (fun _ _ _ => False) e s' → False) :
    PySem.W.WalkO q loose XP YP l.row.toRowW d [] (fun f vs => PySem.call f vs) := by
  refine Att.attach_call hn hdf ?_
  intro w s0 s1 mg mb fa o pm cd doc a vs ns G Y ho hd hcd hmg hobj hints hlen hg
  obtain ⟨fd, hb, hF⟩ := F w mg fa _ (hY w _ Y) G.T.g hmg
  exact law_callG (hY w _ Y) G.T.g G.T.b G.T.builtins G.T.nolimit hg hobj hints (Nat.le_trans hlen hn2) hr hF hb
    (fun H hO hS => hsp w H a ns hlen hO hS) (fun H e s' => hCX w H s1 e s')

/-! ### repr of data -/
section
variable {X : Cx}
mutual
theorem dp_noDict {K : PySem.W.Frag} {H : Hp} : ∀ (d : PyData) (v : V), Dp K H v d → d.hasDict = false
  | .none, _, _ => by simp only [PyData.hasDict]
  | .bool _, _, _ => by simp only [PyData.hasDict]
  | .int _, _, _ => by simp only [PyData.hasDict]
  | .str _, _, _ => by simp only [PyData.hasDict]
  | .list ds, _, h => by
    cases h with
    | lst _ ha =>
      simp only [PyData.hasDict]
      exact dp_noDictAll ds _ ha
  | .tuple ds, _, h => by
    cases h with
    | tup _ ha =>
      simp only [PyData.hasDict]
      exact dp_noDictAll ds _ ha
  | .dict _, _, h => by cases h
theorem dp_noDictAll {K : PySem.W.Frag} {H : Hp} : ∀ (ds : List PyData) (vs : List V), DpAll K H vs ds → PyData.hasDictAll ds = false
  | [], _, _ => by simp only [PyData.hasDictAll]
  | d :: ds, _, h => by
    cases h with
    | cons h1 h2 => simp only [PyData.hasDictAll, dp_noDict d _ h1, dp_noDictAll ds _ h2, Bool.or_self]
end
/-- repr(x), x any data without dicts -/
def rReprD (K : PySem.W.Frag) : List V → Hp → VK → Prop := fun xs H Q =>
  ∃ x d, xs = [x] ∧ Dp K H x d ∧ d.showable = true ∧ d.shown.length ≤ sizeLine ∧ d.depth ≤ 60 ∧ Q (.str d.shown) H
end
end Nw
/-! Data as trees over the abstract heap; what is asked of them. -/
namespace Nw
open PySem PySem.Spec PyProof.Rows L2

/-- what is known stays known -/
abbrev Ex (H H' : Hp) : Prop := ∀ b o, H b = some o → H' b = some o
theorem Ex.rfl {H : Hp} : Ex H H := fun _ _ h => h
theorem Ex.tr {H H1 H2 : Hp} (a : Ex H H1) (b : Ex H1 H2) : Ex H H2 := fun c o h => b c o (a c o h)
theorem Ex.nw {H : Hp} {p : Addr} {o : HO} (h : H p = none) : Ex H (upd H p o) := fun b u e => by
  rw [upd_ne (ne_of_none e h)]
  exact e
theorem Ex.nw2 {H H' : Hp} {p : Addr} {o : HO} (e : Ex H H') (h : H' p = none) : Ex H (upd H' p o) := e.tr (Ex.nw h)
theorem Ex.fr {H H' : Hp} (e : Ex H H') {l : Addr} (h : H' l = none) : H l = none := by
  cases q : H l with
  | none => exact Eq.refl _
  | some o =>
    rw [e l o q] at h
    cases h
/-- an object that H does not know may change -/
theorem Ex.wr {H H' : Hp} {p : Addr} {o : HO} (e : Ex H H') (h : H p = none) : Ex H (upd H' p o) := fun a u ha => by
  rw [upd_ne (ne_of_none ha h)]
  exact e a u ha
section
variable {K : PySem.W.Frag} {H H' : Hp}
theorem Ex.rd {a : Addr} {u : HO} (e : Ex H H') (h : Rd H a u) : Rd H' a u := by
  rcases h with h | ⟨o, h⟩
  · exact Or.inl (e a _ h)
  · exact Or.inr ⟨o, e a _ h⟩
theorem Ex.l {a : Addr} {xs : List V} (e : Ex H H') (h : SqL K H a xs) : SqL K H' a xs := by
  rcases h with h | h
  · exact Or.inl (e.rd h)
  · exact Or.inr h
theorem Ex.t {a : Addr} {xs : List V} (e : Ex H H') (h : SqT K H a xs) : SqT K H' a xs := by
  rcases h with h | h
  · exact Or.inl (e.rd h)
  · exact Or.inr h
end

/-! ### data -/
/-- a dict of ints and texts with plain values -/
def keyD : Key → PyData
  | .inl i => .int i
  | .inr x => .str x
mutual
def Da (K : PySem.W.Frag) (H : Hp) : PyData → V → Prop
  | .none, v => v = .non
  | .bool b, v => v = .bl b
  | .int i, v => v = .int i
  | .str x, v => v = .str x
  | .list ds, v => ∃ a xs, v = .ref a ∧ H a = some (.lst xs) ∧ DaAll K H ds xs ∧ ds.length ≤ 100000
  | .tuple ds, v => ∃ a xs, v = .ref a ∧ H a = some (.tup xs) ∧ DaAll K H ds xs
  | .dict kd, v => ∃ a kvs, v = .ref a ∧ H a = some (.dK kvs) ∧ (kvs.map fun kv => keyD kv.1) = kd.map (·.1) ∧ DaKv K H kd (kvs.map (·.2))
def DaAll (K : PySem.W.Frag) (H : Hp) : List PyData → List V → Prop
  | [], vs => vs = []
  | d :: ds, vs => ∃ x xs, vs = x :: xs ∧ Da K H d x ∧ DaAll K H ds xs
def DaKv (K : PySem.W.Frag) (H : Hp) : List (PyData × PyData) → List V → Prop
  | [], vs => vs = []
  | (_, d) :: ds, vs => ∃ x xs, vs = x :: xs ∧ Da K H d x ∧ DaKv K H ds xs
end
section
variable {K : PySem.W.Frag} {H H' : Hp}
mutual
theorem Da.mono (e : Ex H H') : ∀ (d : PyData) (v : V), Da K H d v → Da K H' d v
  | .none, _, h => h
  | .bool _, _, h => h
  | .int _, _, h => h
  | .str _, _, h => h
  | .list ds, v, h => by
    obtain ⟨a, xs, ev, hs, ha, hz⟩ := h
    exact ⟨a, xs, ev, e _ _ hs, DaAll.mono e ds xs ha, hz⟩
  | .tuple ds, v, h => by
    obtain ⟨a, xs, ev, hs, ha⟩ := h
    exact ⟨a, xs, ev, e _ _ hs, DaAll.mono e ds xs ha⟩
  | .dict kd, v, h => by
    obtain ⟨a, kvs, ev, hs, hk, hv⟩ := h
    exact ⟨a, kvs, ev, e _ _ hs, hk, DaKv.mono e kd _ hv⟩
theorem DaAll.mono (e : Ex H H') : ∀ (ds : List PyData) (vs : List V), DaAll K H ds vs → DaAll K H' ds vs
  | [], _, h => h
  | d :: ds, vs, h => by
    obtain ⟨x, xs, ev, h1, h2⟩ := h
    exact ⟨x, xs, ev, Da.mono e d x h1, DaAll.mono e ds xs h2⟩
theorem DaKv.mono (e : Ex H H') : ∀ (ds : List (PyData × PyData)) (vs : List V), DaKv K H ds vs → DaKv K H' ds vs
  | [], _, h => h
  | (_, d) :: ds, vs, h => by
    obtain ⟨x, xs, ev, h1, h2⟩ := h
    exact ⟨x, xs, ev, Da.mono e d x h1, DaKv.mono e ds xs h2⟩
end
theorem Da.up {d : PyData} {v : V} (h : Da K H d v) (e : Ex H H') : Da K H' d v := Da.mono e d v h
theorem DaAll.up {ds : List PyData} {vs : List V} (h : DaAll K H ds vs) (e : Ex H H') : DaAll K H' ds vs := DaAll.mono e ds vs h
mutual
theorem Da.dp : ∀ (d : PyData) (v : V), Da K H d v → d.hasDict = false → Dp K H v d
  | .none, _, h, _ => by
    obtain rfl := h
    exact .non
  | .bool b, _, h, _ => by
    obtain rfl := h
    exact .bl b
  | .int i, _, h, _ => by
    obtain rfl := h
    exact .int i
  | .str x, _, h, _ => by
    obtain rfl := h
    exact .str x
  | .list ds, v, h, hd => by
    obtain ⟨a, xs, rfl, hs, ha, _⟩ := h
    exact .lst (.inl (.inl hs)) (DaAll.dp ds xs ha (by simpa only [PyData.hasDict] using hd))
  | .tuple ds, v, h, hd => by
    obtain ⟨a, xs, rfl, hs, ha⟩ := h
    exact .tup (.inl (.inl hs)) (DaAll.dp ds xs ha (by simpa only [PyData.hasDict] using hd))
  | .dict kd, v, h, hd => by
    simp only [PyData.hasDict] at hd
    cases hd
theorem DaAll.dp : ∀ (ds : List PyData) (vs : List V), DaAll K H ds vs → PyData.hasDictAll ds = false → DpAll K H vs ds
  | [], _, h, _ => by
    obtain rfl := h
    exact .nil
  | d :: ds, vs, h, hd => by
    obtain ⟨x, xs, rfl, h1, h2⟩ := h
    simp only [PyData.hasDictAll, Bool.or_eq_false_iff] at hd
    exact .cons (Da.dp d x h1 hd.1) (DaAll.dp ds xs h2 hd.2)
end
theorem DaAll.len : ∀ {ds : List PyData} {vs : List V}, DaAll K H ds vs → ds.length = vs.length
  | [], _, h => by
    obtain rfl := h
    exact Eq.refl _
  | d :: ds, vs, h => by
    obtain ⟨x, xs, rfl, _, h2⟩ := h
    rw [List.length_cons, List.length_cons, DaAll.len h2]
theorem DaAll.at : ∀ {ds : List PyData} {vs : List V} {i : Nat} {d : PyData}, DaAll K H ds vs → ds[i]? = some d → ∃ x, vs[i]? = some x ∧ Da K H d x
  | [], _, _, _, _, e => by simp at e
  | d :: ds, vs, 0, _, h, e => by
    obtain ⟨x, xs, rfl, h1, _⟩ := h
    cases e
    exact ⟨x, Eq.refl _, h1⟩
  | d :: ds, vs, i + 1, _, h, e => by
    obtain ⟨x, xs, rfl, _, h2⟩ := h
    simp only [List.getElem?_cons_succ] at e ⊢
    exact DaAll.at h2 e
theorem DaAll.at' : ∀ {ds : List PyData} {vs : List V} {i : Nat} {x : V}, DaAll K H ds vs → vs[i]? = some x → ∃ d, ds[i]? = some d ∧ Da K H d x
  | [], _, _, _, h, e => by
    obtain rfl := h
    simp at e
  | d :: ds, vs, 0, _, h, e => by
    obtain ⟨x, xs, rfl, h1, _⟩ := h
    cases e
    exact ⟨d, Eq.refl _, h1⟩
  | d :: ds, vs, i + 1, _, h, e => by
    obtain ⟨x, xs, rfl, _, h2⟩ := h
    simp only [List.getElem?_cons_succ] at e ⊢
    exact DaAll.at' h2 e
theorem DaAll.app : ∀ {ds es : List PyData} {vs ws : List V}, DaAll K H ds vs → DaAll K H es ws → DaAll K H (ds ++ es) (vs ++ ws)
  | [], _, _, _, h, g => by
    obtain rfl := h
    exact g
  | d :: ds, es, vs, ws, h, g => by
    obtain ⟨x, xs, rfl, h1, h2⟩ := h
    exact ⟨x, xs ++ ws, Eq.refl _, h1, DaAll.app h2 g⟩
theorem DaAll.ints : ∀ {ns : List Int} {vs : List V}, DaAll K H (ns.map PyData.int) vs ↔ vs = ns.map V.int
  | [], vs => Iff.rfl
  | n :: ns, vs => by
    constructor
    · rintro ⟨x, xs, rfl, rfl, h2⟩
      rw [List.map_cons, DaAll.ints.mp h2]
    · rintro rfl
      exact ⟨_, _, Eq.refl _, Eq.refl _, DaAll.ints.mpr (Eq.refl _)⟩
theorem DaAll.mem : ∀ {ds : List PyData} {vs : List V}, DaAll K H ds vs → ∀ x ∈ vs, ∃ d ∈ ds, Da K H d x
  | [], _, h, x, hx => by
    obtain rfl := h
    cases hx
  | d :: ds, vs, h, x, hx => by
    obtain ⟨y, ys, rfl, h1, h2⟩ := h
    rcases List.mem_cons.mp hx with rfl | hx
    · exact ⟨d, List.mem_cons_self, h1⟩
    · obtain ⟨e, he, hd⟩ := DaAll.mem h2 x hx
      exact ⟨e, List.mem_cons_of_mem _ he, hd⟩

/-! ### types -/
theorem tyx_l {a : Addr} {xs : List V} (h : SqL K H a xs) : TyX K H (.ref a) (.type "list") := by
  rcases h with (h | ⟨o, h⟩) | ⟨o, its, n, e, c, _⟩
  · exact .base (.lst h)
  · exact .base (.frz h)
  · exact .kList e c
theorem tyx_t {a : Addr} {xs : List V} (h : SqT K H a xs) : TyX K H (.ref a) (.type "tuple") := by
  rcases h with (h | ⟨o, h⟩) | ⟨o, its, n, e, c, _⟩
  · exact .base (.tup h)
  · exact .fTuple h
  · exact .kTuple e c
/-- the name of a datum's type -/
def tyName : PyData → String
  | .none => "NoneType"
  | .bool _ => "bool"
  | .int _ => "int"
  | .str _ => "str"
  | .list _ => "list"
  | .tuple _ => "tuple"
  | .dict _ => "dict"
theorem Da.ty : ∀ {d : PyData} {v : V}, Da K H d v → TyX K H v (.type (tyName d))
  | .none, _, h => by
    obtain rfl := h
    exact .base .non
  | .bool b, _, h => by
    obtain rfl := h
    exact .base (.bl b)
  | .int i, _, h => by
    obtain rfl := h
    exact .base (.int i)
  | .str x, _, h => by
    obtain rfl := h
    exact .base (.str x)
  | .list ds, v, h => by
    obtain ⟨a, xs, rfl, hs, _⟩ := h
    exact tyx_l (.inl (.inl hs))
  | .tuple ds, v, h => by
    obtain ⟨a, xs, rfl, hs, _⟩ := h
    exact tyx_t (.inl (.inl hs))
  | .dict kd, v, h => by
    obtain ⟨a, kvs, rfl, hs, _⟩ := h
    exact .base (.dK hs)
/-- isinstance by the types' names -/
def isN (T n : String) : Bool := T == n || (T == "int" && n == "bool")
/-- isinstance of data: int, bool, list, tuple, str -/
def isA (T : String) (d : PyData) : Bool := isN T (tyName d)
theorem isN_ok (T : String) (hT : T = "int" ∨ T = "bool" ∨ T = "list" ∨ T = "tuple" ∨ T = "str") (n : String)
    (hn : n = "NoneType" ∨ n = "bool" ∨ n = "int" ∨ n = "str" ∨ n = "list" ∨ n = "tuple" ∨ n = "dict") :
    PySem.W.kitOne K (.type n) (.type T) = some (isN T n) := by
  rcases hT with rfl | rfl | rfl | rfl | rfl <;> rcases hn with rfl | rfl | rfl | rfl | rfl | rfl | rfl <;> exact kit_ty (by decide +kernel)
theorem isA_ok (T : String) (hT : T = "int" ∨ T = "bool" ∨ T = "list" ∨ T = "tuple" ∨ T = "str") (d : PyData) :
    PySem.W.kitOne K (.type (tyName d)) (.type T) = some (isA T d) := isN_ok T hT _ (by cases d <;> simp [tyName])
end

/-! ### rules -/
section
variable {X : Cx}
theorem call_reprD {k : Nat} (hq : Quiet X.A) (hr : Room k X.A) : CallR X (.builtin "repr") (rReprD X.K) := by
  intro pins s σ H xs us Q I r h
  obtain ⟨x, d, rfl, hd, hs, hz, hdp, q⟩ := h
  obtain ⟨u, rfl, rx⟩ := Vals.one r
  obtain ⟨as, rd⟩ := Dp.reads I d x u hd rx
  have nd := dp_noDict d x hd
  have hu : X.A.units + 200 < cLine := by have := hr.un; omega
  have fin : ∀ h' u' tk, (∀ b o, s.heap.get? b = some o → h'.get? b = some o) →
      EP X pins σ Q (.str d.shown u') { s with heap := h', toks := tk } :=
    fun h' u' tk hk => ⟨.str d.shown, H, I.kept hk, ⟨_, rfl⟩, q⟩
  cases d with
  | none =>
    cases hd
    obtain rfl : u = Value.none := rx
    exact PySem.P.repr_of_none (fin s.heap _ _ fun _ _ e => e)
  | bool b =>
    cases hd
    obtain rfl : u = Value.bool b := rx
    exact PySem.P.repr_of_bool (fin s.heap _ _ fun _ _ e => e)
  | int i =>
    cases hd
    obtain ⟨t, rfl⟩ := rx
    exact PySem.P.repr_of_int (by simpa only [PyData.showable, decide_eq_true_eq] using hs) (fin s.heap _ _ fun _ _ e => e)
  | str z =>
    cases hd
    obtain ⟨t, rfl⟩ := rx
    exact PySem.P.repr_of_str (fin s.heap _ _ fun _ _ e => e) (by simpa only [PyData.shown] using hz)
  | list ds =>
    cases hd with
    | lst h1 h2 =>
      cases rx
      exact repr_of_reads' rd hs (PyData.noDict_hsm nd) hq (by omega) (fun _ _ e => e) fin hz
  | tuple ds =>
    cases hd with
    | tup h1 h2 =>
      cases rx
      exact repr_of_reads' rd hs (PyData.noDict_hsm nd) hq (by omega) (fun _ _ e => e) fin hz
  | dict kd => cases hd

/-- a ** b of great numbers -/
def CPowW (i j : Int) : Prop := 0 ≤ j ∧ j ≤ 100 ∧ i.natAbs < 2 ^ 10000
theorem op_powW : OpR X (binaryOp .Pow) (rI CPowW fun i j => .int (i ^ j.toNat)) := opI fun i j t u s A E hc q => by
  obtain ⟨h0, h8, hi⟩ := hc
  refine pow_int h0 ?_ q
  have hb : Builtin.Int.intBits i ≤ 10000 := by
    unfold Builtin.Int.intBits
    split
    · omega
    · rename_i hn
      have hne : i.natAbs ≠ 0 := by
        intro e
        exact hn (by simpa using e)
      have := (Nat.log2_lt hne).mpr hi
      omega
  have h1 : (Builtin.Int.intBits i : Int) * j ≤ 10000 * 100 := Int.mul_le_mul (by omega) h8 h0 (by omega)
  omega
end
end Nw
namespace Nw
open PySem PySem.Spec PyProof.Rows L2
section
variable {P : Program} {w : World} {K : PySem.W.Frag} {mg : Str → Option Value} {base : Heap}
/-- a def that lets no exception out -/
theorem okG0 {x qual : Str} {st : Stmt} {f : Addr} {fd : FuncData} {N ps : List Str} {k : Nat} {sp : Sp}
    (F : Fun K x qual st f fd) (S : FnScope N ps (defScope st)) (len : ∀ vs H Q E, sp vs H Q E → vs.length = ps.length)
    (hbody : ∀ (cdv : Value) (A : Around) (outer : List Env) (s : Shared) (H : Hp) (vs : List V) (Q : VK) (E : XK),
      Room k (A.deeper (envOfC qual (defScope st) s.heap.objs.size f cdv)) →
      Quiet (A.deeper (envOfC qual (defScope st) s.heap.objs.size f cdv)) → sp vs H Q E →
      ∃ t, PSs (cxOf CX0 P w K mg base N qual (defScope st) f cdv A outer s H E).nox (defBody st) t ∧
        t { nx := fun _ H' => Q .non H', rt := Q } (start N vs) H) : FnG P w K mg base CX0 (k + 1) f fd ps sp :=
  okG F S len fun cdv A outer s H vs Q E hr hq hsp => by
    obtain ⟨t, h, q⟩ := hbody cdv A outer s H vs Q E hr hq hsp
    exact ⟨t, h.nox, q⟩
end
theorem pe_globI {X : Cx} {x : Str} {n : Int} {pos : Pos} (hm : ∃ t, X.mg x = some (.int n t)) (hg : Gl X x := by rfl)
    (hd : (x == ("__debug__" : Str)) = false := by decide) : PE X (.Name x pos) (tC (.int n)) := by
  obtain ⟨t, h⟩ := hm
  exact pe_glob hg h ⟨t, rfl⟩ hd
theorem pe_bty {X : Cx} {x : Str} {n : String} {pos : Pos} (hm : X.mg x = none) (hv : bootBuiltins x = some (.type n)) (hg : Gl X x := by rfl)
    (hn : x ≠ "__name__" := by decide) (hd : (x == ("__debug__" : Str)) = false := by decide) : PE X (.Name x pos) (tC (.ty n)) :=
  pe_bltn hg hm hv rfl hn hd
theorem bt_isinstance : bootBuiltins "isinstance" = some (.builtin "isinstance") := by decide +kernel
theorem bt_len : bootBuiltins "len" = some (.builtin "len") := by decide +kernel
theorem bt_all : bootBuiltins "all" = some (.builtin "all") := by decide +kernel
theorem bt_any : bootBuiltins "any" = some (.builtin "any") := by decide +kernel
theorem bt_sum : bootBuiltins "sum" = some (.builtin "sum") := by decide +kernel
theorem bt_repr : bootBuiltins "repr" = some (.builtin "repr") := by decide +kernel
theorem bt_abs : bootBuiltins "abs" = some (.builtin "abs") := by decide +kernel
theorem bt_max : bootBuiltins "max" = some (.builtin "max") := by decide +kernel
theorem bt_min : bootBuiltins "min" = some (.builtin "min") := by decide +kernel
theorem bt_sorted : bootBuiltins "sorted" = some (.builtin "sorted") := by decide +kernel
theorem bt_int : bootBuiltins "int" = some (.type "int") := by decide +kernel
theorem bt_bool : bootBuiltins "bool" = some (.type "bool") := by decide +kernel
theorem bt_str : bootBuiltins "str" = some (.type "str") := by decide +kernel
theorem bt_list : bootBuiltins "list" = some (.type "list") := by decide +kernel
theorem bt_tuple : bootBuiltins "tuple" = some (.type "tuple") := by decide +kernel
theorem bt_set : bootBuiltins "set" = some (.type "set") := by decide +kernel
/-- isinstance(x, T) of data -/
theorem isi_da {K : PySem.W.Frag} {H : Hp} {d : PyData} {v : V} {T : String} {Q : VK} (h : Da K H d v)
    (hT : T = "int" ∨ T = "bool" ∨ T = "list" ∨ T = "tuple" ∨ T = "str") (q : Q (.bl (isA T d)) H) : rIsi K [v, .ty T] H Q :=
  ⟨v, .ty T, _, _, _, rfl, .ty T, h.ty, isA_ok T hT d, q⟩
theorem start_eq {N : List Str} {vs : List V} : start N vs = vs.map some ++ List.replicate (N.length - vs.length) none := rfl
end Nw
/-! Walks of anything by one word. -/
namespace Nw
open PySem PySem.Spec PyProof.Rows L2

/-- what a comprehension's reading asks, D its new list -/
abbrev LcW (J : It) (g : TG) (tt : TT) (te : TE) (vs : List Nat) (σ : L2.St) (D : Addr) (H1 : Hp) (Qd : Hp → Prop) : Prop :=
  ∃ W : Nat → Nat → Hp → Prop, (∃ m, W 0 m (upd H1 D (.lst []))) ∧ ∀ i m H, W i m H →
    (J.stop i H ∧ Qd H) ∨ (J.go i H ∧ ∃ Nx : Hp → Prop, (∀ H', Nx H' → ∃ m', m' < m ∧ W (i + 1) m' H') ∧
      ∀ x H', J.yld i H x H' → g x (wipe σ vs) H' fun σ2 H2 => wipe σ2 vs = wipe σ vs ∧ tt σ2 H2 fun b H3 =>
        if b = true then te σ2 H3 fun y H4 => ∃ acc, H4 D = some (.lst acc) ∧ acc.length < sizeLine ∧
          Nx (upd H4 D (.lst (acc ++ [y]))) else Nx H3)
theorem lc_by {J : It} {g : TG} {tt : TT} {te : TE} {vs : List Nat} {σ : L2.St} {D : Addr} {H1 : Hp} {Qd : Hp → Prop}
    (n : Nat) (Pv : Nat → Hp → Prop) (h0 : Pv 0 (upd H1 D (.lst [])))
    (hgo : ∀ i H, i < n → Pv i H → J.go i H) (hst : ∀ H, Pv n H → J.stop n H)
    (hs : ∀ i H x H', i < n → Pv i H → J.yld i H x H' → g x (wipe σ vs) H' fun σ2 H2 => wipe σ2 vs = wipe σ vs ∧
      tt σ2 H2 fun b H3 => if b = true then te σ2 H3 fun y H4 => ∃ acc, H4 D = some (.lst acc) ∧ acc.length < sizeLine ∧
        Pv (i + 1) (upd H4 D (.lst (acc ++ [y]))) else Pv (i + 1) H3)
    (hd : ∀ H, Pv n H → Qd H) : LcW J g tt te vs σ D H1 Qd := by
  refine ⟨fun i m H => m = n - i ∧ i ≤ n ∧ Pv i H, ⟨n, by omega, Nat.zero_le _, h0⟩, ?_⟩
  rintro i m H ⟨rfl, hi, p⟩
  by_cases hlt : i < n
  · refine .inr ⟨hgo i H hlt p, Pv (i + 1), fun H' p' => ⟨n - (i + 1), by omega, rfl, hlt, p'⟩, ?_⟩
    intro x H' y
    exact hs i H x H' hlt p y
  · have e : i = n := by omega
    subst e
    exact .inl ⟨hst H p, hd H p⟩
theorem for_by {J : It} {g : TG} {tb : TS} {D : Ends} {σ : L2.St} {H1 : Hp} (n : Nat) (Pv : Nat → L2.St → Hp → Prop) (h0 : Pv 0 σ H1)
    (hgo : ∀ i σ H, i < n → Pv i σ H → J.go i H) (hst : ∀ σ H, Pv n σ H → J.stop n H)
    (hs : ∀ i σ H x H', i < n → Pv i σ H → J.yld i H x H' →
      g x σ H' fun σ2 H2 => tb { D with nx := Pv (i + 1), ct := Pv (i + 1), bk := D.nx } σ2 H2)
    (hd : ∀ σ H, Pv n σ H → D.nx σ H) :
    ∃ W : Nat → Nat → L2.St → Hp → Prop, (∃ m, W 0 m σ H1) ∧ ∀ i m σ H, W i m σ H →
      (J.stop i H ∧ D.nx σ H) ∨ (J.go i H ∧ ∃ N : L2.St → Hp → Prop, (∀ σ' H', N σ' H' → ∃ m', m' < m ∧ W (i + 1) m' σ' H') ∧
        ∀ x H', J.yld i H x H' → g x σ H' fun σ2 H2 => tb { D with nx := N, ct := N, bk := D.nx } σ2 H2) := by
  refine ⟨fun i m σ H => m = n - i ∧ i ≤ n ∧ Pv i σ H, ⟨n, by omega, Nat.zero_le _, h0⟩, ?_⟩
  rintro i m σ H ⟨rfl, hi, p⟩
  by_cases hlt : i < n
  · refine .inr ⟨hgo i σ H hlt p, Pv (i + 1), fun σ' H' p' => ⟨n - (i + 1), by omega, rfl, hlt, p'⟩, ?_⟩
    intro x H' y
    exact hs i σ H x H' hlt p y
  · have e : i = n := by omega
    subst e
    exact .inl ⟨hst σ H p, hd σ H p⟩

/-- what is known but at D stays known -/
abbrev ExD (D : Addr) (H H' : Hp) : Prop := ∀ b o, b ≠ D → H b = some o → H' b = some o
theorem Ex.d {D : Addr} {H H' : Hp} (e : Ex H H') : ExD D H H' := fun b o _ h => e b o h
theorem ExD.put {D : Addr} {H : Hp} {o : HO} : ExD D H (upd H D o) := fun b u n h => by
  rw [upd_ne n]
  exact h
theorem ExD.tr {D : Addr} {H H1 H2 : Hp} (a : ExD D H H1) (b : ExD D H1 H2) : ExD D H H2 := fun c o n h => b c o n (a c o n h)
/-- item by item over the turns that give -/
def Given (n : Nat) (f : Nat → Bool) (R : Nat → V → Prop) (ys : List V) : Prop := Paired R ((List.range n).filter f) ys
theorem Given.nil {f : Nat → Bool} {R : Nat → V → Prop} : Given 0 f R [] := Paired.nil
theorem paired_app {α β : Type} {F : α → β → Prop} : ∀ {as : List α} {bs : List β} {as' : List α} {bs' : List β}, Paired F as bs → Paired F as' bs' → Paired F (as ++ as') (bs ++ bs')
  | _, _, _, _, .nil, h => h
  | _, _, _, _, .cons r t, h => .cons r (paired_app t h)
theorem Given.yes {n : Nat} {f : Nat → Bool} {R : Nat → V → Prop} {ys : List V} {y : V} (h : Given n f R ys) (hf : f n = true) (r : R n y) : Given (n + 1) f R (ys ++ [y]) := by
  unfold Given
  rw [List.range_succ, List.filter_append, List.filter_cons, if_pos hf]
  exact paired_app h (Paired.cons r Paired.nil)
theorem Given.no {n : Nat} {f : Nat → Bool} {R : Nat → V → Prop} {ys : List V} (h : Given n f R ys) (hf : f n = false) : Given (n + 1) f R ys := by
  unfold Given
  rw [List.range_succ, List.filter_append, List.filter_cons, if_neg (by rw [hf]; decide)]
  rw [List.filter_nil, List.append_nil]
  exact h
theorem paired_imp {α β : Type} {F G : α → β → Prop} (h : ∀ a b, F a b → G a b) : ∀ {as : List α} {bs : List β}, Paired F as bs → Paired G as bs
  | _, _, .nil => .nil
  | _, _, .cons r t => .cons (h _ _ r) (paired_imp h t)
theorem Given.imp {n : Nat} {f : Nat → Bool} {R S : Nat → V → Prop} {ys : List V} (g : Given n f R ys) (h : ∀ i y, R i y → S i y) : Given n f S ys := paired_imp h g
theorem Given.len {n : Nat} {f : Nat → Bool} {R : Nat → V → Prop} {ys : List V} (g : Given n f R ys) : ys.length ≤ n := by
  have h := Paired.length g
  have h2 := List.length_filter_le f (List.range n)
  rw [List.length_range] at h2
  omega
theorem paired_eq {α β : Type} {v : α → β} : ∀ {as : List α} {bs : List β}, Paired (fun a b => b = v a) as bs → bs = as.map v
  | _, _, .nil => rfl
  | _, _, .cons r t => by
    rw [List.map_cons, ← r, ← paired_eq t]
/-- what each turn gives is told outright -/
theorem Given.eq {n : Nat} {f : Nat → Bool} {v : Nat → V} {ys : List V} (g : Given n f (fun i y => y = v i) ys) : ys = ((List.range n).filter f).map v := paired_eq g
theorem filter_true {α : Type} (l : List α) : l.filter (fun _ => true) = l := List.filter_eq_self.mpr fun _ _ => rfl
theorem Given.all {n : Nat} {v : Nat → V} {ys : List V} (g : Given n (fun _ => true) (fun i y => y = v i) ys) : ys = (List.range n).map v := by
  have h := g.eq
  rw [filter_true] at h
  exact h

/-- a comprehension that changes nothing that was there: f which turns give, R what (not hanging on D) -/
theorem lc_ev {J : It} {g : TG} {tt : TT} {te : TE} {vs : List Nat} {σ : L2.St} {D : Addr} {H1 : Hp} {Qd : Hp → Prop}
    (n : Nat) (f : Nat → Bool) (R : Nat → V → Hp → Prop) (hz : n ≤ 100000) (hD : H1 D = none)
    (mono : ∀ i y H H', ExD D H H' → R i y H → R i y H')
    (hgo : ∀ i H, i < n → Ex H1 H → J.go i H) (hst : ∀ H, Ex H1 H → J.stop n H)
    (hs : ∀ i H x H', i < n → Ex H1 H → (∃ acc, H D = some (.lst acc)) → J.yld i H x H' → ∀ (Q : V → Hp → Prop) (N : Hp → Prop),
      (f i = true → ∀ y H4, Ex H H4 → R i y H4 → Q y H4) → (f i = false → ∀ H4, Ex H H4 → N H4) →
      g x (wipe σ vs) H' fun σ2 H2 => wipe σ2 vs = wipe σ vs ∧ tt σ2 H2 fun b H3 => if b = true then te σ2 H3 Q else N H3)
    (hd : ∀ ys H, Ex H1 H → H D = some (.lst ys) → Given n f (fun i y => R i y H) ys → Qd H) : LcW J g tt te vs σ D H1 Qd := by
  refine lc_by n (fun i H => Ex H1 H ∧ ∃ ys, H D = some (.lst ys) ∧ Given i f (fun i y => R i y H) ys)
    ⟨Ex.nw hD, [], upd_same, .nil⟩ (fun i H hi p => hgo i H hi p.1) (fun H p => hst H p.1) ?_ ?_
  · rintro i H x H' hi ⟨e, ys, hy, gv⟩ y
    refine hs i H x H' hi e ⟨_, hy⟩ y _ _ ?_ ?_
    · intro hf z H4 e4 r
      refine ⟨ys, e4 D _ hy, by have := gv.len; have e1 : sizeLine = 16777216 := sizeLine_eq; omega, (e.tr e4).wr hD, _, upd_same, ?_⟩
      exact (gv.imp fun j y r' => mono j y _ _ (e4.d.tr ExD.put) r').yes hf (mono i z _ _ ExD.put r)
    · intro hf H4 e4
      exact ⟨e.tr e4, ys, e4 D _ hy, (gv.imp fun j y r' => mono j y _ _ e4.d r').no hf⟩
  · rintro H ⟨e, ys, hy, gv⟩
    exact hd ys H e hy gv
/-- turns over a list that stands -/
theorem itl_go {K : PySem.W.Frag} {H H' : Hp} {a : Addr} {xs : List V} (h : SqL K H a xs) (e : Ex H H') {i : Nat} (hi : i < xs.length) : (Itl K a).go i H' :=
  ⟨xs, xs[i], e.l h, List.getElem?_eq_getElem hi⟩
theorem itl_stop {K : PySem.W.Frag} {H H' : Hp} {a : Addr} {xs : List V} (h : SqL K H a xs) (e : Ex H H') : (Itl K a).stop xs.length H' :=
  ⟨xs, e.l h, Nat.le_refl _⟩
theorem itl_yld {K : PySem.W.Frag} {H H' H'' : Hp} {a : Addr} {xs : List V} {i : Nat} {x : V} (y : (Itl K a).yld i H' x H'') (h : SqL K H a xs) (e : Ex H H') : H'' = H' ∧ xs[i]? = some x :=
  ⟨y.1, y.2 xs (e.l h)⟩
theorem itz_go {K : PySem.W.Frag} {H H' : Hp} {a b : Addr} {xs ys : List V} (h : SqL K H a xs) (g : SqL K H b ys) (e : Ex H H') {i : Nat} (hi : i < min xs.length ys.length) : (Itz K a b).go i H' :=
  ⟨xs, ys, xs[i]'(by omega), ys[i]'(by omega), e.l h, e.l g, List.getElem?_eq_getElem _, List.getElem?_eq_getElem _⟩
theorem itz_stop {K : PySem.W.Frag} {H H' : Hp} {a b : Addr} {xs ys : List V} (h : SqL K H a xs) (g : SqL K H b ys) (e : Ex H H') : (Itz K a b).stop (min xs.length ys.length) H' :=
  ⟨xs, ys, e.l h, e.l g, by omega⟩
theorem ite_go {K : PySem.W.Frag} {H H' : Hp} {a : Addr} {xs : List V} (h : SqL K H a xs) (e : Ex H H') {i : Nat} (hi : i < xs.length) : (Ite K a).go i H' :=
  ⟨xs, xs[i], e.l h, List.getElem?_eq_getElem hi⟩
theorem ite_stop {K : PySem.W.Frag} {H H' : Hp} {a : Addr} {xs : List V} (h : SqL K H a xs) (e : Ex H H') : (Ite K a).stop xs.length H' :=
  ⟨xs, e.l h, Nat.le_refl _⟩
theorem cut1 (xs : List V) : cutV xs (some 1) none = xs.drop 1 := by
  unfold cutV
  rw [show HT.sIx xs.length 0 (some 1) = min 1 xs.length from HT.sIx_nat xs.length 0 1, HT.sIx_none]
  cases xs with
  | nil => rfl
  | cons x r =>
    have e : min 1 (x :: r).length = 1 := by
      rw [List.length_cons]
      omega
    rw [e]
    show List.take ((x :: r).length - 1) r = r
    rw [List.length_cons, Nat.add_sub_cancel]
    exact List.take_length
end Nw
namespace Nw
open PySem PySem.Spec PyProof.Rows L2
/-- the inner loop of a comprehension of two clauses -/
abbrev LcI (J1 : It) (g1 : TG) (tt1 : TT) (te : TE) (vs1 : List Nat) (σ2 : L2.St) (D : Addr) (H4 : Hp) (Nx : Hp → Prop) : Prop :=
  ∃ W1 : Nat → Nat → Hp → Prop, (∃ m, W1 0 m H4) ∧ ∀ j k H, W1 j k H →
    (J1.stop j H ∧ Nx H) ∨ (J1.go j H ∧ ∃ Nx1 : Hp → Prop, (∀ H', Nx1 H' → ∃ k', k' < k ∧ W1 (j + 1) k' H') ∧
      ∀ x H', J1.yld j H x H' → g1 x (wipe σ2 vs1) H' fun σ3 H5 => wipe σ3 vs1 = wipe σ2 vs1 ∧ tt1 σ3 H5 fun b H6 =>
        if b = true then te σ3 H6 fun y H7 => ∃ acc, H7 D = some (.lst acc) ∧ acc.length < sizeLine ∧
          Nx1 (upd H7 D (.lst (acc ++ [y]))) else Nx1 H6)
theorem lci_by {J1 : It} {g1 : TG} {tt1 : TT} {te : TE} {vs1 : List Nat} {σ2 : L2.St} {D : Addr} {H4 : Hp} {Nx : Hp → Prop}
    (n : Nat) (Pv : Nat → Hp → Prop) (h0 : Pv 0 H4) (hgo : ∀ i H, i < n → Pv i H → J1.go i H) (hst : ∀ H, Pv n H → J1.stop n H)
    (hs : ∀ i H x H', i < n → Pv i H → J1.yld i H x H' → g1 x (wipe σ2 vs1) H' fun σ3 H5 => wipe σ3 vs1 = wipe σ2 vs1 ∧
      tt1 σ3 H5 fun b H6 => if b = true then te σ3 H6 fun y H7 => ∃ acc, H7 D = some (.lst acc) ∧ acc.length < sizeLine ∧
        Pv (i + 1) (upd H7 D (.lst (acc ++ [y]))) else Pv (i + 1) H6)
    (hd : ∀ H, Pv n H → Nx H) : LcI J1 g1 tt1 te vs1 σ2 D H4 Nx := by
  refine ⟨fun i m H => m = n - i ∧ i ≤ n ∧ Pv i H, ⟨n, by omega, Nat.zero_le _, h0⟩, ?_⟩
  rintro i m H ⟨rfl, hi, p⟩
  by_cases hlt : i < n
  · refine .inr ⟨hgo i H hlt p, Pv (i + 1), fun H' p' => ⟨n - (i + 1), by omega, rfl, hlt, p'⟩, ?_⟩
    intro x H' y
    exact hs i H x H' hlt p y
  · have e : i = n := by omega
    subst e
    exact .inl ⟨hst H p, hd H p⟩
theorem lc2_by {J : It} {g : TG} {tt : TT} {wi1 : TI} {g1 : TG} {tt1 : TT} {te : TE} {vs vs1 : List Nat} {σ : L2.St} {D : Addr} {H1 : Hp} {Qd : Hp → Prop}
    (n : Nat) (Pv : Nat → Hp → Prop) (h0 : Pv 0 (upd H1 D (.lst [])))
    (hgo : ∀ i H, i < n → Pv i H → J.go i H) (hst : ∀ H, Pv n H → J.stop n H)
    (hs : ∀ i H x H', i < n → Pv i H → J.yld i H x H' → g x (wipe σ vs) H' fun σ2 H2 => wipe σ2 vs = wipe σ vs ∧
      tt σ2 H2 fun b H3 => if b = true then wi1 σ2 H3 fun J1 H4 => LcI J1 g1 tt1 te vs1 σ2 D H4 (Pv (i + 1)) else Pv (i + 1) H3)
    (hd : ∀ H, Pv n H → Qd H) :
    ∃ W : Nat → Nat → Hp → Prop, (∃ m, W 0 m (upd H1 D (.lst []))) ∧ ∀ i m H, W i m H →
      (J.stop i H ∧ Qd H) ∨ (J.go i H ∧ ∃ Nx : Hp → Prop, (∀ H', Nx H' → ∃ m', m' < m ∧ W (i + 1) m' H') ∧ ∀ x H', J.yld i H x H' →
        g x (wipe σ vs) H' fun σ2 H2 => wipe σ2 vs = wipe σ vs ∧ tt σ2 H2 fun b H3 =>
          if b = true then wi1 σ2 H3 fun J1 H4 => LcI J1 g1 tt1 te vs1 σ2 D H4 Nx else Nx H3) := by
  refine ⟨fun i m H => m = n - i ∧ i ≤ n ∧ Pv i H, ⟨n, by omega, Nat.zero_le _, h0⟩, ?_⟩
  rintro i m H ⟨rfl, hi, p⟩
  by_cases hlt : i < n
  · refine .inr ⟨hgo i H hlt p, Pv (i + 1), fun H' p' => ⟨n - (i + 1), by omega, rfl, hlt, p'⟩, ?_⟩
    intro x H' y
    exact hs i H x H' hlt p y
  · have e : i = n := by omega
    subst e
    exact .inl ⟨hst H p, hd H p⟩
end Nw
/-! Rules told over the written part by its own name, so that a comprehension's block may use them. -/
namespace Nw
open PySem PySem.Spec PyProof.Rows L2
section
variable {X : Cx} {K : PySem.W.Frag}
theorem op_eqDk (K : PySem.W.Frag) (hu : X.A.units + 64 < cLine) (hK : X.K = K := by rfl) : OpR X (compareOp .Eq) (rEqD K) := by
  subst hK
  exact op_eqD hu
theorem op_neDk (K : PySem.W.Frag) (hu : X.A.units + 64 < cLine) (hK : X.K = K := by rfl) : OpR X (compareOp .NotEq) (rNeD K) := by
  subst hK
  exact op_neD hu
theorem op_inK (K : PySem.W.Frag) (hK : X.K = K := by rfl) : OpR X (compareOp .In) (rIn K false) := by
  subst hK
  exact op_in_seq
theorem op_notInK (K : PySem.W.Frag) (hK : X.K = K := by rfl) : OpR X (compareOp .NotIn) (rIn K true) := by
  subst hK
  exact op_notIn_seq
theorem op_inDk (K : PySem.W.Frag) {k : Nat} (hr : Room k X.A) (hK : X.K = K := by rfl) : OpR X (compareOp .In) (rInD K) := by
  subst hK
  exact op_inD (by have := hr.un; omega)
theorem op_notInDk (K : PySem.W.Frag) {k : Nat} (hr : Room k X.A) (hK : X.K = K := by rfl) : OpR X (compareOp .NotIn) (rNotInD K) := by
  subst hK
  exact op_notInD (by have := hr.un; omega)
/-- < of ints, of tuples of ints -/
def rLtA (K : PySem.W.Frag) : R2 := fun x y H Q => (∃ i j, x = .int i ∧ y = .int j ∧ Q (.bl (decide (i < j))) H) ∨ rLtT K x y H Q
theorem op_ltA (K : PySem.W.Frag) (hu : X.A.units < cLine) (hK : X.K = K := by rfl) : OpR X (compareOp .Lt) (rLtA K) := by
  subst hK
  intro pins s σ H x y v u Q I rx ry q
  rcases q with q | q
  · exact op_lt pins s σ H x y v u Q I rx ry q
  · exact op_ltT hu pins s σ H x y v u Q I rx ry q
theorem op_catTk (K : PySem.W.Frag) (hK : X.K = K := by rfl) : OpR X (binaryOp .Add) (rCatT K) := by
  subst hK
  exact op_catT
theorem ix_listK (K : PySem.W.Frag) (hK : X.K = K := by rfl) : IxR X (rIxL K) := by
  subst hK
  exact ix_list
theorem ix_tupK (K : PySem.W.Frag) (hK : X.K = K := by rfl) : IxR X (rIxT K) := by
  subst hK
  exact ix_tup
theorem ix_seqK (K : PySem.W.Frag) (hK : X.K = K := by rfl) : IxR X (rIx K) := by
  subst hK
  exact ix_seq
theorem sl_listK (K : PySem.W.Frag) (hK : X.K = K := by rfl) : SlR X (rSlL K) := by
  subst hK
  exact sl_list
theorem sl_tupK (K : PySem.W.Frag) (hK : X.K = K := by rfl) : SlR X (rSlT K) := by
  subst hK
  exact sl_tup
def rLenQ (K : PySem.W.Frag) : List V → Hp → VK → Prop := fun xs H Q => ∃ p ys, xs = [.ref p] ∧ (SqL K H p ys ∨ SqT K H p ys) ∧ Q (.int ys.length) H
theorem call_lenK (K : PySem.W.Frag) (hK : X.K = K := by rfl) : CallR X (.builtin "len") (rLenQ K) := by
  subst hK
  exact call_len_seq
def rListQ (K : PySem.W.Frag) : List V → Hp → VK → Prop := fun xs H Q => ∃ p ys, xs = [.ref p] ∧ (SqL K H p ys ∨ SqT K H p ys) ∧ ∀ l, H l = none → Q (.ref l) (upd H l (.lst ys))
theorem call_listK (K : PySem.W.Frag) (hK : X.K = K := by rfl) : CallR X (.type "list") (rListQ K) := by
  subst hK
  exact call_list_of
theorem call_reprK (K : PySem.W.Frag) {k : Nat} (hq : Quiet X.A) (hr : Room k X.A) (hK : X.K = K := by rfl) : CallR X (.builtin "repr") (rReprD K) := by
  subst hK
  exact call_reprD hq hr
theorem call_isiK (K : PySem.W.Frag) (hK : X.K = K := by rfl) : CallR X (.builtin "isinstance") (rIsi K) := by
  subst hK
  exact call_isi
theorem cr_allK (K : PySem.W.Frag) (hc : X.calm = true) (hK : X.K = K := by rfl) : CallR X (.builtin "all") (rAll K) := by
  subst hK
  exact cr_all hc
theorem cr_anyK (K : PySem.W.Frag) (hc : X.calm = true) (hK : X.K = K := by rfl) : CallR X (.builtin "any") (rAny K) := by
  subst hK
  exact cr_any hc
theorem cr_sumK (K : PySem.W.Frag) (hc : X.calm = true) (hK : X.K = K := by rfl) : CallR X (.builtin "sum") (rSum K) := by
  subst hK
  exact cr_sum hc
theorem cr_maxK (K : PySem.W.Frag) (hc : X.calm = true) (hK : X.K = K := by rfl) : CallR X (.builtin "max") (rMax K) := by
  subst hK
  exact cr_max hc
theorem cr_minK' (K : PySem.W.Frag) (hc : X.calm = true) (hK : X.K = K := by rfl) : CallR X (.builtin "min") (rMin K) := by
  subst hK
  exact cr_min hc
theorem cr_sortedIk (K : PySem.W.Frag) (hK : X.K = K := by rfl) : CallR X (.builtin "sorted") (rSortedI K) := by
  subst hK
  exact cr_sortedI
theorem cr_sortedPOk (K : PySem.W.Frag) (hK : X.K = K := by rfl) : CallR X (.builtin "sorted") (rSortedPO K) := by
  subst hK
  exact cr_sortedPO
theorem pi_listK (K : PySem.W.Frag) {tg l : Expr} {tl : TE} (hl : PE X l tl) (hK : X.K = K := by rfl) : PI X tg l (iList K tl) := by
  subst hK
  exact pi_list hl
theorem pi_tupK (K : PySem.W.Frag) {tg l : Expr} {tl : TE} (hl : PE X l tl) (hK : X.K = K := by rfl) : PI X tg l (iTup K tl) := by
  subst hK
  exact pi_tup hl
theorem pg_tupK (K : PySem.W.Frag) {es : List Expr} {k : Nat} {pos : Pos} {t : TGs} {n : Nat} (hc : X.calm = true) (h : PGs X es t)
    (hn : (assignEach es X.env).length = n := by rfl)
    (hst : (assignEach es X.env).findIdx? (·.1) = none := by rfl) (hK : X.K = K := by rfl) : PG X (.Tuple es k pos) (gTup K n t) := by
  subst hK
  exact pg_tup hc h hn hst
end
end Nw
namespace Nw
open PySem PySem.Spec PyProof.Rows L2
theorem mil {n : Nat} (h : n ≤ 1000000) : n ≤ sizeLine := by
  rw [sizeLine_eq]
  omega
theorem mil' {n : Nat} (h : n < 1000000) : n < sizeLine := by
  rw [sizeLine_eq]
  omega
/-- xs + ys, lists that are read -/
def rCatS (K : PySem.W.Frag) : R2 := fun x y H Q => ∃ l b xs zs, x = .ref l ∧ y = .ref b ∧ SqL K H l xs ∧ SqL K H b zs ∧
  xs.length + zs.length ≤ 1000000 ∧ ∀ p, H p = none → Q (.ref p) (upd H p (.lst (xs ++ zs)))
theorem op_catS {X : Cx} (K : PySem.W.Frag) (hK : X.K = K := by rfl) : OpR X (binaryOp .Add) (rCatS K) := by
  subst hK
  intro pins s σ H x y v u Q I rx ry h
  obtain ⟨l, b, xs, zs, rfl, rfl, hH, hB, hz, q⟩ := h
  cases rx
  cases ry
  obtain ⟨its, r, ⟨⟨cls, dd, data, sl⟩, n, e, hc, hd0, hd⟩, _⟩ := I.list hH
  obtain ⟨its2, r2, ⟨⟨cls2, dd2, data2, sl2⟩, n2, e2, hc2, hd02, hd2⟩, _⟩ := I.list hB
  simp only at hc hd hc2 hd2
  subst hc hd hc2 hd2
  have l1 := r.length
  have l2 := r2.length
  have z : xs.length + zs.length ≤ sizeLine := mil hz
  refine concat_meets ⟨_, e, rfl⟩ ⟨_, e2, rfl⟩ noFill_list_add seq_list_add PySem.F.slot_list_add PySem.F.entry_list_add
    (PySem.F.args_list_add_2 _ _) (list_addW l b its.toArray its2.toArray n n2 dd dd2 sl sl2 (by simp only [List.size_toArray]; omega)) ⟨e, e2, ?_⟩
  have ea : its.toArray ++ its2.toArray = (its ++ its2).toArray := by simp
  rw [ea]
  exact ⟨.ref _, _, I.lnew (t' := s.toks) (r.append r2) (by rw [List.length_append]; omega), rfl, q _ I.fresh⟩
end Nw
/-! What the package's looks at values answer, on data. -/
namespace Nw
open PySem PySem.Spec PyProof.Rows L2

def isInt : PyData → Bool
  | .int _ => true
  | _ => false
theorem isInt_eq (d : PyData) : (isA "int" d && !isA "bool" d) = isInt d := by
  cases d <;> first | rfl | decide +kernel
/-- an int from 0 to m - 1 -/
def numB : PyData → Int → Bool
  | .int i, m => decide (0 ≤ i) && decide (i < m)
  | _, _ => false
def tupB : PyData → Int → Int → Bool
  | .tuple [a, b], m, n => numB a m && numB b n
  | _, _, _ => false
def listB : PyData → Int → Bool
  | .list ds, m => ds.all fun d => numB d m
  | _, _ => false
/-- ascending, by an order on the items -/
def ascB {α : Type} (lt : α → α → Bool) : List α → Bool
  | x :: y :: r => lt x y && ascB lt (y :: r)
  | _ => true
def ltIn (x y : Int) : Bool := decide (x < y)
def ltPr (x y : Int × Int) : Bool := HT.lexLt [x.1, x.2] [y.1, y.2]
def dPair (p : Int × Int) : PyData := .tuple [.int p.1, .int p.2]
/-- the ints of a list of ints, the pairs of a list of pairs -/
def intsOf : List PyData → Option (List Int)
  | [] => some []
  | .int i :: r => (intsOf r).map (i :: ·)
  | _ => none
def pairsOf : List PyData → Option (List (Int × Int))
  | [] => some []
  | .tuple [.int i, .int j] :: r => (pairsOf r).map ((i, j) :: ·)
  | _ => none
theorem intsOf_map : ∀ ns : List Int, intsOf (ns.map PyData.int) = some ns
  | [] => rfl
  | n :: ns => by
    simp only [List.map_cons, intsOf, intsOf_map ns, Option.map_some]
theorem pairsOf_map : ∀ ps : List (Int × Int), pairsOf (ps.map dPair) = some ps
  | [] => rfl
  | (a, b) :: ps => by
    simp only [List.map_cons, dPair, pairsOf, pairsOf_map ps, Option.map_some]
theorem ints_of_all {m : Int} : ∀ {ds : List PyData}, (ds.all fun d => numB d m) = true → ∃ ns : List Int, ds = ns.map PyData.int ∧ ∀ n ∈ ns, 0 ≤ n ∧ n < m
  | [], _ => ⟨[], rfl, fun _ h => nomatch h⟩
  | d :: ds, h => by
    simp only [List.all_cons, Bool.and_eq_true] at h
    obtain ⟨ns, rfl, hn⟩ := ints_of_all h.2
    cases d with
    | int i =>
      have h1 := h.1
      simp only [numB, Bool.and_eq_true, decide_eq_true_eq] at h1
      refine ⟨i :: ns, rfl, ?_⟩
      intro n hm
      rcases List.mem_cons.mp hm with rfl | hm
      · exact h1
      · exact hn n hm
    | _ =>
      have h1 := h.1
      simp [numB] at h1
theorem numB_inv {d : PyData} {m : Int} (h : numB d m = true) : ∃ i, d = .int i ∧ 0 ≤ i ∧ i < m := by
  cases d with
  | int i =>
    simp only [numB, Bool.and_eq_true, decide_eq_true_eq] at h
    exact ⟨i, rfl, h⟩
  | _ => simp [numB] at h
theorem tupB_inv {d : PyData} {m k : Int} (h : tupB d m k = true) : ∃ i j, d = dPair (i, j) ∧ (0 ≤ i ∧ i < m) ∧ (0 ≤ j ∧ j < k) := by
  match d, h with
  | .tuple [a, b], h =>
    simp only [tupB, Bool.and_eq_true] at h
    obtain ⟨i, rfl, hi⟩ := numB_inv h.1
    obtain ⟨j, rfl, hj⟩ := numB_inv h.2
    exact ⟨i, j, rfl, hi, hj⟩
theorem pairs_of_all {m k : Int} : ∀ {ds : List PyData}, (ds.all fun d => tupB d m k) = true →
    ∃ ps : List (Int × Int), ds = ps.map dPair ∧ ∀ p ∈ ps, (0 ≤ p.1 ∧ p.1 < m) ∧ (0 ≤ p.2 ∧ p.2 < k)
  | [], _ => ⟨[], rfl, fun _ h => nomatch h⟩
  | d :: ds, h => by
    simp only [List.all_cons, Bool.and_eq_true] at h
    obtain ⟨ps, rfl, hn⟩ := pairs_of_all h.2
    obtain ⟨i, j, rfl, hi, hj⟩ := tupB_inv h.1
    refine ⟨(i, j) :: ps, rfl, ?_⟩
    intro p hp
    rcases List.mem_cons.mp hp with rfl | hp
    · exact ⟨hi, hj⟩
    · exact hn p hp
def tuplesB : PyData → Int → Int → Bool
  | .list ds, m, n => (ds.all fun d => tupB d m n) && (match pairsOf ds with | some ps => ascB ltPr ps | none => false)
  | _, _, _ => false
def targetsB : PyData → Int → Bool
  | .list ds, m => (ds.all fun d => numB d m) && (decide (0 < ds.length) && (match intsOf ds with | some ns => ascB ltIn ns | none => false))
  | _, _ => false
def nudgesB : PyData → Int → Bool
  | .list ds, m => decide (ds.length ≤ 8) && ds.all fun d => targetsB d m
  | _, _ => false
def webB : PyData → Bool
  | .tuple [.int n, ps, ns] => (decide (1 ≤ n) && decide (n ≤ 20)) && (tuplesB ps n n && nudgesB ns n)
  | _ => false
/-- ascending, turn by turn -/
def ascAt {α : Type} (lt : α → α → Bool) (xs : List α) (i : Nat) : Bool :=
  match xs[i]?, xs[i + 1]? with
  | some x, some y => lt x y
  | _, _ => true
theorem ascB_range {α : Type} (lt : α → α → Bool) : ∀ xs : List α, ((List.range (xs.length - 1)).map fun i => ascAt lt xs i).all id = ascB lt xs
  | [] => rfl
  | [x] => rfl
  | x :: y :: r => by
    have ih := ascB_range lt (y :: r)
    have e : (x :: y :: r).length - 1 = ((y :: r).length - 1) + 1 := by
      simp only [List.length_cons]
      omega
    rw [e, List.range_succ_eq_map, List.map_cons, List.all_cons, List.map_map]
    show (lt x y && _) = (lt x y && ascB lt (y :: r))
    rw [← ih]
    rfl
theorem all_range_get {α : Type} (p : α → Bool) (d : α) : ∀ xs : List α, ((List.range xs.length).map fun i => p (xs.getD i d)).all id = xs.all p
  | [] => rfl
  | x :: xs => by
    rw [List.length_cons, List.range_succ_eq_map, List.map_cons, List.all_cons, List.map_map, List.all_cons]
    show (p x && _) = (p x && xs.all p)
    rw [← all_range_get p d xs]
    rfl
theorem given_bl {n : Nat} {f : Nat → Bool} : ((List.range n).map fun i => V.bl (f i)) = ((List.range n).map f).map V.bl := by
  rw [List.map_map]
  rfl
end Nw
namespace Nw
section
variable {K : PySem.W.Frag}
theorem isa_int (d : PySem.PyData) : PySem.W.kitOne K (.type (tyName d)) (.type "int") = some (isA "int" d) := isA_ok "int" (by simp) d
theorem isa_bool (d : PySem.PyData) : PySem.W.kitOne K (.type (tyName d)) (.type "bool") = some (isA "bool" d) := isA_ok "bool" (by simp) d
theorem isa_list (d : PySem.PyData) : PySem.W.kitOne K (.type (tyName d)) (.type "list") = some (isA "list" d) := isA_ok "list" (by simp) d
theorem isa_tuple (d : PySem.PyData) : PySem.W.kitOne K (.type (tyName d)) (.type "tuple") = some (isA "tuple" d) := isA_ok "tuple" (by simp) d
theorem isa_str (d : PySem.PyData) : PySem.W.kitOne K (.type (tyName d)) (.type "str") = some (isA "str" d) := isA_ok "str" (by simp) d
end
end Nw
namespace Nw
open PySem PySem.Spec PyProof.Rows L2
theorem map_at {α β : Type} {f : α → β} {l : List α} {i : Nat} {y : β} (h : (l.map f)[i]? = some y) : ∃ x, l[i]? = some x ∧ y = f x := by
  rw [List.getElem?_map] at h
  cases e : l[i]? with
  | none =>
    rw [e] at h
    cases h
  | some x =>
    rw [e] at h
    exact ⟨x, rfl, (Option.some.inj h).symm⟩
theorem drop1_at {α : Type} {l : List α} {i : Nat} {y : α} (h : (l.drop 1)[i]? = some y) : l[i + 1]? = some y := by
  rw [List.getElem?_drop, Nat.add_comm] at h
  exact h
theorem min_drop1 {α : Type} (l : List α) : min l.length (l.drop 1).length = l.length - 1 := by
  rw [List.length_drop]
  omega
/-- the pairs that a list of tuples of two ints holds -/
theorem pairs_at {K : PySem.W.Frag} {H : Hp} {ps : List (Int × Int)} {xs : List V} {i : Nat} {x : V} (h : DaAll K H (ps.map dPair) xs) (hx : xs[i]? = some x) :
    ∃ p, ps[i]? = some p ∧ ∃ a, x = .ref a ∧ SqT K H a [.int p.1, .int p.2] := by
  obtain ⟨d, hd, hdx⟩ := h.at' hx
  obtain ⟨p, hp, rfl⟩ := map_at hd
  obtain ⟨a, ys, rfl, hS, z1, r1, rfl, e1, z2, r2, rfl, e2, rfl⟩ := hdx
  obtain rfl := e1
  obtain rfl := e2
  exact ⟨p, hp, a, rfl, .inl (.inl hS)⟩
end Nw
namespace Nw
open PySem PySem.Spec PyProof.Rows L2
end Nw
/-! Webs as numbers. -/
namespace Nw
open PySem PySem.Spec PyProof.Rows L2
structure Wb where
  n : Int
  ps : List (Int × Int)
  ns : List (List Int)
  deriving DecidableEq
def dInts (r : List Int) : PyData := .list (r.map PyData.int)
def dPairs (ps : List (Int × Int)) : PyData := .list (ps.map dPair)
def dRows (ns : List (List Int)) : PyData := .list (ns.map dInts)
def Wb.d (w : Wb) : PyData := .tuple [.int w.n, dPairs w.ps, dRows w.ns]
structure Wb.Ok (w : Wb) : Prop where
  lo : 1 ≤ w.n
  hi : w.n ≤ 20
  ps : ∀ p ∈ w.ps, (0 ≤ p.1 ∧ p.1 < w.n) ∧ (0 ≤ p.2 ∧ p.2 < w.n)
  asc : ascB ltPr w.ps = true
  few : w.ns.length ≤ 8
  ns : ∀ r ∈ w.ns, r ≠ [] ∧ (∀ t ∈ r, 0 ≤ t ∧ t < w.n) ∧ ascB ltIn r = true
theorem targetsB_of {r : List Int} {m : Int} (h0 : r ≠ []) (h1 : ∀ t ∈ r, 0 ≤ t ∧ t < m) (h2 : ascB ltIn r = true) : targetsB (dInts r) m = true := by
  unfold dInts targetsB
  simp only [intsOf_map, h2, Bool.and_true, Bool.and_eq_true, decide_eq_true_eq, List.length_map]
  refine ⟨?_, List.length_pos_iff.mpr h0⟩
  simp only [List.all_map, List.all_eq_true]
  intro t ht
  have := h1 t ht
  simp [numB, this.1, this.2]
theorem tuplesB_of {ps : List (Int × Int)} {m n : Int} (h1 : ∀ p ∈ ps, (0 ≤ p.1 ∧ p.1 < m) ∧ (0 ≤ p.2 ∧ p.2 < n)) (h2 : ascB ltPr ps = true) : tuplesB (dPairs ps) m n = true := by
  unfold dPairs tuplesB
  simp only [pairsOf_map, h2, Bool.and_true]
  simp only [List.all_map, List.all_eq_true]
  intro p hp
  obtain ⟨⟨a, b⟩, c, d⟩ := h1 p hp
  simp [dPair, tupB, numB, a, b, c, d]
theorem Wb.Ok.web {w : Wb} (h : w.Ok) : webB w.d = true := by
  unfold Wb.d webB
  have h1 := h.lo
  have h2 := h.hi
  have h3 := tuplesB_of h.ps h.asc
  have h4 : nudgesB (dRows w.ns) w.n = true := by
    unfold dRows nudgesB
    simp only [List.length_map, h.few, decide_true, Bool.true_and]
    simp only [List.all_map, List.all_eq_true]
    intro r hr
    obtain ⟨a, b, c⟩ := h.ns r hr
    exact targetsB_of a b c
  simp [h1, h2, h3, h4]
/-- how long ascending rows of small numbers may be -/
theorem asc_len {m : Int} : ∀ (r : List Int) (lo : Int), (∀ t ∈ r, lo ≤ t ∧ t < m) → ascB ltIn r = true → (r.length : Int) ≤ max 0 (m - lo)
  | [], lo, _, _ => by
    simp only [List.length_nil]
    omega
  | [x], lo, h, _ => by
    have := h x (by simp)
    simp only [List.length_singleton]
    omega
  | x :: y :: r, lo, h, ha => by
    simp only [ascB, Bool.and_eq_true, ltIn, decide_eq_true_eq] at ha
    have hx := h x (by simp)
    have hy := h y (by simp)
    have key : ∀ (l : List Int) (a : Int), ascB ltIn (a :: l) = true → ∀ t ∈ l, a + 1 ≤ t := by
      intro l
      induction l with
      | nil =>
        intro a _ t ht
        cases ht
      | cons b l ih =>
        intro a hab t ht
        simp only [ascB, Bool.and_eq_true, ltIn, decide_eq_true_eq] at hab
        rcases List.mem_cons.mp ht with rfl | ht
        · omega
        · have := ih b hab.2 t ht
          omega
    have h' : ∀ t ∈ y :: r, x + 1 ≤ t ∧ t < m := by
      intro t ht
      refine ⟨?_, (h t (List.mem_cons_of_mem _ ht)).2⟩
      exact key (y :: r) x (by simp only [ascB, Bool.and_eq_true, ltIn, decide_eq_true_eq]; exact ha) t ht
    have ih := asc_len (y :: r) (x + 1) h' ha.2
    simp only [List.length_cons] at ih ⊢
    omega
theorem Wb.Ok.row {w : Wb} (h : w.Ok) {r : List Int} (hr : r ∈ w.ns) : r.length ≤ 20 := by
  obtain ⟨_, b, c⟩ := h.ns r hr
  have := asc_len r 0 b c
  have := h.hi
  have := h.lo
  omega
/-- the lines of a web -/
def pushedAt (n : Int) (i : Nat) (r : List Int) : List (Int × Int) := r.map fun t => (n + (i : Int), t)
def pushedFrom (n : Int) : Nat → List (List Int) → List (Int × Int)
  | _, [] => []
  | i, r :: rs => pushedAt n i r ++ pushedFrom n (i + 1) rs
def Wb.lines (w : Wb) : List (Int × Int) := w.ps ++ pushedFrom w.n 0 w.ns
theorem pushedFrom_take (n : Int) : ∀ (rs : List (List Int)) (i k : Nat) (r : List Int), rs[k]? = some r →
    pushedFrom n i (rs.take (k + 1)) = pushedFrom n i (rs.take k) ++ pushedAt n (i + k) r
  | [], _, _, _, h => by simp at h
  | a :: rs, i, 0, r, h => by
    obtain rfl : a = r := by simpa using h
    simp [pushedFrom]
  | a :: rs, i, k + 1, r, h => by
    have ih := pushedFrom_take n rs (i + 1) k r (by simpa using h)
    simp only [List.take_succ_cons, pushedFrom]
    rw [ih, List.append_assoc, show i + 1 + k = i + (k + 1) by omega]
theorem take_all {α : Type} (l : List α) : l.take l.length = l := List.take_length
end Nw
namespace Nw
open PySem PySem.Spec PyProof.Rows L2
theorem ltPr_iff {p q : Int × Int} : ltPr p q = true ↔ p.1 < q.1 ∨ (p.1 = q.1 ∧ p.2 < q.2) := by
  unfold ltPr
  rw [HT.lexLt_cons]
  by_cases h : p.1 = q.1
  · rw [if_pos h, HT.lexLt_cons]
    by_cases h2 : p.2 = q.2
    · rw [if_pos h2, HT.lexLt_nil_nil]
      constructor
      · intro e
        cases e
      · intro e
        omega
    · rw [if_neg h2, decide_eq_true_eq]
      omega
  · rw [if_neg h, decide_eq_true_eq]
    omega
theorem asc_code : ∀ {ps : List (Int × Int)}, (∀ p ∈ ps, 0 ≤ p.2 ∧ p.2 < 64) → ascB ltPr ps = true → ascB ltIn (ps.map fun p => 64 * p.1 + p.2) = true
  | [], _, _ => rfl
  | [_], _, _ => rfl
  | p :: q :: r, h, ha => by
    simp only [ascB, Bool.and_eq_true] at ha
    have hp := h p (by simp)
    have hq := h q (by simp)
    have h1 := ltPr_iff.mp ha.1
    have ih := asc_code (ps := q :: r) (fun z hz => h z (List.mem_cons_of_mem _ hz)) ha.2
    simp only [List.map_cons, ascB, Bool.and_eq_true, ltIn, decide_eq_true_eq] at ih ⊢
    exact ⟨by omega, ih⟩
theorem Wb.Ok.len {w : Wb} (h : w.Ok) : w.ps.length ≤ 1300 := by
  have h1 := asc_code (ps := w.ps) (fun p hp => by have := h.ps p hp; have := h.hi; omega) h.asc
  have h2 := asc_len _ 0 (m := 1300) (by
    intro t ht
    obtain ⟨p, hp, rfl⟩ := List.mem_map.mp ht
    have := h.ps p hp
    have := h.hi
    omega) h1
  rw [List.length_map] at h2
  omega
theorem pushed_len (n : Int) : ∀ (rs : List (List Int)) (i : Nat), (∀ r ∈ rs, r.length ≤ 20) → (pushedFrom n i rs).length ≤ 20 * rs.length
  | [], _, _ => by simp [pushedFrom]
  | r :: rs, i, h => by
    have h1 := h r (by simp)
    have h2 := pushed_len n rs (i + 1) (fun z hz => h z (List.mem_cons_of_mem _ hz))
    simp only [pushedFrom, pushedAt, List.length_append, List.length_map, List.length_cons]
    omega
theorem Wb.Ok.lines_len {w : Wb} (h : w.Ok) : w.lines.length ≤ 1500 := by
  have h1 := h.len
  have h2 := pushed_len w.n w.ns 0 (fun r hr => h.row hr)
  have h3 := h.few
  unfold Wb.lines
  rw [List.length_append]
  omega
/-- a web as it stands -/
theorem Wb.at {K : PySem.W.Frag} {H : Hp} {w : Wb} {v : V} (h : Da K H w.d v) : ∃ t x2 x3, v = .ref t ∧ SqT K H t [.int w.n, x2, x3] ∧ Da K H (dPairs w.ps) x2 ∧ Da K H (dRows w.ns) x3 := by
  obtain ⟨t, xs, rfl, hS, x1, r1, rfl, g1, x2, r2, rfl, g2, x3, r3, rfl, g3, rfl⟩ := h
  obtain rfl := g1
  exact ⟨t, x2, x3, rfl, .inl (.inl hS), g2, g3⟩
theorem dInts_at {K : PySem.W.Frag} {H : Hp} {r : List Int} {v : V} (h : Da K H (dInts r) v) : ∃ a, v = .ref a ∧ SqL K H a (r.map V.int) := by
  obtain ⟨a, xs, rfl, hS, hA, _⟩ := h
  obtain rfl := DaAll.ints.mp hA
  exact ⟨a, rfl, .inl (.inl hS)⟩
theorem dInts_of {K : PySem.W.Frag} {H : Hp} {r : List Int} {a : Addr} (h : H a = some (.lst (r.map V.int))) (hz : r.length ≤ 100000) : Da K H (dInts r) (.ref a) :=
  ⟨a, _, rfl, h, DaAll.ints.mpr rfl, by rw [List.length_map]; exact hz⟩
theorem dPair_of {K : PySem.W.Frag} {H : Hp} {p : Int × Int} {a : Addr} (h : H a = some (.tup [.int p.1, .int p.2])) : Da K H (dPair p) (.ref a) :=
  ⟨a, _, rfl, h, _, _, rfl, rfl, _, _, rfl, rfl, rfl⟩
end Nw
namespace Nw
open PySem PySem.Spec PyProof.Rows L2
theorem ExD.t {K : PySem.W.Frag} {D : Addr} {H H' : Hp} {a : Addr} {xs : List V} (e : ExD D H H') (n : a ≠ D) (h : SqT K H a xs) : SqT K H' a xs := by
  rcases h with (h | ⟨o, h⟩) | h
  · exact .inl (.inl (e a _ n h))
  · exact .inl (.inr ⟨o, e a _ n h⟩)
  · exact .inr h
theorem ExD.l {K : PySem.W.Frag} {D : Addr} {H H' : Hp} {a : Addr} {xs : List V} (e : ExD D H H') (n : a ≠ D) (h : SqL K H a xs) : SqL K H' a xs := by
  rcases h with (h | ⟨o, h⟩) | h
  · exact .inl (.inl (e a _ n h))
  · exact .inl (.inr ⟨o, e a _ n h⟩)
  · exact .inr h
/-- items that do not stand at D -/
abbrev OffD (D : Addr) (xs : List V) : Prop := ∀ x ∈ xs, ∃ b, x = .ref b ∧ b ≠ D
theorem OffD.nil {D : Addr} : OffD D [] := fun x h => by cases h
theorem OffD.snoc {D : Addr} {xs : List V} {b : Addr} (h : OffD D xs) (n : b ≠ D) : OffD D (xs ++ [.ref b]) := by
  intro x hx
  rcases List.mem_append.mp hx with hx | hx
  · exact h x hx
  · obtain rfl := List.mem_singleton.mp hx
    exact ⟨b, rfl, n⟩
theorem pairs_keep {K : PySem.W.Frag} {D : Addr} {H H' : Hp} (e : ExD D H H') : ∀ {L : List (Int × Int)} {acc : List V}, DaAll K H (L.map dPair) acc → OffD D acc → DaAll K H' (L.map dPair) acc
  | [], _, h, _ => h
  | p :: L, acc, h, o => by
    obtain ⟨x, xs, rfl, ⟨a, ys, rfl, hS, z1, r1, rfl, e1, z2, r2, rfl, e2, rfl⟩, h2⟩ := h
    obtain rfl := e1
    obtain rfl := e2
    obtain ⟨b, eb, nb⟩ := o (.ref a) (by simp)
    cases eb
    exact ⟨_, _, rfl, dPair_of (e _ _ nb hS), pairs_keep e h2 fun x hx => o x (List.mem_cons_of_mem _ hx)⟩
end Nw
namespace Nw
open PySem PySem.Spec PyProof.Rows L2
theorem pushed_ok {n : Int} {m : Int} : ∀ {rs : List (List Int)} {i : Nat}, (∀ r ∈ rs, ∀ t ∈ r, 0 ≤ t ∧ t < m) → ∀ l ∈ pushedFrom n i rs,
    (n + (i : Int) ≤ l.1 ∧ l.1 < n + (i : Int) + (rs.length : Int)) ∧ (0 ≤ l.2 ∧ l.2 < m)
  | [], _, _, l, hl => by cases hl
  | r :: rs, i, h, l, hl => by
    simp only [pushedFrom, List.mem_append] at hl
    simp only [List.length_cons]
    rcases hl with hl | hl
    · obtain ⟨t, ht, rfl⟩ := List.mem_map.mp hl
      have := h r (by simp) t ht
      exact ⟨⟨by simp, by simp; omega⟩, this⟩
    · have := pushed_ok (i := i + 1) (fun z hz => h z (List.mem_cons_of_mem _ hz)) l hl
      refine ⟨⟨by omega, by omega⟩, this.2⟩
theorem Wb.Ok.line {w : Wb} (h : w.Ok) : ∀ l ∈ w.lines, (0 ≤ l.1 ∧ l.1 < w.n + (w.ns.length : Int)) ∧ (0 ≤ l.2 ∧ l.2 < w.n) := by
  intro l hl
  have h1 := h.lo
  rcases List.mem_append.mp hl with hl | hl
  · have := h.ps l hl
    refine ⟨⟨this.1.1, by omega⟩, this.2⟩
  · have := pushed_ok (fun r hr => (h.ns r hr).2.1) l hl
    refine ⟨⟨by omega, by omega⟩, this.2⟩
/-- the targets that a list of lines gives a source -/
def rowOf (ls : List (Int × Int)) (s : Int) : List Int := (ls.filter fun l => l.1 == s).map (·.2)
theorem rowOf_nil (s : Int) : rowOf [] s = [] := rfl
theorem rowOf_app (a b : List (Int × Int)) (s : Int) : rowOf (a ++ b) s = rowOf a s ++ rowOf b s := by
  unfold rowOf
  rw [List.filter_append, List.map_append]
theorem rowOf_one (p : Int × Int) (s : Int) : rowOf [p] s = if p.1 = s then [p.2] else [] := by
  unfold rowOf
  by_cases h : p.1 = s
  · rw [if_pos h, List.filter_cons, if_pos (by simpa using h)]
    rfl
  · rw [if_neg h, List.filter_cons, if_neg (by simpa using h)]
    rfl
theorem rowOf_len (ls : List (Int × Int)) (s : Int) : (rowOf ls s).length ≤ ls.length := by
  unfold rowOf
  rw [List.length_map]
  exact List.length_filter_le _ _
theorem nodup_snoc {α : Type} {l : List α} {b : α} (h : l.Nodup) (n : b ∉ l) : (l ++ [b]).Nodup := by
  rw [List.nodup_append]
  refine ⟨h, by simp, ?_⟩
  intro a ha c hc e
  obtain rfl := List.mem_singleton.mp hc
  subst e
  exact n ha
theorem nodup_at {α : Type} {l : List α} (h : l.Nodup) {i j : Nat} {a b : α} (hi : l[i]? = some a) (hj : l[j]? = some b) (n : i ≠ j) : a ≠ b := by
  intro e
  subst e
  obtain ⟨h1, e1⟩ := List.getElem?_eq_some_iff.mp hi
  obtain ⟨h2, e2⟩ := List.getElem?_eq_some_iff.mp hj
  exact n ((List.getElem_inj h).mp (e1.trans e2.symm))
theorem atI_int {α : Type} {xs : List α} {s : Int} {v : α} (h0 : 0 ≤ s) (h : xs[s.toNat]? = some v) : atI xs s = some v := by
  have e := atI_nat h
  rw [Int.toNat_of_nonneg h0] at e
  exact e
theorem take_snoc {α : Type} {l : List α} {i : Nat} {x : α} (h : l[i]? = some x) : l.take (i + 1) = l.take i ++ [x] := by
  rw [List.take_add_one, h]
  rfl
end Nw
namespace Nw
open PySem PySem.Spec PyProof.Rows L2
/-- a tuple outlasts what is done to a list -/
theorem SqT.wr {K : PySem.W.Frag} {H : Hp} {b c : Addr} {xs ys : List V} {o : HO} (h : SqT K H b xs) (hc : H c = some (.lst ys)) : SqT K (upd H c o) b xs := by
  rcases h with (h | ⟨z, h⟩) | h
  · refine .inl (.inl ?_)
    rw [upd_ne (fun e => by rw [e, hc] at h; cases h)]
    exact h
  · refine .inl (.inr ⟨z, ?_⟩)
    rw [upd_ne (fun e => by rw [e, hc] at h; cases h)]
    exact h
  · exact .inr h
end Nw
namespace Nw
open PySem PySem.Spec PyProof.Rows L2
/-- the sources that a list of lines gives a quantity -/
def srcsOf (ls : List (Int × Int)) (t : Int) : List Int := (ls.filter fun l => l.2 == t).map (·.1)
theorem filter_range {α β : Type} (d : α) (p : α → Bool) (g : α → β) : ∀ ls : List α, ((List.range ls.length).filter fun i => p (ls.getD i d)).map (fun i => g (ls.getD i d)) = (ls.filter p).map g
  | [] => rfl
  | x :: ls => by
    have ih := filter_range d p g ls
    rw [List.length_cons, List.range_succ_eq_map, List.filter_cons, List.filter_map, List.filter_cons]
    have e : (fun i => p ((x :: ls).getD i d)) ∘ Nat.succ = fun i => p (ls.getD i d) := rfl
    rw [e]
    have e0 : (x :: ls).getD 0 d = x := rfl
    rw [e0]
    by_cases h : p x = true
    · rw [if_pos h, if_pos h, List.map_cons, List.map_cons, List.map_map, ← ih]
      rfl
    · rw [if_neg h, if_neg h, List.map_map, ← ih]
      rfl
theorem srcs_range (ls : List (Int × Int)) (z : Int) : ((List.range ls.length).filter fun i => (ls.getD i (0, 0)).2 == z).map (fun i => V.int (ls.getD i (0, 0)).1) = (srcsOf ls z).map V.int := by
  have h := filter_range (0, 0) (fun l : Int × Int => l.2 == z) (fun l => V.int l.1) ls
  rw [h]
  unfold srcsOf
  rw [List.map_map]
  rfl
end Nw
namespace Nw
open PySem PySem.Spec PyProof.Rows L2
/-- new rows at new places, apart from one another -/
structure RowsAt (H H' : Hp) (p : Addr) (as : List Addr) (n : Nat) (row : Nat → List Int) : Prop where
  new : H p = none
  ex : Ex H H'
  at_ : H' p = some (.lst (as.map V.ref))
  nd : as.Nodup
  off : ∀ b ∈ as, H b = none ∧ b ≠ p
  len : as.length = n
  row : ∀ s b, as[s]? = some b → H' b = some (.lst ((row s).map V.int))
theorem srcsOf_nil (s : Int) : srcsOf [] s = [] := rfl
theorem srcsOf_app (a b : List (Int × Int)) (s : Int) : srcsOf (a ++ b) s = srcsOf a s ++ srcsOf b s := by
  unfold srcsOf
  rw [List.filter_append, List.map_append]
theorem srcsOf_one (p : Int × Int) (s : Int) : srcsOf [p] s = if p.2 = s then [p.1] else [] := by
  unfold srcsOf
  by_cases h : p.2 = s
  · rw [if_pos h, List.filter_cons, if_pos (by simpa using h)]
    rfl
  · rw [if_neg h, List.filter_cons, if_neg (by simpa using h)]
    rfl
theorem srcsOf_len (ls : List (Int × Int)) (s : Int) : (srcsOf ls s).length ≤ ls.length := by
  unfold srcsOf
  rw [List.length_map]
  exact List.length_filter_le _ _
end Nw
/-! What draws are made of: a list of three numbers that each draw changes. -/
namespace Nw
open PySem PySem.Spec PyProof.Rows L2
/-- the heap without what stands at p -/
def rm (H : Hp) (p : Addr) : Hp := fun b => if b = p then none else H b
theorem rm_ex {H : Hp} {p : Addr} : Ex (rm H p) H := fun b o h => by
  unfold rm at h
  split at h
  · cases h
  · exact h
theorem rm_at {H : Hp} {p : Addr} : rm H p p = none := if_pos rfl
theorem rm_ne {H : Hp} {p b : Addr} (h : b ≠ p) : rm H p b = H b := if_neg h
theorem ExD.rm {p : Addr} {H H' : Hp} (e : ExD p H H') : Ex (rm H p) (rm H' p) := fun b o h => by
  by_cases n : b = p
  · subst n
    rw [rm_at] at h
    cases h
  · rw [rm_ne n] at h ⊢
    exact e b o n h
theorem Ex.rm {p : Addr} {H H' : Hp} (e : Ex H H') : Ex (rm H p) (rm H' p) := ExD.rm (Ex.d e)
theorem ExD.rfl {p : Addr} {H : Hp} : ExD p H H := fun _ _ _ h => h
theorem ExD.nw {p q : Addr} {H : Hp} {o : HO} (h : H q = none) : ExD p H (upd H q o) := (Ex.nw h).d
theorem ExD.wr {p q : Addr} {H H' : Hp} {o : HO} (e : ExD p H H') (h : H q = none) : ExD p H (upd H' q o) := fun a u n ha => by
  rw [upd_ne (ne_of_none ha h)]
  exact e a u n ha
theorem ExD.put2 {p : Addr} {H H' : Hp} {o : HO} (e : ExD p H H') : ExD p H (upd H' p o) := e.tr ExD.put
/-- what is new stands elsewhere than the purse -/
theorem ExD.fr {p q : Addr} {H H' : Hp} {o : HO} (e : ExD p H H') (hp : H' p = some o) (h : H' q = none) : H q = none := by
  cases z : H q with
  | none => exact Eq.refl _
  | some u =>
    by_cases n : q = p
    · subst n
      rw [hp] at h
      cases h
    · rw [e q u n z] at h
      cases h
structure Purse (H : Hp) (p : Addr) (m : Nat) : Prop where
  ex : ∃ b c e : Int, H p = some (.lst [.int b, .int c, .int e]) ∧ 0 ≤ b ∧ (0 ≤ c ∧ c < 10 ^ 42) ∧ (0 ≤ e ∧ e ≤ (m : Int))
theorem Purse.mono {H : Hp} {p : Addr} {m n : Nat} (h : Purse H p m) (l : m ≤ n) : Purse H p n := by
  obtain ⟨b, c, e, h1, h2, h3, h4⟩ := h.ex
  exact ⟨b, c, e, h1, h2, h3, h4.1, by omega⟩
theorem Purse.up {H H' : Hp} {p : Addr} {m : Nat} (h : Purse H p m) (e : Ex H H') : Purse H' p m := by
  obtain ⟨b, c, d, h1, h2⟩ := h.ex
  exact ⟨b, c, d, e _ _ h1, h2⟩
theorem Purse.off {H : Hp} {p : Addr} {m : Nat} (h : Purse H p m) {q : Addr} (n : H q = none) : q ≠ p := by
  obtain ⟨b, c, d, h1, h2⟩ := h.ex
  intro e
  rw [e, h1] at n
  cases n
theorem Purse.put {H : Hp} {p q : Addr} {m : Nat} {o : HO} (h : Purse H p m) (n : p ≠ q) : Purse (upd H q o) p m := by
  obtain ⟨b, c, d, h1, h2⟩ := h.ex
  exact ⟨b, c, d, by rw [upd_ne n]; exact h1, h2⟩
theorem Purse.fr {p q : Addr} {H H' : Hp} {m : Nat} (e : ExD p H H') (hp : Purse H' p m) (h : H' q = none) : H q = none := by
  obtain ⟨b, c, d, h1, _⟩ := hp.ex
  exact e.fr h1 h
/-- a remainder by a positive number -/
theorem fmod_in {a m : Int} (h : 0 < m) : 0 ≤ a.fmod m ∧ a.fmod m < m := by
  rw [Int.fmod_eq_emod_of_nonneg a (by omega)]
  exact ⟨Int.emod_nonneg a (by omega), Int.emod_lt_of_pos a h⟩
theorem div_in {a m : Int} (h0 : 0 ≤ a) (h : 0 < m) : 0 ≤ a / m := Int.ediv_nonneg h0 (by omega)
theorem pow_lt_of {i : Int} (h0 : 0 ≤ i) (h : i < 10 ^ 60) : i.natAbs < 2 ^ 10000 := by
  have h1 : (10 : Nat) ^ 60 < 2 ^ 10000 := by decide +kernel
  have h2 : i.natAbs < 10 ^ 60 := by omega
  omega
theorem small_div {m : Int} (h : 0 < m) (h2 : m < 1073741824) : CDivW 0 m := wide_div (b := 30) h (by omega) (by omega) (by omega)
theorem great_div {i m : Int} (h : 0 < m) (h2 : m < 1000000000000000000000000000000000000000000000000000000000000) : CDivW i m := wide_div (b := 200) h (by
  have e : (2 : Nat) ^ 200 = 1606938044258990275541962092341162602522202993782792835301376 := by decide +kernel
  rw [e]
  omega) (by omega) (by omega)
theorem small_div' {i m : Int} (h : 0 < m) (h2 : m < 1073741824) : CDivW i m := small_div h h2
end Nw
namespace Nw
open PySem PySem.Spec PyProof.Rows L2
theorem cpow10 {j : Int} (h0 : 0 ≤ j) (h1 : j ≤ 100) : CPowW 10 j := ⟨h0, h1, by
  show (10 : Nat) < 2 ^ 10000
  decide +kernel⟩
theorem cpow3 {i : Int} (h0 : 0 ≤ i) (h : i < 10 ^ 60) : CPowW i 3 := ⟨by decide, by decide, pow_lt_of h0 h⟩
theorem p18 : (10 : Int) ^ Int.toNat 18 = 1000000000000000000 := by decide +kernel
theorem p41 : (10 : Int) ^ Int.toNat 41 = 100000000000000000000000000000000000000000 := by decide +kernel
theorem p42 : (10 : Int) ^ 42 = 1000000000000000000000000000000000000000000 := by decide +kernel
theorem p43 : (10 : Int) ^ Int.toNat 43 = 10000000000000000000000000000000000000000000 := by decide +kernel
theorem p45 : (10 : Int) ^ Int.toNat 45 = 1000000000000000000000000000000000000000000000 := by decide +kernel
theorem p60 : (10 : Int) ^ 60 = 1000000000000000000000000000000000000000000000000000000000000 := by decide +kernel
theorem cube_nn {i : Int} (h : 0 ≤ i) : 0 ≤ i ^ Int.toNat 3 := Int.pow_nonneg h
theorem purse_new {a x k : Int} (hk : 0 ≤ k ∧ k ≤ 63) : 0 ≤ a.fmod (10 ^ Int.toNat 41 + 37) + 90001 * k + 17 ∧ a.fmod (10 ^ Int.toNat 41 + 37) + 90001 * k + 17 < 10 ^ 42 := by
  have h := fmod_in (a := a) (m := 10 ^ Int.toNat 41 + 37) (by rw [p41]; omega)
  rw [p41] at h ⊢
  rw [p42]
  omega
end Nw
namespace Nw
theorem ne41 : (10 : Int) ^ Int.toNat 41 + 37 ≠ 0 := by rw [p41]; decide
theorem ne43 : (10 : Int) ^ Int.toNat 43 + 29 ≠ 0 := by rw [p43]; decide
theorem ne45 : (10 : Int) ^ Int.toNat 45 + 9 ≠ 0 := by rw [p45]; decide
end Nw
/-! Data of webs compared and shown. -/
namespace Nw
open PySem PySem.Spec PyProof.Rows L2
theorem asc_snoc : ∀ {r : List Int} {x : Int}, ascB ltIn r = true → (∀ t ∈ r, t < x) → ascB ltIn (r ++ [x]) = true
  | [], _, _, _ => rfl
  | [a], x, _, h => by
    have := h a (by simp)
    simp [ascB, ltIn, this]
  | a :: b :: r, x, ha, h => by
    simp only [ascB, Bool.and_eq_true] at ha
    have ih := asc_snoc (r := b :: r) (x := x) ha.2 (fun t ht => h t (List.mem_cons_of_mem _ ht))
    simp only [List.cons_append, ascB, Bool.and_eq_true] at ih ⊢
    exact ⟨ha.1, ih⟩
theorem ascP_snoc : ∀ {r : List (Int × Int)} {x : Int × Int}, ascB ltPr r = true → (∀ t ∈ r, ltPr t x = true) → ascB ltPr (r ++ [x]) = true
  | [], _, _, _ => rfl
  | [a], x, _, h => by
    have := h a (by simp)
    simp [ascB, this]
  | a :: b :: r, x, ha, h => by
    simp only [ascB, Bool.and_eq_true] at ha
    have ih := ascP_snoc (r := b :: r) (x := x) ha.2 (fun t ht => h t (List.mem_cons_of_mem _ ht))
    simp only [List.cons_append, ascB, Bool.and_eq_true] at ih ⊢
    exact ⟨ha.1, ih⟩
/-! ### == -/
theorem eqv_ints : ∀ r s : List Int, PyData.eqvAll (r.map PyData.int) (s.map PyData.int) = decide (r = s)
  | [], [] => by simp [PyData.eqvAll]
  | [], _ :: _ => by simp [PyData.eqvAll]
  | _ :: _, [] => by simp [PyData.eqvAll]
  | a :: r, b :: s => by
    simp only [List.map_cons, PyData.eqvAll, eqv_ints r s, PyData.eqv]
    by_cases h : a = b
    · by_cases h2 : r = s <;> simp [h, h2]
    · simp [h]
theorem eqv_dInts (r s : List Int) : PyData.eqv (dInts r) (dInts s) = decide (r = s) := by
  unfold dInts
  simp only [PyData.eqv, eqv_ints]
theorem eqv_dPair (p q : Int × Int) : PyData.eqv (dPair p) (dPair q) = decide (p = q) := by
  obtain ⟨a, b⟩ := p
  obtain ⟨c, d⟩ := q
  unfold dPair
  simp only [PyData.eqv, PyData.eqvAll, Bool.and_true, Prod.mk.injEq]
  by_cases h : a = c <;> by_cases h2 : b = d <;> simp [h, h2]
theorem eqv_pairs : ∀ r s : List (Int × Int), PyData.eqvAll (r.map dPair) (s.map dPair) = decide (r = s)
  | [], [] => by simp [PyData.eqvAll]
  | [], _ :: _ => by simp [PyData.eqvAll]
  | _ :: _, [] => by simp [PyData.eqvAll]
  | a :: r, b :: s => by
    simp only [List.map_cons, PyData.eqvAll, eqv_pairs r s, eqv_dPair]
    by_cases h : a = b
    · by_cases h2 : r = s <;> simp [h, h2]
    · simp [h]
theorem eqv_dPairs (r s : List (Int × Int)) : PyData.eqv (dPairs r) (dPairs s) = decide (r = s) := by
  unfold dPairs
  simp only [PyData.eqv, eqv_pairs]
theorem eqv_rows : ∀ r s : List (List Int), PyData.eqvAll (r.map dInts) (s.map dInts) = decide (r = s)
  | [], [] => by simp [PyData.eqvAll]
  | [], _ :: _ => by simp [PyData.eqvAll]
  | _ :: _, [] => by simp [PyData.eqvAll]
  | a :: r, b :: s => by
    simp only [List.map_cons, PyData.eqvAll, eqv_rows r s, eqv_dInts]
    by_cases h : a = b
    · by_cases h2 : r = s <;> simp [h, h2]
    · simp [h]
theorem eqv_dRows (r s : List (List Int)) : PyData.eqv (dRows r) (dRows s) = decide (r = s) := by
  unfold dRows
  simp only [PyData.eqv, eqv_rows]
theorem eqv_web (u v : Wb) : PyData.eqv u.d v.d = decide (u = v) := by
  obtain ⟨a, b, c⟩ := u
  obtain ⟨d, e, f⟩ := v
  unfold Wb.d
  simp only [PyData.eqv, PyData.eqvAll, eqv_dPairs, eqv_dRows, Bool.and_true, Wb.mk.injEq]
  by_cases h : a = d <;> by_cases h2 : b = e <;> by_cases h3 : c = f <;> simp [h, h2, h3]
/-! ### shape -/
theorem shaped_of {d : PyData} (h : d.canLay0 = true) (h2 : d.depth ≤ 64) : SeqAt.shaped d = true := by
  unfold SeqAt.shaped
  rw [h, decide_eq_true h2]
  rfl
theorem lay_ints : ∀ r : List Int, PyData.canLayAll0 (r.map PyData.int) = true
  | [] => by simp [PyData.canLayAll0]
  | a :: r => by simp [PyData.canLayAll0, PyData.canLay0, lay_ints r]
theorem lay_pairs : ∀ r : List (Int × Int), PyData.canLayAll0 (r.map dPair) = true
  | [] => by simp [PyData.canLayAll0]
  | a :: r => by simp [PyData.canLayAll0, PyData.canLay0, dPair, lay_pairs r]
theorem lay_rows : ∀ r : List (List Int), PyData.canLayAll0 (r.map dInts) = true
  | [] => by simp [PyData.canLayAll0]
  | a :: r => by simp [PyData.canLayAll0, PyData.canLay0, dInts, lay_rows r, lay_ints]
theorem dep_ints : ∀ r : List Int, PyData.depthAll (r.map PyData.int) = 0
  | [] => by simp [PyData.depthAll]
  | a :: r => by simp [PyData.depthAll, PyData.depth, dep_ints r]
theorem dep_pairs : ∀ r : List (Int × Int), PyData.depthAll (r.map dPair) ≤ 1
  | [] => by simp [PyData.depthAll]
  | a :: r => by
    have := dep_pairs r
    simp [PyData.depthAll, PyData.depth, dPair]
    omega
theorem dep_rows : ∀ r : List (List Int), PyData.depthAll (r.map dInts) ≤ 1
  | [] => by simp [PyData.depthAll]
  | a :: r => by
    have := dep_rows r
    simp [PyData.depthAll, PyData.depth, dInts, dep_ints]
    omega
theorem lay_dInts (r : List Int) : (dInts r).canLay0 = true := by simp [dInts, PyData.canLay0, lay_ints]
theorem lay_dPairs (r : List (Int × Int)) : (dPairs r).canLay0 = true := by simp [dPairs, PyData.canLay0, lay_pairs]
theorem lay_dRows (r : List (List Int)) : (dRows r).canLay0 = true := by simp [dRows, PyData.canLay0, lay_rows]
theorem lay_dPair (p : Int × Int) : (dPair p).canLay0 = true := by simp [dPair, PyData.canLay0, PyData.canLayAll0]
theorem lay_web (u : Wb) : u.d.canLay0 = true := by simp [Wb.d, PyData.canLay0, PyData.canLayAll0, lay_dPairs, lay_dRows]
theorem dep_dInts (r : List Int) : (dInts r).depth ≤ 1 := by simp [dInts, PyData.depth, dep_ints]
theorem dep_dPair (p : Int × Int) : (dPair p).depth ≤ 1 := by simp [dPair, PyData.depth, PyData.depthAll]
theorem dep_dPairs (r : List (Int × Int)) : (dPairs r).depth ≤ 2 := by
  have := dep_pairs r
  simp [dPairs, PyData.depth]
  omega
theorem dep_dRows (r : List (List Int)) : (dRows r).depth ≤ 2 := by
  have := dep_rows r
  simp [dRows, PyData.depth]
  omega
theorem dep_web (u : Wb) : u.d.depth ≤ 3 := by
  have h1 := dep_dPairs u.ps
  have h2 := dep_dRows u.ns
  simp [Wb.d, PyData.depth, PyData.depthAll]
  omega
theorem sh_dInts (r : List Int) : SeqAt.shaped (dInts r) = true := shaped_of (lay_dInts r) (by have := dep_dInts r; omega)
theorem sh_dPair (r : Int × Int) : SeqAt.shaped (dPair r) = true := shaped_of (lay_dPair r) (by have := dep_dPair r; omega)
theorem sh_dPairs (r : List (Int × Int)) : SeqAt.shaped (dPairs r) = true := shaped_of (lay_dPairs r) (by have := dep_dPairs r; omega)
theorem sh_dRows (r : List (List Int)) : SeqAt.shaped (dRows r) = true := shaped_of (lay_dRows r) (by have := dep_dRows r; omega)
theorem sh_web (u : Wb) : SeqAt.shaped u.d = true := shaped_of (lay_web u) (by have := dep_web u; omega)
theorem nd_of_lay {d : PyData} (h : d.canLay0 = true) : d.hasDict = false := PyData.hasDict_of_canLay d h
section
variable {K : PySem.W.Frag} {H : Hp}
theorem Da.dInts {r : List Int} {v : V} (h : Da K H (dInts r) v) : Dp K H v (dInts r) := h.dp _ _ (nd_of_lay (lay_dInts r))
theorem Da.dPairs {r : List (Int × Int)} {v : V} (h : Da K H (dPairs r) v) : Dp K H v (dPairs r) := h.dp _ _ (nd_of_lay (lay_dPairs r))
theorem Da.dPair {r : Int × Int} {v : V} (h : Da K H (dPair r) v) : Dp K H v (dPair r) := h.dp _ _ (nd_of_lay (lay_dPair r))
theorem Da.dRows {r : List (List Int)} {v : V} (h : Da K H (dRows r) v) : Dp K H v (dRows r) := h.dp _ _ (nd_of_lay (lay_dRows r))
theorem Da.web {u : Wb} {v : V} (h : Da K H u.d v) : Dp K H v u.d := h.dp _ _ (nd_of_lay (lay_web u))
/-- a == b, a != b of lists of ints .. as the readings ask -/
theorem eqD_of {d e : PyData} {x y : V} {Q : VK} (hd : Dp K H x d) (he : Dp K H y e) (sd : SeqAt.shaped d = true) (se : SeqAt.shaped e = true) (q : Q (.bl (PyData.eqv d e)) H) : rEqD K x y H Q := ⟨d, e, hd, he, sd, se, q⟩
end
end Nw
namespace Nw
open PySem PySem.Spec PyProof.Rows L2
theorem ex_rm1 {H H' : Hp} {p : Addr} (h : ∀ b o, b ≠ p → H b = some o → H' b = some o) : Ex (rm H p) (rm H' p) := ExD.rm h
theorem ex_rm2 {H H' : Hp} {p q : Addr} (h : ∀ b o, b ≠ p → b ≠ q → H b = some o → H' b = some o) : Ex (rm (rm H p) q) (rm (rm H' p) q) :=
  ExD.rm fun b o n e => by
    by_cases n2 : b = p
    · subst n2
      rw [rm_at] at e
      cases e
    · rw [rm_ne n2] at e ⊢
      exact h b o n2 n e
theorem ex_rm3 {H H' : Hp} {p q r : Addr} (h : ∀ b o, b ≠ p → b ≠ q → b ≠ r → H b = some o → H' b = some o) : Ex (rm (rm (rm H p) q) r) (rm (rm (rm H' p) q) r) :=
  ExD.rm fun b o n e => by
    by_cases n2 : b = q
    · subst n2
      rw [rm_at] at e
      cases e
    · rw [rm_ne n2] at e ⊢
      by_cases n3 : b = p
      · subst n3
        rw [rm_at] at e
        cases e
      · rw [rm_ne n3] at e ⊢
        exact h b o n3 n2 n e
theorem asc_app : ∀ {a b : List (Int × Int)}, ascB ltPr a = true → ascB ltPr b = true → (∀ x ∈ a, ∀ y ∈ b, ltPr x y = true) → ascB ltPr (a ++ b) = true
  | [], _, _, hb, _ => hb
  | [x], [], _, _, _ => rfl
  | [x], y :: b, _, hb, h => by
    show (ltPr x y && ascB ltPr (y :: b)) = true
    rw [hb, h x (by simp) y (by simp)]
    rfl
  | x :: z :: a, b, ha, hb, h => by
    simp only [ascB, Bool.and_eq_true] at ha
    have ih := asc_app (a := z :: a) ha.2 hb (fun x hx => h x (List.mem_cons_of_mem _ hx))
    show (ltPr x z && ascB ltPr (z :: a ++ b)) = true
    rw [ha.1, ih]
    rfl
end Nw
namespace Nw
open PySem PySem.Spec PyProof.Rows L2
theorem rowOf_none {ls : List (Int × Int)} {s : Int} (h : ∀ l ∈ ls, l.1 ≠ s) : rowOf ls s = [] := by
  unfold rowOf
  rw [List.filter_eq_nil_iff.mpr (fun l hl => by simpa using h l hl)]
  rfl
theorem rowOf_pushedAt (n : Int) (i : Nat) (r : List Int) : rowOf (pushedAt n i r) (n + (i : Int)) = r := by
  unfold rowOf pushedAt
  rw [List.filter_eq_self.mpr]
  · rw [List.map_map]
    exact List.map_id _
  · intro l hl
    obtain ⟨t, _, rfl⟩ := List.mem_map.mp hl
    simp
/-- a quantity's row: from the pairs alone -/
theorem row_low {u : Wb} (h : u.Ok) {s : Int} (hs : s < u.n) : rowOf u.lines s = rowOf u.ps s := by
  unfold Wb.lines
  rw [rowOf_app, rowOf_none (ls := pushedFrom u.n 0 u.ns), List.append_nil]
  intro l hl
  have := pushed_ok (fun r hr => (h.ns r hr).2.1) l hl
  omega
theorem row_push {n : Int} {m : Int} : ∀ {rs : List (List Int)} {i k : Nat} {r : List Int}, (∀ r ∈ rs, ∀ t ∈ r, 0 ≤ t ∧ t < m) → rs[k]? = some r →
    rowOf (pushedFrom n i rs) (n + (i : Int) + (k : Int)) = r
  | [], _, _, _, _, e => by simp at e
  | a :: rs, i, 0, r, h, e => by
    obtain rfl : a = r := by simpa using e
    simp only [pushedFrom]
    rw [rowOf_app, show n + (i : Int) + ((0 : Nat) : Int) = n + (i : Int) by omega, rowOf_pushedAt, rowOf_none, List.append_nil]
    intro l hl
    have := pushed_ok (fun z hz => h z (List.mem_cons_of_mem _ hz)) l hl
    omega
  | a :: rs, i, k + 1, r, h, e => by
    simp only [pushedFrom]
    rw [rowOf_app, rowOf_none, List.nil_append]
    · have ih := row_push (n := n) (i := i + 1) (k := k) (r := r) (fun z hz => h z (List.mem_cons_of_mem _ hz)) (by simpa using e)
      rw [show n + (i : Int) + ((k + 1 : Nat) : Int) = n + ((i + 1 : Nat) : Int) + (k : Int) by omega]
      exact ih
    · intro l hl
      obtain ⟨t, _, rfl⟩ := List.mem_map.mp hl
      simp only
      omega
/-- a nudge's row -/
theorem row_high {u : Wb} (h : u.Ok) {k : Nat} {r : List Int} (hr : u.ns[k]? = some r) {s : Int} (hs : s = u.n + (k : Int)) : rowOf u.lines s = r := by
  subst hs
  unfold Wb.lines
  rw [rowOf_app, rowOf_none (ls := u.ps), List.nil_append]
  · have := row_push (n := u.n) (i := 0) (k := k) (fun r hr => (h.ns r hr).2.1) hr
    rw [show u.n + ((0 : Nat) : Int) + (k : Int) = u.n + (k : Int) by omega] at this
    exact this
  · intro l hl
    have := h.ps l hl
    omega
end Nw
/-! Data of webs shown, lines grouped and sorted. -/
namespace Nw
open PySem PySem.Spec PyProof.Rows L2
theorem short_small : ∀ n : Fin 64, ((PyData.shown (.int (n.val : Int))).length ≤ 8 ∧ (((n.val : Int)).natAbs.log2 < 1920) ∧ PyData.weight (.int (n.val : Int)) ≤ 6) := by decide +kernel
theorem short_int {i : Int} (h0 : 0 ≤ i) (h1 : i < 64) : (PyData.shown (.int i)).length ≤ 8 ∧ i.natAbs.log2 < 1920 ∧ PyData.weight (.int i) ≤ 6 := by
  have h := short_small ⟨i.toNat, by omega⟩
  simp only [Int.toNat_of_nonneg h0] at h
  exact h
abbrev Sm (i : Int) : Prop := 0 ≤ i ∧ i < 64
theorem sm_ints : ∀ {r : List Int}, (∀ t ∈ r, Sm t) → PyData.leavesShortAll 8 (r.map PyData.int) = true ∧ PyData.showableAll (r.map PyData.int) = true ∧ PyData.weightAll (r.map PyData.int) ≤ 7 * r.length
  | [], _ => by simp [PyData.leavesShortAll, PyData.showableAll, PyData.weightAll]
  | a :: r, h => by
    obtain ⟨h1, h2, h3⟩ := sm_ints (r := r) fun t ht => h t (List.mem_cons_of_mem _ ht)
    obtain ⟨s1, s2⟩ := h a (by simp)
    obtain ⟨g1, g2, g5⟩ := short_int s1 s2
    refine ⟨?_, ?_, ?_⟩
    · simp only [List.map_cons, PyData.leavesShortAll, PyData.leavesShort, h1, Bool.and_true, decide_eq_true_eq]
      exact g1
    · simp only [List.map_cons, PyData.showableAll, PyData.showable, h2, Bool.and_true, decide_eq_true_eq]
      exact g2
    · simp only [List.map_cons, PyData.weightAll, List.length_cons]
      omega
theorem sm_pairs : ∀ {r : List (Int × Int)}, (∀ t ∈ r, Sm t.1 ∧ Sm t.2) → PyData.leavesShortAll 8 (r.map dPair) = true ∧ PyData.showableAll (r.map dPair) = true ∧ PyData.weightAll (r.map dPair) ≤ 16 * r.length
  | [], _ => by simp [PyData.leavesShortAll, PyData.showableAll, PyData.weightAll]
  | a :: r, h => by
    obtain ⟨h1, h2, h3⟩ := sm_pairs (r := r) fun t ht => h t (List.mem_cons_of_mem _ ht)
    obtain ⟨s1, s2⟩ := h a (by simp)
    obtain ⟨g1, g2, g5⟩ := short_int s1.1 s1.2
    obtain ⟨g3, g4, g6⟩ := short_int s2.1 s2.2
    refine ⟨?_, ?_, ?_⟩
    · simp only [List.map_cons, dPair, PyData.leavesShortAll, PyData.leavesShort, h1, Bool.and_true, decide_eq_true_eq, Bool.and_eq_true]
      exact ⟨g1, g3⟩
    · simp only [List.map_cons, dPair, PyData.showableAll, PyData.showable, h2, Bool.and_true, decide_eq_true_eq, Bool.and_eq_true]
      exact ⟨g2, g4⟩
    · have e : PyData.weight (dPair a) = PyData.weight (.int a.1) + 1 + (PyData.weight (.int a.2) + 1 + 0) := by
        simp only [dPair, PyData.weight, PyData.weightAll]
      simp only [List.map_cons, PyData.weightAll, List.length_cons]
      omega
/-- what repr of a list of small ints asks -/
theorem show_ints {r : List Int} (hs : ∀ t ∈ r, Sm t) (hz : r.length ≤ 30000) : (dInts r).showable = true ∧ (dInts r).shown.length ≤ sizeLine ∧ (dInts r).depth ≤ 60 := by
  obtain ⟨h1, h2, h3⟩ := sm_ints hs
  refine ⟨?_, ?_, ?_⟩
  · simp only [dInts, PyData.showable, h2]
  · refine PyData.shown_fits (B := 8) (by omega) (by omega) ?_ ?_
    · simp only [dInts, PyData.leavesShort, h1]
    · simp only [dInts, PyData.weight]
      omega
  · have := dep_dInts r
    omega
/-- what repr of a list of pairs of small ints asks -/
theorem show_pairs {r : List (Int × Int)} (hs : ∀ t ∈ r, Sm t.1 ∧ Sm t.2) (hz : r.length ≤ 30000) : (dPairs r).showable = true ∧ (dPairs r).shown.length ≤ sizeLine ∧ (dPairs r).depth ≤ 60 := by
  obtain ⟨h1, h2, h3⟩ := sm_pairs hs
  refine ⟨?_, ?_, ?_⟩
  · simp only [dPairs, PyData.showable, h2]
  · refine PyData.shown_fits (B := 8) (by omega) (by omega) ?_ ?_
    · simp only [dPairs, PyData.leavesShort, h1]
    · simp only [dPairs, PyData.weight]
      omega
  · have := dep_dPairs r
    omega
/-! ### lines grouped -/
theorem asc_tail : ∀ {p : Int × Int} {r : List (Int × Int)}, ascB ltPr (p :: r) = true → (∀ q ∈ r, ltPr p q = true) ∧ ascB ltPr r = true
  | p, [], _ => ⟨fun q hq => (by cases hq), rfl⟩
  | p, q :: r, h => by
    simp only [ascB, Bool.and_eq_true] at h
    obtain ⟨h1, h2⟩ := asc_tail (p := q) (r := r) h.2
    refine ⟨fun z hz => ?_, h.2⟩
    rcases List.mem_cons.mp hz with rfl | hz
    · exact h.1
    · have a := ltPr_iff.mp h.1
      have b := ltPr_iff.mp (h1 z hz)
      refine ltPr_iff.mpr ?_
      omega
/-- rising lines, those of the first k sources -/
def upTo (ls : List (Int × Int)) (k : Int) : List (Int × Int) := ls.filter fun l => decide (l.1 < k)
theorem upTo_step : ∀ {ls : List (Int × Int)} (k : Int), ascB ltPr ls = true → upTo ls (k + 1) = upTo ls k ++ (rowOf ls k).map fun t => (k, t)
  | [], k, _ => rfl
  | p :: r, k, h => by
    obtain ⟨h1, h2⟩ := asc_tail h
    have ih := upTo_step (ls := r) k h2
    unfold upTo rowOf at ih ⊢
    by_cases a : p.1 < k
    · rw [List.filter_cons_of_pos (p := fun l : Int × Int => decide (l.1 < k + 1)) (by simp; omega), List.filter_cons_of_pos (p := fun l : Int × Int => decide (l.1 < k)) (by simpa using a),
        List.filter_cons_of_neg (p := fun l : Int × Int => l.1 == k) (by simp; omega), ih]
      rfl
    · have e0 : r.filter (fun l => decide (l.1 < k)) = [] := by
        refine List.filter_eq_nil_iff.mpr fun q hq => ?_
        have := ltPr_iff.mp (h1 q hq)
        simp
        omega
      rw [e0, List.nil_append] at ih
      rw [List.filter_cons_of_neg (p := fun l : Int × Int => decide (l.1 < k)) (by simpa using a), e0, List.nil_append]
      by_cases b : p.1 = k
      · rw [List.filter_cons_of_pos (p := fun l : Int × Int => decide (l.1 < k + 1)) (by simp; omega), List.filter_cons_of_pos (p := fun l : Int × Int => l.1 == k) (by simpa using b), ih, List.map_cons, List.map_cons]
        rw [← b]
      · rw [List.filter_cons_of_neg (p := fun l : Int × Int => decide (l.1 < k + 1)) (by simp; omega), List.filter_cons_of_neg (p := fun l : Int × Int => l.1 == k) (by simpa using b), ih]
theorem upTo_none {ls : List (Int × Int)} {k : Int} (h : ∀ l ∈ ls, k ≤ l.1) : upTo ls k = [] :=
  List.filter_eq_nil_iff.mpr fun l hl => by
    have := h l hl
    simp
    omega
theorem upTo_all {ls : List (Int × Int)} {k : Int} (h : ∀ l ∈ ls, l.1 < k) : upTo ls k = ls :=
  List.filter_eq_self.mpr fun l hl => by
    have := h l hl
    simp
    omega
theorem asc_pushedAt {n : Int} {i : Nat} : ∀ {r : List Int}, ascB ltIn r = true → ascB ltPr (pushedAt n i r) = true
  | [], _ => rfl
  | [x], _ => rfl
  | x :: y :: r, h => by
    simp only [ascB, Bool.and_eq_true, ltIn, decide_eq_true_eq] at h
    have ih := asc_pushedAt (n := n) (i := i) (r := y :: r) h.2
    unfold pushedAt at ih ⊢
    simp only [List.map_cons, ascB, Bool.and_eq_true] at ih ⊢
    exact ⟨ltPr_iff.mpr (.inr ⟨rfl, h.1⟩), ih⟩
theorem asc_pushed {n m : Int} : ∀ {rs : List (List Int)} {i : Nat}, (∀ r ∈ rs, (∀ t ∈ r, 0 ≤ t ∧ t < m) ∧ ascB ltIn r = true) → ascB ltPr (pushedFrom n i rs) = true
  | [], _, _ => rfl
  | r :: rs, i, h => by
    simp only [pushedFrom]
    refine asc_app (asc_pushedAt (h r (by simp)).2) (asc_pushed fun z hz => h z (List.mem_cons_of_mem _ hz)) ?_
    intro x hx y hy
    obtain ⟨t, _, rfl⟩ := List.mem_map.mp hx
    have := pushed_ok (fun z hz => (h z (List.mem_cons_of_mem _ hz)).1) y hy
    refine ltPr_iff.mpr (.inl ?_)
    simp only
    omega
theorem Wb.Ok.lines_asc {u : Wb} (h : u.Ok) : ascB ltPr u.lines = true := by
  refine asc_app h.asc (asc_pushed fun r hr => (h.ns r hr).2) ?_
  intro x hx y hy
  have a := h.ps x hx
  have b := pushed_ok (fun r hr => (h.ns r hr).2.1) y hy
  refine ltPr_iff.mpr (.inl ?_)
  omega
theorem Wb.Ok.sm {u : Wb} (h : u.Ok) : ∀ l ∈ u.lines, Sm l.1 ∧ Sm l.2 := by
  intro l hl
  have a := h.line l hl
  have b := h.hi
  have c := h.few
  refine ⟨⟨a.1.1, by omega⟩, ⟨a.2.1, by omega⟩⟩
theorem Wb.Ok.sm_row {u : Wb} (h : u.Ok) (s : Int) : ∀ t ∈ rowOf u.lines s, Sm t := by
  intro t ht
  obtain ⟨l, hl, rfl⟩ := List.mem_map.mp ht
  exact (h.sm l (List.mem_filter.mp hl).1).2
theorem Wb.Ok.sm_srcs {u : Wb} (h : u.Ok) (s : Int) : ∀ t ∈ srcsOf u.lines s, Sm t := by
  intro t ht
  obtain ⟨l, hl, rfl⟩ := List.mem_map.mp ht
  exact (h.sm l (List.mem_filter.mp hl).1).1
theorem srcs_len (ls : List (Int × Int)) (s : Int) : (srcsOf ls s).length ≤ ls.length := by
  unfold srcsOf
  rw [List.length_map]
  exact List.length_filter_le _ _
/-! ### sorted -/
/-- the two ints of a pair that is known -/
def keyOf (H : Hp) : V → Int × Int
  | .ref t => match H t with
    | some (.tup [.int a, .int b]) => (a, b)
    | _ => (0, 0)
  | _ => (0, 0)
theorem keyOf_at {H : Hp} {t : Addr} {p : Int × Int} (h : H t = some (.tup [.int p.1, .int p.2])) : keyOf H (.ref t) = p := by
  unfold keyOf
  simp only [h]
theorem keys_of {K : PySem.W.Frag} {H : Hp} : ∀ {L : List (Int × Int)} {xs : List V}, DaAll K H (L.map dPair) xs → (∀ x ∈ xs, ∃ t, x = V.ref t ∧ H t = some (.tup [.int (keyOf H x).1, .int (keyOf H x).2])) ∧ xs.map (keyOf H) = L
  | [], xs, h => by
    obtain rfl : xs = [] := h
    exact ⟨fun x hx => (by cases hx), rfl⟩
  | p :: L, xs, h => by
    obtain ⟨x, xs, rfl, ⟨a, ys, rfl, hS, z1, r1, rfl, e1, z2, r2, rfl, e2, rfl⟩, h2⟩ := h
    obtain rfl := e1
    obtain rfl := e2
    obtain ⟨g1, g2⟩ := keys_of h2
    have e := keyOf_at hS
    refine ⟨fun x hx => ?_, by rw [List.map_cons, e, g2]⟩
    rcases List.mem_cons.mp hx with rfl | hx
    · exact ⟨a, rfl, by rw [e]; exact hS⟩
    · exact g1 x hx
theorem srtd_of {k : V → Int × Int} : ∀ {xs : List V}, ascB ltPr (xs.map k) = true → SrtO.Srtd (ltP k) xs
  | [], _ => List.Pairwise.nil
  | x :: xs, h => by
    obtain ⟨h1, h2⟩ := asc_tail (p := k x) (r := xs.map k) h
    refine List.Pairwise.cons (fun y hy => ?_) (srtd_of h2)
    have a := ltPr_iff.mp (h1 (k y) (List.mem_map.mpr ⟨y, hy, rfl⟩))
    refine SrtO.lexB_no.mpr ?_
    omega
/-- sorted of what is sorted -/
theorem sorted_same {K : PySem.W.Frag} {H : Hp} {a : Addr} {xs : List V} {L : List (Int × Int)} {Q : VK} (hS : SqL K H a xs) (hA : DaAll K H (L.map dPair) xs) (ha : ascB ltPr L = true)
    (q : ∀ p, H p = none → Q (.ref p) (upd H p (.lst xs))) : rSortedPO K [.ref a] H Q := by
  obtain ⟨h1, h2⟩ := keys_of hA
  refine ⟨a, xs, keyOf H, rfl, hS, h1, fun ys p s1 s2 hp => ?_⟩
  have s3 : SrtO.Srtd (ltP (keyOf H)) xs := srtd_of (by rw [h2]; exact ha)
  rw [SrtO.stb_uniq (ltP_swo (keyOf H)) s1 s3 s2]
  exact q p hp
/-- pairs outlast what is done to a list -/
theorem pairs_wr {K : PySem.W.Frag} {H : Hp} {D : Addr} {ys : List V} {o : HO} (hD : H D = some (.lst ys)) : ∀ {L : List (Int × Int)} {acc : List V}, DaAll K H (L.map dPair) acc → DaAll K (upd H D o) (L.map dPair) acc
  | [], _, h => h
  | p :: L, acc, h => by
    obtain ⟨x, xs, rfl, ⟨a, zs, rfl, hS, z1, r1, rfl, e1, z2, r2, rfl, e2, rfl⟩, h2⟩ := h
    obtain rfl := e1
    obtain rfl := e2
    refine ⟨_, _, rfl, dPair_of ?_, pairs_wr hD h2⟩
    rw [upd_ne (fun e => by rw [e, hD] at hS; cases hS)]
    exact hS
end Nw
/-! How long data is when shown: by the number of its nodes and the longest leaf. -/
namespace Nw
open PySem PySem.Spec PyProof.Rows L2
mutual
/-- each leaf's text has at most B signs -/
def lf (B : Nat) : PyData → Bool
  | .none | .bool _ => true
  | .int i => decide ((PyData.shown (.int i)).length ≤ B)
  | .str x => decide ((PyData.shown (.str x)).length ≤ B)
  | .list xs | .tuple xs => lfAll B xs
  | .dict kvs => lfKv B kvs
def lfAll (B : Nat) : List PyData → Bool
  | [] => true
  | x :: xs => lf B x && lfAll B xs
def lfKv (B : Nat) : List (PyData × PyData) → Bool
  | [] => true
  | (k, v) :: r => lf B k && lf B v && lfKv B r
end
mutual
def nodes : PyData → Nat
  | .none | .bool _ | .int _ | .str _ => 1
  | .list xs | .tuple xs => 1 + nodesAll xs
  | .dict kvs => 1 + nodesKv kvs
def nodesAll : List PyData → Nat
  | [] => 0
  | x :: xs => nodes x + nodesAll xs
def nodesKv : List (PyData × PyData) → Nat
  | [] => 0
  | (k, v) :: r => nodes k + nodes v + nodesKv r
end
mutual
theorem len_lf (B : Nat) (hB : 8 ≤ B) : ∀ d : PyData, lf B d = true → d.shown.length + 4 ≤ (B + 4) * nodes d
  | .none, _ => by
    have e : (PyData.shown .none).length = 4 := rfl
    simp only [nodes]
    omega
  | .bool b, _ => by
    have e : (PyData.shown (.bool b)).length ≤ 5 := by cases b <;> decide
    simp only [nodes]
    omega
  | .int i, h => by
    have e : (PyData.shown (.int i)).length ≤ B := by simpa only [lf, decide_eq_true_eq] using h
    simp only [nodes]
    omega
  | .str x, h => by
    have e : (PyData.shown (.str x)).length ≤ B := by simpa only [lf, decide_eq_true_eq] using h
    simp only [nodes]
    omega
  | .list xs, h => by
    have h1 := len_lfAll B hB xs (by simpa only [lf] using h)
    have h2 := listText_len_le (PyData.shownAll xs)
    have h3 := PyData.shownAll_length xs
    simp only [PyData.shown, nodes]
    rw [Nat.mul_add]
    omega
  | .tuple xs, h => by
    have h1 := len_lfAll B hB xs (by simpa only [lf] using h)
    have h2 := tupleText_len_le (PyData.shownAll xs)
    have h3 := PyData.shownAll_length xs
    simp only [PyData.shown, nodes]
    rw [Nat.mul_add]
    omega
  | .dict kvs, h => by
    have h1 := len_lfKv B hB kvs (by simpa only [lf] using h)
    have h2 := dictText_len_le (PyData.shownKv kvs)
    have h3 := PyData.shownKv_length kvs
    simp only [PyData.shown, nodes]
    rw [Nat.mul_add]
    omega
theorem len_lfAll (B : Nat) (hB : 8 ≤ B) : ∀ xs : List PyData, lfAll B xs = true → ((PyData.shownAll xs).map (·.length)).sum + 4 * xs.length ≤ (B + 4) * nodesAll xs
  | [], _ => by
    simp only [PyData.shownAll, nodesAll, List.map_nil, List.sum_nil, List.length_nil]
    omega
  | x :: xs, h => by
    have h' : lf B x = true ∧ lfAll B xs = true := by simpa only [lfAll, Bool.and_eq_true] using h
    have h1 := len_lf B hB x h'.1
    have h2 := len_lfAll B hB xs h'.2
    have h3 := Nat.mul_add (B + 4) (nodes x) (nodesAll xs)
    simp only [PyData.shownAll, nodesAll, List.map_cons, List.sum_cons, List.length_cons]
    omega
theorem len_lfKv (B : Nat) (hB : 8 ≤ B) : ∀ kvs : List (PyData × PyData), lfKv B kvs = true → ((PyData.shownKv kvs).map (·.length)).sum + 2 * kvs.length ≤ (B + 4) * nodesKv kvs
  | [], _ => by
    simp only [PyData.shownKv, nodesKv, List.map_nil, List.sum_nil, List.length_nil]
    omega
  | (k, v) :: r, h => by
    have h' : (lf B k = true ∧ lf B v = true) ∧ lfKv B r = true := by simpa only [lfKv, Bool.and_eq_true] using h
    have h1 := len_lf B hB k h'.1.1
    have h2 := len_lf B hB v h'.1.2
    have h3 := len_lfKv B hB r h'.2
    have e2 : (k.shown ++ ": " ++ v.shown).length = k.shown.length + 2 + v.shown.length := by
      rw [strLen_append, strLen_append]
      rfl
    have h5 := Nat.mul_add (B + 4) (nodes k + nodes v) (nodesKv r)
    have h6 := Nat.mul_add (B + 4) (nodes k) (nodes v)
    simp only [PyData.shownKv, nodesKv, List.map_cons, List.sum_cons, List.length_cons]
    rw [e2]
    omega
end
theorem fits_lf {B n : Nat} (hB : 8 ≤ B) {d : PyData} (h : lf B d = true) (hn : nodes d ≤ n) (hz : (B + 4) * n ≤ 16000000) : d.shown.length ≤ sizeLine := by
  have h1 := len_lf B hB d h
  have h2 := Nat.mul_le_mul_left (B + 4) hn
  rw [sizeLine_eq]
  omega
theorem lf_int {i : Int} {k : Nat} (hk : 0 < k) (h : i.natAbs < 10 ^ k) : lf (k + 1) (.int i) = true := by
  simp only [lf, decide_eq_true_eq]
  have e := int_text_length_le10 hk h
  show (Str.ofString (toString i)).length ≤ k + 1
  rw [PySem.ofString_length]
  exact e
theorem lfAll_of {B : Nat} : ∀ {xs : List PyData}, (∀ x ∈ xs, lf B x = true) → lfAll B xs = true
  | [], _ => rfl
  | x :: xs, h => by
    simp only [lfAll, h x (by simp), lfAll_of fun y hy => h y (List.mem_cons_of_mem _ hy), Bool.and_self]
theorem showAll_of : ∀ {xs : List PyData}, (∀ x ∈ xs, x.showable = true) → PyData.showableAll xs = true
  | [], _ => rfl
  | x :: xs, h => by
    simp only [PyData.showableAll, h x (by simp), showAll_of fun y hy => h y (List.mem_cons_of_mem _ hy), Bool.and_self]
theorem nodesAll_of {n : Nat} : ∀ {xs : List PyData}, (∀ x ∈ xs, nodes x ≤ n) → nodesAll xs ≤ n * xs.length
  | [], _ => by simp [nodesAll]
  | x :: xs, h => by
    have h1 := h x (by simp)
    have h2 := nodesAll_of fun y hy => h y (List.mem_cons_of_mem _ hy)
    simp only [nodesAll, List.length_cons, Nat.mul_succ]
    omega
theorem depthAll_of {n : Nat} : ∀ {xs : List PyData}, (∀ x ∈ xs, x.depth ≤ n) → PyData.depthAll xs ≤ n
  | [], _ => by simp [PyData.depthAll]
  | x :: xs, h => by
    have h1 := h x (by simp)
    have h2 := depthAll_of fun y hy => h y (List.mem_cons_of_mem _ hy)
    simp only [PyData.depthAll]
    omega
/-- what repr asks: shown in a few leaves -/
structure Sh (B n k : Nat) (d : PyData) : Prop where
  s : d.showable = true
  l : lf B d = true
  n : nodes d ≤ n
  k : d.depth ≤ k
theorem Sh.fit {B n k : Nat} {d : PyData} (h : Sh B n k d) (hB : 8 ≤ B) (hz : (B + 4) * n ≤ 16000000) : d.shown.length ≤ sizeLine := fits_lf hB h.l h.n hz
theorem Sh.list {B n k m : Nat} {xs : List PyData} (h : ∀ x ∈ xs, Sh B n k x) (hm : xs.length ≤ m) : Sh B (1 + n * m) (k + 1) (.list xs) := by
  refine ⟨?_, ?_, ?_, ?_⟩
  · simp only [PyData.showable, showAll_of fun x hx => (h x hx).s]
  · simp only [lf, lfAll_of fun x hx => (h x hx).l]
  · have h1 := nodesAll_of fun x hx => (h x hx).n
    have h2 := Nat.mul_le_mul_left n hm
    simp only [nodes]
    omega
  · have h1 := depthAll_of fun x hx => (h x hx).k
    simp only [PyData.depth]
    omega
theorem Sh.tuple {B n k m : Nat} {xs : List PyData} (h : ∀ x ∈ xs, Sh B n k x) (hm : xs.length ≤ m) : Sh B (1 + n * m) (k + 1) (.tuple xs) := by
  refine ⟨?_, ?_, ?_, ?_⟩
  · simp only [PyData.showable, showAll_of fun x hx => (h x hx).s]
  · simp only [lf, lfAll_of fun x hx => (h x hx).l]
  · have h1 := nodesAll_of fun x hx => (h x hx).n
    have h2 := Nat.mul_le_mul_left n hm
    simp only [nodes]
    omega
  · have h1 := depthAll_of fun x hx => (h x hx).k
    simp only [PyData.depth]
    omega
theorem Sh.mono {B C n m k j : Nat} {d : PyData} (h : Sh B n k d) (hn : n ≤ m) (hk : k ≤ j) : Sh B m j d := ⟨h.s, h.l, Nat.le_trans h.n hn, Nat.le_trans h.k hk⟩
theorem Sh.int {i : Int} {k : Nat} (hk : 0 < k) (h2 : i.natAbs < 2 ^ 1920) (h : i.natAbs < 10 ^ k) : Sh (k + 1) 1 0 (.int i) := by
  refine ⟨?_, lf_int hk h, by simp only [nodes]; omega, by simp only [PyData.depth]; omega⟩
  simp only [PyData.showable, decide_eq_true_eq]
  by_cases hne : i.natAbs = 0
  · rw [hne]
    decide
  · exact (Nat.log2_lt hne).mpr h2
end Nw
/-! Webs turned and renumbered. -/
namespace Nw
open PySem PySem.Spec PyProof.Rows L2
section
variable {X : Cx}
theorem mt_indexK (K : PySem.W.Frag) (hK : X.K = K := by rfl) : MtR X "list.index" (rIndex K) := by
  subst hK
  exact mt_index
theorem bmK (K : PySem.W.Frag) {T : String} {r : V → List V → Hp → VK → Prop} {to : TE} {t : TA} {e : Expr} (h : PE X e (tBM X.K T r to t)) (hK : X.K = K := by rfl) : PE X e (tBM K T r to t) := by
  subst hK
  exact h
theorem pe_dgetK {k : Nat} {o i : Expr} {td ty : TE} {pos : Pos} (hr : Room k X.A) (ho : PE X o td) (hi : PE X i ty) (hs : NoSl i) : PE X (.Subscript o i pos) (tDGet td ty) :=
  pe_dget (by have := hr.un; omega) ho hi hs
end
/-- what a dict comprehension's reading asks -/
theorem dc_by {J : It} {g : TG} {tt : TT} {tk tv : TE} {vs : List Nat} {σ : L2.St} {D : Addr} {H1 : Hp} {Qd : Hp → Prop}
    (n : Nat) (Pv : Nat → Hp → Prop) (h0 : Pv 0 (upd H1 D (.dK [])))
    (hgo : ∀ i H, i < n → Pv i H → J.go i H) (hst : ∀ H, Pv n H → J.stop n H)
    (hs : ∀ i H x H', i < n → Pv i H → J.yld i H x H' → g x (wipe σ vs) H' fun σ2 H2 => wipe σ2 vs = wipe σ vs ∧ tt σ2 H2 fun b H3 =>
      if b = true then tk σ2 H3 fun y H4 => tv σ2 H4 fun z H5 => ∃ kvs k, y = kV k ∧ H5 D = some (.dK kvs) ∧ kvs.length < sizeLine ∧ Pv (i + 1) (upd H5 D (.dK (putK kvs k z))) else Pv (i + 1) H3)
    (hd : ∀ H, Pv n H → Qd H) :
    ∃ W : Nat → Nat → Hp → Prop, (∃ m, W 0 m (upd H1 D (.dK []))) ∧ ∀ i m H, W i m H →
      (J.stop i H ∧ Qd H) ∨ (J.go i H ∧ ∃ Nx : Hp → Prop, (∀ H', Nx H' → ∃ m', m' < m ∧ W (i + 1) m' H') ∧ ∀ x H', J.yld i H x H' → g x (wipe σ vs) H' fun σ2 H2 => wipe σ2 vs = wipe σ vs ∧ tt σ2 H2 fun b H3 =>
        if b = true then tk σ2 H3 fun y H4 => tv σ2 H4 fun z H5 => ∃ kvs k, y = kV k ∧ H5 D = some (.dK kvs) ∧ kvs.length < sizeLine ∧ Nx (upd H5 D (.dK (putK kvs k z))) else Nx H3) := by
  refine ⟨fun i m H => m = n - i ∧ i ≤ n ∧ Pv i H, ⟨n, by omega, Nat.zero_le _, h0⟩, ?_⟩
  rintro i m H ⟨rfl, hi, p⟩
  by_cases hlt : i < n
  · refine .inr ⟨hgo i H hlt p, Pv (i + 1), fun H' p' => ⟨n - (i + 1), by omega, rfl, hlt, p'⟩, ?_⟩
    intro x H' y
    exact hs i H x H' hlt p y
  · have e : i = n := by omega
    subst e
    exact .inl ⟨hst H p, hd H p⟩
/-! ### lists told by their members -/
theorem pw_ext {α : Type} {lt : α → α → Bool} (irr : ∀ x, lt x x = false) (asym : ∀ x y, lt x y = true → lt y x = false) :
    ∀ {a b : List α}, a.Pairwise (fun x y => lt x y = true) → b.Pairwise (fun x y => lt x y = true) → (∀ x, x ∈ a ↔ x ∈ b) → a = b
  | [], [], _, _, _ => rfl
  | [], y :: b, _, _, h => by
    have := (h y).mpr (by simp)
    cases this
  | x :: a, [], _, _, h => by
    have := (h x).mp (by simp)
    cases this
  | x :: a, y :: b, ha, hb, h => by
    obtain ⟨a1, a2⟩ := List.pairwise_cons.mp ha
    obtain ⟨b1, b2⟩ := List.pairwise_cons.mp hb
    have e : x = y := by
      rcases List.mem_cons.mp ((h x).mp (by simp)) with e | hx
      · exact e
      rcases List.mem_cons.mp ((h y).mpr (by simp)) with e | hy
      · exact e.symm
      have z1 := b1 x hx
      have z2 := a1 y hy
      rw [asym _ _ z1] at z2
      cases z2
    subst e
    have nx : ∀ {l : List α}, (∀ z ∈ l, lt x z = true) → x ∉ l := fun hl hx => by
      have := hl x hx
      rw [irr] at this
      cases this
    rw [pw_ext irr asym a2 b2 fun z => ?_]
    constructor
    · intro hz
      rcases List.mem_cons.mp ((h z).mp (List.mem_cons_of_mem _ hz)) with e | hz'
      · subst e
        exact absurd hz (nx a1)
      · exact hz'
    · intro hz
      rcases List.mem_cons.mp ((h z).mpr (List.mem_cons_of_mem _ hz)) with e | hz'
      · subst e
        exact absurd hz (nx b1)
      · exact hz'
theorem ltPr_no {p q : Int × Int} (h : ¬ (p.1 < q.1 ∨ (p.1 = q.1 ∧ p.2 < q.2))) : ltPr p q = false := by
  cases e : ltPr p q with
  | false => rfl
  | true => exact absurd (ltPr_iff.mp e) h
theorem pw_asc : ∀ {l : List (Int × Int)}, ascB ltPr l = true → l.Pairwise fun x y => ltPr x y = true
  | [], _ => List.Pairwise.nil
  | x :: l, h => by
    obtain ⟨h1, h2⟩ := asc_tail h
    exact List.Pairwise.cons h1 (pw_asc h2)
theorem asc_pw {α : Type} {lt : α → α → Bool} : ∀ {l : List α}, l.Pairwise (fun x y => lt x y = true) → ascB lt l = true
  | [], _ => rfl
  | [x], _ => rfl
  | x :: y :: l, h => by
    obtain ⟨h1, h2⟩ := List.pairwise_cons.mp h
    show (lt x y && ascB lt (y :: l)) = true
    rw [h1 y (by simp), asc_pw h2]
    rfl
theorem ascI_tail : ∀ {p : Int} {r : List Int}, ascB ltIn (p :: r) = true → (∀ q ∈ r, ltIn p q = true) ∧ ascB ltIn r = true
  | p, [], _ => ⟨fun q hq => (by cases hq), rfl⟩
  | p, q :: r, h => by
    simp only [ascB, Bool.and_eq_true] at h
    obtain ⟨h1, h2⟩ := ascI_tail (p := q) (r := r) h.2
    refine ⟨fun z hz => ?_, h.2⟩
    rcases List.mem_cons.mp hz with rfl | hz
    · exact h.1
    · have a := of_decide_eq_true h.1
      have b := of_decide_eq_true (h1 z hz)
      exact decide_eq_true (by omega)
theorem pwI_asc : ∀ {l : List Int}, ascB ltIn l = true → l.Pairwise fun x y => ltIn x y = true
  | [], _ => List.Pairwise.nil
  | x :: l, h => by
    obtain ⟨h1, h2⟩ := ascI_tail h
    exact List.Pairwise.cons h1 (pwI_asc h2)
theorem asc_ext {a b : List (Int × Int)} (ha : ascB ltPr a = true) (hb : ascB ltPr b = true) (h : ∀ x, x ∈ a ↔ x ∈ b) : a = b :=
  pw_ext (fun x => ltPr_no (by omega)) (fun x y e => ltPr_no (by have := ltPr_iff.mp e; omega)) (pw_asc ha) (pw_asc hb) h
theorem ltIn_no {p q : Int} (h : ¬ p < q) : ltIn p q = false := by
  unfold ltIn
  exact decide_eq_false h
theorem ltIn_yes {p q : Int} (h : ltIn p q = true) : p < q := by
  unfold ltIn at h
  exact of_decide_eq_true h
theorem ascI_ext {a b : List Int} (ha : ascB ltIn a = true) (hb : ascB ltIn b = true) (h : ∀ x, x ∈ a ↔ x ∈ b) : a = b :=
  pw_ext (fun x => ltIn_no (by omega)) (fun x y e => ltIn_no (by have := ltIn_yes e; omega)) (pwI_asc ha) (pwI_asc hb) h
theorem nodup_asc {l : List (Int × Int)} (h : ascB ltPr l = true) : l.Nodup :=
  (pw_asc h).imp fun {a b} e n => by
    subst n
    have := ltPr_iff.mp e
    omega
theorem nodup_ascI {l : List Int} (h : ascB ltIn l = true) : l.Nodup :=
  (pwI_asc h).imp fun {a b} e n => by
    subst n
    have := of_decide_eq_true e
    omega
/-- sorted ints that are apart -/
theorem asc_sortedI {l m : List Int} (hp : m.Perm l) (hs : m.Pairwise (· ≤ ·)) (hn : l.Nodup) : ascB ltIn m = true := by
  refine asc_pw ?_
  have hm : m.Nodup := hp.nodup_iff.mpr hn
  have := hs.and hm
  exact this.imp fun {a b} h => decide_eq_true (by have := h.1; have := h.2; omega)
/-- sorted pairs that are apart -/
theorem sortedP {K : PySem.W.Frag} {H : Hp} {L : List (Int × Int)} {xs ys : List V} (hA : DaAll K H (L.map dPair) xs) (hn : L.Nodup)
    (s1 : SrtO.Srtd (ltP (keyOf H)) ys) (s2 : SrtO.Stb (ltP (keyOf H)) ys xs) : ∃ M : List (Int × Int), DaAll K H (M.map dPair) ys ∧ ascB ltPr M = true ∧ (∀ p, p ∈ M ↔ p ∈ L) ∧ M.length = L.length := by
  obtain ⟨k1, k2⟩ := keys_of hA
  have hp : (ys.map (keyOf H)).Perm L := by
    rw [← k2]
    exact s2.perm.map _
  refine ⟨ys.map (keyOf H), ?_, ?_, fun p => hp.mem_iff, hp.length_eq⟩
  · have hy : ∀ x ∈ ys, ∃ t, x = V.ref t ∧ H t = some (.tup [.int (keyOf H x).1, .int (keyOf H x).2]) := fun x hx => k1 x (s2.perm.mem_iff.mp hx)
    clear s1 s2 hp
    induction ys with
    | nil => rfl
    | cons y ys ih =>
      obtain ⟨t, rfl, ht⟩ := hy y (by simp)
      exact ⟨_, _, rfl, dPair_of ht, ih fun x hx => hy x (List.mem_cons_of_mem _ hx)⟩
  · have hm : (ys.map (keyOf H)).Nodup := hp.nodup_iff.mpr hn
    have hs : (ys.map (keyOf H)).Pairwise fun x y => SrtO.lexB y x = false := List.pairwise_map.mpr s1
    refine asc_pw ((hs.and hm).imp fun {a b} h => ltPr_iff.mpr ?_)
    have h1 := SrtO.lexB_no.mp h.1
    have h2 : ¬ (a.1 = b.1 ∧ a.2 = b.2) := fun e => h.2 (Prod.ext e.1 e.2)
    omega
/-! ### orders -/
abbrev iota (n : Int) : List Int := (List.range n.toNat).map fun i : Nat => (i : Int)
abbrev IsOrd (n : Int) (o : List Int) : Prop := o.Perm (iota n)
theorem mem_iota {n x : Int} : x ∈ iota n ↔ 0 ≤ x ∧ x < n := by
  constructor
  · intro h
    obtain ⟨i, hi, rfl⟩ := List.mem_map.mp h
    have := List.mem_range.mp hi
    omega
  · rintro ⟨h1, h2⟩
    exact List.mem_map.mpr ⟨x.toNat, List.mem_range.mpr (by omega), by omega⟩
theorem asc_iota_aux : ∀ n : Nat, ((List.range n).map fun i : Nat => (i : Int)).Pairwise fun x y => ltIn x y = true := fun n =>
  List.pairwise_map.mpr (List.pairwise_lt_range.imp fun {a b} h => decide_eq_true (by omega))
theorem asc_iota (n : Int) : ascB ltIn (iota n) = true := asc_pw (asc_iota_aux _)
theorem nodup_iota (n : Int) : (iota n).Nodup := nodup_ascI (asc_iota n)
theorem IsOrd.mem {n : Int} {o : List Int} (h : IsOrd n o) {x : Int} : x ∈ o ↔ 0 ≤ x ∧ x < n := h.mem_iff.trans mem_iota
theorem IsOrd.len {n : Int} {o : List Int} (h : IsOrd n o) : o.length = n.toNat := by
  rw [h.length_eq, List.length_map, List.length_range]
theorem IsOrd.nd {n : Int} {o : List Int} (h : IsOrd n o) : o.Nodup := h.nodup_iff.mpr (nodup_iota n)
/-- the place of a quantity in an order -/
def pl (o : List Int) (q : Int) : Int := (o.idxOf q : Int)
theorem pl_at {o : List Int} (h : o.Nodup) {i : Nat} {q : Int} (e : o[i]? = some q) : pl o q = (i : Int) := by
  obtain ⟨hi, rfl⟩ := List.getElem?_eq_some_iff.mp e
  unfold pl
  rw [h.idxOf_getElem i hi]
theorem pl_get {n : Int} {o : List Int} (h : IsOrd n o) {q : Int} (hq : 0 ≤ q ∧ q < n) : ∃ j : Nat, o[j]? = some q ∧ pl o q = (j : Int) ∧ (j : Int) < n := by
  have hm := h.mem.mpr hq
  have hl := List.idxOf_lt_length_iff.mpr hm
  refine ⟨o.idxOf q, ?_, rfl, ?_⟩
  · rw [List.getElem?_eq_getElem hl, List.getElem_idxOf]
  · have := h.len
    omega
theorem pl_lt {n : Int} {o : List Int} (h : IsOrd n o) {q : Int} (hq : 0 ≤ q ∧ q < n) : 0 ≤ pl o q ∧ pl o q < n := by
  obtain ⟨j, _, e, l⟩ := pl_get h hq
  omega
theorem pl_inj {n : Int} {o : List Int} (h : IsOrd n o) {a b : Int} (ha : 0 ≤ a ∧ a < n) (hb : 0 ≤ b ∧ b < n) (e : pl o a = pl o b) : a = b := by
  obtain ⟨j, g1, e1, _⟩ := pl_get h ha
  obtain ⟨k, g2, e2, _⟩ := pl_get h hb
  have : j = k := by omega
  subst this
  rw [g1] at g2
  exact Option.some.inj g2
theorem iota_at {n : Int} {i : Nat} (h : (i : Int) < n) : (iota n)[i]? = some (i : Int) := by
  rw [List.getElem?_map, List.getElem?_range (by omega)]
  rfl
theorem list_ext_at {α : Type} {a b : List α} (hl : a.length = b.length) (h : ∀ (i : Nat) (x : α), b[i]? = some x → a[i]? = some x) : a = b := by
  refine List.ext_getElem? fun i => ?_
  cases e : b[i]? with
  | some x => exact h i x e
  | none =>
    have := List.getElem?_eq_none_iff.mp e
    exact List.getElem?_eq_none_iff.mpr (by omega)
theorem IsOrd.back {n : Int} {o : List Int} (h : IsOrd n o) : IsOrd n ((iota n).map (pl o)) := by
  have e : o.map (pl o) = iota n := by
    refine list_ext_at (by rw [List.length_map, h.len, List.length_map, List.length_range]) fun i x hx => ?_
    have hi : (i : Int) < n := by
      obtain ⟨hi, _⟩ := List.getElem?_eq_some_iff.mp hx
      rw [List.length_map, List.length_range] at hi
      omega
    rw [iota_at hi] at hx
    obtain rfl := (Option.some.inj hx)
    have hl : i < o.length := by rw [h.len]; omega
    have := List.getElem?_eq_getElem hl
    rw [List.getElem?_map, this, Option.map_some, pl_at h.nd this]
  have p := h.map (pl o)
  rw [e] at p
  exact p.symm
theorem pl_back {n : Int} {o : List Int} (h : IsOrd n o) {q : Int} (hq : 0 ≤ q ∧ q < n) : pl ((iota n).map (pl o)) (pl o q) = q := by
  have e : ((iota n).map (pl o))[q.toNat]? = some (pl o q) := by
    rw [List.getElem?_map, iota_at (by omega), Option.map_some, Int.toNat_of_nonneg hq.1]
  rw [pl_at h.back.nd e, Int.toNat_of_nonneg hq.1]
theorem IsOrd.both {n : Int} {o s : List Int} (h : IsOrd n o) (g : IsOrd n s) : IsOrd n (s.map fun x => o.getD x.toNat 0) := by
  have e : (iota n).map (fun x => o.getD x.toNat 0) = o := by
    refine list_ext_at (by rw [List.length_map, h.len, List.length_map, List.length_range]) fun i x hx => ?_
    have hi : (i : Int) < n := by
      obtain ⟨hi, _⟩ := List.getElem?_eq_some_iff.mp hx
      rw [h.len] at hi
      omega
    rw [List.getElem?_map, iota_at hi, Option.map_some, Int.toNat_natCast, List.getD_eq_getElem?_getD, hx]
    rfl
  have p := g.map fun x => o.getD x.toNat 0
  rw [e] at p
  exact p.trans h
theorem pl_both {n : Int} {o s : List Int} (h : IsOrd n o) (g : IsOrd n s) {q : Int} (hq : 0 ≤ q ∧ q < n) : pl (s.map fun x => o.getD x.toNat 0) q = pl s (pl o q) := by
  obtain ⟨j, g1, e1, l1⟩ := pl_get h hq
  obtain ⟨k, g2, e2, l2⟩ := pl_get g (q := pl o q) (by omega)
  rw [e2]
  refine pl_at (h.both g).nd ?_
  rw [List.getElem?_map, g2, Option.map_some, e1, Int.toNat_natCast, List.getD_eq_getElem?_getD, g1]
  rfl
/-! ### webs renumbered -/
abbrev RowRen (f : Int → Int) (r s : List Int) : Prop := ∀ t, t ∈ s ↔ ∃ q ∈ r, t = f q
structure Ren (f : Int → Int) (u w : Wb) : Prop where
  n : w.n = u.n
  ps : ∀ p, p ∈ w.ps ↔ ∃ q ∈ u.ps, p = (f q.1, f q.2)
  len : w.ns.length = u.ns.length
  ns : ∀ (k : Nat) (r s : List Int), u.ns[k]? = some r → w.ns[k]? = some s → RowRen f r s
theorem Ren.uniq {f : Int → Int} {u w v : Wb} (h : Ren f u w) (g : Ren f u v) (hw : w.Ok) (hv : v.Ok) : w = v := by
  have e1 : w.n = v.n := h.n.trans g.n.symm
  have e2 : w.ps = v.ps := asc_ext hw.asc hv.asc fun x => (h.ps x).trans (g.ps x).symm
  have e3 : w.ns = v.ns := by
    refine list_ext_at (h.len.trans g.len.symm) fun i x hx => ?_
    have hi : i < u.ns.length := by
      obtain ⟨hi, _⟩ := List.getElem?_eq_some_iff.mp hx
      have := g.len
      omega
    have hy := List.getElem?_eq_getElem (l := w.ns) (i := i) (by have := h.len; omega)
    have hr := List.getElem?_eq_getElem hi
    rw [hy]
    refine congrArg some (ascI_ext (hw.ns _ (List.mem_of_getElem? hy)).2.2 (hv.ns _ (List.mem_of_getElem? hx)).2.2 fun t => ?_)
    exact (h.ns i _ _ hr hy t).trans (g.ns i _ _ hr hx t).symm
  obtain ⟨a, b, c⟩ := w
  obtain ⟨d, e, f⟩ := v
  simp only at e1 e2 e3
  rw [e1, e2, e3]
theorem Ren.comp {f g h : Int → Int} {u v w : Wb} (a : Ren f u v) (b : Ren g v w) (hu : u.Ok) (e : ∀ q, 0 ≤ q ∧ q < u.n → h q = g (f q)) : Ren h u w := by
  refine ⟨b.n.trans a.n, fun p => ?_, b.len.trans a.len, fun k r s hr hs t => ?_⟩
  · rw [b.ps]
    constructor
    · rintro ⟨q, hq, rfl⟩
      obtain ⟨z, hz, rfl⟩ := (a.ps q).mp hq
      have := hu.ps z hz
      exact ⟨z, hz, by rw [e _ this.1, e _ this.2]⟩
    · rintro ⟨z, hz, rfl⟩
      have := hu.ps z hz
      exact ⟨(f z.1, f z.2), (a.ps _).mpr ⟨z, hz, rfl⟩, by rw [e _ this.1, e _ this.2]⟩
  · have hk : k < v.ns.length := by
      obtain ⟨hi, _⟩ := List.getElem?_eq_some_iff.mp hs
      have := b.len
      omega
    have hm := List.getElem?_eq_getElem hk
    rw [b.ns k _ s hm hs]
    constructor
    · rintro ⟨q, hq, rfl⟩
      obtain ⟨z, hz, rfl⟩ := (a.ns k r _ hr hm q).mp hq
      exact ⟨z, hz, by rw [e _ ((hu.ns r (List.mem_of_getElem? hr)).2.1 z hz)]⟩
    · rintro ⟨z, hz, rfl⟩
      exact ⟨f z, (a.ns k r _ hr hm _).mpr ⟨z, hz, rfl⟩, by rw [e _ ((hu.ns r (List.mem_of_getElem? hr)).2.1 z hz)]⟩
theorem Ren.refl {h : Int → Int} {u : Wb} (hu : u.Ok) (e : ∀ q, 0 ≤ q ∧ q < u.n → h q = q) : Ren h u u := by
  refine ⟨rfl, fun p => ?_, rfl, fun k r s hr hs t => ?_⟩
  · constructor
    · intro hp
      have := hu.ps p hp
      exact ⟨p, hp, by rw [e _ this.1, e _ this.2]⟩
    · rintro ⟨z, hz, rfl⟩
      have := hu.ps z hz
      rw [e _ this.1, e _ this.2]
      exact hz
  · rw [hr] at hs
    cases hs
    have b := (hu.ns r (List.mem_of_getElem? hr)).2.1
    constructor
    · intro ht
      exact ⟨t, ht, by rw [e _ (b t ht)]⟩
    · rintro ⟨z, hz, rfl⟩
      rw [e _ (b z hz)]
      exact hz
theorem Ren.ok {n : Int} {o : List Int} {u w : Wb} (h : Ren (pl o) u w) (hu : u.Ok) (ho : IsOrd u.n o) (ha : ascB ltPr w.ps = true) (hr : ∀ r ∈ w.ns, ascB ltIn r = true) : w.Ok := by
  refine ⟨by rw [h.n]; exact hu.lo, by rw [h.n]; exact hu.hi, fun p hp => ?_, ha, by rw [h.len]; exact hu.few, fun r hr' => ?_⟩
  · obtain ⟨q, hq, rfl⟩ := (h.ps p).mp hp
    have := hu.ps q hq
    rw [h.n]
    exact ⟨pl_lt ho this.1, pl_lt ho this.2⟩
  · obtain ⟨k, hk⟩ := List.mem_iff_getElem?.mp hr'
    have hk2 : k < u.ns.length := by
      obtain ⟨hi, _⟩ := List.getElem?_eq_some_iff.mp hk
      have := h.len
      omega
    have hm := List.getElem?_eq_getElem hk2
    have hR := h.ns k _ r hm hk
    obtain ⟨z1, z2, z3⟩ := hu.ns _ (List.mem_of_getElem? hm)
    refine ⟨?_, fun t ht => ?_, hr r hr'⟩
    · intro e
      subst e
      cases hc : u.ns[k] with
      | nil => exact z1 hc
      | cons x l =>
        have := (hR (pl o x)).mpr ⟨x, by rw [hc]; simp, rfl⟩
        cases this
    · obtain ⟨q, hq, rfl⟩ := (hR t).mp ht
      rw [h.n]
      exact pl_lt ho (z2 q hq)
structure Trn (u w : Wb) : Prop where
  n : w.n = u.n
  ps : ∀ p, p ∈ w.ps ↔ (p.2, p.1) ∈ u.ps
  ns : w.ns = u.ns
theorem Trn.uniq {u w v : Wb} (h : Trn u w) (g : Trn u v) (hw : ascB ltPr w.ps = true) (hv : ascB ltPr v.ps = true) : w = v := by
  have e1 : w.n = v.n := h.n.trans g.n.symm
  have e2 : w.ps = v.ps := asc_ext hw hv fun x => (h.ps x).trans (g.ps x).symm
  have e3 : w.ns = v.ns := h.ns.trans g.ns.symm
  obtain ⟨a, b, c⟩ := w
  obtain ⟨d, e, f⟩ := v
  simp only at e1 e2 e3
  rw [e1, e2, e3]
theorem Trn.back {u w v : Wb} (h : Trn u w) (g : Trn w v) (hu : ascB ltPr u.ps = true) (hv : ascB ltPr v.ps = true) : v = u := by
  have e1 : v.n = u.n := g.n.trans h.n
  have e2 : v.ps = u.ps := asc_ext hv hu fun x => (g.ps x).trans (h.ps _)
  have e3 : v.ns = u.ns := g.ns.trans h.ns
  obtain ⟨a, b, c⟩ := v
  obtain ⟨d, e, f⟩ := u
  simp only at e1 e2 e3
  rw [e1, e2, e3]
theorem Trn.ok {u w : Wb} (h : Trn u w) (hu : u.Ok) (ha : ascB ltPr w.ps = true) : w.Ok := by
  refine ⟨by rw [h.n]; exact hu.lo, by rw [h.n]; exact hu.hi, fun p hp => ?_, ha, by rw [h.ns]; exact hu.few, ?_⟩
  · have := hu.ps _ ((h.ps p).mp hp)
    rw [h.n]
    exact ⟨this.2, this.1⟩
  · rw [h.ns, h.n]
    exact hu.ns
/-! ### whole webs shown -/
theorem sm_rows : ∀ {rs : List (List Int)}, (∀ r ∈ rs, (∀ t ∈ r, Sm t) ∧ r.length ≤ 20) → PyData.leavesShortAll 8 (rs.map dInts) = true ∧ PyData.showableAll (rs.map dInts) = true ∧ PyData.weightAll (rs.map dInts) ≤ 200 * rs.length
  | [], _ => by simp [PyData.leavesShortAll, PyData.showableAll, PyData.weightAll]
  | a :: r, h => by
    obtain ⟨h1, h2, h3⟩ := sm_rows (rs := r) fun t ht => h t (List.mem_cons_of_mem _ ht)
    obtain ⟨s1, s2⟩ := h a (by simp)
    obtain ⟨g1, g2, g3⟩ := sm_ints s1
    refine ⟨?_, ?_, ?_⟩
    · simp only [List.map_cons, dInts, PyData.leavesShortAll, PyData.leavesShort, g1, Bool.true_and]
      exact h1
    · simp only [List.map_cons, dInts, PyData.showableAll, PyData.showable, g2, Bool.true_and]
      exact h2
    · have e : PyData.weight (dInts a) = PyData.weightAll (a.map PyData.int) := by
        simp only [dInts, PyData.weight]
      simp only [List.map_cons, PyData.weightAll, List.length_cons]
      omega
theorem show_web {u : Wb} (hu : u.Ok) : u.d.showable = true ∧ u.d.shown.length ≤ sizeLine ∧ u.d.depth ≤ 60 := by
  have b1 := hu.lo
  have b2 := hu.hi
  have b3 := hu.few
  have b4 := hu.len
  obtain ⟨p1, p2, p3⟩ := sm_pairs (r := u.ps) fun t ht => by
    have := hu.ps t ht
    exact ⟨⟨this.1.1, by omega⟩, ⟨this.2.1, by omega⟩⟩
  obtain ⟨r1, r2, r3⟩ := sm_rows (rs := u.ns) fun r hr => ⟨fun t ht => by
    have := (hu.ns r hr).2.1 t ht
    exact ⟨this.1, by omega⟩, hu.row hr⟩
  obtain ⟨g1, g2, g3⟩ := short_int (i := u.n) (by omega) (by omega)
  refine ⟨?_, ?_, ?_⟩
  · simp only [Wb.d, dPairs, dRows, PyData.showable, PyData.showableAll, p2, r2, Bool.and_true, decide_eq_true_eq]
    exact g2
  · refine PyData.shown_fits (B := 8) (by omega) (by omega) ?_ ?_
    · simp only [Wb.d, dPairs, dRows, PyData.leavesShort, PyData.leavesShortAll, p1, r1, Bool.and_true, decide_eq_true_eq]
      exact g1
    · have e : u.d.weight = PyData.weight (.int u.n) + 1 + (PyData.weightAll (u.ps.map dPair) + 1 + (PyData.weightAll (u.ns.map dInts) + 1 + 0)) := by
        simp only [Wb.d, dPairs, dRows, PyData.weight, PyData.weightAll]
      omega
  · have := dep_web u
    omega
/-! ### new webs -/
/-- new rows -/
structure NewR (H H' : Hp) (ns : List (List Int)) (L : Addr) (bs : List Addr) : Prop where
  ex : Ex H H'
  new : H L = none
  at_ : H' L = some (.lst (bs.map V.ref))
  len : bs.length = ns.length
  row : ∀ (k : Nat) (b : Addr), bs[k]? = some b → (H b = none ∧ b ≠ L) ∧ ∃ r, ns[k]? = some r ∧ H' b = some (.lst (r.map V.int))
  nd : bs.Nodup
theorem rows_of {K : PySem.W.Frag} {H' : Hp} : ∀ {ns : List (List Int)} {bs : List Addr}, bs.length = ns.length → (∀ (k : Nat) (b : Addr), bs[k]? = some b → ∃ r, ns[k]? = some r ∧ H' b = some (.lst (r.map V.int)) ∧ r.length ≤ 100000) →
    DaAll K H' (ns.map dInts) (bs.map V.ref)
  | [], [], _, _ => rfl
  | [], _ :: _, h, _ => by simp at h
  | _ :: _, [], h, _ => by simp at h
  | r :: ns, b :: bs, h, g => by
    obtain ⟨r', e, h1, h2⟩ := g 0 b rfl
    obtain rfl : r = r' := by simpa using e
    exact ⟨_, _, rfl, dInts_of h1 h2, rows_of (by simpa using h) fun k b' hb => g (k + 1) b' (by simpa using hb)⟩
/-- a new web -/
structure NewW (K : PySem.W.Frag) (H H' : Hp) (w : Wb) (T L1 L2 : Addr) (xs : List V) (bs : List Addr) : Prop where
  ex : Ex H H'
  tup : H' T = some (.tup [.int w.n, .ref L1, .ref L2])
  new : H L1 = none
  at_ : H' L1 = some (.lst xs)
  ps : DaAll K H' (w.ps.map dPair) xs
  new2 : H L2 = none
  at2 : H' L2 = some (.lst (bs.map V.ref))
  len : bs.length = w.ns.length
  row : ∀ (k : Nat) (b : Addr), bs[k]? = some b → (H b = none ∧ b ≠ L2 ∧ b ≠ L1) ∧ ∃ r, w.ns[k]? = some r ∧ H' b = some (.lst (r.map V.int))
  nd : bs.Nodup
  ne : L1 ≠ L2
theorem pairs_rm {K : PySem.W.Frag} {H : Hp} {D : Addr} {ys : List V} (hD : H D = some (.lst ys)) : ∀ {L : List (Int × Int)} {acc : List V}, DaAll K H (L.map dPair) acc → DaAll K (rm H D) (L.map dPair) acc
  | [], _, h => h
  | p :: L, acc, h => by
    obtain ⟨x, xs, rfl, ⟨a, zs, rfl, hS, z1, r1, rfl, e1, z2, r2, rfl, e2, rfl⟩, h2⟩ := h
    obtain rfl := e1
    obtain rfl := e2
    refine ⟨_, _, rfl, dPair_of ?_, pairs_rm hD h2⟩
    rw [rm_ne (fun e => by rw [e, hD] at hS; cases hS)]
    exact hS
theorem NewW.da {K : PySem.W.Frag} {H H' : Hp} {w : Wb} {T L1 L2 : Addr} {xs : List V} {bs : List Addr} (h : NewW K H H' w T L1 L2 xs bs) (hw : w.Ok) : Da K H' w.d (.ref T) := by
  have l1 := hw.len
  have l2 := hw.few
  refine ⟨T, _, rfl, h.tup, _, _, rfl, rfl, _, _, rfl, ⟨L1, xs, rfl, h.at_, h.ps, by rw [List.length_map]; omega⟩, _, _, rfl, ⟨L2, _, rfl, h.at2, ?_, by rw [List.length_map]; omega⟩, rfl⟩
  refine rows_of h.len fun k b hb => ?_
  obtain ⟨_, r, e, g⟩ := h.row k b hb
  have := hw.row (List.mem_of_getElem? e)
  exact ⟨r, e, g, by omega⟩
/-- a new web has nothing to do with an old list -/
theorem NewW.off {K : PySem.W.Frag} {H H' : Hp} {w : Wb} {T L1 L2 p : Addr} {xs zs : List V} {bs : List Addr} (h : NewW K H H' w T L1 L2 xs bs) (hw : w.Ok) (hp : H p = some (.lst zs)) : Da K (rm H' p) w.d (.ref T) := by
  have hp' := h.ex _ _ hp
  have l1 := hw.len
  have l2 := hw.few
  refine ⟨T, _, rfl, ?_, _, _, rfl, rfl, _, _, rfl, ⟨L1, xs, rfl, ?_, pairs_rm hp' h.ps, by rw [List.length_map]; omega⟩, _, _, rfl, ⟨L2, bs.map V.ref, rfl, ?_, ?_, by rw [List.length_map]; omega⟩, rfl⟩
  · rw [rm_ne (fun e => by have := h.tup; rw [e, hp'] at this; cases this)]
    exact h.tup
  · rw [rm_ne (fun e => by have := h.new; rw [e, hp] at this; cases this)]
    exact h.at_
  · rw [rm_ne (fun e => by have := h.new2; rw [e, hp] at this; cases this)]
    exact h.at2
  · refine rows_of h.len fun k b hb => ?_
    obtain ⟨n, r, e, g⟩ := h.row k b hb
    have := hw.row (List.mem_of_getElem? e)
    refine ⟨r, e, ?_, by omega⟩
    rw [rm_ne (fun e => by have := n.1; rw [e, hp] at this; cases this)]
    exact g
theorem NewR.nil {H : Hp} {D : Addr} (hD : H D = none) : NewR H (upd H D (.lst [])) [] D [] :=
  ⟨Ex.nw hD, hD, upd_same, rfl, fun k b hb => by simp at hb, List.nodup_nil⟩
theorem NewR.snoc {H H1 H2 : Hp} {D l : Addr} {ss : List (List Int)} {s : List Int} {bs : List Addr} (h : NewR H H1 ss D bs) (e : Ex H1 H2) (hl : H1 l = none) (h2 : H2 l = some (.lst (s.map V.int))) :
    NewR H (upd H2 D (.lst (bs.map V.ref ++ [.ref l]))) (ss ++ [s]) D (bs ++ [l]) := by
  have lD : l ≠ D := fun x => by
    have := h.at_
    rw [← x, hl] at this
    cases this
  refine ⟨(h.ex.tr e).wr h.new, h.new, ?_, ?_, ?_, ?_⟩
  · rw [upd_same, List.map_append]
    rfl
  · rw [List.length_append, List.length_append, h.len]
    rfl
  · intro k b hb
    by_cases hk : k < bs.length
    · rw [List.getElem?_append_left hk] at hb
      obtain ⟨n1, r', n2, n3⟩ := h.row k b hb
      refine ⟨n1, r', ?_, ?_⟩
      · rw [List.getElem?_append_left (by rw [← h.len]; exact hk)]
        exact n2
      · rw [upd_ne n1.2]
        exact e _ _ n3
    · have hk' : k = bs.length := by
        obtain ⟨z, _⟩ := List.getElem?_eq_some_iff.mp hb
        rw [List.length_append, List.length_singleton] at z
        omega
      subst hk'
      rw [List.getElem?_concat_length] at hb
      cases hb
      refine ⟨⟨h.ex.fr hl, lD⟩, s, ?_, by rw [upd_ne lD]; exact h2⟩
      rw [h.len, List.getElem?_concat_length]
  · refine nodup_snoc h.nd fun hm => ?_
    obtain ⟨k, hk⟩ := List.mem_iff_getElem?.mp hm
    obtain ⟨_, r', _, h3⟩ := h.row k l hk
    rw [h3] at hl
    cases hl
theorem putK_len (kvs : List (Key × V)) (k : Key) (v : V) : (putK kvs k v).length ≤ kvs.length + 1 := by
  unfold putK
  split
  · rw [List.length_map]
    omega
  · rw [List.length_append, List.length_singleton]
    omega
/-- a dict of the places, as far as it is made -/
def PlTo (o : List Int) (i : Nat) (kvs : List (Key × V)) : Prop := kvs.length ≤ i ∧ ∀ (j : Nat) (q : Int), j < i → o[j]? = some q → valV kvs (.inl q) = some (.int (j : Int))
theorem PlTo.step {o : List Int} (hn : o.Nodup) {i : Nat} {kvs : List (Key × V)} (h : PlTo o i kvs) {q : Int} (hq : o[i]? = some q) : PlTo o (i + 1) (putK kvs (.inl q) (.int (i : Int))) := by
  refine ⟨Nat.le_trans (putK_len _ _ _) (by have := h.1; omega), fun j z hj hz => ?_⟩
  rw [valV_put]
  by_cases e : j = i
  · subst e
    rw [hq] at hz
    cases hz
    rw [if_pos rfl]
  · have ne : z ≠ q := nodup_at hn hz hq e
    rw [if_neg (fun x => ne (Sum.inl.inj x))]
    exact h.2 j z (by omega) hz
theorem PlTo.get {n : Int} {o : List Int} (ho : IsOrd n o) {kvs : List (Key × V)} (h : PlTo o o.length kvs) {q : Int} (hq : 0 ≤ q ∧ q < n) : valV kvs (.inl q) = some (.int (pl o q)) := by
  obtain ⟨j, g, e, l⟩ := pl_get ho hq
  rw [e]
  refine h.2 j q ?_ g
  obtain ⟨z, _⟩ := List.getElem?_eq_some_iff.mp g
  exact z
/-- the pairs of a web by the places -/
theorem ren_nodup {o : List Int} {u : Wb} (hu : u.Ok) (ho : IsOrd u.n o) : (u.ps.map fun q => (pl o q.1, pl o q.2)).Nodup := by
  refine (List.pairwise_map).mpr ?_
  have h := nodup_asc hu.asc
  have h2 : u.ps.Pairwise fun a b => a ∈ u.ps ∧ b ∈ u.ps ∧ a ≠ b := by
    refine List.Pairwise.imp_of_mem (fun {a b} ha hb n => ⟨ha, hb, n⟩) h
  refine h2.imp fun {a b} n e => n.2.2 ?_
  have ha := hu.ps a n.1
  have hb := hu.ps b n.2.1
  simp only [Prod.mk.injEq] at e
  exact Prod.ext (pl_inj ho ha.1 hb.1 e.1) (pl_inj ho ha.2 hb.2 e.2)
theorem row_nodup {n : Int} {o : List Int} {r : List Int} (hr : ∀ t ∈ r, 0 ≤ t ∧ t < n) (ha : ascB ltIn r = true) (ho : IsOrd n o) : (r.map (pl o)).Nodup := by
  refine (List.pairwise_map).mpr ?_
  have h2 : r.Pairwise fun a b => a ∈ r ∧ b ∈ r ∧ a ≠ b := List.Pairwise.imp_of_mem (fun {a b} ha hb n => ⟨ha, hb, n⟩) (nodup_ascI ha)
  exact h2.imp fun {a b} n e => n.2.2 (pl_inj ho (hr a n.1) (hr b n.2.1) e)
theorem row_ren {n : Int} {o : List Int} {r s : List Int} (hr : ∀ t ∈ r, 0 ≤ t ∧ t < n) (ha : ascB ltIn r = true) (ho : IsOrd n o) (hp : s.Perm (r.map (pl o))) (hw : s.Pairwise (· ≤ ·)) : ascB ltIn s = true ∧ RowRen (pl o) r s ∧ s.length = r.length := by
  refine ⟨asc_sortedI hp hw (row_nodup hr ha ho), fun t => hp.mem_iff.trans ?_, by rw [hp.length_eq, List.length_map]⟩
  rw [List.mem_map]
  constructor
  · rintro ⟨q, hq, rfl⟩
    exact ⟨q, hq, rfl⟩
  · rintro ⟨q, hq, rfl⟩
    exact ⟨q, hq, rfl⟩
theorem ren_of {o : List Int} {u : Wb} {M : List (Int × Int)} {ss : List (List Int)} (hM : ∀ p, p ∈ M ↔ p ∈ u.ps.map fun q => (pl o q.1, pl o q.2)) (hl : ss.length = u.ns.length)
    (hs : ∀ (k : Nat) (s : List Int), ss[k]? = some s → ∃ r, u.ns[k]? = some r ∧ RowRen (pl o) r s) : Ren (pl o) u ⟨u.n, M, ss⟩ := by
  refine ⟨rfl, fun p => ?_, hl, fun k r s hr hs' => ?_⟩
  · show p ∈ M ↔ _
    rw [hM, List.mem_map]
    constructor
    · rintro ⟨q, hq, rfl⟩
      exact ⟨q, hq, rfl⟩
    · rintro ⟨q, hq, rfl⟩
      exact ⟨q, hq, rfl⟩
  · obtain ⟨r', e, g⟩ := hs k s hs'
    rw [hr] at e
    cases e
    exact g
theorem pop_perm {α : Type} : ∀ {l : List α} {k : Nat} {x : α}, l[k]? = some x → (x :: l.eraseIdx k).Perm l
  | [], _, _, h => by simp at h
  | a :: l, 0, x, h => by
    obtain rfl : a = x := by simpa using h
    exact List.Perm.refl _
  | a :: l, k + 1, x, h => by
    have ih := pop_perm (l := l) (k := k) (x := x) (by simpa using h)
    rw [List.eraseIdx_cons_succ]
    exact (List.Perm.swap a x _).trans (ih.cons a)
theorem map_pop {α β : Type} (f : α → β) : ∀ (l : List α) (k : Nat), (l.map f).eraseIdx k = (l.eraseIdx k).map f
  | [], _ => rfl
  | a :: l, 0 => rfl
  | a :: l, k + 1 => by
    rw [List.map_cons, List.eraseIdx_cons_succ, List.eraseIdx_cons_succ, List.map_cons, map_pop f l k]
end Nw
/-! Fillings: what the looks at them answer; lines with numbers, steps, rows of states. -/
namespace Nw
open PySem PySem.Spec PyProof.Rows L2
/-! ### an item of a list, set anew -/
def rGetL (K : PySem.W.Frag) : V → V → Hp → VK → Prop := fun o i H Q => ∃ p xs k v, o = .ref p ∧ i = .int k ∧ 0 ≤ k ∧ SqL K H p xs ∧ xs[k.toNat]? = some v ∧ Q v H
theorem get_list {X : Cx} (K : PySem.W.Frag) (hK : X.K = K := by rfl) : PGet X (rGetL K) := by
  subst hK
  intro pins s σ H o i ov iv Q I ro ri h
  obtain ⟨p, xs, k, v, rfl, rfl, h0, hq, he, q⟩ := h
  cases ro
  obtain ⟨t, rfl⟩ := ri
  obtain ⟨its, r, pl, hz⟩ := I.list hq
  obtain ⟨u, ew, rw'⟩ := r.get he
  have hl := r.length
  have hn := line63
  have hk : k.toNat < xs.length := (List.getElem?_eq_some_iff.mp he).1
  exact wpAny_getItem_list pl.isList h0 (by omega) (by simpa using ew) ⟨v, H, I, rw', q⟩
/-! ### lines with numbers -/
abbrev NL := (Int × Int) × Int
def dNum (l : NL) : PyData := .tuple [.int l.1.1, .int l.1.2, .int l.2]
def stp (vals acc : List Int) (l : NL) : List Int := acc.set l.1.2.toNat (acc.getD l.1.2.toNat 0 + l.2 * vals.getD l.1.1.toNat 0)
def mvs (vals : List Int) (ls : List NL) (acc : List Int) : List Int := ls.foldl (stp vals) acc
theorem mvs_snoc (vals : List Int) (ls : List NL) (acc : List Int) (l : NL) : mvs vals (ls ++ [l]) acc = stp vals (mvs vals ls acc) l := by
  unfold mvs
  rw [List.foldl_append]
  rfl
theorem mvs_app (vals : List Int) (ls ms : List NL) (acc : List Int) : mvs vals (ls ++ ms) acc = mvs vals ms (mvs vals ls acc) := by
  unfold mvs
  rw [List.foldl_append]
theorem mvs_len (vals : List Int) : ∀ (ls : List NL) (acc : List Int), (mvs vals ls acc).length = acc.length
  | [], _ => rfl
  | l :: ls, acc => by
    show (mvs vals ls (stp vals acc l)).length = acc.length
    rw [mvs_len vals ls]
    unfold stp
    rw [List.length_set]
def mv (n : Nat) (ls : List NL) (vals : List Int) : List Int := mvs vals ls (List.replicate n 0)
theorem mv_len {n : Nat} {ls : List NL} {vals : List Int} : (mv n ls vals).length = n := by
  unfold mv
  rw [mvs_len, List.length_replicate]
def Bd (M x : Int) : Prop := -M ≤ x ∧ x ≤ M
theorem Bd.mono {M N x : Int} (h : Bd M x) (l : M ≤ N) : Bd N x := ⟨by have := h.1; omega, by have := h.2; omega⟩
theorem bd_mul {M a b : Int} (ha : Bd 1000000 a) (hb : Bd M b) (hM : 0 ≤ M) : Bd (1000000 * M) (a * b) := by
  have h1 : a.natAbs ≤ 1000000 := by have := ha.1; have := ha.2; omega
  have h2 : b.natAbs ≤ M.toNat := by have := hb.1; have := hb.2; omega
  have h3 := Nat.mul_le_mul h1 h2
  rw [← Int.natAbs_mul] at h3
  have e : ((1000000 * M.toNat : Nat) : Int) = 1000000 * M := by omega
  unfold Bd
  omega
theorem mvs_bd {vals : List Int} {M : Int} (hM : 0 ≤ M) (hv : ∀ v ∈ vals, Bd M v) : ∀ (ls : List NL) (acc : List Int) (A : Int), 0 ≤ A → (∀ l ∈ ls, Bd 1000000 l.2) → (∀ a ∈ acc, Bd A a) →
    ∀ a ∈ mvs vals ls acc, Bd (A + ls.length * (1000000 * M)) a
  | [], acc, A, hA, _, ha => fun a h => (ha a h).mono (by simp only [List.length_nil]; omega)
  | l :: ls, acc, A, hA, hl, ha => by
    have key : ∀ a ∈ stp vals acc l, Bd (A + 1000000 * M) a := by
      intro a h
      unfold stp at h
      rcases List.mem_or_eq_of_mem_set h with h | rfl
      · exact (ha a h).mono (by omega)
      · have h1 : Bd A (acc.getD l.1.2.toNat 0) := by
          rw [List.getD_eq_getElem?_getD]
          cases e : acc[l.1.2.toNat]? with
          | none => exact ⟨by simp only [Option.getD_none]; omega, by simp only [Option.getD_none]; omega⟩
          | some x => exact ha x (List.mem_of_getElem? e)
        have h2 : Bd M (vals.getD l.1.1.toNat 0) := by
          rw [List.getD_eq_getElem?_getD]
          cases e : vals[l.1.1.toNat]? with
          | none => exact ⟨by simp only [Option.getD_none]; omega, by simp only [Option.getD_none]; omega⟩
          | some x => exact hv x (List.mem_of_getElem? e)
        have h3 := bd_mul (hl l (by simp)) h2 hM
        have := h1.1
        have := h1.2
        have := h3.1
        have := h3.2
        unfold Bd
        omega
    have ih := mvs_bd hM hv ls (stp vals acc l) (A + 1000000 * M) (by omega) (fun x hx => hl x (List.mem_cons_of_mem _ hx)) key
    intro a h
    refine (ih a h).mono ?_
    rw [List.length_cons]
    have e : ((ls.length + 1 : Nat) : Int) * (1000000 * M) = ls.length * (1000000 * M) + 1000000 * M := by
      rw [Int.natCast_add, Int.add_mul]
      omega
    omega
/-! ### fillings -/
structure Fl where
  xs : List Int
  ss : List (List Int)
  deriving DecidableEq
def Fl.d (f : Fl) : PyData := .tuple [dInts f.xs, dRows f.ss]
def NumOk (x : Int) : Prop := x ≠ 0 ∧ Bd 1000000 x
structure Fl.Ok (u : Wb) (f : Fl) : Prop where
  len : f.xs.length = u.ps.length
  num : ∀ x ∈ f.xs, NumOk x
  rows : f.ss.map List.length = u.ns.map List.length
  rnum : ∀ r ∈ f.ss, ∀ x ∈ r, NumOk x
theorem Fl.Ok.slen {u : Wb} {f : Fl} (h : f.Ok u) : f.ss.length = u.ns.length := by
  have e := congrArg List.length h.rows
  rw [List.length_map, List.length_map] at e
  exact e
theorem Fl.Ok.rlen {u : Wb} {f : Fl} (h : f.Ok u) {k : Nat} {r s : List Int} (hr : f.ss[k]? = some r) (hs : u.ns[k]? = some s) : r.length = s.length := by
  have e := congrArg (fun l => l[k]?) h.rows
  simp only [List.getElem?_map, hr, hs, Option.map_some] at e
  exact Option.some.inj e
/-- what the looks answer -/
def intsB : PyData → Int → Bool
  | .list ds, m => decide ((ds.length : Int) = m) && ds.all isInt
  | _, _ => false
def rowsB : PyData → Int → Bool
  | .list ds, m => decide (ds.length ≤ 60) && ds.all fun d => intsB d m
  | _, _ => false
def noB : PyData → Bool
  | .int i => decide (i ≠ 0) && decide ((if i < 0 then -i else i) ≤ 1000000)
  | _ => false
def lineB : PyData → Int → Bool
  | .list ds, m => intsB (.list ds) m && ds.all noB
  | _, _ => false
def fillB (u : Wb) : PyData → Bool
  | .tuple [a, .list rs] => lineB a u.ps.length && (decide (rs.length = u.ns.length) && (rs.zip u.ns).all fun p => lineB p.1 p.2.length)
  | _ => false
theorem intsB_of {r : List Int} {m : Int} (h : (r.length : Int) = m) : intsB (dInts r) m = true := by
  unfold dInts intsB
  simp only [List.length_map, h, decide_true, Bool.true_and, List.all_map, List.all_eq_true]
  intro x _
  rfl
theorem rowsB_of {rs : List (List Int)} {m : Int} (h : ∀ r ∈ rs, (r.length : Int) = m) (h2 : rs.length ≤ 60) : rowsB (dRows rs) m = true := by
  unfold dRows rowsB
  simp only [List.length_map, h2, decide_true, Bool.true_and, List.all_map, List.all_eq_true]
  intro x hx
  exact intsB_of (h x hx)
theorem lineB_of {r : List Int} {m : Int} (h : (r.length : Int) = m) (h2 : ∀ x ∈ r, NumOk x) : lineB (dInts r) m = true := by
  have h3 := intsB_of h
  unfold dInts at h3 ⊢
  unfold lineB
  simp only [h3, Bool.true_and, List.all_map, List.all_eq_true]
  intro x hx
  have h4 := h2 x hx
  have h5 := h4.2.1
  have h6 := h4.2.2
  simp only [Function.comp, noB, decide_eq_true h4.1, Bool.true_and, decide_eq_true_eq]
  split <;> omega
theorem zip_all {α β : Type} {p : α × β → Bool} {as : List α} {bs : List β} (h : ∀ (k : Nat) (a : α) (b : β), as[k]? = some a → bs[k]? = some b → p (a, b) = true) : (as.zip bs).all p = true := by
  rw [List.all_eq_true]
  rintro ⟨a, b⟩ hx
  obtain ⟨k, hk⟩ := List.mem_iff_getElem?.mp hx
  rw [List.getElem?_zip_eq_some] at hk
  exact h k a b hk.1 hk.2
theorem Fl.Ok.fill {u : Wb} {f : Fl} (h : f.Ok u) : fillB u f.d = true := by
  have h1 := lineB_of (m := u.ps.length) (by rw [h.len]) h.num
  unfold Fl.d dRows fillB
  simp only [h1, List.length_map, h.slen, decide_true, Bool.true_and]
  refine zip_all fun k a b ha hb => ?_
  obtain ⟨r, hr, rfl⟩ := map_at ha
  exact lineB_of (by rw [h.rlen hr hb]) (h.rnum r (List.mem_of_getElem? hr))
/-- a filling as it stands -/
theorem Fl.at {K : PySem.W.Frag} {H : Hp} {f : Fl} {v : V} (h : Da K H f.d v) : ∃ t x1 x2, v = .ref t ∧ SqT K H t [x1, x2] ∧ Da K H (dInts f.xs) x1 ∧ Da K H (dRows f.ss) x2 := by
  obtain ⟨t, xs, rfl, hS, x1, r1, rfl, g1, x2, r2, rfl, g2, rfl⟩ := h
  exact ⟨t, x1, x2, rfl, .inl (.inl hS), g1, g2⟩
/-! ### the numbered lines -/
def Fl.nums (f : Fl) : List Int := f.xs ++ f.ss.flatten
def nl (u : Wb) (f : Fl) : List NL := u.lines.zip f.nums
def blkAt (n : Int) (i : Nat) (r s : List Int) : List NL := (pushedAt n i r).zip s
def nlFrom (n : Int) : Nat → List (List Int) → List (List Int) → List NL
  | i, r :: rs, s :: ss => blkAt n i r s ++ nlFrom n (i + 1) rs ss
  | _, _, _ => []
theorem zip_pushed (n : Int) : ∀ (rs ss : List (List Int)) (i : Nat), ss.map List.length = rs.map List.length → (pushedFrom n i rs).zip ss.flatten = nlFrom n i rs ss
  | [], ss, i, _ => by simp [pushedFrom, nlFrom]
  | r :: rs, [], i, h => by simp at h
  | r :: rs, s :: ss, i, h => by
    simp only [List.map_cons, List.cons.injEq] at h
    simp only [pushedFrom, nlFrom, List.flatten_cons]
    rw [List.zip_append (by simp only [pushedAt, List.length_map]; exact h.1.symm), zip_pushed n rs ss (i + 1) h.2]
    rfl
theorem Fl.Ok.nl {u : Wb} {f : Fl} (h : f.Ok u) : nl u f = u.ps.zip f.xs ++ nlFrom u.n 0 u.ns f.ss := by
  unfold Nw.nl Wb.lines Fl.nums
  rw [List.zip_append h.len.symm, zip_pushed u.n u.ns f.ss 0 h.rows]
theorem nlFrom_take (n : Int) : ∀ (rs ss : List (List Int)) (i k : Nat) (r s : List Int), rs[k]? = some r → ss[k]? = some s →
    nlFrom n i (rs.take (k + 1)) ss = nlFrom n i (rs.take k) ss ++ blkAt n (i + k) r s
  | [], _, _, _, _, _, h, _ => by simp at h
  | _ :: _, [], _, _, _, _, _, h => by simp at h
  | a :: rs, b :: ss, i, 0, r, s, h, g => by
    obtain rfl : a = r := by simpa using h
    obtain rfl : b = s := by simpa using g
    simp [nlFrom]
  | a :: rs, b :: ss, i, k + 1, r, s, h, g => by
    have ih := nlFrom_take n rs ss (i + 1) k r s (by simpa using h) (by simpa using g)
    simp only [List.take_succ_cons, nlFrom]
    rw [ih, List.append_assoc, show i + 1 + k = i + (k + 1) by omega]
theorem nums_len {f : Fl} : f.nums.length = f.xs.length + (f.ss.map List.length).sum := by
  unfold Fl.nums
  rw [List.length_append, List.length_flatten]
theorem pushed_sum (n : Int) : ∀ (rs : List (List Int)) (i : Nat), (pushedFrom n i rs).length = (rs.map List.length).sum
  | [], _ => rfl
  | r :: rs, i => by
    simp only [pushedFrom, List.length_append, pushedAt, List.length_map, List.map_cons, List.sum_cons, pushed_sum n rs (i + 1)]
theorem Fl.Ok.nlen {u : Wb} {f : Fl} (h : f.Ok u) : f.nums.length = u.lines.length := by
  rw [nums_len, h.rows, h.len]
  unfold Wb.lines
  rw [List.length_append, pushed_sum]
theorem Fl.Ok.bd {u : Wb} {f : Fl} (h : f.Ok u) : ∀ x ∈ f.nums, NumOk x := by
  intro x hx
  rcases List.mem_append.mp hx with hx | hx
  · exact h.num x hx
  · obtain ⟨r, hr, hx⟩ := List.mem_flatten.mp hx
    exact h.rnum r hr x hx
theorem Fl.Ok.line {u : Wb} {f : Fl} (h : f.Ok u) (hu : u.Ok) : ∀ l ∈ Nw.nl u f, ((0 ≤ l.1.1 ∧ l.1.1 < u.n + (u.ns.length : Int)) ∧ (0 ≤ l.1.2 ∧ l.1.2 < u.n)) ∧ Bd 1000000 l.2 := by
  rintro ⟨a, b⟩ hl
  have h1 := List.of_mem_zip hl
  exact ⟨hu.line a h1.1, (h.bd b h1.2).2⟩
theorem Fl.Ok.nl_len {u : Wb} {f : Fl} (h : f.Ok u) (hu : u.Ok) : (Nw.nl u f).length ≤ 1500 := by
  unfold Nw.nl
  rw [List.length_zip]
  have := hu.lines_len
  omega
/-! ### rows of states -/
def rn (n : Nat) (ls : List NL) (st : List Int) (rows : List (List Int)) : List (List Int) := rows.foldl (fun acc g => acc ++ [mv n ls (acc.getLastD [] ++ g)]) [st]
theorem rn_snoc (n : Nat) (ls : List NL) (st : List Int) (rows : List (List Int)) (g : List Int) : rn n ls st (rows ++ [g]) = rn n ls st rows ++ [mv n ls ((rn n ls st rows).getLastD [] ++ g)] := by
  unfold rn
  rw [List.foldl_append]
  rfl
theorem rn_len (n : Nat) (ls : List NL) (st : List Int) (rows : List (List Int)) : ∀ k, k ≤ rows.length → (rn n ls st (rows.take k)).length = k + 1
  | 0, _ => by simp [rn]
  | k + 1, h => by
    have hk : k < rows.length := h
    rw [take_snoc (List.getElem?_eq_getElem hk), rn_snoc, List.length_append, rn_len n ls st rows k (by omega)]
    rfl
theorem getLastD_mem {α : Type} : ∀ {l : List α} {d : α}, l ≠ [] → l.getLastD d ∈ l
  | [], _, h => (h rfl).elim
  | [a], _, _ => by simp [List.getLastD]
  | a :: b :: s, d, _ => by
    rw [List.getLastD_cons]
    exact List.mem_cons_of_mem _ (getLastD_mem (l := b :: s) (by simp))
/-- how great the numbers of states grow -/
theorem rn_bd {n : Nat} {ls : List NL} {st : List Int} {rows : List (List Int)} {M : Int} (hM : 0 ≤ M) (hst : ∀ x ∈ st, Bd M x) (hr : ∀ r ∈ rows, ∀ x ∈ r, Bd M x) (hl : ∀ l ∈ ls, Bd 1000000 l.2) (hz : ls.length ≤ 1500) :
    ∀ k, k ≤ rows.length → ∀ s ∈ rn n ls st (rows.take k), ∀ x ∈ s, Bd (M * 1500000000 ^ k) x
  | 0, _, s, hs, x, hx => by
    obtain rfl : s = st := by simpa [rn] using hs
    simpa using hst x hx
  | k + 1, h, s, hs, x, hx => by
    have hk : k < rows.length := h
    have p1 : (1 : Int) ≤ 1500000000 ^ k := by
      have := Int.pow_pos (n := 1500000000) (m := k) (by decide)
      omega
    have p2 : M ≤ M * 1500000000 ^ k := by
      have := Int.mul_le_mul_of_nonneg_left p1 hM
      omega
    have p3 : M * 1500000000 ^ (k + 1) = 1500000000 * (M * 1500000000 ^ k) := by
      rw [Int.pow_succ, ← Int.mul_assoc, Int.mul_comm]
    have p4 : 0 ≤ M * 1500000000 ^ k := by omega
    have ih := rn_bd (n := n) hM hst hr hl hz k (by omega)
    rw [take_snoc (List.getElem?_eq_getElem hk), rn_snoc] at hs
    rw [p3]
    rcases List.mem_append.mp hs with hs | hs
    · exact (ih s hs x hx).mono (by omega)
    · obtain rfl := List.mem_singleton.mp hs
      have h1 := mvs_bd (vals := (rn n ls st (rows.take k)).getLastD [] ++ rows[k]) (M := M * 1500000000 ^ k) p4 (by
        intro v hv
        rcases List.mem_append.mp hv with hv | hv
        · refine ih _ (getLastD_mem ?_) v hv
          intro e
          have := rn_len n ls st rows k (by omega)
          rw [e] at this
          simp at this
        · exact (hr _ (List.getElem_mem hk) v hv).mono p2) ls (List.replicate n 0) 0 (by decide) hl (by
        intro a ha
        obtain ⟨_, rfl⟩ := List.mem_replicate.mp ha
        exact ⟨by decide, by decide⟩)
      refine (h1 x hx).mono ?_
      have h2 : (ls.length : Int) * (1000000 * (M * 1500000000 ^ k)) ≤ 1500 * (1000000 * (M * 1500000000 ^ k)) := Int.mul_le_mul_of_nonneg_right (by omega) (by omega)
      omega
theorem ixN_int {n : Nat} {k : Int} (h0 : 0 ≤ k) (h : k < n) : ixN n k = some k.toNat := by
  unfold ixN
  rw [if_pos h0, if_pos h]
theorem rep_int (m : Nat) : (List.replicate m [V.int 0]).flatten = (List.replicate m (0 : Int)).map V.int := by
  induction m with
  | zero => rfl
  | succ m ih =>
    rw [List.replicate_succ, List.flatten_cons, ih]
    rfl
theorem last_row {α : Type} : ∀ {ns : List α} {n : Nat} {r d : α}, ns[n]? = some r → ns.length = n + 1 → ns.getLastD d = r
  | [], _, _, _, h, _ => by simp at h
  | [a], 0, r, d, h, _ => by simpa [List.getLastD] using h
  | [a], n + 1, r, d, h, g => by simp at h
  | a :: b :: s, 0, r, d, h, g => by simp at g
  | a :: b :: s, n + 1, r, d, h, g => by
    rw [List.getLastD_cons]
    exact last_row (ns := b :: s) (n := n) (by simpa using h) (by simpa using g)
theorem stp_at {vals acc : List Int} {l : NL} {x y : Int} (hx : acc[l.1.2.toNat]? = some x) (hy : vals[l.1.1.toNat]? = some y) : (acc.map V.int).set l.1.2.toNat (V.int (x + l.2 * y)) = (stp vals acc l).map V.int := by
  unfold stp
  rw [List.getD_eq_getElem?_getD, hx, List.getD_eq_getElem?_getD, hy, List.map_set]
  rfl
theorem flat_take {α : Type} {ss : List (List α)} {i : Nat} {r : List α} (h : ss[i]? = some r) : (ss.take (i + 1)).flatten = (ss.take i).flatten ++ r := by
  rw [take_snoc h, List.flatten_append]
  simp
theorem flat_len {α : Type} {ss : List (List α)} {i : Nat} : ((ss.take i).flatten).length ≤ ss.flatten.length := by
  have h : ss.flatten = (ss.take i).flatten ++ (ss.drop i).flatten := by rw [← List.flatten_append, List.take_append_drop]
  rw [h, List.length_append]
  omega
theorem row_len_flat {α : Type} {ss : List (List α)} {r : List α} (h : r ∈ ss) : r.length ≤ ss.flatten.length := by
  obtain ⟨i, hi⟩ := List.mem_iff_getElem?.mp h
  have h1 := flat_len (ss := ss) (i := i + 1)
  rw [flat_take hi, List.length_append] at h1
  omega
theorem dNum_of {K : PySem.W.Frag} {H : Hp} {l : NL} {a : Addr} (h : H a = some (.tup [.int l.1.1, .int l.1.2, .int l.2])) : Da K H (dNum l) (.ref a) :=
  ⟨a, _, rfl, h, _, _, rfl, rfl, _, _, rfl, rfl, _, _, rfl, rfl, rfl⟩
theorem nums_at {K : PySem.W.Frag} {H : Hp} {ls : List NL} {xs : List V} {i : Nat} {x : V} (h : DaAll K H (ls.map dNum) xs) (hx : xs[i]? = some x) :
    ∃ l, ls[i]? = some l ∧ ∃ a, x = .ref a ∧ SqT K H a [.int l.1.1, .int l.1.2, .int l.2] := by
  obtain ⟨d, hd, hdx⟩ := h.at' hx
  obtain ⟨p, hp, rfl⟩ := map_at hd
  obtain ⟨a, ys, rfl, hS, z1, r1, rfl, e1, z2, r2, rfl, e2, z3, r3, rfl, e3, rfl⟩ := hdx
  obtain rfl := e1
  obtain rfl := e2
  obtain rfl := e3
  exact ⟨p, hp, a, rfl, .inl (.inl hS)⟩
end Nw
/-! Fillings, states and rows of states shown. -/
namespace Nw
open PySem PySem.Spec PyProof.Rows L2
theorem rn_rows {n : Nat} {ls : List NL} {st : List Int} {rows : List (List Int)} (h : st.length = n) : ∀ k, k ≤ rows.length → ∀ z ∈ rn n ls st (rows.take k), z.length = n
  | 0, _, z, hz => by
    obtain rfl : z = st := by simpa [rn] using hz
    exact h
  | k + 1, hk, z, hz => by
    rw [take_snoc (List.getElem?_eq_getElem (show k < rows.length from hk)), rn_snoc] at hz
    rcases List.mem_append.mp hz with hz | hz
    · exact rn_rows h k (by omega) z hz
    · obtain rfl := List.mem_singleton.mp hz
      exact mv_len
theorem NewR.da {K : PySem.W.Frag} {H H' : Hp} {ns : List (List Int)} {L : Addr} {bs : List Addr} (h : NewR H H' ns L bs) (h1 : ∀ r ∈ ns, r.length ≤ 100000) (h2 : ns.length ≤ 100000) : Da K H' (dRows ns) (.ref L) := by
  refine ⟨L, _, rfl, h.at_, rows_of h.len fun k b hb => ?_, by rw [List.length_map]; exact h2⟩
  obtain ⟨_, r, e, g⟩ := h.row k b hb
  exact ⟨r, e, g, h1 r (List.mem_of_getElem? e)⟩
theorem lay_fl (f : Fl) : f.d.canLay0 = true := by simp [Fl.d, PyData.canLay0, PyData.canLayAll0, lay_dInts, lay_dRows]
theorem Sh.ints {r : List Int} {k m : Nat} (hk : 0 < k) (h2 : ∀ x ∈ r, x.natAbs < 2 ^ 1920) (h : ∀ x ∈ r, x.natAbs < 10 ^ k) (hm : r.length ≤ m) : Sh (k + 1) (1 + m) 1 (dInts r) := by
  have e : Sh (k + 1) (1 + 1 * m) (0 + 1) (dInts r) := Sh.list (fun x hx => by
    obtain ⟨y, hy, rfl⟩ := List.mem_map.mp hx
    exact Sh.int hk (h2 y hy) (h y hy)) (by rw [List.length_map]; exact hm)
  exact ⟨e.s, e.l, by have := e.n; omega, e.k⟩
theorem Sh.rows {rs : List (List Int)} {k m j : Nat} (hk : 0 < k) (h2 : ∀ r ∈ rs, ∀ x ∈ r, x.natAbs < 2 ^ 1920) (h : ∀ r ∈ rs, ∀ x ∈ r, x.natAbs < 10 ^ k) (hm : ∀ r ∈ rs, r.length ≤ m) (hj : rs.length ≤ j) :
    Sh (k + 1) (1 + (1 + m) * j) 2 (dRows rs) := Sh.list (fun x hx => by
  obtain ⟨y, hy, rfl⟩ := List.mem_map.mp hx
  exact Sh.ints hk (h2 y hy) (h y hy) (hm y hy)) (by rw [List.length_map]; exact hj)
theorem p1920 : (2 : Nat) ^ 1920 < 10 ^ 580 := by decide +kernel
theorem p40_1920 : (10 : Nat) ^ 40 < 2 ^ 1920 := by decide +kernel
theorem p40 : (10 : Nat) ^ 40 = 10000000000000000000000000000000000000000 := by decide +kernel
theorem small40 {x : Int} (h : x.natAbs < 10000000000000000000000000000000000000000) : x.natAbs < 2 ^ 1920 ∧ x.natAbs < 10 ^ 40 := by
  have h1 : x.natAbs < 10 ^ 40 := by
    rw [p40]
    exact h
  exact ⟨Nat.lt_trans h1 p40_1920, h1⟩
theorem sm_40 {x : Int} (h : Sm x) : x.natAbs < 10000000000000000000000000000000000000000 := by
  have := h.1
  have := h.2
  omega
theorem Sh.pair {p : Int × Int} (h1 : Sm p.1) (h2 : Sm p.2) : Sh 41 3 1 (dPair p) := by
  have e : Sh 41 (1 + 1 * 2) (0 + 1) (dPair p) := Sh.tuple (fun x hx => by
    rcases List.mem_cons.mp hx with rfl | hx
    · exact Sh.int (k := 40) (by decide) (small40 (sm_40 h1)).1 (small40 (sm_40 h1)).2
    · obtain rfl := List.mem_singleton.mp hx
      exact Sh.int (k := 40) (by decide) (small40 (sm_40 h2)).1 (small40 (sm_40 h2)).2) (Nat.le_refl 2)
  exact e
theorem Sh.wide {B n k m j : Nat} {d : PyData} (h : Sh B n k d) (hn : n ≤ m) (hk : k ≤ j) : Sh B m j d := ⟨h.s, h.l, Nat.le_trans h.n hn, Nat.le_trans h.k hk⟩
theorem Wb.Ok.sh {u : Wb} (hu : u.Ok) : Sh 41 12000 3 u.d := by
  have b1 := hu.lo
  have b2 := hu.hi
  have e : Sh 41 (1 + 3901 * 3) (2 + 1) u.d := Sh.tuple (fun x hx => by
    rcases List.mem_cons.mp hx with rfl | hx
    · exact (Sh.int (k := 40) (by decide) (small40 (by omega)).1 (small40 (by omega)).2).wide (by decide) (by decide)
    rcases List.mem_cons.mp hx with rfl | hx
    · have e : Sh 41 (1 + 3 * 1300) (1 + 1) (dPairs u.ps) := Sh.list (fun x hx => by
        obtain ⟨y, hy, rfl⟩ := List.mem_map.mp hx
        have := hu.ps y hy
        exact Sh.pair ⟨this.1.1, by omega⟩ ⟨this.2.1, by omega⟩) (by rw [List.length_map]; exact hu.len)
      exact e
    · obtain rfl := List.mem_singleton.mp hx
      have hs : ∀ r ∈ u.ns, ∀ x ∈ r, x.natAbs < 10000000000000000000000000000000000000000 := by
        intro r hr x hx
        have := (hu.ns r hr).2.1 x hx
        omega
      exact (Sh.rows (k := 40) (m := 20) (j := 8) (by decide) (fun r hr x hx => (small40 (hs r hr x hx)).1) (fun r hr x hx => (small40 (hs r hr x hx)).2) (fun r hr => hu.row hr) hu.few).wide (by decide) (by decide)) (Nat.le_refl 3)
  exact e.wide (by decide) (by decide)
theorem Fl.Ok.sh {u : Wb} {f : Fl} (hu : u.Ok) (h : f.Ok u) : Sh 41 12000 3 f.d := by
  have b1 := hu.len
  have b2 := hu.few
  have hn : ∀ x : Int, NumOk x → x.natAbs < 10000000000000000000000000000000000000000 := by
    intro x hx
    have := hx.2.1
    have := hx.2.2
    omega
  have e : Sh 41 (1 + 1301 * 2) (2 + 1) f.d := Sh.tuple (fun x hx => by
    rcases List.mem_cons.mp hx with rfl | hx
    · exact (Sh.ints (k := 40) (m := 1300) (by decide) (fun x hx => (small40 (hn x (h.num x hx))).1) (fun x hx => (small40 (hn x (h.num x hx))).2) (by rw [h.len]; exact b1)).wide (by decide) (by decide)
    · obtain rfl := List.mem_singleton.mp hx
      refine (Sh.rows (k := 40) (m := 20) (j := 8) (by decide) (fun r hr x hx => (small40 (hn x (h.rnum r hr x hx))).1) (fun r hr x hx => (small40 (hn x (h.rnum r hr x hx))).2) (fun r hr => ?_) (by rw [h.slen]; exact b2)).wide (by decide) (by decide)
      obtain ⟨k, hk⟩ := List.mem_iff_getElem?.mp hr
      have hk2 : k < u.ns.length := by
        rw [← h.slen]
        exact (List.getElem?_eq_some_iff.mp hk).1
      rw [h.rlen hk (List.getElem?_eq_getElem hk2)]
      exact hu.row (List.getElem_mem hk2)) (Nat.le_refl 2)
  exact e.wide (by decide) (by decide)
/-- what repr asks of data that stands -/
theorem repr_of {K : PySem.W.Frag} {H : Hp} {d : PyData} {v : V} {B n k : Nat} (hd : Da K H d v) (hn : d.hasDict = false) (h : Sh B n k d) (hB : 8 ≤ B) (hz : (B + 4) * n ≤ 16000000) (hk : k ≤ 60) :
    Dp K H v d ∧ d.showable = true ∧ d.shown.length ≤ sizeLine ∧ d.depth ≤ 60 := ⟨hd.dp _ _ hn, h.s, h.fit hB hz, Nat.le_trans h.k hk⟩
theorem bd_abs {M x : Int} {N : Nat} (h : Bd M x) (hM : M.toNat < N) (h0 : 0 ≤ M) : x.natAbs < N := by
  have := h.1
  have := h.2
  omega
theorem pow1500 {w : Int} {k : Nat} (h0 : 0 ≤ w) {n : Nat} (hk : k ≤ n) : w * 1500000000 ^ k ≤ w * 1500000000 ^ n := by
  refine Int.mul_le_mul_of_nonneg_left ?_ h0
  have h1 : (1500000000 : Nat) ^ k ≤ 1500000000 ^ n := Nat.pow_le_pow_right (by decide) hk
  have h2 := Int.ofNat_le.mpr h1
  rw [Int.natCast_pow, Int.natCast_pow] at h2
  exact h2
end Nw
namespace Nw
open PySem PySem.Spec PyProof.Rows L2
theorem rn_pre {n : Nat} {ls : List NL} {st : List Int} {rows : List (List Int)} {k i : Nat} (hi : i ≤ k) : ∀ j, k ≤ j → j ≤ rows.length → (rn n ls st (rows.take j))[i]? = (rn n ls st (rows.take k))[i]?
  | 0, h, _ => by
    obtain rfl : k = 0 := by omega
    rfl
  | j + 1, h, hj => by
    by_cases e : k = j + 1
    · rw [e]
    · rw [take_snoc (List.getElem?_eq_getElem (show j < rows.length from hj)), rn_snoc, List.getElem?_append_left, rn_pre hi j (by omega) (by omega)]
      rw [rn_len n ls st rows j (by omega)]
      omega
theorem rn_one {n : Nat} {ls : List NL} {st r : List Int} {rows : List (List Int)} (h : rows[0]? = some r) : (rn n ls st rows)[1]? = some (mv n ls (st ++ r)) := by
  have hl : 0 < rows.length := (List.getElem?_eq_some_iff.mp h).1
  have e := rn_pre (n := n) (ls := ls) (st := st) (rows := rows) (k := 1) (i := 1) (by decide) rows.length (by omega) (by omega)
  rw [List.take_length] at e
  rw [e, show rows.take 1 = rows.take (0 + 1) from rfl, take_snoc h]
  rfl
theorem p6 : (10 : Int) ^ Int.toNat 6 = 1000000 := by decide +kernel
theorem p29 : (10 : Int) ^ Int.toNat 29 = 100000000000000000000000000000 := by decide +kernel
end Nw
/-! repr of data with dicts: sys.modules has to be told apart, which the top knows. -/
namespace Nw
open PySem PySem.Spec PyProof.Rows L2
abbrev SysAt (base : Heap) : Prop := ∃ mm, base.Ns sysModules mm
section
variable {X : Cx} {pins : List (Addr × Obj)} {σ : L2.St} {H : Hp} {s : Shared}
theorem sys_no_list (I : Inv X pins σ H s) (SM : SysAt X.base) {a : Addr} {o : Obj} {vs : Array Value} {n : Nat} (h : s.heap.get? a = some o) (hd : o.data = .seq vs n) : a ≠ sysModules := by
  rintro rfl
  obtain ⟨mm, o2, es, ep, e, d, _⟩ := SM
  have h2 := I.bk _ _ e
  rw [h] at h2
  cases h2
  rw [hd] at d
  cases d
theorem reads_keys : ∀ {kd : List PyData} {kvs : List (Key × V)} {vs : List (Key × Value)} {es : List DictEntry} {h : Heap} {P : Program} {w : World}, (kvs.map fun kv => keyD kv.1) = kd → KV kvs vs → Pairs (mixKind P w) es vs →
    ReadsAll h (es.map (·.key)) kd [] ∧ Vals (kvs.map (·.2)) (es.map (·.val))
  | [], [], _, _, _, _, _, _, .nil, .nil => ⟨.nil, .nil⟩
  | [], _ :: _, _, _, _, _, _, hk, _, _ => by simp at hk
  | _ :: _, [], _, _, _, _, _, hk, _, _ => by simp at hk
  | k :: kd, (k', v') :: kvs, _, _, h, P, w, hk, .cons (a := _) (b := q) ⟨e1, r1⟩ t, .cons (e := en) hk2 hv t2 => by
    simp only [List.map_cons, List.cons.injEq] at hk
    obtain ⟨rfl, hk3⟩ := hk
    obtain ⟨ih1, ih2⟩ := reads_keys (h := h) (P := P) (w := w) hk3 t t2
    simp only at e1 r1
    subst e1
    have hkey : Reads h en.key (keyD q.1) [] := by
      rcases keyIs_shape (show keyIs q.1 en.key = true from hk2) with ⟨i, t, e, e'⟩ | ⟨x, t, e, e'⟩
      · rw [e', e]
        exact .int i t
      · rw [e', e]
        exact .str x t
    simp only [List.map_cons]
    rw [hv]
    exact ⟨.cons (as := []) (bs := []) hkey ih1, .cons r1 ih2⟩
mutual
theorem Da.reads (I : Inv X pins σ H s) (SM : SysAt X.base) : ∀ (d : PyData) (v : V) (u : Value), Da X.K H d v → RelV v u → ∃ as, Reads s.heap u d as ∧ sysModules ∉ as
  | .none, _, _, h, r => by
    obtain rfl := h
    cases r
    exact ⟨_, .none, by simp⟩
  | .bool b, _, _, h, r => by
    obtain rfl := h
    cases r
    exact ⟨_, .bool b, by simp⟩
  | .int i, _, _, h, r => by
    obtain rfl := h
    obtain ⟨t, rfl⟩ := r
    exact ⟨_, .int i t, by simp⟩
  | .str x, _, _, h, r => by
    obtain rfl := h
    obtain ⟨t, rfl⟩ := r
    exact ⟨_, .str x t, by simp⟩
  | .list ds, _, _, h, r => by
    obtain ⟨a, xs, rfl, hs, ha, _⟩ := h
    cases r
    obtain ⟨its, rv, ⟨o, n, ho, hc, _, hd⟩, _⟩ := I.list (.inl (.inl hs))
    obtain ⟨as, hr, hn⟩ := Da.readsAll I SM ds _ its ha rv
    refine ⟨_, Reads.list ho hc hd hr, fun hm => ?_⟩
    rcases List.mem_cons.mp hm with e | hm
    · exact sys_no_list I SM ho hd e.symm
    · exact hn hm
  | .tuple ds, _, _, h, r => by
    obtain ⟨a, xs, rfl, hs, ha⟩ := h
    cases r
    obtain ⟨its, rv, ⟨o, ho, hc, n, hd⟩, _⟩ := I.tuple (.inl (.inl hs))
    obtain ⟨as, hr, hn⟩ := Da.readsAll I SM ds _ its ha rv
    exact ⟨_, Reads.tuple ho hc hd hr, hn⟩
  | .dict kd, _, _, h, r => by
    obtain ⟨a, kvs, rfl, hs, hk, hv⟩ := h
    cases r
    obtain ⟨_, lo, vs, rk, o, es, ep, h1, h2, h3, _, h5, _⟩ := dk_of I.hok hs
    obtain ⟨g1, g2⟩ := reads_keys (h := s.heap) hk rk h5
    obtain ⟨as, g3, g4⟩ := Da.readsKv I SM kd _ _ hv g2
    refine ⟨_, Reads.dict h1 h2.1 h3 g1 g3, fun hm => ?_⟩
    rcases List.mem_cons.mp hm with hm | hm
    · rw [← hm] at lo
      simp at lo
    · exact g4 hm
theorem Da.readsAll (I : Inv X pins σ H s) (SM : SysAt X.base) : ∀ (ds : List PyData) (vs : List V) (us : List Value), DaAll X.K H ds vs → Vals vs us → ∃ as, ReadsAll s.heap us ds as ∧ sysModules ∉ as
  | [], _, _, h, r => by
    obtain rfl := h
    cases r
    exact ⟨_, .nil, by simp⟩
  | d :: ds, _, _, h, r => by
    obtain ⟨x, xs, rfl, h1, h2⟩ := h
    cases r with
    | cons r1 r2 =>
      obtain ⟨as, q1, n1⟩ := Da.reads I SM d _ _ h1 r1
      obtain ⟨bs, q2, n2⟩ := Da.readsAll I SM ds _ _ h2 r2
      refine ⟨_, .cons q1 q2, fun hm => ?_⟩
      rcases List.mem_append.mp hm with hm | hm
      · exact n1 hm
      · exact n2 hm
theorem Da.readsKv (I : Inv X pins σ H s) (SM : SysAt X.base) : ∀ (ds : List (PyData × PyData)) (vs : List V) (us : List Value), DaKv X.K H ds vs → Vals vs us → ∃ as, ReadsAll s.heap us (ds.map (·.2)) as ∧ sysModules ∉ as
  | [], _, _, h, r => by
    obtain rfl := h
    cases r
    exact ⟨_, .nil, by simp⟩
  | (_, d) :: ds, _, _, h, r => by
    obtain ⟨x, xs, rfl, h1, h2⟩ := h
    cases r with
    | cons r1 r2 =>
      obtain ⟨as, q1, n1⟩ := Da.reads I SM d _ _ h1 r1
      obtain ⟨bs, q2, n2⟩ := Da.readsKv I SM ds _ _ h2 r2
      refine ⟨_, .cons q1 q2, fun hm => ?_⟩
      rcases List.mem_append.mp hm with hm | hm
      · exact n1 hm
      · exact n2 hm
end
end
/-- repr(x), x any data -/
def rReprS (K : PySem.W.Frag) : List V → Hp → VK → Prop := fun xs H Q =>
  ∃ x d, xs = [x] ∧ Da K H d x ∧ d.showable = true ∧ d.shown.length ≤ sizeLine ∧ d.depth ≤ 60 ∧ Q (.str d.shown) H
section
variable {X : Cx}
theorem call_reprS (K : PySem.W.Frag) {k : Nat} (hq : Quiet X.A) (hr : Room k X.A) (SM : SysAt X.base) (hK : X.K = K := by rfl) : CallR X (.builtin "repr") (rReprS K) := by
  subst hK
  intro pins s σ H xs us Q I r h
  obtain ⟨x, d, rfl, hd, hs, hz, hdp, q⟩ := h
  obtain ⟨u, rfl, rx⟩ := Vals.one r
  obtain ⟨as, rd, hn⟩ := Da.reads I SM d x u hd rx
  have hu : X.A.units + 200 < cLine := by have := hr.un; omega
  have fin : ∀ h' u' tk, (∀ b o, s.heap.get? b = some o → h'.get? b = some o) →
      EP X pins σ Q (.str d.shown u') { s with heap := h', toks := tk } :=
    fun h' u' tk hk => ⟨.str d.shown, H, I.kept hk, ⟨_, rfl⟩, q⟩
  cases d with
  | none =>
    obtain rfl := hd
    obtain rfl : u = Value.none := rx
    exact PySem.P.repr_of_none (fin s.heap _ _ fun _ _ e => e)
  | bool b =>
    obtain rfl := hd
    obtain rfl : u = Value.bool b := rx
    exact PySem.P.repr_of_bool (fin s.heap _ _ fun _ _ e => e)
  | int i =>
    obtain rfl := hd
    obtain ⟨t, rfl⟩ := rx
    exact PySem.P.repr_of_int (by simpa only [PyData.showable, decide_eq_true_eq] using hs) (fin s.heap _ _ fun _ _ e => e)
  | str z =>
    obtain rfl := hd
    obtain ⟨t, rfl⟩ := rx
    exact PySem.P.repr_of_str (fin s.heap _ _ fun _ _ e => e) (by simpa only [PyData.shown] using hz)
  | list ds =>
    obtain ⟨a, xs, rfl, _⟩ := hd
    cases rx
    exact repr_of_reads' rd hs (fun _ => hn) hq (by omega) (fun _ _ e => e) fin hz
  | tuple ds =>
    obtain ⟨a, xs, rfl, _⟩ := hd
    cases rx
    exact repr_of_reads' rd hs (fun _ => hn) hq (by omega) (fun _ _ e => e) fin hz
  | dict kd =>
    obtain ⟨a, xs, rfl, _⟩ := hd
    cases rx
    exact repr_of_reads' rd hs (fun _ => hn) hq (by omega) (fun _ _ e => e) fin hz
end
section
variable {P : Program} {w : World} {K : PySem.W.Frag}
theorem law_callS {mg mb : Str → Option Value} {CX : CXT} {k : Nat} {fa a : Addr} {fd : FuncData} {x : Str} {sp : Sp}
    {s1 : Shared} {vs : List Value} {ns : List Int}
    (KX : K.In s1.heap) (hns : s1.heap.Ns mainGlobals mg) (hb : s1.heap.Ns builtinsNs mb)
    (hbb : ∀ x : Str, x ≠ "__name__" → mb x = bootBuiltins x) (hlim : s1.heap.NoLimit) (hg : s1.gens = #[])
    (ha : s1.heap.get? a = some { cls := .type "list", data := .seq vs.toArray }) (hi : IntsAre vs ns)
    (hl : ns.length ≤ sizeLine) (hr : Room k callerA)
    (hsys : ∃ mm, s1.heap.Ns sysModules mm)
    (F : ∀ base : Heap, K.In base → base.Ns mainGlobals mg → SysAt base → FnG P w K mg base CX k fa fd [x] sp)
    (hbind : ∀ (s : Shared) (u : Value), BindsTo s fd ⟨[u], []⟩ [(x, u)])
    (hsp : ∀ H : Hp, Only H → SqL K H a (ns.map V.int) → sp [.ref a] H (fun v _ => v = .bl true) fun _ _ _ => False)
    (hCX : ∀ H e s', CX [] H s1 (fun _ _ _ => False) e s' → False) :
    codeAny (model P w) callerA (.call (.ref fa) ⟨[.ref a], []⟩)
      (fun r s' => r = .ok (.ret (.bool true)) ∧ OldK s1.heap s'.heap ∧ s'.os = s1.os ∧ AllBare s'.gens) s1 := by
  have rv := vals_ints hi
  have lenV := hi.length
  have core : ∀ H : Hp, Only H → SqL K H a (ns.map V.int) → HOk P w H s1.heap →
      (∀ b, H b ≠ none → b = a) → (H a ≠ none → K.lookup a = none) →
      codeAny (model P w) callerA (.call (.ref fa) ⟨[.ref a], []⟩)
        (fun r s' => r = .ok (.ret (.bool true)) ∧ OldK s1.heap s'.heap ∧ s'.os = s1.os ∧ AllBare s'.gens) s1 := by
    intro H hO hS hok hA hK
    have fromH : ∀ {b : Addr} {o : Obj}, s1.heap.get? b = some o → H b = none →
        (hidT s1.heap H).get? b = some o := fun e n => hidT_get e n
    have free : ∀ {b : Addr} {o : Obj} {es : Array DictEntry} {ep : Nat},
        s1.heap.get? b = some o → o.data = .dict es ep → H b = none := by
      intro b o es ep e d
      cases q : H b with
      | none => rfl
      | some u =>
        have e' : b = a := hA b (by rw [q]; exact fun z => nomatch z)
        subst e'
        rw [ha] at e
        cases e
        exact nomatch d
    have nsK : ∀ {b : Addr} {m : Str → Option Value}, s1.heap.Ns b m → (hidT s1.heap H).Ns b m := by
      rintro b m ⟨o, es, ep, e, d, r⟩
      exact ⟨o, es, ep, fromH e (free e d), d, r⟩
    have hKb : K.In (hidT s1.heap H) := by
      intro b o e
      refine fromH (KX b o e) ?_
      cases q : H b with
      | none => rfl
      | some u =>
        have e' : b = a := hA b (by rw [q]; exact fun z => nomatch z)
        subst e'
        rw [hK (by rw [q]; exact fun z => nomatch z)] at e
        cases e
    have hM : Mod K mg (hidT s1.heap H) := by
      obtain ⟨mc, h1, h2⟩ := hlim
      exact ⟨hKb, nsK hns, ⟨mb, nsK hb, hbb⟩, ⟨mc, nsK h1, h2⟩⟩
    have e0 : Env0 P w K mg (hidT s1.heap H) callerA [] s1 H :=
      ⟨rfl, hM, fun b o e => of_hidT e, Nat.le_of_eq (hidT_size _ _), trivial,
        fun b hb => (List.not_mem_nil hb).elim, hok, .of_eq hg⟩
    refine codeAny_mono ((F _ hKb (nsK hns) (by obtain ⟨mm, hm⟩ := hsys; exact ⟨mm, nsK hm⟩)).run callerA [] s1 H ⟨[.ref a], []⟩ [.ref a] [.ref a] _ _ hr rfl e0
      (hbind s1 (.ref a)) (.cons rfl .nil) (hsp H hO hS)) ?_
    intro r s' h
    cases r with
    | error e => exact (hCX H e s' h).elim
    | ok fl =>
      cases fl with
      | next => exact (show False from h).elim
      | brk => exact (show False from h).elim
      | cont => exact (show False from h).elim
      | ret u =>
        obtain ⟨v, H', os, bare, un, hok', r', q⟩ := h
        have q' : v = .bl true := q
        subst q'
        obtain rfl : u = Value.bool true := r'
        refine ⟨rfl, OldK.of_keep ?_, os, bare⟩
        intro b o e
        cases q : H b with
        | none => exact un.keep b o e q (fun z => (List.not_mem_nil z).elim) (fun z => (List.not_mem_nil z).elim)
        | some u =>
          rcases hO b with z | ⟨ob, xs, z⟩
          · rw [q] at z
            cases z
          · obtain ⟨e1, _⟩ := hok b _ z
            obtain ⟨e2, _⟩ := hok' b _ (un.frzs b ob _ z)
            rw [e] at e1
            cases e1
            exact e2
  cases hk : K.lookup a with
  | some o =>
    have e := KX a o hk
    rw [ha] at e
    cases e
    exact core (fun _ => none) (fun _ => .inl rfl)
      (.inr ⟨_, vs.toArray, _, hk, rfl, rfl, rfl, by rw [List.size_toArray, lenV]; exact hl, by simpa using rv⟩)
      (fun b u z => nomatch z) (fun b z => (z rfl).elim) (fun z => (z rfl).elim)
  | none =>
    refine core (fun b => if b = a then some (.frz { cls := .type "list", data := .seq vs.toArray } (.lst (ns.map V.int))) else none)
      ?_ (.inl (.inr ⟨{ cls := .type "list", data := .seq vs.toArray }, if_pos rfl⟩)) ?_ ?_ (fun _ => hk)
    · intro b
      by_cases hb : b = a
      · exact .inr ⟨_, _, if_pos hb⟩
      · exact .inl (if_neg hb)
    · intro b u z
      by_cases hb : b = a
      · have z' := (if_pos hb).symm.trans z
        cases z'
        subst hb
        exact ⟨ha, by rw [List.length_map]; exact hl, vs, _, rv, ha⟩
      · have z' := (if_neg hb).symm.trans z
        cases z'
    · intro b z
      by_cases hb : b = a
      · exact hb
      · exact (z (if_neg hb)).elim
end

theorem walkS {l : PySem.W.OpenLaw} {n k : Nat} {q : Program} {loose : List Str} {XP : (Str → Option Value) → Heap → Prop}
    {YP : World → Heap → Prop} {d : DefRec} {K : Params → PySem.W.Frag} {CX : World → CXT} {sp : World → Sp} {x : Str}
    (hi : PyProof.Rows.importsNone q = true) (hn : l.most = some n) (hn2 : n ≤ sizeLine) (hdf : d.params.defaults = []) (hr : Room k callerA)
    (hY : ∀ (w : World) (h : Heap), YP w h → (K w.params).In h)
    (F : ∀ (w : World) (mg : Str → Option Value) (fa : Addr) (h : Heap), (K w.params).In h → h.Ns mainGlobals mg →
      mg d.name = some (.ref fa) → ∃ fd : FuncData, (∀ (s : Shared) (u : Value), BindsTo s fd ⟨[u], []⟩ [(x, u)]) ∧
        ∀ base : Heap, (K w.params).In base → base.Ns mainGlobals mg → SysAt base →
          FnG l.prog w (K w.params) mg base (CX w) k fa fd [x] (sp w))
    (hsp : ∀ (w : World) (H : Hp) (a : Addr) (ns : List Int), ns.length ≤ n → Only H →
      SqL (K w.params) H a (ns.map V.int) → sp w [.ref a] H (fun v _ => v = .bl true) fun _ _ _ => False)
    (hCX : ∀ (w : World) (H : Hp) (s : Shared) (e : Value) (s' : Shared), CX w [] H s (fun _ _ _ => False) e s' → False) :
    PySem.W.WalkO q loose XP YP l.row.toRowW d [] (fun f vs => PySem.call f vs) := by
  refine Att.attach_call hn hdf ?_
  intro w s0 s1 mg mb fa o pm cd doc a vs ns G Y ho hd hcd hmg hobj hints hlen hg
  obtain ⟨fd, hb, hF⟩ := F w mg fa _ (hY w _ Y) G.T.g hmg
  exact law_callS (hY w _ Y) G.T.g G.T.b G.T.builtins G.T.nolimit hg hobj hints (Nat.le_trans hlen hn2) hr (by obtain ⟨mm, hm, _⟩ := (G.T.seer hi).mods; exact ⟨mm, hm⟩) hF hb
    (fun H hO hS => hsp w H a ns hlen hO hS) (fun H e s' => hCX w H s1 e s')

end Nw
/-! Any data of bounded size: put together, cut, looked up. -/
namespace Nw
open PySem PySem.Spec PyProof.Rows L2
def rTupQ (K : PySem.W.Frag) : List V → Hp → VK → Prop := fun xs H Q => ∃ p ys, xs = [.ref p] ∧ ((SqL K H p ys ∧ ∀ l, H l = none → Q (.ref l) (upd H l (.tup ys))) ∨ (SqT K H p ys ∧ Q (.ref p) H))
theorem call_tupleK {X : Cx} (K : PySem.W.Frag) (hK : X.K = K := by rfl) : CallR X (.type "tuple") (rTupQ K) := by
  subst hK
  exact call_tuple_of
def shB (n k : Nat) (d : PyData) : Bool := d.showable && (lf 41 d && (decide (nodes d ≤ n) && decide (d.depth ≤ k)))
theorem shB_sh {n k : Nat} {d : PyData} (h : shB n k d = true) : Sh 41 n k d := by
  simp only [shB, Bool.and_eq_true, decide_eq_true_eq] at h
  exact ⟨h.1, h.2.1, h.2.2.1, h.2.2.2⟩
theorem sh_all {n k : Nat} {ds : List PyData} (h : ds.all (shB n k) = true) : ∀ x ∈ ds, Sh 41 n k x := fun x hx => shB_sh (List.all_eq_true.mp h x hx)
section
variable {K : PySem.W.Frag} {H H' : Hp} {n k m j : Nat}
/-- some data of so many nodes, so deep -/
def Gd (K : PySem.W.Frag) (H : Hp) (n k : Nat) (v : V) : Prop := ∃ d, Da K H d v ∧ Sh 41 n k d
def GdAll (K : PySem.W.Frag) (H : Hp) (n k : Nat) (vs : List V) : Prop := ∃ ds, DaAll K H ds vs ∧ ∀ x ∈ ds, Sh 41 n k x
theorem Gd.up {v : V} (h : Gd K H n k v) (e : Ex H H') : Gd K H' n k v := by
  obtain ⟨d, h1, h2⟩ := h
  exact ⟨d, h1.up e, h2⟩
theorem GdAll.up {vs : List V} (h : GdAll K H n k vs) (e : Ex H H') : GdAll K H' n k vs := by
  obtain ⟨d, h1, h2⟩ := h
  exact ⟨d, h1.up e, h2⟩
theorem Gd.wide {v : V} (h : Gd K H n k v) (hn : n ≤ m) (hk : k ≤ j) : Gd K H m j v := by
  obtain ⟨d, h1, h2⟩ := h
  exact ⟨d, h1, h2.wide hn hk⟩
theorem GdAll.wide {vs : List V} (h : GdAll K H n k vs) (hn : n ≤ m) (hk : k ≤ j) : GdAll K H m j vs := by
  obtain ⟨d, h1, h2⟩ := h
  exact ⟨d, h1, fun x hx => (h2 x hx).wide hn hk⟩
theorem GdAll.nil : GdAll K H n k [] := ⟨[], rfl, fun x hx => by cases hx⟩
theorem GdAll.cons {v : V} {vs : List V} (h : Gd K H n k v) (t : GdAll K H n k vs) : GdAll K H n k (v :: vs) := by
  obtain ⟨d, h1, h2⟩ := h
  obtain ⟨ds, t1, t2⟩ := t
  refine ⟨d :: ds, ⟨_, _, rfl, h1, t1⟩, fun x hx => ?_⟩
  rcases List.mem_cons.mp hx with rfl | hx
  · exact h2
  · exact t2 x hx
theorem GdAll.at {vs : List V} {i : Nat} {x : V} (h : GdAll K H n k vs) (hx : vs[i]? = some x) : Gd K H n k x := by
  obtain ⟨ds, h1, h2⟩ := h
  obtain ⟨d, hd, hdx⟩ := h1.at' hx
  exact ⟨d, hdx, h2 d (List.mem_of_getElem? hd)⟩
theorem GdAll.app {vs ws : List V} (h : GdAll K H n k vs) (g : GdAll K H n k ws) : GdAll K H n k (vs ++ ws) := by
  obtain ⟨ds, h1, h2⟩ := h
  obtain ⟨es, g1, g2⟩ := g
  refine ⟨ds ++ es, h1.app g1, fun x hx => ?_⟩
  rcases List.mem_append.mp hx with hx | hx
  · exact h2 x hx
  · exact g2 x hx
theorem DaAll.of_mem : ∀ {ds : List PyData} {vs ws : List V}, DaAll K H ds vs → (∀ x ∈ ws, x ∈ vs) → ∃ es, DaAll K H es ws ∧ ∀ e ∈ es, e ∈ ds
  | ds, vs, [], _, _ => ⟨[], rfl, fun e he => by cases he⟩
  | ds, vs, w :: ws, h, hm => by
    obtain ⟨es, h1, h2⟩ := DaAll.of_mem h (ws := ws) fun x hx => hm x (List.mem_cons_of_mem _ hx)
    obtain ⟨d, hd, hdw⟩ := h.mem w (hm w (by simp))
    refine ⟨d :: es, ⟨_, _, rfl, hdw, h1⟩, fun e he => ?_⟩
    rcases List.mem_cons.mp he with rfl | he
    · exact hd
    · exact h2 e he
theorem GdAll.sub {vs ws : List V} (h : GdAll K H n k vs) (hm : ∀ x ∈ ws, x ∈ vs) : GdAll K H n k ws := by
  obtain ⟨ds, h1, h2⟩ := h
  obtain ⟨es, g1, g2⟩ := DaAll.of_mem h1 hm
  exact ⟨es, g1, fun x hx => h2 x (g2 x hx)⟩
theorem GdAll.cut {vs : List V} {lo hi : Option Int} (h : GdAll K H n k vs) : GdAll K H n k (cutV vs lo hi) := h.sub fun x hx => List.mem_of_mem_drop (List.mem_of_mem_take hx)
theorem GdAll.rev {vs : List V} (h : GdAll K H n k vs) : GdAll K H n k vs.reverse := h.sub fun x hx => List.mem_reverse.mp hx
theorem Gd.list {a : Addr} {vs : List V} (h : H a = some (.lst vs)) (g : GdAll K H n k vs) (hl : vs.length ≤ m) (hm : m ≤ 100000) : Gd K H (1 + n * m) (k + 1) (.ref a) := by
  obtain ⟨ds, h1, h2⟩ := g
  have e := h1.len
  exact ⟨.list ds, ⟨a, vs, rfl, h, h1, by omega⟩, Sh.list h2 (by omega)⟩
theorem Gd.tup {a : Addr} {vs : List V} (h : H a = some (.tup vs)) (g : GdAll K H n k vs) (hl : vs.length ≤ m) : Gd K H (1 + n * m) (k + 1) (.ref a) := by
  obtain ⟨ds, h1, h2⟩ := g
  have e := h1.len
  exact ⟨.tuple ds, ⟨a, vs, rfl, h, h1⟩, Sh.tuple h2 (by omega)⟩
theorem Gd.non : Gd K H (n + 1) k .non := ⟨.none, rfl, ⟨rfl, rfl, by simp only [nodes]; omega, by simp only [PyData.depth]; omega⟩⟩
theorem Gd.bl {b : Bool} : Gd K H (n + 1) k (.bl b) := ⟨.bool b, rfl, ⟨rfl, rfl, by simp only [nodes]; omega, by simp only [PyData.depth]; omega⟩⟩
theorem Gd.int {i : Int} (h : i.natAbs < 10000000000000000000000000000000000000000) : Gd K H (n + 1) k (.int i) :=
  ⟨.int i, rfl, (Sh.int (k := 40) (by decide) (small40 h).1 (small40 h).2).wide (by omega) (by omega)⟩
theorem Gd.str {x : Str} (h : (PyData.shown (.str x)).length ≤ 41) : Gd K H (n + 1) k (.str x) :=
  ⟨.str x, rfl, ⟨rfl, by simpa only [lf, decide_eq_true_eq] using h, by simp only [nodes]; omega, by simp only [PyData.depth]; omega⟩⟩
theorem Gd.dict0 {a : Addr} (h : H a = some (.dK [])) : Gd K H (n + 1) (k + 1) (.ref a) :=
  ⟨.dict [], ⟨a, [], rfl, h, rfl, rfl⟩, ⟨rfl, rfl, by simp only [nodes, nodesKv]; omega, by simp only [PyData.depth, PyData.depthKv]; omega⟩⟩
/-- a dict of one text and one value -/
theorem Gd.dict1 {a : Addr} {x : Str} {v : V} (h : H a = some (.dK [(Sum.inr x, v)])) (hx : (PyData.shown (.str x)).length ≤ 41) (g : Gd K H n k v) : Gd K H (n + 2) (k + 1) (.ref a) := by
  obtain ⟨d, h1, h2⟩ := g
  refine ⟨.dict [(.str x, d)], ⟨a, _, rfl, h, rfl, _, _, rfl, h1, rfl⟩, ⟨?_, ?_, ?_, ?_⟩⟩
  · have := h2.s
    simp only [PyData.showable, PyData.showableKv, this, Bool.and_true]
  · have := h2.l
    simp only [lf, lfKv, this, Bool.and_true, Bool.and_eq_true, decide_eq_true_eq]
    exact hx
  · have := h2.n
    simp only [nodes, nodesKv]
    omega
  · have := h2.k
    simp only [PyData.depth, PyData.depthKv]
    omega
theorem Gd.of {d : PyData} {v : V} (h : Da K H d v) (hs : Sh 41 n k d) : Gd K H n k v := ⟨d, h, hs⟩
end
end Nw
/-! What pairs lead to; rooms. -/
namespace Nw
open PySem PySem.Spec PyProof.Rows L2
inductive Rch (ps : List (Int × Int)) : Int → Int → Prop
  | here (a : Int) : Rch ps a a
  | step {a b c : Int} : (a, b) ∈ ps → Rch ps b c → Rch ps a c
theorem Rch.trans {ps : List (Int × Int)} {a b c : Int} (h : Rch ps a b) (g : Rch ps b c) : Rch ps a c := by
  induction h with
  | here => exact g
  | step e _ ih => exact .step e (ih g)
theorem Rch.snoc {ps : List (Int × Int)} {a b c : Int} (h : Rch ps a b) (g : (b, c) ∈ ps) : Rch ps a c := h.trans (.step g (.here c))
theorem Rch.inn {ps : List (Int × Int)} {n a b : Int} (hp : ∀ p ∈ ps, (0 ≤ p.1 ∧ p.1 < n) ∧ (0 ≤ p.2 ∧ p.2 < n)) (h : Rch ps a b) (ha : 0 ≤ a ∧ a < n) : 0 ≤ b ∧ b < n := by
  induction h with
  | here => exact ha
  | step e _ ih => exact ih (hp _ e).2
theorem Rch.inn' {ps : List (Int × Int)} {n a b : Int} (hp : ∀ p ∈ ps, (0 ≤ p.1 ∧ p.1 < n) ∧ (0 ≤ p.2 ∧ p.2 < n)) (h : Rch ps a b) (hb : 0 ≤ b ∧ b < n) : 0 ≤ a ∧ a < n := by
  cases h with
  | here => exact hb
  | step e _ => exact (hp _ e).1
theorem Rch.closed {ps : List (Int × Int)} {P : Int → Prop} (hc : ∀ a b, P a → (a, b) ∈ ps → P b) {a c : Int} (h : Rch ps a c) : P a → P c := by
  induction h with
  | here => exact fun h => h
  | step e _ ih => exact fun h => ih (hc _ _ h e)
/-- by at most k pairs -/
def RchN (ps : List (Int × Int)) : Nat → Int → Int → Prop
  | 0, a, c => a = c
  | k + 1, a, c => a = c ∨ ∃ b, (a, b) ∈ ps ∧ RchN ps k b c
theorem RchN.rch {ps : List (Int × Int)} : ∀ {k : Nat} {a c : Int}, RchN ps k a c → Rch ps a c
  | 0, a, _, h => by
    cases h
    exact .here a
  | k + 1, a, c, h => by
    rcases h with rfl | ⟨b, e, h⟩
    · exact .here a
    · exact .step e h.rch
theorem RchN.more {ps : List (Int × Int)} : ∀ {k : Nat} {a c : Int}, RchN ps k a c → RchN ps (k + 1) a c
  | 0, _, _, h => .inl h
  | k + 1, _, _, h => by
    rcases h with h | ⟨b, e, h⟩
    · exact .inl h
    · exact .inr ⟨b, e, h.more⟩
theorem RchN.le {ps : List (Int × Int)} {k m : Nat} {a c : Int} (h : RchN ps k a c) (l : k ≤ m) : RchN ps m a c := by
  induction m with
  | zero =>
    obtain rfl : k = 0 := by omega
    exact h
  | succ m ih =>
    by_cases e : k = m + 1
    · rw [← e]
      exact h
    · exact (ih (by omega)).more
theorem filter_grow {α : Type} {p q : α → Bool} (h : ∀ x, p x = true → q x = true) : ∀ {l : List α}, (l.filter p).length ≤ (l.filter q).length
  | [] => Nat.le_refl _
  | x :: l => by
    have ih := filter_grow (p := p) (q := q) h (l := l)
    rw [List.filter_cons, List.filter_cons]
    by_cases hp : p x = true
    · rw [if_pos hp, if_pos (h x hp)]
      exact Nat.succ_le_succ ih
    · rw [if_neg hp]
      split
      · rw [List.length_cons]
        omega
      · exact ih
theorem filter_more {α : Type} {p q : α → Bool} (h : ∀ x, p x = true → q x = true) : ∀ {l : List α} {y : α}, y ∈ l → q y = true → p y = false → (l.filter p).length < (l.filter q).length
  | [], _, hy, _, _ => by cases hy
  | x :: l, y, hy, hq, hp => by
    rw [List.filter_cons, List.filter_cons]
    rcases List.mem_cons.mp hy with rfl | hy
    · rw [if_pos hq, if_neg (by rw [hp]; decide), List.length_cons]
      have := filter_grow h (l := l)
      omega
    · have ih := filter_more h hy hq hp
      by_cases hx : p x = true
      · rw [if_pos hx, if_pos (h x hx), List.length_cons, List.length_cons]
        omega
      · rw [if_neg hx]
        split
        · rw [List.length_cons]
          omega
        · exact ih
section
open Classical
noncomputable def cntR (ps : List (Int × Int)) (n : Int) (c : Int) (k : Nat) : Nat := ((iota n).filter fun a => decide (RchN ps k a c)).length
theorem cntR_le (ps : List (Int × Int)) (n c : Int) (k : Nat) : cntR ps n c k ≤ n.toNat := by
  unfold cntR
  refine Nat.le_trans (List.length_filter_le _ _) ?_
  rw [List.length_map, List.length_range]
  exact Nat.le_refl _
/-- n pairs are enough -/
theorem Rch.few {ps : List (Int × Int)} {n : Int} (hp : ∀ p ∈ ps, (0 ≤ p.1 ∧ p.1 < n) ∧ (0 ≤ p.2 ∧ p.2 < n)) {a c : Int} (h : Rch ps a c) (hc : 0 ≤ c ∧ c < n) : RchN ps n.toNat a c := by
  have key : ∀ k, (∃ j, j ≤ k ∧ ∀ b, RchN ps (j + 1) b c → RchN ps j b c) ∨ k + 2 ≤ cntR ps n c (k + 1) := by
    intro k
    induction k with
    | zero =>
      by_cases st : ∀ b, RchN ps 1 b c → RchN ps 0 b c
      · exact .inl ⟨0, Nat.le_refl _, st⟩
      · obtain ⟨b, hb⟩ := Classical.not_forall.mp st
        obtain ⟨hb1, hb0⟩ := Classical.not_imp.mp hb
        refine .inr ?_
        have h1 : 1 ≤ cntR ps n c 0 := by
          unfold cntR
          refine List.length_pos_iff.mpr fun e => ?_
          have : c ∈ (iota n).filter fun a => decide (RchN ps 0 a c) := List.mem_filter.mpr ⟨mem_iota.mpr hc, decide_eq_true rfl⟩
          rw [e] at this
          cases this
        have hin := hb1.rch.inn' hp hc
        show 0 + 2 ≤ cntR ps n c 1
        have h2 : cntR ps n c 0 < cntR ps n c 1 := filter_more (fun x hx => decide_eq_true (of_decide_eq_true hx : RchN ps 0 x c).more) (mem_iota.mpr hin) (decide_eq_true hb1) (decide_eq_false hb0)
        omega
    | succ k ih =>
      rcases ih with ⟨j, hj, st⟩ | ih
      · exact .inl ⟨j, by omega, st⟩
      · by_cases st : ∀ b, RchN ps (k + 2) b c → RchN ps (k + 1) b c
        · exact .inl ⟨k + 1, Nat.le_refl _, st⟩
        · obtain ⟨b, hb⟩ := Classical.not_forall.mp st
          obtain ⟨hb1, hb0⟩ := Classical.not_imp.mp hb
          refine .inr ?_
          have hin := hb1.rch.inn' hp hc
          show k + 1 + 2 ≤ cntR ps n c (k + 2)
          have h2 : cntR ps n c (k + 1) < cntR ps n c (k + 2) := filter_more (fun x hx => decide_eq_true (of_decide_eq_true hx : RchN ps (k + 1) x c).more) (mem_iota.mpr hin) (decide_eq_true hb1) (decide_eq_false hb0)
          omega
  rcases key n.toNat with ⟨j, hj, st⟩ | h2
  · refine RchN.le (k := j) ?_ hj
    clear hj
    induction h with
    | here c =>
      cases j with
      | zero => exact rfl
      | succ j => exact .inl rfl
    | step e g ih => exact st _ (.inr ⟨_, e, ih hc key st⟩)
  · have := cntR_le ps n c (n.toNat + 1)
    omega
/-! ### rooms -/
def Mu (ps : List (Int × Int)) (a b : Int) : Prop := Rch ps a b ∧ Rch ps b a
noncomputable def roomOf (ps : List (Int × Int)) (n a : Int) : List Int := (iota n).filter fun b => decide (Mu ps a b)
theorem mem_room {ps : List (Int × Int)} {n a b : Int} : b ∈ roomOf ps n a ↔ (0 ≤ b ∧ b < n) ∧ Mu ps a b := by
  unfold roomOf
  rw [List.mem_filter, mem_iota, decide_eq_true_eq]
theorem asc_filter {l : List Int} {p : Int → Bool} (h : ascB ltIn l = true) : ascB ltIn (l.filter p) = true := asc_pw ((pwI_asc h).filter p)
theorem asc_room {ps : List (Int × Int)} {n a : Int} : ascB ltIn (roomOf ps n a) = true := asc_filter (asc_iota n)
theorem room_len {ps : List (Int × Int)} {n a : Int} : (roomOf ps n a).length ≤ n.toNat := by
  unfold roomOf
  refine Nat.le_trans (List.length_filter_le _ _) ?_
  rw [List.length_map, List.length_range]
  exact Nat.le_refl _
theorem room_self {ps : List (Int × Int)} {n a : Int} (h : 0 ≤ a ∧ a < n) : a ∈ roomOf ps n a := mem_room.mpr ⟨h, .here a, .here a⟩
/-- a room stands at its least quantity -/
noncomputable def isHead (ps : List (Int × Int)) (n a : Int) : Bool := decide ((roomOf ps n a).head? = some a)
noncomputable def roomsTo (ps : List (Int × Int)) (n : Int) (k : Nat) : List (List Int) := (((iota n).take k).filter (isHead ps n)).map (roomOf ps n)
noncomputable def roomsOf (ps : List (Int × Int)) (n : Int) : List (List Int) := roomsTo ps n n.toNat
theorem roomsTo_step {ps : List (Int × Int)} {n : Int} {k : Nat} (hk : (k : Int) < n) : roomsTo ps n (k + 1) = if isHead ps n (k : Int) = true then roomsTo ps n k ++ [roomOf ps n (k : Int)] else roomsTo ps n k := by
  unfold roomsTo
  rw [take_snoc (iota_at hk), List.filter_append, List.map_append, List.filter_cons, List.filter_nil]
  by_cases h : isHead ps n (k : Int) = true
  · rw [if_pos h, if_pos h]
    rfl
  · rw [if_neg h, if_neg h]
    simp
theorem mem_rooms {ps : List (Int × Int)} {n : Int} {k : Nat} {r : List Int} (h : r ∈ roomsTo ps n k) : ∃ a, (0 ≤ a ∧ a < n) ∧ r = roomOf ps n a := by
  obtain ⟨a, ha, rfl⟩ := List.mem_map.mp h
  exact ⟨a, mem_iota.mp (List.mem_of_mem_take (List.mem_filter.mp ha).1), rfl⟩
theorem roomsTo_len {ps : List (Int × Int)} {n : Int} {k : Nat} : (roomsTo ps n k).length ≤ k := by
  unfold roomsTo
  rw [List.length_map]
  refine Nat.le_trans (List.length_filter_le _ _) ?_
  rw [List.length_take]
  omega
theorem Mu.symm {ps : List (Int × Int)} {a b : Int} (h : Mu ps a b) : Mu ps b a := ⟨h.2, h.1⟩
theorem Mu.trans {ps : List (Int × Int)} {a b c : Int} (h : Mu ps a b) (g : Mu ps b c) : Mu ps a c := ⟨h.1.trans g.1, g.2.trans h.2⟩
/-- those into which no pair leads -/
def isFirst (ps : List (Int × Int)) (r : List Int) : Bool := (ps.filter fun p => r.contains p.2 && !r.contains p.1).isEmpty
noncomputable def firstOf (ps : List (Int × Int)) (n : Int) : List (List Int) := (roomsOf ps n).filter (isFirst ps)
def inOne (rs : List (List Int)) (s t : Int) : Bool := rs.any fun r => r.contains s && r.contains t
theorem one_room {ps : List (Int × Int)} {n s t : Int} {r : List Int} (hr : r ∈ roomsOf ps n) (ht : t ∈ r) : inOne (roomsOf ps n) s t = r.contains s := by
  rw [Bool.eq_iff_iff]
  unfold inOne
  rw [List.any_eq_true, List.contains_iff_mem]
  constructor
  · rintro ⟨r', hr', h⟩
    rw [Bool.and_eq_true, List.contains_iff_mem, List.contains_iff_mem] at h
    obtain ⟨a, ha, rfl⟩ := mem_rooms hr
    obtain ⟨b, hb, rfl⟩ := mem_rooms hr'
    have h1 := mem_room.mp ht
    have h2 := mem_room.mp h.1
    have h3 := mem_room.mp h.2
    exact mem_room.mpr ⟨h2.1, (h1.2.trans h3.2.symm).trans h2.2⟩
  · intro h
    exact ⟨r, hr, by rw [Bool.and_eq_true, List.contains_iff_mem, List.contains_iff_mem]; exact ⟨h, ht⟩⟩
theorem first_eq {ps : List (Int × Int)} {n : Int} {r : List Int} (hr : r ∈ roomsOf ps n) : isFirst ps r = !(r.any fun q => ((ps.filter fun p => !inOne (roomsOf ps n) p.1 p.2).map (·.2)).contains q) := by
  rw [Bool.eq_iff_iff, Bool.not_eq_true', ← Bool.not_eq_true, List.any_eq_true]
  unfold isFirst
  rw [List.isEmpty_iff, List.filter_eq_nil_iff]
  constructor
  · rintro h ⟨q, hq, hc⟩
    rw [List.contains_iff_mem] at hc
    obtain ⟨p, hp, rfl⟩ := List.mem_map.mp hc
    obtain ⟨hp1, hp2⟩ := List.mem_filter.mp hp
    rw [one_room hr hq] at hp2
    refine h p hp1 ?_
    rw [Bool.and_eq_true, List.contains_iff_mem]
    exact ⟨hq, hp2⟩
  · intro h p hp hc
    rw [Bool.and_eq_true, List.contains_iff_mem] at hc
    refine h ⟨p.2, hc.1, ?_⟩
    rw [List.contains_iff_mem]
    refine List.mem_map.mpr ⟨p, List.mem_filter.mpr ⟨hp, ?_⟩, rfl⟩
    rw [one_room hr hc.1]
    exact hc.2
theorem room_head {ps : List (Int × Int)} {n a m : Int} (hm : m ∈ roomOf ps n a) (hl : ∀ y ∈ roomOf ps n a, m ≤ y) : (roomOf ps n a).head? = some m := by
  have ha := asc_room (ps := ps) (n := n) (a := a)
  generalize roomOf ps n a = r at hm hl ha
  cases r with
  | nil => cases hm
  | cons x r =>
    obtain ⟨h1, _⟩ := ascI_tail ha
    rcases List.mem_cons.mp hm with rfl | hm
    · rfl
    · have h2 := ltIn_yes (h1 m hm)
      have h3 := hl x (by simp)
      omega
end
end Nw
/-! Rules for bits, dicts and sets of tuples as they are wanted here. -/
namespace Nw
open PySem PySem.Spec PyProof.Rows L2
section
variable {X : Cx}
theorem op_orB : OpR X (binaryOp .BitOr) (fun x y H Q => ∃ n m : Nat, x = .int (n : Int) ∧ y = .int (m : Int) ∧ Q (.int ((n ||| m : Nat) : Int)) H) := by
  intro pins s σ H x y v u Q I rx ry h
  obtain ⟨n, m, rfl, rfl, q⟩ := h
  refine op_or pins s σ H _ _ v u Q I rx ry ⟨_, _, rfl, rfl, ?_⟩
  show Q (.int (Builtin.bitOr (n : Int) (m : Int))) H
  rw [bitOr_nn (Int.natCast_nonneg _) (Int.natCast_nonneg _)]
  exact q
theorem ps_dputK {k : Nat} {o i value : Expr} {td ty tv : TE} {pos pos' : Pos} (hr : Room k X.A) (ho : PE X o td) (hi : PE X i ty) (hv : PE X value tv) (hs : swapsWith value (some (.Subscript o i pos')) pos.line X.env = pure false) :
    PS X (.Assign [.Subscript o i pos'] value pos) (sDPut td ty tv) := ps_dput (by have := hr.un; omega) ho hi hv hs
theorem pe_dIn {k : Nat} {o i : Expr} {td ty : TE} {pos : Pos} (hr : Room k X.A) (hi : PE X i ty) (ho : PE X o td) (hm : behindInMarks .In o = false := by rfl) : PE X (.Compare i [.In] [o] pos) (tDIn ty td) := pe_cmp (pc_din (by have := hr.un; omega) hi ho) hm
theorem pt_dIn {k : Nat} {o i : Expr} {td ty : TE} {pos : Pos} (hr : Room k X.A) (hi : PE X i ty) (ho : PE X o td) (hm : behindInMarks .In o = false := by rfl) : PT X (.Compare i [.In] [o] pos) (tB (tDIn ty td)) := pt_cmp (pc_din (by have := hr.un; omega) hi ho) hm
theorem pt_dNotIn {k : Nat} {o i : Expr} {td ty : TE} {pos : Pos} (hr : Room k X.A) (hi : PE X i ty) (ho : PE X o td) (hm : behindInMarks .NotIn o = false := by rfl) : PT X (.Compare i [.NotIn] [o] pos) (tB (tDNotIn ty td)) := pt_cmp (pc_dnotin (by have := hr.un; omega) hi ho) hm
end
/-- a dict that holds some ints -/
def visK (vis : List Int) : List (Key × V) := vis.map fun x => (Sum.inl x, V.bl true)
theorem visK_get {vis : List Int} {x : Int} : (valV (visK vis) (Sum.inl x)).isSome = vis.contains x := by
  unfold valV visK
  induction vis with
  | nil => rfl
  | cons y r ih =>
    rw [List.map_cons, List.find?_cons]
    by_cases h : y = x
    · subst h
      simp
    · have h1 : decide ((Sum.inl y : Key) = Sum.inl x) = false := decide_eq_false (fun e => h (Sum.inl.inj e))
      simp only [h1]
      rw [ih]
      have h2 : ¬ x = y := fun e => h e.symm
      simp [h2]
theorem visK_put {vis : List Int} {x : Int} (h : x ∉ vis) : putK (visK vis) (Sum.inl x) (V.bl true) = visK (vis ++ [x]) := by
  unfold putK visK
  rw [if_neg, List.map_append]
  · rfl
  · rw [Bool.not_eq_true, List.any_eq_false]
    intro kv hkv
    obtain ⟨y, hy, rfl⟩ := List.mem_map.mp hkv
    rw [decide_eq_true_eq]
    intro e
    exact h (Sum.inl.inj e ▸ hy)
end Nw
/-! What leads to what, by bits. -/
namespace Nw
open PySem PySem.Spec PyProof.Rows L2
theorem RchN.refl (ps : List (Int × Int)) (a : Int) : ∀ k, RchN ps k a a
  | 0 => rfl
  | _ + 1 => .inl rfl
def bitA (ms : List Nat) (a j : Nat) : Bool := (ms.getD a 0).testBit j
theorem bitA_set {ms : List Nat} {a b j m : Nat} (h : a < ms.length) : bitA (ms.set a m) b j = if a = b then m.testBit j else bitA ms b j := by
  unfold bitA
  rw [List.getD_eq_getElem?_getD, List.getElem?_set]
  by_cases e : a = b
  · subst e
    rw [if_pos rfl, if_pos rfl, if_pos h]
    rfl
  · rw [if_neg e, if_neg e, List.getD_eq_getElem?_getD]
structure Lead (ps : List (Int × Int)) (n k : Nat) (ms : List Nat) : Prop where
  len : ms.length = n
  snd : ∀ a j : Nat, a < n → bitA ms a j = true → Rch ps (a : Int) (j : Int)
  cmp : ∀ a j : Nat, a < n → RchN ps k (a : Int) (j : Int) → bitA ms a j = true
theorem Lead.zero (ps : List (Int × Int)) (n : Nat) : Lead ps n 0 ((List.range n).map fun a => 2 ^ a) := by
  have h : ∀ a j : Nat, a < n → bitA ((List.range n).map fun a => 2 ^ a) a j = decide (a = j) := fun a j ha => by
    unfold bitA
    rw [List.getD_eq_getElem?_getD, List.getElem?_map, List.getElem?_range ha]
    exact Nat.testBit_two_pow
  refine ⟨by rw [List.length_map, List.length_range], fun a j ha hb => ?_, fun a j ha hr => ?_⟩
  · rw [h a j ha, decide_eq_true_eq] at hb
    rw [hb]
    exact .here _
  · rw [h a j ha, decide_eq_true_eq]
    have : (a : Int) = (j : Int) := hr
    omega
structure LeadI (ps : List (Int × Int)) (n k i : Nat) (ms : List Nat) : Prop extends Lead ps n k ms where
  done : ∀ (l : Nat) (p : Int × Int), l < i → ps[l]? = some p → ∀ j : Nat, RchN ps k p.2 (j : Int) → bitA ms p.1.toNat j = true
theorem LeadI.zero {ps : List (Int × Int)} {n k : Nat} {ms : List Nat} (h : Lead ps n k ms) : LeadI ps n k 0 ms := ⟨h, fun l p hl => by omega⟩
theorem LeadI.step {ps : List (Int × Int)} {n k i : Nat} {ms : List Nat} (h : LeadI ps n k i ms) {p : Int × Int} (hp : ps[i]? = some p) (hr : (0 ≤ p.1 ∧ p.1 < (n : Int)) ∧ (0 ≤ p.2 ∧ p.2 < (n : Int))) :
    LeadI ps n k (i + 1) (ms.set p.1.toNat (ms.getD p.1.toNat 0 ||| ms.getD p.2.toNat 0)) := by
  have hl : p.1.toNat < ms.length := by
    rw [h.len]
    omega
  have e1 : ((p.1.toNat : Nat) : Int) = p.1 := Int.toNat_of_nonneg hr.1.1
  have e2 : ((p.2.toNat : Nat) : Int) = p.2 := Int.toNat_of_nonneg hr.2.1
  have grow : ∀ a j : Nat, bitA ms a j = true → bitA (ms.set p.1.toNat (ms.getD p.1.toNat 0 ||| ms.getD p.2.toNat 0)) a j = true := by
    intro a j hb
    rw [bitA_set hl]
    by_cases e : p.1.toNat = a
    · rw [if_pos e, Nat.testBit_or, Bool.or_eq_true]
      refine .inl ?_
      rw [e]
      exact hb
    · rw [if_neg e]
      exact hb
  refine ⟨⟨by rw [List.length_set, h.len], fun a j ha hb => ?_, fun a j ha hc => grow a j (h.cmp a j ha hc)⟩, fun l q hl' hq j hc => ?_⟩
  · rw [bitA_set hl] at hb
    by_cases e : p.1.toNat = a
    · rw [if_pos e, Nat.testBit_or, Bool.or_eq_true] at hb
      rcases hb with hb | hb
      · exact h.snd a j ha (by rw [e] at hb; exact hb)
      · have h2 := h.snd p.2.toNat j (by omega) hb
        rw [e2] at h2
        have : (a : Int) = p.1 := by omega
        rw [this]
        exact .step (List.mem_of_getElem? hp) h2
    · rw [if_neg e] at hb
      exact h.snd a j ha hb
  · by_cases e : l = i
    · subst e
      rw [hp] at hq
      cases hq
      rw [bitA_set hl, if_pos rfl, Nat.testBit_or, Bool.or_eq_true]
      refine .inr (h.cmp p.2.toNat j (by omega) ?_)
      rw [e2]
      exact hc
    · exact grow _ _ (h.done l q (by omega) hq j hc)
theorem LeadI.fin {ps : List (Int × Int)} {n k : Nat} {ms : List Nat} (h : LeadI ps n k ps.length ms) : Lead ps n (k + 1) ms := by
  refine ⟨h.len, h.snd, fun a j ha hc => ?_⟩
  rcases hc with e | ⟨b, e, hc⟩
  · refine h.cmp a j ha ?_
    rw [e]
    exact RchN.refl _ _ _
  · obtain ⟨l, hl⟩ := List.getElem?_of_mem e
    obtain ⟨hl', _⟩ := List.getElem?_eq_some_iff.mp hl
    have := h.done l _ hl' hl j hc
    rw [Int.toNat_natCast] at this
    exact this
theorem Lead.all {ps : List (Int × Int)} {n : Nat} {ms : List Nat} (hp : ∀ p ∈ ps, (0 ≤ p.1 ∧ p.1 < (n : Int)) ∧ (0 ≤ p.2 ∧ p.2 < (n : Int))) (h : Lead ps n n ms) {a j : Nat} (ha : a < n) (hj : j < n) :
    bitA ms a j = true ↔ Rch ps (a : Int) (j : Int) := by
  refine ⟨h.snd a j ha, fun r => h.cmp a j ha ?_⟩
  have := Rch.few hp r ⟨by omega, by omega⟩
  rw [Int.toNat_natCast] at this
  exact this
end Nw
/-! Sets of pairs, sorted. -/
namespace Nw
open PySem PySem.Spec PyProof.Rows L2
section
variable {X : Cx}
theorem cr_setOfTK (K : PySem.W.Frag) (P : Program) (w : World) (hc : X.calm = true) (hu : X.A.units + 64 < cLine) (hK : X.K = K := by rfl) (hP : X.prog = P := by rfl) (hw : X.w = w := by rfl) : CallR X (.type "set") (rSetOfT K P w) := by
  subst hK hP hw
  exact cr_setOfT hc hu
theorem cr_sortedTK (K : PySem.W.Frag) (P : Program) (w : World) (hc : X.calm = true) (hK : X.K = K := by rfl) (hP : X.prog = P := by rfl) (hw : X.w = w := by rfl) : CallR X (.builtin "sorted") (rSortedT K P w) := by
  subst hK hP hw
  exact cr_sortedT hc
end
def toP : List Int → Int × Int
  | [x, y] => (x, y)
  | _ => (0, 0)
theorem asc_codes {L : List (Addr × List Int)} (hL : ∀ q ∈ L, ∃ x y : Int, q.2 = [x, y] ∧ (0 ≤ x ∧ x < 64) ∧ (0 ≤ y ∧ y < 64)) (nd : (L.map (·.2)).Nodup) (hp : L.Pairwise fun q r => TS.code 64 q.2 ≤ TS.code 64 r.2) :
    ascB ltPr (L.map fun q => toP q.2) = true := by
  refine asc_pw (List.pairwise_map.mpr ?_)
  have h1 := (List.pairwise_map.mp nd).and hp
  refine h1.imp_of_mem fun {q r} hq hr h => ?_
  obtain ⟨x, y, e, hx, hy⟩ := hL q hq
  obtain ⟨x', y', e', hx', hy'⟩ := hL r hr
  obtain ⟨h2, h3⟩ := h
  rw [e, e'] at h2 h3 ⊢
  rw [code_pair, code_pair] at h3
  have h4 : ¬ (x = x' ∧ y = y') := fun ⟨a, b⟩ => h2 (by rw [a, b])
  show ltPr (x, y) (x', y') = true
  refine ltPr_iff.mpr ?_
  show x < x' ∨ (x = x' ∧ y < y')
  omega
/-- the one before, or the last -/
theorem atI_prev {r : List Int} {j : Nat} (h : j < r.length) : ∃ a ∈ r, atI (r.map V.int) (0 + (j : Int) - 1) = some (.int a) := by
  cases j with
  | zero =>
    rcases List.eq_nil_or_concat r with rfl | ⟨l, x, rfl⟩
    · simp at h
    · refine ⟨x, by simp, ?_⟩
      rw [List.concat_eq_append, List.map_append]
      exact atI_last _ _
  | succ j =>
    have h1 := List.getElem?_eq_getElem (show j < r.length by omega)
    refine ⟨r[j], List.getElem_mem _, ?_⟩
    refine atI_int (by omega) ?_
    rw [show (0 + ((j + 1 : Nat) : Int) - 1).toNat = j by omega, List.getElem?_map, h1]
    rfl
theorem cutV_map {o : List Int} {lo hi : Option Int} : cutV (o.map V.int) lo hi = ((o.drop (HT.sIx o.length 0 lo)).take (HT.sIx o.length o.length hi - HT.sIx o.length 0 lo)).map V.int := by
  unfold cutV
  rw [List.length_map, List.map_take, List.map_drop]
end Nw
/-! sorted of a dict whose keys are ints. -/
namespace Nw
open PySem PySem.Spec PyProof.Rows L2
/-- what sorted asks of such a dict -/
def rSortedD : List V → Hp → VK → Prop := fun vs H Q => ∃ (a : Addr) (kvs : List (Key × V)) (is : List Int), vs = [V.ref a] ∧ H a = some (.dK kvs) ∧ kvs.map (·.1) = is.map Sum.inl ∧
  ∀ (js : List Int) (p : Addr), js.Perm is → js.Pairwise (· ≤ ·) → H p = none → Q (.ref p) (upd H p (.lst (js.map V.int)))
theorem ints_by : ∀ {us : List Value} {is : List Int}, us.length = is.length → (∀ (j : Nat) (u : Value) (i : Int), us[j]? = some u → is[j]? = some i → ∃ t, u = Value.int i t) → IntsAre us is
  | [], [], _, _ => .nil
  | [], _ :: _, h, _ => by simp at h
  | _ :: _, [], h, _ => by simp at h
  | u :: us, i :: is, h, f => by
    obtain ⟨t, rfl⟩ := f 0 u i rfl rfl
    exact .cons i t (ints_by (by simpa using h) fun j v k h1 h2 => f (j + 1) v k (by simpa using h1) (by simpa using h2))
section
variable {X : Cx}
theorem cr_sortedDK (hc : X.calm = true) : CallR X (.builtin "sorted") rSortedD := by
  intro pins s σ H vs us Q I r h
  obtain ⟨a, kvs, is, rfl, ha, hv, q⟩ := h
  rw [Vals.ref1 r]
  obtain ⟨hz, lo, es, rk, hd⟩ := (show ObjOk X.prog X.w H s.heap a (.dK kvs) from I.hok a _ ha)
  obtain ⟨ep, hat⟩ := hd.dictAt
  have hl : kvs.length = es.length := Paired.length rk
  have hkeys : es.map (·.1) = is.map Sum.inl := (KV.keys rk).symm.trans hv
  have hil : is.length = es.length := by
    have e := congrArg List.length hkeys
    rw [List.length_map, List.length_map] at e
    exact e.symm
  apply Calls.call_function_entry (kind_sorted) (plain_sorted) (entry_sorted) (args_sorted1 _)
  unfold Builtin.«sorted»
  apply wpAny_bind (m := checkCount "sorted" 1 1 _)
  apply wpAny_pure
  apply wpAny_bind
  refine PySem.W.kdu_collect (PySem.W.kdl_dict (knd := mixKind X.prog X.w) (kvs := es) (ep := ep) lo) (I.ok.hd hc) hat (by rw [← hl]; exact hz) (fun h1 tk acc hk hacc => ?_)
  have hlen : acc.toList.length = is.length := by
    rw [Array.length_toList, hacc.1, hil]
  have hi : IntsAre acc.toList is := ints_by hlen (fun j u i e1 e2 => by
    obtain ⟨k, x, hx, hkk⟩ := hacc.2 j u (by rw [← Array.getElem?_toList]; exact e1)
    have e3 : (es.map (·.1))[j]? = some k := by
      rw [List.getElem?_map, hx]
      rfl
    rw [hkeys, List.getElem?_map, e2] at e3
    cases e3
    exact Value.isInt_shape (k := i) (v := u) hkk)
  have hz1 : acc.toList.length ≤ sizeLine := by
    rw [hlen, hil, ← hl]
    exact hz
  apply wpAny_bind
  refine wpAny_newList ?_ hz1
  have hob : (h1.push (seqObj "list" acc.toList.toArray 0)).get? h1.objs.size = some (seqObj "list" acc.toList.toArray 0) := Heap.get?_push_size _ rfl
  apply wpAny_bind
  apply wpAny_holding
  refine wpAny_call_entry (slot_list_sort) ⟨_, hob, rfl⟩ (entry_list_sort) (SrtO.list_sort_ord SrtO.swo_int hob hz1 (fun h2 => SrtO.ints_sortable hi h2) (fun out o1 o2 => ⟨_, rfl, ?_⟩)) (args_list_sort _)
  obtain ⟨k1, k2, k3⟩ := SrtO.ints_out hi o1 o2
  obtain ⟨ec, hec⟩ := sortedHeap_at (vs := acc.toList) (out := out.toArray) hob
  have hll : ((out.map SrtO.iv).map V.int).length ≤ sizeLine := by
    rw [List.length_map, k2.length_eq, ← hlen]
    exact hz1
  have keep : ∀ b u, s.heap.get? b = some u → (sortedHeap (h1.push (seqObj "list" acc.toList.toArray 0)) h1.objs.size acc.toList out.toArray).get? b = some u := by
    intro b u e
    have e1 := hk b u e
    have hlt := Heap.lt_size e1
    rw [sortedHeap_old (Nat.ne_of_lt hlt) (by rw [size_push']; exact Nat.lt_succ_of_lt hlt)]
    exact Heap.get?_push_of_some _ e1
  have hno : s.heap.get? h1.objs.size = none := by
    cases e : s.heap.get? h1.objs.size with
    | none => rfl
    | some u =>
      exact absurd (Heap.lt_size (hk _ _ e)) (Nat.lt_irrefl _)
  apply wpAny_pure
  exact ⟨_, rfl, .ref _, upd H h1.objs.size (.lst ((out.map SrtO.iv).map V.int)), I.laidN (t' := tk) keep hno (I.hok.gone hno) ⟨hll, out, ec, vals_of_ints k1, hec⟩, rfl, q _ _ k2 k3 (I.hok.gone hno)⟩
end
end Nw
/-! Tables of sets, of any size that is a power of two: each slot is met; what is laid is found again. -/
namespace Nw
open PySem PySem.Spec PyProof.Rows L2

/-! ### i -> 5 i + 1 goes through all of 2 ^ k -/
/-- 1 + 5 + 25 + .. -/
def geo : Nat → Nat
  | 0 => 0
  | n + 1 => 5 * geo n + 1
theorem geo_pow : ∀ n, 5 ^ n = 4 * geo n + 1
  | 0 => rfl
  | n + 1 => by
    have h := geo_pow n
    show 5 ^ (n + 1) = 4 * (5 * geo n + 1) + 1
    rw [Nat.pow_succ, h]
    omega
theorem geo_add (a : Nat) : ∀ d, geo (d + a) = 5 ^ a * geo d + geo a
  | 0 => by
    rw [Nat.zero_add]
    show geo a = 5 ^ a * 0 + geo a
    omega
  | d + 1 => by
    have h := geo_add a d
    have e : d + 1 + a = (d + a) + 1 := by omega
    rw [e]
    show 5 * geo (d + a) + 1 = 5 ^ a * (5 * geo d + 1) + geo a
    have k := geo_pow a
    rw [h]
    generalize 5 ^ a = x at k ⊢
    grind
theorem geo_par : ∀ d, geo d % 2 = d % 2
  | 0 => rfl
  | d + 1 => by
    have h := geo_par d
    show (5 * geo d + 1) % 2 = (d + 1) % 2
    omega
theorem dvd_odd {k a b : Nat} (h : 2 ^ k ∣ a * b) (hb : b % 2 = 1) : 2 ^ k ∣ a := by
  have c : Nat.Coprime (2 ^ k) b := by
    refine Nat.Coprime.pow_left k ?_
    rw [Nat.coprime_iff_gcd_eq_one] at *
    have e : Nat.gcd 2 b = Nat.gcd (b % 2) 2 := Nat.gcd_rec 2 b
    rw [e, hb]
    rfl
  exact c.dvd_of_dvd_mul_right h
theorem geo_dvd : ∀ k d, 2 ^ k ∣ geo d → 2 ^ k ∣ d
  | 0, d, _ => by
    rw [Nat.pow_zero]
    exact Nat.one_dvd d
  | k + 1, d, h => by
    have h2 : 2 ∣ geo d := Nat.dvd_trans ⟨2 ^ k, by rw [Nat.pow_succ, Nat.mul_comm]⟩ h
    have hp := geo_par d
    obtain ⟨e, rfl⟩ : ∃ e, d = e + e := ⟨d / 2, by omega⟩
    have h3 : geo (e + e) = 2 * (geo e * (2 * geo e + 1)) := by
      rw [geo_add e e, geo_pow e, Nat.add_mul, Nat.one_mul, Nat.mul_add, Nat.mul_one, Nat.mul_assoc 4, ← Nat.mul_assoc (geo e) 2, Nat.mul_comm (geo e) 2, Nat.mul_assoc 2]
      omega
    rw [h3, Nat.pow_succ, Nat.mul_comm (2 ^ k) 2] at h
    have h4 : 2 ^ k ∣ geo e * (2 * geo e + 1) := Nat.dvd_of_mul_dvd_mul_left (by decide) h
    obtain ⟨q, hq⟩ := geo_dvd k e (dvd_odd h4 (by omega))
    refine ⟨q, ?_⟩
    rw [Nat.pow_succ, Nat.mul_right_comm, ← hq]
    omega
/-- a mask of k bits -/
def Pw (m : Nat) : Prop := ∃ k, m + 1 = 2 ^ k ∧ 3 ≤ k
theorem Pw.odd {m : Nat} (h : Pw m) : m % 2 = 1 := by
  obtain ⟨k, e, hk⟩ := h
  obtain ⟨j, rfl⟩ : ∃ j, k = j + 1 := ⟨k - 1, by omega⟩
  rw [Nat.pow_succ] at e
  omega
theorem lcgI_form {m i : Nat} (hi : i ≤ m) : ∀ n, lcgI m i n = (5 ^ n * i + geo n) % (m + 1)
  | 0 => by
    show i = (5 ^ 0 * i + 0) % (m + 1)
    rw [Nat.pow_zero, Nat.one_mul, Nat.add_zero, Nat.mod_eq_of_lt (by omega)]
  | n + 1 => by
    show (lcgI m i n * 5 + 1) % (m + 1) = (5 ^ (n + 1) * i + (5 * geo n + 1)) % (m + 1)
    rw [lcgI_form hi n, Nat.add_mod, Nat.mul_mod, Nat.mod_mod, ← Nat.mul_mod, ← Nat.add_mod]
    congr 1
    rw [Nat.pow_succ, Nat.add_mul, Nat.mul_right_comm]
    omega
theorem lcgI_inj {m i a d : Nat} (hm : Pw m) (hi : i ≤ m) (h0 : 0 < d) (hd : d ≤ m) : lcgI m i a ≠ lcgI m i (d + a) := by
  obtain ⟨k, e, _⟩ := hm
  intro h
  rw [lcgI_form hi, lcgI_form hi] at h
  have h5 : 5 ^ (d + a) * i + geo (d + a) = (5 ^ a * i + geo a) + 5 ^ a * (geo d * (4 * i + 1)) := by
    have k1 := geo_pow d
    rw [geo_add, Nat.pow_add]
    generalize 5 ^ a = x
    generalize 5 ^ d = y at k1 ⊢
    grind
  rw [h5] at h
  have h6 : (m + 1) ∣ 5 ^ a * (geo d * (4 * i + 1)) := by
    have z := Nat.sub_mod_eq_zero_of_mod_eq h.symm
    rw [Nat.add_sub_cancel_left] at z
    exact Nat.dvd_of_mod_eq_zero z
  rw [e, Nat.mul_comm] at h6
  have h7 : (5 ^ a) % 2 = 1 := by
    have := geo_pow a
    omega
  have h8 := Nat.le_of_dvd h0 (geo_dvd k d (dvd_odd (dvd_odd h6 h7) (by omega)))
  omega
theorem lcgI_le {m i : Nat} (hi : i ≤ m) (n : Nat) : lcgI m i n ≤ m := by
  rw [lcgI_form hi]
  exact Nat.le_of_lt_succ (Nat.mod_lt _ (Nat.succ_pos _))
/-- each is met within a round -/
theorem lcgI_meets {m i j : Nat} (hm : Pw m) (hi : i ≤ m) (hj : j ≤ m) : ∃ n, n ≤ m ∧ lcgI m i n = j := by
  refine Classical.byContradiction fun no => ?_
  have nd : (j :: (List.range (m + 1)).map (lcgI m i)).Nodup := by
    refine List.nodup_cons.mpr ⟨fun hx => ?_, ?_⟩
    · obtain ⟨n, hn, e⟩ := List.mem_map.mp hx
      exact no ⟨n, Nat.le_of_lt_succ (List.mem_range.mp hn), e⟩
    · rw [List.nodup_iff_pairwise_ne, List.pairwise_map]
      refine List.Pairwise.imp_of_mem (fun {a b} ha hb hab => ?_) List.pairwise_lt_range
      have hb' := List.mem_range.mp hb
      have hab' : a < b := hab
      have e : b = (b - a) + a := by omega
      rw [e]
      exact lcgI_inj hm hi (by omega) (by omega)
  have z := nat_nodup_len _ (List.range (m + 1)) nd fun x hx => by
    rcases List.mem_cons.mp hx with e | hx
    · exact List.mem_range.mpr (by omega)
    · obtain ⟨n, _, e⟩ := List.mem_map.mp hx
      have := lcgI_le hi n
      exact List.mem_range.mpr (by omega)
  rw [List.length_cons, List.length_map, List.length_range] at z
  omega
/-- a run begins at each slot, early enough -/
theorem runs_all {m : Nat} (hm : Pw m) (h : Int) {j : Nat} (hj : j ≤ m) : ∃ n, n ≤ m + 12 ∧ runI m (SetTable.bits h) n = j := by
  obtain ⟨k, hk, e⟩ := lcgI_meets hm (runI_le m (SetTable.bits h) 12) hj
  exact ⟨12 + k, by omega, by rw [runI_tail (bits_lt h)]; exact e⟩
/-- each slot is met on the way of a hash -/
theorem way_all {m : Nat} (hm : Pw m) (h : Int) {j : Nat} (hj : j ≤ m) : ∃ k, k < 10 * SetTable.turns m ∧ way m h k = j := by
  obtain ⟨n, hn, e⟩ := runs_all hm h hj
  obtain ⟨k, hk, e2⟩ := run_nth m (SetTable.bits h) n
  refine ⟨k, by unfold SetTable.turns; omega, ?_⟩
  show (nth m (runAt m (SetTable.bits h % (m + 1)) (SetTable.bits h)) k).j = j
  rw [e2]
  exact e
/-- and none outside -/
theorem way_in (m : Nat) (h : Int) (k : Nat) : way m h k ≤ m := by
  have hi : SetTable.bits h % (m + 1) ≤ m := Nat.le_of_lt_succ (Nat.mod_lt _ (Nat.succ_pos _))
  have q := nth_in (m := m) k (runAt m (SetTable.bits h % (m + 1)) (SetTable.bits h)) (by
    have r := runEnd_bd hi
    show SetTable.bits h % (m + 1) + (SetTable.runEnd m (SetTable.bits h % (m + 1)) - SetTable.bits h % (m + 1)) ≤ m
    omega)
  exact Nat.le_trans (Nat.le_add_right _ _) q

/-! ### a table from whose slots the hashes are found again -/
/-- before its slot a hash meets taken slots only -/
def Trl (m : Nat) (js : List Nat) (q : Nat × Int) : Prop := ∃ k, way m q.2 k = q.1 ∧ ∀ c, c < k → way m q.2 c ∈ js
theorem Trl.more {m : Nat} {js js' : List Nat} {q : Nat × Int} (h : Trl m js q) (s : ∀ x ∈ js, x ∈ js') : Trl m js' q := by
  obtain ⟨k, e, z⟩ := h
  exact ⟨k, e, fun c hc => s _ (z c hc)⟩
structure Laid (t : SetTable) (hs : List Int) : Prop where
  ris : Ris t.place.toList
  dm : t.dummies = #[]
  len : t.place.toList.length = hs.length
  pw : Pw t.mask
  rd : ∀ q ∈ t.place.toList.zip hs, Trl t.mask t.place.toList q
/-- the first free slot on the way of a hash -/
theorem Laid.first {t : SetTable} {hs : List Int} (T : Laid t hs) (hl : hs.length ≤ t.mask) (h : Int) :
    ∃ K, K < 10 * SetTable.turns t.mask ∧ way t.mask h K ∉ t.place.toList ∧ ∀ c, c < K → way t.mask h c ∈ t.place.toList := by
  have hlen := T.len
  obtain ⟨j, hj, hn⟩ := st_missing t.place.toList (t.mask + 1) (by omega)
  obtain ⟨k, hk, e⟩ := way_all T.pw h (Nat.le_of_lt_succ hj)
  obtain ⟨K, h1, h2, h3⟩ := st_least (p := fun k => way t.mask h k ∉ t.place.toList) k (fun z => hn (e ▸ z))
  exact ⟨K, Nat.lt_of_le_of_lt h1 hk, h2, fun c hc => Classical.byContradiction fun z => h3 c hc z⟩
/-- what has the hash stands before it -/
theorem Laid.ahead {t : SetTable} {hs : List Int} (T : Laid t hs) {h : Int} {K i j : Nat} (hK : way t.mask h K ∉ t.place.toList) (hi : hs[i]? = some h) (hj : t.place.toList[i]? = some j) : ∃ c, c < K ∧ way t.mask h c = j := by
  obtain ⟨k, e, z⟩ := T.rd (j, h) (List.mem_of_getElem? (i := i) (by rw [List.getElem?_zip_eq_some]; exact ⟨hj, hi⟩))
  refine ⟨k, ?_, e⟩
  rcases Nat.lt_trichotomy k K with c | c | c
  · exact c
  · exact absurd (by rw [← c]; show way t.mask h k ∈ _; rw [show way t.mask h k = j from e]; exact List.mem_of_getElem? hj) hK
  · exact absurd (z K c) hK
theorem zip_put {α β : Type} {xs : List α} {ys : List β} (e : xs.length = ys.length) (p : Nat) (x : α) (y : β) {q : α × β} (h : q ∈ (xs.take p ++ x :: xs.drop p).zip (ys.take p ++ y :: ys.drop p)) : q = (x, y) ∨ q ∈ xs.zip ys := by
  have e1 : (xs.take p).length = (ys.take p).length := by rw [List.length_take, List.length_take, e]
  have e2 : xs.zip ys = (xs.take p).zip (ys.take p) ++ (xs.drop p).zip (ys.drop p) := by
    rw [← List.zip_append e1, List.take_append_drop, List.take_append_drop]
  rw [List.zip_append e1, List.zip_cons_cons] at h
  rw [e2]
  rcases List.mem_append.mp h with h | h
  · exact .inr (List.mem_append_left _ h)
  · rcases List.mem_cons.mp h with h | h
    · exact .inl h
    · exact .inr (List.mem_append_right _ h)
/-- one put in at its first free slot -/
theorem Laid.put {t : SetTable} {hs : List Int} (T : Laid t hs) {h : Int} {K : Nat} (hK : way t.mask h K ∉ t.place.toList) (hb : ∀ c, c < K → way t.mask h c ∈ t.place.toList) {j p : Nat} (ej : way t.mask h K = j) (ep : SetTable.below t.place j = p) :
    Laid (t.put j).1 (hs.take p ++ h :: hs.drop p) ∧ (t.put j).1.fill = hs.length + 1 := by
  have hsz := T.len
  have e := put_place t j
  rw [ep] at e
  have hpl : p ≤ t.place.toList.length := by
    have := (below_cut T.ris j).1
    rw [Array.length_toList]
    omega
  have hl : (t.put j).1.place.toList.length = hs.length + 1 := by
    rw [e, len_ins _ hpl, hsz]
  have up : ∀ x ∈ t.place.toList, x ∈ (t.put j).1.place.toList := fun x hx => by
    rw [e]
    exact mem_ins.2 (.inr hx)
  have hne : t.place[SetTable.below t.place j]? ≠ some j := fun z => hK (by
    rw [ej]
    exact List.mem_of_getElem? (by rw [Array.getElem?_toList]; exact z))
  refine ⟨⟨ris_insert T.ris hne, put_dm T.dm j, by rw [hl, len_ins _ (by omega)], T.pw, fun q hq => ?_⟩, ?_⟩
  · show Trl t.mask (t.put j).1.place.toList q
    rw [e] at hq
    rcases zip_put hsz p j h hq with z | z
    · rw [z]
      exact ⟨K, ej, fun c hc => up _ (hb c hc)⟩
    · exact (T.rd q z).more up
  · show (t.put j).1.place.size + (t.put j).1.dummies.size = hs.length + 1
    rw [put_dm T.dm j, ← Array.length_toList, hl]
    rfl

/-! ### a table laid anew -/
/-- who sits where, told by the slots in the order of coming -/
structure Seats (m : Nat) (js : List Nat) (hs : List Int) (ow : Array (Option Nat)) : Prop where
  sz : ow.size = m + 1
  len : js.length = hs.length
  own : ∀ j k, j ≤ m → (oAt ow j = some k ↔ js[k]? = some j)
  rd : ∀ q ∈ js.zip hs, Trl m js q
theorem Seats.start (m : Nat) : Seats m [] [] (Array.replicate (m + 1) none) := by
  refine ⟨by simp, rfl, fun j k hj => ?_, fun q hq => by simp at hq⟩
  rw [oAt_init hj]
  simp
theorem Seats.free {m : Nat} {js : List Nat} {hs : List Int} {ow : Array (Option Nat)} (W : Seats m js hs ow) {j : Nat} (hj : j ≤ m) : oAt ow j = none ↔ j ∉ js := by
  constructor
  · intro h hm
    obtain ⟨k, hk⟩ := List.mem_iff_getElem?.mp hm
    rw [(W.own j k hj).2 hk] at h
    cases h
  · intro h
    cases e : oAt ow j with
    | none => rfl
    | some k => exact absurd (List.mem_of_getElem? ((W.own j k hj).1 e)) h
/-- the next hash finds a seat -/
theorem Seats.next {m : Nat} (hm : Pw m) {js : List Nat} {hs : List Int} {ow : Array (Option Nat)} (W : Seats m js hs ow) (hl : hs.length ≤ m) (h : Int) :
    ∃ j, SetTable.layClean.free m ow (SetTable.turns m) (SetTable.bits h % (m + 1)) (SetTable.bits h) = some j ∧ Seats m (js ++ [j]) (hs ++ [h]) (ow.setIfInBounds j (some hs.length)) := by
  have hlen := W.len
  obtain ⟨j0, h0, n0⟩ := st_missing js (m + 1) (by omega)
  have h0 := Nat.le_of_lt_succ h0
  obtain ⟨n, hn, e⟩ := runs_all hm h h0
  have ew : way m h (off m (SetTable.bits h % (m + 1)) (SetTable.bits h) n) = j0 := by
    show (nth m (runAt m (SetTable.bits h % (m + 1)) (SetTable.bits h)) _).j = j0
    rw [nth_off, itL_run]
    exact e
  obtain ⟨K, k1, k2, k3⟩ := st_least (p := fun k => way m h k ∉ js) _ (fun z => n0 (ew ▸ z))
  have hK := way_in m h K
  have fK : oAt ow (way m h K) = none := (W.free hK).2 k2
  refine ⟨way m h K, free_spec m ow (SetTable.turns m) n _ _ K (by unfold SetTable.turns; omega) k1 (fun c hc => ?_) ?_, ?_⟩
  · have z : way m h c ∈ js := Classical.byContradiction fun z => k3 c hc z
    show (oAt ow (way m h c)).isNone = false
    cases y : oAt ow (way m h c) with
    | none => exact absurd z ((W.free (way_in m h c)).1 y)
    | some _ => rfl
  · show (oAt ow (way m h K)).isNone = true
    rw [fK]
    rfl
  · generalize ej : way m h K = j at hK fK k2 ⊢
    have gl : (js ++ [j])[js.length]? = some j := by
      rw [List.getElem?_append_right (Nat.le_refl _), Nat.sub_self]
      rfl
    refine ⟨by rw [Array.size_setIfInBounds]; exact W.sz, by rw [List.length_append, List.length_append, hlen]; rfl, fun j' k hj' => ?_, fun q hq => ?_⟩
    · by_cases c : j' = j
      · rw [c, oAt_set_self _ (by rw [W.sz]; omega)]
        constructor
        · intro z
          rw [← Option.some.inj z, ← hlen]
          exact gl
        · intro z
          rcases Nat.lt_trichotomy k js.length with y | y | y
          · rw [List.getElem?_append_left y] at z
            exact absurd (List.mem_of_getElem? z) k2
          · rw [y, hlen]
          · rw [List.getElem?_eq_none (by rw [List.length_append]; simp; omega)] at z
            cases z
      · rw [oAt_set_ne _ c, W.own j' k hj']
        rcases Nat.lt_trichotomy k js.length with y | y | y
        · rw [List.getElem?_append_left y]
        · rw [y, gl, List.getElem?_eq_none (Nat.le_refl _)]
          exact ⟨fun z => (nomatch z), fun z => absurd (Option.some.inj z).symm c⟩
        · rw [List.getElem?_eq_none (Nat.le_of_lt y), List.getElem?_eq_none (by rw [List.length_append]; simp; omega)]
    · rw [List.zip_append hlen] at hq
      rcases List.mem_append.mp hq with z | z
      · exact (W.rd q z).more fun x hx => List.mem_append_left _ hx
      · have z' : q = (j, h) := by simpa using z
        rw [z']
        exact ⟨K, ej, fun c hc => List.mem_append_left _ (Classical.byContradiction fun y => k3 c hc y)⟩
theorem seats_fold {m : Nat} (hm : Pw m) : ∀ (more js : List Nat) (todo hs : List Int) (ow : Array (Option Nat)), Seats m js hs ow → hs.length + todo.length ≤ m →
    ∃ js' ow', todo.foldl (stepF m) (some (ow, hs.length)) = some (ow', (hs ++ todo).length) ∧ Seats m js' (hs ++ todo) ow' := by
  intro more js todo
  induction todo generalizing js with
  | nil =>
    intro hs ow W _
    exact ⟨js, ow, by rw [List.append_nil]; rfl, by rw [List.append_nil]; exact W⟩
  | cons h todo ih =>
    intro hs ow W hl
    rw [List.length_cons] at hl
    obtain ⟨j, e, W'⟩ := W.next hm (by omega) h
    obtain ⟨js', ow', f, W2⟩ := ih _ (hs ++ [h]) _ W' (by rw [List.length_append, List.length_singleton]; omega)
    rw [List.length_append (as := hs), List.length_singleton, List.append_assoc, List.singleton_append] at f
    rw [List.append_assoc, List.singleton_append] at W2
    refine ⟨js', ow', ?_, W2⟩
    rw [List.foldl_cons, stepF_some e]
    exact f
/-- the table laid anew, and in which order the old entries come now -/
theorem relaid_laid (t : SetTable) {hs : Array Int} {wanted M : Nat} (hw : SetTable.sizeAbove wanted - 1 = M) (hM : Pw M) (hn : hs.size ≤ M) :
    ∃ t' order, t.relaid hs wanted = some (t', order) ∧ order.toList.Perm (List.range hs.size) ∧ Laid t' (order.toList.map fun i => hs.getD i 0) ∧ t'.mask = M ∧ t'.led = t.led ∧ t'.plain = t.plain := by
  obtain ⟨js, ow, f, W⟩ := seats_fold hM [] [] hs.toList [] _ (Seats.start M) (by rw [Array.length_toList]; show 0 + hs.size ≤ M; omega)
  rw [List.nil_append] at f W
  have hr : t.relaid hs wanted = some (tabOf t M ow, ((liveOf M ow).map (·.2)).toArray) := by
    have f' : hs.toList.foldl (stepF M) (some (Array.replicate (M + 1) none, 0)) = some (ow, hs.toList.length) := f
    rw [relaid_eq, hw, layClean_eq, f']
    rfl
  have hlive : ∀ {j k : Nat}, (j, k) ∈ liveOf M ow ↔ j ≤ M ∧ js[k]? = some j := fun {j k} => by
    rw [mem_live W.sz]
    exact ⟨fun z => ⟨z.1, (W.own j k z.1).1 z.2⟩, fun z => ⟨z.1, (W.own j k z.1).2 z.2⟩⟩
  have hin : ∀ {j : Nat}, j ∈ js → j ≤ M := fun {j} hj => by
    obtain ⟨k, hk⟩ := List.mem_iff_getElem?.mp hj
    have hkl : k < (js.zip hs.toList).length := by
      rw [List.length_zip, ← W.len, Nat.min_self]
      exact (List.getElem?_eq_some_iff.mp hk).1
    obtain ⟨c, e, _⟩ := W.rd _ (List.getElem_mem hkl)
    have e2 : js[k]? = some ((js.zip hs.toList)[k].1) := by
      rw [List.getElem_zip]
      exact List.getElem?_eq_getElem _
    rw [hk] at e2
    rw [Option.some.inj e2, ← e]
    exact way_in ..
  have ris : Ris ((liveOf M ow).map (·.1)) := (ris_live (fun j => ow.getD j none) (List.range (M + 1)) List.pairwise_lt_range).1
  have lt1 : (liveOf M ow).Pairwise fun p q => p.1 < q.1 := List.pairwise_map.mp ris
  have ndk : ((liveOf M ow).map (·.2)).Nodup := by
    rw [List.nodup_iff_pairwise_ne, List.pairwise_map]
    refine lt1.imp_of_mem fun {p q} hp hq hlt e => ?_
    have a := (hlive.1 hp).2
    have b := (hlive.1 hq).2
    rw [e, b] at a
    exact absurd hlt (by rw [Option.some.inj a]; exact Nat.lt_irrefl _)
  have hlen := W.len
  refine ⟨_, _, hr, ?_, ⟨ris, rfl, ?_, hM, fun q hq => ?_⟩, rfl, rfl, rfl⟩
  · show ((liveOf M ow).map (·.2)).Perm (List.range hs.size)
    refine (List.perm_ext_iff_of_nodup ndk List.nodup_range).mpr fun k => ?_
    rw [List.mem_range, List.mem_map]
    constructor
    · rintro ⟨⟨j, k'⟩, hp, rfl⟩
      have := (List.getElem?_eq_some_iff.mp (hlive.1 hp).2).1
      rw [hlen, Array.length_toList] at this
      exact this
    · intro hk
      have hkl : k < js.length := by
        rw [hlen, Array.length_toList]
        exact hk
      exact ⟨(js[k], k), hlive.2 ⟨hin (List.getElem_mem hkl), List.getElem?_eq_getElem hkl⟩, rfl⟩
  · show ((liveOf M ow).map (·.1)).length = (((liveOf M ow).map (·.2)).map fun i => hs.getD i 0).length
    simp
  · show Trl M ((liveOf M ow).map (·.1)) q
    have hq' : q ∈ ((liveOf M ow).map (·.1)).zip (((liveOf M ow).map (·.2)).map fun i => hs.getD i 0) := hq
    rw [List.map_map, List.zip_map', List.mem_map] at hq'
    obtain ⟨⟨j, k⟩, hp, rfl⟩ := hq'
    obtain ⟨a, b⟩ := hlive.1 hp
    have hkl : k < hs.toList.length := by
      rw [← hlen]
      exact (List.getElem?_eq_some_iff.mp b).1
    have eh : hs.getD k 0 = hs.toList[k] := by
      rw [Array.getD_eq_getD_getElem?, ← Array.getElem?_toList, List.getElem?_eq_getElem hkl]
      rfl
    show Trl M ((liveOf M ow).map (·.1)) (j, hs.getD k 0)
    rw [eh]
    refine (W.rd (j, hs.toList[k]) (List.mem_of_getElem? (i := k) (by rw [List.getElem?_zip_eq_some]; exact ⟨b, List.getElem?_eq_getElem hkl⟩))).more fun x hx => ?_
    obtain ⟨k2, hk2⟩ := List.mem_iff_getElem?.mp hx
    exact List.mem_map.mpr ⟨(x, k2), hlive.2 ⟨hin hx, hk2⟩, rfl⟩
/-! ### the sizes -/
theorem above_go (n : Nat) : ∀ (f size k : Nat), size = 2 ^ k → 3 ≤ k → n < size * 2 ^ f → (size = 8 ∨ size ≤ 2 * n) →
    ∃ k', 3 ≤ k' ∧ SetTable.sizeAbove.go n f size = 2 ^ k' ∧ n < SetTable.sizeAbove.go n f size ∧ (SetTable.sizeAbove.go n f size = 8 ∨ SetTable.sizeAbove.go n f size ≤ 2 * n)
  | 0, size, k, e, hk, hn, hb => ⟨k, hk, e, by rw [Nat.pow_zero, Nat.mul_one] at hn; exact hn, hb⟩
  | f + 1, size, k, e, hk, hn, hb => by
    show ∃ k', 3 ≤ k' ∧ (if size ≤ n then SetTable.sizeAbove.go n f (size * 2) else size) = 2 ^ k' ∧ n < (if size ≤ n then SetTable.sizeAbove.go n f (size * 2) else size) ∧ ((if size ≤ n then SetTable.sizeAbove.go n f (size * 2) else size) = 8 ∨ (if size ≤ n then SetTable.sizeAbove.go n f (size * 2) else size) ≤ 2 * n)
    by_cases c : size ≤ n
    · rw [if_pos c]
      exact above_go n f (size * 2) (k + 1) (by rw [e, Nat.pow_succ]) (by omega) (by rw [Nat.mul_assoc, ← Nat.pow_succ']; exact hn) (.inr (by omega))
    · rw [if_neg c]
      exact ⟨k, hk, e, by omega, hb⟩
theorem above {n : Nat} (h1 : 4 ≤ n) (h2 : n ≤ 1000000) : Pw (SetTable.sizeAbove n - 1) ∧ n < SetTable.sizeAbove n ∧ SetTable.sizeAbove n ≤ 2 * n := by
  obtain ⟨k, hk, e, hn, hb⟩ := above_go n 64 8 3 (by decide) (Nat.le_refl _) (by omega) (.inl rfl)
  have hn' : n < SetTable.sizeAbove n := hn
  refine ⟨⟨k, ?_, hk⟩, hn', ?_⟩
  · have e' : SetTable.sizeAbove n = 2 ^ k := e
    omega
  · have hb' : SetTable.sizeAbove n = 8 ∨ SetTable.sizeAbove n ≤ 2 * n := hb
    omega
end Nw
/-! Sets of up to a thousand tuples of ints. -/
namespace Nw
open PySem PySem.Spec PyProof.Rows L2

/-- where the way of a hash begins -/
def st0 (m : Nat) (h : Int) : SetTable.Probe := runAt m (SetTable.bits h % (m + 1)) (SetTable.bits h)
theorem nth_clean (m : Nat) : ∀ (n : Nat) (p : SetTable.Probe), p.dummy = none → (nth m p n).dummy = none
  | 0, _, h => h
  | n + 1, p, h => nth_clean m n (adv m p) (by
    unfold adv
    split
    · exact h
    · exact h)
/-- what a search is told that goes on from the c-th step -/
theorem Laid.probe {t : SetTable} {hs : List Int} (T : Laid t hs) {h : Int} {K : Nat} (hKf : K < 10 * SetTable.turns t.mask) (hK : way t.mask h K ∉ t.place.toList) (hKb : ∀ c, c < K → way t.mask h c ∈ t.place.toList)
    {c : Nat} (hc : c ≤ K) (hashAt : Nat → Int) (hat : ∀ (i : Nat) g, hs[i]? = some g → hashAt i = g) :
    (∃ q i : Nat, c ≤ q ∧ q < K ∧ t.place.toList[i]? = some (way t.mask h q) ∧ hs[i]? = some h ∧ (∀ q' i' : Nat, c ≤ q' → q' < q → t.place.toList[i']? = some (way t.mask h q') → hs[i']? ≠ some h) ∧
      t.probe hashAt h (nth t.mask (st0 t.mask h) c) = some (.candidate (way t.mask h q) i (nth t.mask (st0 t.mask h) (q + 1)))) ∨
    ((∀ q' i' : Nat, c ≤ q' → q' < K → t.place.toList[i']? = some (way t.mask h q') → hs[i']? ≠ some h) ∧ t.probe hashAt h (nth t.mask (st0 t.mask h) c) = some (.empty (way t.mask h K) none)) := by
  have sh : ∀ d, nth t.mask (nth t.mask (st0 t.mask h) c) d = nth t.mask (st0 t.mask h) (c + d) := fun d => (nth_add t.mask c _ d).symm
  have sj : ∀ d, (nth t.mask (nth t.mask (st0 t.mask h) c) d).j = way t.mask h (c + d) := fun d => congrArg SetTable.Probe.j (sh d)
  have eK : c + (K - c) = K := by omega
  have hash_of : ∀ {i j : Nat}, t.place.toList[i]? = some j → ∃ g, hs[i]? = some g ∧ hashAt i = g := fun {i j} hi => by
    have hl : i < hs.length := by
      rw [← T.len]
      exact (List.getElem?_eq_some_iff.mp hi).1
    exact ⟨hs[i], List.getElem?_eq_getElem hl, hat _ _ (List.getElem?_eq_getElem hl)⟩
  rcases go_spec t T.ris T.dm hashAt h (10 * SetTable.turns t.mask) (K - c) (nth t.mask (st0 t.mask h) c) (nth_clean _ _ _ rfl) (by omega)
    (fun d hd => by rw [sj]; exact hKb _ (by omega)) (by rw [sj, eK]; exact hK) with ⟨d, i, hd, hi, hh, hno, e⟩ | ⟨hno, e⟩
  · rw [sj] at hi
    refine .inl ⟨c + d, i, by omega, by omega, hi, ?_, fun q' i' h1 h2 h3 h4 => ?_, ?_⟩
    · obtain ⟨g, g1, g2⟩ := hash_of hi
      rw [g1, ← g2, hh]
    · exact hno (q' - c) i' (by omega) (by rw [sj, show c + (q' - c) = q' by omega]; exact h3) (hat _ _ h4)
    · rw [sj, sh] at e
      exact e
  · refine .inr ⟨fun q' i' h1 h2 h3 h4 => ?_, ?_⟩
    · exact hno (q' - c) i' (by omega) (by rw [sj, show c + (q' - c) = q' by omega]; exact h3) (hat _ _ h4)
    · rw [sj, eK] at e
      exact e

/-- the set at a holds the tuples L -/
structure TupSet (P : Program) (w : World) (h : Heap) (a : Addr) (L : List (Addr × List Int)) (es : Array (Int × Value)) (ep : Nat) (t : SetTable) : Prop where
  ob : ∃ o, h.get? a = some o ∧ o.ExactSet ∧ o.data = .set es ep t
  rows : es.toList = rowsOf P w L
  tab : Laid t (L.map fun p => thash P w p.2)
  nd : (L.map (·.2)).Nodup
  tup : ∀ p ∈ L, IsT P w h p.2 p.1
  plain : t.plain = true
  led : w.params.followText "set-order" = true ∨ t.led = true
  room : L.length * 5 < t.mask * 3
  big : t.mask ≤ 8191
theorem rows_len {P : Program} {w : World} {L : List (Addr × List Int)} {es : Array (Int × Value)} (h : es.toList = rowsOf P w L) : es.size = L.length := by
  rw [← Array.length_toList, h]
  exact List.length_map _
section
variable {P : Program} {w : World} {A : Around} {E : Value → Shared → Prop} {s : Shared} {a : Addr} {L : List (Addr × List Int)} {es : Array (Int × Value)} {ep : Nat} {t : SetTable}
theorem fits_of {hs : List Int} (T : Laid t hs) (hn : es.size = hs.length) (hl : hs.length ≤ t.mask) : t.fits es.size = true := by
  have h := T.len
  rw [Array.length_toList] at h
  unfold SetTable.fits SetTable.fill
  rw [T.dm, Bool.and_eq_true, beq_iff_eq, decide_eq_true_eq]
  show t.place.size = es.size ∧ t.place.size + 0 ≤ t.mask
  omega
theorem TupSet.fits (R : TupSet P w s.heap a L es ep t) : t.fits es.size = true := by
  have h := R.room
  exact fits_of R.tab (by rw [rows_len R.rows, List.length_map]) (by rw [List.length_map]; omega)
theorem TupSet.entry (R : TupSet P w s.heap a L es ep t) {i : Nat} {p : Addr × List Int} (h : L[i]? = some p) : es[i]? = some (thash P w p.2, Value.ref p.1) := by
  rw [← Array.getElem?_toList, R.rows]
  unfold rowsOf
  rw [List.getElem?_map, h]
  rfl
theorem TupSet.whole (R : TupSet P w s.heap a L es ep t) : ¬ t.gaveWay = true := by
  unfold SetTable.gaveWay
  rw [R.tab.pw.odd]
  decide
/-- the search for a tuple, from the c-th step on: no equal one was passed -/
theorem TupSet.search (R : TupSet P w s.heap a L es ep t) {x : Addr} {k : List Int} (hx : IsT P w s.heap k x) (hu : A.units < cLine) {K : Nat} (hKf : K < 10 * SetTable.turns t.mask)
    (hK : way t.mask (thash P w k) K ∉ t.place.toList) (hKb : ∀ c, c < K → way t.mask (thash P w k) c ∈ t.place.toList) {Q : SetFound → Shared → Prop}
    (hin : k ∈ L.map (·.2) → Q (.there none) s) (hout : k ∉ L.map (·.2) → Q (.free (way t.mask (thash P w k) K) false) s) :
    ∀ (f c : Nat) (stand : Option SetTable.Probe), stand.getD (t.probeStart (thash P w k)) = nth t.mask (st0 t.mask (thash P w k)) c → c ≤ K → K - c < f →
      (∀ (q i : Nat) p, q < c → t.place.toList[i]? = some (way t.mask (thash P w k) q) → L[i]? = some p → p.2 ≠ k) →
      wpAny (model P w) A (setSearchFrom a (.ref x) (thash P w k) true f stand) Q E s := by
  obtain ⟨o, ho, hex, hd⟩ := R.ob
  intro f
  induction f with
  | zero =>
    intro c stand _ _ hf
    exact absurd hf (Nat.not_lt_zero _)
  | succ f ih =>
    intro c stand hst hc hf hpast
    have hat : ∀ (i : Nat) g, (L.map fun p => thash P w p.2)[i]? = some g → (fun i => (es[i]?.map (·.1)).getD 0) i = g := fun i g hg => by
      rw [List.getElem?_map] at hg
      obtain ⟨p, hp, e⟩ := Option.map_eq_some_iff.mp hg
      show (es[i]?.map (·.1)).getD 0 = g
      rw [R.entry hp, ← e]
      rfl
    have row_of : ∀ {i j : Nat}, t.place.toList[i]? = some j → ∃ p, L[i]? = some p := fun {i j} hi => by
      have hl : i < L.length := by
        have h1 := (List.getElem?_eq_some_iff.mp hi).1
        have h2 := R.tab.len
        rw [List.length_map] at h2
        omega
      exact ⟨_, List.getElem?_eq_getElem hl⟩
    rw [setSearchFrom_succ]
    refine wpAny_bind (wpAny_setState_of ho hd R.fits ?_)
    dsimp only
    refine wp_if_neg R.whole ?_
    try refine wpAny_bind (wpAny_pure ?_)
    rw [hst]
    rcases R.tab.probe hKf hK hKb hc _ hat with ⟨q, i, c1, c2, hi, hh, hno, e⟩ | ⟨hno, e⟩
    · rw [e]
      dsimp only
      obtain ⟨p, hp⟩ := row_of hi
      have hmem := List.mem_of_getElem? hp
      have sl : t.slot (way t.mask (thash P w k) q) = .live i := slot_live R.tab.ris hi
      have rest : wpAny (model P w) A (searchRest a (.ref x) (thash P w k) true f es t (way t.mask (thash P w k) q) i (nth t.mask (st0 t.mask (thash P w k)) (q + 1))) Q E s := by
        unfold searchRest
        rw [R.entry hp]
        dsimp only
        refine wpAny_bind (wpAny_holding (wpAny_eqBool_tuple hu (R.tup p hmem) hx ?_))
        refine wpAny_bind (wpAny_setState_of ho hd R.fits ?_)
        dsimp only
        by_cases same : p.2 = k
        · exact wp_if_pos (by simp [same]) (wpAny_pure (hin (List.mem_map.mpr ⟨p, hmem, same⟩)))
        · refine wp_if_neg (by simp [same]) ?_
          try refine wpAny_bind (wpAny_pure ?_)
          rw [sameMem]
          dsimp only
          simp only [if_true, sl, R.entry hp]
          refine wpAny_bind (wpAny_isSame_ref_self (wpAny_bind (wpAny_pure ?_)))
          simp only [if_true]
          refine wp_if_neg (by simp [same]) (ih (q + 1) _ rfl (by omega) (by omega) fun q' i' p' h1 h2 h3 => ?_)
          rcases Nat.lt_or_ge q' c with y | y
          · exact hpast q' i' p' y h2 h3
          · rcases Nat.lt_or_ge q' q with z | z
            · refine fun e2 => hno q' i' y z h2 ?_
              rw [List.getElem?_map, h3, ← e2]
              rfl
            · have eq : q' = q := by omega
              rw [eq] at h2
              have sl2 := slot_live R.tab.ris h2
              rw [sl] at sl2
              injection sl2 with sl2
              rw [← sl2, hp] at h3
              rw [← Option.some.inj h3]
              exact same
      by_cases hl : t.led = true
      · refine wp_if_neg (by simp [hl]) ?_
        try refine wpAny_bind (wpAny_pure ?_)
        exact rest
      · refine wp_if_pos (by simp [hl]) ?_
        refine wpAny_bind (seen_tup hx (fun y hy => ?_) ?_)
        · obtain ⟨e, he, ee⟩ := List.mem_map.mp hy
          have he1 : e ∈ es.toList := by
            have z : e ∈ es ∧ e.1 = thash P w k := by simpa using he
            simpa using z.1
          rw [R.rows] at he1
          obtain ⟨p2, hp2, e2⟩ := List.mem_map.mp he1
          exact ⟨p2.2, p2.1, by rw [← ee, ← e2], R.tup p2 hp2⟩
        · refine wp_if_neg (by decide) ?_
          try refine wpAny_bind (wpAny_pure ?_)
          exact rest
    · rw [e]
      dsimp only
      refine wpAny_pure (hout fun hm => ?_)
      obtain ⟨p, hp, e2⟩ := List.mem_map.mp hm
      obtain ⟨i, hi⟩ := List.mem_iff_getElem?.mp hp
      have hil : i < t.place.toList.length := by
        have h1 := (List.getElem?_eq_some_iff.mp hi).1
        have h2 := R.tab.len
        rw [List.length_map] at h2
        omega
      have hh : (L.map fun p => thash P w p.2)[i]? = some (thash P w k) := by
        rw [List.getElem?_map, hi, ← e2]
        rfl
      obtain ⟨q, q1, q2⟩ := R.tab.ahead hK hh (List.getElem?_eq_getElem hil)
      have q3 : t.place.toList[i]? = some (way t.mask (thash P w k) q) := by rw [q2]; exact List.getElem?_eq_getElem hil
      rcases Nat.lt_or_ge q c with y | y
      · exact hpast q i p y q3 hi e2
      · exact hno q i y q1 q3 hh
/-- the search as adding asks for it -/
theorem TupSet.find (R : TupSet P w s.heap a L es ep t) {x : Addr} {k : List Int} (hx : IsT P w s.heap k x) (hu : A.units < cLine) {Q : SetFound → Shared → Prop} (hin : k ∈ L.map (·.2) → Q (.there none) s)
    (hout : ∀ K, k ∉ L.map (·.2) → way t.mask (thash P w k) K ∉ t.place.toList → (∀ c, c < K → way t.mask (thash P w k) c ∈ t.place.toList) → Q (.free (way t.mask (thash P w k) K) false) s) :
    wpAny (model P w) A (setSearch a (.ref x) (thash P w k) true) Q E s := by
  have h1 := R.room
  have h2 := R.big
  obtain ⟨K, hKf, hK, hKb⟩ := R.tab.first (by rw [List.length_map]; omega) (thash P w k)
  have hf : 10 * SetTable.turns t.mask ≤ 100000 := by
    unfold SetTable.turns
    omega
  exact R.search hx hu hKf hK hKb hin (fun no => hout K no hK hKb) 100000 0 none rfl (Nat.zero_le _) (by omega) fun q i p hq => absurd hq (Nat.not_lt_zero _)
/-- the table is laid anew -/
theorem relay_tups {o : Obj} (ho : s.heap.get? a = some o) (hex : o.ExactSet) (hd : o.data = .set es ep t) (rows : es.toList = rowsOf P w L) (T : Laid t (L.map fun p => thash P w p.2)) (hfl : L.length ≤ t.mask)
    (nd : (L.map (·.2)).Nodup) (tup : ∀ p ∈ L, IsT P w s.heap p.2 p.1) (pl : t.plain = true) (ld : w.params.followText "set-order" = true ∨ t.led = true) (h1 : 1 ≤ L.length) (hN : L.length ≤ 1000) {Q : Unit → Shared → Prop}
    (hQ : ∀ h' L' es' ep' t', Heap.SameBut a s.heap h' → TupSet P w h' a L' es' ep' t' → L'.Perm L → Q () { s with heap := h' }) : wpAny (model P w) A (setRelay a (SetTable.grown L.length)) Q E s := by
  have eg : SetTable.grown L.length = L.length * 4 := if_neg (by omega)
  rw [eg]
  obtain ⟨a1, a2, a3⟩ := above (n := L.length * 4) (by omega) (by omega)
  have hes := rows_len rows
  obtain ⟨t', order, e, hp, T', em, el, epl⟩ := relaid_laid t (hs := es.map (·.1)) (wanted := L.length * 4) rfl a1 (by rw [Array.size_map, hes]; omega)
  rw [Array.size_map, hes] at hp
  obtain ⟨L2, r1, r2, r3⟩ := order_rows L es order rows hp
  rw [← r3] at T'
  have hs2 := rows_len r1
  have hl2 := r2.length_eq
  rw [setRelay_eq]
  refine wpAny_bind (wpAny_setState_of ho hd (fits_of T (by rw [hes, List.length_map]) (by rw [List.length_map]; exact hfl)) ?_)
  dsimp only
  refine wp_if_neg (by rw [sizeLine_eq]; omega) ?_
  try refine wpAny_bind (wpAny_pure ?_)
  rw [e]
  dsimp only
  refine wpAny_bind (wp_if_neg (by rw [hs2, hl2, hes]; simp) ?_)
  try refine wpAny_bind (wpAny_pure ?_)
  refine wpAny_pure ?_
  dsimp only
  refine wpAny_storeSet_of ho hd ?_ (by rw [hs2, hl2, sizeLine_eq]; omega)
  have sb : Heap.SameBut a s.heap (s.heap.update a (Obj.putSet (order.filterMap (es[·]?)) t')) := Heap.SameBut.update ..
  exact hQ _ L2 _ (ep + 1) t' sb
    ⟨⟨_, store_at ho hd, ⟨hex.1, hex.2.1, hex.2.2⟩, rfl⟩, r1, T', (r2.map (·.2)).nodup_iff.mpr nd, fun p hp => isT_same (tup p (r2.mem_iff.mp hp)) ho hd sb, epl.trans pl, by rw [el]; exact ld, by rw [hl2, em]; omega, by rw [em]; omega⟩ r2
/-- one tuple is added -/
theorem TupSet.add (R : TupSet P w s.heap a L es ep t) {x : Addr} {k : List Int} (hx : IsT P w s.heap k x) (hu : A.units < cLine) (hN : L.length + 1 ≤ 1000) {Q : Bool → Shared → Prop}
    (hQ : ∀ b h' L' es' ep' t', Heap.SameBut a s.heap h' → TupSet P w h' a L' es' ep' t' → (k ∈ L.map (·.2) ∧ L' = L ∨ k ∉ L.map (·.2) ∧ L'.Perm ((x, k) :: L)) → Q b { s with heap := h' }) :
    wpAny (model P w) A (setAddHashed a (.ref x) (thash P w k)) Q E s := by
  obtain ⟨o, ho, hex, hd⟩ := R.ob
  have hsl := rows_len R.rows
  have hroom := R.room
  unfold setAddHashed
  refine wpAny_holding ?_
  rw [show (100000 : Nat) = 99999 + 1 from rfl, setAddHashedIn_succ]
  refine wpAny_bind (wpAny_setState_of ho hd R.fits ?_)
  dsimp only
  refine wp_if_neg (by simp [byScan, Value.scannable]) ?_
  try refine wpAny_bind (wpAny_pure ?_)
  refine wpAny_bind (R.find hx hu (fun hm => ?_) fun K hm hK hb => ?_)
  · dsimp only
    exact wpAny_pure (hQ false s.heap L es ep t (Heap.SameBut.refl a s.heap) R (.inl ⟨hm, rfl⟩))
  · dsimp only
    refine wpAny_bind (wpAny_setState_of ho hd R.fits ?_)
    dsimp only
    generalize ej : way t.mask (thash P w k) K = j at hK
    obtain ⟨T1, hfill⟩ := R.tab.put (by rw [ej]; exact hK) hb ej rfl
    have e2 : (t.put j).2 = SetTable.below t.place j := rfl
    have em : (t.put j).1.mask = t.mask := rfl
    have el : (t.put j).1.led = t.led := rfl
    have epl : (t.put j).1.plain = true := R.plain
    generalize t.put j = pt at T1 hfill e2 em el epl ⊢
    obtain ⟨t1, p⟩ := pt
    dsimp only at T1 hfill e2 em el epl ⊢
    subst e2
    generalize SetTable.below t.place j = p at T1 ⊢
    first
      | (refine wpAny_bind ?_; refine wp_if_pos epl ?_; refine hashBy_tup hx ?_)
      | refine wp_if_pos epl (wpAny_bind (hashBy_tup hx ?_))
    simp only [if_true]
    have r1 : (SetTable.insertAt es p (thash P w k, Value.ref x)).toList = rowsOf P w (L.take p ++ (x, k) :: L.drop p) := by
      rw [SetTable.toList_insertAt, rows_put, R.rows]
    have pm := put_perm L p (x, k)
    have T2 : Laid t1 ((L.take p ++ (x, k) :: L.drop p).map fun p => thash P w p.2) := by
      rw [List.map_append, List.map_cons, List.map_take, List.map_drop]
      exact T1
    generalize SetTable.insertAt es p (thash P w k, Value.ref x) = es1 at r1 ⊢
    generalize L.take p ++ (x, k) :: L.drop p = L1 at pm T2 r1
    have hl1 : L1.length = L.length + 1 := pm.length_eq
    have hes1 := rows_len r1
    refine wpAny_bind (wpAny_storeSet_of ho hd ?_ (by rw [hes1, hl1, sizeLine_eq]; omega))
    have sb : Heap.SameBut a s.heap (s.heap.update a (Obj.putSet es1 t1)) := Heap.SameBut.update ..
    have ho1 := store_at (es' := es1) (t' := t1) ho hd
    generalize s.heap.update a (Obj.putSet es1 t1) = h1 at sb ho1 ⊢
    have nd1 : (L1.map (·.2)).Nodup := by
      refine (pm.map (·.2)).nodup_iff.mpr ?_
      rw [List.map_cons]
      exact List.nodup_cons.mpr ⟨hm, R.nd⟩
    have tup1 : ∀ p ∈ L1, IsT P w h1 p.2 p.1 := fun p hp => by
      rcases List.mem_cons.mp (pm.mem_iff.mp hp) with e | hp
      · rw [e]
        exact isT_same hx ho hd sb
      · exact isT_same (R.tup p hp) ho hd sb
    have ld1 : w.params.followText "set-order" = true ∨ t1.led = true := by
      rw [el]
      exact R.led
    rw [List.length_map] at hfill
    by_cases hf : t1.tooFull = true
    · first
        | (refine wpAny_bind ?_; refine wp_if_pos (by simp [hf]) ?_)
        | (refine wp_if_pos (by simp [hf]) ?_; refine wpAny_bind ?_)
      rw [hsl, ← hl1]
      exact relay_tups (s := { s with heap := h1 }) ho1 ⟨hex.1, hex.2.1, hex.2.2⟩ rfl r1 T2 (by rw [hl1, em]; omega) nd1 tup1 epl ld1 (by omega) (by omega) fun h2 L2 es2 ep2 t2 sb2 R2 pm2 =>
        wpAny_pure (hQ true h2 L2 es2 ep2 t2 (sb.trans sb2) R2 (.inr ⟨hm, pm2.trans pm⟩))
    · first
        | refine wp_if_neg (by simp [hf]) ?_
        | (refine wpAny_bind ?_; refine wp_if_neg (by simp [hf]) ?_; refine wpAny_pure ?_)
      have hroom1 : L1.length * 5 < t1.mask * 3 := by
        unfold SetTable.tooFull at hf
        rw [decide_eq_true_eq, hfill] at hf
        omega
      exact wpAny_pure (hQ true h1 L1 es1 (ep + 1) t1 sb ⟨⟨_, ho1, ⟨hex.1, hex.2.1, hex.2.2⟩, rfl⟩, r1, T2, nd1, tup1, epl, ld1, hroom1, by rw [em]; exact R.big⟩ (.inr ⟨hm, pm⟩))
end
end Nw
/-! set(xs), xs a list of up to a thousand tuples of ints, some perhaps the same. -/
namespace Nw
open PySem PySem.Spec PyProof.Rows L2
/-- the set at S has got the first i of the tuples ks; all that was there is there -/
def Stage (P : Program) (w : World) (h0 : Heap) (S : Addr) (ks : List (Addr × List Int)) (i : Nat) (h : Heap) : Prop :=
  (∀ b o, h0.get? b = some o → h.get? b = some o) ∧ ∃ L es ep t, TupSet P w h S L es ep t ∧ Got ks i L
section
variable {P : Program} {w : World} {A : Around} {E : Value → Shared → Prop} {s : Shared}
theorem Stage.carry {h0 h h' : Heap} {S : Addr} {ks : List (Addr × List Int)} {i : Nat} (g : Stage P w h0 S ks i h) (hk : ∀ p ∈ ks, IsT P w h0 p.2 p.1) (hS : ∀ o, h.get? S = some o → h'.get? S = some o) (h0' : ∀ b o, h0.get? b = some o → h'.get? b = some o) : Stage P w h0 S ks i h' := by
  obtain ⟨_, L, es, ep, t, R, got⟩ := g
  obtain ⟨o, ho, r⟩ := R.ob
  exact ⟨h0', L, es, ep, t, ⟨⟨o, hS o ho, r⟩, R.rows, R.tab, R.nd, fun p hp => isT_keep (hk p (List.mem_of_mem_take (got.sub p hp))) h0', R.plain, R.led, R.room, R.big⟩, got⟩
/-- the next tuple is added -/
theorem Stage.add {h0 : Heap} {S : Addr} {ks : List (Addr × List Int)} {i : Nat} (g : Stage P w h0 S ks i s.heap) (hS0 : h0.get? S = none) (hk : ∀ p ∈ ks, IsT P w h0 p.2 p.1) (hN : ks.length ≤ 1000) (hu : A.units < cLine)
    {p : Addr × List Int} (hp : ks[i]? = some p) {Q : Bool → Shared → Prop}
    (hQ : ∀ b h' tk, s.toks ≤ tk → Heap.SameBut S s.heap h' → Stage P w h0 S ks (i + 1) h' → Q b { s with heap := h', toks := tk }) : wpAny (model P w) A (setAdd S (.ref p.1)) Q E s := by
  obtain ⟨keep, L, es, ep, t, R, got⟩ := g
  have hx : IsT P w s.heap p.2 p.1 := isT_keep (hk p (List.mem_of_getElem? hp)) keep
  have hi := (List.getElem?_eq_some_iff.mp hp).1
  have hl := got.len
  unfold setAdd
  refine wpAny_holding (wpAny_bind (wpAny_pyHash_tuple hu hx ?_))
  refine TupSet.add (s := { s with toks := s.toks + (p.2.length + 1) }) R hx hu (by omega) fun b h' L' es' ep' t' sb R' c => hQ b h' _ (Nat.le_add_right _ _) sb ⟨fun b o e => (sb.2 b (fun z => by rw [z, hS0] at e; cases e)).trans (keep b o e), L', es', ep', t', R', ?_⟩
  rcases c with ⟨c1, c2⟩ | ⟨c1, c2⟩
  · rw [c2]
    exact got.same hp c1
  · exact got.more hp c2
/-- set.update's loop -/
theorem tups_loop {I : Addr} {fp wr : List Addr} {G : Array GenState → Array GenState → Prop} {n : Nat} {Pv : Nat → Value → Prop} {St : Nat → Shared → Prop} {R : Result → Shared → Prop}
    (W : WalksS P w A.in1 I fp wr G n Pv St) {S : Addr} (hSf : S ∉ fp) {ks : List (Addr × List Int)} (hn : n = ks.length) (hN : ks.length ≤ 1000) (hval : ∀ i v, Pv i v → ∃ p, ks[i]? = some p ∧ v = .ref p.1)
    {h0 : Heap} (hk : ∀ p ∈ ks, IsT P w h0 p.2 p.1) (hS0 : h0.get? S = none) (hw0 : ∀ b ∈ wr, h0.get? b = none) (hu : A.in1.units < cLine) :
    ∀ (r i : Nat) (s : Shared), i + r = n → St i s → Stage P w h0 S ks i s.heap → (∀ s', Moved (S :: wr) G s s' → Stage P w h0 S ks n s'.heap → R (.ok (.ret .none)) s') →
      codeAny (model P w) A (.builtin "set.update.loop" ⟨[.ref S, .ref I], []⟩) R s := by
  have hSw : S ∉ wr := fun h => hSf (W.sub _ h)
  have after : ∀ {i : Nat} {s s' : Shared}, Stage P w h0 S ks i s.heap → Moved wr G s s' → Stage P w h0 S ks i s'.heap := fun g m =>
    g.carry hk (fun o e => m.heap S o hSw e) fun b o e => m.heap b o (fun hb => by rw [hw0 b hb] at e; cases e) (g.1 b o e)
  intro r
  induction r with
  | zero =>
    intro i s hi hst g hR
    have e : i = n := hi
    subst e
    refine codeAny_builtin F.entry_set_update_loop ?_
    rw [Around.under_plainId F.plain_set_update_loop _]
    show wpAny _ A.in1 (pyNext (.ref I) >>= _) _ _ s
    refine wpAny_bind (W.done s _ _ hst fun s' hm => ?_)
    show wpAny _ A.in1 (ret Value.none) _ _ s'
    exact wpAny_pure (hR s' (hm.mono fun b hb => List.mem_cons_of_mem _ hb) (after g hm))
  | succ r ih =>
    intro i s hi hst g hR
    have hlt : i < n := by omega
    refine codeAny_builtin F.entry_set_update_loop ?_
    rw [Around.under_plainId F.plain_set_update_loop _]
    show wpAny _ A.in1 (pyNext (.ref I) >>= _) _ _ s
    refine wpAny_bind (W.item i s _ _ hlt hst fun v s' hP hst' hm => ?_)
    obtain ⟨p, hp, rfl⟩ := hval i v hP
    show wpAny _ A.in1 (holding [Value.ref p.1] (setAdd S (.ref p.1)) >>= _) _ _ s'
    refine wpAny_bind (wpAny_holding ((after g hm).add hS0 hk hN hu hp fun b h' tk htk sb g' => wpAny_pure ⟨plainId_quiet F.plain_set_update_loop _, ih (i + 1) _ (by omega) (W.frame _ s' _ _ hst' htk fun b hb o e => ?_) g' fun s'' hm'' g'' => hR s'' (Moved.trans W.gtrans ((hm.mono fun b hb => List.mem_cons_of_mem _ hb).then_heap htk fun b o hb e => ?_) hm'') g''⟩))
    · exact (sb.2 b (fun z : b = S => hSf (z ▸ hb))).trans e
    · exact (sb.2 b (fun z : b = S => hb (by rw [z]; exact List.mem_cons_self))).trans e
theorem tupSet_new {h : Heap} {a : Addr} (ho : h.get? a = some { cls := .type "set", dict := none, data := .set #[] 0 (.fresh 0 0 (!w.params.followText "set-order")) }) : TupSet P w h a [] #[] 0 (.fresh 0 0 (!w.params.followText "set-order")) where
  ob := ⟨_, ho, ⟨rfl, rfl, rfl⟩, rfl⟩
  rows := rfl
  tab := ⟨List.Pairwise.nil, rfl, rfl, ⟨3, rfl, Nat.le_refl _⟩, fun q hq => nomatch hq⟩
  nd := List.nodup_nil
  tup := fun p hp => nomatch hp
  plain := rfl
  led := by
    show _ ∨ (!w.params.followText "set-order") = true
    cases w.params.followText "set-order"
    · exact .inr rfl
    · exact .inl rfl
  room := (by decide : 0 * 5 < 7 * 3)
  big := (by decide : 7 ≤ 8191)
set_option maxRecDepth 100000 in
set_option maxHeartbeats 8000000 in
/-- set(xs) -/
theorem set_of_tups {l : Addr} {items : Array Value} (ks : List (Addr × List Int)) {Q : Value → Shared → Prop} (hh : A.handled = none) (hl : s.heap.IsList l items) (hit : items.toList = ks.map fun p => Value.ref p.1)
    (hk : ∀ p ∈ ks, IsT P w s.heap p.2 p.1) (hN : ks.length ≤ 1000) (hu : A.units + 3 < cLine)
    (h : ∀ (h' : Heap) (tk : Nat), Stage P w s.heap s.heap.objs.size ks ks.length h' → Q (.ref s.heap.objs.size) { s with heap := h', toks := tk }) :
    wpAny (model P w) A (call (.type "set") [.ref l]) Q E s := by
  have hisz : items.size = ks.length := by
    rw [← Array.length_toList, hit]
    exact List.length_map _
  have gone : ∀ b, s.heap.objs.size ≤ b → s.heap.get? b = none := fun b hb => by
    cases q : s.heap.get? b with
    | none => rfl
    | some o => exact absurd (Nat.lt_of_lt_of_le (Heap.lt_size q) hb) (Nat.lt_irrefl _)
  have hlS : l < s.heap.objs.size := by
    obtain ⟨ol, hol, _⟩ := hl
    exact Heap.lt_size hol
  obtain ⟨c, tl, hmro⟩ := F.called_set.mro
  have hmade := F.called_set.made
  have hsub := F.called_set.sub
  refine wpAny_call (codeAny_of_tree ?_)
  show wpAny _ _ (callAny (.type "set") _) _ _ _
  refine wpAny_pure ⟨Code.quiet_builtin _ (by decide +kernel), codeAny_builtin F.entry_type_call ?_⟩
  rw [Around.under_plain (weight_type_call_type "set" [.ref l] []) rfl]
  have h1 := F.called_set.notType
  have h2 := F.called_set.canCreate
  have hct := F.typeCall_set_1 (.ref l)
  repeat (any_goals (first | assumption | wp_step))
  refine codeAny_mono (code_set_led1 (.ref l) (E := E) (Q₁ := fun obj s₁ => obj = .ref s.heap.objs.size ∧ s₁ = { s with heap := s.heap.push ({ cls := .type "set", dict := none, data := .set #[] 0 (.fresh 0 0 (!w.params.followText "set-order")) } : Obj) }) ⟨rfl, rfl⟩) fun r s₁ hr => ?_
  cases r with
  | error e => exact hr
  | ok fl =>
    cases fl with
    | ret obj =>
      obtain ⟨rfl, rfl⟩ := hr
      have hS : (s.heap.push ({ cls := .type "set", dict := none, data := .set #[] 0 (.fresh 0 0 (!w.params.followText "set-order")) } : Obj)).get? s.heap.objs.size = some ({ cls := .type "set", dict := none, data := .set #[] 0 (.fresh 0 0 (!w.params.followText "set-order")) } : Obj) := Heap.get?_push_size _ rfl
      have hT : Shared.TypeIs { s with heap := s.heap.push ({ cls := .type "set", dict := none, data := .set #[] 0 (.fresh 0 0 (!w.params.followText "set-order")) } : Obj) } (.ref s.heap.objs.size) "set" := ⟨_, hS, rfl⟩
      have hli := F.called_set.init.lookup
      have hbi := F.called_set.init.bind (.ref s.heap.objs.size)
      repeat (any_goals (first | assumption | wp_step))
      refine codeAny_mono (codeAny_call_builtin (R := wants (fun r s₂ => r = .none ∧ ∃ h' tk, s₂ = { s with heap := h', toks := tk } ∧ Stage P w s.heap s.heap.objs.size ks ks.length h') E) F.called_set.init.plain F.entry_set_init (check_set_init_1 hT ?_)) fun r₂ s₂ hr₂ => ?_
      · obtain ⟨⟨ocls, odict, odata, oslots⟩, hol, hcl, nl, hdl⟩ := hl
        simp only at hcl hdl
        subst hcl
        subst hdl
        have hol' : (s.heap.push ({ cls := .type "set", dict := none, data := .set #[] 0 (.fresh 0 0 (!w.params.followText "set-order")) } : Obj)).get? l = some { cls := .type "list", dict := odict, data := .seq items nl, slots := oslots } := Heap.get?_push_of_some _ hol
        have hl1 : (s.heap.push ({ cls := .type "set", dict := none, data := .set #[] 0 (.fresh 0 0 (!w.params.followText "set-order")) } : Obj)).IsList l items := ⟨_, hol', rfl, nl, rfl⟩
        have hsls := F.sub_list_set
        have hslf := F.sub_list_frozenset
        have hne : (Value.type "list" == Value.type "dict") = false := by decide
        unfold Builtin.«set.__init__» noKeywords Builtin.Frozenset.updateFrom
        generalize hPI : pyIter = PI
        wp_walk
        subst hPI
        refine wpAny_pyIter_list hl1 ?_
        refine wpAny_bind (wpAny_runValue ?_)
        have hz1 : (s.heap.push ({ cls := .type "set", dict := none, data := .set #[] 0 (.fresh 0 0 (!w.params.followText "set-order")) } : Obj)).objs.size = s.heap.objs.size + 1 := Heap.size_push ..
        have hneI : l ≠ (s.heap.push ({ cls := .type "set", dict := none, data := .set #[] 0 (.fresh 0 0 (!w.params.followText "set-order")) } : Obj)).objs.size := by
          rw [hz1]
          exact Nat.ne_of_lt (Nat.lt_succ_of_lt hlS)
        have hSf : s.heap.objs.size ∉ [(s.heap.push ({ cls := .type "set", dict := none, data := .set #[] 0 (.fresh 0 0 (!w.params.followText "set-order")) } : Obj)).objs.size, l] := by
          rw [hz1]
          simp only [List.mem_cons, List.not_mem_nil, or_false, not_or]
          exact ⟨Nat.ne_of_lt (Nat.lt_succ_self _), Nat.ne_of_gt hlS⟩
        refine tups_loop ((Walks.list (show A.in1.in1.in1.handled = none by simp [hh]) _ l hneI items).toS) hSf hisz hN (fun i v hv => ?_) hk (gone _ (Nat.le_refl _)) (fun b hb => gone b (by
            rw [List.mem_singleton.mp hb, hz1]
            exact Nat.le_succ _)) hu items.size 0 _ (Nat.zero_add _)
          ⟨⟨_, Heap.get?_push_size _ rfl, rfl, rfl⟩, (hl1.push _)⟩ ?_ ?_
        · have q : items.toList[i]? = some v := by rw [Array.getElem?_toList]; exact hv
          rw [hit, List.getElem?_map] at q
          obtain ⟨p, hp, e⟩ := Option.map_eq_some_iff.mp q
          exact ⟨p, hp, e.symm⟩
        · exact ⟨fun b o e => Heap.get?_push_of_some _ (Heap.get?_push_of_some _ e), [], #[], 0, _, tupSet_new (Heap.get?_push_of_some _ hS), Got.zero ks⟩
        · intro s' hm g'
          obtain ⟨h', g2, d', tk', os'⟩ := s'
          have eg : g2 = s.gens := hm.gens
          have ed : d' = s.drawn := hm.drawn
          have eo : os' = s.os := hm.os
          subst eg
          subst ed
          subst eo
          show wpAny _ _ _ _ _ _
          refine wpAny_pure ?_
          show wpAny _ _ (ret Value.none) _ _ _
          rw [hisz] at g'
          exact wpAny_pure ⟨rfl, h', tk', rfl, g'⟩
      · cases r₂ with
        | error e => exact hr₂
        | ok fl₂ =>
          cases fl₂ with
          | ret r =>
            obtain ⟨rfl, h', tk, rfl, g'⟩ := hr₂
            repeat (any_goals (first | assumption | wp_step))
            exact h _ _ g'
          | _ => exact hr₂.elim
    | _ => exact hr.elim
end
end Nw
/-! The rules: set(xs) and sorted of it, xs a list of up to a thousand pairs. -/
namespace Nw
open PySem PySem.Spec PyProof.Rows L2
/-- the set at a, without the tuples themselves -/
structure SetW0 (P : Program) (w : World) (h : Heap) (a : Addr) (L : List (Addr × List Int)) : Prop where
  ex : ∃ (es : Array (Int × Value)) (ep : Nat) (t : SetTable), (∃ o, h.get? a = some o ∧ o.ExactSet ∧ o.data = .set es ep t) ∧ es.toList = rowsOf P w L ∧ Laid t (L.map fun p => thash P w p.2) ∧ (L.map (·.2)).Nodup ∧ t.plain = true ∧
    (w.params.followText "set-order" = true ∨ t.led = true) ∧ L.length * 5 < t.mask * 3 ∧ t.mask ≤ 8191 ∧ L.length ≤ 1000
def SetWO (P : Program) (w : World) (a : Addr) (L : List (Addr × List Int)) : HO := .ext fun h => SetW0 P w h a L
section
variable {P : Program} {w : World} {H : Hp} {h : Heap} {a : Addr} {L : List (Addr × List Int)} {es : Array (Int × Value)} {ep : Nat} {t : SetTable}
theorem TupSet.w0 (R : TupSet P w h a L es ep t) (hN : L.length ≤ 1000) : SetW0 P w h a L := ⟨es, ep, t, R.ob, R.rows, R.tab, R.nd, R.plain, R.led, R.room, R.big, hN⟩
theorem SetW0.full (R : SetW0 P w h a L) (ht : ∀ p ∈ L, IsT P w h p.2 p.1) : L.length ≤ 1000 ∧ ∃ es ep t, TupSet P w h a L es ep t := by
  obtain ⟨es, ep, t, h1, h2, h3, h4, h5, h6, h7, h8, h9⟩ := R.ex
  exact ⟨h9, es, ep, t, h1, h2, h3, h4, ht, h5, h6, h7, h8⟩
theorem setWO_new (R : SetW0 P w h a L) : ObjOk P w H h a (SetWO P w a L) := by
  have ⟨es, ep, t, ⟨o, ho, r⟩, q⟩ := R.ex
  refine ⟨R, ⟨o, ho⟩, fun h1 h2 p k => ?_⟩
  have ⟨es', ep', t', ⟨o', ho', r'⟩, q'⟩ := SetW0.ex p
  exact ⟨es', ep', t', ⟨o', k o' ho', r'⟩, q'⟩
end
def adrV : V → Addr
  | .ref a => a
  | _ => 0
/-- a pair as the tables know it -/
def rowV (H : Hp) (x : V) : Addr × List Int := (adrV x, [(keyOf H x).1, (keyOf H x).2])
/-- set(xs): the members are pairs of xs, one of each -/
def rSetW (K : PySem.W.Frag) (P : Program) (w : World) : List V → Hp → VK → Prop := fun us H Q => ∃ (l : Addr) (vs : List V) (ps : List (Int × Int)), us = [V.ref l] ∧ SqL K H l vs ∧ DaAll K H (ps.map dPair) vs ∧ ps.length ≤ 1000 ∧
  ∀ (a : Addr) (L : List (Addr × List Int)), H a = none → (∀ q ∈ L, ∃ p ∈ ps, q.2 = [p.1, p.2] ∧ H q.1 = some (.tup [.int p.1, .int p.2])) → (∀ p ∈ ps, [p.1, p.2] ∈ L.map (·.2)) → Q (.ref a) (upd H a (SetWO P w a L))
/-- sorted of such a set: ascending -/
def rSortedW (K : PySem.W.Frag) (P : Program) (w : World) : List V → Hp → VK → Prop := fun us H Q => ∃ (a : Addr) (L : List (Addr × List Int)), us = [V.ref a] ∧ H a = some (SetWO P w a L) ∧ (∀ q ∈ L, ∃ p : Int × Int, q.2 = [p.1, p.2] ∧ H q.1 = some (.tup [.int p.1, .int p.2])) ∧
  ∀ (L' : List (Addr × List Int)) (p : Addr), L'.Perm L → ascB ltPr (L'.map fun q => toP q.2) = true → H p = none → Q (.ref p) (upd H p (.lst (L'.map fun q => V.ref q.1)))
section
variable {X : Cx}
theorem cr_setW (hc : X.calm = true) (hu : X.A.units + 64 < cLine) : CallR X (.type "set") (rSetW X.K X.prog X.w) := by
  intro pins s σ H us rs Q I r h
  obtain ⟨l, vs, ps, rfl, hl, hA, hN, q⟩ := h
  rw [Vals.ref1 r]
  obtain ⟨its, rv, pl, hz⟩ := I.list hl
  obtain ⟨g1, g2⟩ := keys_of hA
  have e1 : vs = (vs.map (rowV H)).map fun p => V.ref p.1 := by
    rw [List.map_map]
    conv => lhs; rw [← List.map_id vs]
    refine List.map_congr_left fun x hx => ?_
    obtain ⟨t, e, _⟩ := g1 x hx
    rw [e]
    rfl
  have hlen : ps.length = vs.length := by rw [← g2, List.length_map]
  have hn : H s.heap.objs.size = none := I.hok.fresh (Nat.le_refl _)
  refine set_of_tups (P := X.prog) (w := X.w) (vs.map (rowV H)) (I.ok.hd hc) pl.isList ?_ (fun p hp => ?_) ?_ (by omega) fun h' tk g => ?_
  · rw [e1] at rv
    simpa using refs_of_vals rv
  · obtain ⟨x, hx, rfl⟩ := List.mem_map.mp hp
    obtain ⟨t, e, ht⟩ := g1 x hx
    rw [e] at ht ⊢
    exact I.isT (.inl (.inl ht))
  · rw [List.length_map, ← hlen]
    exact hN
  · obtain ⟨keep, L, es, ep, t, R, got⟩ := g
    have hl1 := got.len
    rw [List.length_map, ← hlen] at hl1
    refine ⟨.ref s.heap.objs.size, upd H s.heap.objs.size (SetWO X.prog X.w s.heap.objs.size L), I.laid (t' := tk) keep (Nat.le_refl _) (setWO_new (R.w0 (by omega))), rfl, q _ L hn (fun r hr => ?_) fun p hp => ?_⟩
    · obtain ⟨x, hx, e⟩ := List.mem_map.mp (List.mem_of_mem_take (got.sub r hr))
      obtain ⟨t, e2, ht⟩ := g1 x hx
      refine ⟨keyOf H x, by rw [← g2]; exact List.mem_map.mpr ⟨x, hx, rfl⟩, by rw [← e]; rfl, ?_⟩
      rw [← e]
      rw [e2] at ht ⊢
      exact ht
    · rw [← g2] at hp
      obtain ⟨x, hx, e⟩ := List.mem_map.mp hp
      rw [← e]
      exact got.all (rowV H x) (by rw [List.take_length]; exact List.mem_map.mpr ⟨x, hx, rfl⟩)
theorem cr_sortedW (hc : X.calm = true) : CallR X (.builtin "sorted") (rSortedW X.K X.prog X.w) := by
  intro pins s σ H us rs Q I r h
  obtain ⟨a, L, rfl, ha, hL, q⟩ := h
  rw [Vals.ref1 r]
  have isT : ∀ q ∈ L, IsT X.prog X.w s.heap q.2 q.1 := fun q hq => by
    obtain ⟨p, e, hp⟩ := hL q hq
    rw [e]
    exact I.isT (.inl (.inl hp))
  obtain ⟨hN, es, ep, t, R⟩ := SetW0.full (show SetW0 X.prog X.w s.heap a L from (I.hok a _ ha).1) isT
  have key : ∀ q ∈ L, rowV H (.ref q.1) = q := fun q hq => by
    obtain ⟨p, e, hp⟩ := hL q hq
    have ek := keyOf_at hp
    exact Prod.ext rfl (by show [(keyOf H (.ref q.1)).1, (keyOf H (.ref q.1)).2] = q.2; rw [ek, e])
  obtain ⟨o, ho, hex, hd⟩ := R.ob
  have hes := rows_len R.rows
  apply Calls.call_function_entry kind_sorted plain_sorted entry_sorted (args_sorted1 _)
  unfold Builtin.«sorted»
  refine wpAny_bind (m := checkCount "sorted" 1 1 _) (wpAny_pure ?_)
  refine wpAny_bind (collect_set (A := X.A.in1) (I.ok.hd hc) ⟨o, ho, hex.1, hd⟩ R.fits (by unfold scanBound; omega) R.tab.ris R.led fun s1 vs k1 hz g1 o1 pm => ?_)
  have ev : es.toList.map (·.2) = L.map fun q => Value.ref q.1 := by
    rw [R.rows]
    unfold rowsOf
    rw [List.map_map]
    rfl
  rw [ev] at pm
  have hvl : vs.length ≤ 1000 := by
    rw [pm.length_eq, List.length_map]
    exact hN
  refine wpAny_bind (wpAny_newList ?_ (by rw [sizeLine_eq]; omega))
  have hob : (s1.heap.push (seqObj "list" vs.toArray 0)).get? s1.heap.objs.size = some (seqObj "list" vs.toArray 0) := Heap.get?_push_size _ rfl
  have hp : ∀ v ∈ vs, Srt.IsPair (s1.heap.push (seqObj "list" vs.toArray 0)) v (keyOf H (backV v)).1 (keyOf H (backV v)).2 := fun v hv => by
    obtain ⟨q, hq, rfl⟩ := List.mem_map.mp (pm.mem_iff.mp hv)
    obtain ⟨p, e, hp⟩ := hL q hq
    have ek : keyOf H (backV (.ref q.1)) = p := keyOf_at hp
    rw [ek]
    obtain ⟨_, its2, r2, o2, ho2, hc2, n2, hd2⟩ := I.hok _ _ hp
    obtain ⟨u1, u2, rfl, ri, rj⟩ := vals2 r2
    obtain ⟨t1, rfl⟩ := ri
    obtain ⟨t2, rfl⟩ := rj
    exact ⟨q.1, o2, t1, t2, n2, rfl, Heap.get?_push_of_some _ (k1 _ _ ho2), hc2, hd2⟩
  refine wpAny_bind (wpAny_holding (wpAny_call_entry slot_list_sort ⟨_, hob, rfl⟩ entry_list_sort
    (SrtO.list_sort_ord (SrtO.swo_lex fun u => keyOf H (backV u)) hob (by rw [sizeLine_eq]; omega) (fun h2 => SrtO.pairs_sortableO (by omega) hp fun o e => ?_) fun out h1 h2 => ⟨_, rfl, ?_⟩) (args_list_sort _)))
  · have e' : some o = some (seqObj "list" vs.toArray 0) := e.symm.trans hob
    cases e'
    intro c
    exact absurd (Value.type.inj c) (by decide)
  · obtain ⟨c, hcell⟩ := sortedHeap_at (vs := vs) (out := out.toArray) hob
    have pout : (out.map fun u => rowV H (backV u)).Perm L := by
      have z := (h2.perm.trans pm).map fun u => rowV H (backV u)
      rw [List.map_map] at z
      have e : L.map ((fun u => rowV H (backV u)) ∘ fun q => Value.ref q.1) = L := by
        conv => rhs; rw [← List.map_id L]
        exact List.map_congr_left fun q hq => key q hq
      rw [e] at z
      exact z
    have href : ∀ u ∈ out, ∃ q ∈ L, u = Value.ref q.1 := fun u hu => by
      obtain ⟨q, hq, e⟩ := List.mem_map.mp (pm.mem_iff.mp (h2.perm.mem_iff.mp hu))
      exact ⟨q, hq, e.symm⟩
    have asc : ascB ltPr ((out.map fun u => rowV H (backV u)).map fun q => toP q.2) = true := by
      refine asc_pw ?_
      rw [List.map_map, List.pairwise_map]
      have nd : (out.map fun u => (rowV H (backV u)).2).Nodup := by
        have z := ((pout.map (·.2)).nodup_iff).mpr R.nd
        rw [List.map_map] at z
        exact z
      refine ((List.pairwise_map.mp nd).and h1).imp fun {u v} h => ?_
      obtain ⟨ne, le⟩ := h
      have le := SrtO.lexB_no.mp le
      refine ltPr_iff.mpr ?_
      show (keyOf H (backV u)).1 < (keyOf H (backV v)).1 ∨ ((keyOf H (backV u)).1 = (keyOf H (backV v)).1 ∧ (keyOf H (backV u)).2 < (keyOf H (backV v)).2)
      have ne' : ¬ ((keyOf H (backV u)).1 = (keyOf H (backV v)).1 ∧ (keyOf H (backV u)).2 = (keyOf H (backV v)).2) := fun ⟨x, y⟩ => ne (by
        show [(keyOf H (backV u)).1, (keyOf H (backV u)).2] = [(keyOf H (backV v)).1, (keyOf H (backV v)).2]
        rw [x, y])
      omega
    have eb : (out.map fun u => rowV H (backV u)).map (fun q => V.ref q.1) = out.map backV := by
      rw [List.map_map]
      refine List.map_congr_left fun u hu => ?_
      obtain ⟨q, hq, e⟩ := href u hu
      rw [e]
      rfl
    have keep : ∀ b u, s.heap.get? b = some u → (sortedHeap (s1.heap.push (seqObj "list" vs.toArray 0)) s1.heap.objs.size vs out.toArray).get? b = some u := fun b u e => by
      have e1 := k1 b u e
      have hlt := Heap.lt_size e1
      rw [sortedHeap_old (Nat.ne_of_lt hlt) (by rw [size_push']; exact Nat.lt_succ_of_lt hlt)]
      exact Heap.get?_push_of_some _ e1
    have hn : H s1.heap.objs.size = none := I.hok.fresh hz
    have hlen : ((out.map fun u => rowV H (backV u)).map fun q => V.ref q.1).length ≤ sizeLine := by
      rw [List.length_map, pout.length_eq, sizeLine_eq]
      omega
    have hv : Vals ((out.map fun u => rowV H (backV u)).map fun q => V.ref q.1) out := by
      rw [eb]
      exact vals_back fun u hu => by
        obtain ⟨q, _, e⟩ := href u hu
        exact ⟨_, e⟩
    exact wpAny_pure ⟨_, rfl, .ref _, upd H s1.heap.objs.size (.lst ((out.map fun u => rowV H (backV u)).map fun q => V.ref q.1)), I.call' (ch := []) o1 (Un.laid keep hz hn) (I.hok.laid keep hz ⟨hlen, out, c, hv, hcell⟩) (by rw [show _ = s.gens from g1]; exact I.bare) (fun _ z => nomatch z), rfl, q _ _ pout asc hn⟩
theorem cr_setWK (K : PySem.W.Frag) (P : Program) (w : World) (hc : X.calm = true) (hu : X.A.units + 64 < cLine) (hK : X.K = K := by rfl) (hP : X.prog = P := by rfl) (hw : X.w = w := by rfl) : CallR X (.type "set") (rSetW K P w) := by
  subst hK hP hw
  exact cr_setW hc hu
theorem cr_sortedWK (K : PySem.W.Frag) (P : Program) (w : World) (hc : X.calm = true) (hK : X.K = K := by rfl) (hP : X.prog = P := by rfl) (hw : X.w = w := by rfl) : CallR X (.builtin "sorted") (rSortedW K P w) := by
  subst hK hP hw
  exact cr_sortedW hc
end
/-- sorted(set(xs)) of pairs: the same pairs, ascending -/
theorem sorted_set_pairs {K : PySem.W.Frag} {P : Program} {w : World} {H : Hp} {ps : List (Int × Int)} {a : Addr} {L : List (Addr × List Int)} (ha : H a = none)
    (h1 : ∀ q ∈ L, ∃ p ∈ ps, q.2 = [p.1, p.2] ∧ H q.1 = some (.tup [.int p.1, .int p.2])) (h2 : ∀ p ∈ ps, [p.1, p.2] ∈ L.map (·.2)) :
    (∀ q ∈ L, ∃ p : Int × Int, q.2 = [p.1, p.2] ∧ upd H a (SetWO P w a L) q.1 = some (.tup [.int p.1, .int p.2])) ∧
    ∀ (L' : List (Addr × List Int)) (p : Addr) (o : HO), L'.Perm L → upd H a (SetWO P w a L) p = none → H p = none ∧ Ex H (upd (upd H a (SetWO P w a L)) p o) ∧
      DaAll K (upd (upd H a (SetWO P w a L)) p o) ((L'.map fun q => toP q.2).map dPair) (L'.map fun q => V.ref q.1) ∧ ∀ x, x ∈ (L'.map fun q => toP q.2) ↔ x ∈ ps := by
  have ex1 : Ex H (upd H a (SetWO P w a L)) := Ex.nw ha
  refine ⟨fun r hr => ?_, fun L' p o pm hp => ?_⟩
  · obtain ⟨z, _, e, ht⟩ := h1 r hr
    exact ⟨z, e, ex1 _ _ ht⟩
  · have ex2 : Ex H (upd (upd H a (SetWO P w a L)) p o) := ex1.tr (Ex.nw hp)
    have row : ∀ r ∈ L', ∃ z ∈ ps, r.2 = [z.1, z.2] ∧ H r.1 = some (.tup [.int z.1, .int z.2]) := fun r hr => h1 r (pm.mem_iff.mp hr)
    have key : ∀ M : List (Addr × List Int), (∀ r ∈ M, ∃ z ∈ ps, r.2 = [z.1, z.2] ∧ H r.1 = some (.tup [.int z.1, .int z.2])) → DaAll K (upd (upd H a (SetWO P w a L)) p o) ((M.map fun q => toP q.2).map dPair) (M.map fun q => V.ref q.1) := by
      intro M
      induction M with
      | nil => intro _; exact rfl
      | cons r M ih =>
        intro h
        obtain ⟨z, _, e, ht⟩ := h r List.mem_cons_self
        refine ⟨_, _, rfl, ?_, ih fun r' hr' => h r' (List.mem_cons_of_mem _ hr')⟩
        show Da K _ (dPair (toP r.2)) (.ref r.1)
        rw [e]
        exact dPair_of (p := z) (ex2 _ _ ht)
    refine ⟨?_, ex2, key L' row, fun x => ⟨fun hx => ?_, fun hx => ?_⟩⟩
    · cases e : H p with
      | none => rfl
      | some o' =>
        rw [ex1 _ _ e] at hp
        cases hp
    · obtain ⟨r, hr, rfl⟩ := List.mem_map.mp hx
      obtain ⟨z, hz, e, _⟩ := row r hr
      rw [e]
      exact hz
    · obtain ⟨r, hr, e⟩ := List.mem_map.mp (h2 x hx)
      refine List.mem_map.mpr ⟨r, pm.mem_iff.mpr hr, ?_⟩
      rw [e]
      rfl
end Nw
/-! set(xs) of a list of ints, its length, and sorted of it. -/
namespace Nw
open PySem PySem.Spec PyProof.Rows L2
abbrev bareSet (w : World) : Obj := ⟨.type "set", none, .set #[] 0 (.fresh 0 0 (!w.params.followText "set-order")), #[]⟩
section
variable {P : Program} {w : World} {A : Around} {E : Value → Shared → Prop} {s : Shared}
theorem set_of_ints {l : Addr} {xs : Array Value} (ks : List Int) {Q : Value → Shared → Prop} (ah : A.handled = none) (il : s.heap.IsList l xs) (ik : IntsAre xs.toList ks) (few : ks.length + 1 < scanBound)
    (q : ∀ (g : Heap) (k c : Nat), SetR w g s.heap.objs.size (fun j => decide (j ∈ ks)) c → (∀ b u, s.heap.get? b = some u → g.get? b = some u) → Q (.ref s.heap.objs.size) { s with heap := g, toks := k }) :
    wpAny (model P w) A (call (.type "set") [.ref l]) Q E s := by
  have sz : xs.size = ks.length := by have q := IntsAre.length ik; rwa [Array.length_toList] at q
  obtain ⟨c, tl, mro⟩ := PySem.F.called_set.mro
  have made := PySem.F.called_set.made; have sub := PySem.F.called_set.sub
  refine wpAny_call (codeAny_of_tree ?_); show wpAny _ _ (callAny (.type "set") _) _ _ _
  refine wpAny_pure ⟨Code.quiet_builtin _ (by decide +kernel), codeAny_builtin PySem.F.entry_type_call ?_⟩
  rw [Around.under_plain (weight_type_call_type "set" [.ref l] []) rfl]
  have t1 := PySem.F.called_set.notType; have t2 := PySem.F.called_set.canCreate; have t3 := PySem.F.typeCall_set_1 (.ref l)
  repeat (any_goals (first | assumption | wp_step))
  refine codeAny_mono (code_set_led1 (.ref l) (E := E) (Q₁ := fun ob z => ob = .ref s.heap.objs.size ∧ z = { s with heap := s.heap.push (bareSet w) }) ⟨rfl, rfl⟩) fun r z hr => ?_
  match r, hr with
  | .error _, hr => exact hr
  | .ok .next, hr => exact hr.elim
  | .ok .brk, hr => exact hr.elim
  | .ok .cont, hr => exact hr.elim
  | .ok (.ret ob), hr =>
    obtain ⟨rfl, rfl⟩ := hr
    have g0 : (s.heap.push (bareSet w)).get? s.heap.objs.size = some (bareSet w) := Heap.get?_push_size _ rfl
    have ty : Shared.TypeIs { s with heap := s.heap.push (bareSet w) } (.ref s.heap.objs.size) "set" := ⟨_, g0, rfl⟩
    have i1 := PySem.F.called_set.init.lookup; have i2 := PySem.F.called_set.init.bind (.ref s.heap.objs.size)
    repeat (any_goals (first | assumption | wp_step))
    refine codeAny_mono (codeAny_call_builtin (R := wants (fun r z => r = .none ∧ ∃ g k c, z = { s with heap := g, toks := k } ∧ SetR w g s.heap.objs.size (fun j => decide (j ∈ ks)) c ∧ (∀ b u, s.heap.get? b = some u → g.get? b = some u)) E)
      PySem.F.called_set.init.plain PySem.F.entry_set_init (check_set_init_1 ty ?_)) fun r z hr => ?_
    · obtain ⟨⟨oc, od, oe, osl⟩, ho, e1, n, e2⟩ := il
      simp only at e1 e2; subst e1; subst e2
      have lt : l < s.heap.objs.size := Heap.lt_size ho
      have h2 : (s.heap.push (bareSet w)).get? l = some ⟨.type "list", od, .seq xs n, osl⟩ := Heap.get?_push_of_some _ ho
      have sl := PySem.F.sub_list_set; have sf := PySem.F.sub_list_frozenset; have ne : (Value.type "list" == Value.type "dict") = false := by decide
      have il2 : (s.heap.push (bareSet w)).IsList l xs := ⟨_, h2, rfl, n, rfl⟩
      have s1 : (s.heap.push (bareSet w)).objs.size = s.heap.objs.size + 1 := Heap.size_push ..
      unfold Builtin.«set.__init__» noKeywords Builtin.Frozenset.updateFrom
      generalize hy : pyIter = Y
      wp_walk
      subst hy
      refine wpAny_pyIter_list il2 (wpAny_bind (wpAny_runValue ?_))
      have ah3 : A.in1.in1.in1.handled = none := by simp [ah]
      have nI : l ≠ (s.heap.push (bareSet w)).objs.size := fun z => absurd (z.trans s1) (Nat.ne_of_lt (Nat.lt_succ_of_lt lt))
      have nS : s.heap.objs.size ∉ [(s.heap.push (bareSet w)).objs.size, l] := fun z => by
        rw [s1] at z
        rcases List.mem_cons.mp z with z | z
        · exact absurd z (Nat.ne_of_lt (Nat.lt_succ_self _))
        · exact absurd (List.mem_singleton.mp z) (Nat.ne_of_gt lt)
      refine set_update_ints ((Walks.list ah3 _ l nI xs).toS) s.heap.objs.size nS ks sz few (fun i v hv => ?_) (xs.size - 0) 0 _ (by omega) (Nat.zero_le _) ⟨⟨_, Heap.get?_push_size _ rfl, rfl, rfl⟩, (il2.push _)⟩ ⟨0, Nat.le_refl 0, setR_new_at (Heap.get?_push_of_some _ g0)⟩ ?_
      · have hv' : xs[i]? = some v := hv
        have hi : i < ks.length := by rw [← sz]; exact (Array.getElem?_eq_some_iff.mp hv').1
        obtain ⟨t, e⟩ := IntsAre.int_at ik i v (by rw [Array.getElem?_toList]; exact hv')
        refine ⟨ks[i], t, List.getElem?_eq_getElem hi, ?_⟩
        rw [e, List.getD_eq_getElem?_getD, List.getElem?_eq_getElem hi]; rfl
      · intro z c hm _ hz
        obtain ⟨g, gs, dr, tk, os⟩ := z
        obtain rfl : gs = s.gens := hm.gens
        obtain rfl : dr = s.drawn := hm.drawn
        obtain rfl : os = s.os := hm.os
        show wpAny _ _ _ _ _ _
        refine wpAny_pure ?_; show wpAny _ _ (ret Value.none) _ _ _
        refine wpAny_pure ⟨rfl, g, tk, c, rfl, hz, fun b u e => ?_⟩
        have bl := Heap.lt_size e
        refine hm.heap b u ?_ (Heap.get?_push_of_some _ (Heap.get?_push_of_some _ e))
        intro z
        rcases List.mem_cons.mp z with z | z
        · exact absurd z (Nat.ne_of_lt bl)
        · exact absurd ((List.mem_singleton.mp z).trans s1) (Nat.ne_of_lt (Nat.lt_succ_of_lt bl))
    · match r, hr with
      | .error _, hr => exact hr
      | .ok .next, hr => exact hr.elim
      | .ok .brk, hr => exact hr.elim
      | .ok .cont, hr => exact hr.elim
      | .ok (.ret _), hr =>
        obtain ⟨rfl, g, k, c, rfl, hz, hk⟩ := hr
        repeat (any_goals (first | assumption | wp_step))
        exact q _ _ _ hz hk
end
/-- how many there are -/
def Cnt (S : Int → Bool) (n : Nat) : Prop := ∃ L : List Int, L.Nodup ∧ (∀ k, k ∈ L ↔ S k = true) ∧ L.length = n
theorem SetR.cnt {w : World} {h : Heap} {a : Addr} {S : Int → Bool} {n : Nat} (R : SetR w h a S n) : Cnt S n := by
  obtain ⟨o, es, ep, t, _, _, _, _, nd, hm, _, _, hn, _⟩ := R
  exact ⟨_, nd, fun k => (hm k).symm, by rw [List.length_map, Array.length_toList]; exact hn⟩
def rSetI (K : PySem.W.Frag) (w : World) : List V → Hp → VK → Prop := fun vs H Q => ∃ (l : Addr) (ks : List Int), vs = [.ref l] ∧ SqL K H l (ks.map V.int) ∧ ks.length ≤ 2000 ∧
  ∀ p n, H p = none → Cnt (fun j => decide (j ∈ ks)) n → Q (.ref p) (upd H p (SetO w p (fun j => decide (j ∈ ks)) n))
section
variable {X : Cx}
theorem cr_setI (hc : X.calm = true) : CallR X (.type "set") (rSetI X.K X.w) := by
  intro pins s σ H vs us Q I r h
  obtain ⟨l, ks, rfl, hl, hz, q⟩ := h
  rw [Vals.ref1 r]
  obtain ⟨its, rv, ⟨⟨cls, dd, data, sl⟩, n, e, hc0, _, hd⟩, _⟩ := I.list hl
  simp only at hc0 hd
  subst hc0; subst hd
  refine set_of_ints ks (I.ok.hd hc) ⟨_, e, rfl, n, rfl⟩ (by simpa using ints_of_vals rv) (by unfold scanBound; omega) fun g k c R hk => ?_
  have hn : H s.heap.objs.size = none := I.fresh
  have hno : s.heap.get? s.heap.objs.size = none := by
    cases e2 : s.heap.get? s.heap.objs.size with
    | none => rfl
    | some u => exact absurd (Heap.lt_size e2) (Nat.lt_irrefl _)
  exact ⟨.ref _, _, I.laidN (t' := k) hk hno hn (setO_new R), rfl, q _ _ hn (SetR.cnt R)⟩
end
end Nw
/-! Forcing, as numbers: what a source can force, what is left in the end, the rounds, the rows. -/
namespace Nw
open PySem PySem.Spec PyProof.Rows L2
def kindS (st : Bool) : Str := if st = true then "steady" else "still"
def aimB (u : Wb) (st : Bool) (s t : Int) : Bool := u.lines.contains (s, t) || (st && decide (s = t))
/-- the aims of a source -/
def aims (u : Wb) (st : Bool) (s : Int) : List Int := (iota u.n).filter (aimB u st s)
/-- a quantity that acts on itself, for the kind steady -/
def ownB (u : Wb) (st : Bool) (s : Int) : Bool := st && u.ps.contains (s, s)
/-- what a source can force while some are open -/
def fcd (u : Wb) (st : Bool) (l : List Int) (s : Int) : Option Int :=
  match (aims u st s).filter l.contains with
  | [x] => if ownB u st s = true ∧ x = s then none else some x
  | _ => none
abbrev srcN (u : Wb) : Nat := (u.n + (u.ns.length : Int)).toNat
theorem mem_rowOf {ls : List (Int × Int)} {s t : Int} : t ∈ rowOf ls s ↔ (s, t) ∈ ls := by
  unfold rowOf
  rw [List.mem_map]
  constructor
  · rintro ⟨⟨a, b⟩, h, rfl⟩
    obtain ⟨h1, h2⟩ := List.mem_filter.mp h
    obtain rfl : a = s := by simpa using h2
    exact h1
  · intro h
    exact ⟨(s, t), List.mem_filter.mpr ⟨h, by simp⟩, rfl⟩
theorem asc_rowOf {ls : List (Int × Int)} (h : ascB ltPr ls = true) (s : Int) : ascB ltIn (rowOf ls s) = true := by
  unfold rowOf
  refine asc_pw (List.pairwise_map.mpr ?_)
  refine ((pw_asc h).filter _).imp_of_mem fun {p q} hp hq hl => ?_
  have h1 := (List.mem_filter.mp hp).2
  have h2 := (List.mem_filter.mp hq).2
  have e1 : p.1 = s := by simpa using h1
  have e2 : q.1 = s := by simpa using h2
  have h3 := ltPr_iff.mp hl
  unfold ltIn
  rw [decide_eq_true_eq]
  omega
theorem mem_aims {u : Wb} {st : Bool} {s t : Int} : t ∈ aims u st s ↔ (0 ≤ t ∧ t < u.n) ∧ aimB u st s t = true := by
  unfold aims
  rw [List.mem_filter, mem_iota]
theorem asc_aims {u : Wb} {st : Bool} {s : Int} : ascB ltIn (aims u st s) = true := asc_filter (asc_iota _)
theorem nd_aims {u : Wb} {st : Bool} {s : Int} : (aims u st s).Nodup := nodup_ascI asc_aims
theorem aims_len {u : Wb} (hu : u.Ok) {st : Bool} {s : Int} : (aims u st s).length ≤ 20 := by
  have h := List.length_filter_le (aimB u st s) (iota u.n)
  rw [List.length_map, List.length_range] at h
  have := hu.hi
  unfold aims
  omega
/-- the rows as they stand are the aims of the kind still, and of a nudge -/
theorem aims_row {u : Wb} (hu : u.Ok) {st : Bool} {s : Int} (h : st = false ∨ u.n ≤ s ∨ s ∈ rowOf u.lines s) : rowOf u.lines s = aims u st s := by
  refine ascI_ext (asc_rowOf hu.lines_asc s) asc_aims fun t => ?_
  rw [mem_aims, mem_rowOf]
  unfold aimB
  rw [Bool.or_eq_true, List.contains_iff_mem, Bool.and_eq_true, decide_eq_true_eq]
  constructor
  · intro ht
    exact ⟨(hu.line _ ht).2, .inl ht⟩
  · rintro ⟨ht, h1 | ⟨h1, h2⟩⟩
    · exact h1
    · rcases h with h | h | h
      · rw [h] at h1
        cases h1
      · omega
      · rw [← h2]
        exact mem_rowOf.mp h
theorem aims_own {u : Wb} (hu : u.Ok) {s : Int} (hs : 0 ≤ s ∧ s < u.n) (h : s ∉ rowOf u.lines s) {m : List Int} (hp : m.Perm (rowOf u.lines s ++ [s])) (hw : m.Pairwise (· ≤ ·)) : m = aims u true s := by
  have nd : (rowOf u.lines s ++ [s]).Nodup := nodup_snoc (nodup_ascI (asc_rowOf hu.lines_asc s)) h
  refine ascI_ext (asc_sortedI hp hw nd) asc_aims fun t => ?_
  rw [mem_aims, hp.mem_iff, List.mem_append, List.mem_singleton, mem_rowOf]
  unfold aimB
  rw [Bool.or_eq_true, List.contains_iff_mem, Bool.and_eq_true, decide_eq_true_eq]
  constructor
  · rintro (ht | rfl)
    · exact ⟨(hu.line _ ht).2, .inl ht⟩
    · exact ⟨hs, .inr ⟨rfl, rfl⟩⟩
  · rintro ⟨ht, h1 | ⟨h1, h2⟩⟩
    · exact .inl h1
    · exact .inr h2.symm
theorem own_row {u : Wb} (hu : u.Ok) {s : Int} (hs : s < u.n) : u.ps.contains (s, s) = (rowOf u.lines s).contains s := by
  rw [row_low hu hs, Bool.eq_iff_iff, List.contains_iff_mem, List.contains_iff_mem, mem_rowOf]
theorem own_no {u : Wb} (hu : u.Ok) {st : Bool} {s : Int} (hs : u.n ≤ s) : ownB u st s = false := by
  unfold ownB
  have h : u.ps.contains (s, s) = false := by
    rw [Bool.eq_false_iff]
    intro h
    have := (hu.ps _ (List.contains_iff_mem.mp h)).1
    simp at this
    omega
  rw [h, Bool.and_false]
/-! ### one by one -/
theorem nd_two {α : Type} {l : List α} (nd : l.Nodup) {x : α} (h : ∀ y ∈ l, y = x) (hx : x ∈ l) : l = [x] := by
  match l, nd, h, hx with
  | [y], _, h, _ => rw [h y (by simp)]
  | y :: z :: r, nd, h, _ =>
    have h1 := h y (by simp)
    have h2 := h z (by simp)
    rw [h1, h2] at nd
    simp at nd
theorem fcd_some {u : Wb} {st : Bool} {l : List Int} {s x : Int} : fcd u st l s = some x ↔ (x ∈ aims u st s ∧ x ∈ l ∧ ∀ y, y ∈ aims u st s → y ∈ l → y = x) ∧ ¬ (ownB u st s = true ∧ x = s) := by
  have nd : ((aims u st s).filter l.contains).Nodup := nd_aims.filter _
  have mem : ∀ y, y ∈ (aims u st s).filter l.contains ↔ y ∈ aims u st s ∧ y ∈ l := fun y => by rw [List.mem_filter, List.contains_iff_mem]
  unfold fcd
  constructor
  · intro h
    match e : (aims u st s).filter l.contains, h with
    | [y], h =>
      simp only at h
      split at h
      · cases h
      · rename_i hn
        obtain rfl : y = x := Option.some.inj h
        have m1 : ∀ z, (z ∈ aims u st s ∧ z ∈ l) ↔ z = y := fun z => (mem z).symm.trans (by rw [e]; exact List.mem_singleton)
        refine ⟨⟨((m1 y).mpr rfl).1, ((m1 y).mpr rfl).2, fun z h1 h2 => (m1 z).mp ⟨h1, h2⟩⟩, hn⟩
  · rintro ⟨⟨h1, h2, h3⟩, hn⟩
    have e : (aims u st s).filter l.contains = [x] := nd_two nd (fun y hy => h3 y ((mem y).mp hy).1 ((mem y).mp hy).2) ((mem x).mpr ⟨h1, h2⟩)
    rw [e]
    simp only
    rw [if_neg hn]
abbrev InSrc (u : Wb) (s : Int) : Prop := 0 ≤ s ∧ s < u.n + (u.ns.length : Int)
/-- no source can force anything -/
def Stk (u : Wb) (st : Bool) (l : List Int) : Prop := ∀ s, InSrc u s → fcd u st l s = none
theorem fcd_sub {u : Wb} {st : Bool} {l F : List Int} {s x : Int} (h : fcd u st l s = some x) (sub : ∀ y ∈ F, y ∈ l) (hx : x ∈ F) : fcd u st F s = some x := by
  obtain ⟨⟨h1, h2, h3⟩, hn⟩ := fcd_some.mp h
  exact fcd_some.mpr ⟨⟨h1, hx, fun y hy hF => h3 y hy (sub y hF)⟩, hn⟩
theorem Stk.keep {u : Wb} {st : Bool} {l F : List Int} (hF : Stk u st F) (sub : ∀ y ∈ F, y ∈ l) {s x : Int} (hs : InSrc u s) (h : fcd u st l s = some x) : x ∉ F := fun hx => by
  have h1 := fcd_sub h sub hx
  rw [hF s hs] at h1
  cases h1
/-- what is left: as much as any that no source can force -/
structure Rest (u : Wb) (st : Bool) (l : List Int) : Prop where
  asc : ascB ltIn l = true
  inn : ∀ x ∈ l, 0 ≤ x ∧ x < u.n
  most : ∀ F : List Int, (∀ x ∈ F, 0 ≤ x ∧ x < u.n) → Stk u st F → ∀ x ∈ F, x ∈ l
theorem Rest.all {u : Wb} {st : Bool} : Rest u st (iota u.n) := ⟨asc_iota _, fun x hx => mem_iota.mp hx, fun F hF _ x hx => mem_iota.mpr (hF x hx)⟩
theorem Rest.len {u : Wb} (hu : u.Ok) {st : Bool} {l : List Int} (h : Rest u st l) : l.length ≤ 20 := by
  have h1 := asc_len l 0 h.inn h.asc
  have := hu.hi
  omega
theorem Rest.nd {u : Wb} {st : Bool} {l : List Int} (h : Rest u st l) : l.Nodup := nodup_ascI h.asc
theorem Rest.uniq {u : Wb} {st : Bool} {l m : List Int} (h : Rest u st l) (g : Rest u st m) (hl : Stk u st l) (hm : Stk u st m) : l = m :=
  ascI_ext h.asc g.asc fun x => ⟨fun hx => g.most l h.inn hl x hx, fun hx => h.most m g.inn hm x hx⟩
theorem Rest.minus {u : Wb} {st : Bool} {l : List Int} (h : Rest u st l) {p : Int → Bool} (hp : ∀ x ∈ l, p x = false → ∃ s, InSrc u s ∧ fcd u st l s = some x) : Rest u st (l.filter p) := by
  refine ⟨asc_filter h.asc, fun x hx => h.inn x (List.mem_filter.mp hx).1, fun F hF sF x hx => ?_⟩
  have hl := h.most F hF sF
  refine List.mem_filter.mpr ⟨hl x hx, ?_⟩
  cases e : p x with
  | true => rfl
  | false =>
    obtain ⟨s, hs, hf⟩ := hp x (hl x hx) e
    exact absurd hx (sF.keep hl hs hf)
theorem erase_filter {l : List Int} (nd : l.Nodup) (x : Int) : l.erase x = l.filter fun y => decide (y ≠ x) := by
  rw [nd.erase_eq_filter]
  refine List.filter_congr fun y _ => ?_
  by_cases h : y = x
  · subst h
    simp
  · simp [h]
theorem Rest.erase {u : Wb} {st : Bool} {l : List Int} (h : Rest u st l) {s x : Int} (hs : InSrc u s) (hf : fcd u st l s = some x) : Rest u st (l.erase x) := by
  rw [erase_filter h.nd]
  refine h.minus fun y _ hy => ⟨s, hs, ?_⟩
  have : y = x := by simpa using hy
  rw [this]
  exact hf
theorem stk_nil {u : Wb} {st : Bool} : Stk u st [] := fun s _ => by
  cases h : fcd u st [] s with
  | none => rfl
  | some x =>
    have := (fcd_some.mp h).1.2.1
    cases this
/-! ### who can force what -/
/-- the sources that can force one of those that are open, each with it -/
def able (u : Wb) (st : Bool) (l : List Int) : Nat → List (Int × Int)
  | 0 => []
  | i + 1 => match fcd u st l (i : Int) with
    | none => able u st l i
    | some q => able u st l i ++ [((i : Int), q)]
theorem mem_able {u : Wb} {st : Bool} {l : List Int} {s q : Int} : ∀ {i : Nat}, (s, q) ∈ able u st l i ↔ (0 ≤ s ∧ s < (i : Int)) ∧ fcd u st l s = some q
  | 0 => by
    unfold able
    simp
    omega
  | i + 1 => by
    have ih := mem_able (u := u) (st := st) (l := l) (s := s) (q := q) (i := i)
    unfold able
    by_cases e : s = (i : Int)
    · subst e
      cases h : fcd u st l (i : Int) with
      | none =>
        simp only
        rw [ih]
        simp [h]
      | some r =>
        simp only
        rw [List.mem_append, ih, List.mem_singleton, Prod.mk.injEq]
        simp [h]
        constructor
        · intro h1
          exact ⟨by omega, h1.symm⟩
        · intro h1
          exact h1.2.symm
    · cases h : fcd u st l (i : Int) with
      | none =>
        simp only
        rw [ih]
        constructor
        · rintro ⟨h1, h2⟩
          exact ⟨by omega, h2⟩
        · rintro ⟨h1, h2⟩
          exact ⟨by omega, h2⟩
      | some r =>
        simp only
        rw [List.mem_append, ih, List.mem_singleton, Prod.mk.injEq]
        constructor
        · rintro (⟨h1, h2⟩ | ⟨h1, _⟩)
          · exact ⟨by omega, h2⟩
          · exact absurd h1 e
        · rintro ⟨h1, h2⟩
          exact .inl ⟨by omega, h2⟩
theorem able_len {u : Wb} {st : Bool} {l : List Int} : ∀ {i : Nat}, (able u st l i).length ≤ i
  | 0 => Nat.le_refl _
  | i + 1 => by
    have ih := able_len (u := u) (st := st) (l := l) (i := i)
    unfold able
    split
    · omega
    · rw [List.length_append, List.length_singleton]
      omega
theorem src_cast (u : Wb) (hu : u.Ok) : ((srcN u : Nat) : Int) = u.n + (u.ns.length : Int) := by
  have := hu.lo
  unfold srcN
  omega
abbrev ableA (u : Wb) (st : Bool) (l : List Int) : List (Int × Int) := able u st l (srcN u)
theorem mem_ableA {u : Wb} (hu : u.Ok) {st : Bool} {l : List Int} {s q : Int} : (s, q) ∈ ableA u st l ↔ InSrc u s ∧ fcd u st l s = some q := by
  unfold ableA
  rw [mem_able, src_cast u hu]
theorem able_stk {u : Wb} (hu : u.Ok) {st : Bool} {l : List Int} : ableA u st l = [] ↔ Stk u st l := by
  constructor
  · intro h s hs
    cases e : fcd u st l s with
    | none => rfl
    | some q =>
      have := (mem_ableA hu).mpr ⟨hs, e⟩
      rw [h] at this
      cases this
  · intro h
    rw [List.eq_nil_iff_forall_not_mem]
    rintro ⟨s, q⟩ hm
    obtain ⟨h1, h2⟩ := (mem_ableA hu).mp hm
    rw [h s h1] at h2
    cases h2
/-- all that can be forced at once -/
def rnd (u : Wb) (st : Bool) (l : List Int) : List Int := (iota u.n).filter fun q => (ableA u st l).any fun p => p.2 == q
theorem mem_rnd {u : Wb} (hu : u.Ok) {st : Bool} {l : List Int} {q : Int} : q ∈ rnd u st l ↔ ∃ s, (s, q) ∈ ableA u st l := by
  unfold rnd
  rw [List.mem_filter, List.any_eq_true, mem_iota]
  constructor
  · rintro ⟨_, ⟨s, q'⟩, h, e⟩
    obtain rfl : q' = q := by simpa using e
    exact ⟨s, h⟩
  · rintro ⟨s, h⟩
    have h1 := (fcd_some.mp ((mem_ableA hu).mp h).2).1.1
    exact ⟨(mem_aims.mp h1).1, (s, q), h, by simp⟩
theorem asc_rnd {u : Wb} {st : Bool} {l : List Int} : ascB ltIn (rnd u st l) = true := asc_filter (asc_iota _)
theorem rnd_nil {u : Wb} (hu : u.Ok) {st : Bool} {l : List Int} : rnd u st l = [] ↔ ableA u st l = [] := by
  constructor
  · intro h
    rw [List.eq_nil_iff_forall_not_mem]
    rintro ⟨s, q⟩ hm
    have := (mem_rnd hu).mpr ⟨s, hm⟩
    rw [h] at this
    cases this
  · intro h
    rw [List.eq_nil_iff_forall_not_mem]
    intro q hq
    obtain ⟨s, hs⟩ := (mem_rnd hu).mp hq
    rw [h] at hs
    cases hs
theorem rnd_in {u : Wb} (hu : u.Ok) {st : Bool} {l : List Int} {q : Int} (h : q ∈ rnd u st l) : (0 ≤ q ∧ q < u.n) ∧ q ∈ l := by
  obtain ⟨s, hs⟩ := (mem_rnd hu).mp h
  have h1 := (fcd_some.mp ((mem_ableA hu).mp hs).2).1
  exact ⟨(mem_aims.mp h1.1).1, h1.2.1⟩
/-- without them -/
def less (u : Wb) (st : Bool) (l : List Int) : List Int := l.filter fun q => !(rnd u st l).contains q
theorem Rest.less {u : Wb} (hu : u.Ok) {st : Bool} {l : List Int} (h : Rest u st l) : Rest u st (less u st l) := by
  refine h.minus fun x _ hx => ?_
  have hx' : x ∈ rnd u st l := by simpa using hx
  obtain ⟨s, hs⟩ := (mem_rnd hu).mp hx'
  exact ⟨s, (mem_ableA hu).mp hs⟩
theorem less_lt {u : Wb} (hu : u.Ok) {st : Bool} {l : List Int} (h : rnd u st l ≠ []) : (less u st l).length < l.length := by
  obtain ⟨q, hq⟩ := List.exists_mem_of_ne_nil _ h
  have h1 := (rnd_in hu hq).2
  have := filter_more (p := fun q => !(rnd u st l).contains q) (q := fun _ => true) (fun _ _ => rfl) h1 rfl (by simpa using hq)
  rw [filter_true] at this
  exact this
/-- the rounds -/
inductive Rnds (u : Wb) (st : Bool) : List Int → List (List Int) → Prop
  | nil {l : List Int} : rnd u st l = [] → Rnds u st l []
  | cons {l : List Int} {ds : List (List Int)} : rnd u st l ≠ [] → Rnds u st (less u st l) ds → Rnds u st l (rnd u st l :: ds)
theorem Rnds.uniq {u : Wb} {st : Bool} {l : List Int} {ds es : List (List Int)} (h : Rnds u st l ds) (g : Rnds u st l es) : ds = es := by
  induction h generalizing es with
  | nil e =>
    cases g with
    | nil _ => rfl
    | cons e2 _ => exact absurd e e2
  | cons e _ ih =>
    cases g with
    | nil e2 => exact absurd e2 e
    | cons _ g => rw [ih g]
/-- the row with the least ones -/
def IsLeast (P : Int → Prop) (x : Int) : Prop := P x ∧ ∀ y, P y → x ≤ y
theorem IsLeast.uniq {P : Int → Prop} {x y : Int} (h : IsLeast P x) (g : IsLeast P y) : x = y := by
  have h1 := h.2 y g.1
  have h2 := g.2 x h.1
  omega
structure Pick (u : Wb) (st : Bool) (l : List Int) (s q : Int) : Prop where
  qq : IsLeast (fun (y : Int) => ∃ z : Int, (z, y) ∈ ableA u st l) q
  ss : IsLeast (fun (z : Int) => (z, q) ∈ ableA u st l) s
inductive LRow (u : Wb) (st : Bool) : List Int → List (Int × Int) → Prop
  | nil {l : List Int} : ableA u st l = [] → LRow u st l []
  | cons {l : List Int} {s q : Int} {row : List (Int × Int)} : Pick u st l s q → LRow u st (l.erase q) row → LRow u st l ((s, q) :: row)
theorem LRow.uniq {u : Wb} {st : Bool} {l : List Int} {a b : List (Int × Int)} (h : LRow u st l a) (g : LRow u st l b) : a = b := by
  induction h generalizing b with
  | nil e =>
    cases g with
    | nil _ => rfl
    | cons p _ =>
      have := p.ss.1
      rw [e] at this
      cases this
  | cons p _ ih =>
    cases g with
    | nil e =>
      have := p.ss.1
      rw [e] at this
      cases this
    | cons p2 g =>
      have e1 := p.qq.uniq p2.qq
      subst e1
      have e2 := p.ss.uniq p2.ss
      subst e2
      rw [ih g]
/-- any row: each can force its quantity while those ahead are forced -/
inductive VRow (u : Wb) (st : Bool) : List Int → List (Int × Int) → List Int → Prop
  | nil {l : List Int} : VRow u st l [] l
  | cons {l m : List Int} {s q : Int} {row : List (Int × Int)} : (s, q) ∈ ableA u st l → VRow u st (l.erase q) row m → VRow u st l ((s, q) :: row) m
theorem VRow.snoc {u : Wb} {st : Bool} {l m : List Int} {row : List (Int × Int)} (h : VRow u st l row m) {s q : Int} (g : (s, q) ∈ ableA u st m) : VRow u st l (row ++ [(s, q)]) (m.erase q) := by
  induction h with
  | nil => exact .cons g .nil
  | cons e _ ih => exact .cons e (ih g)
theorem VRow.rest {u : Wb} (hu : u.Ok) {st : Bool} {l m : List Int} {row : List (Int × Int)} (h : VRow u st l row m) (hl : Rest u st l) : Rest u st m := by
  induction h with
  | nil => exact hl
  | cons e _ ih =>
    obtain ⟨h1, h2⟩ := (mem_ableA hu).mp e
    exact ih (hl.erase h1 h2)
theorem LRow.vrow {u : Wb} {st : Bool} {l : List Int} {row : List (Int × Int)} (h : LRow u st l row) : ∃ m, VRow u st l row m ∧ ableA u st m = [] := by
  induction h with
  | nil e => exact ⟨_, .nil, e⟩
  | cons p _ ih =>
    obtain ⟨m, h1, h2⟩ := ih
    exact ⟨m, .cons p.ss.1 h1, h2⟩
/-- the pair that a datum is -/
def prOf : PyData → Option (Int × Int)
  | .tuple [.int a, .int b] => some (a, b)
  | _ => none
theorem prOf_some {d : PyData} {p : Int × Int} (h : prOf d = some p) : d = dPair p := by
  unfold prOf at h
  split at h
  · cases h
    rfl
  · cases h
theorem prOf_pair (p : Int × Int) : prOf (dPair p) = some p := rfl
theorem tupB_none {d : PyData} {m n : Int} (h : prOf d = none) : tupB d m n = false := by
  cases e : tupB d m n with
  | false => rfl
  | true =>
    obtain ⟨i, j, rfl, _⟩ := tupB_inv e
    cases h
theorem tupB_pair {p : Int × Int} {m n : Int} : tupB (dPair p) m n = (decide (0 ≤ p.1 ∧ p.1 < m) && decide (0 ≤ p.2 ∧ p.2 < n)) := by
  unfold dPair tupB numB
  simp [Bool.decide_and]
/-- whether any value is a forcing row -/
def frowD (u : Wb) (st : Bool) : List Int → List PyData → Bool
  | l, [] => l.isEmpty
  | l, d :: ds => match prOf d with
    | some p => (decide (InSrc u p.1) && (fcd u st l p.1 == some p.2)) && frowD u st (l.erase p.2) ds
    | none => false
def frowB (u : Wb) (st : Bool) : PyData → Bool
  | .list ds => frowD u st (iota u.n) ds
  | _ => false
theorem frow_of {u : Wb} (hu : u.Ok) {st : Bool} {l m : List Int} {row : List (Int × Int)} (h : VRow u st l row m) : frowD u st l (row.map dPair) = m.isEmpty := by
  induction h with
  | nil => rfl
  | cons e _ ih =>
    obtain ⟨h1, h2⟩ := (mem_ableA hu).mp e
    show ((decide _ && _) && frowD u st _ _) = _
    rw [ih, decide_eq_true h1, h2]
    simp
end Nw
/-! Rules of sets of ints and of dicts, by the written part's own name. -/
namespace Nw
open PySem PySem.Spec PyProof.Rows L2
section
variable {X : Cx}
theorem cr_setIK (K : PySem.W.Frag) (w : World) (hc : X.calm = true) (hK : X.K = K := by rfl) (hw : X.w = w := by rfl) : CallR X (.type "set") (rSetI K w) := by
  subst hK hw
  exact cr_setI hc
theorem cr_sortedSetK (w : World) (hc : X.calm = true) (hw : X.w = w := by rfl) : CallR X (.builtin "sorted") (rSortedSet w) := by
  subst hw
  exact cr_sortedSet hc
theorem pe_dget1K {k : Nat} {o e : Expr} {td ty : TE} {apos cpos : Pos} (hr : Room k X.A) (ho : PE X o td) (he : PE X e ty) (m : M1 X o "get" apos e cpos) : PE X (.Call (.Attribute o "get" apos) [e] [] cpos) (tDGet1 td ty) := pe_dget1 (by have := hr.un; omega) ho he m
end
theorem inV_int {q : Int} {r : List Int} : inV (.int q) (r.map V.int) = r.contains q := by
  rw [Bool.eq_iff_iff]
  unfold inV
  rw [List.any_map, List.any_eq_true, List.contains_iff_mem]
  constructor
  · rintro ⟨y, hy, h⟩
    have : y = q := by simpa [eqV] using h
    rw [← this]
    exact hy
  · intro h
    exact ⟨q, h, by simp [eqV]⟩
theorem in_int {q : Int} {r : List Int} : (if false = true then !inV (.int q) (r.map V.int) else inV (.int q) (r.map V.int)) = r.contains q := inV_int
theorem notin_int {q : Int} {r : List Int} : (if true = true then !inV (.int q) (r.map V.int) else inV (.int q) (r.map V.int)) = !r.contains q := congrArg not inV_int
theorem flat_ints {r : List Int} : (r.map V.int).all flatV = true := by
  rw [List.all_map, List.all_eq_true]
  intro x _
  rfl
/-- what sorted(set(xs)) gives: ascending, the same members -/
theorem sortedSet_of {ks ns : List Int} (h1 : ns.Pairwise (· < ·)) (h2 : ∀ k : Int, k ∈ ns ↔ decide (k ∈ ks) = true) : ascB ltIn ns = true ∧ ∀ k, k ∈ ns ↔ k ∈ ks :=
  ⟨asc_pw (h1.imp fun h => by unfold ltIn; rw [decide_eq_true_eq]; exact h), fun k => (h2 k).trans decide_eq_true_iff⟩
/-- the quantities that can be forced, each with the least source, in the sequence of the sources -/
def lsq (u : Wb) (st : Bool) (l : List Int) : Nat → List (Int × Int)
  | 0 => []
  | i + 1 => match fcd u st l (i : Int) with
    | none => lsq u st l i
    | some q => if (lsq u st l i).any (fun p => p.1 == q) = true then lsq u st l i else lsq u st l i ++ [(q, (i : Int))]
def kvI (ps : List (Int × Int)) : List (Key × V) := ps.map fun p => (Sum.inl p.1, V.int p.2)
theorem kvI_get : ∀ {ps : List (Int × Int)} {q : Int}, valV (kvI ps) (Sum.inl q) = (ps.find? fun p => p.1 == q).map fun p => V.int p.2
  | [], _ => rfl
  | p :: ps, q => by
    have ih := kvI_get (ps := ps) (q := q)
    unfold valV kvI at ih ⊢
    rw [List.map_cons, List.find?_cons, List.find?_cons]
    by_cases h : p.1 = q
    · subst h
      simp
    · have h1 : decide ((Sum.inl p.1 : Key) = Sum.inl q) = false := decide_eq_false fun e => h (Sum.inl.inj e)
      have h2 : (p.1 == q) = false := by simpa using h
      simp only [h1, h2]
      exact ih
theorem find_none {ps : List (Int × Int)} {q : Int} : (ps.find? fun p => p.1 == q) = none ↔ ps.any (fun p => p.1 == q) = false := by
  rw [List.find?_eq_none, List.any_eq_false]
theorem kvI_put {ps : List (Int × Int)} {q : Int} {s : Int} (h : ps.any (fun p => p.1 == q) = false) : putK (kvI ps) (Sum.inl q) (V.int s) = kvI (ps ++ [(q, s)]) := by
  unfold putK kvI
  rw [if_neg, List.map_append]
  · rfl
  · rw [Bool.not_eq_true, List.any_map, ← h]
    refine List.any_congr rfl fun p => ?_
    show decide ((Sum.inl p.1 : Key) = Sum.inl q) = (p.1 == q)
    by_cases e : p.1 = q
    · simp [e]
    · rw [decide_eq_false fun z => e (Sum.inl.inj z)]
      simp [e]
theorem kvI_keys (ps : List (Int × Int)) : (kvI ps).map (·.1) = (ps.map (·.1)).map Sum.inl := by
  unfold kvI
  rw [List.map_map, List.map_map]
  rfl
theorem lsq_keys {u : Wb} {st : Bool} {l : List Int} : ∀ {i : Nat}, ((lsq u st l i).map (·.1)).Nodup
  | 0 => List.nodup_nil
  | i + 1 => by
    have ih := lsq_keys (u := u) (st := st) (l := l) (i := i)
    unfold lsq
    split
    · exact ih
    · split
      · exact ih
      · rename_i q _ h
        rw [List.map_append]
        refine nodup_snoc ih fun hm => h ?_
        obtain ⟨p, hp, e⟩ := List.mem_map.mp hm
        exact List.any_eq_true.mpr ⟨p, hp, by simpa using e⟩
theorem lsq_len {u : Wb} {st : Bool} {l : List Int} : ∀ {i : Nat}, (lsq u st l i).length ≤ i
  | 0 => Nat.le_refl _
  | i + 1 => by
    have ih := lsq_len (u := u) (st := st) (l := l) (i := i)
    unfold lsq
    split
    · omega
    · split
      · omega
      · rw [List.length_append, List.length_singleton]
        omega
theorem mem_lsq {u : Wb} {st : Bool} {l : List Int} {q s : Int} : ∀ {i : Nat}, (q, s) ∈ lsq u st l i ↔ IsLeast (fun z => (z, q) ∈ able u st l i) s
  | 0 => by
    unfold lsq IsLeast able
    simp
  | i + 1 => by
    have ih := mem_lsq (u := u) (st := st) (l := l) (q := q) (s := s) (i := i)
    have low : ∀ z q, (z, q) ∈ able u st l i → z < (i : Int) := fun z q h => (mem_able.mp h).1.2
    have key : ∀ y, (lsq u st l i).any (fun p => p.1 == y) = true ↔ ∃ z, (z, y) ∈ able u st l i := fun y => by
      rw [List.any_eq_true]
      constructor
      · rintro ⟨⟨a, b⟩, h, e⟩
        obtain rfl : a = y := by simpa using e
        have h1 := (mem_lsq (u := u) (st := st) (l := l) (q := a) (s := b) (i := i)).mp h
        exact ⟨b, h1.1⟩
      · rintro ⟨z, hz⟩
        have : ∃ m, IsLeast (fun z => (z, y) ∈ able u st l i) m := by
          have h0 := (mem_able.mp hz).1
          have hex : ∃ k : Nat, ((k : Int), y) ∈ able u st l i := ⟨z.toNat, by rw [Int.toNat_of_nonneg h0.1]; exact hz⟩
          have hmin : ∃ k : Nat, ((k : Int), y) ∈ able u st l i ∧ ∀ j : Nat, j < k → ((j : Int), y) ∉ able u st l i := by
            obtain ⟨k, hk⟩ := hex
            induction k using Nat.strongRecOn with
            | ind k ihk =>
              by_cases hj : ∃ j : Nat, j < k ∧ ((j : Int), y) ∈ able u st l i
              · obtain ⟨j, h1, h2⟩ := hj
                exact ihk j h1 h2
              · exact ⟨k, hk, fun j hjk hm => hj ⟨j, hjk, hm⟩⟩
          obtain ⟨k, hk, hl⟩ := hmin
          refine ⟨k, hk, fun m hm => ?_⟩
          have h1 := (mem_able.mp hm).1
          by_cases hlt : m < (k : Int)
          · exact absurd (by rw [Int.toNat_of_nonneg h1.1]; exact hm) (hl m.toNat (by omega))
          · omega
        obtain ⟨m, hm⟩ := this
        exact ⟨(y, m), (mem_lsq (u := u) (st := st) (l := l) (q := y) (s := m) (i := i)).mpr hm, by simp⟩
    unfold lsq
    have e : able u st l (i + 1) = match fcd u st l (i : Int) with
      | none => able u st l i
      | some q => able u st l i ++ [((i : Int), q)] := rfl
    rw [e]
    cases hf : fcd u st l (i : Int) with
    | none => exact ih
    | some r =>
      simp only
      by_cases hk : (lsq u st l i).any (fun p => p.1 == r) = true
      · rw [if_pos hk, ih]
        obtain ⟨z0, hz0⟩ := (key r).mp hk
        have hlt := low _ _ hz0
        unfold IsLeast
        constructor
        · rintro ⟨h1, h2⟩
          refine ⟨List.mem_append.mpr (.inl h1), fun y hy => ?_⟩
          rcases List.mem_append.mp hy with hy | hy
          · exact h2 y hy
          · have e2 := List.mem_singleton.mp hy
            rw [Prod.mk.injEq] at e2
            have := low _ _ h1
            omega
        · rintro ⟨h1, h2⟩
          rcases List.mem_append.mp h1 with h1 | h1
          · exact ⟨h1, fun y hy => h2 y (List.mem_append.mpr (.inl hy))⟩
          · have e2 := List.mem_singleton.mp h1
            rw [Prod.mk.injEq] at e2
            have h3 := h2 z0 (List.mem_append.mpr (.inl (by rw [e2.2]; exact hz0)))
            omega
      · rw [if_neg hk, List.mem_append, ih, List.mem_singleton, Prod.mk.injEq]
        have hno : ∀ z, (z, r) ∉ able u st l i := fun z hz => hk ((key r).mpr ⟨z, hz⟩)
        unfold IsLeast
        constructor
        · rintro (⟨h1, h2⟩ | ⟨rfl, rfl⟩)
          · refine ⟨List.mem_append.mpr (.inl h1), fun y hy => ?_⟩
            rcases List.mem_append.mp hy with hy | hy
            · exact h2 y hy
            · have e2 := List.mem_singleton.mp hy
              rw [Prod.mk.injEq] at e2
              have := low _ _ h1
              omega
          · refine ⟨List.mem_append.mpr (.inr (by simp)), fun y hy => ?_⟩
            rcases List.mem_append.mp hy with hy | hy
            · exact absurd hy (hno y)
            · have e2 := List.mem_singleton.mp hy
              rw [Prod.mk.injEq] at e2
              omega
        · rintro ⟨h1, h2⟩
          rcases List.mem_append.mp h1 with h1 | h1
          · exact .inl ⟨h1, fun y hy => h2 y (List.mem_append.mpr (.inl hy))⟩
          · have e2 := List.mem_singleton.mp h1
            rw [Prod.mk.injEq] at e2
            exact .inr ⟨e2.2, e2.1⟩
/-- the same when all sources are gone through -/
theorem lsq_rnd {u : Wb} (hu : u.Ok) {st : Bool} {l : List Int} {q : Int} : q ∈ (lsq u st l (srcN u)).map (·.1) ↔ q ∈ rnd u st l := by
  rw [mem_rnd hu, List.mem_map]
  constructor
  · rintro ⟨⟨a, b⟩, h, rfl⟩
    exact ⟨b, (mem_lsq.mp h).1⟩
  · rintro ⟨s, hs⟩
    have h0 := (mem_able.mp hs).1
    have : ∃ m, IsLeast (fun z => (z, q) ∈ able u st l (srcN u)) m := by
      have hmin : ∀ k : Nat, ((k : Int), q) ∈ able u st l (srcN u) → ∃ k : Nat, ((k : Int), q) ∈ able u st l (srcN u) ∧ ∀ j : Nat, j < k → ((j : Int), q) ∉ able u st l (srcN u) := fun k => by
        induction k using Nat.strongRecOn with
        | ind k ihk =>
          intro hk
          by_cases hj : ∃ j : Nat, j < k ∧ ((j : Int), q) ∈ able u st l (srcN u)
          · obtain ⟨j, h1, h2⟩ := hj
            exact ihk j h1 h2
          · exact ⟨k, hk, fun j hjk hm => hj ⟨j, hjk, hm⟩⟩
      obtain ⟨k, hk, hl⟩ := hmin s.toNat (by rw [Int.toNat_of_nonneg h0.1]; exact hs)
      refine ⟨k, hk, fun m hm => ?_⟩
      have h1 := (mem_able.mp hm).1
      by_cases hlt : m < (k : Int)
      · exact absurd (by rw [Int.toNat_of_nonneg h1.1]; exact hm) (hl m.toNat (by omega))
      · omega
    obtain ⟨m, hm⟩ := this
    exact ⟨(q, m), mem_lsq.mpr hm, rfl⟩
theorem lsq_nil {u : Wb} (hu : u.Ok) {st : Bool} {l : List Int} : lsq u st l (srcN u) = [] ↔ ableA u st l = [] := by
  rw [← rnd_nil hu, List.eq_nil_iff_forall_not_mem, List.eq_nil_iff_forall_not_mem]
  constructor
  · intro h q hq
    obtain ⟨p, hp, _⟩ := List.mem_map.mp ((lsq_rnd hu).mpr hq)
    exact h p hp
  · intro h p hp
    exact h p.1 ((lsq_rnd hu).mp (List.mem_map.mpr ⟨p, hp, rfl⟩))
end Nw
/-! Any data of bounded size, whose lists all are of at most a thousand items. -/
namespace Nw
open PySem PySem.Spec PyProof.Rows L2
mutual
def slim : PyData → Bool
  | .list xs => decide (xs.length ≤ 1000) && slimAll xs
  | .tuple xs => slimAll xs
  | .dict kvs => slimKv kvs
  | _ => true
def slimAll : List PyData → Bool
  | [] => true
  | x :: xs => slim x && slimAll xs
def slimKv : List (PyData × PyData) → Bool
  | [] => true
  | (k, v) :: r => slim k && slim v && slimKv r
end
theorem slimAll_iff : ∀ {xs : List PyData}, slimAll xs = true ↔ ∀ x ∈ xs, slim x = true
  | [] => ⟨fun _ x hx => (nomatch hx), fun _ => rfl⟩
  | x :: xs => by
    simp only [slimAll, Bool.and_eq_true, slimAll_iff (xs := xs), List.mem_cons]
    exact ⟨fun ⟨a, b⟩ y hy => hy.elim (fun e => e ▸ a) (b y), fun h => ⟨h x (.inl rfl), fun y hy => h y (.inr hy)⟩⟩
theorem slim_list {xs : List PyData} (h : slim (.list xs) = true) : xs.length ≤ 1000 ∧ ∀ x ∈ xs, slim x = true := by
  simp only [slim, Bool.and_eq_true, decide_eq_true_eq] at h
  exact ⟨h.1, slimAll_iff.mp h.2⟩
theorem slim_tup {xs : List PyData} (h : slim (.tuple xs) = true) : ∀ x ∈ xs, slim x = true := slimAll_iff.mp h
theorem nodup_lenP {α : Type} [DecidableEq α] : ∀ {l m : List α}, l.Nodup → (∀ x ∈ l, x ∈ m) → l.length ≤ m.length
  | [], _, _, _ => Nat.zero_le _
  | x :: l, m, h, s => by
    obtain ⟨h1, h2⟩ := List.nodup_cons.mp h
    have hx := s x List.mem_cons_self
    have ih := nodup_lenP (m := m.erase x) h2 fun y hy => (List.mem_erase_of_ne (fun e : y = x => h1 (e ▸ hy))).2 (s y (List.mem_cons_of_mem _ hy))
    rw [List.length_erase_of_mem hx] at ih
    have := List.length_pos_of_mem hx
    rw [List.length_cons]
    omega
section
variable {K : PySem.W.Frag} {H H' : Hp} {n k m j : Nat}
def Gw (K : PySem.W.Frag) (H : Hp) (n k : Nat) (v : V) : Prop := ∃ d, Da K H d v ∧ Sh 41 n k d ∧ slim d = true
def GwAll (K : PySem.W.Frag) (H : Hp) (n k : Nat) (vs : List V) : Prop := ∃ ds, DaAll K H ds vs ∧ ∀ x ∈ ds, Sh 41 n k x ∧ slim x = true
theorem Gw.up {v : V} (h : Gw K H n k v) (e : Ex H H') : Gw K H' n k v := by
  obtain ⟨d, h1, h2⟩ := h
  exact ⟨d, h1.up e, h2⟩
theorem GwAll.up {vs : List V} (h : GwAll K H n k vs) (e : Ex H H') : GwAll K H' n k vs := by
  obtain ⟨d, h1, h2⟩ := h
  exact ⟨d, h1.up e, h2⟩
theorem Gw.wide {v : V} (h : Gw K H n k v) (hn : n ≤ m) (hk : k ≤ j) : Gw K H m j v := by
  obtain ⟨d, h1, h2, h3⟩ := h
  exact ⟨d, h1, h2.wide hn hk, h3⟩
theorem GwAll.wide {vs : List V} (h : GwAll K H n k vs) (hn : n ≤ m) (hk : k ≤ j) : GwAll K H m j vs := by
  obtain ⟨d, h1, h2⟩ := h
  exact ⟨d, h1, fun x hx => ⟨(h2 x hx).1.wide hn hk, (h2 x hx).2⟩⟩
theorem GwAll.nil : GwAll K H n k [] := ⟨[], rfl, fun x hx => by cases hx⟩
theorem GwAll.cons {v : V} {vs : List V} (h : Gw K H n k v) (t : GwAll K H n k vs) : GwAll K H n k (v :: vs) := by
  obtain ⟨d, h1, h2⟩ := h
  obtain ⟨ds, t1, t2⟩ := t
  exact ⟨d :: ds, ⟨_, _, rfl, h1, t1⟩, fun x hx => (List.mem_cons.mp hx).elim (fun e => e ▸ h2) (t2 x)⟩
theorem GwAll.at {vs : List V} {i : Nat} {x : V} (h : GwAll K H n k vs) (hx : vs[i]? = some x) : Gw K H n k x := by
  obtain ⟨ds, h1, h2⟩ := h
  obtain ⟨d, hd, hdx⟩ := h1.at' hx
  exact ⟨d, hdx, h2 d (List.mem_of_getElem? hd)⟩
theorem GwAll.app {vs ws : List V} (h : GwAll K H n k vs) (g : GwAll K H n k ws) : GwAll K H n k (vs ++ ws) := by
  obtain ⟨ds, h1, h2⟩ := h
  obtain ⟨es, g1, g2⟩ := g
  exact ⟨ds ++ es, h1.app g1, fun x hx => (List.mem_append.mp hx).elim (h2 x) (g2 x)⟩
theorem GwAll.sub {vs ws : List V} (h : GwAll K H n k vs) (hm : ∀ x ∈ ws, x ∈ vs) : GwAll K H n k ws := by
  obtain ⟨ds, h1, h2⟩ := h
  obtain ⟨es, g1, g2⟩ := DaAll.of_mem h1 hm
  exact ⟨es, g1, fun x hx => h2 x (g2 x hx)⟩
theorem GwAll.cut {vs : List V} {lo hi : Option Int} (h : GwAll K H n k vs) : GwAll K H n k (cutV vs lo hi) := h.sub fun x hx => List.mem_of_mem_drop (List.mem_of_mem_take hx)
theorem GwAll.rev {vs : List V} (h : GwAll K H n k vs) : GwAll K H n k vs.reverse := h.sub fun x hx => List.mem_reverse.mp hx
theorem Gw.list {a : Addr} {vs : List V} (h : H a = some (.lst vs)) (g : GwAll K H n k vs) (hl : vs.length ≤ m) (hm : m ≤ 1000) : Gw K H (1 + n * m) (k + 1) (.ref a) := by
  obtain ⟨ds, h1, h2⟩ := g
  have e := h1.len
  refine ⟨.list ds, ⟨a, vs, rfl, h, h1, by omega⟩, Sh.list (fun x hx => (h2 x hx).1) (by omega), ?_⟩
  simp only [slim, Bool.and_eq_true, decide_eq_true_eq]
  exact ⟨by omega, slimAll_iff.mpr fun x hx => (h2 x hx).2⟩
theorem Gw.tup {a : Addr} {vs : List V} (h : H a = some (.tup vs)) (g : GwAll K H n k vs) (hl : vs.length ≤ m) : Gw K H (1 + n * m) (k + 1) (.ref a) := by
  obtain ⟨ds, h1, h2⟩ := g
  have e := h1.len
  exact ⟨.tuple ds, ⟨a, vs, rfl, h, h1⟩, Sh.tuple (fun x hx => (h2 x hx).1) (by omega), slimAll_iff.mpr fun x hx => (h2 x hx).2⟩
theorem Gw.of {v : V} (h : Gd K H n k v) (f : ∀ d, Da K H d v → slim d = true) : Gw K H n k v := by
  obtain ⟨d, h1, h2⟩ := h
  exact ⟨d, h1, h2, f d h1⟩
theorem Gw.non : Gw K H (n + 1) k .non := ⟨.none, rfl, ⟨rfl, rfl, by simp only [nodes]; omega, by simp only [PyData.depth]; omega⟩, rfl⟩
theorem Gw.bl {b : Bool} : Gw K H (n + 1) k (.bl b) := ⟨.bool b, rfl, ⟨rfl, rfl, by simp only [nodes]; omega, by simp only [PyData.depth]; omega⟩, rfl⟩
theorem Gw.int {i : Int} (h : i.natAbs < 10000000000000000000000000000000000000000) : Gw K H (n + 1) k (.int i) :=
  ⟨.int i, rfl, (Sh.int (k := 40) (by decide) (small40 h).1 (small40 h).2).wide (by omega) (by omega), rfl⟩
theorem Gw.str {x : Str} (h : (PyData.shown (.str x)).length ≤ 41) : Gw K H (n + 1) k (.str x) :=
  ⟨.str x, rfl, ⟨rfl, by simpa only [lf, decide_eq_true_eq] using h, by simp only [nodes]; omega, by simp only [PyData.depth]; omega⟩, rfl⟩
theorem Gw.dict0 {a : Addr} (h : H a = some (.dK [])) : Gw K H (n + 1) (k + 1) (.ref a) :=
  ⟨.dict [], ⟨a, [], rfl, h, rfl, rfl⟩, ⟨rfl, rfl, by simp only [nodes, nodesKv]; omega, by simp only [PyData.depth, PyData.depthKv]; omega⟩, rfl⟩
/-- a dict of one int and one int -/
theorem Gw.dict1i {a : Addr} (h : H a = some (.dK [(Sum.inl 0, .int 0)])) : Gw K H (n + 3) (k + 1) (.ref a) := by
  have hs : Sh 41 3 1 (.dict [(.int 0, .int 0)]) := shB_sh (by decide +kernel)
  exact ⟨.dict [(.int 0, .int 0)], ⟨a, _, rfl, h, rfl, _, _, rfl, rfl, rfl⟩, hs.wide (by omega) (by omega), rfl⟩
theorem GwAll.rep {vs : List V} {j : Nat} (h : GwAll K H n k vs) : GwAll K H n k (List.replicate j vs).flatten := h.sub fun x hx => by
  obtain ⟨l, hl, hx⟩ := List.mem_flatten.mp hx
  rw [List.eq_of_mem_replicate hl] at hx
  exact hx
/-- a web's pairs are at most 400 -/
theorem pairs400 {u : Wb} (hu : u.Ok) : u.ps.length ≤ 400 := by
  have z := nodup_lenP (nodup_asc hu.asc) (m := (List.range 400).map fun i => (((i / 20 : Nat) : Int), ((i % 20 : Nat) : Int))) fun p hp => by
    obtain ⟨⟨a, b⟩, c, d⟩ := hu.ps p hp
    have hi := hu.hi
    refine List.mem_map.mpr ⟨p.1.toNat * 20 + p.2.toNat, List.mem_range.mpr (by omega), Prod.ext ?_ ?_⟩
    · show (((p.1.toNat * 20 + p.2.toNat) / 20 : Nat) : Int) = p.1
      omega
    · show (((p.1.toNat * 20 + p.2.toNat) % 20 : Nat) : Int) = p.2
      omega
  rw [List.length_map, List.length_range] at z
  exact z
end
end Nw
/-! How many apart there can be. -/
namespace Nw
open PySem PySem.Spec PyProof.Rows L2
theorem apart_le : ∀ (k : Nat) (l : List Int), l.Nodup → (∀ b ∈ l, 0 ≤ b ∧ b < (k : Int)) → l.length ≤ k
  | 0, l, _, h => by
    cases l with
    | nil => exact Nat.le_refl _
    | cons x r =>
      have := h x (by simp)
      omega
  | k + 1, l, nd, h => by
    have h1 := apart_le k (l.erase (k : Int)) (nd.erase _) fun b hb => by
      have h2 := h b (List.mem_of_mem_erase hb)
      have h3 : b ≠ (k : Int) := fun e => by
        rw [e] at hb
        exact (nd.mem_erase_iff.mp hb).1 rfl
      omega
    rw [List.length_erase] at h1
    split at h1
    · omega
    · omega
theorem apart_few {l : List Int} {n : Int} (nd : l.Nodup) (h : ∀ b ∈ l, 0 ≤ b ∧ b < n) : l.length ≤ n.toNat :=
  apart_le n.toNat l nd fun b hb => by
    have := h b hb
    omega
theorem Cnt.few {ks : List Int} {c : Nat} {n : Int} (h : Cnt (fun j => decide (j ∈ ks)) c) (hk : ∀ k ∈ ks, 0 ≤ k ∧ k < n) : c ≤ n.toNat := by
  obtain ⟨L, nd, hm, rfl⟩ := h
  exact apart_few nd fun b hb => hk b (of_decide_eq_true ((hm b).mp hb))
/-- as many as the list has that is told apart -/
theorem Cnt.of {ks ns : List Int} {c : Nat} (h : Cnt (fun j => decide (j ∈ ks)) c) (nd : ns.Nodup) (hk : ∀ k, k ∈ ns ↔ k ∈ ks) : c = ns.length := by
  obtain ⟨L, nl, hm, rfl⟩ := h
  have hp : L.Perm ns := by
    refine (List.perm_ext_iff_of_nodup nl nd).mpr fun a => ?_
    rw [hm, hk, decide_eq_true_iff]
  exact hp.length_eq
theorem any_pairs {ps : List (Int × Int)} {p : Int × Int} : ((ps.map dPair).any fun z => PyData.eqv z (dPair p)) = ps.contains p := by
  rw [Bool.eq_iff_iff, List.any_map, List.any_eq_true, List.contains_iff_mem]
  constructor
  · rintro ⟨q, hq, h⟩
    have h1 : decide (q = p) = true := by
      rw [← eqv_dPair]
      exact h
    rw [← of_decide_eq_true h1]
    exact hq
  · intro h
    refine ⟨p, h, ?_⟩
    show PyData.eqv (dPair p) (dPair p) = true
    rw [eqv_dPair]
    exact decide_eq_true rfl
end Nw
/-! What is known apart from some lists that may change. -/
namespace Nw
open PySem PySem.Spec PyProof.Rows L2
def mskL (H : Hp) (M : List Addr) : Hp := fun b => if b ∈ M then none else H b
theorem msk_at {H : Hp} {M : List Addr} {b : Addr} (h : b ∉ M) : mskL H M b = H b := if_neg h
theorem msk_no {H : Hp} {M : List Addr} {b : Addr} (h : b ∈ M) : mskL H M b = none := if_pos h
theorem msk_ex {H : Hp} {M : List Addr} : Ex (mskL H M) H := fun b o h => by
  unfold mskL at h
  split at h
  · cases h
  · exact h
theorem Ex.msk {H H' : Hp} {M : List Addr} (e : Ex H H') : Ex (mskL H M) (mskL H' M) := fun b o h => by
  by_cases n : b ∈ M
  · rw [msk_no n] at h
    cases h
  · rw [msk_at n] at h ⊢
    exact e b o h
/-- what was there before those lists -/
theorem msk_old {H H' : Hp} {M : List Addr} (hM : ∀ m ∈ M, H m = none) (e : Ex H H') : Ex H (mskL H' M) := fun b o h => by
  rw [msk_at fun hm => by
    rw [hM b hm] at h
    cases h]
  exact e b o h
/-- only those lists are changed -/
theorem msk_to {H H' : Hp} {M : List Addr} (h : ∀ b o, b ∉ M → H b = some o → H' b = some o) : Ex (mskL H M) H' := fun b o hb => by
  by_cases n : b ∈ M
  · rw [msk_no n] at hb
    cases hb
  · rw [msk_at n] at hb
    exact h b o n hb
theorem pairs_msk {K : PySem.W.Frag} {H : Hp} {M : List Addr} (hM : ∀ m ∈ M, ∃ ys, H m = some (.lst ys)) : ∀ {L : List (Int × Int)} {acc : List V}, DaAll K H (L.map dPair) acc → DaAll K (mskL H M) (L.map dPair) acc
  | [], _, h => h
  | p :: L, acc, h => by
    obtain ⟨x, xs, rfl, ⟨a, ys, rfl, hS, z1, r1, rfl, e1, z2, r2, rfl, e2, rfl⟩, h2⟩ := h
    obtain rfl := e1
    obtain rfl := e2
    refine ⟨_, _, rfl, dPair_of ?_, pairs_msk hM h2⟩
    rw [msk_at fun hm => by
      obtain ⟨zs, hz⟩ := hM a hm
      rw [hz] at hS
      cases hS]
    exact hS
theorem rows_msk {K : PySem.W.Frag} {H H1 H2 : Hp} {M : List Addr} {ns : List (List Int)} {L : Addr} {bs : List Addr} (h : NewR H H1 ns L bs) (e : Ex H1 H2) (hM : ∀ m ∈ M, ∃ o, H m = some o) (h1 : ∀ r ∈ ns, r.length ≤ 100000) (h2 : ns.length ≤ 100000) : Da K (mskL H2 M) (dRows ns) (.ref L) := by
  have off : ∀ b, H b = none → b ∉ M := fun b hb hm => by
    obtain ⟨o, ho⟩ := hM b hm
    rw [hb] at ho
    cases ho
  refine ⟨L, _, rfl, by rw [msk_at (off L h.new)]; exact e _ _ h.at_, rows_of h.len fun k b hb => ?_, by rw [List.length_map]; exact h2⟩
  obtain ⟨n1, r, n2, n3⟩ := h.row k b hb
  exact ⟨r, n2, by rw [msk_at (off b n1.1)]; exact e _ _ n3, h1 r (List.mem_of_getElem? n2)⟩
/-- a list of three -/
def dThree (a b c : PyData) : PyData := .list [a, b, c]
theorem three_of {K : PySem.W.Frag} {H : Hp} {a b c : PyData} {x y z : V} {T : Addr} (h : H T = some (.lst [x, y, z])) (ha : Da K H a x) (hb : Da K H b y) (hc : Da K H c z) : Da K H (dThree a b c) (.ref T) :=
  ⟨T, _, rfl, h, ⟨_, _, rfl, ha, _, _, rfl, hb, _, _, rfl, hc, rfl⟩, by show 3 ≤ 100000; decide⟩
theorem lay_three {a b c : PyData} (ha : a.canLay0 = true) (hb : b.canLay0 = true) (hc : c.canLay0 = true) : (dThree a b c).canLay0 = true := by simp [dThree, PyData.canLay0, PyData.canLayAll0, ha, hb, hc]
end Nw
namespace Nw
open PySem PySem.Spec PyProof.Rows L2
theorem Sh.none : Sh 41 1 0 .none := ⟨by simp only [PyData.showable], by simp only [lf], by simp only [nodes]; omega, by simp only [PyData.depth]; omega⟩
theorem Sh.three {B n k : Nat} {a b c : PyData} (ha : Sh B n k a) (hb : Sh B n k b) (hc : Sh B n k c) : Sh B (1 + n * 3) (k + 1) (dThree a b c) := Sh.list (fun x hx => by
  rcases List.mem_cons.mp hx with rfl | hx
  · exact ha
  rcases List.mem_cons.mp hx with rfl | hx
  · exact hb
  · obtain rfl := List.mem_singleton.mp hx
    exact hc) (by show 3 ≤ 3; decide)
theorem Sh.small {r : List Int} (h : ∀ x ∈ r, 0 ≤ x ∧ x < 64) (hl : r.length ≤ 20) : Sh 41 21 1 (dInts r) :=
  (Sh.ints (k := 40) (m := 20) (by decide) (fun x hx => (small40 (by have := h x hx; omega)).1) (fun x hx => (small40 (by have := h x hx; omega)).2) hl).wide (by decide) (by decide)
theorem Sh.smalls {rs : List (List Int)} (h : ∀ r ∈ rs, r.length ≤ 20 ∧ ∀ x ∈ r, 0 ≤ x ∧ x < 64) (hl : rs.length ≤ 20) : Sh 41 500 2 (dRows rs) := by
  have hs : ∀ r ∈ rs, ∀ x ∈ r, x.natAbs < 10000000000000000000000000000000000000000 := fun r hr x hx => by
    have := (h r hr).2 x hx
    omega
  exact (Sh.rows (k := 40) (m := 20) (j := 20) (by decide) (fun r hr x hx => (small40 (hs r hr x hx)).1) (fun r hr x hx => (small40 (hs r hr x hx)).2) (fun r hr => (h r hr).1) hl).wide (by decide) (by decide)
theorem Sh.pairs {ps : List (Int × Int)} {m : Nat} (h : ∀ p ∈ ps, Sm p.1 ∧ Sm p.2) (hl : ps.length ≤ m) : Sh 41 (1 + 3 * m) 2 (dPairs ps) := Sh.list (fun x hx => by
  obtain ⟨p, hp, rfl⟩ := List.mem_map.mp hx
  exact Sh.pair (h p hp).1 (h p hp).2) (by rw [List.length_map]; exact hl)
end Nw
/-! xs == [], whatever stands in the list. -/
namespace Nw
open PySem PySem.Spec PyProof.Rows L2
def rEqNil (K : PySem.W.Frag) : R2 := fun x y H Q => ∃ a b xs, x = .ref a ∧ y = .ref b ∧ SqL K H a xs ∧ SqL K H b [] ∧ Q (.bl xs.isEmpty) H
theorem op_eqNil {X : Cx} (K : PySem.W.Frag) {k : Nat} (hr : Room k X.A) (hK : X.K = K := by rfl) : OpR X (compareOp .Eq) (rEqNil K) := by
  subst hK
  intro pins s σ H x y v u Q I rx ry h
  obtain ⟨a, b, xs, rfl, rfl, ha, hb, q⟩ := h
  cases rx
  cases ry
  obtain ⟨its, r, p1, _⟩ := I.list ha
  obtain ⟨its2, r2, p2, _⟩ := I.list hb
  cases r2
  have hu : X.A.units < cLine := hr.units0
  obtain ⟨o1, n1, g1, c1, _, d1⟩ := p1
  obtain ⟨o2, n2, g2, c2, _, d2⟩ := p2
  have il : s.heap.IsList a its.toArray := ⟨o1, g1, c1, n1, d1⟩
  have ib : s.heap.IsList b #[] := ⟨o2, g2, c2, n2, d2⟩
  cases r with
  | nil =>
    exact PySem.SeqAt.eq_listAt (e := fun _ => true) il ib rfl hu (fun j h1 _ => by simp at h1) ⟨.bl true, H, I, rfl, q⟩
  | cons r1 rr =>
    exact PySem.SeqAt.eq_list_lengthsAt il ib (by simp) hu ⟨.bl false, H, I, rfl, q⟩
def rNeNil (K : PySem.W.Frag) : R2 := fun x y H Q => ∃ a b xs, x = .ref a ∧ y = .ref b ∧ SqL K H a xs ∧ SqL K H b [] ∧ Q (.bl (!xs.isEmpty)) H
theorem op_neNil {X : Cx} (K : PySem.W.Frag) {k : Nat} (hr : Room k X.A) (hK : X.K = K := by rfl) : OpR X (compareOp .NotEq) (rNeNil K) := by
  subst hK
  intro pins s σ H x y v u Q I rx ry h
  obtain ⟨a, b, xs, rfl, rfl, ha, hb, q⟩ := h
  cases rx
  cases ry
  obtain ⟨its, r, p1, _⟩ := I.list ha
  obtain ⟨its2, r2, p2, _⟩ := I.list hb
  cases r2
  have hu : X.A.units < cLine := hr.units0
  obtain ⟨o1, n1, g1, c1, _, d1⟩ := p1
  obtain ⟨o2, n2, g2, c2, _, d2⟩ := p2
  have il : s.heap.IsList a its.toArray := ⟨o1, g1, c1, n1, d1⟩
  have ib : s.heap.IsList b #[] := ⟨o2, g2, c2, n2, d2⟩
  cases r with
  | nil => exact PySem.SeqAt.RcNeAt.lists (e := fun _ => true) il ib rfl hu (fun j h1 _ => by simp at h1) _ _ _ _ ⟨.bl false, H, I, rfl, q⟩
  | cons r1 rr => exact PySem.SeqAt.RcNeAt.lists_lengths il ib (by simp) hu _ _ _ _ ⟨.bl true, H, I, rfl, q⟩
theorem srcN_le {u : Wb} (hu : u.Ok) : srcN u ≤ 28 := by
  have := hu.hi
  have := hu.few
  unfold srcN
  omega
theorem rgV_iota (n : Int) : rgV 0 n = (iota n).map V.int := by
  unfold rgV iota
  rw [List.map_map, show (n - 0) = n by omega]
  refine List.map_congr_left fun i _ => ?_
  show V.int (0 + (i : Int)) = V.int (i : Int)
  rw [Int.zero_add]
theorem ne_new {H : Hp} {a b : Addr} {o : HO} (h : H a = some o) (h' : H b = none) : a ≠ b := ne_of_none h h'
theorem erase_at : ∀ {l : List Int} {x : Int}, x ∈ l → ∃ j : Nat, l[j]? = some x ∧ (∀ m : Nat, m < j → l[m]? ≠ some x) ∧ l.eraseIdx j = l.erase x
  | [], _, h => by cases h
  | y :: l, x, h => by
    by_cases e : y = x
    · subst e
      refine ⟨0, rfl, fun m hm => by omega, ?_⟩
      simp
    · obtain ⟨j, h1, h2, h3⟩ := erase_at (l := l) (x := x) (by
        rcases List.mem_cons.mp h with h | h
        · exact absurd h.symm e
        · exact h)
      refine ⟨j + 1, h1, fun m hm => ?_, ?_⟩
      · cases m with
        | zero =>
          intro z
          exact e (Option.some.inj z)
        | succ m => exact h2 m (by omega)
      · rw [List.eraseIdx_cons_succ, h3, List.erase_cons_tail (by simpa using e)]
theorem isA_list {d : PyData} : isA "list" d = (match d with | .list _ => true | _ => false) := by
  cases d <;> first | rfl | decide +kernel
theorem rm_upd {H : Hp} {p D : Addr} {o : HO} (h : D ≠ p) : rm (upd H D o) p = upd (rm H p) D o := by
  funext b
  by_cases e : b = D
  · subst e
    rw [rm_ne h, upd_same, upd_same]
  · rw [upd_ne e]
    by_cases n : b = p
    · subst n
      rw [rm_at, rm_at]
    · rw [rm_ne n, rm_ne n, upd_ne e]
/-- pairs outlast what is done to another list, apart from the tap too -/
theorem pairs_wrm {K : PySem.W.Frag} {H : Hp} {p D : Addr} {ys : List V} {o : HO} {L : List (Int × Int)} {acc : List V} (hD : H D = some (.lst ys)) (n : D ≠ p) (h : DaAll K (rm H p) (L.map dPair) acc) : DaAll K (rm (upd H D o) p) (L.map dPair) acc := by
  rw [rm_upd n]
  exact pairs_wr (by rw [rm_ne n]; exact hD) h
end Nw
/-! Flat items of drawn values. -/
namespace Nw
open PySem PySem.Spec PyProof.Rows L2
def FlatV (v : V) : Prop := (∃ b, v = .bl b) ∨ ∃ i : Int, v = .int i ∧ 0 ≤ i ∧ i < 64
theorem flat_snoc {ys : List V} {v : V} (h : ∀ y ∈ ys, FlatV y) (hv : FlatV v) : ∀ y ∈ ys ++ [v], FlatV y := fun y hy => by
  rcases List.mem_append.mp hy with hy | hy
  · exact h y hy
  · rw [List.mem_singleton.mp hy]
    exact hv
theorem gd_flat {K : PySem.W.Frag} {H : Hp} : ∀ {ys : List V}, (∀ y ∈ ys, FlatV y) → GdAll K H 1 0 ys
  | [], _ => GdAll.nil
  | y :: ys, h => GdAll.cons (by
      rcases h y (by simp) with ⟨b, rfl⟩ | ⟨i, rfl, h1, h2⟩
      · exact Gd.bl
      · exact Gd.int (by omega)) (gd_flat fun z hz => h z (List.mem_cons_of_mem _ hz))
theorem gd_ints {K : PySem.W.Frag} {H : Hp} {l : List Int} (h : ∀ x ∈ l, 0 ≤ x ∧ x < 20) : GdAll K H 1 0 (l.map V.int) := gd_flat fun y hy => by
  obtain ⟨x, hx, rfl⟩ := List.mem_map.mp hy
  have := h x hx
  exact .inr ⟨x, rfl, by omega, by omega⟩
theorem small_strF : ∀ n : Fin 64, (PyData.shown (.str (toString (n.val : Int)))).length ≤ 41 ∧ ((n.val : Int)).natAbs.log2 < 1920 := by decide +kernel
theorem small_str {i : Int} (h0 : 0 ≤ i) (h1 : i < 64) : (PyData.shown (.str (toString i))).length ≤ 41 ∧ i.natAbs.log2 < 1920 := by
  have h := small_strF ⟨i.toNat, by omega⟩
  have e : ((i.toNat : Nat) : Int) = i := Int.toNat_of_nonneg h0
  rw [show ((⟨i.toNat, by omega⟩ : Fin 64).val : Int) = i from e] at h
  exact h
theorem gd_lists {K : PySem.W.Frag} {H : Hp} {n d m : Nat} (hm : m ≤ 100000) : ∀ {ys : List V}, (∀ y ∈ ys, ∃ b zs, y = V.ref b ∧ H b = some (.lst zs) ∧ zs.length ≤ m ∧ GdAll K H n d zs) → GdAll K H (1 + n * m) (d + 1) ys
  | [], _ => GdAll.nil
  | y :: ys, h => GdAll.cons (by
      obtain ⟨b, zs, rfl, h1, h2, h3⟩ := h y (by simp)
      exact Gd.list h1 h3 h2 hm) (gd_lists hm fun z hz => h z (List.mem_cons_of_mem _ hz))
end Nw
/-! len of a set. -/
namespace Nw
open PySem PySem.Spec PyProof.Rows L2
def rLenS (w : World) : List V → Hp → VK → Prop := fun vs H Q => ∃ a S n, vs = [.ref a] ∧ H a = some (SetO w a S n) ∧ Q (.int ((n : Nat) : Int)) H
theorem cr_lenSet {X : Cx} (w : World) (hw : X.w = w := by rfl) : CallR X (.builtin "len") (rLenS w) := by
  subst hw
  intro pins s σ H vs us Q I r h
  obtain ⟨a, S, n, rfl, ha, q⟩ := h
  rw [Vals.ref1 r]
  have hs : SetR X.w s.heap a S n := setO_get I ha
  obtain ⟨o, es, ep, t, h1, h2, h3, h4, h5, h6, h7, h8, rfl, _⟩ := hs
  have hz : ((es.size : Nat) : Int) < 2 ^ 63 := by
    unfold scanBound at h7
    omega
  refine call_len_set h1 h2 h3 h8 hz ⟨.int _, H, ⟨I.ok, I.os, I.bare, I.base, I.loc, I.cell, I.free, I.freeC, I.pin, I.hok, I.len⟩, ⟨_, rfl⟩, q⟩
theorem nd_len : ∀ (L r : List Int), L.Nodup → (∀ k ∈ L, k ∈ r) → L.length ≤ r.length
  | [], _, _, _ => Nat.zero_le _
  | x :: L, r, nl, sub => by
    have hx := sub x (by simp)
    have nl' := List.nodup_cons.mp nl
    have := nd_len L (r.erase x) nl'.2 fun k hk => (List.mem_erase_of_ne fun e => nl'.1 (by rw [← e]; exact hk)).mpr (sub k (List.mem_cons_of_mem _ hk))
    rw [List.length_erase_of_mem hx] at this
    have := List.length_pos_of_mem hx
    rw [List.length_cons]
    omega
theorem nodup_full : ∀ (ks L : List Int), L.Nodup → (∀ k ∈ L, k ∈ ks) → ks.length ≤ L.length → ks.Nodup
  | [], _, _, _, _ => List.nodup_nil
  | x :: r, L, nl, sub, hl => by
    rw [List.length_cons] at hl
    by_cases hx : x ∈ L
    · have h1 : ∀ k ∈ L.erase x, k ∈ r := fun k hk => by
        have := (nl.mem_erase_iff.mp hk)
        exact (List.mem_cons.mp (sub k this.2)).resolve_left this.1
      have h2 := List.length_erase_of_mem hx
      refine List.nodup_cons.mpr ⟨fun hxr => ?_, nodup_full r _ (nl.erase x) h1 (by omega)⟩
      have := nd_len L r nl fun k hk => (List.mem_cons.mp (sub k hk)).elim (fun e => e ▸ hxr) id
      omega
    · have := nd_len L r nl fun k hk => (List.mem_cons.mp (sub k hk)).resolve_left fun e => hx (e ▸ hk)
      omega
/-- how many apart a list has -/
theorem Cnt.all {ks : List Int} {n : Nat} (h : Cnt (fun j => decide (j ∈ ks)) n) : n = ks.length ↔ ks.Nodup := by
  obtain ⟨L, nl, hm, rfl⟩ := h
  have sub : L ⊆ ks := fun k hk => of_decide_eq_true ((hm k).mp hk)
  have sub2 : ks ⊆ L := fun k hk => (hm k).mpr (decide_eq_true hk)
  constructor
  · intro e
    exact nodup_full ks L nl sub (Nat.le_of_eq e.symm)
  · intro nd
    exact ((List.perm_ext_iff_of_nodup nl nd).mpr fun a => ⟨fun h => sub h, fun h => sub2 h⟩).length_eq
theorem Cnt.le {ks : List Int} {n : Nat} (h : Cnt (fun j => decide (j ∈ ks)) n) : n ≤ ks.length := by
  obtain ⟨L, nl, hm, rfl⟩ := h
  exact nd_len L ks nl fun k hk => of_decide_eq_true ((hm k).mp hk)
/-- each once -/
def und : List Int → List Int
  | [] => []
  | x :: r => if r.contains x then und r else x :: und r
theorem mem_und : ∀ {l : List Int} {k : Int}, k ∈ und l ↔ k ∈ l
  | [], _ => Iff.rfl
  | x :: r, k => by
    have ih := mem_und (l := r) (k := k)
    unfold und
    split
    · rename_i h
      rw [ih, List.mem_cons]
      constructor
      · exact .inr
      · rintro (rfl | h2)
        · exact List.contains_iff_mem.mp h
        · exact h2
    · rw [List.mem_cons, List.mem_cons, ih]
theorem und_nodup : ∀ (l : List Int), (und l).Nodup
  | [] => List.nodup_nil
  | x :: r => by
    have ih := und_nodup r
    unfold und
    split
    · exact ih
    · rename_i h
      refine List.nodup_cons.mpr ⟨fun hx => h (List.contains_iff_mem.mpr (mem_und.mp hx)), ih⟩
theorem Cnt.und {ks : List Int} {c : Nat} (h : Cnt (fun j => decide (j ∈ ks)) c) : c = (und ks).length := h.of (und_nodup ks) fun _ => mem_und
theorem und_full {ks : List Int} : (und ks).length = ks.length ↔ ks.Nodup := by
  constructor
  · intro e
    exact nodup_full ks (und ks) (und_nodup ks) (fun k hk => mem_und.mp hk) (Nat.le_of_eq e.symm)
  · intro nd
    exact ((List.perm_ext_iff_of_nodup (und_nodup ks) nd).mpr fun a => mem_und).length_eq
end Nw
/-! Pairings of sources with quantities, by the rows of sources: when none is greater, and whom one of them leaves out. -/
namespace Nw
open PySem PySem.Spec PyProof.Rows L2
/-! ### one value put into a dict of ints -/
def putI (ps : List (Int × Int)) (q s : Int) : List (Int × Int) := if ps.any (fun p => p.1 == q) then ps.map (fun p => if p.1 == q then (q, s) else p) else ps ++ [(q, s)]
theorem kvI_putI {ps : List (Int × Int)} {q s : Int} : putK (kvI ps) (Sum.inl q) (V.int s) = kvI (putI ps q s) := by
  unfold putI
  cases h : ps.any (fun p => p.1 == q) with
  | false =>
    rw [if_neg (by decide)]
    exact kvI_put h
  | true =>
    rw [if_pos rfl]
    unfold putK kvI
    rw [if_pos, List.map_map, List.map_map]
    · refine List.map_congr_left fun p _ => ?_
      show (if (Sum.inl p.1 : Key) = Sum.inl q then ((Sum.inl p.1 : Key), V.int s) else (Sum.inl p.1, V.int p.2)) = (Sum.inl (if p.1 == q then (q, s) else p).1, V.int (if p.1 == q then (q, s) else p).2)
      by_cases e : p.1 = q
      · rw [if_pos (by rw [e]), if_pos (by simpa using e), e]
      · rw [if_neg (fun z => e (Sum.inl.inj z)), if_neg (by simpa using e)]
    · rw [List.any_map, ← h]
      refine List.any_congr rfl fun p => ?_
      show decide ((Sum.inl p.1 : Key) = Sum.inl q) = (p.1 == q)
      by_cases e : p.1 = q
      · rw [e]; simp
      · rw [decide_eq_false (fun z => e (Sum.inl.inj z))]
        exact (beq_eq_false_iff_ne.mpr e).symm
theorem mem_putI {ps : List (Int × Int)} {q s : Int} {p : Int × Int} : p ∈ putI ps q s ↔ p = (q, s) ∨ (p.1 ≠ q ∧ p ∈ ps) := by
  unfold putI
  cases h : ps.any (fun p => p.1 == q) with
  | false =>
    rw [if_neg (by decide), List.mem_append, List.mem_singleton]
    constructor
    · rintro (h1 | h1)
      · refine .inr ⟨fun e => ?_, h1⟩
        have := List.any_eq_false.mp h p h1
        simp [e] at this
      · exact .inl h1
    · rintro (h1 | h1)
      · exact .inr h1
      · exact .inl h1.2
  | true =>
    rw [if_pos rfl, List.mem_map]
    obtain ⟨p0, h1, h2⟩ := List.any_eq_true.mp h
    constructor
    · rintro ⟨p', h3, rfl⟩
      by_cases e : p'.1 = q
      · rw [if_pos (by simpa using e)]
        exact .inl rfl
      · rw [if_neg (by simpa using e)]
        exact .inr ⟨e, h3⟩
    · rintro (h3 | ⟨h3, h4⟩)
      · exact ⟨p0, h1, by rw [if_pos h2, h3]⟩
      · exact ⟨p, h4, if_neg (by simpa using h3)⟩
theorem putI_keys {ps : List (Int × Int)} {q s : Int} (nd : (ps.map (·.1)).Nodup) : ((putI ps q s).map (·.1)).Nodup := by
  unfold putI
  cases h : ps.any (fun p => p.1 == q) with
  | false =>
    rw [if_neg (by decide), List.map_append]
    refine nodup_snoc nd fun hm => ?_
    obtain ⟨p, hp, e⟩ := List.mem_map.mp hm
    have := List.any_eq_false.mp h p hp
    simp at this
    exact this e
  | true =>
    rw [if_pos rfl, List.map_map]
    have : (ps.map ((fun x => x.1) ∘ fun p => if p.1 == q then (q, s) else p)) = ps.map (·.1) := by
      refine List.map_congr_left fun p _ => ?_
      show (if p.1 == q then (q, s) else p).1 = p.1
      by_cases e : p.1 = q
      · rw [if_pos (by simpa using e)]
        exact e.symm
      · rw [if_neg (by simpa using e)]
    rw [this]
    exact nd
/-- the source s acts on the quantity q -/
def Act (rows : List (List Int)) (s q : Int) : Prop := 0 ≤ q ∧ ∃ r, rows[q.toNat]? = some r ∧ s ∈ r
structure Mt (rows : List (List Int)) (k : Int) (ps : List (Int × Int)) : Prop where
  kn : (ps.map (·.1)).Nodup
  vn : (ps.map (·.2)).Nodup
  rg : ∀ p ∈ ps, p.2 < k
  ed : ∀ p ∈ ps, Act rows p.1 p.2
/-- what acts on C is paired into C -/
def Cl (rows : List (List Int)) (ps : List (Int × Int)) (C : Int → Prop) : Prop := ∀ q s, C q → Act rows s q → ∃ c, C c ∧ (s, c) ∈ ps
/-- left out, below k -/
def Un (k : Int) (ps : List (Int × Int)) (q : Int) : Prop := 0 ≤ q ∧ q < k ∧ ∀ p ∈ ps, p.2 ≠ q
/-- no pairing below k is greater -/
structure Top (rows : List (List Int)) (k : Int) (ps : List (Int × Int)) : Prop where
  mt : Mt rows k ps
  cl : ∃ C : Int → Prop, Cl rows ps C ∧ ∀ q, Un k ps q → C q
theorem rel_len {α β : Type} [DecidableEq β] {R : α → β → Prop} : ∀ {l' : List α} {l : List β}, l'.Nodup → (∀ a ∈ l', ∀ b ∈ l', ∀ x, R a x → R b x → a = b) → (∀ a ∈ l', ∃ x ∈ l, R a x) → l'.length ≤ l.length
  | [], _, _, _, _ => Nat.zero_le _
  | a :: l', l, nd, inj, h => by
    rw [List.nodup_cons] at nd
    obtain ⟨x, hx, hr⟩ := h a (by simp)
    have ih := rel_len (R := R) (l := l.erase x) nd.2 (fun b hb c hc => inj b (List.mem_cons_of_mem _ hb) c (List.mem_cons_of_mem _ hc)) fun b hb => by
      obtain ⟨y, hy, hs⟩ := h b (List.mem_cons_of_mem _ hb)
      have ne : y ≠ x := fun e => by
        subst e
        have := inj a (by simp) b (List.mem_cons_of_mem _ hb) y hr hs
        subst this
        exact nd.1 hb
      exact ⟨y, (List.mem_erase_of_ne ne).mpr hy, hs⟩
    have := List.length_erase_of_mem hx
    have := List.length_pos_of_mem hx
    rw [List.length_cons]
    omega
theorem fst_eq {ps : List (Int × Int)} (nd : (ps.map (·.1)).Nodup) {p p' : Int × Int} (h : p ∈ ps) (h' : p' ∈ ps) (e : p.1 = p'.1) : p = p' := by
  induction ps with
  | nil => cases h
  | cons x ps ih =>
    rw [List.map_cons, List.nodup_cons] at nd
    rcases List.mem_cons.mp h with rfl | h1
    · rcases List.mem_cons.mp h' with rfl | h2
      · rfl
      · exact absurd (List.mem_map.mpr ⟨_, h2, e.symm⟩) nd.1
    · rcases List.mem_cons.mp h' with rfl | h2
      · exact absurd (List.mem_map.mpr ⟨_, h1, e⟩) nd.1
      · exact ih nd.2 h1 h2
theorem snd_eq {ps : List (Int × Int)} (nd : (ps.map (·.2)).Nodup) {p p' : Int × Int} (h : p ∈ ps) (h' : p' ∈ ps) (e : p.2 = p'.2) : p = p' := by
  induction ps with
  | nil => cases h
  | cons x ps ih =>
    rw [List.map_cons, List.nodup_cons] at nd
    rcases List.mem_cons.mp h with rfl | h1
    · rcases List.mem_cons.mp h' with rfl | h2
      · rfl
      · exact absurd (List.mem_map.mpr ⟨_, h2, e.symm⟩) nd.1
    · rcases List.mem_cons.mp h' with rfl | h2
      · exact absurd (List.mem_map.mpr ⟨_, h1, e⟩) nd.1
      · exact ih nd.2 h1 h2
theorem nodup_fst {ps : List (Int × Int)} (nd : (ps.map (·.1)).Nodup) : ps.Nodup := (List.pairwise_map.mp nd).imp fun h e => h (by rw [e])
theorem nodup_inj {ps : List (Int × Int)} (nd : ps.Nodup) (h : ∀ p ∈ ps, ∀ p' ∈ ps, p.2 = p'.2 → p = p') : (ps.map (·.2)).Nodup :=
  List.pairwise_map.mpr (List.Pairwise.imp_of_mem (fun {a b} ha hb hab e => hab (h a ha b hb e)) nd)
section
variable {rows : List (List Int)} {k : Int} {ps ps' : List (Int × Int)} {C : Int → Prop}
theorem Mt.lo (m : Mt rows k ps) {p : Int × Int} (h : p ∈ ps) : 0 ≤ p.2 := (m.ed p h).1
/-- how a pairing goes into one with a closed lot -/
def Into (C : Int → Prop) (p' p : Int × Int) : Prop := (C p'.2 ∧ p.1 = p'.1 ∧ C p.2) ∨ (¬ C p'.2 ∧ p.2 = p'.2)
theorem into_inj (m : Mt rows k ps') : ∀ a ∈ ps', ∀ b ∈ ps', ∀ x, Into C a x → Into C b x → a = b := fun a ha b hb x h1 h2 => by
  rcases h1 with ⟨a1, a2, a3⟩ | ⟨a1, a2⟩
  · rcases h2 with ⟨b1, b2, b3⟩ | ⟨b1, b2⟩
    · exact fst_eq m.kn ha hb (a2.symm.trans b2)
    · rw [b2] at a3
      exact absurd a3 b1
  · rcases h2 with ⟨b1, b2, b3⟩ | ⟨b1, b2⟩
    · rw [a2] at b3
      exact absurd b3 a1
    · exact snd_eq m.vn ha hb (a2.symm.trans b2)
theorem into_ex (hc : Cl rows ps C) (hu : ∀ q, Un k ps q → C q) (m : Mt rows k ps') {p' : Int × Int} (h : p' ∈ ps') : ∃ p ∈ ps, Into C p' p := by
  by_cases c : C p'.2
  · obtain ⟨q, h1, h2⟩ := hc p'.2 p'.1 c (m.ed p' h)
    exact ⟨_, h2, .inl ⟨c, rfl, h1⟩⟩
  · have : ∃ p ∈ ps, p.2 = p'.2 := by
      refine Classical.byContradiction fun z => c (hu _ ⟨m.lo h, m.rg p' h, fun p hp e => z ⟨p, hp, e⟩⟩)
    obtain ⟨p, h1, h2⟩ := this
    exact ⟨p, h1, .inr ⟨c, h2⟩⟩
theorem Top.le (t : Top rows k ps) (m : Mt rows k ps') : ps'.length ≤ ps.length := by
  obtain ⟨C, hc, hu⟩ := t.cl
  exact rel_len (R := Into C) (nodup_fst m.kn) (into_inj m) fun a ha => into_ex hc hu m ha
/-- a pairing that leaves out one who is not in the closed lot is less -/
theorem cl_lt (hc : Cl rows ps C) (hu : ∀ q, Un k ps q → C q) (m : Mt rows k ps') {one : Int} (h0 : 0 ≤ one ∧ one < k) (h1 : ¬ C one) (h2 : ∀ p ∈ ps', p.2 ≠ one) : ps'.length < ps.length := by
  have : ∃ p ∈ ps, p.2 = one := by
    refine Classical.byContradiction fun z => h1 (hu _ ⟨h0.1, h0.2, fun p hp e => z ⟨p, hp, e⟩⟩)
  obtain ⟨p, hp, rfl⟩ := this
  have h := rel_len (R := Into C) (l := ps.erase p) (nodup_fst m.kn) (into_inj m) fun a ha => by
    obtain ⟨x, hx, hr⟩ := into_ex hc hu m ha
    refine ⟨x, (List.mem_erase_of_ne fun e => ?_).mpr hx, hr⟩
    subst e
    rcases hr with ⟨_, _, a3⟩ | ⟨_, a2⟩
    · exact h1 a3
    · exact h2 a ha a2.symm
  have h3 := List.length_erase_of_mem hp
  have h4 := List.length_pos_of_mem hp
  omega
theorem Top.eq (t : Top rows k ps) (t' : Top rows k ps') : ps.length = ps'.length := Nat.le_antisymm (t'.le t.mt) (t.le t'.mt)
/-- those who are led to from one who is left out, in the order in which they are found -/
structure Found (rows : List (List Int)) (k : Int) (ps : List (Int × Int)) (F : List Int) : Prop where
  nd : F.Nodup
  rg : ∀ f ∈ F, 0 ≤ f ∧ f < k
  from_ : ∀ (j : Nat) (f : Int), F[j]? = some f → Un k ps f ∨ ∃ (s : Int) (i : Nat) (g : Int), i < j ∧ F[i]? = some g ∧ (s, f) ∈ ps ∧ Act rows s g
theorem nd_at' {l : List Int} (nd : l.Nodup) {i j : Nat} {x : Int} (hi : l[i]? = some x) (hj : l[j]? = some x) : i = j := by
  obtain ⟨h1, h2⟩ := List.getElem?_eq_some_iff.mp hi
  obtain ⟨h3, h4⟩ := List.getElem?_eq_some_iff.mp hj
  exact (List.getElem_inj nd).mp (h2.trans h4.symm)
theorem Found.avoid (m : Mt rows k ps) {F : List Int} (h : Found rows k ps F) : ∀ (j : Nat) (f : Int), F[j]? = some f → ∃ ps', Mt rows k ps' ∧ ps'.length = ps.length ∧ (∀ p ∈ ps', p.2 ≠ f) ∧ ∀ t ∈ ps, (∀ i, i ≤ j → F[i]? ≠ some t.2) → t ∈ ps' := by
  intro j
  induction j using Nat.strongRecOn with
  | _ j ih =>
    intro f hf
    rcases h.from_ j f hf with hu | ⟨s, i, g, hij, hg, hs, ha⟩
    · exact ⟨ps, m, rfl, hu.2.2, fun t ht _ => ht⟩
    · obtain ⟨pi, mi, li, ai, ki⟩ := ih i hij g hg
      have fg : f ≠ g := fun e => by
        rw [← e] at hg
        have := nd_at' h.nd hg hf
        omega
      have hsi : (s, f) ∈ pi := ki _ hs fun i' hi' e => by
        have := nd_at' h.nd e hf
        omega
      have kne : ∀ t ∈ pi.erase (s, f), t.1 ≠ s := fun t ht e => by
        have h1 := List.mem_of_mem_erase ht
        have := fst_eq mi.kn h1 hsi e
        rw [this] at ht
        exact ((nodup_fst mi.kn).mem_erase_iff.mp ht).1 rfl
      have vne : ∀ t ∈ pi.erase (s, f), t.2 ≠ f := fun t ht e => by
        have h1 := List.mem_of_mem_erase ht
        have := snd_eq mi.vn h1 hsi e
        rw [this] at ht
        exact ((nodup_fst mi.kn).mem_erase_iff.mp ht).1 rfl
      have sub := List.erase_sublist (l := pi) (a := (s, f))
      have hgr := h.rg g (List.mem_of_getElem? hg)
      refine ⟨(s, g) :: pi.erase (s, f), ⟨?_, ?_, fun p hp => ?_, fun p hp => ?_⟩, ?_, fun p hp => ?_, fun t ht hn => ?_⟩
      · rw [List.map_cons, List.nodup_cons]
        refine ⟨fun hm => ?_, mi.kn.sublist (sub.map _)⟩
        obtain ⟨t, ht, e⟩ := List.mem_map.mp hm
        exact kne t ht e
      · rw [List.map_cons, List.nodup_cons]
        refine ⟨fun hm => ?_, mi.vn.sublist (sub.map _)⟩
        obtain ⟨t, ht, e⟩ := List.mem_map.mp hm
        exact ai t (List.mem_of_mem_erase ht) e
      · rcases List.mem_cons.mp hp with rfl | hp
        · exact hgr.2
        · exact mi.rg p (List.mem_of_mem_erase hp)
      · rcases List.mem_cons.mp hp with rfl | hp
        · exact ha
        · exact mi.ed p (List.mem_of_mem_erase hp)
      · have h3 := List.length_erase_of_mem hsi
        have h4 := List.length_pos_of_mem hsi
        rw [List.length_cons]
        omega
      · rcases List.mem_cons.mp hp with rfl | hp
        · exact fun e => fg e.symm
        · exact vne p hp
      · have h1 := ki t ht fun i' hi' => hn i' (by omega)
        refine List.mem_cons_of_mem _ ((List.mem_erase_of_ne fun e => ?_).mpr h1)
        subst e
        exact hn j (Nat.le_refl _) hf
end
/-! ### one row less -/
section
variable {rows : List (List Int)} {one : Nat}
/-- the number of a quantity when the row `one` is left out, and back -/
def dn (one : Nat) (q : Int) : Int := if q < one then q else q - 1
def up1 (one : Nat) (q : Int) : Int := if q < one then q else q + 1
theorem dn_up (q : Int) : dn one (up1 one q) = q := by
  unfold dn up1
  by_cases h : q < one
  · rw [if_pos h, if_pos h]
  · rw [if_neg h, if_neg (by omega)]
    omega
theorem up_dn {q : Int} (h : q ≠ one) : up1 one (dn one q) = q := by
  unfold dn up1
  by_cases h' : q < one
  · rw [if_pos h', if_pos h']
  · rw [if_neg h', if_neg (by omega)]
    omega
theorem up_ne (q : Int) : up1 one q ≠ one := by
  unfold up1
  split <;> omega
theorem act_up {s q : Int} (h : Act (rows.eraseIdx one) s q) : Act rows s (up1 one q) := by
  obtain ⟨h0, r, hr, hs⟩ := h
  rw [List.getElem?_eraseIdx] at hr
  unfold up1
  split
  · rename_i hq
    rw [if_pos (by omega)] at hr
    exact ⟨h0, r, hr, hs⟩
  · rename_i hq
    rw [if_neg (by omega)] at hr
    exact ⟨by omega, r, by rw [show (q + 1).toNat = q.toNat + 1 by omega]; exact hr, hs⟩
theorem act_dn {s q : Int} (h : Act rows s q) (hn : q ≠ one) : Act (rows.eraseIdx one) s (dn one q) := by
  obtain ⟨h0, r, hr, hs⟩ := h
  unfold dn
  split
  · rename_i hq
    refine ⟨h0, r, ?_, hs⟩
    rw [List.getElem?_eraseIdx, if_pos (by omega)]
    exact hr
  · rename_i hq
    refine ⟨by omega, r, ?_, hs⟩
    rw [List.getElem?_eraseIdx, if_neg (by omega), show (q - 1).toNat + 1 = q.toNat by omega]
    exact hr
theorem mt_up {k : Int} {ps : List (Int × Int)} (h1 : (one : Int) < k + 1) (m : Mt (rows.eraseIdx one) k ps) : Mt rows (k + 1) (ps.map fun p => (p.1, up1 one p.2)) := by
  refine ⟨?_, ?_, fun p hp => ?_, fun p hp => ?_⟩
  · rw [List.map_map]
    exact m.kn
  · rw [List.map_map]
    refine List.pairwise_map.mpr ((List.pairwise_map.mp m.vn).imp fun {a b} h e => h ?_)
    have := congrArg (dn one) e
    simp only [Function.comp, dn_up] at this
    exact this
  · obtain ⟨p, hp', rfl⟩ := List.mem_map.mp hp
    have := m.rg p hp'
    show up1 one p.2 < k + 1
    unfold up1
    split <;> omega
  · obtain ⟨p, hp', rfl⟩ := List.mem_map.mp hp
    exact act_up (m.ed p hp')
theorem mt_dn {k : Int} {ps : List (Int × Int)} (h1 : (one : Int) < k + 1) (m : Mt rows (k + 1) ps) (h : ∀ p ∈ ps, p.2 ≠ one) : Mt (rows.eraseIdx one) k (ps.map fun p => (p.1, dn one p.2)) := by
  refine ⟨?_, ?_, fun p hp => ?_, fun p hp => ?_⟩
  · rw [List.map_map]
    exact m.kn
  · rw [List.map_map]
    refine List.pairwise_map.mpr (List.Pairwise.imp_of_mem (fun {a b} ha hb h' e => h' ?_) (List.pairwise_map.mp m.vn))
    have := congrArg (up1 one) e
    simp only [Function.comp, up_dn (h a ha), up_dn (h b hb)] at this
    exact this
  · obtain ⟨p, hp', rfl⟩ := List.mem_map.mp hp
    have h1 := m.rg p hp'
    have h2 := h p hp'
    show dn one p.2 < k
    unfold dn
    split <;> omega
  · obtain ⟨p, hp', rfl⟩ := List.mem_map.mp hp
    exact act_dn (m.ed p hp') (h p hp')
end
/-! ### the search -/
/-- what is known ahead of the search for a source of q: F are the sources whose pairs are being changed -/
structure Fr (rows : List (List Int)) (k : Int) (F : List Int) (ps : List (Int × Int)) (q : Int) : Prop where
  kn : (ps.map (·.1)).Nodup
  inj : ∀ p ∈ ps, ∀ p' ∈ ps, p.1 ∉ F → p'.1 ∉ F → p.2 = p'.2 → p = p'
  nq : ∀ p ∈ ps, p.1 ∉ F → p.2 ≠ q
  ed : ∀ p ∈ ps, p.1 ∉ F → Act rows p.1 p.2 ∧ p.2 < k
/-- a source was found -/
structure Got (rows : List (List Int)) (k : Int) (F : List Int) (ps : List (Int × Int)) (q : Int) (ps' : List (Int × Int)) : Prop where
  kn : (ps'.map (·.1)).Nodup
  inj : ∀ p ∈ ps', ∀ p' ∈ ps', p.1 ∉ F → p'.1 ∉ F → p.2 = p'.2 → p = p'
  ed : ∀ p ∈ ps', p.1 ∉ F → Act rows p.1 p.2 ∧ p.2 < k
  fz : ∀ p, p.1 ∈ F → (p ∈ ps' ↔ p ∈ ps)
  vals : ∀ v, (∃ p ∈ ps', p.1 ∉ F ∧ p.2 = v) ↔ (v = q ∨ ∃ p ∈ ps, p.1 ∉ F ∧ p.2 = v)
  cl : ∀ C : Int → Prop, Cl rows ps C → ¬ C q ∧ ∀ s c, C c → Act rows s c → ∀ v, (s, v) ∈ ps → (s, v) ∈ ps'
/-- none was found: what was tried -/
structure Miss (rows : List (List Int)) (ps : List (Int × Int)) (q : Int) (T T' : List Int) : Prop where
  nd : T'.Nodup
  sub : ∀ s ∈ T, s ∈ T'
  row : ∀ s, Act rows s q → s ∈ T'
  cl : ∀ s ∈ T', s ∈ T ∨ ∃ r, (s, r) ∈ ps ∧ ∀ s', Act rows s' r → s' ∈ T'
section
variable {rows : List (List Int)} {k : Int} {F T : List Int} {ps ps1 : List (Int × Int)} {q s r : Int}
/-- a source that is free -/
theorem Fr.free (f : Fr rows k F ps q) (hs : s ∉ F) (hn : ∀ p ∈ ps, p.1 ≠ s) (ha : Act rows s q) (hq : q < k) : Got rows k F ps q (ps ++ [(s, q)]) := by
  have mm : ∀ {p}, p ∈ ps ++ [(s, q)] → p ∈ ps ∨ p = (s, q) := fun h => by
    rcases List.mem_append.mp h with h | h
    · exact .inl h
    · exact .inr (List.mem_singleton.mp h)
  refine ⟨?_, fun p hp p' hp' h1 h2 e => ?_, fun p hp h1 => ?_, fun p h1 => ⟨fun h => ?_, fun h => List.mem_append_left _ h⟩, fun v => ⟨?_, ?_⟩, fun C hc => ⟨fun hC => ?_, fun s' c _ _ v hv => List.mem_append_left _ hv⟩⟩
  · rw [List.map_append]
    exact nodup_snoc f.kn fun hm => by
      obtain ⟨p, hp, e⟩ := List.mem_map.mp hm
      exact hn p hp e
  · rcases mm hp with h | rfl
    · rcases mm hp' with h' | rfl
      · exact f.inj p h p' h' h1 h2 e
      · exact absurd e (f.nq p h h1)
    · rcases mm hp' with h' | rfl
      · exact absurd e.symm (f.nq p' h' h2)
      · rfl
  · rcases mm hp with h | rfl
    · exact f.ed p h h1
    · exact ⟨ha, hq⟩
  · rcases mm h with h | rfl
    · exact h
    · exact absurd h1 hs
  · rintro ⟨p, hp, h1, rfl⟩
    rcases mm hp with h | rfl
    · exact .inr ⟨p, h, h1, rfl⟩
    · exact .inl rfl
  · rintro (rfl | ⟨p, hp, h1, rfl⟩)
    · exact ⟨(s, v), by simp, hs, rfl⟩
    · exact ⟨p, List.mem_append_left _ hp, h1, rfl⟩
  · obtain ⟨c, _, h⟩ := hc q s hC ha
    exact hn _ h rfl
/-- ahead of the search for another source of r -/
theorem Fr.deep (f : Fr rows k F ps q) (hs : s ∉ F) (hr : (s, r) ∈ ps) : Fr rows k (s :: F) ps r := by
  refine ⟨f.kn, fun p hp p' hp' h1 h2 => f.inj p hp p' hp' (fun h => h1 (List.mem_cons_of_mem _ h)) fun h => h2 (List.mem_cons_of_mem _ h), fun p hp h1 e => ?_, fun p hp h1 => f.ed p hp fun h => h1 (List.mem_cons_of_mem _ h)⟩
  have := f.inj p hp _ hr (fun h => h1 (List.mem_cons_of_mem _ h)) hs e
  rw [this] at h1
  exact h1 (by simp)
theorem Fr.found (f : Fr rows k F ps q) (hs : s ∉ F) (hr : (s, r) ∈ ps) (ha : Act rows s q) (hq : q < k) (g : Got rows k (s :: F) ps r ps1) : Got rows k F ps q (putI ps1 s q) := by
  have rq : r ≠ q := f.nq _ hr hs
  have out : ∀ {p : Int × Int}, p.1 ∉ F → p.1 ≠ s → p.1 ∉ s :: F := fun h1 h2 h => by
    rcases List.mem_cons.mp h with h | h
    · exact h2 h
    · exact h1 h
  have old : ∀ p ∈ ps1, p.1 ∉ F → p.1 ≠ s → p.2 ≠ q := fun p hp h1 h2 e => by
    rcases (g.vals p.2).mp ⟨p, hp, out h1 h2, rfl⟩ with h | ⟨p', hp', h3, h4⟩
    · exact rq (h.symm.trans e)
    · exact f.nq p' hp' (fun h => h3 (List.mem_cons_of_mem _ h)) (h4.trans e)
  have inC : ∀ {C : Int → Prop}, Cl rows ps C → ∀ c, C c → Act rows s c → C r := fun hc c hC hac => by
    obtain ⟨c', h1, h2⟩ := hc c s hC hac
    have e : (s, c') = (s, r) := fst_eq f.kn h2 hr rfl
    have := (Prod.mk.inj e).2
    subst this
    exact h1
  refine ⟨putI_keys g.kn, fun p hp p' hp' h1 h2 e => ?_, fun p hp h1 => ?_, fun p h1 => ?_, fun v => ⟨?_, ?_⟩, fun C hc => ⟨fun hC => ?_, fun s' c hC hac v hv => ?_⟩⟩
  · rcases mem_putI.mp hp with rfl | ⟨h3, h4⟩
    · rcases mem_putI.mp hp' with rfl | ⟨h5, h6⟩
      · rfl
      · exact absurd e.symm (old p' h6 h2 h5)
    · rcases mem_putI.mp hp' with rfl | ⟨h5, h6⟩
      · exact absurd e (old p h4 h1 h3)
      · exact g.inj p h4 p' h6 (out h1 h3) (out h2 h5) e
  · rcases mem_putI.mp hp with rfl | ⟨h3, h4⟩
    · exact ⟨ha, hq⟩
    · exact g.ed p h4 (out h1 h3)
  · have hps : p.1 ≠ s := fun e => hs (e ▸ h1)
    rw [← g.fz p (List.mem_cons_of_mem _ h1)]
    constructor
    · intro h
      rcases mem_putI.mp h with rfl | ⟨_, h4⟩
      · exact absurd rfl hps
      · exact h4
    · exact fun h => mem_putI.mpr (.inr ⟨hps, h⟩)
  · rintro ⟨p, hp, h1, rfl⟩
    rcases mem_putI.mp hp with rfl | ⟨h3, h4⟩
    · exact .inl rfl
    · rcases (g.vals p.2).mp ⟨p, h4, out h1 h3, rfl⟩ with h | ⟨p', hp', h5, h6⟩
      · exact .inr ⟨_, hr, hs, h.symm⟩
      · exact .inr ⟨p', hp', fun h => h5 (List.mem_cons_of_mem _ h), h6⟩
  · rintro (rfl | ⟨p, hp, h1, rfl⟩)
    · exact ⟨(s, v), mem_putI.mpr (.inl rfl), hs, rfl⟩
    · have : ∃ p1 ∈ ps1, p1.1 ∉ s :: F ∧ p1.2 = p.2 := by
        by_cases e : p.1 = s
        · have e2 : p = (s, r) := fst_eq f.kn hp hr e
          exact (g.vals p.2).mpr (.inl (by rw [e2]))
        · exact (g.vals p.2).mpr (.inr ⟨p, hp, out h1 e, rfl⟩)
      obtain ⟨p1, h2, h3, h4⟩ := this
      exact ⟨p1, mem_putI.mpr (.inr ⟨fun e => h3 (by rw [e]; simp), h2⟩), fun h => h3 (List.mem_cons_of_mem _ h), h4⟩
  · exact (g.cl C hc).1 (inC hc q hC ha)
  · have h1 := (g.cl C hc).2 s' c hC hac v hv
    refine mem_putI.mpr (.inr ⟨fun e => ?_, h1⟩)
    have e' : s' = s := e
    subst e'
    exact (g.cl C hc).1 (inC hc c hC hac)
end
section
variable {rows : List (List Int)} {ps ps' : List (Int × Int)} {q : Int}
theorem Top.fr (t : Top rows q ps) : Fr rows (q + 1) [] ps q := by
  refine ⟨t.mt.kn, fun p hp p' hp' _ _ e => snd_eq t.mt.vn hp hp' e, fun p hp _ e => ?_, fun p hp _ => ⟨t.mt.ed p hp, ?_⟩⟩
  · have := t.mt.rg p hp
    omega
  · have := t.mt.rg p hp
    omega
theorem Top.got (t : Top rows q ps) (g : Got rows (q + 1) [] ps q ps') : Top rows (q + 1) ps' := by
  refine ⟨⟨g.kn, nodup_inj (nodup_fst g.kn) fun p hp p' hp' e => g.inj p hp p' hp' List.not_mem_nil List.not_mem_nil e, fun p hp => (g.ed p hp List.not_mem_nil).2, fun p hp => (g.ed p hp List.not_mem_nil).1⟩, ?_⟩
  obtain ⟨C, hc, hu⟩ := t.cl
  refine ⟨C, fun q1 s hC ha => ?_, fun v hv => hu v ⟨hv.1, ?_, fun p hp e => ?_⟩⟩
  · obtain ⟨c, h1, h2⟩ := hc q1 s hC ha
    exact ⟨c, h1, (g.cl C hc).2 s q1 hC ha c h2⟩
  · have : v ≠ q := fun e => by
      obtain ⟨p, hp, _, h⟩ := (g.vals q).mpr (.inl rfl)
      exact hv.2.2 p hp (h.trans e.symm)
    have := hv.2.1
    omega
  · obtain ⟨p', hp', _, h⟩ := (g.vals v).mpr (.inr ⟨p, hp, List.not_mem_nil, e⟩)
    exact hv.2.2 p' hp' h
/-- q stays out -/
theorem Top.out (t : Top rows q ps) {R : Int → Prop} (hR : Cl rows ps R) (hq : R q) : Top rows (q + 1) ps := by
  obtain ⟨C, hc, hu⟩ := t.cl
  refine ⟨⟨t.mt.kn, t.mt.vn, fun p hp => ?_, t.mt.ed⟩, fun v => C v ∨ R v, fun q1 s h ha => ?_, fun v hv => ?_⟩
  · have := t.mt.rg p hp
    omega
  · rcases h with h | h
    · obtain ⟨c, h1, h2⟩ := hc q1 s h ha
      exact ⟨c, .inl h1, h2⟩
    · obtain ⟨c, h1, h2⟩ := hR q1 s h ha
      exact ⟨c, .inr h1, h2⟩
  · by_cases e : v = q
    · subst e
      exact .inr hq
    · have := hv.2.1
      exact .inl (hu v ⟨hv.1, by omega, hv.2.2⟩)
theorem Top.miss (t : Top rows q ps) {T' : List Int} (m : Miss rows ps q [] T') : Top rows (q + 1) ps := by
  have part : ∀ s ∈ T', ∃ r, (s, r) ∈ ps ∧ ∀ s', Act rows s' r → s' ∈ T' := fun s hs => (m.cl s hs).resolve_left List.not_mem_nil
  refine t.out (R := fun v => v = q ∨ ∃ s ∈ T', (s, v) ∈ ps) (fun v s h ha => ?_) (.inl rfl)
  have hs : s ∈ T' := by
    rcases h with rfl | ⟨s0, h0, h1⟩
    · exact m.row s ha
    · obtain ⟨r, h2, h3⟩ := part s0 h0
      have := (Prod.mk.inj (fst_eq t.mt.kn h1 h2 rfl)).2
      subst this
      exact h3 s ha
  obtain ⟨r, h2, h3⟩ := part s hs
  exact ⟨r, .inr ⟨s, hs, h2⟩, h2⟩
theorem top0 (rows : List (List Int)) : Top rows 0 [] := ⟨⟨List.nodup_nil, List.nodup_nil, fun p hp => (by cases hp), fun p hp => (by cases hp)⟩, fun _ => False, fun _ _ h => h.elim, fun q h => by
  have := h.1
  have := h.2.1
  omega⟩
end
end Nw
/-! Webs turned, webs whose quantities act on themselves: what becomes of ways, rooms, pairings. -/
namespace Nw
open PySem PySem.Spec PyProof.Rows L2
/-- a pairing has at most as many lines as there are quantities -/
theorem mt_le {rows : List (List Int)} {k : Int} {ps : List (Int × Int)} (hk : 0 ≤ k) (m : Mt rows k ps) : (ps.length : Int) ≤ k := by
  have := apart_few (n := k) m.vn fun b hb => by
    obtain ⟨p, hp, rfl⟩ := List.mem_map.mp hb
    exact ⟨m.lo hp, m.rg p hp⟩
  rw [List.length_map] at this
  omega
section
variable {ps qs : List (Int × Int)} {n : Int}
/-! ### turned -/
theorem rch_turn1 (h : ∀ p, p ∈ qs ↔ (p.2, p.1) ∈ ps) {a b : Int} (r : Rch qs a b) : Rch ps b a := by
  induction r with
  | here a => exact .here a
  | step e _ ih => exact ih.snoc ((h _).1 e)
theorem rch_turn (h : ∀ p, p ∈ qs ↔ (p.2, p.1) ∈ ps) {a b : Int} : Rch qs a b ↔ Rch ps b a :=
  ⟨rch_turn1 h, rch_turn1 (fun p => by rw [h])⟩
theorem rooms_congr (h : ∀ a b, Mu qs a b ↔ Mu ps a b) : roomOf qs n = roomOf ps n ∧ roomsOf qs n = roomsOf ps n := by
  have e1 : roomOf qs n = roomOf ps n := funext fun a => by
    unfold roomOf
    exact List.filter_congr fun b _ => by rw [decide_eq_decide]; exact h a b
  have e2 : isHead qs n = isHead ps n := funext fun a => by
    unfold isHead
    rw [e1]
  refine ⟨e1, ?_⟩
  unfold roomsOf roomsTo
  rw [e1, e2]
theorem rooms_turn (h : ∀ p, p ∈ qs ↔ (p.2, p.1) ∈ ps) : roomsOf qs n = roomsOf ps n :=
  (rooms_congr fun a b => by
    unfold Mu
    rw [rch_turn h, rch_turn h]
    exact And.comm).2
/-- no pair leads out -/
def isLast (ps : List (Int × Int)) (r : List Int) : Bool := (ps.filter fun p => r.contains p.1 && !r.contains p.2).isEmpty
theorem first_turn (h : ∀ p, p ∈ qs ↔ (p.2, p.1) ∈ ps) : firstOf qs n = (roomsOf ps n).filter (isLast ps) := by
  unfold firstOf
  rw [rooms_turn h]
  refine List.filter_congr fun r _ => ?_
  unfold isFirst isLast
  rw [Bool.eq_iff_iff, List.isEmpty_iff, List.isEmpty_iff, List.filter_eq_nil_iff, List.filter_eq_nil_iff]
  constructor
  · intro g p hp
    exact g (p.2, p.1) ((h _).2 hp)
  · intro g p hp
    exact g (p.2, p.1) ((h _).1 hp)
/-! ### acting on themselves -/
theorem rch_own1 (h : ∀ p, p ∈ qs → p ∈ ps ∨ p.1 = p.2) {a b : Int} (r : Rch qs a b) : Rch ps a b := by
  induction r with
  | here a => exact .here a
  | step e _ ih =>
    rcases h _ e with e | e
    · exact .step e ih
    · cases e
      exact ih
theorem rch_more (h : ∀ p, p ∈ ps → p ∈ qs) {a b : Int} (r : Rch ps a b) : Rch qs a b := by
  induction r with
  | here a => exact .here a
  | step e _ ih => exact .step (h _ e) ih
theorem rooms_own (h1 : ∀ p, p ∈ qs → p ∈ ps ∨ p.1 = p.2) (h2 : ∀ p, p ∈ ps → p ∈ qs) : roomsOf qs n = roomsOf ps n :=
  (rooms_congr fun a b => ⟨fun ⟨x, y⟩ => ⟨rch_own1 h1 x, rch_own1 h1 y⟩, fun ⟨x, y⟩ => ⟨rch_more h2 x, rch_more h2 y⟩⟩).2
/-! ### there is a first room -/
open Classical
/-- how many lead to a -/
noncomputable def preds (ps : List (Int × Int)) (n a : Int) : Nat := ((iota n).filter fun x => decide (Rch ps x a)).length
theorem rooms_mem {a : Int} (h : 0 ≤ a ∧ a < n) : roomOf ps n a ∈ roomsOf ps n := by
  have hs := room_self (ps := ps) h
  cases e : roomOf ps n a with
  | nil =>
    rw [e] at hs
    cases hs
  | cons x r =>
    have hx : x ∈ roomOf ps n a := by rw [e]; exact List.mem_cons_self
    obtain ⟨xr, xm⟩ := mem_room.mp hx
    have er : roomOf ps n x = roomOf ps n a := by
      unfold roomOf
      refine List.filter_congr fun b _ => ?_
      rw [decide_eq_decide]
      exact ⟨fun g => xm.trans g, fun g => xm.symm.trans g⟩
    unfold roomsOf roomsTo
    refine List.mem_map.mpr ⟨x, List.mem_filter.mpr ⟨?_, ?_⟩, by rw [er, e]⟩
    · rw [List.take_of_length_le (by rw [iota, List.length_map, List.length_range]; exact Nat.le_refl _)]
      exact mem_iota.mpr xr
    · unfold isHead
      rw [er, e]
      exact decide_eq_true rfl
theorem first_ex (hn : 1 ≤ n) (hp : ∀ p ∈ ps, (0 ≤ p.1 ∧ p.1 < n) ∧ (0 ≤ p.2 ∧ p.2 < n)) : firstOf ps n ≠ [] := by
  have key : ∀ (k : Nat) (a : Int), preds ps n a ≤ k → (0 ≤ a ∧ a < n) → firstOf ps n ≠ [] := by
    intro k
    induction k with
    | zero =>
      intro a hk ha
      exfalso
      have hm : a ∈ (iota n).filter fun x => decide (Rch ps x a) := List.mem_filter.mpr ⟨mem_iota.mpr ha, decide_eq_true (.here a)⟩
      have := List.length_pos_of_mem hm
      unfold preds at hk
      omega
    | succ k ih =>
      intro a hk ha
      by_cases hf : isFirst ps (roomOf ps n a) = true
      · intro e
        have hm : roomOf ps n a ∈ firstOf ps n := List.mem_filter.mpr ⟨rooms_mem ha, hf⟩
        rw [e] at hm
        cases hm
      · unfold isFirst at hf
        rw [List.isEmpty_iff, List.filter_eq_nil_iff] at hf
        obtain ⟨p, hp'⟩ := Classical.not_forall.mp hf
        obtain ⟨hpm, hc⟩ := Classical.not_imp.mp hp'
        have hc := Classical.not_not.mp hc
        rw [Bool.and_eq_true, List.contains_iff_mem, Bool.not_eq_true', ← Bool.not_eq_true, List.contains_iff_mem] at hc
        obtain ⟨c1, c2⟩ := hc
        have m1 := mem_room.mp c1
        have r1 : Rch ps p.1 a := .step hpm m1.2.2
        refine ih p.1 ?_ (hp p hpm).1
        have lt : preds ps n p.1 < preds ps n a := by
          unfold preds
          refine filter_more (fun x hx => decide_eq_true ((of_decide_eq_true hx : Rch ps x p.1).trans r1)) (mem_iota.mpr ha) (decide_eq_true (.here a)) (decide_eq_false fun r => c2 (mem_room.mpr ⟨(hp p hpm).1, r, r1⟩))
        omega
  exact key _ 0 (Nat.le_refl _) (by omega)
/-! ### pairings turned -/
theorem mt_swap {rows rows' : List (List Int)} {ms : List (Int × Int)} (m : Mt rows n ms) (h : ∀ p ∈ ms, p.1 < n ∧ Act rows' p.2 p.1) : Mt rows' n (ms.map fun p => (p.2, p.1)) := by
  refine ⟨?_, ?_, fun p hp => ?_, fun p hp => ?_⟩
  · rw [List.map_map]
    exact m.vn
  · rw [List.map_map]
    exact m.kn
  · obtain ⟨q, hq, rfl⟩ := List.mem_map.mp hp
    exact (h q hq).1
  · obtain ⟨q, hq, rfl⟩ := List.mem_map.mp hp
    exact (h q hq).2
end
end Nw
/-! The values and the items of a dict, as lists; how many it has. -/
namespace Nw
open PySem PySem.Spec PyProof.Rows L2
theorem nd_any {α : Type} {l : List α} (nd : l.Nodup) {i j : Nat} {x : α} (hi : l[i]? = some x) (hj : l[j]? = some x) : i = j := by
  obtain ⟨h1, h2⟩ := List.getElem?_eq_some_iff.mp hi
  obtain ⟨h3, h4⟩ := List.getElem?_eq_some_iff.mp hj
  exact (List.getElem_inj nd).mp (h2.trans h4.symm)
theorem no_get {h : Heap} {a : Addr} (ha : h.objs.size ≤ a) : h.get? a = none := by
  cases e : h.get? a with
  | none => rfl
  | some o => exact absurd (Heap.lt_size e) (Nat.not_lt.mpr ha)
/-- a view of the dict at d -/
def vwO (T : String) (p d : Addr) : HO := .ext fun h => h.get? p = some { cls := .type T, data := .fields #[.ref d] }
theorem vwO_ok {P : Program} {w : World} {H : Hp} {h : Heap} {T : String} {p d : Addr} (e : h.get? p = some { cls := .type T, data := .fields #[.ref d] }) : ObjOk P w H h p (vwO T p d) := ⟨e, ⟨_, e⟩, fun h1 h2 q k => k _ q⟩
def tView (T : String) (td : TE) : TE := fun σ H Q => td σ H fun x H1 => ∃ d kvs, x = .ref d ∧ H1 d = some (.dK kvs) ∧ ∀ p, H1 p = none → Q (.ref p) (upd H1 p (vwO T p d))
section
variable {X : Cx} {e : Expr} {td : TE} {apos cpos : Pos}
theorem pe_valuesK (he : PE X e td) (hbase : attributeBase e "values" X.env (eval e X.env) = eval e X.env := by rfl) (hline : (apos.endLine == cpos.line) = true := by rfl) :
    PE X (.Call (.Attribute e "values" apos) [] [] cpos) (tView "dict_values" td) := by
  refine ⟨fun pins s σ H Q I h => ?_⟩
  refine wpAny_Call_method (T := "dict") (id := "dict.values") hbase rfl hline F.plainAttrs_dict F.slot_dict_values F.type_dict_values (thn (he.run pins s σ H _ I h) fun u s1 ⟨x, H1, I1, rx, d, kvs, ex, hd, q⟩ => ?_)
  subst ex
  obtain rfl : u = Value.ref d := rx
  obtain ⟨hz, hs, vs, kv, hm⟩ := (show ObjOk X.prog X.w H1 s1.heap d (.dK kvs) from I1.hok d _ hd)
  refine ⟨hm.typeIs, hm.mapOf.noDict, ?_⟩
  have I2 : Inv X pins σ (upd H1 s1.heap.objs.size (vwO "dict_values" s1.heap.objs.size d)) { s1 with heap := s1.heap.push { cls := .type "dict_values", data := .fields #[.ref d] } } :=
    I1.laid (t' := s1.toks) (fun b ob q => Heap.get?_push_of_some _ q) (Nat.le_refl _) (vwO_ok (Heap.get?_push_size _ rfl))
  show wpAny _ _ (callWith cpos (.builtin "dict.values") [.ref d] [] []) _ X.xe s1
  exact method_meetsIn F.slot_dict_values F.entry_dict_values rfl (PySem.evalArgs_none ⟨rfl, hm.typeIs, F.args_dict_values_1 _, _, meets_dict_values (mixKind X.prog X.w) d hs, ⟨vs, hm⟩, ⟨.ref _, _, I2, rfl, q _ (I1.hok.fresh (Nat.le_refl _))⟩⟩)
theorem pe_itemsK (he : PE X e td) (hbase : attributeBase e "items" X.env (eval e X.env) = eval e X.env := by rfl) (hline : (apos.endLine == cpos.line) = true := by rfl) :
    PE X (.Call (.Attribute e "items" apos) [] [] cpos) (tView "dict_items" td) := by
  refine ⟨fun pins s σ H Q I h => ?_⟩
  refine wpAny_Call_method (T := "dict") (id := "dict.items") hbase rfl hline F.plainAttrs_dict F.slot_dict_items F.type_dict_items (thn (he.run pins s σ H _ I h) fun u s1 ⟨x, H1, I1, rx, d, kvs, ex, hd, q⟩ => ?_)
  subst ex
  obtain rfl : u = Value.ref d := rx
  obtain ⟨hz, hs, vs, kv, hm⟩ := (show ObjOk X.prog X.w H1 s1.heap d (.dK kvs) from I1.hok d _ hd)
  refine ⟨hm.typeIs, hm.mapOf.noDict, ?_⟩
  have I2 : Inv X pins σ (upd H1 s1.heap.objs.size (vwO "dict_items" s1.heap.objs.size d)) { s1 with heap := s1.heap.push { cls := .type "dict_items", data := .fields #[.ref d] } } :=
    I1.laid (t' := s1.toks) (fun b ob q => Heap.get?_push_of_some _ q) (Nat.le_refl _) (vwO_ok (Heap.get?_push_size _ rfl))
  show wpAny _ _ (callWith cpos (.builtin "dict.items") [.ref d] [] []) _ X.xe s1
  exact method_meetsIn F.slot_dict_items F.entry_dict_items rfl (PySem.evalArgs_none ⟨rfl, hm.typeIs, F.args_dict_items_1 _, _, meets_dict_items (mixKind X.prog X.w) d hs, ⟨vs, hm⟩, ⟨.ref _, _, I2, rfl, q _ (I1.hok.fresh (Nat.le_refl _))⟩⟩)
/-- list(d.values()) -/
def rListV : List V → Hp → VK → Prop := fun xs H Q => ∃ p d kvs, xs = [.ref p] ∧ H p = some (vwO "dict_values" p d) ∧ H d = some (.dK kvs) ∧ ∀ l, H l = none → Q (.ref l) (upd H l (.lst (kvs.map (·.2))))
theorem call_listVK (hc : X.calm = true) : CallR X (.type "list") rListV := by
  intro pins s σ H xs us Q I r h
  obtain ⟨p, d, kvs, rfl, hp, hd, q⟩ := h
  obtain ⟨u, rfl, rx⟩ := vals1 r
  obtain rfl : u = Value.ref p := rx
  obtain ⟨hz, hs, vs, kv, hm⟩ := (show ObjOk X.prog X.w H s.heap d (.dK kvs) from I.hok d _ hd)
  have hv := (show ObjOk X.prog X.w H s.heap p (vwO "dict_values" p d) from I.hok p _ hp).1
  obtain ⟨es, ep, hraw, hsz, hent⟩ := hm.raw
  have hl : kvs.length = vs.length := Paired.length kv
  refine PySem.W.kdl_call (prog := X.prog) (w := X.w) PySem.KdlSrc.rawValues (I.ok.hd hc) ⟨⟨_, hv, rfl, rfl⟩, hraw⟩ (by rw [hsz, ← hl]; exact hz) fun h' tk acc' c' hkeep hS hacc => ?_
  refine ⟨.ref s.heap.objs.size, upd H s.heap.objs.size (.lst (kvs.map (·.2))), I.laid hkeep (Nat.le_refl _) (show ObjOk X.prog X.w _ _ _ (.lst (kvs.map (·.2))) from ⟨?_, acc'.toList, c', ?_, ?_⟩), rfl, q _ (I.hok.fresh (Nat.le_refl _))⟩
  · rw [List.length_map]
    exact hz
  · have el : acc'.toList.length = acc'.size := by simp
    refine vals_of_at (by rw [List.length_map, el, hacc.1, hsz, hl]) fun j x w h1 h2 => ?_
    obtain ⟨hj, rfl⟩ := hacc.2 j w (by rw [← Array.getElem?_toList]; exact h2)
    obtain ⟨⟨k, v⟩, hkv, rfl⟩ := map_at h1
    obtain ⟨u, hu, ru⟩ := kv_get kv hkv
    rw [(hent j hj k u hu).2]
    exact ru
  · rw [Array.toArray_toList]
    exact hS
/-- list(d.items()) -/
def rListI : List V → Hp → VK → Prop := fun xs H Q => ∃ p d kvs, xs = [.ref p] ∧ H p = some (vwO "dict_items" p d) ∧ H d = some (.dK kvs) ∧
  ∀ (l : Addr) (as : List Addr) H', Ex H H' → H l = none → H' l = some (.lst (as.map V.ref)) → as.length = kvs.length → (∀ (j : Nat) (k : Key) (v : V) (b : Addr), kvs[j]? = some (k, v) → as[j]? = some b → H b = none ∧ H' b = some (.tup [kV k, v])) → Q (.ref l) H'
theorem call_listIK (hc : X.calm = true) : CallR X (.type "list") rListI := by
  intro pins s σ H xs us Q I r h
  obtain ⟨p, d, kvs, rfl, hp, hd, q⟩ := h
  obtain ⟨u, rfl, rx⟩ := vals1 r
  obtain rfl : u = Value.ref p := rx
  obtain ⟨hz, hs, vs, kv, hm⟩ := (show ObjOk X.prog X.w H s.heap d (.dK kvs) from I.hok d _ hd)
  have hv := (show ObjOk X.prog X.w H s.heap p (vwO "dict_items" p d) from I.hok p _ hp).1
  obtain ⟨es, ep, hraw, hsz, hent⟩ := hm.raw
  have hl : kvs.length = vs.length := Paired.length kv
  refine PySem.W.dil_call (prog := X.prog) (w := X.w) (I.ok.hd hc) ⟨_, hv, rfl, rfl⟩ hraw (by rw [hsz, ← hl]; exact hz) fun h' tk acc c as hkeep hS hal hG hacc => ?_
  have nd : as.Nodup := hG.rise.imp fun h => Nat.ne_of_lt h
  have new : ∀ a ∈ as, s.heap.get? a = none := fun a ha => no_get (Nat.le_of_lt (hG.above a ha))
  have step : ∀ i, i ≤ as.length → ∃ (G : Heap) (H' : Hp), Inv X pins σ H' { s with heap := G, toks := tk } ∧ (∀ b o, G.get? b = some o → h'.get? b = some o) ∧ Ex H H' ∧ (∀ b, b ∉ as.take i → G.get? b = s.heap.get? b) ∧ (∀ b, b ∉ as.take i → H' b = H b) ∧
      ∀ (j : Nat) (k : Key) (v : V) (b : Addr), j < i → kvs[j]? = some (k, v) → as[j]? = some b → H' b = some (.tup [kV k, v]) := by
    intro i
    induction i with
    | zero => exact fun _ => ⟨s.heap, H, I.tok _, hkeep, Ex.rfl, fun b _ => rfl, fun b _ => rfl, fun j k v b hj => absurd hj (Nat.not_lt_zero _)⟩
    | succ i ih =>
      intro hi
      obtain ⟨G, H1, I1, g1, e1, n1, m1, t1⟩ := ih (by omega)
      obtain ⟨a, ha⟩ : ∃ a, as[i]? = some a := ⟨_, List.getElem?_eq_getElem (by omega)⟩
      obtain ⟨⟨k, v⟩, hkv⟩ : ∃ p, kvs[i]? = some p := ⟨_, List.getElem?_eq_getElem (by omega)⟩
      have out : a ∉ as.take i := fun hm => by
        obtain ⟨j, hj⟩ := List.getElem?_of_mem hm
        rw [List.getElem?_take] at hj
        split at hj
        · rename_i hji
          have := nd_any nd hj ha
          omega
        · cases hj
      have gn : G.get? a = none := (n1 a out).trans (new a (List.mem_of_getElem? ha))
      have hn : H1 a = none := (m1 a out).trans (I.hok.fresh (Nat.le_of_lt (hG.above a (List.mem_of_getElem? ha))))
      obtain ⟨G', r1, r2⟩ := restrict h' fun b => (G.get? b).isSome || decide (b = a)
      obtain ⟨hj, hobj⟩ := hG.pairs i a ha
      obtain ⟨u, hu, ru⟩ := kv_get kv hkv
      obtain ⟨h1, h2⟩ := hent i hj k u hu
      have ga : G'.get? a = some { cls := .type "tuple", data := .seq #[es[i].key, es[i].val] } := (r1 a (by simp)).trans hobj
      have J := I1.laidN (h' := G') (a := a) (o := .tup [kV k, v]) (t' := tk) (fun b o hb => by
        rw [r1 b (by rw [hb]; rfl)]
        exact g1 b o hb) gn hn ⟨by show 2 ≤ sizeLine; decide, [es[i].key, es[i].val], .cons (keyIs_rel h1) (.cons (by rw [h2]; exact ru) .nil), ⟨_, ga, rfl, _, rfl⟩⟩
      have tk1 : ∀ b, b ∈ as.take (i + 1) ↔ b ∈ as.take i ∨ b = a := fun b => by
        rw [take_snoc ha, List.mem_append, List.mem_singleton]
      refine ⟨G', _, J, fun b o hb => ?_, e1.tr (Ex.nw hn), fun b hb => ?_, fun b hb => ?_, fun j k' v' b hj hk hb => ?_⟩
      · by_cases hc' : ((G.get? b).isSome || decide (b = a)) = true
        · rw [r1 b hc'] at hb
          exact hb
        · rw [r2 b (by simpa using hc')] at hb
          cases hb
      · have nb : b ∉ as.take i := fun h => hb ((tk1 b).mpr (.inl h))
        have na : b ≠ a := fun h => hb ((tk1 b).mpr (.inr h))
        cases hg : G.get? b with
        | none =>
          rw [r2 b (by rw [hg]; simpa using na), ← n1 b nb, hg]
        | some o =>
          rw [r1 b (by rw [hg]; rfl), g1 b o hg, ← n1 b nb, hg]
      · rw [upd_ne fun h => hb ((tk1 b).mpr (.inr h))]
        exact m1 b fun h => hb ((tk1 b).mpr (.inl h))
      · by_cases hji : j < i
        · have : b ≠ a := fun e => by
            subst e
            have := nd_any nd hb ha
            omega
          rw [upd_ne this]
          exact t1 j k' v' b hji hk hb
        · obtain rfl : j = i := by omega
          rw [hkv] at hk
          rw [ha] at hb
          obtain rfl := Option.some.inj hb
          obtain ⟨rfl, rfl⟩ := Prod.mk.inj (Option.some.inj hk)
          exact upd_same
  obtain ⟨G, H1, I1, g1, e1, n1, m1, t1⟩ := step as.length (Nat.le_refl _)
  rw [List.take_length] at n1 m1
  have sout : s.heap.objs.size ∉ as := fun h => Nat.lt_irrefl _ (hG.above _ h)
  have sn : G.get? s.heap.objs.size = none := (n1 _ sout).trans (no_get (Nat.le_refl _))
  have sh : H1 s.heap.objs.size = none := (m1 _ sout).trans (I.hok.fresh (Nat.le_refl _))
  have J := I1.laidN (h' := h') (a := s.heap.objs.size) (o := .lst (as.map V.ref)) (t' := tk) g1 sn sh ⟨by rw [List.length_map, hal, hsz, ← hl]; exact hz, as.map Value.ref, c, vals_refs _, by rw [← hacc, Array.toArray_toList]; exact hS⟩
  refine ⟨.ref s.heap.objs.size, _, J, rfl, q _ as _ (e1.tr (Ex.nw sh)) (I.hok.fresh (Nat.le_refl _)) upd_same (by rw [hal, hsz, hl]) fun j k v b hk hb => ⟨I.hok.fresh (Nat.le_of_lt (hG.above b (List.mem_of_getElem? hb))), ?_⟩⟩
  rw [upd_ne fun e => sout (by rw [← e]; exact List.mem_of_getElem? hb)]
  exact t1 j k v b (List.getElem?_eq_some_iff.mp hb).1 hk hb
end
/-- len(d) -/
def rLenD : List V → Hp → VK → Prop := fun xs H Q => ∃ d kvs, xs = [.ref d] ∧ H d = some (.dK kvs) ∧ Q (.int (kvs.length : Int)) H
theorem call_lenDK {X : Cx} (K : PySem.W.Frag) (hK : X.K = K := by rfl) : CallR X (.builtin "len") rLenD := by
  intro pins s σ H xs us Q I r h
  obtain ⟨d, kvs, rfl, hd, q⟩ := h
  obtain ⟨u, rfl, rx⟩ := vals1 r
  obtain rfl : u = Value.ref d := rx
  exact d_len I (.inl hd) fun t s' I' => ⟨.int _, H, I', ⟨t, rfl⟩, q⟩
end Nw
/-! What is less of two data that are alike; the least of a list of such; how tuples and lists of numbers are compared. -/
namespace Nw
open PySem PySem.Spec PyProof.Rows L2
open PySem.W (alike dataLt lt_data minD AlikeAll min_list_data readsAll_at reads_keeps)
def rLtD (K : PySem.W.Frag) : R2 := fun x y H Q => ∃ d e, Dp K H x d ∧ Dp K H y e ∧ alike d e = true ∧ d ≠ .none ∧ d.depth ≤ 8 ∧ Q (.bl (dataLt d e)) H
theorem op_ltD {X : Cx} (K : PySem.W.Frag) {k : Nat} (hr : Room k X.A) (hK : X.K = K := by rfl) : OpR X (compareOp .Lt) (rLtD K) := by
  subst hK
  intro pins s σ H x y v u Q I rx ry h
  obtain ⟨d, e, hd, he, al, nn, dp, q⟩ := h
  obtain ⟨as, r1⟩ := Dp.reads I d x v hd rx
  obtain ⟨bs, r2⟩ := Dp.reads I e y u he ry
  have hu := hr.units
  exact lt_data r1 r2 al nn (by omega) ⟨.bl _, H, I, rfl, q⟩
theorem minD_mem : ∀ (ds : List PyData) (d : PyData), minD d ds ∈ d :: ds
  | [], d => by simp [minD]
  | e :: ds, d => by
    have h := minD_mem ds (if dataLt e d = true then e else d)
    show minD (if dataLt e d = true then e else d) ds ∈ d :: e :: ds
    rcases List.mem_cons.mp h with h | h
    · rw [h]
      split <;> simp
    · exact List.mem_cons_of_mem _ (List.mem_cons_of_mem _ h)
def rMinD (K : PySem.W.Frag) : List V → Hp → VK → Prop := fun vs H Q => ∃ (a : Addr) (d : PyData) (ds : List PyData) (xs : List V), vs = [.ref a] ∧ SqL K H a xs ∧ DpAll K H xs (d :: ds) ∧
  AlikeAll (d :: ds) ∧ PyData.depthAll (d :: ds) ≤ 8 ∧ ∀ (i : Nat) (x : V), xs[i]? = some x → (d :: ds)[i]? = some (minD d ds) → Q x H
theorem vals_at {xs : List V} {us : List Value} (r : Vals xs us) : ∀ {i : Nat} {u : Value}, us[i]? = some u → ∃ x, xs[i]? = some x ∧ RelV x u := by
  induction r with
  | nil => intro i u h; simp at h
  | cons r _ ih =>
    intro i u h
    cases i with
    | zero =>
      cases h
      exact ⟨_, rfl, r⟩
    | succ i => exact ih (by simpa using h)
theorem cr_minD {X : Cx} (K : PySem.W.Frag) {k : Nat} (hc : X.calm = true) (hr : Room k X.A) (hK : X.K = K := by rfl) : CallR X (.builtin "min") (rMinD K) := by
  subst hK
  intro pins s σ H vs us Q I r h
  obtain ⟨a, d, ds, xs, rfl, hs, hda, ha, hdp, q⟩ := h
  obtain ⟨its, rv, hl, _⟩ := I.list hs
  rw [Vals.ref1 r]
  obtain ⟨as, hra⟩ := Dp.readsAll I (d :: ds) _ its hda rv
  have hu := hr.units
  refine min_list_data (I.ok.hd hc) hl.isList (by simpa using hra) ha (by omega) fun i v h' tk bs hi hv hk => ?_
  have hi' : its[i]? = some v := by simpa using hi
  obtain ⟨x, hx, rx⟩ := vals_at rv hi'
  obtain ⟨bs2, r2, hil, hmem, _⟩ := readsAll_at hra i v hi'
  have r3 : Reads h' v ((d :: ds).getD i .none) bs2 := reads_keeps hk r2
  have e := PySem.W.alike_unique _ _ v _ _ (ha.1 _ hmem _ (minD_mem ds d)) r3 hv
  refine ⟨x, H, I.kept hk, rx, q i x hx ?_⟩
  rw [List.getD_eq_getElem?_getD, List.getElem?_eq_getElem hil] at e
  rw [List.getElem?_eq_getElem hil]
  exact congrArg some e
/-- d.update(other) -/
def rUpdD : V → List V → Hp → VK → Prop := fun x xs H Q => ∃ (a b : Addr) (kvs more : List (Key × V)), x = .ref a ∧ xs = [.ref b] ∧ a ≠ b ∧ H a = some (.dK kvs) ∧ H b = some (.dK more) ∧
  kvs.length + more.length ≤ 100000 ∧ Q .non (upd H a (.dK (mergeK kvs more)))
theorem mt_updateD {X : Cx} : MtR X "dict.update" rUpdD := by
  intro pins s σ H x xs v us Q I rx rv h
  obtain ⟨a, b, kvs, more, rfl, rfl, ne, ha, hb, hz, q⟩ := h
  cases rx
  obtain ⟨u, rfl, ru⟩ := rv.one
  cases ru
  obtain ⟨z, hd, vs, rel, dd⟩ := dk_of I.hok ha
  obtain ⟨z2, hd2, vs2, rel2, dd2⟩ := dk_of I.hok hb
  have l1 := rel.length
  have l2 := rel2.length
  refine PySem.call_meetsIn PySem.F.slot_dict_update dd.typeIs PySem.F.entry_dict_update (PySem.F.args_dict_update_2 _ _) (meets_dict_update (mixKind X.prog X.w) a b ne hd2) ⟨vs, vs2, dd, dd2, ?_, fun h' dd' _ hs => ?_⟩
  · rw [← l1, ← l2]
    exact Nat.le_of_lt (mil' (by omega))
  · have he : ∃ q, h'.get? a = some q := let ⟨q, _, _, hq, _⟩ := dd'; ⟨q, hq⟩
    refine ⟨.non, _, d_write (t' := s.toks) I (by rw [ha]; exact True.intro) hs he (dk_new (kvs := mergeK kvs more) ?_ hd (rel2.merge rel) dd'), rfl, q⟩
    have := length_mergeK more kvs
    exact Nat.le_of_lt (mil' (by omega))
theorem bt_dict : bootBuiltins "dict" = some (.type "dict") := by decide +kernel
/-- d != {} -/
def rNeNilD : R2 := fun x y H Q => ∃ (a b : Addr) (ks : List (Key × V)), x = .ref a ∧ y = .ref b ∧ H a = some (.dK ks) ∧ H b = some (.dK []) ∧ Q (.bl (!ks.isEmpty)) H
theorem op_neNilD {X : Cx} {k : Nat} (hr : Room k X.A) : OpR X (compareOp .NotEq) rNeNilD := by
  intro pins s σ H x y v u Q I rx ry h
  obtain ⟨a, b, ks, rfl, rfl, ea, eb, q⟩ := h
  obtain rfl : v = Value.ref a := rx
  obtain rfl : u = Value.ref b := ry
  obtain ⟨_, ya, va, ra, da⟩ := dk_of I.hok ea
  obtain ⟨_, yb, vb, rb, db⟩ := dk_of I.hok eb
  have la := ra.length
  have lb := rb.length
  have hu := hr.units0
  refine PySem.W.keq_ne (knd := mixKind X.prog X.w) (r := true) ya yb da db hu (fun e => ?_) (fin_bl I q ?_)
  · have : va = [] := List.eq_nil_of_length_eq_zero (by rw [e, ← lb]; rfl)
    rw [this]
    exact .nil
  · rw [← la, ← lb]
    cases ks <;> rfl
/-! how they are compared -/
theorem alike_int (a b : Int) : alike (.int a) (.int b) = true := by simp [PySem.W.alike]
theorem alike_ints : ∀ (r s : List Int), PySem.W.alikeAll (r.map PyData.int) (s.map PyData.int) = true
  | [], _ => by simp [PySem.W.alikeAll]
  | _ :: _, [] => by simp [PySem.W.alikeAll]
  | a :: r, b :: s => by
    simp only [List.map_cons, PySem.W.alikeAll, alike_int, Bool.true_and]
    exact alike_ints r s
theorem alike_dInts (r s : List Int) : alike (dInts r) (dInts s) = true := by
  unfold dInts
  simp only [PySem.W.alike]
  exact alike_ints r s
/-- lists of numbers, the first that differs -/
def ltL : List Int → List Int → Bool
  | [], [] => false
  | [], _ :: _ => true
  | _ :: _, [] => false
  | a :: r, b :: s => if a = b then ltL r s else decide (a < b)
theorem eqv_int (a b : Int) : PyData.eqv (.int a) (.int b) = decide (a = b) := by
  simp only [PyData.eqv]
  by_cases h : a = b
  · simp [h]
  · simp [h]
theorem toks_ints : ∀ (r s : List Int), PyProof.Rows.lexLt PyProof.Rows.itemOrd (PySem.W.keyToksAll (r.map PyData.int)) (PySem.W.keyToksAll (s.map PyData.int)) = ltL r s
  | [], [] => by
    simp only [List.map_nil]
    exact PyProof.Rows.lex_irrefl _
  | [], b :: s => by
    simp only [List.map_nil, List.map_cons, PySem.W.keyToksAll]
    rw [PySem.W.lex_atom (by simp)]
    rfl
  | a :: r, [] => by
    simp only [List.map_nil, List.map_cons, PySem.W.keyToksAll]
    rw [PySem.W.lex_atom (by simp)]
    rfl
  | a :: r, b :: s => by
    rw [List.map_cons, List.map_cons]
    unfold ltL
    by_cases h : a = b
    · rw [if_pos h, PySem.W.dataLt_all_yes (alike_int a b) (by rw [eqv_int]; exact decide_eq_true h)]
      exact toks_ints r s
    · rw [if_neg h, PySem.W.dataLt_all_no (alike_int a b) (by rw [eqv_int]; exact decide_eq_false h), PySem.W.dataLt_int]
theorem lt_dInts (r s : List Int) : dataLt (dInts r) (dInts s) = ltL r s := by
  unfold dInts
  rw [PySem.W.dataLt_list]
  exact toks_ints r s
/-- a tuple of two numbers and a row -/
def dTri (a b : Int) (r : List Int) : PyData := .tuple [.int a, .int b, dInts r]
theorem alike_tri (a b c d : Int) (r s : List Int) : alike (dTri a b r) (dTri c d s) = true := by
  unfold dTri
  simp only [PySem.W.alike, PySem.W.alikeAll, alike_dInts, Bool.and_self]
def ltTri (a b : Int) (r : List Int) (c d : Int) (s : List Int) : Bool := if a = c then (if b = d then ltL r s else decide (b < d)) else decide (a < c)
theorem lt_tri (a b c d : Int) (r s : List Int) : dataLt (dTri a b r) (dTri c d s) = ltTri a b r c d s := by
  unfold dTri ltTri
  rw [PySem.W.dataLt_tuple]
  by_cases h : a = c
  · rw [if_pos h, PySem.W.dataLt_all_yes (alike_int a c) (by rw [eqv_int]; exact decide_eq_true h)]
    by_cases h2 : b = d
    · rw [if_pos h2, PySem.W.dataLt_all_yes (alike_int b d) (by rw [eqv_int]; exact decide_eq_true h2)]
      by_cases h3 : PyData.eqv (dInts r) (dInts s) = true
      · rw [PySem.W.dataLt_all_yes (alike_dInts r s) h3]
        rw [eqv_dInts] at h3
        obtain rfl := of_decide_eq_true h3
        rw [← lt_dInts]
        exact (PyProof.Rows.lex_irrefl _).trans (PyProof.Rows.lex_irrefl _).symm
      · rw [PySem.W.dataLt_all_no (alike_dInts r s) (by simpa using h3), lt_dInts]
    · rw [if_neg h2, PySem.W.dataLt_all_no (alike_int b d) (by rw [eqv_int]; exact decide_eq_false h2), PySem.W.dataLt_int]
  · rw [if_neg h, PySem.W.dataLt_all_no (alike_int a c) (by rw [eqv_int]; exact decide_eq_false h), PySem.W.dataLt_int]
/-- a tuple of three numbers -/
def dTrp (t : Int × Int × Int) : PyData := .tuple [.int t.1, .int t.2.1, .int t.2.2]
def ltTrp (t u : Int × Int × Int) : Prop := t.1 < u.1 ∨ (t.1 = u.1 ∧ (t.2.1 < u.2.1 ∨ (t.2.1 = u.2.1 ∧ t.2.2 < u.2.2)))
instance (t u : Int × Int × Int) : Decidable (ltTrp t u) := by unfold ltTrp; infer_instance
theorem alike_trp (t u : Int × Int × Int) : alike (dTrp t) (dTrp u) = true := by
  unfold dTrp
  simp only [PySem.W.alike, PySem.W.alikeAll, Bool.and_self]
theorem lt_trp (t u : Int × Int × Int) : dataLt (dTrp t) (dTrp u) = decide (ltTrp t u) := by
  have h := toks_ints [t.1, t.2.1, t.2.2] [u.1, u.2.1, u.2.2]
  unfold dTrp
  rw [PySem.W.dataLt_tuple]
  rw [show ([PyData.int t.1, .int t.2.1, .int t.2.2]) = [t.1, t.2.1, t.2.2].map PyData.int from rfl, show ([PyData.int u.1, .int u.2.1, .int u.2.2]) = [u.1, u.2.1, u.2.2].map PyData.int from rfl, h]
  simp only [ltL]
  rw [Bool.eq_iff_iff, decide_eq_true_iff]
  unfold ltTrp
  by_cases h1 : t.1 = u.1
  · rw [if_pos h1]
    by_cases h2 : t.2.1 = u.2.1
    · rw [if_pos h2]
      by_cases h3 : t.2.2 = u.2.2
      · rw [if_pos h3]
        refine ⟨fun h => Bool.noConfusion h, fun h => ?_⟩
        omega
      · rw [if_neg h3, decide_eq_true_iff]
        omega
    · rw [if_neg h2, decide_eq_true_iff]
      omega
  · rw [if_neg h1, decide_eq_true_iff]
    omega
/-- none of a list of triples is less than the least -/
theorem minD_least : ∀ (ts : List (Int × Int × Int)) (t : Int × Int × Int), ∃ m ∈ t :: ts, minD (dTrp t) (ts.map dTrp) = dTrp m ∧ ∀ x ∈ t :: ts, ¬ ltTrp x m
  | [], t => ⟨t, by simp, rfl, fun x hx => by
    obtain rfl := List.mem_singleton.mp hx
    unfold ltTrp
    omega⟩
  | u :: ts, t => by
    by_cases h : ltTrp u t
    · have step : minD (dTrp t) ((u :: ts).map dTrp) = minD (dTrp u) (ts.map dTrp) := by
        show minD (if dataLt (dTrp u) (dTrp t) = true then dTrp u else dTrp t) (ts.map dTrp) = _
        rw [lt_trp, if_pos (decide_eq_true h)]
      obtain ⟨m, h1, h2, h3⟩ := minD_least ts u
      refine ⟨m, List.mem_cons_of_mem _ h1, step.trans h2, fun x hx => ?_⟩
      rcases List.mem_cons.mp hx with rfl | hx
      · have := h3 u (by simp)
        unfold ltTrp at *
        omega
      · exact h3 x hx
    · have step : minD (dTrp t) ((u :: ts).map dTrp) = minD (dTrp t) (ts.map dTrp) := by
        show minD (if dataLt (dTrp u) (dTrp t) = true then dTrp u else dTrp t) (ts.map dTrp) = _
        rw [lt_trp, if_neg (fun e => h (of_decide_eq_true e))]
      obtain ⟨m, h1, h2, h3⟩ := minD_least ts t
      refine ⟨m, ?_, step.trans h2, fun x hx => ?_⟩
      · rcases List.mem_cons.mp h1 with h1 | h1
        · rw [h1]; simp
        · exact List.mem_cons_of_mem _ (List.mem_cons_of_mem _ h1)
      · rcases List.mem_cons.mp hx with rfl | hx
        · exact h3 x (by simp)
        · rcases List.mem_cons.mp hx with rfl | hx
          · have := h3 t (by simp)
            unfold ltTrp at *
            omega
          · exact h3 x (List.mem_cons_of_mem _ hx)
end Nw
/-! Ways: shortest ones, the least of them. -/
namespace Nw
open PySem PySem.Spec PyProof.Rows L2
theorem ltL_irr : ∀ r : List Int, ltL r r = false
  | [] => rfl
  | a :: r => by
    unfold ltL
    rw [if_pos rfl]
    exact ltL_irr r
theorem ltL_anti : ∀ {r s : List Int}, r.length = s.length → ltL r s = false → ltL s r = false → r = s
  | [], [], _, _, _ => rfl
  | [], _ :: _, h, _, _ => by simp at h
  | _ :: _, [], h, _, _ => by simp at h
  | a :: r, b :: s, h, h1, h2 => by
    unfold ltL at h1 h2
    by_cases e : a = b
    · subst e
      rw [if_pos rfl] at h1 h2
      rw [ltL_anti (by simpa using h) h1 h2]
    · rw [if_neg e] at h1
      rw [if_neg (fun x => e x.symm)] at h2
      have := of_decide_eq_false h1
      have := of_decide_eq_false h2
      omega
theorem ltL_snoc : ∀ {r s : List Int} {x y : Int}, r.length = s.length → ltL (r ++ [x]) (s ++ [y]) = if r = s then decide (x < y) else ltL r s
  | [], [], x, y, _ => by
    rw [if_pos rfl]
    show (if x = y then ltL [] [] else decide (x < y)) = _
    by_cases e : x = y
    · rw [if_pos e]
      have : decide (x < y) = false := decide_eq_false (by omega)
      rw [this]
      rfl
    · rw [if_neg e]
  | [], _ :: _, _, _, h => by simp at h
  | _ :: _, [], _, _, h => by simp at h
  | a :: r, b :: s, x, y, h => by
    have ih := ltL_snoc (r := r) (s := s) (x := x) (y := y) (by simpa using h)
    show (if a = b then ltL (r ++ [x]) (s ++ [y]) else decide (a < b)) = if a :: r = b :: s then _ else (if a = b then ltL r s else decide (a < b))
    by_cases e : a = b
    · rw [if_pos e, if_pos e, ih]
      by_cases e2 : r = s
      · rw [if_pos e2, if_pos (by rw [e, e2])]
      · rw [if_neg e2, if_neg (fun z => e2 (List.cons.inj z).2)]
    · rw [if_neg e, if_neg e, if_neg (fun z => e (List.cons.inj z).1)]
theorem ltL_trans : ∀ {a b c : List Int}, a.length = b.length → b.length = c.length → ltL b a = false → ltL c b = false → ltL c a = false
  | [], [], [], _, _, _, _ => rfl
  | [], _ :: _, _, h, _, _, _ => by simp at h
  | _ :: _, [], _, h, _, _, _ => by simp at h
  | _, [], _ :: _, _, h, _, _ => by simp at h
  | _, _ :: _, [], _, h, _, _ => by simp at h
  | x :: a, y :: b, z :: c, h, g, h1, h2 => by
    unfold ltL at *
    by_cases e1 : y = x
    · subst e1
      rw [if_pos rfl] at h1
      by_cases e2 : z = y
      · subst e2
        rw [if_pos rfl] at h2 ⊢
        exact ltL_trans (by simpa using h) (by simpa using g) h1 h2
      · rw [if_neg e2] at h2 ⊢
        exact h2
    · rw [if_neg e1] at h1
      have h1 := of_decide_eq_false h1
      by_cases e2 : z = y
      · subst e2
        rw [if_neg e1]
        exact decide_eq_false h1
      · rw [if_neg e2] at h2
        have h2 := of_decide_eq_false h2
        rw [if_neg (by omega)]
        exact decide_eq_false (by omega)
/-- each acts on the next one -/
def Chn (ps : List (Int × Int)) : List Int → Prop
  | [] => False
  | [_] => True
  | a :: b :: r => (a, b) ∈ ps ∧ Chn ps (b :: r)
theorem chn_ne {ps : List (Int × Int)} {p : List Int} (h : Chn ps p) : p ≠ [] := fun e => by
  rw [e] at h
  exact h
theorem chn_snoc {ps : List (Int × Int)} : ∀ {p : List Int} {x y : Int}, p.getLast? = some x → (Chn ps (p ++ [y]) ↔ Chn ps p ∧ (x, y) ∈ ps)
  | [], x, y, h => by simp at h
  | [a], x, y, h => by
    have e : a = x := by simpa using h
    subst e
    exact ⟨fun h => ⟨trivial, h.1⟩, fun h => ⟨h.2, trivial⟩⟩
  | a :: b :: r, x, y, h => by
    have ih := chn_snoc (ps := ps) (p := b :: r) (x := x) (y := y) (by simpa using h)
    show ((a, b) ∈ ps ∧ Chn ps ((b :: r) ++ [y])) ↔ ((a, b) ∈ ps ∧ Chn ps (b :: r)) ∧ (x, y) ∈ ps
    rw [ih, and_assoc]
/-- a row of pairs of so many quantities from x to y -/
def Cn (ps : List (Int × Int)) (m : Nat) (x y : Int) : Prop := ∃ p, Chn ps p ∧ p.head? = some x ∧ p.getLast? = some y ∧ p.length = m
theorem Cn.pos {ps : List (Int × Int)} {m : Nat} {x y : Int} (h : Cn ps m x y) : 1 ≤ m := by
  obtain ⟨p, h1, _, _, rfl⟩ := h
  cases p with
  | nil => exact absurd h1 id
  | cons a p => exact Nat.succ_pos _
theorem cn_one {ps : List (Int × Int)} {x y : Int} : Cn ps 1 x y ↔ x = y := by
  constructor
  · rintro ⟨p, h1, h2, h3, h4⟩
    match p, h4 with
    | [a], _ =>
      have e1 : a = x := by simpa using h2
      have e2 : a = y := by simpa using h3
      exact e1.symm.trans e2
  · rintro rfl
    exact ⟨[x], trivial, rfl, rfl, rfl⟩
theorem cn_succ {ps : List (Int × Int)} {m : Nat} {x y : Int} : Cn ps (m + 2) x y ↔ ∃ z, (x, z) ∈ ps ∧ Cn ps (m + 1) z y := by
  constructor
  · rintro ⟨p, h1, h2, h3, h4⟩
    match p, h1, h4 with
    | a :: b :: r, h1, h4 =>
      have e1 : a = x := by simpa using h2
      subst e1
      exact ⟨b, h1.1, b :: r, h1.2, rfl, by simpa using h3, by simpa using h4⟩
  · rintro ⟨z, hz, p, h1, h2, h3, h4⟩
    match p, h1, h4 with
    | b :: r, h1, h4 =>
      have e1 : b = z := by simpa using h2
      subst e1
      exact ⟨x :: b :: r, ⟨hz, h1⟩, rfl, by simpa using h3, by simpa using h4⟩
/-- how far x is from y -/
def Ds (ps : List (Int × Int)) (y x : Int) (m : Nat) : Prop := Cn ps m x y ∧ ∀ j, j < m → ¬ Cn ps j x y
theorem Ds.uniq {ps : List (Int × Int)} {x y : Int} {m k : Nat} (a : Ds ps y x m) (b : Ds ps y x k) : m = k := by
  rcases Nat.lt_trichotomy m k with h | h | h
  · exact absurd a.1 (b.2 m h)
  · exact h
  · exact absurd b.1 (a.2 k h)
theorem ds_le {ps : List (Int × Int)} {x y : Int} : ∀ {m : Nat}, Cn ps m x y → ∃ k, k ≤ m ∧ Ds ps y x k := fun {m} => by
  induction m using Nat.strongRecOn with
  | _ m ih =>
    intro h
    by_cases c : ∃ j, j < m ∧ Cn ps j x y
    · obtain ⟨j, h1, h2⟩ := c
      obtain ⟨k, h3, h4⟩ := ih j h1 h2
      exact ⟨k, by omega, h4⟩
    · exact ⟨m, Nat.le_refl _, h, fun j hj hc => c ⟨j, hj, hc⟩⟩
theorem Ds.one {ps : List (Int × Int)} {x y : Int} : Ds ps y x 1 ↔ x = y :=
  ⟨fun h => cn_one.mp h.1, fun h => ⟨cn_one.mpr h, fun j hj hc => by have := hc.pos; omega⟩⟩
/-- the one behind is nearer by one -/
theorem Ds.next {ps : List (Int × Int)} {x y : Int} {m : Nat} (h : Ds ps y x (m + 2)) : ∃ z, (x, z) ∈ ps ∧ Ds ps y z (m + 1) := by
  obtain ⟨z, h1, h2⟩ := cn_succ.mp h.1
  refine ⟨z, h1, h2, fun j hj hc => ?_⟩
  have := hc.pos
  obtain ⟨i, rfl⟩ : ∃ i, j = i + 1 := ⟨j - 1, by omega⟩
  exact h.2 (i + 2) (by omega) (cn_succ.mpr ⟨z, h1, hc⟩)
theorem Ds.step {ps : List (Int × Int)} {x y z : Int} {m : Nat} (h : Ds ps y z (m + 1)) (hz : (x, z) ∈ ps) (hn : ∀ j, j ≤ m + 1 → ¬ Ds ps y x j) : Ds ps y x (m + 2) := by
  refine ⟨cn_succ.mpr ⟨z, hz, h.1⟩, fun j hj hc => ?_⟩
  obtain ⟨k, h1, h2⟩ := ds_le hc
  exact hn k (by omega) h2
/-- if none is so far, none is farther -/
theorem ds_none {ps : List (Int × Int)} {y : Int} {m : Nat} (h : ∀ x, ¬ Ds ps y x (m + 1)) : ∀ k x, m + 1 ≤ k → ¬ Ds ps y x k := fun k => by
  induction k with
  | zero => intro x hk; omega
  | succ k ih =>
    intro x hk hd
    by_cases e : k = m
    · subst e
      exact h x hd
    · obtain ⟨i, rfl⟩ : ∃ i, k = i + 1 := ⟨k - 1, by omega⟩
      obtain ⟨z, _, h2⟩ := hd.next
      exact ih z (by omega) h2
/-- a way of a nudge -/
structure Way (ps : List (Int × Int)) (N : List Int) (p : List Int) (q : Int) : Prop where
  ch : Chn ps p
  hd : ∃ a, p.head? = some a ∧ a ∈ N
  ls : p.getLast? = some q
theorem Way.pos {ps : List (Int × Int)} {N p : List Int} {q : Int} (w : Way ps N p q) : 1 ≤ p.length := by
  cases p with
  | nil => exact absurd w.ch id
  | cons a p => exact Nat.succ_pos _
theorem way_one {ps : List (Int × Int)} {N : List Int} {q : Int} (h : q ∈ N) : Way ps N [q] q := ⟨trivial, ⟨q, rfl, h⟩, rfl⟩
theorem Way.snoc {ps : List (Int × Int)} {N p : List Int} {x y : Int} (w : Way ps N p x) (h : (x, y) ∈ ps) : Way ps N (p ++ [y]) y := by
  refine ⟨(chn_snoc w.ls).mpr ⟨w.ch, h⟩, ?_, by simp⟩
  obtain ⟨a, h1, h2⟩ := w.hd
  refine ⟨a, ?_, h2⟩
  cases p with
  | nil => simp at h1
  | cons b p => simpa using h1
theorem Way.cut {ps : List (Int × Int)} {N p : List Int} {y : Int} (w : Way ps N p y) (h : 2 ≤ p.length) : ∃ p' x, p = p' ++ [y] ∧ Way ps N p' x ∧ (x, y) ∈ ps := by
  rcases List.eq_nil_or_concat p with rfl | ⟨p', z, rfl⟩
  · simp at h
  · rw [List.concat_eq_append] at *
    have e : z = y := by simpa using w.ls
    subst e
    have hl : 1 ≤ p'.length := by
      rw [List.length_append, List.length_singleton] at h
      omega
    obtain ⟨x, hx⟩ : ∃ x, p'.getLast? = some x := by
      cases hg : p'.getLast? with
      | none =>
        rw [List.getLast?_eq_none_iff] at hg
        rw [hg] at hl
        simp at hl
      | some x => exact ⟨x, rfl⟩
    obtain ⟨h1, h2⟩ := (chn_snoc hx).mp w.ch
    refine ⟨p', x, rfl, ⟨h1, ?_, hx⟩, h2⟩
    obtain ⟨a, h3, h4⟩ := w.hd
    refine ⟨a, ?_, h4⟩
    cases p' with
    | nil => simp at hl
    | cons b r => simpa using h3
/-- so far, and not nearer -/
def Wd (ps : List (Int × Int)) (N : List Int) (x : Int) (m : Nat) : Prop := (∃ p, Way ps N p x ∧ p.length = m) ∧ ∀ p, Way ps N p x → m ≤ p.length
/-- the least of the shortest ones -/
def Lw (ps : List (Int × Int)) (N : List Int) (x : Int) (p : List Int) : Prop := Way ps N p x ∧ ∀ p', Way ps N p' x → p.length < p'.length ∨ (p.length = p'.length ∧ ltL p' p = false)
theorem Lw.wd {ps : List (Int × Int)} {N p : List Int} {x : Int} (h : Lw ps N x p) : Wd ps N x p.length := ⟨⟨p, h.1, rfl⟩, fun p' w => by
  rcases h.2 p' w with h | h <;> omega⟩
/-- nudge and way, the best of some nudges -/
structure Bs (u : Wb) (x : Int) (ok : Nat → Prop) (k : Nat) (p : List Int) : Prop where
  kk : ok k
  wy : ∃ N, u.ns[k]? = some N ∧ Way u.ps N p x
  le : ∀ (k' : Nat) (N p' : List Int), ok k' → u.ns[k']? = some N → Way u.ps N p' x → p.length < p'.length ∨ (p.length = p'.length ∧ (k < k' ∨ (k = k' ∧ ltL p' p = false)))
def BsO (u : Wb) (x : Int) (ok : Nat → Prop) : Option (Nat × List Int) → Prop
  | some (k, p) => Bs u x ok k p
  | none => ∀ (k' : Nat) (N p' : List Int), ok k' → u.ns[k']? = some N → ¬ Way u.ps N p' x
theorem BsO.uniq {u : Wb} {x : Int} {ok : Nat → Prop} {a b : Option (Nat × List Int)} (h : BsO u x ok a) (g : BsO u x ok b) : a = b := by
  match a, b with
  | none, none => rfl
  | none, some (k, p) =>
    obtain ⟨N, h1, h2⟩ := g.wy
    exact absurd h2 (h k N p g.kk h1)
  | some (k, p), none =>
    obtain ⟨N, h1, h2⟩ := h.wy
    exact absurd h2 (g k N p h.kk h1)
  | some (k, p), some (j, s) =>
    obtain ⟨N, h1, h2⟩ := h.wy
    obtain ⟨M, h3, h4⟩ := g.wy
    have c1 := h.le j M s g.kk h3 h4
    have c2 := g.le k N p h.kk h1 h2
    have e1 : k = j := by omega
    subst e1
    have e2 : ltL s p = false := by
      rcases c1 with c | ⟨_, c | ⟨_, c⟩⟩
      · omega
      · omega
      · exact c
    have e3 : ltL p s = false := by
      rcases c2 with c | ⟨_, c | ⟨_, c⟩⟩
      · omega
      · omega
      · exact c
    rw [ltL_anti (by omega) e3 e2]
theorem BsO.congr {u : Wb} {x : Int} {ok ok' : Nat → Prop} {o : Option (Nat × List Int)} (h : BsO u x ok o) (e : ∀ k N p, u.ns[k]? = some N → Way u.ps N p x → (ok k ↔ ok' k)) : BsO u x ok' o := by
  match o with
  | none => exact fun k N p h1 h2 h3 => h k N p ((e k N p h2 h3).mpr h1) h2 h3
  | some (k, p) =>
    obtain ⟨N, h1, h2⟩ := h.wy
    exact ⟨(e k N p h1 h2).mp h.kk, ⟨N, h1, h2⟩, fun k' N' p' g1 g2 g3 => h.le k' N' p' ((e k' N' p' g2 g3).mpr g1) g2 g3⟩
/-- one nudge more -/
theorem BsO.more {u : Wb} {x : Int} {k : Nat} {N p : List Int} {o : Option (Nat × List Int)} (h : BsO u x (· < k) o) (hN : u.ns[k]? = some N) (hp : Lw u.ps N x p) :
    BsO u x (fun j => j < k ∨ j = k) (match o with | none => some (k, p) | some (j, s) => if p.length < s.length then some (k, p) else some (j, s)) := by
  have newB : (∀ (k' : Nat) (M p' : List Int), k' < k → u.ns[k']? = some M → Way u.ps M p' x → p.length < p'.length) → Bs u x (fun j => j < k ∨ j = k) k p := fun hlt =>
    ⟨.inr rfl, ⟨N, hN, hp.1⟩, fun k' M p' hk hM w => by
      rcases hk with hk | rfl
      · exact .inl (hlt k' M p' hk hM w)
      · rw [hN] at hM
        cases hM
        rcases hp.2 p' w with h | ⟨h1, h2⟩
        · exact .inl h
        · exact .inr ⟨h1, .inr ⟨rfl, h2⟩⟩⟩
  match o with
  | none => exact newB fun k' M p' hk hM w => absurd w (h k' M p' hk hM)
  | some (j, s) =>
    by_cases c : p.length < s.length
    · show BsO u x _ (if p.length < s.length then _ else _)
      rw [if_pos c]
      refine newB fun k' M p' hk hM w => ?_
      rcases h.le k' M p' hk hM w with h1 | h1 <;> omega
    · show BsO u x _ (if p.length < s.length then _ else _)
      rw [if_neg c]
      refine ⟨.inl h.kk, h.wy, fun k' M p' hk hM w => ?_⟩
      rcases hk with hk | rfl
      · exact h.le k' M p' hk hM w
      · rw [hN] at hM
        cases hM
        have hj : j < k' := h.kk
        rcases hp.2 p' w with h | ⟨h1, h2⟩ <;> omega
theorem wd_le {ps : List (Int × Int)} {N : List Int} {x : Int} : ∀ {m : Nat} {p : List Int}, Way ps N p x → p.length = m → ∃ j, j ≤ m ∧ Wd ps N x j := fun {m} => by
  induction m using Nat.strongRecOn with
  | _ m ih =>
    intro p w hl
    by_cases c : ∃ p', Way ps N p' x ∧ p'.length < m
    · obtain ⟨p', h1, h2⟩ := c
      obtain ⟨j, h3, h4⟩ := ih p'.length h2 h1 rfl
      exact ⟨j, by omega, h4⟩
    · refine ⟨m, Nat.le_refl _, ⟨p, w, hl⟩, fun p' w' => ?_⟩
      by_cases e : p'.length < m
      · exact absurd ⟨p', w', e⟩ c
      · omega
theorem Wd.uniq {ps : List (Int × Int)} {N : List Int} {x : Int} {m k : Nat} (a : Wd ps N x m) (b : Wd ps N x k) : m = k := by
  obtain ⟨⟨p, h1, h2⟩, h3⟩ := a
  obtain ⟨⟨r, g1, g2⟩, g3⟩ := b
  have := h3 r g1
  have := g3 p h1
  omega
theorem Wd.pos {ps : List (Int × Int)} {N : List Int} {x : Int} {m : Nat} (a : Wd ps N x m) : 1 ≤ m := by
  obtain ⟨⟨p, h1, h2⟩, _⟩ := a
  have := h1.pos
  omega
theorem wd_one {ps : List (Int × Int)} {N : List Int} {x : Int} : Wd ps N x 1 ↔ x ∈ N := by
  constructor
  · rintro ⟨⟨p, w, hl⟩, _⟩
    match p, hl with
    | [a], _ =>
      obtain ⟨b, h1, h2⟩ := w.hd
      have h3 := w.ls
      have e1 : a = b := by simpa using h1
      have e2 : a = x := by simpa using h3
      rw [← e2, e1]
      exact h2
  · intro h
    exact ⟨⟨[x], way_one h, rfl⟩, fun p w => w.pos⟩
/-- the ones at a level, each with its least way -/
structure Frt (ps : List (Int × Int)) (N : List Int) (m : Nat) (F : List (Int × List Int)) : Prop where
  good : ∀ e ∈ F, Lw ps N e.1 e.2 ∧ e.2.length = m
  all : ∀ x, Wd ps N x m → ∃ p, (x, p) ∈ F
/-- seen: nearer than the next level -/
def Seen (ps : List (Int × Int)) (N : List Int) (m : Nat) (y : Int) : Prop := ∃ j, j ≤ m ∧ Wd ps N y j
theorem Frt.prev {ps : List (Int × Int)} {N : List Int} {m : Nat} {F : List (Int × List Int)} (f : Frt ps N m F) (hm : 1 ≤ m) {y : Int} (hy : ¬ Seen ps N m y) {p' : List Int} (w : Way ps N p' y) (hl : p'.length = m + 1) :
    ∃ x p p'', (x, p) ∈ F ∧ (x, y) ∈ ps ∧ p' = p'' ++ [y] ∧ p''.length = m ∧ ltL p'' p = false := by
  obtain ⟨p'', x, rfl, w2, hxy⟩ := w.cut (by omega)
  have l2 : p''.length = m := by
    rw [List.length_append, List.length_singleton] at hl
    omega
  have hd : Wd ps N x m := by
    obtain ⟨j, h1, h2⟩ := wd_le w2 l2
    by_cases e : j = m
    · rw [← e]
      exact h2
    · obtain ⟨⟨r, g1, g2⟩, _⟩ := h2
      obtain ⟨i, g3, g4⟩ := wd_le (g1.snoc hxy) rfl
      rw [List.length_append, List.length_singleton] at g3
      exact absurd ⟨i, by omega, g4⟩ hy
  obtain ⟨p, hp⟩ := f.all x hd
  obtain ⟨h1, h2⟩ := f.good _ hp
  refine ⟨x, p, p'', hp, hxy, rfl, l2, ?_⟩
  rcases h1.2 p'' w2 with h | ⟨_, h⟩
  · simp only at h h2
    omega
  · exact h
theorem Frt.lw {ps : List (Int × Int)} {N : List Int} {m : Nat} {F : List (Int × List Int)} (f : Frt ps N m F) (hm : 1 ≤ m) {y : Int} (hy : ¬ Seen ps N m y) {x : Int} {p : List Int} (hp : (x, p) ∈ F) (hxy : (x, y) ∈ ps)
    (hmin : ∀ x' p', (x', p') ∈ F → (x', y) ∈ ps → ltL (p' ++ [y]) (p ++ [y]) = false) : Lw ps N y (p ++ [y]) ∧ (p ++ [y]).length = m + 1 := by
  obtain ⟨h1, h2⟩ := f.good _ hp
  simp only at h1 h2
  have hl : (p ++ [y]).length = m + 1 := by rw [List.length_append, h2]; rfl
  refine ⟨⟨h1.1.snoc hxy, fun p' w => ?_⟩, hl⟩
  by_cases e : p'.length = m + 1
  · obtain ⟨x', q, p'', g1, g2, rfl, g4, g5⟩ := f.prev hm hy w e
    obtain ⟨_, g6⟩ := f.good _ g1
    simp only at g6
    have h3 := hmin x' q g1 g2
    refine .inr ⟨by omega, ltL_trans (b := q ++ [y]) ?_ ?_ h3 ?_⟩
    · rw [hl, List.length_append, g6]; rfl
    · rw [List.length_append, List.length_append, g6, g4]
    · rw [ltL_snoc (by omega)]
      by_cases e2 : p'' = q
      · rw [if_pos e2]
        exact decide_eq_false (by omega)
      · rw [if_neg e2]
        exact g5
  · obtain ⟨j, g1, g2⟩ := wd_le w rfl
    by_cases c : j ≤ m
    · exact absurd ⟨j, c, g2⟩ hy
    · exact .inl (by omega)
theorem Frt.reach {ps : List (Int × Int)} {N : List Int} {m : Nat} {F : List (Int × List Int)} (f : Frt ps N m F) (hm : 1 ≤ m) {y : Int} (hy : Wd ps N y (m + 1)) : ∃ x p, (x, p) ∈ F ∧ (x, y) ∈ ps := by
  obtain ⟨⟨p', w, hl⟩, h2⟩ := hy
  obtain ⟨x, p, _, h3, h4, _⟩ := f.prev hm (fun ⟨j, g1, ⟨r, g2, g3⟩, _⟩ => by have := h2 r g2; omega) w hl
  exact ⟨x, p, h3, h4⟩
theorem seen_succ {ps : List (Int × Int)} {N : List Int} {m : Nat} {y : Int} : Seen ps N (m + 1) y ↔ Seen ps N m y ∨ Wd ps N y (m + 1) := by
  constructor
  · rintro ⟨j, h1, h2⟩
    by_cases e : j = m + 1
    · exact .inr (e ▸ h2)
    · exact .inl ⟨j, by omega, h2⟩
  · rintro (⟨j, h1, h2⟩ | h)
    · exact ⟨j, by omega, h2⟩
    · exact ⟨m + 1, Nat.le_refl _, h⟩
/-- if none is at a level, none is behind it -/
theorem wd_none {ps : List (Int × Int)} {N : List Int} {m : Nat} (hm : 1 ≤ m) (h : ∀ x, ¬ Wd ps N x m) : ∀ k x, m ≤ k → ¬ Wd ps N x k := fun k => by
  induction k with
  | zero => intro x hk; omega
  | succ k ih =>
    intro x hk hd
    by_cases e : k + 1 = m
    · exact h x (e ▸ hd)
    · obtain ⟨⟨p, w, hl⟩, hmin⟩ := hd
      obtain ⟨p', z, rfl, w2, hz⟩ := w.cut (by omega)
      rw [List.length_append, List.length_singleton] at hl
      obtain ⟨j, g1, g2⟩ := wd_le w2 rfl
      by_cases c : j = k
      · exact ih z (by omega) (c ▸ g2)
      · obtain ⟨⟨r, g3, g4⟩, _⟩ := g2
        have := hmin _ (g3.snoc hz)
        rw [List.length_append, List.length_singleton] at this
        omega
theorem chn_app {ps : List (Int × Int)} : ∀ {a : List Int} {x z : Int} {r : List Int}, Chn ps (a ++ z :: r) → a.getLast? = some x → (x, z) ∈ ps ∧ Chn ps (z :: r)
  | [], x, z, r, _, h => by simp at h
  | [b], x, z, r, hc, h => by
    have e : b = x := by simpa using h
    subst e
    exact hc
  | b :: c :: a, x, z, r, hc, h => chn_app (a := c :: a) hc.2 (by simpa using h)
/-- going to q by the least of those that are nearer -/
structure Grd (ps : List (Int × Int)) (q first : Int) (L : Nat) (w : List Int) (l : Nat) : Prop where
  ch : Chn ps w
  hd : w.head? = some first
  ln : w.length + l = L + 1
  ls : ∃ x, w.getLast? = some x ∧ Ds ps q x l
  mn : ∀ p', Chn ps p' → p'.head? = some first → p'.getLast? = some q → p'.length = L → ltL (p'.take w.length) w = false
theorem Grd.zero {ps : List (Int × Int)} {q first : Int} {L : Nat} (h : Ds ps q first L) : Grd ps q first L [first] L := by
  refine ⟨trivial, rfl, by simp; omega, ⟨first, rfl, h⟩, fun p' h1 h2 _ _ => ?_⟩
  cases p' with
  | nil => exact absurd h1 id
  | cons a r =>
    have e : a = first := by simpa using h2
    subst e
    show ltL [a] [a] = false
    exact ltL_irr _
theorem Grd.step {ps : List (Int × Int)} {q first x y : Int} {L l : Nat} {w : List Int} (g : Grd ps q first L w (l + 1)) (hl : 1 ≤ l) (hx : w.getLast? = some x) (hxy : (x, y) ∈ ps) (hy : Ds ps q y l)
    (hm : ∀ z, (x, z) ∈ ps → Ds ps q z l → y ≤ z) : Grd ps q first L (w ++ [y]) l := by
  obtain ⟨x', hx', dx⟩ := g.ls
  rw [hx] at hx'
  obtain rfl := Option.some.inj hx'
  have ln := g.ln
  have wne := chn_ne g.ch
  refine ⟨(chn_snoc hx).mpr ⟨g.ch, hxy⟩, ?_, by rw [List.length_append, List.length_singleton]; omega, ⟨y, by simp, hy⟩, fun p' h1 h2 h3 h4 => ?_⟩
  · have := g.hd
    cases w with
    | nil => exact absurd rfl wne
    | cons a r => simpa using this
  · have hlt : w.length < p'.length := by omega
    have e1 : p'.take (w.length + 1) = p'.take w.length ++ [p'[w.length]] := by
      rw [List.take_add_one, List.getElem?_eq_getElem hlt]
      rfl
    have e2 : p' = p'.take w.length ++ p'[w.length] :: p'.drop (w.length + 1) := by
      rw [← List.drop_eq_getElem_cons hlt, List.take_append_drop]
    have tl : (p'.take w.length).length = w.length := by rw [List.length_take]; omega
    rw [List.length_append, List.length_singleton, e1, ltL_snoc tl]
    by_cases e : p'.take w.length = w
    · rw [if_pos e]
      refine decide_eq_false fun hz => ?_
      rw [e] at e2
      rw [e2] at h1 h3 h4
      obtain ⟨h5, h6⟩ := chn_app h1 hx
      have h7 : Cn ps l p'[w.length] q := by
        refine ⟨_, h6, rfl, ?_, ?_⟩
        · rw [List.getLast?_append] at h3
          have h9 : ∀ (a : Int) (r s : List Int), (a :: r).getLast?.or s.getLast? = some q → (a :: r).getLast? = some q := fun a r s h => by
            cases hc : (a :: r).getLast? with
            | none => simp at hc
            | some v =>
              rw [hc] at h
              exact h
          exact h9 _ _ _ h3
        · rw [List.length_append] at h4
          omega
      have h8 : Ds ps q p'[w.length] l := by
        refine ⟨h7, fun j hj hc => ?_⟩
        have := hc.pos
        obtain ⟨i, rfl⟩ : ∃ i, j = i + 1 := ⟨j - 1, by omega⟩
        exact dx.2 (i + 2) (by omega) (cn_succ.mpr ⟨_, h5, hc⟩)
      have := hm _ h5 h8
      omega
    · rw [if_neg e]
      exact g.mn p' h1 h2 h3 h4
/-- what all triples of a length, a nudge and a first quantity tell of the best -/
theorem best_of {u : Wb} {q : Int} {L k : Nat} {first : Int} {w N : List Int} (hN : u.ns[k]? = some N) (hf : first ∈ N) (g : Grd u.ps q first L w 1)
    (hm : ∀ (j k' : Nat) (N' : List Int) (t : Int), u.ns[k']? = some N' → t ∈ N' → Ds u.ps q t j → L < j ∨ (L = j ∧ (k < k' ∨ (k = k' ∧ first ≤ t)))) : BsO u q (fun _ => True) (some (k, w)) := by
  obtain ⟨x, hx, dx⟩ := g.ls
  have ex := Ds.one.mp dx
  subst ex
  have wl : w.length = L := by have := g.ln; omega
  refine ⟨trivial, ⟨N, hN, g.ch, ⟨first, g.hd, hf⟩, hx⟩, fun k' N' p' _ hN' w' => ?_⟩
  obtain ⟨t, h1, h2⟩ := w'.hd
  obtain ⟨j, h3, h4⟩ := ds_le (m := p'.length) ⟨p', w'.ch, h1, w'.ls, rfl⟩
  rcases hm j k' N' t hN' h2 h4 with h | ⟨h, h5⟩
  · exact .inl (by omega)
  · by_cases e : p'.length = L
    · refine .inr ⟨by omega, ?_⟩
      rcases h5 with h5 | ⟨h5, h6⟩
      · exact .inl h5
      · refine .inr ⟨h5, ?_⟩
        by_cases e2 : t = first
        · subst e2
          have := g.mn p' w'.ch h1 w'.ls e
          rw [wl, ← e, List.take_length] at this
          exact this
        · have gh := g.hd
          match p', w, h1, gh with
          | a :: p', b :: w, h1, gh =>
            have e3 : a = t := by simpa using h1
            have e4 : b = first := by simpa using gh
            subst e3 e4
            show (if a = b then ltL p' w else decide (a < b)) = false
            rw [if_neg e2]
            exact decide_eq_false (by omega)
    · exact .inl (by omega)
theorem ltL_tr : ∀ {a b c : List Int}, a.length = b.length → b.length = c.length → ltL a b = true → ltL b c = true → ltL a c = true
  | [], [], [], _, _, h, _ => h
  | [], _ :: _, _, h, _, _, _ => by simp at h
  | _ :: _, [], _, h, _, _, _ => by simp at h
  | _, [], _ :: _, _, h, _, _ => by simp at h
  | _, _ :: _, [], _, h, _, _ => by simp at h
  | x :: a, y :: b, z :: c, h, g, h1, h2 => by
    unfold ltL at *
    by_cases e1 : x = y
    · subst e1
      rw [if_pos rfl] at h1
      by_cases e2 : x = z
      · subst e2
        rw [if_pos rfl] at h2 ⊢
        exact ltL_tr (by simpa using h) (by simpa using g) h1 h2
      · rw [if_neg e2] at h2 ⊢
        exact h2
    · rw [if_neg e1] at h1
      have h1 := of_decide_eq_true h1
      by_cases e2 : y = z
      · subst e2
        rw [if_neg e1]
        exact decide_eq_true h1
      · rw [if_neg e2] at h2
        have h2 := of_decide_eq_true h2
        rw [if_neg (by omega)]
        exact decide_eq_true (by omega)
/-- what is found of the next level, of those that were looked at -/
structure Lat (ps : List (Int × Int)) (N : List Int) (m : Nat) (F : List (Int × List Int)) (Pd : Int → Int → Prop) (G : List (Int × List Int)) : Prop where
  nd : (G.map (·.1)).Nodup
  good : ∀ y c, (y, c) ∈ G → ¬ Seen ps N m y ∧ ∃ x p, Pd x y ∧ (x, p) ∈ F ∧ (x, y) ∈ ps ∧ c = p ++ [y] ∧ ∀ x' p', Pd x' y → (x', p') ∈ F → (x', y) ∈ ps → ltL (p' ++ [y]) c = false
  all : ∀ x p y, Pd x y → (x, p) ∈ F → (x, y) ∈ ps → ¬ Seen ps N m y → ∃ c, (y, c) ∈ G
theorem fun_of {G : List (Int × List Int)} (nd : (G.map (·.1)).Nodup) {x : Int} {p q : List Int} (h : (x, p) ∈ G) (g : (x, q) ∈ G) : p = q := by
  induction G with
  | nil => cases h
  | cons a G ih =>
    rw [List.map_cons, List.nodup_cons] at nd
    rcases List.mem_cons.mp h with h1 | h1
    · rcases List.mem_cons.mp g with g1 | g1
      · rw [← h1] at g1
        exact (Prod.mk.inj g1).2.symm
      · exact absurd (List.mem_map.mpr ⟨_, g1, by rw [← h1]⟩) nd.1
    · rcases List.mem_cons.mp g with g1 | g1
      · exact absurd (List.mem_map.mpr ⟨_, h1, by rw [← g1]⟩) nd.1
      · exact ih nd.2 h1 g1
section
variable {ps : List (Int × Int)} {N : List Int} {m : Nat} {F G : List (Int × List Int)} {Pd Pd' : Int → Int → Prop} {x y : Int} {p : List Int}
theorem Lat.congr (l : Lat ps N m F Pd G) (h : ∀ x y, (x, y) ∈ ps → (Pd x y ↔ Pd' x y)) : Lat ps N m F Pd' G := by
  refine ⟨l.nd, fun y c hc => ?_, fun x p y h1 h2 h3 h4 => l.all x p y ((h x y h3).mpr h1) h2 h3 h4⟩
  obtain ⟨g1, x, p, g2, g3, g4, g5, g6⟩ := l.good y c hc
  exact ⟨g1, x, p, (h x y g4).mp g2, g3, g4, g5, fun x' p' h1 h2 h3 => g6 x' p' ((h x' y h3).mpr h1) h2 h3⟩
theorem Lat.zero : Lat ps N m F (fun _ _ => False) [] := ⟨List.nodup_nil, fun y c h => (by cases h), fun _ _ _ h => h.elim⟩
/-- y was seen -/
theorem Lat.skip (l : Lat ps N m F Pd G) (hs : Seen ps N m y) : Lat ps N m F (fun a b => Pd a b ∨ (a = x ∧ b = y)) G := by
  refine ⟨l.nd, fun z c hc => ?_, fun a q b h1 h2 h3 h4 => ?_⟩
  · obtain ⟨g1, a, q, g2, g3, g4, g5, g6⟩ := l.good z c hc
    refine ⟨g1, a, q, .inl g2, g3, g4, g5, fun x' p' h1 h2 h3 => ?_⟩
    rcases h1 with h1 | ⟨_, rfl⟩
    · exact g6 x' p' h1 h2 h3
    · exact absurd hs g1
  · rcases h1 with h1 | ⟨_, rfl⟩
    · exact l.all a q b h1 h2 h3 h4
    · exact absurd hs h4
/-- y is new -/
theorem Lat.new (l : Lat ps N m F Pd G) (nf : (F.map (·.1)).Nodup) (hn : ¬ Seen ps N m y) (hp : (x, p) ∈ F) (hxy : (x, y) ∈ ps) (hk : y ∉ G.map (·.1)) : Lat ps N m F (fun a b => Pd a b ∨ (a = x ∧ b = y)) (G ++ [(y, p ++ [y])]) := by
  have none : ∀ a q, Pd a y → (a, q) ∈ F → (a, y) ∈ ps → False := fun a q h1 h2 h3 => by
    obtain ⟨c, hc⟩ := l.all a q y h1 h2 h3 hn
    exact hk (List.mem_map.mpr ⟨_, hc, rfl⟩)
  refine ⟨?_, fun z c hc => ?_, fun a q b h1 h2 h3 h4 => ?_⟩
  · rw [List.map_append]
    refine List.nodup_append.mpr ⟨l.nd, by simp, fun a ha b hb e => ?_⟩
    have : b = y := by simpa using hb
    rw [e, this] at ha
    exact hk ha
  · rcases List.mem_append.mp hc with hc | hc
    · obtain ⟨g1, a, q, g2, g3, g4, g5, g6⟩ := l.good z c hc
      have hz : z ∈ G.map (·.1) := List.mem_map.mpr ⟨(z, c), hc, rfl⟩
      refine ⟨g1, a, q, .inl g2, g3, g4, g5, fun x' p' h1 h2 h3 => ?_⟩
      rcases h1 with h1 | ⟨_, h5⟩
      · exact g6 x' p' h1 h2 h3
      · rw [h5] at hz
        exact absurd hz hk
    · obtain ⟨rfl, rfl⟩ := Prod.mk.inj (List.mem_singleton.mp hc)
      refine ⟨hn, x, p, .inr ⟨rfl, rfl⟩, hp, hxy, rfl, fun x' p' h1 h2 h3 => ?_⟩
      rcases h1 with h1 | ⟨rfl, _⟩
      · exact (none x' p' h1 h2 h3).elim
      · rw [fun_of nf h2 hp]
        exact ltL_irr _
  · rcases h1 with h1 | ⟨rfl, rfl⟩
    · obtain ⟨c, hc⟩ := l.all a q b h1 h2 h3 h4
      exact ⟨c, List.mem_append.mpr (.inl hc)⟩
    · exact ⟨_, List.mem_append.mpr (.inr (List.mem_singleton.mpr rfl))⟩
/-- y was found, and not better now -/
theorem Lat.keep (l : Lat ps N m F Pd G) (nf : (F.map (·.1)).Nodup) (hp : (x, p) ∈ F) {c : List Int} (hc : (y, c) ∈ G) (hl : ltL (p ++ [y]) c = false) : Lat ps N m F (fun a b => Pd a b ∨ (a = x ∧ b = y)) G := by
  refine ⟨l.nd, fun z d hd => ?_, fun a q b h1 h2 h3 h4 => ?_⟩
  · obtain ⟨g1, a, q, g2, g3, g4, g5, g6⟩ := l.good z d hd
    refine ⟨g1, a, q, .inl g2, g3, g4, g5, fun x' p' h1 h2 h3 => ?_⟩
    rcases h1 with h1 | ⟨rfl, rfl⟩
    · exact g6 x' p' h1 h2 h3
    · rw [fun_of nf h2 hp, fun_of l.nd hd hc]
      exact hl
  · rcases h1 with h1 | ⟨rfl, rfl⟩
    · exact l.all a q b h1 h2 h3 h4
    · exact ⟨c, hc⟩
/-- y was found, and is better now -/
theorem Lat.swap (l : Lat ps N m F Pd G) (nf : (F.map (·.1)).Nodup) (hf : ∀ e ∈ F, e.2.length = m) (hn : ¬ Seen ps N m y) (hp : (x, p) ∈ F) (hxy : (x, y) ∈ ps) {c : List Int} (hc : (y, c) ∈ G) (hl : ltL (p ++ [y]) c = true)
    {G' : List (Int × List Int)} (nd' : (G'.map (·.1)).Nodup) (hG : ∀ z d, (z, d) ∈ G' ↔ (z = y ∧ d = p ++ [y]) ∨ (z ≠ y ∧ (z, d) ∈ G)) : Lat ps N m F (fun a b => Pd a b ∨ (a = x ∧ b = y)) G' := by
  have lenp : ∀ {a : Int} {q : List Int}, (a, q) ∈ F → (q ++ [y]).length = m + 1 := fun {a q} h => by
    have := hf _ h
    rw [List.length_append, List.length_singleton]
    simp only at this
    omega
  refine ⟨nd', fun z d hd => ?_, fun a q b h1 h2 h3 h4 => ?_⟩
  · rcases (hG z d).mp hd with ⟨rfl, rfl⟩ | ⟨hz, hd⟩
    · refine ⟨hn, x, p, .inr ⟨rfl, rfl⟩, hp, hxy, rfl, fun x' p' h1 h2 h3 => ?_⟩
      rcases h1 with h1 | ⟨rfl, _⟩
      · obtain ⟨g1, a, q, g2, g3, g4, g5, g6⟩ := l.good z c hc
        have h5 := g6 x' p' h1 h2 h3
        cases hh : ltL (p' ++ [z]) (p ++ [z]) with
        | false => rfl
        | true =>
          have := ltL_tr (by rw [lenp h2, lenp hp]) (by rw [lenp hp, g5, lenp g3]) hh hl
          rw [h5] at this
          cases this
      · rw [fun_of nf h2 hp]
        exact ltL_irr _
    · obtain ⟨g1, a, q, g2, g3, g4, g5, g6⟩ := l.good z d hd
      refine ⟨g1, a, q, .inl g2, g3, g4, g5, fun x' p' h1 h2 h3 => ?_⟩
      rcases h1 with h1 | ⟨_, rfl⟩
      · exact g6 x' p' h1 h2 h3
      · exact absurd rfl hz
  · rcases h1 with h1 | ⟨rfl, rfl⟩
    · obtain ⟨d, hd⟩ := l.all a q b h1 h2 h3 h4
      by_cases e : b = y
      · exact ⟨p ++ [y], (hG _ _).mpr (.inl ⟨e, rfl⟩)⟩
      · exact ⟨d, (hG _ _).mpr (.inr ⟨e, hd⟩)⟩
    · exact ⟨_, (hG _ _).mpr (.inl ⟨rfl, rfl⟩)⟩
/-- the next level -/
theorem Lat.frt (l : Lat ps N m F Pd G) (f : Frt ps N m F) (hm : 1 ≤ m) (h : ∀ x y, (x, y) ∈ ps → x ∈ F.map (·.1) → Pd x y) : Frt ps N (m + 1) G := by
  refine ⟨fun e he => ?_, fun y hy => ?_⟩
  · obtain ⟨y, c⟩ := e
    obtain ⟨g1, x, p, g2, g3, g4, rfl, g6⟩ := l.good y c he
    exact f.lw hm g1 g3 g4 fun x' p' h2 h3 => g6 x' p' (h x' y h3 (List.mem_map.mpr ⟨_, h2, rfl⟩)) h2 h3
  · obtain ⟨x, p, h1, h2⟩ := f.reach hm hy
    refine l.all x p y (h x y h2 (List.mem_map.mpr ⟨_, h1, rfl⟩)) h1 h2 fun ⟨j, h3, h4⟩ => ?_
    have := h4.uniq hy
    omega
theorem Frt.keys (f : Frt ps N m F) (x : Int) : x ∈ F.map (·.1) ↔ Wd ps N x m := by
  constructor
  · intro h
    obtain ⟨e, he, rfl⟩ := List.mem_map.mp h
    obtain ⟨h1, h2⟩ := f.good e he
    rw [← h2]
    exact h1.wd
  · intro h
    obtain ⟨p, hp⟩ := f.all x h
    exact List.mem_map.mpr ⟨_, hp, rfl⟩
end
end Nw
namespace K65
open PySem PySem.Spec PyProof.Rows L2 Nw
def topS (i : Nat) : Stmt := PySem.Challenge.pw_nudgewebs_k65_whole_webs_turned.main.body.getD i (.Pass ⟨0, 0, 0, 0⟩)
structure Txt (K : PySem.W.Frag) (mg : Str → Option Value) : Prop where
  b_isinstance : mg "isinstance" = none
  b_len : mg "len" = none
  b_all : mg "all" = none
  b_any : mg "any" = none
  b_abs : mg "abs" = none
  b_max : mg "max" = none
  b_min : mg "min" = none
  b_sorted : mg "sorted" = none
  b_int : mg "int" = none
  b_bool : mg "bool" = none
  b_list : mg "list" = none
  b_tuple : mg "tuple" = none
  b_set : mg "set" = none
  b_range : mg "range" = none
  b_enumerate : mg "enumerate" = none
  b_zip : mg "zip" = none
  c_MOST_QUANTITIES : ∃ t, mg "MOST_QUANTITIES" = some (.int 20 t)
  c_MOST_NUDGES : ∃ t, mg "MOST_NUDGES" = some (.int 8 t)
/-! is_integer: slots 0 value -/
abbrev s_is_integer : Stmt := topS 7
abbrev N_is_integer : List Str := ["value"]
abbrev P_is_integer : List Str := ["value"]
theorem sc_is_integer : FnScope N_is_integer P_is_integer (defScope s_is_integer) := ⟨rfl, rfl, rfl, by decide +kernel, rfl, by decide +kernel, by decide +kernel⟩
def sp_is_integer (K : PySem.W.Frag) : Sp := fun vs H Q _ => ∃ v d, vs = [v] ∧ Da K H d v ∧ Q (.bl (isInt d)) H
section
variable {P : Program} {w : World} {K : PySem.W.Frag} {mg : Str → Option Value} {base : Heap}
theorem ok_is_integer {f : Addr} {fd : FuncData} (T : Txt K mg) (F : Fun K "is_integer" "is_integer" s_is_integer f fd) :
    FnG P w K mg base CX0 1 f fd P_is_integer (sp_is_integer K) := by
  refine okG0 F sc_is_integer (fun vs H Q E h => ?_) (fun cdv A outer s H vs Q E hr hq h => ?_)
  · obtain ⟨v, d, rfl, _⟩ := h
    rfl
  · obtain ⟨v, d, rfl, hd, q⟩ := h
    refine ⟨_, (pss_one (ps_ret (pe_and (pe_callB (call_isiK K) (by rfl) T.b_isinstance bt_isinstance (pa_cons (pv 0) (pa_cons (pe_bty T.b_int bt_int) pa_nil))) (pe_one (pe_not (pe_callB (call_isiK K) (by rfl) T.b_isinstance bt_isinstance (pa_cons (pv 0) (pa_cons (pe_bty T.b_bool bt_bool) pa_nil)))))))), ?_⟩
    refine ⟨_, rfl, _, _, _, _, _, rfl, .ty _, hd.ty, isa_int d, _, rfl, ?_⟩
    rw [← isInt_eq] at q
    refine ite2 (fun h1 => ?_) (fun h1 => ?_)
    · refine ⟨_, rfl, _, _, _, _, _, rfl, .ty _, hd.ty, isa_bool d, _, rfl, ?_⟩
      rw [h1, Bool.true_and] at q
      exact q
    · rw [Bool.not_eq_true] at h1
      rw [h1, Bool.false_and] at q
      exact q
end

/-! is_number_below: slots 0 value, 1 limit -/
abbrev s_is_number_below : Stmt := topS 8
abbrev N_is_number_below : List Str := ["value", "limit"]
abbrev P_is_number_below : List Str := ["value", "limit"]
theorem sc_is_number_below : FnScope N_is_number_below P_is_number_below (defScope s_is_number_below) := ⟨rfl, rfl, rfl, by decide +kernel, rfl, by decide +kernel, by decide +kernel⟩
def sp_is_number_below (K : PySem.W.Frag) : Sp := fun vs H Q _ => ∃ v d m, vs = [v, .int m] ∧ Da K H d v ∧ Q (.bl (numB d m)) H
section
variable {P : Program} {w : World} {K : PySem.W.Frag} {mg : Str → Option Value} {base : Heap}
theorem ok_is_number_below {f : Addr} {fd : FuncData} (T : Txt K mg) (F : Fun K "is_number_below" "is_number_below" s_is_number_below f fd)
    (D_is_integer : DefOk P w K mg base CX0 1 "is_integer" P_is_integer (sp_is_integer K)) :
    FnG P w K mg base CX0 2 f fd P_is_number_below (sp_is_number_below K) := by
  refine okG0 F sc_is_number_below (fun vs H Q E h => ?_) (fun cdv A outer s H vs Q E hr hq h => ?_)
  · obtain ⟨v, d, m, rfl, _⟩ := h
    rfl
  · obtain ⟨v, d, m, rfl, hd, q⟩ := h
    refine ⟨_, (pss_one (ps_ret (pe_and (pe_callD D_is_integer (hr.mono (by decide)) hq pass0 (pa_cons (pv 0) pa_nil)) (pe_one (pe_chain op_le op_lt pe_int (pv 0) (pv 1)))))), ?_⟩
    refine ⟨_, rfl, _, _, rfl, hd, _, rfl, ?_⟩
    cases d with
    | int i =>
      obtain rfl := hd
      refine ⟨_, rfl, _, _, rfl, rfl, _, rfl, ?_⟩
      refine ite2 (fun h1 => ?_) (fun h1 => ?_)
      · refine ⟨_, rfl, _, _, rfl, rfl, ?_⟩
        simp only [numB, h1, Bool.true_and] at q
        exact q
      · rw [Bool.not_eq_true] at h1
        simp only [numB, h1, Bool.false_and] at q
        exact q
    | _ => exact q
end

/-! is_tuple_below: slots 0 value, 1 first_limit, 2 second_limit -/
abbrev s_is_tuple_below : Stmt := topS 9
abbrev N_is_tuple_below : List Str := ["value", "first_limit", "second_limit"]
abbrev P_is_tuple_below : List Str := ["value", "first_limit", "second_limit"]
theorem sc_is_tuple_below : FnScope N_is_tuple_below P_is_tuple_below (defScope s_is_tuple_below) := ⟨rfl, rfl, rfl, by decide +kernel, rfl, by decide +kernel, by decide +kernel⟩
def sp_is_tuple_below (K : PySem.W.Frag) : Sp := fun vs H Q _ => ∃ v d m n, vs = [v, .int m, .int n] ∧ Da K H d v ∧ Q (.bl (tupB d m n)) H
section
variable {P : Program} {w : World} {K : PySem.W.Frag} {mg : Str → Option Value} {base : Heap}
theorem ok_is_tuple_below {f : Addr} {fd : FuncData} (T : Txt K mg) (F : Fun K "is_tuple_below" "is_tuple_below" s_is_tuple_below f fd)
    (D_is_number_below : DefOk P w K mg base CX0 2 "is_number_below" P_is_number_below (sp_is_number_below K)) :
    FnG P w K mg base CX0 3 f fd P_is_tuple_below (sp_is_tuple_below K) := by
  refine okG0 F sc_is_tuple_below (fun vs H Q E h => ?_) (fun cdv A outer s H vs Q E hr hq h => ?_)
  · obtain ⟨v, d, m, n, rfl, _⟩ := h
    rfl
  · obtain ⟨v, d, m, n, rfl, hd, q⟩ := h
    refine ⟨_, (pss_cons (ps_if (PW.pt (pw_or (pt_not (pt_val (pe_callB (call_isiK K) (by rfl) T.b_isinstance bt_isinstance (pa_cons (pv 0) (pa_cons (pe_bty T.b_tuple bt_tuple) pa_nil))))) (pw_or1 (pt_cmpR op_ne (pe_callB (call_lenK K) (by rfl) T.b_len bt_len (pa_cons (pv 0) pa_nil)) pe_int (nomark _))))) (pss_one (ps_ret pe_bl)) pss_nil)
      (pss_one (ps_ret (pe_and (pe_callD D_is_number_below (hr.mono (by decide)) hq pass0 (pa_cons (pe_ix (ix_seqK K) (pv 0) pe_int (fun _ _ => rfl)) (pa_cons (pv 1) pa_nil))) (pe_one (pe_callD D_is_number_below (hr.mono (by decide)) hq pass0 (pa_cons (pe_ix (ix_seqK K) (pv 0) pe_int (fun _ _ => rfl)) (pa_cons (pv 2) pa_nil)))))))), ?_⟩
    refine ⟨_, rfl, _, _, _, _, _, rfl, .ty _, hd.ty, isa_tuple d, _, rfl, ?_⟩
    cases d with
    | tuple ds =>
      obtain ⟨a, xs, rfl, hS0, hA⟩ := hd
      have hS : SqT K _ a xs := .inl (.inl hS0)
      have hl := hA.len
      refine ⟨_, rfl, a, _, rfl, .inr hS, rfl, _, rfl, ?_⟩
      refine ite2 (fun h1 => ?_) (fun h1 => ?_)
      · have e : tupB (.tuple ds) m n = false := by
          unfold tupB
          split
          · rename_i heq
            cases heq
            rw [← hl] at h1
            simp at h1
          · rfl
        rw [e] at q
        exact q
      · have h2 : ds.length = 2 := by
          simp at h1
          omega
        obtain ⟨d1, d2, rfl⟩ : ∃ d1 d2, ds = [d1, d2] := by
          match ds, h2 with
          | [d1, d2], _ => exact ⟨d1, d2, rfl⟩
        obtain ⟨x1, r1, rfl, g1, x2, r2, rfl, g2, rfl⟩ := hA
        refine ⟨_, rfl, .inr (.inl ⟨a, _, 0, x1, rfl, rfl, hS, rfl, _, rfl, _, _, _, rfl, g1, _, rfl, ?_⟩)⟩
        refine ite2 (fun h3 => ?_) (fun h3 => ?_)
        · refine ⟨_, rfl, .inr (.inl ⟨a, _, 1, x2, rfl, rfl, hS, rfl, _, rfl, _, _, _, rfl, g2, ?_⟩)⟩
          simp only [tupB, h3, Bool.true_and] at q
          exact q
        · rw [Bool.not_eq_true] at h3
          simp only [tupB, h3, Bool.false_and] at q
          exact q
    | _ => exact q
end

/-! are_below: slots 0 value, 1 limit, 2 one -/
abbrev s_are_below : Stmt := topS 10
abbrev N_are_below : List Str := ["value", "limit", "one"]
abbrev P_are_below : List Str := ["value", "limit"]
theorem sc_are_below : FnScope N_are_below P_are_below (defScope s_are_below) := ⟨rfl, rfl, rfl, by decide +kernel, rfl, by decide +kernel, by decide +kernel⟩
def sp_are_below (K : PySem.W.Frag) : Sp := fun vs H Q _ => ∃ v d m, vs = [v, .int m] ∧ Da K H d v ∧ ∀ H', Ex H H' → Q (.bl (listB d m)) H'
section
variable {P : Program} {w : World} {K : PySem.W.Frag} {mg : Str → Option Value} {base : Heap}
theorem ok_are_below {f : Addr} {fd : FuncData} (T : Txt K mg) (F : Fun K "are_below" "are_below" s_are_below f fd)
    (D_is_number_below : DefOk P w K mg base CX0 2 "is_number_below" P_is_number_below (sp_is_number_below K)) :
    FnG P w K mg base CX0 3 f fd P_are_below (sp_are_below K) := by
  refine okG0 F sc_are_below (fun vs H Q E h => ?_) (fun cdv A outer s H vs Q E hr hq h => ?_)
  · obtain ⟨v, d, m, rfl, _⟩ := h
    rfl
  · obtain ⟨v, d, m, rfl, hd, q⟩ := h
    refine ⟨_, (pss_one (ps_ret (pe_and (pe_callB (call_isiK K) (by rfl) T.b_isinstance bt_isinstance (pa_cons (pv 0) (pa_cons (pe_bty T.b_list bt_list) pa_nil))) (pe_one (pe_callB (cr_allK K rfl) (by rfl) T.b_all bt_all (pa_cons (pe_lc (own := [("one", 2)]) rfl sc_are_below.nd (pi_listK K (pv 0)) (blkOk_by (N := N_are_below) (sc := defScope s_are_below) (by decide +kernel)) (fun _ _ _ _ _ => (pg_name (i := 2) sc_are_below.nd rfl (by first | exact .inl rfl | exact .inr rfl))) (fun _ _ _ _ _ => pts_nil) (fun _ _ _ _ _ => (pe_callD D_is_number_below (hr.mono (by decide)) hq pass0 (pa_cons (pv 2) (pa_cons (pv 1) pa_nil))))) pa_nil)))))), ?_⟩
    refine ⟨_, rfl, _, _, _, _, _, rfl, .ty _, hd.ty, isa_list d, _, rfl, ?_⟩
    cases d with
    | list ds =>
      obtain ⟨a, xs, rfl, hS0, hA, hz⟩ := hd
      have hS : SqL K _ a xs := .inl (.inl hS0)
      have hl := hA.len
      refine ⟨_, rfl, a, rfl, ⟨_, hS⟩, fun D hD => ?_⟩
      refine lc_ev xs.length (fun _ => true) (fun i y _ => y = .bl (numB (ds.getD i .none) m)) (by omega) hD (fun _ _ _ _ _ h => h)
        (fun i H' hi e => itl_go hS e hi) (fun H' e => itl_stop hS e) ?_ ?_
      · intro i H' x H'' hi e _ y Q' N' hQ _
        obtain ⟨rfl, hx⟩ := itl_yld y hS e
        obtain ⟨d, hd, hx'⟩ := hA.at' hx
        refine ⟨rfl, _, rfl, _, rfl, _, _, _, rfl, hx'.up e, ?_⟩
        refine hQ rfl _ _ Ex.rfl ?_
        rw [List.getD_eq_getElem?_getD, hd]
        rfl
      · intro ys H' e hy gv
        refine ⟨D, (List.range xs.length).map fun i => numB (ds.getD i .none) m, rfl, .inl (.inl ?_), ?_⟩
        · rw [hy, gv.all, given_bl]
        · rw [← hl, all_range_get (fun d => numB d m) .none ds]
          exact q _ e
    | _ => exact q _ Ex.rfl
end

/-! are_ascending: slots 0 values, 1 one, 2 following -/
abbrev s_are_ascending : Stmt := topS 11
abbrev N_are_ascending : List Str := ["values", "one", "following"]
abbrev P_are_ascending : List Str := ["values"]
theorem sc_are_ascending : FnScope N_are_ascending P_are_ascending (defScope s_are_ascending) := ⟨rfl, rfl, rfl, by decide +kernel, rfl, by decide +kernel, by decide +kernel⟩
def sp_are_ascending (K : PySem.W.Frag) : Sp := fun vs H Q _ => ∃ v, vs = [v] ∧
  ((∃ ns : List Int, Da K H (.list (ns.map PyData.int)) v ∧ ∀ H', Ex H H' → Q (.bl (ascB ltIn ns)) H') ∨
   (∃ ps : List (Int × Int), Da K H (.list (ps.map dPair)) v ∧ ∀ H', Ex H H' → Q (.bl (ascB ltPr ps)) H'))
section
variable {P : Program} {w : World} {K : PySem.W.Frag} {mg : Str → Option Value} {base : Heap}
theorem ok_are_ascending {f : Addr} {fd : FuncData} (T : Txt K mg) (F : Fun K "are_ascending" "are_ascending" s_are_ascending f fd) :
    FnG P w K mg base CX0 1 f fd P_are_ascending (sp_are_ascending K) := by
  refine okG0 F sc_are_ascending (fun vs H Q E h => ?_) (fun cdv A outer s H vs Q E hr hq h => ?_)
  · obtain ⟨v, rfl, _⟩ := h
    rfl
  · obtain ⟨v, rfl, h⟩ := h
    refine ⟨_, (pss_one (ps_ret (pe_callB (cr_allK K rfl) (by rfl) T.b_all bt_all (pa_cons (pe_lc (own := [("one", 1), ("following", 2)]) rfl sc_are_ascending.nd (pi_zip (by rfl) T.b_zip (pa_cons (pv 0) (pa_cons (pe_slice (sl_listK K) (pv 0) (po_some pe_int) po_none) pa_nil))) (blkOk_by (N := N_are_ascending) (sc := defScope s_are_ascending) (by decide +kernel)) (fun _ _ _ _ _ => (pg_tupK (n := 2) K rfl (pgs_cons (pg_name (i := 1) sc_are_ascending.nd rfl (by first | exact .inl rfl | exact .inr rfl)) (pgs_cons (pg_name (i := 2) sc_are_ascending.nd rfl (by first | exact .inl rfl | exact .inr rfl)) pgs_nil)))) (fun _ _ _ _ _ => pts_nil) (fun _ _ _ _ _ => (pe_cmpR (op_ltA K hr.units0) (pv 1) (pv 2) (nomark _)))) pa_nil)))), ?_⟩
    rcases h with ⟨ns, ⟨a, xs, rfl, hS0, hA, hz⟩, q⟩ | ⟨ps, ⟨a, xs, rfl, hS0, hA, hz⟩, q⟩
    · obtain rfl := DaAll.ints.mp hA
      have hS : SqL K _ a (ns.map V.int) := .inl (.inl hS0)
      rw [List.length_map] at hz
      refine ⟨_, rfl, .ref a, rfl, 1, rfl, a, _, rfl, hS, fun p hp => ?_⟩
      have hS' := (Ex.nw (o := .lst (cutV (ns.map V.int) (some 1) none)) hp).l hS
      have hC : SqL K (upd H p (.lst (cutV (ns.map V.int) (some 1) none))) p ((ns.map V.int).drop 1) := .inl (.inl (by rw [upd_same, cut1]))
      refine ⟨a, p, _, _, rfl, hS', hC, fun D hD => ?_⟩
      refine lc_ev (min (ns.map V.int).length ((ns.map V.int).drop 1).length) (fun _ => true) (fun i y _ => y = .bl (ascAt ltIn ns i)) (by rw [List.length_map]; omega) hD
        (fun _ _ _ _ _ h => h) (fun i H' hi e => itz_go hS' hC e hi) (fun H' e => itz_stop hS' hC e) ?_ ?_
      · rintro i H' x H'' hi e _ ⟨T', x1, x2, rfl, hT, rfl, h1, h2⟩ Q' N' hQ _
        obtain ⟨n1, g1, rfl⟩ := map_at (h1 _ (e.l hS'))
        obtain ⟨n2, g2, rfl⟩ := map_at (drop1_at (h2 _ (e.l hC)))
        refine ⟨T', _, rfl, .inl (.inl upd_same), rfl, _, _, rfl, _, _, rfl, rfl, rfl, _, rfl, _, rfl, .inl ⟨_, _, rfl, rfl, hQ rfl _ _ (Ex.nw hT) ?_⟩⟩
        show V.bl (decide (n1 < n2)) = V.bl (ascAt ltIn ns i)
        simp only [ascAt, g1, g2, ltIn]
      · intro ys H' e hy gv
        refine ⟨D, (List.range (min (ns.map V.int).length ((ns.map V.int).drop 1).length)).map fun i => ascAt ltIn ns i, rfl, .inl (.inl ?_), ?_⟩
        · rw [hy, gv.all, given_bl]
        · rw [min_drop1, List.length_map, ascB_range]
          exact q _ ((Ex.nw hp).tr e)
    · have hS : SqL K _ a xs := .inl (.inl hS0)
      have hl : ps.length = xs.length := by
        have := hA.len
        rw [List.length_map] at this
        exact this
      rw [List.length_map] at hz
      refine ⟨_, rfl, .ref a, rfl, 1, rfl, a, _, rfl, hS, fun p hp => ?_⟩
      have e0 : Ex H (upd H p (.lst (cutV xs (some 1) none))) := Ex.nw hp
      have hS' := e0.l hS
      have hC : SqL K (upd H p (.lst (cutV xs (some 1) none))) p (xs.drop 1) := .inl (.inl (by rw [upd_same, cut1]))
      refine ⟨a, p, _, _, rfl, hS', hC, fun D hD => ?_⟩
      refine lc_ev (min xs.length (xs.drop 1).length) (fun _ => true) (fun i y _ => y = .bl (ascAt ltPr ps i)) (by omega) hD
        (fun _ _ _ _ _ h => h) (fun i H' hi e => itz_go hS' hC e hi) (fun H' e => itz_stop hS' hC e) ?_ ?_
      · rintro i H' x H'' hi e _ ⟨T', x1, x2, rfl, hT, rfl, h1, h2⟩ Q' N' hQ _
        obtain ⟨p1, g1, a1, rfl, t1⟩ := pairs_at hA (h1 _ (e.l hS'))
        obtain ⟨p2, g2, a2, rfl, t2⟩ := pairs_at hA (drop1_at (h2 _ (e.l hC)))
        have e3 := (e0.tr e).tr (Ex.nw (o := .tup [.ref a1, .ref a2]) hT)
        refine ⟨T', _, rfl, .inl (.inl upd_same), rfl, _, _, rfl, _, _, rfl, rfl, rfl, _, rfl, _, rfl,
          .inr ⟨a1, a2, [p1.1, p1.2], [p2.1, p2.2], rfl, rfl, e3.t t1, e3.t t2, hQ rfl _ _ (Ex.nw hT) ?_⟩⟩
        show V.bl (HT.lexLt [p1.1, p1.2] [p2.1, p2.2]) = V.bl (ascAt ltPr ps i)
        simp only [ascAt, g1, g2, ltPr]
      · intro ys H' e hy gv
        refine ⟨D, (List.range (min xs.length (xs.drop 1).length)).map fun i => ascAt ltPr ps i, rfl, .inl (.inl ?_), ?_⟩
        · rw [hy, gv.all, given_bl]
        · rw [min_drop1, ← hl, ascB_range]
          exact q _ ((Ex.nw hp).tr e)
end

/-! are_ascending_tuples: slots 0 value, 1 first_limit, 2 second_limit, 3 one -/
abbrev s_are_ascending_tuples : Stmt := topS 12
abbrev N_are_ascending_tuples : List Str := ["value", "first_limit", "second_limit", "one"]
abbrev P_are_ascending_tuples : List Str := ["value", "first_limit", "second_limit"]
theorem sc_are_ascending_tuples : FnScope N_are_ascending_tuples P_are_ascending_tuples (defScope s_are_ascending_tuples) := ⟨rfl, rfl, rfl, by decide +kernel, rfl, by decide +kernel, by decide +kernel⟩
def sp_are_ascending_tuples (K : PySem.W.Frag) : Sp := fun vs H Q _ => ∃ v d m n, vs = [v, .int m, .int n] ∧ Da K H d v ∧ ∀ H', Ex H H' → Q (.bl (tuplesB d m n)) H'
section
variable {P : Program} {w : World} {K : PySem.W.Frag} {mg : Str → Option Value} {base : Heap}
theorem ok_are_ascending_tuples {f : Addr} {fd : FuncData} (T : Txt K mg) (F : Fun K "are_ascending_tuples" "are_ascending_tuples" s_are_ascending_tuples f fd)
    (D_is_tuple_below : DefOk P w K mg base CX0 3 "is_tuple_below" P_is_tuple_below (sp_is_tuple_below K))
    (D_are_ascending : DefOk P w K mg base CX0 1 "are_ascending" P_are_ascending (sp_are_ascending K)) :
    FnG P w K mg base CX0 4 f fd P_are_ascending_tuples (sp_are_ascending_tuples K) := by
  refine okG0 F sc_are_ascending_tuples (fun vs H Q E h => ?_) (fun cdv A outer s H vs Q E hr hq h => ?_)
  · obtain ⟨v, d, m, n, rfl, _⟩ := h
    rfl
  · obtain ⟨v, d, m, n, rfl, hd, q⟩ := h
    refine ⟨_, (pss_cons (ps_if (pt_not (pt_val (pe_callB (call_isiK K) (by rfl) T.b_isinstance bt_isinstance (pa_cons (pv 0) (pa_cons (pe_bty T.b_list bt_list) pa_nil))))) (pss_one (ps_ret pe_bl)) pss_nil)
      (pss_cons (ps_if (pt_not (pt_val (pe_callB (cr_allK K rfl) (by rfl) T.b_all bt_all (pa_cons (pe_lc (own := [("one", 3)]) rfl sc_are_ascending_tuples.nd (pi_listK K (pv 0)) (blkOk_by (N := N_are_ascending_tuples) (sc := defScope s_are_ascending_tuples) (by decide +kernel)) (fun _ _ _ _ _ => (pg_name (i := 3) sc_are_ascending_tuples.nd rfl (by first | exact .inl rfl | exact .inr rfl))) (fun _ _ _ _ _ => pts_nil) (fun _ _ _ _ _ => (pe_callD D_is_tuple_below (hr.mono (by decide)) hq pass0 (pa_cons (pv 3) (pa_cons (pv 1) (pa_cons (pv 2) pa_nil)))))) pa_nil)))) (pss_one (ps_ret pe_bl)) pss_nil)
      (pss_one (ps_ret (pe_callD D_are_ascending (hr.mono (by decide)) hq pass0 (pa_cons (pv 0) pa_nil)))))), ?_⟩
    refine ⟨_, rfl, _, _, _, _, _, rfl, .ty _, hd.ty, isa_list d, _, rfl, ?_⟩
    cases d with
    | list ds =>
      have hd0 := hd
      obtain ⟨a, xs, rfl, hS0, hA, hz⟩ := hd
      have hS : SqL K _ a xs := .inl (.inl hS0)
      have hl := hA.len
      refine ⟨_, rfl, a, rfl, ⟨_, hS⟩, fun D hD => ?_⟩
      refine lc_ev xs.length (fun _ => true) (fun i y _ => y = .bl (tupB (ds.getD i .none) m n)) (by omega) hD (fun _ _ _ _ _ h => h)
        (fun i H' hi e => itl_go hS e hi) (fun H' e => itl_stop hS e) ?_ ?_
      · intro i H' x H'' hi e _ y Q' N' hQ _
        obtain ⟨rfl, hx⟩ := itl_yld y hS e
        obtain ⟨d, hd, hx'⟩ := hA.at' hx
        refine ⟨rfl, _, rfl, _, rfl, _, rfl, _, _, _, _, rfl, hx'.up e, ?_⟩
        refine hQ rfl _ _ Ex.rfl ?_
        rw [List.getD_eq_getElem?_getD, hd]
        rfl
      · intro ys H' e hy gv
        refine ⟨D, (List.range xs.length).map fun i => tupB (ds.getD i .none) m n, rfl, .inl (.inl ?_), _, rfl, ?_⟩
        · rw [hy, gv.all, given_bl]
        · rw [← hl, all_range_get (fun d => tupB d m n) .none ds]
          refine ite2 (fun h1 => ?_) (fun h1 => ?_)
          · rw [Bool.not_eq_true'] at h1
            have e2 : tuplesB (.list ds) m n = false := by simp only [tuplesB, h1, Bool.false_and]
            rw [e2] at q
            exact q _ e
          · rw [Bool.not_eq_true', Bool.not_eq_false] at h1
            obtain ⟨ps, rfl, _⟩ := pairs_of_all h1
            refine ⟨_, rfl, _, rfl, .inr ⟨ps, hd0.up e, fun H2 e2 => ?_⟩⟩
            have e3 : tuplesB (.list (ps.map dPair)) m n = ascB ltPr ps := by simp only [tuplesB, h1, Bool.true_and, pairsOf_map]
            rw [e3] at q
            exact q _ (e.tr e2)
    | _ => exact q _ Ex.rfl
end

/-! are_targets: slots 0 value, 1 count -/
abbrev s_are_targets : Stmt := topS 13
abbrev N_are_targets : List Str := ["value", "count"]
abbrev P_are_targets : List Str := ["value", "count"]
theorem sc_are_targets : FnScope N_are_targets P_are_targets (defScope s_are_targets) := ⟨rfl, rfl, rfl, by decide +kernel, rfl, by decide +kernel, by decide +kernel⟩
def sp_are_targets (K : PySem.W.Frag) : Sp := fun vs H Q _ => ∃ v d m, vs = [v, .int m] ∧ Da K H d v ∧ ∀ H', Ex H H' → Q (.bl (targetsB d m)) H'
section
variable {P : Program} {w : World} {K : PySem.W.Frag} {mg : Str → Option Value} {base : Heap}
theorem ok_are_targets {f : Addr} {fd : FuncData} (T : Txt K mg) (F : Fun K "are_targets" "are_targets" s_are_targets f fd)
    (D_are_below : DefOk P w K mg base CX0 3 "are_below" P_are_below (sp_are_below K))
    (D_are_ascending : DefOk P w K mg base CX0 1 "are_ascending" P_are_ascending (sp_are_ascending K)) :
    FnG P w K mg base CX0 4 f fd P_are_targets (sp_are_targets K) := by
  refine okG0 F sc_are_targets (fun vs H Q E h => ?_) (fun cdv A outer s H vs Q E hr hq h => ?_)
  · obtain ⟨v, d, m, rfl, _⟩ := h
    rfl
  · obtain ⟨v, d, m, rfl, hd, q⟩ := h
    refine ⟨_, (pss_one (ps_ret (pe_and (pe_callD D_are_below (hr.mono (by decide)) hq pass0 (pa_cons (pv 0) (pa_cons (pv 1) pa_nil))) (pe_and (pe_cmpR op_gt (pe_callB (call_lenK K) (by rfl) T.b_len bt_len (pa_cons (pv 0) pa_nil)) pe_int (nomark _)) (pe_one (pe_callD D_are_ascending (hr.mono (by decide)) hq pass0 (pa_cons (pv 0) pa_nil))))))), ?_⟩
    refine ⟨_, rfl, _, rfl, _, _, _, rfl, hd, fun H1 e1 => ⟨_, rfl, ?_⟩⟩
    refine ite2 (fun h1 => ?_) (fun h1 => ?_)
    · cases d with
      | list ds =>
        obtain ⟨ns, rfl, _⟩ := ints_of_all (show (ds.all fun d => numB d m) = true from h1)
        have hd1 := hd.up e1
        obtain ⟨a, xs, rfl, hS0, hA, hz⟩ := hd1
        have hS : SqL K _ a xs := .inl (.inl hS0)
        have hl := hA.len
        refine ⟨_, rfl, a, _, rfl, .inl hS, _, _, rfl, rfl, _, rfl, ?_⟩
        refine ite2 (fun h2 => ?_) (fun h2 => ?_)
        · refine ⟨_, rfl, _, rfl, .inl ⟨ns, hd.up e1, fun H2 e2 => ?_⟩⟩
          have e3 : targetsB (.list (ns.map PyData.int)) m = ascB ltIn ns := by
            have h3 : ((ns.map PyData.int).all fun d => numB d m) = true := h1
            have h4 : decide (0 < (ns.map PyData.int).length) = true := by
              rw [hl]
              simpa using h2
            simp only [targetsB, h3, h4, Bool.true_and, intsOf_map]
          rw [e3] at q
          exact q _ (e1.tr e2)
        · have e3 : targetsB (.list (ns.map PyData.int)) m = false := by
            have h4 : decide (0 < (ns.map PyData.int).length) = false := by
              rw [hl]
              simpa using h2
            simp only [targetsB, h4, Bool.false_and, Bool.and_false]
          rw [e3] at q
          exact q _ e1
      | _ => exact (Bool.noConfusion h1 : False).elim
    · rw [Bool.not_eq_true] at h1
      have e3 : targetsB d m = false := by
        cases d with
        | list ds =>
          have h3 : (ds.all fun d => numB d m) = false := h1
          simp only [targetsB, h3, Bool.false_and]
        | _ => rfl
      rw [e3] at q
      exact q _ e1
end

/-! are_nudges: slots 0 value, 1 count, 2 nudge -/
abbrev s_are_nudges : Stmt := topS 14
abbrev N_are_nudges : List Str := ["value", "count", "nudge"]
abbrev P_are_nudges : List Str := ["value", "count"]
theorem sc_are_nudges : FnScope N_are_nudges P_are_nudges (defScope s_are_nudges) := ⟨rfl, rfl, rfl, by decide +kernel, rfl, by decide +kernel, by decide +kernel⟩
def sp_are_nudges (K : PySem.W.Frag) : Sp := fun vs H Q _ => ∃ v d m, vs = [v, .int m] ∧ Da K H d v ∧ ∀ H', Ex H H' → Q (.bl (nudgesB d m)) H'
section
variable {P : Program} {w : World} {K : PySem.W.Frag} {mg : Str → Option Value} {base : Heap}
theorem ok_are_nudges {f : Addr} {fd : FuncData} (T : Txt K mg) (F : Fun K "are_nudges" "are_nudges" s_are_nudges f fd)
    (D_are_targets : DefOk P w K mg base CX0 4 "are_targets" P_are_targets (sp_are_targets K)) :
    FnG P w K mg base CX0 5 f fd P_are_nudges (sp_are_nudges K) := by
  refine okG0 F sc_are_nudges (fun vs H Q E h => ?_) (fun cdv A outer s H vs Q E hr hq h => ?_)
  · obtain ⟨v, d, m, rfl, _⟩ := h
    rfl
  · obtain ⟨v, d, m, rfl, hd, q⟩ := h
    refine ⟨_, (pss_cons (ps_if (PW.pt (pw_or (pt_not (pt_val (pe_callB (call_isiK K) (by rfl) T.b_isinstance bt_isinstance (pa_cons (pv 0) (pa_cons (pe_bty T.b_list bt_list) pa_nil))))) (pw_or1 (pt_cmpR op_gt (pe_callB (call_lenK K) (by rfl) T.b_len bt_len (pa_cons (pv 0) pa_nil)) (pe_globI T.c_MOST_NUDGES) (nomark _))))) (pss_one (ps_ret pe_bl)) pss_nil)
      (pss_one (ps_ret (pe_callB (cr_allK K rfl) (by rfl) T.b_all bt_all (pa_cons (pe_lc (own := [("nudge", 2)]) rfl sc_are_nudges.nd (pi_listK K (pv 0)) (blkOk_by (N := N_are_nudges) (sc := defScope s_are_nudges) (by decide +kernel)) (fun _ _ _ _ _ => (pg_name (i := 2) sc_are_nudges.nd rfl (by first | exact .inl rfl | exact .inr rfl))) (fun _ _ _ _ _ => pts_nil) (fun _ _ _ _ _ => (pe_callD D_are_targets (hr.mono (by decide)) hq pass0 (pa_cons (pv 2) (pa_cons (pv 1) pa_nil))))) pa_nil))))), ?_⟩
    refine ⟨_, rfl, _, _, _, _, _, rfl, .ty _, hd.ty, isa_list d, _, rfl, ?_⟩
    cases d with
    | list ds =>
      obtain ⟨a, xs, rfl, hS0, hA, hz⟩ := hd
      have hS : SqL K _ a xs := .inl (.inl hS0)
      have hl := hA.len
      refine ⟨_, rfl, a, _, rfl, .inl hS, _, _, rfl, rfl, _, rfl, ?_⟩
      refine ite2 (fun h1 => ?_) (fun h1 => ?_)
      · have e3 : nudgesB (.list ds) m = false := by
          have h4 : decide (ds.length ≤ 8) = false := by
            rw [hl]
            simp at h1
            simp
            omega
          simp only [nudgesB, h4, Bool.false_and]
        rw [e3] at q
        exact q _ Ex.rfl
      · have e3 : nudgesB (.list ds) m = ds.all fun d => targetsB d m := by
          have h4 : decide (ds.length ≤ 8) = true := by
            rw [hl]
            simp at h1
            simp
            omega
          simp only [nudgesB, h4, Bool.true_and]
        rw [e3] at q
        refine ⟨_, rfl, a, rfl, ⟨_, hS⟩, fun D hD => ?_⟩
        refine lc_ev xs.length (fun _ => true) (fun i y _ => y = .bl (targetsB (ds.getD i .none) m)) (by omega) hD (fun _ _ _ _ _ h => h)
          (fun i H' hi e => itl_go hS e hi) (fun H' e => itl_stop hS e) ?_ ?_
        · intro i H' x H'' hi e _ y Q' N' hQ _
          obtain ⟨rfl, hx⟩ := itl_yld y hS e
          obtain ⟨d, hd, hx'⟩ := hA.at' hx
          refine ⟨rfl, _, rfl, _, rfl, _, _, _, rfl, hx'.up e, fun H2 e2 => ?_⟩
          refine hQ rfl _ _ e2 ?_
          rw [List.getD_eq_getElem?_getD, hd]
          rfl
        · intro ys H' e hy gv
          refine ⟨D, (List.range xs.length).map fun i => targetsB (ds.getD i .none) m, rfl, .inl (.inl ?_), ?_⟩
          · rw [hy, gv.all, given_bl]
          · rw [← hl, all_range_get (fun d => targetsB d m) .none ds]
            exact q _ e
    | _ => exact q _ Ex.rfl
end

/-! has_web_shape: slots 0 value, 1 count, 2 pairs, 3 nudges -/
abbrev s_has_web_shape : Stmt := topS 15
abbrev N_has_web_shape : List Str := ["value", "count", "pairs", "nudges"]
abbrev P_has_web_shape : List Str := ["value"]
theorem sc_has_web_shape : FnScope N_has_web_shape P_has_web_shape (defScope s_has_web_shape) := ⟨rfl, rfl, rfl, by decide +kernel, rfl, by decide +kernel, by decide +kernel⟩
def sp_has_web_shape (K : PySem.W.Frag) : Sp := fun vs H Q _ => ∃ v d, vs = [v] ∧ Da K H d v ∧ ∀ H', Ex H H' → Q (.bl (webB d)) H'
section
variable {P : Program} {w : World} {K : PySem.W.Frag} {mg : Str → Option Value} {base : Heap}
theorem ok_has_web_shape {f : Addr} {fd : FuncData} (T : Txt K mg) (F : Fun K "has_web_shape" "has_web_shape" s_has_web_shape f fd)
    (D_is_integer : DefOk P w K mg base CX0 1 "is_integer" P_is_integer (sp_is_integer K))
    (D_are_ascending_tuples : DefOk P w K mg base CX0 4 "are_ascending_tuples" P_are_ascending_tuples (sp_are_ascending_tuples K))
    (D_are_nudges : DefOk P w K mg base CX0 5 "are_nudges" P_are_nudges (sp_are_nudges K)) :
    FnG P w K mg base CX0 6 f fd P_has_web_shape (sp_has_web_shape K) := by
  refine okG0 F sc_has_web_shape (fun vs H Q E h => ?_) (fun cdv A outer s H vs Q E hr hq h => ?_)
  · obtain ⟨v, d, rfl, _⟩ := h
    rfl
  · obtain ⟨v, d, rfl, hd, q⟩ := h
    refine ⟨_, (pss_cons (ps_if (PW.pt (pw_or (pt_not (pt_val (pe_callB (call_isiK K) (by rfl) T.b_isinstance bt_isinstance (pa_cons (pv 0) (pa_cons (pe_bty T.b_tuple bt_tuple) pa_nil))))) (pw_or1 (pt_cmpR op_ne (pe_callB (call_lenK K) (by rfl) T.b_len bt_len (pa_cons (pv 0) pa_nil)) pe_int (nomark _))))) (pss_one (ps_ret pe_bl)) pss_nil)
      (pss_cons (ps_asg (pv 0) (pg_tupK (n := 3) K rfl (pgs_cons (pg_name (i := 1) sc_has_web_shape.nd rfl (by first | exact .inl rfl | exact .inr rfl)) (pgs_cons (pg_name (i := 2) sc_has_web_shape.nd rfl (by first | exact .inl rfl | exact .inr rfl)) (pgs_cons (pg_name (i := 3) sc_has_web_shape.nd rfl (by first | exact .inl rfl | exact .inr rfl)) pgs_nil)))))
      (pss_cons (ps_if (PW.pt (pw_or (pt_not (pt_val (pe_callD D_is_integer (hr.mono (by decide)) hq pass0 (pa_cons (pv 1) pa_nil)))) (pw_or1 (pt_not (pt_chain op_le op_le pe_int (pv 1) (pe_globI T.c_MOST_QUANTITIES)))))) (pss_one (ps_ret pe_bl)) pss_nil)
      (pss_one (ps_ret (pe_and (pe_callD D_are_ascending_tuples (hr.mono (by decide)) hq pass0 (pa_cons (pv 2) (pa_cons (pv 1) (pa_cons (pv 1) pa_nil)))) (pe_one (pe_callD D_are_nudges (hr.mono (by decide)) hq pass0 (pa_cons (pv 3) (pa_cons (pv 1) pa_nil)))))))))), ?_⟩
    refine ⟨_, rfl, _, _, _, _, _, rfl, .ty _, hd.ty, isa_tuple d, _, rfl, ?_⟩
    cases d with
    | tuple ds =>
      obtain ⟨a, xs, rfl, hS0, hA⟩ := hd
      have hS : SqT K _ a xs := .inl (.inl hS0)
      have hl := hA.len
      refine ⟨_, rfl, a, _, rfl, .inr hS, rfl, _, rfl, ?_⟩
      refine ite2 (fun h1 => ?_) (fun h1 => ?_)
      · have e : webB (.tuple ds) = false := by
          unfold webB
          split
          · rename_i heq
            cases heq
            rw [← hl] at h1
            simp at h1
          · rfl
        rw [e] at q
        exact q _ Ex.rfl
      · have h2 : ds.length = 3 := by
          simp at h1
          omega
        obtain ⟨d1, d2, d3, rfl⟩ : ∃ d1 d2 d3, ds = [d1, d2, d3] := by
          match ds, h2 with
          | [d1, d2, d3], _ => exact ⟨d1, d2, d3, rfl⟩
        obtain ⟨x1, r1, rfl, g1, x2, r2, rfl, g2, x3, r3, rfl, g3, rfl⟩ := hA
        refine ⟨_, rfl, a, _, rfl, hS, rfl, _, _, rfl, _, _, rfl, _, _, rfl, rfl, ?_⟩
        refine ⟨_, rfl, _, _, rfl, g1, _, rfl, ?_⟩
        cases d1 with
        | int n =>
          obtain rfl := g1
          refine ⟨_, rfl, _, _, rfl, rfl, _, rfl, ?_⟩
          refine ite2 (fun h3 => ?_) (fun h3 => ?_)
          · refine ⟨_, _, rfl, rfl, _, rfl, ?_⟩
            refine ite2 (fun h4 => ?_) (fun h4 => ?_)
            · have e : webB (.tuple [.int n, d2, d3]) = false := by
                have h5 : decide (n ≤ 20) = false := by simpa using h4
                simp only [webB, h5, Bool.and_false, Bool.false_and]
              rw [e] at q
              exact q _ Ex.rfl
            · have e : webB (.tuple [.int n, d2, d3]) = (tuplesB d2 n n && nudgesB d3 n) := by
                have h5 : decide (n ≤ 20) = true := by simpa using h4
                simp only [webB, h5, h3, Bool.true_and]
              rw [e] at q
              refine ⟨_, rfl, _, rfl, _, rfl, _, _, _, _, rfl, g2, fun H1 e1 => ⟨_, rfl, ?_⟩⟩
              refine ite2 (fun h6 => ?_) (fun h6 => ?_)
              · refine ⟨_, rfl, _, rfl, _, _, _, rfl, g3.up e1, fun H2 e2 => ?_⟩
                rw [h6, Bool.true_and] at q
                exact q _ (e1.tr e2)
              · rw [Bool.not_eq_true] at h6
                rw [h6, Bool.false_and] at q
                exact q _ e1
          · have e : webB (.tuple [.int n, d2, d3]) = false := by
              rw [Bool.not_eq_true] at h3
              simp only [webB, h3, Bool.false_and]
            rw [e] at q
            exact ⟨_, rfl, q _ Ex.rfl⟩
        | _ => exact q _ Ex.rfl
    | _ => exact q _ Ex.rfl
end

/-! check_web: slots 0 web -/
abbrev s_check_web : Stmt := topS 17
abbrev N_check_web : List Str := ["web"]
abbrev P_check_web : List Str := ["web"]
theorem sc_check_web : FnScope N_check_web P_check_web (defScope s_check_web) := ⟨rfl, rfl, rfl, by decide +kernel, rfl, by decide +kernel, by decide +kernel⟩
/-- of a right value: nothing is raised -/
def sp_check_web (K : PySem.W.Frag) : Sp := fun vs H Q _ => ∃ v d, vs = [v] ∧ Da K H d v ∧ webB d = true ∧ ∀ H', Ex H H' → Q .non H'
section
variable {P : Program} {w : World} {K : PySem.W.Frag} {mg : Str → Option Value} {base : Heap}
theorem ok_check_web {f : Addr} {fd : FuncData} (T : Txt K mg) (F : Fun K "check_web" "check_web" s_check_web f fd)
    (D_has_web_shape : DefOk P w K mg base CX0 6 "has_web_shape" P_has_web_shape (sp_has_web_shape K)) :
    FnG P w K mg base CX0 7 f fd P_check_web (sp_check_web K) := by
  refine okG0 F sc_check_web (fun vs H Q E h => ?_) (fun cdv A outer s H vs Q E hr hq h => ?_)
  · obtain ⟨v, d, rfl, _⟩ := h
    rfl
  · obtain ⟨v, d, rfl, hd, hw, q⟩ := h
    refine ⟨_, (pss_one (ps_if (pt_not (pt_val (pe_callD D_has_web_shape (hr.mono (by decide)) hq pass0 (pa_cons (pv 0) pa_nil)))) (pss_one ps_never) pss_nil)), ?_⟩
    refine ⟨_, rfl, _, _, rfl, hd, fun H1 e1 => ⟨_, rfl, ?_⟩⟩
    rw [hw]
    exact q _ e1
end

/-! check_quantity: slots 0 web, 1 quantity -/
abbrev s_check_quantity : Stmt := topS 18
abbrev N_check_quantity : List Str := ["web", "quantity"]
abbrev P_check_quantity : List Str := ["web", "quantity"]
theorem sc_check_quantity : FnScope N_check_quantity P_check_quantity (defScope s_check_quantity) := ⟨rfl, rfl, rfl, by decide +kernel, rfl, by decide +kernel, by decide +kernel⟩
def sp_check_quantity (K : PySem.W.Frag) : Sp := fun vs H Q _ => ∃ v u s, vs = [v, .int s] ∧ Da K H (Wb.d u) v ∧ (0 ≤ s ∧ s < u.n) ∧ Q .non H
section
variable {P : Program} {w : World} {K : PySem.W.Frag} {mg : Str → Option Value} {base : Heap}
theorem ok_check_quantity {f : Addr} {fd : FuncData} (T : Txt K mg) (F : Fun K "check_quantity" "check_quantity" s_check_quantity f fd)
    (D_is_number_below : DefOk P w K mg base CX0 2 "is_number_below" P_is_number_below (sp_is_number_below K)) :
    FnG P w K mg base CX0 3 f fd P_check_quantity (sp_check_quantity K) := by
  refine okG0 F sc_check_quantity (fun vs H Q E h => ?_) (fun cdv A outer s H vs Q E hr hq h => ?_)
  · obtain ⟨v, u, s, rfl, _⟩ := h
    rfl
  · obtain ⟨v, u, z, rfl, hd, hs, q⟩ := h
    obtain ⟨t, x2, x3, rfl, hS, g2, g3⟩ := Wb.at hd
    refine ⟨_, (pss_one (ps_if (pt_not (pt_val (pe_callD D_is_number_below (hr.mono (by decide)) hq pass0 (pa_cons (pv 1) (pa_cons (pe_ix (ix_seqK K) (pv 0) pe_int (fun _ _ => rfl)) pa_nil))))) (pss_one ps_never) pss_nil)), ?_⟩
    refine ⟨_, rfl, _, rfl, .inr (.inl ⟨t, _, 0, _, rfl, rfl, hS, rfl, ?_⟩)⟩
    refine ⟨.int z, .int z, _, rfl, rfl, _, rfl, ?_⟩
    have e : numB (.int z) u.n = true := by simp [numB, hs.1, hs.2]
    rw [e]
    exact q
end

end K65
namespace K65
open PySem PySem.Spec PyProof.Rows L2 Nw
/-! all_lines: slots 0 web, 1 count, 2 pairs, 3 nudges, 4 pushed, 5 target, 6 at, 7 nudge -/
abbrev s_all_lines : Stmt := topS 20
abbrev N_all_lines : List Str := ["web", "count", "pairs", "nudges", "pushed", "target", "at", "nudge"]
abbrev P_all_lines : List Str := ["web"]
theorem sc_all_lines : FnScope N_all_lines P_all_lines (defScope s_all_lines) := ⟨rfl, rfl, rfl, by decide +kernel, rfl, by decide +kernel, by decide +kernel⟩
/-- webs that may have more nudges -/
structure Wb.Wd (w : Wb) : Prop where
  lo : 1 ≤ w.n
  hi : w.n ≤ 20
  ps : ∀ p ∈ w.ps, (0 ≤ p.1 ∧ p.1 < w.n) ∧ (0 ≤ p.2 ∧ p.2 < w.n)
  asc : ascB ltPr w.ps = true
  few : w.ns.length ≤ 31
  ns : ∀ r ∈ w.ns, True ∧ (∀ t ∈ r, 0 ≤ t ∧ t < w.n) ∧ ascB ltIn r = true
theorem Wb.Ok.wd {w : Wb} (h : w.Ok) : Wb.Wd w := ⟨h.lo, h.hi, h.ps, h.asc, by have := h.few; omega, fun r hr => ⟨trivial, (h.ns r hr).2⟩⟩
theorem Wb.Wd.row {w : Wb} (h : Wb.Wd w) {r : List Int} (hr : r ∈ w.ns) : r.length ≤ 20 := by
  obtain ⟨_, b, c⟩ := h.ns r hr
  have := asc_len r 0 b c
  have := h.hi
  have := h.lo
  omega
theorem Wb.Wd.len {w : Wb} (h : Wb.Wd w) : w.ps.length ≤ 1300 := by
  have h1 := asc_code (ps := w.ps) (fun p hp => by have := h.ps p hp; have := h.hi; omega) h.asc
  have h2 := asc_len _ 0 (m := 1300) (by
    intro t ht
    obtain ⟨p, hp, rfl⟩ := List.mem_map.mp ht
    have := h.ps p hp
    have := h.hi
    omega) h1
  rw [List.length_map] at h2
  omega
theorem Wb.Wd.lines_len {w : Wb} (h : Wb.Wd w) : w.lines.length ≤ 2000 := by
  have h1 := h.len
  have h2 := pushed_len w.n w.ns 0 (fun r hr => h.row hr)
  have h3 := h.few
  unfold Wb.lines
  rw [List.length_append]
  omega
theorem Wb.Wd.line {w : Wb} (h : Wb.Wd w) : ∀ l ∈ w.lines, (0 ≤ l.1 ∧ l.1 < w.n + (w.ns.length : Int)) ∧ (0 ≤ l.2 ∧ l.2 < w.n) := by
  intro l hl
  have h1 := h.lo
  rcases List.mem_append.mp hl with hl | hl
  · have := h.ps l hl
    refine ⟨⟨this.1.1, by omega⟩, this.2⟩
  · have := pushed_ok (fun r hr => (h.ns r hr).2.1) l hl
    refine ⟨⟨by omega, by omega⟩, this.2⟩
theorem Wb.Wd.lines_asc {u : Wb} (h : Wb.Wd u) : ascB ltPr u.lines = true := by
  refine asc_app h.asc (asc_pushed fun r hr => (h.ns r hr).2) ?_
  intro x hx y hy
  have a := h.ps x hx
  have b := pushed_ok (fun r hr => (h.ns r hr).2.1) y hy
  refine ltPr_iff.mpr (.inl ?_)
  omega
theorem src_castW (u : Wb) (hu : Wb.Wd u) : ((srcN u : Nat) : Int) = u.n + (u.ns.length : Int) := by
  have := hu.lo
  unfold srcN
  omega
theorem srcN_leW {u : Wb} (hu : Wb.Wd u) : srcN u ≤ 51 := by
  have := hu.hi
  have := hu.few
  unfold srcN
  omega
instance {u : Wb} : Coe u.Ok (Wb.Wd u) := ⟨Wb.Ok.wd⟩
def sp_all_lines (K : PySem.W.Frag) : Sp := fun vs H Q _ => ∃ v u, vs = [v] ∧ Da K H (Wb.d u) v ∧ Wb.Wd u ∧
  ∀ p xs H', H p = none → Ex H H' → H' p = some (.lst xs) → DaAll K H' (u.lines.map dPair) xs → Q (.ref p) H'
section
variable {P : Program} {w : World} {K : PySem.W.Frag} {mg : Str → Option Value} {base : Heap}
theorem ok_all_lines {f : Addr} {fd : FuncData} (T : Txt K mg) (F : Fun K "all_lines" "all_lines" s_all_lines f fd) :
    FnG P w K mg base CX0 1 f fd P_all_lines (sp_all_lines K) := by
  refine okG0 F sc_all_lines (fun vs H Q E h => ?_) (fun cdv A outer s H vs Q E hr hq h => ?_)
  · obtain ⟨v, u, rfl, _⟩ := h
    rfl
  · obtain ⟨v, u, rfl, hd, hu, q⟩ := h
    obtain ⟨t, x2, x3, rfl, hS, ⟨a2, ys, rfl, hL20, hA2, hz2⟩, ⟨a, xs, rfl, hL0, hA, hz⟩⟩ := Wb.at hd
    have hL : SqL K _ a xs := .inl (.inl hL0)
    have hL2 : SqL K _ a2 ys := .inl (.inl hL20)
    have hl2 := hA2.len
    have hl := hA.len
    rw [List.length_map] at hl hl2
    refine ⟨_, (pss_cons (ps_asg (pv 0) (pg_tupK (n := 3) K rfl (pgs_cons (pg_name (i := 1) sc_all_lines.nd rfl (by first | exact .inl rfl | exact .inr rfl)) (pgs_cons (pg_name (i := 2) sc_all_lines.nd rfl (by first | exact .inl rfl | exact .inr rfl)) (pgs_cons (pg_name (i := 3) sc_all_lines.nd rfl (by first | exact .inl rfl | exact .inr rfl)) pgs_nil)))))
      (pss_cons (ps_setLc2 (i := 4) (own := [("at", 6), ("nudge", 7), ("target", 5)]) (vs1 := [5]) rfl sc_all_lines.nd rfl rfl (sw_true rfl rfl rfl (by decide +kernel)) (pi_enum (by rfl) T.b_enumerate (pa_cons (pv 3) pa_nil)) (blkOk_by (N := N_all_lines) (sc := defScope s_all_lines) (by decide +kernel)) (by decide) (fun _ _ _ _ _ => (pg_tupK (n := 2) K rfl (pgs_cons (pg_name (i := 6) sc_all_lines.nd rfl (by first | exact .inl rfl | exact .inr rfl)) (pgs_cons (pg_name (i := 7) sc_all_lines.nd rfl (by first | exact .inl rfl | exact .inr rfl)) pgs_nil)))) (fun _ _ _ _ _ => pts_nil) (fun _ _ _ _ _ => (pi_listK K (pv 7))) (fun _ _ _ _ _ => (pg_name (i := 5) sc_all_lines.nd rfl (by first | exact .inl rfl | exact .inr rfl))) (fun _ _ _ _ _ => pts_nil) (fun _ _ _ _ _ => (pe_tup (pa_cons (pe_op op_add (pv 1) (pv 6)) (pa_cons (pv 5) pa_nil)))))
      (pss_one (ps_ret (pe_op (op_catS K) (pv 2) (pv 4)))))), ?_⟩
    refine ⟨_, rfl, t, _, rfl, hS, rfl, _, _, rfl, _, _, rfl, _, _, rfl, rfl, ?_⟩
    refine ⟨_, rfl, a, xs, rfl, hL, fun D hD => ?_⟩
    have nD : ∀ {b o}, H b = some o → b ≠ D := fun h e => by
      rw [e, hD] at h
      cases h
    refine lc2_by xs.length (fun i H' => Ex H H' ∧ ∃ acc, H' D = some (.lst acc) ∧ OffD D acc ∧ DaAll K H' ((pushedFrom u.n 0 (u.ns.take i)).map dPair) acc)
      ⟨Ex.nw hD, [], upd_same, OffD.nil, rfl⟩ (fun i H' hi p => ite_go hL p.1 hi) (fun H' p => ite_stop hL p.1) ?_ ?_
    · rintro i H1 x H2 hi ⟨e1, acc0, hD0, hacc0, hA0⟩ ⟨T1, y1, rfl, hT1, rfl, hy1⟩
      have g1 := hy1 xs (e1.l hL)
      obtain ⟨dr, hdr, hx⟩ := hA.at' g1
      obtain ⟨r, hrr, rfl⟩ := map_at hdr
      obtain ⟨ar, rfl, hLr⟩ := dInts_at hx
      have e2 : Ex H1 (upd H1 T1 (.tup [.int (i : Nat), .ref ar])) := Ex.nw hT1
      refine ⟨T1, _, rfl, .inl (.inl upd_same), rfl, _, _, rfl, _, _, rfl, rfl, rfl, ?_⟩
      refine ⟨_, rfl, ar, rfl, ⟨_, e2.l (e1.l hLr)⟩, ?_⟩
      refine lci_by (r.map V.int).length (fun j H' => Ex H H' ∧ ∃ acc, H' D = some (.lst acc) ∧ OffD D acc ∧
          DaAll K H' ((pushedFrom u.n 0 (u.ns.take i) ++ pushedAt u.n i (r.take j)).map dPair) acc)
        ⟨e1.tr e2, acc0, e2 _ _ hD0, hacc0, ?_⟩ (fun j H' hj p => itl_go hLr p.1 hj) (fun H' p => itl_stop hLr p.1) ?_ ?_
      · rw [List.take_zero]
        simp only [pushedAt, List.map_nil, List.append_nil]
        exact hA0.up e2
      · rintro j H3 x H4 hj ⟨e3, acc, hD3, hacc, hA3⟩ ⟨rfl, hx⟩
        obtain ⟨z, hz', rfl⟩ := map_at (hx _ (e3.l hLr))
        refine ⟨rfl, ?_⟩
        refine ⟨_, rfl, _, rfl, _, _, rfl, rfl, _, rfl, by show 2 ≤ sizeLine; decide, fun T2 hT2 => ?_⟩
        have hT2D : T2 ≠ D := fun e => by
          rw [e, hD3] at hT2
          cases hT2
        have hac : acc.length ≤ 2000 := by
          have h1 := hA3.len
          rw [List.length_map, List.length_append] at h1
          have h2 := pushed_len u.n (u.ns.take i) 0 (fun r hr => hu.row (List.mem_of_mem_take hr))
          have h3 := hu.row (List.mem_of_getElem? hrr)
          have h4 := hu.few
          simp only [pushedAt, List.length_map, List.length_take] at h1 h2
          omega
        refine ⟨acc, by rw [upd_ne hT2D.symm]; exact hD3, mil' (by omega), (e3.tr (Ex.nw hT2)).wr hD, _, upd_same, hacc.snoc hT2D, ?_⟩
        have hT3 : (upd (upd H4 T2 (.tup [.int (u.n + (i : Int)), .int z])) D (.lst (acc ++ [.ref T2]))) T2 = some (.tup [.int (u.n + (i : Int)), .int z]) := by
          rw [upd_ne hT2D, upd_same]
        have et : r.take (j + 1) = r.take j ++ [z] := by rw [List.take_add_one, hz']; rfl
        rw [et]
        simp only [pushedAt, List.map_append, List.map_cons, List.map_nil, ← List.append_assoc]
        refine DaAll.app ?_ ⟨_, _, rfl, dPair_of (p := (u.n + (i : Int), z)) hT3, rfl⟩
        rw [← List.map_append]
        exact pairs_keep ((Ex.nw hT2).d.tr ExD.put) hA3 hacc
      · rintro H3 ⟨e3, acc, hD3, hacc, hA3⟩
        refine ⟨e3, acc, hD3, hacc, ?_⟩
        rw [List.length_map, List.take_length] at hA3
        rw [pushedFrom_take u.n u.ns 0 i r hrr, Nat.zero_add]
        exact hA3
    · rintro H1 ⟨e1, acc, hD1, hacc, hA1⟩
      rw [← hl, List.take_length] at hA1
      have hac : acc.length ≤ 620 := by
        have h1 := hA1.len
        have h2 := pushed_len u.n u.ns 0 (fun r hr => hu.row hr)
        have h4 := hu.few
        rw [List.length_map] at h1
        omega
      refine ⟨_, rfl, _, rfl, a2, D, ys, acc, rfl, rfl, e1.l hL2, .inl (.inl hD1), by have := hu.len; omega, fun p hp => ?_⟩
      refine q p _ _ (e1.fr hp) (e1.nw2 hp) upd_same ?_
      unfold Wb.lines
      rw [List.map_append]
      exact (hA2.up (e1.nw2 hp)).app (hA1.up (Ex.nw hp))
end

/-! source_rows: slots 0 web, 1 rows, 2 _, 3 source, 4 target -/
abbrev s_source_rows : Stmt := topS 22
abbrev N_source_rows : List Str := ["web", "rows", "_", "source", "target"]
abbrev P_source_rows : List Str := ["web"]
theorem sc_source_rows : FnScope N_source_rows P_source_rows (defScope s_source_rows) := ⟨rfl, rfl, rfl, by decide +kernel, rfl, by decide +kernel, by decide +kernel⟩
def sp_source_rows (K : PySem.W.Frag) : Sp := fun vs H Q _ => ∃ v u, vs = [v] ∧ Da K H (Wb.d u) v ∧ Wb.Wd u ∧
  ∀ p as H', RowsAt H H' p as u.n.toNat (fun s => srcsOf u.lines (s : Int)) → Q (.ref p) H'
section
variable {P : Program} {w : World} {K : PySem.W.Frag} {mg : Str → Option Value} {base : Heap}
theorem ok_source_rows {f : Addr} {fd : FuncData} (T : Txt K mg) (F : Fun K "source_rows" "source_rows" s_source_rows f fd)
    (D_all_lines : DefOk P w K mg base CX0 1 "all_lines" P_all_lines (sp_all_lines K)) :
    FnG P w K mg base CX0 2 f fd P_source_rows (sp_source_rows K) := by
  refine okG0 F sc_source_rows (fun vs H Q E h => ?_) (fun cdv A outer s H vs Q E hr hq h => ?_)
  · obtain ⟨v, u, rfl, _⟩ := h
    rfl
  · obtain ⟨v, u, rfl, hd, hu, q⟩ := h
    obtain ⟨t, x2, x3, rfl, hS, g2, ⟨a, xs, rfl, hL0, hA, hz⟩⟩ := Wb.at hd
    have hL : SqL K _ a xs := .inl (.inl hL0)
    have hl := hA.len
    rw [List.length_map] at hl
    have b1 := hu.lo
    have b2 := hu.hi
    have b3 := hu.few
    refine ⟨_, (pss_cons (ps_setLc (i := 1) (own := [("_", 2)]) rfl sc_source_rows.nd rfl rfl (sw_true rfl rfl rfl (by decide +kernel)) (pi_range1 (by rfl) T.b_range (pa_cons (pe_ix (ix_seqK K) (pv 0) pe_int (fun _ _ => rfl)) pa_nil)) (blkOk_by (N := N_source_rows) (sc := defScope s_source_rows) (by decide +kernel)) (fun _ _ _ _ _ => (pg_name (i := 2) sc_source_rows.nd rfl (by first | exact .inl rfl | exact .inr rfl))) (fun _ _ _ _ _ => pts_nil) (fun _ _ _ _ _ => (pe_lst pa_nil)))
      (pss_cons (ps_for PassesOwn.never rfl (pi_listK K (pe_callD D_all_lines (hr.mono (by decide)) hq pass0 (pa_cons (pv 0) pa_nil))) (pg_tupK (n := 2) K rfl (pgs_cons (pg_name (i := 3) sc_source_rows.nd rfl (by first | exact .inl rfl | exact .inr rfl)) (pgs_cons (pg_name (i := 4) sc_source_rows.nd rfl (by first | exact .inl rfl | exact .inr rfl)) pgs_nil))) (pss_one (ps_expr (pe_bm PySem.F.plainAttrs_list PySem.F.slot_list_append PySem.F.type_list_append mt_append (pe_ix (ix_seqK K) (pv 1) (pv 4) (fun _ _ => rfl)) (pa_cons (pv 3) pa_nil)))))
      (pss_one (ps_ret (pv 1))))), ?_⟩
    refine ⟨_, rfl, .inr (.inl ⟨t, _, 0, _, rfl, rfl, hS, rfl, ?_⟩)⟩
    refine ⟨_, rfl, by omega, by omega, fun D hD => ?_⟩
    refine lc_by u.n.toNat (fun i H' => Ex H H' ∧ ∃ as : List Addr, H' D = some (.lst (as.map V.ref)) ∧ as.Nodup ∧ as.length = i ∧
        ∀ b ∈ as, H b = none ∧ b ≠ D ∧ H' b = some (.lst []))
      ⟨Ex.nw hD, [], upd_same, List.nodup_nil, rfl, fun b hb => by cases hb⟩ (fun i H' hi p => hi) (fun H' p => Nat.le_refl _) ?_ ?_
    · rintro i H1 x H2 hi ⟨e1, as, hD1, nd, hlen, hall⟩ ⟨rfl, rfl⟩
      refine ⟨rfl, Nat.zero_le _, fun b hb => ?_⟩
      have hbD : b ≠ D := fun e => by
        rw [e, hD1] at hb
        cases hb
      refine ⟨as.map V.ref, by rw [upd_ne hbD.symm]; exact hD1, mil' (by rw [List.length_map]; omega), (e1.tr (Ex.nw hb)).wr hD, as ++ [b], ?_, ?_, ?_, ?_⟩
      · rw [upd_same, List.map_append]
        rfl
      · refine nodup_snoc nd fun hm => ?_
        rw [(hall b hm).2.2] at hb
        cases hb
      · rw [List.length_append, hlen]
        rfl
      · intro c hc
        rcases List.mem_append.mp hc with hc | hc
        · obtain ⟨c1, c2, c3⟩ := hall c hc
          refine ⟨c1, c2, ?_⟩
          rw [upd_ne c2, upd_ne (ne_of_none c3 hb)]
          exact c3
        · obtain rfl := List.mem_singleton.mp hc
          exact ⟨e1.fr hb, hbD, by rw [upd_ne hbD, upd_same]⟩
    · rintro H1 ⟨e1, as, hD1, nd, hlen, hall⟩
      refine ⟨_, rfl, _, u, rfl, hd.up e1, hu, fun L zs H2 hL2 e2 hLs hA2 => ?_⟩
      refine ⟨L, rfl, ⟨zs, .inl (.inl hLs)⟩, ?_⟩
      have hl2 := hA2.len
      rw [List.length_map] at hl2
      have LD : L ≠ D := fun e => by
        rw [e, hD1] at hL2
        cases hL2
      have Las : ∀ b ∈ as, b ≠ L := fun b hb e => by
        rw [← e, (hall b hb).2.2] at hL2
        cases hL2
      refine for_by zs.length (fun i σ H' => ∃ y2 y3 y4, σ = [some (V.ref t), some (V.ref D), y2, y3, y4] ∧ Ex H H' ∧ H' D = some (.lst (as.map V.ref)) ∧ H' L = some (.lst zs) ∧
          (∀ (k : Nat) (p : Int × Int), u.lines[k]? = some p → ∃ b, zs[k]? = some (V.ref b) ∧ SqT K H' b [.int p.1, .int p.2]) ∧
          ∀ (s : Nat) (b : Addr), as[s]? = some b → H' b = some (.lst ((srcsOf (u.lines.take i) (s : Int)).map V.int)))
        ⟨_, _, _, rfl, e1.tr e2, e2 _ _ hD1, hLs, ?_, ?_⟩ (fun i σ H' hi p => ?_) (fun σ H' p => ?_) ?_ ?_
      · intro k p hp
        obtain ⟨x, hx, hdx⟩ := hA2.at (i := k) (d := dPair p) (by rw [List.getElem?_map, hp]; rfl)
        obtain ⟨b, ys, rfl, hSb, z1, r1, rfl, f1, z2, r2, rfl, f2, rfl⟩ := hdx
        obtain rfl := f1
        obtain rfl := f2
        exact ⟨b, hx, .inl (.inl hSb)⟩
      · intro s b hb
        have := (hall b (List.mem_of_getElem? hb)).2.2
        rw [List.take_zero, srcsOf_nil]
        exact e2 _ _ this
      · obtain ⟨_, _, _, _, _, _, h4, _⟩ := p
        exact itl_go (.inl (.inl h4)) Ex.rfl hi
      · obtain ⟨_, _, _, _, _, _, h4, _⟩ := p
        exact itl_stop (.inl (.inl h4)) Ex.rfl
      · rintro i σ H3 x H4 hi ⟨y2, y3, y4, rfl, e3, hD3, hL3, hT3, hR3⟩ ⟨rfl, hx⟩
        have hx := hx zs (.inl (.inl hL3))
        rw [← hl2] at hi
        have hp := List.getElem?_eq_getElem hi
        generalize u.lines[i] = p at hp
        obtain ⟨b, hb, hSb⟩ := hT3 i p hp
        rw [hx] at hb
        cases hb
        obtain ⟨_, ⟨p1, p2⟩⟩ := hu.line p (List.mem_of_getElem? hp)
        have hs : p.2.toNat < as.length := by rw [hlen]; omega
        have hc := List.getElem?_eq_getElem hs
        generalize as[p.2.toNat] = c at hc
        have hcl := hR3 _ _ hc
        obtain ⟨c1, c2, _⟩ := hall c (List.mem_of_getElem? hc)
        have c3 := Las c (List.mem_of_getElem? hc)
        have el : ((p.2.toNat : Nat) : Int) = p.2 := Int.toNat_of_nonneg p1
        have hsz : ((srcsOf (u.lines.take i) ((p.2.toNat : Nat) : Int)).map V.int).length < sizeLine := by
          refine mil' ?_
          have h1 := srcsOf_len (u.lines.take i) ((p.2.toNat : Nat) : Int)
          have h2 := hu.lines_len
          rw [List.length_take] at h1
          rw [List.length_map]
          omega
        refine ⟨b, _, rfl, hSb, rfl, _, _, rfl, _, _, rfl, rfl, ?_⟩
        refine ⟨.ref D, rfl, .int p.2, rfl, .inl ⟨D, _, p.2, .ref c, rfl, rfl, .inl (.inl hD3), ?_, .inl ⟨rfl, _, .inl (.inl hcl)⟩, _, rfl, c, _, _, rfl, rfl, hcl, hsz, ?_⟩⟩
        · exact atI_int p1 (by rw [List.getElem?_map, hc]; rfl)
        · refine ⟨_, _, _, rfl, e3.wr c1, by rw [upd_ne c2.symm]; exact hD3, by rw [upd_ne c3.symm]; exact hL3, ?_, ?_⟩
          · intro k q' hq'
            obtain ⟨b', hb', hS'⟩ := hT3 k q' hq'
            exact ⟨b', hb', SqT.wr hS' hcl⟩
          · intro s d hd'
            rw [take_snoc hp, srcsOf_app, srcsOf_one]
            by_cases es : s = p.2.toNat
            · subst es
              rw [hc] at hd'
              cases hd'
              rw [upd_same, if_pos el.symm, List.map_append]
              rfl
            · have ne : d ≠ c := nodup_at nd hd' hc es
              rw [upd_ne ne, if_neg (by omega), List.append_nil]
              exact hR3 s d hd'
      · rintro σ H3 ⟨y2, y3, y4, rfl, e3, hD3, hL3, hT3, hR3⟩
        refine ⟨_, rfl, q D as H3 ⟨hD, e3, hD3, nd, fun b hb => ⟨(hall b hb).1, (hall b hb).2.1⟩, hlen, ?_⟩⟩
        rw [← hl2, List.take_length] at hR3
        exact hR3
end

end K65
namespace K65
open PySem PySem.Spec PyProof.Rows L2 Nw
/-! target_rows: slots 0 web, 1 rows, 2 _, 3 source, 4 target -/
abbrev s_target_rows : Stmt := topS 21
abbrev N_target_rows : List Str := ["web", "rows", "_", "source", "target"]
abbrev P_target_rows : List Str := ["web"]
theorem sc_target_rows : FnScope N_target_rows P_target_rows (defScope s_target_rows) := ⟨rfl, rfl, rfl, by decide +kernel, rfl, by decide +kernel, by decide +kernel⟩
def sp_target_rows (K : PySem.W.Frag) : Sp := fun vs H Q _ => ∃ v u, vs = [v] ∧ Da K H (Wb.d u) v ∧ Wb.Wd u ∧
  ∀ p as H', RowsAt H H' p as (u.n.toNat + u.ns.length) (fun s => rowOf u.lines (s : Int)) → Q (.ref p) H'
section
variable {P : Program} {w : World} {K : PySem.W.Frag} {mg : Str → Option Value} {base : Heap}
theorem ok_target_rows {f : Addr} {fd : FuncData} (T : Txt K mg) (F : Fun K "target_rows" "target_rows" s_target_rows f fd)
    (D_all_lines : DefOk P w K mg base CX0 1 "all_lines" P_all_lines (sp_all_lines K)) :
    FnG P w K mg base CX0 2 f fd P_target_rows (sp_target_rows K) := by
  refine okG0 F sc_target_rows (fun vs H Q E h => ?_) (fun cdv A outer s H vs Q E hr hq h => ?_)
  · obtain ⟨v, u, rfl, _⟩ := h
    rfl
  · obtain ⟨v, u, rfl, hd, hu, q⟩ := h
    obtain ⟨t, x2, x3, rfl, hS, g2, ⟨a, xs, rfl, hL0, hA, hz⟩⟩ := Wb.at hd
    have hL : SqL K _ a xs := .inl (.inl hL0)
    have hl := hA.len
    rw [List.length_map] at hl
    have b1 := hu.lo
    have b2 := hu.hi
    have b3 := hu.few
    refine ⟨_, (pss_cons (ps_setLc (i := 1) (own := [("_", 2)]) rfl sc_target_rows.nd rfl rfl (sw_true rfl rfl rfl (by decide +kernel)) (pi_range1 (by rfl) T.b_range (pa_cons (pe_op op_add (pe_ix (ix_seqK K) (pv 0) pe_int (fun _ _ => rfl)) (pe_callB (call_lenK K) (by rfl) T.b_len bt_len (pa_cons (pe_ix (ix_seqK K) (pv 0) pe_int (fun _ _ => rfl)) pa_nil))) pa_nil)) (blkOk_by (N := N_target_rows) (sc := defScope s_target_rows) (by decide +kernel)) (fun _ _ _ _ _ => (pg_name (i := 2) sc_target_rows.nd rfl (by first | exact .inl rfl | exact .inr rfl))) (fun _ _ _ _ _ => pts_nil) (fun _ _ _ _ _ => (pe_lst pa_nil)))
      (pss_cons (ps_for PassesOwn.never rfl (pi_listK K (pe_callD D_all_lines (hr.mono (by decide)) hq pass0 (pa_cons (pv 0) pa_nil))) (pg_tupK (n := 2) K rfl (pgs_cons (pg_name (i := 3) sc_target_rows.nd rfl (by first | exact .inl rfl | exact .inr rfl)) (pgs_cons (pg_name (i := 4) sc_target_rows.nd rfl (by first | exact .inl rfl | exact .inr rfl)) pgs_nil))) (pss_one (ps_expr (pe_bm PySem.F.plainAttrs_list PySem.F.slot_list_append PySem.F.type_list_append mt_append (pe_ix (ix_seqK K) (pv 1) (pv 3) (fun _ _ => rfl)) (pa_cons (pv 4) pa_nil)))))
      (pss_one (ps_ret (pv 1))))), ?_⟩
    refine ⟨_, rfl, .inr (.inl ⟨t, _, 0, _, rfl, rfl, hS, rfl, ?_⟩)⟩
    refine ⟨_, rfl, .inr (.inl ⟨t, _, 2, _, rfl, rfl, hS, rfl, ?_⟩)⟩
    refine ⟨a, _, rfl, .inl hL, _, _, rfl, rfl, _, rfl, by omega, by omega, fun D hD => ?_⟩
    refine lc_by (u.n + (xs.length : Int)).toNat (fun i H' => Ex H H' ∧ ∃ as : List Addr, H' D = some (.lst (as.map V.ref)) ∧ as.Nodup ∧ as.length = i ∧
        ∀ b ∈ as, H b = none ∧ b ≠ D ∧ H' b = some (.lst []))
      ⟨Ex.nw hD, [], upd_same, List.nodup_nil, rfl, fun b hb => by cases hb⟩ (fun i H' hi p => hi) (fun H' p => Nat.le_refl _) ?_ ?_
    · rintro i H1 x H2 hi ⟨e1, as, hD1, nd, hlen, hall⟩ ⟨rfl, rfl⟩
      refine ⟨rfl, Nat.zero_le _, fun b hb => ?_⟩
      have hbD : b ≠ D := fun e => by
        rw [e, hD1] at hb
        cases hb
      refine ⟨as.map V.ref, by rw [upd_ne hbD.symm]; exact hD1, mil' (by rw [List.length_map]; omega), (e1.tr (Ex.nw hb)).wr hD, as ++ [b], ?_, ?_, ?_, ?_⟩
      · rw [upd_same, List.map_append]
        rfl
      · refine nodup_snoc nd fun hm => ?_
        rw [(hall b hm).2.2] at hb
        cases hb
      · rw [List.length_append, hlen]
        rfl
      · intro c hc
        rcases List.mem_append.mp hc with hc | hc
        · obtain ⟨c1, c2, c3⟩ := hall c hc
          refine ⟨c1, c2, ?_⟩
          rw [upd_ne c2, upd_ne (ne_of_none c3 hb)]
          exact c3
        · obtain rfl := List.mem_singleton.mp hc
          exact ⟨e1.fr hb, hbD, by rw [upd_ne hbD, upd_same]⟩
    · rintro H1 ⟨e1, as, hD1, nd, hlen, hall⟩
      refine ⟨_, rfl, _, u, rfl, hd.up e1, hu, fun L zs H2 hL2 e2 hLs hA2 => ?_⟩
      refine ⟨L, rfl, ⟨zs, .inl (.inl hLs)⟩, ?_⟩
      have hl2 := hA2.len
      rw [List.length_map] at hl2
      have LD : L ≠ D := fun e => by
        rw [e, hD1] at hL2
        cases hL2
      have Las : ∀ b ∈ as, b ≠ L := fun b hb e => by
        rw [← e, (hall b hb).2.2] at hL2
        cases hL2
      refine for_by zs.length (fun i σ H' => ∃ y2 y3 y4, σ = [some (V.ref t), some (V.ref D), y2, y3, y4] ∧ Ex H H' ∧ H' D = some (.lst (as.map V.ref)) ∧ H' L = some (.lst zs) ∧
          (∀ (k : Nat) (p : Int × Int), u.lines[k]? = some p → ∃ b, zs[k]? = some (V.ref b) ∧ SqT K H' b [.int p.1, .int p.2]) ∧
          ∀ (s : Nat) (b : Addr), as[s]? = some b → H' b = some (.lst ((rowOf (u.lines.take i) (s : Int)).map V.int)))
        ⟨_, _, _, rfl, e1.tr e2, e2 _ _ hD1, hLs, ?_, ?_⟩ (fun i σ H' hi p => ?_) (fun σ H' p => ?_) ?_ ?_
      · intro k p hp
        obtain ⟨x, hx, hdx⟩ := hA2.at (i := k) (d := dPair p) (by rw [List.getElem?_map, hp]; rfl)
        obtain ⟨b, ys, rfl, hSb, z1, r1, rfl, f1, z2, r2, rfl, f2, rfl⟩ := hdx
        obtain rfl := f1
        obtain rfl := f2
        exact ⟨b, hx, .inl (.inl hSb)⟩
      · intro s b hb
        have := (hall b (List.mem_of_getElem? hb)).2.2
        rw [List.take_zero, rowOf_nil]
        exact e2 _ _ this
      · obtain ⟨_, _, _, _, _, _, h4, _⟩ := p
        exact itl_go (.inl (.inl h4)) Ex.rfl hi
      · obtain ⟨_, _, _, _, _, _, h4, _⟩ := p
        exact itl_stop (.inl (.inl h4)) Ex.rfl
      · rintro i σ H3 x H4 hi ⟨y2, y3, y4, rfl, e3, hD3, hL3, hT3, hR3⟩ ⟨rfl, hx⟩
        have hx := hx zs (.inl (.inl hL3))
        rw [← hl2] at hi
        have hp := List.getElem?_eq_getElem hi
        generalize u.lines[i] = p at hp
        obtain ⟨b, hb, hSb⟩ := hT3 i p hp
        rw [hx] at hb
        cases hb
        obtain ⟨⟨p1, p2⟩, _⟩ := hu.line p (List.mem_of_getElem? hp)
        have hs : p.1.toNat < as.length := by rw [hlen]; omega
        have hc := List.getElem?_eq_getElem hs
        generalize as[p.1.toNat] = c at hc
        have hcl := hR3 _ _ hc
        obtain ⟨c1, c2, _⟩ := hall c (List.mem_of_getElem? hc)
        have c3 := Las c (List.mem_of_getElem? hc)
        have el : ((p.1.toNat : Nat) : Int) = p.1 := Int.toNat_of_nonneg p1
        have hsz : ((rowOf (u.lines.take i) ((p.1.toNat : Nat) : Int)).map V.int).length < sizeLine := by
          refine mil' ?_
          have h1 := rowOf_len (u.lines.take i) ((p.1.toNat : Nat) : Int)
          have h2 := hu.lines_len
          rw [List.length_take] at h1
          rw [List.length_map]
          omega
        refine ⟨b, _, rfl, hSb, rfl, _, _, rfl, _, _, rfl, rfl, ?_⟩
        refine ⟨.ref D, rfl, .int p.1, rfl, .inl ⟨D, _, p.1, .ref c, rfl, rfl, .inl (.inl hD3), ?_, .inl ⟨rfl, _, .inl (.inl hcl)⟩, _, rfl, c, _, _, rfl, rfl, hcl, hsz, ?_⟩⟩
        · exact atI_int p1 (by rw [List.getElem?_map, hc]; rfl)
        · refine ⟨_, _, _, rfl, e3.wr c1, by rw [upd_ne c2.symm]; exact hD3, by rw [upd_ne c3.symm]; exact hL3, ?_, ?_⟩
          · intro k q' hq'
            obtain ⟨b', hb', hS'⟩ := hT3 k q' hq'
            exact ⟨b', hb', SqT.wr hS' hcl⟩
          · intro s d hd'
            rw [take_snoc hp, rowOf_app, rowOf_one]
            by_cases es : s = p.1.toNat
            · subst es
              rw [hc] at hd'
              cases hd'
              rw [upd_same, if_pos el.symm, List.map_append]
              rfl
            · have ne : d ≠ c := nodup_at nd hd' hc es
              rw [upd_ne ne, if_neg (by omega), List.append_nil]
              exact hR3 s d hd'
      · rintro σ H3 ⟨y2, y3, y4, rfl, e3, hD3, hL3, hT3, hR3⟩
        refine ⟨_, rfl, q D as H3 ⟨hD, e3, hD3, nd, fun b hb => ⟨(hall b hb).1, (hall b hb).2.1⟩, by rw [hlen, ← hl]; omega, ?_⟩⟩
        rw [← hl2, List.take_length] at hR3
        exact hR3
end

end K65
namespace K65
open PySem PySem.Spec PyProof.Rows L2 Nw
/-! quantities_behind: slots 0 rows, 1 quantities, 2 behind, 3 waiting, 4 quantity -/
abbrev s_quantities_behind : Stmt := topS 31
abbrev N_quantities_behind : List Str := ["rows", "quantities", "behind", "waiting", "quantity"]
abbrev P_quantities_behind : List Str := ["rows", "quantities"]
theorem sc_quantities_behind : FnScope N_quantities_behind P_quantities_behind (defScope s_quantities_behind) := ⟨rfl, rfl, rfl, by decide +kernel, rfl, by decide +kernel, by decide +kernel⟩
/-- from some quantities to all that pairs lead to -/
def sp_quantities_behind (K : PySem.W.Frag) : Sp := fun vs H Q _ => ∃ (a c : Addr) (bs : List Addr) (R : Nat → List Int) (n : Int) (ps : List (Int × Int)) (qs : List Int), vs = [.ref a, .ref c] ∧
  H a = some (.lst (bs.map V.ref)) ∧ (∀ s b, bs[s]? = some b → H b = some (.lst ((R s).map V.int))) ∧ (n ≤ (bs.length : Int) ∧ n ≤ 20) ∧ (∀ p ∈ ps, (0 ≤ p.1 ∧ p.1 < n) ∧ (0 ≤ p.2 ∧ p.2 < n)) ∧
  (∀ s : Nat, (s : Int) < n → ∀ t, t ∈ R s ↔ ((s : Int), t) ∈ ps) ∧ (∀ s, (R s).length ≤ 2000) ∧ SqL K H c (qs.map V.int) ∧ (∀ q ∈ qs, 0 ≤ q ∧ q < n) ∧ qs.length ≤ 2000 ∧
  ∀ (D : Addr) (vis : List Int) H', H D = none → Ex H H' → H' D = some (.dK (visK vis)) → vis.Nodup → (∀ b, b ∈ vis ↔ ∃ q ∈ qs, Rch ps q b) → Q (.ref D) H'
theorem nd_le : ∀ (k : Nat) (l : List Int), l.Nodup → (∀ b ∈ l, 0 ≤ b ∧ b < (k : Int)) → l.length ≤ k
  | 0, l, _, h => by
    cases l with
    | nil => exact Nat.le_refl _
    | cons x r =>
      have := h x (by simp)
      omega
  | k + 1, l, nd, h => by
    have h1 := nd_le k (l.erase (k : Int)) (nd.erase _) fun b hb => by
      have h2 := h b (List.mem_of_mem_erase hb)
      have h3 : b ≠ (k : Int) := fun e => by
        rw [e] at hb
        exact (nd.mem_erase_iff.mp hb).1 rfl
      omega
    rw [List.length_erase] at h1
    split at h1
    · omega
    · omega
theorem nd_few {l : List Int} {n : Int} (nd : l.Nodup) (h : ∀ b ∈ l, 0 ≤ b ∧ b < n) : l.length ≤ n.toNat :=
  nd_le n.toNat l nd fun b hb => by
    have := h b hb
    omega
section
variable {P : Program} {w : World} {K : PySem.W.Frag} {mg : Str → Option Value} {base : Heap}
theorem ok_quantities_behind {f : Addr} {fd : FuncData} (T : Txt K mg) (F : Fun K "quantities_behind" "quantities_behind" s_quantities_behind f fd) :
    FnG P w K mg base CX0 1 f fd P_quantities_behind (sp_quantities_behind K) := by
  refine okG0 F sc_quantities_behind (fun vs H Q E h => ?_) (fun cdv A outer s H vs Q E hr hq h => ?_)
  · obtain ⟨a, c, bs, R, n, ps, qs, rfl, _⟩ := h
    rfl
  · obtain ⟨a, c, bs, R, n, ps, qs, rfl, hA, hR, ⟨hn, hn2⟩, hps, hT, hTl, hC, hqs, hql, q⟩ := h
    refine ⟨_, (pss_cons (ps_set (i := 2) sc_quantities_behind.nd rfl (by first | exact .inl rfl | exact .inr rfl) pe_dnewK)
      (pss_cons (ps_set (i := 3) sc_quantities_behind.nd rfl (by first | exact .inl rfl | exact .inr rfl) (pe_callTy (call_listK K) (by rfl) T.b_list bt_list (pa_cons (pv 1) pa_nil)))
      (pss_cons (ps_while PassesOwn.never (pt_truth (pv 3) (by intro _; rfl)) (pss_cons (ps_set (i := 4) sc_quantities_behind.nd rfl (by first | exact .inl rfl | exact .inr rfl) (pe_bm0 PySem.F.plainAttrs_list PySem.F.slot_list_pop PySem.F.type_list_pop mt_pop (pv 3)))
      (pss_one (ps_if (pt_dNotIn hr (pv 4) (pv 2)) (pss_cons (ps_dputK hr (pv 2) (pv 4) pe_bl rfl)
      (pss_one (ps_expr (pe_bm PySem.F.plainAttrs_list PySem.F.slot_list_extend PySem.F.type_list_extend mt_extend (pv 3) (pa_cons (pe_ix (ix_listK K) (pv 0) (pv 4) (fun _ _ => rfl)) pa_nil))))) pss_nil))))
      (pss_one (ps_ret (pv 2)))))), ?_⟩
    refine fun D hD => ?_
    have e1 : Ex H (upd H D (.dK [])) := Ex.nw hD
    have hD1 : (upd H D (.dK [])) D = some (.dK (visK [])) := upd_same
    generalize upd H D (.dK []) = H1 at e1 hD1
    refine ⟨_, rfl, c, _, rfl, .inl (e1.l hC), fun W hW => ?_⟩
    have WD : W ≠ D := fun e => by
      rw [e, hD1] at hW
      cases hW
    refine ⟨fun m σ H' => ∃ (y : Option V) (vis wait : List Int), m = (20 - vis.length) * 2001 + wait.length ∧ σ = [some (V.ref a), some (V.ref c), some (V.ref D), some (V.ref W), y] ∧ Ex H H' ∧
        H' D = some (.dK (visK vis)) ∧ H' W = some (.lst (wait.map V.int)) ∧ vis.Nodup ∧ wait.length ≤ 2000 * (vis.length + 1) ∧
        (∀ b, b ∈ vis ∨ b ∈ wait → (0 ≤ b ∧ b < n) ∧ ∃ q ∈ qs, Rch ps q b) ∧ (∀ q ∈ qs, q ∈ vis ∨ q ∈ wait) ∧ (∀ b ∈ vis, ∀ t, (b, t) ∈ ps → t ∈ vis ∨ t ∈ wait),
      ⟨_, _, [], qs, rfl, rfl, e1.tr (Ex.nw hW), ?_, upd_same, List.nodup_nil, by simp; omega, ?_, fun q hq => .inr hq, fun b hb => by cases hb⟩, ?_⟩
    · rw [upd_ne WD.symm]
      exact hD1
    · rintro b (hb | hb)
      · cases hb
      · exact ⟨hqs b hb, b, hb, .here b⟩
    · rintro m σ H2 ⟨y, vis, wait, rfl, rfl, e2, hD2, hW2, nd, hwl, hin, hq0, hcl⟩
      have hvl : vis.length ≤ 20 := by
        have := nd_few nd (n := n) fun b hb => (hin b (.inl hb)).1
        omega
      refine ⟨_, rfl, _, .inl ⟨_, .inl (.inl hW2), rfl⟩, ?_⟩
      rcases List.eq_nil_or_concat wait with rfl | ⟨w0, x, rfl⟩
      · refine ⟨_, rfl, q D vis H2 hD e2 hD2 nd fun b => ⟨fun hb => (hin b (.inl hb)).2, ?_⟩⟩
        rintro ⟨q0, hq0', r⟩
        refine r.closed (P := fun b => b ∈ vis) (fun a b ha hab => ?_) ?_
        · rcases hcl a ha b hab with h | h
          · exact h
          · cases h
        · rcases hq0 q0 hq0' with h | h
          · exact h
          · cases h
      · rw [if_pos (by simp)]
        rw [List.concat_eq_append] at *
        refine ⟨_, fun _ _ h => h, ?_⟩
        refine ⟨_, rfl, .inl ⟨rfl, _, .inl (.inl hW2)⟩, W, _, .int x, rfl, rfl, hW2, by simp, ?_⟩
        have hdl : ((w0 ++ [x]).map V.int).dropLast = w0.map V.int := by simp
        rw [hdl]
        have hx := hin x (.inr (by simp))
        have hD3 : (upd H2 W (.lst (w0.map V.int))) D = some (.dK (visK vis)) := by
          rw [upd_ne WD.symm]
          exact hD2
        have hwf : H W = none := e1.fr hW
        have e3 : Ex H (upd H2 W (.lst (w0.map V.int))) := e2.wr hwf
        have hW3 : (upd H2 W (.lst (w0.map V.int))) W = some (.lst (w0.map V.int)) := upd_same
        generalize upd H2 W (.lst (w0.map V.int)) = H3 at hD3 e3 hW3
        have hl0 : (w0 ++ [x]).length = w0.length + 1 := by simp
        refine ⟨_, rfl, _, rfl, D, _, rfl, DGet.k (k := Sum.inl x) hD3, _, rfl, ?_⟩
        rw [visK_get]
        refine ite2 (fun hv => ?_) (fun hv => ?_)
        · have hxv : x ∉ vis := by simpa using hv
          refine ⟨_, rfl, _, rfl, D, _, rfl, DPut.k (k := Sum.inl x) hD3 (mil' (by simp [visK]; omega)), ?_⟩
          rw [visK_put hxv]
          have hW4 : (upd H3 D (.dK (visK (vis ++ [x])))) W = some (.lst (w0.map V.int)) := by
            rw [upd_ne WD]
            exact hW3
          have hD4 : (upd H3 D (.dK (visK (vis ++ [x])))) D = some (.dK (visK (vis ++ [x]))) := upd_same
          have e4 : Ex H (upd H3 D (.dK (visK (vis ++ [x])))) := e3.wr hD
          generalize upd H3 D (.dK (visK (vis ++ [x]))) = H4 at hW4 hD4 e4
          have hxs : x.toNat < bs.length := by omega
          have hb := List.getElem?_eq_getElem hxs
          generalize bs[x.toNat] = b at hb
          have hRb := e4 _ _ (hR _ _ hb)
          have el : ((x.toNat : Nat) : Int) = x := Int.toNat_of_nonneg hx.1.1
          have hTx := hT x.toNat (by omega)
          have hTlx := hTl x.toNat
          rw [el] at hTx
          refine ⟨_, rfl, .inl ⟨rfl, _, .inl (.inl hW4)⟩, _, rfl, _, rfl, a, _, x, .ref b, rfl, rfl, .inl (.inl (e4 _ _ hA)), atI_int hx.1.1 (by rw [List.getElem?_map, hb]; rfl), ?_⟩
          refine ⟨W, b, _, _, rfl, rfl, hW4, hRb, Nat.le_of_lt (mil' (by rw [List.length_map, List.length_map]; omega)), ?_⟩
          refine ⟨_, ?_, _, vis ++ [x], w0 ++ R x.toNat, rfl, rfl, e4.wr hwf, ?_, ?_, ?_, ?_, ?_, ?_, ?_⟩
          · rw [List.length_append, List.length_append, hl0, List.length_singleton]
            have : vis.length < 20 := by
              have h1 := nd_few (nodup_snoc nd hxv) (n := n) fun b hb => by
                rcases List.mem_append.mp hb with hb | hb
                · exact (hin b (.inl hb)).1
                · obtain rfl := List.mem_singleton.mp hb
                  exact hx.1
              rw [List.length_append, List.length_singleton] at h1
              omega
            omega
          · rw [upd_ne WD.symm]
            exact hD4
          · rw [upd_same, List.map_append]
          · exact nodup_snoc nd hxv
          · rw [List.length_append, List.length_append, List.length_singleton]
            omega
          · intro b hb
            have key : b ∈ vis ∨ b ∈ w0 ++ [x] ∨ b ∈ R x.toNat := by
              rcases hb with hb | hb
              · rcases List.mem_append.mp hb with hb | hb
                · exact .inl hb
                · exact .inr (.inl (List.mem_append.mpr (.inr hb)))
              · rcases List.mem_append.mp hb with hb | hb
                · exact .inr (.inl (List.mem_append.mpr (.inl hb)))
                · exact .inr (.inr hb)
            rcases key with h | h | h
            · exact hin b (.inl h)
            · exact hin b (.inr h)
            · have h2 := (hTx b).mp h
              obtain ⟨q0, h3, h4⟩ := hx.2
              exact ⟨(hps _ h2).2, q0, h3, h4.snoc h2⟩
          · intro q0 hq
            rcases hq0 q0 hq with h | h
            · exact .inl (List.mem_append.mpr (.inl h))
            · rcases List.mem_append.mp h with h | h
              · exact .inr (List.mem_append.mpr (.inl h))
              · exact .inl (List.mem_append.mpr (.inr h))
          · intro b hb t ht
            rcases List.mem_append.mp hb with hb | hb
            · rcases hcl b hb t ht with h | h
              · exact .inl (List.mem_append.mpr (.inl h))
              · rcases List.mem_append.mp h with h | h
                · exact .inr (List.mem_append.mpr (.inl h))
                · exact .inl (List.mem_append.mpr (.inr h))
            · obtain rfl := List.mem_singleton.mp hb
              exact .inr (List.mem_append.mpr (.inr ((hTx t).mpr ht)))
        · have hxv : x ∈ vis := by simpa using hv
          refine ⟨_, ?_, _, vis, w0, rfl, rfl, e3, hD3, hW3, nd, by omega, fun b hb => ?_, fun q0 hq => ?_, fun b hb t ht => ?_⟩
          · rw [hl0]
            omega
          · rcases hb with h | h
            · exact hin b (.inl h)
            · exact hin b (.inr (List.mem_append.mpr (.inl h)))
          · rcases hq0 q0 hq with h | h
            · exact .inl h
            · rcases List.mem_append.mp h with h | h
              · exact .inr h
              · obtain rfl := List.mem_singleton.mp h
                exact .inl hxv
          · rcases hcl b hb t ht with h | h
            · exact .inl h
            · rcases List.mem_append.mp h with h | h
              · exact .inr h
              · obtain rfl := List.mem_singleton.mp h
                exact .inl hxv
end

end K65
namespace K65
open PySem PySem.Spec PyProof.Rows L2 Nw
/-! find_source: slots 0 rows, 1 paired, 2 quantity, 3 tried, 4 source -/
abbrev s_find_source : Stmt := topS 40
abbrev N_find_source : List Str := ["rows", "paired", "quantity", "tried", "source"]
abbrev P_find_source : List Str := ["rows", "paired", "quantity", "tried"]
theorem sc_find_source : FnScope N_find_source P_find_source (defScope s_find_source) := ⟨rfl, rfl, rfl, by decide +kernel, rfl, by decide +kernel, by decide +kernel⟩
/-- what is known but at D and T stays known -/
abbrev Ex2 (D T : Addr) (H H' : Hp) : Prop := ∀ b o, b ≠ D → b ≠ T → H b = some o → H' b = some o
/-- the rows of sources, as a list of lists -/
structure RowsL (H : Hp) (L : Addr) (as : List Addr) (rows : List (List Int)) : Prop where
  at_ : H L = some (.lst (as.map V.ref))
  len : as.length = rows.length
  row : ∀ (i : Nat) (b : Addr), as[i]? = some b → ∃ r, rows[i]? = some r ∧ H b = some (.lst (r.map V.int))
  rg : ∀ r ∈ rows, ∀ s ∈ r, 0 ≤ s ∧ s < 64
theorem RowsL.up2 {H H' : Hp} {L D T : Addr} {as : List Addr} {rows : List (List Int)} {kd kt : List (Key × V)} (h : RowsL H L as rows) (hD : H D = some (.dK kd)) (hT : H T = some (.dK kt)) (e : Ex2 D T H H') : RowsL H' L as rows := by
  have ne : ∀ {b : Addr} {xs : List V}, H b = some (.lst xs) → b ≠ D ∧ b ≠ T := by
    intro b xs hb
    refine ⟨fun z => ?_, fun z => ?_⟩
    · rw [z, hD] at hb
      cases hb
    · rw [z, hT] at hb
      cases hb
  refine ⟨e _ _ (ne h.at_).1 (ne h.at_).2 h.at_, h.len, fun i b hb => ?_, h.rg⟩
  obtain ⟨r, h1, h2⟩ := h.row i b hb
  exact ⟨r, h1, e _ _ (ne h2).1 (ne h2).2 h2⟩
theorem tried_few {l : List Int} (nd : l.Nodup) (h : ∀ b ∈ l, 0 ≤ b ∧ b < 64) : l.length ≤ 64 := by
  have := apart_few (n := 64) nd h
  exact this
/-- the search as a function -/
def fsG (rec : List (Int × Int) → Int → List Int → Bool × List (Int × Int) × List Int) (q : Int) : List Int → List (Int × Int) → List Int → Bool × List (Int × Int) × List Int
  | [], ps, tr => (false, ps, tr)
  | s :: r, ps, tr => if tr.contains s = true then fsG rec q r ps tr else
    match ps.find? (fun p => p.1 == s) with
    | none => (true, ps ++ [(s, q)], tr)
    | some p => if (rec ps p.2 (tr ++ [s])).1 = true then (true, putI (rec ps p.2 (tr ++ [s])).2.1 s q, tr) else fsG rec q r (rec ps p.2 (tr ++ [s])).2.1 (rec ps p.2 (tr ++ [s])).2.2
def fsN (rows : List (List Int)) : Nat → List (Int × Int) → Int → List Int → Bool × List (Int × Int) × List Int
  | 0, ps, _, tr => (false, ps, tr)
  | n + 1, ps, q, tr => fsG (fsN rows n) q (rows.getD q.toNat []) ps tr
theorem drop_at {α : Type} {r : List α} {j : Nat} {s : α} (h : r[j]? = some s) : r.drop j = s :: r.drop (j + 1) := by
  obtain ⟨h1, h2⟩ := List.getElem?_eq_some_iff.mp h
  rw [List.drop_eq_getElem_cons h1, h2]
section
variable {rec : List (Int × Int) → Int → List Int → Bool × List (Int × Int) × List Int} {q s : Int} {r tr : List Int} {ps : List (Int × Int)}
theorem fsG_skip (h : tr.contains s = true) : fsG rec q (s :: r) ps tr = fsG rec q r ps tr := if_pos h
theorem fsG_free (h : tr.contains s = false) (hf : ps.find? (fun p => p.1 == s) = none) : fsG rec q (s :: r) ps tr = (true, ps ++ [(s, q)], tr) := by
  show (if tr.contains s = true then _ else _) = _
  rw [if_neg (by rw [h]; decide), hf]
theorem fsG_deep {p : Int × Int} (h : tr.contains s = false) (hf : ps.find? (fun p => p.1 == s) = some p) : fsG rec q (s :: r) ps tr = if (rec ps p.2 (tr ++ [s])).1 = true then (true, putI (rec ps p.2 (tr ++ [s])).2.1 s q, tr) else fsG rec q r (rec ps p.2 (tr ++ [s])).2.1 (rec ps p.2 (tr ++ [s])).2.2 := by
  show (if tr.contains s = true then _ else _) = _
  rw [if_neg (by rw [h]; decide), hf]
end
def spn_find_source (n : Nat) (K : PySem.W.Frag) : Sp := fun vs H Q _ => ∃ (L D T : Addr) (as : List Addr) (rows : List (List Int)) (k : Int) (ps : List (Int × Int)) (F tr : List Int) (q : Int),
  vs = [.ref L, .ref D, .int q, .ref T] ∧ RowsL H L as rows ∧ D ≠ T ∧ H D = some (.dK (kvI ps)) ∧ H T = some (.dK (visK tr)) ∧ Fr rows k F ps q ∧ (∀ s ∈ F, s ∈ tr) ∧ tr.Nodup ∧ (∀ s ∈ tr, 0 ≤ s ∧ s < 64) ∧ 64 < n + tr.length ∧
  (0 ≤ q ∧ q < k ∧ k ≤ rows.length) ∧
  (∀ ps' H', Ex2 D T H H' → H' D = some (.dK (kvI ps')) → Got rows k F ps q ps' → (fsN rows n ps q tr).1 = true → (fsN rows n ps q tr).2.1 = ps' → Q (.bl true) H') ∧
  (∀ tr' H', Ex2 D T H H' → H' D = some (.dK (kvI ps)) → H' T = some (.dK (visK tr')) → Miss rows ps q tr tr' → (∀ s ∈ tr', 0 ≤ s ∧ s < 64) → fsN rows n ps q tr = (false, ps, tr') → Q (.bl false) H')
abbrev sp_find_source (K : PySem.W.Frag) : Sp := spn_find_source 65 K
theorem find_mem {ps : List (Int × Int)} {q : Int} {p : Int × Int} (h : (ps.find? fun p => p.1 == q) = some p) : (q, p.2) ∈ ps := by
  have h1 := List.mem_of_find?_eq_some h
  have h2 : p.1 = q := by simpa using List.find?_some h
  rw [← h2]
  exact h1
theorem find_not {ps : List (Int × Int)} {q : Int} (h : (ps.find? fun p => p.1 == q) = none) : ∀ p ∈ ps, p.1 ≠ q := fun p hp e => by
  have := List.find?_eq_none.mp h p hp
  simp [e] at this
theorem keys_few {k : Int} {F : List Int} {ps : List (Int × Int)} (nd : (ps.map (·.1)).Nodup) (h : ∀ p ∈ ps, 0 ≤ p.1 ∧ p.1 < 64) : ps.length ≤ 64 := by
  have := apart_few (n := 64) nd fun b hb => by
    obtain ⟨p, hp, rfl⟩ := List.mem_map.mp hb
    exact h p hp
  rw [List.length_map] at this
  exact this
section
variable {P : Program} {w : World} {K : PySem.W.Frag} {mg : Str → Option Value} {base : Heap}
theorem ok_find_source {f : Addr} {fd : FuncData} (T : Txt K mg) (F : Fun K "find_source" "find_source" s_find_source f fd)
    {n : Nat} (D_find_source : DefOk P w K mg base CX0 (n + 1) "find_source" P_find_source (spn_find_source n K)) :
    FnG P w K mg base CX0 (n + 2) f fd P_find_source (spn_find_source (n + 1) K) := by
  refine okG0 F sc_find_source (fun vs H Q E h => ?_) (fun cdv A outer s H vs Q E hr hq h => ?_)
  · obtain ⟨L, D, T, as, rows, k, ps, F, tr, q, rfl, _⟩ := h
    rfl
  · obtain ⟨L, D, T, as, rows, k, ps, F, tr, q, rfl, hR, DT, hD, hT, fr, hF, nd, hrg, hn, ⟨q0, qk, kl⟩, qy, qn⟩ := h
    refine ⟨_, (pss_cons (ps_for PassesOwn.never rfl (pi_listK K (pe_ix (ix_listK K) (pv 0) (pv 2) (fun _ _ => rfl))) (pg_name (i := 4) sc_find_source.nd rfl (by first | exact .inl rfl | exact .inr rfl)) (pss_one (ps_if (pt_dNotIn hr (pv 4) (pv 3)) (pss_cons (ps_dputK hr (pv 3) (pv 4) pe_bl rfl)
      (pss_one (ps_if (PW.pt (pw_or (pt_dNotIn hr (pv 4) (pv 1)) (pw_or1 (pt_val (pe_callD D_find_source (hr.mono (Nat.le_refl _)) hq pass0 (pa_cons (pv 0) (pa_cons (pv 1) (pa_cons (pe_dgetK hr (pv 1) (pv 4) (fun _ _ => rfl)) (pa_cons (pv 3) pa_nil))))))))) (pss_cons (ps_dputK hr (pv 1) (pv 4) (pv 2) rfl)
      (pss_one (ps_ret pe_bl))) pss_nil))) pss_nil)))
      (pss_one (ps_ret pe_bl))), ?_⟩
    obtain ⟨c, hc⟩ : ∃ c, as[q.toNat]? = some c := ⟨_, List.getElem?_eq_getElem (by rw [hR.len]; omega)⟩
    obtain ⟨r, hr1, hr2⟩ := hR.row _ _ hc
    have sC : SqL K H c (r.map V.int) := .inl (.inl hr2)
    have cD : c ≠ D := fun z => by
      rw [z, hD] at hr2
      cases hr2
    have cT : c ≠ T := fun z => by
      rw [z, hT] at hr2
      cases hr2
    have act : ∀ s, Act rows s q ↔ s ∈ r := fun s => ⟨fun h => by
      obtain ⟨_, r', h1, h2⟩ := h
      rw [hr1] at h1
      obtain rfl := Option.some.inj h1
      exact h2, fun h => ⟨q0, r, hr1, h⟩⟩
    have pl : ps.length ≤ 64 := keys_few (k := k) (F := F) fr.kn fun p hp => by
      by_cases h : p.1 ∈ F
      · exact hrg _ (hF _ h)
      · obtain ⟨⟨_, r', h1, h2⟩, _⟩ := fr.ed p hp h
        exact hR.rg r' (List.mem_of_getElem? h1) p.1 h2
    refine ⟨_, rfl, _, rfl, L, _, q, .ref c, rfl, rfl, .inl (.inl hR.at_), atI_int q0 (by rw [List.getElem?_map, hc]; rfl), c, rfl, ⟨_, sC⟩, ?_⟩
    refine for_by (r.map V.int).length (fun j σ H' => ∃ (y4 : Option V) (tr1 : List Int), σ = [some (V.ref L), some (V.ref D), some (V.int q), some (V.ref T), y4] ∧ Ex2 D T H H' ∧ H' D = some (.dK (kvI ps)) ∧ H' T = some (.dK (visK tr1)) ∧
        tr1.Nodup ∧ (∀ s ∈ tr1, 0 ≤ s ∧ s < 64) ∧ (∀ s ∈ tr, s ∈ tr1) ∧ tr.length ≤ tr1.length ∧ (∀ (i : Nat) (s : Int), i < j → r[i]? = some s → s ∈ tr1) ∧ (∀ s ∈ tr1, s ∈ tr ∨ ∃ r', (s, r') ∈ ps ∧ ∀ s', Act rows s' r' → s' ∈ tr1) ∧ fsG (fsN rows n) q (r.drop j) ps tr1 = fsN rows (n + 1) ps q tr)
      ⟨_, tr, rfl, fun _ _ _ _ h => h, hD, hT, nd, hrg, fun s h => h, Nat.le_refl _, fun i s h => absurd h (Nat.not_lt_zero _), fun s h => .inl h, by show _ = fsG _ q (rows.getD q.toNat []) ps tr; rw [List.drop_zero, List.getD_eq_getElem?_getD, hr1]; rfl⟩ (fun j σ H' hj p => ?_) (fun σ H' p => ?_) ?_ ?_
    · obtain ⟨_, _, _, e, _⟩ := p
      exact itl_go (.inl (.inl (e _ _ cD cT hr2))) Ex.rfl hj
    · obtain ⟨_, _, _, e, _⟩ := p
      exact itl_stop (.inl (.inl (e _ _ cD cT hr2))) Ex.rfl
    · rintro j σ H1 x H2 hj ⟨y4, tr1, rfl, e1, hD1, hT1, nd1, rg1, sub1, le1, row1, cl1, fe1⟩ yy
      obtain ⟨rfl, hx⟩ := itl_yld yy (.inl (.inl (e1 _ _ cD cT hr2))) Ex.rfl
      obtain ⟨s, hs, rfl⟩ := map_at hx
      have hsr := hR.rg r (List.mem_of_getElem? hr1) s (List.mem_of_getElem? hs)
      rw [drop_at hs] at fe1
      refine ⟨_, rfl, _, rfl, T, _, rfl, DGet.k (k := Sum.inl s) hT1, _, rfl, ?_⟩
      rw [visK_get]
      cases hcn : tr1.contains s with
      | true =>
        have hin : s ∈ tr1 := by simpa using hcn
        refine ite2 (fun h => Bool.noConfusion h) (fun _ => ?_)
        refine ⟨_, tr1, rfl, e1, hD1, hT1, nd1, rg1, sub1, le1, fun i s' hi hs' => ?_, cl1, by rw [fsG_skip hcn] at fe1; exact fe1⟩
        by_cases hij : i < j
        · exact row1 i s' hij hs'
        · obtain rfl : i = j := by omega
          rw [hs] at hs'
          obtain rfl := Option.some.inj hs'
          exact hin
      | false =>
        have hin : s ∉ tr1 := fun h => by
          rw [List.contains_iff_mem.mpr h] at hcn
          cases hcn
        refine ite2 (fun _ => ?_) (fun h => absurd rfl h)
        have l28 := tried_few nd1 rg1
        refine ⟨_, rfl, _, rfl, T, _, rfl, DPut.k (k := Sum.inl s) hT1 (mil' (by unfold visK; rw [List.length_map]; omega)), ?_⟩
        rw [visK_put hin]
        have e2 : Ex2 D T H (upd H2 T (.dK (visK (tr1 ++ [s])))) := fun b o h1 h2 h => by
          rw [upd_ne h2]
          exact e1 b o h1 h2 h
        have hD2 : (upd H2 T (.dK (visK (tr1 ++ [s])))) D = some (.dK (kvI ps)) := by
          rw [upd_ne DT]
          exact hD1
        have hT2 : (upd H2 T (.dK (visK (tr1 ++ [s])))) T = some (.dK (visK (tr1 ++ [s]))) := upd_same
        generalize upd H2 T (.dK (visK (tr1 ++ [s]))) = H3 at e2 hD2 hT2
        have nd2 : (tr1 ++ [s]).Nodup := nodup_snoc nd1 hin
        have rg2 : ∀ s' ∈ tr1 ++ [s], 0 ≤ s' ∧ s' < 64 := fun s' h => by
          rcases List.mem_append.mp h with h | h
          · exact rg1 s' h
          · obtain rfl := List.mem_singleton.mp h
            exact hsr
        have sF : s ∉ F := fun h => hin (sub1 s (hF s h))
        have ha : Act rows s q := (act s).mpr (List.mem_of_getElem? hs)
        refine ⟨_, rfl, _, rfl, D, _, rfl, DGet.k (k := Sum.inl s) hD2, _, rfl, ?_⟩
        rw [kvI_get]
        cases hf : ps.find? (fun p => p.1 == s) with
        | none =>
          refine ite2 (fun _ => ?_) (fun h => absurd rfl h)
          refine ⟨_, rfl, _, rfl, _, rfl, D, _, rfl, DPut.k (k := Sum.inl s) hD2 (mil' (by unfold kvI; rw [List.length_map]; omega)), ?_⟩
          rw [kvI_put (find_none.mp hf)]
          refine qy (ps ++ [(s, q)]) _ (fun b o h1 h2 h => ?_) upd_same (fr.free sF (find_not hf) ha qk) (by rw [← fe1, fsG_free hcn hf]) (by rw [← fe1, fsG_free hcn hf])
          rw [upd_ne h1]
          exact e2 b o h1 h2 h
        | some p =>
          have hp := find_mem hf
          have hg : DGet H3 D (.int s) (some (V.int p.2)) := by
            have h := DGet.k (k := Sum.inl s) hD2
            rw [kvI_get, hf] at h
            exact h
          have hed := fr.ed _ hp sF
          refine ite2 (fun h => Bool.noConfusion h) (fun _ => ?_)
          refine ⟨_, rfl, _, rfl, _, rfl, _, rfl, D, _, rfl, hg, _, rfl, L, D, T, as, rows, k, ps, s :: F, tr1 ++ [s], p.2, rfl, hR.up2 hD hT e2, DT, hD2, hT2, fr.deep sF hp, fun s' h => ?_, nd2, rg2, ?_, ⟨hed.1.1, hed.2, kl⟩, fun ps1 H4 e4 hD4 got g1 g2 => ?_, fun tr2 H4 e4 hD4 hT4 miss rg4 m1 => ?_⟩
          · rcases List.mem_cons.mp h with rfl | h
            · simp
            · exact List.mem_append_left _ (sub1 s' (hF s' h))
          · rw [List.length_append, List.length_singleton]
            omega
          · refine ⟨_, rfl, ite2 (fun _ => ?_) (fun h => absurd rfl h)⟩
            have gl : ps1.length ≤ 64 := keys_few (k := k) (F := F) got.kn fun p' hp' => by
              by_cases h : p'.1 ∈ s :: F
              · rcases List.mem_cons.mp h with h | h
                · rw [h]
                  exact hsr
                · exact hrg _ (hF _ h)
              · obtain ⟨⟨_, r', h1, h2⟩, _⟩ := got.ed p' hp' h
                exact hR.rg r' (List.mem_of_getElem? h1) p'.1 h2
            refine ⟨_, rfl, _, rfl, _, rfl, D, _, rfl, DPut.k (k := Sum.inl s) hD4 (mil' (by unfold kvI; rw [List.length_map]; omega)), ?_⟩
            rw [kvI_putI]
            refine qy (putI ps1 s q) _ (fun b o h1 h2 h => ?_) upd_same (fr.found sF hp ha qk got) (by rw [← fe1, fsG_deep hcn hf, if_pos g1]) (by rw [← fe1, fsG_deep hcn hf, if_pos g1, g2])
            rw [upd_ne h1]
            exact e4 b o h1 h2 (e2 b o h1 h2 h)
          · refine ⟨_, rfl, ite2 (fun h => Bool.noConfusion h) (fun _ => ?_)⟩
            refine ⟨_, tr2, rfl, fun b o h1 h2 h => e4 b o h1 h2 (e2 b o h1 h2 h), hD4, hT4, miss.nd, rg4, fun s' h => miss.sub _ (List.mem_append_left _ (sub1 s' h)), ?_, fun i s' hi hs' => ?_, fun s' h => ?_, by rw [fsG_deep hcn hf, if_neg (by rw [m1]; exact fun h => Bool.noConfusion h), m1] at fe1; exact fe1⟩
            · have := rel_len (R := fun a b : Int => a = b) nd (fun a _ b _ x h1 h2 => h1.trans h2.symm) fun a ha => ⟨a, miss.sub _ (List.mem_append_left _ (sub1 a ha)), rfl⟩
              exact this
            · refine miss.sub _ ?_
              by_cases hij : i < j
              · exact List.mem_append_left _ (row1 i s' hij hs')
              · obtain rfl : i = j := by omega
                rw [hs] at hs'
                obtain rfl := Option.some.inj hs'
                simp
            · rcases miss.cl s' h with h1 | h1
              · rcases List.mem_append.mp h1 with h1 | h1
                · rcases cl1 s' h1 with h2 | ⟨r', h2, h3⟩
                  · exact .inl h2
                  · exact .inr ⟨r', h2, fun s'' h4 => miss.sub _ (List.mem_append_left _ (h3 s'' h4))⟩
                · obtain rfl := List.mem_singleton.mp h1
                  exact .inr ⟨p.2, hp, miss.row⟩
              · exact .inr h1
    · rintro σ H1 ⟨y4, tr1, rfl, e1, hD1, hT1, nd1, rg1, sub1, le1, row1, cl1, fe1⟩
      rw [List.length_map] at row1 fe1
      refine qn tr1 H1 e1 hD1 hT1 ⟨nd1, sub1, fun s h => ?_, cl1⟩ rg1 (by rw [List.drop_length] at fe1; exact fe1.symm)
      obtain ⟨i, hi⟩ := List.getElem?_of_mem ((act s).mp h)
      exact row1 i s (List.getElem?_eq_some_iff.mp hi).1 hi
theorem ok_find_source_all {f : Addr} {fd : FuncData} (T : Txt K mg) (F : Fun K "find_source" "find_source" s_find_source f fd) (hm : mg "find_source" = some (.ref f)) (hk : PySem.W.keepIn K (.ref f) = true) (hb : Binds K fd P_find_source []) :
    ∀ n : Nat, DefOk P w K mg base CX0 (n + 1) "find_source" P_find_source (spn_find_source n K)
  | 0 => ⟨f, fd, okG0 F sc_find_source (fun vs H Q E h => by
      obtain ⟨L, D, T, as, rows, k, ps, F, tr, q, rfl, _⟩ := h
      rfl) (fun cdv A outer s H vs Q E hr hq h => by
      obtain ⟨L, D, T, as, rows, k, ps, F, tr, q, _, _, _, _, _, _, _, nd, hrg, hn, _⟩ := h
      have := tried_few nd hrg
      omega), hm, hk, hb⟩
  | n + 1 => ⟨f, fd, ok_find_source T F (ok_find_source_all T F hm hk hb n), hm, hk, hb⟩
end

end K65
namespace K65
open PySem PySem.Spec PyProof.Rows L2 Nw
/-! targets_of_paired: slots 0 web, 1 rows, 2 paired, 3 quantity -/
abbrev s_targets_of_paired : Stmt := topS 39
abbrev N_targets_of_paired : List Str := ["web", "rows", "paired", "quantity"]
abbrev P_targets_of_paired : List Str := ["web"]
theorem sc_targets_of_paired : FnScope N_targets_of_paired P_targets_of_paired (defScope s_targets_of_paired) := ⟨rfl, rfl, rfl, by decide +kernel, rfl, by decide +kernel, by decide +kernel⟩
/-- for each quantity the sources that act on it -/
def rowsU (u : Wb) : List (List Int) := (List.range u.n.toNat).map fun s : Nat => srcsOf u.lines (s : Int)
theorem rowsU_len (u : Wb) : (rowsU u).length = u.n.toNat := by
  unfold rowsU
  rw [List.length_map, List.length_range]
theorem rowsU_at {u : Wb} {i : Nat} (h : i < u.n.toNat) : (rowsU u)[i]? = some (srcsOf u.lines (i : Int)) := by
  unfold rowsU
  rw [List.getElem?_map, List.getElem?_range h]
  rfl
theorem srcs_rg {u : Wb} (hu : Wb.Wd u) {q s : Int} (h : s ∈ srcsOf u.lines q) : 0 ≤ s ∧ s < 64 := by
  unfold srcsOf at h
  obtain ⟨p, hp, rfl⟩ := List.mem_map.mp h
  have h1 := (hu.line p (List.mem_filter.mp hp).1).1
  have h2 := srcN_leW hu
  have h3 := src_castW u hu
  omega
theorem rowsL_of {H H' : Hp} {p : Addr} {as : List Addr} {u : Wb} (hu : Wb.Wd u) (r : RowsAt H H' p as u.n.toNat (fun s => srcsOf u.lines (s : Int))) : RowsL H' p as (rowsU u) := by
  refine ⟨r.at_, by rw [r.len, rowsU_len], fun i b hb => ?_, fun x hx s hs => ?_⟩
  · have hi := (List.getElem?_eq_some_iff.mp hb).1
    rw [r.len] at hi
    exact ⟨_, rowsU_at hi, r.row i b hb⟩
  · unfold rowsU at hx
    obtain ⟨i, _, rfl⟩ := List.mem_map.mp hx
    exact srcs_rg hu hs
/-- the greatest pairing that is told -/
def tpN (rows : List (List Int)) : Nat → List (Int × Int)
  | 0 => []
  | i + 1 => (fsN rows 65 (tpN rows i) (i : Int) []).2.1
def tpU (u : Wb) : List (Int × Int) := tpN (rowsU u) u.n.toNat
def sp_targets_of_paired (K : PySem.W.Frag) : Sp := fun vs H Q _ => ∃ v u, vs = [v] ∧ Da K H (Wb.d u) v ∧ Wb.Wd u ∧ ∀ D ps H', Ex H H' → H D = none → H' D = some (.dK (kvI ps)) → Top (rowsU u) u.n ps → ps = tpU u → Q (.ref D) H'
section
variable {P : Program} {w : World} {K : PySem.W.Frag} {mg : Str → Option Value} {base : Heap}
theorem ok_targets_of_paired {f : Addr} {fd : FuncData} (T : Txt K mg) (F : Fun K "targets_of_paired" "targets_of_paired" s_targets_of_paired f fd)
    (D_source_rows : DefOk P w K mg base CX0 2 "source_rows" P_source_rows (sp_source_rows K))
    (D_find_source : DefOk P w K mg base CX0 66 "find_source" P_find_source (sp_find_source K)) :
    FnG P w K mg base CX0 67 f fd P_targets_of_paired (sp_targets_of_paired K) := by
  refine okG0 F sc_targets_of_paired (fun vs H Q E h => ?_) (fun cdv A outer s H vs Q E hr hq h => ?_)
  · obtain ⟨v, u, rfl, _⟩ := h
    rfl
  · obtain ⟨v, u, rfl, hd, hu, q⟩ := h
    obtain ⟨tw, x2, x3, rfl, hS, g2, g3⟩ := Wb.at hd
    have b1 := hu.lo
    have b2 := hu.hi
    refine ⟨_, (pss_cons (ps_set (i := 1) sc_targets_of_paired.nd rfl (by first | exact .inl rfl | exact .inr rfl) (pe_callD D_source_rows (hr.mono (by decide)) hq pass0 (pa_cons (pv 0) pa_nil)))
      (pss_cons (ps_set (i := 2) sc_targets_of_paired.nd rfl (by first | exact .inl rfl | exact .inr rfl) pe_dnewK)
      (pss_cons (ps_for PassesOwn.never rfl (pi_range1 (by rfl) T.b_range (pa_cons (pe_ix (ix_seqK K) (pv 0) pe_int (fun _ _ => rfl)) pa_nil)) (pg_name (i := 3) sc_targets_of_paired.nd rfl (by first | exact .inl rfl | exact .inr rfl)) (pss_one (ps_expr (pe_callD D_find_source (hr.mono (by decide)) hq pass0 (pa_cons (pv 1) (pa_cons (pv 2) (pa_cons (pv 3) (pa_cons pe_dnewK pa_nil))))))))
      (pss_one (ps_ret (pv 2)))))), ?_⟩
    refine ⟨_, rfl, _, u, rfl, hd, hu, fun L as H1 R => ?_⟩
    have e1 := R.ex
    have RL := rowsL_of hu R
    refine fun D hD => ?_
    have e2 : Ex H1 (upd H1 D (.dK (kvI []))) := Ex.nw hD
    have hD2 : (upd H1 D (.dK (kvI []))) D = some (.dK (kvI [])) := upd_same
    have RL2 : RowsL (upd H1 D (.dK (kvI []))) L as (rowsU u) := ⟨e2 _ _ RL.at_, RL.len, fun i b hb => by
      obtain ⟨r, h1, h2⟩ := RL.row i b hb
      exact ⟨r, h1, e2 _ _ h2⟩, RL.rg⟩
    have DH := e1.fr hD
    refine ⟨_, rfl, .inr (.inl ⟨tw, _, 0, _, rfl, rfl, (e1.tr e2).t hS, rfl, ?_⟩)⟩
    refine ⟨_, rfl, by omega, by omega, ?_⟩
    refine for_by u.n.toNat (fun i σ H' => ∃ (y3 : Option V) (ps : List (Int × Int)), σ = [some (V.ref tw), some (V.ref L), some (V.ref D), y3] ∧ Ex H H' ∧ RowsL H' L as (rowsU u) ∧ H' D = some (.dK (kvI ps)) ∧ Top (rowsU u) (i : Int) ps ∧ ps = tpN (rowsU u) i)
      ⟨_, [], rfl, e1.tr e2, RL2, hD2, top0 _, rfl⟩ (fun i σ H' hi p => hi) (fun σ H' p => Nat.le_refl _) ?_ ?_
    · rintro i σ H3 x H4 hi ⟨y3, ps, rfl, e3, R3, hD3, top, tpe⟩ ⟨rfl, rfl⟩
      have ez : (0 + (i : Int)) = (i : Int) := Int.zero_add _
      rw [ez]
      refine ⟨_, rfl, _, rfl, _, rfl, fun T hT => ?_⟩
      have e4 : Ex H4 (upd H4 T (.dK [])) := Ex.nw hT
      have hT4 : (upd H4 T (.dK [])) T = some (.dK (visK [])) := upd_same
      have DT : D ≠ T := fun z => by
        rw [← z, hD3] at hT
        cases hT
      have R4 : RowsL (upd H4 T (.dK [])) L as (rowsU u) := ⟨e4 _ _ R3.at_, R3.len, fun i b hb => by
        obtain ⟨r, h1, h2⟩ := R3.row i b hb
        exact ⟨r, h1, e4 _ _ h2⟩, R3.rg⟩
      have hD4 := e4 _ _ hD3
      have TH := e3.fr hT
      generalize upd H4 T (.dK []) = H5 at e4 hT4 R4 hD4
      have back : ∀ {H6 : Hp}, Ex2 D T H5 H6 → Ex H H6 := fun e b o h => e b o (fun z => by rw [z, DH] at h; cases h) (fun z => by rw [z, TH] at h; cases h) (e4 _ _ (e3 _ _ h))
      refine ⟨L, D, T, as, rowsU u, (i : Int) + 1, ps, [], [], (i : Int), rfl, R4, DT, hD4, hT4, top.fr, fun s h => (by cases h), List.nodup_nil, fun s h => (by cases h), by decide, ⟨by omega, by omega, by rw [rowsU_len]; omega⟩, fun ps' H6 e6 hD6 got g1 g2 => ?_, fun tr' H6 e6 hD6 hT6 miss _ m1 => ?_⟩
      · exact ⟨_, ps', rfl, back e6, R4.up2 hD4 hT4 e6, hD6, top.got got, by rw [tpe] at g2; exact g2.symm⟩
      · exact ⟨_, ps, rfl, back e6, R4.up2 hD4 hT4 e6, hD6, top.miss miss, by show ps = (fsN (rowsU u) 65 (tpN (rowsU u) i) (i : Int) []).2.1; rw [← tpe, m1]⟩
    · rintro σ H3 ⟨y3, ps, rfl, e3, R3, hD3, top, tpe⟩
      have en : ((u.n.toNat : Nat) : Int) = u.n := Int.toNat_of_nonneg (by omega)
      rw [en] at top
      exact ⟨_, rfl, q D ps H3 e3 DH hD3 top tpe⟩
end

end K65
namespace K65
open PySem PySem.Spec PyProof.Rows L2 Nw
/-! reached_quantities: slots 0 web, 1 pushed, 2 nudge, 3 target -/
abbrev s_reached_quantities : Stmt := topS 32
abbrev N_reached_quantities : List Str := ["web", "pushed", "nudge", "target"]
abbrev P_reached_quantities : List Str := ["web"]
theorem sc_reached_quantities : FnScope N_reached_quantities P_reached_quantities (defScope s_reached_quantities) := ⟨rfl, rfl, rfl, by decide +kernel, rfl, by decide +kernel, by decide +kernel⟩
/-- what ways from nudges lead to -/
def Rd (u : Wb) (b : Int) : Prop := ∃ q ∈ u.ns.flatten, Rch u.ps q b
theorem flat_take {α : Type} {l : List (List α)} {i : Nat} {r : List α} (h : l[i]? = some r) : (l.take (i + 1)).flatten = (l.take i).flatten ++ r := by
  rw [List.take_add_one, h, List.flatten_append]
  simp
theorem flat_few {m k : Nat} : ∀ {l : List (List Int)}, (∀ r ∈ l, r.length ≤ m) → l.length ≤ k → l.flatten.length ≤ m * k
  | [], _, _ => Nat.zero_le _
  | r :: l, h, hl => by
    have h1 := h r (by simp)
    have h2 := flat_few (m := m) (k := k - 1) (l := l) (fun x hx => h x (List.mem_cons_of_mem _ hx)) (by rw [List.length_cons] at hl; omega)
    rw [List.flatten_cons, List.length_append]
    have hk : k = (k - 1) + 1 := by rw [List.length_cons] at hl; omega
    rw [hk, Nat.mul_succ]
    omega
theorem row_ps {u : Wb} (hn : ∀ r ∈ u.ns, ∀ t ∈ r, 0 ≤ t ∧ t < u.n) {s t : Int} (hs : s < u.n) : t ∈ rowOf u.lines s ↔ (s, t) ∈ u.ps := by
  rw [mem_rowOf]
  unfold Wb.lines
  rw [List.mem_append]
  constructor
  · rintro (h | h)
    · exact h
    · have := (pushed_ok hn _ h).1
      simp only at this
      omega
  · exact .inl
def sp_reached_quantities (K : PySem.W.Frag) : Sp := fun vs H Q _ => ∃ (v : V) (u : Wb), vs = [v] ∧ Da K H (Wb.d u) v ∧ u.Ok ∧
  ∀ (D : Addr) (vis : List Int) H', Ex H H' → H' D = some (.dK (visK vis)) → vis.Nodup → (∀ b, b ∈ vis ↔ Rd u b) → Q (.ref D) H'
section
variable {P : Program} {w : World} {K : PySem.W.Frag} {mg : Str → Option Value} {base : Heap}
theorem ok_reached_quantities {f : Addr} {fd : FuncData} (T : Txt K mg) (F : Fun K "reached_quantities" "reached_quantities" s_reached_quantities f fd)
    (D_target_rows : DefOk P w K mg base CX0 2 "target_rows" P_target_rows (sp_target_rows K))
    (D_quantities_behind : DefOk P w K mg base CX0 1 "quantities_behind" P_quantities_behind (sp_quantities_behind K)) :
    FnG P w K mg base CX0 3 f fd P_reached_quantities (sp_reached_quantities K) := by
  refine okG0 F sc_reached_quantities (fun vs H Q E h => ?_) (fun cdv A outer s H vs Q E hr hq h => ?_)
  · obtain ⟨v, u, rfl, _⟩ := h
    rfl
  · obtain ⟨v, u, rfl, hd, hu, q⟩ := h
    obtain ⟨tw, x2, x3, rfl, hS, g2, ⟨a3, xs, rfl, hL3, hA3, hz3⟩⟩ := Wb.at hd
    have b1 := hu.lo
    have b2 := hu.hi
    have b3 := hu.few
    have hl3 := hA3.len
    rw [List.length_map] at hl3
    have ff : u.ns.flatten.length ≤ 160 := flat_few (m := 20) (k := 8) (fun r hr => hu.row hr) b3
    refine ⟨_, (pss_cons (ps_setLc2 (i := 1) (own := [("nudge", 2), ("target", 3)]) (vs1 := [3]) rfl sc_reached_quantities.nd rfl rfl (sw_true rfl rfl rfl (by decide +kernel)) (pi_listK K (pe_ix (ix_seqK K) (pv 0) pe_int (fun _ _ => rfl))) (blkOk_by (N := N_reached_quantities) (sc := defScope s_reached_quantities) (by decide +kernel)) (by decide) (fun _ _ _ _ _ => (pg_name (i := 2) sc_reached_quantities.nd rfl (by first | exact .inl rfl | exact .inr rfl))) (fun _ _ _ _ _ => pts_nil) (fun _ _ _ _ _ => (pi_listK K (pv 2))) (fun _ _ _ _ _ => (pg_name (i := 3) sc_reached_quantities.nd rfl (by first | exact .inl rfl | exact .inr rfl))) (fun _ _ _ _ _ => pts_nil) (fun _ _ _ _ _ => (pv 3)))
      (pss_one (ps_ret (pe_callD D_quantities_behind (hr.mono (by decide)) hq pass0 (pa_cons (pe_callD D_target_rows (hr.mono (by decide)) hq pass0 (pa_cons (pv 0) pa_nil)) (pa_cons (pv 1) pa_nil)))))), ?_⟩
    refine ⟨_, rfl, .inr (.inl ⟨tw, _, 2, _, rfl, rfl, hS, rfl, a3, rfl, ⟨_, .inl (.inl hL3)⟩, fun D hD => ?_⟩)⟩
    have s3 : SqL K H a3 xs := .inl (.inl hL3)
    refine lc2_by xs.length (fun i H' => Ex H H' ∧ H' D = some (.lst ((u.ns.take i).flatten.map V.int)))
      ⟨Ex.nw hD, upd_same⟩ (fun i H' hi p => itl_go s3 p.1 hi) (fun H' p => itl_stop s3 p.1) ?_ ?_
    · rintro i H1 x H2 hi ⟨e1, hD1⟩ y
      obtain ⟨rfl, hx⟩ := itl_yld y s3 e1
      obtain ⟨dr, hdr, hxd⟩ := hA3.at' hx
      obtain ⟨r, hrr, rfl⟩ := map_at hdr
      obtain ⟨ar, rfl, hLr⟩ := dInts_at hxd
      have sR := e1.l hLr
      refine ⟨rfl, _, rfl, ar, rfl, ⟨_, sR⟩, ?_⟩
      refine lci_by (r.map V.int).length (fun j H' => Ex H H' ∧ H' D = some (.lst (((u.ns.take i).flatten ++ r.take j).map V.int)))
        ⟨e1, by rw [List.take_zero, List.append_nil]; exact hD1⟩ (fun j H' hj p => itl_go hLr p.1 hj) (fun H' p => itl_stop hLr p.1) ?_ ?_
      · rintro j H7 x H8 hj ⟨e7, hD7⟩ y7
        obtain ⟨rfl, hx7⟩ := itl_yld y7 hLr e7
        obtain ⟨t, ht7, rfl⟩ := map_at hx7
        have lt : ((u.ns.take i).flatten ++ r.take j).length ≤ 200 := by
          have h1 := flat_few (m := 20) (k := 8) (l := u.ns.take i) (fun r hr => hu.row (List.mem_of_mem_take hr)) (by rw [List.length_take]; omega)
          have h2 := hu.row (List.mem_of_getElem? hrr)
          rw [List.length_append, List.length_take]
          omega
        refine ⟨rfl, _, rfl, _, hD7, mil' (by rw [List.length_map]; omega), e7.wr hD, ?_⟩
        rw [upd_same, List.take_add_one, ht7, ← List.append_assoc, List.map_append (l₁ := _ ++ _)]
        rfl
      · rintro H7 ⟨e7, hD7⟩
        rw [List.length_map, List.take_length, ← flat_take hrr] at hD7
        exact ⟨e7, hD7⟩
    · rintro H1 ⟨e1, hD1⟩
      rw [← hl3, List.take_length] at hD1
      refine ⟨_, rfl, .ref tw, u, rfl, hd.up e1, hu, fun L as H2 R => ?_⟩
      have hD2 := R.ex _ _ hD1
      have rgq : ∀ q ∈ u.ns.flatten, 0 ≤ q ∧ q < u.n := fun q hq => by
        obtain ⟨r, h1, h2⟩ := List.mem_flatten.mp hq
        exact (hu.ns r h1).2.1 q h2
      refine ⟨_, rfl, L, D, as, fun s => rowOf u.lines (s : Int), u.n, u.ps, u.ns.flatten, rfl, R.at_, R.row, ⟨by rw [R.len]; omega, b2⟩, hu.ps, fun s hs t => row_ps (fun r hr => (hu.ns r hr).2.1) hs, fun s => ?_, .inl (.inl hD2), rgq, by omega, fun D2 vis H3 hD3 e3 hV nd hm => ?_⟩
      · have h1 := hu.lines_len
        have h2 : (rowOf u.lines (s : Int)).length ≤ u.lines.length := by
          unfold rowOf
          rw [List.length_map]
          exact List.length_filter_le _ _
        show (rowOf u.lines (s : Int)).length ≤ 2000
        omega
      · exact q D2 vis H3 (e1.tr (R.ex.tr e3)) hV nd hm
end

end K65
namespace K65
open PySem PySem.Spec PyProof.Rows L2 Nw
/-! all_rooms: slots 0 web, 1 rows, 2 behind, 3 quantity, 4 found, 5 room, 6 other -/
abbrev s_all_rooms : Stmt := topS 34
abbrev N_all_rooms : List Str := ["web", "rows", "behind", "quantity", "found", "room", "other"]
abbrev P_all_rooms : List Str := ["web"]
theorem sc_all_rooms : FnScope N_all_rooms P_all_rooms (defScope s_all_rooms) := ⟨rfl, rfl, rfl, by decide +kernel, rfl, by decide +kernel, by decide +kernel⟩
theorem asc_ext : ∀ {a b : List Int}, ascB ltIn a = true → ascB ltIn b = true → (∀ x, x ∈ a ↔ x ∈ b) → a = b
  | [], [], _, _, _ => rfl
  | [], y :: b, _, _, h => absurd ((h y).mpr (by simp)) (by simp)
  | x :: a, [], _, _, h => absurd ((h x).mp (by simp)) (by simp)
  | x :: a, y :: b, ha, hb, h => by
    obtain ⟨a1, a2⟩ := ascI_tail ha
    obtain ⟨b1, b2⟩ := ascI_tail hb
    have e : x = y := by
      rcases List.mem_cons.mp ((h x).mp (by simp)) with e | h1
      · exact e
      · rcases List.mem_cons.mp ((h y).mpr (by simp)) with e | h2
        · exact e.symm
        · have := ltIn_yes (a1 y h2)
          have := ltIn_yes (b1 x h1)
          omega
    subst e
    rw [asc_ext a2 b2 fun z => ?_]
    constructor
    · intro hz
      have := ltIn_yes (a1 z hz)
      rcases List.mem_cons.mp ((h z).mp (List.mem_cons_of_mem _ hz)) with e | h1
      · omega
      · exact h1
    · intro hz
      have := ltIn_yes (b1 z hz)
      rcases List.mem_cons.mp ((h z).mpr (List.mem_cons_of_mem _ hz)) with e | h1
      · omega
      · exact h1
theorem asc_of_le {l : List Int} (h : l.Pairwise (· ≤ ·)) (nd : l.Nodup) : ascB ltIn l = true :=
  asc_pw (by
    refine (h.and nd).imp fun {a b} hab => decide_eq_true ?_
    have := hab.1
    have := hab.2
    omega)
theorem visK_keys {vis : List Int} : ((visK vis).map fun kv => kV kv.1) = vis.map V.int := by
  unfold visK
  rw [List.map_map]
  rfl
theorem mem_rowOf {ls : List (Int × Int)} {s t : Int} : t ∈ rowOf ls s ↔ (s, t) ∈ ls := by
  unfold rowOf
  rw [List.mem_map]
  constructor
  · rintro ⟨⟨a, b⟩, h, rfl⟩
    obtain ⟨h1, h2⟩ := List.mem_filter.mp h
    have h3 : a = s := by simpa using h2
    rw [← h3]
    exact h1
  · intro h
    exact ⟨(s, t), List.mem_filter.mpr ⟨h, by simp⟩, rfl⟩
theorem mem_row {u : Wb} (hu : u.Ok) {s t : Int} (hs : s < u.n) : t ∈ rowOf u.lines s ↔ (s, t) ∈ u.ps := by
  rw [row_low hu hs]
  exact mem_rowOf
theorem rup {H H1 H2 : Hp} {ns : List (List Int)} {L : Addr} {bs : List Addr} (h : NewR H H1 ns L bs) (e : Ex H1 H2) : NewR H H2 ns L bs :=
  ⟨h.ex.tr e, h.new, e _ _ h.at_, h.len, fun k b hb => ⟨(h.row k b hb).1, by
    obtain ⟨r, h1, h2⟩ := (h.row k b hb).2
    exact ⟨r, h1, e _ _ h2⟩⟩, h.nd⟩
/-- all rooms -/
def sp_all_rooms (K : PySem.W.Frag) : Sp := fun vs H Q _ => ∃ v u, vs = [v] ∧ Da K H (Wb.d u) v ∧ u.Ok ∧ ∀ L bs H', NewR H H' (roomsOf u.ps u.n) L bs → Q (.ref L) H'
section
open Classical
variable {P : Program} {w : World} {K : PySem.W.Frag} {mg : Str → Option Value} {base : Heap}
theorem ok_all_rooms {f : Addr} {fd : FuncData} (T : Txt K mg) (F : Fun K "all_rooms" "all_rooms" s_all_rooms f fd)
    (D_target_rows : DefOk P w K mg base CX0 2 "target_rows" P_target_rows (sp_target_rows K))
    (D_quantities_behind : DefOk P w K mg base CX0 1 "quantities_behind" P_quantities_behind (sp_quantities_behind K)) :
    FnG P w K mg base CX0 3 f fd P_all_rooms (sp_all_rooms K) := by
  refine okG0 F sc_all_rooms (fun vs H Q E h => ?_) (fun cdv A outer s H vs Q E hr hq h => ?_)
  · obtain ⟨v, u, rfl, _⟩ := h
    rfl
  · obtain ⟨v, u, rfl, hd, hu, q⟩ := h
    obtain ⟨t, x2, x3, rfl, hS, g2, g3⟩ := Wb.at hd
    have b1 := hu.lo
    have b2 := hu.hi
    have b3 := hu.few
    refine ⟨_, (pss_cons (ps_set (i := 1) sc_all_rooms.nd rfl (by first | exact .inl rfl | exact .inr rfl) (pe_callD D_target_rows (hr.mono (by decide)) hq pass0 (pa_cons (pv 0) pa_nil)))
      (pss_cons (ps_set (i := 2) sc_all_rooms.nd rfl (by first | exact .inl rfl | exact .inr rfl) (pe_lc (own := [("quantity", 3)]) rfl sc_all_rooms.nd (pi_range1 (by rfl) T.b_range (pa_cons (pe_ix (ix_seqK K) (pv 0) pe_int (fun _ _ => rfl)) pa_nil)) (blkOk_by (N := N_all_rooms) (sc := defScope s_all_rooms) (by decide +kernel)) (fun _ _ _ _ _ => (pg_name (i := 3) sc_all_rooms.nd rfl (by first | exact .inl rfl | exact .inr rfl))) (fun _ _ _ _ _ => pts_nil) (fun _ _ _ _ _ => (pe_callD D_quantities_behind (hr.mono (by decide)) hq pass0 (pa_cons (pv 1) (pa_cons (pe_lst (pa_cons (pv 3) pa_nil)) pa_nil))))))
      (pss_cons (ps_set (i := 4) sc_all_rooms.nd rfl (by first | exact .inl rfl | exact .inr rfl) (pe_lst pa_nil))
      (pss_cons (ps_for PassesOwn.never rfl (pi_range1 (by rfl) T.b_range (pa_cons (pe_ix (ix_seqK K) (pv 0) pe_int (fun _ _ => rfl)) pa_nil)) (pg_name (i := 3) sc_all_rooms.nd rfl (by first | exact .inl rfl | exact .inr rfl)) (pss_cons (ps_setLc (i := 5) (own := [("other", 6)]) rfl sc_all_rooms.nd rfl rfl (sw_true rfl rfl rfl (by decide +kernel)) (pi_listK K (pe_callTy (call_list_dK rfl) (by rfl) T.b_list bt_list (pa_cons (pe_ix (ix_listK K) (pv 2) (pv 3) (fun _ _ => rfl)) pa_nil))) (blkOk_by (N := N_all_rooms) (sc := defScope s_all_rooms) (by decide +kernel)) (fun _ _ _ _ _ => (pg_name (i := 6) sc_all_rooms.nd rfl (by first | exact .inl rfl | exact .inr rfl))) (fun _ _ _ _ _ => (pts_one (pt_dIn hr (pv 3) (pe_ix (ix_listK K) (pv 2) (pv 6) (fun _ _ => rfl))))) (fun _ _ _ _ _ => (pv 6)))
      (pss_one (ps_if (pt_cmpR op_eq (pv 3) (pe_callB (cr_minK' K rfl) (by rfl) T.b_min bt_min (pa_cons (pv 5) pa_nil)) (nomark _)) (pss_one (ps_expr (pe_bm PySem.F.plainAttrs_list PySem.F.slot_list_append PySem.F.type_list_append mt_append (pv 4) (pa_cons (pe_callB (cr_sortedIk K) (by rfl) T.b_sorted bt_sorted (pa_cons (pv 5) pa_nil)) pa_nil)))) pss_nil))))
      (pss_one (ps_ret (pv 4))))))), ?_⟩
    refine ⟨_, rfl, _, u, rfl, hd, hu, fun a as H1 R1 => ?_⟩
    have hS1 : SqT K H1 t _ := R1.ex.t hS
    refine ⟨_, rfl, .inr (.inl ⟨t, _, 0, _, rfl, rfl, hS1, rfl, ?_⟩)⟩
    refine ⟨_, rfl, by omega, by omega, fun B hB => ?_⟩
    have HB := R1.ex.fr hB
    refine lc_by u.n.toNat (fun i H' => Ex H1 H' ∧ ∃ ds : List Addr, H' B = some (.lst (ds.map V.ref)) ∧ ds.length = i ∧
        ∀ (k : Nat) (d : Addr), ds[k]? = some d → d ≠ B ∧ ∃ vis, H' d = some (.dK (visK vis)) ∧ vis.Nodup ∧ ∀ b, b ∈ vis ↔ Rch u.ps (k : Int) b)
      ⟨Ex.nw hB, [], upd_same, rfl, fun k d h => by simp at h⟩ (fun i H' hi p => (by show i < _; omega)) (fun H' p => (by show _ ≤ u.n.toNat; omega)) ?_ ?_
    · rintro i H9 x H2 hi ⟨e2, ds, hB2, hlen, hall⟩ ⟨rfl, rfl⟩
      rw [show (0 : Int) + (i : Int) = (i : Int) by omega]
      refine ⟨rfl, ?_⟩
      refine ⟨_, rfl, _, rfl, by show 1 ≤ sizeLine; decide, fun C hC => ?_⟩
      have CB : C ≠ B := fun e => by
        rw [e, hB2] at hC
        cases hC
      have eC : Ex H2 (upd H2 C (.lst [.int (i : Int)])) := Ex.nw hC
      have hC3 : (upd H2 C (.lst [.int (i : Int)])) C = some (.lst [.int (i : Int)]) := upd_same
      have hB3 := eC _ _ hB2
      generalize upd H2 C (.lst [.int (i : Int)]) = H3 at eC hC3 hB3
      have e3 := e2.tr eC
      refine ⟨a, C, as, fun s => rowOf u.lines (s : Int), u.n, u.ps, [(i : Int)], rfl, e3 _ _ R1.at_, fun s b hb => e3 _ _ (R1.row s b hb), ⟨by rw [R1.len]; omega, b2⟩, hu.ps, fun s hs t => ?_, fun s => ?_, .inl (.inl hC3), fun q0 hq0 => ?_, by rw [List.length_singleton]; decide, fun D vis H4 hD e4 hD4 nd hv => ?_⟩
      · exact mem_row hu hs
      · show (rowOf u.lines (s : Int)).length ≤ 2000
        have h1 := rowOf_len u.lines (s : Int)
        have h2 := hu.lines_len
        omega
      · obtain rfl := List.mem_singleton.mp hq0
        omega
      · have DB : D ≠ B := fun e => by
          rw [e, hB3] at hD
          cases hD
        refine ⟨ds.map V.ref, e4 _ _ hB3, mil' (by rw [List.length_map]; omega), (e3.tr e4).wr hB, ds ++ [D], ?_, ?_, ?_⟩
        · rw [upd_same, List.map_append]
          rfl
        · rw [List.length_append, hlen]
          rfl
        · intro k d hk
          by_cases hkl : k < ds.length
          · rw [List.getElem?_append_left hkl] at hk
            obtain ⟨d1, v1, d2, d3, d4⟩ := hall k d hk
            exact ⟨d1, v1, by rw [upd_ne d1]; exact e4 _ _ (eC _ _ d2), d3, d4⟩
          · have hk' : k = ds.length := by
              obtain ⟨z, _⟩ := List.getElem?_eq_some_iff.mp hk
              rw [List.length_append, List.length_singleton] at z
              omega
            subst hk'
            rw [List.getElem?_concat_length] at hk
            cases hk
            refine ⟨DB, vis, by rw [upd_ne DB]; exact hD4, nd, fun b => ?_⟩
            rw [hv b, hlen]
            exact ⟨fun ⟨q0, h1, h2⟩ => by
              obtain rfl := List.mem_singleton.mp h1
              exact h2, fun h => ⟨_, List.mem_singleton.mpr rfl, h⟩⟩
    · rintro H2 ⟨e2, ds, hB2, hlen, hall⟩
      refine ⟨Nat.zero_le _, fun F2 hF2 => ?_⟩
      have e02 := R1.ex.tr e2
      have R2 : NewR H (upd H2 F2 (.lst [])) (roomsTo u.ps u.n 0) F2 [] := ⟨e02.tr (Ex.nw hF2), e02.fr hF2, upd_same, rfl, fun k b hb => by simp at hb, List.nodup_nil⟩
      have e3 : Ex H2 (upd H2 F2 (.lst [])) := Ex.nw hF2
      generalize upd H2 F2 (.lst []) = H3 at R2 e3
      refine ⟨_, rfl, .inr (.inl ⟨t, _, 0, _, rfl, rfl, (e02.tr e3).t hS, rfl, ?_⟩)⟩
      refine ⟨_, rfl, by omega, by omega, ?_⟩
      refine for_by u.n.toNat (fun i σ H' => ∃ y3 y5 y6, σ = [some (V.ref t), some (V.ref a), some (V.ref B), y3, some (V.ref F2), y5, y6] ∧ Ex H2 H' ∧ ∃ bs, NewR H H' (roomsTo u.ps u.n i) F2 bs)
        ⟨_, _, _, rfl, e3, [], R2⟩ (fun i σ H' hi p => (by show i < _; omega)) (fun σ H' p => (by show _ ≤ u.n.toNat; omega)) ?_ ?_
      · rintro i σ H9 x H4 hi ⟨y3, y5, y6, rfl, e4, bs, R4⟩ ⟨rfl, rfl⟩
        rw [show (0 : Int) + (i : Int) = (i : Int) by omega]
        have hin : (i : Int) < u.n := by omega
        have hk := List.getElem?_eq_getElem (show i < ds.length by omega)
        generalize ds[i] = d at hk
        obtain ⟨dB, vis, hd2, nd, hv⟩ := hall i d hk
        have hd4 := e4 _ _ hd2
        have hB4 := e4 _ _ hB2
        refine ⟨_, rfl, _, rfl, B, _, (i : Int), .ref d, rfl, rfl, .inl (.inl hB4), atI_int (by omega) (by rw [List.getElem?_map, Int.toNat_natCast, hk]; rfl), d, _, rfl, hd4, fun C hC => ?_⟩
        rw [visK_keys]
        have eC : Ex H4 (upd H4 C (.lst (vis.map V.int))) := Ex.nw hC
        have hC5 : (upd H4 C (.lst (vis.map V.int))) C = some (.lst (vis.map V.int)) := upd_same
        generalize upd H4 C (.lst (vis.map V.int)) = H5 at eC hC5
        have sC : SqL K H5 C (vis.map V.int) := .inl (.inl hC5)
        refine ⟨C, rfl, ⟨_, sC⟩, fun G hG => ?_⟩
        refine lc_by (vis.map V.int).length (fun j H' => Ex H5 H' ∧ H' G = some (.lst (((vis.take j).filter fun b => decide (Rch u.ps b (i : Int))).map V.int)))
          ⟨Ex.nw hG, upd_same⟩ (fun j H' hj pv => itl_go sC pv.1 hj) (fun H' pv => itl_stop sC pv.1) ?_ ?_
        · rintro j H6 x H7 hj ⟨e6, hG6⟩ y
          obtain ⟨rfl, hx⟩ := itl_yld y sC e6
          obtain ⟨b, hb, rfl⟩ := map_at hx
          have hbr : 0 ≤ b ∧ b < u.n := Rch.inn hu.ps ((hv b).mp (List.mem_of_getElem? hb)) ⟨by omega, hin⟩
          have hkb := List.getElem?_eq_getElem (show b.toNat < ds.length by omega)
          generalize ds[b.toNat] = db at hkb
          obtain ⟨dbB, visb, hdb2, ndb, hvb⟩ := hall _ db hkb
          rw [show ((b.toNat : Nat) : Int) = b by omega] at hvb
          have e46 := e4.tr (eC.tr e6)
          have hdb6 := e46 _ _ hdb2
          have hB6 := e46 _ _ hB2
          refine ⟨rfl, _, rfl, _, rfl, _, rfl, B, _, b, .ref db, rfl, rfl, .inl (.inl hB6), atI_int hbr.1 (by rw [List.getElem?_map, hkb]; rfl), db, _, rfl, DGet.k (k := Sum.inl (i : Int)) hdb6, _, rfl, ?_⟩
          rw [visK_get, take_snoc hb, List.filter_append, List.map_append, List.filter_cons, List.filter_nil]
          have hlt := nd_few nd (n := u.n) fun b hb => Rch.inn hu.ps ((hv b).mp hb) ⟨by omega, hin⟩
          refine ite2 (fun h => ?_) (fun h => ?_)
          · have hb2 : Rch u.ps b (i : Int) := (hvb _).mp (List.contains_iff_mem.mp h)
            refine ⟨_, rfl, _, hG6, mil' ?_, e6.wr hG, ?_⟩
            · rw [List.length_map]
              have := List.length_filter_le (fun b => decide (Rch u.ps b (i : Int))) (vis.take j)
              rw [List.length_take] at this
              omega
            · rw [upd_same, if_pos (decide_eq_true hb2)]
              rfl
          · have hb2 : ¬ Rch u.ps b (i : Int) := fun r => h (List.contains_iff_mem.mpr ((hvb _).mpr r))
            refine ⟨e6, ?_⟩
            rw [if_neg (by rw [decide_eq_false hb2]; decide), List.map_nil, List.append_nil]
            exact hG6
        · rintro H6 ⟨e6, hG6⟩
          rw [List.length_map, List.take_length] at hG6
          have hrm : ∀ b, b ∈ (vis.filter fun b => decide (Rch u.ps b (i : Int))) ↔ b ∈ roomOf u.ps u.n (i : Int) := fun b => by
            rw [List.mem_filter, hv b, mem_room, decide_eq_true_eq]
            exact ⟨fun h => ⟨Rch.inn hu.ps h.1 ⟨by omega, hin⟩, h.1, h.2⟩, fun h => ⟨h.2.1, h.2.2⟩⟩
          have hrn : (vis.filter fun b => decide (Rch u.ps b (i : Int))).Nodup := nd.filter _
          generalize (vis.filter fun b => decide (Rch u.ps b (i : Int))) = room at hG6 hrm hrn
          have hself : (i : Int) ∈ room := (hrm _).mpr (room_self ⟨by omega, hin⟩)
          refine ⟨_, rfl, _, rfl, G, room, rfl, .inl (.inl hG6), List.length_pos_of_mem hself, fun m hm hml => ⟨rfl, _, rfl, ?_⟩⟩
          have hhead : (roomOf u.ps u.n (i : Int)).head? = some m := room_head ((hrm m).mp hm) fun y hy => hml y ((hrm y).mpr hy)
          have e46 : Ex H4 H6 := eC.tr e6
          rw [roomsTo_step hin]
          refine ite2 (fun h => ?_) (fun h => ?_)
          · have hm2 : m = (i : Int) := by
              have h2 : (i : Int) = m := by simpa using h
              exact h2.symm
            rw [if_pos (show isHead u.ps u.n (i : Int) = true from decide_eq_true (by rw [hhead, hm2]))]
            have hF6 := e46 _ _ R4.at_
            refine ⟨_, rfl, .inl ⟨rfl, _, .inl (.inl hF6)⟩, _, rfl, G, room, rfl, .inl (.inl hG6), fun r S hperm hsort hS => ?_⟩
            have hr : r = roomOf u.ps u.n (i : Int) := asc_ext (asc_of_le hsort (hperm.nodup_iff.mpr hrn)) asc_room fun y => hperm.mem_iff.trans (hrm y)
            subst hr
            have eS : Ex H6 (upd H6 S (.lst ((roomOf u.ps u.n (i : Int)).map V.int))) := Ex.nw hS
            refine ⟨F2, _, _, rfl, rfl, eS _ _ hF6, mil' ?_, ?_⟩
            · rw [List.length_map, R4.len]
              have := roomsTo_len (ps := u.ps) (n := u.n) (k := i)
              omega
            · exact ⟨_, _, _, rfl, (e4.tr (e46.tr eS)).wr hF2, bs ++ [S], R4.snoc (e46.tr eS) (e46.fr hS) upd_same⟩
          · have hm2 : ¬ m = (i : Int) := fun e => h (by rw [e]; simp)
            rw [if_neg (show ¬ isHead u.ps u.n (i : Int) = true from fun e => by
              have := of_decide_eq_true e
              rw [hhead] at this
              exact hm2 (Option.some.inj this))]
            exact ⟨_, _, _, rfl, e4.tr e46, bs, rup R4 e46⟩
      · rintro σ H4 ⟨y3, y5, y6, rfl, e4, bs, R4⟩
        exact ⟨_, rfl, q F2 bs H4 R4⟩
end

end K65
namespace K65
open PySem PySem.Spec PyProof.Rows L2 Nw
/-! are_in_one: slots 0 found, 1 quantity, 2 other, 3 room -/
abbrev s_are_in_one : Stmt := topS 35
abbrev N_are_in_one : List Str := ["found", "quantity", "other", "room"]
abbrev P_are_in_one : List Str := ["found", "quantity", "other"]
theorem sc_are_in_one : FnScope N_are_in_one P_are_in_one (defScope s_are_in_one) := ⟨rfl, rfl, rfl, by decide +kernel, rfl, by decide +kernel, by decide +kernel⟩
theorem inV_int {q : Int} {r : List Int} : inV (.int q) (r.map V.int) = r.contains q := by
  rw [Bool.eq_iff_iff]
  unfold inV
  rw [List.any_map, List.any_eq_true, List.contains_iff_mem]
  constructor
  · rintro ⟨y, hy, h⟩
    have : y = q := by simpa [eqV] using h
    rw [← this]
    exact hy
  · intro h
    exact ⟨q, h, by simp [eqV]⟩
theorem flat_ints {r : List Int} : (r.map V.int).all flatV = true := by
  rw [List.all_map, List.all_eq_true]
  intro x _
  rfl
/-- rooms, at their places -/
def RoomsIn (H : Hp) (L : Addr) (bs : List Addr) (rs : List (List Int)) : Prop :=
  H L = some (.lst (bs.map V.ref)) ∧ bs.length = rs.length ∧ (∀ (k : Nat) (b : Addr), bs[k]? = some b → ∃ r, rs[k]? = some r ∧ H b = some (.lst (r.map V.int))) ∧ rs.length ≤ 20
theorem RoomsIn.up {H H' : Hp} {L : Addr} {bs : List Addr} {rs : List (List Int)} (h : RoomsIn H L bs rs) (e : Ex H H') : RoomsIn H' L bs rs :=
  ⟨e _ _ h.1, h.2.1, fun k b hb => by
    obtain ⟨r, h1, h2⟩ := h.2.2.1 k b hb
    exact ⟨r, h1, e _ _ h2⟩, h.2.2.2⟩
def sp_are_in_one (K : PySem.W.Frag) : Sp := fun vs H Q _ => ∃ L bs rs s t, vs = [.ref L, .int s, .int t] ∧ RoomsIn H L bs rs ∧ ∀ H', Ex H H' → Q (.bl (inOne rs s t)) H'
section
variable {P : Program} {w : World} {K : PySem.W.Frag} {mg : Str → Option Value} {base : Heap}
theorem ok_are_in_one {f : Addr} {fd : FuncData} (T : Txt K mg) (F : Fun K "are_in_one" "are_in_one" s_are_in_one f fd) :
    FnG P w K mg base CX0 1 f fd P_are_in_one (sp_are_in_one K) := by
  refine okG0 F sc_are_in_one (fun vs H Q E h => ?_) (fun cdv A outer s H vs Q E hr hq h => ?_)
  · obtain ⟨L, bs, rs, s1, t, rfl, _⟩ := h
    rfl
  · obtain ⟨L, bs, rs, s1, t, rfl, hR, q⟩ := h
    have sL : SqL K H L (bs.map V.ref) := .inl (.inl hR.1)
    have hl := hR.2.1
    have hz := hR.2.2.2
    refine ⟨_, (pss_one (ps_ret (pe_callB (cr_anyK K rfl) (by rfl) T.b_any bt_any (pa_cons (pe_lc (own := [("room", 3)]) rfl sc_are_in_one.nd (pi_listK K (pv 0)) (blkOk_by (N := N_are_in_one) (sc := defScope s_are_in_one) (by decide +kernel)) (fun _ _ _ _ _ => (pg_name (i := 3) sc_are_in_one.nd rfl (by first | exact .inl rfl | exact .inr rfl))) (fun _ _ _ _ _ => pts_nil) (fun _ _ _ _ _ => (pe_and (pe_cmpR (op_inK K) (pv 1) (pv 3) (by rfl)) (pe_one (pe_cmpR (op_inK K) (pv 2) (pv 3) (by rfl)))))) pa_nil)))), ?_⟩
    refine ⟨_, rfl, L, rfl, ⟨_, sL⟩, fun D hD => ?_⟩
    refine lc_by (bs.map V.ref).length (fun i H' => Ex H H' ∧ H' D = some (.lst (((rs.take i).map fun r => r.contains s1 && r.contains t).map V.bl)))
      ⟨Ex.nw hD, upd_same⟩ (fun i H' hi p => itl_go sL p.1 hi) (fun H' p => itl_stop sL p.1) ?_ ?_
    · rintro i H3 x H4 hi ⟨e3, hD3⟩ y
      obtain ⟨rfl, hx⟩ := itl_yld y sL e3
      obtain ⟨b, hb, rfl⟩ := map_at hx
      obtain ⟨r, hr1, hr2⟩ := hR.2.2.1 i b hb
      have hr4 := e3 _ _ hr2
      have hsz : (((rs.take i).map fun r => r.contains s1 && r.contains t).map V.bl).length < sizeLine := mil' (by
        rw [List.length_map, List.length_map, List.length_take]
        omega)
      refine ⟨rfl, _, rfl, _, rfl, b, _, rfl, .inl (.inl (.inl hr4)), rfl, flat_ints, _, rfl, ?_⟩
      rw [show (if false = true then !inV (.int s1) (r.map V.int) else inV (.int s1) (r.map V.int)) = r.contains s1 from inV_int]
      rw [take_snoc hr1, List.map_append, List.map_append]
      refine ite2 (fun h => ?_) (fun h => ?_)
      · refine ⟨_, rfl, _, rfl, b, _, rfl, .inl (.inl (.inl hr4)), rfl, flat_ints, _, hD3, hsz, e3.wr hD, ?_⟩
        rw [show (if false = true then !inV (.int t) (r.map V.int) else inV (.int t) (r.map V.int)) = r.contains t from inV_int, upd_same, List.map_cons, h]
        rfl
      · refine ⟨_, hD3, hsz, e3.wr hD, ?_⟩
        rw [upd_same, List.map_cons, Bool.eq_false_iff.mpr h]
        rfl
    · rintro H3 ⟨e3, hD3⟩
      rw [List.length_map, hl, List.take_length] at hD3
      refine ⟨D, _, rfl, .inl (.inl hD3), ?_⟩
      rw [List.any_map]
      exact q H3 e3
end

end K65
namespace K65
open PySem PySem.Spec PyProof.Rows L2 Nw
/-! rooms: slots 0 web -/
abbrev s_rooms : Stmt := topS 29
abbrev N_rooms : List Str := ["web"]
abbrev P_rooms : List Str := ["web"]
theorem sc_rooms : FnScope N_rooms P_rooms (defScope s_rooms) := ⟨rfl, rfl, rfl, by decide +kernel, rfl, by decide +kernel, by decide +kernel⟩
def sp_rooms (K : PySem.W.Frag) : Sp := fun vs H Q _ => ∃ v u, vs = [v] ∧ Da K H (Wb.d u) v ∧ u.Ok ∧ ∀ L bs H', NewR H H' (roomsOf u.ps u.n) L bs → Q (.ref L) H'
theorem rebase {H H1 H2 : Hp} {ns : List (List Int)} {L : Addr} {bs : List Addr} (e : Ex H H1) (h : NewR H1 H2 ns L bs) : NewR H H2 ns L bs :=
  ⟨e.tr h.ex, e.fr h.new, h.at_, h.len, fun k b hb => ⟨⟨e.fr (h.row k b hb).1.1, (h.row k b hb).1.2⟩, (h.row k b hb).2⟩, h.nd⟩
section
variable {P : Program} {w : World} {K : PySem.W.Frag} {mg : Str → Option Value} {base : Heap}
theorem ok_rooms {f : Addr} {fd : FuncData} (T : Txt K mg) (F : Fun K "rooms" "rooms" s_rooms f fd)
    (D_check_web : DefOk P w K mg base CX0 7 "check_web" P_check_web (sp_check_web K))
    (D_all_rooms : DefOk P w K mg base CX0 3 "all_rooms" P_all_rooms (sp_all_rooms K)) :
    FnG P w K mg base CX0 8 f fd P_rooms (sp_rooms K) := by
  refine okG0 F sc_rooms (fun vs H Q E h => ?_) (fun cdv A outer s H vs Q E hr hq h => ?_)
  · obtain ⟨v, u, rfl, _⟩ := h
    rfl
  · obtain ⟨v, u, rfl, hd, hu, q⟩ := h
    refine ⟨_, (pss_cons (ps_expr (pe_callD D_check_web (hr.mono (by decide)) hq pass0 (pa_cons (pv 0) pa_nil)))
      (pss_one (ps_ret (pe_callD D_all_rooms (hr.mono (by decide)) hq pass0 (pa_cons (pv 0) pa_nil))))), ?_⟩
    refine ⟨_, rfl, _, _, rfl, hd, hu.web, fun H1 e1 => ?_⟩
    exact ⟨_, rfl, _, u, rfl, hd.up e1, hu, fun L bs H2 R => q L bs H2 (rebase e1 R)⟩
end

/-! first_rooms: slots 0 web, 1 found, 2 entered, 3 source, 4 target, 5 room, 6 quantity -/
abbrev s_first_rooms : Stmt := topS 30
abbrev N_first_rooms : List Str := ["web", "found", "entered", "source", "target", "room", "quantity"]
abbrev P_first_rooms : List Str := ["web"]
theorem sc_first_rooms : FnScope N_first_rooms P_first_rooms (defScope s_first_rooms) := ⟨rfl, rfl, rfl, by decide +kernel, rfl, by decide +kernel, by decide +kernel⟩
theorem zip_at {α β : Type} {xs : List α} {ys : List β} (hl : xs.length = ys.length) {z : α × β} (h : z ∈ xs.zip ys) : ∃ j : Nat, xs[j]? = some z.1 ∧ ys[j]? = some z.2 := by
  obtain ⟨j, hj⟩ := List.getElem?_of_mem h
  rw [List.getElem?_zip_eq_some] at hj
  exact ⟨j, hj.1, hj.2⟩
theorem zip_filter {α β : Type} {f : β → Bool} : ∀ {xs : List α} {ys : List β}, xs.length = ys.length → ((xs.zip ys).filter fun z => f z.2).map (·.2) = ys.filter f
  | [], [], _ => rfl
  | [], _ :: _, h => by simp at h
  | _ :: _, [], h => by simp at h
  | x :: xs, y :: ys, h => by
    have ih := zip_filter (f := f) (xs := xs) (ys := ys) (by simpa using h)
    rw [List.zip_cons_cons, List.filter_cons, List.filter_cons]
    by_cases hf : f y = true
    · rw [if_pos hf, if_pos hf, List.map_cons, ih]
    · rw [if_neg hf, if_neg hf, ih]
def sp_first_rooms (K : PySem.W.Frag) : Sp := fun vs H Q _ => ∃ v u, vs = [v] ∧ Da K H (Wb.d u) v ∧ u.Ok ∧ ∀ L bs H', NewR H H' (firstOf u.ps u.n) L bs → Q (.ref L) H'
section
variable {P : Program} {w : World} {K : PySem.W.Frag} {mg : Str → Option Value} {base : Heap}
theorem ok_first_rooms {f : Addr} {fd : FuncData} (T : Txt K mg) (F : Fun K "first_rooms" "first_rooms" s_first_rooms f fd)
    (D_check_web : DefOk P w K mg base CX0 7 "check_web" P_check_web (sp_check_web K))
    (D_all_rooms : DefOk P w K mg base CX0 3 "all_rooms" P_all_rooms (sp_all_rooms K))
    (D_are_in_one : DefOk P w K mg base CX0 1 "are_in_one" P_are_in_one (sp_are_in_one K)) :
    FnG P w K mg base CX0 8 f fd P_first_rooms (sp_first_rooms K) := by
  refine okG0 F sc_first_rooms (fun vs H Q E h => ?_) (fun cdv A outer s H vs Q E hr hq h => ?_)
  · obtain ⟨v, u, rfl, _⟩ := h
    rfl
  · obtain ⟨v, u, rfl, hd, hu, q⟩ := h
    have b2 := hu.hi
    have b4 := hu.len
    refine ⟨_, (pss_cons (ps_expr (pe_callD D_check_web (hr.mono (by decide)) hq pass0 (pa_cons (pv 0) pa_nil)))
      (pss_cons (ps_set (i := 1) sc_first_rooms.nd rfl (by first | exact .inl rfl | exact .inr rfl) (pe_callD D_all_rooms (hr.mono (by decide)) hq pass0 (pa_cons (pv 0) pa_nil)))
      (pss_cons (ps_set (i := 2) sc_first_rooms.nd rfl (by first | exact .inl rfl | exact .inr rfl) (pe_lc (own := [("source", 3), ("target", 4)]) rfl sc_first_rooms.nd (pi_listK K (pe_ix (ix_seqK K) (pv 0) pe_int (fun _ _ => rfl))) (blkOk_by (N := N_first_rooms) (sc := defScope s_first_rooms) (by decide +kernel)) (fun _ _ _ _ _ => (pg_tupK (n := 2) K rfl (pgs_cons (pg_name (i := 3) sc_first_rooms.nd rfl (by first | exact .inl rfl | exact .inr rfl)) (pgs_cons (pg_name (i := 4) sc_first_rooms.nd rfl (by first | exact .inl rfl | exact .inr rfl)) pgs_nil)))) (fun _ _ _ _ _ => (pts_one (pt_not (pt_val (pe_callD D_are_in_one (hr.mono (by decide)) hq pass0 (pa_cons (pv 1) (pa_cons (pv 3) (pa_cons (pv 4) pa_nil)))))))) (fun _ _ _ _ _ => (pv 4))))
      (pss_one (ps_ret (pe_lc (own := [("room", 5)]) rfl sc_first_rooms.nd (pi_listK K (pv 1)) (blkOk_by (N := N_first_rooms) (sc := defScope s_first_rooms) (by decide +kernel)) (fun _ _ _ _ _ => (pg_name (i := 5) sc_first_rooms.nd rfl (by first | exact .inl rfl | exact .inr rfl))) (fun _ _ _ _ _ => (pts_one (pt_not (pt_val (pe_callB (cr_anyK K rfl) (by rfl) T.b_any bt_any (pa_cons (pe_lc (own := [("quantity", 6)]) rfl sc_first_rooms.nd (pi_listK K (pv 5)) (blkOk_by (by kernel_rfl)) (fun _ _ _ _ _ => (pg_name (i := 6) sc_first_rooms.nd rfl (by first | exact .inl rfl | exact .inr rfl))) (fun _ _ _ _ _ => pts_nil) (fun _ _ _ _ _ => (pe_cmpR (op_inK K) (pv 6) (pv 2) (by rfl)))) pa_nil)))))) (fun _ _ _ _ _ => (pv 5)))))))), ?_⟩
    refine ⟨_, rfl, _, _, rfl, hd, hu.web, fun H0 e0 => ?_⟩
    refine ⟨_, rfl, _, u, rfl, hd.up e0, hu, fun L bs H1 R0 => ?_⟩
    have R := rebase e0 R0
    have hlen : (roomsOf u.ps u.n).length ≤ 20 := by
      have := roomsTo_len (ps := u.ps) (n := u.n) (k := u.n.toNat)
      unfold roomsOf
      omega
    have RI : RoomsIn H1 L bs (roomsOf u.ps u.n) := ⟨R.at_, R.len, fun k b hb => (R.row k b hb).2, hlen⟩
    obtain ⟨t, x2, x3, rfl, hS, g2, g3⟩ := Wb.at (hd.up R.ex)
    obtain ⟨a2, ys, rfl, hL2, hA2, hz2⟩ := g2
    have hY : SqL K H1 a2 ys := .inl (.inl hL2)
    have hl2 := hA2.len
    rw [List.length_map] at hl2
    refine ⟨_, rfl, .inr (.inl ⟨t, _, 1, _, rfl, rfl, hS, rfl, ?_⟩)⟩
    refine ⟨a2, rfl, ⟨_, hY⟩, fun D hD => ?_⟩
    refine lc_by ys.length (fun i H' => Ex H1 H' ∧ H' D = some (.lst ((((u.ps.take i).filter fun p => !inOne (roomsOf u.ps u.n) p.1 p.2).map (·.2)).map V.int)))
      ⟨Ex.nw hD, upd_same⟩ (fun i H' hi p => itl_go hY p.1 hi) (fun H' p => itl_stop hY p.1) ?_ ?_
    · rintro i H3 x H4 hi ⟨e3, hD3⟩ y
      obtain ⟨rfl, hx⟩ := itl_yld y hY e3
      obtain ⟨p, hp, b, rfl, hSb⟩ := pairs_at hA2 hx
      refine ⟨b, _, rfl, e3.t hSb, rfl, _, _, rfl, _, _, rfl, rfl, rfl, ?_⟩
      refine ⟨_, rfl, _, rfl, _, rfl, L, bs, roomsOf u.ps u.n, p.1, p.2, rfl, RI.up e3, fun H5 e5 => ⟨_, rfl, ?_⟩⟩
      have hD5 := e5 _ _ hD3
      rw [take_snoc hp, List.filter_append, List.map_append, List.map_append, List.filter_cons, List.filter_nil]
      refine ite2 (fun h => ?_) (fun h => ?_)
      · refine ⟨_, rfl, _, hD5, mil' ?_, (e3.tr e5).wr hD, ?_⟩
        · rw [List.length_map, List.length_map]
          have h1 := List.length_filter_le (fun p : Int × Int => !inOne (roomsOf u.ps u.n) p.1 p.2) (u.ps.take i)
          rw [List.length_take] at h1
          omega
        · rw [upd_same, if_pos h]
          rfl
      · refine ⟨e3.tr e5, ?_⟩
        rw [if_neg h, List.map_nil, List.map_nil, List.append_nil]
        exact hD5
    · rintro H3 ⟨e3, hD3⟩
      rw [← hl2, List.take_length] at hD3
      generalize hent : (u.ps.filter fun p => !inOne (roomsOf u.ps u.n) p.1 p.2).map (·.2) = ent at hD3
      have hfe : ∀ r ∈ roomsOf u.ps u.n, isFirst u.ps r = !(r.any fun q => ent.contains q) := fun r hr => by
        rw [← hent]
        exact first_eq hr
      have RI3 := RI.up e3
      generalize hrs : roomsOf u.ps u.n = rs at RI3 hfe hlen R
      have sL : SqL K H3 L (bs.map V.ref) := .inl (.inl RI3.1)
      have hl := RI3.2.1
      refine ⟨_, rfl, L, rfl, ⟨_, sL⟩, fun G hG => ?_⟩
      refine lc_by (bs.map V.ref).length (fun i H' => Ex H3 H' ∧ H' G = some (.lst ((((bs.zip rs).take i).filter fun z => isFirst u.ps z.2).map fun z => V.ref z.1)))
        ⟨Ex.nw hG, upd_same⟩ (fun i H' hi p => itl_go sL p.1 hi) (fun H' p => itl_stop sL p.1) ?_ ?_
      · rintro i H4 x H5 hi ⟨e4, hG4⟩ y
        obtain ⟨rfl, hx⟩ := itl_yld y sL e4
        obtain ⟨b, hb, rfl⟩ := map_at hx
        obtain ⟨r, hr1, hr2⟩ := RI3.2.2.1 i b hb
        have hr5 := e4 _ _ hr2
        have hz : (bs.zip rs)[i]? = some (b, r) := List.getElem?_zip_eq_some.mpr ⟨hb, hr1⟩
        have hrl : r.length ≤ 20 := by
          have h1 : r ∈ roomsOf u.ps u.n := by
            rw [hrs]
            exact List.mem_of_getElem? hr1
          obtain ⟨a, _, rfl⟩ := mem_rooms h1
          have := room_len (ps := u.ps) (n := u.n) (a := a)
          omega
        have sR : SqL K H5 b (r.map V.int) := .inl (.inl hr5)
        refine ⟨rfl, _, rfl, b, rfl, ⟨_, sR⟩, fun C hC => ?_⟩
        refine lc_by (r.map V.int).length (fun j H' => Ex H5 H' ∧ H' C = some (.lst (((r.take j).map fun q => ent.contains q).map V.bl)))
          ⟨Ex.nw hC, upd_same⟩ (fun j H' hj p => itl_go sR p.1 hj) (fun H' p => itl_stop sR p.1) ?_ ?_
        · rintro j H6 x H7 hj ⟨e6, hC6⟩ y
          obtain ⟨rfl, hx⟩ := itl_yld y sR e6
          obtain ⟨k, hk, rfl⟩ := map_at hx
          have hD7 := (e4.tr e6) _ _ hD3
          refine ⟨rfl, _, rfl, _, rfl, D, _, rfl, .inl (.inl (.inl hD7)), rfl, flat_ints, _, hC6, mil' ?_, e6.wr hC, ?_⟩
          · rw [List.length_map, List.length_map, List.length_take]
            omega
          · rw [show (if false = true then !inV (.int k) (ent.map V.int) else inV (.int k) (ent.map V.int)) = ent.contains k from inV_int, upd_same, take_snoc hk, List.map_append, List.map_append]
            rfl
        · rintro H6 ⟨e6, hC6⟩
          rw [List.length_map, List.take_length] at hC6
          refine ⟨C, _, rfl, .inl (.inl hC6), _, rfl, ?_⟩
          have hG6 := e6 _ _ hG4
          rw [List.any_map, show (r.any (id ∘ fun q => ent.contains q)) = (r.any fun q => ent.contains q) from rfl]
          show (if (!(r.any fun q => ent.contains q)) = true then _ else _)
          rw [← hfe r (List.mem_of_getElem? hr1)]
          rw [take_snoc hz, List.filter_append, List.map_append, List.filter_cons, List.filter_nil]
          refine ite2 (fun h => ?_) (fun h => ?_)
          · refine ⟨_, rfl, _, hG6, mil' ?_, (e4.tr e6).wr hG, ?_⟩
            · rw [List.length_map]
              have h1 := List.length_filter_le (fun z : Addr × List Int => isFirst u.ps z.2) ((bs.zip rs).take i)
              rw [List.length_take, List.length_zip] at h1
              omega
            · rw [upd_same, if_pos h]
              rfl
          · refine ⟨e4.tr e6, ?_⟩
            rw [if_neg h, List.map_nil, List.append_nil]
            exact hG6
      · rintro H4 ⟨e4, hG4⟩
        rw [List.length_map, List.take_of_length_le (by rw [List.length_zip]; omega)] at hG4
        have e14 := e3.tr e4
        refine q G (((bs.zip rs).filter fun z => isFirst u.ps z.2).map (·.1)) H4 ⟨R.ex.tr e14, R.ex.fr (e3.fr hG), by rw [List.map_map]; exact hG4, ?_, ?_, ?_⟩
        · unfold firstOf
          rw [hrs, ← zip_filter (f := isFirst u.ps) hl, List.length_map, List.length_map]
        · intro k b hb
          obtain ⟨z, hz, rfl⟩ := map_at hb
          obtain ⟨j, hj1, hj2⟩ := zip_at hl (List.mem_filter.mp (List.mem_of_getElem? hz)).1
          obtain ⟨n1, r, n2, n3⟩ := R.row j z.1 hj1
          rw [hj2] at n2
          cases n2
          refine ⟨⟨n1.1, fun e => ?_⟩, z.2, ?_, e14 _ _ n3⟩
          · have h2 := e3 _ _ n3
            rw [e, hG] at h2
            cases h2
          · unfold firstOf
            rw [hrs, ← zip_filter (f := isFirst u.ps) hl, List.getElem?_map, hz]
            rfl
        · have h1 : ((bs.zip rs).map (·.1)) = bs := List.map_fst_zip (by omega)
          refine List.Sublist.nodup (l₂ := bs) ?_ R.nd
          rw [← h1]
          exact List.Sublist.map _ (by rw [h1]; exact List.filter_sublist)
end

end K65
namespace K65
open PySem PySem.Spec PyProof.Rows L2 Nw
/-! _law_tap: slots 0 _law_cell, 1 _law_turn, 2 _law_whole -/
abbrev s_tap : Stmt := topS 45
abbrev N_tap : List Str := ["_law_cell", "_law_turn", "_law_whole"]
abbrev P_tap : List Str := ["_law_cell", "_law_turn"]
theorem sc_tap : FnScope N_tap P_tap (defScope s_tap) := ⟨rfl, rfl, rfl, by decide +kernel, rfl, by decide +kernel, by decide +kernel⟩
/-- a tap: as a purse, whose numbers stay small -/
abbrev Tap (H : Hp) (p : Addr) : Prop := Purse H p 5000000000
def sp_tap (K : PySem.W.Frag) : Sp := fun vs H Q _ => ∃ (c k : Int), vs = [.int c, .int k] ∧ (0 ≤ k ∧ k ≤ 63) ∧ ∀ p H', H p = none → Ex H H' → Tap H' p → Q (.ref p) H'
section
variable {P : Program} {w : World} {K : PySem.W.Frag} {mg : Str → Option Value} {base : Heap}
theorem ok_tap {f : Addr} {fd : FuncData} (T : Txt K mg) (F : Fun K "_law_tap" "_law_tap" s_tap f fd) :
    FnG P w K mg base CX0 1 f fd P_tap (sp_tap K) := by
  refine okG0 F sc_tap (fun vs H Q E h => ?_) (fun cdv A outer s H vs Q E hr hq h => ?_)
  · obtain ⟨c, k, rfl, _⟩ := h
    rfl
  · obtain ⟨c, k, rfl, hk, q⟩ := h
    refine ⟨_, (pss_cons (ps_set (i := 2) sc_tap.nd rfl (by first | exact .inl rfl | exact .inr rfl) (pe_op op_add (pe_op op_mul pe_int (pe_callB call_abs (by rfl) T.b_abs bt_abs (pa_cons (pv 0) pa_nil))) (pe_callTy call_int1 (by rfl) T.b_int bt_int (pa_cons (pe_cmpR op_lt (pv 0) pe_int (nomark _)) pa_nil))))
      (pss_one (ps_ret (pe_lst (pa_cons (pv 2) (pa_cons (pe_op op_add (pe_op op_add (pe_op op_modN (pe_callTy call_int1 (by rfl) T.b_int bt_int (pa_cons (pv 2) pa_nil)) pe_int) (pe_op op_mul pe_int (pv 1))) pe_int) (pa_cons (pe_op op_add (pe_op op_add (pe_op op_modN (pe_callTy call_int1 (by rfl) T.b_int bt_int (pa_cons (pv 2) pa_nil)) pe_int) (pe_op op_mul pe_int (pv 1))) pe_int) pa_nil))))))), ?_⟩
    refine ⟨_, rfl, _, rfl, _, _, rfl, rfl, .inl ⟨by decide, by decide⟩, _, rfl, _, _, rfl, rfl, .inr ⟨_, rfl, _, _, rfl, rfl, ?_⟩⟩
    have h0 : 0 ≤ 2 * (if c < 0 then -c else c) + (if decide (c < 0) then 1 else 0) := by
      by_cases h : c < 0
      · rw [if_pos h]
        split <;> omega
      · rw [if_neg h]
        split <;> omega
    have h1 := fmod_in (a := 2 * (if c < 0 then -c else c) + (if decide (c < 0) then 1 else 0)) (m := 4294967291) (by decide)
    have h2 := fmod_in (a := 2 * (if c < 0 then -c else c) + (if decide (c < 0) then 1 else 0)) (m := 2147483587) (by decide)
    refine ⟨_, rfl, _, rfl, .inl ⟨_, rfl, _, _, rfl, rfl, (by decide : (4294967291 : Int) ≠ 0), _, rfl, _, _, rfl, rfl, .inl ⟨by decide, by decide⟩, _, _, rfl, rfl, _, _, rfl, rfl, ?_⟩⟩
    refine ⟨_, rfl, .inl ⟨_, rfl, _, _, rfl, rfl, (by decide : (2147483587 : Int) ≠ 0), _, rfl, _, _, rfl, rfl, .inl ⟨by decide, by decide⟩, _, _, rfl, rfl, _, _, rfl, rfl, ?_⟩⟩
    refine ⟨by show 3 ≤ sizeLine; decide, fun p hp => ?_⟩
    exact q p _ hp (Ex.nw hp) ⟨_, _, _, upd_same, h0, ⟨by omega, by rw [p42]; omega⟩, by omega, by omega⟩
end

/-! _law_draw: slots 0 _law_tap_here, 1 _law_bound, 2 _law_found -/
abbrev s_draw : Stmt := topS 46
abbrev N_draw : List Str := ["_law_tap_here", "_law_bound", "_law_found"]
abbrev P_draw : List Str := ["_law_tap_here", "_law_bound"]
theorem sc_draw : FnScope N_draw P_draw (defScope s_draw) := ⟨rfl, rfl, rfl, by decide +kernel, rfl, by decide +kernel, by decide +kernel⟩
def sp_draw (K : PySem.W.Frag) : Sp := fun vs H Q _ => ∃ (p : Addr) (m : Int), vs = [.ref p, .int m] ∧ (0 < m ∧ m < 1000000000000000000000000000000000000000000000000000000000000) ∧ Tap H p ∧
  ∀ z H', (0 ≤ z ∧ z < m) → Tap H' p → ExD p H H' → Q (.int z) H'
section
variable {P : Program} {w : World} {K : PySem.W.Frag} {mg : Str → Option Value} {base : Heap}
theorem ok_draw {f : Addr} {fd : FuncData} (T : Txt K mg) (F : Fun K "_law_draw" "_law_draw" s_draw f fd) :
    FnG P w K mg base CX0 1 f fd P_draw (sp_draw K) := by
  refine okG0 F sc_draw (fun vs H Q E h => ?_) (fun cdv A outer s H vs Q E hr hq h => ?_)
  · obtain ⟨p, m, rfl, _⟩ := h
    rfl
  · obtain ⟨p, m, rfl, hm, ⟨b, c, e, hp, hb, hc, he⟩, q⟩ := h
    have hS : SqL K H p [.int b, .int c, .int e] := .inl (.inl hp)
    refine ⟨_, (pss_cons (ps_if (pt_cmpR op_ge (pe_ix (ix_listK K) (pv 0) pe_int (fun _ _ => rfl)) (pe_op op_powW pe_int pe_int) (nomark _)) (pss_cons (ps_set (i := 2) sc_draw.nd rfl (by first | exact .inl rfl | exact .inr rfl) (pe_op op_modN (pe_callTy call_int1 (by rfl) T.b_int bt_int (pa_cons (pe_ix (ix_listK K) (pv 0) pe_int (fun _ _ => rfl)) pa_nil)) (pv 1)))
      (pss_cons (ps_asg (pe_op op_fdivW (pe_ix (ix_listK K) (pv 0) pe_int (fun _ _ => rfl)) (pv 1)) (pg_sub (pv 0) pe_int set_list))
      (pss_one (ps_ret (pv 2))))) pss_nil)
      (pss_cons (ps_asg (pe_op op_modN (pe_callTy call_int1 (by rfl) T.b_int bt_int (pa_cons (pe_op op_add (pe_op op_mul (pe_ix (ix_listK K) (pv 0) pe_int (fun _ _ => rfl)) pe_int) pe_int) pa_nil)) pe_int) (pg_sub (pv 0) pe_int set_list))
      (pss_cons (ps_asg (pe_op op_modN (pe_callTy call_int1 (by rfl) T.b_int bt_int (pa_cons (pe_op op_add (pe_op op_mul (pe_ix (ix_listK K) (pv 0) pe_int (fun _ _ => rfl)) (pe_ix (ix_listK K) (pv 0) pe_int (fun _ _ => rfl))) (pe_ix (ix_listK K) (pv 0) pe_int (fun _ _ => rfl))) pa_nil)) pe_int) (pg_sub (pv 0) pe_int set_list))
      (pss_one (ps_ret (pe_op op_modN (pe_callTy call_int1 (by rfl) T.b_int bt_int (pa_cons (pe_op op_add (pe_op op_fdivW (pe_ix (ix_listK K) (pv 0) pe_int (fun _ _ => rfl)) pe_int) (pe_op op_fdivW (pe_ix (ix_listK K) (pv 0) pe_int (fun _ _ => rfl)) pe_int)) pa_nil)) (pv 1))))))), ?_⟩
    refine ⟨_, rfl, p, _, 0, _, rfl, rfl, hS, rfl, _, _, rfl, rfl, cpow10 (by decide) (by decide), _, _, rfl, rfl, _, rfl, ?_⟩
    refine ite2 (fun h1 => ?_) (fun h1 => ?_)
    · refine ⟨_, rfl, p, _, 0, _, rfl, rfl, hS, rfl, .inl ⟨_, rfl, _, rfl, _, _, rfl, rfl, by omega, ?_⟩⟩
      refine ⟨_, rfl, p, _, 0, _, rfl, rfl, hS, rfl, _, rfl, _, _, rfl, rfl, great_div hm.1 hm.2, ?_⟩
      refine ⟨_, rfl, p, _, 0, 0, rfl, rfl, hp, rfl, _, rfl, ?_⟩
      exact q _ _ (fmod_in hm.1) ⟨_, _, _, upd_same, div_in hb hm.1, hc, he.1, he.2⟩ ExD.put
    · have h2 := fmod_in (a := c * 69069 + 40503) (m := 4294967291) (by decide)
      have h3 := fmod_in (a := e * e + (c * 69069 + 40503).fmod 4294967291) (m := 2147483587) (by decide)
      refine ⟨_, rfl, p, _, 1, _, rfl, rfl, hS, rfl, _, _, rfl, rfl, .inr ⟨by decide, by decide⟩, _, _, rfl, rfl, .inl ⟨_, rfl, _, _, rfl, rfl, (by decide : (4294967291 : Int) ≠ 0), ?_⟩⟩
      refine ⟨_, rfl, p, _, 1, 1, rfl, rfl, hp, rfl, ?_⟩
      have hp2 : (upd H p (.lst [.int b, .int ((c * 69069 + 40503).fmod 4294967291), .int e])) p = some (.lst [.int b, .int ((c * 69069 + 40503).fmod 4294967291), .int e]) := upd_same
      have hS2 : SqL K (upd H p (.lst [.int b, .int ((c * 69069 + 40503).fmod 4294967291), .int e])) p [.int b, .int ((c * 69069 + 40503).fmod 4294967291), .int e] := .inl (.inl hp2)
      refine ⟨_, rfl, p, _, 2, _, rfl, rfl, hS2, rfl, _, rfl, p, _, 2, _, rfl, rfl, hS2, rfl, _, _, rfl, rfl, .inl ⟨by omega, by omega⟩, _, rfl, p, _, 1, _, rfl, rfl, hS2, rfl, _, _, rfl, rfl, .inl ⟨_, rfl, _, _, rfl, rfl, (by decide : (2147483587 : Int) ≠ 0), ?_⟩⟩
      refine ⟨_, rfl, p, _, 2, 2, rfl, rfl, hp2, rfl, ?_⟩
      have hp3 : (upd (upd H p (.lst [.int b, .int ((c * 69069 + 40503).fmod 4294967291), .int e])) p (.lst [.int b, .int ((c * 69069 + 40503).fmod 4294967291), .int ((e * e + ((c * 69069 + 40503).fmod 4294967291)).fmod 2147483587)])) p = some (.lst [.int b, .int ((c * 69069 + 40503).fmod 4294967291), .int ((e * e + ((c * 69069 + 40503).fmod 4294967291)).fmod 2147483587)]) := upd_same
      have hS3 : SqL K (upd (upd H p (.lst [.int b, .int ((c * 69069 + 40503).fmod 4294967291), .int e])) p (.lst [.int b, .int ((c * 69069 + 40503).fmod 4294967291), .int ((e * e + ((c * 69069 + 40503).fmod 4294967291)).fmod 2147483587)])) p [.int b, .int ((c * 69069 + 40503).fmod 4294967291), .int ((e * e + ((c * 69069 + 40503).fmod 4294967291)).fmod 2147483587)] := .inl (.inl hp3)
      refine ⟨_, rfl, p, _, 1, _, rfl, rfl, hS3, rfl, _, _, rfl, rfl, small_div' (by decide) (by decide), _, rfl, p, _, 2, _, rfl, rfl, hS3, rfl, _, _, rfl, rfl, small_div' (by decide) (by decide), _, _, rfl, rfl, .inl ⟨_, rfl, _, rfl, _, _, rfl, rfl, by omega, ?_⟩⟩
      exact q _ _ (fmod_in hm.1) ⟨_, _, _, hp3, hb, ⟨h2.1, by rw [p42]; omega⟩, h3.1, by omega⟩ (ExD.put.tr ExD.put)
end

/-! _law_cells: slots 0 _law_script, 1 _law_many -/
abbrev s_cells : Stmt := topS 47
abbrev N_cells : List Str := ["_law_script", "_law_many"]
abbrev P_cells : List Str := ["_law_script", "_law_many"]
theorem sc_cells : FnScope N_cells P_cells (defScope s_cells) := ⟨rfl, rfl, rfl, by decide +kernel, rfl, by decide +kernel, by decide +kernel⟩
def sp_cells (K : PySem.W.Frag) : Sp := fun vs H Q _ => ∃ (a : Addr) (ns : List Int) (m : Int), vs = [.ref a, .int m] ∧ SqL K H a (ns.map V.int) ∧ ns.length ≤ 63 ∧ (1 ≤ m ∧ m ≤ 63) ∧
  ∀ l (cs : List Int) H', H l = none → Ex H H' → H' l = some (.lst (cs.map V.int)) → ((cs.length : Int) ≤ m) → Q (.ref l) H'
section
variable {P : Program} {w : World} {K : PySem.W.Frag} {mg : Str → Option Value} {base : Heap}
theorem ok_cells {f : Addr} {fd : FuncData} (T : Txt K mg) (F : Fun K "_law_cells" "_law_cells" s_cells f fd) :
    FnG P w K mg base CX0 1 f fd P_cells (sp_cells K) := by
  refine okG0 F sc_cells (fun vs H Q E h => ?_) (fun cdv A outer s H vs Q E hr hq h => ?_)
  · obtain ⟨a, ns, m, rfl, _⟩ := h
    rfl
  · obtain ⟨a, ns, m, rfl, hS, hn, hm, q⟩ := h
    refine ⟨_, (pss_one (ps_ret (pe_slice (sl_listK K) (pe_op (op_catS K) (pv 0) (pe_lst (pa_cons pe_int pa_nil))) po_none (po_some (pe_callB (call_max2 rfl) (by rfl) T.b_max bt_max (pa_cons pe_int (pa_cons (pe_callB (call_min2 rfl) (by rfl) T.b_min bt_min (pa_cons (pv 1) (pa_cons (pe_callB (call_lenK K) (by rfl) T.b_len bt_len (pa_cons (pv 0) pa_nil)) pa_nil))) pa_nil))))))), ?_⟩
    refine ⟨_, rfl, by show 1 ≤ sizeLine; decide, fun b hb => ?_⟩
    have e1 : Ex H (upd H b (.lst [.int 0])) := Ex.nw hb
    have f1 : (upd H b (.lst [.int 0])) b = some (.lst [.int 0]) := upd_same
    generalize upd H b (.lst [.int 0]) = H1 at e1 f1
    refine ⟨a, b, _, _, rfl, rfl, e1.l hS, .inl (.inl f1), by rw [List.length_map, List.length_singleton]; omega, fun c hc => ?_⟩
    have e2 : Ex H1 (upd H1 c (.lst (ns.map V.int ++ [.int 0]))) := Ex.nw hc
    have f2 : (upd H1 c (.lst (ns.map V.int ++ [.int 0]))) c = some (.lst (ns.map V.int ++ [.int 0])) := upd_same
    generalize upd H1 c (.lst (ns.map V.int ++ [.int 0])) = H2 at e2 f2
    refine ⟨_, rfl, _, rfl, a, _, rfl, .inl ((e1.tr e2).l hS), ?_⟩
    have hmm : ∃ k : Int, k = (if (if ((ns.map V.int).length : Int) < m then ((ns.map V.int).length : Int) else m) > 1 then (if ((ns.map V.int).length : Int) < m then ((ns.map V.int).length : Int) else m) else 1) ∧ 0 ≤ k ∧ k ≤ m := by
      refine ⟨_, rfl, ?_, ?_⟩
      · split <;> split <;> omega
      · split <;> split <;> omega
    obtain ⟨k, ek, k0, km⟩ := hmm
    refine ⟨_, _, rfl, _, _, rfl, k, by rw [ek], c, _, rfl, .inl (.inl f2), fun l hl => ?_⟩
    have es : ns.map V.int ++ [V.int 0] = (ns ++ [0]).map V.int := by
      rw [List.map_append]
      rfl
    have ec : cutV (ns.map V.int ++ [V.int 0]) none (some k) = ((ns ++ [0]).take (min k.toNat (ns.length + 1))).map V.int := by
      unfold cutV
      rw [show k = ((k.toNat : Nat) : Int) by omega, HT.sIx_nat, HT.sIx_none, List.drop_zero, Nat.sub_zero, es, List.map_take, List.length_map, List.length_append, List.length_singleton]
      rfl
    rw [ec]
    refine q l _ _ ((e1.tr e2).fr hl) ((e1.tr e2).tr (Ex.nw hl)) upd_same ?_
    rw [List.length_take]
    omega
end

/-! _law_order: slots 0 _law_tap_here, 1 _law_count, 2 _law_left, 3 _law_found, 4 _law_turn -/
abbrev s_order : Stmt := topS 48
abbrev N_order : List Str := ["_law_tap_here", "_law_count", "_law_left", "_law_found", "_law_turn"]
abbrev P_order : List Str := ["_law_tap_here", "_law_count"]
theorem sc_order : FnScope N_order P_order (defScope s_order) := ⟨rfl, rfl, rfl, by decide +kernel, rfl, by decide +kernel, by decide +kernel⟩
theorem rgV_io (n : Int) : rgV 0 n = (iota n).map V.int := by
  unfold rgV iota
  rw [List.map_map, show (n - 0) = n by omega]
  refine List.map_congr_left fun i _ => ?_
  show V.int (0 + (i : Int)) = V.int (i : Int)
  rw [Int.zero_add]
/-- some order of the quantities, off the tap -/
def sp_order (K : PySem.W.Frag) : Sp := fun vs H Q _ => ∃ (p : Addr) (n : Int), vs = [.ref p, .int n] ∧ (1 ≤ n ∧ n ≤ 20) ∧ Tap H p ∧
  ∀ (l : Addr) (o : List Int) H', H l = none → ExD p H H' → Tap H' p → H' l = some (.lst (o.map V.int)) → IsOrd n o → Q (.ref l) H'
section
variable {P : Program} {w : World} {K : PySem.W.Frag} {mg : Str → Option Value} {base : Heap}
theorem ok_order {f : Addr} {fd : FuncData} (T : Txt K mg) (F : Fun K "_law_order" "_law_order" s_order f fd)
    (D_draw : DefOk P w K mg base CX0 1 "_law_draw" P_draw (sp_draw K)) :
    FnG P w K mg base CX0 2 f fd P_order (sp_order K) := by
  refine okG0 F sc_order (fun vs H Q E h => ?_) (fun cdv A outer s H vs Q E hr hq h => ?_)
  · obtain ⟨p, n, rfl, _⟩ := h
    rfl
  · obtain ⟨p, n, rfl, hn, hp, q⟩ := h
    refine ⟨_, (pss_cons (ps_set (i := 2) sc_order.nd rfl (by first | exact .inl rfl | exact .inr rfl) (pe_listRg rfl (by rfl) T.b_list (prg_1 (by rfl) T.b_range (pv 1))))
      (pss_cons (ps_set (i := 3) sc_order.nd rfl (by first | exact .inl rfl | exact .inr rfl) (pe_lst pa_nil))
      (pss_cons (ps_for PassesOwn.never rfl (pi_range1 (by rfl) T.b_range (pa_cons (pv 1) pa_nil)) (pg_name (i := 4) sc_order.nd rfl (by first | exact .inl rfl | exact .inr rfl)) (pss_one (ps_expr (pe_bm PySem.F.plainAttrs_list PySem.F.slot_list_append PySem.F.type_list_append mt_append (pv 3) (pa_cons (pe_bm PySem.F.plainAttrs_list PySem.F.slot_list_pop PySem.F.type_list_pop mt_popAt (pv 2) (pa_cons (pe_callD D_draw (hr.mono (by decide)) hq pass0 (pa_cons (pv 0) (pa_cons (pe_callB (call_lenK K) (by rfl) T.b_len bt_len (pa_cons (pv 2) pa_nil)) pa_nil))) pa_nil)) pa_nil)))))
      (pss_one (ps_ret (pv 3)))))), ?_⟩
    refine ⟨_, rfl, n, rfl, RgOk.of_le (by omega) (by omega) (by omega) (by omega), fun L hL => ?_⟩
    have pL := hp.off hL
    refine ⟨Nat.zero_le _, fun F2 hF2 => ?_⟩
    have FL : F2 ≠ L := fun e => by
      rw [e, upd_same] at hF2
      cases hF2
    have HF : H F2 = none := by
      rw [upd_ne FL] at hF2
      exact hF2
    have pF := hp.off HF
    refine ⟨_, rfl, _, rfl, by omega, by omega, ?_⟩
    refine for_by n.toNat (fun i σ H' => ∃ (y : Option V) (left found : List Int), σ = [some (V.ref p), some (V.int n), some (V.ref L), some (V.ref F2), y] ∧ found.length = i ∧ ExD p H H' ∧ Tap H' p ∧
        H' L = some (.lst (left.map V.int)) ∧ H' F2 = some (.lst (found.map V.int)) ∧ (left ++ found).Perm (iota n))
      ⟨_, iota n, [], rfl, rfl, (ExD.nw hL).wr HF, (hp.put pL.symm).put pF.symm, ?_, upd_same, by rw [List.append_nil]⟩ (fun i σ H' hi _ => hi) (fun σ H' _ => Nat.le_refl _) ?_ ?_
    · rw [upd_ne FL.symm, upd_same, rgV_io]
    · rintro i σ H1 x H2 hi ⟨y, left, found, rfl, hfl, e1, p1, hL1, hF1, hp1⟩ ⟨rfl, rfl⟩
      have hll : left.length + found.length = n.toNat := by
        have := hp1.length_eq
        rw [List.length_append, List.length_map, List.length_range] at this
        exact this
      refine ⟨_, rfl, .inl ⟨rfl, _, .inl (.inl hF1)⟩, ?_⟩
      refine ⟨_, rfl, .inl ⟨rfl, _, .inl (.inl hL1)⟩, ?_⟩
      refine ⟨_, rfl, _, rfl, L, _, rfl, .inl (.inl (.inl hL1)), ?_⟩
      refine ⟨p, _, rfl, by rw [List.length_map]; omega, p1, fun z H3 hz p3 e3 => ?_⟩
      rw [List.length_map] at hz
      have hL3 := e3 _ _ pL hL1
      have hF3 := e3 _ _ pF hF1
      have hzl : z.toNat < left.length := by omega
      have hx := List.getElem?_eq_getElem hzl
      generalize left[z.toNat] = x at hx
      refine ⟨L, _, z, z.toNat, .int x, rfl, rfl, hL3, by omega, by omega, seqIndex_of hz.1 (by rw [List.length_map]; omega), by rw [List.getElem?_map, hx]; rfl, ?_⟩
      have hF4 : (upd H3 L (.lst ((left.map V.int).eraseIdx z.toNat))) F2 = some (.lst (found.map V.int)) := by
        rw [upd_ne FL]
        exact hF3
      refine ⟨F2, _, _, rfl, rfl, hF4, mil' (by rw [List.length_map]; omega), ?_⟩
      have hel := List.length_eraseIdx_of_lt hzl
      refine ⟨_, left.eraseIdx z.toNat, found ++ [x], rfl, ?_, ?_, ?_, ?_, ?_, ?_⟩
      · rw [List.length_append, hfl]
        rfl
      · exact ((e1.tr e3).wr hL).wr HF
      · exact (p3.put (o := .lst ((left.map V.int).eraseIdx z.toNat)) pL.symm).put (o := .lst (found.map V.int ++ [.int x])) pF.symm
      · rw [upd_ne FL.symm, upd_same, map_pop]
      · rw [upd_same, List.map_append]
        rfl
      · have h2 := pop_perm hx
        refine List.Perm.trans ?_ hp1
        have h3 : (left.eraseIdx z.toNat ++ (found ++ [x])).Perm (x :: left.eraseIdx z.toNat ++ found) := by
          rw [← List.append_assoc]
          exact List.perm_append_comm
        exact h3.trans (h2.append_right found)
    · rintro σ H1 ⟨y, left, found, rfl, hfl, e1, p1, hL1, hF1, hp1⟩
      have hll : left.length + found.length = n.toNat := by
        have := hp1.length_eq
        rw [List.length_append, List.length_map, List.length_range] at this
        exact this
      have h0 : left = [] := List.length_eq_zero_iff.mp (by omega)
      subst h0
      rw [List.nil_append] at hp1
      exact ⟨_, rfl, q F2 found H1 HF e1 p1 hF1 hp1⟩
end

/-! _law_pairs: slots 0 _law_tap_here, 1 _law_order_here, 2 _law_kind, 3 _law_count, 4 _law_dense, 5 _law_found, 6 _law_k, 7 _law_m, 8 _law_is_there -/
abbrev s_pairs : Stmt := topS 49
abbrev N_pairs : List Str := ["_law_tap_here", "_law_order_here", "_law_kind", "_law_count", "_law_dense", "_law_found", "_law_k", "_law_m", "_law_is_there"]
abbrev P_pairs : List Str := ["_law_tap_here", "_law_order_here", "_law_kind"]
theorem sc_pairs : FnScope N_pairs P_pairs (defScope s_pairs) := ⟨rfl, rfl, rfl, by decide +kernel, rfl, by decide +kernel, by decide +kernel⟩
/-- the pairs of an order at pairs of places -/
def atP (o : List Int) (j : Int × Int) : Int × Int := (o.getD j.1.toNat 0, o.getD j.2.toNat 0)
theorem atP_nodup {o : List Int} {n : Int} (ho : IsOrd n o) {J : List (Int × Int)} (hJ : ascB ltPr J = true) (hb : ∀ j ∈ J, (0 ≤ j.1 ∧ j.1 < n) ∧ (0 ≤ j.2 ∧ j.2 < n)) : (J.map (atP o)).Nodup := by
  have hl := ho.len
  rw [List.nodup_iff_pairwise_ne, List.pairwise_map]
  refine (nodup_asc hJ).imp_of_mem fun {a b} ha hb' hne he => hne ?_
  have h1 := hb a ha
  have h2 := hb b hb'
  simp only [atP, Prod.mk.injEq] at he
  have key : ∀ x y : Int, (0 ≤ x ∧ x < n) → (0 ≤ y ∧ y < n) → o.getD x.toNat 0 = o.getD y.toNat 0 → x = y := by
    intro x y hx hy h
    have gx := List.getElem?_eq_getElem (show x.toNat < o.length by omega)
    have gy := List.getElem?_eq_getElem (show y.toNat < o.length by omega)
    rw [List.getD_eq_getElem?_getD, gx, List.getD_eq_getElem?_getD, gy] at h
    simp only [Option.getD_some] at h
    by_cases e : x.toNat = y.toNat
    · omega
    · exact absurd h (nodup_at ho.nd gx gy e)
  exact Prod.ext (key _ _ h1.1 h2.1 he.1) (key _ _ h1.2 h2.2 he.2)
/-- some pairs, off the tap -/
def sp_pairs (K : PySem.W.Frag) : Sp := fun vs H Q _ => ∃ (p a : Addr) (o : List Int) (n kind : Int), vs = [.ref p, .ref a, .int kind] ∧ H a = some (.lst (o.map V.int)) ∧ a ≠ p ∧ IsOrd n o ∧ (1 ≤ n ∧ n ≤ 20) ∧ Tap H p ∧
  ∀ (l : Addr) (xs : List V) (ps : List (Int × Int)) H', H l = none → ExD p H H' → Tap H' p → H' l = some (.lst xs) → DaAll K (rm H' p) (ps.map dPair) xs → ascB ltPr ps = true → (∀ q ∈ ps, (0 ≤ q.1 ∧ q.1 < n) ∧ (0 ≤ q.2 ∧ q.2 < n)) → ps.length ≤ 1300 → Q (.ref l) H'
section
variable {P : Program} {w : World} {K : PySem.W.Frag} {mg : Str → Option Value} {base : Heap}
theorem ok_pairs {f : Addr} {fd : FuncData} (T : Txt K mg) (F : Fun K "_law_pairs" "_law_pairs" s_pairs f fd)
    (D_draw : DefOk P w K mg base CX0 1 "_law_draw" P_draw (sp_draw K)) :
    FnG P w K mg base CX0 2 f fd P_pairs (sp_pairs K) := by
  refine okG0 F sc_pairs (fun vs H Q E h => ?_) (fun cdv A outer s H vs Q E hr hq h => ?_)
  · obtain ⟨p, a, o, n, kind, rfl, _⟩ := h
    rfl
  · obtain ⟨p, a, o, n, kind, rfl, ha, nap, ho, hn, hp, q⟩ := h
    have hol := ho.len
    have sA : SqL K H a (o.map V.int) := .inl (.inl ha)
    refine ⟨_, (pss_cons (ps_par3 (i := 3) (j := 4) (l := 5) (by rfl) sc_pairs.nd rfl rfl rfl (by decide) (by decide) (by decide) rfl rfl rfl (pa_cons (pe_callB (call_lenK K) (by rfl) T.b_len bt_len (pa_cons (pv 1) pa_nil)) (pa_cons (pe_op op_add pe_int (pe_callD D_draw (hr.mono (by decide)) hq pass0 (pa_cons (pv 0) (pa_cons pe_int pa_nil)))) (pa_cons (pe_lst pa_nil) pa_nil))) (by rfl))
      (pss_cons (ps_for PassesOwn.never rfl (pi_range1 (by rfl) T.b_range (pa_cons (pv 3) pa_nil)) (pg_name (i := 6) sc_pairs.nd rfl (by first | exact .inl rfl | exact .inr rfl)) (pss_one (ps_for PassesOwn.never rfl (pi_range1 (by rfl) T.b_range (pa_cons (pv 3) pa_nil)) (pg_name (i := 7) sc_pairs.nd rfl (by first | exact .inl rfl | exact .inr rfl)) (pss_cons (ps_if (PW.pt (pw_and (pt_cmpR op_lt (pv 2) pe_int (nomark _)) (pw_and1 (pt_cmpR op_le (pv 7) (pe_op op_add (pv 6) pe_int) (nomark _))))) (pss_one (ps_set (i := 8) sc_pairs.nd rfl (by first | exact .inl rfl | exact .inr rfl) (pe_or (pe_cmpR op_eq (pv 7) (pe_op op_add (pv 6) pe_int) (nomark _)) (pe_one (pe_cmpR op_eq (pe_callD D_draw (hr.mono (by decide)) hq pass0 (pa_cons (pv 0) (pa_cons (pv 4) pa_nil))) pe_int (nomark _)))))) (pss_one (ps_if (pt_cmpR op_eq (pv 2) pe_int (nomark _)) (pss_one (ps_set (i := 8) sc_pairs.nd rfl (by first | exact .inl rfl | exact .inr rfl) (pe_cmpR op_eq (pe_callD D_draw (hr.mono (by decide)) hq pass0 (pa_cons (pv 0) (pa_cons pe_int pa_nil))) pe_int (nomark _)))) (pss_one (ps_set (i := 8) sc_pairs.nd rfl (by first | exact .inl rfl | exact .inr rfl) (pe_and (pe_cmpR op_gt (pv 2) pe_int (nomark _)) (pe_one (pe_cmpR op_ne (pe_cmpR op_lt (pe_callD D_draw (hr.mono (by decide)) hq pass0 (pa_cons (pv 0) (pa_cons (pe_op op_add pe_int (pv 3)) pa_nil))) pe_int (nomark _)) (pe_cmpR op_eq (pv 2) pe_int (nomark _)) (nomark _)))))))))
      (pss_one (ps_if (pt_val (pv 8)) (pss_one (ps_expr (pe_bm PySem.F.plainAttrs_list PySem.F.slot_list_append PySem.F.type_list_append mt_append (pv 5) (pa_cons (pe_tup (pa_cons (pe_ix (ix_listK K) (pv 1) (pv 6) (fun _ _ => rfl)) (pa_cons (pe_ix (ix_listK K) (pv 1) (pv 7) (fun _ _ => rfl)) pa_nil))) pa_nil)))) pss_nil))))))
      (pss_one (ps_ret (pe_callB (cr_sortedPOk K) (by rfl) T.b_sorted bt_sorted (pa_cons (pv 5) pa_nil)))))), ?_⟩
    refine ⟨_, rfl, a, _, rfl, .inl sA, _, rfl, p, 4, rfl, by decide, hp, fun z H1 hz p1 e1 => ⟨_, _, rfl, rfl, Nat.zero_le _, fun L hL => ⟨_, _, _, rfl, ?_⟩⟩⟩
    have pL := p1.off hL
    have HL : H L = none := Purse.fr e1 p1 hL
    have e2 : ExD p H (upd H1 L (.lst [])) := e1.tr (ExD.nw hL)
    have p2 := p1.up (Ex.nw (o := .lst []) hL)
    have f2 : (upd H1 L (.lst [])) L = some (.lst []) := upd_same
    generalize upd H1 L (.lst []) = H2 at e2 p2 f2
    rw [List.length_map]
    refine ⟨_, rfl, _, rfl, by omega, by omega, ?_⟩
    refine for_by o.length (fun i σ H' => ∃ y6 y7 y8, σ = [some (V.ref p), some (V.ref a), some (V.int kind), some (V.int (o.length : Int)), some (V.int (2 + z)), some (V.ref L), y6, y7, y8] ∧
        ExD p H H' ∧ Tap H' p ∧ ∃ (acc : List V) (J : List (Int × Int)), H' L = some (.lst acc) ∧ DaAll K (rm (rm H' p) L) ((J.map (atP o)).map dPair) acc ∧ ascB ltPr J = true ∧
        (∀ j ∈ J, (0 ≤ j.1 ∧ j.1 < (i : Int)) ∧ (0 ≤ j.2 ∧ j.2 < n)) ∧ J.length ≤ 20 * i)
      ⟨_, _, _, rfl, e2, p2, [], [], f2, rfl, rfl, fun j hj => (by cases hj), Nat.le_refl _⟩ (fun i σ H' hi _ => (by show i < _; omega)) (fun σ H' _ => (by show _ ≤ o.length; omega)) ?_ ?_
    · rintro i σ H3 x H4 hi ⟨y6, y7, y8, rfl, e3, p3, acc, J, hL3, hA3, hJ, hJb, hJl⟩ ⟨rfl, rfl⟩
      refine ⟨_, rfl, _, rfl, by omega, by omega, ?_⟩
      refine for_by o.length (fun j σ H' => ∃ y7 y8, σ = [some (V.ref p), some (V.ref a), some (V.int kind), some (V.int (o.length : Int)), some (V.int (2 + z)), some (V.ref L), some (V.int (0 + (i : Int))), y7, y8] ∧
          ExD p H H' ∧ Tap H' p ∧ ∃ (acc : List V) (J : List (Int × Int)), H' L = some (.lst acc) ∧ DaAll K (rm (rm H' p) L) ((J.map (atP o)).map dPair) acc ∧ ascB ltPr J = true ∧
          (∀ q ∈ J, ((0 ≤ q.1 ∧ q.1 < (i : Int)) ∧ (0 ≤ q.2 ∧ q.2 < n)) ∨ (q.1 = (i : Int) ∧ (0 ≤ q.2 ∧ q.2 < (j : Int)))) ∧ J.length ≤ 20 * i + j)
        ⟨_, _, rfl, e3, p3, acc, J, hL3, hA3, hJ, fun q hq => .inl (hJb q hq), by omega⟩ (fun j σ H' hj _ => (by show j < _; omega)) (fun σ H' _ => (by show _ ≤ o.length; omega)) ?_ ?_
      · rintro j σ H5 x H6 hj ⟨y7, y8, rfl, e5, p5, acc, J, hL5, hA5, hJ, hJb, hJl⟩ ⟨rfl, rfl⟩
        have fin : ∀ (H7 : Hp), ExD p H6 H7 → Tap H7 p → ExD p H H7 ∧ Tap H7 p ∧ ∃ (acc : List V) (J : List (Int × Int)), H7 L = some (.lst acc) ∧ DaAll K (rm (rm H7 p) L) ((J.map (atP o)).map dPair) acc ∧ ascB ltPr J = true ∧
            (∀ q ∈ J, ((0 ≤ q.1 ∧ q.1 < (i : Int)) ∧ (0 ≤ q.2 ∧ q.2 < n)) ∨ (q.1 = (i : Int) ∧ (0 ≤ q.2 ∧ q.2 < ((j + 1 : Nat) : Int)))) ∧ J.length ≤ 20 * i + (j + 1) := by
          intro H7 e7 p7
          refine ⟨e5.tr e7, p7, acc, J, e7 _ _ pL hL5, hA5.up (Ex.rm e7.rm), hJ, fun q hq => ?_, by omega⟩
          rcases hJb q hq with h | h
          · exact .inl h
          · exact .inr ⟨h.1, by omega⟩
        have put : ∀ (H7 : Hp), ExD p H6 H7 → Tap H7 p → ∀ (T : Addr), H7 T = none → ∀ (H8 : Hp), H8 = upd (upd H7 T (.tup [.int (o.getD i 0), .int (o.getD j 0)])) L (.lst (acc ++ [.ref T])) →
            ExD p H H8 ∧ Tap H8 p ∧ ∃ (acc : List V) (J : List (Int × Int)), H8 L = some (.lst acc) ∧ DaAll K (rm (rm H8 p) L) ((J.map (atP o)).map dPair) acc ∧ ascB ltPr J = true ∧
            (∀ q ∈ J, ((0 ≤ q.1 ∧ q.1 < (i : Int)) ∧ (0 ≤ q.2 ∧ q.2 < n)) ∨ (q.1 = (i : Int) ∧ (0 ≤ q.2 ∧ q.2 < ((j + 1 : Nat) : Int)))) ∧ J.length ≤ 20 * i + (j + 1) := by
          rintro H7 e7 p7 T hT H8 rfl
          have hL7 := e7 _ _ pL hL5
          have TL : T ≠ L := fun e => by
            rw [e, hL7] at hT
            cases hT
          have Tp := p7.off hT
          refine ⟨((e5.tr e7).tr (ExD.nw hT)).wr HL, (p7.up (Ex.nw hT)).put pL.symm, acc ++ [.ref T], J ++ [((i : Int), (j : Int))], upd_same, ?_, ?_, ?_, ?_⟩
          · rw [List.map_append, List.map_append]
            refine ((hA5.up (Ex.rm e7.rm)).up (ex_rm2 fun b o n1 n2 h => ?_)).app ⟨_, _, rfl, dPair_of (p := atP o ((i : Int), (j : Int))) ?_, rfl⟩
            · rw [upd_ne n2, upd_ne (ne_of_none h hT)]
              exact h
            · rw [rm_ne TL, rm_ne Tp, upd_ne TL, upd_same]
              rfl
          · refine ascP_snoc hJ fun t ht => ltPr_iff.mpr ?_
            rcases hJb t ht with h | h
            · exact .inl h.1.2
            · exact .inr ⟨h.1, h.2.2⟩
          · intro q hq
            rcases List.mem_append.mp hq with hq | hq
            · rcases hJb q hq with h | h
              · exact .inl h
              · exact .inr ⟨h.1, by omega⟩
            · obtain rfl := List.mem_singleton.mp hq
              exact .inr ⟨rfl, by simp only; omega, by simp only; omega⟩
          · rw [List.length_append, List.length_singleton]
            omega
        have gi := List.getElem?_eq_getElem hi
        have gj := List.getElem?_eq_getElem hj
        have di : o.getD i 0 = o[i] := by rw [List.getD_eq_getElem?_getD, gi]; rfl
        have dj : o.getD j 0 = o[j] := by rw [List.getD_eq_getElem?_getD, gj]; rfl
        have ai : atI (o.map V.int) (0 + (i : Int)) = some (.int (o.getD i 0)) := by
          rw [Int.zero_add, di]
          exact atI_nat (by rw [List.getElem?_map, gi]; rfl)
        have aj : atI (o.map V.int) (0 + (j : Int)) = some (.int (o.getD j 0)) := by
          rw [Int.zero_add, dj]
          exact atI_nat (by rw [List.getElem?_map, gj]; rfl)
        have d0 : ExD p H6 H6 := fun _ _ _ h => h
        refine ⟨_, rfl, _, _, rfl, rfl, _, rfl, ite2 (fun _ => ?_) (fun _ => ?_)⟩
        · refine ⟨_, rfl, _, rfl, _, _, rfl, rfl, _, _, rfl, rfl, _, rfl, ite2 (fun _ => ?_) (fun _ => ?_)⟩
          · refine ⟨_, rfl, _, rfl, _, _, rfl, rfl, rfl, _, rfl, ite2 (fun _ => ?_) (fun _ => ?_)⟩
            · refine ⟨_, rfl, _, rfl, ite2 (fun _ => ?_) (fun _ => ⟨_, _, rfl, fin H6 d0 p5⟩)⟩
              have hL7 := d0 _ _ pL hL5
              have sA7 : SqL K H6 a (o.map V.int) := ExD.l (e5.tr d0) nap sA
              refine ⟨_, rfl, .inl ⟨rfl, _, .inl (.inl hL7)⟩, ?_⟩
              refine ⟨_, rfl, _, rfl, a, _, _, _, rfl, rfl, sA7, ai, _, rfl, _, rfl, a, _, _, _, rfl, rfl, sA7, aj, by show 2 ≤ sizeLine; decide, fun T hT => ?_⟩
              have TL : T ≠ L := fun e => by
                rw [e, hL7] at hT
                cases hT
              have hal := hA5.len
              rw [List.length_map, List.length_map] at hal
              exact ⟨L, _, _, rfl, rfl, by rw [upd_ne TL.symm]; exact hL7, mil' (by omega), _, _, rfl, put H6 d0 p5 T hT _ rfl⟩
            · refine ⟨_, rfl, _, rfl, p, 2 + z, rfl, by omega, p5, fun z2 H7 hz2 p7 e7 => ⟨rfl, ?_⟩⟩
              refine ⟨_, rfl, _, rfl, ite2 (fun _ => ?_) (fun _ => ⟨_, _, rfl, fin H7 e7 p7⟩)⟩
              have hL7 := e7 _ _ pL hL5
              have sA7 : SqL K H7 a (o.map V.int) := ExD.l (e5.tr e7) nap sA
              refine ⟨_, rfl, .inl ⟨rfl, _, .inl (.inl hL7)⟩, ?_⟩
              refine ⟨_, rfl, _, rfl, a, _, _, _, rfl, rfl, sA7, ai, _, rfl, _, rfl, a, _, _, _, rfl, rfl, sA7, aj, by show 2 ≤ sizeLine; decide, fun T hT => ?_⟩
              have TL : T ≠ L := fun e => by
                rw [e, hL7] at hT
                cases hT
              have hal := hA5.len
              rw [List.length_map, List.length_map] at hal
              exact ⟨L, _, _, rfl, rfl, by rw [upd_ne TL.symm]; exact hL7, mil' (by omega), _, _, rfl, put H7 e7 p7 T hT _ rfl⟩
          · refine ⟨_, rfl, rfl, _, rfl, ite2 (fun _ => ?_) (fun _ => ?_)⟩
            · refine ⟨_, rfl, p, 2, rfl, by decide, p5, fun z2 H7 hz2 p7 e7 => ⟨rfl, ?_⟩⟩
              refine ⟨_, rfl, _, rfl, ite2 (fun _ => ?_) (fun _ => ⟨_, _, rfl, fin H7 e7 p7⟩)⟩
              have hL7 := e7 _ _ pL hL5
              have sA7 : SqL K H7 a (o.map V.int) := ExD.l (e5.tr e7) nap sA
              refine ⟨_, rfl, .inl ⟨rfl, _, .inl (.inl hL7)⟩, ?_⟩
              refine ⟨_, rfl, _, rfl, a, _, _, _, rfl, rfl, sA7, ai, _, rfl, _, rfl, a, _, _, _, rfl, rfl, sA7, aj, by show 2 ≤ sizeLine; decide, fun T hT => ?_⟩
              have TL : T ≠ L := fun e => by
                rw [e, hL7] at hT
                cases hT
              have hal := hA5.len
              rw [List.length_map, List.length_map] at hal
              exact ⟨L, _, _, rfl, rfl, by rw [upd_ne TL.symm]; exact hL7, mil' (by omega), _, _, rfl, put H7 e7 p7 T hT _ rfl⟩
            · refine ⟨_, rfl, _, _, rfl, rfl, _, rfl, ite2 (fun _ => ?_) (fun _ => ?_)⟩
              · refine ⟨_, rfl, _, rfl, _, _, rfl, rfl, p, 2 + (o.length : Int), rfl, by omega, p5, fun z2 H7 hz2 p7 e7 => ⟨_, _, rfl, rfl, _, rfl, rfl, rfl, ?_⟩⟩
                refine ⟨_, rfl, _, rfl, ite2 (fun _ => ?_) (fun _ => ⟨_, _, rfl, fin H7 e7 p7⟩)⟩
                have hL7 := e7 _ _ pL hL5
                have sA7 : SqL K H7 a (o.map V.int) := ExD.l (e5.tr e7) nap sA
                refine ⟨_, rfl, .inl ⟨rfl, _, .inl (.inl hL7)⟩, ?_⟩
                refine ⟨_, rfl, _, rfl, a, _, _, _, rfl, rfl, sA7, ai, _, rfl, _, rfl, a, _, _, _, rfl, rfl, sA7, aj, by show 2 ≤ sizeLine; decide, fun T hT => ?_⟩
                have TL : T ≠ L := fun e => by
                  rw [e, hL7] at hT
                  cases hT
                have hal := hA5.len
                rw [List.length_map, List.length_map] at hal
                exact ⟨L, _, _, rfl, rfl, by rw [upd_ne TL.symm]; exact hL7, mil' (by omega), _, _, rfl, put H7 e7 p7 T hT _ rfl⟩
              · refine ⟨_, rfl, _, rfl, ite2 (fun _ => ?_) (fun _ => ⟨_, _, rfl, fin H6 d0 p5⟩)⟩
                have hL7 := d0 _ _ pL hL5
                have sA7 : SqL K H6 a (o.map V.int) := ExD.l (e5.tr d0) nap sA
                refine ⟨_, rfl, .inl ⟨rfl, _, .inl (.inl hL7)⟩, ?_⟩
                refine ⟨_, rfl, _, rfl, a, _, _, _, rfl, rfl, sA7, ai, _, rfl, _, rfl, a, _, _, _, rfl, rfl, sA7, aj, by show 2 ≤ sizeLine; decide, fun T hT => ?_⟩
                have TL : T ≠ L := fun e => by
                  rw [e, hL7] at hT
                  cases hT
                have hal := hA5.len
                rw [List.length_map, List.length_map] at hal
                exact ⟨L, _, _, rfl, rfl, by rw [upd_ne TL.symm]; exact hL7, mil' (by omega), _, _, rfl, put H6 d0 p5 T hT _ rfl⟩
        · refine ⟨_, rfl, rfl, _, rfl, ite2 (fun _ => ?_) (fun _ => ?_)⟩
          · refine ⟨_, rfl, p, 2, rfl, by decide, p5, fun z2 H7 hz2 p7 e7 => ⟨rfl, ?_⟩⟩
            refine ⟨_, rfl, _, rfl, ite2 (fun _ => ?_) (fun _ => ⟨_, _, rfl, fin H7 e7 p7⟩)⟩
            have hL7 := e7 _ _ pL hL5
            have sA7 : SqL K H7 a (o.map V.int) := ExD.l (e5.tr e7) nap sA
            refine ⟨_, rfl, .inl ⟨rfl, _, .inl (.inl hL7)⟩, ?_⟩
            refine ⟨_, rfl, _, rfl, a, _, _, _, rfl, rfl, sA7, ai, _, rfl, _, rfl, a, _, _, _, rfl, rfl, sA7, aj, by show 2 ≤ sizeLine; decide, fun T hT => ?_⟩
            have TL : T ≠ L := fun e => by
              rw [e, hL7] at hT
              cases hT
            have hal := hA5.len
            rw [List.length_map, List.length_map] at hal
            exact ⟨L, _, _, rfl, rfl, by rw [upd_ne TL.symm]; exact hL7, mil' (by omega), _, _, rfl, put H7 e7 p7 T hT _ rfl⟩
          · refine ⟨_, rfl, _, _, rfl, rfl, _, rfl, ite2 (fun _ => ?_) (fun _ => ?_)⟩
            · refine ⟨_, rfl, _, rfl, _, _, rfl, rfl, p, 2 + (o.length : Int), rfl, by omega, p5, fun z2 H7 hz2 p7 e7 => ⟨_, _, rfl, rfl, _, rfl, rfl, rfl, ?_⟩⟩
              refine ⟨_, rfl, _, rfl, ite2 (fun _ => ?_) (fun _ => ⟨_, _, rfl, fin H7 e7 p7⟩)⟩
              have hL7 := e7 _ _ pL hL5
              have sA7 : SqL K H7 a (o.map V.int) := ExD.l (e5.tr e7) nap sA
              refine ⟨_, rfl, .inl ⟨rfl, _, .inl (.inl hL7)⟩, ?_⟩
              refine ⟨_, rfl, _, rfl, a, _, _, _, rfl, rfl, sA7, ai, _, rfl, _, rfl, a, _, _, _, rfl, rfl, sA7, aj, by show 2 ≤ sizeLine; decide, fun T hT => ?_⟩
              have TL : T ≠ L := fun e => by
                rw [e, hL7] at hT
                cases hT
              have hal := hA5.len
              rw [List.length_map, List.length_map] at hal
              exact ⟨L, _, _, rfl, rfl, by rw [upd_ne TL.symm]; exact hL7, mil' (by omega), _, _, rfl, put H7 e7 p7 T hT _ rfl⟩
            · refine ⟨_, rfl, _, rfl, ite2 (fun _ => ?_) (fun _ => ⟨_, _, rfl, fin H6 d0 p5⟩)⟩
              have hL7 := d0 _ _ pL hL5
              have sA7 : SqL K H6 a (o.map V.int) := ExD.l (e5.tr d0) nap sA
              refine ⟨_, rfl, .inl ⟨rfl, _, .inl (.inl hL7)⟩, ?_⟩
              refine ⟨_, rfl, _, rfl, a, _, _, _, rfl, rfl, sA7, ai, _, rfl, _, rfl, a, _, _, _, rfl, rfl, sA7, aj, by show 2 ≤ sizeLine; decide, fun T hT => ?_⟩
              have TL : T ≠ L := fun e => by
                rw [e, hL7] at hT
                cases hT
              have hal := hA5.len
              rw [List.length_map, List.length_map] at hal
              exact ⟨L, _, _, rfl, rfl, by rw [upd_ne TL.symm]; exact hL7, mil' (by omega), _, _, rfl, put H6 d0 p5 T hT _ rfl⟩
      · rintro σ H5 ⟨y7, y8, rfl, e5, p5, acc, J, hL5, hA5, hJ, hJb, hJl⟩
        refine ⟨_, _, _, rfl, e5, p5, acc, J, hL5, hA5, hJ, fun q hq => ?_, by omega⟩
        rcases hJb q hq with h | h
        · exact ⟨⟨h.1.1, by omega⟩, h.2⟩
        · exact ⟨⟨by omega, by omega⟩, ⟨h.2.1, by omega⟩⟩
    · rintro σ H3 ⟨y6, y7, y8, rfl, e3, p3, acc, J, hL3, hA3, hJ, hJb, hJl⟩
      have hA4 : DaAll K H3 ((J.map (atP o)).map dPair) acc := hA3.up (rm_ex.tr rm_ex)
      obtain ⟨k1, k2⟩ := keys_of hA3
      have k1' : ∀ x ∈ acc, ∃ t, x = V.ref t ∧ H3 t = some (.tup [.int (keyOf (rm (rm H3 p) L) x).1, .int (keyOf (rm (rm H3 p) L) x).2]) := fun x hx => by
        obtain ⟨t, h1, h2⟩ := k1 x hx
        exact ⟨t, h1, rm_ex _ _ (rm_ex _ _ h2)⟩
      refine ⟨_, rfl, L, acc, keyOf (rm (rm H3 p) L), rfl, .inl (.inl hL3), k1', fun ys l s1 s2 hl => ?_⟩
      have hJb' : ∀ j ∈ J, (0 ≤ j.1 ∧ j.1 < n) ∧ (0 ≤ j.2 ∧ j.2 < n) := fun j hj => by
        have := hJb j hj
        exact ⟨⟨this.1.1, by omega⟩, this.2⟩
      obtain ⟨M, m1, m2, m3, m4⟩ := sortedP hA3 (atP_nodup ho hJ hJb') s1 s2
      have lp := p3.off hl
      refine q l ys M _ (Purse.fr e3 p3 hl) (e3.tr (ExD.nw hl)) (p3.up (Ex.nw hl)) upd_same (m1.up ((rm_ex (H := rm H3 p) (p := L)).tr (Ex.nw hl).rm)) m2 (fun x hx => ?_) ?_
      · obtain ⟨j, hj, rfl⟩ := List.mem_map.mp ((m3 x).mp hx)
        have hb := hJb' j hj
        have g : ∀ y : Int, 0 ≤ y ∧ y < n → 0 ≤ o.getD y.toNat 0 ∧ o.getD y.toNat 0 < n := fun y hy => by
          have gy := List.getElem?_eq_getElem (show y.toNat < o.length by omega)
          rw [List.getD_eq_getElem?_getD, gy]
          exact ho.mem.mp (List.getElem_mem _)
        exact ⟨g _ hb.1, g _ hb.2⟩
      · rw [m4, List.length_map]
        omega
end

end K65
namespace K65
open PySem PySem.Spec PyProof.Rows L2 Nw
/-! _law_nudges: slots 0 _law_tap_here, 1 _law_order_here, 2 _law_kind, 3 _law_found, 4 _law_wide, 5 _law_turn, 6 _law_some, 7 _law_one -/
abbrev s_nudges : Stmt := topS 50
abbrev N_nudges : List Str := ["_law_tap_here", "_law_order_here", "_law_kind", "_law_found", "_law_wide", "_law_turn", "_law_some", "_law_one"]
abbrev P_nudges : List Str := ["_law_tap_here", "_law_order_here", "_law_kind"]
theorem sc_nudges : FnScope N_nudges P_nudges (defScope s_nudges) := ⟨rfl, rfl, rfl, by decide +kernel, rfl, by decide +kernel, by decide +kernel⟩
theorem pw_len0 {j : Nat} : ∀ {is : List Nat} {lo : Nat}, is.Pairwise (· < ·) → (∀ k ∈ is, lo ≤ k ∧ k < j) → is.length ≤ j - lo
  | [], _, _, _ => Nat.zero_le _
  | x :: r, lo, h, hb => by
    rw [List.pairwise_cons] at h
    have h1 := hb x (by simp)
    have ih := pw_len0 (lo := x + 1) h.2 fun k hk => ⟨h.1 k hk, (hb k (List.mem_cons_of_mem _ hk)).2⟩
    rw [List.length_cons]
    omega
theorem pw_len {j : Nat} {is : List Nat} (h : is.Pairwise (· < ·)) (hb : ∀ k ∈ is, k < j) : is.length ≤ j := pw_len0 (lo := 0) h fun k hk => ⟨Nat.zero_le _, hb k hk⟩
/-- some nudges, off the tap -/
def sp_nudges (K : PySem.W.Frag) : Sp := fun vs H Q _ => ∃ (p a : Addr) (o : List Int) (n kind : Int), vs = [.ref p, .ref a, .int kind] ∧ H a = some (.lst (o.map V.int)) ∧ a ≠ p ∧ IsOrd n o ∧ (1 ≤ n ∧ n ≤ 20) ∧ Tap H p ∧
  ∀ (l : Addr) (xs : List V) (ns : List (List Int)) H', H l = none → ExD p H H' → Tap H' p → H' l = some (.lst xs) → DaAll K (rm H' p) (ns.map dInts) xs → ns.length ≤ 8 → (∀ r ∈ ns, r ≠ [] ∧ (∀ t ∈ r, 0 ≤ t ∧ t < n) ∧ ascB ltIn r = true) → Q (.ref l) H'
section
variable {P : Program} {w : World} {K : PySem.W.Frag} {mg : Str → Option Value} {base : Heap}
theorem ok_nudges {f : Addr} {fd : FuncData} (T : Txt K mg) (F : Fun K "_law_nudges" "_law_nudges" s_nudges f fd)
    (D_draw : DefOk P w K mg base CX0 1 "_law_draw" P_draw (sp_draw K)) :
    FnG P w K mg base CX0 2 f fd P_nudges (sp_nudges K) := by
  refine okG0 F sc_nudges (fun vs H Q E h => ?_) (fun cdv A outer s H vs Q E hr hq h => ?_)
  · obtain ⟨p, a, o, n, kind, rfl, _⟩ := h
    rfl
  · obtain ⟨p, a, o, n, kind, rfl, ha, nap, ho, hn, hp, q⟩ := h
    have hol := ho.len
    have sA : SqL K H a (o.map V.int) := .inl (.inl ha)
    have h0 := List.getElem?_eq_getElem (show 0 < o.length by omega)
    generalize o[0] = o0 at h0
    have hin : ∀ t ∈ o, 0 ≤ t ∧ t < n := fun t ht => ho.mem.mp ht
    refine ⟨_, (pss_cons (ps_set (i := 3) sc_nudges.nd rfl (by first | exact .inl rfl | exact .inr rfl) (pe_ifExp (PW.pt (pw_and (pt_cmpR op_lt (pv 2) pe_int (nomark _)) (pw_and1 (pt_cmpR op_gt (pe_callD D_draw (hr.mono (by decide)) hq pass0 (pa_cons (pv 0) (pa_cons pe_int pa_nil))) pe_int (nomark _))))) (pe_lst (pa_cons (pe_lst (pa_cons (pe_ix (ix_listK K) (pv 1) pe_int (fun _ _ => rfl)) pa_nil)) pa_nil)) (pe_lst pa_nil)))
      (pss_cons (ps_set (i := 4) sc_nudges.nd rfl (by first | exact .inl rfl | exact .inr rfl) (pe_op op_add pe_int (pe_callD D_draw (hr.mono (by decide)) hq pass0 (pa_cons (pv 0) (pa_cons pe_int pa_nil)))))
      (pss_cons (ps_for PassesOwn.never rfl (pi_range1 (by rfl) T.b_range (pa_cons (pe_callD D_draw (hr.mono (by decide)) hq pass0 (pa_cons (pv 0) (pa_cons (pe_ix (ix_listK K) (pe_lst (pa_cons pe_int (pa_cons pe_int (pa_cons (pe_op op_sub pe_int (pe_callB (call_lenK K) (by rfl) T.b_len bt_len (pa_cons (pv 3) pa_nil))) pa_nil)))) (pe_callD D_draw (hr.mono (by decide)) hq pass0 (pa_cons (pv 0) (pa_cons pe_int pa_nil))) (fun _ _ => rfl)) pa_nil))) pa_nil)) (pg_name (i := 5) sc_nudges.nd rfl (by first | exact .inl rfl | exact .inr rfl)) (pss_cons (ps_set (i := 6) sc_nudges.nd rfl (by first | exact .inl rfl | exact .inr rfl) (pe_callB (cr_sortedIk K) (by rfl) T.b_sorted bt_sorted (pa_cons (pe_lc (own := [("_law_one", 7)]) rfl sc_nudges.nd (pi_listK K (pv 1)) (blkOk_by (N := N_nudges) (sc := defScope s_nudges) (by decide +kernel)) (fun _ _ _ _ _ => (pg_name (i := 7) sc_nudges.nd rfl (by first | exact .inl rfl | exact .inr rfl))) (fun _ _ _ _ _ => (pts_one (pt_cmpR op_eq (pe_callD D_draw (hr.mono (by decide)) hq pass0 (pa_cons (pv 0) (pa_cons (pv 4) pa_nil))) pe_int (nomark _)))) (fun _ _ _ _ _ => (pv 7))) pa_nil)))
      (pss_one (ps_expr (pe_bm PySem.F.plainAttrs_list PySem.F.slot_list_append PySem.F.type_list_append mt_append (pv 3) (pa_cons (pe_ifExp (pt_cmpR (op_neDk K hr.units) (pv 6) (pe_lst pa_nil) (nomark _)) (pv 6) (pe_lst (pa_cons (pe_ix (ix_listK K) (pv 1) (pe_callD D_draw (hr.mono (by decide)) hq pass0 (pa_cons (pv 0) (pa_cons (pe_callB (call_lenK K) (by rfl) T.b_len bt_len (pa_cons (pv 1) pa_nil)) pa_nil))) (fun _ _ => rfl)) pa_nil))) pa_nil))))))
      (pss_one (ps_ret (pv 3)))))), ?_⟩
    refine ⟨_, rfl, _, _, rfl, rfl, _, rfl, ite2 (fun _ => ?_) (fun _ => ?_)⟩
    · refine ⟨_, rfl, p, 5, rfl, by decide, hp, fun z0 H1 hz0 p1 e1 => ⟨_, _, rfl, rfl, _, rfl, ite2 (fun _ => ?_) (fun _ => ?_)⟩⟩
      · refine ⟨_, rfl, a, _, 0, .int o0, rfl, rfl, ExD.l e1 nap sA, atI_int (by decide) (by rw [List.getElem?_map]; rw [show Int.toNat 0 = 0 from rfl, h0]; rfl), by show 1 ≤ sizeLine; decide, fun C hC => ?_⟩
        have e2 : Ex H1 (upd H1 C (.lst [.int o0])) := Ex.nw hC
        have f2 : (upd H1 C (.lst [.int o0])) C = some (.lst [.int o0]) := upd_same
        have Cp := p1.off hC
        have p2 := p1.up e2
        generalize upd H1 C (.lst [.int o0]) = H2 at e2 f2 p2
        refine ⟨by show 1 ≤ sizeLine; decide, fun L hL => ?_⟩
        have CL : C ≠ L := fun e => by
          rw [e, hL] at f2
          cases f2
        have Lp := p2.off hL
        have HL : H L = none := Purse.fr (e1.tr e2.d) p2 hL
        have e3 : ExD p H (upd H2 L (.lst [.ref C])) := (e1.tr e2.d).tr (ExD.nw hL)
        have p3 := p2.up (Ex.nw (o := .lst [.ref C]) hL)
        have f3 : (upd H2 L (.lst [.ref C])) L = some (.lst [.ref C]) := upd_same
        have g3 : DaAll K (rm (rm (upd H2 L (.lst [.ref C])) p) L) ([[o0]].map dInts) [.ref C] := ⟨_, _, rfl, dInts_of (r := [o0]) (by rw [rm_ne CL, rm_ne Cp, upd_ne CL]; exact f2) (by show 1 ≤ 100000; decide), rfl⟩
        generalize upd H2 L (.lst [.ref C]) = H3 at e3 p3 f3 g3
        have hns : ∀ r ∈ [[o0]], r ≠ [] ∧ (∀ t ∈ r, 0 ≤ t ∧ t < n) ∧ ascB ltIn r = true := fun r hr => by
          obtain rfl := List.mem_singleton.mp hr
          exact ⟨by simp, fun t ht => by
            obtain rfl := List.mem_singleton.mp ht
            exact hin _ (List.mem_of_getElem? h0), rfl⟩
        have hnl : ([[o0]] : List (List Int)).length ≤ 1 := Nat.le_refl 1
        have hxl : ([V.ref C] : List V).length = ([[o0]] : List (List Int)).length := rfl
        have hle : (([V.ref C] : List V).length : Nat) = 1 := rfl
        refine ⟨_, rfl, p, 4, rfl, by decide, p3, fun z1 H4 hz1 p4 e4 => ⟨_, _, rfl, rfl, ?_⟩⟩
        have f4 := e4 _ _ Lp f3
        have g4 := g3.up (Ex.rm e4.rm)
        have e04 := e3.tr e4
        -- how many more
        refine ⟨_, rfl, _, rfl, L, _, rfl, .inl (.inl (.inl f4)), _, _, rfl, rfl, by show 3 ≤ sizeLine; decide, fun B hB => ?_⟩
        have Bp := p4.off hB
        have eB : Ex H4 (upd H4 B (.lst [.int 2, .int 4, .int (9 - ((([V.ref C] : List V).length : Nat) : Int))])) := Ex.nw hB
        have fB : (upd H4 B (.lst [.int 2, .int 4, .int (9 - ((([V.ref C] : List V).length : Nat) : Int))])) B = some (.lst [.int 2, .int 4, .int (9 - ((([V.ref C] : List V).length : Nat) : Int))]) := upd_same
        have pB := p4.up eB
        generalize upd H4 B (.lst [.int 2, .int 4, .int (9 - ((([V.ref C] : List V).length : Nat) : Int))]) = H5 at eB fB pB
        refine ⟨_, rfl, p, 3, rfl, by decide, pB, fun z2 H6 hz2 p6 e6 => ?_⟩
        have fB6 := e6 _ _ Bp fB
        obtain ⟨mx, hmx, hat⟩ : ∃ mx : Int, (1 ≤ mx ∧ mx ≤ 9 - ((([V.ref C] : List V).length : Nat) : Int)) ∧ atI [V.int 2, V.int 4, V.int (9 - ((([V.ref C] : List V).length : Nat) : Int))] z2 = some (.int mx) := by
          rcases (show z2 = 0 ∨ z2 = 1 ∨ z2 = 2 by omega) with rfl | rfl | rfl
          · exact ⟨2, ⟨by decide, (by decide : (2 : Int) ≤ 9 - ((1 : Nat) : Int))⟩, rfl⟩
          · exact ⟨4, ⟨by decide, (by decide : (4 : Int) ≤ 9 - ((1 : Nat) : Int))⟩, rfl⟩
          · exact ⟨9 - ((([V.ref C] : List V).length : Nat) : Int), ⟨(by decide : (1 : Int) ≤ 9 - ((1 : Nat) : Int)), Int.le_refl _⟩, rfl⟩
        refine ⟨B, _, z2, .int mx, rfl, rfl, .inl (.inl fB6), hat, p, mx, rfl, by omega, p6, fun z3 H7 hz3 p7 e7 => ⟨_, rfl, by omega, by omega, ?_⟩⟩
        have e47 := (eB.d.tr e6).tr e7
        have f7 := e47 _ _ Lp f4
        have g7 := g4.up (Ex.rm e47.rm)
        refine for_by z3.toNat (fun i σ H' => ∃ y5 y6 y7, σ = [some (V.ref p), some (V.ref a), some (V.int kind), some (V.ref L), some (V.int (1 + z1)), y5, y6, y7] ∧ ExD p H H' ∧ Tap H' p ∧ ∃ (acc : List V) (ns : List (List Int)),
            H' L = some (.lst acc) ∧ DaAll K (rm (rm H' p) L) (ns.map dInts) acc ∧ ns.length = (([V.ref C] : List V).length : Nat) + i ∧ ∀ r ∈ ns, r ≠ [] ∧ (∀ t ∈ r, 0 ≤ t ∧ t < n) ∧ ascB ltIn r = true)
          ⟨_, _, _, rfl, e04.tr e47, p7, _, [[o0]], f7, g7, rfl, hns⟩ (fun i σ H' hi _ => hi) (fun σ H' _ => Nat.le_refl _) ?_ ?_
        · rintro i σ K1 x K2 hi ⟨y5, y6, y7, rfl, k1, t1, acc, ns, hL1, hA1, hl1, hr1⟩ ⟨rfl, rfl⟩
          have sA1 := ExD.l k1 nap sA
          have hal := hA1.len
          rw [List.length_map] at hal
          refine ⟨_, rfl, a, rfl, ⟨_, sA1⟩, fun D hD => ?_⟩
          have Dp' := t1.off hD
          have DL : D ≠ L := fun e => by
            rw [e, hL1] at hD
            cases hD
          refine lc_by o.length (fun j H' => ExD p K2 H' ∧ Tap H' p ∧ ∃ (is : List Nat), H' D = some (.lst ((is.map fun k => o.getD k 0).map V.int)) ∧ is.Pairwise (· < ·) ∧ ∀ k ∈ is, k < j)
            ⟨ExD.nw hD, t1.put Dp'.symm, [], upd_same, List.Pairwise.nil, fun k hk => (by cases hk)⟩ (fun j H' hj pv => ?_) (fun H' pv => ?_) ?_ ?_
          · exact itl_go (ExD.l pv.1 nap sA1) Ex.rfl (by rw [List.length_map]; exact hj)
          · have := itl_stop (ExD.l pv.1 nap sA1) Ex.rfl
            rw [List.length_map] at this
            exact this
          · rintro j K3 x K4 hj ⟨k3, t3, is, hD3, hpw, hlt⟩ y
            obtain ⟨rfl, hx⟩ := itl_yld y (ExD.l k3 nap sA1) Ex.rfl
            obtain ⟨t, ht, rfl⟩ := map_at hx
            have isl : is.length ≤ j := by
              exact pw_len hpw hlt
            refine ⟨rfl, ?_⟩
            refine ⟨_, rfl, _, rfl, p, 1 + z1, rfl, by omega, t3, fun z4 K5 hz4 t5 k5 => ⟨rfl, _, rfl, ite2 (fun _ => ?_) (fun _ => ?_)⟩⟩
            · have hD5 := k5 _ _ Dp' hD3
              refine ⟨_, rfl, _, hD5, mil' (by rw [List.length_map, List.length_map]; omega), (k3.tr k5).wr hD, t5.put Dp'.symm, is ++ [j], ?_, ?_, ?_⟩
              · rw [upd_same, List.map_append, List.map_append]
                have e : o.getD j 0 = t := by rw [List.getD_eq_getElem?_getD, ht]; rfl
                simp only [List.map_cons, List.map_nil, e]
              · rw [List.pairwise_append]
                exact ⟨hpw, List.pairwise_singleton _ _, fun a ha b hb => by
                  obtain rfl := List.mem_singleton.mp hb
                  exact hlt a ha⟩
              · intro k hk
                rcases List.mem_append.mp hk with hk | hk
                · have := hlt k hk
                  omega
                · obtain rfl := List.mem_singleton.mp hk
                  omega
            · exact ⟨k3.tr k5, t5, is, k5 _ _ Dp' hD3, hpw, fun k hk => by have := hlt k hk; omega⟩
          · rintro K3 ⟨k3, t3, is, hD3, hpw, hlt⟩
            have isl : is.length ≤ o.length := pw_len hpw hlt
            have hnd : (is.map fun k => o.getD k 0).Nodup := by
              rw [List.nodup_iff_pairwise_ne, List.pairwise_map]
              refine hpw.imp_of_mem fun {x y} hx hy hxy he => ?_
              have gx := List.getElem?_eq_getElem (hlt x hx)
              have gy := List.getElem?_eq_getElem (hlt y hy)
              rw [List.getD_eq_getElem?_getD, gx, List.getD_eq_getElem?_getD, gy] at he
              simp only [Option.getD_some] at he
              exact nodup_at ho.nd gx gy (by omega) he
            have hmem : ∀ t ∈ is.map fun k => o.getD k 0, t ∈ o := fun t ht => by
              obtain ⟨k, hk, rfl⟩ := List.mem_map.mp ht
              have gk := List.getElem?_eq_getElem (hlt k hk)
              rw [List.getD_eq_getElem?_getD, gk]
              exact List.getElem_mem _
            have hsl : (is.map fun k => o.getD k 0).length ≤ 20 := by
              rw [List.length_map]
              omega
            generalize (is.map fun k => o.getD k 0) = some0 at hD3 hnd hmem hsl
            refine ⟨D, some0, rfl, .inl (.inl hD3), fun r S hperm hsort hS => ?_⟩
            have Sp := t3.off hS
            have hL3 := k3 _ _ Lp hL1
            have SL : S ≠ L := fun e => by
              rw [e, hL3] at hS
              cases hS
            have k4 : ExD p K2 (upd K3 S (.lst (r.map V.int))) := k3.tr (ExD.nw hS)
            have t4 := t3.up (Ex.nw (o := .lst (r.map V.int)) hS)
            have hS4 : (upd K3 S (.lst (r.map V.int))) S = some (.lst (r.map V.int)) := upd_same
            have hL4 : (upd K3 S (.lst (r.map V.int))) L = some (.lst acc) := by
              rw [upd_ne SL.symm]
              exact hL3
            generalize upd K3 S (.lst (r.map V.int)) = K4 at k4 t4 hS4 hL4
            have hasc := asc_sortedI hperm hsort hnd
            have hrl : r.length ≤ 20 := by
              rw [hperm.length_eq]
              exact hsl
            have hrin : ∀ t ∈ r, 0 ≤ t ∧ t < n := fun t ht => hin t (hmem t (hperm.mem_iff.mp ht))
            refine ⟨_, rfl, .inl ⟨rfl, _, .inl (.inl hL4)⟩, ?_⟩
            refine ⟨_, rfl, Nat.zero_le _, fun Z hZ => ?_⟩
            have eZ : Ex K4 (upd K4 Z (.lst [])) := Ex.nw hZ
            have dS : Da K (upd K4 Z (.lst [])) (dInts r) (.ref S) := dInts_of (eZ _ _ hS4) (by omega)
            have dZ : Da K (upd K4 Z (.lst [])) (dInts []) (.ref Z) := dInts_of (r := []) upd_same (by decide)
            have tZ := t4.up eZ
            generalize upd K4 Z (.lst []) = K5 at eZ dS dZ tZ
            refine ⟨_, _, dS.dInts, dZ.dInts, sh_dInts _, sh_dInts _, _, rfl, ?_⟩
            rw [eqv_dInts]
            have hL5 := eZ _ _ hL4
            have k5 := k4.tr eZ.d
            refine ite2 (fun h1 => ?_) (fun _ => ?_)
            · refine ⟨_, rfl, L, _, _, rfl, rfl, hL5, mil' (by omega), _, _, _, rfl, (k1.tr k5).wr HL, tZ.put Lp.symm, acc ++ [.ref S], ns ++ [r], upd_same, ?_, ?_, ?_⟩
              · rw [List.map_append]
                refine ((hA1.up (Ex.rm k5.rm)).up (ex_rm2 fun b o n1 n2 h => ?_)).app ⟨_, _, rfl, dInts_of ?_ (by omega), rfl⟩
                · rw [upd_ne n2]
                  exact h
                · rw [rm_ne SL, rm_ne Sp, upd_ne SL]
                  exact eZ _ _ hS4
              · rw [List.length_append, hl1]
                exact Nat.add_assoc _ _ _
              · intro s hs
                rcases List.mem_append.mp hs with hs | hs
                · exact hr1 s hs
                · obtain rfl := List.mem_singleton.mp hs
                  exact ⟨by simpa using h1, hrin, hasc⟩
            · have sA5 := ExD.l (k1.tr k5) nap sA
              refine ⟨_, rfl, _, rfl, _, rfl, a, _, rfl, .inl sA5, p, _, rfl, by rw [List.length_map]; omega, tZ, fun z5 K6 hz5 t6 k6 => ?_⟩
              rw [List.length_map] at hz5
              have gz := List.getElem?_eq_getElem (show z5.toNat < o.length by omega)
              generalize o[z5.toNat] = t0 at gz
              refine ⟨a, _, z5, .int t0, rfl, rfl, ExD.l k6 nap sA5, atI_int hz5.1 (by rw [List.getElem?_map, gz]; rfl), by show 1 ≤ sizeLine; decide, fun S2 hS2 => ?_⟩
              have S2p := t6.off hS2
              have hL6 := k6 _ _ Lp hL5
              have S2L : S2 ≠ L := fun e => by
                rw [e, hL6] at hS2
                cases hS2
              have k7 : ExD p K2 (upd K6 S2 (.lst [.int t0])) := (k5.tr k6).tr (ExD.nw hS2)
              have t7 := t6.up (Ex.nw (o := .lst [.int t0]) hS2)
              have hS7 : (upd K6 S2 (.lst [.int t0])) S2 = some (.lst [.int t0]) := upd_same
              have hL7 : (upd K6 S2 (.lst [.int t0])) L = some (.lst acc) := by
                rw [upd_ne S2L.symm]
                exact hL6
              generalize upd K6 S2 (.lst [.int t0]) = K7 at k7 t7 hS7 hL7
              refine ⟨L, _, _, rfl, rfl, hL7, mil' (by omega), _, _, _, rfl, (k1.tr k7).wr HL, t7.put Lp.symm, acc ++ [.ref S2], ns ++ [[t0]], upd_same, ?_, ?_, ?_⟩
              · rw [List.map_append]
                refine ((hA1.up (Ex.rm k7.rm)).up (ex_rm2 fun b o n1 n2 h => ?_)).app ⟨_, _, rfl, dInts_of (r := [t0]) ?_ (by show 1 ≤ 100000; decide), rfl⟩
                · rw [upd_ne n2]
                  exact h
                · rw [rm_ne S2L, rm_ne S2p, upd_ne S2L]
                  exact hS7
              · rw [List.length_append, hl1]
                exact Nat.add_assoc _ _ _
              · intro s hs
                rcases List.mem_append.mp hs with hs | hs
                · exact hr1 s hs
                · obtain rfl := List.mem_singleton.mp hs
                  exact ⟨by simp, fun t ht => by
                    obtain rfl := List.mem_singleton.mp ht
                    exact hin _ (List.mem_of_getElem? gz), rfl⟩
        · rintro σ K1 ⟨y5, y6, y7, rfl, k1, t1, acc, ns, hL1, hA1, hl1, hr1⟩
          exact ⟨_, rfl, q L acc ns K1 HL k1 t1 hL1 (hA1.up rm_ex) (by omega) hr1⟩
      · refine ⟨Nat.zero_le _, fun L hL => ?_⟩
        have Lp := p1.off hL
        have HL : H L = none := Purse.fr e1 p1 hL
        have e3 : ExD p H (upd H1 L (.lst [])) := e1.tr (ExD.nw hL)
        have p3 := p1.up (Ex.nw (o := .lst []) hL)
        have f3 : (upd H1 L (.lst [])) L = some (.lst []) := upd_same
        generalize upd H1 L (.lst []) = H3 at e3 p3 f3
        have g3 : DaAll K (rm (rm H3 p) L) (([] : List (List Int)).map dInts) [] := rfl
        have hns : ∀ r ∈ ([] : List (List Int)), r ≠ [] ∧ (∀ t ∈ r, 0 ≤ t ∧ t < n) ∧ ascB ltIn r = true := fun r hr => by cases hr
        have hnl : ([] : List (List Int)).length ≤ 1 := Nat.zero_le 1
        have hle : (([] : List V).length : Nat) = 0 := rfl
        refine ⟨_, rfl, p, 4, rfl, by decide, p3, fun z1 H4 hz1 p4 e4 => ⟨_, _, rfl, rfl, ?_⟩⟩
        have f4 := e4 _ _ Lp f3
        have g4 := g3.up (Ex.rm e4.rm)
        have e04 := e3.tr e4
        -- how many more
        refine ⟨_, rfl, _, rfl, L, _, rfl, .inl (.inl (.inl f4)), _, _, rfl, rfl, by show 3 ≤ sizeLine; decide, fun B hB => ?_⟩
        have Bp := p4.off hB
        have eB : Ex H4 (upd H4 B (.lst [.int 2, .int 4, .int (9 - ((([] : List V).length : Nat) : Int))])) := Ex.nw hB
        have fB : (upd H4 B (.lst [.int 2, .int 4, .int (9 - ((([] : List V).length : Nat) : Int))])) B = some (.lst [.int 2, .int 4, .int (9 - ((([] : List V).length : Nat) : Int))]) := upd_same
        have pB := p4.up eB
        generalize upd H4 B (.lst [.int 2, .int 4, .int (9 - ((([] : List V).length : Nat) : Int))]) = H5 at eB fB pB
        refine ⟨_, rfl, p, 3, rfl, by decide, pB, fun z2 H6 hz2 p6 e6 => ?_⟩
        have fB6 := e6 _ _ Bp fB
        obtain ⟨mx, hmx, hat⟩ : ∃ mx : Int, (1 ≤ mx ∧ mx ≤ 9 - ((([] : List V).length : Nat) : Int)) ∧ atI [V.int 2, V.int 4, V.int (9 - ((([] : List V).length : Nat) : Int))] z2 = some (.int mx) := by
          rcases (show z2 = 0 ∨ z2 = 1 ∨ z2 = 2 by omega) with rfl | rfl | rfl
          · exact ⟨2, ⟨by decide, (by decide : (2 : Int) ≤ 9 - ((0 : Nat) : Int))⟩, rfl⟩
          · exact ⟨4, ⟨by decide, (by decide : (4 : Int) ≤ 9 - ((0 : Nat) : Int))⟩, rfl⟩
          · exact ⟨9 - ((([] : List V).length : Nat) : Int), ⟨(by decide : (1 : Int) ≤ 9 - ((0 : Nat) : Int)), Int.le_refl _⟩, rfl⟩
        refine ⟨B, _, z2, .int mx, rfl, rfl, .inl (.inl fB6), hat, p, mx, rfl, by omega, p6, fun z3 H7 hz3 p7 e7 => ⟨_, rfl, by omega, by omega, ?_⟩⟩
        have e47 := (eB.d.tr e6).tr e7
        have f7 := e47 _ _ Lp f4
        have g7 := g4.up (Ex.rm e47.rm)
        refine for_by z3.toNat (fun i σ H' => ∃ y5 y6 y7, σ = [some (V.ref p), some (V.ref a), some (V.int kind), some (V.ref L), some (V.int (1 + z1)), y5, y6, y7] ∧ ExD p H H' ∧ Tap H' p ∧ ∃ (acc : List V) (ns : List (List Int)),
            H' L = some (.lst acc) ∧ DaAll K (rm (rm H' p) L) (ns.map dInts) acc ∧ ns.length = (([] : List V).length : Nat) + i ∧ ∀ r ∈ ns, r ≠ [] ∧ (∀ t ∈ r, 0 ≤ t ∧ t < n) ∧ ascB ltIn r = true)
          ⟨_, _, _, rfl, e04.tr e47, p7, _, [], f7, g7, rfl, hns⟩ (fun i σ H' hi _ => hi) (fun σ H' _ => Nat.le_refl _) ?_ ?_
        · rintro i σ K1 x K2 hi ⟨y5, y6, y7, rfl, k1, t1, acc, ns, hL1, hA1, hl1, hr1⟩ ⟨rfl, rfl⟩
          have sA1 := ExD.l k1 nap sA
          have hal := hA1.len
          rw [List.length_map] at hal
          refine ⟨_, rfl, a, rfl, ⟨_, sA1⟩, fun D hD => ?_⟩
          have Dp' := t1.off hD
          have DL : D ≠ L := fun e => by
            rw [e, hL1] at hD
            cases hD
          refine lc_by o.length (fun j H' => ExD p K2 H' ∧ Tap H' p ∧ ∃ (is : List Nat), H' D = some (.lst ((is.map fun k => o.getD k 0).map V.int)) ∧ is.Pairwise (· < ·) ∧ ∀ k ∈ is, k < j)
            ⟨ExD.nw hD, t1.put Dp'.symm, [], upd_same, List.Pairwise.nil, fun k hk => (by cases hk)⟩ (fun j H' hj pv => ?_) (fun H' pv => ?_) ?_ ?_
          · exact itl_go (ExD.l pv.1 nap sA1) Ex.rfl (by rw [List.length_map]; exact hj)
          · have := itl_stop (ExD.l pv.1 nap sA1) Ex.rfl
            rw [List.length_map] at this
            exact this
          · rintro j K3 x K4 hj ⟨k3, t3, is, hD3, hpw, hlt⟩ y
            obtain ⟨rfl, hx⟩ := itl_yld y (ExD.l k3 nap sA1) Ex.rfl
            obtain ⟨t, ht, rfl⟩ := map_at hx
            have isl : is.length ≤ j := by
              exact pw_len hpw hlt
            refine ⟨rfl, ?_⟩
            refine ⟨_, rfl, _, rfl, p, 1 + z1, rfl, by omega, t3, fun z4 K5 hz4 t5 k5 => ⟨rfl, _, rfl, ite2 (fun _ => ?_) (fun _ => ?_)⟩⟩
            · have hD5 := k5 _ _ Dp' hD3
              refine ⟨_, rfl, _, hD5, mil' (by rw [List.length_map, List.length_map]; omega), (k3.tr k5).wr hD, t5.put Dp'.symm, is ++ [j], ?_, ?_, ?_⟩
              · rw [upd_same, List.map_append, List.map_append]
                have e : o.getD j 0 = t := by rw [List.getD_eq_getElem?_getD, ht]; rfl
                simp only [List.map_cons, List.map_nil, e]
              · rw [List.pairwise_append]
                exact ⟨hpw, List.pairwise_singleton _ _, fun a ha b hb => by
                  obtain rfl := List.mem_singleton.mp hb
                  exact hlt a ha⟩
              · intro k hk
                rcases List.mem_append.mp hk with hk | hk
                · have := hlt k hk
                  omega
                · obtain rfl := List.mem_singleton.mp hk
                  omega
            · exact ⟨k3.tr k5, t5, is, k5 _ _ Dp' hD3, hpw, fun k hk => by have := hlt k hk; omega⟩
          · rintro K3 ⟨k3, t3, is, hD3, hpw, hlt⟩
            have isl : is.length ≤ o.length := pw_len hpw hlt
            have hnd : (is.map fun k => o.getD k 0).Nodup := by
              rw [List.nodup_iff_pairwise_ne, List.pairwise_map]
              refine hpw.imp_of_mem fun {x y} hx hy hxy he => ?_
              have gx := List.getElem?_eq_getElem (hlt x hx)
              have gy := List.getElem?_eq_getElem (hlt y hy)
              rw [List.getD_eq_getElem?_getD, gx, List.getD_eq_getElem?_getD, gy] at he
              simp only [Option.getD_some] at he
              exact nodup_at ho.nd gx gy (by omega) he
            have hmem : ∀ t ∈ is.map fun k => o.getD k 0, t ∈ o := fun t ht => by
              obtain ⟨k, hk, rfl⟩ := List.mem_map.mp ht
              have gk := List.getElem?_eq_getElem (hlt k hk)
              rw [List.getD_eq_getElem?_getD, gk]
              exact List.getElem_mem _
            have hsl : (is.map fun k => o.getD k 0).length ≤ 20 := by
              rw [List.length_map]
              omega
            generalize (is.map fun k => o.getD k 0) = some0 at hD3 hnd hmem hsl
            refine ⟨D, some0, rfl, .inl (.inl hD3), fun r S hperm hsort hS => ?_⟩
            have Sp := t3.off hS
            have hL3 := k3 _ _ Lp hL1
            have SL : S ≠ L := fun e => by
              rw [e, hL3] at hS
              cases hS
            have k4 : ExD p K2 (upd K3 S (.lst (r.map V.int))) := k3.tr (ExD.nw hS)
            have t4 := t3.up (Ex.nw (o := .lst (r.map V.int)) hS)
            have hS4 : (upd K3 S (.lst (r.map V.int))) S = some (.lst (r.map V.int)) := upd_same
            have hL4 : (upd K3 S (.lst (r.map V.int))) L = some (.lst acc) := by
              rw [upd_ne SL.symm]
              exact hL3
            generalize upd K3 S (.lst (r.map V.int)) = K4 at k4 t4 hS4 hL4
            have hasc := asc_sortedI hperm hsort hnd
            have hrl : r.length ≤ 20 := by
              rw [hperm.length_eq]
              exact hsl
            have hrin : ∀ t ∈ r, 0 ≤ t ∧ t < n := fun t ht => hin t (hmem t (hperm.mem_iff.mp ht))
            refine ⟨_, rfl, .inl ⟨rfl, _, .inl (.inl hL4)⟩, ?_⟩
            refine ⟨_, rfl, Nat.zero_le _, fun Z hZ => ?_⟩
            have eZ : Ex K4 (upd K4 Z (.lst [])) := Ex.nw hZ
            have dS : Da K (upd K4 Z (.lst [])) (dInts r) (.ref S) := dInts_of (eZ _ _ hS4) (by omega)
            have dZ : Da K (upd K4 Z (.lst [])) (dInts []) (.ref Z) := dInts_of (r := []) upd_same (by decide)
            have tZ := t4.up eZ
            generalize upd K4 Z (.lst []) = K5 at eZ dS dZ tZ
            refine ⟨_, _, dS.dInts, dZ.dInts, sh_dInts _, sh_dInts _, _, rfl, ?_⟩
            rw [eqv_dInts]
            have hL5 := eZ _ _ hL4
            have k5 := k4.tr eZ.d
            refine ite2 (fun h1 => ?_) (fun _ => ?_)
            · refine ⟨_, rfl, L, _, _, rfl, rfl, hL5, mil' (by omega), _, _, _, rfl, (k1.tr k5).wr HL, tZ.put Lp.symm, acc ++ [.ref S], ns ++ [r], upd_same, ?_, ?_, ?_⟩
              · rw [List.map_append]
                refine ((hA1.up (Ex.rm k5.rm)).up (ex_rm2 fun b o n1 n2 h => ?_)).app ⟨_, _, rfl, dInts_of ?_ (by omega), rfl⟩
                · rw [upd_ne n2]
                  exact h
                · rw [rm_ne SL, rm_ne Sp, upd_ne SL]
                  exact eZ _ _ hS4
              · rw [List.length_append, hl1]
                exact Nat.add_assoc _ _ _
              · intro s hs
                rcases List.mem_append.mp hs with hs | hs
                · exact hr1 s hs
                · obtain rfl := List.mem_singleton.mp hs
                  exact ⟨by simpa using h1, hrin, hasc⟩
            · have sA5 := ExD.l (k1.tr k5) nap sA
              refine ⟨_, rfl, _, rfl, _, rfl, a, _, rfl, .inl sA5, p, _, rfl, by rw [List.length_map]; omega, tZ, fun z5 K6 hz5 t6 k6 => ?_⟩
              rw [List.length_map] at hz5
              have gz := List.getElem?_eq_getElem (show z5.toNat < o.length by omega)
              generalize o[z5.toNat] = t0 at gz
              refine ⟨a, _, z5, .int t0, rfl, rfl, ExD.l k6 nap sA5, atI_int hz5.1 (by rw [List.getElem?_map, gz]; rfl), by show 1 ≤ sizeLine; decide, fun S2 hS2 => ?_⟩
              have S2p := t6.off hS2
              have hL6 := k6 _ _ Lp hL5
              have S2L : S2 ≠ L := fun e => by
                rw [e, hL6] at hS2
                cases hS2
              have k7 : ExD p K2 (upd K6 S2 (.lst [.int t0])) := (k5.tr k6).tr (ExD.nw hS2)
              have t7 := t6.up (Ex.nw (o := .lst [.int t0]) hS2)
              have hS7 : (upd K6 S2 (.lst [.int t0])) S2 = some (.lst [.int t0]) := upd_same
              have hL7 : (upd K6 S2 (.lst [.int t0])) L = some (.lst acc) := by
                rw [upd_ne S2L.symm]
                exact hL6
              generalize upd K6 S2 (.lst [.int t0]) = K7 at k7 t7 hS7 hL7
              refine ⟨L, _, _, rfl, rfl, hL7, mil' (by omega), _, _, _, rfl, (k1.tr k7).wr HL, t7.put Lp.symm, acc ++ [.ref S2], ns ++ [[t0]], upd_same, ?_, ?_, ?_⟩
              · rw [List.map_append]
                refine ((hA1.up (Ex.rm k7.rm)).up (ex_rm2 fun b o n1 n2 h => ?_)).app ⟨_, _, rfl, dInts_of (r := [t0]) ?_ (by show 1 ≤ 100000; decide), rfl⟩
                · rw [upd_ne n2]
                  exact h
                · rw [rm_ne S2L, rm_ne S2p, upd_ne S2L]
                  exact hS7
              · rw [List.length_append, hl1]
                exact Nat.add_assoc _ _ _
              · intro s hs
                rcases List.mem_append.mp hs with hs | hs
                · exact hr1 s hs
                · obtain rfl := List.mem_singleton.mp hs
                  exact ⟨by simp, fun t ht => by
                    obtain rfl := List.mem_singleton.mp ht
                    exact hin _ (List.mem_of_getElem? gz), rfl⟩
        · rintro σ K1 ⟨y5, y6, y7, rfl, k1, t1, acc, ns, hL1, hA1, hl1, hr1⟩
          exact ⟨_, rfl, q L acc ns K1 HL k1 t1 hL1 (hA1.up rm_ex) (by omega) hr1⟩
    · refine ⟨Nat.zero_le _, fun L hL => ?_⟩
      have Lp := hp.off hL
      have HL : H L = none := hL
      have e3 : ExD p H (upd H L (.lst [])) := ExD.nw hL
      have p3 := hp.up (Ex.nw (o := .lst []) hL)
      have f3 : (upd H L (.lst [])) L = some (.lst []) := upd_same
      generalize upd H L (.lst []) = H3 at e3 p3 f3
      have g3 : DaAll K (rm (rm H3 p) L) (([] : List (List Int)).map dInts) [] := rfl
      have hns : ∀ r ∈ ([] : List (List Int)), r ≠ [] ∧ (∀ t ∈ r, 0 ≤ t ∧ t < n) ∧ ascB ltIn r = true := fun r hr => by cases hr
      have hnl : ([] : List (List Int)).length ≤ 1 := Nat.zero_le 1
      have hle : (([] : List V).length : Nat) = 0 := rfl
      refine ⟨_, rfl, p, 4, rfl, by decide, p3, fun z1 H4 hz1 p4 e4 => ⟨_, _, rfl, rfl, ?_⟩⟩
      have f4 := e4 _ _ Lp f3
      have g4 := g3.up (Ex.rm e4.rm)
      have e04 := e3.tr e4
      -- how many more
      refine ⟨_, rfl, _, rfl, L, _, rfl, .inl (.inl (.inl f4)), _, _, rfl, rfl, by show 3 ≤ sizeLine; decide, fun B hB => ?_⟩
      have Bp := p4.off hB
      have eB : Ex H4 (upd H4 B (.lst [.int 2, .int 4, .int (9 - ((([] : List V).length : Nat) : Int))])) := Ex.nw hB
      have fB : (upd H4 B (.lst [.int 2, .int 4, .int (9 - ((([] : List V).length : Nat) : Int))])) B = some (.lst [.int 2, .int 4, .int (9 - ((([] : List V).length : Nat) : Int))]) := upd_same
      have pB := p4.up eB
      generalize upd H4 B (.lst [.int 2, .int 4, .int (9 - ((([] : List V).length : Nat) : Int))]) = H5 at eB fB pB
      refine ⟨_, rfl, p, 3, rfl, by decide, pB, fun z2 H6 hz2 p6 e6 => ?_⟩
      have fB6 := e6 _ _ Bp fB
      obtain ⟨mx, hmx, hat⟩ : ∃ mx : Int, (1 ≤ mx ∧ mx ≤ 9 - ((([] : List V).length : Nat) : Int)) ∧ atI [V.int 2, V.int 4, V.int (9 - ((([] : List V).length : Nat) : Int))] z2 = some (.int mx) := by
        rcases (show z2 = 0 ∨ z2 = 1 ∨ z2 = 2 by omega) with rfl | rfl | rfl
        · exact ⟨2, ⟨by decide, (by decide : (2 : Int) ≤ 9 - ((0 : Nat) : Int))⟩, rfl⟩
        · exact ⟨4, ⟨by decide, (by decide : (4 : Int) ≤ 9 - ((0 : Nat) : Int))⟩, rfl⟩
        · exact ⟨9 - ((([] : List V).length : Nat) : Int), ⟨(by decide : (1 : Int) ≤ 9 - ((0 : Nat) : Int)), Int.le_refl _⟩, rfl⟩
      refine ⟨B, _, z2, .int mx, rfl, rfl, .inl (.inl fB6), hat, p, mx, rfl, by omega, p6, fun z3 H7 hz3 p7 e7 => ⟨_, rfl, by omega, by omega, ?_⟩⟩
      have e47 := (eB.d.tr e6).tr e7
      have f7 := e47 _ _ Lp f4
      have g7 := g4.up (Ex.rm e47.rm)
      refine for_by z3.toNat (fun i σ H' => ∃ y5 y6 y7, σ = [some (V.ref p), some (V.ref a), some (V.int kind), some (V.ref L), some (V.int (1 + z1)), y5, y6, y7] ∧ ExD p H H' ∧ Tap H' p ∧ ∃ (acc : List V) (ns : List (List Int)),
          H' L = some (.lst acc) ∧ DaAll K (rm (rm H' p) L) (ns.map dInts) acc ∧ ns.length = (([] : List V).length : Nat) + i ∧ ∀ r ∈ ns, r ≠ [] ∧ (∀ t ∈ r, 0 ≤ t ∧ t < n) ∧ ascB ltIn r = true)
        ⟨_, _, _, rfl, e04.tr e47, p7, _, [], f7, g7, rfl, hns⟩ (fun i σ H' hi _ => hi) (fun σ H' _ => Nat.le_refl _) ?_ ?_
      · rintro i σ K1 x K2 hi ⟨y5, y6, y7, rfl, k1, t1, acc, ns, hL1, hA1, hl1, hr1⟩ ⟨rfl, rfl⟩
        have sA1 := ExD.l k1 nap sA
        have hal := hA1.len
        rw [List.length_map] at hal
        refine ⟨_, rfl, a, rfl, ⟨_, sA1⟩, fun D hD => ?_⟩
        have Dp' := t1.off hD
        have DL : D ≠ L := fun e => by
          rw [e, hL1] at hD
          cases hD
        refine lc_by o.length (fun j H' => ExD p K2 H' ∧ Tap H' p ∧ ∃ (is : List Nat), H' D = some (.lst ((is.map fun k => o.getD k 0).map V.int)) ∧ is.Pairwise (· < ·) ∧ ∀ k ∈ is, k < j)
          ⟨ExD.nw hD, t1.put Dp'.symm, [], upd_same, List.Pairwise.nil, fun k hk => (by cases hk)⟩ (fun j H' hj pv => ?_) (fun H' pv => ?_) ?_ ?_
        · exact itl_go (ExD.l pv.1 nap sA1) Ex.rfl (by rw [List.length_map]; exact hj)
        · have := itl_stop (ExD.l pv.1 nap sA1) Ex.rfl
          rw [List.length_map] at this
          exact this
        · rintro j K3 x K4 hj ⟨k3, t3, is, hD3, hpw, hlt⟩ y
          obtain ⟨rfl, hx⟩ := itl_yld y (ExD.l k3 nap sA1) Ex.rfl
          obtain ⟨t, ht, rfl⟩ := map_at hx
          have isl : is.length ≤ j := by
            exact pw_len hpw hlt
          refine ⟨rfl, ?_⟩
          refine ⟨_, rfl, _, rfl, p, 1 + z1, rfl, by omega, t3, fun z4 K5 hz4 t5 k5 => ⟨rfl, _, rfl, ite2 (fun _ => ?_) (fun _ => ?_)⟩⟩
          · have hD5 := k5 _ _ Dp' hD3
            refine ⟨_, rfl, _, hD5, mil' (by rw [List.length_map, List.length_map]; omega), (k3.tr k5).wr hD, t5.put Dp'.symm, is ++ [j], ?_, ?_, ?_⟩
            · rw [upd_same, List.map_append, List.map_append]
              have e : o.getD j 0 = t := by rw [List.getD_eq_getElem?_getD, ht]; rfl
              simp only [List.map_cons, List.map_nil, e]
            · rw [List.pairwise_append]
              exact ⟨hpw, List.pairwise_singleton _ _, fun a ha b hb => by
                obtain rfl := List.mem_singleton.mp hb
                exact hlt a ha⟩
            · intro k hk
              rcases List.mem_append.mp hk with hk | hk
              · have := hlt k hk
                omega
              · obtain rfl := List.mem_singleton.mp hk
                omega
          · exact ⟨k3.tr k5, t5, is, k5 _ _ Dp' hD3, hpw, fun k hk => by have := hlt k hk; omega⟩
        · rintro K3 ⟨k3, t3, is, hD3, hpw, hlt⟩
          have isl : is.length ≤ o.length := pw_len hpw hlt
          have hnd : (is.map fun k => o.getD k 0).Nodup := by
            rw [List.nodup_iff_pairwise_ne, List.pairwise_map]
            refine hpw.imp_of_mem fun {x y} hx hy hxy he => ?_
            have gx := List.getElem?_eq_getElem (hlt x hx)
            have gy := List.getElem?_eq_getElem (hlt y hy)
            rw [List.getD_eq_getElem?_getD, gx, List.getD_eq_getElem?_getD, gy] at he
            simp only [Option.getD_some] at he
            exact nodup_at ho.nd gx gy (by omega) he
          have hmem : ∀ t ∈ is.map fun k => o.getD k 0, t ∈ o := fun t ht => by
            obtain ⟨k, hk, rfl⟩ := List.mem_map.mp ht
            have gk := List.getElem?_eq_getElem (hlt k hk)
            rw [List.getD_eq_getElem?_getD, gk]
            exact List.getElem_mem _
          have hsl : (is.map fun k => o.getD k 0).length ≤ 20 := by
            rw [List.length_map]
            omega
          generalize (is.map fun k => o.getD k 0) = some0 at hD3 hnd hmem hsl
          refine ⟨D, some0, rfl, .inl (.inl hD3), fun r S hperm hsort hS => ?_⟩
          have Sp := t3.off hS
          have hL3 := k3 _ _ Lp hL1
          have SL : S ≠ L := fun e => by
            rw [e, hL3] at hS
            cases hS
          have k4 : ExD p K2 (upd K3 S (.lst (r.map V.int))) := k3.tr (ExD.nw hS)
          have t4 := t3.up (Ex.nw (o := .lst (r.map V.int)) hS)
          have hS4 : (upd K3 S (.lst (r.map V.int))) S = some (.lst (r.map V.int)) := upd_same
          have hL4 : (upd K3 S (.lst (r.map V.int))) L = some (.lst acc) := by
            rw [upd_ne SL.symm]
            exact hL3
          generalize upd K3 S (.lst (r.map V.int)) = K4 at k4 t4 hS4 hL4
          have hasc := asc_sortedI hperm hsort hnd
          have hrl : r.length ≤ 20 := by
            rw [hperm.length_eq]
            exact hsl
          have hrin : ∀ t ∈ r, 0 ≤ t ∧ t < n := fun t ht => hin t (hmem t (hperm.mem_iff.mp ht))
          refine ⟨_, rfl, .inl ⟨rfl, _, .inl (.inl hL4)⟩, ?_⟩
          refine ⟨_, rfl, Nat.zero_le _, fun Z hZ => ?_⟩
          have eZ : Ex K4 (upd K4 Z (.lst [])) := Ex.nw hZ
          have dS : Da K (upd K4 Z (.lst [])) (dInts r) (.ref S) := dInts_of (eZ _ _ hS4) (by omega)
          have dZ : Da K (upd K4 Z (.lst [])) (dInts []) (.ref Z) := dInts_of (r := []) upd_same (by decide)
          have tZ := t4.up eZ
          generalize upd K4 Z (.lst []) = K5 at eZ dS dZ tZ
          refine ⟨_, _, dS.dInts, dZ.dInts, sh_dInts _, sh_dInts _, _, rfl, ?_⟩
          rw [eqv_dInts]
          have hL5 := eZ _ _ hL4
          have k5 := k4.tr eZ.d
          refine ite2 (fun h1 => ?_) (fun _ => ?_)
          · refine ⟨_, rfl, L, _, _, rfl, rfl, hL5, mil' (by omega), _, _, _, rfl, (k1.tr k5).wr HL, tZ.put Lp.symm, acc ++ [.ref S], ns ++ [r], upd_same, ?_, ?_, ?_⟩
            · rw [List.map_append]
              refine ((hA1.up (Ex.rm k5.rm)).up (ex_rm2 fun b o n1 n2 h => ?_)).app ⟨_, _, rfl, dInts_of ?_ (by omega), rfl⟩
              · rw [upd_ne n2]
                exact h
              · rw [rm_ne SL, rm_ne Sp, upd_ne SL]
                exact eZ _ _ hS4
            · rw [List.length_append, hl1]
              exact Nat.add_assoc _ _ _
            · intro s hs
              rcases List.mem_append.mp hs with hs | hs
              · exact hr1 s hs
              · obtain rfl := List.mem_singleton.mp hs
                exact ⟨by simpa using h1, hrin, hasc⟩
          · have sA5 := ExD.l (k1.tr k5) nap sA
            refine ⟨_, rfl, _, rfl, _, rfl, a, _, rfl, .inl sA5, p, _, rfl, by rw [List.length_map]; omega, tZ, fun z5 K6 hz5 t6 k6 => ?_⟩
            rw [List.length_map] at hz5
            have gz := List.getElem?_eq_getElem (show z5.toNat < o.length by omega)
            generalize o[z5.toNat] = t0 at gz
            refine ⟨a, _, z5, .int t0, rfl, rfl, ExD.l k6 nap sA5, atI_int hz5.1 (by rw [List.getElem?_map, gz]; rfl), by show 1 ≤ sizeLine; decide, fun S2 hS2 => ?_⟩
            have S2p := t6.off hS2
            have hL6 := k6 _ _ Lp hL5
            have S2L : S2 ≠ L := fun e => by
              rw [e, hL6] at hS2
              cases hS2
            have k7 : ExD p K2 (upd K6 S2 (.lst [.int t0])) := (k5.tr k6).tr (ExD.nw hS2)
            have t7 := t6.up (Ex.nw (o := .lst [.int t0]) hS2)
            have hS7 : (upd K6 S2 (.lst [.int t0])) S2 = some (.lst [.int t0]) := upd_same
            have hL7 : (upd K6 S2 (.lst [.int t0])) L = some (.lst acc) := by
              rw [upd_ne S2L.symm]
              exact hL6
            generalize upd K6 S2 (.lst [.int t0]) = K7 at k7 t7 hS7 hL7
            refine ⟨L, _, _, rfl, rfl, hL7, mil' (by omega), _, _, _, rfl, (k1.tr k7).wr HL, t7.put Lp.symm, acc ++ [.ref S2], ns ++ [[t0]], upd_same, ?_, ?_, ?_⟩
            · rw [List.map_append]
              refine ((hA1.up (Ex.rm k7.rm)).up (ex_rm2 fun b o n1 n2 h => ?_)).app ⟨_, _, rfl, dInts_of (r := [t0]) ?_ (by show 1 ≤ 100000; decide), rfl⟩
              · rw [upd_ne n2]
                exact h
              · rw [rm_ne S2L, rm_ne S2p, upd_ne S2L]
                exact hS7
            · rw [List.length_append, hl1]
              exact Nat.add_assoc _ _ _
            · intro s hs
              rcases List.mem_append.mp hs with hs | hs
              · exact hr1 s hs
              · obtain rfl := List.mem_singleton.mp hs
                exact ⟨by simp, fun t ht => by
                  obtain rfl := List.mem_singleton.mp ht
                  exact hin _ (List.mem_of_getElem? gz), rfl⟩
      · rintro σ K1 ⟨y5, y6, y7, rfl, k1, t1, acc, ns, hL1, hA1, hl1, hr1⟩
        exact ⟨_, rfl, q L acc ns K1 HL k1 t1 hL1 (hA1.up rm_ex) (by omega) hr1⟩
end

/-! _law_web: slots 0 _law_tap_here, 1 _law_size, 2 _law_order_here, 3 _law_kind -/
abbrev s_web : Stmt := topS 51
abbrev N_web : List Str := ["_law_tap_here", "_law_size", "_law_order_here", "_law_kind"]
abbrev P_web : List Str := ["_law_tap_here", "_law_size"]
theorem sc_web : FnScope N_web P_web (defScope s_web) := ⟨rfl, rfl, rfl, by decide +kernel, rfl, by decide +kernel, by decide +kernel⟩
/-- some web, off the tap -/
def sp_web (K : PySem.W.Frag) : Sp := fun vs H Q _ => ∃ (p : Addr) (size : Int), vs = [.ref p, .int size] ∧ (1 ≤ size ∧ size ≤ 20) ∧ Tap H p ∧
  ∀ (v : V) (u : Wb) H', ExD p H H' → Tap H' p → Da K (rm H' p) u.d v → u.Ok → u.n ≤ size → Q v H'
section
variable {P : Program} {w : World} {K : PySem.W.Frag} {mg : Str → Option Value} {base : Heap}
theorem ok_web {f : Addr} {fd : FuncData} (T : Txt K mg) (F : Fun K "_law_web" "_law_web" s_web f fd)
    (D_draw : DefOk P w K mg base CX0 1 "_law_draw" P_draw (sp_draw K))
    (D_order : DefOk P w K mg base CX0 2 "_law_order" P_order (sp_order K))
    (D_pairs : DefOk P w K mg base CX0 2 "_law_pairs" P_pairs (sp_pairs K))
    (D_nudges : DefOk P w K mg base CX0 2 "_law_nudges" P_nudges (sp_nudges K)) :
    FnG P w K mg base CX0 3 f fd P_web (sp_web K) := by
  refine okG0 F sc_web (fun vs H Q E h => ?_) (fun cdv A outer s H vs Q E hr hq h => ?_)
  · obtain ⟨p, size, rfl, _⟩ := h
    rfl
  · obtain ⟨p, size, rfl, hs, hp, q⟩ := h
    refine ⟨_, (pss_cons (ps_par (i := 2) (j := 3) (by rfl) sc_web.nd rfl rfl (by decide) rfl rfl (pa_cons (pe_callD D_order (hr.mono (by decide)) hq pass0 (pa_cons (pv 0) (pa_cons (pe_op op_add pe_int (pe_callD D_draw (hr.mono (by decide)) hq pass0 (pa_cons (pv 0) (pa_cons (pv 1) pa_nil)))) pa_nil))) (pa_cons (pe_callD D_draw (hr.mono (by decide)) hq pass0 (pa_cons (pv 0) (pa_cons pe_int pa_nil))) pa_nil)) (by rfl))
      (pss_one (ps_ret (pe_tup (pa_cons (pe_callB (call_lenK K) (by rfl) T.b_len bt_len (pa_cons (pv 2) pa_nil)) (pa_cons (pe_callD D_pairs (hr.mono (by decide)) hq pass0 (pa_cons (pv 0) (pa_cons (pv 2) (pa_cons (pv 3) pa_nil)))) (pa_cons (pe_callD D_nudges (hr.mono (by decide)) hq pass0 (pa_cons (pv 0) (pa_cons (pv 2) (pa_cons (pv 3) pa_nil)))) pa_nil))))))), ?_⟩
    refine ⟨_, rfl, _, rfl, _, rfl, p, size, rfl, by omega, hp, fun z1 H1 hz1 p1 e1 => ⟨_, _, rfl, rfl, ?_⟩⟩
    refine ⟨p, 1 + z1, rfl, by omega, p1, fun a o H2 hn2 e2 p2 ha ho => ?_⟩
    have ap := p1.off hn2
    have hol := ho.len
    refine ⟨_, rfl, p, 5, rfl, by decide, p2, fun kind H3 hk p3 e3 => ⟨_, _, rfl, ?_⟩⟩
    have ha3 := e3 _ _ ap ha
    refine ⟨_, rfl, a, _, rfl, .inl (.inl (.inl ha3)), ?_⟩
    refine ⟨_, rfl, _, rfl, _, rfl, p, a, o, 1 + z1, kind, rfl, ha3, ap, ho, by omega, p3, fun L xs ps H4 hL e4 p4 hL4 hA4 hps hpb hpl => ?_⟩
    have ha4 := e4 _ _ ap ha3
    have Lp := p3.off hL
    refine ⟨_, rfl, _, rfl, _, rfl, p, a, o, 1 + z1, kind, rfl, ha4, ap, ho, by omega, p4, fun M ys ns H5 hM e5 p5 hM5 hA5 hnl hns => ?_⟩
    have Mp := p4.off hM
    refine ⟨by show 3 ≤ sizeLine; decide, fun T hT => ?_⟩
    have Tp := p5.off hT
    have hL5 := e5 _ _ Lp hL4
    have TL : T ≠ L := fun e => by
      rw [e, hL5] at hT
      cases hT
    have TM : T ≠ M := fun e => by
      rw [e, hM5] at hT
      cases hT
    have hlen : (((o.map V.int).length : Nat) : Int) = 1 + z1 := by
      rw [List.length_map]
      omega
    rw [hlen]
    refine q (.ref T) ⟨1 + z1, ps, ns⟩ _ ((((e1.tr e2).tr e3).tr e4).tr (e5.tr (ExD.nw hT))) (p5.up (Ex.nw hT)) ?_ ?_ (by show 1 + z1 ≤ size; omega)
    · refine ⟨T, _, rfl, by rw [rm_ne Tp, upd_same], _, _, rfl, rfl, _, _, rfl, ⟨L, xs, rfl, ?_, ?_, ?_⟩, _, _, rfl, ⟨M, ys, rfl, ?_, ?_, ?_⟩, rfl⟩
      · rw [rm_ne Lp, upd_ne TL.symm]
        exact hL5
      · exact hA4.up (e5.rm.tr (Ex.nw hT).rm)
      · rw [List.length_map]
        show ps.length ≤ 100000
        omega
      · rw [rm_ne Mp, upd_ne TM.symm]
        exact hM5
      · exact hA5.up (Ex.nw hT).rm
      · rw [List.length_map]
        show ns.length ≤ 100000
        omega
    · exact ⟨by show 1 ≤ 1 + z1; omega, by show 1 + z1 ≤ 20; omega, hpb, hps, hnl, hns⟩
end

end K65
namespace K65
open PySem PySem.Spec PyProof.Rows L2 Nw
/-! single_nudges: slots 0 web, 1 count, 2 pairs, 3 nudges, 4 behind, 5 cut_off, 6 room, 7 paired, 8 acted_on, 9 source, 10 target, 11 found, 12 quantity, 13 missed -/
abbrev s_single_nudges : Stmt := topS 43
abbrev N_single_nudges : List Str := ["web", "count", "pairs", "nudges", "behind", "cut_off", "room", "paired", "acted_on", "source", "target", "found", "quantity", "missed"]
abbrev P_single_nudges : List Str := ["web"]
theorem sc_single_nudges : FnScope N_single_nudges P_single_nudges (defScope s_single_nudges) := ⟨rfl, rfl, rfl, by decide +kernel, rfl, by decide +kernel, by decide +kernel⟩
/-- a web with more nudges -/
def Wb.more (u : Wb) (rs : List (List Int)) : Wb := ⟨u.n, u.ps, u.ns ++ rs⟩
theorem more_wd {u : Wb} (hu : u.Ok) {rs : List (List Int)} (hl : rs.length ≤ 23) (h : ∀ r ∈ rs, (∀ t ∈ r, 0 ≤ t ∧ t < u.n) ∧ ascB ltIn r = true) : Wb.Wd (Wb.more u rs) := by
  refine ⟨hu.lo, hu.hi, hu.ps, hu.asc, ?_, fun r hr => ?_⟩
  · show (u.ns ++ rs).length ≤ 31
    rw [List.length_append]
    have := hu.few
    omega
  · rcases List.mem_append.mp hr with hr | hr
    · exact ⟨trivial, (hu.ns r hr).2⟩
    · exact ⟨trivial, h r hr⟩
section
open Classical
/-- a room that is not reached, by its first quantity -/
noncomputable def cutB (u : Wb) (r : List Int) : Bool := decide (¬ Rd u (r.headD 0))
/-- the first rooms that are cut off -/
noncomputable def cutOf (u : Wb) : List (List Int) := (firstOf u.ps u.n).filter (cutB u)
end
open Classical in
theorem cutB_iff {u : Wb} {r : List Int} : cutB u r = true ↔ ¬ Rd u (r.headD 0) := decide_eq_true_iff
theorem first_mem {u : Wb} {r : List Int} (h : r ∈ firstOf u.ps u.n) : r.head? = some (r.headD 0) ∧ (r.headD 0 ∈ r) ∧ (∃ a, (0 ≤ a ∧ a < u.n) ∧ r = roomOf u.ps u.n a) := by
  obtain ⟨a, ha, rfl⟩ := mem_rooms (List.mem_filter.mp h).1
  have h1 := room_self (ps := u.ps) ha
  refine ⟨?_, ?_, a, ha, rfl⟩
  · cases e : roomOf u.ps u.n a with
    | nil =>
      rw [e] at h1
      cases h1
    | cons x r => rfl
  · cases e : roomOf u.ps u.n a with
    | nil =>
      rw [e] at h1
      cases h1
    | cons x r => exact List.mem_cons_self
theorem first_len {u : Wb} : (firstOf u.ps u.n).length ≤ u.n.toNat := Nat.le_trans (List.length_filter_le _ _) roomsTo_len
theorem cut_len {u : Wb} : (cutOf u).length ≤ u.n.toNat := Nat.le_trans (List.length_filter_le _ _) first_len
theorem cut_mem {u : Wb} {r : List Int} (h : r ∈ cutOf u) : r ∈ firstOf u.ps u.n ∧ ¬ Rd u (r.headD 0) := by
  obtain ⟨h1, h2⟩ := List.mem_filter.mp h
  exact ⟨h1, cutB_iff.mp h2⟩
theorem cut_wd {u : Wb} (hu : u.Ok) : Wb.Wd (Wb.more u (cutOf u)) := by
  have b1 := hu.lo
  have b2 := hu.hi
  refine more_wd hu (by have := cut_len (u := u); omega) fun r hr => ?_
  obtain ⟨_, _, a, ha, rfl⟩ := first_mem (cut_mem hr).1
  exact ⟨fun t ht => (mem_room.mp ht).1, asc_room⟩
/-- the targets that old sources have in a pairing -/
def oldT (u : Wb) (ps : List (Int × Int)) : List Int := (ps.filter fun p => decide (p.1 < u.n + (u.ns.length : Int))).map (·.2)
def foundS (u : Wb) (ps : List (Int × Int)) : List Int := (iota u.n).filter fun q => !(oldT u ps).contains q
def missF (u : Wb) (ps : List (Int × Int)) (r : List Int) : Bool := !(r.any fun q => (foundS u ps).contains q)
noncomputable def missS (u : Wb) (ps : List (Int × Int)) : List Int := ((cutOf u).filter (missF u ps)).map fun r => r.headD 0
/-- what single nudges are told -/
def FewS (u : Wb) (S : List Int) : Prop := ∃ ps, Top (rowsU (Wb.more u (cutOf u))) u.n ps ∧ ps = tpU (Wb.more u (cutOf u)) ∧ S.Perm (foundS u ps ++ missS u ps) ∧ S.Pairwise (· ≤ ·)
theorem FewS.uniq {u : Wb} {S S' : List Int} (a : FewS u S) (b : FewS u S') : S = S' := by
  obtain ⟨ps, _, rfl, h1, h2⟩ := a
  obtain ⟨ps', _, rfl, h3, h4⟩ := b
  exact (h1.trans h3.symm).eq_of_pairwise (fun x y _ _ hx hy => Int.le_antisymm hx hy) h2 h4
theorem FewS.len {u : Wb} {S : List Int} (a : FewS u S) : S.length ≤ 2 * u.n.toNat := by
  obtain ⟨ps, _, _, h1, _⟩ := a
  rw [h1.length_eq, List.length_append]
  unfold foundS missS
  rw [List.length_map]
  have e1 := List.length_filter_le (fun q => !(oldT u ps).contains q) (iota u.n)
  have e2 := List.length_filter_le (missF u ps) (cutOf u)
  have e3 := cut_len (u := u)
  rw [List.length_map, List.length_range] at e1
  omega
def sp_single_nudges (K : PySem.W.Frag) : Sp := fun vs H Q _ => ∃ (v : V) (u : Wb), vs = [v] ∧ Da K H (Wb.d u) v ∧ u.Ok ∧ ∀ (p : Addr) (S : List Int) H', H p = none → Ex H H' → H' p = some (.lst (S.map V.int)) → FewS u S → Q (.ref p) H'
section
variable {P : Program} {w : World} {K : PySem.W.Frag} {mg : Str → Option Value} {base : Heap}
theorem ok_single_nudges {f : Addr} {fd : FuncData} (T : Txt K mg) (F : Fun K "single_nudges" "single_nudges" s_single_nudges f fd)
    (D_check_web : DefOk P w K mg base CX0 7 "check_web" P_check_web (sp_check_web K))
    (D_first_rooms : DefOk P w K mg base CX0 8 "first_rooms" P_first_rooms (sp_first_rooms K))
    (D_reached_quantities : DefOk P w K mg base CX0 3 "reached_quantities" P_reached_quantities (sp_reached_quantities K))
    (D_targets_of_paired : DefOk P w K mg base CX0 67 "targets_of_paired" P_targets_of_paired (sp_targets_of_paired K)) :
    FnG P w K mg base CX0 68 f fd P_single_nudges (sp_single_nudges K) := by
  refine okG0 F sc_single_nudges (fun vs H Q E h => ?_) (fun cdv A outer s H vs Q E hr hq h => ?_)
  · obtain ⟨v, u, rfl, _⟩ := h
    rfl
  · obtain ⟨v, u, rfl, hd, hu, q⟩ := h
    obtain ⟨tw, x2, x3, rfl, hS, g2, g3⟩ := Wb.at hd
    have b1 := hu.lo
    have b2 := hu.hi
    have b3 := hu.few
    refine ⟨_, (pss_cons (ps_expr (pe_callD D_check_web (hr.mono (by decide)) hq pass0 (pa_cons (pv 0) pa_nil)))
      (pss_cons (ps_asg (pv 0) (pg_tupK (n := 3) K rfl (pgs_cons (pg_name (i := 1) sc_single_nudges.nd rfl (by first | exact .inl rfl | exact .inr rfl)) (pgs_cons (pg_name (i := 2) sc_single_nudges.nd rfl (by first | exact .inl rfl | exact .inr rfl)) (pgs_cons (pg_name (i := 3) sc_single_nudges.nd rfl (by first | exact .inl rfl | exact .inr rfl)) pgs_nil)))))
      (pss_cons (ps_set (i := 4) sc_single_nudges.nd rfl (by first | exact .inl rfl | exact .inr rfl) (pe_callD D_reached_quantities (hr.mono (by decide)) hq pass0 (pa_cons (pv 0) pa_nil)))
      (pss_cons (ps_setLc (i := 5) (own := [("room", 6)]) rfl sc_single_nudges.nd rfl rfl (sw_true rfl rfl rfl (by decide +kernel)) (pi_listK K (pe_callD D_first_rooms (hr.mono (by decide)) hq pass0 (pa_cons (pv 0) pa_nil))) (blkOk_by (N := N_single_nudges) (sc := defScope s_single_nudges) (by decide +kernel)) (fun _ _ _ _ _ => (pg_name (i := 6) sc_single_nudges.nd rfl (by first | exact .inl rfl | exact .inr rfl))) (fun _ _ _ _ _ => (pts_one (pt_dNotIn hr (pe_ix (ix_listK K) (pv 6) pe_int (fun _ _ => rfl)) (pv 4)))) (fun _ _ _ _ _ => (pv 6)))
      (pss_cons (ps_set (i := 7) sc_single_nudges.nd rfl (by first | exact .inl rfl | exact .inr rfl) (pe_callD D_targets_of_paired (hr.mono (by decide)) hq pass0 (pa_cons (pe_tup (pa_cons (pv 1) (pa_cons (pv 2) (pa_cons (pe_op (op_catS K) (pv 3) (pv 5)) pa_nil)))) pa_nil)))
      (pss_cons (ps_set (i := 8) sc_single_nudges.nd rfl (by first | exact .inl rfl | exact .inr rfl) (pe_lock (pe_lc (own := [("source", 9), ("target", 10)]) rfl sc_single_nudges.nd (pi_items (pv 7)) (blkOk_by (N := N_single_nudges) (sc := defScope s_single_nudges) (by decide +kernel)) (fun _ _ _ _ _ => (pg_tupK (n := 2) K rfl (pgs_cons (pg_name (i := 9) sc_single_nudges.nd rfl (by first | exact .inl rfl | exact .inr rfl)) (pgs_cons (pg_name (i := 10) sc_single_nudges.nd rfl (by first | exact .inl rfl | exact .inr rfl)) pgs_nil)))) (fun _ _ _ _ _ => (pts_one (pt_cmpR op_lt (pv 9) (pe_op op_add (pv 1) (pe_callB (call_lenK K) (by rfl) T.b_len bt_len (pa_cons (pv 3) pa_nil))) (nomark _)))) (fun _ _ _ _ _ => (pv 10)))))
      (pss_cons (ps_set (i := 11) sc_single_nudges.nd rfl (by first | exact .inl rfl | exact .inr rfl) (pe_lc (own := [("quantity", 12)]) rfl sc_single_nudges.nd (pi_range1 (by rfl) T.b_range (pa_cons (pv 1) pa_nil)) (blkOk_by (N := N_single_nudges) (sc := defScope s_single_nudges) (by decide +kernel)) (fun _ _ _ _ _ => (pg_name (i := 12) sc_single_nudges.nd rfl (by first | exact .inl rfl | exact .inr rfl))) (fun _ _ _ _ _ => (pts_one (pt_cmpR (op_notInK K) (pv 12) (pv 8) (by rfl)))) (fun _ _ _ _ _ => (pv 12))))
      (pss_cons (ps_setLc (i := 13) (own := [("room", 6)]) rfl sc_single_nudges.nd rfl rfl (sw_true rfl rfl rfl (by decide +kernel)) (pi_listK K (pv 5)) (blkOk_by (N := N_single_nudges) (sc := defScope s_single_nudges) (by decide +kernel)) (fun _ _ _ _ _ => (pg_name (i := 6) sc_single_nudges.nd rfl (by first | exact .inl rfl | exact .inr rfl))) (fun _ _ _ _ _ => (pts_one (pt_not (pt_val (pe_callB (cr_anyK K rfl) (by rfl) T.b_any bt_any (pa_cons (pe_lc (own := [("quantity", 12)]) rfl sc_single_nudges.nd (pi_listK K (pv 6)) (blkOk_by (by kernel_rfl)) (fun _ _ _ _ _ => (pg_name (i := 12) sc_single_nudges.nd rfl (by first | exact .inl rfl | exact .inr rfl))) (fun _ _ _ _ _ => pts_nil) (fun _ _ _ _ _ => (pe_cmpR (op_inK K) (pv 12) (pv 11) (by rfl)))) pa_nil)))))) (fun _ _ _ _ _ => (pe_ix (ix_listK K) (pv 6) pe_int (fun _ _ => rfl))))
      (pss_one (ps_ret (pe_callB (cr_sortedIk K) (by rfl) T.b_sorted bt_sorted (pa_cons (pe_op (op_catS K) (pv 11) (pv 13)) pa_nil)))))))))))), ?_⟩
    refine ⟨_, rfl, _, _, rfl, hd, hu.web, fun H1 e1 => ?_⟩
    refine ⟨_, rfl, tw, _, rfl, e1.t hS, rfl, _, _, rfl, _, _, rfl, _, _, rfl, rfl, ?_⟩
    refine ⟨_, rfl, .ref tw, u, rfl, hd.up e1, hu, fun D vis H2 e2 hD nd hm => ?_⟩
    have e02 := e1.tr e2
    refine ⟨_, rfl, .ref tw, u, rfl, hd.up e02, hu, fun L bs H3 R => ⟨L, rfl, ⟨_, .inl (.inl R.at_)⟩, fun G hG => ?_⟩⟩
    have sL : SqL K H3 L (bs.map V.ref) := .inl (.inl R.at_)
    have hl := R.len
    have fl := first_len (u := u)
    generalize hfs : firstOf u.ps u.n = fs at R hl fl
    refine lc_by (bs.map V.ref).length (fun i H' => Ex H3 H' ∧ H' G = some (.lst ((((bs.zip fs).take i).filter fun z => cutB u z.2).map fun z => V.ref z.1)))
      ⟨Ex.nw hG, upd_same⟩ (fun i H' hi p => itl_go sL p.1 hi) (fun H' p => itl_stop sL p.1) ?_ ?_
    · rintro i H4 x H5 hi ⟨e4, hG4⟩ y
      obtain ⟨rfl, hx⟩ := itl_yld y sL e4
      obtain ⟨b, hb, rfl⟩ := map_at hx
      obtain ⟨_, r, hr1, hr2⟩ := R.row i b hb
      have hr5 := e4 _ _ hr2
      have hz : (bs.zip fs)[i]? = some (b, r) := List.getElem?_zip_eq_some.mpr ⟨hb, hr1⟩
      obtain ⟨fh, _, _⟩ := first_mem (u := u) (r := r) (by rw [hfs]; exact List.mem_of_getElem? hr1)
      have h0 : (r.map V.int)[0]? = some (.int (r.headD 0)) := by
        rw [List.getElem?_map, ← List.head?_eq_getElem?, fh]
        rfl
      refine ⟨rfl, _, rfl, b, _, 0, _, rfl, rfl, .inl (.inl hr5), atI_int (Int.le_refl _) h0, ?_⟩
      refine ⟨_, rfl, D, _, rfl, DGet.k (k := Sum.inl (r.headD 0)) ((R.ex.tr e4) _ _ hD), ?_⟩
      rw [visK_get]
      have hcut : cutB u r = !vis.contains (r.headD 0) := by
        rw [Bool.eq_iff_iff, cutB_iff, Bool.not_eq_true', ← Bool.not_eq_true, List.contains_iff_mem, hm]
      rw [← hcut, take_snoc hz, List.filter_append, List.map_append, List.filter_cons, List.filter_nil]
      refine ⟨_, rfl, ?_⟩
      refine ite2 (fun h => ?_) (fun h => ?_)
      · refine ⟨_, rfl, _, hG4, mil' ?_, e4.wr hG, ?_⟩
        · rw [List.length_map]
          have h1 := List.length_filter_le (fun z : Addr × List Int => cutB u z.2) ((bs.zip fs).take i)
          rw [List.length_take, List.length_zip] at h1
          omega
        · rw [upd_same, if_pos h]
          rfl
      · refine ⟨e4, ?_⟩
        rw [if_neg h, List.map_nil, List.append_nil]
        exact hG4
    · rintro H4 ⟨e4, hG4⟩
      rw [List.length_map, List.take_of_length_le (by rw [List.length_zip]; omega)] at hG4
      have hcz : ((bs.zip fs).filter fun z => cutB u z.2).map (·.2) = cutOf u := by
        unfold cutOf
        rw [hfs]
        exact zip_filter hl
      have cat : ∀ (k : Nat) (b : Addr), (((bs.zip fs).filter fun z => cutB u z.2).map (·.1))[k]? = some b → ∃ r, (cutOf u)[k]? = some r ∧ H4 b = some (.lst (r.map V.int)) ∧ r.length ≤ 20 := fun k b hb => by
        obtain ⟨z, hz, rfl⟩ := map_at hb
        obtain ⟨j, hj1, hj2⟩ := zip_at hl (List.mem_filter.mp (List.mem_of_getElem? hz)).1
        obtain ⟨_, r, n2, n3⟩ := R.row j z.1 hj1
        rw [hj2] at n2
        cases n2
        obtain ⟨_, _, a, ha, er⟩ := first_mem (u := u) (r := z.2) (by rw [hfs]; exact List.mem_of_getElem? hj2)
        refine ⟨z.2, ?_, e4 _ _ n3, ?_⟩
        · rw [← hcz, List.getElem?_map, hz]
          rfl
        · rw [er]
          have := room_len (ps := u.ps) (n := u.n) (a := a)
          omega
      have clen : (((bs.zip fs).filter fun z => cutB u z.2).map (·.1)).length = (cutOf u).length := by
        rw [← hcz, List.length_map, List.length_map]
      have hG4' : H4 G = some (.lst ((((bs.zip fs).filter fun z => cutB u z.2).map (·.1)).map V.ref)) := by
        rw [hG4, List.map_map]
        rfl
      generalize ((bs.zip fs).filter fun z => cutB u z.2).map (·.1) = cs at cat clen hG4'
      clear hG4 hcz
      have cl := cut_len (u := u)
      have e14 := e02.tr (R.ex.tr e4)
      obtain ⟨a3, xs, rfl, hL3, hA3, hz3⟩ := g3
      have hl3 := hA3.len
      rw [List.length_map] at hl3
      refine ⟨_, rfl, _, rfl, _, rfl, _, rfl, a3, G, _, _, rfl, rfl, .inl (.inl (e14 _ _ hL3)), .inl (.inl hG4'), by rw [List.length_map]; omega, fun N hN => ?_⟩
      have hN5 : (upd H4 N (.lst (xs ++ cs.map V.ref))) N = some (.lst (xs ++ cs.map V.ref)) := upd_same
      have e5 : Ex H4 (upd H4 N (.lst (xs ++ cs.map V.ref))) := Ex.nw hN
      generalize upd H4 N (.lst (xs ++ cs.map V.ref)) = H5 at hN5 e5
      refine ⟨by show 3 ≤ sizeLine; decide, fun T hT => ?_⟩
      have hT6 : (upd H5 T (.tup [.int u.n, x2, .ref N])) T = some (.tup [.int u.n, x2, .ref N]) := upd_same
      have e6 : Ex H5 (upd H5 T (.tup [.int u.n, x2, .ref N])) := Ex.nw hT
      generalize upd H5 T (.tup [.int u.n, x2, .ref N]) = H6 at hT6 e6
      have e16 := e14.tr (e5.tr e6)
      have dm : Da K H6 (Wb.d (Wb.more u (cutOf u))) (.ref T) := by
        refine ⟨T, _, rfl, hT6, _, _, rfl, rfl, _, _, rfl, g2.up e16, _, _, rfl, ⟨N, _, rfl, e6 _ _ hN5, ?_, ?_⟩, rfl⟩
        · rw [show (Wb.more u (cutOf u)).ns = u.ns ++ cutOf u from rfl, List.map_append]
          refine (hA3.up e16).app (rows_of clen fun k b hb => ?_)
          obtain ⟨r, h1, h2, h3⟩ := cat k b hb
          exact ⟨r, h1, (e5.tr e6) _ _ h2, by omega⟩
        · rw [show (Wb.more u (cutOf u)).ns = u.ns ++ cutOf u from rfl, List.length_map, List.length_append]
          omega
      refine ⟨.ref T, Wb.more u (cutOf u), rfl, dm, cut_wd hu, fun M ps H7 e7 hM hM7 top etp => ?_⟩
      have e17 := e16.tr e7
      have plen : (ps.length : Int) ≤ u.n := mt_le (by omega) top.mt
      -- the targets of the old sources
      refine ⟨M, _, hM7, trivial, fun od => ?_⟩
      have e8 : Ex H6 (upd H7 M (.frz od (.dK (kvI ps)))) := e7.wr hM
      have hM8 : (upd H7 M (.frz od (.dK (kvI ps)))) M = some (.frz od (.dK (kvI ps))) := upd_same
      generalize upd H7 M (.frz od (.dK (kvI ps))) = H8 at e8 hM8
      refine ⟨_, rfl, M, od, _, rfl, hM8, fun B hB => ?_⟩
      refine lc_by ps.length (fun j H' => Ex H8 H' ∧ H' B = some (.lst ((((ps.take j).filter fun p => decide (p.1 < u.n + (u.ns.length : Int))).map (·.2)).map V.int)))
        ⟨Ex.nw hB, upd_same⟩ (fun j H' hj p => ⟨p.1 _ _ hM8, by unfold kvI; rw [List.length_map]; exact hj⟩) (fun H' p => ⟨p.1 _ _ hM8, by unfold kvI; rw [List.length_map]; exact Nat.le_refl _⟩) ?_ ?_
      · rintro j H9 x H10 hj ⟨e9, hB9⟩ ⟨t2, kk, vv, hkv, rfl, hn2, rfl⟩
        have hkv' : (ps.map fun p : Int × Int => ((Sum.inl p.1 : Key), V.int p.2))[j]? = some (kk, vv) := hkv
        obtain ⟨p, hp, e⟩ := map_at hkv'
        obtain ⟨rfl, rfl⟩ := Prod.mk.inj e
        have hB10 : (upd H9 t2 (.tup [kV (Sum.inl p.1), V.int p.2])) B = some (.lst ((((ps.take j).filter fun p => decide (p.1 < u.n + (u.ns.length : Int))).map (·.2)).map V.int)) := (Ex.nw hn2) _ _ hB9
        have e10 : Ex H8 (upd H9 t2 (.tup [kV (Sum.inl p.1), V.int p.2])) := e9.tr (Ex.nw hn2)
        have hT10 : (upd H9 t2 (.tup [kV (Sum.inl p.1), V.int p.2])) t2 = some (.tup [kV (Sum.inl p.1), V.int p.2]) := upd_same
        generalize upd H9 t2 (.tup [kV (Sum.inl p.1), V.int p.2]) = H10 at hB10 e10 hT10
        refine ⟨t2, _, rfl, .inl (.inl hT10), rfl, _, _, rfl, _, _, rfl, rfl, rfl, ?_⟩
        have hL10 := (e14.tr ((e5.tr e6).tr (e8.tr e10))) _ _ hL3
        refine ⟨_, rfl, _, rfl, _, rfl, a3, _, rfl, .inl (.inl (.inl hL10)), _, _, rfl, rfl, _, _, rfl, rfl, _, rfl, ?_⟩
        rw [← hl3, take_snoc hp, List.filter_append, List.map_append, List.map_append, List.filter_cons, List.filter_nil]
        refine ite2 (fun h => ?_) (fun h => ?_)
        · refine ⟨_, rfl, _, hB10, mil' ?_, e10.wr hB, ?_⟩
          · rw [List.length_map, List.length_map]
            have h1 := List.length_filter_le (fun p : Int × Int => decide (p.1 < u.n + (u.ns.length : Int))) (ps.take j)
            rw [List.length_take] at h1
            omega
          · rw [upd_same, if_pos h]
            rfl
        · refine ⟨e10, ?_⟩
          rw [if_neg h, List.map_nil, List.map_nil, List.append_nil]
          exact hB10
      · rintro H9 ⟨e9, hB9⟩
        rw [List.take_length] at hB9
        refine ⟨e9 _ _ hM8, ?_⟩
        have BM : B ≠ M := fun e => by
          rw [e, hM8] at hB
          cases hB
        have e10 : Ex H6 (upd H9 M (.dK (kvI ps))) := (e8.tr e9).wr hM
        have hB10 : (upd H9 M (.dK (kvI ps))) B = some (.lst ((oldT u ps).map V.int)) := by
          rw [upd_ne BM]
          exact hB9
        generalize upd H9 M (.dK (kvI ps)) = H10 at e10 hB10
        -- those without an old source
        refine ⟨_, rfl, _, rfl, by omega, by omega, fun C hC => ?_⟩
        refine lc_by u.n.toNat (fun j H' => Ex H10 H' ∧ H' C = some (.lst ((((iota u.n).take j).filter fun q => !(oldT u ps).contains q).map V.int)))
          ⟨Ex.nw hC, upd_same⟩ (fun i H' hi p => (by show i < _; omega)) (fun H' p => (by show _ ≤ u.n.toNat; omega)) ?_ ?_
        · rintro j H9 x H11 hj ⟨e11, hC11⟩ ⟨rfl, rfl⟩
          rw [show (0 : Int) + (j : Int) = (j : Int) by omega]
          have hk : (iota u.n)[j]? = some (j : Int) := iota_at (by omega)
          rw [take_snoc hk, List.filter_append, List.map_append, List.filter_cons, List.filter_nil]
          refine ⟨rfl, _, rfl, _, rfl, B, _, rfl, .inl (.inl (.inl (e11 _ _ hB10))), rfl, flat_ints, ?_⟩
          rw [if_pos rfl, inV_int]
          refine ⟨_, rfl, ?_⟩
          refine ite2 (fun h => ?_) (fun h => ?_)
          · refine ⟨_, rfl, _, hC11, mil' ?_, e11.wr hC, ?_⟩
            · rw [List.length_map]
              have h1 := List.length_filter_le (fun q => !(oldT u ps).contains q) ((iota u.n).take j)
              rw [List.length_take] at h1
              omega
            · rw [upd_same, if_pos h]
              rfl
          · refine ⟨e11, ?_⟩
            rw [if_neg h, List.map_nil, List.append_nil]
            exact hC11
        · rintro H11 ⟨e11, hC11⟩
          rw [List.take_of_length_le (by rw [List.length_map, List.length_range]; omega)] at hC11
          have hC11' : H11 C = some (.lst ((foundS u ps).map V.int)) := hC11
          have fdl : (foundS u ps).length ≤ 20 := by
            have h1 := List.length_filter_le (fun q => !(oldT u ps).contains q) (iota u.n)
            rw [List.length_map, List.length_range] at h1
            show ((iota u.n).filter fun q => !(oldT u ps).contains q).length ≤ 20
            omega
          have hmf : ∀ r, missF u ps r = !(r.any fun q => (foundS u ps).contains q) := fun r => rfl
          have hmS : missS u ps = ((cutOf u).filter (missF u ps)).map fun r => r.headD 0 := rfl
          have e4b : Ex H4 H11 := (e5.tr e6).tr (e10.tr e11)
          have hG11 := e4b _ _ hG4'
          have cat' : ∀ (k : Nat) (b : Addr), cs[k]? = some b → ∃ r, (cutOf u)[k]? = some r ∧ H11 b = some (.lst (r.map V.int)) ∧ r.length ≤ 20 := fun k b hb => by
            obtain ⟨r, h1, h2, h3⟩ := cat k b hb
            exact ⟨r, h1, e4b _ _ h2, h3⟩
          have chd : ∀ r ∈ cutOf u, r.head? = some (r.headD 0) := fun r hr => (first_mem (cut_mem hr).1).1
          have fin : ∀ (p : Addr) (S : List Int) H', H11 p = none → Ex H11 H' → H' p = some (.lst (S.map V.int)) → S.Perm (foundS u ps ++ missS u ps) → S.Pairwise (· ≤ ·) → Q (.ref p) H' := fun p S H' h1 h2 h3 h4 h5 => q p S H' (e14.fr (e4b.fr h1)) ((e14.tr e4b).tr h2) h3 ⟨ps, top, etp, h4, h5⟩
          generalize missS u ps = ms at hmS fin
          generalize cutOf u = ct at hmS clen cl cat' chd
          clear cat
          have sG : SqL K H11 G (cs.map V.ref) := .inl (.inl hG11)
          refine ⟨_, rfl, G, rfl, ⟨_, sG⟩, fun M2 hM2 => ?_⟩
          refine lc_by (cs.map V.ref).length (fun i H' => Ex H11 H' ∧ H' M2 = some (.lst ((((ct.take i).filter (missF u ps)).map fun r => r.headD 0).map V.int)))
            ⟨Ex.nw hM2, upd_same⟩ (fun i H' hi p => itl_go sG p.1 hi) (fun H' p => itl_stop sG p.1) ?_ ?_
          · rintro i H12 x H13 hi ⟨e12, hM12⟩ y
            obtain ⟨rfl, hx⟩ := itl_yld y sG e12
            obtain ⟨b, hb, rfl⟩ := map_at hx
            obtain ⟨r, hr1, hr2, hr3⟩ := cat' i b hb
            have hr13 := e12 _ _ hr2
            have sR : SqL K H13 b (r.map V.int) := .inl (.inl hr13)
            refine ⟨rfl, _, rfl, b, rfl, ⟨_, sR⟩, fun A2 hA2 => ?_⟩
            refine lc_by (r.map V.int).length (fun j H' => Ex H13 H' ∧ H' A2 = some (.lst (((r.take j).map fun q => (foundS u ps).contains q).map V.bl)))
              ⟨Ex.nw hA2, upd_same⟩ (fun j H' hj p => itl_go sR p.1 hj) (fun H' p => itl_stop sR p.1) ?_ ?_
            · rintro j H14 x H15 hj ⟨e14', hA14⟩ y
              obtain ⟨rfl, hx⟩ := itl_yld y sR e14'
              obtain ⟨k, hk, rfl⟩ := map_at hx
              have hC15 := (e12.tr e14') _ _ hC11'
              refine ⟨rfl, _, rfl, _, rfl, C, _, rfl, .inl (.inl (.inl hC15)), rfl, flat_ints, _, hA14, mil' ?_, e14'.wr hA2, ?_⟩
              · rw [List.length_map, List.length_map, List.length_take]
                omega
              · rw [show (if false = true then !inV (.int k) ((foundS u ps).map V.int) else inV (.int k) ((foundS u ps).map V.int)) = (foundS u ps).contains k from inV_int, upd_same, take_snoc hk, List.map_append, List.map_append]
                rfl
            · rintro H14 ⟨e14', hA14⟩
              rw [List.length_map, List.take_length] at hA14
              refine ⟨A2, _, rfl, .inl (.inl hA14), _, rfl, ?_⟩
              have hM14 := e14' _ _ hM12
              rw [List.any_map, show (r.any (id ∘ fun q => (foundS u ps).contains q)) = (r.any fun q => (foundS u ps).contains q) from rfl]
              show (if (!(r.any fun q => (foundS u ps).contains q)) = true then _ else _)
              rw [← hmf r, take_snoc hr1, List.filter_append, List.map_append, List.map_append, List.filter_cons, List.filter_nil]
              refine ite2 (fun h => ?_) (fun h => ?_)
              · have h0 : (r.map V.int)[0]? = some (.int (r.headD 0)) := by
                  rw [List.getElem?_map, ← List.head?_eq_getElem?, chd r (List.mem_of_getElem? hr1)]
                  rfl
                refine ⟨_, rfl, b, _, 0, _, rfl, rfl, .inl (.inl (e14' _ _ hr13)), atI_int (Int.le_refl _) h0, _, hM14, mil' ?_, (e12.tr e14').wr hM2, ?_⟩
                · rw [List.length_map, List.length_map]
                  have h1 := List.length_filter_le (missF u ps) (ct.take i)
                  rw [List.length_take] at h1
                  omega
                · rw [upd_same, if_pos h]
                  rfl
              · refine ⟨e12.tr e14', ?_⟩
                rw [if_neg h, List.map_nil, List.map_nil, List.append_nil]
                exact hM14
          · rintro H12 ⟨e12, hM12⟩
            rw [List.length_map, clen, List.take_length, ← hmS] at hM12
            have msl : ms.length ≤ 20 := by
              rw [hmS, List.length_map]
              have h1 := List.length_filter_le (missF u ps) ct
              omega
            refine ⟨_, rfl, _, rfl, C, M2, _, _, rfl, rfl, .inl (.inl (e12 _ _ hC11')), .inl (.inl hM12), by rw [List.length_map, List.length_map]; omega, fun p hp => ?_⟩
            rw [← List.map_append]
            refine ⟨p, _, rfl, .inl (.inl upd_same), fun S p2 perm srt hp2 => ?_⟩
            exact fin p2 S _ (e12.fr ((Ex.nw hp).fr hp2)) (e12.tr ((Ex.nw hp).tr (Ex.nw hp2))) upd_same perm srt
end

end K65
namespace K65
open PySem PySem.Spec PyProof.Rows L2 Nw
/-! fewest_single: slots 0 web -/
abbrev s_fewest_single : Stmt := topS 42
abbrev N_fewest_single : List Str := ["web"]
abbrev P_fewest_single : List Str := ["web"]
theorem sc_fewest_single : FnScope N_fewest_single P_fewest_single (defScope s_fewest_single) := ⟨rfl, rfl, rfl, by decide +kernel, rfl, by decide +kernel, by decide +kernel⟩
def sp_fewest_single (K : PySem.W.Frag) : Sp := fun vs H Q _ => ∃ (v : V) (u : Wb), vs = [v] ∧ Da K H (Wb.d u) v ∧ u.Ok ∧ ∀ (S : List Int) H', Ex H H' → FewS u S → Q (.int (S.length : Int)) H'
section
variable {P : Program} {w : World} {K : PySem.W.Frag} {mg : Str → Option Value} {base : Heap}
theorem ok_fewest_single {f : Addr} {fd : FuncData} (T : Txt K mg) (F : Fun K "fewest_single" "fewest_single" s_fewest_single f fd)
    (D_single_nudges : DefOk P w K mg base CX0 68 "single_nudges" P_single_nudges (sp_single_nudges K)) :
    FnG P w K mg base CX0 69 f fd P_fewest_single (sp_fewest_single K) := by
  refine okG0 F sc_fewest_single (fun vs H Q E h => ?_) (fun cdv A outer s H vs Q E hr hq h => ?_)
  · obtain ⟨v, u, rfl, _⟩ := h
    rfl
  · obtain ⟨v, u, rfl, hd, hu, q⟩ := h
    refine ⟨_, (pss_one (ps_ret (pe_callB (call_lenK K) (by rfl) T.b_len bt_len (pa_cons (pe_callD D_single_nudges (hr.mono (by decide)) hq pass0 (pa_cons (pv 0) pa_nil)) pa_nil)))), ?_⟩
    refine ⟨_, rfl, v, u, rfl, hd, hu, fun p S H' hp e hS fs => ?_⟩
    refine ⟨p, _, rfl, .inl (.inl (.inl hS)), ?_⟩
    rw [List.length_map]
    exact q S H' e fs
end

end K65
namespace K65
open PySem PySem.Spec PyProof.Rows L2 Nw
/-! copied_nudges: slots 0 nudges, 1 nudge -/
abbrev s_copied_nudges : Stmt := topS 23
abbrev N_copied_nudges : List Str := ["nudges", "nudge"]
abbrev P_copied_nudges : List Str := ["nudges"]
theorem sc_copied_nudges : FnScope N_copied_nudges P_copied_nudges (defScope s_copied_nudges) := ⟨rfl, rfl, rfl, by decide +kernel, rfl, by decide +kernel, by decide +kernel⟩
/-- rows copied -/
def sp_copied_nudges (K : PySem.W.Frag) : Sp := fun vs H Q _ => ∃ v ns, vs = [v] ∧ Da K H (dRows ns) v ∧
  ∀ L bs H', NewR H H' ns L bs → Q (.ref L) H'
section
variable {P : Program} {w : World} {K : PySem.W.Frag} {mg : Str → Option Value} {base : Heap}
theorem ok_copied_nudges {f : Addr} {fd : FuncData} (T : Txt K mg) (F : Fun K "copied_nudges" "copied_nudges" s_copied_nudges f fd) :
    FnG P w K mg base CX0 1 f fd P_copied_nudges (sp_copied_nudges K) := by
  refine okG0 F sc_copied_nudges (fun vs H Q E h => ?_) (fun cdv A outer s H vs Q E hr hq h => ?_)
  · obtain ⟨v, ns, rfl, _⟩ := h
    rfl
  · obtain ⟨v, ns, rfl, ⟨a, xs, rfl, hL, hA, hz⟩, q⟩ := h
    have hl := hA.len
    rw [List.length_map] at hl hz
    refine ⟨_, (pss_one (ps_ret (pe_lc (own := [("nudge", 1)]) rfl sc_copied_nudges.nd (pi_listK K (pv 0)) (blkOk_by (N := N_copied_nudges) (sc := defScope s_copied_nudges) (by decide +kernel)) (fun _ _ _ _ _ => (pg_name (i := 1) sc_copied_nudges.nd rfl (by first | exact .inl rfl | exact .inr rfl))) (fun _ _ _ _ _ => pts_nil) (fun _ _ _ _ _ => (pe_callTy (call_listK K) (by rfl) T.b_list bt_list (pa_cons (pv 1) pa_nil)))))), ?_⟩
    refine ⟨_, rfl, a, rfl, ⟨_, .inl (.inl hL)⟩, fun D hD => ?_⟩
    refine lc_by xs.length (fun i H' => Ex H H' ∧ ∃ bs : List Addr, H' D = some (.lst (bs.map V.ref)) ∧ bs.length = i ∧ bs.Nodup ∧
        ∀ (k : Nat) (b : Addr), bs[k]? = some b → (H b = none ∧ b ≠ D) ∧ ∃ r, ns[k]? = some r ∧ H' b = some (.lst (r.map V.int)))
      ⟨Ex.nw hD, [], upd_same, rfl, List.nodup_nil, fun k b hb => by simp at hb⟩ (fun i H' hi p => itl_go (.inl (.inl hL)) p.1 hi) (fun H' p => itl_stop (.inl (.inl hL)) p.1) ?_ ?_
    · rintro i H1 x H2 hi ⟨e1, bs, hD1, hlen, nd, hall⟩ y
      obtain ⟨rfl, hx⟩ := itl_yld y (.inl (.inl hL)) e1
      obtain ⟨dr, hdr, hxd⟩ := hA.at' hx
      obtain ⟨r, hrr, rfl⟩ := map_at hdr
      obtain ⟨ar, zs, rfl, hLr, hAr, _⟩ := hxd
      obtain rfl := DaAll.ints.mp hAr
      refine ⟨rfl, _, rfl, ar, _, rfl, .inl (.inl (.inl (e1 _ _ hLr))), fun l hl' => ?_⟩
      have lD : l ≠ D := fun e => by
        rw [e, hD1] at hl'
        cases hl'
      refine ⟨bs.map V.ref, by rw [upd_ne lD.symm]; exact hD1, mil' (by rw [List.length_map]; omega), (e1.tr (Ex.nw hl')).wr hD, bs ++ [l], ?_, ?_, ?_, ?_⟩
      · rw [upd_same, List.map_append]
        rfl
      · rw [List.length_append, hlen]
        rfl
      · refine nodup_snoc nd fun hm => ?_
        obtain ⟨k, hk⟩ := List.mem_iff_getElem?.mp hm
        obtain ⟨_, r', _, h3⟩ := hall k l hk
        rw [h3] at hl'
        cases hl'
      · intro k b hb
        by_cases hk : k < bs.length
        · rw [List.getElem?_append_left hk] at hb
          obtain ⟨n1, r', n2, n3⟩ := hall k b hb
          refine ⟨n1, r', n2, ?_⟩
          rw [upd_ne n1.2, upd_ne (ne_of_none n3 hl')]
          exact n3
        · rw [List.getElem?_append_right (by omega)] at hb
          have hk2 : k - bs.length = 0 := by
            cases hq' : k - bs.length with
            | zero => rfl
            | succ z =>
              rw [hq'] at hb
              simp at hb
          rw [hk2] at hb
          cases hb
          have ek : k = i := by omega
          subst ek
          exact ⟨⟨e1.fr hl', lD⟩, r, hrr, by rw [upd_ne lD, upd_same]⟩
    · rintro H1 ⟨e1, bs, hD1, hlen, nd, hall⟩
      exact q D bs H1 ⟨e1, hD, hD1, by omega, hall, nd⟩
end

/-! turned: slots 0 web, 1 count, 2 pairs, 3 nudges, 4 source, 5 target -/
abbrev s_turned : Stmt := topS 24
abbrev N_turned : List Str := ["web", "count", "pairs", "nudges", "source", "target"]
abbrev P_turned : List Str := ["web"]
theorem sc_turned : FnScope N_turned P_turned (defScope s_turned) := ⟨rfl, rfl, rfl, by decide +kernel, rfl, by decide +kernel, by decide +kernel⟩
def sp_turned (K : PySem.W.Frag) : Sp := fun vs H Q _ => ∃ v u, vs = [v] ∧ Da K H (Wb.d u) v ∧ u.Ok ∧
  ∀ w T L1 L2 xs bs H', NewW K H H' w T L1 L2 xs bs → w.Ok → Trn u w → Q (.ref T) H'
section
variable {P : Program} {w : World} {K : PySem.W.Frag} {mg : Str → Option Value} {base : Heap}
theorem ok_turned {f : Addr} {fd : FuncData} (T : Txt K mg) (F : Fun K "turned" "turned" s_turned f fd)
    (D_check_web : DefOk P w K mg base CX0 7 "check_web" P_check_web (sp_check_web K))
    (D_copied_nudges : DefOk P w K mg base CX0 1 "copied_nudges" P_copied_nudges (sp_copied_nudges K)) :
    FnG P w K mg base CX0 8 f fd P_turned (sp_turned K) := by
  refine okG0 F sc_turned (fun vs H Q E h => ?_) (fun cdv A outer s H vs Q E hr hq h => ?_)
  · obtain ⟨v, u, rfl, _⟩ := h
    rfl
  · obtain ⟨v, u, rfl, hd, hu, q⟩ := h
    have b4 := hu.len
    refine ⟨_, (pss_cons (ps_expr (pe_callD D_check_web (hr.mono (by decide)) hq pass0 (pa_cons (pv 0) pa_nil)))
      (pss_cons (ps_asg (pv 0) (pg_tupK (n := 3) K rfl (pgs_cons (pg_name (i := 1) sc_turned.nd rfl (by first | exact .inl rfl | exact .inr rfl)) (pgs_cons (pg_name (i := 2) sc_turned.nd rfl (by first | exact .inl rfl | exact .inr rfl)) (pgs_cons (pg_name (i := 3) sc_turned.nd rfl (by first | exact .inl rfl | exact .inr rfl)) pgs_nil)))))
      (pss_one (ps_ret (pe_tup (pa_cons (pv 1) (pa_cons (pe_callB (cr_sortedPOk K) (by rfl) T.b_sorted bt_sorted (pa_cons (pe_lc (own := [("source", 4), ("target", 5)]) rfl sc_turned.nd (pi_listK K (pv 2)) (blkOk_by (N := N_turned) (sc := defScope s_turned) (by decide +kernel)) (fun _ _ _ _ _ => (pg_tupK (n := 2) K rfl (pgs_cons (pg_name (i := 4) sc_turned.nd rfl (by first | exact .inl rfl | exact .inr rfl)) (pgs_cons (pg_name (i := 5) sc_turned.nd rfl (by first | exact .inl rfl | exact .inr rfl)) pgs_nil)))) (fun _ _ _ _ _ => pts_nil) (fun _ _ _ _ _ => (pe_tup (pa_cons (pv 5) (pa_cons (pv 4) pa_nil))))) pa_nil)) (pa_cons (pe_callD D_copied_nudges (hr.mono (by decide)) hq pass0 (pa_cons (pv 3) pa_nil)) pa_nil)))))))), ?_⟩
    refine ⟨_, rfl, _, _, rfl, hd, hu.web, fun H1 e1 => ?_⟩
    obtain ⟨t, x2, x3, rfl, hS, g2, g3⟩ := Wb.at (hd.up e1)
    refine ⟨_, rfl, t, _, rfl, hS, rfl, _, _, rfl, _, _, rfl, _, _, rfl, rfl, ?_⟩
    obtain ⟨a2, ys, rfl, hL2, hA2, hz2⟩ := g2
    have hY : SqL K H1 a2 ys := .inl (.inl hL2)
    have hl2 := hA2.len
    rw [List.length_map] at hl2
    refine ⟨_, rfl, _, rfl, a2, rfl, ⟨_, hY⟩, fun D hD => ?_⟩
    refine lc_by ys.length (fun i H' => Ex H1 H' ∧ ∃ ac, H' D = some (.lst ac) ∧ DaAll K H' (((u.ps.take i).map fun q => (q.2, q.1)).map dPair) ac)
      ⟨Ex.nw hD, [], upd_same, rfl⟩ (fun i H' hi p => itl_go hY p.1 hi) (fun H' p => itl_stop hY p.1) ?_ ?_
    · rintro i H3 x H4 hi ⟨e3, ac, hD3, hA3⟩ y
      obtain ⟨rfl, hx⟩ := itl_yld y hY e3
      obtain ⟨p, hp, b, rfl, hSb⟩ := pairs_at hA2 hx
      have l3 := hA3.len
      rw [List.length_map, List.length_map, List.length_take] at l3
      refine ⟨b, _, rfl, e3.t hSb, rfl, _, _, rfl, _, _, rfl, rfl, rfl, ?_⟩
      refine ⟨_, rfl, _, rfl, by show 2 ≤ sizeLine; decide, fun T2 hT2 => ?_⟩
      have e6 : Ex H4 (upd H4 T2 (.tup [.int p.2, .int p.1])) := Ex.nw hT2
      have hD6 := e6 _ _ hD3
      refine ⟨ac, hD6, mil' (by omega), (e3.tr e6).wr hD, ac ++ [.ref T2], upd_same, ?_⟩
      rw [take_snoc hp, List.map_append]
      refine pairs_wr hD6 ?_
      rw [List.map_append]
      exact (hA3.up e6).app ⟨_, _, rfl, dPair_of (p := (p.2, p.1)) upd_same, rfl⟩
    · rintro H3 ⟨e3, ac, hD3, hA3⟩
      rw [← hl2, List.take_length] at hA3
      have hn : (u.ps.map fun q => (q.2, q.1)).Nodup := by
        refine (List.pairwise_map).mpr ((nodup_asc hu.asc).imp fun {a b} n e => n ?_)
        obtain ⟨a1, a2⟩ := a
        obtain ⟨b1, b2⟩ := b
        simp only [Prod.mk.injEq] at e ⊢
        exact ⟨e.2, e.1⟩
      obtain ⟨k1, k2⟩ := keys_of hA3
      refine ⟨D, ac, keyOf H3, rfl, .inl (.inl hD3), k1, fun zs p s1 s2 hp => ?_⟩
      obtain ⟨M, m1, m2, m3, m4⟩ := sortedP hA3 hn s1 s2
      have e4 : Ex H3 (upd H3 p (.lst zs)) := Ex.nw hp
      have f4 : (upd H3 p (.lst zs)) p = some (.lst zs) := upd_same
      generalize upd H3 p (.lst zs) = H4 at e4 f4
      have e14 := e3.tr e4
      refine ⟨_, rfl, x3, u.ns, rfl, g3.up e14, fun L bs H5 R => ?_⟩
      refine ⟨by show 3 ≤ sizeLine; decide, fun T hT => ?_⟩
      have e6 : Ex H5 (upd H5 T (.tup [.int u.n, .ref p, .ref L])) := Ex.nw hT
      have f6 : (upd H5 T (.tup [.int u.n, .ref p, .ref L])) T = some (.tup [.int u.n, .ref p, .ref L]) := upd_same
      generalize upd H5 T (.tup [.int u.n, .ref p, .ref L]) = H6 at e6 f6
      have tr : Trn u ⟨u.n, M, u.ns⟩ := by
        refine ⟨rfl, fun x => ?_, rfl⟩
        show x ∈ M ↔ _
        rw [m3, List.mem_map]
        constructor
        · rintro ⟨y, hy, rfl⟩
          exact hy
        · intro hx
          exact ⟨_, hx, rfl⟩
      refine q ⟨u.n, M, u.ns⟩ T p L zs bs H6 ⟨((e1.tr e14).tr R.ex).tr e6, f6, e1.fr (e3.fr hp), e6 _ _ (R.ex _ _ f4), (m1.up (e4.tr (R.ex.tr e6))), (e1.tr e14).fr R.new, e6 _ _ R.at_, R.len, ?_, R.nd, ?_⟩ (tr.ok hu m2) tr
      · intro k b hb
        obtain ⟨n, r, h1, h2⟩ := R.row k b hb
        refine ⟨⟨(e1.tr e14).fr n.1, n.2, fun e => ?_⟩, r, h1, e6 _ _ h2⟩
        rw [← e, n.1] at f4
        cases f4
      · intro e
        rw [e, R.new] at f4
        cases f4
end

end K65
namespace K65
open PySem PySem.Spec PyProof.Rows L2 Nw
/-! pairing_size: slots 0 web -/
abbrev s_pairing_size : Stmt := topS 37
abbrev N_pairing_size : List Str := ["web"]
abbrev P_pairing_size : List Str := ["web"]
theorem sc_pairing_size : FnScope N_pairing_size P_pairing_size (defScope s_pairing_size) := ⟨rfl, rfl, rfl, by decide +kernel, rfl, by decide +kernel, by decide +kernel⟩
def sp_pairing_size (K : PySem.W.Frag) : Sp := fun vs H Q _ => ∃ v u, vs = [v] ∧ Da K H (Wb.d u) v ∧ u.Ok ∧ ∀ (ps : List (Int × Int)) H', Ex H H' → Top (rowsU u) u.n ps → Q (.int (ps.length : Int)) H'
section
variable {P : Program} {w : World} {K : PySem.W.Frag} {mg : Str → Option Value} {base : Heap}
theorem ok_pairing_size {f : Addr} {fd : FuncData} (T : Txt K mg) (F : Fun K "pairing_size" "pairing_size" s_pairing_size f fd)
    (D_check_web : DefOk P w K mg base CX0 7 "check_web" P_check_web (sp_check_web K))
    (D_targets_of_paired : DefOk P w K mg base CX0 67 "targets_of_paired" P_targets_of_paired (sp_targets_of_paired K)) :
    FnG P w K mg base CX0 68 f fd P_pairing_size (sp_pairing_size K) := by
  refine okG0 F sc_pairing_size (fun vs H Q E h => ?_) (fun cdv A outer s H vs Q E hr hq h => ?_)
  · obtain ⟨v, u, rfl, _⟩ := h
    rfl
  · obtain ⟨v, u, rfl, hd, hu, q⟩ := h
    refine ⟨_, (pss_cons (ps_expr (pe_callD D_check_web (hr.mono (by decide)) hq pass0 (pa_cons (pv 0) pa_nil)))
      (pss_one (ps_ret (pe_callB (call_lenDK K) (by rfl) T.b_len bt_len (pa_cons (pe_callD D_targets_of_paired (hr.mono (by decide)) hq pass0 (pa_cons (pv 0) pa_nil)) pa_nil))))), ?_⟩
    refine ⟨_, rfl, _, _, rfl, hd, hu.web, fun H1 e1 => ?_⟩
    refine ⟨_, rfl, _, u, rfl, hd.up e1, hu, fun D ps H2 e2 hD hD2 top tpe => ?_⟩
    refine ⟨D, _, rfl, hD2, ?_⟩
    have q' := q ps H2 (e1.tr e2) top
    have el : (kvI ps).length = ps.length := by
      unfold kvI
      rw [List.length_map]
    rw [el]
    exact q'
end

end K65
namespace K65
open PySem PySem.Spec PyProof.Rows L2 Nw
/-! loose: slots 0 web, 1 paired, 2 taken, 3 rows, 4 found, 5 waiting, 6 quantity, 7 source -/
abbrev s_loose : Stmt := topS 38
abbrev N_loose : List Str := ["web", "paired", "taken", "rows", "found", "waiting", "quantity", "source"]
abbrev P_loose : List Str := ["web"]
theorem sc_loose : FnScope N_loose P_loose (defScope s_loose) := ⟨rfl, rfl, rfl, by decide +kernel, rfl, by decide +kernel, by decide +kernel⟩
/-- the quantity that a source is paired with -/
def tgt (ps : List (Int × Int)) (s : Int) : Int := match ps.find? (fun p => p.1 == s) with | some p => p.2 | none => 0
theorem tgt_find {ps : List (Int × Int)} {s c : Int} (h : (s, c) ∈ ps) : (ps.find? fun p => p.1 == s) = some (s, tgt ps s) ∧ (s, tgt ps s) ∈ ps := by
  unfold tgt
  cases e : ps.find? fun p => p.1 == s with
  | none => exact absurd rfl (find_not e _ h)
  | some p =>
    have h2 : p.1 = s := by simpa using List.find?_some e
    refine ⟨?_, find_mem e⟩
    show some p = some (s, p.2)
    rw [← h2]
/-- the search for what is loose: F found, W waiting -/
structure Loo (rows : List (List Int)) (k : Int) (ps : List (Int × Int)) (C : Int → Prop) (F W : List Int) : Prop where
  nd : F.Nodup
  inC : ∀ q, q ∈ F ∨ q ∈ W → C q
  rg : ∀ q, q ∈ F ∨ q ∈ W → 0 ≤ q ∧ q < k
  from_ : ∀ (j : Nat) (f : Int), F[j]? = some f → Un k ps f ∨ ∃ (s : Int) (i : Nat) (g : Int), i < j ∧ F[i]? = some g ∧ (s, f) ∈ ps ∧ Act rows s g
  wf : ∀ q ∈ W, Un k ps q ∨ ∃ s g, g ∈ F ∧ (s, q) ∈ ps ∧ Act rows s g
  un : ∀ q, Un k ps q → q ∈ F ∨ q ∈ W
  cl : ∀ q ∈ F, ∀ s, Act rows s q → ∃ c, (c ∈ F ∨ c ∈ W) ∧ (s, c) ∈ ps
section
variable {rows : List (List Int)} {k : Int} {ps : List (Int × Int)} {C : Int → Prop} {F W : List Int} {x : Int} {r : List Int}
theorem mem_split (h : c ∈ F ∨ c ∈ W ++ [x]) : c ∈ F ∨ c ∈ W ∨ c = x := by
  rcases h with h | h
  · exact .inl h
  · rcases List.mem_append.mp h with h | h
    · exact .inr (.inl h)
    · exact .inr (.inr (List.mem_singleton.mp h))
theorem Loo.skip (l : Loo rows k ps C F (W ++ [x])) (hx : x ∈ F) : Loo rows k ps C F W := by
  have lift : ∀ {c}, c ∈ F ∨ c ∈ W → c ∈ F ∨ c ∈ W ++ [x] := fun h => h.imp_right fun h => List.mem_append.mpr (.inl h)
  have drop : ∀ {c}, c ∈ F ∨ c ∈ W ++ [x] → c ∈ F ∨ c ∈ W := fun h => by
    rcases mem_split h with h | h | rfl
    · exact .inl h
    · exact .inr h
    · exact .inl hx
  refine ⟨l.nd, fun q h => l.inC q (lift h), fun q h => l.rg q (lift h), l.from_, fun q h => l.wf q (List.mem_append.mpr (.inl h)), fun q h => drop (l.un q h), fun q hq s ha => ?_⟩
  obtain ⟨c, h1, h2⟩ := l.cl q hq s ha
  exact ⟨c, drop h1, h2⟩
theorem Loo.add (m : Mt rows k ps) (hC : Cl rows ps C) (l : Loo rows k ps C F (W ++ [x])) (hx : x ∉ F) (hr : ∀ s, Act rows s x ↔ s ∈ r) : Loo rows k ps C (F ++ [x]) (W ++ r.map (tgt ps)) := by
  have Cx : C x := l.inC x (.inr (by simp))
  have lift : ∀ {c}, c ∈ F ∨ c ∈ W ++ [x] → c ∈ F ++ [x] ∨ c ∈ W ++ r.map (tgt ps) := fun h => by
    rcases mem_split h with h | h | rfl
    · exact .inl (List.mem_append.mpr (.inl h))
    · exact .inr (List.mem_append.mpr (.inl h))
    · exact .inl (by simp)
  have new : ∀ s ∈ r, C (tgt ps s) ∧ (s, tgt ps s) ∈ ps := fun s hs => by
    obtain ⟨c, hc, hm⟩ := hC x s Cx ((hr s).mpr hs)
    have h2 := (tgt_find hm).2
    have e := congrArg Prod.snd (fst_eq m.kn hm h2 rfl)
    simp only at e
    exact ⟨by rw [← e]; exact hc, h2⟩
  have split : ∀ {c}, c ∈ F ++ [x] ∨ c ∈ W ++ r.map (tgt ps) → (c ∈ F ∨ c ∈ W ++ [x]) ∨ ∃ s ∈ r, c = tgt ps s := fun h => by
    rcases h with h | h
    · rcases List.mem_append.mp h with h | h
      · exact .inl (.inl h)
      · exact .inl (.inr (List.mem_append.mpr (.inr h)))
    · rcases List.mem_append.mp h with h | h
      · exact .inl (.inr (List.mem_append.mpr (.inl h)))
      · obtain ⟨s, hs, rfl⟩ := List.mem_map.mp h
        exact .inr ⟨s, hs, rfl⟩
  refine ⟨nodup_snoc l.nd hx, fun q h => ?_, fun q h => ?_, fun j f hj => ?_, fun q h => ?_, fun q h => lift (l.un q h), fun q h s ha => ?_⟩
  · rcases split h with h | ⟨s, hs, rfl⟩
    · exact l.inC q h
    · exact (new s hs).1
  · rcases split h with h | ⟨s, hs, rfl⟩
    · exact l.rg q h
    · exact ⟨m.lo (new s hs).2, m.rg _ (new s hs).2⟩
  · by_cases hjl : j < F.length
    · rw [List.getElem?_append_left hjl] at hj
      rcases l.from_ j f hj with h | ⟨s, i, g, h1, h2, h3⟩
      · exact .inl h
      · exact .inr ⟨s, i, g, h1, by rw [List.getElem?_append_left (by omega)]; exact h2, h3⟩
    · have ej : j = F.length := by
        have := (List.getElem?_eq_some_iff.mp hj).1
        rw [List.length_append, List.length_singleton] at this
        omega
      subst ej
      rw [List.getElem?_append_right (Nat.le_refl _), Nat.sub_self] at hj
      obtain rfl := Option.some.inj hj
      rcases l.wf x (by simp) with h | ⟨s, g, h1, h2⟩
      · exact .inl h
      · obtain ⟨i, hi⟩ := List.getElem?_of_mem h1
        have hil := (List.getElem?_eq_some_iff.mp hi).1
        exact .inr ⟨s, i, g, hil, by rw [List.getElem?_append_left hil]; exact hi, h2⟩
  · rcases List.mem_append.mp h with h | h
    · rcases l.wf q (List.mem_append.mpr (.inl h)) with h | ⟨s, g, h1, h2⟩
      · exact .inl h
      · exact .inr ⟨s, g, List.mem_append.mpr (.inl h1), h2⟩
    · obtain ⟨s, hs, rfl⟩ := List.mem_map.mp h
      exact .inr ⟨s, x, by simp, (new s hs).2, (hr s).mpr hs⟩
  · rcases List.mem_append.mp h with h | h
    · obtain ⟨c, h1, h2⟩ := l.cl q h s ha
      exact ⟨c, lift h1, h2⟩
    · obtain rfl := List.mem_singleton.mp h
      have hs := (hr s).mp ha
      exact ⟨_, .inr (List.mem_append.mpr (.inr (List.mem_map.mpr ⟨s, hs, rfl⟩))), (new s hs).2⟩
end
/-- what loose tells -/
structure LooseL (rows : List (List Int)) (k : Int) (R : List Int) : Prop where
  asc : ascB ltIn R = true
  ex : ∃ (ps : List (Int × Int)) (F : List Int), Mt rows k ps ∧ Found rows k ps F ∧ Cl rows ps (fun q => q ∈ R) ∧ (∀ q, Un k ps q → q ∈ R) ∧ ∀ q, q ∈ F ↔ q ∈ R
def sp_loose (K : PySem.W.Frag) : Sp := fun vs H Q _ => ∃ v u, vs = [v] ∧ Da K H (Wb.d u) v ∧ u.Ok ∧ ∀ (p : Addr) (R : List Int) H', Ex H H' → H p = none → H' p = some (.lst (R.map V.int)) → LooseL (rowsU u) u.n R → Q (.ref p) H'
section
variable {P : Program} {w : World} {K : PySem.W.Frag} {mg : Str → Option Value} {base : Heap}
theorem ok_loose {f : Addr} {fd : FuncData} (T : Txt K mg) (F : Fun K "loose" "loose" s_loose f fd)
    (D_check_web : DefOk P w K mg base CX0 7 "check_web" P_check_web (sp_check_web K))
    (D_source_rows : DefOk P w K mg base CX0 2 "source_rows" P_source_rows (sp_source_rows K))
    (D_targets_of_paired : DefOk P w K mg base CX0 67 "targets_of_paired" P_targets_of_paired (sp_targets_of_paired K)) :
    FnG P w K mg base CX0 68 f fd P_loose (sp_loose K) := by
  refine okG0 F sc_loose (fun vs H Q E h => ?_) (fun cdv A outer s H vs Q E hr hq h => ?_)
  · obtain ⟨v, u, rfl, _⟩ := h
    rfl
  · obtain ⟨v, u, rfl, hd, hu, q⟩ := h
    obtain ⟨tw, x2, x3, rfl, hS, g2, g3⟩ := Wb.at hd
    have b1 := hu.lo
    have b2 := hu.hi
    refine ⟨_, (pss_cons (ps_expr (pe_callD D_check_web (hr.mono (by decide)) hq pass0 (pa_cons (pv 0) pa_nil)))
      (pss_cons (ps_set (i := 1) sc_loose.nd rfl (by first | exact .inl rfl | exact .inr rfl) (pe_callD D_targets_of_paired (hr.mono (by decide)) hq pass0 (pa_cons (pv 0) pa_nil)))
      (pss_cons (ps_set (i := 2) sc_loose.nd rfl (by first | exact .inl rfl | exact .inr rfl) (pe_callTy (call_listVK rfl) (by rfl) T.b_list bt_list (pa_cons (pe_valuesK (pv 1)) pa_nil)))
      (pss_cons (ps_set (i := 3) sc_loose.nd rfl (by first | exact .inl rfl | exact .inr rfl) (pe_callD D_source_rows (hr.mono (by decide)) hq pass0 (pa_cons (pv 0) pa_nil)))
      (pss_cons (ps_set (i := 4) sc_loose.nd rfl (by first | exact .inl rfl | exact .inr rfl) pe_dnewK)
      (pss_cons (ps_setLc (i := 5) (own := [("quantity", 6)]) rfl sc_loose.nd rfl rfl (sw_true rfl rfl rfl (by decide +kernel)) (pi_range1 (by rfl) T.b_range (pa_cons (pe_ix (ix_seqK K) (pv 0) pe_int (fun _ _ => rfl)) pa_nil)) (blkOk_by (N := N_loose) (sc := defScope s_loose) (by decide +kernel)) (fun _ _ _ _ _ => (pg_name (i := 6) sc_loose.nd rfl (by first | exact .inl rfl | exact .inr rfl))) (fun _ _ _ _ _ => (pts_one (pt_cmpR (op_notInK K) (pv 6) (pv 2) (by rfl)))) (fun _ _ _ _ _ => (pv 6)))
      (pss_cons (ps_while PassesOwn.never (pt_truth (pv 5) (by intro _; rfl)) (pss_cons (ps_set (i := 6) sc_loose.nd rfl (by first | exact .inl rfl | exact .inr rfl) (pe_bm0 PySem.F.plainAttrs_list PySem.F.slot_list_pop PySem.F.type_list_pop mt_pop (pv 5)))
      (pss_one (ps_if (pt_dNotIn hr (pv 6) (pv 4)) (pss_cons (ps_dputK hr (pv 4) (pv 6) pe_bl rfl)
      (pss_one (ps_expr (pe_bm PySem.F.plainAttrs_list PySem.F.slot_list_extend PySem.F.type_list_extend mt_extend (pv 5) (pa_cons (pe_lc (own := [("source", 7)]) rfl sc_loose.nd (pi_listK K (pe_ix (ix_listK K) (pv 3) (pv 6) (fun _ _ => rfl))) (blkOk_by (N := N_loose) (sc := defScope s_loose) (by decide +kernel)) (fun _ _ _ _ _ => (pg_name (i := 7) sc_loose.nd rfl (by first | exact .inl rfl | exact .inr rfl))) (fun _ _ _ _ _ => pts_nil) (fun _ _ _ _ _ => (pe_dgetK hr (pv 1) (pv 7) (fun _ _ => rfl)))) pa_nil))))) pss_nil))))
      (pss_one (ps_ret (pe_callB (cr_sortedDK rfl) (by rfl) T.b_sorted bt_sorted (pa_cons (pv 4) pa_nil))))))))))), ?_⟩
    refine ⟨_, rfl, _, _, rfl, hd, hu.web, fun H1 e1 => ?_⟩
    refine ⟨_, rfl, _, u, rfl, hd.up e1, hu, fun D ps H2 e2 hD hD2 top tpe => ?_⟩
    refine ⟨_, rfl, D, _, rfl, hD2, fun p hp => ?_⟩
    have e3 : Ex H2 (upd H2 p (vwO "dict_values" p D)) := Ex.nw hp
    have hp3 : (upd H2 p (vwO "dict_values" p D)) p = some (vwO "dict_values" p D) := upd_same
    have hD3 := e3 _ _ hD2
    generalize upd H2 p (vwO "dict_values" p D) = H3 at e3 hp3 hD3
    refine ⟨p, D, _, rfl, hp3, hD3, fun l hl => ?_⟩
    have ev : (kvI ps).map (·.2) = (ps.map (·.2)).map V.int := by
      unfold kvI
      rw [List.map_map, List.map_map]
      rfl
    rw [ev]
    have e4 : Ex H3 (upd H3 l (.lst ((ps.map (·.2)).map V.int))) := Ex.nw hl
    have hl4 : (upd H3 l (.lst ((ps.map (·.2)).map V.int))) l = some (.lst ((ps.map (·.2)).map V.int)) := upd_same
    have hD4 := e4 _ _ hD3
    generalize upd H3 l (.lst ((ps.map (·.2)).map V.int)) = H4 at e4 hl4 hD4
    have e14 := (e1.tr (e2.tr e3)).tr e4
    refine ⟨_, rfl, _, u, rfl, hd.up e14, hu, fun L as H5 R => ?_⟩
    have e5 := R.ex
    have RL := rowsL_of hu R
    have e15 := e14.tr e5
    have hl5 := e5 _ _ hl4
    have hD5 := e5 _ _ hD4
    refine fun f hf => ?_
    have e6 : Ex H5 (upd H5 f (.dK [])) := Ex.nw hf
    have hf6 : (upd H5 f (.dK [])) f = some (.dK (visK [])) := upd_same
    have hl6 := e6 _ _ hl5
    have hD6 := e6 _ _ hD5
    have hfH := e15.fr hf
    have sS := (e15.tr e6).t hS
    have RL6 : RowsL (upd H5 f (.dK [])) L as (rowsU u) := ⟨e6 _ _ RL.at_, RL.len, fun i b hb => by
      obtain ⟨r, h1, h2⟩ := RL.row i b hb
      exact ⟨r, h1, e6 _ _ h2⟩, RL.rg⟩
    have e16 := e15.tr e6
    show _
    have RLx := RL6
    generalize upd H5 f (.dK []) = H6 at e16 hf6 hl6 hD6 sS RL6
    have hfl : f ≠ D := fun z => by
      rw [z, hD5] at hf
      cases hf
    have fL : L ≠ f := fun z => by
      have h := RL.at_
      rw [z, hf] at h
      cases h
    refine ⟨_, rfl, .inr (.inl ⟨tw, _, 0, _, rfl, rfl, sS, rfl, ?_⟩)⟩
    refine ⟨_, rfl, by omega, by omega, fun Wd hW => ?_⟩
    have WH := e16.fr hW
    refine lc_by u.n.toNat (fun i H' => Ex H6 H' ∧ H' Wd = some (.lst ((((List.range i).map fun k : Nat => (k : Int)).filter fun k => !(ps.map (·.2)).contains k).map V.int)))
      ⟨Ex.nw hW, upd_same⟩ (fun i H' hi p => hi) (fun H' p => Nat.le_refl _) ?_ ?_
    · rintro i H7 x H8 hi ⟨e7, hW7⟩ ⟨rfl, rfl⟩
      have ez : (0 + (i : Int)) = (i : Int) := Int.zero_add _
      rw [ez]
      refine ⟨rfl, _, rfl, _, rfl, l, _, rfl, .inl (.inl (.inl (e7 _ _ hl6))), rfl, flat_ints, _, rfl, ?_⟩
      have es : (((List.range (i + 1)).map fun k : Nat => (k : Int)).filter fun k => !(ps.map (·.2)).contains k) = (((List.range i).map fun k : Nat => (k : Int)).filter fun k => !(ps.map (·.2)).contains k) ++ if (!(ps.map (·.2)).contains (i : Int)) = true then [(i : Int)] else [] := by
        rw [List.range_succ, List.map_append, List.filter_append]
        congr 1
        show List.filter _ [(i : Int)] = _
        rw [List.filter_cons, List.filter_nil]
      rw [notin_int, es, List.map_append (l₁ := List.filter _ _)]
      refine ite2 (fun h => ?_) (fun h => ?_)
      · refine ⟨_, rfl, _, hW7, mil' ?_, e7.wr hW, ?_⟩
        · rw [List.length_map]
          have h1 := List.length_filter_le (fun k => !(ps.map (·.2)).contains k) ((List.range i).map fun k : Nat => (k : Int))
          rw [List.length_map, List.length_range] at h1
          omega
        · rw [upd_same, if_pos h]
          rfl
      · refine ⟨e7, ?_⟩
        rw [if_neg h, List.map_nil, List.append_nil]
        exact hW7
    rintro H7 ⟨e7, hW7⟩
    have e17 := e16.tr e7
    obtain ⟨mt, C, hC, hCu⟩ := top
    generalize hw0 : (((List.range u.n.toNat).map fun k : Nat => (k : Int)).filter fun k => !(ps.map (·.2)).contains k) = w0 at hW7
    have hun : ∀ q0, q0 ∈ w0 ↔ Un u.n ps q0 := fun q0 => by
      rw [← hw0, List.mem_filter, List.mem_map]
      constructor
      · rintro ⟨⟨k, hk, rfl⟩, h2⟩
        have := List.mem_range.mp hk
        refine ⟨by omega, by omega, fun p hp e => ?_⟩
        have h3 : (ps.map (·.2)).contains (k : Int) = true := List.contains_iff_mem.mpr (List.mem_map.mpr ⟨p, hp, e⟩)
        rw [h3] at h2
        cases h2
      · rintro ⟨h1, h2, h3⟩
        refine ⟨⟨q0.toNat, List.mem_range.mpr (by omega), by omega⟩, ?_⟩
        cases h4 : (ps.map (·.2)).contains q0 with
        | false => rfl
        | true =>
          obtain ⟨p, hp, e⟩ := List.mem_map.mp (List.contains_iff_mem.mp h4)
          exact absurd e (h3 p hp)
    have hw0l : w0.length ≤ 20 := by
      rw [← hw0]
      have h1 := List.length_filter_le (fun k => !(ps.map (·.2)).contains k) ((List.range u.n.toNat).map fun k : Nat => (k : Int))
      rw [List.length_map, List.length_range] at h1
      omega
    have f7 := e7 _ _ hf6
    have hWf : Wd ≠ f := fun z => by
      rw [z, f7] at hW7
      cases hW7
    refine ⟨fun m σ H' => ∃ (y6 y7 : Option V) (F W : List Int), m = (20 - F.length) * 1501 + W.length ∧ σ = [some (V.ref tw), some (V.ref D), some (V.ref l), some (V.ref L), some (V.ref f), some (V.ref Wd), y6, y7] ∧ Ex2 Wd f H7 H' ∧
        H' f = some (.dK (visK F)) ∧ H' Wd = some (.lst (W.map V.int)) ∧ W.length ≤ 1500 * (F.length + 1) ∧ Loo (rowsU u) u.n ps C F W,
      ⟨_, _, _, [], w0, rfl, rfl, fun _ _ _ _ h => h, f7, hW7, by simp; omega, ⟨List.nodup_nil, fun q0 h => hCu q0 ?_, fun q0 h => ?_, fun j f h => (by simp at h), fun q0 h => .inl ((hun q0).mp h), fun q0 h => .inr ((hun q0).mpr h), fun q0 h => (by cases h)⟩⟩, ?_⟩
    · rcases h with h | h
      · cases h
      · exact (hun q0).mp h
    · rcases h with h | h
      · cases h
      · have := (hun q0).mp h
        exact ⟨this.1, this.2.1⟩
    · rintro m σ H8 ⟨y6, y7, F, W, rfl, rfl, e8, hf8, hW8, hwl, lo⟩
      have fl : F.length ≤ 20 := by
        have := apart_few (n := u.n) lo.nd fun b hb => lo.rg b (.inl hb)
        omega
      have back : Ex H H8 := fun b o h => e8 b o (fun z => by rw [z, WH] at h; cases h) (fun z => by rw [z, hfH] at h; cases h) (e17 _ _ h)
      refine ⟨_, rfl, _, .inl ⟨_, .inl (.inl hW8), rfl⟩, ?_⟩
      rcases List.eq_nil_or_concat W with rfl | ⟨w1, x, rfl⟩
      · refine ⟨_, rfl, f, _, F, rfl, hf8, by unfold visK; rw [List.map_map]; rfl, fun js p9 hp9 hs9 hn9 => ?_⟩
        have mm : ∀ q0, q0 ∈ F ↔ q0 ∈ js := fun q0 => hp9.mem_iff.symm
        refine q p9 js _ (back.tr (Ex.nw hn9)) (back.fr hn9) upd_same ⟨asc_sortedI hp9 hs9 lo.nd, ps, F, mt, ⟨lo.nd, fun q0 h => lo.rg q0 (.inl h), lo.from_⟩, fun q0 s h ha => ?_, fun q0 h => ?_, mm⟩
        · obtain ⟨c, h1, h2⟩ := lo.cl q0 ((mm q0).mpr h) s ha
          rcases h1 with h1 | h1
          · exact ⟨c, (mm c).mp h1, h2⟩
          · cases h1
        · rcases lo.un q0 h with h | h
          · exact (mm q0).mp h
          · cases h
      · rw [if_pos (by simp)]
        rw [List.concat_eq_append] at *
        refine ⟨_, fun _ _ h => h, ?_⟩
        refine ⟨_, rfl, .inl ⟨rfl, _, .inl (.inl hW8)⟩, Wd, _, .int x, rfl, rfl, hW8, by simp, ?_⟩
        have hdl : ((w1 ++ [x]).map V.int).dropLast = w1.map V.int := by simp
        rw [hdl]
        have hx := lo.rg x (.inr (by simp))
        have e9 : Ex2 Wd f H7 (upd H8 Wd (.lst (w1.map V.int))) := fun b o h1 h2 h => by
          rw [upd_ne h1]
          exact e8 b o h1 h2 h
        have hf9 : (upd H8 Wd (.lst (w1.map V.int))) f = some (.dK (visK F)) := by
          rw [upd_ne hWf.symm]
          exact hf8
        have hW9 : (upd H8 Wd (.lst (w1.map V.int))) Wd = some (.lst (w1.map V.int)) := upd_same
        generalize upd H8 Wd (.lst (w1.map V.int)) = H9 at hf9 e9 hW9
        have hl0 : (w1 ++ [x]).length = w1.length + 1 := by simp
        refine ⟨_, rfl, _, rfl, f, _, rfl, DGet.k (k := Sum.inl x) hf9, _, rfl, ?_⟩
        rw [visK_get]
        refine ite2 (fun hv => ?_) (fun hv => ?_)
        · have hxv : x ∉ F := by simpa using hv
          refine ⟨_, rfl, _, rfl, f, _, rfl, DPut.k (k := Sum.inl x) hf9 (mil' (by simp [visK]; omega)), ?_⟩
          rw [visK_put hxv]
          have hW10 : (upd H9 f (.dK (visK (F ++ [x])))) Wd = some (.lst (w1.map V.int)) := by
            rw [upd_ne hWf]
            exact hW9
          have hf10 : (upd H9 f (.dK (visK (F ++ [x])))) f = some (.dK (visK (F ++ [x]))) := upd_same
          have e10 : Ex2 Wd f H7 (upd H9 f (.dK (visK (F ++ [x])))) := fun b o h1 h2 h => by
            rw [upd_ne h2]
            exact e9 b o h1 h2 h
          generalize upd H9 f (.dK (visK (F ++ [x]))) = H10 at hW10 hf10 e10
          have RL7 : RowsL H7 L as (rowsU u) := ⟨e7 _ _ RL6.at_, RL6.len, fun i b hb => by
            obtain ⟨r, h1, h2⟩ := RL6.row i b hb
            exact ⟨r, h1, e7 _ _ h2⟩, RL6.rg⟩
          have ne : ∀ {b : Addr} {o : HO}, H7 b = some o → (o ≠ .lst (w0.map V.int)) → True := fun _ _ => trivial
          have LW : L ≠ Wd := fun z => by
            have h := RL6.at_
            rw [z, hW] at h
            cases h
          obtain ⟨b, hb⟩ : ∃ b, as[x.toNat]? = some b := ⟨_, List.getElem?_eq_getElem (by rw [RL6.len, rowsU_len]; omega)⟩
          obtain ⟨r, hr1, hr2⟩ := RL6.row _ _ hb
          have bW : b ≠ Wd := fun z => by
            rw [z, hW] at hr2
            cases hr2
          have bf : b ≠ f := fun z => by
            rw [z, hf6] at hr2
            cases hr2
          have DW : D ≠ Wd := fun z => by
            rw [z, hW] at hD6
            cases hD6
          have hL10 := e10 _ _ LW fL RL7.at_
          have hb10 := e10 _ _ bW bf (e7 _ _ hr2)
          have hD10 := e10 _ _ DW hfl.symm (e7 _ _ hD6)
          have act : ∀ s, Act (rowsU u) s x ↔ s ∈ r := fun s => ⟨fun h => by
            obtain ⟨_, r', h1, h2⟩ := h
            rw [hr1] at h1
            obtain rfl := Option.some.inj h1
            exact h2, fun h => ⟨hx.1, r, hr1, h⟩⟩
          have lo2 := lo.add mt hC hxv act
          have rl : r.length ≤ 1500 := by
            rw [rowsU_at (by omega)] at hr1
            obtain rfl := Option.some.inj hr1
            exact Nat.le_trans (srcsOf_len _ _) hu.lines_len
          have sb : SqL K H10 b (r.map V.int) := .inl (.inl hb10)
          refine ⟨_, rfl, .inl ⟨rfl, _, .inl (.inl hW10)⟩, ?_⟩
          refine ⟨_, rfl, _, rfl, L, _, x, .ref b, rfl, rfl, .inl (.inl hL10), atI_int hx.1 (by rw [List.getElem?_map, hb]; rfl), b, rfl, ⟨_, sb⟩, fun N hN => ?_⟩
          refine lc_by (r.map V.int).length (fun j H' => Ex H10 H' ∧ H' N = some (.lst (((r.take j).map (tgt ps)).map V.int)))
            ⟨Ex.nw hN, upd_same⟩ (fun j H' hj p => itl_go sb p.1 hj) (fun H' p => itl_stop sb p.1) ?_ ?_
          · rintro j H11 y H12 hj ⟨e11, hN11⟩ yy
            obtain ⟨rfl, hy⟩ := itl_yld yy sb e11
            obtain ⟨s, hs, rfl⟩ := map_at hy
            obtain ⟨c, hc, hm⟩ := hC x s (lo.inC x (.inr (by simp))) ((act s).mpr (List.mem_of_getElem? hs))
            have hg : DGet H12 D (.int s) (some (V.int (tgt ps s))) := by
              have h := DGet.k (k := Sum.inl s) (e11 _ _ hD10)
              rw [kvI_get, (tgt_find hm).1] at h
              exact h
            refine ⟨rfl, _, rfl, _, rfl, D, _, rfl, hg, ?_⟩
            refine ⟨_, hN11, mil' ?_, e11.wr hN, ?_⟩
            · rw [List.length_map, List.length_map, List.length_take]
              omega
            · rw [upd_same, List.take_add_one, hs, List.map_append (l₁ := List.take _ _), List.map_append]
              rfl
          · rintro H11 ⟨e11, hN11⟩
            rw [List.length_map, List.take_length] at hN11
            have hW11 := e11 _ _ hW10
            refine ⟨Wd, N, _, _, rfl, rfl, hW11, hN11, Nat.le_of_lt (mil' (by rw [List.length_map, List.length_map, List.length_map]; omega)), ?_⟩
            have NWd : f ≠ Wd := hWf.symm
            refine ⟨_, ?_, _, _, F ++ [x], w1 ++ r.map (tgt ps), rfl, rfl, ?_, ?_, ?_, ?_, lo2⟩
            · rw [List.length_append, List.length_append, hl0, List.length_singleton, List.length_map]
              have : F.length < 20 := by
                have h1 := apart_few (n := u.n) lo2.nd fun b hb => lo2.rg b (.inl hb)
                rw [List.length_append, List.length_singleton] at h1
                omega
              omega
            · intro b o h1 h2 h
              rw [upd_ne h1]
              exact e11 _ _ (e10 b o h1 h2 h)
            · rw [upd_ne NWd]
              exact e11 _ _ hf10
            · rw [upd_same, List.map_append]
            · rw [List.length_append, List.length_append, List.length_singleton, List.length_map]
              rw [hl0] at hwl
              omega
        · have hxv : x ∈ F := by simpa using hv
          refine ⟨_, ?_, _, _, F, w1, rfl, rfl, e9, hf9, hW9, by omega, lo.skip hxv⟩
          rw [hl0]
          omega
end

end K65
namespace K65
open PySem PySem.Spec PyProof.Rows L2 Nw
/-! lengths_to: slots 0 web, 1 quantity, 2 rows, 3 lengths, 4 latest, 5 length, 6 sources, 7 one, 8 source -/
abbrev s_lengths_to : Stmt := topS 33
abbrev N_lengths_to : List Str := ["web", "quantity", "rows", "lengths", "latest", "length", "sources", "one", "source"]
abbrev P_lengths_to : List Str := ["web", "quantity"]
theorem sc_lengths_to : FnScope N_lengths_to P_lengths_to (defScope s_lengths_to) := ⟨rfl, rfl, rfl, by decide +kernel, rfl, by decide +kernel, by decide +kernel⟩
theorem asc_srcs {u : Wb} (hu : u.Ok) (q : Int) : ascB ltIn (srcsOf u.lines q) = true := by
  unfold srcsOf
  refine asc_pw (List.pairwise_map.mpr (((pw_asc hu.lines_asc).filter _).imp_of_mem fun {a b} ha hb h => ?_))
  have h1 := ltPr_iff.mp h
  have h2 : a.2 = q := by simpa using (List.mem_filter.mp ha).2
  have h3 : b.2 = q := by simpa using (List.mem_filter.mp hb).2
  refine decide_eq_true ?_
  omega
theorem mem_srcsOf {ls : List (Int × Int)} {s q : Int} : s ∈ srcsOf ls q ↔ (s, q) ∈ ls := by
  unfold srcsOf
  rw [List.mem_map]
  constructor
  · rintro ⟨p, hp, rfl⟩
    obtain ⟨h1, h2⟩ := List.mem_filter.mp hp
    have h3 : p.2 = q := by simpa using h2
    rw [← h3]
    exact h1
  · intro h
    exact ⟨(s, q), List.mem_filter.mpr ⟨h, by simp⟩, rfl⟩
theorem srcs_few {u : Wb} (hu : u.Ok) (q : Int) : (srcsOf u.lines q).length ≤ 28 := by
  have h := apart_few (n := 28) (nodup_ascI (asc_srcs hu q)) fun b hb => by
    have h1 := (hu.line _ (mem_srcsOf.mp hb)).1
    have h2 := hu.hi
    have h3 := hu.few
    simp only at h1
    omega
  exact h
theorem src_low {u : Wb} (hu : u.Ok) {s q : Int} (hs : s < u.n) : (s, q) ∈ u.lines ↔ (s, q) ∈ u.ps := by
  unfold Wb.lines
  rw [List.mem_append]
  constructor
  · rintro (h | h)
    · exact h
    · have := (pushed_ok (fun r hr => (hu.ns r hr).2.1) _ h).1
      simp only at this
      omega
  · exact .inl
/-- how far all are, up to a level -/
structure Lev (u : Wb) (q : Int) (k : Nat) (ls : List (Int × Int)) (lt : List Int) : Prop where
  nd : (ls.map (·.1)).Nodup
  ls : ∀ x m, (x, m) ∈ ls ↔ ∃ j : Nat, j ≤ k + 1 ∧ m = (j : Int) ∧ Ds u.ps q x j
  ltn : lt.Nodup
  lt : ∀ x, x ∈ lt ↔ Ds u.ps q x (k + 1)
/-- how far all are -/
structure LenD (u : Wb) (q : Int) (ls : List (Int × Int)) : Prop where
  nd : (ls.map (·.1)).Nodup
  ls : ∀ x m, (x, m) ∈ ls ↔ ∃ j : Nat, m = (j : Int) ∧ Ds u.ps q x j
theorem ds_rg {u : Wb} (hp : ∀ p ∈ u.ps, (0 ≤ p.1 ∧ p.1 < u.n) ∧ (0 ≤ p.2 ∧ p.2 < u.n)) {q x : Int} (hq : 0 ≤ q ∧ q < u.n) {m : Nat} (h : Ds u.ps q x m) : 0 ≤ x ∧ x < u.n := by
  have h1 := h.1.pos
  obtain ⟨i, rfl⟩ : ∃ i, m = i + 1 := ⟨m - 1, by omega⟩
  cases i with
  | zero =>
    rw [Ds.one.mp h]
    exact hq
  | succ i =>
    obtain ⟨z, h2, _⟩ := h.next
    exact (hp _ h2).1
theorem Lev.zero {u : Wb} {q : Int} : Lev u q 0 [(q, 1)] [q] := by
  refine ⟨by simp, fun x m => ?_, by simp, fun x => ?_⟩
  · rw [List.mem_singleton]
    constructor
    · intro h
      obtain ⟨rfl, rfl⟩ := Prod.mk.inj h
      exact ⟨1, by omega, rfl, Ds.one.mpr rfl⟩
    · rintro ⟨j, h1, rfl, h2⟩
      have := h2.1.pos
      have e : j = 1 := by omega
      subst e
      rw [Ds.one.mp h2]
      rfl
  · rw [List.mem_singleton]
    exact Ds.one.symm
theorem Lev.step {u : Wb} {q : Int} {k : Nat} {ls : List (Int × Int)} {lt lt' : List Int} (h : Lev u q k ls lt) (hn : lt'.Nodup) (hm : ∀ x, x ∈ lt' ↔ (∃ o ∈ lt, (x, o) ∈ u.ps) ∧ x ∉ ls.map (·.1)) :
    Lev u q (k + 1) (ls ++ lt'.map fun x => (x, ((k + 2 : Nat) : Int))) lt' := by
  have key : ∀ x, x ∈ ls.map (·.1) ↔ ∃ j, j ≤ k + 1 ∧ Ds u.ps q x j := fun x => by
    constructor
    · intro hx
      obtain ⟨p, hp, rfl⟩ := List.mem_map.mp hx
      obtain ⟨j, h1, _, h2⟩ := (h.ls p.1 p.2).mp hp
      exact ⟨j, h1, h2⟩
    · rintro ⟨j, h1, h2⟩
      exact List.mem_map.mpr ⟨(x, (j : Int)), (h.ls _ _).mpr ⟨j, h1, rfl, h2⟩, rfl⟩
  have hl : ∀ x, x ∈ lt' ↔ Ds u.ps q x (k + 2) := fun x => by
    rw [hm]
    constructor
    · rintro ⟨⟨o, h1, h2⟩, h3⟩
      exact ((h.lt o).mp h1).step h2 fun j hj hd => h3 ((key x).mpr ⟨j, hj, hd⟩)
    · intro hd
      obtain ⟨z, h1, h2⟩ := hd.next
      refine ⟨⟨z, (h.lt z).mpr h2, h1⟩, fun hx => ?_⟩
      obtain ⟨j, h3, h4⟩ := (key x).mp hx
      have := hd.uniq h4
      omega
  refine ⟨?_, fun x m => ?_, hn, hl⟩
  · rw [List.map_append, List.map_map, show ((lt'.map ((fun p : Int × Int => p.1) ∘ fun x => (x, ((k + 2 : Nat) : Int))))) = lt' from List.map_id _]
    refine List.nodup_append.mpr ⟨h.nd, hn, fun a ha b hb e => ?_⟩
    subst e
    exact ((hm a).mp hb).2 ha
  · rw [List.mem_append, h.ls, List.mem_map]
    constructor
    · rintro (⟨j, h1, h2, h3⟩ | ⟨y, h1, h2⟩)
      · exact ⟨j, by omega, h2, h3⟩
      · obtain ⟨rfl, rfl⟩ := Prod.mk.inj h2
        exact ⟨k + 2, by omega, rfl, (hl y).mp h1⟩
    · rintro ⟨j, h1, rfl, h3⟩
      by_cases e : j = k + 2
      · subst e
        exact .inr ⟨x, (hl x).mpr h3, rfl⟩
      · exact .inl ⟨j, by omega, rfl, h3⟩
theorem Lev.fin {u : Wb} {q : Int} {k : Nat} {ls : List (Int × Int)} (h : Lev u q k ls []) : LenD u q ls := by
  refine ⟨h.nd, fun x m => ?_⟩
  rw [h.ls]
  constructor
  · rintro ⟨j, _, h2⟩
    exact ⟨j, h2⟩
  · rintro ⟨j, h1, h2⟩
    refine ⟨j, ?_, h1, h2⟩
    by_cases e : j ≤ k + 1
    · exact e
    · exact absurd h2 (ds_none (fun x hx => absurd ((h.lt x).mpr hx) List.not_mem_nil) j x (by omega))
theorem merge_new : ∀ {ms ls : List (Int × Int)}, ((ls ++ ms).map (·.1)).Nodup → mergeK (kvI ls) (kvI ms) = kvI (ls ++ ms)
  | [], ls, _ => by
    rw [List.append_nil]
    rfl
  | (x, m) :: ms, ls, h => by
    have e : ls.any (fun p => p.1 == x) = false := by
      rw [List.any_eq_false]
      intro p hp
      rw [List.map_append] at h
      have h1 := (List.nodup_append.mp h).2.2 p.1 (List.mem_map.mpr ⟨p, hp, rfl⟩) x (by simp)
      simpa using h1
    show mergeK (putK (kvI ls) (Sum.inl x) (V.int m)) (kvI ms) = _
    rw [kvI_put e, merge_new (ms := ms) (ls := ls ++ [(x, m)]) (by rw [List.append_assoc]; exact h), List.append_assoc]
    rfl
theorem kvI_get {ls : List (Int × Int)} {x : Int} : (valV (kvI ls) (Sum.inl x)).isSome = (ls.map (·.1)).contains x := by
  rw [← valV_any, Bool.eq_iff_iff, List.any_eq_true, List.contains_iff_mem, List.mem_map]
  unfold kvI
  constructor
  · rintro ⟨kv, h1, h2⟩
    obtain ⟨p, hp, rfl⟩ := List.mem_map.mp h1
    exact ⟨p, hp, Sum.inl.inj (of_decide_eq_true h2)⟩
  · rintro ⟨p, hp, rfl⟩
    exact ⟨_, List.mem_map.mpr ⟨p, hp, rfl⟩, decide_eq_true rfl⟩
def sp_lengths_to (K : PySem.W.Frag) : Sp := fun vs H Q _ => ∃ (v : V) (u : Wb) (q0 : Int), vs = [v, .int q0] ∧ Da K H (Wb.d u) v ∧ u.Ok ∧ (0 ≤ q0 ∧ q0 < u.n) ∧
  ∀ (D : Addr) (ls : List (Int × Int)) H', Ex H H' → H' D = some (.dK (kvI ls)) → LenD u q0 ls → Q (.ref D) H'
section
variable {P : Program} {w : World} {K : PySem.W.Frag} {mg : Str → Option Value} {base : Heap}
theorem ok_lengths_to {f : Addr} {fd : FuncData} (T : Txt K mg) (F : Fun K "lengths_to" "lengths_to" s_lengths_to f fd)
    (D_source_rows : DefOk P w K mg base CX0 2 "source_rows" P_source_rows (sp_source_rows K)) :
    FnG P w K mg base CX0 3 f fd P_lengths_to (sp_lengths_to K) := by
  refine okG0 F sc_lengths_to (fun vs H Q E h => ?_) (fun cdv A outer s H vs Q E hr hq h => ?_)
  · obtain ⟨v, u, z, rfl, _⟩ := h
    rfl
  · obtain ⟨v, u, q0, rfl, hd, hu, hq0, q⟩ := h
    obtain ⟨tw, x2, x3, rfl, hS, g2, g3⟩ := Wb.at hd
    have b1 := hu.lo
    have b2 := hu.hi
    refine ⟨_, (pss_cons (ps_set (i := 2) sc_lengths_to.nd rfl (by first | exact .inl rfl | exact .inr rfl) (pe_callD D_source_rows (hr.mono (by decide)) hq pass0 (pa_cons (pv 0) pa_nil)))
      (pss_cons (ps_set (i := 3) sc_lengths_to.nd rfl (by first | exact .inl rfl | exact .inr rfl) (pe_disp (pps_cons (pv 1) pe_int pps_nil) (by decide) (by decide) (by decide) (by decide)))
      (pss_cons (ps_set (i := 4) sc_lengths_to.nd rfl (by first | exact .inl rfl | exact .inr rfl) (pe_lst (pa_cons (pv 1) pa_nil)))
      (pss_cons (ps_set (i := 5) sc_lengths_to.nd rfl (by first | exact .inl rfl | exact .inr rfl) pe_int)
      (pss_cons (ps_while PassesOwn.never (pt_truth (pv 4) (by intro _; rfl)) (pss_cons (ps_aug (i := 5) sc_lengths_to.nd rfl (by first | exact .inl rfl | exact .inr rfl) pe_int ip_add)
      (pss_cons (ps_setLc2 (i := 6) (own := [("one", 7), ("source", 8)]) (vs1 := [8]) rfl sc_lengths_to.nd rfl rfl (sw_true rfl rfl rfl (by decide +kernel)) (pi_listK K (pv 4)) (blkOk_by (N := N_lengths_to) (sc := defScope s_lengths_to) (by decide +kernel)) (by decide) (fun _ _ _ _ _ => (pg_name (i := 7) sc_lengths_to.nd rfl (by first | exact .inl rfl | exact .inr rfl))) (fun _ _ _ _ _ => pts_nil) (fun _ _ _ _ _ => (pi_listK K (pe_ix (ix_listK K) (pv 2) (pv 7) (fun _ _ => rfl)))) (fun _ _ _ _ _ => (pg_name (i := 8) sc_lengths_to.nd rfl (by first | exact .inl rfl | exact .inr rfl))) (fun _ _ _ _ _ => (pts_one (pt_cmpR op_lt (pv 8) (pe_ix (ix_seqK K) (pv 0) pe_int (fun _ _ => rfl)) (nomark _)))) (fun _ _ _ _ _ => (pv 8)))
      (pss_cons (ps_set (i := 4) sc_lengths_to.nd rfl (by first | exact .inl rfl | exact .inr rfl) (pe_callB (cr_sortedSetK w rfl) (by rfl) T.b_sorted bt_sorted (pa_cons (pe_callTy (cr_setIK K w rfl) (by rfl) T.b_set bt_set (pa_cons (pe_lc (own := [("source", 8)]) rfl sc_lengths_to.nd (pi_listK K (pv 6)) (blkOk_by (N := N_lengths_to) (sc := defScope s_lengths_to) (by decide +kernel)) (fun _ _ _ _ _ => (pg_name (i := 8) sc_lengths_to.nd rfl (by first | exact .inl rfl | exact .inr rfl))) (fun _ _ _ _ _ => (pts_one (pt_dNotIn hr (pv 8) (pv 3)))) (fun _ _ _ _ _ => (pv 8))) pa_nil)) pa_nil)))
      (pss_one (ps_expr (pe_bm PySem.F.plainAttrs_dict PySem.F.slot_dict_update PySem.F.type_dict_update mt_updateD (pv 3) (pa_cons (pe_dc (own := [("source", 8)]) rfl sc_lengths_to.nd (pi_listK K (pv 4)) (blkOk_by (N := N_lengths_to) (sc := defScope s_lengths_to) (by decide +kernel)) (fun _ _ _ _ _ => (pg_name (i := 8) sc_lengths_to.nd rfl (by first | exact .inl rfl | exact .inr rfl))) (fun _ _ _ _ _ => pts_nil) (fun _ _ _ _ _ => (pv 8)) (fun _ _ _ _ _ => (pv 5))) pa_nil))))))))
      (pss_one (ps_ret (pv 3)))))))), ?_⟩
    refine ⟨_, rfl, .ref tw, u, rfl, hd, hu, fun a as H1 R => ?_⟩
    have al := R.len
    refine fun D hD => ⟨_, rfl, upd_same, [(Sum.inl q0, .int 1)], rfl, by show 1 ≤ 15; decide, ?_⟩
    have e2 : Ex H (upd (upd H1 D (.dK [])) D (.dK (mergeK [] [(Sum.inl q0, .int 1)]))) := (R.ex.tr (Ex.nw hD)).wr (R.ex.fr hD)
    have hD2 : (upd (upd H1 D (.dK [])) D (.dK (mergeK [] [(Sum.inl q0, .int 1)]))) D = some (.dK (kvI [(q0, 1)])) := by rw [upd_same]; rfl
    have hA2 : Ex H1 (upd (upd H1 D (.dK [])) D (.dK (mergeK [] [(Sum.inl q0, .int 1)]))) := (Ex.nw hD).wr hD
    have DH := R.ex.fr hD
    generalize upd (upd H1 D (.dK [])) D (.dK (mergeK [] [(Sum.inl q0, .int 1)])) = H2 at e2 hD2 hA2
    refine ⟨_, rfl, by show 1 ≤ sizeLine; decide, fun L hL => ?_⟩
    have e3 : Ex H2 (upd H2 L (.lst [.int q0])) := Ex.nw hL
    have f3 : (upd H2 L (.lst [.int q0])) L = some (.lst (([q0] : List Int).map V.int)) := upd_same
    generalize upd H2 L (.lst [.int q0]) = H3 at e3 f3
    refine ⟨fun m σ H' => ∃ (y6 y7 y8 : Option V) (L : Addr) (k : Nat) (ls : List (Int × Int)) (lt : List Int), m = (if lt = [] then 0 else u.n.toNat + 1 - ls.length) ∧ σ = [some (V.ref tw), some (V.int q0), some (V.ref a), some (V.ref D), some (V.ref L), some (V.int ((k + 1 : Nat) : Int)), y6, y7, y8] ∧ Ex H H' ∧
        (∀ b o, H1 b = some o → H' b = some o) ∧ H' D = some (.dK (kvI ls)) ∧ H' L = some (.lst (lt.map V.int)) ∧ Lev u q0 k ls lt,
      ⟨_, _, _, _, L, 0, [(q0, 1)], [q0], rfl, rfl, e2.tr e3, fun b o h => (hA2.tr e3) b o h, e3 _ _ hD2, f3, Lev.zero⟩, ?_⟩
    rintro m σ H4 ⟨y6, y7, y8, L, k, ls, lt, rfl, rfl, e4, h1, hD4, hL4, lv⟩
    refine ⟨_, rfl, _, .inl ⟨_, .inl (.inl hL4), rfl⟩, ?_⟩
    by_cases lne : lt = []
    · subst lne
      exact ⟨_, rfl, q D ls H4 e4 hD4 lv.fin⟩
    · have tru : (!(lt.map V.int).isEmpty) = true := by
        cases lt with
        | nil => exact absurd rfl lne
        | cons x r => rfl
      rw [tru]
      refine ite2 (fun _ => ?_) (fun h => absurd rfl h)
      have rgl : ∀ o ∈ lt, 0 ≤ o ∧ o < u.n := fun o ho => ds_rg hu.ps hq0 ((lv.lt o).mp ho)
      have llt : lt.length ≤ 20 := by
        have := apart_few lv.ltn rgl
        omega
      have lls : ls.length ≤ u.n.toNat := by
        have := apart_few (n := u.n) lv.nd fun b hb => by
          obtain ⟨p, hp, rfl⟩ := List.mem_map.mp hb
          obtain ⟨j, _, _, h2⟩ := (lv.ls p.1 p.2).mp hp
          exact ds_rg hu.ps hq0 h2
        rw [List.length_map] at this
        exact this
      refine ⟨_, fun _ _ h => h, ?_⟩
      refine ⟨_, rfl, _, _, rfl, rfl, ?_⟩
      have sL : SqL K H4 L (lt.map V.int) := .inl (.inl hL4)
      refine ⟨_, rfl, L, rfl, ⟨_, sL⟩, fun S hSn => ?_⟩
      refine lc2_by (lt.map V.int).length (fun i H' => Ex H4 H' ∧ ∃ acc : List Int, H' S = some (.lst (acc.map V.int)) ∧ acc.length ≤ 28 * i ∧ ∀ x, x ∈ acc ↔ ∃ o ∈ lt.take i, (x, o) ∈ u.ps)
        ⟨Ex.nw hSn, [], upd_same, Nat.zero_le _, fun x => by simp⟩ (fun i H' hi p => itl_go sL p.1 hi) (fun H' p => itl_stop sL p.1) ?_ ?_
      · rintro i H5 x H6 hi ⟨e5, acc, hS5, hal, hacc⟩ y
        obtain ⟨rfl, hx⟩ := itl_yld y sL e5
        obtain ⟨o, ho, rfl⟩ := map_at hx
        have hil : i < lt.length := by
          rw [List.length_map] at hi
          exact hi
        obtain ⟨o1, o2⟩ := rgl o (List.mem_of_getElem? ho)
        have eo : ((o.toNat : Nat) : Int) = o := Int.toNat_of_nonneg o1
        have hb := List.getElem?_eq_getElem (show o.toNat < as.length by omega)
        generalize as[o.toNat] = b at hb
        have hrow : H1 b = some (.lst ((srcsOf u.lines ((o.toNat : Nat) : Int)).map V.int)) := R.row _ _ hb
        rw [eo] at hrow
        have hb6 := h1 _ _ hrow
        have sB : SqL K H4 b ((srcsOf u.lines o).map V.int) := .inl (.inl hb6)
        have few := srcs_few hu o
        refine ⟨rfl, _, rfl, _, rfl, a, _, o, .ref b, rfl, rfl, .inl (.inl (e5 _ _ (h1 _ _ R.at_))), atI_int o1 (by rw [List.getElem?_map, hb]; rfl), b, rfl, ⟨_, e5.l sB⟩, ?_⟩
        refine lci_by ((srcsOf u.lines o).map V.int).length (fun j H' => Ex H4 H' ∧ ∃ acc : List Int, H' S = some (.lst (acc.map V.int)) ∧ acc.length ≤ 28 * i + j ∧ ∀ x, x ∈ acc ↔ (∃ o ∈ lt.take i, (x, o) ∈ u.ps) ∨ (x ∈ (srcsOf u.lines o).take j ∧ x < u.n))
          ⟨e5, acc, hS5, by omega, fun x => by rw [hacc]; simp⟩ (fun j H' hj p => itl_go sB p.1 hj) (fun H' p => itl_stop sB p.1) ?_ ?_
        · rintro j H7 x H8 hj ⟨e7, ac7, hS7, hal7, hac7⟩ y7
          obtain ⟨rfl, hx7⟩ := itl_yld y7 sB e7
          obtain ⟨s, hs7, rfl⟩ := map_at hx7
          rw [List.length_map] at hj
          refine ⟨rfl, _, rfl, _, rfl, .inr (.inl ⟨tw, _, 0, _, rfl, rfl, (e4.tr e7).t hS, rfl, ?_⟩)⟩
          refine ⟨_, _, rfl, rfl, _, rfl, ?_⟩
          refine ite2 (fun h => ?_) (fun h => ?_)
          · have h' : s < u.n := of_decide_eq_true h
            refine ⟨_, rfl, _, hS7, mil' (by rw [List.length_map]; omega), e7.wr hSn, ac7 ++ [s], by rw [upd_same, List.map_append]; rfl, by rw [List.length_append, List.length_singleton]; omega, fun x => ?_⟩
            rw [List.mem_append, hac7, List.mem_singleton, take_snoc hs7, List.mem_append, List.mem_singleton]
            constructor
            · rintro ((h1 | h1) | rfl)
              · exact .inl h1
              · exact .inr ⟨.inl h1.1, h1.2⟩
              · exact .inr ⟨.inr rfl, h'⟩
            · rintro (h1 | ⟨h1 | rfl, h2⟩)
              · exact .inl (.inl h1)
              · exact .inl (.inr ⟨h1, h2⟩)
              · exact .inr rfl
          · have h' : ¬ s < u.n := fun e => h (decide_eq_true e)
            refine ⟨e7, ac7, hS7, by omega, fun x => ?_⟩
            rw [hac7, take_snoc hs7, List.mem_append, List.mem_singleton]
            constructor
            · rintro (h1 | h1)
              · exact .inl h1
              · exact .inr ⟨.inl h1.1, h1.2⟩
            · rintro (h1 | ⟨h1 | rfl, h2⟩)
              · exact .inl h1
              · exact .inr ⟨h1, h2⟩
              · exact absurd h2 h'
        · rintro H7 ⟨e7, ac7, hS7, hal7, hac7⟩
          rw [List.length_map, List.take_length] at hac7
          rw [List.length_map] at hal7
          refine ⟨e7, ac7, hS7, by omega, fun x => ?_⟩
          rw [hac7, take_snoc ho]
          constructor
          · rintro (⟨o', h1, h2⟩ | ⟨h1, h2⟩)
            · exact ⟨o', List.mem_append.mpr (.inl h1), h2⟩
            · exact ⟨o, List.mem_append.mpr (.inr (by simp)), (src_low hu h2).mp (mem_srcsOf.mp h1)⟩
          · rintro ⟨o', h1, h2⟩
            rcases List.mem_append.mp h1 with h1 | h1
            · exact .inl ⟨o', h1, h2⟩
            · obtain rfl := List.mem_singleton.mp h1
              have h3 := (hu.ps _ h2).1.2
              exact .inr ⟨mem_srcsOf.mpr ((src_low hu h3).mpr h2), h3⟩
      · rintro H5 ⟨e5, acc, hS5, hal, hacc⟩
        rw [List.length_map] at hal hacc
        rw [List.take_length] at hacc
        have sS : SqL K H5 S (acc.map V.int) := .inl (.inl hS5)
        refine ⟨_, rfl, S, rfl, ⟨_, sS⟩, fun G hG => ?_⟩
        refine lc_by (acc.map V.int).length (fun i H' => Ex H5 H' ∧ H' G = some (.lst (((acc.take i).filter fun x => !(ls.map (·.1)).contains x).map V.int)))
          ⟨Ex.nw hG, upd_same⟩ (fun i H' hi p => itl_go sS p.1 hi) (fun H' p => itl_stop sS p.1) ?_ ?_
        · rintro i H6 x H7 hi ⟨e6, hG6⟩ y
          obtain ⟨rfl, hx⟩ := itl_yld y sS e6
          obtain ⟨k1, hk, rfl⟩ := map_at hx
          rw [take_snoc hk, List.filter_append, List.map_append, List.filter_cons, List.filter_nil]
          refine ⟨rfl, _, rfl, _, rfl, D, _, rfl, DGet.k (k := Sum.inl k1) ((e5.tr e6) _ _ hD4), _, rfl, ?_⟩
          rw [kvI_get]
          refine ite2 (fun h => ?_) (fun h => ?_)
          · refine ⟨_, rfl, _, hG6, mil' ?_, e6.wr hG, ?_⟩
            · rw [List.length_map]
              have h2 := List.length_filter_le (fun x => !(ls.map (·.1)).contains x) (acc.take i)
              rw [List.length_take] at h2
              omega
            · rw [upd_same, if_pos h]
              rfl
          · refine ⟨e6, ?_⟩
            rw [if_neg h, List.map_nil, List.append_nil]
            exact hG6
        · rintro H6 ⟨e6, hG6⟩
          rw [List.length_map, List.take_length] at hG6
          generalize hgs : (acc.filter fun x => !(ls.map (·.1)).contains x) = gs at hG6
          have mgs : ∀ x, x ∈ gs ↔ (∃ o ∈ lt, (x, o) ∈ u.ps) ∧ x ∉ ls.map (·.1) := fun x => by
            rw [← hgs, List.mem_filter, hacc, Bool.not_eq_true', ← Bool.not_eq_true, List.contains_iff_mem]
          have lgs : gs.length ≤ 560 := by
            rw [← hgs]
            have := List.length_filter_le (fun x => !(ls.map (·.1)).contains x) acc
            omega
          have rgs : ∀ x ∈ gs, 0 ≤ x ∧ x < u.n := fun x hx => by
            obtain ⟨⟨o, _, h2⟩, _⟩ := (mgs x).mp hx
            exact (hu.ps _ h2).1
          refine ⟨G, gs, rfl, .inl (.inl hG6), by omega, fun p n hp hcnt => ?_⟩
          have hc20 := hcnt.few rgs
          refine ⟨p, _, n, rfl, upd_same, by omega, fun ns z h1' h2' _ hz => ?_⟩
          obtain ⟨asc, mns⟩ := sortedSet_of h1' h2'
          have e7 : Ex H6 (upd (upd H6 p (SetO w p (fun j => decide (j ∈ gs)) n)) z (.lst (ns.map V.int))) := (Ex.nw hp).tr (Ex.nw hz)
          have f7 : (upd (upd H6 p (SetO w p (fun j => decide (j ∈ gs)) n)) z (.lst (ns.map V.int))) z = some (.lst (ns.map V.int)) := upd_same
          generalize upd (upd H6 p (SetO w p (fun j => decide (j ∈ gs)) n)) z (.lst (ns.map V.int)) = H7 at e7 f7
          have e47 := e5.tr (e6.tr e7)
          have hD7 := e47 _ _ hD4
          have ndn := nodup_ascI asc
          have lns : ns.length ≤ 20 := by
            have := apart_few (n := u.n) ndn fun b hb => rgs b ((mns b).mp hb)
            omega
          have lv' := lv.step ndn fun x => (mns x).trans (mgs x)
          have sZ : SqL K H7 z (ns.map V.int) := .inl (.inl f7)
          refine ⟨_, rfl, .inr (.inr (.inl ⟨rfl, .inl ⟨_, hD7⟩⟩)), ?_⟩
          refine ⟨_, rfl, z, rfl, ⟨_, sZ⟩, fun D2 hD2 => ?_⟩
          have DD : D ≠ D2 := fun e => by
            rw [← e, hD7] at hD2
            cases hD2
          refine dc_by (ns.map V.int).length (fun i H' => Ex H7 H' ∧ H' D2 = some (.dK (kvI ((ns.take i).map fun x => (x, ((k + 2 : Nat) : Int))))))
            ⟨Ex.nw hD2, upd_same⟩ (fun i H' hi p => itl_go sZ p.1 hi) (fun H' p => itl_stop sZ p.1) ?_ ?_
          · rintro i H8 x H9 hi ⟨e8, hD8⟩ y
            obtain ⟨rfl, hx⟩ := itl_yld y sZ e8
            obtain ⟨k1, hk, rfl⟩ := map_at hx
            rw [List.length_map] at hi
            refine ⟨rfl, _, rfl, _, rfl, _, Sum.inl k1, rfl, hD8, mil' ?_, e8.wr hD2, ?_⟩
            · unfold kvI
              rw [List.length_map, List.length_map, List.length_take]
              omega
            · rw [upd_same, take_snoc hk, List.map_append]
              have e : ((ns.take i).map fun x => (x, ((k + 2 : Nat) : Int))).any (fun p => p.1 == k1) = false := by
                rw [List.any_eq_false]
                intro p hp
                obtain ⟨x, hx, rfl⟩ := List.mem_map.mp hp
                have h3 := ndn.sublist (List.take_sublist (i + 1) ns)
                rw [take_snoc hk] at h3
                have h4 := (List.nodup_append.mp h3).2.2 x hx k1 (by simp)
                simpa using h4
              have := kvI_put (s := ((k + 2 : Nat) : Int)) e
              exact congrArg (fun z => some (HO.dK z)) this
          · rintro H8 ⟨e8, hD8⟩
            rw [List.length_map, List.take_length] at hD8
            refine ⟨D, D2, _, _, rfl, rfl, DD, e8 _ _ hD7, hD8, ?_, ?_⟩
            · unfold kvI
              rw [List.length_map, List.length_map, List.length_map]
              omega
            · rw [merge_new lv'.nd]
              have zD : z ≠ D := fun e => by
                rw [e, hD7] at f7
                cases f7
              have llx : lt ≠ [] → True := fun _ => trivial
              refine ⟨_, ?_, _, _, _, z, k + 1, _, ns, rfl, rfl, (e4.tr (e47.tr e8)).wr DH, fun b o h => ?_, upd_same, ?_, lv'⟩
              · rw [if_neg lne]
                by_cases e : ns = []
                · rw [if_pos e]
                  omega
                · rw [if_neg e, List.length_append, List.length_map]
                  have : 0 < ns.length := List.length_pos_iff.mpr e
                  have h2 : (ls ++ ns.map fun x => (x, ((k + 2 : Nat) : Int))).length ≤ u.n.toNat := by
                    have := apart_few (n := u.n) lv'.nd fun b hb => by
                      obtain ⟨p, hp, rfl⟩ := List.mem_map.mp hb
                      obtain ⟨j, _, _, h2⟩ := (lv'.ls p.1 p.2).mp hp
                      exact ds_rg hu.ps hq0 h2
                    rw [List.length_map] at this
                    exact this
                  rw [List.length_append, List.length_map] at h2
                  omega
              · rw [upd_ne (fun e => by
                  rw [e, hD] at h
                  cases h)]
                exact (e47.tr e8) _ _ (h1 _ _ h)
              · rw [upd_ne zD]
                exact e8 _ _ f7
end

end K65
namespace K65
open PySem PySem.Spec PyProof.Rows L2 Nw
/-! reached: slots 0 web, 1 behind, 2 quantity -/
abbrev s_reached : Stmt := topS 26
abbrev N_reached : List Str := ["web", "behind", "quantity"]
abbrev P_reached : List Str := ["web"]
theorem sc_reached : FnScope N_reached P_reached (defScope s_reached) := ⟨rfl, rfl, rfl, by decide +kernel, rfl, by decide +kernel, by decide +kernel⟩
section
open Classical
noncomputable def rdL (u : Wb) (b : Bool) : List Int := (iota u.n).filter fun x => decide (Rd u x) == b
theorem rd_vis {u : Wb} {vis : List Int} (hm : ∀ b, b ∈ vis ↔ Rd u b) (x : Int) : vis.contains x = decide (Rd u x) := by
  rw [Bool.eq_iff_iff, List.contains_iff_mem, decide_eq_true_iff]
  exact hm x
end
def sp_reached (K : PySem.W.Frag) : Sp := fun vs H Q _ => ∃ (v : V) (u : Wb), vs = [v] ∧ Da K H (Wb.d u) v ∧ u.Ok ∧ ∀ (p : Addr) H', H p = none → Ex H H' → H' p = some (.lst ((rdL u true).map V.int)) → Q (.ref p) H'
section
variable {P : Program} {w : World} {K : PySem.W.Frag} {mg : Str → Option Value} {base : Heap}
theorem ok_reached {f : Addr} {fd : FuncData} (T : Txt K mg) (F : Fun K "reached" "reached" s_reached f fd)
    (D_check_web : DefOk P w K mg base CX0 7 "check_web" P_check_web (sp_check_web K))
    (D_reached_quantities : DefOk P w K mg base CX0 3 "reached_quantities" P_reached_quantities (sp_reached_quantities K)) :
    FnG P w K mg base CX0 8 f fd P_reached (sp_reached K) := by
  refine okG0 F sc_reached (fun vs H Q E h => ?_) (fun cdv A outer s H vs Q E hr hq h => ?_)
  · obtain ⟨v, u, rfl, _⟩ := h
    rfl
  · obtain ⟨v, u, rfl, hd, hu, q⟩ := h
    obtain ⟨tw, x2, x3, rfl, hS, g2, g3⟩ := Wb.at hd
    have b1 := hu.lo
    have b2 := hu.hi
    refine ⟨_, (pss_cons (ps_expr (pe_callD D_check_web (hr.mono (by decide)) hq pass0 (pa_cons (pv 0) pa_nil)))
      (pss_cons (ps_set (i := 1) sc_reached.nd rfl (by first | exact .inl rfl | exact .inr rfl) (pe_callD D_reached_quantities (hr.mono (by decide)) hq pass0 (pa_cons (pv 0) pa_nil)))
      (pss_one (ps_ret (pe_lc (own := [("quantity", 2)]) rfl sc_reached.nd (pi_range1 (by rfl) T.b_range (pa_cons (pe_ix (ix_seqK K) (pv 0) pe_int (fun _ _ => rfl)) pa_nil)) (blkOk_by (N := N_reached) (sc := defScope s_reached) (by decide +kernel)) (fun _ _ _ _ _ => (pg_name (i := 2) sc_reached.nd rfl (by first | exact .inl rfl | exact .inr rfl))) (fun _ _ _ _ _ => (pts_one (pt_dIn hr (pv 2) (pv 1)))) (fun _ _ _ _ _ => (pv 2))))))), ?_⟩
    refine ⟨_, rfl, _, _, rfl, hd, hu.web, fun H1 e1 => ?_⟩
    refine ⟨_, rfl, .ref tw, u, rfl, hd.up e1, hu, fun D vis H2 e2 hD nd hm => ?_⟩
    have e02 := e1.tr e2
    refine ⟨_, rfl, .inr (.inl ⟨tw, _, 0, _, rfl, rfl, e02.t hS, rfl, ?_⟩)⟩
    refine ⟨_, rfl, by omega, by omega, fun L hL => ?_⟩
    refine lc_by u.n.toNat (fun i H' => Ex H2 H' ∧ H' L = some (.lst ((((iota u.n).take i).filter fun x => vis.contains x).map V.int)))
      ⟨Ex.nw hL, upd_same⟩ (fun i H' hi p => (by show i < _; omega)) (fun H' p => (by show _ ≤ u.n.toNat; omega)) ?_ ?_
    · rintro i H9 x H4 hi ⟨e4, hL4⟩ ⟨rfl, rfl⟩
      rw [show (0 : Int) + (i : Int) = (i : Int) by omega]
      have hk : (iota u.n)[i]? = some (i : Int) := iota_at (by omega)
      rw [take_snoc hk, List.filter_append, List.map_append, List.filter_cons, List.filter_nil]
      refine ⟨rfl, _, rfl, _, rfl, D, _, rfl, DGet.k (k := Sum.inl (i : Int)) (e4 _ _ hD), _, rfl, ?_⟩
      rw [visK_get]
      refine ite2 (fun h => ?_) (fun h => ?_)
      · refine ⟨_, rfl, _, hL4, mil' ?_, e4.wr hL, ?_⟩
        · rw [List.length_map]
          have h2 := List.length_filter_le (fun x => vis.contains x) ((iota u.n).take i)
          rw [List.length_take] at h2
          omega
        · rw [upd_same, if_pos h]
          rfl
      · refine ⟨e4, ?_⟩
        rw [if_neg h, List.map_nil, List.append_nil]
        exact hL4
    · rintro H4 ⟨e4, hL4⟩
      rw [List.take_of_length_le (by rw [List.length_map, List.length_range]; omega)] at hL4
      refine q L H4 (e02.fr hL) (e02.tr e4) ?_
      rw [hL4]
      refine congrArg (fun z : List Int => some (HO.lst (z.map V.int))) (List.filter_congr fun x _ => ?_)
      have := rd_vis hm x
      rw [← this]
      cases vis.contains x <;> rfl
end

/-! unreached: slots 0 web, 1 behind, 2 quantity -/
abbrev s_unreached : Stmt := topS 27
abbrev N_unreached : List Str := ["web", "behind", "quantity"]
abbrev P_unreached : List Str := ["web"]
theorem sc_unreached : FnScope N_unreached P_unreached (defScope s_unreached) := ⟨rfl, rfl, rfl, by decide +kernel, rfl, by decide +kernel, by decide +kernel⟩
def sp_unreached (K : PySem.W.Frag) : Sp := fun vs H Q _ => ∃ (v : V) (u : Wb), vs = [v] ∧ Da K H (Wb.d u) v ∧ u.Ok ∧ ∀ (p : Addr) H', H p = none → Ex H H' → H' p = some (.lst ((rdL u false).map V.int)) → Q (.ref p) H'
section
variable {P : Program} {w : World} {K : PySem.W.Frag} {mg : Str → Option Value} {base : Heap}
theorem ok_unreached {f : Addr} {fd : FuncData} (T : Txt K mg) (F : Fun K "unreached" "unreached" s_unreached f fd)
    (D_check_web : DefOk P w K mg base CX0 7 "check_web" P_check_web (sp_check_web K))
    (D_reached_quantities : DefOk P w K mg base CX0 3 "reached_quantities" P_reached_quantities (sp_reached_quantities K)) :
    FnG P w K mg base CX0 8 f fd P_unreached (sp_unreached K) := by
  refine okG0 F sc_unreached (fun vs H Q E h => ?_) (fun cdv A outer s H vs Q E hr hq h => ?_)
  · obtain ⟨v, u, rfl, _⟩ := h
    rfl
  · obtain ⟨v, u, rfl, hd, hu, q⟩ := h
    obtain ⟨tw, x2, x3, rfl, hS, g2, g3⟩ := Wb.at hd
    have b1 := hu.lo
    have b2 := hu.hi
    refine ⟨_, (pss_cons (ps_expr (pe_callD D_check_web (hr.mono (by decide)) hq pass0 (pa_cons (pv 0) pa_nil)))
      (pss_cons (ps_set (i := 1) sc_unreached.nd rfl (by first | exact .inl rfl | exact .inr rfl) (pe_callD D_reached_quantities (hr.mono (by decide)) hq pass0 (pa_cons (pv 0) pa_nil)))
      (pss_one (ps_ret (pe_lc (own := [("quantity", 2)]) rfl sc_unreached.nd (pi_range1 (by rfl) T.b_range (pa_cons (pe_ix (ix_seqK K) (pv 0) pe_int (fun _ _ => rfl)) pa_nil)) (blkOk_by (N := N_unreached) (sc := defScope s_unreached) (by decide +kernel)) (fun _ _ _ _ _ => (pg_name (i := 2) sc_unreached.nd rfl (by first | exact .inl rfl | exact .inr rfl))) (fun _ _ _ _ _ => (pts_one (pt_dNotIn hr (pv 2) (pv 1)))) (fun _ _ _ _ _ => (pv 2))))))), ?_⟩
    refine ⟨_, rfl, _, _, rfl, hd, hu.web, fun H1 e1 => ?_⟩
    refine ⟨_, rfl, .ref tw, u, rfl, hd.up e1, hu, fun D vis H2 e2 hD nd hm => ?_⟩
    have e02 := e1.tr e2
    refine ⟨_, rfl, .inr (.inl ⟨tw, _, 0, _, rfl, rfl, e02.t hS, rfl, ?_⟩)⟩
    refine ⟨_, rfl, by omega, by omega, fun L hL => ?_⟩
    refine lc_by u.n.toNat (fun i H' => Ex H2 H' ∧ H' L = some (.lst ((((iota u.n).take i).filter fun x => !vis.contains x).map V.int)))
      ⟨Ex.nw hL, upd_same⟩ (fun i H' hi p => (by show i < _; omega)) (fun H' p => (by show _ ≤ u.n.toNat; omega)) ?_ ?_
    · rintro i H9 x H4 hi ⟨e4, hL4⟩ ⟨rfl, rfl⟩
      rw [show (0 : Int) + (i : Int) = (i : Int) by omega]
      have hk : (iota u.n)[i]? = some (i : Int) := iota_at (by omega)
      rw [take_snoc hk, List.filter_append, List.map_append, List.filter_cons, List.filter_nil]
      refine ⟨rfl, _, rfl, _, rfl, D, _, rfl, DGet.k (k := Sum.inl (i : Int)) (e4 _ _ hD), _, rfl, ?_⟩
      rw [visK_get]
      refine ite2 (fun h => ?_) (fun h => ?_)
      · refine ⟨_, rfl, _, hL4, mil' ?_, e4.wr hL, ?_⟩
        · rw [List.length_map]
          have h2 := List.length_filter_le (fun x => !vis.contains x) ((iota u.n).take i)
          rw [List.length_take] at h2
          omega
        · rw [upd_same, if_pos h]
          rfl
      · refine ⟨e4, ?_⟩
        rw [if_neg h, List.map_nil, List.append_nil]
        exact hL4
    · rintro H4 ⟨e4, hL4⟩
      rw [List.take_of_length_le (by rw [List.length_map, List.length_range]; omega)] at hL4
      refine q L H4 (e02.fr hL) (e02.tr e4) ?_
      rw [hL4]
      refine congrArg (fun z : List Int => some (HO.lst (z.map V.int))) (List.filter_congr fun x _ => ?_)
      have := rd_vis hm x
      rw [← this]
      cases vis.contains x <;> rfl
end

end K65
namespace K65
open PySem PySem.Spec PyProof.Rows L2 Nw
/-! way_to: slots 0 web, 1 quantity, 2 lengths, 3 starts, 4 nudge, 5 targets, 6 target, 7 length, 8 first, 9 rows, 10 way -/
abbrev s_way_to : Stmt := topS 28
abbrev N_way_to : List Str := ["web", "quantity", "lengths", "starts", "nudge", "targets", "target", "length", "first", "rows", "way"]
abbrev P_way_to : List Str := ["web", "quantity"]
theorem sc_way_to : FnScope N_way_to P_way_to (defScope s_way_to) := ⟨rfl, rfl, rfl, by decide +kernel, rfl, by decide +kernel, by decide +kernel⟩
/-- a nudge and a way, new ones, or none -/
def WayAt (H H' : Hp) : Option (Nat × List Int) → V → Prop
  | none, x => x = .non
  | some (k, p), x => ∃ T P, x = .ref T ∧ H T = none ∧ H P = none ∧ T ≠ P ∧ H' T = some (.tup [.int (k : Int), .ref P]) ∧ H' P = some (.lst (p.map V.int))
/-- the beginnings, as triples at their places -/
structure StI (u : Wb) (q : Int) (i : Nat) (H : Hp) (S : Addr) (ts : List (Addr × Int × Int × Int)) : Prop where
  at_ : H S = some (.lst (ts.map fun e => V.ref e.1))
  len : ts.length ≤ 20 * i
  tup : ∀ e ∈ ts, H e.1 = some (.tup [.int e.2.1, .int e.2.2.1, .int e.2.2.2])
  mem : ∀ t : Int × Int × Int, t ∈ ts.map (·.2) ↔ ∃ (k : Nat) (N : List Int) (j : Nat), k < i ∧ u.ns[k]? = some N ∧ t.2.2 ∈ N ∧ t.2.1 = (k : Int) ∧ t.1 = (j : Int) ∧ Ds u.ps q t.2.2 j
theorem tri_dp {K : PySem.W.Frag} {H : Hp} : ∀ {ts : List (Addr × Int × Int × Int)}, (∀ e ∈ ts, H e.1 = some (.tup [.int e.2.1, .int e.2.2.1, .int e.2.2.2])) → DpAll K H (ts.map fun e => V.ref e.1) ((ts.map (·.2)).map dTrp)
  | [], _ => .nil
  | e :: ts, h => by
    refine .cons ?_ (tri_dp fun e he => h e (List.mem_cons_of_mem _ he))
    have := h e (by simp)
    exact Da.dp (dTrp e.2) (.ref e.1) ⟨e.1, _, rfl, this, _, _, rfl, rfl, _, _, rfl, rfl, _, _, rfl, rfl, rfl⟩ rfl
theorem trp_inj {t u : Int × Int × Int} (h : dTrp t = dTrp u) : t = u := by
  unfold dTrp at h
  injection h with h
  injection h with h1 h
  injection h with h2 h
  injection h with h3 h
  injection h1 with h1
  injection h2 with h2
  injection h3 with h3
  exact Prod.ext h1 (Prod.ext h2 h3)
theorem valV_kvI {ls : List (Int × Int)} (nd : (ls.map (·.1)).Nodup) {x m : Int} (h : (x, m) ∈ ls) : valV (kvI ls) (Sum.inl x) = some (V.int m) := by
  induction ls with
  | nil => cases h
  | cons a ls ih =>
    rw [List.map_cons, List.nodup_cons] at nd
    show valV ((Sum.inl a.1, V.int a.2) :: kvI ls) _ = _
    rcases List.mem_cons.mp h with rfl | h1
    · exact valV_pos rfl
    · have ne : ¬ (Sum.inl a.1 : Key) = Sum.inl x := fun e => nd.1 (by rw [Sum.inl.inj e]; exact List.mem_map.mpr ⟨_, h1, rfl⟩)
      rw [valV_neg ne]
      exact ih nd.2 h1
theorem valV_non {ls : List (Int × Int)} {x : Int} (h : ∀ m, (x, m) ∉ ls) : valV (kvI ls) (Sum.inl x) = none := by
  cases e : valV (kvI ls) (Sum.inl x) with
  | none => rfl
  | some v =>
    have h1 : (valV (kvI ls) (Sum.inl x)).isSome = true := by rw [e]; rfl
    rw [kvI_get, List.contains_iff_mem] at h1
    obtain ⟨p, hp, rfl⟩ := List.mem_map.mp h1
    exact absurd hp (h p.2)
def sp_way_to (K : PySem.W.Frag) : Sp := fun vs H Q _ => ∃ (v : V) (u : Wb) (q0 : Int), vs = [v, .int q0] ∧ Da K H (Wb.d u) v ∧ u.Ok ∧ (0 ≤ q0 ∧ q0 < u.n) ∧
  ∀ (o : Option (Nat × List Int)) (x : V) H', Ex H H' → BsO u q0 (fun _ => True) o → (∀ k p, o = some (k, p) → p.length ≤ 20 ∧ k ≤ 8) → WayAt H H' o x → Q x H'
section
variable {P : Program} {w : World} {K : PySem.W.Frag} {mg : Str → Option Value} {base : Heap}
theorem ok_way_to {f : Addr} {fd : FuncData} (T : Txt K mg) (F : Fun K "way_to" "way_to" s_way_to f fd)
    (D_check_web : DefOk P w K mg base CX0 7 "check_web" P_check_web (sp_check_web K))
    (D_check_quantity : DefOk P w K mg base CX0 3 "check_quantity" P_check_quantity (sp_check_quantity K))
    (D_target_rows : DefOk P w K mg base CX0 2 "target_rows" P_target_rows (sp_target_rows K))
    (D_lengths_to : DefOk P w K mg base CX0 3 "lengths_to" P_lengths_to (sp_lengths_to K)) :
    FnG P w K mg base CX0 8 f fd P_way_to (sp_way_to K) := by
  refine okG0 F sc_way_to (fun vs H Q E h => ?_) (fun cdv A outer s H vs Q E hr hq h => ?_)
  · obtain ⟨v, u, z, rfl, _⟩ := h
    rfl
  · obtain ⟨v, u, q0, rfl, hd, hu, hq0, q⟩ := h
    obtain ⟨tw, x2, x3, rfl, hS, g2, ⟨a3, xs, rfl, hL3, hA3, hz3⟩⟩ := Wb.at hd
    have b1 := hu.lo
    have b2 := hu.hi
    have b3 := hu.few
    have hl3 := hA3.len
    rw [List.length_map] at hl3
    refine ⟨_, (pss_cons (ps_expr (pe_callD D_check_web (hr.mono (by decide)) hq pass0 (pa_cons (pv 0) pa_nil)))
      (pss_cons (ps_expr (pe_callD D_check_quantity (hr.mono (by decide)) hq pass0 (pa_cons (pv 0) (pa_cons (pv 1) pa_nil))))
      (pss_cons (ps_set (i := 2) sc_way_to.nd rfl (by first | exact .inl rfl | exact .inr rfl) (pe_callD D_lengths_to (hr.mono (by decide)) hq pass0 (pa_cons (pv 0) (pa_cons (pv 1) pa_nil))))
      (pss_cons (ps_set (i := 3) sc_way_to.nd rfl (by first | exact .inl rfl | exact .inr rfl) (pe_lst pa_nil))
      (pss_cons (ps_for PassesOwn.never rfl (pi_enum (by rfl) T.b_enumerate (pa_cons (pe_ix (ix_seqK K) (pv 0) pe_int (fun _ _ => rfl)) pa_nil)) (pg_tupK (n := 2) K rfl (pgs_cons (pg_name (i := 4) sc_way_to.nd rfl (by first | exact .inl rfl | exact .inr rfl)) (pgs_cons (pg_name (i := 5) sc_way_to.nd rfl (by first | exact .inl rfl | exact .inr rfl)) pgs_nil))) (pss_one (ps_expr (pe_bm PySem.F.plainAttrs_list PySem.F.slot_list_extend PySem.F.type_list_extend mt_extend (pv 3) (pa_cons (pe_lc (own := [("target", 6)]) rfl sc_way_to.nd (pi_listK K (pv 5)) (blkOk_by (N := N_way_to) (sc := defScope s_way_to) (by decide +kernel)) (fun _ _ _ _ _ => (pg_name (i := 6) sc_way_to.nd rfl (by first | exact .inl rfl | exact .inr rfl))) (fun _ _ _ _ _ => (pts_one (pt_dIn hr (pv 6) (pv 2)))) (fun _ _ _ _ _ => (pe_tup (pa_cons (pe_dgetK hr (pv 2) (pv 6) (fun _ _ => rfl)) (pa_cons (pv 4) (pa_cons (pv 6) pa_nil)))))) pa_nil)))))
      (pss_cons (ps_if (pt_not (pt_truth (pv 3) (by intro _; rfl))) (pss_one (ps_ret pe_non)) pss_nil)
      (pss_cons (ps_asg (pe_callB (cr_minD K rfl hr) (by rfl) T.b_min bt_min (pa_cons (pv 3) pa_nil)) (pg_tupK (n := 3) K rfl (pgs_cons (pg_name (i := 7) sc_way_to.nd rfl (by first | exact .inl rfl | exact .inr rfl)) (pgs_cons (pg_name (i := 4) sc_way_to.nd rfl (by first | exact .inl rfl | exact .inr rfl)) (pgs_cons (pg_name (i := 8) sc_way_to.nd rfl (by first | exact .inl rfl | exact .inr rfl)) pgs_nil)))))
      (pss_cons (ps_set (i := 9) sc_way_to.nd rfl (by first | exact .inl rfl | exact .inr rfl) (pe_callD D_target_rows (hr.mono (by decide)) hq pass0 (pa_cons (pv 0) pa_nil)))
      (pss_cons (ps_set (i := 10) sc_way_to.nd rfl (by first | exact .inl rfl | exact .inr rfl) (pe_lst (pa_cons (pv 8) pa_nil)))
      (pss_cons (ps_while PassesOwn.never (pt_cmpR op_gt (pv 7) pe_int (nomark _)) (pss_cons (ps_aug (i := 7) sc_way_to.nd rfl (by first | exact .inl rfl | exact .inr rfl) pe_int ip_sub)
      (pss_one (ps_expr (pe_bm PySem.F.plainAttrs_list PySem.F.slot_list_append PySem.F.type_list_append mt_append (pv 10) (pa_cons (pe_callB (cr_minK' K rfl) (by rfl) T.b_min bt_min (pa_cons (pe_lc (own := [("target", 6)]) rfl sc_way_to.nd (pi_listK K (pe_ix (ix_listK K) (pv 9) (pe_ix (ix_listK K) (pv 10) (pe_un un_neg pe_int) (fun _ _ => rfl)) (fun _ _ => rfl))) (blkOk_by (N := N_way_to) (sc := defScope s_way_to) (by decide +kernel)) (fun _ _ _ _ _ => (pg_name (i := 6) sc_way_to.nd rfl (by first | exact .inl rfl | exact .inr rfl))) (fun _ _ _ _ _ => (pts_one (pt_cmpR op_eq (pe_dget1K hr (pv 2) (pv 6) ⟨rfl, rfl, rfl, rfl⟩) (pv 7) (nomark _)))) (fun _ _ _ _ _ => (pv 6))) pa_nil)) pa_nil))))))
      (pss_one (ps_ret (pe_tup (pa_cons (pv 4) (pa_cons (pv 10) pa_nil))))))))))))))), ?_⟩
    refine ⟨_, rfl, _, _, rfl, hd, hu.web, fun H1 e1 => ?_⟩
    refine ⟨_, rfl, _, rfl, _, u, q0, rfl, hd.up e1, hq0, ?_⟩
    refine ⟨_, rfl, _, rfl, .ref tw, u, q0, rfl, hd.up e1, hu, hq0, fun D ls H2 e2 hD lend => ?_⟩
    have e02 := e1.tr e2
    have dsl : ∀ {x : Int} {j : Nat}, Ds u.ps q0 x j → 1 ≤ j ∧ j ≤ 20 := fun {x j} hd => by
      refine ⟨hd.1.pos, ?_⟩
      have key : ∀ j x, Ds u.ps q0 x j → ∃ l : List Int, l.Nodup ∧ l.length = j ∧ ∀ y ∈ l, ∃ i, i ≤ j ∧ Ds u.ps q0 y i := fun j => by
        induction j with
        | zero =>
          intro x h
          have := h.1.pos
          omega
        | succ j ih =>
          intro x h
          cases j with
          | zero => exact ⟨[x], by simp, rfl, fun y hy => ⟨1, Nat.le_refl _, by rw [List.mem_singleton.mp hy]; exact h⟩⟩
          | succ j =>
            obtain ⟨z, _, hz⟩ := h.next
            obtain ⟨l, h1, h2, h3⟩ := ih z hz
            refine ⟨x :: l, List.nodup_cons.mpr ⟨fun hm => ?_, h1⟩, by rw [List.length_cons, h2], fun y hy => ?_⟩
            · obtain ⟨i, h4, h5⟩ := h3 x hm
              have := h5.uniq h
              omega
            · rcases List.mem_cons.mp hy with rfl | hy
              · exact ⟨_, Nat.le_refl _, h⟩
              · obtain ⟨i, h4, h5⟩ := h3 y hy
                exact ⟨i, by omega, h5⟩
      obtain ⟨l, h1, h2, h3⟩ := key j x hd
      have := apart_few (n := u.n) h1 fun b hb => by
        obtain ⟨i, _, h5⟩ := h3 b hb
        exact ds_rg hu.ps hq0 h5
      omega
    refine ⟨Nat.zero_le _, fun S hSn => ?_⟩
    have s3 : SqL K H a3 xs := .inl (.inl hL3)
    refine ⟨_, rfl, .inr (.inl ⟨tw, _, 2, _, rfl, rfl, (e02.tr (Ex.nw hSn)).t hS, rfl, ?_⟩)⟩
    refine ⟨a3, xs, rfl, (e02.tr (Ex.nw hSn)).l s3, ?_⟩
    refine for_by xs.length (fun i σ H' => ∃ y4 y5 y6 ts, σ = [some (V.ref tw), some (V.int q0), some (V.ref D), some (V.ref S), y4, y5, y6, none, none, none, none] ∧ Ex H2 H' ∧ StI u q0 i H' S ts)
      ⟨_, _, _, [], rfl, Ex.nw hSn, upd_same, Nat.zero_le _, fun e he => (by cases he), fun t => ⟨fun h => (by cases h), fun ⟨k, N, j, h, _⟩ => (by omega)⟩⟩ (fun i σ H' hi p => ?_) (fun σ H' p => ?_) ?_ ?_
    · obtain ⟨_, _, _, _, _, e, _⟩ := p
      exact ite_go s3 (e02.tr e) hi
    · obtain ⟨_, _, _, _, _, e, _⟩ := p
      exact ite_stop s3 (e02.tr e)
    · rintro i σ H3 x H4 hi ⟨y4, y5, y6, ts, rfl, e3, st⟩ ⟨T1, y1, rfl, hT1, rfl, hy1⟩
      have g1 := hy1 xs ((e02.tr e3).l s3)
      obtain ⟨dr, hdr, hx⟩ := hA3.at' g1
      obtain ⟨r, hrr, rfl⟩ := map_at hdr
      obtain ⟨ar, rfl, hLr⟩ := dInts_at hx
      have eT : Ex H3 (upd H3 T1 (.tup [.int (i : Nat), .ref ar])) := Ex.nw hT1
      refine ⟨T1, _, rfl, .inl (.inl upd_same), rfl, _, _, rfl, _, _, rfl, rfl, ?_⟩
      generalize upd H3 T1 (.tup [.int (i : Nat), .ref ar]) = H4 at eT
      have hS4 := eT _ _ st.at_
      have sR := (e02.tr (e3.tr eT)).l hLr
      have hrl := hu.row (List.mem_of_getElem? hrr)
      refine ⟨_, rfl, .inl ⟨rfl, _, .inl (.inl hS4)⟩, ?_⟩
      refine ⟨_, rfl, ar, rfl, ⟨_, sR⟩, fun C hC => ?_⟩
      refine lc_by (r.map V.int).length (fun jj H' => Ex H4 H' ∧ ∃ cs : List (Addr × Int × Int × Int), H' C = some (.lst (cs.map fun e => V.ref e.1)) ∧ cs.length ≤ jj ∧ (∀ e ∈ cs, H' e.1 = some (.tup [.int e.2.1, .int e.2.2.1, .int e.2.2.2])) ∧
          ∀ t : Int × Int × Int, t ∈ cs.map (·.2) ↔ ∃ j : Nat, t.2.2 ∈ r.take jj ∧ t.2.1 = (i : Int) ∧ t.1 = (j : Int) ∧ Ds u.ps q0 t.2.2 j)
        ⟨Ex.nw hC, [], upd_same, Nat.le_refl _, fun e he => (by cases he), fun t => ⟨fun h => (by cases h), fun ⟨j, h, _⟩ => (by simp at h)⟩⟩ (fun jj H' hj p => itl_go sR p.1 hj) (fun H' p => itl_stop sR p.1) ?_ ?_
      · rintro jj H5 x H6 hj ⟨e5, cs, hC5, hcl, hct, hcm⟩ y
        obtain ⟨rfl, hx⟩ := itl_yld y sR e5
        obtain ⟨t, ht, rfl⟩ := map_at hx
        rw [List.length_map] at hj
        have hD6 := (e3.tr (eT.tr e5)) _ _ hD
        refine ⟨rfl, _, rfl, _, rfl, D, _, rfl, DGet.k (k := Sum.inl t) hD6, _, rfl, ?_⟩
        rw [kvI_get]
        refine ite2 (fun h => ?_) (fun h => ?_)
        · obtain ⟨p, hp, ep⟩ := List.mem_map.mp (List.contains_iff_mem.mp h)
          obtain ⟨t', m⟩ := p
          have ep : t' = t := ep
          subst ep
          obtain ⟨j, rfl, hds⟩ := (lend.ls _ _).mp hp
          have hg : DGet H6 D (.int t') (some (.int (j : Int))) := by
            have := DGet.k (k := Sum.inl t') hD6
            rw [valV_kvI lend.nd hp] at this
            exact this
          refine ⟨_, rfl, _, rfl, D, _, rfl, hg, _, rfl, _, rfl, by show 3 ≤ sizeLine; decide, fun T hT => ?_⟩
          have eN : Ex H6 (upd H6 T (.tup [.int (j : Int), .int (i : Int), .int t'])) := Ex.nw hT
          have fN : (upd H6 T (.tup [.int (j : Int), .int (i : Int), .int t'])) T = some (.tup [.int (j : Int), .int (i : Int), .int t']) := upd_same
          generalize upd H6 T (.tup [.int (j : Int), .int (i : Int), .int t']) = H7 at eN fN
          have hC7 := eN _ _ hC5
          have nC : ∀ {b : Addr} {zs : List V}, H7 b = some (.tup zs) → b ≠ C := fun hb e => by
            rw [e, hC7] at hb
            cases hb
          refine ⟨_, hC7, mil' (by rw [List.length_map]; omega), (e5.tr eN).wr hC, cs ++ [(T, ((j : Int), (i : Int), t'))], by rw [upd_same, List.map_append]; rfl, by rw [List.length_append, List.length_singleton]; omega, fun e he => ?_, fun x => ?_⟩
          · rcases List.mem_append.mp he with he | he
            · have := eN _ _ (hct e he)
              rw [upd_ne (nC this)]
              exact this
            · obtain rfl := List.mem_singleton.mp he
              rw [upd_ne (nC fN)]
              exact fN
          · rw [List.map_append, List.mem_append, hcm, take_snoc ht]
            constructor
            · rintro (⟨j', h1, h2⟩ | h1)
              · exact ⟨j', List.mem_append.mpr (.inl h1), h2⟩
              · have e1 : x = ((j : Int), (i : Int), t') := by simpa using h1
                subst e1
                exact ⟨j, List.mem_append.mpr (.inr (by simp)), rfl, rfl, hds⟩
            · rintro ⟨j', h1, h2, h3, h4⟩
              rcases List.mem_append.mp h1 with h1 | h1
              · exact .inl ⟨j', h1, h2, h3, h4⟩
              · have e1 := List.mem_singleton.mp h1
                rw [e1] at h4
                have e2 := h4.uniq hds
                subst e2
                right
                have : x = ((j' : Int), (i : Int), t') := Prod.ext h3 (Prod.ext h2 e1)
                rw [this]
                simp
        · refine ⟨e5, cs, hC5, by omega, hct, fun x => ?_⟩
          rw [hcm, take_snoc ht]
          constructor
          · rintro ⟨j', h1, h2⟩
            exact ⟨j', List.mem_append.mpr (.inl h1), h2⟩
          · rintro ⟨j', h1, h2, h3, h4⟩
            rcases List.mem_append.mp h1 with h1 | h1
            · exact ⟨j', h1, h2, h3, h4⟩
            · have e1 := List.mem_singleton.mp h1
              refine absurd (List.contains_iff_mem.mpr (List.mem_map.mpr ⟨(t, (j' : Int)), (lend.ls _ _).mpr ⟨j', rfl, ?_⟩, rfl⟩)) h
              rw [← e1]
              exact h4
      · rintro H5 ⟨e5, cs, hC5, hcl, hct, hcm⟩
        rw [List.length_map] at hcl hcm
        rw [List.take_length] at hcm
        have hS5 := e5 _ _ hS4
        have hts := st.len
        rw [← hl3] at hi
        refine ⟨S, C, _, _, rfl, rfl, hS5, hC5, Nat.le_of_lt (mil' (by rw [List.length_map, List.length_map]; omega)), ?_⟩
        have nS : ∀ {b : Addr} {zs : List V}, H5 b = some (.tup zs) → b ≠ S := fun hb e => by
          rw [e, hS5] at hb
          cases hb
        refine ⟨_, _, _, ts ++ cs, rfl, (e3.tr (eT.tr e5)).wr hSn, by rw [upd_same, List.map_append], by rw [List.length_append]; omega, fun e he => ?_, fun x => ?_⟩
        · rcases List.mem_append.mp he with he | he
          · have := (eT.tr e5) _ _ (st.tup e he)
            rw [upd_ne (nS this)]
            exact this
          · have := hct e he
            rw [upd_ne (nS this)]
            exact this
        · rw [List.map_append, List.mem_append, st.mem, hcm]
          constructor
          · rintro (⟨k, N, j, h1, h2⟩ | ⟨j, h1, h2, h3, h4⟩)
            · exact ⟨k, N, j, by omega, h2⟩
            · exact ⟨i, r, j, by omega, hrr, h1, h2, h3, h4⟩
          · rintro ⟨k, N, j, h1, h2, h3, h4, h5, h6⟩
            by_cases e : k = i
            · subst e
              rw [hrr] at h2
              cases h2
              exact .inr ⟨j, h3, h4, h5, h6⟩
            · exact .inl ⟨k, N, j, by omega, h2, h3, h4, h5, h6⟩
    · rintro σ H3 ⟨y4, y5, y6, ts, rfl, e3, st⟩
      rw [← hl3] at st
      have e03 := e02.tr e3
      have hall : ∀ {k' : Nat} {N' p' : List Int}, u.ns[k']? = some N' → Way u.ps N' p' q0 → ∃ (t : Int) (j : Nat), t ∈ N' ∧ p'.head? = some t ∧ j ≤ p'.length ∧ Ds u.ps q0 t j := fun {k' N' p'} hN w' => by
        obtain ⟨t, h1, h2⟩ := w'.hd
        obtain ⟨j, h3, h4⟩ := ds_le (m := p'.length) ⟨p', w'.ch, h1, w'.ls, rfl⟩
        exact ⟨t, j, h2, h1, h3, h4⟩
      refine ⟨_, rfl, _, .inl ⟨_, .inl (.inl st.at_), rfl⟩, ?_⟩
      by_cases hts : ts = []
      · subst hts
        refine ite2 (fun _ => ?_) (fun h => absurd rfl h)
        refine q none .non H3 e03 (fun k' N' p' _ hN w' => ?_) (fun k p h => (by cases h)) rfl
        obtain ⟨t, j, h1, _, _, h4⟩ := hall hN w'
        have := (st.mem ((j : Int), (k' : Int), t)).mpr ⟨k', N', j, (List.getElem?_eq_some_iff.mp hN).1, hN, h1, rfl, rfl, h4⟩
        cases this
      · obtain ⟨e0, es, rfl⟩ : ∃ e0 es, ts = e0 :: es := by
          cases ts with
          | nil => exact absurd rfl hts
          | cons e0 es => exact ⟨e0, es, rfl⟩
        refine ite2 (fun h => Bool.noConfusion h) (fun _ => ?_)
        have dps : ∀ l : List (Int × Int × Int), PyData.depthAll (l.map dTrp) ≤ 2 := fun l => by
          induction l with
          | nil => simp [PyData.depthAll]
          | cons a l ih =>
            rw [List.map_cons, PyData.depthAll]
            refine Nat.max_le.mpr ⟨?_, ih⟩
            simp [dTrp, PyData.depth, PyData.depthAll]
        have hdp := tri_dp (K := K) st.tup
        obtain ⟨mt, hmt, emt, hleast⟩ := minD_least (es.map (·.2)) e0.2
        refine ⟨_, rfl, S, dTrp e0.2, (es.map (·.2)).map dTrp, _, rfl, .inl (.inl st.at_), by simpa using hdp, ⟨fun x hx y hy => ?_, fun x hx e => ?_⟩, ?_, fun i x hx hi => ?_⟩
        · have h1 : ∀ z ∈ dTrp e0.2 :: (es.map (·.2)).map dTrp, ∃ t, z = dTrp t := fun z hz => by
            rcases List.mem_cons.mp hz with rfl | hz
            · exact ⟨_, rfl⟩
            · obtain ⟨t, _, rfl⟩ := List.mem_map.mp hz
              exact ⟨t, rfl⟩
          obtain ⟨t1, rfl⟩ := h1 x hx
          obtain ⟨t2, rfl⟩ := h1 y hy
          exact alike_trp _ _
        · rw [e] at hx
          rcases List.mem_cons.mp hx with h | hz
          · cases h
          · obtain ⟨t, _, h⟩ := List.mem_map.mp hz
            cases h
        · have := dps (e0.2 :: es.map (·.2))
          rw [List.map_cons] at this
          omega
        obtain ⟨e, he, rfl⟩ := map_at hx
        have hem := List.mem_of_getElem? he
        have hi' : (((e0 :: es).map (·.2)).map dTrp)[i]? = some (dTrp mt) := by rw [← emt]; exact hi
        rw [List.getElem?_map, List.getElem?_map, he] at hi'
        have e2 : e.2 = mt := trp_inj (Option.some.inj hi')
        subst e2
        obtain ⟨k, N, L, hk, hN, hf, ek, eL, dsf⟩ := (st.mem e.2).mp (List.mem_map.mpr ⟨e, hem, rfl⟩)
        have htup := st.tup e hem
        generalize hfirst : e.2.2.2 = first at hf dsf htup
        rw [ek, eL] at htup
        have hbest : ∀ (j k' : Nat) (N' : List Int) (t : Int), u.ns[k']? = some N' → t ∈ N' → Ds u.ps q0 t j → L < j ∨ (L = j ∧ (k < k' ∨ (k = k' ∧ first ≤ t))) := fun j k' N' t hN' ht hd => by
          have h1 := (st.mem ((j : Int), (k' : Int), t)).mpr ⟨k', N', j, (List.getElem?_eq_some_iff.mp hN').1, hN', ht, rfl, rfl, hd⟩
          have h2 := hleast _ h1
          unfold ltTrp at h2
          simp only [ek, eL, hfirst] at h2
          omega
        have lrg := dsl dsf
        have krg : k < u.ns.length := hk
        refine ⟨e.1, _, rfl, .inl (.inl htup), rfl, _, _, rfl, _, _, rfl, _, _, rfl, rfl, ?_⟩
        refine ⟨_, rfl, .ref tw, u, rfl, hd.up e03, hu, fun A as H4 R => ?_⟩
        have al := R.len
        refine ⟨_, rfl, by show 1 ≤ sizeLine; decide, fun W hW => ?_⟩
        have eW : Ex H4 (upd H4 W (.lst [.int first])) := Ex.nw hW
        have fW : (upd H4 W (.lst [.int first])) W = some (.lst (([first] : List Int).map V.int)) := upd_same
        generalize upd H4 W (.lst [.int first]) = H5 at eW fW
        refine ⟨fun m σ H' => ∃ (y4 y5 y6 : Option V) (l : Nat) (w : List Int), m = l ∧ σ = [some (V.ref tw), some (V.int q0), some (V.ref D), some (V.ref S), some (V.int (k : Int)), y5, y6, some (V.int (l : Int)), some (V.int first), some (V.ref A), some (V.ref W)] ∧ Ex H4 H' ∧ H' W = some (.lst (w.map V.int)) ∧ 1 ≤ l ∧ Grd u.ps q0 first L w l,
          ⟨_, none, _, _, L, [first], rfl, rfl, eW, fW, lrg.1, Grd.zero dsf⟩, ?_⟩
        rintro l σ H6 ⟨y4', y5', y6', l0, wl, rfl, rfl, e6, hW6, hl1, gr⟩
        have e06 := e03.tr (R.ex.tr e6)
        refine ⟨_, rfl, _, _, rfl, rfl, _, rfl, ?_⟩
        refine ite2 (fun h => ?_) (fun h => ?_)
        · have hl2 : (l : Int) > 1 := of_decide_eq_true h
          obtain ⟨l', rfl⟩ : ∃ l', l = l' + 2 := ⟨l - 2, by omega⟩
          obtain ⟨xl, hxl, dxl⟩ := gr.ls
          obtain ⟨y0, hy0, dy0⟩ := dxl.next
          have xrg := ds_rg hu.ps hq0 dxl
          have exl : ((xl.toNat : Nat) : Int) = xl := Int.toNat_of_nonneg xrg.1
          refine ⟨_, fun _ _ h => h, ?_⟩
          refine ⟨_, rfl, _, _, rfl, rfl, ?_⟩
          have hb := List.getElem?_eq_getElem (show xl.toNat < as.length by omega)
          generalize as[xl.toNat] = b at hb
          have hrow : H4 b = some (.lst ((rowOf u.lines ((xl.toNat : Nat) : Int)).map V.int)) := R.row _ _ hb
          rw [exl] at hrow
          have hat : atI (wl.map V.int) (-1) = some (.int xl) := by
            rcases List.eq_nil_or_concat wl with rfl | ⟨w0, z, rfl⟩
            · simp at hxl
            · rw [List.concat_eq_append] at *
              have e3 : z = xl := by simpa using hxl
              subst e3
              rw [List.map_append]
              exact atI_last _ _
          refine ⟨_, rfl, .inl ⟨rfl, _, .inl (.inl hW6)⟩, ?_⟩
          have hA6 := e6 _ _ R.at_
          have hb6 := e6 _ _ hrow
          have rlen : (rowOf u.lines xl).length ≤ 2000 := by
            have h1 := hu.lines_len
            have h2 : (rowOf u.lines xl).length ≤ u.lines.length := by
              unfold rowOf
              rw [List.length_map]
              exact List.length_filter_le _ _
            omega
          have mrow : ∀ z, z ∈ rowOf u.lines xl ↔ (xl, z) ∈ u.ps := fun z => row_ps (fun r hr => (hu.ns r hr).2.1) xrg.2
          generalize rowOf u.lines xl = rw' at hb6 rlen mrow
          have sB : SqL K H6 b (rw'.map V.int) := .inl (.inl hb6)
          refine ⟨_, rfl, _, rfl, _, rfl, W, _, _, _, rfl, rfl, .inl (.inl hW6), hat, A, _, xl, .ref b, rfl, rfl, .inl (.inl hA6), atI_int xrg.1 (by rw [List.getElem?_map, hb]; rfl), b, rfl, ⟨_, sB⟩, fun C hC => ?_⟩
          refine lc_by (rw'.map V.int).length (fun j H' => Ex H6 H' ∧ H' C = some (.lst (((rw'.take j).filter fun t => decide ((t, ((l' + 1 : Nat) : Int)) ∈ ls)).map V.int)))
            ⟨Ex.nw hC, upd_same⟩ (fun j H' hj p => itl_go sB p.1 hj) (fun H' p => itl_stop sB p.1) ?_ ?_
          · rintro j H7 x H8 hj ⟨e7, hC7⟩ y
            obtain ⟨rfl, hx⟩ := itl_yld y sB e7
            obtain ⟨t, ht, rfl⟩ := map_at hx
            have hD8 := (e3.tr (R.ex.tr (e6.tr e7))) _ _ hD
            rw [take_snoc ht, List.filter_append, List.map_append, List.filter_cons, List.filter_nil]
            have hjl : j < rw'.length := by simpa using hj
            have no : ¬ (t, ((l' + 1 : Nat) : Int)) ∈ ls → (Ex H6 H8 ∧ H8 C = some (.lst (((rw'.take j).filter fun t => decide ((t, ((l' + 1 : Nat) : Int)) ∈ ls)).map V.int ++ (if decide ((t, ((l' + 1 : Nat) : Int)) ∈ ls) = true then [t] else []).map V.int))) := fun hn => by
              refine ⟨e7, ?_⟩
              rw [if_neg (fun e => hn (of_decide_eq_true e)), List.map_nil, List.append_nil]
              exact hC7
            by_cases hm : ∃ m, (t, m) ∈ ls
            · obtain ⟨m, hm⟩ := hm
              have hg : DGet H8 D (.int t) (some (.int m)) := by
                have := DGet.k (k := Sum.inl t) hD8
                rw [valV_kvI lend.nd hm] at this
                exact this
              refine ⟨rfl, _, rfl, D, rfl, .inl ⟨_, .inl hD8⟩, _, rfl, _, hg, _, rfl, rfl, _, rfl, ?_⟩
              refine ite2 (fun h => ?_) (fun h => ?_)
              · have em : m = ((l' + 2 : Nat) : Int) - 1 := V.int.inj (of_decide_eq_true h)
                have hm' : (t, ((l' + 1 : Nat) : Int)) ∈ ls := by
                  rw [show ((l' + 1 : Nat) : Int) = m by omega]
                  exact hm
                refine ⟨_, rfl, _, hC7, mil' ?_, e7.wr hC, ?_⟩
                · rw [List.length_map]
                  exact Nat.lt_of_le_of_lt (List.length_filter_le _ _) (by rw [List.length_take]; omega)
                · rw [upd_same, if_pos (decide_eq_true hm')]
                  rfl
              · refine no fun hm' => h (decide_eq_true ?_)
                obtain ⟨j1, e1', d1⟩ := (lend.ls _ _).mp hm
                obtain ⟨j2, e2', d2⟩ := (lend.ls _ _).mp hm'
                have := d1.uniq d2
                have e5 : m = ((l' + 2 : Nat) : Int) - 1 := by omega
                exact congrArg V.int e5
            · have hg : DGet H8 D (.int t) none := by
                have := DGet.k (k := Sum.inl t) hD8
                rw [valV_non fun m h => hm ⟨m, h⟩] at this
                exact this
              refine ⟨rfl, _, rfl, D, rfl, .inl ⟨_, .inl hD8⟩, _, rfl, _, hg, _, rfl, rfl, _, rfl, ?_⟩
              refine ite2 (fun h => ?_) (fun _ => no fun hm' => hm ⟨_, hm'⟩)
              exact nomatch (of_decide_eq_true h)
          · rintro H7 ⟨e7, hC7⟩
            rw [List.length_map, List.take_length] at hC7
            have mns : ∀ z, z ∈ rw'.filter (fun t => decide ((t, ((l' + 1 : Nat) : Int)) ∈ ls)) ↔ (xl, z) ∈ u.ps ∧ Ds u.ps q0 z (l' + 1) := fun z => by
              rw [List.mem_filter, mrow, decide_eq_true_iff, lend.ls]
              constructor
              · rintro ⟨h1, j, h2, h3⟩
                have : j = l' + 1 := by omega
                subst this
                exact ⟨h1, h3⟩
              · rintro ⟨h1, h2⟩
                exact ⟨h1, _, rfl, h2⟩
            generalize rw'.filter (fun t => decide ((t, ((l' + 1 : Nat) : Int)) ∈ ls)) = ns at hC7 mns
            refine ⟨C, ns, rfl, .inl (.inl hC7), List.length_pos_of_mem ((mns y0).mpr ⟨hy0, dy0⟩), fun y hy hmin => ?_⟩
            have hW7 := e7 _ _ hW6
            have gr' := gr.step (Nat.succ_pos l') hxl ((mns y).mp hy).1 ((mns y).mp hy).2 fun z h1 h2 => hmin z ((mns z).mpr ⟨h1, h2⟩)
            refine ⟨W, _, _, rfl, rfl, hW7, mil' ?_, ?_⟩
            · rw [List.length_map]
              have := gr.ln
              omega
            · refine ⟨l' + 1, by omega, none, y5', y6', l' + 1, wl ++ [y], rfl, ?_, (e6.tr e7).wr hW, ?_, Nat.succ_pos l', gr'⟩
              · have e5 : ((l' + 2 : Nat) : Int) - 1 = ((l' + 1 : Nat) : Int) := by omega
                show [some (V.ref tw), some (V.int q0), some (V.ref D), some (V.ref S), some (V.int (k : Int)), y5', y6', some (V.int (((l' + 2 : Nat) : Int) - 1)), some (V.int first), some (V.ref A), some (V.ref W)] = _
                rw [e5]
              · rw [upd_same, List.map_append]
                rfl
        · have e1 : l = 1 := by
            have : ¬ (l : Int) > 1 := fun e => h (decide_eq_true e)
            omega
          subst e1
          refine ⟨_, rfl, _, rfl, by show 2 ≤ sizeLine; decide, fun T hT => ?_⟩
          have TW : T ≠ W := fun e => by
            rw [e, hW6] at hT
            cases hT
          have wlen : wl.length = L := by have := gr.ln; omega
          refine q (some (k, wl)) (.ref T) _ (e06.tr (Ex.nw hT)) (best_of hN hf gr hbest) (fun k' p' h => ?_) ⟨T, W, rfl, (e06.fr hT), (e03.tr R.ex).fr hW, TW, upd_same, by rw [upd_ne TW.symm]; exact hW6⟩
          cases h
          exact ⟨by omega, by omega⟩
end

end K65
namespace K65
open PySem PySem.Spec PyProof.Rows L2 Nw
/-! _law_own_right: slots 0 _law_web_here, 1 _law_own, 2 _law_one, 3 _law_first, 4 _law_found, 5 _law_room -/
abbrev s_own_right : Stmt := topS 54
abbrev N_own_right : List Str := ["_law_web_here", "_law_own", "_law_one", "_law_first", "_law_found", "_law_room"]
abbrev P_own_right : List Str := ["_law_web_here"]
theorem sc_own_right : FnScope N_own_right P_own_right (defScope s_own_right) := ⟨rfl, rfl, rfl, by decide +kernel, rfl, by decide +kernel, by decide +kernel⟩
theorem mem_pushed {n : Int} : ∀ {L : List (List Int)} {i : Nat} {s t : Int}, (s, t) ∈ pushedFrom n i L ↔ ∃ (k : Nat) (r : List Int), L[k]? = some r ∧ s = n + ((i + k : Nat) : Int) ∧ t ∈ r
  | [], i, s, t => ⟨fun h => (by cases h), fun ⟨k, r, h, _⟩ => (by simp at h)⟩
  | a :: L, i, s, t => by
    have ih := mem_pushed (n := n) (L := L) (i := i + 1) (s := s) (t := t)
    simp only [pushedFrom, List.mem_append]
    rw [ih]
    constructor
    · rintro (h | ⟨k, r, h1, h2, h3⟩)
      · obtain ⟨x, hx, e⟩ := List.mem_map.mp h
        obtain ⟨e1, e2⟩ := Prod.mk.inj e
        exact ⟨0, a, rfl, by rw [← e1]; rfl, by rw [← e2]; exact hx⟩
      · exact ⟨k + 1, r, by simpa using h1, by rw [h2]; congr 2; omega, h3⟩
    · rintro ⟨k, r, h1, h2, h3⟩
      cases k with
      | zero =>
        obtain rfl := Option.some.inj h1
        exact .inl (List.mem_map.mpr ⟨t, h3, by rw [h2]; rfl⟩)
      | succ k => exact .inr ⟨k, r, by simpa using h1, by rw [h2]; congr 2; omega, h3⟩
theorem act_lines {u : Wb} {s q : Int} (hq : 0 ≤ q ∧ q < u.n) : Act (rowsU u) s q ↔ (s, q) ∈ u.lines := by
  have el : ((q.toNat : Nat) : Int) = q := Int.toNat_of_nonneg hq.1
  have h := rowsU_at (u := u) (i := q.toNat) (by omega)
  rw [el] at h
  constructor
  · rintro ⟨_, r, h1, h2⟩
    rw [h] at h1
    obtain rfl := Option.some.inj h1
    exact mem_srcsOf.mp h2
  · intro hm
    exact ⟨hq.1, _, h, mem_srcsOf.mpr hm⟩
/-- the web without nudges -/
def bare (u : Wb) : Wb := ⟨u.n, u.ps, []⟩
theorem bare_ok {u : Wb} (hu : u.Ok) : (bare u).Ok := ⟨hu.lo, hu.hi, hu.ps, hu.asc, by show 0 ≤ 8; decide, fun r hr => nomatch hr⟩
theorem bare_lines {u : Wb} (h : u.ns = []) : u.lines = u.ps := by
  unfold Wb.lines
  rw [h]
  exact List.append_nil _
/-- without nudges a pairing turned is a pairing of the web turned -/
theorem mt_turn {u w : Wb} (hu : u.Ok) (h0 : u.ns = []) (t : Trn u w) {ms : List (Int × Int)} (m : Mt (rowsU u) u.n ms) : Mt (rowsU w) w.n (ms.map fun p => (p.2, p.1)) := by
  rw [t.n]
  refine mt_swap m fun p hp => ?_
  have l2 := m.lo hp
  have r2 := m.rg p hp
  have a := (act_lines ⟨l2, r2⟩).1 (m.ed p hp)
  rw [bare_lines h0] at a
  have b := hu.ps _ a
  refine ⟨b.1.2, (act_lines (u := w) (by rw [t.n]; exact b.1)).2 ?_⟩
  rw [bare_lines (u := w) (by rw [t.ns, h0])]
  exact (t.ps _).2 a
theorem trn_back {u w : Wb} (t : Trn u w) : Trn w u := ⟨t.n.symm, fun p => (t.ps (p.2, p.1)).symm, t.ns.symm⟩
theorem size_turn {u w : Wb} (hu : u.Ok) (hw : w.Ok) (h0 : u.ns = []) (t : Trn u w) {ms ms' : List (Int × Int)} (a : Top (rowsU u) u.n ms) (b : Top (rowsU w) w.n ms') : ms.length = ms'.length := by
  have c := b.le (mt_turn hu h0 t a.mt)
  have d := a.le (mt_turn hw (by rw [t.ns, h0]) (trn_back t) b.mt)
  rw [List.length_map] at c d
  omega
open Classical in
theorem rdL_bare {u : Wb} (h : u.ns = []) : rdL u false = iota u.n := by
  unfold rdL
  refine List.filter_eq_self.mpr fun x _ => ?_
  have no : ¬ Rd u x := by
    rintro ⟨q, hq, _⟩
    rw [h] at hq
    cases hq
  rw [decide_eq_false no]
  rfl
/-- all are pushed: all is reached -/
theorem rd_all {u : Wb} (h : ∀ x, 0 ≤ x ∧ x < u.n → x ∈ u.ns.flatten) {x : Int} (hx : 0 ≤ x ∧ x < u.n) : Rd u x := ⟨x, h x hx, .here x⟩
open Classical in
theorem rdL_all {u : Wb} (h : ∀ x, 0 ≤ x ∧ x < u.n → x ∈ u.ns.flatten) : rdL u true = iota u.n ∧ rdL u false = [] := by
  unfold rdL
  refine ⟨List.filter_eq_self.mpr fun x hx => ?_, List.filter_eq_nil_iff.mpr fun x hx => ?_⟩
  · rw [decide_eq_true (rd_all h (mem_iota.mp hx))]
    rfl
  · rw [decide_eq_true (rd_all h (mem_iota.mp hx))]
    decide
theorem cut_none {u : Wb} (h : ∀ x, 0 ≤ x ∧ x < u.n → Rd u x) : cutOf u = [] := by
  unfold cutOf
  refine List.filter_eq_nil_iff.mpr fun r hr => ?_
  obtain ⟨_, h1, a, ha, rfl⟩ := first_mem hr
  rw [cutB_iff]
  exact not_not_intro (h _ (mem_room.mp h1).1)
/-- how many of n a list of some leaves out -/
theorem left_len {l : List Int} {n : Int} (nd : l.Nodup) (h : ∀ q ∈ l, 0 ≤ q ∧ q < n) : ((iota n).filter fun q => !l.contains q).length + l.length = n.toNat := by
  have e1 : ((iota n).filter fun q => l.contains q).length = l.length := by
    refine List.Perm.length_eq ((List.perm_ext_iff_of_nodup ((nodup_ascI (asc_iota n)).filter _) nd).mpr fun q => ?_)
    rw [List.mem_filter, mem_iota, List.contains_iff_mem]
    exact ⟨fun z => z.2, fun z => ⟨h q z, z⟩⟩
  have e2 : ∀ xs : List Int, xs.length = (xs.filter fun q => l.contains q).length + (xs.filter fun q => !l.contains q).length := by
    intro xs
    induction xs with
    | nil => rfl
    | cons x xs ih =>
      rw [List.filter_cons, List.filter_cons]
      cases hx : l.contains x with
      | true =>
        simp only [if_true, Bool.not_true, Bool.false_eq_true, if_false, List.length_cons]
        omega
      | false =>
        simp only [if_true, Bool.not_false, Bool.false_eq_true, if_false, List.length_cons]
        omega
  have e2 := e2 (iota n)
  have e3 : (iota n).length = n.toNat := by
    rw [iota, List.length_map, List.length_range]
  omega
/-- single nudges where all is reached: one for each that no line takes -/
theorem few_all {u : Wb} (hu : u.Ok) (h : ∀ x, 0 ≤ x ∧ x < u.n → Rd u x) {S : List Int} (f : FewS u S) {ms : List (Int × Int)} (t : Top (rowsU u) u.n ms) : (S.length : Int) = u.n - (ms.length : Int) := by
  obtain ⟨ps, tp, _, pm, _⟩ := f
  have e0 := cut_none h
  have em : Wb.more u (cutOf u) = u := by
    rw [e0]
    show (⟨u.n, u.ps, u.ns ++ []⟩ : Wb) = u
    rw [List.append_nil]
  rw [em] at tp
  have e1 : missS u ps = [] := by
    unfold missS
    rw [e0]
    rfl
  have hold : oldT u ps = ps.map (·.2) := by
    unfold oldT
    rw [List.filter_eq_self.mpr fun p hp => ?_]
    have l2 := tp.mt.lo hp
    have a := (act_lines ⟨l2, tp.mt.rg p hp⟩).1 (tp.mt.ed p hp)
    refine decide_eq_true ?_
    rcases List.mem_append.mp a with a | a
    · have := (hu.ps _ a).1
      omega
    · obtain ⟨k, r, h1, h2, h3⟩ := mem_pushed.mp a
      have := (List.getElem?_eq_some_iff.mp h1).1
      omega
  rw [pm.length_eq, e1, List.append_nil]
  unfold foundS
  rw [hold]
  have c := left_len tp.mt.vn (n := u.n) fun q hq => by
    obtain ⟨p, hp, rfl⟩ := List.mem_map.mp hq
    exact ⟨tp.mt.lo hp, tp.mt.rg p hp⟩
  rw [List.length_map, tp.eq t] at c
  have := hu.lo
  omega
/-- where a nudge holds x, the shortest way to x is x alone, by the first such nudge -/
theorem way_first {u : Wb} {x : Int} {o : Option (Nat × List Int)} (b : BsO u x (fun _ => True) o) (h : ∃ (k : Nat) (r : List Int), u.ns[k]? = some r ∧ x ∈ r) :
    ∃ (k : Nat) (r : List Int), o = some (k, [x]) ∧ u.ns[k]? = some r ∧ x ∈ r ∧ ∀ (j : Nat) (r' : List Int), j < k → u.ns[j]? = some r' → x ∉ r' := by
  obtain ⟨k0, r0, g1, g2⟩ := h
  have one : ∀ r : List Int, x ∈ r → Way u.ps r [x] x := fun r hr => ⟨trivial, ⟨x, rfl, hr⟩, rfl⟩
  cases o with
  | none => exact absurd (one r0 g2) (b k0 r0 [x] trivial g1)
  | some z =>
    obtain ⟨k, p⟩ := z
    obtain ⟨N, n1, n2⟩ := b.wy
    have l1 : p.length = 1 := by
      have hp : 0 < p.length := by
        cases p with
        | nil => exact absurd n2.1 id
        | cons a p => exact Nat.succ_pos _
      have := b.le k0 r0 [x] trivial g1 (one r0 g2)
      have e : ([x] : List Int).length = 1 := rfl
      omega
    obtain ⟨y, rfl⟩ : ∃ y, p = [y] := by
      match p, l1 with
      | [y], _ => exact ⟨y, rfl⟩
    obtain ⟨_, ⟨y', e1, e2⟩, e3⟩ := n2
    cases e1
    cases e3
    refine ⟨k, N, rfl, n1, e2, fun j r' hj hr' hx => ?_⟩
    have := b.le j r' [y] trivial hr' (one r' hx)
    have e : ([y] : List Int).length = 1 := rfl
    omega
/-! own webs: no nudges, each quantity acts on itself -/
structure OwnW (u o : Wb) : Prop where
  n : o.n = u.n
  ns : o.ns = []
  ps : ∀ p, p ∈ o.ps ↔ p ∈ u.ps ∨ ((0 ≤ p.1 ∧ p.1 < u.n) ∧ p.1 = p.2)
/-- each with itself -/
def diag (n : Int) : List (Int × Int) := (iota n).map fun q => (q, q)
theorem diag_mt {o : Wb} (h : ∀ q, 0 ≤ q ∧ q < o.n → (q, q) ∈ o.lines) : Mt (rowsU o) o.n (diag o.n) := by
  have e1 : (diag o.n).map (·.1) = iota o.n := by
    unfold diag
    rw [List.map_map]
    exact List.map_id _
  have e2 : (diag o.n).map (·.2) = iota o.n := by
    unfold diag
    rw [List.map_map]
    exact List.map_id _
  refine ⟨by rw [e1]; exact nodup_iota _, by rw [e2]; exact nodup_iota _, fun p hp => ?_, fun p hp => ?_⟩
  · obtain ⟨q, hq, rfl⟩ := List.mem_map.mp hp
    exact (mem_iota.mp hq).2
  · obtain ⟨q, hq, rfl⟩ := List.mem_map.mp hp
    have hq := mem_iota.mp hq
    exact (act_lines hq).2 (h q hq)
theorem full_size {o : Wb} (h0 : 0 ≤ o.n) (h : ∀ q, 0 ≤ q ∧ q < o.n → (q, q) ∈ o.lines) {ms : List (Int × Int)} (t : Top (rowsU o) o.n ms) : (ms.length : Int) = o.n := by
  have a := t.le (diag_mt h)
  have b := mt_le h0 t.mt
  have e : (diag o.n).length = o.n.toNat := by
    unfold diag
    rw [List.length_map, iota, List.length_map, List.length_range]
  omega
/-- a pairing of all leaves none out -/
theorem full_none {rows : List (List Int)} {n : Int} {ms : List (Int × Int)} (m : Mt rows n ms) (hl : (ms.length : Int) = n) {q : Int} (hq : 0 ≤ q ∧ q < n) : ∃ p ∈ ms, p.2 = q := by
  refine Classical.byContradiction fun no => ?_
  have c := left_len m.vn (n := n) fun q hq => by
    obtain ⟨p, hp, rfl⟩ := List.mem_map.mp hq
    exact ⟨m.lo hp, m.rg p hp⟩
  rw [List.length_map] at c
  have hm : q ∈ (iota n).filter fun q => !(ms.map (·.2)).contains q := by
    refine List.mem_filter.mpr ⟨mem_iota.mpr hq, ?_⟩
    rw [Bool.not_eq_true', ← Bool.not_eq_true, List.contains_iff_mem]
    rintro hx
    obtain ⟨p, hp, e⟩ := List.mem_map.mp hx
    exact no ⟨p, hp, e⟩
  have := List.length_pos_of_mem hm
  omega
/-- what is lacking in a web whose quantities act on themselves: nothing -/
theorem loose_own {o : Wb} (h0 : 0 ≤ o.n) (h : ∀ q, 0 ≤ q ∧ q < o.n → (q, q) ∈ o.lines) {R : List Int} (l : LooseL (rowsU o) o.n R) : R = [] := by
  obtain ⟨ms, F, mt, fd, cl, un, hF⟩ := l.ex
  have top : Top (rowsU o) o.n ms := ⟨mt, fun q => q ∈ R, cl, un⟩
  have hl := full_size h0 h top
  refine List.eq_nil_iff_forall_not_mem.mpr fun q hq => ?_
  have hq := (hF q).2 hq
  have hpos := List.length_pos_of_mem hq
  have h1 : F[0]? = some F[0] := List.getElem?_eq_getElem hpos
  rcases fd.from_ 0 _ h1 with z | ⟨_, i, _, hi, _⟩
  · obtain ⟨p, hp, e⟩ := full_none mt hl ⟨z.1, z.2.1⟩
    exact z.2.2 p hp e
  · exact absurd hi (Nat.not_lt_zero _)
/-- lots without common members, each of which holds one of S: S has as many -/
theorem lots_len : ∀ {C : List (List Int)} {S : List Int}, (C.Pairwise fun r r' => ∀ x ∈ r, x ∉ r') → (∀ x ∈ S, ∃ r ∈ C, x ∈ r) → (∀ r ∈ C, (S.filter fun x => r.contains x).length = 1) → S.length = C.length
  | [], S, _, h, _ => by
    cases S with
    | nil => rfl
    | cons x S =>
      obtain ⟨r, hr, _⟩ := h x List.mem_cons_self
      cases hr
  | r :: C, S, hd, h, h1 => by
    obtain ⟨d1, d2⟩ := List.pairwise_cons.mp hd
    have part : ∀ xs : List Int, xs.length = (xs.filter fun x => r.contains x).length + (xs.filter fun x => !r.contains x).length := by
      intro xs
      induction xs with
      | nil => rfl
      | cons x xs ih =>
        rw [List.filter_cons, List.filter_cons]
        cases hx : r.contains x with
        | true =>
          simp only [if_true, Bool.not_true, Bool.false_eq_true, if_false, List.length_cons]
          omega
        | false =>
          simp only [if_true, Bool.not_false, Bool.false_eq_true, if_false, List.length_cons]
          omega
    have e := part S
    have e1 := h1 r List.mem_cons_self
    have ih := lots_len (C := C) (S := S.filter fun x => !r.contains x) d2 (fun x hx => by
      obtain ⟨hx1, hx2⟩ := List.mem_filter.mp hx
      obtain ⟨r', hr', hxr⟩ := h x hx1
      rcases List.mem_cons.mp hr' with rfl | hr'
      · rw [Bool.not_eq_true', ← Bool.not_eq_true, List.contains_iff_mem] at hx2
        exact absurd hxr hx2
      · exact ⟨r', hr', hxr⟩) fun r' hr' => by
      rw [List.filter_filter]
      have e3 : (S.filter fun x => r'.contains x && !r.contains x) = S.filter fun x => r'.contains x := by
        refine List.filter_congr fun x _ => ?_
        cases hx : r'.contains x with
        | false => rfl
        | true =>
          rw [List.contains_iff_mem] at hx
          have : r.contains x = false := by
            rw [← Bool.not_eq_true, List.contains_iff_mem]
            exact fun z => d1 r' hr' x z hx
          rw [this]
          rfl
      rw [e3]
      exact h1 r' (List.mem_cons_of_mem _ hr')
    rw [List.length_cons]
    omega
/-- rooms have no quantity in common -/
theorem rooms_apart {ps : List (Int × Int)} {n : Int} : (roomsOf ps n).Pairwise fun r r' => ∀ x ∈ r, x ∉ r' := by
  unfold roomsOf roomsTo
  rw [List.pairwise_map]
  refine List.Pairwise.imp_of_mem (fun {a b} ha hb hlt x hx hy => ?_) (((pwI_asc (asc_iota n)).sublist (List.take_sublist _ _)).filter _)
  have ia : (roomOf ps n a).head? = some a := of_decide_eq_true (List.mem_filter.mp ha).2
  have ib : (roomOf ps n b).head? = some b := of_decide_eq_true (List.mem_filter.mp hb).2
  have hx := mem_room.mp hx
  have hy := mem_room.mp hy
  have er : roomOf ps n a = roomOf ps n b := by
    unfold roomOf
    refine List.filter_congr fun c _ => ?_
    rw [decide_eq_decide]
    exact ⟨fun g => (hy.2.trans hx.2.symm).trans g, fun g => (hx.2.trans hy.2.symm).trans g⟩
  rw [er, ib] at ia
  have := ltIn_yes hlt
  have := Option.some.inj ia
  omega
theorem firsts_apart {ps : List (Int × Int)} {n : Int} : (firstOf ps n).Pairwise fun r r' => ∀ x ∈ r, x ∉ r' := rooms_apart.filter _
/-- nothing is pushed: every first room is cut off -/
theorem cut_all {o : Wb} (h : o.ns = []) : cutOf o = firstOf o.ps o.n := by
  unfold cutOf
  refine List.filter_eq_self.mpr fun r _ => ?_
  rw [cutB_iff]
  rintro ⟨q, hq, _⟩
  rw [h] at hq
  cases hq
theorem le_one {α : Type} : ∀ {l : List α}, l.Nodup → (∀ x ∈ l, ∀ y ∈ l, x = y) → l.length ≤ 1
  | [], _, _ => Nat.zero_le _
  | [_], _, _ => Nat.le_refl _
  | x :: y :: l, nd, h => by
    have e := h x List.mem_cons_self y (List.mem_cons_of_mem _ List.mem_cons_self)
    exact absurd (by rw [e]; exact List.mem_cons_self) (List.nodup_cons.mp nd).1
/-- single nudges of a web whose quantities act on themselves, with no nudge: one in each first room -/
theorem few_own {o : Wb} (ho : o.Ok) (h0 : o.ns = []) (h : ∀ q, 0 ≤ q ∧ q < o.n → (q, q) ∈ o.ps) {S : List Int} (f : FewS o S) :
    S.length = (firstOf o.ps o.n).length ∧ ∀ r ∈ firstOf o.ps o.n, (S.filter fun x => r.contains x).length = 1 := by
  obtain ⟨ps, tp, _, pm, _⟩ := f
  have hlo := ho.lo
  have ec := cut_all h0
  have hl : (ps.length : Int) = o.n := full_size (o := Wb.more o (cutOf o)) (by show 0 ≤ o.n; omega) (fun q hq => List.mem_append_left _ (h q hq)) tp
  -- what a new source is paired with lies in its room
  have new : ∀ q ∈ foundS o ps, ∃ (k : Nat) (r : List Int), (firstOf o.ps o.n)[k]? = some r ∧ q ∈ r ∧ (o.n + (k : Int), q) ∈ ps := fun q hq => by
    obtain ⟨h1, h2⟩ := List.mem_filter.mp hq
    obtain ⟨p, hp, rfl⟩ := full_none tp.mt hl (mem_iota.mp h1)
    have a := (act_lines (u := Wb.more o (cutOf o)) ⟨tp.mt.lo hp, tp.mt.rg p hp⟩).1 (tp.mt.ed p hp)
    have hn : ¬ p.1 < o.n := fun lt => by
      rw [Bool.not_eq_true', ← Bool.not_eq_true, List.contains_iff_mem] at h2
      refine h2 (List.mem_map.mpr ⟨p, List.mem_filter.mpr ⟨hp, decide_eq_true ?_⟩, rfl⟩)
      rw [h0]
      show p.1 < o.n + 0
      omega
    rcases List.mem_append.mp a with a | a
    · exact absurd (ho.ps _ a).1.2 hn
    · obtain ⟨k, r, h1, h2, h3⟩ := mem_pushed.mp a
      have h1' : (o.ns ++ cutOf o)[k]? = some r := h1
      rw [h0, List.nil_append, ec] at h1'
      refine ⟨k, r, h1', h3, ?_⟩
      have e : o.n + (k : Int) = p.1 := by
        have h2' : p.1 = o.n + ((0 + k : Nat) : Int) := h2
        rw [h2']
        congr 2
        omega
      rw [e]
      exact hp
  have apart := firsts_apart (ps := o.ps) (n := o.n)
  have same : ∀ (k k' : Nat) (r r' : List Int) (x : Int), (firstOf o.ps o.n)[k]? = some r → (firstOf o.ps o.n)[k']? = some r' → x ∈ r → x ∈ r' → k = k' ∧ r = r' := fun k k' r r' x a b hx hy => by
    obtain ⟨ka, ea⟩ := List.getElem?_eq_some_iff.mp a
    obtain ⟨kb, eb⟩ := List.getElem?_eq_some_iff.mp b
    have pw := List.pairwise_iff_getElem.mp apart
    rcases Nat.lt_trichotomy k k' with c | c | c
    · exact absurd hy (by rw [← eb]; exact pw k k' ka kb c x (by rw [ea]; exact hx))
    · subst c
      rw [a] at b
      exact ⟨rfl, Option.some.inj b⟩
    · exact absurd hx (by rw [← ea]; exact pw k' k kb ka c x (by rw [eb]; exact hy))
  have cnd : (firstOf o.ps o.n).Nodup := apart.imp_of_mem fun {r r'} hr _ hd e => hd _ (first_mem hr).2.1 (e ▸ (first_mem hr).2.1)
  have count : ∀ r ∈ firstOf o.ps o.n, (S.filter fun x => r.contains x).length = 1 := fun r hr => by
    obtain ⟨k, hk⟩ := List.mem_iff_getElem?.mp hr
    rw [(pm.filter _).length_eq, List.filter_append, List.length_append]
    have a1 : ((foundS o ps).filter fun x => r.contains x).length ≤ 1 := by
      refine le_one (((nodup_iota o.n).filter _).filter _) fun x hx y hy => ?_
      obtain ⟨x1, x2⟩ := List.mem_filter.mp hx
      obtain ⟨y1, y2⟩ := List.mem_filter.mp hy
      rw [List.contains_iff_mem] at x2 y2
      obtain ⟨k1, r1, c1, c2, c3⟩ := new x x1
      obtain ⟨k2, r2, d1, d2, d3⟩ := new y y1
      obtain ⟨e1, _⟩ := same k k1 r r1 x hk c1 x2 c2
      obtain ⟨e2, _⟩ := same k k2 r r2 y hk d1 y2 d2
      rw [← e1] at c3
      rw [← e2] at d3
      exact congrArg Prod.snd (fst_eq tp.mt.kn c3 d3 rfl)
    have a2 : missF o ps r = true ↔ ((foundS o ps).filter fun x => r.contains x) = [] := by
      unfold missF
      rw [Bool.not_eq_true', ← Bool.not_eq_true, List.any_eq_true, List.filter_eq_nil_iff]
      constructor
      · intro no x hx hc
        exact no ⟨x, List.contains_iff_mem.mp hc, List.contains_iff_mem.mpr hx⟩
      · rintro no ⟨x, hx, hc⟩
        exact no x (List.contains_iff_mem.mp hc) (List.contains_iff_mem.mpr hx)
    have b0 : ((missS o ps).filter fun x => r.contains x).length = (((firstOf o.ps o.n).filter (missF o ps)).filter fun r' => r.contains (r'.headD 0)).length := by
      unfold missS
      rw [ec, List.filter_map, List.length_map]
      rfl
    rw [b0]
    have bm : ∀ r' ∈ ((firstOf o.ps o.n).filter (missF o ps)).filter fun r' => r.contains (r'.headD 0), r' = r ∧ missF o ps r = true := fun r' hr' => by
      obtain ⟨h1, h2⟩ := List.mem_filter.mp hr'
      obtain ⟨h3, h4⟩ := List.mem_filter.mp h1
      obtain ⟨k', hk'⟩ := List.mem_iff_getElem?.mp h3
      obtain ⟨_, e⟩ := same k' k r' r _ hk' hk (first_mem h3).2.1 (List.contains_iff_mem.mp h2)
      subst e
      exact ⟨rfl, h4⟩
    have b1 : (((firstOf o.ps o.n).filter (missF o ps)).filter fun r' => r.contains (r'.headD 0)).length ≤ 1 := le_one ((cnd.filter _).filter _) fun x hx y hy => (bm x hx).1.trans (bm y hy).1.symm
    cases hm : missF o ps r with
    | true =>
      rw [a2.1 hm]
      have hin : r ∈ ((firstOf o.ps o.n).filter (missF o ps)).filter fun r' => r.contains (r'.headD 0) := List.mem_filter.mpr ⟨List.mem_filter.mpr ⟨hr, hm⟩, List.contains_iff_mem.mpr (first_mem hr).2.1⟩
      have := List.length_pos_of_mem hin
      rw [List.length_nil]
      omega
    | false =>
      have e : ((firstOf o.ps o.n).filter (missF o ps)).filter (fun r' => r.contains (r'.headD 0)) = [] := List.eq_nil_iff_forall_not_mem.mpr fun x hx => by
        have := (bm x hx).2
        rw [hm] at this
        cases this
      have hne : ((foundS o ps).filter fun x => r.contains x) ≠ [] := fun z => by
        rw [a2.2 z] at hm
        cases hm
      have := List.length_pos_iff.mpr hne
      rw [e, List.length_nil]
      omega
  refine ⟨lots_len apart (fun x hx => ?_) count, count⟩
  rcases List.mem_append.mp (pm.mem_iff.mp hx) with hx | hx
  · obtain ⟨k, r, h1, h2, _⟩ := new x hx
    exact ⟨r, List.mem_of_getElem? h1, h2⟩
  · obtain ⟨r, hr, rfl⟩ := List.mem_map.mp hx
    have hr := (List.mem_filter.mp hr).1
    rw [ec] at hr
    exact ⟨r, hr, (first_mem hr).2.1⟩
theorem paired_da {K : PySem.W.Frag} {H : Hp} : ∀ {is : List Nat} {ys : List V}, Paired (fun (i : Nat) y => ∃ t, y = V.ref t ∧ H t = some (.tup [.int (i : Int), .int (i : Int)])) is ys → DaAll K H ((is.map fun i : Nat => ((i : Int), (i : Int))).map dPair) ys
  | _, _, .nil => rfl
  | _, _, .cons ⟨t, e, ht⟩ r => ⟨_, _, rfl, by rw [e]; exact dPair_of ht, paired_da r⟩
def sp_own_right (K : PySem.W.Frag) : Sp := fun vs H Q _ => ∃ (v : V) (u : Wb), vs = [v] ∧ Da K H (Wb.d u) v ∧ u.Ok ∧ ∀ H', Ex H H' → Q (.bl true) H'
section
variable {P : Program} {w : World} {K : PySem.W.Frag} {mg : Str → Option Value} {base : Heap}
theorem ok_own_right {f : Addr} {fd : FuncData} (T : Txt K mg) (F : Fun K "_law_own_right" "_law_own_right" s_own_right f fd)
    (D_rooms : DefOk P w K mg base CX0 8 "rooms" P_rooms (sp_rooms K))
    (D_first_rooms : DefOk P w K mg base CX0 8 "first_rooms" P_first_rooms (sp_first_rooms K))
    (D_pairing_size : DefOk P w K mg base CX0 68 "pairing_size" P_pairing_size (sp_pairing_size K))
    (D_loose : DefOk P w K mg base CX0 68 "loose" P_loose (sp_loose K))
    (D_fewest_single : DefOk P w K mg base CX0 69 "fewest_single" P_fewest_single (sp_fewest_single K))
    (D_single_nudges : DefOk P w K mg base CX0 68 "single_nudges" P_single_nudges (sp_single_nudges K)) :
    FnG P w K mg base CX0 70 f fd P_own_right (sp_own_right K) := by
  refine okG0 F sc_own_right (fun vs H Q E h => ?_) (fun cdv A outer s H vs Q E hr hq h => ?_)
  · obtain ⟨v, u, rfl, _⟩ := h
    rfl
  · obtain ⟨v, u, rfl, hd, hu, q⟩ := h
    obtain ⟨t, x2, x3, rfl, hT, ⟨a2, ys, rfl, hL2, hA2, hz2⟩, g3⟩ := Wb.at hd
    have hlo := hu.lo
    have hhi := hu.hi
    have hl2 := hA2.len
    rw [List.length_map] at hl2
    refine ⟨_, (pss_cons (ps_set (i := 1) sc_own_right.nd rfl (by first | exact .inl rfl | exact .inr rfl) (pe_tup (pa_cons (pe_ix (ix_tupK K) (pv 0) pe_int (fun _ _ => rfl)) (pa_cons (pe_callB (cr_sortedWK K P w rfl) (by rfl) T.b_sorted bt_sorted (pa_cons (pe_callTy (cr_setWK K P w rfl hr.units) (by rfl) T.b_set bt_set (pa_cons (pe_op (op_catS K) (pe_ix (ix_tupK K) (pv 0) pe_int (fun _ _ => rfl)) (pe_lc (own := [("_law_one", 2)]) rfl sc_own_right.nd (pi_range1 (by rfl) T.b_range (pa_cons (pe_ix (ix_tupK K) (pv 0) pe_int (fun _ _ => rfl)) pa_nil)) (blkOk_by (N := N_own_right) (sc := defScope s_own_right) (by decide +kernel)) (fun _ _ _ _ _ => (pg_name (i := 2) sc_own_right.nd rfl (by first | exact .inl rfl | exact .inr rfl))) (fun _ _ _ _ _ => pts_nil) (fun _ _ _ _ _ => (pe_tup (pa_cons (pv 2) (pa_cons (pv 2) pa_nil)))))) pa_nil)) pa_nil)) (pa_cons (pe_lst pa_nil) pa_nil)))))
      (pss_cons (ps_if (PW.pt (pw_or (pt_cmpR (op_neDk K hr.units) (pe_callD D_loose (hr.mono (by decide)) hq pass0 (pa_cons (pv 1) pa_nil)) (pe_lst pa_nil) (nomark _)) (pw_or (pt_cmpR op_ne (pe_callD D_pairing_size (hr.mono (by decide)) hq pass0 (pa_cons (pv 1) pa_nil)) (pe_ix (ix_tupK K) (pv 0) pe_int (fun _ _ => rfl)) (nomark _)) (pw_or1 (pt_cmpR (op_neDk K hr.units) (pe_callD D_rooms (hr.mono (by decide)) hq pass0 (pa_cons (pv 1) pa_nil)) (pe_callD D_rooms (hr.mono (by decide)) hq pass0 (pa_cons (pv 0) pa_nil)) (nomark _)))))) (pss_one (ps_ret pe_bl)) pss_nil)
      (pss_cons (ps_asg (pe_tup (pa_cons (pe_callD D_first_rooms (hr.mono (by decide)) hq pass0 (pa_cons (pv 1) pa_nil)) (pa_cons (pe_callD D_single_nudges (hr.mono (by decide)) hq pass0 (pa_cons (pv 1) pa_nil)) pa_nil))) (pg_tupK (n := 2) K rfl (pgs_cons (pg_name (i := 3) sc_own_right.nd rfl (by first | exact .inl rfl | exact .inr rfl)) (pgs_cons (pg_name (i := 4) sc_own_right.nd rfl (by first | exact .inl rfl | exact .inr rfl)) pgs_nil))))
      (pss_cons (ps_if (PW.pt (pw_or (pt_cmpR op_ne (pe_callD D_fewest_single (hr.mono (by decide)) hq pass0 (pa_cons (pv 1) pa_nil)) (pe_callB (call_lenK K) (by rfl) T.b_len bt_len (pa_cons (pv 3) pa_nil)) (nomark _)) (pw_or1 (pt_cmpR op_ne (pe_callB (call_lenK K) (by rfl) T.b_len bt_len (pa_cons (pv 4) pa_nil)) (pe_callB (call_lenK K) (by rfl) T.b_len bt_len (pa_cons (pv 3) pa_nil)) (nomark _))))) (pss_one (ps_ret pe_bl)) pss_nil)
      (pss_one (ps_ret (pe_cmpR (op_eqDk K hr.units) (pe_lc (own := [("_law_room", 5)]) rfl sc_own_right.nd (pi_listK K (pv 3)) (blkOk_by (N := N_own_right) (sc := defScope s_own_right) (by decide +kernel)) (fun _ _ _ _ _ => (pg_name (i := 5) sc_own_right.nd rfl (by first | exact .inl rfl | exact .inr rfl))) (fun _ _ _ _ _ => (pts_one (pt_cmpR op_ne (pe_callB (call_lenK K) (by rfl) T.b_len bt_len (pa_cons (pe_lc (own := [("_law_one", 2)]) rfl sc_own_right.nd (pi_listK K (pv 4)) (blkOk_by (by kernel_rfl)) (fun _ _ _ _ _ => (pg_name (i := 2) sc_own_right.nd rfl (by first | exact .inl rfl | exact .inr rfl))) (fun _ _ _ _ _ => (pts_one (pt_cmpR (op_inK K) (pv 2) (pv 5) (by rfl)))) (fun _ _ _ _ _ => (pv 2))) pa_nil)) pe_int (nomark _)))) (fun _ _ _ _ _ => (pv 5))) (pe_lst pa_nil) (nomark _)))))))), ?_⟩
    refine ⟨_, rfl, t, _, 0, _, rfl, rfl, hT, rfl, ?_⟩
    refine ⟨_, rfl, t, _, 1, _, rfl, rfl, hT, rfl, ?_⟩
    refine ⟨_, rfl, t, _, 0, _, rfl, rfl, hT, rfl, u.n, rfl, by omega, by omega, fun D hD => ?_⟩
    refine lc_ev u.n.toNat (fun _ => true) (fun i y H' => ∃ t, y = V.ref t ∧ t ≠ D ∧ H' t = some (.tup [.int (i : Int), .int (i : Int)])) (by omega) hD
      (fun i y H1 H2 e h => by
        obtain ⟨t, e1, e2, e3⟩ := h
        exact ⟨t, e1, e2, e _ _ e2 e3⟩) (fun i H' hi e => by show i < _; omega) (fun H' e => by show _ ≤ _; omega) ?_ ?_
    · rintro i H' x H'' hi e hacc ⟨rfl, rfl⟩ Q' N' hQ _
      refine ⟨rfl, _, rfl, _, rfl, by show 2 ≤ sizeLine; decide, fun t ht => ?_⟩
      obtain ⟨acc, hacc⟩ := hacc
      refine hQ rfl _ _ (Ex.nw ht) ⟨t, rfl, (fun e => by rw [e, hacc] at ht; cases ht), ?_⟩
      rw [upd_same, Int.zero_add]
    · intro ys2 H1 e1 hy gv
      have hA3 : DaAll K H1 ((diag u.n).map dPair) ys2 := by
        have z := paired_da (K := K) (H := H1) (gv.imp fun i y h => by
          obtain ⟨t, h1, _, h3⟩ := h
          exact ⟨t, h1, h3⟩)
        rw [List.filter_eq_self.mpr fun _ _ => rfl] at z
        have e : (List.range u.n.toNat).map (fun i : Nat => ((i : Int), (i : Int))) = diag u.n := by
          unfold diag iota
          rw [List.map_map]
          rfl
        rw [e] at z
        exact z
      have hd3 := hA3.len
      have el : (diag u.n).length = u.n.toNat := by
        unfold diag
        rw [List.length_map, iota, List.length_map, List.length_range]
      rw [List.length_map, el] at hd3
      have h400 : u.ps.length ≤ 400 := pairs400 hu
      refine ⟨a2, D, _, _, rfl, rfl, .inl (.inl (e1 _ _ hL2)), .inl (.inl hy), by omega, fun z hz => ?_⟩
      have e2 : Ex H1 (upd H1 z (.lst (ys ++ ys2))) := Ex.nw hz
      have fz : (upd H1 z (.lst (ys ++ ys2))) z = some (.lst (ys ++ ys2)) := upd_same
      have hAz := ((hA2.up e1).app hA3).up e2
      generalize upd H1 z (.lst (ys ++ ys2)) = H2 at e2 fz hAz
      rw [← List.map_append] at hAz
      refine ⟨z, _, u.ps ++ diag u.n, rfl, .inl (.inl fz), hAz, by rw [List.length_append, el]; omega, fun sa L hsa m1 m2 => ?_⟩
      obtain ⟨m3, m4⟩ := sorted_set_pairs (K := K) (P := P) (w := w) hsa m1 m2
      refine ⟨sa, L, rfl, upd_same, m3, fun L' p pm hasc hp => ?_⟩
      obtain ⟨_, e3, hAq, hmem⟩ := m4 L' p (.lst (L'.map fun q => V.ref q.1)) pm hp
      have fq : (upd (upd H2 sa (SetWO P w sa L)) p (.lst (L'.map fun q => V.ref q.1))) p = some (.lst (L'.map fun q => V.ref q.1)) := upd_same
      generalize upd (upd H2 sa (SetWO P w sa L)) p (.lst (L'.map fun q => V.ref q.1)) = H3 at e3 hAq fq
      generalize (L'.map fun q => toP q.2) = qs at hasc hAq hmem
      generalize (L'.map fun q => V.ref q.1) = zs at hAq fq
      refine ⟨Nat.zero_le _, fun em hem => ?_⟩
      have e4 : Ex H3 (upd H3 em (.lst [])) := Ex.nw hem
      have f4 : (upd H3 em (.lst [])) em = some (.lst []) := upd_same
      generalize upd H3 em (.lst []) = H4 at e4 f4
      refine ⟨by show 3 ≤ sizeLine; decide, fun T hT2 => ?_⟩
      have e5 : Ex H4 (upd H4 T (.tup [.int u.n, .ref p, .ref em])) := Ex.nw hT2
      have f5 : (upd H4 T (.tup [.int u.n, .ref p, .ref em])) T = some (.tup [.int u.n, .ref p, .ref em]) := upd_same
      generalize upd H4 T (.tup [.int u.n, .ref p, .ref em]) = H5 at e5 f5
      have e05 := (((e1.tr e2).tr e3).tr e4).tr e5
      have hq2 : ∀ x, x ∈ qs ↔ x ∈ u.ps ∨ ((0 ≤ x.1 ∧ x.1 < u.n) ∧ x.1 = x.2) := fun x => by
        rw [hmem, List.mem_append]
        refine or_congr Iff.rfl ?_
        unfold diag
        rw [List.mem_map]
        constructor
        · rintro ⟨i, hi, rfl⟩
          exact ⟨mem_iota.mp hi, rfl⟩
        · rintro ⟨h1, h2⟩
          exact ⟨x.1, mem_iota.mpr h1, Prod.ext rfl h2⟩
      obtain ⟨o, eo⟩ : ∃ o : Wb, o = ⟨u.n, qs, []⟩ := ⟨_, rfl⟩
      have ho : o.Ok := by
        rw [eo]
        refine ⟨hlo, hhi, fun x hx => ?_, hasc, by show 0 ≤ 8; decide, fun r hr => nomatch hr⟩
        rcases (hq2 x).1 hx with h | ⟨h1, h2⟩
        · exact hu.ps x h
        · exact ⟨h1, by rw [← h2]; exact h1⟩
      have on : o.n = u.n := by rw [eo]
      have ons : o.ns = [] := by rw [eo]
      have ops : ∀ q, 0 ≤ q ∧ q < o.n → (q, q) ∈ o.ps := fun q hq => by
        rw [eo] at hq ⊢
        exact (hq2 _).2 (.inr ⟨hq, rfl⟩)
      have hlq := hAq.len
      have dO : Da K H5 o.d (.ref T) := by
        rw [eo]
        have hq4 := pairs400 ho
        rw [eo] at hq4
        rw [List.length_map] at hlq
        exact ⟨T, _, rfl, f5, _, _, rfl, rfl, _, _, rfl, ⟨p, zs, rfl, e5 _ _ (e4 _ _ fq), hAq.up (e4.tr e5), by have z : qs.length ≤ 400 := hq4; rw [List.length_map]; omega⟩, _, _, rfl, ⟨em, [], rfl, e5 _ _ f4, rfl, by show 0 ≤ 100000; decide⟩, rfl⟩
      have dU : Da K H5 (Wb.d u) (.ref t) := hd.up e05
      refine ⟨_, rfl, _, o, rfl, dO, ho, fun p1 R H6 e6 _ h6 lR => ?_⟩
      have lR' := loose_own (by omega) (fun q hq => List.mem_append_left _ (ops q hq)) lR
      subst lR'
      refine ⟨Nat.zero_le _, fun z1 hz1 => ?_⟩
      have e7 : Ex H6 (upd H6 z1 (.lst [])) := Ex.nw hz1
      have d1 : Da K (upd H6 z1 (.lst [])) (dInts []) (.ref p1) := dInts_of (r := []) (e7 _ _ h6) (by decide)
      have d2 : Da K (upd H6 z1 (.lst [])) (dInts []) (.ref z1) := dInts_of (r := []) upd_same (by decide)
      generalize upd H6 z1 (.lst []) = H7 at e7 d1 d2
      refine ⟨_, _, d1.dInts, d2.dInts, sh_dInts _, sh_dInts _, _, rfl, ?_⟩
      rw [eqv_dInts]
      refine ite2 (fun h => by simp at h) (fun _ => ?_)
      have e57 := e6.tr e7
      refine ⟨_, rfl, _, o, rfl, dO.up e57, ho, fun ms H8 e8 top => ?_⟩
      have fs := full_size (by omega) (fun q hq => List.mem_append_left _ (ops q hq)) top
      have e58 := e57.tr e8
      refine ⟨_, rfl, t, _, 0, _, rfl, rfl, (e05.tr e58).t hT, rfl, rfl, _, rfl, ?_⟩
      refine ite2 (fun h => ?_) (fun _ => ?_)
      · have z : (ms.length : Int) = u.n := by omega
        rw [z] at h
        simp at h
      refine ⟨_, rfl, _, o, rfl, dO.up e58, ho, fun L1 b1 H9 nr1 => ?_⟩
      refine ⟨_, rfl, _, u, rfl, (dU.up e58).up nr1.ex, hu, fun L2 b2 H10 nr2 => ?_⟩
      have rl : ∀ (ps : List (Int × Int)) (r : List Int), r ∈ roomsOf ps u.n → r.length ≤ 100000 := fun ps r hr => by
        obtain ⟨a, _, rfl⟩ := mem_rooms hr
        have := room_len (ps := ps) (n := u.n) (a := a)
        omega
      have rc : ∀ ps : List (Int × Int), (roomsOf ps u.n).length ≤ 100000 := fun ps => by
        have := roomsTo_len (ps := ps) (n := u.n) (k := u.n.toNat)
        unfold roomsOf
        omega
      have ero : roomsOf o.ps o.n = roomsOf u.ps u.n := by
        rw [eo]
        exact rooms_own (fun x hx => ((hq2 x).1 hx).imp id fun h => h.2) fun x hx => (hq2 x).2 (.inl hx)
      rw [ero] at nr1
      have da1 := (nr1.da (K := K) (rl u.ps) (rc u.ps)).up nr2.ex
      have da2 := nr2.da (K := K) (rl u.ps) (rc u.ps)
      refine ⟨_, _, da1.dRows, da2.dRows, sh_dRows _, sh_dRows _, _, rfl, ?_⟩
      rw [eqv_dRows]
      refine ite2 (fun h => by simp at h) (fun _ => ?_)
      refine ⟨_, rfl, _, o, rfl, (dO.up e58).up (nr1.ex.tr nr2.ex), ho, fun L3 b3 H11 nr3 => ?_⟩
      refine ⟨_, rfl, _, o, rfl, ((dO.up e58).up (nr1.ex.tr nr2.ex)).up nr3.ex, ho, fun L4 S H12 hL4 e12 h12 fS => ?_⟩
      have eo1 : firstOf o.ps o.n = firstOf o.ps o.n := rfl
      have flen := first_len (u := o)
      obtain ⟨fw1, fw2⟩ := few_own ho ons ops fS
      refine ⟨by show 2 ≤ sizeLine; decide, fun TT hTT => ?_⟩
      have eT := Ex.nw (o := .tup [.ref L3, .ref L4]) hTT
      have fT : (upd H12 TT (.tup [.ref L3, .ref L4])) TT = some (.tup [.ref L3, .ref L4]) := upd_same
      generalize upd H12 TT (.tup [.ref L3, .ref L4]) = H13 at eT fT
      refine ⟨TT, _, rfl, .inl (.inl fT), rfl, _, _, rfl, _, _, rfl, rfl, ?_⟩
      have e02 := ((e58.tr (nr1.ex.tr nr2.ex)).tr nr3.ex).tr (e12.tr eT)
      have R3 := rup nr3 (e12.tr eT)
      have h13 := eT _ _ h12
      have bl := R3.len
      refine ⟨_, rfl, _, o, rfl, dO.up e02, ho, fun S2 H14 e14 fS2 => ?_⟩
      obtain ⟨fw3, _⟩ := few_own ho ons ops fS2
      refine ⟨_, rfl, L3, _, rfl, .inl (.inl (.inl (e14 _ _ R3.at_))), rfl, _, rfl, ?_⟩
      rw [List.length_map, bl, fw3]
      refine ite2 (fun h => by simp at h) (fun _ => ?_)
      refine ⟨_, rfl, L4, _, rfl, .inl (.inl (.inl (e14 _ _ h13))), ?_⟩
      refine ⟨_, rfl, L3, _, rfl, .inl (.inl (.inl (e14 _ _ R3.at_))), rfl, _, rfl, ?_⟩
      rw [List.length_map, List.length_map, bl, fw1]
      refine ite2 (fun h => by simp at h) (fun _ => ?_)
      have sL3 : SqL K H14 L3 (b3.map V.ref) := .inl (.inl (e14 _ _ R3.at_))
      have sL4 : SqL K H14 L4 (S.map V.int) := .inl (.inl (e14 _ _ h13))
      have b20 : b3.length ≤ 20 := by omega
      have S20 : S.length ≤ 20 := by omega
      refine ⟨_, rfl, L3, rfl, ⟨_, sL3⟩, fun G hG => ?_⟩
      refine lc_by (b3.map V.ref).length (fun i H' => Ex H14 H' ∧ H' G = some (.lst ([].map V.int))) ⟨Ex.nw hG, upd_same⟩ (fun i H' hi p => itl_go sL3 p.1 hi) (fun H' p => itl_stop sL3 p.1) ?_ ?_
      · rintro i H15 x H16 hi ⟨e15, hG15⟩ y
        obtain ⟨rfl, hx⟩ := itl_yld y sL3 e15
        obtain ⟨b, hb, rfl⟩ := map_at hx
        obtain ⟨_, r, hr1, hr2⟩ := R3.row i b hb
        have hr5 := (e14.tr e15) _ _ hr2
        refine ⟨rfl, _, rfl, L4, rfl, ⟨_, e15.l sL4⟩, fun G2 hG2 => ?_⟩
        refine lc_by (S.map V.int).length (fun j H' => Ex H16 H' ∧ H' G2 = some (.lst ((((S.take j).filter fun x => r.contains x)).map V.int)))
          ⟨Ex.nw hG2, upd_same⟩ (fun j H' hj p => itl_go (e15.l sL4) p.1 hj) (fun H' p => itl_stop (e15.l sL4) p.1) ?_ ?_
        · rintro j H17 x H18 hj ⟨e17, hG17⟩ y
          obtain ⟨rfl, hx⟩ := itl_yld y (e15.l sL4) e17
          obtain ⟨k, hk, rfl⟩ := map_at hx
          rw [take_snoc hk, List.filter_append, List.map_append, List.filter_cons, List.filter_nil]
          have sr : SqL K H18 b (r.map V.int) := .inl (.inl (e17 _ _ hr5))
          refine ⟨rfl, _, rfl, _, rfl, b, _, rfl, .inl sr, rfl, flat_ints, _, rfl, ?_⟩
          rw [in_int]
          refine ite2 (fun h => ?_) (fun h => ?_)
          · refine ⟨_, rfl, _, hG17, mil' ?_, e17.wr hG2, ?_⟩
            · rw [List.length_map]
              have h1 := List.length_filter_le (fun x => r.contains x) (S.take j)
              rw [List.length_take] at h1
              omega
            · rw [upd_same, if_pos h]
              rfl
          · refine ⟨e17, ?_⟩
            rw [if_neg h, List.map_nil, List.append_nil]
            exact hG17
        · rintro H17 ⟨e17, hG17⟩
          rw [List.length_map, List.take_length] at hG17
          refine ⟨G2, _, rfl, .inl (.inl (.inl hG17)), rfl, _, rfl, ?_⟩
          rw [List.length_map, fw2 r (List.mem_of_getElem? hr1)]
          refine ite2 (fun h => by simp at h) (fun _ => ?_)
          exact ⟨e15.tr e17, e17 _ _ hG15⟩
      · rintro H15 ⟨e15, hG15⟩
        refine ⟨Nat.zero_le _, fun z hz => ?_⟩
        have dC : Dp K (upd H15 z (.lst [])) (.ref G) (dInts []) := ((dInts_of (r := []) hG15 (by decide)).up (Ex.nw hz)).dInts
        have dz : Dp K (upd H15 z (.lst [])) (.ref z) (dInts []) := Da.dInts (dInts_of (r := []) upd_same (by decide))
        refine ⟨_, _, dC, dz, sh_dInts _, sh_dInts _, ?_⟩
        rw [eqv_dInts, decide_eq_true rfl]
        exact q _ (((e05.tr e02).tr e14).tr (e15.tr (Ex.nw hz)))
end

end K65
namespace K65
open PySem PySem.Spec PyProof.Rows L2 Nw
/-! _law_rooms_right: slots 0 _law_web_here, 1 _law_back, 2 _law_last, 3 _law_room, 4 _law_pair, 5 _law_bare -/
abbrev s_rooms_right : Stmt := topS 52
abbrev N_rooms_right : List Str := ["_law_web_here", "_law_back", "_law_last", "_law_room", "_law_pair", "_law_bare"]
abbrev P_rooms_right : List Str := ["_law_web_here"]
theorem sc_rooms_right : FnScope N_rooms_right P_rooms_right (defScope s_rooms_right) := ⟨rfl, rfl, rfl, by decide +kernel, rfl, by decide +kernel, by decide +kernel⟩
def sp_rooms_right (K : PySem.W.Frag) : Sp := fun vs H Q _ => ∃ (v : V) (u : Wb), vs = [v] ∧ Da K H (Wb.d u) v ∧ u.Ok ∧ ∀ H', Ex H H' → Q (.bl true) H'
section
variable {P : Program} {w : World} {K : PySem.W.Frag} {mg : Str → Option Value} {base : Heap}
theorem ok_rooms_right {f : Addr} {fd : FuncData} (T : Txt K mg) (F : Fun K "_law_rooms_right" "_law_rooms_right" s_rooms_right f fd)
    (D_turned : DefOk P w K mg base CX0 8 "turned" P_turned (sp_turned K))
    (D_unreached : DefOk P w K mg base CX0 8 "unreached" P_unreached (sp_unreached K))
    (D_rooms : DefOk P w K mg base CX0 8 "rooms" P_rooms (sp_rooms K))
    (D_first_rooms : DefOk P w K mg base CX0 8 "first_rooms" P_first_rooms (sp_first_rooms K))
    (D_pairing_size : DefOk P w K mg base CX0 68 "pairing_size" P_pairing_size (sp_pairing_size K)) :
    FnG P w K mg base CX0 69 f fd P_rooms_right (sp_rooms_right K) := by
  refine okG0 F sc_rooms_right (fun vs H Q E h => ?_) (fun cdv A outer s H vs Q E hr hq h => ?_)
  · obtain ⟨v, u, rfl, _⟩ := h
    rfl
  · obtain ⟨v, u, rfl, hd, hu, q⟩ := h
    obtain ⟨t, x2, x3, rfl, hT, ⟨a2, ys, rfl, hL2, hA2, hz2⟩, g3⟩ := Wb.at hd
    have hlo := hu.lo
    have hhi := hu.hi
    have h400 : u.ps.length ≤ 400 := pairs400 hu
    have hl2 := hA2.len
    rw [List.length_map] at hl2
    have rl : ∀ (ps : List (Int × Int)) (r : List Int), r ∈ roomsOf ps u.n → r.length ≤ 100000 := fun ps r hr => by
      obtain ⟨a, _, rfl⟩ := mem_rooms hr
      have := room_len (ps := ps) (n := u.n) (a := a)
      omega
    have rc : ∀ ps : List (Int × Int), (roomsOf ps u.n).length ≤ 20 := fun ps => by
      have := roomsTo_len (ps := ps) (n := u.n) (k := u.n.toNat)
      unfold roomsOf
      omega
    refine ⟨_, (pss_cons (ps_set (i := 1) sc_rooms_right.nd rfl (by first | exact .inl rfl | exact .inr rfl) (pe_callD D_turned (hr.mono (by decide)) hq pass0 (pa_cons (pv 0) pa_nil)))
      (pss_cons (ps_if (PW.pt (pw_or (pt_cmpR (op_neDk K hr.units) (pe_callD D_rooms (hr.mono (by decide)) hq pass0 (pa_cons (pv 1) pa_nil)) (pe_callD D_rooms (hr.mono (by decide)) hq pass0 (pa_cons (pv 0) pa_nil)) (nomark _)) (pw_or1 (pt_cmpR (op_neDk K hr.units) (pe_callD D_turned (hr.mono (by decide)) hq pass0 (pa_cons (pv 1) pa_nil)) (pv 0) (nomark _))))) (pss_one (ps_ret pe_bl)) pss_nil)
      (pss_cons (ps_set (i := 2) sc_rooms_right.nd rfl (by first | exact .inl rfl | exact .inr rfl) (pe_lst pa_nil))
      (pss_cons (ps_for PassesOwn.never rfl (pi_listK K (pe_callD D_rooms (hr.mono (by decide)) hq pass0 (pa_cons (pv 0) pa_nil))) (pg_name (i := 3) sc_rooms_right.nd rfl (by first | exact .inl rfl | exact .inr rfl)) (pss_one (ps_if (pt_cmpR (op_eqDk K hr.units) (pe_lc (own := [("_law_pair", 4)]) rfl sc_rooms_right.nd (pi_listK K (pe_ix (ix_tupK K) (pv 0) pe_int (fun _ _ => rfl))) (blkOk_by (N := N_rooms_right) (sc := defScope s_rooms_right) (by decide +kernel)) (fun _ _ _ _ _ => (pg_name (i := 4) sc_rooms_right.nd rfl (by first | exact .inl rfl | exact .inr rfl))) (fun _ _ _ _ _ => (pts_one (PW.pt (pw_and (pt_cmpR (op_inK K) (pe_ix (ix_tupK K) (pv 4) pe_int (fun _ _ => rfl)) (pv 3) (by rfl)) (pw_and1 (pt_cmpR (op_notInK K) (pe_ix (ix_tupK K) (pv 4) pe_int (fun _ _ => rfl)) (pv 3) (by rfl))))))) (fun _ _ _ _ _ => (pv 4))) (pe_lst pa_nil) (nomark _)) (pss_one (ps_expr (pe_bm PySem.F.plainAttrs_list PySem.F.slot_list_append PySem.F.type_list_append mt_append (pv 2) (pa_cons (pv 3) pa_nil)))) pss_nil)))
      (pss_cons (ps_if (PW.pt (pw_or (pt_cmpR (op_neDk K hr.units) (pe_callD D_first_rooms (hr.mono (by decide)) hq pass0 (pa_cons (pv 1) pa_nil)) (pv 2) (nomark _)) (pw_or (pt_cmpR (op_eqDk K hr.units) (pv 2) (pe_lst pa_nil) (nomark _)) (pw_or1 (pt_cmpR (op_eqDk K hr.units) (pe_callD D_first_rooms (hr.mono (by decide)) hq pass0 (pa_cons (pv 0) pa_nil)) (pe_lst pa_nil) (nomark _)))))) (pss_one (ps_ret pe_bl)) pss_nil)
      (pss_cons (ps_for PassesOwn.never rfl (pi_listK K (pe_callD D_first_rooms (hr.mono (by decide)) hq pass0 (pa_cons (pv 0) pa_nil))) (pg_name (i := 3) sc_rooms_right.nd rfl (by first | exact .inl rfl | exact .inr rfl)) (pss_one (ps_if (pt_cmpR (op_neDk K hr.units) (pe_lc (own := [("_law_pair", 4)]) rfl sc_rooms_right.nd (pi_listK K (pe_ix (ix_tupK K) (pv 0) pe_int (fun _ _ => rfl))) (blkOk_by (N := N_rooms_right) (sc := defScope s_rooms_right) (by decide +kernel)) (fun _ _ _ _ _ => (pg_name (i := 4) sc_rooms_right.nd rfl (by first | exact .inl rfl | exact .inr rfl))) (fun _ _ _ _ _ => (pts_one (PW.pt (pw_and (pt_cmpR (op_inK K) (pe_ix (ix_tupK K) (pv 4) pe_int (fun _ _ => rfl)) (pv 3) (by rfl)) (pw_and1 (pt_cmpR (op_notInK K) (pe_ix (ix_tupK K) (pv 4) pe_int (fun _ _ => rfl)) (pv 3) (by rfl))))))) (fun _ _ _ _ _ => (pv 4))) (pe_lst pa_nil) (nomark _)) (pss_one (ps_ret pe_bl)) pss_nil)))
      (pss_cons (ps_set (i := 5) sc_rooms_right.nd rfl (by first | exact .inl rfl | exact .inr rfl) (pe_tup (pa_cons (pe_ix (ix_tupK K) (pv 0) pe_int (fun _ _ => rfl)) (pa_cons (pe_ix (ix_tupK K) (pv 0) pe_int (fun _ _ => rfl)) (pa_cons (pe_lst pa_nil) pa_nil)))))
      (pss_one (ps_ret (pe_and (pe_cmpR op_eq (pe_callD D_pairing_size (hr.mono (by decide)) hq pass0 (pa_cons (pv 5) pa_nil)) (pe_callD D_pairing_size (hr.mono (by decide)) hq pass0 (pa_cons (pe_callD D_turned (hr.mono (by decide)) hq pass0 (pa_cons (pv 5) pa_nil)) pa_nil)) (nomark _)) (pe_one (pe_cmpR (op_eqDk K hr.units) (pe_callD D_unreached (hr.mono (by decide)) hq pass0 (pa_cons (pv 5) pa_nil)) (pe_listRg rfl (by rfl) T.b_list (prg_1 (by rfl) T.b_range (pe_ix (ix_tupK K) (pv 0) pe_int (fun _ _ => rfl)))) (nomark _))))))))))))), ?_⟩
    refine ⟨_, rfl, _, u, rfl, hd, hu, fun b T L1 L2 xs bs H1 nb hb tr => ?_⟩
    have dB := nb.da hb
    have dU1 := hd.up nb.ex
    have bn := tr.n
    refine ⟨_, rfl, _, b, rfl, dB, hb, fun L3 b3 H2 nr1 => ?_⟩
    refine ⟨_, rfl, _, u, rfl, dU1.up nr1.ex, hu, fun L4 b4 H3 nr2 => ?_⟩
    have erb : roomsOf b.ps b.n = roomsOf u.ps u.n := by
      rw [bn]
      exact rooms_turn tr.ps
    rw [erb] at nr1
    have da1 := (nr1.da (K := K) (rl u.ps) (by have := rc u.ps; omega)).up nr2.ex
    have da2 := nr2.da (K := K) (rl u.ps) (by have := rc u.ps; omega)
    refine ⟨_, _, da1.dRows, da2.dRows, sh_dRows _, sh_dRows _, _, rfl, ?_⟩
    rw [eqv_dRows]
    refine ite2 (fun h => by simp at h) (fun _ => ?_)
    have e3 := nr1.ex.tr nr2.ex
    refine ⟨_, rfl, _, b, rfl, dB.up e3, hb, fun w2 T2 M1 M2 xs2 bs2 H4 n2 h2 tr2 => ?_⟩
    have ew := (tr.back tr2 hu.asc h2.asc).symm
    subst ew
    have e14 := e3.tr n2.ex
    refine ⟨_, rfl, _, _, (n2.da h2).web, (dU1.up e14).web, sh_web _, sh_web _, _, rfl, ?_⟩
    rw [eqv_web]
    refine ite2 (fun h => by simp at h) (fun _ => ?_)
    -- REST
    have e04 := nb.ex.tr e14
    have hY : SqL K H a2 ys := .inl (.inl hL2)
    refine ⟨Nat.zero_le _, fun D hD => ?_⟩
    have eD : Ex H4 (upd H4 D (.lst [])) := Ex.nw hD
    have fD : (upd H4 D (.lst [])) D = some (.lst []) := upd_same
    generalize upd H4 D (.lst []) = H5 at eD fD
    have e05 := e04.tr eD
    refine ⟨_, rfl, _, u, rfl, hd.up e05, hu, fun L5 b5 H6 nr5 => ?_⟩
    have DL : D ≠ L5 := fun e => by
      rw [e, nr5.new] at fD
      cases fD
    have Db : D ∉ b5 := fun hm => by
      obtain ⟨k, hk⟩ := List.getElem?_of_mem hm
      obtain ⟨n1, _⟩ := nr5.row k D hk
      rw [n1.1] at fD
      cases fD
    have e06 := e05.tr nr5.ex
    have l5 := nr5.len
    have rc' := rc u.ps
    have rl' := rl u.ps
    obtain ⟨rs, hrs⟩ : ∃ rs, rs = roomsOf u.ps u.n := ⟨_, rfl⟩
    rw [← hrs] at nr5 l5 rc' rl'
    have sL5 : SqL K H6 L5 (b5.map V.ref) := .inl (.inl nr5.at_)
    refine ⟨L5, rfl, ⟨_, sL5⟩, ?_⟩
    refine for_by (b5.map V.ref).length (fun i σ H' => ∃ y3, σ = [some (V.ref t), some (V.ref T), some (V.ref D), y3, none, none] ∧ (∀ b o, H6 b = some o → b ≠ D → H' b = some o) ∧ Ex H4 H' ∧ H' D = some (.lst ((((b5.zip rs).take i).filter fun z => isLast u.ps z.2).map fun z => V.ref z.1)))
      ⟨_, rfl, fun b o h _ => h, eD.tr nr5.ex, nr5.ex _ _ fD⟩ (fun i σ H' hi p => ?_) (fun σ H' p => ?_) ?_ ?_
    · obtain ⟨_, _, o6, _⟩ := p
      exact itl_go (K := K) (.inl (.inl (o6 _ _ nr5.at_ DL.symm))) Ex.rfl hi
    · obtain ⟨_, _, o6, _⟩ := p
      exact itl_stop (K := K) (.inl (.inl (o6 _ _ nr5.at_ DL.symm))) Ex.rfl
    · rintro i σ H7 x H7' hi ⟨y3, rfl, o6, e47, hD7⟩ y
      obtain ⟨rfl, hx⟩ := itl_yld (K := K) y (.inl (.inl (o6 _ _ nr5.at_ DL.symm))) Ex.rfl
      obtain ⟨bb, hb, rfl⟩ := map_at hx
      obtain ⟨_, r, hr1, hr2⟩ := nr5.row i bb hb
      have hz : (b5.zip rs)[i]? = some (bb, r) := List.getElem?_zip_eq_some.mpr ⟨hb, hr1⟩
      have hr7 := o6 _ _ hr2 (fun e => Db (by rw [← e]; exact List.mem_of_getElem? hb))
      have e07 := e04.tr e47
      have hY7 := (e07).l hY
      refine ⟨_, rfl, t, _, 1, _, rfl, rfl, (e07).t hT, rfl, a2, rfl, ⟨_, hY7⟩, fun C hC => ?_⟩
      refine lc_by ys.length (fun j H' => Ex H7' H' ∧ ∃ acc, H' C = some (.lst acc) ∧ DaAll K H' (((u.ps.take j).filter fun p : Int × Int => r.contains p.1 && !r.contains p.2).map dPair) acc)
        ⟨Ex.nw hC, [], upd_same, rfl⟩ (fun j H' hj p => itl_go hY7 p.1 hj) (fun H' p => itl_stop hY7 p.1) ?_ ?_
      · rintro j H8 x H9 hj ⟨e8, acc, hC8, hA8⟩ y
        obtain ⟨rfl, hx⟩ := itl_yld y hY7 e8
        have hA2' := hA2.up ((e07).tr e8)
        obtain ⟨p, hp, b', rfl, hSb⟩ := pairs_at hA2' hx
        have hr9 := e8 _ _ hr7
        have l8 := hA8.len
        rw [List.length_map] at l8
        have h3 := List.length_filter_le (fun p : Int × Int => r.contains p.1 && !r.contains p.2) (u.ps.take j)
        rw [List.length_take] at h3
        rw [take_snoc hp, List.filter_append, List.map_append, List.filter_cons, List.filter_nil]
        have put : (r.contains p.1 && !r.contains p.2) = true → Ex H7' (upd H9 C (.lst (acc ++ [.ref b']))) ∧ ∃ acc', (upd H9 C (.lst (acc ++ [.ref b']))) C = some (.lst acc') ∧
            DaAll K (upd H9 C (.lst (acc ++ [.ref b']))) (((u.ps.take j).filter fun p : Int × Int => r.contains p.1 && !r.contains p.2).map dPair ++ (if (r.contains p.1 && !r.contains p.2) = true then [p] else []).map dPair) acc' := fun h => by
          refine ⟨e8.wr hC, acc ++ [.ref b'], upd_same, ?_⟩
          rw [if_pos h, List.map_cons, List.map_nil]
          have hdx := hA2'.at' hx
          obtain ⟨d, hd, hdx⟩ := hdx
          obtain ⟨p', hp', rfl⟩ := map_at hd
          rw [hp] at hp'
          cases hp'
          have h4 : DaAll K H9 (((u.ps.take j).filter fun p : Int × Int => r.contains p.1 && !r.contains p.2).map dPair ++ [dPair p]) (acc ++ [.ref b']) := hA8.app ⟨_, _, rfl, hdx, rfl⟩
          have h5 := pairs_wr (L := (u.ps.take j).filter (fun p : Int × Int => r.contains p.1 && !r.contains p.2) ++ [p]) (o := .lst (acc ++ [.ref b'])) hC8 (by rw [List.map_append]; exact h4)
          rw [List.map_append] at h5
          exact h5
        refine ⟨rfl, _, rfl, b', _, 0, _, rfl, rfl, hSb, rfl, _, rfl, bb, _, rfl, .inl (.inl (.inl hr9)), rfl, flat_ints, _, rfl, ?_⟩
        rw [show (if false = true then !inV (.int p.1) (r.map V.int) else inV (.int p.1) (r.map V.int)) = r.contains p.1 from inV_int]
        refine ite2 (fun h1 => ?_) (fun h1 => ?_)
        · refine ⟨_, rfl, b', _, 1, _, rfl, rfl, hSb, rfl, _, rfl, bb, _, rfl, .inl (.inl (.inl hr9)), rfl, flat_ints, _, rfl, ?_⟩
          rw [show (if true = true then !inV (.int p.2) (r.map V.int) else inV (.int p.2) (r.map V.int)) = !r.contains p.2 from congrArg Bool.not inV_int]
          refine ite2 (fun h2 => ?_) (fun h2 => ?_)
          · exact ⟨_, rfl, acc, hC8, mil' (by omega), put (by rw [h1, h2]; rfl)⟩
          · refine ⟨e8, acc, hC8, ?_⟩
            rw [if_neg (by rw [h1, Bool.true_and]; exact h2), List.map_nil, List.append_nil]
            exact hA8
        · refine ⟨e8, acc, hC8, ?_⟩
          rw [if_neg (by rw [Bool.eq_false_iff.mpr h1, Bool.false_and]; decide), List.map_nil, List.append_nil]
          exact hA8
      · rintro H8 ⟨e8, acc, hC8, hA8⟩
        rw [← hl2, List.take_length] at hA8
        refine ⟨Nat.zero_le _, fun z hz' => ?_⟩
        have h3 := List.length_filter_le (fun p : Int × Int => r.contains p.1 && !r.contains p.2) u.ps
        have dC0 : Da K H8 (dPairs (u.ps.filter fun p : Int × Int => r.contains p.1 && !r.contains p.2)) (.ref C) := ⟨C, _, rfl, hC8, hA8, by rw [List.length_map]; omega⟩
        have dC : Dp K (upd H8 z (.lst [])) (.ref C) (dPairs (u.ps.filter fun p : Int × Int => r.contains p.1 && !r.contains p.2)) := (dC0.up (Ex.nw hz')).dPairs
        have dz0 : Da K (upd H8 z (.lst [])) (dPairs []) (.ref z) := ⟨z, [], rfl, upd_same, rfl, Nat.zero_le _⟩
        have dz : Dp K (upd H8 z (.lst [])) (.ref z) (dPairs []) := dz0.dPairs
        have ez : Ex H7' (upd H8 z (.lst [])) := e8.tr (Ex.nw hz')
        refine ⟨_, _, dC, dz, sh_dPairs _, sh_dPairs _, _, rfl, ?_⟩
        generalize upd H8 z (.lst []) = H10 at ez
        have hf : PyData.eqv (dPairs (u.ps.filter fun p : Int × Int => r.contains p.1 && !r.contains p.2)) (dPairs []) = isLast u.ps r := by
          rw [eqv_dPairs]
          unfold isLast
          rw [Bool.eq_iff_iff, decide_eq_true_eq, List.isEmpty_iff]
        rw [hf]
        have hW10 := ez _ _ hD7
        have o10 : ∀ b o, H6 b = some o → b ≠ D → H10 b = some o := fun b o h h' => ez _ _ (o6 b o h h')
        have e610 := e47.tr ez
        rw [take_snoc hz, List.filter_append, List.map_append, List.filter_cons, List.filter_nil]
        refine ite2 (fun h => ?_) (fun h => ?_)
        · refine ⟨_, rfl, .inl ⟨rfl, _, .inl (.inl hW10)⟩, _, rfl, D, _, _, rfl, rfl, hW10, mil' ?_, _, rfl, fun b o h h' => by rw [upd_ne h']; exact o10 b o h h', e610.wr hD, ?_⟩
          · rw [List.length_map]
            have h1 := List.length_filter_le (fun z : Addr × List Int => isLast u.ps z.2) ((b5.zip rs).take i)
            rw [List.length_take, List.length_zip] at h1
            omega
          · rw [upd_same, if_pos h]
            rfl
        · refine ⟨_, rfl, o10, e610, ?_⟩
          rw [if_neg h, List.map_nil, List.append_nil]
          exact hW10
    · rintro σ H7 ⟨y3, rfl, o6, e47, hD7⟩
      rw [List.length_map, List.take_of_length_le (by rw [List.length_zip]; omega)] at hD7
      have hcz : ((b5.zip rs).filter fun z => isLast u.ps z.2).map (·.2) = rs.filter (isLast u.ps) := zip_filter l5
      have cat : ∀ (k : Nat) (c : Addr), (((b5.zip rs).filter fun z => isLast u.ps z.2).map (·.1))[k]? = some c → ∃ r, (rs.filter (isLast u.ps))[k]? = some r ∧ H7 c = some (.lst (r.map V.int)) ∧ r.length ≤ 100000 := fun k c hc => by
        obtain ⟨z, hz, rfl⟩ := map_at hc
        obtain ⟨j, hj1, hj2⟩ := zip_at l5 (List.mem_filter.mp (List.mem_of_getElem? hz)).1
        obtain ⟨_, r, n2, n3⟩ := nr5.row j z.1 hj1
        rw [hj2] at n2
        cases n2
        refine ⟨z.2, ?_, o6 _ _ n3 (fun e => Db (by rw [← e]; exact List.mem_of_getElem? hj1)), rl' _ (List.mem_of_getElem? hj2)⟩
        rw [← hcz, List.getElem?_map, hz]
        rfl
      have clen : (((b5.zip rs).filter fun z => isLast u.ps z.2).map (·.1)).length = (rs.filter (isLast u.ps)).length := by
        rw [← hcz, List.length_map, List.length_map]
      have fl := List.length_filter_le (isLast u.ps) rs
      have hD7' : H7 D = some (.lst ((((b5.zip rs).filter fun z => isLast u.ps z.2).map (·.1)).map V.ref)) := by
        rw [hD7, List.map_map]
        rfl
      have dL : Da K H7 (dRows (rs.filter (isLast u.ps))) (.ref D) := ⟨D, _, rfl, hD7', rows_of clen cat, by rw [List.length_map]; omega⟩
      have efb : firstOf b.ps b.n = rs.filter (isLast u.ps) := by
        rw [bn, hrs]
        exact first_turn tr.ps
      have rlf : ∀ r ∈ rs.filter (isLast u.ps), r.length ≤ 100000 := fun r hr => rl' r (List.mem_filter.mp hr).1
      have ne1 : rs.filter (isLast u.ps) ≠ [] := by
        rw [← efb]
        exact first_ex hb.lo hb.ps
      have ne2 : firstOf u.ps u.n ≠ [] := first_ex hu.lo hu.ps
      have rlu : ∀ r ∈ firstOf u.ps u.n, r.length ≤ 100000 := fun r hr => by
        have h1 := (List.mem_filter.mp hr).1
        rw [← hrs] at h1
        exact rl' r h1
      have flu : (firstOf u.ps u.n).length ≤ 20 := by
        have := first_len (u := u)
        omega
      have e17 := e14.tr e47
      refine ⟨_, rfl, _, b, rfl, dB.up e17, hb, fun L8 b8 H8 nr8 => ?_⟩
      rw [efb] at nr8
      refine ⟨_, rfl, _, _, (nr8.da (K := K) rlf (by omega)).dRows, (dL.up nr8.ex).dRows, sh_dRows _, sh_dRows _, _, rfl, ?_⟩
      rw [eqv_dRows]
      refine ite2 (fun h => by simp at h) (fun _ => ?_)
      refine ⟨_, rfl, Nat.zero_le _, fun z1 hz1 => ?_⟩
      have e9 := nr8.ex.tr (Ex.nw (o := .lst []) hz1)
      have d1 : Da K (upd H8 z1 (.lst [])) (dRows []) (.ref z1) := ⟨z1, [], rfl, upd_same, rfl, Nat.zero_le _⟩
      generalize upd H8 z1 (.lst []) = H9 at e9 d1
      refine ⟨_, _, (dL.up e9).dRows, d1.dRows, sh_dRows _, sh_dRows _, _, rfl, ?_⟩
      rw [eqv_dRows, decide_eq_false ne1]
      refine ite2 (fun h => by simp at h) (fun _ => ?_)
      refine ⟨_, rfl, _, u, rfl, (hd.up (e04.tr e47)).up e9, hu, fun L10 b10 H10 nr10 => ?_⟩
      refine ⟨Nat.zero_le _, fun z2 hz2' => ?_⟩
      have eA := Ex.nw (o := .lst []) hz2'
      have d2 : Da K (upd H10 z2 (.lst [])) (dRows []) (.ref z2) := ⟨z2, [], rfl, upd_same, rfl, Nat.zero_le _⟩
      have dF := (nr10.da (K := K) rlu (by omega)).up eA
      have eB := e9.tr (nr10.ex.tr eA)
      generalize upd H10 z2 (.lst []) = H11 at eB d2 dF
      refine ⟨_, _, dF.dRows, d2.dRows, sh_dRows _, sh_dRows _, _, rfl, ?_⟩
      rw [eqv_dRows, decide_eq_false ne2]
      refine ite2 (fun h => by simp at h) (fun _ => ?_)
      have e011 := (e04.tr e47).tr eB
      refine ⟨_, rfl, _, u, rfl, hd.up e011, hu, fun L12 c12 H12 nr12 => ?_⟩
      have e012 := e011.tr nr12.ex
      have sL12 : SqL K H12 L12 (c12.map V.ref) := .inl (.inl nr12.at_)
      refine ⟨L12, rfl, ⟨_, sL12⟩, ?_⟩
      refine for_by (c12.map V.ref).length (fun i σ H' => ∃ y3, σ = [some (V.ref t), some (V.ref T), some (V.ref D), y3, none, none] ∧ Ex H12 H')
        ⟨_, rfl, Ex.rfl⟩ (fun i σ H' hi p => ?_) (fun σ H' p => ?_) ?_ ?_
      · obtain ⟨_, _, o6⟩ := p
        exact itl_go sL12 o6 hi
      · obtain ⟨_, _, o6⟩ := p
        exact itl_stop sL12 o6
      · rintro i σ H13 x H14 hi ⟨y3, rfl, e13⟩ y
        obtain ⟨rfl, hx⟩ := itl_yld y sL12 e13
        obtain ⟨bb, hb', rfl⟩ := map_at hx
        obtain ⟨_, r, hr1, hr2⟩ := nr12.row i bb hb'
        have hr7 := e13 _ _ hr2
        have hfr : isFirst u.ps r = true := (List.mem_filter.mp (List.mem_of_getElem? hr1)).2
        have e07 := e012.tr e13
        have hY7 := (e07).l hY
        refine ⟨_, rfl, t, _, 1, _, rfl, rfl, (e07).t hT, rfl, a2, rfl, ⟨_, hY7⟩, fun C hC => ?_⟩
        refine lc_by ys.length (fun j H' => Ex H14 H' ∧ ∃ acc, H' C = some (.lst acc) ∧ DaAll K H' (((u.ps.take j).filter fun p : Int × Int => r.contains p.2 && !r.contains p.1).map dPair) acc)
          ⟨Ex.nw hC, [], upd_same, rfl⟩ (fun j H' hj p => itl_go hY7 p.1 hj) (fun H' p => itl_stop hY7 p.1) ?_ ?_
        · rintro j H8 x H9 hj ⟨e8, acc, hC8, hA8⟩ y
          obtain ⟨rfl, hx⟩ := itl_yld y hY7 e8
          have hA2' := hA2.up ((e07).tr e8)
          obtain ⟨p, hp, b', rfl, hSb⟩ := pairs_at hA2' hx
          have hr9 := e8 _ _ hr7
          have l8 := hA8.len
          rw [List.length_map] at l8
          have h3 := List.length_filter_le (fun p : Int × Int => r.contains p.2 && !r.contains p.1) (u.ps.take j)
          rw [List.length_take] at h3
          rw [take_snoc hp, List.filter_append, List.map_append, List.filter_cons, List.filter_nil]
          have put : (r.contains p.2 && !r.contains p.1) = true → Ex H14 (upd H9 C (.lst (acc ++ [.ref b']))) ∧ ∃ acc', (upd H9 C (.lst (acc ++ [.ref b']))) C = some (.lst acc') ∧
              DaAll K (upd H9 C (.lst (acc ++ [.ref b']))) (((u.ps.take j).filter fun p : Int × Int => r.contains p.2 && !r.contains p.1).map dPair ++ (if (r.contains p.2 && !r.contains p.1) = true then [p] else []).map dPair) acc' := fun h => by
            refine ⟨e8.wr hC, acc ++ [.ref b'], upd_same, ?_⟩
            rw [if_pos h, List.map_cons, List.map_nil]
            have hdx := hA2'.at' hx
            obtain ⟨d, hd, hdx⟩ := hdx
            obtain ⟨p', hp', rfl⟩ := map_at hd
            rw [hp] at hp'
            cases hp'
            have h4 : DaAll K H9 (((u.ps.take j).filter fun p : Int × Int => r.contains p.2 && !r.contains p.1).map dPair ++ [dPair p]) (acc ++ [.ref b']) := hA8.app ⟨_, _, rfl, hdx, rfl⟩
            have h5 := pairs_wr (L := (u.ps.take j).filter (fun p : Int × Int => r.contains p.2 && !r.contains p.1) ++ [p]) (o := .lst (acc ++ [.ref b'])) hC8 (by rw [List.map_append]; exact h4)
            rw [List.map_append] at h5
            exact h5
          refine ⟨rfl, _, rfl, b', _, 1, _, rfl, rfl, hSb, rfl, _, rfl, bb, _, rfl, .inl (.inl (.inl hr9)), rfl, flat_ints, _, rfl, ?_⟩
          rw [show (if false = true then !inV (.int p.2) (r.map V.int) else inV (.int p.2) (r.map V.int)) = r.contains p.2 from inV_int]
          refine ite2 (fun h1 => ?_) (fun h1 => ?_)
          · refine ⟨_, rfl, b', _, 0, _, rfl, rfl, hSb, rfl, _, rfl, bb, _, rfl, .inl (.inl (.inl hr9)), rfl, flat_ints, _, rfl, ?_⟩
            rw [show (if true = true then !inV (.int p.1) (r.map V.int) else inV (.int p.1) (r.map V.int)) = !r.contains p.1 from congrArg Bool.not inV_int]
            refine ite2 (fun h2 => ?_) (fun h2 => ?_)
            · exact ⟨_, rfl, acc, hC8, mil' (by omega), put (by rw [h1, h2]; rfl)⟩
            · refine ⟨e8, acc, hC8, ?_⟩
              rw [if_neg (by rw [h1, Bool.true_and]; exact h2), List.map_nil, List.append_nil]
              exact hA8
          · refine ⟨e8, acc, hC8, ?_⟩
            rw [if_neg (by rw [Bool.eq_false_iff.mpr h1, Bool.false_and]; decide), List.map_nil, List.append_nil]
            exact hA8
        · rintro H8 ⟨e8, acc, hC8, hA8⟩
          rw [← hl2, List.take_length] at hA8
          refine ⟨Nat.zero_le _, fun z hz' => ?_⟩
          have h3 := List.length_filter_le (fun p : Int × Int => r.contains p.2 && !r.contains p.1) u.ps
          have dC0 : Da K H8 (dPairs (u.ps.filter fun p : Int × Int => r.contains p.2 && !r.contains p.1)) (.ref C) := ⟨C, _, rfl, hC8, hA8, by rw [List.length_map]; omega⟩
          have dC : Dp K (upd H8 z (.lst [])) (.ref C) (dPairs (u.ps.filter fun p : Int × Int => r.contains p.2 && !r.contains p.1)) := (dC0.up (Ex.nw hz')).dPairs
          have dz0 : Da K (upd H8 z (.lst [])) (dPairs []) (.ref z) := ⟨z, [], rfl, upd_same, rfl, Nat.zero_le _⟩
          have dz : Dp K (upd H8 z (.lst [])) (.ref z) (dPairs []) := dz0.dPairs
          have ez : Ex H14 (upd H8 z (.lst [])) := e8.tr (Ex.nw hz')
          refine ⟨_, _, dC, dz, sh_dPairs _, sh_dPairs _, _, rfl, ?_⟩
          generalize upd H8 z (.lst []) = H10 at ez
          have hf : PyData.eqv (dPairs (u.ps.filter fun p : Int × Int => r.contains p.2 && !r.contains p.1)) (dPairs []) = isFirst u.ps r := by
            rw [eqv_dPairs]
            unfold isFirst
            rw [Bool.eq_iff_iff, decide_eq_true_eq, List.isEmpty_iff]
          rw [hf]
          refine ite2 (fun h => ?_) (fun h => ?_)
          · rw [hfr] at h
            cases h
          · exact ⟨_, rfl, e13.tr ez⟩
      · rintro σ H13 ⟨y3, rfl, e13⟩
        have e013 := e012.tr e13
        obtain ⟨c, ec⟩ : ∃ c : Wb, c = bare u := ⟨_, rfl⟩
        have hc : c.Ok := by
          rw [ec]
          exact bare_ok hu
        have cn : c.n = u.n := by rw [ec]; rfl
        have cps : c.ps = u.ps := by rw [ec]; rfl
        have cns : c.ns = [] := by rw [ec]; rfl
        refine ⟨_, rfl, t, _, 0, _, rfl, rfl, e013.t hT, rfl, ?_⟩
        refine ⟨_, rfl, t, _, 1, _, rfl, rfl, e013.t hT, rfl, ?_⟩
        refine ⟨Nat.zero_le _, fun em hem => ?_⟩
        have e4 : Ex H13 (upd H13 em (.lst [])) := Ex.nw hem
        have f4 : (upd H13 em (.lst [])) em = some (.lst []) := upd_same
        generalize upd H13 em (.lst []) = H14 at e4 f4
        refine ⟨by show 3 ≤ sizeLine; decide, fun T3 hT3 => ?_⟩
        have e5 : Ex H14 (upd H14 T3 (.tup [.int u.n, .ref a2, .ref em])) := Ex.nw hT3
        have f5 : (upd H14 T3 (.tup [.int u.n, .ref a2, .ref em])) T3 = some (.tup [.int u.n, .ref a2, .ref em]) := upd_same
        generalize upd H14 T3 (.tup [.int u.n, .ref a2, .ref em]) = H15 at e5 f5
        have e015 := e013.tr (e4.tr e5)
        have dC : Da K H15 c.d (.ref T3) := by
          rw [ec]
          exact ⟨T3, _, rfl, f5, _, _, rfl, rfl, _, _, rfl, ⟨a2, ys, rfl, e015 _ _ hL2, hA2.up e015, hz2⟩, _, _, rfl, ⟨em, [], rfl, e5 _ _ f4, rfl, by show 0 ≤ 100000; decide⟩, rfl⟩
        refine ⟨_, rfl, _, c, rfl, dC, hc, fun ms H16 e16 tp => ?_⟩
        refine ⟨_, rfl, _, c, rfl, dC.up e16, hc, fun g T4 N1 N2 xs4 bs4 H17 ng hg tg => ?_⟩
        refine ⟨_, g, rfl, ng.da hg, hg, fun ms2 H18 e18 tp2 => ?_⟩
        have es := size_turn hc hg cns tg tp tp2
        refine ⟨rfl, _, rfl, ?_⟩
        rw [if_pos (by rw [es]; simp)]
        have e518 := e16.tr (ng.ex.tr e18)
        refine ⟨_, rfl, _, c, rfl, dC.up e518, hc, fun p1 H19 n1 e19 h19 => ?_⟩
        refine ⟨_, rfl, t, _, 0, _, rfl, rfl, (e015.tr (e518.tr e19)).t hT, rfl, u.n, rfl, RgOk.of_le (by omega) (by omega) (by omega) (by omega), fun R2 hR2 => ?_⟩
        rw [rgV_iota]
        have e20 : Ex H19 (upd H19 R2 (.lst ((iota u.n).map V.int))) := Ex.nw hR2
        have f20 : (upd H19 R2 (.lst ((iota u.n).map V.int))) R2 = some (.lst ((iota u.n).map V.int)) := upd_same
        generalize upd H19 R2 (.lst ((iota u.n).map V.int)) = H20 at e20 f20
        rw [rdL_bare cns, cn] at h19
        have il : (iota u.n).length ≤ 100000 := by
          rw [iota, List.length_map, List.length_range]
          omega
        refine ⟨_, _, (dInts_of (e20 _ _ h19) il).dInts, (dInts_of f20 il).dInts, sh_dInts _, sh_dInts _, ?_⟩
        rw [eqv_dInts, decide_eq_true rfl]
        exact q _ (e015.tr (e518.tr (e19.tr e20)))
end

end K65
namespace K65
open PySem PySem.Spec PyProof.Rows L2 Nw
/-! _law_pushed_right: slots 0 _law_web_here, 1 _law_every, 2 _law_pushed, 3 _law_one, 4 _law_nudge, 5 _law_way, 6 _law_some -/
abbrev s_pushed_right : Stmt := topS 53
abbrev N_pushed_right : List Str := ["_law_web_here", "_law_every", "_law_pushed", "_law_one", "_law_nudge", "_law_way", "_law_some"]
abbrev P_pushed_right : List Str := ["_law_web_here"]
theorem sc_pushed_right : FnScope N_pushed_right P_pushed_right (defScope s_pushed_right) := ⟨rfl, rfl, rfl, by decide +kernel, rfl, by decide +kernel, by decide +kernel⟩
theorem cut_tk (xs : List V) (k : Nat) (h : k ≤ xs.length) : cutV xs none (some (k : Int)) = xs.take k := by
  unfold cutV
  rw [HT.sIx_none, show HT.sIx xs.length xs.length (some (k : Int)) = min k xs.length from HT.sIx_nat xs.length xs.length k, List.drop_zero, Nat.sub_zero, Nat.min_eq_left h]
theorem daall_take {K : PySem.W.Frag} {H : Hp} : ∀ {ds : List PyData} {xs : List V} (k : Nat), DaAll K H ds xs → DaAll K H (ds.take k) (xs.take k)
  | _, _, 0, _ => by
    rw [List.take_zero, List.take_zero]
    rfl
  | [], xs, k + 1, h => by
    have : xs = [] := h
    subst this
    exact h
  | d :: ds, xs, k + 1, h => by
    obtain ⟨x, ys, rfl, h1, h2⟩ := h
    exact ⟨x, _, rfl, h1, daall_take k h2⟩
def sp_pushed_right (K : PySem.W.Frag) : Sp := fun vs H Q _ => ∃ (v : V) (u : Wb), vs = [v] ∧ Da K H (Wb.d u) v ∧ u.Ok ∧ ∀ H', Ex H H' → Q (.bl true) H'
section
variable {P : Program} {w : World} {K : PySem.W.Frag} {mg : Str → Option Value} {base : Heap}
theorem ok_pushed_right {f : Addr} {fd : FuncData} (T : Txt K mg) (F : Fun K "_law_pushed_right" "_law_pushed_right" s_pushed_right f fd)
    (D_reached : DefOk P w K mg base CX0 8 "reached" P_reached (sp_reached K))
    (D_unreached : DefOk P w K mg base CX0 8 "unreached" P_unreached (sp_unreached K))
    (D_way_to : DefOk P w K mg base CX0 8 "way_to" P_way_to (sp_way_to K))
    (D_pairing_size : DefOk P w K mg base CX0 68 "pairing_size" P_pairing_size (sp_pairing_size K))
    (D_fewest_single : DefOk P w K mg base CX0 69 "fewest_single" P_fewest_single (sp_fewest_single K)) :
    FnG P w K mg base CX0 70 f fd P_pushed_right (sp_pushed_right K) := by
  refine okG0 F sc_pushed_right (fun vs H Q E h => ?_) (fun cdv A outer s H vs Q E hr hq h => ?_)
  · obtain ⟨v, u, rfl, _⟩ := h
    rfl
  · obtain ⟨v, u, rfl, hd, hu, q⟩ := h
    obtain ⟨t, x2, x3, rfl, hT, ⟨a2, ys, rfl, hL2, hA2, hz2⟩, ⟨a3, xs, rfl, hL3, hA3, hz3⟩⟩ := Wb.at hd
    have hlo := hu.lo
    have hhi := hu.hi
    have hl2 := hA2.len
    rw [List.length_map] at hl2
    have hl3 := hA3.len
    rw [List.length_map] at hl3
    have hfew := hu.few
    refine ⟨_, (pss_cons (ps_set (i := 1) sc_pushed_right.nd rfl (by first | exact .inl rfl | exact .inr rfl) (pe_listRg rfl (by rfl) T.b_list (prg_1 (by rfl) T.b_range (pe_ix (ix_tupK K) (pv 0) pe_int (fun _ _ => rfl)))))
      (pss_cons (ps_set (i := 2) sc_pushed_right.nd rfl (by first | exact .inl rfl | exact .inr rfl) (pe_tup (pa_cons (pe_ix (ix_tupK K) (pv 0) pe_int (fun _ _ => rfl)) (pa_cons (pe_ix (ix_tupK K) (pv 0) pe_int (fun _ _ => rfl)) (pa_cons (pe_op (op_catS K) (pe_slice (sl_listK K) (pe_ix (ix_tupK K) (pv 0) pe_int (fun _ _ => rfl)) po_none (po_some pe_int)) (pe_lst (pa_cons (pv 1) pa_nil))) pa_nil)))))
      (pss_cons (ps_if (PW.pt (pw_or (pt_cmpR (op_neDk K hr.units) (pe_callD D_reached (hr.mono (by decide)) hq pass0 (pa_cons (pv 2) pa_nil)) (pv 1) (nomark _)) (pw_or1 (pt_cmpR (op_neDk K hr.units) (pe_callD D_unreached (hr.mono (by decide)) hq pass0 (pa_cons (pv 2) pa_nil)) (pe_lst pa_nil) (nomark _))))) (pss_one (ps_ret pe_bl)) pss_nil)
      (pss_cons (ps_for PassesOwn.never rfl (pi_listK K (pv 1)) (pg_name (i := 3) sc_pushed_right.nd rfl (by first | exact .inl rfl | exact .inr rfl)) (pss_cons (ps_asg (pe_callD D_way_to (hr.mono (by decide)) hq pass0 (pa_cons (pv 2) (pa_cons (pv 3) pa_nil))) (pg_tupK (n := 2) K rfl (pgs_cons (pg_name (i := 4) sc_pushed_right.nd rfl (by first | exact .inl rfl | exact .inr rfl)) (pgs_cons (pg_name (i := 5) sc_pushed_right.nd rfl (by first | exact .inl rfl | exact .inr rfl)) pgs_nil))))
      (pss_one (ps_if (PW.pt (pw_or (pt_cmpR (op_neDk K hr.units) (pv 5) (pe_lst (pa_cons (pv 3) pa_nil)) (nomark _)) (pw_or (pt_cmpR (op_notInK K) (pv 3) (pe_ix (ix_seqK K) (pe_ix (ix_tupK K) (pv 2) pe_int (fun _ _ => rfl)) (pv 4) (fun _ _ => rfl)) (by rfl)) (pw_or1 (pt_cmpR (op_neDk K hr.units) (pe_lc (own := [("_law_some", 6)]) rfl sc_pushed_right.nd (pi_listK K (pe_slice (sl_listK K) (pe_ix (ix_tupK K) (pv 2) pe_int (fun _ _ => rfl)) po_none (po_some (pv 4)))) (blkOk_by (N := N_pushed_right) (sc := defScope s_pushed_right) (by decide +kernel)) (fun _ _ _ _ _ => (pg_name (i := 6) sc_pushed_right.nd rfl (by first | exact .inl rfl | exact .inr rfl))) (fun _ _ _ _ _ => (pts_one (pt_cmpR (op_inK K) (pv 3) (pv 6) (by rfl)))) (fun _ _ _ _ _ => (pv 6))) (pe_lst pa_nil) (nomark _)))))) (pss_one (ps_ret pe_bl)) pss_nil))))
      (pss_one (ps_ret (pe_cmpR op_eq (pe_callD D_fewest_single (hr.mono (by decide)) hq pass0 (pa_cons (pv 2) pa_nil)) (pe_op op_sub (pe_ix (ix_tupK K) (pv 0) pe_int (fun _ _ => rfl)) (pe_callD D_pairing_size (hr.mono (by decide)) hq pass0 (pa_cons (pv 2) pa_nil))) (nomark _)))))))), ?_⟩
    refine ⟨_, rfl, t, _, 0, _, rfl, rfl, hT, rfl, u.n, rfl, RgOk.of_le (by omega) (by omega) (by omega) (by omega), fun R2 hR2 => ?_⟩
    rw [rgV_iota]
    have e1 : Ex H (upd H R2 (.lst ((iota u.n).map V.int))) := Ex.nw hR2
    have f1 : (upd H R2 (.lst ((iota u.n).map V.int))) R2 = some (.lst ((iota u.n).map V.int)) := upd_same
    generalize upd H R2 (.lst ((iota u.n).map V.int)) = H1 at e1 f1
    have il : (iota u.n).length = u.n.toNat := by
      rw [iota, List.length_map, List.length_range]
    refine ⟨_, rfl, t, _, 0, _, rfl, rfl, e1.t hT, rfl, ?_⟩
    refine ⟨_, rfl, t, _, 1, _, rfl, rfl, e1.t hT, rfl, ?_⟩
    refine ⟨_, rfl, t, _, 2, _, rfl, rfl, e1.t hT, rfl, ?_⟩
    refine ⟨_, rfl, a3, xs, rfl, .inl (.inl (e1 _ _ hL3)), fun c hc => ?_⟩
    have ec : cutV xs none (some 7) = xs.take 7 := by
      unfold cutV
      rw [HT.sIx_none, show HT.sIx xs.length xs.length (some 7) = min 7 xs.length from HT.sIx_nat xs.length xs.length 7]
      rw [List.drop_zero, Nat.sub_zero, ← List.take_eq_take_min]
    rw [ec]
    have e2 : Ex H1 (upd H1 c (.lst (xs.take 7))) := Ex.nw hc
    have f2 : (upd H1 c (.lst (xs.take 7))) c = some (.lst (xs.take 7)) := upd_same
    generalize upd H1 c (.lst (xs.take 7)) = H2 at e2 f2
    refine ⟨_, rfl, by show 1 ≤ sizeLine; decide, fun g hg => ?_⟩
    have e3 : Ex H2 (upd H2 g (.lst [.ref R2])) := Ex.nw hg
    have f3 : (upd H2 g (.lst [.ref R2])) g = some (.lst [.ref R2]) := upd_same
    generalize upd H2 g (.lst [.ref R2]) = H3 at e3 f3
    refine ⟨c, g, _, _, rfl, rfl, .inl (.inl (e3 _ _ f2)), .inl (.inl f3), by rw [List.length_take, List.length_singleton]; omega, fun z hz => ?_⟩
    have e4 : Ex H3 (upd H3 z (.lst (xs.take 7 ++ [.ref R2]))) := Ex.nw hz
    have f4 : (upd H3 z (.lst (xs.take 7 ++ [.ref R2]))) z = some (.lst (xs.take 7 ++ [.ref R2])) := upd_same
    generalize upd H3 z (.lst (xs.take 7 ++ [.ref R2])) = H4 at e4 f4
    refine ⟨by show 3 ≤ sizeLine; decide, fun T hT2 => ?_⟩
    have e5 : Ex H4 (upd H4 T (.tup [.int u.n, .ref a2, .ref z])) := Ex.nw hT2
    have f5 : (upd H4 T (.tup [.int u.n, .ref a2, .ref z])) T = some (.tup [.int u.n, .ref a2, .ref z]) := upd_same
    generalize upd H4 T (.tup [.int u.n, .ref a2, .ref z]) = H5 at e5 f5
    have e15 := ((e2.tr e3).tr e4).tr e5
    have e05 := e1.tr e15
    have f15 := e15 _ _ f1
    obtain ⟨b, eb⟩ : ∃ b : Wb, b = ⟨u.n, u.ps, u.ns.take 7 ++ [iota u.n]⟩ := ⟨_, rfl⟩
    have hb : b.Ok := by
      rw [eb]
      refine ⟨hlo, hhi, hu.ps, hu.asc, by show (u.ns.take 7 ++ [iota u.n]).length ≤ 8; rw [List.length_append, List.length_take, List.length_singleton]; omega, fun r hr => ?_⟩
      rcases List.mem_append.mp hr with hr | hr
      · exact hu.ns r (List.mem_of_mem_take hr)
      · obtain rfl := List.mem_singleton.mp hr
        refine ⟨fun e => ?_, fun x hx => mem_iota.mp hx, asc_iota _⟩
        rw [e] at il
        rw [List.length_nil] at il
        omega
    have bn : b.n = u.n := by rw [eb]
    have bns : b.ns = u.ns.take 7 ++ [iota u.n] := by rw [eb]
    have all : ∀ x, 0 ≤ x ∧ x < b.n → x ∈ b.ns.flatten := fun x hx => by
      rw [bns]
      rw [bn] at hx
      exact List.mem_flatten.mpr ⟨_, List.mem_append_right _ List.mem_cons_self, mem_iota.mpr hx⟩
    have dI : Da K H5 (dInts (iota u.n)) (.ref R2) := dInts_of f15 (by omega)
    have hA5 : DaAll K H5 (b.ns.map dInts) (xs.take 7 ++ [.ref R2]) := by
      rw [bns, List.map_append, List.map_take]
      exact (daall_take 7 (hA3.up e05)).app ⟨_, _, rfl, dI, rfl⟩
    have h8 := hb.few
    have dB : Da K H5 b.d (.ref T) := by
      have h8' : (b.ns.map dInts).length ≤ 100000 := by
        rw [List.length_map]
        omega
      rw [eb] at hA5 h8' ⊢
      exact ⟨T, _, rfl, f5, _, _, rfl, rfl, _, _, rfl, ⟨a2, ys, rfl, e05 _ _ hL2, hA2.up e05, hz2⟩, _, _, rfl, ⟨z, _, rfl, e5 _ _ f4, hA5, h8'⟩, rfl⟩
    obtain ⟨ra1, ra2⟩ := rdL_all all
    rw [bn] at ra1
    refine ⟨_, rfl, _, b, rfl, dB, hb, fun p6 H6 n6 e6 h6 => ?_⟩
    rw [ra1] at h6
    refine ⟨_, rfl, _, _, (dInts_of h6 (by omega)).dInts, (dI.up e6).dInts, sh_dInts _, sh_dInts _, _, rfl, ?_⟩
    rw [eqv_dInts]
    refine ite2 (fun h => by simp at h) (fun _ => ?_)
    refine ⟨_, rfl, _, b, rfl, dB.up e6, hb, fun p7 H7 n7 e7 h7 => ?_⟩
    rw [ra2] at h7
    refine ⟨Nat.zero_le _, fun z1 hz1 => ?_⟩
    have e8 := e7.tr (Ex.nw (o := .lst []) hz1)
    have d1 : Da K (upd H7 z1 (.lst [])) (dInts []) (.ref z1) := dInts_of (r := []) upd_same (by decide)
    have d7 : Da K (upd H7 z1 (.lst [])) (dInts []) (.ref p7) := dInts_of (r := []) (Ex.nw hz1 _ _ h7) (by decide)
    generalize upd H7 z1 (.lst []) = H8 at e8 d1 d7
    refine ⟨_, _, d7.dInts, d1.dInts, sh_dInts _, sh_dInts _, _, rfl, ?_⟩
    rw [eqv_dInts]
    refine ite2 (fun h => by simp at h) (fun _ => ?_)
    have e58 := e6.tr e8
    have sR : SqL K H5 R2 ((iota u.n).map V.int) := .inl (.inl f15)
    refine ⟨_, rfl, R2, rfl, ⟨_, e58.l sR⟩, ?_⟩
    refine for_by ((iota u.n).map V.int).length (fun i σ H' => ∃ y3 y4 y5, σ = [some (V.ref t), some (V.ref R2), some (V.ref T), y3, y4, y5, none] ∧ Ex H5 H')
      ⟨_, _, _, rfl, e58⟩ (fun i σ H' hi p => ?_) (fun σ H' p => ?_) ?_ ?_
    · obtain ⟨_, _, _, _, o6⟩ := p
      exact itl_go sR o6 hi
    · obtain ⟨_, _, _, _, o6⟩ := p
      exact itl_stop sR o6
    · rintro i σ H9 x H10 hi ⟨y3, y4, y5, rfl, e9⟩ y
      obtain ⟨rfl, hx⟩ := itl_yld y sR e9
      obtain ⟨k, hk, rfl⟩ := map_at hx
      have hkr := mem_iota.mp (List.mem_of_getElem? hk)
      refine ⟨_, rfl, _, rfl, _, b, k, rfl, dB.up e9, hb, by rw [bn]; exact hkr, fun o x H11 e11 bo _ wa => ?_⟩
      obtain ⟨j, r, rfl, j1, j2, j3⟩ := way_first bo ⟨_, iota u.n, (by rw [bns, List.getElem?_append_right (Nat.le_refl _), Nat.sub_self]; rfl), mem_iota.mpr hkr⟩
      obtain ⟨T1, P1, rfl, w1, w2, w3, w4, w5⟩ := wa
      refine ⟨T1, _, rfl, .inl (.inl w4), rfl, _, _, rfl, _, _, rfl, rfl, ?_⟩
      refine ⟨_, rfl, _, rfl, by show 1 ≤ sizeLine; decide, fun g2 hg2 => ?_⟩
      have e12 := Ex.nw (o := .lst [.int k]) hg2
      have d12 : Da K (upd H11 g2 (.lst [.int k])) (dInts [k]) (.ref g2) := dInts_of (r := [k]) upd_same (by show 1 ≤ 100000; decide)
      have dP : Da K (upd H11 g2 (.lst [.int k])) (dInts [k]) (.ref P1) := dInts_of (r := [k]) (e12 _ _ w5) (by show 1 ≤ 100000; decide)
      generalize upd H11 g2 (.lst [.int k]) = H12 at e12 d12 dP
      refine ⟨_, _, dP.dInts, d12.dInts, sh_dInts _, sh_dInts _, _, rfl, ?_⟩
      rw [eqv_dInts]
      refine ite2 (fun h => by simp at h) (fun _ => ?_)
      have e512 := e9.tr (e11.tr e12)
      have sT : SqT K H12 T [.int b.n, .ref a2, .ref z] := .inl (.inl (by rw [bn]; exact e512 _ _ f5))
      have sz : SqL K H12 z (xs.take 7 ++ [.ref R2]) := .inl (.inl ((e5.tr e512) _ _ f4))
      have jl := (List.getElem?_eq_some_iff.mp j1).1
      have hxl : (xs.take 7 ++ [V.ref R2]).length = b.ns.length := by
        have := hA5.len
        rw [List.length_map] at this
        exact this.symm
      obtain ⟨xr, x1, x2⟩ := (hA5.up e512).at (i := j) (d := dInts r) (by rw [List.getElem?_map, j1]; rfl)
      obtain ⟨ar, rfl, hr12⟩ := dInts_at x2
      refine ⟨_, rfl, _, rfl, T, _, 2, _, rfl, rfl, sT, rfl, _, rfl, .inl ⟨z, _, (j : Int), _, rfl, rfl, sz, atI_int (by omega) (by rw [Int.toNat_natCast]; exact x1), ?_⟩⟩
      refine ⟨ar, _, rfl, .inl hr12, rfl, flat_ints, _, rfl, ?_⟩
      rw [notin_int, show r.contains k = true from List.contains_iff_mem.mpr j2]
      refine ite2 (fun h => by simp at h) (fun _ => ?_)
      refine ⟨_, rfl, T, _, 2, _, rfl, rfl, sT, rfl, _, rfl, _, rfl, z, _, rfl, sz, fun c2 hc2 => ?_⟩
      rw [cut_tk _ j (by omega)]
      have eC := Ex.nw (o := .lst ((xs.take 7 ++ [V.ref R2]).take j)) hc2
      have sC : SqL K (upd H12 c2 (.lst ((xs.take 7 ++ [V.ref R2]).take j))) c2 ((xs.take 7 ++ [V.ref R2]).take j) := .inl (.inl upd_same)
      generalize upd H12 c2 (.lst ((xs.take 7 ++ [V.ref R2]).take j)) = H13 at eC sC
      have e513 := e512.tr eC
      refine ⟨c2, rfl, ⟨_, sC⟩, fun D hD => ?_⟩
      refine lc_by ((xs.take 7 ++ [V.ref R2]).take j).length (fun i H' => Ex H13 H' ∧ H' D = some (.lst ([].map V.int))) ⟨Ex.nw hD, upd_same⟩ (fun i H' hi p => itl_go sC p.1 hi) (fun H' p => itl_stop sC p.1) ?_ ?_
      · rintro i2 H14 x H15 hi2 ⟨e14, hD14⟩ y
        obtain ⟨rfl, hx⟩ := itl_yld y sC e14
        rw [List.length_take] at hi2
        rw [List.getElem?_take_of_lt (by omega)] at hx
        obtain ⟨d, hd', hdx⟩ := ((hA5.up e513).up e14).at' hx
        obtain ⟨r', hr', rfl⟩ := map_at hd'
        obtain ⟨a', rfl, sa'⟩ := dInts_at hdx
        refine ⟨rfl, _, rfl, _, rfl, a', _, rfl, .inl sa', rfl, flat_ints, _, rfl, ?_⟩
        rw [in_int]
        refine ite2 (fun h => ?_) (fun _ => ⟨e14, hD14⟩)
        exact absurd (List.contains_iff_mem.mp h) (j3 i2 r' (by omega) hr')
      · rintro H14 ⟨e14, hD14⟩
        refine ⟨Nat.zero_le _, fun z1 hz1 => ?_⟩
        have dC : Dp K (upd H14 z1 (.lst [])) (.ref D) (dInts []) := ((dInts_of (r := []) hD14 (by decide)).up (Ex.nw hz1)).dInts
        have dz : Dp K (upd H14 z1 (.lst [])) (.ref z1) (dInts []) := Da.dInts (dInts_of (r := []) upd_same (by decide))
        have ez := Ex.nw (o := .lst []) hz1
        generalize upd H14 z1 (.lst []) = H15 at ez dC dz
        refine ⟨_, _, dC, dz, sh_dInts _, sh_dInts _, _, rfl, ?_⟩
        rw [eqv_dInts]
        refine ite2 (fun h => by simp at h) (fun _ => ?_)
        exact ⟨_, _, _, rfl, e513.tr (e14.tr ez)⟩
    · rintro σ H9 ⟨y3, y4, y5, rfl, e9⟩
      refine ⟨_, rfl, _, b, rfl, dB.up e9, hb, fun S H10 e10 fS => ?_⟩
      refine ⟨_, rfl, t, _, 0, _, rfl, rfl, (e05.tr (e9.tr e10)).t hT, rfl, ?_⟩
      refine ⟨_, rfl, _, b, rfl, dB.up (e9.tr e10), hb, fun ms H11 e11 tp => ?_⟩
      have fa := few_all hb (fun x hx => rd_all all hx) fS tp
      rw [bn] at fa
      refine ⟨_, _, rfl, rfl, rfl, ?_⟩
      rw [show decide (V.int (S.length : Int) = V.int (u.n - (ms.length : Int))) = true by rw [fa]; simp]
      exact q _ (e05.tr (e9.tr (e10.tr e11)))
end

end K65
namespace K65
open PySem PySem.Spec PyProof.Rows L2 Nw
/-! _law_right: slots 0 _law_tap_here, 1 _law_web_here -/
abbrev s_right : Stmt := topS 55
abbrev N_right : List Str := ["_law_tap_here", "_law_web_here"]
abbrev P_right : List Str := ["_law_tap_here"]
theorem sc_right : FnScope N_right P_right (defScope s_right) := ⟨rfl, rfl, rfl, by decide +kernel, rfl, by decide +kernel, by decide +kernel⟩
def sp_right (K : PySem.W.Frag) : Sp := fun vs H Q _ => ∃ (p : Addr), vs = [.ref p] ∧ Tap H p ∧ ∀ H', ExD p H H' → Q (.bl true) H'
section
variable {P : Program} {w : World} {K : PySem.W.Frag} {mg : Str → Option Value} {base : Heap}
theorem ok_right {f : Addr} {fd : FuncData} (T : Txt K mg) (F : Fun K "_law_right" "_law_right" s_right f fd)
    (D_draw : DefOk P w K mg base CX0 1 "_law_draw" P_draw (sp_draw K))
    (D_web : DefOk P w K mg base CX0 3 "_law_web" P_web (sp_web K))
    (D_rooms_right : DefOk P w K mg base CX0 69 "_law_rooms_right" P_rooms_right (sp_rooms_right K))
    (D_pushed_right : DefOk P w K mg base CX0 70 "_law_pushed_right" P_pushed_right (sp_pushed_right K))
    (D_own_right : DefOk P w K mg base CX0 70 "_law_own_right" P_own_right (sp_own_right K)) :
    FnG P w K mg base CX0 71 f fd P_right (sp_right K) := by
  refine okG0 F sc_right (fun vs H Q E h => ?_) (fun cdv A outer s H vs Q E hr hq h => ?_)
  · obtain ⟨p, rfl, _⟩ := h
    rfl
  · obtain ⟨p, rfl, hp, q⟩ := h
    refine ⟨_, (pss_cons (ps_set (i := 1) sc_right.nd rfl (by first | exact .inl rfl | exact .inr rfl) (pe_callD D_web (hr.mono (by decide)) hq pass0 (pa_cons (pv 0) (pa_cons (pe_ix (ix_listK K) (pe_lst (pa_cons pe_int (pa_cons pe_int pa_nil))) (pe_callD D_draw (hr.mono (by decide)) hq pass0 (pa_cons (pv 0) (pa_cons pe_int pa_nil))) (fun _ _ => rfl)) pa_nil))))
      (pss_one (ps_ret (pe_and (pe_callD D_rooms_right (hr.mono (by decide)) hq pass0 (pa_cons (pv 1) pa_nil)) (pe_and (pe_callD D_pushed_right (hr.mono (by decide)) hq pass0 (pa_cons (pv 1) pa_nil)) (pe_one (pe_callD D_own_right (hr.mono (by decide)) hq pass0 (pa_cons (pv 1) pa_nil)))))))), ?_⟩
    refine ⟨_, rfl, by show 2 ≤ sizeLine; decide, fun M hM => ?_⟩
    have e1 : ExD p H (upd H M (.lst [.int 8, .int 20])) := ExD.nw hM
    have p1 := hp.up (Ex.nw hM (o := .lst [.int 8, .int 20]))
    have f1 : (upd H M (.lst [.int 8, .int 20])) M = some (.lst [.int 8, .int 20]) := upd_same
    have Mp := hp.off hM
    generalize upd H M (.lst [.int 8, .int 20]) = H1 at e1 p1 f1
    refine ⟨_, rfl, p, 2, rfl, by decide, p1, fun z H2 hz p2 e2 => ?_⟩
    have f2 := e2 _ _ Mp f1
    obtain ⟨wd, hwd, hat⟩ : ∃ wd : Int, (1 ≤ wd ∧ wd ≤ 20) ∧ atI [V.int 8, V.int 20] z = some (.int wd) := by
      rcases (show z = 0 ∨ z = 1 by omega) with rfl | rfl
      · exact ⟨8, by decide, rfl⟩
      · exact ⟨20, by decide, rfl⟩
    refine ⟨M, _, z, .int wd, rfl, rfl, .inl (.inl f2), hat, p, wd, rfl, hwd, p2, fun v u H3 e3 p3 hv hu _ => ?_⟩
    have e03 := (e1.tr e2).tr e3
    refine ⟨_, rfl, v, u, rfl, hv.up rm_ex, hu, fun H4 e4 => ⟨_, rfl, ?_⟩⟩
    rw [if_pos rfl]
    refine ⟨_, rfl, v, u, rfl, (hv.up rm_ex).up e4, hu, fun H5 e5 => ⟨_, rfl, ?_⟩⟩
    rw [if_pos rfl]
    refine ⟨_, rfl, v, u, rfl, ((hv.up rm_ex).up e4).up e5, hu, fun H6 e6 => ?_⟩
    exact q H6 (e03.tr ((e4.tr (e5.tr e6)).d))
end

end K65
namespace K65
open PySem PySem.Spec PyProof.Rows L2 Nw
/-! law: slots 0 _law_script, 1 _law_cells_here, 2 _law_k -/
abbrev s_law : Stmt := topS 56
abbrev N_law : List Str := ["_law_script", "_law_cells_here", "_law_k"]
abbrev P_law : List Str := ["_law_script"]
theorem sc_law : FnScope N_law P_law (defScope s_law) := ⟨rfl, rfl, rfl, by decide +kernel, rfl, by decide +kernel, by decide +kernel⟩
def sp_law (K : PySem.W.Frag) : Sp := fun vs H Q _ => ∃ (a : Addr) (ns : List Int), vs = [.ref a] ∧ ns.length ≤ 63 ∧ SqL K H a (ns.map V.int) ∧ ∀ H', Ex H H' → Q (.bl true) H'
theorem sp_law_start {K : PySem.W.Frag} {H : Hp} {a : Addr} {ns : List Int} (hl : ns.length ≤ 63) (hS : SqL K H a (ns.map V.int)) : sp_law K [.ref a] H (fun v _ => v = .bl true) (fun _ _ _ => False) :=
  ⟨a, ns, rfl, hl, hS, fun _ _ => rfl⟩
section
variable {P : Program} {w : World} {K : PySem.W.Frag} {mg : Str → Option Value} {base : Heap}
theorem ok_law {f : Addr} {fd : FuncData} (T : Txt K mg) (F : Fun K "law" "law" s_law f fd)
    (D_tap : DefOk P w K mg base CX0 1 "_law_tap" P_tap (sp_tap K))
    (D_cells : DefOk P w K mg base CX0 1 "_law_cells" P_cells (sp_cells K))
    (D_right : DefOk P w K mg base CX0 71 "_law_right" P_right (sp_right K)) :
    FnG P w K mg base CX0 72 f fd P_law (sp_law K) := by
  refine okG0 F sc_law (fun vs H Q E h => ?_) (fun cdv A outer s H vs Q E hr hq h => ?_)
  · obtain ⟨a, ns, rfl, _⟩ := h
    rfl
  · obtain ⟨a, ns, rfl, hn, hS, q⟩ := h
    refine ⟨_, (pss_cons (ps_set (i := 1) sc_law.nd rfl (by first | exact .inl rfl | exact .inr rfl) (pe_callD D_cells (hr.mono (by decide)) hq pass0 (pa_cons (pv 0) (pa_cons pe_int pa_nil))))
      (pss_one (ps_ret (pe_cmpR (op_eqDk K hr.units) (pe_lc (own := [("_law_k", 2)]) rfl sc_law.nd (pi_range1 (by rfl) T.b_range (pa_cons (pe_callB (call_lenK K) (by rfl) T.b_len bt_len (pa_cons (pv 1) pa_nil)) pa_nil)) (blkOk_by (N := N_law) (sc := defScope s_law) (by decide +kernel)) (fun _ _ _ _ _ => (pg_name (i := 2) sc_law.nd rfl (by first | exact .inl rfl | exact .inr rfl))) (fun _ _ _ _ _ => (pts_one (pt_not (pt_val (pe_callD D_right (hr.mono (by decide)) hq pass0 (pa_cons (pe_callD D_tap (hr.mono (by decide)) hq pass0 (pa_cons (pe_ix (ix_seqK K) (pv 1) (pv 2) (fun _ _ => rfl)) (pa_cons (pv 2) pa_nil))) pa_nil)))))) (fun _ _ _ _ _ => (pv 2))) (pe_lst pa_nil) (nomark _))))), ?_⟩
    refine ⟨_, rfl, a, ns, 3, rfl, hS, hn, by decide, fun l cs H1 hl e1 h1 hc => ?_⟩
    have sC : SqL K H1 l (cs.map V.int) := .inl (.inl h1)
    refine ⟨_, rfl, l, _, rfl, .inl (.inl (.inl h1)), _, rfl, by rw [List.length_map]; omega, by rw [List.length_map]; omega, fun D hD => ?_⟩
    rw [List.length_map]
    refine lc_by cs.length (fun i H' => Ex H1 H' ∧ H' D = some (.lst ([].map V.int))) ⟨Ex.nw hD, upd_same⟩ (fun i H' hi p => (by show i < _; omega)) (fun H' p => (by show _ ≤ cs.length; omega)) ?_ ?_
    · rintro i H9 x H2 hi ⟨e2, hD2⟩ ⟨rfl, rfl⟩
      have hx := List.getElem?_eq_getElem hi
      generalize cs[i] = c at hx
      refine ⟨rfl, _, rfl, _, rfl, .inl ⟨l, _, _, .int c, rfl, rfl, e2.l sC, atI_int (by omega) (by rw [show (0 + (i : Int)).toNat = i by omega, List.getElem?_map, hx]; rfl), ?_⟩⟩
      refine ⟨_, rfl, c, _, rfl, by omega, fun p H3 hp e3 p3 => ⟨p, rfl, p3, fun H4 e4 => ⟨_, rfl, ite2 (fun h => by cases h) (fun _ => ?_)⟩⟩⟩
      have e24 : Ex H2 H4 := fun b o h => e4 b o (fun e => by
        rw [e, hp] at h
        cases h) (e3 b o h)
      exact ⟨e2.tr e24, e24 _ _ hD2⟩
    · rintro H2 ⟨e2, hD2⟩
      refine ⟨Nat.zero_le _, fun z hz => ?_⟩
      have dC : Dp K (upd H2 z (.lst [])) (.ref D) (dInts []) := ((dInts_of (r := []) hD2 (by decide)).up (Ex.nw hz)).dInts
      have dz : Dp K (upd H2 z (.lst [])) (.ref z) (dInts []) := Da.dInts (dInts_of (r := []) upd_same (by decide))
      refine ⟨_, _, dC, dz, sh_dInts _, sh_dInts _, ?_⟩
      rw [eqv_dInts, decide_eq_true rfl]
      exact q _ (e1.tr (e2.tr (Ex.nw hz)))
end

theorem all_mk {l : PySem.W.OpenLaw} {w : World} {K : PySem.W.Frag} {h : Heap} {mg : Str → Option Value} {fa : Addr} (X : K.In h) (G : h.Ns mainGlobals mg) (hfa : mg "law" = some (.ref fa))
    {f0 f1 f2 f3 f4 f5 f6 f7 f8 f9 f10 f11 f12 f13 f14 f15 f16 f17 f18 f19 f20 f21 f22 f23 f24 f25 f26 f27 f28 f29 f30 f31 f32 f33 f34 f35 f36 f37 f38 f39 f40 f41 f42 f43 : Addr} {od0 an0 od1 an1 od2 an2 od3 an3 od4 an4 od5 an5 od6 an6 od7 an7 od8 an8 od9 an9 od10 an10 od11 an11 od12 an12 od13 an13 od14 an14 od15 an15 od16 an16 od17 an17 od18 an18 od19 an19 od20 an20 od21 an21 od22 an22 od23 an23 od24 an24 od25 an25 od26 an26 od27 an27 od28 an28 od29 an29 od30 an30 od31 an31 od32 an32 od33 an33 od34 an34 od35 an35 od36 an36 od37 an37 od38 an38 od39 an39 od40 an40 od41 an41 od42 an42 od43 an43 : Option Addr} {sl0 sl1 sl2 sl3 sl4 sl5 sl6 sl7 sl8 sl9 sl10 sl11 sl12 sl13 sl14 sl15 sl16 sl17 sl18 sl19 sl20 sl21 sl22 sl23 sl24 sl25 sl26 sl27 sl28 sl29 sl30 sl31 sl32 sl33 sl34 sl35 sl36 sl37 sl38 sl39 sl40 sl41 sl42 sl43 : Array (Option Value)}
    {oc0 kV0 dc0 pm0 cd0 ct0 oc1 kV1 dc1 pm1 cd1 ct1 oc2 kV2 dc2 pm2 cd2 ct2 oc3 kV3 dc3 pm3 cd3 ct3 oc4 kV4 dc4 pm4 cd4 ct4 oc5 kV5 dc5 pm5 cd5 ct5 oc6 kV6 dc6 pm6 cd6 ct6 oc7 kV7 dc7 pm7 cd7 ct7 oc8 kV8 dc8 pm8 cd8 ct8 oc9 kV9 dc9 pm9 cd9 ct9 oc10 kV10 dc10 pm10 cd10 ct10 oc11 kV11 dc11 pm11 cd11 ct11 oc12 kV12 dc12 pm12 cd12 ct12 oc13 kV13 dc13 pm13 cd13 ct13 oc14 kV14 dc14 pm14 cd14 ct14 oc15 kV15 dc15 pm15 cd15 ct15 oc16 kV16 dc16 pm16 cd16 ct16 oc17 kV17 dc17 pm17 cd17 ct17 oc18 kV18 dc18 pm18 cd18 ct18 oc19 kV19 dc19 pm19 cd19 ct19 oc20 kV20 dc20 pm20 cd20 ct20 oc21 kV21 dc21 pm21 cd21 ct21 oc22 kV22 dc22 pm22 cd22 ct22 oc23 kV23 dc23 pm23 cd23 ct23 oc24 kV24 dc24 pm24 cd24 ct24 oc25 kV25 dc25 pm25 cd25 ct25 oc26 kV26 dc26 pm26 cd26 ct26 oc27 kV27 dc27 pm27 cd27 ct27 oc28 kV28 dc28 pm28 cd28 ct28 oc29 kV29 dc29 pm29 cd29 ct29 oc30 kV30 dc30 pm30 cd30 ct30 oc31 kV31 dc31 pm31 cd31 ct31 oc32 kV32 dc32 pm32 cd32 ct32 oc33 kV33 dc33 pm33 cd33 ct33 oc34 kV34 dc34 pm34 cd34 ct34 oc35 kV35 dc35 pm35 cd35 ct35 oc36 kV36 dc36 pm36 cd36 ct36 oc37 kV37 dc37 pm37 cd37 ct37 oc38 kV38 dc38 pm38 cd38 ct38 oc39 kV39 dc39 pm39 cd39 ct39 oc40 kV40 dc40 pm40 cd40 ct40 oc41 kV41 dc41 pm41 cd41 ct41 oc42 kV42 dc42 pm42 cd42 ct42 oc43 kV43 dc43 pm43 cd43 ct43 : Value}
    (a0 : PySem.W.nsIn K mainGlobals "_law_tap" = some (some (.ref f0))) (l0 : K.lookup f0 = some ⟨oc0, od0, .func (PySem.W.fnOf "_law_tap" "_law_tap" (defArgs s_tap) (defBody s_tap) (defScope s_tap) .none kV0 dc0 pm0 an0 cd0 ct0), sl0⟩) (c0 : PySem.W.codeIn K cd0 "_law_tap" = true) (k0 : PySem.W.keepIn K (.ref f0) = true)
    (a1 : PySem.W.nsIn K mainGlobals "_law_cells" = some (some (.ref f1))) (l1 : K.lookup f1 = some ⟨oc1, od1, .func (PySem.W.fnOf "_law_cells" "_law_cells" (defArgs s_cells) (defBody s_cells) (defScope s_cells) .none kV1 dc1 pm1 an1 cd1 ct1), sl1⟩) (c1 : PySem.W.codeIn K cd1 "_law_cells" = true) (k1 : PySem.W.keepIn K (.ref f1) = true)
    (a2 : PySem.W.nsIn K mainGlobals "_law_draw" = some (some (.ref f2))) (l2 : K.lookup f2 = some ⟨oc2, od2, .func (PySem.W.fnOf "_law_draw" "_law_draw" (defArgs s_draw) (defBody s_draw) (defScope s_draw) .none kV2 dc2 pm2 an2 cd2 ct2), sl2⟩) (c2 : PySem.W.codeIn K cd2 "_law_draw" = true) (k2 : PySem.W.keepIn K (.ref f2) = true)
    (a3 : PySem.W.nsIn K mainGlobals "_law_order" = some (some (.ref f3))) (l3 : K.lookup f3 = some ⟨oc3, od3, .func (PySem.W.fnOf "_law_order" "_law_order" (defArgs s_order) (defBody s_order) (defScope s_order) .none kV3 dc3 pm3 an3 cd3 ct3), sl3⟩) (c3 : PySem.W.codeIn K cd3 "_law_order" = true) (k3 : PySem.W.keepIn K (.ref f3) = true)
    (a4 : PySem.W.nsIn K mainGlobals "_law_pairs" = some (some (.ref f4))) (l4 : K.lookup f4 = some ⟨oc4, od4, .func (PySem.W.fnOf "_law_pairs" "_law_pairs" (defArgs s_pairs) (defBody s_pairs) (defScope s_pairs) .none kV4 dc4 pm4 an4 cd4 ct4), sl4⟩) (c4 : PySem.W.codeIn K cd4 "_law_pairs" = true) (k4 : PySem.W.keepIn K (.ref f4) = true)
    (a5 : PySem.W.nsIn K mainGlobals "_law_nudges" = some (some (.ref f5))) (l5 : K.lookup f5 = some ⟨oc5, od5, .func (PySem.W.fnOf "_law_nudges" "_law_nudges" (defArgs s_nudges) (defBody s_nudges) (defScope s_nudges) .none kV5 dc5 pm5 an5 cd5 ct5), sl5⟩) (c5 : PySem.W.codeIn K cd5 "_law_nudges" = true) (k5 : PySem.W.keepIn K (.ref f5) = true)
    (a6 : PySem.W.nsIn K mainGlobals "_law_web" = some (some (.ref f6))) (l6 : K.lookup f6 = some ⟨oc6, od6, .func (PySem.W.fnOf "_law_web" "_law_web" (defArgs s_web) (defBody s_web) (defScope s_web) .none kV6 dc6 pm6 an6 cd6 ct6), sl6⟩) (c6 : PySem.W.codeIn K cd6 "_law_web" = true) (k6 : PySem.W.keepIn K (.ref f6) = true)
    (a7 : PySem.W.nsIn K mainGlobals "is_integer" = some (some (.ref f7))) (l7 : K.lookup f7 = some ⟨oc7, od7, .func (PySem.W.fnOf "is_integer" "is_integer" (defArgs s_is_integer) (defBody s_is_integer) (defScope s_is_integer) .none kV7 dc7 pm7 an7 cd7 ct7), sl7⟩) (c7 : PySem.W.codeIn K cd7 "is_integer" = true) (k7 : PySem.W.keepIn K (.ref f7) = true)
    (a8 : PySem.W.nsIn K mainGlobals "is_number_below" = some (some (.ref f8))) (l8 : K.lookup f8 = some ⟨oc8, od8, .func (PySem.W.fnOf "is_number_below" "is_number_below" (defArgs s_is_number_below) (defBody s_is_number_below) (defScope s_is_number_below) .none kV8 dc8 pm8 an8 cd8 ct8), sl8⟩) (c8 : PySem.W.codeIn K cd8 "is_number_below" = true) (k8 : PySem.W.keepIn K (.ref f8) = true)
    (a9 : PySem.W.nsIn K mainGlobals "is_tuple_below" = some (some (.ref f9))) (l9 : K.lookup f9 = some ⟨oc9, od9, .func (PySem.W.fnOf "is_tuple_below" "is_tuple_below" (defArgs s_is_tuple_below) (defBody s_is_tuple_below) (defScope s_is_tuple_below) .none kV9 dc9 pm9 an9 cd9 ct9), sl9⟩) (c9 : PySem.W.codeIn K cd9 "is_tuple_below" = true) (k9 : PySem.W.keepIn K (.ref f9) = true)
    (a10 : PySem.W.nsIn K mainGlobals "are_ascending" = some (some (.ref f10))) (l10 : K.lookup f10 = some ⟨oc10, od10, .func (PySem.W.fnOf "are_ascending" "are_ascending" (defArgs s_are_ascending) (defBody s_are_ascending) (defScope s_are_ascending) .none kV10 dc10 pm10 an10 cd10 ct10), sl10⟩) (c10 : PySem.W.codeIn K cd10 "are_ascending" = true) (k10 : PySem.W.keepIn K (.ref f10) = true)
    (a11 : PySem.W.nsIn K mainGlobals "are_ascending_tuples" = some (some (.ref f11))) (l11 : K.lookup f11 = some ⟨oc11, od11, .func (PySem.W.fnOf "are_ascending_tuples" "are_ascending_tuples" (defArgs s_are_ascending_tuples) (defBody s_are_ascending_tuples) (defScope s_are_ascending_tuples) .none kV11 dc11 pm11 an11 cd11 ct11), sl11⟩) (c11 : PySem.W.codeIn K cd11 "are_ascending_tuples" = true) (k11 : PySem.W.keepIn K (.ref f11) = true)
    (a12 : PySem.W.nsIn K mainGlobals "are_below" = some (some (.ref f12))) (l12 : K.lookup f12 = some ⟨oc12, od12, .func (PySem.W.fnOf "are_below" "are_below" (defArgs s_are_below) (defBody s_are_below) (defScope s_are_below) .none kV12 dc12 pm12 an12 cd12 ct12), sl12⟩) (c12 : PySem.W.codeIn K cd12 "are_below" = true) (k12 : PySem.W.keepIn K (.ref f12) = true)
    (a13 : PySem.W.nsIn K mainGlobals "are_targets" = some (some (.ref f13))) (l13 : K.lookup f13 = some ⟨oc13, od13, .func (PySem.W.fnOf "are_targets" "are_targets" (defArgs s_are_targets) (defBody s_are_targets) (defScope s_are_targets) .none kV13 dc13 pm13 an13 cd13 ct13), sl13⟩) (c13 : PySem.W.codeIn K cd13 "are_targets" = true) (k13 : PySem.W.keepIn K (.ref f13) = true)
    (a14 : PySem.W.nsIn K mainGlobals "are_nudges" = some (some (.ref f14))) (l14 : K.lookup f14 = some ⟨oc14, od14, .func (PySem.W.fnOf "are_nudges" "are_nudges" (defArgs s_are_nudges) (defBody s_are_nudges) (defScope s_are_nudges) .none kV14 dc14 pm14 an14 cd14 ct14), sl14⟩) (c14 : PySem.W.codeIn K cd14 "are_nudges" = true) (k14 : PySem.W.keepIn K (.ref f14) = true)
    (a15 : PySem.W.nsIn K mainGlobals "has_web_shape" = some (some (.ref f15))) (l15 : K.lookup f15 = some ⟨oc15, od15, .func (PySem.W.fnOf "has_web_shape" "has_web_shape" (defArgs s_has_web_shape) (defBody s_has_web_shape) (defScope s_has_web_shape) .none kV15 dc15 pm15 an15 cd15 ct15), sl15⟩) (c15 : PySem.W.codeIn K cd15 "has_web_shape" = true) (k15 : PySem.W.keepIn K (.ref f15) = true)
    (a16 : PySem.W.nsIn K mainGlobals "check_web" = some (some (.ref f16))) (l16 : K.lookup f16 = some ⟨oc16, od16, .func (PySem.W.fnOf "check_web" "check_web" (defArgs s_check_web) (defBody s_check_web) (defScope s_check_web) .none kV16 dc16 pm16 an16 cd16 ct16), sl16⟩) (c16 : PySem.W.codeIn K cd16 "check_web" = true) (k16 : PySem.W.keepIn K (.ref f16) = true)
    (a17 : PySem.W.nsIn K mainGlobals "copied_nudges" = some (some (.ref f17))) (l17 : K.lookup f17 = some ⟨oc17, od17, .func (PySem.W.fnOf "copied_nudges" "copied_nudges" (defArgs s_copied_nudges) (defBody s_copied_nudges) (defScope s_copied_nudges) .none kV17 dc17 pm17 an17 cd17 ct17), sl17⟩) (c17 : PySem.W.codeIn K cd17 "copied_nudges" = true) (k17 : PySem.W.keepIn K (.ref f17) = true)
    (a18 : PySem.W.nsIn K mainGlobals "turned" = some (some (.ref f18))) (l18 : K.lookup f18 = some ⟨oc18, od18, .func (PySem.W.fnOf "turned" "turned" (defArgs s_turned) (defBody s_turned) (defScope s_turned) .none kV18 dc18 pm18 an18 cd18 ct18), sl18⟩) (c18 : PySem.W.codeIn K cd18 "turned" = true) (k18 : PySem.W.keepIn K (.ref f18) = true)
    (a19 : PySem.W.nsIn K mainGlobals "all_lines" = some (some (.ref f19))) (l19 : K.lookup f19 = some ⟨oc19, od19, .func (PySem.W.fnOf "all_lines" "all_lines" (defArgs s_all_lines) (defBody s_all_lines) (defScope s_all_lines) .none kV19 dc19 pm19 an19 cd19 ct19), sl19⟩) (c19 : PySem.W.codeIn K cd19 "all_lines" = true) (k19 : PySem.W.keepIn K (.ref f19) = true)
    (a20 : PySem.W.nsIn K mainGlobals "target_rows" = some (some (.ref f20))) (l20 : K.lookup f20 = some ⟨oc20, od20, .func (PySem.W.fnOf "target_rows" "target_rows" (defArgs s_target_rows) (defBody s_target_rows) (defScope s_target_rows) .none kV20 dc20 pm20 an20 cd20 ct20), sl20⟩) (c20 : PySem.W.codeIn K cd20 "target_rows" = true) (k20 : PySem.W.keepIn K (.ref f20) = true)
    (a21 : PySem.W.nsIn K mainGlobals "quantities_behind" = some (some (.ref f21))) (l21 : K.lookup f21 = some ⟨oc21, od21, .func (PySem.W.fnOf "quantities_behind" "quantities_behind" (defArgs s_quantities_behind) (defBody s_quantities_behind) (defScope s_quantities_behind) .none kV21 dc21 pm21 an21 cd21 ct21), sl21⟩) (c21 : PySem.W.codeIn K cd21 "quantities_behind" = true) (k21 : PySem.W.keepIn K (.ref f21) = true)
    (a22 : PySem.W.nsIn K mainGlobals "reached_quantities" = some (some (.ref f22))) (l22 : K.lookup f22 = some ⟨oc22, od22, .func (PySem.W.fnOf "reached_quantities" "reached_quantities" (defArgs s_reached_quantities) (defBody s_reached_quantities) (defScope s_reached_quantities) .none kV22 dc22 pm22 an22 cd22 ct22), sl22⟩) (c22 : PySem.W.codeIn K cd22 "reached_quantities" = true) (k22 : PySem.W.keepIn K (.ref f22) = true)
    (a23 : PySem.W.nsIn K mainGlobals "unreached" = some (some (.ref f23))) (l23 : K.lookup f23 = some ⟨oc23, od23, .func (PySem.W.fnOf "unreached" "unreached" (defArgs s_unreached) (defBody s_unreached) (defScope s_unreached) .none kV23 dc23 pm23 an23 cd23 ct23), sl23⟩) (c23 : PySem.W.codeIn K cd23 "unreached" = true) (k23 : PySem.W.keepIn K (.ref f23) = true)
    (a24 : PySem.W.nsIn K mainGlobals "all_rooms" = some (some (.ref f24))) (l24 : K.lookup f24 = some ⟨oc24, od24, .func (PySem.W.fnOf "all_rooms" "all_rooms" (defArgs s_all_rooms) (defBody s_all_rooms) (defScope s_all_rooms) .none kV24 dc24 pm24 an24 cd24 ct24), sl24⟩) (c24 : PySem.W.codeIn K cd24 "all_rooms" = true) (k24 : PySem.W.keepIn K (.ref f24) = true)
    (a25 : PySem.W.nsIn K mainGlobals "rooms" = some (some (.ref f25))) (l25 : K.lookup f25 = some ⟨oc25, od25, .func (PySem.W.fnOf "rooms" "rooms" (defArgs s_rooms) (defBody s_rooms) (defScope s_rooms) .none kV25 dc25 pm25 an25 cd25 ct25), sl25⟩) (c25 : PySem.W.codeIn K cd25 "rooms" = true) (k25 : PySem.W.keepIn K (.ref f25) = true)
    (a26 : PySem.W.nsIn K mainGlobals "are_in_one" = some (some (.ref f26))) (l26 : K.lookup f26 = some ⟨oc26, od26, .func (PySem.W.fnOf "are_in_one" "are_in_one" (defArgs s_are_in_one) (defBody s_are_in_one) (defScope s_are_in_one) .none kV26 dc26 pm26 an26 cd26 ct26), sl26⟩) (c26 : PySem.W.codeIn K cd26 "are_in_one" = true) (k26 : PySem.W.keepIn K (.ref f26) = true)
    (a27 : PySem.W.nsIn K mainGlobals "first_rooms" = some (some (.ref f27))) (l27 : K.lookup f27 = some ⟨oc27, od27, .func (PySem.W.fnOf "first_rooms" "first_rooms" (defArgs s_first_rooms) (defBody s_first_rooms) (defScope s_first_rooms) .none kV27 dc27 pm27 an27 cd27 ct27), sl27⟩) (c27 : PySem.W.codeIn K cd27 "first_rooms" = true) (k27 : PySem.W.keepIn K (.ref f27) = true)
    (a28 : PySem.W.nsIn K mainGlobals "source_rows" = some (some (.ref f28))) (l28 : K.lookup f28 = some ⟨oc28, od28, .func (PySem.W.fnOf "source_rows" "source_rows" (defArgs s_source_rows) (defBody s_source_rows) (defScope s_source_rows) .none kV28 dc28 pm28 an28 cd28 ct28), sl28⟩) (c28 : PySem.W.codeIn K cd28 "source_rows" = true) (k28 : PySem.W.keepIn K (.ref f28) = true)
    (a29 : PySem.W.nsIn K mainGlobals "find_source" = some (some (.ref f29))) (l29 : K.lookup f29 = some ⟨oc29, od29, .func (PySem.W.fnOf "find_source" "find_source" (defArgs s_find_source) (defBody s_find_source) (defScope s_find_source) .none kV29 dc29 pm29 an29 cd29 ct29), sl29⟩) (c29 : PySem.W.codeIn K cd29 "find_source" = true) (k29 : PySem.W.keepIn K (.ref f29) = true)
    (a30 : PySem.W.nsIn K mainGlobals "targets_of_paired" = some (some (.ref f30))) (l30 : K.lookup f30 = some ⟨oc30, od30, .func (PySem.W.fnOf "targets_of_paired" "targets_of_paired" (defArgs s_targets_of_paired) (defBody s_targets_of_paired) (defScope s_targets_of_paired) .none kV30 dc30 pm30 an30 cd30 ct30), sl30⟩) (c30 : PySem.W.codeIn K cd30 "targets_of_paired" = true) (k30 : PySem.W.keepIn K (.ref f30) = true)
    (a31 : PySem.W.nsIn K mainGlobals "pairing_size" = some (some (.ref f31))) (l31 : K.lookup f31 = some ⟨oc31, od31, .func (PySem.W.fnOf "pairing_size" "pairing_size" (defArgs s_pairing_size) (defBody s_pairing_size) (defScope s_pairing_size) .none kV31 dc31 pm31 an31 cd31 ct31), sl31⟩) (c31 : PySem.W.codeIn K cd31 "pairing_size" = true) (k31 : PySem.W.keepIn K (.ref f31) = true)
    (a32 : PySem.W.nsIn K mainGlobals "_law_rooms_right" = some (some (.ref f32))) (l32 : K.lookup f32 = some ⟨oc32, od32, .func (PySem.W.fnOf "_law_rooms_right" "_law_rooms_right" (defArgs s_rooms_right) (defBody s_rooms_right) (defScope s_rooms_right) .none kV32 dc32 pm32 an32 cd32 ct32), sl32⟩) (c32 : PySem.W.codeIn K cd32 "_law_rooms_right" = true) (k32 : PySem.W.keepIn K (.ref f32) = true)
    (a33 : PySem.W.nsIn K mainGlobals "reached" = some (some (.ref f33))) (l33 : K.lookup f33 = some ⟨oc33, od33, .func (PySem.W.fnOf "reached" "reached" (defArgs s_reached) (defBody s_reached) (defScope s_reached) .none kV33 dc33 pm33 an33 cd33 ct33), sl33⟩) (c33 : PySem.W.codeIn K cd33 "reached" = true) (k33 : PySem.W.keepIn K (.ref f33) = true)
    (a34 : PySem.W.nsIn K mainGlobals "check_quantity" = some (some (.ref f34))) (l34 : K.lookup f34 = some ⟨oc34, od34, .func (PySem.W.fnOf "check_quantity" "check_quantity" (defArgs s_check_quantity) (defBody s_check_quantity) (defScope s_check_quantity) .none kV34 dc34 pm34 an34 cd34 ct34), sl34⟩) (c34 : PySem.W.codeIn K cd34 "check_quantity" = true) (k34 : PySem.W.keepIn K (.ref f34) = true)
    (a35 : PySem.W.nsIn K mainGlobals "lengths_to" = some (some (.ref f35))) (l35 : K.lookup f35 = some ⟨oc35, od35, .func (PySem.W.fnOf "lengths_to" "lengths_to" (defArgs s_lengths_to) (defBody s_lengths_to) (defScope s_lengths_to) .none kV35 dc35 pm35 an35 cd35 ct35), sl35⟩) (c35 : PySem.W.codeIn K cd35 "lengths_to" = true) (k35 : PySem.W.keepIn K (.ref f35) = true)
    (a36 : PySem.W.nsIn K mainGlobals "way_to" = some (some (.ref f36))) (l36 : K.lookup f36 = some ⟨oc36, od36, .func (PySem.W.fnOf "way_to" "way_to" (defArgs s_way_to) (defBody s_way_to) (defScope s_way_to) .none kV36 dc36 pm36 an36 cd36 ct36), sl36⟩) (c36 : PySem.W.codeIn K cd36 "way_to" = true) (k36 : PySem.W.keepIn K (.ref f36) = true)
    (a37 : PySem.W.nsIn K mainGlobals "single_nudges" = some (some (.ref f37))) (l37 : K.lookup f37 = some ⟨oc37, od37, .func (PySem.W.fnOf "single_nudges" "single_nudges" (defArgs s_single_nudges) (defBody s_single_nudges) (defScope s_single_nudges) .none kV37 dc37 pm37 an37 cd37 ct37), sl37⟩) (c37 : PySem.W.codeIn K cd37 "single_nudges" = true) (k37 : PySem.W.keepIn K (.ref f37) = true)
    (a38 : PySem.W.nsIn K mainGlobals "fewest_single" = some (some (.ref f38))) (l38 : K.lookup f38 = some ⟨oc38, od38, .func (PySem.W.fnOf "fewest_single" "fewest_single" (defArgs s_fewest_single) (defBody s_fewest_single) (defScope s_fewest_single) .none kV38 dc38 pm38 an38 cd38 ct38), sl38⟩) (c38 : PySem.W.codeIn K cd38 "fewest_single" = true) (k38 : PySem.W.keepIn K (.ref f38) = true)
    (a39 : PySem.W.nsIn K mainGlobals "_law_pushed_right" = some (some (.ref f39))) (l39 : K.lookup f39 = some ⟨oc39, od39, .func (PySem.W.fnOf "_law_pushed_right" "_law_pushed_right" (defArgs s_pushed_right) (defBody s_pushed_right) (defScope s_pushed_right) .none kV39 dc39 pm39 an39 cd39 ct39), sl39⟩) (c39 : PySem.W.codeIn K cd39 "_law_pushed_right" = true) (k39 : PySem.W.keepIn K (.ref f39) = true)
    (a40 : PySem.W.nsIn K mainGlobals "loose" = some (some (.ref f40))) (l40 : K.lookup f40 = some ⟨oc40, od40, .func (PySem.W.fnOf "loose" "loose" (defArgs s_loose) (defBody s_loose) (defScope s_loose) .none kV40 dc40 pm40 an40 cd40 ct40), sl40⟩) (c40 : PySem.W.codeIn K cd40 "loose" = true) (k40 : PySem.W.keepIn K (.ref f40) = true)
    (a41 : PySem.W.nsIn K mainGlobals "_law_own_right" = some (some (.ref f41))) (l41 : K.lookup f41 = some ⟨oc41, od41, .func (PySem.W.fnOf "_law_own_right" "_law_own_right" (defArgs s_own_right) (defBody s_own_right) (defScope s_own_right) .none kV41 dc41 pm41 an41 cd41 ct41), sl41⟩) (c41 : PySem.W.codeIn K cd41 "_law_own_right" = true) (k41 : PySem.W.keepIn K (.ref f41) = true)
    (a42 : PySem.W.nsIn K mainGlobals "_law_right" = some (some (.ref f42))) (l42 : K.lookup f42 = some ⟨oc42, od42, .func (PySem.W.fnOf "_law_right" "_law_right" (defArgs s_right) (defBody s_right) (defScope s_right) .none kV42 dc42 pm42 an42 cd42 ct42), sl42⟩) (c42 : PySem.W.codeIn K cd42 "_law_right" = true) (k42 : PySem.W.keepIn K (.ref f42) = true)
    (a43 : PySem.W.nsIn K mainGlobals "law" = some (some (.ref f43))) (l43 : K.lookup f43 = some ⟨oc43, od43, .func (PySem.W.fnOf "law" "law" (defArgs s_law) (defBody s_law) (defScope s_law) .none kV43 dc43 pm43 an43 cd43 ct43), sl43⟩) (c43 : PySem.W.codeIn K cd43 "law" = true) (k43 : PySem.W.keepIn K (.ref f43) = true)
    (z_isinstance : PySem.W.nsIn K mainGlobals "isinstance" = some none)
    (z_len : PySem.W.nsIn K mainGlobals "len" = some none)
    (z_all : PySem.W.nsIn K mainGlobals "all" = some none)
    (z_any : PySem.W.nsIn K mainGlobals "any" = some none)
    (z_abs : PySem.W.nsIn K mainGlobals "abs" = some none)
    (z_max : PySem.W.nsIn K mainGlobals "max" = some none)
    (z_min : PySem.W.nsIn K mainGlobals "min" = some none)
    (z_sorted : PySem.W.nsIn K mainGlobals "sorted" = some none)
    (z_int : PySem.W.nsIn K mainGlobals "int" = some none)
    (z_bool : PySem.W.nsIn K mainGlobals "bool" = some none)
    (z_list : PySem.W.nsIn K mainGlobals "list" = some none)
    (z_tuple : PySem.W.nsIn K mainGlobals "tuple" = some none)
    (z_set : PySem.W.nsIn K mainGlobals "set" = some none)
    (z_range : PySem.W.nsIn K mainGlobals "range" = some none)
    (z_enumerate : PySem.W.nsIn K mainGlobals "enumerate" = some none)
    (z_zip : PySem.W.nsIn K mainGlobals "zip" = some none)
    {t_MOST_QUANTITIES : Tok} (v_MOST_QUANTITIES : PySem.W.nsIn K mainGlobals "MOST_QUANTITIES" = some (some (.int 20 t_MOST_QUANTITIES)))
    {t_MOST_NUDGES : Tok} (v_MOST_NUDGES : PySem.W.nsIn K mainGlobals "MOST_NUDGES" = some (some (.int 8 t_MOST_NUDGES)))
    : ∃ fd : FuncData, (∀ (s : Shared) (v : Value), BindsTo s fd ⟨[v], []⟩ [("_law_script", v)]) ∧ ∀ base : Heap, K.In base → base.Ns mainGlobals mg → FnG l.prog w K mg base CX0 72 fa fd ["_law_script"] (sp_law K) := by
  have e := hfa.symm.trans (PySem.W.mg_of X G a43)
  cases e
  have T : Txt K mg := ⟨PySem.W.mg_none_of X G z_isinstance, PySem.W.mg_none_of X G z_len, PySem.W.mg_none_of X G z_all, PySem.W.mg_none_of X G z_any, PySem.W.mg_none_of X G z_abs, PySem.W.mg_none_of X G z_max, PySem.W.mg_none_of X G z_min, PySem.W.mg_none_of X G z_sorted, PySem.W.mg_none_of X G z_int, PySem.W.mg_none_of X G z_bool, PySem.W.mg_none_of X G z_list, PySem.W.mg_none_of X G z_tuple, PySem.W.mg_none_of X G z_set, PySem.W.mg_none_of X G z_range, PySem.W.mg_none_of X G z_enumerate, PySem.W.mg_none_of X G z_zip, ⟨_, PySem.W.mg_of X G v_MOST_QUANTITIES⟩, ⟨_, PySem.W.mg_of X G v_MOST_NUDGES⟩⟩
  refine ⟨PySem.W.fnOf "law" "law" (defArgs s_law) (defBody s_law) (defScope s_law) .none kV43 dc43 pm43 an43 cd43 ct43, fun s v => .of_eq rfl, fun base _ _ => ?_⟩
  have F0 := fun_mk (st := s_tap) l0 c0 k0
  have G0 := ok_tap (P := l.prog) (w := w) (base := base) T F0 
  have B0 := F0.binds (ps := P_tap) fun _ _ _ _ _ _ us hl => match us, hl with | [_, _], _ => rfl
  have D_tap : DefOk l.prog w K mg base CX0 1 "_law_tap" P_tap (sp_tap K) := ⟨f0, _, G0, PySem.W.mg_of X G a0, k0, B0⟩
  have F1 := fun_mk (st := s_cells) l1 c1 k1
  have G1 := ok_cells (P := l.prog) (w := w) (base := base) T F1 
  have B1 := F1.binds (ps := P_cells) fun _ _ _ _ _ _ us hl => match us, hl with | [_, _], _ => rfl
  have D_cells : DefOk l.prog w K mg base CX0 1 "_law_cells" P_cells (sp_cells K) := ⟨f1, _, G1, PySem.W.mg_of X G a1, k1, B1⟩
  have F2 := fun_mk (st := s_draw) l2 c2 k2
  have G2 := ok_draw (P := l.prog) (w := w) (base := base) T F2 
  have B2 := F2.binds (ps := P_draw) fun _ _ _ _ _ _ us hl => match us, hl with | [_, _], _ => rfl
  have D_draw : DefOk l.prog w K mg base CX0 1 "_law_draw" P_draw (sp_draw K) := ⟨f2, _, G2, PySem.W.mg_of X G a2, k2, B2⟩
  have F3 := fun_mk (st := s_order) l3 c3 k3
  have G3 := ok_order (P := l.prog) (w := w) (base := base) T F3 D_draw
  have B3 := F3.binds (ps := P_order) fun _ _ _ _ _ _ us hl => match us, hl with | [_, _], _ => rfl
  have D_order : DefOk l.prog w K mg base CX0 2 "_law_order" P_order (sp_order K) := ⟨f3, _, G3, PySem.W.mg_of X G a3, k3, B3⟩
  have F4 := fun_mk (st := s_pairs) l4 c4 k4
  have G4 := ok_pairs (P := l.prog) (w := w) (base := base) T F4 D_draw
  have B4 := F4.binds (ps := P_pairs) fun _ _ _ _ _ _ us hl => match us, hl with | [_, _, _], _ => rfl
  have D_pairs : DefOk l.prog w K mg base CX0 2 "_law_pairs" P_pairs (sp_pairs K) := ⟨f4, _, G4, PySem.W.mg_of X G a4, k4, B4⟩
  have F5 := fun_mk (st := s_nudges) l5 c5 k5
  have G5 := ok_nudges (P := l.prog) (w := w) (base := base) T F5 D_draw
  have B5 := F5.binds (ps := P_nudges) fun _ _ _ _ _ _ us hl => match us, hl with | [_, _, _], _ => rfl
  have D_nudges : DefOk l.prog w K mg base CX0 2 "_law_nudges" P_nudges (sp_nudges K) := ⟨f5, _, G5, PySem.W.mg_of X G a5, k5, B5⟩
  have F6 := fun_mk (st := s_web) l6 c6 k6
  have G6 := ok_web (P := l.prog) (w := w) (base := base) T F6 D_draw D_order D_pairs D_nudges
  have B6 := F6.binds (ps := P_web) fun _ _ _ _ _ _ us hl => match us, hl with | [_, _], _ => rfl
  have D_web : DefOk l.prog w K mg base CX0 3 "_law_web" P_web (sp_web K) := ⟨f6, _, G6, PySem.W.mg_of X G a6, k6, B6⟩
  have F7 := fun_mk (st := s_is_integer) l7 c7 k7
  have G7 := ok_is_integer (P := l.prog) (w := w) (base := base) T F7 
  have B7 := F7.binds (ps := P_is_integer) fun _ _ _ _ _ _ us hl => match us, hl with | [_], _ => rfl
  have D_is_integer : DefOk l.prog w K mg base CX0 1 "is_integer" P_is_integer (sp_is_integer K) := ⟨f7, _, G7, PySem.W.mg_of X G a7, k7, B7⟩
  have F8 := fun_mk (st := s_is_number_below) l8 c8 k8
  have G8 := ok_is_number_below (P := l.prog) (w := w) (base := base) T F8 D_is_integer
  have B8 := F8.binds (ps := P_is_number_below) fun _ _ _ _ _ _ us hl => match us, hl with | [_, _], _ => rfl
  have D_is_number_below : DefOk l.prog w K mg base CX0 2 "is_number_below" P_is_number_below (sp_is_number_below K) := ⟨f8, _, G8, PySem.W.mg_of X G a8, k8, B8⟩
  have F9 := fun_mk (st := s_is_tuple_below) l9 c9 k9
  have G9 := ok_is_tuple_below (P := l.prog) (w := w) (base := base) T F9 D_is_number_below
  have B9 := F9.binds (ps := P_is_tuple_below) fun _ _ _ _ _ _ us hl => match us, hl with | [_, _, _], _ => rfl
  have D_is_tuple_below : DefOk l.prog w K mg base CX0 3 "is_tuple_below" P_is_tuple_below (sp_is_tuple_below K) := ⟨f9, _, G9, PySem.W.mg_of X G a9, k9, B9⟩
  have F10 := fun_mk (st := s_are_ascending) l10 c10 k10
  have G10 := ok_are_ascending (P := l.prog) (w := w) (base := base) T F10 
  have B10 := F10.binds (ps := P_are_ascending) fun _ _ _ _ _ _ us hl => match us, hl with | [_], _ => rfl
  have D_are_ascending : DefOk l.prog w K mg base CX0 1 "are_ascending" P_are_ascending (sp_are_ascending K) := ⟨f10, _, G10, PySem.W.mg_of X G a10, k10, B10⟩
  have F11 := fun_mk (st := s_are_ascending_tuples) l11 c11 k11
  have G11 := ok_are_ascending_tuples (P := l.prog) (w := w) (base := base) T F11 D_is_tuple_below D_are_ascending
  have B11 := F11.binds (ps := P_are_ascending_tuples) fun _ _ _ _ _ _ us hl => match us, hl with | [_, _, _], _ => rfl
  have D_are_ascending_tuples : DefOk l.prog w K mg base CX0 4 "are_ascending_tuples" P_are_ascending_tuples (sp_are_ascending_tuples K) := ⟨f11, _, G11, PySem.W.mg_of X G a11, k11, B11⟩
  have F12 := fun_mk (st := s_are_below) l12 c12 k12
  have G12 := ok_are_below (P := l.prog) (w := w) (base := base) T F12 D_is_number_below
  have B12 := F12.binds (ps := P_are_below) fun _ _ _ _ _ _ us hl => match us, hl with | [_, _], _ => rfl
  have D_are_below : DefOk l.prog w K mg base CX0 3 "are_below" P_are_below (sp_are_below K) := ⟨f12, _, G12, PySem.W.mg_of X G a12, k12, B12⟩
  have F13 := fun_mk (st := s_are_targets) l13 c13 k13
  have G13 := ok_are_targets (P := l.prog) (w := w) (base := base) T F13 D_are_below D_are_ascending
  have B13 := F13.binds (ps := P_are_targets) fun _ _ _ _ _ _ us hl => match us, hl with | [_, _], _ => rfl
  have D_are_targets : DefOk l.prog w K mg base CX0 4 "are_targets" P_are_targets (sp_are_targets K) := ⟨f13, _, G13, PySem.W.mg_of X G a13, k13, B13⟩
  have F14 := fun_mk (st := s_are_nudges) l14 c14 k14
  have G14 := ok_are_nudges (P := l.prog) (w := w) (base := base) T F14 D_are_targets
  have B14 := F14.binds (ps := P_are_nudges) fun _ _ _ _ _ _ us hl => match us, hl with | [_, _], _ => rfl
  have D_are_nudges : DefOk l.prog w K mg base CX0 5 "are_nudges" P_are_nudges (sp_are_nudges K) := ⟨f14, _, G14, PySem.W.mg_of X G a14, k14, B14⟩
  have F15 := fun_mk (st := s_has_web_shape) l15 c15 k15
  have G15 := ok_has_web_shape (P := l.prog) (w := w) (base := base) T F15 D_is_integer D_are_ascending_tuples D_are_nudges
  have B15 := F15.binds (ps := P_has_web_shape) fun _ _ _ _ _ _ us hl => match us, hl with | [_], _ => rfl
  have D_has_web_shape : DefOk l.prog w K mg base CX0 6 "has_web_shape" P_has_web_shape (sp_has_web_shape K) := ⟨f15, _, G15, PySem.W.mg_of X G a15, k15, B15⟩
  have F16 := fun_mk (st := s_check_web) l16 c16 k16
  have G16 := ok_check_web (P := l.prog) (w := w) (base := base) T F16 D_has_web_shape
  have B16 := F16.binds (ps := P_check_web) fun _ _ _ _ _ _ us hl => match us, hl with | [_], _ => rfl
  have D_check_web : DefOk l.prog w K mg base CX0 7 "check_web" P_check_web (sp_check_web K) := ⟨f16, _, G16, PySem.W.mg_of X G a16, k16, B16⟩
  have F17 := fun_mk (st := s_copied_nudges) l17 c17 k17
  have G17 := ok_copied_nudges (P := l.prog) (w := w) (base := base) T F17 
  have B17 := F17.binds (ps := P_copied_nudges) fun _ _ _ _ _ _ us hl => match us, hl with | [_], _ => rfl
  have D_copied_nudges : DefOk l.prog w K mg base CX0 1 "copied_nudges" P_copied_nudges (sp_copied_nudges K) := ⟨f17, _, G17, PySem.W.mg_of X G a17, k17, B17⟩
  have F18 := fun_mk (st := s_turned) l18 c18 k18
  have G18 := ok_turned (P := l.prog) (w := w) (base := base) T F18 D_check_web D_copied_nudges
  have B18 := F18.binds (ps := P_turned) fun _ _ _ _ _ _ us hl => match us, hl with | [_], _ => rfl
  have D_turned : DefOk l.prog w K mg base CX0 8 "turned" P_turned (sp_turned K) := ⟨f18, _, G18, PySem.W.mg_of X G a18, k18, B18⟩
  have F19 := fun_mk (st := s_all_lines) l19 c19 k19
  have G19 := ok_all_lines (P := l.prog) (w := w) (base := base) T F19 
  have B19 := F19.binds (ps := P_all_lines) fun _ _ _ _ _ _ us hl => match us, hl with | [_], _ => rfl
  have D_all_lines : DefOk l.prog w K mg base CX0 1 "all_lines" P_all_lines (sp_all_lines K) := ⟨f19, _, G19, PySem.W.mg_of X G a19, k19, B19⟩
  have F20 := fun_mk (st := s_target_rows) l20 c20 k20
  have G20 := ok_target_rows (P := l.prog) (w := w) (base := base) T F20 D_all_lines
  have B20 := F20.binds (ps := P_target_rows) fun _ _ _ _ _ _ us hl => match us, hl with | [_], _ => rfl
  have D_target_rows : DefOk l.prog w K mg base CX0 2 "target_rows" P_target_rows (sp_target_rows K) := ⟨f20, _, G20, PySem.W.mg_of X G a20, k20, B20⟩
  have F21 := fun_mk (st := s_quantities_behind) l21 c21 k21
  have G21 := ok_quantities_behind (P := l.prog) (w := w) (base := base) T F21 
  have B21 := F21.binds (ps := P_quantities_behind) fun _ _ _ _ _ _ us hl => match us, hl with | [_, _], _ => rfl
  have D_quantities_behind : DefOk l.prog w K mg base CX0 1 "quantities_behind" P_quantities_behind (sp_quantities_behind K) := ⟨f21, _, G21, PySem.W.mg_of X G a21, k21, B21⟩
  have F22 := fun_mk (st := s_reached_quantities) l22 c22 k22
  have G22 := ok_reached_quantities (P := l.prog) (w := w) (base := base) T F22 D_target_rows D_quantities_behind
  have B22 := F22.binds (ps := P_reached_quantities) fun _ _ _ _ _ _ us hl => match us, hl with | [_], _ => rfl
  have D_reached_quantities : DefOk l.prog w K mg base CX0 3 "reached_quantities" P_reached_quantities (sp_reached_quantities K) := ⟨f22, _, G22, PySem.W.mg_of X G a22, k22, B22⟩
  have F23 := fun_mk (st := s_unreached) l23 c23 k23
  have G23 := ok_unreached (P := l.prog) (w := w) (base := base) T F23 D_check_web D_reached_quantities
  have B23 := F23.binds (ps := P_unreached) fun _ _ _ _ _ _ us hl => match us, hl with | [_], _ => rfl
  have D_unreached : DefOk l.prog w K mg base CX0 8 "unreached" P_unreached (sp_unreached K) := ⟨f23, _, G23, PySem.W.mg_of X G a23, k23, B23⟩
  have F24 := fun_mk (st := s_all_rooms) l24 c24 k24
  have G24 := ok_all_rooms (P := l.prog) (w := w) (base := base) T F24 D_target_rows D_quantities_behind
  have B24 := F24.binds (ps := P_all_rooms) fun _ _ _ _ _ _ us hl => match us, hl with | [_], _ => rfl
  have D_all_rooms : DefOk l.prog w K mg base CX0 3 "all_rooms" P_all_rooms (sp_all_rooms K) := ⟨f24, _, G24, PySem.W.mg_of X G a24, k24, B24⟩
  have F25 := fun_mk (st := s_rooms) l25 c25 k25
  have G25 := ok_rooms (P := l.prog) (w := w) (base := base) T F25 D_check_web D_all_rooms
  have B25 := F25.binds (ps := P_rooms) fun _ _ _ _ _ _ us hl => match us, hl with | [_], _ => rfl
  have D_rooms : DefOk l.prog w K mg base CX0 8 "rooms" P_rooms (sp_rooms K) := ⟨f25, _, G25, PySem.W.mg_of X G a25, k25, B25⟩
  have F26 := fun_mk (st := s_are_in_one) l26 c26 k26
  have G26 := ok_are_in_one (P := l.prog) (w := w) (base := base) T F26 
  have B26 := F26.binds (ps := P_are_in_one) fun _ _ _ _ _ _ us hl => match us, hl with | [_, _, _], _ => rfl
  have D_are_in_one : DefOk l.prog w K mg base CX0 1 "are_in_one" P_are_in_one (sp_are_in_one K) := ⟨f26, _, G26, PySem.W.mg_of X G a26, k26, B26⟩
  have F27 := fun_mk (st := s_first_rooms) l27 c27 k27
  have G27 := ok_first_rooms (P := l.prog) (w := w) (base := base) T F27 D_check_web D_all_rooms D_are_in_one
  have B27 := F27.binds (ps := P_first_rooms) fun _ _ _ _ _ _ us hl => match us, hl with | [_], _ => rfl
  have D_first_rooms : DefOk l.prog w K mg base CX0 8 "first_rooms" P_first_rooms (sp_first_rooms K) := ⟨f27, _, G27, PySem.W.mg_of X G a27, k27, B27⟩
  have F28 := fun_mk (st := s_source_rows) l28 c28 k28
  have G28 := ok_source_rows (P := l.prog) (w := w) (base := base) T F28 D_all_lines
  have B28 := F28.binds (ps := P_source_rows) fun _ _ _ _ _ _ us hl => match us, hl with | [_], _ => rfl
  have D_source_rows : DefOk l.prog w K mg base CX0 2 "source_rows" P_source_rows (sp_source_rows K) := ⟨f28, _, G28, PySem.W.mg_of X G a28, k28, B28⟩
  have F29 := fun_mk (st := s_find_source) l29 c29 k29
  have B29 := F29.binds (ps := P_find_source) fun _ _ _ _ _ _ us hl => match us, hl with | [_, _, _, _], _ => rfl
  have D_find_source : DefOk l.prog w K mg base CX0 66 "find_source" P_find_source (sp_find_source K) := ok_find_source_all (P := l.prog) (w := w) (base := base) T F29 (PySem.W.mg_of X G a29) k29 B29 65
  have F30 := fun_mk (st := s_targets_of_paired) l30 c30 k30
  have G30 := ok_targets_of_paired (P := l.prog) (w := w) (base := base) T F30 D_source_rows D_find_source
  have B30 := F30.binds (ps := P_targets_of_paired) fun _ _ _ _ _ _ us hl => match us, hl with | [_], _ => rfl
  have D_targets_of_paired : DefOk l.prog w K mg base CX0 67 "targets_of_paired" P_targets_of_paired (sp_targets_of_paired K) := ⟨f30, _, G30, PySem.W.mg_of X G a30, k30, B30⟩
  have F31 := fun_mk (st := s_pairing_size) l31 c31 k31
  have G31 := ok_pairing_size (P := l.prog) (w := w) (base := base) T F31 D_check_web D_targets_of_paired
  have B31 := F31.binds (ps := P_pairing_size) fun _ _ _ _ _ _ us hl => match us, hl with | [_], _ => rfl
  have D_pairing_size : DefOk l.prog w K mg base CX0 68 "pairing_size" P_pairing_size (sp_pairing_size K) := ⟨f31, _, G31, PySem.W.mg_of X G a31, k31, B31⟩
  have F32 := fun_mk (st := s_rooms_right) l32 c32 k32
  have G32 := ok_rooms_right (P := l.prog) (w := w) (base := base) T F32 D_turned D_unreached D_rooms D_first_rooms D_pairing_size
  have B32 := F32.binds (ps := P_rooms_right) fun _ _ _ _ _ _ us hl => match us, hl with | [_], _ => rfl
  have D_rooms_right : DefOk l.prog w K mg base CX0 69 "_law_rooms_right" P_rooms_right (sp_rooms_right K) := ⟨f32, _, G32, PySem.W.mg_of X G a32, k32, B32⟩
  have F33 := fun_mk (st := s_reached) l33 c33 k33
  have G33 := ok_reached (P := l.prog) (w := w) (base := base) T F33 D_check_web D_reached_quantities
  have B33 := F33.binds (ps := P_reached) fun _ _ _ _ _ _ us hl => match us, hl with | [_], _ => rfl
  have D_reached : DefOk l.prog w K mg base CX0 8 "reached" P_reached (sp_reached K) := ⟨f33, _, G33, PySem.W.mg_of X G a33, k33, B33⟩
  have F34 := fun_mk (st := s_check_quantity) l34 c34 k34
  have G34 := ok_check_quantity (P := l.prog) (w := w) (base := base) T F34 D_is_number_below
  have B34 := F34.binds (ps := P_check_quantity) fun _ _ _ _ _ _ us hl => match us, hl with | [_, _], _ => rfl
  have D_check_quantity : DefOk l.prog w K mg base CX0 3 "check_quantity" P_check_quantity (sp_check_quantity K) := ⟨f34, _, G34, PySem.W.mg_of X G a34, k34, B34⟩
  have F35 := fun_mk (st := s_lengths_to) l35 c35 k35
  have G35 := ok_lengths_to (P := l.prog) (w := w) (base := base) T F35 D_source_rows
  have B35 := F35.binds (ps := P_lengths_to) fun _ _ _ _ _ _ us hl => match us, hl with | [_, _], _ => rfl
  have D_lengths_to : DefOk l.prog w K mg base CX0 3 "lengths_to" P_lengths_to (sp_lengths_to K) := ⟨f35, _, G35, PySem.W.mg_of X G a35, k35, B35⟩
  have F36 := fun_mk (st := s_way_to) l36 c36 k36
  have G36 := ok_way_to (P := l.prog) (w := w) (base := base) T F36 D_check_web D_check_quantity D_target_rows D_lengths_to
  have B36 := F36.binds (ps := P_way_to) fun _ _ _ _ _ _ us hl => match us, hl with | [_, _], _ => rfl
  have D_way_to : DefOk l.prog w K mg base CX0 8 "way_to" P_way_to (sp_way_to K) := ⟨f36, _, G36, PySem.W.mg_of X G a36, k36, B36⟩
  have F37 := fun_mk (st := s_single_nudges) l37 c37 k37
  have G37 := ok_single_nudges (P := l.prog) (w := w) (base := base) T F37 D_check_web D_first_rooms D_reached_quantities D_targets_of_paired
  have B37 := F37.binds (ps := P_single_nudges) fun _ _ _ _ _ _ us hl => match us, hl with | [_], _ => rfl
  have D_single_nudges : DefOk l.prog w K mg base CX0 68 "single_nudges" P_single_nudges (sp_single_nudges K) := ⟨f37, _, G37, PySem.W.mg_of X G a37, k37, B37⟩
  have F38 := fun_mk (st := s_fewest_single) l38 c38 k38
  have G38 := ok_fewest_single (P := l.prog) (w := w) (base := base) T F38 D_single_nudges
  have B38 := F38.binds (ps := P_fewest_single) fun _ _ _ _ _ _ us hl => match us, hl with | [_], _ => rfl
  have D_fewest_single : DefOk l.prog w K mg base CX0 69 "fewest_single" P_fewest_single (sp_fewest_single K) := ⟨f38, _, G38, PySem.W.mg_of X G a38, k38, B38⟩
  have F39 := fun_mk (st := s_pushed_right) l39 c39 k39
  have G39 := ok_pushed_right (P := l.prog) (w := w) (base := base) T F39 D_reached D_unreached D_way_to D_pairing_size D_fewest_single
  have B39 := F39.binds (ps := P_pushed_right) fun _ _ _ _ _ _ us hl => match us, hl with | [_], _ => rfl
  have D_pushed_right : DefOk l.prog w K mg base CX0 70 "_law_pushed_right" P_pushed_right (sp_pushed_right K) := ⟨f39, _, G39, PySem.W.mg_of X G a39, k39, B39⟩
  have F40 := fun_mk (st := s_loose) l40 c40 k40
  have G40 := ok_loose (P := l.prog) (w := w) (base := base) T F40 D_check_web D_source_rows D_targets_of_paired
  have B40 := F40.binds (ps := P_loose) fun _ _ _ _ _ _ us hl => match us, hl with | [_], _ => rfl
  have D_loose : DefOk l.prog w K mg base CX0 68 "loose" P_loose (sp_loose K) := ⟨f40, _, G40, PySem.W.mg_of X G a40, k40, B40⟩
  have F41 := fun_mk (st := s_own_right) l41 c41 k41
  have G41 := ok_own_right (P := l.prog) (w := w) (base := base) T F41 D_rooms D_first_rooms D_pairing_size D_loose D_fewest_single D_single_nudges
  have B41 := F41.binds (ps := P_own_right) fun _ _ _ _ _ _ us hl => match us, hl with | [_], _ => rfl
  have D_own_right : DefOk l.prog w K mg base CX0 70 "_law_own_right" P_own_right (sp_own_right K) := ⟨f41, _, G41, PySem.W.mg_of X G a41, k41, B41⟩
  have F42 := fun_mk (st := s_right) l42 c42 k42
  have G42 := ok_right (P := l.prog) (w := w) (base := base) T F42 D_draw D_web D_rooms_right D_pushed_right D_own_right
  have B42 := F42.binds (ps := P_right) fun _ _ _ _ _ _ us hl => match us, hl with | [_], _ => rfl
  have D_right : DefOk l.prog w K mg base CX0 71 "_law_right" P_right (sp_right K) := ⟨f42, _, G42, PySem.W.mg_of X G a42, k42, B42⟩
  have F43 := fun_mk (st := s_law) l43 c43 k43
  have G43 := ok_law (P := l.prog) (w := w) (base := base) T F43 D_tap D_cells D_right
  exact G43
theorem walk {l : PySem.W.OpenLaw} {q : Program} {loose : List Str} {XP : (Str → Option Value) → Heap → Prop} {YP : World → Heap → Prop} {d : DefRec} {K : Params → PySem.W.Frag} (hn : l.most = some 63) (hdf : d.params.defaults = [])
    (hY : ∀ (w : World) (h : Heap), YP w h → (K w.params).In h)
    (F : ∀ (w : World) (mg : Str → Option Value) (fa : Addr) (h : Heap), (K w.params).In h → h.Ns mainGlobals mg → mg d.name = some (.ref fa) →
      ∃ fd : FuncData, (∀ (s : Shared) (u : Value), BindsTo s fd ⟨[u], []⟩ [("_law_script", u)]) ∧ ∀ base : Heap, (K w.params).In base → base.Ns mainGlobals mg → FnG l.prog w (K w.params) mg base CX0 72 fa fd ["_law_script"] (sp_law (K w.params))) :
    PySem.W.WalkO q loose XP YP l.row.toRowW d [] (fun f vs => PySem.call f vs) :=
  walkG (n := 63) (k := 72) (x := "_law_script") (CX := fun _ => CX0) (sp := fun w => sp_law (K w.params)) hn (by decide) hdf ⟨rfl, by decide, by decide⟩ hY F (fun _ H a ns hl _ hS => sp_law_start hl hS) fun _ _ _ _ _ z => z
end K65
open PySem PySem.W PyProof.Rows in
set_option maxRecDepth 100000 in
set_option maxHeartbeats 0 in
theorem PySem.Challenge.cw_nudgewebs_k65_whole_webs_turned_holds : PySem.Challenge.rw_nudgewebs_k65_whole_webs_turned.Holds := by
  w_on; o_law; k_head; (case hw => w_witness2)
  k_fill
  refine K65.walk (l := PySem.Challenge.rw_nudgewebs_k65_whole_webs_turned) rfl rfl (fun w h Y => PySem.W.kIn_of Y) ?F
  case F =>
    intro w mg fa h KX G hmg
    refine' K65.all_mk KX G hmg ?a0 ?l0 ?c0 ?k0 ?a1 ?l1 ?c1 ?k1 ?a2 ?l2 ?c2 ?k2 ?a3 ?l3 ?c3 ?k3 ?a4 ?l4 ?c4 ?k4 ?a5 ?l5 ?c5 ?k5 ?a6 ?l6 ?c6 ?k6 ?a7 ?l7 ?c7 ?k7 ?a8 ?l8 ?c8 ?k8 ?a9 ?l9 ?c9 ?k9 ?a10 ?l10 ?c10 ?k10 ?a11 ?l11 ?c11 ?k11 ?a12 ?l12 ?c12 ?k12 ?a13 ?l13 ?c13 ?k13 ?a14 ?l14 ?c14 ?k14 ?a15 ?l15 ?c15 ?k15 ?a16 ?l16 ?c16 ?k16 ?a17 ?l17 ?c17 ?k17 ?a18 ?l18 ?c18 ?k18 ?a19 ?l19 ?c19 ?k19 ?a20 ?l20 ?c20 ?k20 ?a21 ?l21 ?c21 ?k21 ?a22 ?l22 ?c22 ?k22 ?a23 ?l23 ?c23 ?k23 ?a24 ?l24 ?c24 ?k24 ?a25 ?l25 ?c25 ?k25 ?a26 ?l26 ?c26 ?k26 ?a27 ?l27 ?c27 ?k27 ?a28 ?l28 ?c28 ?k28 ?a29 ?l29 ?c29 ?k29 ?a30 ?l30 ?c30 ?k30 ?a31 ?l31 ?c31 ?k31 ?a32 ?l32 ?c32 ?k32 ?a33 ?l33 ?c33 ?k33 ?a34 ?l34 ?c34 ?k34 ?a35 ?l35 ?c35 ?k35 ?a36 ?l36 ?c36 ?k36 ?a37 ?l37 ?c37 ?k37 ?a38 ?l38 ?c38 ?k38 ?a39 ?l39 ?c39 ?k39 ?a40 ?l40 ?c40 ?k40 ?a41 ?l41 ?c41 ?k41 ?a42 ?l42 ?c42 ?k42 ?a43 ?l43 ?c43 ?k43 ?z_isinstance ?z_len ?z_all ?z_any ?z_abs ?z_max ?z_min ?z_sorted ?z_int ?z_bool ?z_list ?z_tuple ?z_set ?z_range ?z_enumerate ?z_zip ?v_MOST_QUANTITIES ?v_MOST_NUDGES
    (case a0 => k_is)
    (case l0 => k_is)
    (case c0 => k_is)
    (case k0 => k_is)
    (case a1 => k_is)
    (case l1 => k_is)
    (case c1 => k_is)
    (case k1 => k_is)
    (case a2 => k_is)
    (case l2 => k_is)
    (case c2 => k_is)
    (case k2 => k_is)
    (case a3 => k_is)
    (case l3 => k_is)
    (case c3 => k_is)
    (case k3 => k_is)
    (case a4 => k_is)
    (case l4 => k_is)
    (case c4 => k_is)
    (case k4 => k_is)
    (case a5 => k_is)
    (case l5 => k_is)
    (case c5 => k_is)
    (case k5 => k_is)
    (case a6 => k_is)
    (case l6 => k_is)
    (case c6 => k_is)
    (case k6 => k_is)
    (case a7 => k_is)
    (case l7 => k_is)
    (case c7 => k_is)
    (case k7 => k_is)
    (case a8 => k_is)
    (case l8 => k_is)
    (case c8 => k_is)
    (case k8 => k_is)
    (case a9 => k_is)
    (case l9 => k_is)
    (case c9 => k_is)
    (case k9 => k_is)
    (case a10 => k_is)
    (case l10 => k_is)
    (case c10 => k_is)
    (case k10 => k_is)
    (case a11 => k_is)
    (case l11 => k_is)
    (case c11 => k_is)
    (case k11 => k_is)
    (case a12 => k_is)
    (case l12 => k_is)
    (case c12 => k_is)
    (case k12 => k_is)
    (case a13 => k_is)
    (case l13 => k_is)
    (case c13 => k_is)
    (case k13 => k_is)
    (case a14 => k_is)
    (case l14 => k_is)
    (case c14 => k_is)
    (case k14 => k_is)
    (case a15 => k_is)
    (case l15 => k_is)
    (case c15 => k_is)
    (case k15 => k_is)
    (case a16 => k_is)
    (case l16 => k_is)
    (case c16 => k_is)
    (case k16 => k_is)
    (case a17 => k_is)
    (case l17 => k_is)
    (case c17 => k_is)
    (case k17 => k_is)
    (case a18 => k_is)
    (case l18 => k_is)
    (case c18 => k_is)
    (case k18 => k_is)
    (case a19 => k_is)
    (case l19 => k_is)
    (case c19 => k_is)
    (case k19 => k_is)
    (case a20 => k_is)
    (case l20 => k_is)
    (case c20 => k_is)
    (case k20 => k_is)
    (case a21 => k_is)
    (case l21 => k_is)
    (case c21 => k_is)
    (case k21 => k_is)
    (case a22 => k_is)
    (case l22 => k_is)
    (case c22 => k_is)
    (case k22 => k_is)
    (case a23 => k_is)
    (case l23 => k_is)
    (case c23 => k_is)
    (case k23 => k_is)
    (case a24 => k_is)
    (case l24 => k_is)
    (case c24 => k_is)
    (case k24 => k_is)
    (case a25 => k_is)
    (case l25 => k_is)
    (case c25 => k_is)
    (case k25 => k_is)
    (case a26 => k_is)
    (case l26 => k_is)
    (case c26 => k_is)
    (case k26 => k_is)
    (case a27 => k_is)
    (case l27 => k_is)
    (case c27 => k_is)
    (case k27 => k_is)
    (case a28 => k_is)
    (case l28 => k_is)
    (case c28 => k_is)
    (case k28 => k_is)
    (case a29 => k_is)
    (case l29 => k_is)
    (case c29 => k_is)
    (case k29 => k_is)
    (case a30 => k_is)
    (case l30 => k_is)
    (case c30 => k_is)
    (case k30 => k_is)
    (case a31 => k_is)
    (case l31 => k_is)
    (case c31 => k_is)
    (case k31 => k_is)
    (case a32 => k_is)
    (case l32 => k_is)
    (case c32 => k_is)
    (case k32 => k_is)
    (case a33 => k_is)
    (case l33 => k_is)
    (case c33 => k_is)
    (case k33 => k_is)
    (case a34 => k_is)
    (case l34 => k_is)
    (case c34 => k_is)
    (case k34 => k_is)
    (case a35 => k_is)
    (case l35 => k_is)
    (case c35 => k_is)
    (case k35 => k_is)
    (case a36 => k_is)
    (case l36 => k_is)
    (case c36 => k_is)
    (case k36 => k_is)
    (case a37 => k_is)
    (case l37 => k_is)
    (case c37 => k_is)
    (case k37 => k_is)
    (case a38 => k_is)
    (case l38 => k_is)
    (case c38 => k_is)
    (case k38 => k_is)
    (case a39 => k_is)
    (case l39 => k_is)
    (case c39 => k_is)
    (case k39 => k_is)
    (case a40 => k_is)
    (case l40 => k_is)
    (case c40 => k_is)
    (case k40 => k_is)
    (case a41 => k_is)
    (case l41 => k_is)
    (case c41 => k_is)
    (case k41 => k_is)
    (case a42 => k_is)
    (case l42 => k_is)
    (case c42 => k_is)
    (case k42 => k_is)
    (case a43 => k_is)
    (case l43 => k_is)
    (case c43 => k_is)
    (case k43 => k_is)
    (case z_isinstance => k_is)
    (case z_len => k_is)
    (case z_all => k_is)
    (case z_any => k_is)
    (case z_abs => k_is)
    (case z_max => k_is)
    (case z_min => k_is)
    (case z_sorted => k_is)
    (case z_int => k_is)
    (case z_bool => k_is)
    (case z_list => k_is)
    (case z_tuple => k_is)
    (case z_set => k_is)
    (case z_range => k_is)
    (case z_enumerate => k_is)
    (case z_zip => k_is)
    (case v_MOST_QUANTITIES => k_is)
    (case v_MOST_NUDGES => k_is)
